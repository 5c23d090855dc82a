import PyProof.Rows.All
import Wide.All
import OpenK.AllK
import Wide.FinOn
import Lean
import PyProof.EqAt
import PyProof.EqKinds
import PyProof.TupleCall
import PyProof.NeKinds
import PyProof.WalksEnum
import PyProof.EnumMake
import PyProof.AttrMissHeap
import KE.KDictOf
import PyProof.ListNew
import PyProof.ZipIter
import PyProof.Rows.ZipGen
import KE.KIntText
import PyProof.StrLawsTight
import KE.KRevIter
import KE.KDictList
import KE.KEqDict
import PyProof.DictCopy
import KE.KSortTup
import PySem.Challenge.RW_onceform_k31_whole_statements
set_option genSizeOf false
set_option Elab.async false
set_option linter.all false
set_option maxRecDepth 100000
set_option maxHeartbeats 4000000
namespace L2
open PySem PySem.Spec PyProof.Rows
noncomputable abbrev Key:=Sum Int Str
noncomputable def keyIs:Key→Value→Bool
 | .inl k,v=>Value.isInt k v
 | .inr x,v=>Value.isStrOf x v
noncomputable def keyH (w:World):Key→Int
 | .inl k=>hashInt k
 | .inr x=>hashStr w x
theorem keyIs_shape:∀ {k:Key}{v:Value},keyIs k v=true→(∃ i t,k=Sum.inl i∧v=Value.int i t)∨(∃ x t,k=Sum.inr x∧v=Value.str x t)
 | .inl i,v,h=>by
  obtain⟨t,e⟩:=Value.isInt_shape (k:=i) (v:=v) h;exact .inl ⟨i,t,rfl,e⟩
 | .inr x,v,h=>by
  obtain⟨t,e⟩:=Value.isStrOf_shape (x:=x) (v:=v) h;exact .inr ⟨x,t,rfl,e⟩
theorem keyIs_int (i:Int) (t:Tok):keyIs (.inl i) (.int i t)=true:=by simp[keyIs,Value.isInt]
theorem keyIs_str (x:Str) (t:Tok):keyIs (.inr x) (.str x t)=true:=by simp[keyIs,Value.isStrOf]
theorem key_ll (a b:Int):decide ((Sum.inl a:Key)=Sum.inl b)=(a == b):=by
 by_cases e:a=b
 ·subst e;simp
 ·have h:¬ (Sum.inl a:Key)=Sum.inl b:=fun q=>e (Sum.inl.inj q)
  rw[decide_eq_false h];exact (beq_eq_false_iff_ne.mpr e).symm
theorem key_rr (a b:Str):decide ((Sum.inr a:Key)=Sum.inr b)=decide (a=b):=by
 by_cases e:a=b
 ·subst e;simp
 ·have h:¬ (Sum.inr a:Key)=Sum.inr b:=fun q=>e (Sum.inr.inj q)
  rw[decide_eq_false h,decide_eq_false e]
theorem key_lr (a:Int) (b:Str):decide ((Sum.inl a:Key)=Sum.inr b)=false:=decide_eq_false (fun q=>nomatch q)
theorem key_rl (a:Str) (b:Int):decide ((Sum.inr a:Key)=Sum.inl b)=false:=decide_eq_false (fun q=>nomatch q)
noncomputable def mixKind (prog:Program) (w:World):PySem.KeyKind prog w Key where
 is:=keyIs
 hash:=keyH w
 inj:=fun v a b ha hb=>by
  rcases keyIs_shape ha with ⟨i,t,rfl,rfl⟩ | ⟨x,t,rfl,rfl⟩
  ·rcases keyIs_shape hb with ⟨j,u,rfl,e⟩ | ⟨y,u,rfl,e⟩
   ·injection e with e1 _;rw[e1]
   ·exact nomatch e
  ·rcases keyIs_shape hb with ⟨j,u,rfl,e⟩ | ⟨y,u,rfl,e⟩
   ·exact nomatch e
   ·injection e with e1 _;rw[e1]
 byValue:=fun k v h=>by
  rcases keyIs_shape h with ⟨i,t,rfl,rfl⟩ | ⟨x,t,rfl,rfl⟩ <;> rfl
 pyHash:=fun hv h=>by
  rcases keyIs_shape hv with ⟨i,t,rfl,rfl⟩ | ⟨x,t,rfl,rfl⟩
  ·exact wpAny_pyHash_int h
  ·exact wpAny_pyHash_str h
 eqBool:=fun hu hv h=>by
  rcases keyIs_shape hu with ⟨i,t,rfl,rfl⟩ | ⟨x,t,rfl,rfl⟩
  ·rcases keyIs_shape hv with ⟨j,u,rfl,rfl⟩ | ⟨y,u,rfl,rfl⟩
   ·rw[key_ll] at h;exact wpAny_eqBool_int h
   ·rw[key_lr] at h;exact SeqAt.EqAt.int_str i t y u _ _ _ _ h
  ·rcases keyIs_shape hv with ⟨j,u,rfl,rfl⟩ | ⟨y,u,rfl,rfl⟩
   ·rw[key_rl] at h;exact SeqAt.EqAt.str_int x t j u _ _ _ _ h
   ·rw[key_rr] at h;exact wpAny_eqBool_str h
 «strs» := fun k x t v h=>by
  rcases keyIs_shape h with ⟨i,u,rfl,e⟩ | ⟨y,u,rfl,e⟩
  ·exact nomatch e
  ·injection e with e1 _
   subst e1;cases v <;> rfl
theorem mixKind_int (prog:Program) (w:World) (i:Int) (t:Tok):(mixKind prog w).is (.inl i) (.int i t)=true:=keyIs_int i t
theorem mixKind_str (prog:Program) (w:World) (x:Str) (t:Tok):(mixKind prog w).is (.inr x) (.str x t)=true:=keyIs_str x t
end L2
namespace L2
open PySem PySem.Spec PyProof.Rows
inductive V where
 | non | bl (b:Bool) | int (i:Int) | str (x:Str) | byt (b:Array UInt8) | flt (b:UInt64) | ref (a:Addr) | ty (n:String)
 deriving DecidableEq
noncomputable def RelV:V→Value→Prop
 | .non,u=>u=Value.none
 | .bl b,u=>u=Value.bool b
 | .int i,u=>∃ t,u=Value.int i t
 | .str x,u=>∃ t,u=Value.str x t
 | .byt b,u=>∃ t,u=Value.bytes b t
 | .flt b,u=>∃ t,u=Value.float b t
 | .ref a,u=>u=Value.ref a
 | .ty n,u=>u=Value.type n
noncomputable abbrev Vals:List V→List Value→Prop:=Paired RelV
theorem Vals.length {xs:List V}{us:List Value} (r:Vals xs us):xs.length=us.length:=Paired.length r
theorem Vals.get:∀ {xs:List V}{us:List Value}{i:Nat}{x:V},Vals xs us→xs[i]? = some x→∃ u,us[i]? = some u∧RelV x u
 | _,_,_,_,.nil,e=>by simp at e
 | _,_,0,_,.cons r _,e=>by simp at e;subst e;exact⟨_,rfl,r⟩
 | _,_,i+1,x,.cons _ t,e=>by
  obtain⟨u,h1,h2⟩:=Vals.get (i:=i) (x:=x) t (by simpa using e);exact⟨u,by simpa using h1,h2⟩
theorem Vals.append:∀ {xs ys:List V}{us ws:List Value},Vals xs us→Vals ys ws→Vals (xs++ys) (us++ws)
 | _,_,_,_,.nil,s=>s
 | _,_,_,_,.cons r t,s=>.cons r (Vals.append t s)
theorem Vals.take:∀ {xs:List V}{us:List Value} (n:Nat),Vals xs us→Vals (xs.take n) (us.take n)
 | _,_,0,_=>.nil
 | _,_,_+1,.nil=>.nil
 | _,_,n+1,.cons r t=>.cons r (Vals.take n t)
theorem Vals.drop:∀ {xs:List V}{us:List Value} (n:Nat),Vals xs us→Vals (xs.drop n) (us.drop n)
 | _,_,0,r=>r
 | _,_,_+1,.nil=>.nil
 | _,_,n+1,.cons _ t=>Vals.drop n t
noncomputable def RelO:Option V→Option Value→Prop
 | some v,some u=>RelV v u
 | none,none=>True
 | _,_=>False
noncomputable def KV {κ : Type}:List (κ × V)→List (κ × Value)→Prop:=Paired fun (p : κ × V) (q : κ × Value)=>p.1=q.1∧RelV p.2 q.2
noncomputable def kV:Key→V
 | .inl i=>.int i
 | .inr x=>.str x
inductive HO where
  | lst (xs:List V)
  | tup (xs:List V)
  | dK (kvs:List (Key × V)) | dT (kvs:List (List Key × V))
  | set (S:Int→Bool) (n:Nat)
  | ins (C dx:Addr) (fs:List (Str × V))
  | own (x:Addr)
  | xd (fs:List (Str × V))
  | met (f x:Addr)
  | rng (lo hi:Int)
  | frz (o:Obj) (u:HO)
  | tbl (ps:Array Value)
  | ext (φ : Heap→Prop)
noncomputable abbrev Hp:=Addr→Option HO
noncomputable def upd (H:Hp) (a:Addr) (o:HO):Hp:=fun b=>if b=a then some o else H b
theorem upd_same {H:Hp}{a:Addr}{o:HO}:upd H a o a=some o:=by unfold upd;rw[if_pos rfl]
theorem upd_ne {H:Hp}{a b:Addr}{o:HO} (h:b≠a):upd H a o b=H b:=by unfold upd;rw[if_neg h]
theorem upd_upd {H:Hp}{a:Addr}{o u:HO}:upd (upd H a o) a u=upd H a u:=by
 funext b;unfold upd;split <;> rfl
theorem ne_of {H:Hp}{a b:Addr}{o u:HO} (h:H a=some o) (h':H b=some u) (d:o≠u):a≠b:=by
 intro e;subst e;rw[h] at h';exact d (Option.some.inj h')
theorem ne_of_none {H:Hp}{a b:Addr}{o:HO} (h:H a=some o) (h':H b=none):a≠b:=by
 intro e;subst e;rw[h] at h';cases h'
section
variable (P:Program) (w:World)
noncomputable def ObjOk (H:Hp) (h:Heap) (a:Addr):HO→Prop
 | .lst xs=>xs.length≤sizeLine∧∃ (its:List Value) (n:Nat),Vals xs its∧h.get? a=some { cls := .type "list",data := .seq its.toArray n }
 | .tup xs=>xs.length≤sizeLine∧∃ its:List Value,Vals xs its∧IsTup h a its.toArray
 | .dK kvs=>kvs.length≤sizeLine∧(a == sysModules)=false∧∃ vs,KV kvs vs∧h.DictOf (mixKind P w) a vs
 | .dT kvs=>kvs.length≤sizeLine∧(a == sysModules)=false∧∃ xs:List (List Key × Addr × Value),
   Paired (fun (p:List Key × V) (q:List Key × Addr × Value)=>p.1=q.1∧H q.2.1=some (.tup (p.1.map kV))∧RelV p.2 q.2.2) kvs xs ∧
   ∃ o es ep,h.get? a=some o∧o.ExactDict∧o.data = .dict es ep∧es.toList=xs.map (entryOfKey (tupleKind (mixKind P w)))∧(xs.map (·.1)).Nodup
 | .set S n=>h.SetOf (intKind P w) a S n
 | .ins C dx fs=>H dx=some (.own a)∧fs.length≤1000∧dx≠a∧h.get? a=some (PySem.W.instObj C dx) ∧
   ∃ mA,h.Ns1 dx mA∧(∀ f,RelO (fs.lookup f) (mA f))∧PySem.Within mA (fs.map (·.1))
 | .own _=>∃ o,h.get? a=some o
 | .xd fs=>∃ mA,h.Ns1 a mA∧∀ f,RelO (fs.lookup f) (mA f)
 | .rng lo hi=>∃ t u v,h.get? a=some { cls := .type "range",data := .fields #[.int lo t,.int hi u,.int 1 v] }
 | .frz o u=>h.get? a=some o∧ObjOk H h a u
 | .tbl ps=>h.get? a=some { cls := .none,data := .fields ps }
 | .met f x=>h.get? a=some (PySem.W.methodObj (.ref f) (.ref x))
 | .ext φ => φ h∧(∃ o,h.get? a=some o)∧∀ h1 h2:Heap,φ h1→(∀ o,h1.get? a=some o→h2.get? a=some o) → φ h2
noncomputable def HOk (H:Hp) (h:Heap):Prop:=∀ a o,H a=some o→ObjOk P w H h a o
end
section
variable {P:Program}{w:World}{H H':Hp}{h h':Heap}{a:Addr}{o:HO}
theorem ObjOk.lt (x:ObjOk P w H h a o):a<h.objs.size:=by
 cases o with
 | lst xs=>obtain⟨_,_,_,_,e⟩:=x;exact Heap.lt_size e
 | tup xs=>obtain⟨_,_,_,p⟩:=x;exact p.lt
 | dK kvs=>obtain⟨_,_,_,_,o,_,_,e,_⟩:=x;exact Heap.lt_size e
 | dT kvs=>obtain⟨_,_,_,_,o,_,_,e,_⟩:=x;exact Heap.lt_size e
 | set S n=>obtain⟨o,_,_,_,e,_⟩:=x;exact Heap.lt_size e
 | ins C dx fs=>obtain⟨_,_,_,e,_⟩:=x;exact Heap.lt_size e
 | own y=>obtain⟨_,e⟩:=x;exact Heap.lt_size e
 | xd fs=>obtain⟨_,⟨_,_,_,e,_⟩,_⟩:=x;exact Heap.lt_size e
 | rng lo hi=>obtain⟨_,_,_,e⟩:=x;exact Heap.lt_size e
 | frz ob u=>obtain⟨e,_⟩:=x;exact Heap.lt_size e
 | tbl ps=>exact Heap.lt_size (show h.get? a=some _ from x)
 | met f y=>exact Heap.lt_size (show h.get? a=some _ from x)
 | ext φ => obtain⟨_,⟨_,e⟩,_⟩:=x;exact Heap.lt_size e
theorem Paired.mapP {α β : Type}{F G : α → β → Prop}:∀ {l₁:List α}{l₂:List β},Paired F l₁ l₂→(∀ a b,F a b→G a b)→Paired G l₁ l₂
 | _,_,.nil,_=>.nil
 | _,_,.cons r t,f=>.cons (f _ _ r) (Paired.mapP t f)
theorem ObjOk.stay (x:ObjOk P w H h a o) (k:∀ b u,(b=a∨H b=some (.own a))→h.get? b=some u→h'.get? b=some u)
  (ho:∀ b,H b=some (.own a)→H' b=some (.own a)) (ht:∀ b xs,H b=some (.tup xs)→H' b=some (.tup xs)):ObjOk P w H' h' a o:=by
 induction o with
 | lst xs=>obtain⟨z,its,n,r,e⟩:=x;exact⟨z,its,n,r,k _ _ (.inl rfl) e⟩
 | tup xs=>obtain⟨z,its,r,ob,e,c⟩:=x;exact⟨z,its,r,ob,k _ _ (.inl rfl) e,c⟩
 | dK kvs=>obtain⟨z,y,vs,r,ob,es,ep,e,c⟩:=x;exact⟨z,y,vs,r,ob,es,ep,k _ _ (.inl rfl) e,c⟩
 | dT kvs =>
  obtain⟨z,y,xs,r,ob,es,ep,e,c⟩:=x;exact⟨z,y,xs,Paired.mapP r fun p q z=>⟨z.1,ht _ _ z.2.1,z.2.2⟩,ob,es,ep,k _ _ (.inl rfl) e,c⟩
 | set S n=>obtain⟨ob,es,ep,t,e,c⟩:=x;exact⟨ob,es,ep,t,k _ _ (.inl rfl) e,c⟩
 | ins C dx fs =>
  obtain⟨d,z,ne,e,mA,⟨od,es,ep,e2,c⟩,r⟩:=x;exact⟨ho _ d,z,ne,k _ _ (.inl rfl) e,mA,⟨od,es,ep,k _ _ (.inr d) e2,c⟩,r⟩
 | own y=>obtain⟨ob,e⟩:=x;exact⟨ob,k _ _ (.inl rfl) e⟩
 | xd fs=>obtain⟨mA,⟨od,es,ep,e,c⟩,r⟩:=x;exact⟨mA,⟨od,es,ep,k _ _ (.inl rfl) e,c⟩,r⟩
 | rng lo hi=>obtain⟨t,u,v,e⟩:=x;exact⟨t,u,v,k _ _ (.inl rfl) e⟩
 | frz ob u ih=>obtain⟨e,q⟩:=x;exact⟨k _ _ (.inl rfl) e,ih q⟩
 | tbl ps =>
  have e:h.get? a=some { cls := .none,data := .fields ps }:=x;show h'.get? a=some { cls := .none,data := .fields ps };exact k a _ (.inl rfl) e
 | met f y =>
  have e:h.get? a=some (PySem.W.methodObj (.ref f) (.ref y)):=x;show h'.get? a=some (PySem.W.methodObj (.ref f) (.ref y));exact k a _ (.inl rfl) e
 | ext φ => obtain⟨p,⟨o,e⟩,st⟩:=x;exact⟨st _ _ p fun o q=>k _ _ (.inl rfl) q,⟨o,k _ _ (.inl rfl) e⟩,st⟩
theorem HOk.lt (x:HOk P w H h) (e:H a=some o):a<h.objs.size:=(x a o e).lt
theorem HOk.fresh (x:HOk P w H h) (e:h.objs.size≤a):H a=none:=by
 cases q:H a with
 | none=>rfl
 | some u=>exact absurd (Nat.lt_of_lt_of_le (x.lt q) e) (Nat.lt_irrefl _)
theorem HOk.kept (x:HOk P w H h) (k:∀ b u,h.get? b=some u→h'.get? b=some u):HOk P w H h':=fun a o e =>
 (x a o e).stay (fun b u _ q=>k b u q) (fun _ q=>q) fun _ _ q=>q
theorem HOk.laid (x:HOk P w H h) (k:∀ b u,h.get? b=some u→h'.get? b=some u) (hp:h.objs.size≤a) (new:ObjOk P w (upd H a o) h' a o):HOk P w (upd H a o) h':=fun b u e=>by
 have hn:=x.fresh hp;by_cases hb:b=a
 ·subst hb;rw[upd_same] at e;cases e;exact new
 ·rw[upd_ne hb] at e;exact (x b u e).stay (fun c v _ q=>k c v q) (fun c q=>by rw[upd_ne (ne_of_none q hn)];exact q) fun c xs q=>by rw[upd_ne (ne_of_none q hn)];exact q
end
noncomputable def Rd (H:Hp) (a:Addr) (u:HO):Prop:=H a=some u∨∃ o,H a=some (.frz o u)
theorem Rd.ok {P:Program}{w:World}{H:Hp}{h:Heap}{a:Addr}{u:HO} (r:Rd H a u) (x:HOk P w H h):ObjOk P w H h a u:=by
 rcases r with r | ⟨o,r⟩
 ·exact x a u r
 ·obtain⟨_,q⟩:=x a _ r;exact q
noncomputable def Mut:Option HO→Prop
 | some (.lst _)=>True
 | some (.dK _)=>True
 | some (.dT _)=>True
 | some (.set _ _)=>True
 | some (.ins _ _ _)=>True
 | some (.ext _)=>True
 | _=>False
section
variable {P:Program}{w:World}{H:Hp}{h h':Heap}{x e:Addr}{o':HO}
theorem HOk.write (ok:HOk P w H h) (mu:Mut (H x)) (he:e=x∨H e=some (.own x)) (k:∀ b u,b≠e→h.get? b=some u→h'.get? b=some u) (heo:∃ u,h'.get? e=some u)
  (new:ObjOk P w (upd H x o') h' x o'):HOk P w (upd H x o') h':=fun b u q=>by
 have nown:∀ c y,H c=some (.own y)→c≠x:=fun c y r z=>by subst z;rw[r] at mu;exact mu
 have ntup:∀ c xs,H c=some (.tup xs)→c≠x:=fun c xs r z=>by subst z;rw[r] at mu;exact mu
 by_cases hb:b=x
 ·subst hb;rw[upd_same] at q;cases q;exact new
 ·rw[upd_ne hb] at q;by_cases hbe:b=e
  ·have q':H b=some (.own x):=by
    rcases he with z | z
    ·exact absurd (hbe.trans z) hb
    ·rw[hbe];exact z
   rw[q] at q';cases q';obtain⟨v,hv⟩:=heo;exact⟨v,by rw[hbe];exact hv⟩
  ·refine (ok b u q).stay (fun c v hc r=>k c v ?_ r) (fun c r=>by rw[upd_ne (nown c b r)];exact r) fun c xs r=>by rw[upd_ne (ntup c xs r)];exact r
   rcases hc with rfl | hc
   ·exact hbe
   ·rintro rfl;rcases he with z | z
    ·exact nown c b hc z
    ·rw[hc] at z;cases z;exact hb rfl
end
structure Un (fs ex:List Addr) (H H':Hp) (h h':Heap):Prop where
 keep:∀ b o,h.get? b=some o→H b=none→b ∉ fs→b ∉ ex→h'.get? b=some o
 slot:∀ b o,h.get? b=some o→H b=none→b∈fs→b ∉ ex→∃ sl,h'.get? b=some { o with slots:=sl }
 free:∀ b o,h.get? b=some o→H b=none→b ∉ ex→H' b=none
 there:∀ b o,h.get? b=some o→b ∉ ex→∃ o',h'.get? b=some o'
 tups:∀ b xs,H b=some (.tup xs)→H' b=some (.tup xs)
 frzs:∀ b o u,H b=some (.frz o u)→H' b=some (.frz o u)
 tbls:∀ b ps,H b=some (.tbl ps)→∃ more,H' b=some (.tbl (ps++more))
section
variable {fs fs' ex ex':List Addr}{H H1 H2:Hp}{h h1 h2 h':Heap}{a x e:Addr}{o:HO}
theorem Un.any (u:Un fs ex H H1 h h1) {b:Addr}{ob:Obj} (q:h.get? b=some ob) (n:H b=none) (hx:b ∉ ex):∃ sl,h1.get? b=some { ob with slots:=sl }:=by
 by_cases hb:b∈fs
 ·exact u.slot b ob q n hb hx
 ·exact⟨ob.slots,u.keep b ob q n hb hx⟩
theorem Un.kept (k:∀ b u,h.get? b=some u→h'.get? b=some u):Un fs ex H H h h' :=
 ⟨fun b ob q _ _ _=>k b ob q,fun b ob q _ _ _=>⟨ob.slots,k b ob q⟩,fun _ _ _ n _=>n,fun b ob q _=>⟨ob,k b ob q⟩,fun _ _ q=>q,fun _ _ _ q=>q,fun _ ps q=>⟨#[],by rw[q];simp⟩⟩
theorem Un.refl:Un fs ex H H h h:=Un.kept fun _ _ q=>q
theorem Un.laid (k:∀ b u,h.get? b=some u→h'.get? b=some u) (hp:h.objs.size≤a) (hn:H a=none):Un fs ex H (upd H a o) h h' where
 keep:=fun b u q _ _ _=>k b u q
 slot:=fun b u q _ _ _=>⟨u.slots,k b u q⟩
 free:=fun b u q n _=>by rw[upd_ne (Nat.ne_of_lt (Nat.lt_of_lt_of_le (Heap.lt_size q) hp))];exact n
 there:=fun b u q _=>⟨u,k b u q⟩
 tups:=fun b xs q=>by rw[upd_ne (ne_of_none q hn)];exact q
 frzs:=fun b u xs q=>by rw[upd_ne (ne_of_none q hn)];exact q
 tbls:=fun b ps q=>⟨#[],by rw[upd_ne (ne_of_none q hn),q];simp⟩
theorem Un.write (mu:Mut (H x)) (he:e=x∨H e=some (.own x)) (k:∀ b u,b≠e→h.get? b=some u→h'.get? b=some u) (heo:∃ u,h'.get? e=some u):Un fs ex H (upd H x o) h h':=by
 have hx:∀ b,H b=none→b≠x:=fun b n z=>by subst z;rw[n] at mu;exact mu
 have hb:∀ b,H b=none→b≠e:=fun b n z=>by
  subst z;rcases he with r | r
  ·exact hx b n r
  ·rw[n] at r;cases r
 have hm:∀ b u,H b=some u→¬ Mut (some u)→b≠x:=fun b u q nm z=>by subst z;rw[q] at mu;exact nm mu
 refine⟨fun b u q n _ _=>k b u (hb b n) q,fun b u q n _ _=>⟨u.slots,k b u (hb b n) q⟩,fun b u q n _=>by rw[upd_ne (hx b n)];exact n,fun b u q _=>?_,
  fun b xs q=>by rw[upd_ne (hm b _ q fun z=>z)];exact q,fun b u xs q=>by rw[upd_ne (hm b _ q fun z=>z)];exact q,fun b ps q=>⟨#[],by rw[upd_ne (hm b _ q fun z=>z),q];simp⟩⟩
 by_cases hbe:b=e
 ·subst hbe;exact heo
 ·exact⟨u,k b u hbe q⟩
end
noncomputable def trk (h:Heap) (H:Hp):List Addr:=(List.range h.objs.size).filter fun a=>(H a).isSome
noncomputable def hidT (h:Heap) (H:Hp):Heap:=PySem.W.hideAll h (trk h H)
theorem hidT_size (h:Heap) (H:Hp):(hidT h H).objs.size=h.objs.size:=PySem.W.hideAll_size _ _
theorem hidT_get {h:Heap}{H:Hp}{b:Addr}{o:Obj} (e:h.get? b=some o) (n:H b=none):(hidT h H).get? b=some o :=
 PySem.W.hideAll_get _ e fun hm=>by
  have q:(H b).isSome=true:=(List.mem_filter.mp hm).2;rw[n] at q;simp at q
theorem of_hidT {h:Heap}{H:Hp}{b:Addr}{o:Obj} (e:(hidT h H).get? b=some o):h.get? b=some o∧H b=none:=by
 have e':h.get? b=some o:=PySem.W.of_hideAll (trk h H) e;refine⟨e',?_⟩;cases q:H b with
 | none=>rfl
 | some x =>
  have hm:b∈trk h H:=List.mem_filter.mpr ⟨List.mem_range.mpr (Heap.lt_size e'),by simp[q]⟩;have z:(hidT h H).get? b=none:=PySem.W.hideAll_none (trk h H) hm;rw[z] at e;cases e
end L2
namespace L2
open PySem PySem.Spec PyProof.Rows
structure Mod (K:PySem.W.Frag) (mg:Str→Option Value) (base:Heap):Prop where
 kin:K.In base
 glob:base.Ns mainGlobals mg
 blt:∃ mb,base.Ns builtinsNs mb∧∀ x:Str,x ≠ "__name__" → mb x=bootBuiltins x
 nolimit:base.NoLimit
structure Cx where
 prog:Program
 w:World
 K:PySem.W.Frag
 mg:Str→Option Value
 base:Heap
 A:Around
 N:List Str
 s₀:Shared
 H₀:Hp
 env:Env
 outer:List Env
 stack:List Env
 ex:List Addr
 fn:Str→Bool
 calm:Bool
 pn:List (Addr × Obj)
 xe:Value→Shared→Prop
noncomputable def frs (l:List Env):List Addr:=l.filterMap (·.frame)
noncomputable abbrev Cx.fs (X:Cx):List Addr:=frs X.outer
noncomputable def Vis (sc:Scope) (x:Str):Prop:=sc.names.lookup x=some .local∨sc.names.lookup x=some .cell∨sc.names.lookup x=some .free
noncomputable def Loc (sc:Scope) (x:Str):Prop:=sc.names.lookup x=some .local∨sc.names.lookup x=some .cell
noncomputable def Look (env:Env) (h:Heap) (m:Str→Option Value) (x:Str) (u:Value):Prop :=
 (env.kindOf x=some .local∧m x=some u)∨((env.kindOf x=some .cell∨env.kindOf x=some .free)∧∃ c,env.cells.lookup x=some c∧h.IsCell c (some u))
structure Cx.Ok (X:Cx):Prop where
 mod:Mod X.K X.mg X.base
 kind:X.env.scope.kind = .function
 glob:X.env.globals=mainGlobals
 blt:X.env.builtins=builtinsNs
 above:X.s₀.heap.objs.size≤X.env.locals
 inj:∀ x y c,X.env.cells.lookup x=some c→X.env.cells.lookup y=some c→x=y
 has:∀ x,(X.env.kindOf x=some .cell∨X.env.kindOf x=some .free)→∃ c,X.env.cells.lookup x=some c
 cab:∀ x c,X.fn x=true→X.env.cells.lookup x=some c→X.s₀.heap.objs.size≤c
 hd:X.calm=true→X.A.handled=none
 frames:X.A.frames=some X.stack
 stk:X.stack=X.outer∨(X.stack=X.env :: X.outer∧X.env.frame=some X.env.locals)
 exf:∀ b∈X.ex,b≠X.env.locals∧∀ x c,X.env.cells.lookup x=some c→c≠b
 bs:∀ b o,X.base.get? b=some o→X.s₀.heap.get? b=some o∧X.H₀ b=none
 bsz:X.base.objs.size≤X.s₀.heap.objs.size
 noex:∀ b o,X.base.get? b=some o→b ∉ X.ex
 exfs:∀ b∈X.ex,b ∉ X.fs
 funs:X.s₀.heap.FunFrames X.base X.outer
 frf:∀ b∈X.fs,X.H₀ b=none
structure Inv (X:Cx) (pins:List (Addr × Obj)) (σ:List (Option V)) (H:Hp) (s:Shared):Prop where
 ok:X.Ok
 os:s.os=X.s₀.os
 bare:AllBare s.gens
 base:Un X.fs X.ex X.H₀ H X.s₀.heap s.heap
 loc:∃ m,s.heap.Ns X.env.locals m∧∀ (i:Nat) (x:Str) (v:V),X.N[i]? = some x → σ[i]? = some (some v)→Vis X.env.scope x→∃ u,RelV v u∧Look X.env s.heap m x u
 cell:∀ x c,X.env.cells.lookup x=some c→∃ v,s.heap.IsCell c v
 free:H X.env.locals=none
 freeC:∀ x c,X.env.cells.lookup x=some c→H c=none
 pin:∀ p∈X.pn++pins,s.heap.get? p.1=some p.2∧H p.1=none∧p.1≠X.env.locals∧p.1 ∉ X.fs∧∀ v,p.2.data ≠ .cell v
 hok:HOk X.prog X.w H s.heap
 len : σ.length=X.N.length
section
variable {X:Cx}{pins:List (Addr × Obj)} {σ:List (Option V)}{H H':Hp}{s:Shared}{h':Heap}
theorem Cx.Ok.nofr (ok:X.Ok) {b:Addr}{o:Obj} (e:X.base.get? b=some o):b ∉ X.fs:=fun hb=>by
 have:=(ok.funs.mem hb).1
 rw[e] at this;cases this
theorem Inv.bs (I:Inv X pins σ H s):∀ b o,X.base.get? b=some o→s.heap.get? b=some o∧H b=none:=fun b o e =>
 ⟨I.base.keep b o (I.ok.bs b o e).1 (I.ok.bs b o e).2 (I.ok.nofr e) (I.ok.noex b o e),I.base.free b o (I.ok.bs b o e).1 (I.ok.bs b o e).2 (I.ok.noex b o e)⟩
theorem Inv.bk (I:Inv X pins σ H s):∀ b o,X.base.get? b=some o→s.heap.get? b=some o:=fun b o e=>(I.bs b o e).1
theorem Inv.mod (I:Inv X pins σ H s):Mod X.K X.mg X.base:=I.ok.mod
theorem Inv.kIn (I:Inv X pins σ H s):X.K.In s.heap:=I.ok.mod.kin.keeps I.bk
theorem Inv.lt (I:Inv X pins σ H s):X.env.locals<s.heap.objs.size:=let ⟨_,hn,_⟩:=I.loc;hn.lt
theorem Inv.sz (I:Inv X pins σ H s):X.s₀.heap.objs.size≤s.heap.objs.size:=Nat.le_trans I.ok.above (Nat.le_of_lt I.lt)
theorem Inv.nofs (I:Inv X pins σ H s) {a:Addr} (h:s.heap.objs.size≤a):a ∉ X.fs:=fun hb=>by
 obtain⟨_,o,ho,_⟩:=I.ok.funs.mem hb;exact absurd (Nat.lt_of_lt_of_le (Heap.lt_size ho) (Nat.le_trans I.sz h)) (Nat.lt_irrefl _)
theorem Inv.cne (I:Inv X pins σ H s):∀ x c,X.env.cells.lookup x=some c→c≠X.env.locals:=fun x c e z=>by
 obtain⟨v,o,ho,hd⟩:=I.cell x c e;obtain⟨m,⟨o',es,ep,ho',hd',_⟩,_⟩:=I.loc;rw[z,ho'] at ho;cases ho;rw[hd'] at hd;cases hd
theorem Inv.funs (I:Inv X pins σ H s):s.heap.FunFrames X.base X.outer:=by
 have all:∀ (l:List Env),(∀ b∈frs l,b∈X.fs)→X.s₀.heap.FunFrames X.base l→s.heap.FunFrames X.base l:=by
  intro l;induction l with
  | nil=>intro _ _;trivial
  | cons env r ih =>
   intro hs hl;obtain⟨hk,⟨L,o,hf,hn,ho,hd⟩,hr⟩:=hl;have hL:L∈X.fs:=hs L (by unfold frs;rw[List.filterMap_cons,hf];exact List.mem_cons_self);obtain⟨sl,e⟩:=I.base.slot L o ho (I.ok.frf L hL) hL fun z=>I.ok.exfs L z hL
   exact⟨hk,⟨L,_,hf,hn,e,hd⟩,ih (fun b hb=>hs b (by unfold frs;rw[List.filterMap_cons,hf];exact List.mem_cons_of_mem _ hb)) hr⟩
 exact all X.outer (fun _ hb=>hb) I.ok.funs
theorem Inv.stack (I:Inv X pins σ H s):s.heap.FunFrames X.base X.stack:=by
 rcases I.ok.stk with e | ⟨e,hf⟩
 ·rw[e];exact I.funs
 ·rw[e];obtain⟨m,hn,_⟩:=I.loc;refine .cons (by rw[I.ok.kind];decide) hf hn ?_ I.funs;exact Heap.get?_none_of_le (Nat.le_trans I.ok.bsz I.ok.above)
theorem Inv.stkSub (I:Inv X pins σ H s):∀ b∈frs X.stack,b∈X.env.locals :: X.fs:=fun b hb=>by
 rcases I.ok.stk with e | ⟨e,hf⟩
 ·rw[e] at hb;exact List.mem_cons_of_mem _ hb
 ·rw[e] at hb;unfold frs at hb;rw[List.filterMap_cons,hf] at hb;exact hb
theorem Inv.stkFree (I:Inv X pins σ H s):∀ b∈frs X.stack,H b=none:=fun b hb=>by
 rcases List.mem_cons.mp (I.stkSub b hb) with e | hb
 ·rw[e];exact I.free
 ·obtain⟨_,o,ho,_⟩:=I.ok.funs.mem hb;exact I.base.free b o ho (I.ok.frf b hb) fun z=>I.ok.exfs b z hb
theorem Inv.step {g':Array GenState}{t':Nat}{d':Drawn}{ch:List Addr} (I:Inv X pins σ H s)
  (hch:∀ b∈ch,(b∈X.ex∨X.s₀.heap.objs.size≤b)∧b≠X.env.locals∧(∀ x c,X.env.cells.lookup x=some c→c≠b)∧∀ p∈X.pn++pins,p.1≠b)
  (keep:∀ b o,b≠X.env.locals→b ∉ X.fs→b ∉ ch→s.heap.get? b=some o→H b=none→h'.get? b=some o)
  (slot:∀ b o,b≠X.env.locals→b∈X.fs→b ∉ ch→s.heap.get? b=some o→H b=none→∃ sl,h'.get? b=some { o with slots:=sl }) (free:∀ b o,b ∉ ch→s.heap.get? b=some o→H b=none→H' b=none)
  (there:∀ b o,b ∉ ch→s.heap.get? b=some o→∃ o',h'.get? b=some o')
  (tups:∀ b xs,H b=some (.tup xs)→H' b=some (.tup xs)) (frzs:∀ b o u,H b=some (.frz o u)→H' b=some (.frz o u)) (tbls:∀ b ps,H b=some (.tbl ps)→∃ more,H' b=some (.tbl (ps++more)))
  (ns:∀ m,s.heap.Ns X.env.locals m→h'.Ns X.env.locals m) (hok:HOk X.prog X.w H' h') (hg:AllBare g') :
  Inv X pins σ H' { s with heap:=h',gens:=g',drawn:=d',toks:=t' }:=by
 have neL:∀ b o,X.s₀.heap.get? b=some o→b≠X.env.locals:=fun b o e=>Nat.ne_of_lt (Nat.lt_of_lt_of_le (Heap.lt_size e) I.ok.above)
 have neC:∀ b o,X.s₀.heap.get? b=some o→b ∉ X.ex→b ∉ ch:=fun b o e hx hb=>by
  rcases (hch b hb).1 with z | z
  ·exact hx z
  ·exact absurd (Nat.lt_of_lt_of_le (Heap.lt_size e) z) (Nat.lt_irrefl _)
 have cellK:∀ x c,X.env.cells.lookup x=some c→∀ v,s.heap.IsCell c v→h'.IsCell c v:=fun x c e v ⟨o,ho,hd⟩=>by
  have nch:c ∉ ch:=fun z=>(hch c z).2.2.1 x c e rfl
  by_cases hc:c∈X.fs
  ·obtain⟨sl,q⟩:=slot c o (I.cne x c e) hc nch ho (I.freeC x c e);exact⟨_,q,hd⟩
  ·exact⟨o,keep c o (I.cne x c e) hc nch ho (I.freeC x c e),hd⟩
 refine⟨I.ok,I.os,hg,⟨fun b o e n hb hx=>?_,fun b o e n hb hx=>?_,fun b o e n hx=>?_,fun b o e hx=>?_,fun b xs e=>tups b xs (I.base.tups b xs e),fun b o xs e=>frzs b o xs (I.base.frzs b o xs e),fun b ps e=>?_⟩,?_,fun x c e=>?_,?_,fun x c e=>?_,fun p hp=>?_,hok,I.len⟩
 ·exact keep b o (neL b o e) hb (neC b o e hx) (I.base.keep b o e n hb hx) (I.base.free b o e n hx)
 ·obtain⟨sl,e1⟩:=I.base.slot b o e n hb hx;obtain⟨sl',e2⟩:=slot b _ (neL b o e) hb (neC b o e hx) e1 (I.base.free b o e n hx);exact⟨sl',e2⟩
 ·obtain⟨o',e1⟩:=I.base.there b o e hx;exact free b o' (neC b o e hx) e1 (I.base.free b o e n hx)
 ·obtain⟨o',e1⟩:=I.base.there b o e hx;exact there b o' (neC b o e hx) e1
 ·obtain⟨m1,e1⟩:=I.base.tbls b ps e;obtain⟨m2,e2⟩:=tbls b _ e1;exact⟨m1++m2,by rw[e2,Array.append_assoc]⟩
 ·obtain⟨m,hn,hl⟩:=I.loc;refine⟨m,ns m hn,fun i x v e1 e2 e3=>?_⟩;obtain⟨u,r,l⟩:=hl i x v e1 e2 e3;refine⟨u,r,?_⟩;rcases l with l | ⟨k,c,e,z⟩
  ·exact .inl l
  ·exact .inr ⟨k,c,e,cellK x c e _ z⟩
 ·obtain⟨v,z⟩:=I.cell x c e;exact⟨v,cellK x c e v z⟩
 ·obtain⟨m,⟨o,_,_,ho,_⟩,_⟩:=I.loc;exact free _ o (fun z=>(hch _ z).2.1 rfl) ho I.free
 ·obtain⟨v,o,ho,hd⟩:=I.cell x c e;exact free c o (fun z=>(hch c z).2.2.1 x c e rfl) ho (I.freeC x c e)
 ·obtain⟨e,n,ne,nf,d⟩:=I.pin p hp;have nch:p.1 ∉ ch:=fun z=>(hch p.1 z).2.2.2 p hp rfl
  exact⟨keep p.1 p.2 ne nf nch e n,free p.1 p.2 nch e n,ne,nf,d⟩
theorem Inv.un {t':Nat} (I:Inv X pins σ H s) (u:Un X.fs [] H H' s.heap h') (hok:HOk X.prog X.w H' h'):Inv X pins σ H' { s with heap:=h',toks:=t' }:=by
 obtain⟨m,⟨o,es,ep,ho,r⟩,_⟩:=id I.loc;obtain⟨sl,hL⟩:=u.any ho I.free (by simp);exact I.step (g':=s.gens) (d':=s.drawn) (ch:=[]) (fun _ z=>nomatch z) (fun b o _ hb _ e n=>u.keep b o e n hb (by simp)) (fun b o _ hb _ e n=>u.slot b o e n hb (by simp)) (fun b o _ e n=>u.free b o e n (by simp)) (fun b o _ e=>u.there b o e (by simp)) u.tups u.frzs u.tbls (fun m' hm=>by
  obtain⟨o',es',ep',ho',r'⟩:=hm;rw[ho] at ho';cases ho';exact⟨_,es',ep',hL,r'⟩) hok I.bare
theorem Inv.call {g':Array GenState}{t':Nat}{d':Drawn}{ch:List Addr} (I:Inv X pins σ H s) (u:Un (frs X.stack) ch H H' s.heap h') (hok:HOk X.prog X.w H' h') (hg:AllBare g')
  (hch:∀ b∈ch,(b∈X.ex∨X.s₀.heap.objs.size≤b)∧b≠X.env.locals∧(∀ x c,X.env.cells.lookup x=some c→c≠b)∧∀ p∈X.pn++pins,p.1≠b) :
  Inv X pins σ H' { s with heap:=h',gens:=g',drawn:=d',toks:=t' }:=by
 obtain⟨m,⟨o,es,ep,ho,r⟩,_⟩:=id I.loc;obtain⟨sl,hL⟩:=u.any ho I.free fun z=>(hch _ z).2.1 rfl
 exact I.step (ch:=ch) hch (fun b o hL hb hc e n=>u.keep b o e n (fun z=>(List.mem_cons.mp (I.stkSub b z)).elim hL hb) hc) (fun b o _ _ hc e n=>u.any e n hc) (fun b o hc e n=>u.free b o e n hc) (fun b o hc e=>u.there b o e hc) u.tups u.frzs u.tbls (fun m' hm=>by
  obtain⟨o',es',ep',ho',r'⟩:=hm;rw[ho] at ho';cases ho';exact⟨_,es',ep',hL,r'⟩) hok hg
theorem Inv.turned {t':Nat}{it:Addr} (I:Inv X pins σ H s) (k:∀ b o,b≠it→s.heap.get? b=some o→h'.get? b=some o) (hn:H it=none) (hL:it≠X.env.locals)
  (h1:it∈X.ex∨X.s₀.heap.objs.size≤it) (h2:∀ x c,X.env.cells.lookup x=some c→c≠it) (h3:∀ p∈X.pn++pins,p.1≠it):Inv X pins σ H { s with heap:=h',toks:=t' }:=by
 have nit:∀ b u,H b=some u→b≠it:=fun b u e z=>by rw[z,hn] at e;cases e
 refine I.step (g':=s.gens) (d':=s.drawn) (ch:=[it]) (fun b hb=>?_) (fun b o _ _ hc e _=>k b o (fun z=>hc (by simp[z])) e) (fun b o _ _ hc e _=>⟨o.slots,k b o (fun z=>hc (by simp[z])) e⟩) (fun _ _ _ _ n=>n)
  (fun b o hc e=>⟨o,k b o (fun z=>hc (by simp[z])) e⟩) (fun _ _ e=>e) (fun _ _ _ e=>e) (fun b ps e=>⟨#[],by rw[e];simp⟩) (fun m hm=>?_) (fun b u e=>?_) I.bare
 ·have e:b=it:=by simpa using hb
  subst e;exact⟨h1,hL,h2,h3⟩
 ·obtain⟨o,es,ep,ho,r⟩:=hm;exact⟨o,es,ep,k _ o (Ne.symm hL) ho,r⟩
 ·refine (I.hok b u e).stay (fun c v hc q=>k c v ?_ q) (fun _ q=>q) fun _ _ q=>q
  rcases hc with z | z
  ·rw[z];exact nit b u e
  ·exact nit c _ z
theorem Inv.tok (I:Inv X pins σ H s) (t:Nat):Inv X pins σ H { s with toks:=t }:=I.un (h':=s.heap) (t':=t) Un.refl I.hok
theorem Inv.kept {t':Nat} (I:Inv X pins σ H s) (k:∀ b u,s.heap.get? b=some u→h'.get? b=some u):Inv X pins σ H { s with heap:=h',toks:=t' }:=I.un (Un.kept k) (I.hok.kept k)
theorem Inv.laid {a:Addr}{o:HO}{t':Nat} (I:Inv X pins σ H s) (k:∀ b u,s.heap.get? b=some u→h'.get? b=some u) (hp:s.heap.objs.size≤a) (new:ObjOk X.prog X.w (upd H a o) h' a o) :
  Inv X pins σ (upd H a o) { s with heap:=h',toks:=t' }:=I.un (Un.laid k hp (I.hok.fresh hp)) (I.hok.laid k hp new)
theorem Inv.write {x e:Addr}{o:HO}{t':Nat} (I:Inv X pins σ H s) (mu:Mut (H x)) (he:e=x∨H e=some (.own x)) (k:∀ b u,b≠e→s.heap.get? b=some u→h'.get? b=some u) (heo:∃ u,h'.get? e=some u)
  (new:ObjOk X.prog X.w (upd H x o) h' x o):Inv X pins σ (upd H x o) { s with heap:=h',toks:=t' }:=I.un (Un.write mu he k heo) (I.hok.write mu he k heo new)
theorem Inv.pins_of {pins':List (Addr × Obj)} (I:Inv X pins σ H s) (h:∀ p∈pins',s.heap.get? p.1=some p.2∧H p.1=none∧p.1≠X.env.locals∧p.1 ∉ X.fs∧∀ v,p.2.data ≠ .cell v):Inv X pins' σ H s :=
 ⟨I.ok,I.os,I.bare,I.base,I.loc,I.cell,I.free,I.freeC,fun p hp=>(List.mem_append.mp hp).elim (fun z=>I.pin p (List.mem_append_left _ z)) (h p),I.hok,I.len⟩
theorem nodup_ix {N:List Str} (hN:N.Nodup) {i j:Nat}{x:Str} (a:N[i]? = some x) (b:N[j]? = some x):i=j:=by
 obtain⟨h1,e1⟩:=List.getElem?_eq_some_iff.mp a;obtain⟨h2,e2⟩:=List.getElem?_eq_some_iff.mp b;exact (List.getElem_inj hN).mp (e1.trans e2.symm)
theorem store_ok2 {M:Model}{A:Around}{E:Value→Shared→Prop}{i:Nat}{x:Str}{v:V}{u:Value}{Q:Unit→Shared→Prop} (I:Inv X pins σ H s) (hN:X.N.Nodup) (hi:X.N[i]? = some x) (hx:Loc X.env.scope x) (r:RelV v u)
  (h:∀ s',Inv X pins (σ.set i (some v)) H s'→(∃ a,Heap.SameBut a s.heap s'.heap∧(a=X.env.locals∨X.env.cells.lookup x=some a))→Q () s') (hf:X.fn x=true∨X.env.scope.names.lookup x=some .local:=by first | exact .inl rfl | exact .inr rfl | assumption):wpAny M A (storeName X.env x u) Q E s:=by
 obtain⟨m,hn,hl⟩:=id I.loc;have hcls:(X.env.scope.kind == .class || (X.env.scope.kind == .module && X.env.locals != X.env.globals))=false:=by rw[I.ok.kind];rfl
 have hiσ:i < σ.length:=by rw[I.len];exact (List.getElem?_eq_some_iff.mp hi).1
 have cne:=I.cne;have tracked:∀ {a:Addr}{h':Heap},(∃ o,s.heap.get? a=some o∧H a=none)→Heap.SameBut a s.heap h'→HOk X.prog X.w H h':=fun {a h'} ha hs b ob e=>by
  obtain⟨_,_,hfree⟩:=ha;refine (I.hok b ob e).stay (fun c w' hc q=>(hs.2 c ?_).trans q) (fun _ q=>q) fun _ _ q=>q
  rintro rfl;rcases hc with rfl | hc
  ·rw[hfree] at e;cases e
  ·rw[hfree] at hc;cases hc
 rcases hx with hk | hk
 ·refine wpAny_storeName_local hk hn (fun h' hn' hs=>?_) hcls;obtain⟨oL,_,_,hoL,_⟩:=id hn;refine h _ ⟨I.ok,I.os,I.bare,⟨fun b o e n hb hx=>?_,fun b o e n hb hx=>?_,I.base.free,fun b o e hx=>?_,I.base.tups,I.base.frzs,I.base.tbls⟩,⟨_,hn',fun j y v' e1 e2 e3=>?_⟩,fun y c e=>?_,I.free,I.freeC,fun p hp=>?_,tracked ⟨oL,hoL,I.free⟩ hs,by simpa using I.len⟩ ⟨_,hs,.inl rfl⟩
  ·exact (hs.2 b (Nat.ne_of_lt (Nat.lt_of_lt_of_le (Heap.lt_size e) I.ok.above))).trans (I.base.keep b o e n hb hx)
  ·obtain⟨sl,e1⟩:=I.base.slot b o e n hb hx;exact⟨sl,(hs.2 b (Nat.ne_of_lt (Nat.lt_of_lt_of_le (Heap.lt_size e) I.ok.above))).trans e1⟩
  ·obtain⟨o',e1⟩:=I.base.there b o e hx;exact⟨o',(hs.2 b (Nat.ne_of_lt (Nat.lt_of_lt_of_le (Heap.lt_size e) I.ok.above))).trans e1⟩
  ·by_cases hj:j=i
   ·subst hj;rw[hi] at e1;cases e1;rw[List.getElem?_set_self hiσ] at e2;cases e2;exact⟨u,r,.inl ⟨hk,by simp⟩⟩
   ·rw[List.getElem?_set_ne (Ne.symm hj)] at e2;obtain⟨u',r',q⟩:=hl j y v' e1 e2 e3;refine⟨u',r',?_⟩;rcases q with ⟨k,e⟩ | ⟨k,c,e,z⟩
    ·refine .inl ⟨k,?_⟩
     have:y≠x:=fun e=>hj (nodup_ix hN e1 (e ▸ hi))
     simp[this,e]
    ·exact .inr ⟨k,c,e,z.sameBut hs (cne y c e)⟩
  ·obtain⟨w',z⟩:=I.cell y c e;exact⟨w',z.sameBut hs (cne y c e)⟩
  ·obtain⟨e,n,ne,nf,d⟩:=I.pin p hp;exact⟨(hs.2 p.1 ne).trans e,n,ne,nf,d⟩
 ·have hfn:X.fn x=true:=by
   rcases hf with z | z
   ·exact z
   ·rw[z] at hk;cases hk
  obtain⟨c,hc⟩:=I.ok.has x (.inl hk);obtain⟨w',z⟩:=I.cell x c hc;refine wpAny_storeName_cell I.ok.kind hk hc z (fun h' hc' hs=>?_);obtain⟨oc,hoc,hocd⟩:=id z;refine h { s with heap:=h' } ⟨I.ok,I.os,I.bare,⟨fun b o e n hb hx=>?_,fun b o e n hb hx=>?_,I.base.free,fun b o e hx=>?_,I.base.tups,I.base.frzs,I.base.tbls⟩,⟨m,hn.sameBut hs (Ne.symm (cne x c hc)),fun j y v' e1 e2 e3=>?_⟩,fun y c' e=>?_,I.free,I.freeC,fun p hp=>?_,tracked ⟨oc,hoc,I.freeC x c hc⟩ hs,by simpa using I.len⟩ ⟨c,hs,.inr hc⟩
  ·exact (hs.2 b (Nat.ne_of_lt (Nat.lt_of_lt_of_le (Heap.lt_size e) (I.ok.cab x c hfn hc)))).trans (I.base.keep b o e n hb hx)
  ·obtain⟨sl,e1⟩:=I.base.slot b o e n hb hx;exact⟨sl,(hs.2 b (Nat.ne_of_lt (Nat.lt_of_lt_of_le (Heap.lt_size e) (I.ok.cab x c hfn hc)))).trans e1⟩
  ·obtain⟨o',e1⟩:=I.base.there b o e hx;exact⟨o',(hs.2 b (Nat.ne_of_lt (Nat.lt_of_lt_of_le (Heap.lt_size e) (I.ok.cab x c hfn hc)))).trans e1⟩
  ·by_cases hj:j=i
   ·subst hj;rw[hi] at e1;cases e1;rw[List.getElem?_set_self hiσ] at e2;cases e2;exact⟨u,r,.inr ⟨.inl hk,c,hc,hc'⟩⟩
   ·rw[List.getElem?_set_ne (Ne.symm hj)] at e2;obtain⟨u',r',q⟩:=hl j y v' e1 e2 e3;refine⟨u',r',?_⟩;rcases q with q | ⟨k,c',e,z'⟩
    ·exact .inl q
    ·refine .inr ⟨k,c',e,z'.sameBut hs ?_⟩;rintro rfl;exact hj (nodup_ix hN e1 (I.ok.inj _ _ _ e hc ▸ hi))
  ·by_cases hcc:c'=c
   ·subst hcc;exact⟨_,hc'⟩
   ·obtain⟨w2,z2⟩:=I.cell y c' e;exact⟨w2,z2.sameBut hs hcc⟩
  ·obtain⟨e,n,ne,nf,d⟩:=I.pin p hp;refine⟨(hs.2 p.1 ?_).trans e,n,ne,nf,d⟩;intro q;rw[q,hoc] at e;have q':oc=p.2:=Option.some.inj e;exact d w' (by rw[← q'];exact hocd)
theorem store_ok {M:Model}{A:Around}{E:Value→Shared→Prop}{i:Nat}{x:Str}{v:V}{u:Value}{Q:Unit→Shared→Prop} (I:Inv X pins σ H s) (hN:X.N.Nodup) (hi:X.N[i]? = some x) (hx:Loc X.env.scope x) (r:RelV v u)
  (h:∀ s',Inv X pins (σ.set i (some v)) H s'→Q () s') (hf:X.fn x=true∨X.env.scope.names.lookup x=some .local:=by first | exact .inl rfl | exact .inr rfl | assumption):wpAny M A (storeName X.env x u) Q E s :=
 store_ok2 I hN hi hx r (fun s' I' _=>h s' I') hf
theorem Inv.call' {s':Shared}{ch:List Addr} (I:Inv X pins σ H s) (ho:s'.os=s.os) (u:Un (frs X.stack) ch H H' s.heap s'.heap) (hok:HOk X.prog X.w H' s'.heap) (hg:AllBare s'.gens)
  (hch:∀ b∈ch,(b∈X.ex∨X.s₀.heap.objs.size≤b)∧b≠X.env.locals∧(∀ x c,X.env.cells.lookup x=some c→c≠b)∧∀ p∈X.pn++pins,p.1≠b):Inv X pins σ H' s':=by
 obtain⟨h',g',d',t',o'⟩:=s';have e:o'=s.os:=ho;subst e;exact I.call (g':=g') (t':=t') (d':=d') u hok hg hch
end
noncomputable abbrev XK:=Value→Option Addr→Hp→Prop
noncomputable abbrev St:=List (Option V)
noncomputable abbrev VK:=V→Hp→Prop
noncomputable abbrev TE:=St→Hp→VK→Prop
noncomputable abbrev TT:=St→Hp→(Bool→Hp→Prop)→Prop
noncomputable abbrev TA:=St→Hp→(List V→Hp→Prop)→Prop
structure Ends where
 nx:St→Hp→Prop
 rt:VK
 bk:St→Hp→Prop:=fun _ _=>False
 ct:St→Hp→Prop:=fun _ _=>False
noncomputable abbrev TS:=Ends→St→Hp→Prop
noncomputable def EP (X:Cx) (pins:List (Addr × Obj)) (σ:St) (Q:VK) (u:Value) (s':Shared):Prop:=∃ v H',Inv X pins σ H' s'∧RelV v u∧Q v H'
noncomputable def TP (X:Cx) (pins:List (Addr × Obj)) (σ:St) (Q:Bool→Hp→Prop) (b:Bool) (s':Shared):Prop:=∃ H',Inv X pins σ H' s'∧Q b H'
noncomputable def AP (X:Cx) (pins:List (Addr × Obj)) (σ:St) (Q:List V→Hp→Prop) (us:List Value) (s':Shared):Prop:=∃ vs H',Inv X pins σ H' s'∧Vals vs us∧Q vs H'
noncomputable def SP (X:Cx) (pins:List (Addr × Obj)) (D:Ends) (f:Flow) (s':Shared):Prop :=
 match f with
 | .next=>∃ σ' H',Inv X pins σ' H' s'∧D.nx σ' H'
 | .brk=>∃ σ' H',Inv X pins σ' H' s'∧D.bk σ' H'
 | .cont=>∃ σ' H',Inv X pins σ' H' s'∧D.ct σ' H'
 | .ret u=>∃ v σ' H',Inv X pins σ' H' s'∧RelV v u∧D.rt v H'
noncomputable def PE (X:Cx) (e:Expr) (t:TE):Prop :=
 ∀ (pins:List (Addr × Obj)) (s:Shared) (σ:St) (H:Hp) (Q:VK),Inv X pins σ H s→t σ H Q→wpAny (model X.prog X.w) X.A (eval e X.env) (EP X pins σ Q) X.xe s
noncomputable def PT (X:Cx) (e:Expr) (t:TT):Prop :=
 ∀ (pins:List (Addr × Obj)) (s:Shared) (σ:St) (H:Hp) (Q:Bool→Hp→Prop),Inv X pins σ H s→t σ H Q→wpAny (model X.prog X.w) X.A (isTrue e X.env (eval e X.env)) (TP X pins σ Q) X.xe s
noncomputable def PW (X:Cx) (e:Expr) (t:TT):Prop :=
 ∀ (whole:Sem Value) (pins:List (Addr × Obj)) (s:Shared) (σ:St) (H:Hp) (Q:Bool→Hp→Prop),Inv X pins σ H s→t σ H Q→wpAny (model X.prog X.w) X.A (isTrue e X.env whole) (TP X pins σ Q) X.xe s
theorem PW.pt {X:Cx}{e:Expr}{t:TT} (h:PW X e t):PT X e t:=h _
noncomputable def PA (X:Cx) (es:List Expr) (t:TA):Prop :=
 ∀ (pos:Pos) (pins:List (Addr × Obj)) (s:Shared) (σ:St) (H:Hp) (Q:List V→Hp→Prop),Inv X pins σ H s→t σ H Q→wpAny (model X.prog X.w) X.A (spliced (backTo pos (starEach es X.env))) (AP X pins σ Q) X.xe s
noncomputable def PS (X:Cx) (st:Stmt) (t:TS):Prop :=
 ∀ (pins:List (Addr × Obj)) (s:Shared) (σ:St) (H:Hp) (D:Ends),Inv X pins σ H s→t D σ H→wpAny (model X.prog X.w) X.A (exec st X.env) (SP X pins D) X.xe s
noncomputable def PSs (X:Cx) (st:List Stmt) (t:TS):Prop :=
 ∀ (pins:List (Addr × Obj)) (s:Shared) (σ:St) (H:Hp) (D:Ends),Inv X pins σ H s→t D σ H→wpAny (model X.prog X.w) X.A (execs st X.env) (SP X pins D) X.xe s
theorem thn {α : Type}{t:Sem α}{Q Q' : α → Shared→Prop}{M:Model}{A:Around}{E:Value→Shared→Prop}{s:Shared} (h:wpAny M A t Q E s) (hQ:∀ a s,Q a s→Q' a s):wpAny M A t Q' E s:=wpAny_mono h hQ fun _ _ x=>x
end L2
namespace L2
open PySem PySem.Spec PyProof.Rows
section
variable {X:Cx}
noncomputable def tVar (i:Nat):TE:=fun σ H Q=>∃ v,σ[i]? = some (some v)∧Q v H
noncomputable def tC (v:V):TE:=fun _ H Q=>Q v H
theorem pe_var {i:Nat}{x:Str}{pos:Pos} (hN:X.N[i]? = some x) (hv:Vis X.env.scope x) (hd:(x == ("__debug__" : Str))=false:=by decide) (hcd:(x == ("__classdict__" : Str))=false:=by decide):PE X (.Name x pos) (tVar i):=by
 intro pins s σ H Q I h;obtain⟨v,e,h⟩:=h;obtain⟨m,hn,hl⟩:=I.loc;obtain⟨u,r,l⟩:=hl i x v hN e hv;have fin:EP X pins σ Q u s:=⟨v,H,I,r,h⟩;rcases l with ⟨hk,hm⟩ | ⟨hk,c,hc,hcell⟩
 ·exact wpAny_Name (wpAny_loadName_local I.ok.kind hk hn hm fin) hd
 ·rcases hk with hk | hk
  ·exact wpAny_Name (wpAny_loadName_cell I.ok.kind hk hc hcell fin) hd
  ·exact wpAny_Name (wpAny_loadName_free I.ok.kind hk hc hcell fin hcd) hd
theorem pe_int {i j pos}:PE X (.Constant (.int i) j pos) (tC (.int i)):=fun _ _ _ H _ I h=>wpAny_Constant_int ⟨.int i,H,I.tok _,⟨_,rfl⟩,h⟩
theorem pe_bl {b j pos}:PE X (.Constant (.bool b) j pos) (tC (.bl b)):=fun _ _ _ H _ I h=>Constant_bool ⟨.bl b,H,I,rfl,h⟩
theorem pe_non {j pos}:PE X (.Constant .none j pos) (tC .non):=fun _ _ _ H _ I h=>Constant_none ⟨.non,H,I,rfl,h⟩
theorem pe_str {x j pos}:PE X (.Constant (.str x) j pos) (tC (.str x)):=fun _ _ _ H _ I h=>Calls.Constant_str ⟨.str x,H,I.tok _,⟨_,rfl⟩,h⟩
noncomputable def Gl (X:Cx) (x:Str):Prop:=X.env.kindOf x=some .globalImplicit
theorem ld_glob {E:Value→Shared→Prop}{pins:List (Addr × Obj)}{s:Shared} {σ:St}{H:Hp}{x:Str}{u:Value}{pos:Pos}{Q:Value→Shared→Prop} (I:Inv X pins σ H s) (hg:Gl X x) (hm:X.mg x=some u) (h:Q u s)
  (hd:(x == ("__debug__" : Str))=false:=by decide):wpAny (model X.prog X.w) X.A (eval (.Name x pos) X.env) Q E s :=
 Calls.Name_function_global I.ok.kind hg (Calls.loadGlobal_global (by rw[I.ok.glob];exact I.mod.glob.keeps I.bk) hm h) hd
theorem ld_blt {E:Value→Shared→Prop}{pins:List (Addr × Obj)}{s:Shared} {σ:St}{H:Hp}{x:Str}{u:Value}{pos:Pos}{Q:Value→Shared→Prop} (I:Inv X pins σ H s) (hg:Gl X x) (hm:X.mg x=none) (hv:bootBuiltins x=some u) (h:Q u s)
  (hn:x ≠ "__name__" := by decide) (hd:(x == ("__debug__" : Str))=false:=by decide):wpAny (model X.prog X.w) X.A (eval (.Name x pos) X.env) Q E s:=by
 obtain⟨mb,h1,h2⟩:=I.mod.blt;exact Calls.Name_function_global I.ok.kind hg (Calls.loadGlobal_builtin (by rw[I.ok.glob];exact I.mod.glob.keeps I.bk) hm (by rw[I.ok.blt];exact h1.keeps I.bk) ((h2 x hn).trans hv) h) hd
theorem pe_glob {x:Str}{v:V}{u:Value}{pos:Pos} (hg:Gl X x) (hm:X.mg x=some u) (r:RelV v u) (hd:(x == ("__debug__" : Str))=false:=by decide):PE X (.Name x pos) (tC v) :=
 fun _ _ _ H _ I h=>ld_glob I hg hm ⟨v,H,I,r,h⟩ hd
theorem pe_bltn {x:Str}{v:V}{u:Value}{pos:Pos} (hg:Gl X x) (hm:X.mg x=none) (hv:bootBuiltins x=some u) (r:RelV v u) (hn:x ≠ "__name__" := by decide) (hd:(x == ("__debug__" : Str))=false:=by decide):PE X (.Name x pos) (tC v) :=
 fun _ _ _ H _ I h=>ld_blt I hg hm hv ⟨v,H,I,r,h⟩ hn hd
variable {a b:Expr}{ta tb:TE}{pos:Pos}
noncomputable def tB (t:TE):TT:=fun σ H Q=>t σ H fun x H1=>∃ c,x = .bl c∧Q c H1
theorem pt_val {e:Expr}{t:TE} (h:PE X e t) (he:∀ whole,isTrue e X.env whole=(do let v ← whole;standAt e.pos;holding [v] (truthy v)):=by intro _;rfl):PT X e (tB t):=by
 intro pins s σ H Q I hw;refine isTrue_plain (thn (h pins s σ H _ I hw) fun v s1 ⟨x,H1,I1,r1,q1⟩=>?_) (he _);obtain⟨d,rfl,q⟩:=q1;cases r1;exact wpAny_truthy_bool ⟨H1,I1,q⟩
variable {tA tB':TT}{rest:List Expr}
noncomputable def tAnd (t u:TT):TT:=fun σ H Q=>t σ H fun c H1=>if c=true then u σ H1 Q else Q false H1
noncomputable def tOr (t u:TT):TT:=fun σ H Q=>t σ H fun c H1=>if c=true then Q true H1 else u σ H1 Q
noncomputable def tNot (t:TT):TT:=fun σ H Q=>t σ H fun c H1=>Q (!c) H1
theorem pw_and1 (ha:PT X a tA):PW X (.BoolOp .And [a] pos) tA:=by
 intro wh pins s σ H Q I h;refine isTrue_and (thn (ha pins s σ H Q I h) fun c s1 e=>?_);cases c with
 | true=>exact isTrue_and_nil e
 | false=>exact e
theorem pw_or1 (ha:PT X a tA):PW X (.BoolOp .Or [a] pos) tA:=by
 intro wh pins s σ H Q I h;refine isTrue_or (thn (ha pins s σ H Q I h) fun c s1 e=>?_);cases c with
 | false=>exact isTrue_or_nil e
 | true=>exact e
theorem pw_and (ha:PT X a tA) (hb:PW X (.BoolOp .And (b :: rest) pos) tB'):PW X (.BoolOp .And (a :: b :: rest) pos) (tAnd tA tB'):=by
 intro wh pins s σ H Q I h;refine isTrue_and (thn (ha pins s σ H _ I h) fun c s1 ⟨H1,I1,q1⟩=>?_);cases c with
 | true=>exact hb wh pins s1 σ H1 Q I1 q1
 | false=>exact⟨H1,I1,q1⟩
theorem pw_or (ha:PT X a tA) (hb:PW X (.BoolOp .Or (b :: rest) pos) tB'):PW X (.BoolOp .Or (a :: b :: rest) pos) (tOr tA tB'):=by
 intro wh pins s σ H Q I h;refine isTrue_or (thn (ha pins s σ H _ I h) fun c s1 ⟨H1,I1,q1⟩=>?_);cases c with
 | true=>exact⟨H1,I1,q1⟩
 | false=>exact hb wh pins s1 σ H1 Q I1 q1
theorem pt_not (ha:PT X a tA):PT X (.UnaryOp .Not a pos) (tNot tA):=by
 intro pins s σ H Q I h;exact isTrue_not (ha pins s σ H (fun c H1=>Q (!c) H1) I h)
noncomputable def tAndV (ta tb:TE):TE:=fun σ H Q=>ta σ H fun x H1=>∃ c,x = .bl c∧if c=true then tb σ H1 Q else Q (.bl false) H1
noncomputable def tOrV (ta tb:TE):TE:=fun σ H Q=>ta σ H fun x H1=>∃ c,x = .bl c∧if c=true then Q (.bl true) H1 else tb σ H1 Q
noncomputable def tNotV (ta:TE):TE:=fun σ H Q=>ta σ H fun x H1=>∃ c,x = .bl c∧Q (.bl (!c)) H1
theorem pe_one {op}{t:TE} (h:PE X a t):PE X (.BoolOp op [a] pos) t:=fun pins s σ H Q I hw=>BoolOp_one (h pins s σ H Q I hw)
theorem pe_and (ha:PE X a ta) (hb:PE X (.BoolOp .And (b :: rest) pos) tb):PE X (.BoolOp .And (a :: b :: rest) pos) (tAndV ta tb):=by
 intro pins s σ H Q I h;refine BoolOp_and (thn (ha pins s σ H _ I h) fun v s1 ⟨x,H1,I1,r1,q1⟩=>?_);obtain⟨c,rfl,q1⟩:=q1;cases r1;refine wpAny_truthy_bool ?_;cases c with
 | true=>exact hb pins s1 σ H1 Q I1 q1
 | false=>exact⟨.bl false,H1,I1,rfl,q1⟩
theorem pe_or (ha:PE X a ta) (hb:PE X (.BoolOp .Or (b :: rest) pos) tb):PE X (.BoolOp .Or (a :: b :: rest) pos) (tOrV ta tb):=by
 intro pins s σ H Q I h;refine BoolOp_or (thn (ha pins s σ H _ I h) fun v s1 ⟨x,H1,I1,r1,q1⟩=>?_);obtain⟨c,rfl,q1⟩:=q1;cases r1;refine wpAny_truthy_bool ?_;cases c with
 | false=>exact hb pins s1 σ H1 Q I1 q1
 | true=>exact⟨.bl true,H1,I1,rfl,q1⟩
theorem pe_not (ha:PE X a ta):PE X (.UnaryOp .Not a pos) (tNotV ta):=by
 intro pins s σ H Q I h;refine UnaryOp_ (thn (ha pins s σ H _ I h) fun v s1 ⟨x,H1,I1,r1,q1⟩=>?_);obtain⟨c,rfl,q1⟩:=q1;cases r1;exact not_of (wpAny_truthy_bool ⟨.bl (!c),H1,I1,rfl,q1⟩)
noncomputable def tIf (t:TT) (ta tb:TE):TE:=fun σ H Q=>t σ H fun c H1=>if c=true then ta σ H1 Q else tb σ H1 Q
theorem pe_ifExp {c:Expr} (hc:PT X c tA) (ha:PE X a ta) (hb:PE X b tb):PE X (.IfExp c a b pos) (tIf tA ta tb):=by
 intro pins s σ H Q I h;refine wpAny_IfExp (thn (hc pins s σ H _ I h) fun d s1 ⟨H1,I1,q1⟩=>?_);cases d with
 | true=>exact ha pins s1 σ H1 Q I1 q1
 | false=>exact hb pins s1 σ H1 Q I1 q1
end
end L2
namespace L2
open PySem PySem.Spec PyProof.Rows
noncomputable def SqL (K:PySem.W.Frag) (H:Hp) (a:Addr) (xs:List V):Prop :=
 Rd H a (.lst xs) ∨
  ∃ (o:Obj) (its:Array Value) (n:Nat),K.lookup a=some o∧o.cls = .type "list" ∧ o.dict=none∧o.data = .seq its n∧its.size≤sizeLine∧Vals xs its.toList
noncomputable def SqT (K:PySem.W.Frag) (H:Hp) (a:Addr) (xs:List V):Prop :=
 Rd H a (.tup xs) ∨
  ∃ (o:Obj) (its:Array Value) (n:Nat),K.lookup a=some o∧o.cls = .type "tuple" ∧ o.data = .seq its n∧its.size≤sizeLine∧Vals xs its.toList
noncomputable def absV:Value→Option V
 | .none=>some .non
 | .bool b=>some (.bl b)
 | .int i _=>some (.int i)
 | .str x _=>some (.str x)
 | .bytes b _=>some (.byt b)
 | .float b _=>some (.flt b)
 | .ref a=>some (.ref a)
 | .type n=>some (.ty n)
 | _=>none
theorem RelV.abs {x:V}{u:Value} (r:RelV x u):absV u=some x:=by
 cases x with
 | non=>cases r;rfl
 | bl _=>cases r;rfl
 | int _=>obtain⟨t,rfl⟩:=r;rfl
 | str _=>obtain⟨t,rfl⟩:=r;rfl
 | byt _=>obtain⟨t,rfl⟩:=r;rfl
 | flt _=>obtain⟨t,rfl⟩:=r;rfl
 | ref _=>cases r;rfl
 | ty _=>cases r;rfl
theorem RelV.inj {x y:V}{u:Value} (r:RelV x u) (q:RelV y u):x=y:=Option.some.inj (r.abs.symm.trans q.abs)
theorem Vals.inj {xs ys:List V}{us:List Value} (h:Vals xs us) (h':Vals ys us):xs=ys:=by
 induction h generalizing ys with
 | nil=>cases h';rfl
 | cons r t ih=>cases h' with | cons r' t'=>rw[r.inj r',ih t']
section
variable {X:Cx}{pins:List (Addr × Obj)} {σ:St}{H:Hp}{s:Shared}{a:Addr}{xs ys:List V}
theorem SqL.of {K:PySem.W.Frag} (h:H a=some (.lst xs)):SqL K H a xs := .inl (.inl h)
theorem SqT.of {K:PySem.W.Frag} (h:H a=some (.tup xs)):SqT K H a xs := .inl (.inl h)
theorem Inv.list (I:Inv X pins σ H s) (h:SqL X.K H a xs):∃ its:List Value,Vals xs its∧PlainL s.heap a its.toArray∧xs.length≤sizeLine:=by
 rcases h with h | ⟨o,its,n,hk,hc,hd,hs,hz,r⟩
 ·obtain⟨z,its,n,r,e⟩:=h.ok I.hok;exact⟨its,r,⟨_,n,e,rfl,rfl,rfl⟩,z⟩
 ·refine⟨its.toList,r,⟨o,n,I.kIn a o hk,hc,hd,by simpa using hs⟩,?_⟩;have e:=r.length;simp only[Array.length_toList] at e;omega
theorem Inv.tuple (I:Inv X pins σ H s) (h:SqT X.K H a xs):∃ its:List Value,Vals xs its∧IsTup s.heap a its.toArray∧xs.length≤sizeLine:=by
 rcases h with h | ⟨o,its,n,hk,hc,hs,hz,r⟩
 ·obtain⟨z,its,r,p⟩:=h.ok I.hok;exact⟨its,r,p,z⟩
 ·refine⟨its.toList,r,⟨o,I.kIn a o hk,hc,n,by simpa using hs⟩,?_⟩;have e:=r.length;simp only[Array.length_toList] at e;omega
theorem Inv.list_inj (I:Inv X pins σ H s) (h:SqL X.K H a xs) (h':SqL X.K H a ys):xs=ys:=by
 obtain⟨its,r,⟨o,n,e,_,_,d⟩,_⟩:=I.list h;obtain⟨its',r',⟨o',n',e',_,_,d'⟩,_⟩:=I.list h';rw[e] at e';cases e';rw[d] at d';injection d' with d1 _
 have:its=its':=by simpa using congrArg Array.toList d1
 subst this;exact r.inj r'
theorem Inv.tuple_inj (I:Inv X pins σ H s) (h:SqT X.K H a xs) (h':SqT X.K H a ys):xs=ys:=by
 obtain⟨its,r,⟨o,e,_,n,d⟩,_⟩:=I.tuple h;obtain⟨its',r',⟨o',e',_,n',d'⟩,_⟩:=I.tuple h';rw[e] at e';cases e';rw[d] at d';injection d' with d1 _
 have:its=its':=by simpa using congrArg Array.toList d1
 subst this;exact r.inj r'
end
noncomputable abbrev Cx.wish (X:Cx) (E:Value→Shared→Prop):Cx:={ X with xe:=E }
noncomputable abbrev Cx.nox (X:Cx):Cx:=X.wish fun _ _=>False
theorem Cx.Ok.wish {X:Cx} (ok:X.Ok) (E:Value→Shared→Prop):(X.wish E).Ok :=
 ⟨ok.mod,ok.kind,ok.glob,ok.blt,ok.above,ok.inj,ok.has,ok.cab,ok.hd,ok.frames,ok.stk,ok.exf,ok.bs,ok.bsz,ok.noex,ok.exfs,ok.funs,ok.frf⟩
theorem Cx.Ok.unwish {X:Cx}{E:Value→Shared→Prop} (ok:(X.wish E).Ok):X.Ok :=
 ⟨ok.mod,ok.kind,ok.glob,ok.blt,ok.above,ok.inj,ok.has,ok.cab,ok.hd,ok.frames,ok.stk,ok.exf,ok.bs,ok.bsz,ok.noex,ok.exfs,ok.funs,ok.frf⟩
section
variable {X:Cx}{pins:List (Addr × Obj)} {σ:St}{H:Hp}{s:Shared}{E:Value→Shared→Prop}
theorem Inv.wish (I:Inv X pins σ H s) (E:Value→Shared→Prop):Inv (X.wish E) pins σ H s:=⟨I.ok.wish E,I.os,I.bare,I.base,I.loc,I.cell,I.free,I.freeC,I.pin,I.hok,I.len⟩
theorem Inv.unwish (I:Inv (X.wish E) pins σ H s):Inv X pins σ H s:=⟨I.ok.unwish,I.os,I.bare,I.base,I.loc,I.cell,I.free,I.freeC,I.pin,I.hok,I.len⟩
theorem SP.unwish {D:Ends}{f:Flow}{s':Shared} (h:SP (X.wish E) pins D f s'):SP X pins D f s':=by
 cases f with
 | next=>obtain⟨σ',H',I,q⟩:=h;exact⟨σ',H',I.unwish,q⟩
 | brk=>obtain⟨σ',H',I,q⟩:=h;exact⟨σ',H',I.unwish,q⟩
 | cont=>obtain⟨σ',H',I,q⟩:=h;exact⟨σ',H',I.unwish,q⟩
 | ret u=>obtain⟨v,σ',H',I,r,q⟩:=h;exact⟨v,σ',H',I.unwish,r,q⟩
theorem PSs.nox {st:List Stmt}{t:TS} (h:PSs X.nox st t):PSs X st t:=fun pins s σ H D I hw =>
 wpAny_mono (h pins s σ H D (I.wish _) hw) (fun _ _ q=>q.unwish) fun _ _ z=>False.elim z
end
section
variable {X:Cx}{st:Stmt}{rest:List Stmt}{t u:TS}{e:Expr}{te:TE}{pos:Pos}
noncomputable def tNext:TS:=fun D σ H=>D.nx σ H
noncomputable def tSeq (t u:TS):TS:=fun D σ H=>t { D with nx:=u D } σ H
theorem pss_nil:PSs X [] tNext:=fun _ _ σ H _ I h=>wpAny_execs_nil ⟨σ,H,I,h⟩
theorem pss_cons (h1:PS X st t) (h2:PSs X rest u):PSs X (st :: rest) (tSeq t u):=by
 intro pins s σ H D I h;refine wpAny_execs_cons (thn (h1 pins s σ H { D with nx:=u D } I h) fun f s1 q=>?_);cases f with
 | next =>
  obtain⟨σ',H',I',q⟩:=q;exact h2 pins s1 σ' H' D I' q
 | ret v=>exact q
 | brk=>exact q
 | cont=>exact q
theorem pss_one (h1:PS X st t):PSs X [st] t:=by
 intro pins s σ H D I h;refine wpAny_execs_cons (thn (h1 pins s σ H D I h) fun f s1 q=>?_);cases f with
 | next=>exact wpAny_execs_nil q
 | ret v=>exact q
 | brk=>exact q
 | cont=>exact q
theorem Inv.quiet {pins:List (Addr × Obj)} {σ:St}{H:Hp}{s:Shared} (I:Inv X pins σ H s):interactive X.env=false:=by simp[interactive,I.ok.kind]
noncomputable def tDrop (te:TE):TS:=fun D σ H=>te σ H fun _ H1=>D.nx σ H1
theorem ps_expr (he:PE X e te) (hs:swapsWith e none pos.line X.env=pure false:=by rfl):PS X (.Expr e pos) (tDrop te):=by
 intro pins s σ H D I h;exact wpAny_Expr_any (thn (he pins s σ H _ I h) fun v s1 ⟨x,H1,I1,r1,q1⟩=>⟨σ,H1,I1,q1⟩) I.quiet hs
noncomputable def tRet (te:TE):TS:=fun D σ H=>te σ H D.rt
theorem ps_ret (he:PE X e te):PS X (.Return (some e) pos) (tRet te):=by
 intro pins s σ H D I h;exact wpAny_Return_some (thn (he pins s σ H _ I h) fun v s1 ⟨x,H1,I1,r1,q1⟩=>⟨x,σ,H1,I1,r1,q1⟩)
noncomputable def tIfS (c:TT) (t u:TS):TS:=fun D σ H=>c σ H fun b H1=>if b=true then t D σ H1 else u D σ H1
theorem ps_if {c:Expr}{a b:List Stmt}{tc:TT} (hc:PT X c tc) (ha:PSs X a t) (hb:PSs X b u):PS X (.If c a b pos) (tIfS tc t u):=by
 intro pins s σ H D I h;refine wpAny_If (thn (hc pins s σ H _ I h) fun d s1 ⟨H1,I1,q1⟩=>?_);cases d with
 | true=>exact ha pins s1 σ H1 D I1 q1
 | false=>exact hb pins s1 σ H1 D I1 q1
end
noncomputable abbrev TG:=V→St→Hp→(St→Hp→Prop)→Prop
noncomputable abbrev TGs:=List V→St→Hp→(St→Hp→Prop)→Prop
noncomputable def PG (X:Cx) (target:Expr) (t:TG):Prop :=
 ∀ (pins:List (Addr × Obj)) (s:Shared) (σ:St) (H:Hp) (v:V) (u:Value) (Q:St→Hp→Prop),Inv X pins σ H s→RelV v u→t v σ H Q →
  wpAny (model X.prog X.w) X.A (assign target X.env u) (fun _ s'=>∃ σ' H',Inv X pins σ' H' s'∧Q σ' H') X.xe s
noncomputable def PGs (X:Cx) (ts:List Expr) (t:TGs):Prop :=
 ∀ (pins:List (Addr × Obj)) (s:Shared) (σ:St) (H:Hp) (vs:List V) (us:List Value) (Q:St→Hp→Prop),Inv X pins σ H s→Vals vs us→t vs σ H Q →
  wpAny (model X.prog X.w) X.A (assignInOrder ((assignEach ts X.env).map (·.2)) us) (fun _ s'=>∃ σ' H',Inv X pins σ' H' s'∧Q σ' H') X.xe s
section
variable {X:Cx}{pos:Pos}
noncomputable def gName (i:Nat):TG:=fun v σ H Q=>Q (σ.set i (some v)) H
theorem pg_name {i:Nat}{x:Str} (hN:X.N.Nodup) (hi:X.N[i]? = some x) (hx:Loc X.env.scope x) (hf:X.fn x=true∨X.env.scope.names.lookup x=some .local:=by first | exact .inl rfl | exact .inr rfl | assumption):PG X (.Name x pos) (gName i):=by
 intro pins s σ H v u Q I r h;exact wpAny_assign_Name (store_ok I hN hi hx r (fun s' I'=>⟨_,H,I',h⟩) hf)
noncomputable def gNil:TGs:=fun vs σ H Q=>vs=[]∧Q σ H
noncomputable def gCons (t:TG) (u:TGs):TGs:=fun vs σ H Q=>∃ v r,vs=v :: r∧t v σ H fun σ' H'=>u r σ' H' Q
theorem pgs_nil:PGs X [] gNil:=by
 intro pins s σ H vs us Q I r h;obtain⟨e,h⟩:=h;subst e;cases r;exact assignInOrder_nil ⟨σ,H,I,h⟩
theorem pgs_cons {e:Expr}{es:List Expr}{t:TG}{u:TGs} (h1:PG X e t) (h2:PGs X es u)
  (hs:(assignEach (e :: es) X.env).map (·.2)=assign e X.env :: (assignEach es X.env).map (·.2):=by rfl):PGs X (e :: es) (gCons t u):=by
 intro pins s σ H vs us Q I r h;obtain⟨v,vr,e1,h⟩:=h;subst e1;cases r with
 | cons r rr =>
  rw[hs];refine assignInOrder_cons (thn (h1 pins s σ H _ _ _ I r h) fun _ s1 ⟨σ1,H1,I1,q1⟩=>?_);exact h2 pins s1 σ1 H1 _ _ Q I1 rr q1
noncomputable def gTup (K:PySem.W.Frag) (n:Nat) (t:TGs):TG:=fun v σ H Q=>∃ a xs,v = .ref a∧SqT K H a xs∧xs.length=n∧t xs σ H Q
theorem pg_tup {es:List Expr}{k:Nat}{t:TGs}{n:Nat} (hc:X.calm=true) (h:PGs X es t)
  (hn:(assignEach es X.env).length=n:=by rfl) (hst:(assignEach es X.env).findIdx? (·.1)=none:=by rfl):PG X (.Tuple es k pos) (gTup X.K n t):=by
 intro pins s σ H v u Q I r hw;obtain⟨a,xs,e1,hq,hl,hw⟩:=hw;subst e1;cases r;obtain⟨its,rv,ht,hz⟩:=I.tuple hq;refine assign_Tuple_tuple (I.ok.hd hc) ht (by simp[hn,← hl,rv.length]) hst fun h' hx=>?_
 have I1:Inv X pins σ H { s with heap:=h' }:=I.kept (t':=s.toks) fun b o e=>hx b o (Nat.ne_of_lt (Heap.lt_size e)) e
 exact h pins _ σ H xs _ Q I1 (by simpa using rv) hw
noncomputable def tAsg (te:TE) (g:TG):TS:=fun D σ H=>te σ H fun x H1=>g x σ H1 D.nx
theorem ps_set {i:Nat}{x:Str}{e:Expr}{te:TE}{pos':Pos} (hN:X.N.Nodup) (hi:X.N[i]? = some x) (hx:Loc X.env.scope x) (he:PE X e te) (hs:swapsWith e (some (.Name x pos')) pos.line X.env=pure false:=by rfl) (hf:X.fn x=true∨X.env.scope.names.lookup x=some .local:=by first | exact .inl rfl | exact .inr rfl | assumption) :
  PS X (.Assign [.Name x pos'] e pos) (tAsg te (gName i)):=by
 intro pins s σ H D I h;refine wpAny_Assign_Name (thn (he pins s σ H _ I h) fun v s1 ⟨y,H1,I1,r1,q1⟩=>?_) hs;exact store_ok I1 hN hi hx r1 (fun s2 I2=>⟨_,H1,I2,q1⟩) hf
end
section
variable {X:Cx}{pos:Pos}
noncomputable def tWhile (c:TT) (tb:TS):TS:=fun D σ H=>∃ W:Nat→St→Hp→Prop,(∃ m,W m σ H)∧∀ m σ H,W m σ H →
 c σ H fun b H1=>if b=true then ∃ N:St→Hp→Prop,(∀ σ' H',N σ' H'→∃ m',m'<m∧W m' σ' H')∧tb { D with nx:=N,ct:=N,bk:=D.nx } σ H1 else D.nx σ H1
theorem ps_while {c:Expr}{body:List Stmt}{tc:TT}{tb:TS} (hp:PassesOwn (model X.prog X.w) X.A X.env X.xe) (hc:PT X c tc) (hb:PSs X body tb):PS X (.While c body [] pos) (tWhile tc tb):=by
 intro pins s σ H D I h;obtain⟨W,⟨m0,w0⟩,turn⟩:=h;refine wpAny_While (codeAny_whileLoop (fun n s'=>∃ σ' H',Inv X pins σ' H' s'∧W n σ' H') ?_ m0 ⟨σ,H,I,w0⟩);rintro n s1 ⟨σ1,H1,I1,w1⟩;refine wpAny_passesOwn hp (thn (hc pins s1 σ1 H1 _ I1 (turn n σ1 H1 w1)) fun b s2 ⟨H2,I2,q2⟩=>?_);cases b with
 | true =>
  obtain⟨N,hN,q2⟩:=q2;rw[if_pos rfl];refine wpAny_passesOwn hp (thn (hb pins s2 σ1 H2 _ I2 q2) fun f s3 q3=>?_);cases f with
  | next =>
   obtain⟨σ3,H3,I3,n3⟩:=q3;obtain⟨m',hm,w3⟩:=hN σ3 H3 n3;exact⟨m',hm,σ3,H3,I3,w3⟩
  | cont =>
   obtain⟨σ3,H3,I3,n3⟩:=q3;obtain⟨m',hm,w3⟩:=hN σ3 H3 n3;exact⟨m',hm,σ3,H3,I3,w3⟩
  | brk=>exact q3
  | ret v=>exact q3
 | false =>
  rw[if_neg Bool.false_ne_true];exact wpAny_execs_nil ⟨σ1,H2,I2,q2⟩
end
structure It where
 go:Nat→Hp→Prop
 yld:Nat→Hp→V→Hp→Prop
 stop:Nat→Hp→Prop
noncomputable def FpOk (X:Cx) (pins:List (Addr × Obj)) (H:Hp) (b:Addr):Prop :=
 H b=none∧b≠X.env.locals∧b ∉ X.fs∧(b∈X.ex∨X.s₀.heap.objs.size≤b)∧(∀ x c,X.env.cells.lookup x=some c→c≠b)∧∀ p∈X.pn++pins,p.1≠b
theorem Inv.fpOk {X:Cx}{pins:List (Addr × Obj)} {σ:St}{H H':Hp}{s:Shared}{b:Addr} (I:Inv X pins σ H s) (hb:s.heap.objs.size≤b) (hn:H' b=none):FpOk X pins H' b:=by
 refine⟨hn,Nat.ne_of_gt (Nat.lt_of_lt_of_le I.lt hb),I.nofs hb,.inr (Nat.le_trans I.sz hb),fun x c e z=>?_,fun p hp z=>?_⟩
 ·obtain⟨v,q⟩:=I.cell x c e;exact absurd (Nat.lt_of_lt_of_le q.lt (by rw[z];exact hb)) (Nat.lt_irrefl _)
 ·exact absurd (Nat.lt_of_lt_of_le (Heap.lt_size (I.pin p hp).1) (by rw[z];exact hb)) (Nat.lt_irrefl _)
structure Turn (P:Program) (w:World) (K:PySem.W.Frag) (tg:Expr) (J:It) (fp:List Addr) (it:Addr) (tn:Nat→Heap→Prop):Prop where
 mem:it∈fp
 obj:∀ i h,tn i h→∀ b∈fp,∃ o,h.get? b=some o∧∀ v,o.data ≠ .cell v
 keep:∀ i h h',tn i h→(∀ b∈fp,∀ o,h.get? b=some o→h'.get? b=some o)→tn i h'
 item:∀ (X:Cx),X.prog=P→X.w=w→X.K=K→X.calm=true→∀ (i:Nat) (pins:List (Addr × Obj)) (s:Shared) (σ:St) (H:Hp) (E:Value→Shared→Prop),Inv X pins σ H s→(∀ b∈fp,FpOk X pins H b)→tn i s.heap→J.go i H →
  wpAny (model P w) X.A (pyNext (.ref it)) (fun r s1=>∃ u,r=some u ∧
   wpAny (model P w) X.A (letOwnedTupleGo tg (.ref it) u) (fun _ s2=>∃ x H',Inv X pins σ H' s2∧RelV x u∧J.yld i H x H'∧tn (i+1) s2.heap∧∀ b∈fp,H' b=none) E s1) E s
 done:∀ (X:Cx),X.prog=P→X.w=w→X.K=K→X.calm=true→∀ (i:Nat) (pins:List (Addr × Obj)) (s:Shared) (σ:St) (H:Hp) (E:Value→Shared→Prop),Inv X pins σ H s→(∀ b∈fp,FpOk X pins H b)→tn i s.heap→J.stop i H →
  wpAny (model P w) X.A (pyNext (.ref it)) (fun r s1=>r=none∧Inv X pins σ H s1) E s
 self:∀ (A:Around) (i:Nat) (s:Shared) (Q:Value→Shared→Prop) (E:Value→Shared→Prop),tn i s.heap→Q (.ref it) s→wpAny (model P w) A (pyIter (.ref it)) Q E s
noncomputable abbrev TI:=St→Hp→(It→Hp→Prop)→Prop
noncomputable def PIE (X:Cx) (pins:List (Addr × Obj)) (σ:St) (tg:Expr) (R:It→Hp→Prop) (itv:Value) (s2:Shared):Prop :=
 ∃ (it:Addr) (fp:List Addr) (tn:Nat→Heap→Prop) (J:It) (H':Hp),itv = .ref it∧Inv X pins σ H' s2∧Turn X.prog X.w X.K tg J fp it tn∧tn 0 s2.heap∧(∀ b∈fp,FpOk X pins H' b)∧R J H'
noncomputable def PI (X:Cx) (tg iter:Expr) (wi:TI):Prop :=
 ∀ (pins:List (Addr × Obj)) (s:Shared) (σ:St) (H:Hp) (R:It→Hp→Prop),Inv X pins σ H s→wi σ H R →
  wpAny (model X.prog X.w) X.A (eval iter X.env) (fun v s1=>wpAny (model X.prog X.w) X.A (pyIter v) (PIE X pins σ tg R) X.xe s1) X.xe s
theorem go_of {M:Model}{A:Around}{E:Value→Shared→Prop}{s:Shared}{tg:Expr}{it:Addr}{u:Value}{o:Obj}{n:String}{vs:Array Value}{Q:Unit→Shared→Prop} (ho:s.heap.get? it=some o) (hc:o.cls = .type n) (hd:o.data = .fields vs)
    (hn : ["enumerate", "zip", "dict_itemiterator", "dict_reverseitemiterator", "odict_iterator", "itertools.zip_longest", "itertools.pairwise"].contains n=false) (hQ:Q () s) : wpAny M A (letOwnedTupleGo tg (.ref it) u) Q E s:=by
  unfold letOwnedTupleGo;cases tg <;> first
    | exact wpAny_pure hQ
    | (cases u <;> first
        | exact wpAny_pure hQ
        | (refine wpAny_bind (wpAny_load ho ?_)
           rw [hc,hd]
           show wpAny M A (if (["enumerate", "zip", "dict_itemiterator", "dict_reverseitemiterator", "odict_iterator", "itertools.zip_longest", "itertools.pairwise"].contains n && vs[0]? == some (rawInt _))=true then _ else _) Q E s
           rw [if_neg (by intro h;rw [hn,Bool.false_and] at h;cases h)]
           exact wpAny_pure hQ))
noncomputable def Itl (K:PySem.W.Frag) (a:Addr):It :=
 ⟨fun i H=>∃ xs x,SqL K H a xs∧xs[i]? = some x,fun i H x H'=>H'=H∧∀ xs,SqL K H a xs→xs[i]? = some x,fun i H=>∃ xs,SqL K H a xs∧xs.length≤i⟩
noncomputable def Itt (K:PySem.W.Frag) (a:Addr):It :=
 ⟨fun i H=>∃ xs x,SqT K H a xs∧xs[i]? = some x,fun i H x H'=>H'=H∧∀ xs,SqT K H a xs→xs[i]? = some x,fun i H=>∃ xs,SqT K H a xs∧xs.length≤i⟩
noncomputable def Itr (lo:Int) (n:Nat):It:=⟨fun i _=>i<n,fun i H x H'=>H'=H∧x = .int (lo+i),fun i _=>n≤i⟩
theorem turn_list {P:Program}{w:World}{K:PySem.W.Frag}{tg:Expr} (a it:Addr):Turn P w K tg (Itl K a) [it] it (fun i h=>h.IsListIter it a i) where
 mem:=by simp
 obj:=fun i h st b hb=>by
  have e:b=it:=by simpa using hb
  subst e;obtain⟨o,e,c,d⟩:=st;exact⟨o,e,fun v z=>by rw[d] at z;cases z⟩
 keep:=fun i h h' st k=>st.at fun o e=>k it (by simp) o e
 item:=by
  intro X hP hw hK hc i pins s σ H E I hf st hg;subst hP hw hK;obtain⟨xs,x,hq,hx⟩:=hg;obtain⟨its,rv,p,hz⟩:=I.list hq;obtain⟨u,hu,ru⟩:=rv.get hx;obtain⟨f0,f1,f2,f3,f4,f5⟩:=hf it (by simp);refine wpAny_pyNext_list_item st p.isList (x:=u) (by simpa using hu) fun h' st' sb=>?_
  have I1:Inv X pins σ H { s with heap:=h' }:=I.turned (t':=s.toks) (fun b o hb e=>(sb.2 b hb).trans e) f0 f1 f3 f4 f5;obtain⟨o,e,c,d⟩:=id st';exact⟨u,rfl,go_of (s:={ s with heap:=h' }) e c d (by decide) ⟨x,H,I1,ru,⟨rfl,fun ys hy=>by rw[I.list_inj hy hq];exact hx⟩,st',fun b hb=>(hf b hb).1⟩⟩
 done:=by
  intro X hP hw hK hc i pins s σ H E I hf st hg;subst hP hw hK;obtain⟨xs,hq,hx⟩:=hg;obtain⟨its,rv,p,hz⟩:=I.list hq;obtain⟨f0,f1,f2,f3,f4,f5⟩:=hf it (by simp);have hl:=rv.length;exact wpAny_pyNext_list_end (I.ok.hd hc) st p.isList (by simp;omega) fun h' eb=>⟨rfl,I.turned (t':=s.toks) (fun b o hb e=>eb b o hb e) f0 f1 f3 f4 f5⟩
 self:=fun _ _ _ _ _ st h=>wpAny_pyIter_listiter st h
theorem turn_tuple {P:Program}{w:World}{K:PySem.W.Frag}{tg:Expr} (a it:Addr):Turn P w K tg (Itt K a) [it] it (fun i h=>h.IsTupleIter it a i) where
 mem:=by simp
 obj:=fun i h st b hb=>by
  have e:b=it:=by simpa using hb
  subst e;obtain⟨o,e,c,d⟩:=st;exact⟨o,e,fun v z=>by rw[d] at z;cases z⟩
 keep:=fun i h h' st k=>st.at fun o e=>k it (by simp) o e
 item:=by
  intro X hP hw hK hc i pins s σ H E I hf st hg;subst hP hw hK;obtain⟨xs,x,hq,hx⟩:=hg;obtain⟨its,rv,p,hz⟩:=I.tuple hq;obtain⟨u,hu,ru⟩:=rv.get hx;obtain⟨f0,f1,f2,f3,f4,f5⟩:=hf it (by simp);refine wpAny_pyNext_tuple_item st (show s.heap.IsTuple a its.toArray from p) (x:=u) (by simpa using hu) fun h' st' sb=>?_
  have I1:Inv X pins σ H { s with heap:=h' }:=I.turned (t':=s.toks) (fun b o hb e=>(sb.2 b hb).trans e) f0 f1 f3 f4 f5;obtain⟨o,e,c,d⟩:=id st';exact⟨u,rfl,go_of (s:={ s with heap:=h' }) e c d (by decide) ⟨x,H,I1,ru,⟨rfl,fun ys hy=>by rw[I.tuple_inj hy hq];exact hx⟩,st',fun b hb=>(hf b hb).1⟩⟩
 done:=by
  intro X hP hw hK hc i pins s σ H E I hf st hg;subst hP hw hK;obtain⟨xs,hq,hx⟩:=hg;obtain⟨its,rv,p,hz⟩:=I.tuple hq;obtain⟨f0,f1,f2,f3,f4,f5⟩:=hf it (by simp);have hl:=rv.length;exact wpAny_pyNext_tuple_end (I.ok.hd hc) st (show s.heap.IsTuple a its.toArray from p) (by simp;omega) fun h' eb=>⟨rfl,I.turned (t':=s.toks) (fun b o hb e=>eb b o hb e) f0 f1 f3 f4 f5⟩
 self:=fun _ _ _ _ _ st h=>wpAny_pyIter_tupleiter st h
theorem turn_range {P:Program}{w:World}{K:PySem.W.Frag}{tg:Expr} (it:Addr) (lo:Int) (n:Nat):Turn P w K tg (Itr lo n) [it] it (fun i h=>IsRangeIter h it (lo+(i:Nat) * 1) ((n:Int)-(i:Nat)) 1) where
 mem:=by simp
 obj:=fun i h st b hb=>by
  have e:b=it:=by simpa using hb
  subst e;exact⟨_,st,fun v z=>by
   have z':Data.fields _=Data.cell v:=z;cases z'⟩
 keep:=fun i h h' st k=>k it (by simp) _ st
 item:=by
  intro X hP hw hK hc i pins s σ H E I hf st hg;subst hP hw hK;obtain⟨f0,f1,f2,f3,f4,f5⟩:=hf it (by simp);have W:=Walks.range (prog:=X.prog) (w:=X.w) (I.ok.hd hc) it lo 1 n;refine W.item i s _ _ hg st fun v h' tk hv st' kk=>?_
  obtain⟨t,rfl⟩:=hv;have I1:Inv X pins σ H { s with heap:=h',toks:=tk }:=I.turned (fun b o hb e=>kk b o (by simpa using hb) e) f0 f1 f3 f4 f5;refine⟨_,rfl,go_of (s:={ s with heap:=h',toks:=tk }) (n := "range_iterator") st' rfl rfl (by decide) ⟨.int (lo+i),H,I1,⟨t,?_⟩,⟨rfl,rfl⟩,st',fun b hb=>(hf b hb).1⟩⟩;rw[Int.mul_one]
 done:=by
  intro X hP hw hK hc i pins s σ H E I hf st hg;subst hP hw hK;obtain⟨f0,f1,f2,f3,f4,f5⟩:=hf it (by simp);exact wpAny_pyNext_range_end (I.ok.hd hc) st (by have:n≤i:=hg;omega) fun h' eb=>⟨rfl,I.turned (t':=s.toks) (fun b o hb e=>eb b o hb e) f0 f1 f3 f4 f5⟩
 self:=fun _ _ _ _ _ st h=>wpAny_pyIter_rangeiter st h
end L2
namespace L2
open PySem PySem.Spec PyProof.Rows
section
variable {X:Cx}{tg:Expr}
noncomputable def iList (K:PySem.W.Frag) (tl:TE):TI:=fun σ H R=>tl σ H fun x H1=>∃ a,x = .ref a∧(∃ xs,SqL K H1 a xs)∧R (Itl K a) H1
noncomputable def iTup (K:PySem.W.Frag) (tl:TE):TI:=fun σ H R=>tl σ H fun x H1=>∃ a,x = .ref a∧(∃ xs,SqT K H1 a xs)∧R (Itt K a) H1
theorem pi_list {l:Expr}{tl:TE} (hl:PE X l tl):PI X tg l (iList X.K tl):=by
 intro pins s σ H R I h;refine thn (hl pins s σ H _ I h) fun v s1 ⟨x,H1,I1,r1,q1⟩=>?_
 obtain⟨a,e,⟨xs,hq⟩,q⟩:=q1;subst e;cases r1;obtain⟨its,rv,p,hz⟩:=I1.list hq;refine wpAny_pyIter_list p.isList ?_;refine⟨s1.heap.objs.size,[s1.heap.objs.size],_,_,H1,rfl,I1.kept (t':=s1.toks) fun b o e=>Heap.get?_push_of_some _ e,turn_list a _,⟨_,Heap.get?_push_size _ rfl,rfl,rfl⟩,fun b hb=>?_,q⟩;have e:b=s1.heap.objs.size:=by simpa using hb
 subst e;exact I1.fpOk (Nat.le_refl _) (I1.hok.fresh (Nat.le_refl _))
theorem pi_tup {l:Expr}{tl:TE} (hl:PE X l tl):PI X tg l (iTup X.K tl):=by
 intro pins s σ H R I h;refine thn (hl pins s σ H _ I h) fun v s1 ⟨x,H1,I1,r1,q1⟩=>?_
 obtain⟨a,e,⟨xs,hq⟩,q⟩:=q1;subst e;cases r1;obtain⟨its,rv,p,hz⟩:=I1.tuple hq;refine wpAny_pyIter_tuple (show s1.heap.IsTuple a its.toArray from p) ?_;refine⟨s1.heap.objs.size,[s1.heap.objs.size],_,_,H1,rfl,I1.kept (t':=s1.toks) fun b o e=>Heap.get?_push_of_some _ e,turn_tuple a _,⟨_,Heap.get?_push_size _ rfl,rfl,rfl⟩,fun b hb=>?_,q⟩;have e:b=s1.heap.objs.size:=by simpa using hb
 subst e;exact I1.fpOk (Nat.le_refl _) (I1.hok.fresh (Nat.le_refl _))
theorem range_it {pins:List (Addr × Obj)} {σ:St}{H:Hp}{s:Shared}{R:It→Hp→Prop}{E:Value→Shared→Prop}{lo hi:Int}{t u v:Tok}{tk:Nat} (I:Inv X pins σ H s) (h1 : -(2^62)≤lo) (h2:lo<2^62) (h3 : -(2^62)≤hi) (h4:hi<2^62)
  (q:R (Itr lo (hi-lo).toNat) H):wpAny (model X.prog X.w) X.A (pyIter (.ref s.heap.objs.size)) (PIE X pins σ tg R) E { s with heap:=s.heap.push { cls := .type "range",data := .fields #[.int lo t,.int hi u,.int 1 v] },toks:=tk }:=by
 refine wpAny_pyIter_range (IsRange.new ..) (small_one h1 h2 h3 h4) ?_;have I1:Inv X pins σ H { s with heap:=s.heap.push { cls := .type "range",data := .fields #[.int lo t,.int hi u,.int 1 v] },toks:=tk }:=I.kept fun b o e=>Heap.get?_push_of_some _ e
 refine⟨(s.heap.push { cls := .type "range",data := .fields #[.int lo t,.int hi u,.int 1 v] }).objs.size,[(s.heap.push { cls := .type "range",data := .fields #[.int lo t,.int hi u,.int 1 v] }).objs.size],_,_,H,rfl,
  I1.kept (t':=tk) fun b o e=>Heap.get?_push_of_some _ e,turn_range _ lo (hi-lo).toNat,?_,fun b hb=>?_,q⟩
 ·have e1:lo+((0:Nat):Int) * 1=lo:=by simp
  have e2:(((hi-lo).toNat:Nat):Int)-((0:Nat):Int)=Builtin.Range.rangeSize lo hi 1:=by rw[rangeSize_one];split <;> omega
  show IsRangeIter _ _ (lo+((0:Nat):Int) * 1) ((((hi-lo).toNat:Nat):Int)-((0:Nat):Int)) 1;rw[e1,e2];exact Heap.get?_push_size _ rfl
 ·have e:b=(s.heap.push { cls := .type "range",data := .fields #[.int lo t,.int hi u,.int 1 v] }).objs.size:=by simpa using hb
  subst e;exact I1.fpOk (Nat.le_refl _) (I1.hok.fresh (Nat.le_refl _))
noncomputable def iRng1 (ta:TA):TI:=fun σ H R=>ta σ H fun vs H1=>∃ j:Int,vs=[.int j] ∧ -(2^62)≤j∧j<2^62∧R (Itr 0 j.toNat) H1
theorem pi_range1 {a:Expr}{ta:TA}{p pos:Pos} (hg:Gl X "range") (hm:X.mg "range" = none) (ha:PA X [a] ta) (hs:starEach [a] X.env=[(false,eval a X.env)]:=by rfl):PI X tg (.Call (.Name "range" p) [a] [] pos) (iRng1 ta):=by
 intro pins s σ H R I h;refine Call_ (ld_blt I hg hm boot_range (PyProof.Rows.callWith_type1 (thn (ha pos pins s σ H _ I h) fun us s1 ⟨vs,H1,I1,r1,q1⟩=>?_) hs rfl));obtain⟨j,e,q1,q2,q⟩:=q1;subst e;cases r1 with
 | cons r rr =>
  cases rr;obtain⟨t,rfl⟩:=r;exact call_range_1 (range_it I1 (by omega) (by omega) q1 q2 (by simpa using q))
noncomputable def tFor (wi:TI) (g:TG) (tb:TS):TS:=fun D σ H=>wi σ H fun J H1=>∃ W:Nat→Nat→St→Hp→Prop,(∃ m,W 0 m σ H1)∧∀ i m σ H,W i m σ H →
 (J.stop i H∧D.nx σ H)∨(J.go i H∧∃ N:St→Hp→Prop,(∀ σ' H',N σ' H'→∃ m',m'<m∧W (i+1) m' σ' H')∧∀ x H',J.yld i H x H'→g x σ H' fun σ2 H2=>tb { D with nx:=N,ct:=N,bk:=D.nx } σ2 H2)
noncomputable def pinsAt (fp:List Addr) (h:Heap):List (Addr × Obj):=fp.filterMap fun b=>(h.get? b).map fun o=>(b,o)
theorem mem_pinsAt {fp:List Addr}{h:Heap}{b:Addr}{o:Obj} (hb:b∈fp) (e:h.get? b=some o):(b,o)∈pinsAt fp h:=List.mem_filterMap.mpr ⟨b,hb,by rw[e];rfl⟩
theorem of_pinsAt {fp:List Addr}{h:Heap}{p:Addr × Obj} (hp:p∈pinsAt fp h):p.1∈fp∧h.get? p.1=some p.2:=by
 obtain⟨b,hb,e⟩:=List.mem_filterMap.mp hp;cases q:h.get? b with
 | none=>rw[q] at e;cases e
 | some o =>
  rw[q] at e;have e':(b,o)=p:=Option.some.inj e;subst e';exact⟨hb,q⟩
theorem Inv.pinned {pins:List (Addr × Obj)} {σ:St}{H:Hp}{s:Shared}{fp:List Addr} (I:Inv X pins σ H s) (hf:∀ b∈fp,FpOk X pins H b) (ho:∀ b∈fp,∃ o,s.heap.get? b=some o∧∀ v,o.data ≠ .cell v):Inv X (pins++pinsAt fp s.heap) σ H s :=
 I.pins_of fun p hp=>(List.mem_append.mp hp).elim (fun z=>I.pin p (List.mem_append_right _ z)) fun z=>by
  obtain⟨hb,e⟩:=of_pinsAt z;obtain⟨f0,f1,f2,_⟩:=hf p.1 hb;obtain⟨o,e',d⟩:=ho p.1 hb;rw[e] at e';cases e';exact⟨e,f0,f1,f2,d⟩
theorem Inv.unpinned {pins pl:List (Addr × Obj)} {σ:St}{H:Hp}{s:Shared} (I:Inv X (pins++pl) σ H s):Inv X pins σ H s:=I.pins_of fun p hp=>I.pin p (List.mem_append_right _ (List.mem_append_left _ hp))
theorem ps_for {iter:Expr}{body:List Stmt}{wi:TI}{g:TG}{tb:TS}{pos:Pos} (hp:PassesOwn (model X.prog X.w) X.A X.env X.xe) (hc:X.calm=true) (hi:PI X tg iter wi) (hg:PG X tg g) (hb:PSs X body tb)
  (hs:∀ x,foldedSetIterable iter X.env x=pure x:=by intro _;rfl):PS X (.For tg iter body [] pos) (tFor wi g tb):=by
 intro pins s σ H D I h;refine wpAny_For (thn (hi pins s σ H _ I h) fun v s1 h1=>thn h1 fun itv s2 h2=>?_) hs;obtain⟨it,fp,tn,J,H2,e,I2,T,st2,f2,W,⟨m0,w0⟩,turn⟩:=h2;subst e;have stat:∀ {H':Hp},(∀ b∈fp,H' b=none)→∀ b∈fp,FpOk X pins H' b:=fun hn b hb=>⟨hn b hb,(f2 b hb).2⟩
 refine codeAny_forLoop_any (fun n s'=>∃ i σ' H',Inv X pins σ' H' s'∧tn i s'.heap∧(∀ b∈fp,H' b=none)∧W i n σ' H') ?_ m0 ⟨0,σ,H2,I2,st2,fun b hb=>(f2 b hb).1,w0⟩;rintro n s3 ⟨i,σ3,H3,I3,st3,fr3,w3⟩;rcases turn i n σ3 H3 w3 with ⟨stop,qn⟩ | ⟨go,N,hN,step⟩
 ·refine wpAny_passesOwn hp (thn (T.done X rfl rfl rfl hc i pins s3 σ3 H3 X.xe I3 (stat fr3) st3 stop) fun r s4 ⟨hr,I4⟩=>?_);subst hr;exact wpAny_execs_nil ⟨σ3,H3,I4,qn⟩
 ·refine wpAny_passesOwn hp (thn (T.item X rfl rfl rfl hc i pins s3 σ3 H3 X.xe I3 (stat fr3) st3 go) fun r s4 ⟨u,hr,h4⟩=>?_);subst hr;refine wpAny_passesOwn hp (thn h4 fun _ s5 ⟨x,H5,I5,r5,y5,st5,fr5⟩=>?_);have I5':=I5.pinned (stat fr5) (T.obj _ _ st5);refine wpAny_passesOwn hp (thn (hg _ s5 σ3 H5 x u _ I5' r5 (step x H5 y5)) fun _ s6 ⟨σ6,H6,I6,q6⟩=>?_);refine wpAny_passesOwn hp (thn (hb _ s6 σ6 H6 _ I6 q6) fun f s7 q7=>?_);have again:∀ {σ7:St}{H7:Hp},Inv X (pins++pinsAt fp s5.heap) σ7 H7 s7→N σ7 H7→∃ m,m<n∧∃ i σ' H',Inv X pins σ' H' s7∧tn i s7.heap∧(∀ b∈fp,H' b=none)∧W i m σ' H':=fun {σ7 H7} I7 n7=>by
   obtain⟨m',hm,w7⟩:=hN σ7 H7 n7;refine⟨m',hm,i+1,σ7,H7,I7.unpinned,T.keep _ _ _ st5 fun b hb o e=>(I7.pin (b,o) (List.mem_append_right _ (List.mem_append_right _ (mem_pinsAt hb e)))).1,fun b hb=>?_,w7⟩;obtain⟨o,e,d⟩:=T.obj _ _ st5 b hb;exact (I7.pin (b,o) (List.mem_append_right _ (List.mem_append_right _ (mem_pinsAt hb e)))).2.1
  cases f with
  | next=>obtain⟨σ7,H7,I7,n7⟩:=q7;exact again I7 n7
  | cont=>obtain⟨σ7,H7,I7,n7⟩:=q7;exact again I7 n7
  | brk=>obtain⟨σ7,H7,I7,q7⟩:=q7;exact⟨σ7,H7,I7.unpinned,q7⟩
  | ret v=>obtain⟨x7,σ7,H7,I7,r7,q7⟩:=q7;exact⟨x7,σ7,H7,I7.unpinned,r7,q7⟩
end
theorem for_list {K:PySem.W.Frag}{a:Addr}{xs:List V}{g:TG}{tb:TS}{D:Ends} {σ:St}{H:Hp} (Pv:Nat→St→Hp→Prop) (h0:Pv 0 σ H) (hl:∀ i σ H,i≤xs.length→Pv i σ H→SqL K H a xs)
  (hs:∀ i x σ H,xs[i]? = some x→Pv i σ H→g x σ H fun σ2 H2=>tb { D with nx:=Pv (i+1),ct:=Pv (i+1),bk:=D.nx } σ2 H2) (hd:∀ σ H,Pv xs.length σ H→D.nx σ H) :
  ∃ W:Nat→Nat→St→Hp→Prop,(∃ m,W 0 m σ H)∧∀ i m σ H,W i m σ H →
   ((Itl K a).stop i H∧D.nx σ H)∨((Itl K a).go i H∧∃ N:St→Hp→Prop,(∀ σ' H',N σ' H'→∃ m',m'<m∧W (i+1) m' σ' H')∧∀ x H',(Itl K a).yld i H x H'→g x σ H' fun σ2 H2=>tb { D with nx:=N,ct:=N,bk:=D.nx } σ2 H2):=by
 refine⟨fun i m σ H=>m=xs.length-i∧i≤xs.length∧Pv i σ H,⟨xs.length,by simp,Nat.zero_le _,h0⟩,?_⟩;rintro i m σ H ⟨rfl,hi,p⟩;have q:=hl i σ H hi p;by_cases hlt:i<xs.length
 ·refine .inr ⟨⟨xs,xs[i],q,by simp[hlt]⟩,Pv (i+1),fun σ' H' p'=>⟨xs.length-(i+1),by omega,rfl,hlt,p'⟩,fun x H' y=>?_⟩;obtain⟨e,y⟩:=y;subst e;exact hs i x σ _ (y xs q) p
 ·have e:i=xs.length:=by omega
  subst e;exact .inl ⟨⟨xs,q,Nat.le_refl _⟩,hd σ H p⟩
theorem for_tup {K:PySem.W.Frag}{a:Addr}{xs:List V}{g:TG}{tb:TS}{D:Ends} {σ:St}{H:Hp} (Pv:Nat→St→Hp→Prop) (h0:Pv 0 σ H) (hl:∀ i σ H,i≤xs.length→Pv i σ H→SqT K H a xs)
  (hs:∀ i x σ H,xs[i]? = some x→Pv i σ H→g x σ H fun σ2 H2=>tb { D with nx:=Pv (i+1),ct:=Pv (i+1),bk:=D.nx } σ2 H2) (hd:∀ σ H,Pv xs.length σ H→D.nx σ H) :
  ∃ W:Nat→Nat→St→Hp→Prop,(∃ m,W 0 m σ H)∧∀ i m σ H,W i m σ H →
   ((Itt K a).stop i H∧D.nx σ H)∨((Itt K a).go i H∧∃ N:St→Hp→Prop,(∀ σ' H',N σ' H'→∃ m',m'<m∧W (i+1) m' σ' H')∧∀ x H',(Itt K a).yld i H x H'→g x σ H' fun σ2 H2=>tb { D with nx:=N,ct:=N,bk:=D.nx } σ2 H2):=by
 refine⟨fun i m σ H=>m=xs.length-i∧i≤xs.length∧Pv i σ H,⟨xs.length,by simp,Nat.zero_le _,h0⟩,?_⟩;rintro i m σ H ⟨rfl,hi,p⟩;have q:=hl i σ H hi p;by_cases hlt:i<xs.length
 ·refine .inr ⟨⟨xs,xs[i],q,by simp[hlt]⟩,Pv (i+1),fun σ' H' p'=>⟨xs.length-(i+1),by omega,rfl,hlt,p'⟩,fun x H' y=>?_⟩;obtain⟨e,y⟩:=y;subst e;exact hs i x σ _ (y xs q) p
 ·have e:i=xs.length:=by omega
  subst e;exact .inl ⟨⟨xs,q,Nat.le_refl _⟩,hd σ H p⟩
theorem for_range {lo:Int}{n:Nat}{g:TG}{tb:TS}{D:Ends} {σ:St}{H:Hp} (Pv:Nat→St→Hp→Prop) (h0:Pv 0 σ H)
  (hs:∀ i σ H,i<n→Pv i σ H→g (.int (lo+i)) σ H fun σ2 H2=>tb { D with nx:=Pv (i+1),ct:=Pv (i+1),bk:=D.nx } σ2 H2) (hd:∀ σ H,Pv n σ H→D.nx σ H) :
  ∃ W:Nat→Nat→St→Hp→Prop,(∃ m,W 0 m σ H)∧∀ i m σ H,W i m σ H →
   ((Itr lo n).stop i H∧D.nx σ H)∨((Itr lo n).go i H∧∃ N:St→Hp→Prop,(∀ σ' H',N σ' H'→∃ m',m'<m∧W (i+1) m' σ' H')∧∀ x H',(Itr lo n).yld i H x H'→g x σ H' fun σ2 H2=>tb { D with nx:=N,ct:=N,bk:=D.nx } σ2 H2):=by
 refine⟨fun i m σ H=>m=n-i∧i≤n∧Pv i σ H,⟨n,by simp,Nat.zero_le _,h0⟩,?_⟩;rintro i m σ H ⟨rfl,hi,p⟩;by_cases hlt:i<n
 ·refine .inr ⟨hlt,Pv (i+1),fun σ' H' p'=>⟨n-(i+1),by omega,rfl,hlt,p'⟩,fun x H' y=>?_⟩;obtain⟨e,y⟩:=y;subst e y;exact hs i σ _ hlt p
 ·have e:i=n:=by omega
  subst e;exact .inl ⟨Nat.le_refl _,hd σ H p⟩
theorem while_by {c:TT}{tb:TS}{D:Ends} {σ:St}{H:Hp} (Pv:St→Hp→Prop) (μ : St→Hp→Nat) (h0:Pv σ H)
  (hs:∀ σ H,Pv σ H→c σ H fun b H1=>if b=true then tb { D with nx:=fun σ' H'=>Pv σ' H' ∧ μ σ' H' < μ σ H,ct:=fun σ' H'=>Pv σ' H' ∧ μ σ' H' < μ σ H,bk:=D.nx } σ H1 else D.nx σ H1)
  (mono:∀ σ H Q Q',(∀ b H1,Q b H1→Q' b H1)→c σ H Q→c σ H Q'):tWhile c tb D σ H:=by
 refine⟨fun m σ H=>m = μ σ H∧Pv σ H,⟨_,rfl,h0⟩,?_⟩;rintro m σ H ⟨rfl,p⟩;refine mono σ H _ _ (fun b H1 q=>?_) (hs σ H p);cases b with
 | true=>exact⟨_,fun σ' H' ⟨p',l⟩=>⟨_,l,rfl,p'⟩,q⟩
 | false=>exact q
end L2
namespace L2
open PySem PySem.Spec PyProof.Rows
noncomputable abbrev R2:=V→V→Hp→VK→Prop
noncomputable def OpR (X:Cx) (f:Value→Value→Sem Value) (r:R2):Prop :=
 ∀ (pins:List (Addr × Obj)) (s:Shared) (σ:St) (H:Hp) (x y:V) (v u:Value) (Q:VK),Inv X pins σ H s→RelV x v→RelV y u→r x y H Q →
  wpAny (model X.prog X.w) X.A (f v u) (EP X pins σ Q) X.xe s
noncomputable def UnR (X:Cx) (f:Value→Sem Value) (r:V→Hp→VK→Prop):Prop :=
 ∀ (pins:List (Addr × Obj)) (s:Shared) (σ:St) (H:Hp) (x:V) (v:Value) (Q:VK),Inv X pins σ H s→RelV x v→r x H Q →
  wpAny (model X.prog X.w) X.A (f v) (EP X pins σ Q) X.xe s
noncomputable def CallR (X:Cx) (f:Value) (r:List V→Hp→VK→Prop):Prop :=
 ∀ (pins:List (Addr × Obj)) (s:Shared) (σ:St) (H:Hp) (xs:List V) (us:List Value) (Q:VK),Inv X pins σ H s→Vals xs us→r xs H Q →
  wpAny (model X.prog X.w) X.A (call f us) (EP X pins σ Q) X.xe s
noncomputable def TruR (X:Cx) (r:V→Hp→(Bool→Hp→Prop)→Prop):Prop :=
 ∀ (pins:List (Addr × Obj)) (s:Shared) (σ:St) (H:Hp) (x:V) (v:Value) (Q:Bool→Hp→Prop),Inv X pins σ H s→RelV x v→r x H Q →
  wpAny (model X.prog X.w) X.A (truthy v) (TP X pins σ Q) X.xe s
noncomputable def tOp (r:R2) (ta tb:TE):TE:=fun σ H Q=>ta σ H fun x H1=>tb σ H1 fun y H2=>r x y H2 Q
noncomputable def tUn (r:V→Hp→VK→Prop) (ta:TE):TE:=fun σ H Q=>ta σ H fun x H1=>r x H1 Q
noncomputable def rI (C:Int→Int→Prop) (g:Int→Int→V):R2:=fun x y H Q=>∃ i j,x = .int i∧y = .int j∧C i j∧Q (g i j) H
noncomputable def rI0 (g:Int→Int→V):R2:=fun x y H Q=>∃ i j,x = .int i∧y = .int j∧Q (g i j) H
noncomputable def rU (g:Int→V):V→Hp→VK→Prop:=fun x H Q=>∃ i,x = .int i∧Q (g i) H
section
variable {X:Cx}{a b c:Expr}{ta tb tc:TE}{pos:Pos}
theorem binT (ha:PE X a ta) (hb:PE X b tb) {pins:List (Addr × Obj)}{s:Shared} {σ:St}{H:Hp}{R:V→V→Hp→Prop} (I:Inv X pins σ H s)
  (h:ta σ H fun x H1=>tb σ H1 fun y H2=>R x y H2) {Q:Value→Shared→Prop}{f:Value→Value→Sem Value}
  (hf:∀ v u s2 x y H2,Inv X pins σ H2 s2→RelV x v→RelV y u→R x y H2→wpAny (model X.prog X.w) X.A (f v u) Q X.xe s2) :
  wpAny (model X.prog X.w) X.A (eval a X.env) (fun v s₁=>wpAny (model X.prog X.w) X.A (eval b X.env) (fun u s₂=>wpAny (model X.prog X.w) X.A (f v u) Q X.xe s₂) X.xe s₁) X.xe s:=by
 refine thn (ha pins s σ H _ I h) fun v s1 ⟨x,H1,I1,r1,q1⟩=>?_
 refine thn (hb pins s1 σ H1 _ I1 q1) fun u s2 ⟨y,H2,I2,r2,q2⟩=>?_
 exact hf v u s2 x y H2 I2 r1 r2 q2
theorem pe_op {op:Operator}{r:R2} (ho:OpR X (binaryOp op) r) (ha:PE X a ta) (hb:PE X b tb):PE X (.BinOp a op b pos) (tOp r ta tb):=by
 intro pins s σ H Q I h;exact wpAny_BinOp (binT ha hb I h fun v u s2 x y H2 I2 rx ry q=>ho pins s2 σ H2 x y v u Q I2 rx ry q)
theorem pe_un {op:UnaryOp}{r:V→Hp→VK→Prop} (ho:UnR X (unaryOp op) r) (ha:PE X a ta):PE X (.UnaryOp op a pos) (tUn r ta):=by
 intro pins s σ H Q I h;exact UnaryOp_ (thn (ha pins s σ H _ I h) fun v s1 ⟨x,H1,I1,r1,q1⟩=>ho pins s1 σ H1 x v Q I1 r1 q1)
theorem opI {f:Value→Value→Sem Value}{C:Int→Int→Prop}{g:Int→Int→Int}
  (rule:∀ (i j:Int) (t u:Tok) (s:Shared) (Q:Value→Shared→Prop) (E:Value→Shared→Prop),C i j→Q (.int (g i j) s.toks) { s with toks:=s.toks+1 }→wpAny (model X.prog X.w) X.A (f (.int i t) (.int j u)) Q E s) :
  OpR X f (rI C fun i j=>.int (g i j)):=by
 intro pins s σ H x y v u Q I rx ry h;obtain⟨i,j,rfl,rfl,hc,q⟩:=h;obtain⟨t,rfl⟩:=rx;obtain⟨t',rfl⟩:=ry;exact rule i j t t' s _ _ hc ⟨.int (g i j),H,I.tok _,⟨_,rfl⟩,q⟩
theorem opI0 {f:Value→Value→Sem Value}{g:Int→Int→Int}
  (rule:∀ (i j:Int) (t u:Tok) (s:Shared) (Q:Value→Shared→Prop) (E:Value→Shared→Prop),Q (.int (g i j) s.toks) { s with toks:=s.toks+1 }→wpAny (model X.prog X.w) X.A (f (.int i t) (.int j u)) Q E s) :
  OpR X f (rI0 fun i j=>.int (g i j)):=by
 intro pins s σ H x y v u Q I rx ry h;obtain⟨i,j,rfl,rfl,q⟩:=h;obtain⟨t,rfl⟩:=rx;obtain⟨t',rfl⟩:=ry;exact rule i j t t' s _ _ ⟨.int (g i j),H,I.tok _,⟨_,rfl⟩,q⟩
theorem opB0 {f:Value→Value→Sem Value}{g:Int→Int→Bool}
  (rule:∀ (i j:Int) (t u:Tok) (s:Shared) (Q:Value→Shared→Prop) (E:Value→Shared→Prop),Q (.bool (g i j)) s→wpAny (model X.prog X.w) X.A (f (.int i t) (.int j u)) Q E s) :
  OpR X f (rI0 fun i j=>.bl (g i j)):=by
 intro pins s σ H x y v u Q I rx ry h;obtain⟨i,j,rfl,rfl,q⟩:=h;obtain⟨t,rfl⟩:=rx;obtain⟨t',rfl⟩:=ry;exact rule i j t t' s _ _ ⟨.bl (g i j),H,I,rfl,q⟩
noncomputable def CPow (i j:Int):Prop:=0≤j∧j≤1000000∧i.natAbs<2^64
noncomputable def CMul (i j:Int):Prop:=(-(2^64)<i∧i<2^64)∨(-(2^64)<j∧j<2^64)
theorem CMul.ok {i j:Int} (h:CMul i j):IntMulOk i j:=by
 rcases h with ⟨h1,h2⟩ | ⟨h1,h2⟩
 ·exact .of_left (intBits_le_64 h1 h2)
 ·exact .of_right (intBits_le_64 h1 h2)
theorem op_add:OpR X (binaryOp .Add) (rI0 fun i j=>.int (i+j)):=opI0 fun _ _ _ _ _ _ _ q=>add_int q
theorem op_sub:OpR X (binaryOp .Sub) (rI0 fun i j=>.int (i-j)):=opI0 fun _ _ _ _ _ _ _ q=>sub_int q
theorem op_mod:OpR X (binaryOp .Mod) (rI (fun _ j=>0<j) fun i j=>.int (i % j)):=opI fun i j _ _ _ _ _ hc q=>by
 have h1:(0:Int)<j:=hc;exact mod_int' (by omega) (by rw[Int.fmod_eq_emod_of_nonneg i (by omega)];exact q)
theorem op_shl:OpR X (binaryOp .LShift) (rI CPow fun i j=>.int (i * 2^j.toNat)):=opI fun _ _ _ _ _ _ _ hc q=>lshift_int_small hc.1 hc.2.1 hc.2.2 q
theorem op_and:OpR X (binaryOp .BitAnd) (rI0 fun i j=>.int (Builtin.bitAnd i j)):=opI0 fun _ _ _ _ _ _ _ q=>and_int q
theorem op_or:OpR X (binaryOp .BitOr) (rI0 fun i j=>.int (Builtin.bitOr i j)):=opI0 fun _ _ _ _ _ _ _ q=>or_int q
theorem op_xor:OpR X (binaryOp .BitXor) (rI0 fun i j=>.int (Builtin.bitXor i j)):=opI0 fun _ _ _ _ _ _ _ q=>xor_int q
theorem unI {f:Value→Sem Value}{g:Int→Int}
  (rule:∀ (i:Int) (t:Tok) (s:Shared) (Q:Value→Shared→Prop) (E:Value→Shared→Prop),Q (.int (g i) s.toks) { s with toks:=s.toks+1 }→wpAny (model X.prog X.w) X.A (f (.int i t)) Q E s) :
  UnR X f (rU fun i=>.int (g i)):=by
 intro pins s σ H x v Q I rx h;obtain⟨i,rfl,q⟩:=h;obtain⟨t,rfl⟩:=rx;exact rule i t s _ _ ⟨.int (g i),H,I.tok _,⟨_,rfl⟩,q⟩
theorem un_neg:UnR X (unaryOp .USub) (rU fun i=>.int (-i)):=unI fun _ _ _ _ _ q=>neg_int q
end
noncomputable def scal:V→V→Bool
 | .non,.non=>true | .non,.int _=>true | .int _,.non=>true | .non,.bl _=>true | .bl _,.non=>true | .non,.str _=>true | .str _,.non=>true
 | .int _,.int _=>true | .bl _,.bl _=>true | .str _,.str _=>true | .byt _,.byt _=>true
 | .int _,.str _=>true | .str _,.int _=>true | .bl _,.str _=>true | .str _,.bl _=>true
 | _,_=>false
noncomputable def rEq:R2:=fun x y H Q=>scal x y=true∧Q (.bl (decide (x=y))) H
noncomputable def rNe:R2:=fun x y H Q=>scal x y=true∧Q (.bl (!decide (x=y))) H
theorem dec_int {i j:Int}:decide (V.int i=V.int j)=(i == j):=by
 rw[Bool.eq_iff_iff];simp
theorem dec_bl {i j:Bool}:decide (V.bl i=V.bl j)=(i == j):=by
 rw[Bool.eq_iff_iff];simp
theorem dec_str {i j:Str}:decide (V.str i=V.str j)=(i == j):=by
 rw[Bool.eq_iff_iff];simp
theorem dec_byt {i j:Array UInt8}:decide (V.byt i=V.byt j)=(i.toList == j.toList):=by
 rw[Bool.eq_iff_iff];cases i;cases j;simp
section
variable {X:Cx}{a b c:Expr}{ta tb tc:TE}{pos:Pos}
theorem fin_bl {pins:List (Addr × Obj)} {σ:St}{H:Hp}{s:Shared}{Q:VK}{k k':Bool} (I:Inv X pins σ H s) (q:Q (.bl k) H) (e:k=k'):EP X pins σ Q (.bool k') s:=by
 subst e;exact⟨.bl k,H,I,rfl,q⟩
theorem op_eq:OpR X (compareOp .Eq) rEq:=by
 intro pins s σ H x y v u Q I rx ry h;obtain⟨hs,q⟩:=h;cases x with
 | non =>
  cases rx;cases y with
  | non=>cases ry;exact PySem.EqNone.eq_none_none (fin_bl I q (by simp))
  | bl j=>cases ry;exact PySem.EqNone.eq_none_bool (fin_bl I q (by simp))
  | int j=>obtain⟨t',rfl⟩:=ry;exact PySem.EqNone.eq_none_int (fin_bl I q (by simp))
  | str j=>obtain⟨t',rfl⟩:=ry;exact PySem.EqNone.eq_none_str (fin_bl I q (by simp))
  | _=>exact absurd (show false=true from hs) Bool.false_ne_true
 | bl i =>
  cases rx;cases y with
  | non=>cases ry;exact PySem.EqNone.eq_bool_none (fin_bl I q (by simp))
  | bl j=>cases ry;exact eq_bool (fin_bl I q dec_bl)
  | str j=>obtain⟨t',rfl⟩:=ry;exact PySem.EqMixed.eq_bool_str (fin_bl I q (by simp))
  | _=>exact absurd (show false=true from hs) Bool.false_ne_true
 | int i =>
  obtain⟨t,rfl⟩:=rx;cases y with
  | non=>cases ry;exact PySem.EqNone.eq_int_none (fin_bl I q (by simp))
  | int j=>obtain⟨t',rfl⟩:=ry;exact eq_int (fin_bl I q dec_int)
  | str j=>obtain⟨t',rfl⟩:=ry;exact PySem.EqMixed.eq_int_str (fin_bl I q (by simp))
  | _=>exact absurd (show false=true from hs) Bool.false_ne_true
 | str i =>
  obtain⟨t,rfl⟩:=rx;cases y with
  | non=>cases ry;exact PySem.EqNone.eq_str_none (fin_bl I q (by simp))
  | bl j=>cases ry;exact PySem.EqMixed.eq_str_bool (fin_bl I q (by simp))
  | int j=>obtain⟨t',rfl⟩:=ry;exact PySem.EqMixed.eq_str_int (fin_bl I q (by simp))
  | str j=>obtain⟨t',rfl⟩:=ry;exact eq_str (fin_bl I q dec_str)
  | _=>exact absurd (show false=true from hs) Bool.false_ne_true
 | byt i =>
  obtain⟨t,rfl⟩:=rx;cases y with
  | byt j=>obtain⟨t',rfl⟩:=ry;exact PySem.W.eq_bytes (fin_bl I q dec_byt)
  | _=>exact absurd (show false=true from hs) Bool.false_ne_true
 | _=>cases y <;> exact absurd (show false=true from hs) Bool.false_ne_true
theorem op_ne:OpR X (compareOp .NotEq) rNe:=by
 intro pins s σ H x y v u Q I rx ry h;obtain⟨hs,q⟩:=h;cases x with
 | non =>
  cases rx;cases y with
  | non=>cases ry;exact PySem.EqNone.ne_none_none (fin_bl I q (by simp))
  | bl j=>cases ry;exact PySem.EqNone.ne_none_bool (fin_bl I q (by simp))
  | int j=>obtain⟨t',rfl⟩:=ry;exact PySem.EqNone.ne_none_int (fin_bl I q (by simp))
  | str j=>obtain⟨t',rfl⟩:=ry;exact PySem.EqNone.ne_none_str (fin_bl I q (by simp))
  | _=>exact absurd (show false=true from hs) Bool.false_ne_true
 | bl i =>
  cases rx;cases y with
  | non=>cases ry;exact PySem.EqNone.ne_bool_none (fin_bl I q (by simp))
  | bl j=>cases ry;exact ne_bool (fin_bl I q (congrArg not dec_bl))
  | str j=>obtain⟨t',rfl⟩:=ry;exact PySem.EqMixed.ne_bool_str (fin_bl I q (by simp))
  | _=>exact absurd (show false=true from hs) Bool.false_ne_true
 | int i =>
  obtain⟨t,rfl⟩:=rx;cases y with
  | non=>cases ry;exact PySem.EqNone.ne_int_none (fin_bl I q (by simp))
  | int j=>obtain⟨t',rfl⟩:=ry;exact ne_int (fin_bl I q (congrArg not dec_int))
  | str j=>obtain⟨t',rfl⟩:=ry;exact PySem.EqMixed.ne_int_str (fin_bl I q (by simp))
  | _=>exact absurd (show false=true from hs) Bool.false_ne_true
 | str i =>
  obtain⟨t,rfl⟩:=rx;cases y with
  | non=>cases ry;exact PySem.EqNone.ne_str_none (fin_bl I q (by simp))
  | bl j=>cases ry;exact PySem.EqMixed.ne_str_bool (fin_bl I q (by simp))
  | int j=>obtain⟨t',rfl⟩:=ry;exact PySem.EqMixed.ne_str_int (fin_bl I q (by simp))
  | str j=>obtain⟨t',rfl⟩:=ry;exact ne_str (fin_bl I q (congrArg not dec_str))
  | _=>exact absurd (show false=true from hs) Bool.false_ne_true
 | byt i =>
  obtain⟨t,rfl⟩:=rx;cases y with
  | byt j=>obtain⟨t',rfl⟩:=ry;exact PySem.W.ne_bytes (fin_bl I q (congrArg not dec_byt))
  | _=>exact absurd (show false=true from hs) Bool.false_ne_true
 | _=>cases y <;> exact absurd (show false=true from hs) Bool.false_ne_true
theorem op_lt:OpR X (compareOp .Lt) (rI0 fun i j=>.bl (decide (i<j))):=opB0 fun _ _ _ _ _ _ _ q=>lt_int q
theorem op_le:OpR X (compareOp .LtE) (rI0 fun i j=>.bl (decide (i≤j))):=opB0 fun _ _ _ _ _ _ _ q=>le_int q
theorem op_gt:OpR X (compareOp .Gt) (rI0 fun i j=>.bl (decide (j<i))):=opB0 fun _ _ _ _ _ _ _ q=>gt_int q
theorem op_isN:OpR X (compareOp .Is) (fun x y H Q=>y = .non∧Q (.bl (decide (x = .non))) H):=by
 intro pins s σ H x y v u Q I rx ry h;obtain⟨rfl,q⟩:=h;cases ry;refine is_none_gen (fin_bl I q ?_);cases x <;> first
  | (cases rx;rfl)
  | (obtain⟨t,rfl⟩:=rx;rfl)
theorem nomark (b:Expr) {op:CmpOp} (h:op ≠ .In:=by decide) (h2:op ≠ .NotIn:=by decide):behindInMarks op b=false:=by
 have e1:(op == CmpOp.In)=false:=by cases op <;> first | rfl | exact absurd rfl h
 have e2:(op == CmpOp.NotIn)=false:=by cases op <;> first | rfl | exact absurd rfl h2
 cases b with
 | Set elts k pos=>show (k == 0 && (op == CmpOp.In || op == CmpOp.NotIn) && _)=false;rw[e1,e2,Bool.or_false,Bool.and_false,Bool.false_and]
 | _=>rfl
theorem pe_cmpR {op:CmpOp}{r:R2} (ho:OpR X (compareOp op) r) (ha:PE X a ta) (hb:PE X b tb) (hm:behindInMarks op b=false):PE X (.Compare a [op] [b] pos) (tOp r ta tb):=by
 intro pins s σ H Q I h;exact wpAny_Compare1 (binT ha hb I h fun v u s2 x y H2 I2 rx ry q=>ho pins s2 σ H2 x y v u Q I2 rx ry q) hm
noncomputable def tTest (t:TE):TT:=fun σ H Q=>t σ H fun x H'=>∃ k,x = .bl k∧Q k H'
theorem pt_cmpR {op:CmpOp}{r:R2} (ho:OpR X (compareOp op) r) (ha:PE X a ta) (hb:PE X b tb) (hm:behindInMarks op b=false):PT X (.Compare a [op] [b] pos) (tTest (tOp r ta tb)):=by
 intro pins s σ H Q I h;refine wpAny_isTrue_Compare1 (thn (ha pins s σ H _ I h) fun v s1 ⟨x,H1,I1,r1,q1⟩=>thn (hb pins s1 σ H1 _ I1 q1) fun u s2 ⟨y,H2,I2,r2,q2⟩ =>
  thn (ho pins s2 σ H2 x y v u _ I2 r1 r2 q2) fun c s3 ⟨z,H3,I3,r3,k,e,q3⟩=>?_) hm
 subst e;cases r3;exact wpAny_truthy_bool ⟨H3,I3,q3⟩
noncomputable def TruV (K:PySem.W.Frag) (x:V) (H:Hp) (k:Bool):Prop :=
 match x with
 | .non=>k=false
 | .bl b=>k=b
 | .int i=>k=(i != 0)
 | .str y=>y.length≤sizeLine∧k=((y.length:Int) != 0)
 | .byt y=>y.size≤sizeLine∧k=((y.size:Int) != 0)
 | .ref p=>(∃ xs,SqL K H p xs∧k = !xs.isEmpty)∨(∃ xs,SqT K H p xs∧k = !xs.isEmpty)∨∃ kvs,H p=some (.dK kvs)∧k = !kvs.isEmpty
 | _=>False
theorem isEmpty_kv {κ : Type}{kvs:List (κ × V)}{vs:List (κ × Value)} (r:KV kvs vs):(!vs.isEmpty) = !kvs.isEmpty:=by
 cases r <;> rfl
theorem isEmpty_of {xs:List V}{its:List Value} (r:Vals xs its):(!its.toArray.isEmpty) = !xs.isEmpty:=by
 cases r <;> simp
theorem line63:(sizeLine:Nat)<2^63:=by rw[sizeLine_eq];decide
theorem tru_ok:TruR X (fun x H Q=>∃ k,TruV X.K x H k∧Q k H):=by
 intro pins s σ H x v Q I rx h;obtain⟨k,e,q⟩:=h;have hl:=line63;have hs:sizeLine=16777216:=sizeLine_eq;cases x with
 | non =>
  cases rx;have e':k=false:=e;subst e';exact truthy_none ⟨H,I,q⟩
 | bl b =>
  cases rx;have e':k=b:=e;subst e';exact wpAny_truthy_bool ⟨H,I,q⟩
 | int i =>
  obtain⟨t,rfl⟩:=rx;have e':k=(i != 0):=e;subst e';exact PySem.P.truthy_int ⟨H,I,q⟩
 | str y =>
  obtain⟨t,rfl⟩:=rx;obtain⟨hy,e'⟩:y.length≤sizeLine∧k=((y.length:Int) != 0):=e;subst e';exact PySem.P.truthy_str (by omega) ⟨H,I.tok _,q⟩
 | byt y =>
  obtain⟨t,rfl⟩:=rx;obtain⟨hy,e'⟩:y.size≤sizeLine∧k=((y.size:Int) != 0):=e;subst e';exact PySem.W.truthy_bytes (by omega) ⟨H,I.tok _,q⟩
 | ref p =>
  cases rx;have e':(∃ xs,SqL X.K H p xs∧k = !xs.isEmpty)∨(∃ xs,SqT X.K H p xs∧k = !xs.isEmpty)∨∃ kvs,H p=some (.dK kvs)∧k = !kvs.isEmpty:=e;rcases e' with ⟨xs,hx,e'⟩ | ⟨xs,hx,e'⟩ | ⟨kvs,hx,e'⟩
  ·subst e';obtain⟨its,r,pl,hz⟩:=I.list hx;have hlen:=r.length;exact wpAny_truthy_list pl.isList (by simp only[List.size_toArray];omega) ⟨H,I.tok _,by rw[isEmpty_of r];exact q⟩
  ·subst e';obtain⟨its,r,pl,hz⟩:=I.tuple hx;have hlen:=r.length;exact truthy_tuple pl (by simp only[List.size_toArray];omega) ⟨H,I.tok _,by rw[isEmpty_of r];exact q⟩
  ·subst e';obtain⟨hz,hS,vs,r,m⟩:kvs.length≤sizeLine∧(p == sysModules)=false∧∃ vs,KV kvs vs∧s.heap.DictOf (mixKind X.prog X.w) p vs:=I.hok p _ hx;have hlen:kvs.length=vs.length:=Paired.length r;exact wpAny_truthy_dict hS m (by omega) ⟨H,I.tok _,by rw[isEmpty_kv r];exact q⟩
 | _=>exact (show False from e).elim
theorem pt_truth (ha:PE X a ta) (he:∀ whole,isTrue a X.env whole=(do let v ← whole;standAt a.pos;holding [v] (truthy v))) :
  PT X a (fun σ H Q=>ta σ H fun x H'=>∃ k,TruV X.K x H' k∧Q k H'):=by
 intro pins s σ H Q I h;exact isTrue_plain (thn (ha pins s σ H _ I h) fun v s1 ⟨x,H1,I1,r1,q1⟩=>tru_ok pins s1 σ H1 x v Q I1 r1 q1) (he _)
theorem op_add_str:OpR X (binaryOp .Add) (fun x y H Q=>∃ i j,x = .str i∧y = .str j∧i.length+j.length≤sizeLine∧Q (.str (i++j)) H):=by
 intro pins s σ H x y v u Q I rx ry h;obtain⟨i,j,rfl,rfl,hz,q⟩:=h;obtain⟨t,rfl⟩:=rx;obtain⟨t',rfl⟩:=ry;exact add_str (fun t' tk=>⟨.str (i++j),H,I.tok _,⟨_,rfl⟩,q⟩) hz
theorem vals1 {x:V}{us:List Value} (r:Vals [x] us):∃ u,us=[u]∧RelV x u:=by
 cases r with
 | cons r1 r2=>cases r2;exact⟨_,rfl,r1⟩
theorem vals2 {x y:V}{us:List Value} (r:Vals [x,y] us):∃ u w',us=[u,w']∧RelV x u∧RelV y w':=by
 cases r with
 | cons r1 r2 =>
  cases r2 with
  | cons r3 r4=>cases r4;exact⟨_,_,rfl,r1,r3⟩
theorem call_int1:CallR X (.type "int") (fun xs H Q=>(∃ i,xs=[.int i]∧Q (.int i) H)∨∃ k,xs=[.bl k]∧Q (.int (if k then 1 else 0)) H):=by
 intro pins s σ H xs us Q I r h;rcases h with ⟨i,rfl,q⟩ | ⟨k,rfl,q⟩
 ·obtain⟨u,rfl,t,rfl⟩:=vals1 r;exact call_int_int ⟨.int i,H,I,⟨_,rfl⟩,q⟩
 ·obtain⟨u,rfl,r1⟩:=vals1 r;cases r1;exact call_int_bool ⟨.int (if k then 1 else 0),H,I.tok _,⟨_,rfl⟩,q⟩
theorem call_str_int:CallR X (.type "str") (fun xs H Q=>∃ i,xs=[.int i]∧i.natAbs.log2<1920∧Q (.str (toString i)) H):=by
 intro pins s σ H xs us Q I r h;obtain⟨i,rfl,hz,q⟩:=h;obtain⟨u,rfl,t,rfl⟩:=vals1 r;exact PySem.P.str_of_int hz ⟨.str _,H,I.tok _,⟨_,rfl⟩,q⟩
end
end L2
namespace L2
open PySem PySem.Spec PyProof.Rows
structure ObjM (h:Heap) (x dx C:Addr) (mA:Str→Option Value):Prop where
 obj:h.get? x=some (PySem.W.instObj C dx)
 ns:h.Ns1 dx mA
 ne:dx≠x
theorem lookIn_ns {h:Heap}{dx:Addr}{mA:Str→Option Value} (n:h.Ns1 dx mA):∃ od,h.get? dx=some od∧∀ name,PySem.W.lookIn name od=some (mA name):=by
 obtain⟨o,es,ep,ho,hd,hk,_,hm⟩:=n;refine⟨o,ho,fun name=>?_⟩;have e:=hm name;unfold nsFind findBy at e;rw[← Array.find?_toList] at e;unfold PySem.W.lookIn;rw[hd];dsimp only;split
 ·rename_i y q;rw[q] at e;exact congrArg some e
 ·rename_i q;rw[q] at e;have a:es.toList.any (·.refKey)=false:=by
   rw[List.any_eq_false];intro y hy;obtain⟨z,t,hkey⟩:=hk y (Array.mem_toList_iff.mp hy);simp[DictEntry.refKey,hkey]
  have a':¬ es.toList.any (·.refKey)=true:=by rw[a];exact Bool.false_ne_true
  rw[if_neg a'];exact congrArg some e
theorem ObjM.look {h:Heap}{x dx C:Addr}{mA:Str→Option Value} (I:ObjM h x dx C mA):∃ od,PySem.W.InstAt h x (PySem.W.instObj C dx) C (some od)∧∀ name,PySem.W.lookIn name od=some (mA name) :=
 let ⟨od,ho,hl⟩:=lookIn_ns I.ns
 ⟨od,⟨I.obj,rfl,rfl,ho⟩,hl⟩
theorem RelO.some_of {v:V}{o:Option Value} (r:RelO (some v) o):∃ u,o=some u∧RelV v u:=by
 cases o with
 | none=>exact (show False from r).elim
 | some u=>exact⟨u,rfl,r⟩
section
variable {P:Program}{w:World}{H H':Hp}{h h':Heap}{a C dx:Addr}{fs fs':List (Str × V)}
theorem ins_get (hok:HOk P w H h) (e:H a=some (.ins C dx fs)):∃ mA,ObjM h a dx C mA∧(∀ f,RelO (fs.lookup f) (mA f))∧PySem.Within mA (fs.map (·.1))∧fs.length≤1000∧H dx=some (.own a):=by
 obtain⟨d,z,ne,ob,mA,n,r,q⟩:=(show ObjOk P w H h a (.ins C dx fs) from hok a _ e);exact⟨mA,⟨ob,n,ne⟩,r,q,z,d⟩
end
structure Cls (K:PySem.W.Frag) (C:Addr):Prop where
 pg:PySem.W.plainGet K C Str.empty=true
 hd:PySem.W.hasDictIn K C=true
 po:PySem.W.plainOver K C=true
 sa:PySem.W.findIn K (.ref C) "__setattr__" = some (some (.builtin "object.__setattr__"))
theorem Cls.get {K:PySem.W.Frag}{C:Addr} (c:Cls K C) (f:Str):PySem.W.plainGet K C f=true:=c.pg
section
variable {X:Cx}{pins:List (Addr × Obj)} {σ:St}{H:Hp}{s:Shared}{A:Around}{E:Value→Shared→Prop}{Q:Value→Shared→Prop}{c:Value}{b:Bool}
inductive TyOf (K:PySem.W.Frag) (H:Hp):V→Value→Prop where
 | non:TyOf K H .non (.type "NoneType")
 | bl (x:Bool):TyOf K H (.bl x) (.type "bool")
 | int (i:Int):TyOf K H (.int i) (.type "int")
 | str (x:Str):TyOf K H (.str x) (.type "str")
 | flt (x:UInt64):TyOf K H (.flt x) (.type "float")
 | lst {a:Addr}{xs:List V} (e:H a=some (.lst xs)):TyOf K H (.ref a) (.type "list")
 | frz {a:Addr}{o:Obj}{xs:List V} (e:H a=some (.frz o (.lst xs))):TyOf K H (.ref a) (.type "list")
 | tup {a:Addr}{xs:List V} (e:H a=some (.tup xs)):TyOf K H (.ref a) (.type "tuple")
 | dK {a:Addr}{kvs:List (Key × V)} (e:H a=some (.dK kvs)):TyOf K H (.ref a) (.type "dict")
 | dT {a:Addr}{kvs:List (List Key × V)} (e:H a=some (.dT kvs)):TyOf K H (.ref a) (.type "dict")
 | ins {a C dx:Addr}{fs:List (Str × V)} (e:H a=some (.ins C dx fs)) (cl:Cls K C) (ha:PySem.W.findIn K (.ref C) "__class__" = some (some (.builtin "object.__class__")))
   (hn:PySem.W.specialIn K (.builtin "object.__class__") "__get__" = some (some (.builtin "getset_descriptor.__get__"))) (htk:PySem.W.takesIn K (.builtin "object.__class__")=some true)
   (hm:PySem.W.mroIn K C (.type "object")=some true):TyOf K H (.ref a) (.ref C)
theorem isinst_ok {x:V}{u t:Value} (I:Inv X pins σ H s) (rx:RelV x u) (ty:TyOf X.K H x t) (e:PySem.W.kitOne X.K t c=some b) (h:∀ tk,Q (.bool b) { s with toks:=tk }) :
  wpAny (model X.prog X.w) A (call (.builtin "isinstance") [u,c]) Q E s:=by
 cases ty with
 | non=>cases (show u=Value.none from rx);exact PySem.W.kia_one PySem.W.kitx_none I.kIn True.intro e (fun z=>nomatch z) h
 | bl y=>cases (show u=Value.bool y from rx);exact PySem.W.kia_one PySem.W.kitx_bool I.kIn True.intro e (fun z=>nomatch z) h
 | int i=>obtain⟨t,q⟩:=(show ∃ t,u=Value.int i t from rx);cases q;exact PySem.W.kia_one PySem.W.kitx_int I.kIn True.intro e (fun z=>nomatch z) h
 | str y=>obtain⟨t,q⟩:=(show ∃ t,u=Value.str y t from rx);cases q;exact PySem.W.kia_one PySem.W.kitx_str I.kIn True.intro e (fun z=>nomatch z) h
 | flt y=>obtain⟨t,q⟩:=(show ∃ t,u=Value.float y t from rx);cases q;exact PySem.W.kia_one PySem.W.kitx_float I.kIn True.intro e (fun z=>nomatch z) h
 | @lst a xs ea =>
  cases (show u=Value.ref a from rx);obtain⟨_,_,n,_,h1⟩:=(show ObjOk X.prog X.w H s.heap a (.lst xs) from I.hok a _ ea);exact PySem.W.kia_one PySem.W.kitx_list I.kIn ⟨_,h1,rfl⟩ e (fun z=>nomatch z) h
 | @frz a ob xs ea =>
  cases (show u=Value.ref a from rx);obtain⟨_,_,_,n,_,h1⟩:=(show ObjOk X.prog X.w H s.heap a (.frz ob (.lst xs)) from I.hok a _ ea);exact PySem.W.kia_one PySem.W.kitx_list I.kIn ⟨_,h1,rfl⟩ e (fun z=>nomatch z) h
 | @tup a xs ea =>
  cases (show u=Value.ref a from rx);obtain⟨_,_,_,p⟩:=(show ObjOk X.prog X.w H s.heap a (.tup xs) from I.hok a _ ea);obtain⟨o,h1,h2,_⟩:=p;exact PySem.W.kia_one PySem.W.kitx_tuple I.kIn ⟨o,h1,h2⟩ e (fun z=>nomatch z) h
 | @dK a kvs ea =>
  cases (show u=Value.ref a from rx);obtain⟨_,_,vs,_,p⟩:=(show ObjOk X.prog X.w H s.heap a (.dK kvs) from I.hok a _ ea);obtain⟨o,es,ep,h1,h2,_⟩:=p;exact PySem.W.kia_one PySem.W.kitx_dict I.kIn ⟨o,h1,h2.1⟩ e (fun z=>nomatch z) h
 | @dT a kvs ea =>
  cases (show u=Value.ref a from rx);obtain⟨_,_,xs,_,o,es,ep,h1,h2,_⟩:=(show ObjOk X.prog X.w H s.heap a (.dT kvs) from I.hok a _ ea);exact PySem.W.kia_one PySem.W.kitx_dict I.kIn ⟨o,h1,h2.1⟩ e (fun z=>nomatch z) h
 | @ins a C dx fs ea cl ha hn htk hm =>
  cases (show u=Value.ref a from rx);obtain⟨mA,O,_⟩:=ins_get I.hok ea;obtain⟨od,J,_⟩:=O.look;exact PySem.W.kia_one (PySem.W.kitx_own (cl.get _) cl.hd ha hn htk hm) I.kIn J e (fun z=>nomatch z) h
end
end L2
namespace L2
open PySem PySem.Spec PyProof.Rows
structure Room (k:Nat) (A:Around):Prop where
 hd:A.handled=none
 dp:A.depth+3 * k+5<recursionLimit
 un:A.units+16 * k+200<cLine
theorem Room.mono {j k:Nat}{A:Around} (r:Room k A) (h:j≤k):Room j A:=⟨r.hd,by have:=r.dp;omega,by have:=r.un;omega⟩
theorem Room.deeper {k:Nat}{A:Around} (r:Room (k+1) A) (env:Env):Room k (A.deeper env) :=
 ⟨r.hd,by have:=r.dp;show A.depth+1+3 * k+5<_;omega,by have:=r.un;show A.units+3+16 * k+200<_;omega⟩
theorem Room.depth {k:Nat}{A:Around} (r:Room k A):A.depth<recursionLimit:=by have:=r.dp;omega
theorem Room.units {k:Nat}{A:Around} (r:Room k A):A.units+64<cLine:=by have:=r.un;omega
noncomputable def tNil:TA:=fun _ H Q=>Q [] H
noncomputable def tCons (ta:TE) (tr:TA):TA:=fun σ H Q=>ta σ H fun x H1=>tr σ H1 fun xs H2=>Q (x :: xs) H2
section
variable {X:Cx}{e:Expr}{es:List Expr}{te:TE}{t:TA}{pos:Pos}
theorem pa_nil:PA X [] tNil:=fun _ _ _ _ H Q I h=>Calls.spliced_nil ⟨[],H,I,.nil,h⟩
theorem pa_cons (ha:PE X e te) (hr:PA X es t) (hs:starEach (e :: es) X.env=(false,eval e X.env) :: starEach es X.env:=by rfl):PA X (e :: es) (tCons te t):=by
 intro pos pins s σ H Q I h;rw[hs];show wpAny _ _ (spliced ((false,eval e X.env) :: backTo pos (starEach es X.env))) _ _ s;refine Calls.spliced_cons (thn (ha pins s σ H _ I h) fun u s1 ⟨x,H1,I1,r1,q1⟩=>?_);exact thn (hr pos pins s1 σ H1 _ I1 q1) fun us s2 ⟨xs,H2,I2,r2,q2⟩=>⟨x :: xs,H2,I2,.cons r1 r2,q2⟩
noncomputable def tTup (t:TA):TE:=fun σ H Q=>t σ H fun xs H1=>xs.length≤sizeLine∧∀ p,H1 p=none→Q (.ref p) (upd H1 p (.tup xs))
noncomputable def tLst (t:TA):TE:=fun σ H Q=>t σ H fun xs H1=>xs.length≤sizeLine∧∀ p,H1 p=none→Q (.ref p) (upd H1 p (.lst xs))
theorem pe_tup {x1} (h:PA X es t):PE X (.Tuple es x1 pos) (tTup t):=by
 intro pins s σ H Q I hq;refine wpAny_Tuple_spliced (thn (h pos pins s σ H _ I hq) fun us s1 ⟨xs,H1,I1,r,z,q⟩=>⟨by rw[← r.length];exact z,?_⟩);have hf:H1 s1.heap.objs.size=none:=I1.hok.fresh (Nat.le_refl _);refine⟨.ref s1.heap.objs.size,upd H1 s1.heap.objs.size (.tup xs),I1.laid (t':=s1.toks) (fun b u e=>Heap.get?_push_of_some _ e) (Nat.le_refl _) ?_,rfl,q _ hf⟩;exact⟨z,us,r,⟨_,Heap.get?_push_size _ rfl,rfl,_,rfl⟩⟩
theorem pe_lst (h:PA X es t):PE X (.List es pos) (tLst t):=by
 intro pins s σ H Q I hq;refine wpAny_List_spliced (thn (h pos pins s σ H _ I hq) fun us s1 ⟨xs,H1,I1,r,z,q⟩=>⟨by rw[← r.length];exact z,?_⟩);have hf:H1 s1.heap.objs.size=none:=I1.hok.fresh (Nat.le_refl _);refine⟨.ref s1.heap.objs.size,upd H1 s1.heap.objs.size (.lst xs),I1.laid (t':=s1.toks) (fun b u e=>Heap.get?_push_of_some _ e) (Nat.le_refl _) ?_,rfl,q _ hf⟩;exact⟨z,us,0,r,Heap.get?_push_size _ rfl⟩
end
noncomputable abbrev Sp:=List V→Hp→VK→XK→Prop
noncomputable abbrev CXT:=List Env→Hp→Shared→XK→Value→Shared→Prop
structure Env0 (P:Program) (w:World) (K:PySem.W.Frag) (mg:Str→Option Value) (base:Heap) (A:Around) (outer:List Env) (s:Shared) (H:Hp):Prop where
 frames:A.frames=some outer
 mod:Mod K mg base
 bs:∀ b o,base.get? b=some o→s.heap.get? b=some o∧H b=none
 bsz:base.objs.size≤s.heap.objs.size
 funs:s.heap.FunFrames base outer
 frf:∀ b∈frs outer,H b=none
 hok:HOk P w H s.heap
 bare:AllBare s.gens
noncomputable def CE (outer:List Env) (P:Program) (w:World) (H:Hp) (s:Shared) (Q:VK) (u:Value) (s':Shared):Prop :=
 ∃ v H',s'.os=s.os∧AllBare s'.gens∧Un (frs outer) [] H H' s.heap s'.heap∧HOk P w H' s'.heap∧RelV v u∧Q v H'
noncomputable def CR (CX:CXT) (outer:List Env) (P:Program) (w:World) (H:Hp) (s:Shared) (Q:VK) (E:XK) (r:Result) (s':Shared):Prop :=
 match r with
 | .ok (.ret u)=>CE outer P w H s Q u s'
 | .ok _=>False
 | .error e=>CX outer H s E e s'
structure FnOk (P:Program) (w:World) (K:PySem.W.Frag) (mg:Str→Option Value) (base:Heap) (CX:CXT) (k:Nat) (f:Addr) (fd:FuncData) (ps:List Str) (sp:Sp):Prop where
 len:∀ vs H Q E,sp vs H Q E→vs.length=ps.length
 run:∀ (A:Around) (outer:List Env) (s:Shared) (H:Hp) (args:Args) (us:List Value) (vs:List V) (Q:VK) (E:XK),Room k A→Env0 P w K mg base A outer s H→BindsTo s fd args (ps.zip us)→Vals vs us→sp vs H Q E →
  codeAny (model P w) A (.call (.ref f) args) (CR CX outer P w H s Q E) s
section
variable {X:Cx}{pins:List (Addr × Obj)} {σ:St}{H:Hp}{s s':Shared}
theorem Inv.env0 (I:Inv X pins σ H s):Env0 X.prog X.w X.K X.mg X.base X.A X.stack s H :=
 ⟨I.ok.frames,I.ok.mod,I.bs,Nat.le_trans I.ok.bsz I.sz,I.stack,I.stkFree,I.hok,I.bare⟩
theorem Inv.after {Q:VK}{u:Value} (I:Inv X pins σ H s) (h:CE X.stack X.prog X.w H s Q u s'):EP X pins σ Q u s':=by
 obtain⟨v,H',os,bare,un,hok,r,q⟩:=h;obtain⟨hh,g,d,t,os'⟩:=s';obtain rfl:os'=s.os:=os;exact⟨v,H',I.call (h':=hh) (g':=g) (d':=d) (t':=t) (ch:=[]) un hok bare (fun b z=>absurd z (by simp)),r,q⟩
end
noncomputable def tCall (sp:Sp) (dvs:List V) (E:XK) (t:TA):TE:=fun σ H Q=>t σ H fun vs H1=>sp (vs++dvs) H1 Q E
noncomputable def Binds (K:PySem.W.Frag) (fd:FuncData) (ps:List Str) (ds:List Value):Prop :=
 ∀ (s:Shared) (us:List Value),K.In s.heap→(us++ds).length=ps.length→BindsTo s fd ⟨us,[]⟩ (ps.zip (us++ds))
theorem Binds.all {K:PySem.W.Frag}{fd:FuncData}{ps:List Str} (h:∀ us:List Value,us.length=ps.length→bindArgs fd ⟨us,[]⟩=pure (ps.zip us)):Binds K fd ps []:=fun s us _ hl=>by
 rw[List.append_nil] at hl ⊢;exact .of_eq (h us hl)
noncomputable def Passes (CX:CXT) (X:Cx) (E:XK):Prop:=∀ (pins:List (Addr × Obj)) (σ:St) (H:Hp) (s:Shared) (e:Value) (s':Shared),Inv X pins σ H s→CX X.stack H s E e s'→X.xe e s'
section
variable {X:Cx}{CX:CXT}{k:Nat}{f C:Addr}{fd:FuncData}{ps:List Str}{sp:Sp}{dvs:List V}{ds:List Value}{E:XK}{x m:Str}{p pos apos:Pos}{e o:Expr}{es:List Expr}{ta:TE}{t:TA}
theorem run_fn {pins:List (Addr × Obj)} {σ:St}{H:Hp}{s:Shared}{Q:VK}{us:List Value}{vs:List V} (F:FnOk X.prog X.w X.K X.mg X.base CX k f fd ps sp) (hr:Room k X.A) (hb:Binds X.K fd ps ds) (hd:Vals dvs ds) (hx:Passes CX X E)
  (I:Inv X pins σ H s) (r:Vals vs us) (h:sp (vs++dvs) H Q E):wpAny (model X.prog X.w) X.A (call (.ref f) us) (EP X pins σ Q) X.xe s:=by
 have r2:Vals (vs++dvs) (us++ds):=r.append hd;have hl:(us++ds).length=ps.length:=by rw[← r2.length];exact F.len _ _ _ _ h
 refine wpAny_call (codeAny_mono (F.run X.A X.stack s H ⟨us,[]⟩ (us++ds) (vs++dvs) Q E hr I.env0 (hb s us I.kIn hl) r2 h) fun r s' hq=>?_);cases r with
 | error e=>exact hx pins σ H s e s' I hq
 | ok fl =>
  cases fl with
  | ret u=>exact I.after hq
  | next=>exact False.elim hq
  | brk=>exact False.elim hq
  | cont=>exact False.elim hq
theorem pe_call (F:FnOk X.prog X.w X.K X.mg X.base CX k f fd ps sp) (hr:Room k X.A) (hg:Gl X x) (hm:X.mg x=some (.ref f)) (hk:PySem.W.keepIn X.K (.ref f)=true) (hb:Binds X.K fd ps ds) (hd:Vals dvs ds) (hx:Passes CX X E)
  (ha:PA X (e :: es) t) (hdb:(x == ("__debug__" : Str))=false:=by decide) (he:starEach (e :: es) X.env=(false,eval e X.env) :: starEach es X.env:=by rfl) (hpl:(backTo pos (starEach es X.env)).any (·.1)=false:=by rfl) :
  PE X (.Call (.Name x p) (e :: es) [] pos) (tCall sp dvs E t):=by
 intro pins s σ H Q I h;refine wpAny_Call_Name_kw (ld_glob I hg hm ?_ hdb);refine PySem.W.callWith_K (h₀:=X.base) I.ok.mod.kin hk (thn (ha pos pins s σ H _ I h) fun us s1 ⟨vs,H1,I1,r,q⟩=>⟨I1.kIn,?_⟩) he hpl;exact run_fn F hr hb hd hx I1 r q
end
structure FnScope (N P:List Str) (sc:Scope):Prop where
 kind:sc.kind = .function
 co:sc.isCoroutine=false
 gen:sc.isGenerator=false
 nd:N.Nodup
 pre:N.take P.length=P
 par:∀ x∈P,sc.names.lookup x=some .local∨sc.names.lookup x=some .cell
 nofree:∀ y∈sc.names,y.2 ≠ .free
theorem bindL_out {kindOf:Str→Option NameKind}{x:Str}:∀ {binds:List (Str × Value)}{m:Str→Option Value},(∀ v,(x,v) ∉ binds)→bindL kindOf binds m x=m x
 | [],_,_=>rfl
 | (n,v) :: r,m,h=>by
  unfold bindL;rw[bindL_out fun w hw=>h w (List.mem_cons_of_mem _ hw)];split
  ·have:x≠n:=by rintro rfl;exact h v List.mem_cons_self
   simp[this]
  ·rfl
theorem bindC_out {kindOf:Str→Option NameKind}{x:Str}:∀ {binds:List (Str × Value)}{m:Str→Option Value},(∀ v,(x,v) ∉ binds)→bindC kindOf binds m x=m x
 | [],_,_=>rfl
 | (n,v) :: r,m,h=>by
  unfold bindC;rw[bindC_out fun w hw=>h w (List.mem_cons_of_mem _ hw)];split
  ·rfl
  ·have:x≠n:=by rintro rfl;exact h v List.mem_cons_self
   simp[this]
theorem bindL_get {kindOf:Str→Option NameKind}{x:Str}{v:Value}:∀ {P:List Str}{vs:List Value}{i:Nat}{m:Str→Option Value},P.Nodup→P[i]? = some x→vs[i]? = some v→kindOf x=some .local →
  bindL kindOf (P.zip vs) m x=some v
 | [],_,_,_,_,h,_,_=>by simp at h
 | _ :: _,[],_,_,_,_,h,_=>by simp at h
 | p :: P,w :: vs,0,m,nd,h1,h2,hk=>by
  simp at h1 h2;subst h1;subst h2;show bindL kindOf ((p,w) :: P.zip vs) m p=_;unfold bindL;rw[bindL_out fun v hv=>(List.nodup_cons.mp nd).1 (List.of_mem_zip hv).1,if_pos hk];simp
 | p :: P,w :: vs,i+1,m,nd,h1,h2,hk=>by
  show bindL kindOf ((p,w) :: P.zip vs) m x=_;unfold bindL;exact bindL_get (i:=i) (List.nodup_cons.mp nd).2 (by simpa using h1) (by simpa using h2) hk
theorem bindC_get {kindOf:Str→Option NameKind}{x:Str}{v:Value}:∀ {P:List Str}{vs:List Value}{i:Nat}{m:Str→Option Value},P.Nodup→P[i]? = some x→vs[i]? = some v→kindOf x≠some .local →
  bindC kindOf (P.zip vs) m x=some v
 | [],_,_,_,_,h,_,_=>by simp at h
 | _ :: _,[],_,_,_,_,h,_=>by simp at h
 | p :: P,w :: vs,0,m,nd,h1,h2,hk=>by
  simp at h1 h2;subst h1;subst h2;show bindC kindOf ((p,w) :: P.zip vs) m p=_;unfold bindC;rw[bindC_out fun v hv=>(List.nodup_cons.mp nd).1 (List.of_mem_zip hv).1,if_neg hk];simp
 | p :: P,w :: vs,i+1,m,nd,h1,h2,hk=>by
  show bindC kindOf ((p,w) :: P.zip vs) m x=_;unfold bindC;exact bindC_get (i:=i) (List.nodup_cons.mp nd).2 (by simpa using h1) (by simpa using h2) hk
noncomputable def start (N:List Str) (vs:List V):St:=vs.map some++List.replicate (N.length-vs.length) none
noncomputable def cxOf (CX:CXT) (P:Program) (w:World) (K:PySem.W.Frag) (mg:Str→Option Value) (base:Heap) (N:List Str) (qual:Str) (scope:Scope) (f:Addr) (cd:Value) (A:Around) (outer:List Env) (s:Shared) (H:Hp) (E:XK):Cx where
 prog:=P
 w:=w
 K:=K
 mg:=mg
 base:=base
 A:=A.deeper (envOfC qual scope s.heap.objs.size f cd)
 N:=N
 s₀:=s
 H₀:=H
 env:=envOfC qual scope s.heap.objs.size f cd
 outer:=outer
 stack:=envOfC qual scope s.heap.objs.size f cd :: outer
 ex:=[]
 calm:=true
 fn:=fun _=>true
 pn:=[]
 xe:=fun e s'=>wpAny (model P w) (A.deeper (envOfC qual scope s.heap.objs.size f cd)) (leaving (envOfC qual scope s.heap.objs.size f cd) e) (fun _ s''=>CX outer H s E e s'') (fun e' s''=>CX outer H s E e' s'') s'
theorem cell_has {sc:Scope}{n:Nat}{x:Str} (h:sc.names.lookup x=some .cell):∃ c,(cellsFrom n sc.names []).lookup x=some c:=by
 have q:=PySem.W.cellsFrom_some sc.names n [] (.inl h);exact Option.isSome_iff_exists.mp q
theorem inv_start {CX:CXT}{P:Program}{w:World}{K:PySem.W.Frag}{mg:Str→Option Value}{base:Heap}{N ps:List Str}{qual:Str}{scope:Scope}{f:Addr}{cd:Value}{A:Around}{outer:List Env}{s s1:Shared}{H:Hp}{E:XK}{us:List Value}{vs:List V}
  (S:FnScope N ps scope) (hd:A.handled=none) (e0:Env0 P w K mg base A outer s H) (hl:vs.length=ps.length) (r:Vals vs us)
  (x:InCallC s s.heap.objs.size (bindL (envOfC qual scope s.heap.objs.size f cd).kindOf (ps.zip us) fun _=>none) (cellsFrom (s.heap.objs.size+1) scope.names []) (bindC (envOfC qual scope s.heap.objs.size f cd).kindOf (ps.zip us) fun _=>none) s1) :
  Inv (cxOf CX P w K mg base N qual scope f cd A outer s H E) [] (start N vs) H s1:=by
 have hpl:ps.length≤N.length:=by have:=congrArg List.length S.pre;rw[List.length_take] at this;omega
 obtain⟨h1,tk,rfl,hk⟩:=x.done;have noA:∀ b:Addr,b ∉ (cxOf CX P w K mg base N qual scope f cd A outer s H E).ex:=fun b z=>absurd (show b∈([]:List Addr) from z) (by simp)
 refine⟨⟨e0.mod,S.kind,rfl,rfl,Nat.le_refl _,fun y z c h1 h2=>?_,fun y hy=>?_,fun y c _ h=>?_,fun _=>hd,Around.frames_deeper e0.frames,.inr ⟨rfl,rfl⟩,fun b z=>absurd z (noA b),e0.bs,e0.bsz,fun b _ _=>noA b,fun b z=>absurd z (noA b),e0.funs,e0.frf⟩,
  rfl,e0.bare,Un.kept hk,⟨_,x.toInCall.ns,fun i y v h1 h2 h3=>?_⟩,fun y c h=>⟨_,x.cell y c h⟩,e0.hok.fresh (Nat.le_refl _),fun y c h=>?_,fun p hp=>absurd (show p∈([]:List (Addr × Obj)) from hp) (by simp),e0.hok.kept hk,?_⟩
 ·exact name_of_addr x.apart (PySem.mem_of_lookup h1) (PySem.mem_of_lookup h2)
 ·have hy:scope.names.lookup y=some .cell∨scope.names.lookup y=some .free:=hy;rcases hy with hy | hy
  ·exact cell_has hy
  ·exact absurd rfl (S.nofree _ (PySem.mem_of_lookup hy))
 ·exact Nat.le_of_lt (x.above y c (PySem.mem_of_lookup h))
 ·have hi:i<vs.length:=by
   unfold start at h2;by_cases hi:i<vs.length
   ·exact hi
   ·rw[List.getElem?_append_right (by simpa using hi)] at h2;rw[List.getElem?_replicate] at h2;split at h2 <;> cases h2
  have ha:vs[i]? = some v:=by
   unfold start at h2;rw[List.getElem?_append_left (by simpa using hi),List.getElem?_map] at h2;cases e:vs[i]? with
   | none=>rw[e] at h2;cases h2
   | some a=>rw[e] at h2;cases h2;rfl
  obtain⟨u,hu,rv⟩:=r.get ha;have hp:ps[i]? = some y:=by
   rw[← S.pre,List.getElem?_take_of_lt (by omega)];exact h1
  have ndP:ps.Nodup:=by rw[← S.pre];exact S.nd.sublist (List.take_sublist _ _)
  refine⟨u,rv,?_⟩;rcases S.par y (List.mem_of_getElem? hp) with k | k
  ·exact .inl ⟨k,bindL_get ndP hp hu k⟩
  ·obtain⟨c,e⟩:=cell_has (n:=s.heap.objs.size+1) k;refine .inr ⟨.inl k,c,e,?_⟩;have q:=x.cell y c e;rw[bindC_get ndP hp hu (by show scope.names.lookup y≠_;rw[k];decide)] at q;exact q
 ·exact e0.hok.fresh (Nat.le_of_lt (x.above y c (PySem.mem_of_lookup h)))
 ·unfold start;show _=N.length;rw[List.length_append,List.length_map,List.length_replicate];omega
theorem fn_of {CX:CXT}{P:Program}{w:World}{K:PySem.W.Frag}{mg:Str→Option Value}{base:Heap}{k:Nat}{f:Addr}{name qual:Str}{params:Arguments}{body:List Stmt}{scope:Scope}{dV kV doc pm cdv ct oc:Value}{an od:Option Addr}
  {osl:Array (Option Value)}{N ps:List Str}{sp:Sp} (lk:K.lookup f=some ⟨oc,od,.func (PySem.W.fnOf name qual params body scope dV kV doc pm an cdv ct),osl⟩) (hcd:PySem.W.codeIn K cdv qual=true) (S:FnScope N ps scope)
  (len:∀ vs H Q E,sp vs H Q E→vs.length=ps.length)
  (hbody:∀ (A:Around) (outer:List Env) (s:Shared) (H:Hp) (vs:List V) (Q:VK) (E:XK),Room k (A.deeper (envOfC qual scope s.heap.objs.size f cdv))→sp vs H Q E →
   ∃ t,PSs (cxOf CX P w K mg base N qual scope f cdv A outer s H E) body t∧t { nx:=fun _ H'=>Q .non H',rt:=Q } (start N vs) H) :
  FnOk P w K mg base CX (k+1) f (PySem.W.fnOf name qual params body scope dV kV doc pm an cdv ct) ps sp:=by
 refine⟨len,fun A outer s H args us vs Q E hr e0 hb r hsp=>?_⟩;have hl:=len _ _ _ _ hsp;have KX:K.In s.heap:=e0.mod.kin.keeps fun b o e=>(e0.bs b o e).1
 have lim:s.heap.NoLimit:=e0.mod.nolimit.keeps fun b o e=>(e0.bs b o e).1
 have hkind:∀ y∈ps.zip us,scope.names.lookup y.1=some .local∨(scope.names.lookup y.1=some .cell∧((cellsFrom (s.heap.objs.size+1) scope.names []).lookup y.1).isSome=true):=fun ⟨n,v⟩ hy=>by
  rcases S.par n (List.of_mem_zip hy).1 with q | q
  ·exact .inl q
  ·exact .inr ⟨q,PySem.W.cellsFrom_some _ _ _ (.inl q)⟩
 refine codeAny_call_function hr.depth (KX _ _ lk) rfl S.co S.gen rfl (PySem.W.codeRec_of KX hcd) (hb _ _ _ _ ?_);refine wpAny_newFunctionEnv_cells S.kind hkind fun env he s1 x=>?_
 subst he;refine⟨lim.keeps x.toInCall.keep,codeAny_func ?_⟩;obtain⟨t,ht,hq⟩:=hbody A outer s H vs Q E (hr.deeper _) hsp;have I:Inv (cxOf CX P w K mg base N qual scope f cdv A outer s H E) [] (start N vs) H s1:=inv_start S hr.hd e0 hl r x;refine wpAny_mono (ht [] s1 (start N vs) H _ I hq) (fun fl s' hs=>?_) fun e s' hs=>hs
 have fin:∀ {σ':St}{H':Hp}{v:V}{u:Value},Inv (cxOf CX P w K mg base N qual scope f cdv A outer s H E) [] σ' H' s'→RelV v u→Q v H'→CE outer P w H s Q u s' :=
  fun {σ' H' v u} J rv q=>⟨v,H',J.os,J.bare,J.base,J.hok,rv,q⟩
 cases fl with
 | ret u =>
  obtain⟨v,σ',H',J,rv,q⟩:=hs;exact fin J rv q
 | next =>
  obtain⟨σ',H',J,q⟩:=hs;exact fin (v:=V.non) (u:=Value.none) J rfl q
 | brk =>
  obtain⟨_,_,_,q⟩:=hs;exact False.elim q
 | cont =>
  obtain⟨_,_,_,q⟩:=hs;exact False.elim q
end L2
namespace L2
open PySem PySem.Spec PyProof.Rows
section
variable {X:Cx}{x:Str}{p pos:Pos}{e:Expr}{es:List Expr}{t:TA}{id T:String}{r:List V→Hp→VK→Prop}
noncomputable def tCB (r:List V→Hp→VK→Prop) (t:TA):TE:=fun σ H Q=>t σ H fun vs H1=>r vs H1 Q
theorem pe_callB (hc:CallR X (.builtin id) r) (hg:Gl X x) (hm:X.mg x=none) (hv:bootBuiltins x=some (.builtin id)) (ha:PA X (e :: es) t) (hn:x ≠ "__name__" := by decide) (hdb:(x == ("__debug__" : Str))=false:=by decide)
  (he:starEach (e :: es) X.env=(false,eval e X.env) :: starEach es X.env:=by rfl) (hpl:(backTo pos (starEach es X.env)).any (·.1)=false:=by rfl):PE X (.Call (.Name x p) (e :: es) [] pos) (tCB r t):=by
 intro pins s σ H Q I h;refine wpAny_Call_Name_kw (ld_blt I hg hm hv ?_ hn hdb);exact PyProof.Rows.callWith_builtin1 (thn (ha pos pins s σ H _ I h) fun us s1 ⟨vs,H1,I1,r1,q1⟩=>hc pins s1 σ H1 vs us Q I1 r1 q1) he hpl
theorem pe_callTy (hc:CallR X (.type T) r) (hg:Gl X x) (hm:X.mg x=none) (hv:bootBuiltins x=some (.type T)) (ha:PA X (e :: es) t) (hn:x ≠ "__name__" := by decide) (hdb:(x == ("__debug__" : Str))=false:=by decide)
  (he:starEach (e :: es) X.env=(false,eval e X.env) :: starEach es X.env:=by rfl) (hpl:(backTo pos (starEach es X.env)).any (·.1)=false:=by rfl):PE X (.Call (.Name x p) (e :: es) [] pos) (tCB r t):=by
 intro pins s σ H Q I h;refine wpAny_Call_Name_kw (ld_blt I hg hm hv ?_ hn hdb);exact PyProof.Rows.callWith_type1 (thn (ha pos pins s σ H _ I h) fun us s1 ⟨vs,H1,I1,r1,q1⟩=>hc pins s1 σ H1 vs us Q I1 r1 q1) he hpl
end
end L2
namespace HT
open PySem PyProof.Rows
section
variable {prog:Program}{w:World}{A:Around}{E:Value→Shared→Prop}{s:Shared}
theorem cat_tup {t b:Addr}{vs ws:List Value}{Q:Value→Shared→Prop} (ht:IsTup s.heap t vs.toArray) (hb:IsTup s.heap b ws.toArray) (hv:vs≠[])
  (h1:ws=[]→Q (.ref t) s) (h2:ws≠[]→Q (.ref s.heap.objs.size) { s with heap:=s.heap.push { cls := .type "tuple",data := .seq (vs++ws).toArray } })
  (hsz:vs.length+ws.length≤sizeLine):wpAny (model prog w) A (binaryOp .Add (.ref t) (.ref b)) Q E s:=by
 obtain⟨⟨cls,dd,data,sl⟩,ho,hc,n,hd⟩:=id ht;obtain⟨⟨cls2,dd2,data2,sl2⟩,ho2,hc2,n2,hd2⟩:=id hb;simp only at hc hd hc2 hd2;subst hc hd hc2 hd2;have e:vs.toArray++ws.toArray=(vs++ws).toArray:=by simp
 by_cases hw:ws=[]
 ·exact concat_meets ⟨_,ho,rfl⟩ ⟨_,ho2,rfl⟩ noFill_tuple_add seq_tuple_add PySem.F.slot_tuple_add PySem.F.entry_tuple_add (PySem.F.args_tuple_add_2 _ _)
   (tuple_addW1 t b vs.toArray ws.toArray n n2 dd dd2 sl sl2 (by simpa using hv) (by simp[hw])) ⟨ho,ho2,h1 hw⟩
 ·refine concat_meets ⟨_,ho,rfl⟩ ⟨_,ho2,rfl⟩ noFill_tuple_add seq_tuple_add PySem.F.slot_tuple_add PySem.F.entry_tuple_add (PySem.F.args_tuple_add_2 _ _)
   (tuple_addW2 t b vs.toArray ws.toArray n n2 dd dd2 sl sl2 (by simpa using hv) (by simpa using hw) (by rw[List.size_toArray,List.size_toArray];exact hsz)) ⟨ho,ho2,?_⟩
  rw[e];exact h2 hw
noncomputable def sIx (n d:Nat):Option Int→Nat
 | none=>d
 | some v=>if v<0 then (v+(n:Int)).toNat else min v.toNat n
theorem sIx_none (n d:Nat):sIx n d none=d:=rfl
theorem sIx_nat (n d k:Nat):sIx n d (some (k:Int))=min k n:=by
 show (if (k:Int)<0 then ((k:Int)+(n:Int)).toNat else min (k:Int).toNat n)=min k n;rw[if_neg (by omega),Int.toNat_natCast]
theorem sIx_le (n d:Nat) (hd:d≤n) (o:Option Int):sIx n d o≤n:=by
 cases o with
 | none=>exact hd
 | some v =>
  show (if v<0 then (v+(n:Int)).toNat else min v.toNat n)≤n;by_cases hv:v<0
  ·rw[if_pos hv];omega
  ·rw[if_neg hv];exact Nat.min_le_right _ _
theorem clip_eq (v:Int) (n d:Nat):(if v<0 then max (v+(n:Int)) 0 else min v (n:Int))=((sIx n d (some v):Nat):Int):=by
 show (if v<0 then max (v+(n:Int)) 0 else min v (n:Int))=(((if v<0 then (v+(n:Int)).toNat else min v.toNat n):Nat):Int);by_cases hv:v<0
 ·simp only[if_pos hv];omega
 ·simp only[if_neg hv];omega
theorem adjust_gen (lo hi:Option Int) (n:Nat):Builtin.Slice.sliceAdjust lo hi 1 (n:Int)=(((sIx n 0 lo:Nat):Int),((sIx n n hi:Nat):Int)):=by
 have h1:¬ ((1:Int)<0):=by omega
 unfold Builtin.Slice.sliceAdjust;simp only[h1,if_false];refine Prod.ext ?_ ?_
 ·cases lo with
  | none=>rfl
  | some v=>exact clip_eq v n 0
 ·cases hi with
  | none=>rfl
  | some v=>exact clip_eq v n n
theorem places_gen (i j:Nat):Builtin.Slice.slicePlaces (i:Int) (j:Int) 1=j-i:=by
 unfold Builtin.Slice.slicePlaces;have h1:(1:Int) > 0:=by omega
 simp only[h1,if_true,Int.ediv_one];split <;> omega
theorem slicePart_ {v:Value}{o:Option Int}{Q:Option Int→Shared→Prop} (p:IsPart v o) (h:Q o s):wpAny (model prog w) A (Builtin.Slice.slicePartIndex v) Q E s:=by
 cases p with
 | none=>exact slicePart_none h
 | int i t=>exact slicePart_int h
theorem sliceApplied_gen {sl:Addr}{vl vu:Value}{lo hi:Option Int}{n:Nat}{Q:Int × Int × Nat→Shared→Prop} (hs:s.heap.IsSliceOf sl vl vu .none) (pl:IsPart vl lo) (pu:IsPart vu hi)
  (h:Q (((sIx n 0 lo:Nat):Int),1,sIx n n hi-sIx n 0 lo) s):wpAny (model prog w) A (Builtin.Slice.sliceApplied (.ref sl) (pure (n:Int))) Q E s:=by
 obtain⟨os,hos,hcs,hds⟩:=id hs;unfold Builtin.Slice.sliceApplied Builtin.Slice.sliceFields;refine wpAny_bind (wpAny_bind (wpAny_field hos hds (x:=vl) rfl (wpAny_bind (wpAny_field hos hds (x:=vu) rfl (wpAny_bind (wpAny_field hos hds (x := .none) rfl (wpAny_pure ?_)))))));refine wpAny_bind (slicePart_none ?_);show wpAny _ _ (if ((1:Int) == 0)=true then _ else _) _ _ s;rw[if_neg (by decide)];refine wpAny_bind (slicePart_ pl (wpAny_bind (slicePart_ pu (wpAny_bind (wpAny_pure ?_)))));show wpAny _ _ (match Builtin.Slice.sliceAdjust lo hi 1 (n:Int) with | (lo,hi)=>pure (lo,(1:Int),Builtin.Slice.slicePlaces lo hi 1)) _ _ s;rw[adjust_gen lo hi n];show wpAny _ _ (pure (((sIx n 0 lo:Nat):Int),(1:Int),Builtin.Slice.slicePlaces ((sIx n 0 lo:Nat):Int) ((sIx n n hi:Nat):Int) 1)) _ _ s;rw[places_gen];exact wpAny_pure h
theorem pick_gen (xs:Array Value) (i k:Nat):((List.range k).filterMap fun (m:Nat)=>xs[((i:Int)+(m:Int) * 1).toNat]?).toArray=((xs.toList.drop i).take k).toArray:=by
 have e:(fun (m:Nat)=>xs[((i:Int)+(m:Int) * 1).toNat]?)=fun m=>xs[i+m]? := by
  funext m
  have:((i:Int)+(m:Int) * 1).toNat=i+m:=by omega
  rw[this]
 rw[e]
 have:=pick_run xs i k
 rw[List.filterMap_map] at this;have e2:((fun x=>xs[x]?) ∘ fun x=>i+x)=fun m=>xs[i+m]? := rfl
 rw[e2] at this;rw[this]
theorem getItem_tuple_cut {t sl:Addr}{items:Array Value}{vl vu:Value}{lo hi:Option Int}{Q:Value→Shared→Prop} (ht:IsTup s.heap t items) (hs:s.heap.IsSliceOf sl vl vu .none) (pl:IsPart vl lo) (pu:IsPart vu hi)
  (hw:¬ (sIx items.size 0 lo=0∧sIx items.size items.size hi=items.size))
  (h:Q (.ref s.heap.objs.size) { s with heap:=s.heap.push { cls := .type "tuple",data := .seq ((items.toList.drop (sIx items.size 0 lo)).take (sIx items.size items.size hi-sIx items.size 0 lo)).toArray } })
  (hsz:items.size≤sizeLine):wpAny (model prog w) A (getItem (.ref t) (.ref sl)) Q E s:=by
 have htake:sizeOk (.seq ((items.toList.drop (sIx items.size 0 lo)).take (sIx items.size items.size hi-sIx items.size 0 lo)).toArray):=by
  show ((items.toList.drop (sIx items.size 0 lo)).take (sIx items.size items.size hi-sIx items.size 0 lo)).toArray.size≤sizeLine;rw[List.size_toArray,List.length_take,List.length_drop,Array.length_toList];omega
 have hj:sIx items.size items.size hi≤items.size:=sIx_le _ _ (Nat.le_refl _) hi;obtain⟨os,hos,hcs,hds⟩:=id hs;have hTs:s.TypeIs (.ref sl) "slice" := ⟨os,hos,hcs⟩;unfold getItem
 try with_reducible refine wpAny_holding ?_
 first | refine wpAny_bind (wpAny_pure ?_) | skip
 refine wpAny_bind (wpAny_sequenceKey ht.typeIs (by decide) ?_);refine wpAny_bind (wpAny_callSpecial?_slot (name:=Str.ofString "__getitem__") ht.typeIs PyProof.Rows.slot_tuple_getitem
  (wpAny_call_entry PyProof.Rows.slot_tuple_getitem ht.typeIs entry_tuple_getitem ?_ (args_tuple_getitem _ _)))
 show wpAny _ _ (Builtin.Tuple.tupleItemsOf (.ref t) >>= _) _ _ s;refine wpAny_bind (tupleItemsOf_ ht ?_);refine wpAny_bind (wpAny_typeOf hTs ?_);rw[if_pos (by decide)];refine wpAny_bind (sliceApplied_gen hs pl pu ?_);have hno:¬ ((((sIx items.size 0 lo:Nat):Int) == 0 && (1:Int) == 1 && (sIx items.size items.size hi-sIx items.size 0 lo) == items.size)=true):=by
  intro q;rw[Bool.and_eq_true,Bool.and_eq_true] at q;have q1:((sIx items.size 0 lo:Nat):Int)=0:=eq_of_beq q.1.1;have q2:sIx items.size items.size hi-sIx items.size 0 lo=items.size:=eq_of_beq q.2;exact hw ⟨by omega,by omega⟩
 show wpAny _ _ (if (((sIx items.size 0 lo:Nat):Int) == 0 && (1:Int) == 1 && (sIx items.size items.size hi-sIx items.size 0 lo) == items.size)=true then _ else _) _ _ s;rw[if_neg hno,pick_gen]
 first
  | exact wpAny_bind (m:=Builtin.Tuple.tupleExact _) (wpAny_newObj_type (wpAny_pure ⟨_,rfl,wpAny_pure h⟩) htake)
  | exact wpAny_bind (m:=Builtin.Tuple.tupleExact _) (wpAny_newObj_type (wpAny_bind (wpAny_pure (wpAny_pure ⟨_,rfl,wpAny_pure h⟩))) htake)
  | exact wpAny_bind (wpAny_bind (m:=Builtin.Tuple.tupleExact _) (wpAny_newObj_type (wpAny_pure (wpAny_pure ⟨_,rfl,wpAny_pure h⟩)) htake))
  | exact wpAny_bind (wpAny_bind (m:=Builtin.Tuple.tupleExact _) (wpAny_newObj_type (wpAny_pure ⟨_,rfl,wpAny_pure h⟩) htake))
end
end HT
namespace L2
open PySem PySem.Spec PyProof.Rows
noncomputable abbrev TO:=St→Hp→(Option Int→Hp→Prop)→Prop
noncomputable def PO (X:Cx) (e:Option Expr) (t:TO):Prop :=
 ∀ (pins:List (Addr × Obj)) (s:Shared) (σ:St) (H:Hp) (Q:Option Int→Hp→Prop),Inv X pins σ H s→t σ H Q →
  wpAny (model X.prog X.w) X.A (evalPart e X.env) (fun u s'=>∃ o H',Inv X pins σ H' s'∧IsPart u o∧Q o H') X.xe s
noncomputable def tNoPart:TO:=fun _ H Q=>Q none H
noncomputable def tPart (t:TE):TO:=fun σ H Q=>t σ H fun x H1=>∃ i,x = .int i∧Q (some i) H1
theorem intsAre_of {ns:List Int}:∀ {us:List Value},Vals (ns.map V.int) us→IntsAre us ns:=by
 induction ns with
 | nil=>intro us r;rw[List.map_nil] at r;cases r;exact .nil
 | cons n ns ih =>
  intro us r;rw[List.map_cons] at r;cases r with
  | cons r1 r2 =>
   obtain⟨t,e⟩:=r1;subst e;exact .cons n t (ih r2)
section
variable {X:Cx}{e:Expr}{te:TE}{lo hi:Option Expr}{tl th:TO}{pos p2:Pos}
theorem po_none:PO X none tNoPart:=by
 intro pins s σ H Q I h;rw[evalPart_none];exact wpAny_pure ⟨none,H,I,.none,h⟩
theorem po_some (h:PE X e te):PO X (some e) (tPart te):=by
 intro pins s σ H Q I hw;rw[evalPart_some];refine thn (h pins s σ H _ I hw) fun u s1 ⟨x,H1,I1,r1,q1⟩=>?_
 obtain⟨i,rfl,q⟩:=q1;obtain⟨t,rfl⟩:=r1;exact⟨some i,H1,I1,.int i t,q⟩
noncomputable def SlR (X:Cx) (r:V→Option Int→Option Int→Hp→VK→Prop):Prop :=
 ∀ (pins:List (Addr × Obj)) (s:Shared) (σ:St) (H:Hp) (x:V) (v vl vu:Value) (lo hi:Option Int) (sl:Addr) (Q:VK),Inv X pins σ H s→RelV x v→s.heap.IsSliceOf sl vl vu .none→IsPart vl lo→IsPart vu hi→r x lo hi H Q →
  ∃ T id,typeLookup (.type T) "__getitem__" = pure (some (.builtin id))∧s.TypeIs v T∧wpAny (model X.prog X.w) X.A (getItem v (.ref sl)) (EP X pins σ Q) X.xe s
noncomputable def tSl (r:V→Option Int→Option Int→Hp→VK→Prop) (te:TE) (tl th:TO):TE:=fun σ H Q=>te σ H fun x H1=>tl σ H1 fun l H2=>th σ H2 fun u H3=>r x l u H3 Q
theorem pe_slice {r:V→Option Int→Option Int→Hp→VK→Prop} (hr:SlR X r) (he:PE X e te) (hl:PO X lo tl) (hu:PO X hi th):PE X (.Subscript e (.Slice lo hi none p2) pos) (tSl r te tl th):=by
 intro pins s σ H Q I h;refine Subscript_ (thn (he pins s σ H _ I h) fun v s1 ⟨x,H1,I1,r1,q1⟩=>?_);refine wpAny_Slice (thn (hl pins s1 σ H1 _ I1 q1) fun vl s2 ⟨l,H2,I2,pl,q2⟩=>thn (hu pins s2 σ H2 _ I2 q2) fun vu s3 ⟨u,H3,I3,pu,q3⟩=>?_);rw[evalPart_none];refine wpAny_pure ?_;have I4:Inv X pins σ H3 { s3 with heap:=s3.heap.push { cls := .type "slice",data := .fields #[vl,vu,.none] } }:=I3.kept (t':=s3.toks) fun b ob q=>Heap.get?_push_of_some _ q
 obtain⟨T,id,hT,ht,hg⟩:=hr pins { s3 with heap:=s3.heap.push { cls := .type "slice",data := .fields #[vl,vu,.none] } } σ H3 x v vl vu l u s3.heap.objs.size Q I4 r1 (Heap.IsSliceOf.new ..) pl pu q3;show wpAny (model X.prog X.w) X.A (subscriptTail e (.Slice lo hi none p2) v (.ref s3.heap.objs.size)) (EP X pins σ Q) X.xe { s3 with heap:=s3.heap.push { cls := .type "slice",data := .fields #[vl,vu,.none] } };exact tail_any (ops:=[.ref s3.heap.objs.size,v]) ht hT hg (by with_unfolding_all rfl)
noncomputable def cutV (xs:List V) (lo hi:Option Int):List V:=(xs.drop (HT.sIx xs.length 0 lo)).take (HT.sIx xs.length xs.length hi-HT.sIx xs.length 0 lo)
theorem cutV_length (xs:List V) (lo hi:Option Int):(cutV xs lo hi).length≤xs.length:=by
 unfold cutV;rw[List.length_take,List.length_drop];exact Nat.le_trans (Nat.min_le_right _ _) (Nat.sub_le _ _)
noncomputable def rSlT (K:PySem.W.Frag):V→Option Int→Option Int→Hp→VK→Prop:=fun x lo hi H Q=>∃ a xs,x = .ref a∧SqT K H a xs ∧
 ¬ (HT.sIx xs.length 0 lo=0∧HT.sIx xs.length xs.length hi=xs.length)∧∀ p,H p=none→Q (.ref p) (upd H p (.tup (cutV xs lo hi)))
theorem sl_tup:SlR X (rSlT X.K):=by
 intro pins s σ H x v vl vu lo hi sl Q I rx hs pl pu h;obtain⟨a,xs,rfl,hx,hw,q⟩:=h;cases rx;obtain⟨its,r,ht,hz⟩:=I.tuple hx;have hlen:its.toArray.size=xs.length:=by rw[List.size_toArray];exact r.length.symm
 refine⟨"tuple",_,PyProof.Rows.slot_tuple_getitem.lookup,ht.typeIs,?_⟩;refine HT.getItem_tuple_cut ht hs pl pu (by rw[hlen];exact hw) ?_ (by rw[hlen];exact hz);rw[hlen];refine⟨.ref s.heap.objs.size,_,I.laid (t':=s.toks) (o := .tup (cutV xs lo hi)) (fun b ob q=>Heap.get?_push_of_some _ q) (Nat.le_refl _) ?_,rfl,q _ (I.hok.fresh (Nat.le_refl _))⟩;exact⟨Nat.le_trans (cutV_length xs lo hi) hz,_,(r.drop (HT.sIx xs.length 0 lo)).take (HT.sIx xs.length xs.length hi-HT.sIx xs.length 0 lo),IsTup.new _ _⟩
noncomputable def rCatT (K:PySem.W.Frag):R2:=fun x y H Q=>∃ a b xs ys,x = .ref a∧y = .ref b∧SqT K H a xs∧SqT K H b ys∧xs≠[]∧xs.length+ys.length≤sizeLine ∧
 (ys=[]→Q (.ref a) H)∧(ys≠[]→∀ p,H p=none→Q (.ref p) (upd H p (.tup (xs++ys))))
theorem Vals.nil_iff {xs:List V}{us:List Value} (r:Vals xs us):us=[]↔xs=[]:=by
 cases r with
 | nil=>simp
 | cons _ _=>simp
theorem op_catT:OpR X (binaryOp .Add) (rCatT X.K):=by
 intro pins s σ H x y v u Q I rx ry h;obtain⟨a,b,xs,ys,rfl,rfl,ha,hb,hx,hz,q1,q2⟩:=h;cases rx;cases ry;obtain⟨its,r1,p1,_⟩:=I.tuple ha;obtain⟨its2,r2,p2,_⟩:=I.tuple hb;refine HT.cat_tup p1 p2 (fun z=>hx (r1.nil_iff.mp z)) (fun z=>⟨.ref a,H,I,rfl,q1 (r2.nil_iff.mp z)⟩) (fun z=>?_) (by rw[← r1.length,← r2.length];exact hz);refine⟨.ref s.heap.objs.size,_,I.laid (t':=s.toks) (o := .tup (xs++ys)) (fun b ob q=>Heap.get?_push_of_some _ q) (Nat.le_refl _) ?_,rfl,q2 (fun w=>z (r2.nil_iff.mpr w)) _ (I.hok.fresh (Nat.le_refl _))⟩;exact⟨by rw[List.length_append];exact hz,_,r1.append r2,IsTup.new _ _⟩
end
end L2
namespace L2
open PySem PySem.Spec PyProof.Rows
noncomputable def ixN (n:Nat) (i:Int):Option Nat:=if 0≤i then (if i<n then some i.toNat else none) else if -(n:Int)≤i then some (i+n).toNat else none
noncomputable def atI {α : Type} (xs:List α) (i:Int):Option α := (ixN xs.length i).bind fun j=>xs[j]?
theorem ixN_seq {n:Nat}{i:Int}{j:Nat} (h:ixN n i=some j):seqIndex? i n=some j∧j<n ∧ -(n:Int)≤i∧i<n:=by
 unfold ixN at h;by_cases h0:0≤i
 ·rw[if_pos h0] at h;by_cases h1:i<n
  ·rw[if_pos h1] at h;have e:i.toNat=j:=Option.some.inj h;exact⟨by rw[seqIndex_of h0 h1,e],by omega,by omega,h1⟩
  ·rw[if_neg h1] at h;cases h
 ·rw[if_neg h0] at h;by_cases h1 : -(n:Int)≤i
  ·rw[if_pos h1] at h;have e:(i+n).toNat=j:=Option.some.inj h;exact⟨by rw[seqIndex_neg (by omega) h1,e],by omega,h1,by omega⟩
  ·rw[if_neg h1] at h;cases h
theorem atI_get {α : Type}{xs:List α}{i:Int}{v : α} (h:atI xs i=some v):∃ j,seqIndex? i xs.length=some j∧xs[j]? = some v∧j<xs.length ∧ -(xs.length:Int)≤i∧i<xs.length:=by
 unfold atI at h;cases e:ixN xs.length i with
 | none=>rw[e] at h;cases h
 | some j =>
  rw[e] at h;obtain⟨h1,h2,h3,h4⟩:=ixN_seq e;exact⟨j,h1,h,h2,h3,h4⟩
theorem atI_nat {α : Type}{xs:List α}{j:Nat}{v : α} (h:xs[j]? = some v):atI xs (j:Int)=some v:=by
 have hj:j<xs.length:=(List.getElem?_eq_some_iff.mp h).1;have e:ixN xs.length (j:Int)=some j:=by
  unfold ixN;rw[if_pos (by omega),if_pos (by omega)];simp
 unfold atI;rw[e];exact h
noncomputable def PlainIx (b:Expr):Prop:=∀ o i,subscripted b false o i=operate [o,i] (getItem o i)
noncomputable def IxR (X:Cx) (r:R2):Prop :=
 ∀ (value slice:Expr) (pins:List (Addr × Obj)) (s:Shared) (σ:St) (H:Hp) (x y:V) (v u:Value) (Q:VK),Inv X pins σ H s→RelV x v→RelV y u→r x y H Q →
  subscripted slice false v u=operate [v,u] (getItem v u)→wpAny (model X.prog X.w) X.A (subscriptTail value slice v u) (EP X pins σ Q) X.xe s
noncomputable def MtR (X:Cx) (id:String) (r:V→List V→Hp→VK→Prop):Prop :=
 ∀ (pins:List (Addr × Obj)) (s:Shared) (σ:St) (H:Hp) (x:V) (xs:List V) (v:Value) (us:List Value) (Q:VK),Inv X pins σ H s→RelV x v→Vals xs us→r x xs H Q →
  wpAny (model X.prog X.w) X.A (call (.builtin id) (v :: us)) (EP X pins σ Q) X.xe s
section
variable {X:Cx}{a b:Expr}{ta tb:TE}{pos:Pos}
theorem IxR.or {r r':R2} (h:IxR X r) (h':IxR X r'):IxR X (fun x y H Q=>r x y H Q∨r' x y H Q):=by
 intro value slice pins s σ H x y v u Q I rx ry q hs;rcases q with q | q
 ·exact h value slice pins s σ H x y v u Q I rx ry q hs
 ·exact h' value slice pins s σ H x y v u Q I rx ry q hs
theorem pe_ix {r:R2} (hr:IxR X r) (ha:PE X a ta) (hb:PE X b tb) (hs:PlainIx b):PE X (.Subscript a b pos) (tOp r ta tb):=by
 intro pins s σ H Q I h;exact Subscript_ (binT ha hb I h fun v u s2 x y H2 I2 rx ry q=>hr a b pins s2 σ H2 x y v u Q I2 rx ry q (hs _ _))
noncomputable def rIxL (K:PySem.W.Frag):R2:=fun x y H Q=>∃ p xs i v,x = .ref p∧y = .int i∧SqL K H p xs∧atI xs i=some v∧Q v H
noncomputable def rIxT (K:PySem.W.Frag):R2:=fun x y H Q=>∃ p xs i v,x = .ref p∧y = .int i∧SqT K H p xs∧atI xs i=some v∧Q v H
noncomputable def rIxS:R2:=fun x y H Q=>∃ z i c,x = .str z∧y = .int i∧z.length≤sizeLine∧atI z.cps.toList i=some c∧Q (.str ⟨#[c]⟩) H
theorem ix_list:IxR X (rIxL X.K):=by
 intro value slice pins s σ H x y v u Q I rx ry h hs;obtain⟨p,xs,i,z,rfl,rfl,hq,he,q⟩:=h;cases rx;obtain⟨t,rfl⟩:=ry;obtain⟨its,r,pl,hz⟩:=I.list hq;obtain⟨j,h1,h2,h3,h4,h5⟩:=atI_get he;obtain⟨w,ew,rw'⟩:=r.get h2;have hl:=r.length;have hn:=line63;have fin:EP X pins σ Q w s:=⟨z,H,I,rw',q⟩;by_cases h0:0≤i
 ·have hj:i.toNat=j:=by
   rw[seqIndex_of h0 h5] at h1;exact Option.some.inj h1
  exact item_listR pl.isList h0 (by omega) (by rw[hj];simpa using ew) fin hs
 ·have hj:(i+(its.toArray.size:Int)).toNat=j:=by
   rw[seqIndex_neg (by omega) h4] at h1;rw[List.size_toArray,← hl];exact Option.some.inj h1
  exact subscriptTail_builtinR (x:=w) pl.isList.typeIs slot_list_getitem.lookup
   (wpAny_getItem_list_neg (Q:=fun r s'=>r=w∧EP X pins σ Q r s') pl.isList (by omega) (by rw[List.size_toArray] <;> omega) (by omega) (by rw[hj];simpa using ew) ⟨rfl,fin⟩) hs
theorem ix_tup:IxR X (rIxT X.K):=by
 intro value slice pins s σ H x y v u Q I rx ry h hs;obtain⟨p,xs,i,z,rfl,rfl,hq,he,q⟩:=h;cases rx;obtain⟨t,rfl⟩:=ry;obtain⟨its,r,pl,hz⟩:=I.tuple hq;obtain⟨j,h1,h2,h3,h4,h5⟩:=atI_get he;obtain⟨w,ew,rw'⟩:=r.get h2;have hl:=r.length;have hn:=line63;have fin:EP X pins σ Q w s:=⟨z,H,I,rw',q⟩;exact subscriptTail_builtinR (x:=w) pl.typeIs slot_tuple_getitem.lookup
  (getItem_tuple (j:=j) (Q:=fun r s'=>r=w∧EP X pins σ Q r s') pl (by omega) (by omega) (by rw[List.size_toArray,← hl];exact h1) (by simpa using ew) ⟨rfl,fin⟩) hs
theorem ix_str:IxR X rIxS:=by
 intro value slice pins s σ H x y v u Q I rx ry h hs;obtain⟨z,i,c,rfl,rfl,hz,he,q⟩:=h;obtain⟨t,rfl⟩:=rx;obtain⟨t',rfl⟩:=ry;obtain⟨j,h1,h2,h3,h4,h5⟩:=atI_get he;have hl:z.cps.toList.length=z.length:=by simp[Str.length]
 rw[hl] at h1 h4 h5;have hn:=line63;exact tail_any (typeIs_str s z t) slot_str_getitem.lookup (getItem_str (c:=c) (by
  have e1:decide (i < -(2^63:Int))=false:=decide_eq_false (by omega);have e2:decide (i ≥ 2^63)=false:=decide_eq_false (by omega);rw[e1,e2,Bool.or_false]) (by rw[h1];simpa using h2) ⟨.str ⟨#[c]⟩,H,I.tok _,⟨_,rfl⟩,q⟩) hs
noncomputable def rIx (K:PySem.W.Frag):R2:=fun x y H Q=>rIxL K x y H Q∨rIxT K x y H Q∨rIxS x y H Q
theorem ix_seq:IxR X (rIx X.K):=ix_list.or (ix_tup.or ix_str)
theorem sb_neg {i:Int}{n:Nat} (h:i<0):max 0 (min (i+(n:Int)) n)=(((i+n).toNat:Nat):Int):=by
 rw[Int.min_eq_left (by omega),Int.ofNat_toNat,Int.max_comm]
theorem sb_pos {i:Int}{n:Nat} (h:¬ i<0):max 0 (min i (n:Int))=((min i.toNat n:Nat):Int):=by
 obtain⟨k,rfl⟩:=Int.eq_ofNat_of_zero_le (Int.not_lt.mp h);rw[Int.toNat_natCast];rcases Nat.le_total k n with h | h
 ·rw[Nat.min_eq_left h,Int.min_eq_left (Int.ofNat_le.mpr h),Int.max_eq_right (Int.natCast_nonneg _)]
 ·rw[Nat.min_eq_right h,Int.min_eq_right (Int.ofNat_le.mpr h),Int.max_eq_right (Int.natCast_nonneg _)]
theorem slice_bounds (lo hi:Option Int) (n:Nat):(sliceBounds lo hi none n).1=((HT.sIx n 0 lo:Nat):Int)∧(sliceBounds lo hi none n).2.1=((HT.sIx n n hi:Nat):Int)∧(sliceBounds lo hi none n).2.2=1:=by
 refine⟨?_,?_,rfl⟩
 ·cases lo with
  | none=>simp[sliceBounds,HT.sIx]
  | some i =>
   simp only[sliceBounds,HT.sIx,Option.getD_none,show (1:Int) > 0 by decide,if_true];by_cases h:i<0
   ·simp only[h,if_true];exact sb_neg h
   ·simp only[h,if_false];exact sb_pos h
 ·cases hi with
  | none=>simp[sliceBounds,HT.sIx]
  | some i =>
   simp only[sliceBounds,HT.sIx,Option.getD_none,show (1:Int) > 0 by decide,if_true];by_cases h:i<0
   ·simp only[h,if_true];exact sb_neg h
   ·simp only[h,if_false];exact sb_pos h
theorem slicePick_cut (its:List Value) (lo hi:Option Int):slicePick its.toArray lo hi none=((its.drop (HT.sIx its.length 0 lo)).take (HT.sIx its.length its.length hi-HT.sIx its.length 0 lo)).toArray:=by
 obtain⟨h1,h2,h3⟩:=slice_bounds lo hi its.toArray.size;unfold slicePick;rw[h1,h2,h3];simp only[sliceRange_one,pick_run,List.size_toArray] <;> rfl
noncomputable def rSlL (K:PySem.W.Frag):V→Option Int→Option Int→Hp→VK→Prop:=fun x lo hi H Q=>∃ a xs,x = .ref a∧SqL K H a xs∧∀ p,H p=none→Q (.ref p) (upd H p (.lst (cutV xs lo hi)))
theorem sl_list:SlR X (rSlL X.K):=by
 intro pins s σ H x v vl vu lo hi sl Q I rx hs pl pu h;obtain⟨a,xs,rfl,hx,q⟩:=h;cases rx;obtain⟨its,r,ht,hz⟩:=I.list hx;have hlen:=r.length;refine⟨"list",_,slot_list_getitem.lookup,ht.isList.typeIs,?_⟩;refine wpAny_getItem_list_slice ht.isList hs pl pu .none (by simp) ?_ (by rw[List.size_toArray] <;> omega);rw[slicePick_cut,← hlen];refine⟨.ref s.heap.objs.size,_,I.laid (t':=s.toks) (o := .lst (cutV xs lo hi)) (fun b ob q=>Heap.get?_push_of_some _ q) (Nat.le_refl _) ?_,rfl,q _ (I.hok.fresh (Nat.le_refl _))⟩;exact⟨Nat.le_trans (cutV_length xs lo hi) hz,_,0,(r.drop (HT.sIx xs.length 0 lo)).take (HT.sIx xs.length xs.length hi-HT.sIx xs.length 0 lo),Heap.get?_push_size _ rfl⟩
noncomputable def flatV:V→Bool
 | .non=>true
 | .bl _=>true
 | .int _=>true
 | .str _=>true
 | _=>false
noncomputable def eqV:V→V→Bool
 | .non,.non=>true
 | .bl a,.bl b=>a == b
 | .bl a,.int b=>(if a then 1 else 0) == b
 | .int a,.bl b=>a == (if b then 1 else 0)
 | .int a,.int b=>a == b
 | .str a,.str b=>a == b
 | _,_=>false
theorem eqAt_V {A:Around}{s:Shared}{y x:V}{u v:Value} (ry:RelV y u) (rx:RelV x v) (fy:flatV y=true) (fx:flatV x=true):SeqAt.EqAt A s u v (eqV y x):=by
 cases y with
 | non =>
  cases ry;cases x with
  | non=>cases rx;exact SeqAt.EqAt.same _
  | bl b=>cases rx;exact SeqAt.EqAt.none_bool b
  | int b=>obtain⟨t,rfl⟩:=rx;exact SeqAt.EqAt.none_int b t
  | str b=>obtain⟨t,rfl⟩:=rx;exact SeqAt.EqAt.none_str b t
  | _=>exact absurd (show false=true from fx) Bool.false_ne_true
 | bl a =>
  cases ry;cases x with
  | non=>cases rx;exact SeqAt.EqAt.bool_none a
  | bl b=>cases rx;exact SeqAt.EqAt.bool_bool a b
  | int b=>obtain⟨t,rfl⟩:=rx;exact SeqAt.EqAt.bool_int a b t
  | str b=>obtain⟨t,rfl⟩:=rx;exact SeqAt.EqAt.bool_str a b t
  | _=>exact absurd (show false=true from fx) Bool.false_ne_true
 | int a =>
  obtain⟨t',rfl⟩:=ry;cases x with
  | non=>cases rx;exact SeqAt.EqAt.int_none a t'
  | bl b=>cases rx;exact SeqAt.EqAt.int_bool a t' b
  | int b=>obtain⟨t,rfl⟩:=rx;exact SeqAt.EqAt.int_int a t' b t
  | str b=>obtain⟨t,rfl⟩:=rx;exact SeqAt.EqAt.int_str a t' b t
  | _=>exact absurd (show false=true from fx) Bool.false_ne_true
 | str a =>
  obtain⟨t',rfl⟩:=ry;cases x with
  | non=>cases rx;exact SeqAt.EqAt.str_none a t'
  | bl b=>cases rx;exact SeqAt.EqAt.str_bool a t' b
  | int b=>obtain⟨t,rfl⟩:=rx;exact SeqAt.EqAt.str_int a t' b t
  | str b=>obtain⟨t,rfl⟩:=rx;exact SeqAt.EqAt.str_str a t' b t
  | _=>exact absurd (show false=true from fx) Bool.false_ne_true
 | _=>exact absurd (show false=true from fy) Bool.false_ne_true
noncomputable def eqU (x:V) (u:Value):Bool:=match u with
 | .none=>eqV .non x
 | .bool b=>eqV (.bl b) x
 | .int i _=>eqV (.int i) x
 | .str z _=>eqV (.str z) x
 | _=>false
theorem eqU_of {x y:V}{u:Value} (r:RelV y u) (f:flatV y=true):eqU x u=eqV y x:=by
 cases y with
 | non=>cases r;rfl
 | bl b=>cases r;rfl
 | int i=>obtain⟨t,rfl⟩:=r;rfl
 | str z=>obtain⟨t,rfl⟩:=r;rfl
 | _=>exact absurd (show false=true from f) Bool.false_ne_true
theorem any_eqU {x:V}:∀ {xs:List V}{us:List Value},Vals xs us→xs.all flatV=true→us.any (eqU x)=xs.any fun y=>eqV y x
 | _,_,.nil,_=>rfl
 | y :: xs,u :: us,.cons r t,f=>by
  rw[List.all_cons,Bool.and_eq_true] at f;rw[List.any_cons,List.any_cons,eqU_of r f.1,any_eqU t f.2]
theorem mem_eqAt {A:Around}{s:Shared}{x:V}{v:Value} (rx:RelV x v) (fx:flatV x=true):∀ {xs:List V}{us:List Value},Vals xs us→xs.all flatV=true→∀ u∈us,SeqAt.EqAt A s u v (eqU x u)
 | _,_,.nil,_=>fun u hu=>by cases hu
 | y :: xs,u :: us,.cons r t,f=>fun u' hu=>by
  rw[List.all_cons,Bool.and_eq_true] at f;rcases List.mem_cons.mp hu with rfl | hu
  ·rw[eqU_of r f.1];exact eqAt_V r rx f.1 fx
  ·exact mem_eqAt rx fx t f.2 u' hu
noncomputable def inV (x:V) (xs:List V):Bool:=xs.any fun y=>eqV y x
noncomputable def rIn (K:PySem.W.Frag) (neg:Bool):R2:=fun x y H Q=>∃ p xs,y = .ref p∧(SqL K H p xs∨SqT K H p xs)∧flatV x=true∧xs.all flatV=true∧Q (.bl (if neg then !inV x xs else inV x xs)) H
theorem op_in_seq:OpR X (compareOp .In) (rIn X.K false):=by
 intro pins s σ H x y v u Q I rx ry h;obtain⟨p,xs,rfl,hq,fx,fs,q⟩:=h;cases ry;rcases hq with hq | hq
 ·obtain⟨its,r,pl,hz⟩:=I.list hq;refine SeqAt.in_listAt (eqU x) pl.isList (fun w hw=>mem_eqAt rx fx r fs w (by simpa using hw)) ⟨.bl _,H,I,rfl,?_⟩;rw[show its.toArray.any (eqU x)=its.any (eqU x) by simp,any_eqU r fs];exact q
 ·obtain⟨its,r,pl,hz⟩:=I.tuple hq;refine SeqAt.in_tupleAt (eqU x) pl (fun w hw=>mem_eqAt rx fx r fs w (by simpa using hw)) ⟨.bl _,H,I,rfl,?_⟩;rw[show its.toArray.any (eqU x)=its.any (eqU x) by simp,any_eqU r fs];exact q
theorem call_len_seq:CallR X (.builtin "len") (fun xs H Q=>∃ p ys,xs=[.ref p]∧(SqL X.K H p ys∨SqT X.K H p ys)∧Q (.int ys.length) H):=by
 intro pins s σ H xs us Q I r h;obtain⟨p,ys,rfl,hq,q⟩:=h;obtain⟨u,rfl,rx⟩:=vals1 r;cases rx;have hn:=line63;rcases hq with hq | hq
 ·obtain⟨its,r',pl,hz⟩:=I.list hq;have hlen:=r'.length;exact Calls.call_len_list pl.isList (by simp only[List.size_toArray] <;> omega) ⟨.int ys.length,H,I.tok _,⟨s.toks+1,by rw[List.size_toArray,hlen]⟩,q⟩
 ·obtain⟨its,r',pl,hz⟩:=I.tuple hq;have hlen:=r'.length;exact len_tuple pl (by simp only[List.size_toArray] <;> omega) ⟨.int ys.length,H,I.tok _,⟨s.toks+1,by rw[List.size_toArray,hlen]⟩,q⟩
theorem call_len_str:CallR X (.builtin "len") (fun xs H Q=>∃ z,xs=[.str z]∧z.length≤sizeLine∧Q (.int z.length) H):=by
 intro pins s σ H xs us Q I r h;obtain⟨z,rfl,hz,q⟩:=h;obtain⟨u,rfl,t,rfl⟩:=vals1 r;have hn:=line63;exact len_str (by omega) ⟨.int z.length,H,I.tok _,⟨_,rfl⟩,q⟩
noncomputable def tyV (K:PySem.W.Frag) (T:String) (x:V) (H:Hp):Prop:=match x with
 | .str _=>T = "str"
 | .int _=>T = "int"
 | .ref p=>(T = "list" ∧ ∃ xs,SqL K H p xs)∨(T = "tuple" ∧ ∃ o,K.lookup p=some o∧o.cls = .type "tuple" ∧ o.dict=none) ∨
   (T = "dict" ∧ ((∃ kvs,H p=some (.dK kvs))∨∃ kvs,H p=some (.dT kvs)))∨(T = "set" ∧ ∃ S n,H p=some (.set S n))
 | _=>False
theorem tyV_is {pins:List (Addr × Obj)} {σ:St}{H:Hp}{s:Shared}{T:String}{x:V}{v:Value} (I:Inv X pins σ H s) (r:RelV x v) (ty:tyV X.K T x H) :
  s.TypeIs v T∧∀ a,v = .ref a→∃ ob,s.heap.get? a=some ob∧ob.dict=none:=by
 cases x with
 | str z =>
  obtain⟨t,rfl⟩:=r;cases (show T = "str" from ty);exact⟨typeIs_str s z t,fun _ e=>nomatch e⟩
 | int i =>
  obtain⟨t,rfl⟩:=r;cases (show T = "int" from ty);exact⟨typeIs_int s i t,fun _ e=>nomatch e⟩
 | ref p =>
  cases r;rcases ty with ⟨rfl,xs,hq⟩ | ⟨rfl,o,hk,hc,hd⟩ | ⟨rfl,hk⟩ | ⟨rfl,S,n,hk⟩
  ·obtain⟨its,_,pl,_⟩:=I.list hq;refine⟨pl.isList.typeIs,fun a e=>?_⟩;cases e;obtain⟨o,n,e,c,hd,_⟩:=pl;exact⟨o,e,hd⟩
  ·refine⟨⟨o,I.kIn p o hk,hc⟩,fun a e=>?_⟩;cases e;exact⟨o,I.kIn _ o hk,hd⟩
  ·have z:∃ o,s.heap.get? p=some o∧o.ExactDict:=by
    rcases hk with ⟨kvs,hk⟩ | ⟨kvs,hk⟩
    ·obtain⟨_,_,_,_,o,_,_,e,ex,_⟩:=I.hok p _ hk;exact⟨o,e,ex⟩
    ·obtain⟨_,_,_,_,o,_,_,e,ex,_⟩:=I.hok p _ hk;exact⟨o,e,ex⟩
   obtain⟨o,e,ex⟩:=z;refine⟨⟨o,e,ex.1⟩,fun a e2=>?_⟩;cases e2;exact⟨o,e,ex.2.1⟩
  ·obtain⟨o,_,_,_,e,ex,_⟩:=I.hok p _ hk;refine⟨⟨o,e,ex.1⟩,fun a e2=>?_⟩;cases e2;exact⟨o,e,ex.2.1⟩
 | _=>exact False.elim ty
noncomputable def tBM0 (K:PySem.W.Frag) (T:String) (r:V→List V→Hp→VK→Prop) (to:TE):TE:=fun σ H Q=>to σ H fun x H1=>tyV K T x H1∧r x [] H1 Q
noncomputable def tBM (K:PySem.W.Frag) (T:String) (r:V→List V→Hp→VK→Prop) (to:TE) (t:TA):TE:=fun σ H Q=>to σ H fun x H1=>tyV K T x H1∧t σ H1 fun xs H2=>r x xs H2 Q
variable {o e:Expr}{es:List Expr}{to:TE}{t:TA}{name:Str}{apos cpos:Pos}{T id:String}{r:V→List V→Hp→VK→Prop}
theorem pe_bm0 (pa:PlainAttrs T) (slot:Slot T name id) (hty:typeOf (.builtin id)=pure (.type "method_descriptor")) (hm:MtR X id r) (ho:PE X o to)
  (hbase:attributeBase o name X.env (eval o X.env)=eval o X.env:=by rfl) (hline:(apos.endLine == cpos.line)=true:=by rfl):PE X (.Call (.Attribute o name apos) [] [] cpos) (tBM0 X.K T r to):=by
 intro pins s σ H Q I h;refine wpAny_Call_method0_late hbase hline (thn (ho pins s σ H _ I h) fun v s1 ⟨x,H1,I1,r1,ty,q1⟩=>?_);obtain⟨h1,h2⟩:=tyV_is I1 r1 ty;exact⟨T,id,pa,slot,hty,h1,h2,Calls.callWith_builtin rfl (PySem.evalArgs_none (hm pins s1 σ H1 x [] v [] Q I1 r1 .nil q1))⟩
theorem pe_bm (pa:PlainAttrs T) (slot:Slot T name id) (hty:typeOf (.builtin id)=pure (.type "method_descriptor")) (hm:MtR X id r) (ho:PE X o to) (ha:PA X (e :: es) t)
  (hbase:attributeBase o name X.env (eval o X.env)=eval o X.env:=by rfl)
  (hfew:((backTo cpos (starEach (e :: es) X.env)).all (fun x => !x.1) && (backToKw cpos (keywordEach [] X.env)).all (fun x=>x.1.isSome)
   && decide ((e :: es).length+([]:List Keyword).length+(if ([]:List Keyword).isEmpty then 0 else 1)<30))=true:=by rfl)
  (hline:(apos.endLine == cpos.line)=true:=by rfl) (hs:starEach (e :: es) X.env=(false,eval e X.env) :: starEach es X.env:=by rfl) (hplain:(backTo cpos (starEach es X.env)).any (·.1)=false:=by rfl) :
  PE X (.Call (.Attribute o name apos) (e :: es) [] cpos) (tBM X.K T r to t):=by
 intro pins s σ H Q I h;refine wpAny_Call_method_late hbase hfew hline rfl (thn (ho pins s σ H _ I h) fun v s1 ⟨x,H1,I1,r1,ty,q1⟩=>?_);obtain⟨h1,h2⟩:=tyV_is I1 r1 ty;refine⟨T,id,pa,slot,hty,h1,h2,?_⟩;have hA:=ha cpos pins s1 σ H1 _ I1 q1;rw[hs] at hA ⊢;refine Calls.callWith_builtin (by show (false || (backTo cpos (starEach es X.env)).any (·.1))=false;rw[hplain] <;> rfl) (Calls.evalArgs_plain ?_);exact thn hA fun us s2 ⟨vs,H2,I2,r2,q2⟩=>hm pins s2 σ H2 x vs v us Q I2 r1 r2 q2
end
end L2
namespace L2
open PySem PySem.Spec PyProof.Rows
noncomputable def MtM (X:Cx) (id:String) (r:V→List V→Hp→VK→Prop):Prop :=
 ∀ (pins:List (Addr × Obj)) (s:Shared) (σ:St) (H:Hp) (x:V) (xs:List V) (v:Value) (us:List Value) (Q:VK),Inv X pins σ H s→RelV x v→Vals xs us→r x xs H Q →
  wpAny (model X.prog X.w) X.A (call (.builtin id) (v :: us)) (EP X pins σ Q) X.xe s
theorem Vals.one {x:V}{us:List Value} (h:Vals [x] us):∃ u,us=[u]∧RelV x u:=by
 cases h with | cons r t=>cases t;exact⟨_,rfl,r⟩
theorem Vals.two {x y:V}{us:List Value} (h:Vals [x,y] us):∃ u v,us=[u,v]∧RelV x u∧RelV y v:=by
 cases h with | cons r t=>cases t with | cons q t=>cases t;exact⟨_,_,rfl,r,q⟩
theorem Vals.zero:∀ {us:List Value},Vals [] us→us=[]
 | _,.nil=>rfl
theorem Vals.dropLast {xs:List V}{us:List Value} (h:Vals xs us):Vals xs.dropLast us.dropLast:=by
 induction h with
 | nil=>exact .nil
 | cons r t ih =>
  cases t with
  | nil=>exact .nil
  | cons q t'=>exact .cons r ih
theorem erase_last {α : Type} (l:List α):l.eraseIdx (l.length-1)=l.dropLast:=by
 induction l with
 | nil=>rfl
 | cons a r ih =>
  cases r with
  | nil=>rfl
  | cons b r =>
   have e:(a :: b :: r).length-1=((b :: r).length-1)+1:=by
    have h1:(a :: b :: r).length=r.length+2:=rfl;have h2:(b :: r).length=r.length+1:=rfl;omega
   rw[e,List.eraseIdx_cons_succ,ih]
   all_goals rfl
section
variable {X:Cx}{pins:List (Addr × Obj)} {σ:St}{H:Hp}{s:Shared}{l b:Addr}{xs ys zs:List V}
theorem Inv.lset {its its':List Value}{n:Nat}{f:Array Value→Array Value}{t':Nat} (I:Inv X pins σ H s) (hH:H l=some (.lst xs))
  (e:s.heap.get? l=some { cls := .type "list",data := .seq its.toArray n }) (hf:f its.toArray=its'.toArray) (hv:Vals ys its') (hz:ys.length≤sizeLine) :
  Inv X pins σ (upd H l (.lst ys)) { s with heap:=s.heap.update l (Obj.mapSeq f),toks:=t' }:=by
 have q:=PySem.IsL.update e f;rw[hf] at q;refine I.write (x:=l) (e:=l) (by rw[hH];exact trivial) (.inl rfl) (fun b' u hb hu=>(Heap.get?_update_other s.heap (Obj.mapSeq f) (Ne.symm hb)).trans hu) ⟨_,q⟩ ?_;exact⟨hz,its',_,hv,q⟩
theorem Inv.lnew {its:List Value}{t':Nat} (I:Inv X pins σ H s) (hv:Vals ys its) (hz:ys.length≤sizeLine) :
  Inv X pins σ (upd H s.heap.objs.size (.lst ys)) { s with heap:=s.heap.push { cls := .type "list",data := .seq its.toArray },toks:=t' } :=
 I.laid (fun _ _ q=>Heap.get?_push_of_some _ q) (Nat.le_refl _) ⟨hz,its,0,hv,Heap.get?_push_size _ rfl⟩
theorem Inv.fresh (I:Inv X pins σ H s):H s.heap.objs.size=none:=I.hok.fresh (Nat.le_refl _)
theorem Inv.lstM (I:Inv X pins σ H s) (hH:H l=some (.lst xs)):xs.length≤sizeLine∧∃ (its:List Value) (n:Nat),Vals xs its∧xs.length=its.length∧s.heap.get? l=some { cls := .type "list",data := .seq its.toArray n }:=by
 obtain⟨z,its,n,r,e⟩:=I.hok l _ hH;exact⟨z,its,n,r,r.length,e⟩
theorem notLongL {n:Nat} (h:n≤sizeLine):Builtin.List.listTooLong n=false:=by
 unfold Builtin.List.listTooLong;exact decide_eq_false (by omega)
end
section
variable {X:Cx}
noncomputable def rAppend:V→List V→Hp→VK→Prop:=fun x vs H Q=>∃ l xs y,x = .ref l∧vs=[y]∧H l=some (.lst xs)∧xs.length<sizeLine∧Q .non (upd H l (.lst (xs ++ [y])))
theorem mt_append:MtM X "list.append" rAppend:=by
 intro pins s σ H x vs v us Q I rx rv h;obtain⟨l,xs,y,rfl,rfl,hH,hz,q⟩:=h;cases rx;obtain⟨u,rfl,ru⟩:=rv.one;obtain⟨z,its,n,r,hl,e⟩:=I.lstM hH;refine call_meets F.slot_list_append ⟨_,e,rfl⟩ F.entry_list_append (F.args_list_append_2 _ _) (PySem.list_append l its.toArray n u (by rw[List.size_toArray];omega)) ⟨e,?_⟩;refine⟨.non,_,I.lset (its':=its ++ [u]) hH e (by simp) (r.append (.cons ru .nil)) ?_,rfl,q⟩;rw[List.length_append,List.length_singleton];omega
noncomputable def rPop:V→List V→Hp→VK→Prop:=fun x vs H Q=>∃ l xs y,x = .ref l∧vs=[]∧H l=some (.lst xs)∧xs[xs.length-1]? = some y∧Q y (upd H l (.lst xs.dropLast))
theorem mt_pop:MtM X "list.pop" rPop:=by
 intro pins s σ H x vs v us Q I rx rv h;obtain⟨l,xs,y,rfl,rfl,hH,hy,q⟩:=h;cases rx;have hus:=rv.zero;subst hus;obtain⟨z,its,n,r,hl,e⟩:=I.lstM hH;obtain⟨u,hu,ru⟩:=r.get hy;have hy':its.toArray[its.toArray.size-1]? = some u:=by
  show its.toArray[its.length-1]? = some u;rw[← Array.getElem?_toList,← hl];exact hu
 refine call_meets F.slot_list_pop ⟨_,e,rfl⟩ F.entry_list_pop (F.args_list_pop_1 _) (MeetsSeq.list_pop_last l its.toArray n u hy' (by rw[List.size_toArray];omega)) ⟨e,?_⟩;refine⟨y,_,I.lset (its':=its.dropLast) hH e ?_ r.dropLast ?_,ru,q⟩
 ·show its.toArray.eraseIdxIfInBounds (its.toArray.size-1)=its.dropLast.toArray;rw[List.size_toArray,List.eraseIdxIfInBounds_toArray,erase_last]
 ·rw[List.length_dropLast];omega
noncomputable def rCat:R2:=fun x y H Q=>∃ l b xs zs,x = .ref l∧y = .ref b∧H l=some (.lst xs)∧H b=some (.lst zs)∧xs.length+zs.length≤sizeLine∧∀ p,H p=none→Q (.ref p) (upd H p (.lst (xs++zs)))
theorem op_cat:OpR X (binaryOp .Add) rCat:=by
 intro pins s σ H x y v u Q I rx ry h;obtain⟨l,b,xs,zs,rfl,rfl,hH,hB,hz,q⟩:=h;cases rx;cases ry;obtain⟨z,its,n,r,hl,e⟩:=I.lstM hH;obtain⟨z2,its2,n2,r2,hl2,e2⟩:=I.lstM hB;refine PySem.P.add_list e e2 ?_ (by rw[List.size_toArray,List.size_toArray];omega);have ea:its.toArray++its2.toArray=(its++its2).toArray:=by simp
 rw[ea];exact⟨.ref _,_,I.lnew (t':=s.toks) (r.append r2) (by rw[List.length_append];omega),rfl,q _ I.fresh⟩
end
end L2
namespace L2
open PySem PySem.Spec PyProof.Rows
section
variable {κ : Type} [DecidableEq κ]
noncomputable def valV (kvs:List (κ × V)) (k : κ):Option V:=(kvs.find? fun kv=>decide (kv.1=k)).map (·.2)
noncomputable def putK (kvs:List (κ × V)) (k : κ) (v:V):List (κ × V) :=
 if (kvs.any fun kv=>decide (kv.1=k))=true then kvs.map (fun kv=>if kv.1=k then (kv.1,v) else kv) else kvs ++ [(k,v)]
theorem valV_pos {p : κ × V}{r:List (κ × V)}{k : κ} (e:p.1=k):valV (p :: r) k=some p.2:=by simp[valV,List.find?_cons,e]
theorem valV_neg {p : κ × V}{r:List (κ × V)}{k : κ} (e:¬ p.1=k):valV (p :: r) k=valV r k:=by simp[valV,List.find?_cons,e]
theorem valV_any (k : κ):∀ kvs:List (κ × V),(kvs.any fun kv=>decide (kv.1=k))=(valV kvs k).isSome
 | []=>rfl
 | p :: r=>by
  rw[List.any_cons];by_cases e:p.1=k
  ·simp only[valV_pos e,decide_eq_true e,Bool.true_or,Option.isSome_some]
  ·rw[valV_neg e,decide_eq_false e,Bool.false_or];exact valV_any k r
theorem length_putK (kvs:List (κ × V)) (k : κ) (v:V):(putK kvs k v).length≤kvs.length+1:=by
 unfold putK;split
 ·rw[List.length_map];omega
 ·rw[List.length_append,List.length_cons,List.length_nil];omega
theorem RelO.isSome_eq {o:Option V}{u:Option Value} (r:RelO o u):o.isSome=u.isSome:=by
 cases o with
 | none=>cases u with
  | none=>rfl
  | some _=>exact (show False from r).elim
 | some _=>cases u with
  | none=>exact (show False from r).elim
  | some _=>rfl
theorem RelO.getD {o:Option V}{u:Option Value}{d:V}{d':Value} (r:RelO o u) (rd:RelV d d'):RelV (o.getD d) (u.getD d'):=by
 cases o with
 | none=>cases u with
  | none=>exact rd
  | some _=>exact (show False from r).elim
 | some _=>cases u with
  | none=>exact (show False from r).elim
  | some _=>exact r
theorem KV.val {kvs:List (κ × V)}{vs:List (κ × Value)} (r:KV kvs vs) (k : κ):RelO (valV kvs k) (valueAt vs k):=by
 unfold KV at r;induction r with
 | nil=>exact True.intro
 | @cons p q ps qs h t ih =>
  obtain⟨h1,h2⟩:=h;by_cases e:p.1=k
  ·have e':q.1=k:=h1.symm.trans e;have b:valueAt (q :: qs) k=some q.2:=by simp[valueAt,List.find?_cons,e']
   rw[valV_pos e,b];exact h2
  ·have e':¬ q.1=k:=fun z=>e (h1.trans z)
   have b:valueAt (q :: qs) k=valueAt qs k:=by simp[valueAt,List.find?_cons,e']
   rw[valV_neg e,b];exact ih
theorem KV.any {kvs:List (κ × V)}{vs:List (κ × Value)} (r:KV kvs vs) (k : κ):(kvs.any fun kv=>decide (kv.1=k))=vs.any fun kv=>decide (kv.1=k):=by
 unfold KV at r;induction r with
 | nil=>rfl
 | cons h t ih=>rw[List.any_cons,List.any_cons,ih,h.1]
theorem KV.repl {kvs:List (κ × V)}{vs:List (κ × Value)} (r:KV kvs vs) (k : κ) {y:V}{u:Value} (ry:RelV y u) :
  KV (kvs.map fun kv=>if kv.1=k then (kv.1,y) else kv) (vs.map fun kv=>if kv.1=k then (kv.1,u) else kv):=by
 unfold KV at r ⊢;induction r with
 | nil=>exact .nil
 | @cons p q ps qs h t ih =>
  rw[List.map_cons,List.map_cons];refine .cons ?_ ih;obtain⟨h1,h2⟩:=h;by_cases e:p.1=k
  ·rw[if_pos e,if_pos (h1.symm.trans e)];exact⟨h1,ry⟩
  ·rw[if_neg e,if_neg (fun z=>e (h1.trans z))];exact⟨h1,h2⟩
theorem KV.put {kvs:List (κ × V)}{vs:List (κ × Value)} (r:KV kvs vs) (k : κ) {y:V}{u:Value} (ry:RelV y u):KV (putK kvs k y) (stored vs k u):=by
 unfold putK stored;rw[r.any k];by_cases e:(vs.any fun kv=>decide (kv.1=k))=true
 ·rw[if_pos e,if_pos e];exact r.repl k ry
 ·rw[if_neg e,if_neg e];exact Paired.snoc r ⟨rfl,ry⟩
theorem KV.keys {kvs:List (κ × V)}{vs:List (κ × Value)} (r:KV kvs vs):kvs.map (·.1)=vs.map (·.1):=by
 unfold KV at r;induction r with
 | nil=>rfl
 | cons h t ih=>rw[List.map_cons,List.map_cons,ih,h.1]
theorem KV.length {kvs:List (κ × V)}{vs:List (κ × Value)} (r:KV kvs vs):kvs.length=vs.length:=Paired.length r
end
theorem kV_is {P:Program}{w:World}{k:Key}{u:Value} (r:RelV (kV k) u):(mixKind P w).is k u=true:=by
 cases k with
 | inl i=>obtain⟨t,e⟩:=(show ∃ t,u=Value.int i t from r);subst e;exact mixKind_int P w i t
 | inr x=>obtain⟨t,e⟩:=(show ∃ t,u=Value.str x t from r);subst e;exact mixKind_str P w x t
theorem items_are {P:Program}{w:World}:∀ {ks:List Key}{us:List Value},Vals (ks.map kV) us→ItemsAre (mixKind P w) ks us
 | [],_,r=>by rw[List.map_nil] at r;cases r;exact .nil
 | k :: ks,_,r=>by
  rw[List.map_cons] at r;cases r with
  | cons h t=>exact .cons (kV_is h) (items_are t)
noncomputable abbrev KT (H:Hp):List (List Key × V)→List (List Key × Addr × Value)→Prop:=Paired fun p q=>p.1=q.1∧H q.2.1=some (.tup (p.1.map kV))∧RelV p.2 q.2.2
theorem KT.val {H:Hp}{kvs:List (List Key × V)}{xs:List (List Key × Addr × Value)} (r:KT H kvs xs) (k:List Key):RelO (valV kvs k) ((atKey xs k).map (·.2)):=by
 induction r with
 | nil=>exact True.intro
 | @cons p q ps qs h t ih =>
  obtain⟨h1,_,h2⟩:=h;by_cases e:p.1=k
  ·have e':q.1=k:=h1.symm.trans e;have b:atKey (q :: qs) k=some q.2:=by simp[atKey,List.find?_cons,e']
   rw[valV_pos e,b];exact h2
  ·have e':¬ q.1=k:=fun z=>e (h1.trans z)
   have b:atKey (q :: qs) k=atKey qs k:=by simp[atKey,List.find?_cons,e']
   rw[valV_neg e,b];exact ih
theorem KT.repl {H:Hp}{kvs:List (List Key × V)}{xs:List (List Key × Addr × Value)} (r:KT H kvs xs) (k:List Key) {y:V}{u:Value} (ry:RelV y u) :
  KT H (kvs.map fun kv=>if kv.1=k then (kv.1,y) else kv) (xs.map (putAt k u)):=by
 induction r with
 | nil=>exact .nil
 | @cons p q ps qs h t ih =>
  rw[List.map_cons,List.map_cons];refine .cons ?_ ih;obtain⟨h1,h2,h3⟩:=h;unfold putAt;by_cases e:p.1=k
  ·rw[if_pos e,if_pos (h1.symm.trans e)];exact⟨h1,h2,ry⟩
  ·rw[if_neg e,if_neg (fun z=>e (h1.trans z))];exact⟨h1,h2,h3⟩
theorem KT.put {H:Hp}{kvs:List (List Key × V)}{xs:List (List Key × Addr × Value)} (r:KT H kvs xs) (k:List Key) {b:Addr}{y:V}{u:Value} (hb:H b=some (.tup (k.map kV))) (ry:RelV y u) :
  KT H (putK kvs k y) (storedH xs k b u):=by
 have e:(kvs.any fun kv=>decide (kv.1=k))=(atKey xs k).isSome:=by
  rw[valV_any,(r.val k).isSome_eq,Option.isSome_map]
 unfold putK storedH;rw[e];by_cases q:(atKey xs k).isSome=true
 ·rw[if_pos q,if_pos q];exact r.repl k ry
 ·rw[if_neg q,if_neg q];exact Paired.snoc r ⟨rfl,hb,ry⟩
theorem KT.keeps {H H':Hp}{kvs:List (List Key × V)}{xs:List (List Key × Addr × Value)} (r:KT H kvs xs) (ht:∀ b ys,H b=some (.tup ys)→H' b=some (.tup ys)):KT H' kvs xs :=
 Paired.mapP r fun _ _ z=>⟨z.1,ht _ _ z.2.1,z.2.2⟩
section
variable {P:Program}{w:World}{H:Hp}{h:Heap}{a:Addr}
theorem rd_of {u:HO} (ok:HOk P w H h) (e:Rd H a u):ObjOk P w H h a u:=e.ok ok
theorem dk_rd {kvs:List (Key × V)} (ok:HOk P w H h) (e:Rd H a (.dK kvs)):kvs.length≤sizeLine∧(a == sysModules)=false∧∃ vs,KV kvs vs∧h.DictOf (mixKind P w) a vs :=
 show ObjOk P w H h a (.dK kvs) from rd_of ok e
theorem dk_of {kvs:List (Key × V)} (ok:HOk P w H h) (e:H a=some (.dK kvs)):kvs.length≤sizeLine∧(a == sysModules)=false∧∃ vs,KV kvs vs∧h.DictOf (mixKind P w) a vs:=dk_rd ok (.inl e)
theorem key_of {ks:List Key} (ok:HOk P w H h) (e:H a=some (.tup (ks.map kV))):(tupleKind (mixKind P w)).is h ks a:=by
 obtain⟨_,its,r,o,h1,h2,n,h3⟩:=(show ObjOk P w H h a (.tup (ks.map kV)) from ok a _ e);exact⟨o,its.toArray,n,h1,h2,h3,by simpa using items_are r⟩
theorem dt_rd {kvs:List (List Key × V)} (ok:HOk P w H h) (e:Rd H a (.dT kvs)):kvs.length≤sizeLine∧(a == sysModules)=false ∧
  ∃ xs,KT H kvs xs∧h.DictOfH (tupleKind (mixKind P w)) a xs:=by
 obtain⟨z,y,xs,r,o,es,ep,h1,h2,h3,h4,h5⟩:=(show ObjOk P w H h a (.dT kvs) from rd_of ok e);refine⟨z,y,xs,r,o,es,ep,h1,h2,h3,h4,fun x hx=>?_,h5⟩;have all:∀ {l:List (List Key × V)}{m:List (List Key × Addr × Value)},KT H l m→∀ x∈m,(tupleKind (mixKind P w)).is h x.1 x.2.1:=by
  intro l m q;induction q with
  | nil=>intro x hx;exact nomatch hx
  | @cons p q ps qs hq t ih =>
   intro x hx;rcases List.mem_cons.mp hx with e | hx
   ·subst e;exact key_of ok (by rw[← hq.1];exact hq.2.1)
   ·exact ih x hx
 exact all r x hx
theorem dt_of {kvs:List (List Key × V)} (ok:HOk P w H h) (e:H a=some (.dT kvs)):kvs.length≤sizeLine∧(a == sysModules)=false ∧
  ∃ xs,KT H kvs xs∧h.DictOfH (tupleKind (mixKind P w)) a xs:=dt_rd ok (.inl e)
end
noncomputable def DGet (H:Hp) (a:Addr) (y:V) (r:Option V):Prop :=
 (∃ kvs k,Rd H a (.dK kvs)∧y=kV k∧r=valV kvs k)∨∃ kvs k b,Rd H a (.dT kvs)∧y = .ref b∧H b=some (.tup (k.map kV))∧r=valV kvs k
noncomputable def DPut (H:Hp) (a:Addr) (y v:V) (H':Hp):Prop :=
 (∃ kvs k,H a=some (.dK kvs)∧y=kV k∧kvs.length<sizeLine∧H'=upd H a (.dK (putK kvs k v))) ∨
 ∃ kvs k b,H a=some (.dT kvs)∧y = .ref b∧H b=some (.tup (k.map kV))∧kvs.length<sizeLine∧H'=upd H a (.dT (putK kvs k v))
theorem DGet.k {H:Hp}{a:Addr}{kvs:List (Key × V)}{k:Key} (e:H a=some (.dK kvs)):DGet H a (kV k) (valV kvs k) := .inl ⟨kvs,k,.inl e,rfl,rfl⟩
theorem DPut.k {H:Hp}{a:Addr}{kvs:List (Key × V)}{k:Key}{v:V} (e:H a=some (.dK kvs)) (hl:kvs.length<sizeLine):DPut H a (kV k) v (upd H a (.dK (putK kvs k v))) := .inl ⟨kvs,k,e,rfl,hl,rfl⟩
section
variable {X:Cx}{pins:List (Addr × Obj)} {σ:St}{H:Hp}{s:Shared}{a:Addr}{y v:V}{u r:Value}{o:Option V}{A:Around}{E:Value→Shared→Prop}
theorem Inv.big (I:Inv X pins σ H s):sysModules<s.heap.objs.size:=by
 have h:mainGlobals<s.heap.objs.size:=(I.mod.glob.keeps I.bk).lt;exact Nat.lt_trans (by decide) h
theorem d_getItem {Q:Value→Shared→Prop} (hu:A.units+1<cLine) (I:Inv X pins σ H s) (g:DGet H a y (some v)) (ry:RelV y u) (h:∀ w' s',Inv X pins σ H s'→RelV v w'→Q w' s') :
  wpAny (model X.prog X.w) A (getItem (.ref a) u) Q E s:=by
 rcases g with ⟨kvs,k,e,ey,l⟩ | ⟨kvs,k,b,e,ey,eb,l⟩
 ·subst ey;obtain⟨z,hd,vs,rel,dd⟩:=dk_rd I.hok e;obtain⟨w',hw,rw'⟩:=RelO.some_of (v:=v) (o:=valueAt vs k) (by rw[l];exact rel.val k);exact wpAny_getItem_of (kV_is ry) dd.mapOf hw (h w' _ (I.tok _) rw')
 ·subst ey;cases (show u=Value.ref b from ry);obtain⟨z,hd,xs,rel,dd⟩:=dt_rd I.hok e;obtain⟨w',hw,rw'⟩:=RelO.some_of (v:=v) (o:=(atKey xs k).map (·.2)) (by rw[l];exact rel.val k);obtain⟨p,hp,hp2⟩:=Option.map_eq_some_iff.mp hw;refine wpAny_getItem_heap (tupleKind_room_in1 hu) (key_of I.hok eb) dd hp ?_;rw[hp2];exact h w' _ (I.tok _) rw'
theorem d_write {h':Heap}{t':Nat}{ob:HO} (I:Inv X pins σ H s) (mu:Mut (H a)) (hs:Heap.SameBut a s.heap h') (he:∃ q,h'.get? a=some q) (new:ObjOk X.prog X.w (upd H a ob) h' a ob) :
  Inv X pins σ (upd H a ob) { s with heap:=h',toks:=t' } :=
 I.write (x:=a) (e:=a) mu (.inl rfl) (fun b q hb z=>(hs.2 b hb).trans z) he new
theorem dk_new {P:Program}{w:World}{H':Hp}{h':Heap}{kvs:List (Key × V)}{vs:List (Key × Value)} (z:kvs.length≤sizeLine) (hd:(a == sysModules)=false) (rel:KV kvs vs) (dd:h'.DictOf (mixKind P w) a vs) :
  ObjOk P w H' h' a (.dK kvs):=⟨z,hd,vs,rel,dd⟩
theorem d_setItem {H':Hp}{Q:Unit→Shared→Prop} (hu:A.units+1<cLine) (I:Inv X pins σ H s) (g:DPut H a y v H') (ry:RelV y u) (rv:RelV v r) (h:∀ s',Inv X pins σ H' s'→Q () s') :
  wpAny (model X.prog X.w) A (setItem (.ref a) u r) Q E s:=by
 rcases g with ⟨kvs,k,e,ey,l,eH⟩ | ⟨kvs,k,b,e,ey,eb,l,eH⟩
 ·subst ey eH;obtain⟨z,hd,vs,rel,dd⟩:=dk_of I.hok e;have hz:vs.length≤sizeLine:=by rw[← rel.length];exact z
  have hl:(putK kvs k v).length≤sizeLine:=by have:=length_putK kvs k v;omega
  refine wpAny_setItem_pairs (hsz:=hz) (kV_is ry) dd fun h' dd' hs=>h _ ?_
  have he:∃ q,h'.get? a=some q:=let ⟨q,_,_,hq,_⟩:=dd'; ⟨q,hq⟩
  exact d_write I (by rw[e];exact True.intro) hs he (dk_new hl hd (rel.put k rv) dd')
 ·subst ey eH;cases (show u=Value.ref b from ry);obtain⟨z,hd,xs,rel,dd⟩:=dt_of I.hok e;have hz:xs.length≤sizeLine:=by rw[← Paired.length rel];exact z
  have hl:(putK kvs k v).length≤sizeLine:=by have:=length_putK kvs k v;omega
  refine wpAny_setItem_heap (hsz:=hz) (tupleKind_room_in1 hu) (key_of I.hok eb) dd fun h' dd' hs=>h _ ?_
  obtain⟨q,es,ep,hq,h2,h3,h4,_,h5⟩:=dd';refine d_write I (by rw[e];exact True.intro) hs ⟨q,hq⟩ ⟨hl,hd,_,(rel.put k eb rv).keeps fun c ys ec=>?_,q,es,ep,hq,h2,h3,h4,h5⟩;rw[upd_ne (ne_of ec e (fun z=>nomatch z))];exact ec
end
noncomputable def NoSl (i:Expr):Prop:=∀ ov iv,subscripted i false ov iv=operate [ov,iv] (getItem ov iv)
theorem subD_of {prog:Program}{w:World}{A:Around}{E:Value→Shared→Prop}{s:Shared}{env:Env}{value slice:Expr}{pos:Pos}{T id:String}{Q:Value→Shared→Prop}
  (hl:typeLookup (.type T) "__getitem__" = pure (some (.builtin id))) (hs:NoSl slice)
  (h:wpAny (model prog w) A (eval value env) (fun o s₁=>wpAny (model prog w) A (eval slice env) (fun i s₂=>s₂.TypeIs o T∧wpAny (model prog w) A (getItem o i) Q E s₂) E s₁) E s) :
  wpAny (model prog w) A (eval (.Subscript value slice pos) env) Q E s:=by
 refine Subscript_ (wpAny_mono h (fun o s₁ h₁=>wpAny_mono h₁ (fun i s₂ h₂=>?_) fun _ _ x=>x) fun _ _ x=>x);obtain⟨hT,h₂⟩:=h₂;unfold subscriptTail;refine wpAny_bind ?_;rw[getitemInPython_of_ne hT.not_modules];refine wpAny_bind (wpAny_specialOf hT hl ?_);have fin:wpAny (model prog w) A (subscripted slice false o i) (fun r s₃=>wpAny (model prog w) A (letTemporaryGo value o r >>= fun _=>pure r) Q E s₃) E s₂:=by
  rw[hs o i];exact wpAny_operating (wpAny_mono h₂ (fun r s₃ h₃=>wpAny_bind (wpAny_letTemporaryGo (wpAny_pure h₃))) fun _ _ x=>x)
 first
  | exact wpAny_pure (wpAny_bind fin)
  | exact wpAny_bind (wpAny_pure (wpAny_bind fin))
  | exact wpAny_bind fin
theorem dict_typeIs {X:Cx}{pins:List (Addr × Obj)} {σ:St}{H:Hp}{s:Shared}{a:Addr}{y:V}{o:Option V} (I:Inv X pins σ H s) (g:DGet H a y o):s.TypeIs (.ref a) "dict" := by
 rcases g with ⟨kvs,k,e,_,_⟩ | ⟨kvs,k,b,e,_,_,_⟩
 ·obtain⟨_,_,vs,_,dd⟩:=dk_rd I.hok e;exact dd.typeIs
 ·obtain⟨_,_,xs,_,dd⟩:=dt_rd I.hok e;exact dd.typeIs
noncomputable def tDGet (td ty:TE):TE:=fun σ H Q=>td σ H fun x H1=>ty σ H1 fun y H2=>∃ a v,x = .ref a∧DGet H2 a y (some v)∧Q v H2
noncomputable def sDPut (td ty tv:TE):TS:=fun D σ H=>tv σ H fun v H1=>td σ H1 fun x H2=>ty σ H2 fun y H3=>∃ a H4,x = .ref a∧DPut H3 a y v H4∧D.nx σ H4
section
variable {X:Cx}{o i e value:Expr}{pos pos' tpos:Pos}{td ty tv:TE}
theorem pe_dget (hu:X.A.units+1<cLine) (ho:PE X o td) (hi:PE X i ty) (hs:NoSl i):PE X (.Subscript o i pos) (tDGet td ty):=by
 intro pins s σ H Q I h;refine subD_of PySem.F.slot_dict_getitem.lookup hs (thn (ho pins s σ H _ I h) fun u s1 ⟨x,H1,I1,rx,q1⟩=>thn (hi pins s1 σ H1 _ I1 q1) fun iv s2 ⟨y,H2,I2,ry,a,v,ex,g,q2⟩=>?_);subst ex;obtain rfl:u=Value.ref a:=rx;exact⟨dict_typeIs I2 g,d_getItem hu I2 g ry fun w' s3 I3 rw'=>⟨v,H2,I3,rw',q2⟩⟩
theorem ps_dput (hu:X.A.units+1<cLine) (ho:PE X o td) (hi:PE X i ty) (hv:PE X value tv) (hs:swapsWith value (some (.Subscript o i pos')) pos.line X.env=pure false) :
  PS X (.Assign [.Subscript o i pos'] value pos) (sDPut td ty tv):=by
 intro pins s σ H D I h;refine wpAny_Assign_Subscript (thn (hv pins s σ H _ I h) fun r s1 ⟨v,H1,I1,rv,q1⟩=>thn (ho pins s1 σ H1 _ I1 q1) fun u s2 ⟨x,H2,I2,rx,q2⟩=>thn (hi pins s2 σ H2 _ I2 q2) fun iv s3 ⟨y,H3,I3,ry,a,H4,ex,g,q3⟩=>?_) hs;subst ex;obtain rfl:u=Value.ref a:=rx;exact d_setItem hu I3 g ry rv fun s4 I4=>⟨σ,H4,I4,q3⟩
end
theorem dk_empty {P:Program}{w:World}{H:Hp} (h:Heap) (hb:sysModules<h.objs.size):ObjOk P w H (h.push { cls := .type "dict",data := .dict #[] }) h.objs.size (.dK []) :=
 ⟨Nat.zero_le _,beq_eq_false_iff_ne.mpr (Ne.symm (Nat.ne_of_lt hb)),[],.nil,Heap.DictOf.new h⟩
noncomputable def tDNewK:TE:=fun _ H Q=>∀ p,H p=none→Q (.ref p) (upd H p (.dK []))
section
variable {X:Cx}{pos:Pos}
theorem pe_dnewK:PE X (.Dict [] [] pos) tDNewK:=fun pins s σ H Q I h =>
 wpAny_Dict_empty ⟨.ref s.heap.objs.size,_,I.laid (a:=s.heap.objs.size) (o := .dK []) (t':=s.toks) (fun _ _ q=>Heap.get?_push_of_some _ q) (Nat.le_refl _) (dk_empty s.heap I.big),rfl,h _ (I.hok.fresh (Nat.le_refl _))⟩
end
structure M2 (X:Cx) (o:Expr) (m:Str) (apos:Pos) (e f:Expr) (cpos:Pos):Prop where
 base:attributeBase o m X.env (eval o X.env)=eval o X.env
 few:((backTo cpos (starEach [e,f] X.env)).all (fun x => !x.1) && (backToKw cpos (keywordEach [] X.env)).all (fun x=>x.1.isSome)
  && decide (([e,f]:List Expr).length+([]:List Keyword).length+(if ([]:List Keyword).isEmpty then 0 else 1)<30))=true
 line:(apos.endLine == cpos.line)=true
 trees:backTo cpos (starEach [e,f] X.env)=[(false,eval e X.env),(false,eval f X.env)]
noncomputable def IsD (H:Hp) (a:Addr):Prop:=(∃ kvs,Rd H a (.dK kvs))∨∃ kvs,Rd H a (.dT kvs)
theorem isD_at {X:Cx}{pins:List (Addr × Obj)} {σ:St}{H:Hp}{s:Shared}{a:Addr} (I:Inv X pins σ H s) (d:IsD H a) :
  s.TypeIs (.ref a) "dict" ∧ (∀ b,Value.ref a = .ref b→∃ ob,s.heap.get? b=some ob∧ob.dict=none)∧(a == sysModules)=false:=by
 rcases d with ⟨kvs,e⟩ | ⟨kvs,e⟩
 ·obtain⟨_,hd,vs,_,dd⟩:=dk_rd I.hok e;refine⟨dd.typeIs,fun b q=>?_,hd⟩;cases q;obtain⟨ob,_,_,h1,h2,_⟩:=dd;exact⟨ob,h1,h2.2.1⟩
 ·obtain⟨_,hd,xs,_,dd⟩:=dt_rd I.hok e;refine⟨dd.typeIs,fun b q=>?_,hd⟩;cases q;obtain⟨ob,_,_,h1,h2,_⟩:=dd;exact⟨ob,h1,h2.2.1⟩
section
variable {X:Cx}{pins:List (Addr × Obj)} {σ:St}{H:Hp}{s:Shared}{a:Addr}{y d:V}{u r:Value}{o:Option V}{A:Around}{E:Value→Shared→Prop}
theorem d_get2 {Q:Value→Shared→Prop} (hu:A.units+1<cLine) (I:Inv X pins σ H s) (g:DGet H a y o) (ry:RelV y u) (rd:RelV d r) (h:∀ w' s',Inv X pins σ H s'→RelV (o.getD d) w'→Q w' s') :
  wpAny (model X.prog X.w) A (call (.builtin "dict.get") [.ref a,u,r]) Q E s:=by
 rcases g with ⟨kvs,k,e,ey,l⟩ | ⟨kvs,k,b,e,ey,eb,l⟩
 ·subst ey;obtain⟨z,hd,vs,rel,dd⟩:=dk_rd I.hok e;refine call_meetsIn PySem.F.slot_dict_get dd.typeIs PySem.F.entry_dict_get (PySem.F.args_dict_get_3 _ _ _) (meets_dict_get_default (mixKind X.prog X.w) a (kV_is ry) hd r) ⟨_,dd.mapOf,h _ _ (I.tok _) ?_⟩;rw[l];exact (rel.val k).getD rd
 ·subst ey;cases (show u=Value.ref b from ry);obtain⟨z,hd,xs,rel,dd⟩:=dt_rd I.hok e;refine call_meetsIn PySem.F.slot_dict_get dd.typeIs PySem.F.entry_dict_get (PySem.F.args_dict_get_3 _ _ _) (meetsH_dict_get_default (tupleKind (mixKind X.prog X.w)) a b hd r) ⟨tupleKind_room_in1 hu,k,xs,key_of I.hok eb,dd,h _ _ (I.tok _) ?_⟩;rw[l];exact (rel.val k).getD rd
end
noncomputable def tDGet2 (td ty tx:TE):TE:=fun σ H Q=>td σ H fun x H1=>∃ a,x = .ref a∧IsD H1 a∧ty σ H1 fun y H2=>tx σ H2 fun z H3=>∃ o,DGet H3 a y o∧Q (o.getD z) H3
section
variable {X:Cx}{o e f:Expr}{apos cpos:Pos}{td ty tx:TE}
theorem pe_dget2 (hu:X.A.units+1<cLine) (ho:PE X o td) (he:PE X e ty) (hf:PE X f tx) (m:M2 X o "get" apos e f cpos):PE X (.Call (.Attribute o "get" apos) [e,f] [] cpos) (tDGet2 td ty tx):=by
 intro pins s σ H Q I h;refine wpAny_Call_method m.base m.few m.line PySem.F.plainAttrs_dict PySem.F.slot_dict_get PySem.F.type_dict_get (thn (ho pins s σ H _ I h) fun u s1 ⟨x,H1,I1,rx,a,ex,d,q1⟩=>?_);subst ex;obtain rfl:u=Value.ref a:=rx;obtain⟨t1,t2,_⟩:=isD_at I1 d;refine⟨t1,t2,?_⟩;rw[m.trees];refine Calls.callWith_builtin rfl (Calls.evalArgs_plain (Calls.spliced_cons (thn (he pins s1 σ H1 _ I1 q1) fun iv s2 ⟨y,H2,I2,ry,q2⟩ =>
  Calls.spliced_cons (thn (hf pins s2 σ H2 _ I2 q2) fun fv s3 ⟨z,H3,I3,rz,ov,g,q3⟩=>Calls.spliced_nil ?_))))
 exact d_get2 hu I3 g ry rz fun w' s4 I4 rw'=>⟨_,H3,I4,rw',q3⟩
end
end L2
namespace Att
open PySem PySem.W PySem.Calls PyProof.Rows
theorem ints_of_wellAll {P:Params}{h:Heap}:∀ (ns:List Int) (vs:List Value),WellAll P h vs (ns.map WData.int)→IntsAre vs ns:=by
 intro ns;induction ns with
 | nil =>
  intro vs w;rw[List.map_nil] at w;cases w;exact .nil
 | cons n ns ih =>
  intro vs w;rw[List.map_cons] at w;cases w with
  | cons a b =>
   cases a;exact .cons _ _ (ih _ b)
theorem script_of {l:OpenLaw}{n:Nat} (hn:l.most=some n) {P:Params}{h:Heap}{args:List WData}{vals:List Value}
  (hpre:l.row.toRowW.claim.pre args=true) (hwl:WellAll P h vals args) :
  ∃ a vs ns,vals=[Value.ref a]∧args=[WData.list (ns.map WData.int)]∧h.get? a=some { cls := .type "list",data := .seq vs.toArray }∧IntsAre vs ns∧ns.length≤n:=by
 have hsh:WShape.hasAll [] args [.list .int]=true:=(pre_splitW hpre).1;have hc:l.pre.holds [] { args:=args }=true:=(pre_splitW hpre).2;obtain⟨d,r,rfl,h1,h2⟩:=hasAllW_cons hsh;obtain rfl:=hasAllW_nil h2;obtain⟨xs,rfl,h3⟩:=hasW_list h1;obtain⟨ns,rfl⟩:=items_int h3;have hlen:ns.length≤n:=by
  unfold OpenLaw.pre at hc;have h4:(WTm.not (.lt (.lit (.int (n:Int))) (.len (.arg 0)))).holds [] { args:=[.list (ns.map .int)] }=true:=by
   have h4:=(holds_andW hc).1;rw[hn] at h4;exact h4
  have h5:=condW_of h4 (w_not (w_lt w_lit (w_len_list (w_arg rfl))));rw[List.length_map] at h5;refine Nat.le_of_not_lt fun q=>?_
  have q':(n:Int)<((ns.length:Nat):Int):=by omega
  first
   | (rw[decide_eq_true q'] at h5;exact absurd h5 (by decide))
   | (simp at h5;omega)
 cases hwl with
 | cons w1 w2 =>
  cases w2;cases w1 with
  | list ho hall=>exact⟨_,_,ns,rfl,rfl,ho,ints_of_wellAll ns _ hall,hlen⟩
theorem post_true (l:OpenLaw) (args:List WData):l.row.toRowW.claim.post args (.bool true) args=true :=
 postW_of (r:=l.row.toRowW) (X:=(true == true))
  (show WShape.has [] (.bool true) .bool=true by first | rfl | decide | simp[WShape.has,WShape.arms,WShape.armsAll])
  (show (WTm.eq .res (.lit (.bool true))).value [] { args:=args,res:=some (.bool true),after:=args }=some (.bool (true == true)) from w_eq_bool (w_res rfl) w_lit) rfl
end Att
namespace L2
open PySem PySem.Spec PyProof.Rows
theorem vals_ints:∀ {vs:List Value}{ns:List Int},IntsAre vs ns→Vals (ns.map V.int) vs
 | _,_,.nil=>.nil
 | _,_,.cons n t h=>.cons ⟨t,rfl⟩ (vals_ints h)
noncomputable def Only (H:Hp):Prop:=∀ b,H b=none∨∃ o xs,H b=some (.frz o (.lst xs))
theorem law_call {P:Program}{w:World}{K:PySem.W.Frag}{mg mb:Str→Option Value}{CX:CXT}{k:Nat}{fa a:Addr}{fd:FuncData}{x:Str}{sp:Sp}{s₁:Shared}{vs:List Value}{ns:List Int}
  (KX:K.In s₁.heap) (hns:s₁.heap.Ns mainGlobals mg) (hb:s₁.heap.Ns builtinsNs mb) (hbb:∀ x:Str,x ≠ "__name__" → mb x=bootBuiltins x) (hlim:s₁.heap.NoLimit) (hg:s₁.gens = #[])
  (ha:s₁.heap.get? a=some { cls := .type "list",data := .seq vs.toArray }) (hi:IntsAre vs ns) (hl:ns.length≤sizeLine) (hr:Room k callerA)
  (F:∀ base:Heap,K.In base→base.Ns mainGlobals mg→FnOk P w K mg base CX k fa fd [x] sp) (hbind:∀ (s:Shared) (u:Value),BindsTo s fd ⟨[u],[]⟩ [(x,u)])
  (hsp:∀ H:Hp,Only H→SqL K H a (ns.map V.int)→sp [.ref a] H (fun v _=>v = .bl true) fun _ _ _=>False)
  (hCX:∀ H e s',CX [] H s₁ (fun _ _ _=>False) e s'→False) :
  codeAny (model P w) callerA (.call (.ref fa) ⟨[.ref a],[]⟩) (fun r s'=>r = .ok (.ret (.bool true))∧OldK s₁.heap s'.heap∧s'.os=s₁.os∧AllBare s'.gens) s₁:=by
 have rv:=vals_ints hi;have lenV:=hi.length;have core:∀ H:Hp,Only H→SqL K H a (ns.map V.int)→HOk P w H s₁.heap→(∀ b,H b≠none→b=a)→(H a≠none→K.lookup a=none) →
   codeAny (model P w) callerA (.call (.ref fa) ⟨[.ref a],[]⟩) (fun r s'=>r = .ok (.ret (.bool true))∧OldK s₁.heap s'.heap∧s'.os=s₁.os∧AllBare s'.gens) s₁:=by
  intro H hO hS hok hA hK;have base_of:∀ {b:Addr}{o:Obj},s₁.heap.get? b=some o→H b=none→(hidT s₁.heap H).get? b=some o:=fun e n=>hidT_get e n
  have noA:∀ {b:Addr}{o:Obj}{es:Array DictEntry}{ep:Nat},s₁.heap.get? b=some o→o.data = .dict es ep→H b=none:=fun {b o es ep} e d=>by
   cases q:H b with
   | none=>rfl
   | some u =>
    have e':b=a:=hA b (by rw[q];simp);subst e';rw[ha] at e;cases e;have d':Data.seq vs.toArray _=Data.dict es ep:=d;cases d'
  have nsK:∀ {b:Addr}{m:Str→Option Value},s₁.heap.Ns b m→(hidT s₁.heap H).Ns b m:=fun {b m} ⟨o,es,ep,e,d,r⟩=>⟨o,es,ep,base_of e (noA e d),d,r⟩
  have hKb:K.In (hidT s₁.heap H):=fun b o e=>base_of (KX b o e) (by
   cases q:H b with
   | none=>rfl
   | some u =>
    have e':b=a:=hA b (by rw[q];simp);subst e';rw[hK (by rw[q];simp)] at e;cases e)
  have hM:Mod K mg (hidT s₁.heap H):=⟨hKb,nsK hns,⟨mb,nsK hb,hbb⟩,let ⟨mc,h1,h2⟩:=hlim; ⟨mc,nsK h1,h2⟩⟩;have e0:Env0 P w K mg (hidT s₁.heap H) callerA [] s₁ H:=⟨rfl,hM,fun b o e=>of_hidT e,Nat.le_of_eq (hidT_size _ _),trivial,fun b hb=>absurd (show b∈([]:List Addr) from hb) (by simp),hok,.of_eq hg⟩;refine codeAny_mono ((F _ hKb (nsK hns)).run callerA [] s₁ H ⟨[.ref a],[]⟩ [.ref a] [.ref a] _ _ hr e0 (hbind s₁ (.ref a)) (.cons rfl .nil) (hsp H hO hS)) fun r s' h=>?_
  cases r with
  | error e=>exact (hCX H e s' h).elim
  | ok fl =>
   cases fl with
   | next=>exact False.elim h
   | brk=>exact False.elim h
   | cont=>exact False.elim h
   | ret u =>
    obtain⟨v,H',os,bare,un,hok',r',q⟩:=h;have q':v = .bl true:=q;subst q';obtain rfl:u=Value.bool true:=r';refine⟨rfl,OldK.of_keep fun b o e=>?_,os,bare⟩;cases q:H b with
    | none=>exact un.keep b o e q (by intro z;exact absurd (show b∈([]:List Addr) from z) (by simp)) (by simp)
    | some u =>
     rcases hO b with z | ⟨ob,xs,z⟩
     ·rw[q] at z;cases z
     ·have z2:=un.frzs b ob _ z;obtain⟨e1,_⟩:=hok b _ z;obtain⟨e2,_⟩:=hok' b _ z2;rw[e] at e1;cases e1;exact e2
 cases hk:K.lookup a with
 | some o =>
  have e:=KX a o hk;rw[ha] at e;cases e;refine core (fun _=>none) (fun _=>.inl rfl) (.inr ⟨_,vs.toArray,_,hk,rfl,rfl,rfl,by rw[List.size_toArray,lenV];exact hl,by simpa using rv⟩) (fun b u z=>by have z':(none:Option HO)=some u:=z;cases z') (fun b z=>absurd rfl z) fun z=>absurd rfl z
 | none =>
  refine core (fun b=>if b=a then some (.frz { cls := .type "list",data := .seq vs.toArray } (.lst (ns.map V.int))) else none) (fun b=>?_) (.inl (.inr ⟨{ cls := .type "list",data := .seq vs.toArray },if_pos rfl⟩)) (fun b u z=>?_) (fun b z=>?_) fun _=>hk
  ·by_cases hb:b=a
   ·exact .inr ⟨_,_,if_pos hb⟩
   ·exact .inl (if_neg hb)
  ·by_cases hb:b=a
   ·have z':=(if_pos hb).symm.trans z;cases z';subst hb;exact⟨ha,by rw[List.length_map];exact hl,vs,_,rv,ha⟩
   ·have z':=(if_neg hb).symm.trans z;cases z'
  ·by_cases hb:b=a
   ·exact hb
   ·exact absurd (if_neg hb) z
end L2
namespace L2
open PySem PySem.Spec PyProof.Rows
noncomputable def defArgs (s:Stmt):Arguments:=match s with
 | .FunctionDef _ a _ _ _ _ _ _ _ _=>a
 | _=>{ posonlyargs:=[],args:=[],vararg:=none,kwonlyargs:=[],kw_defaults:=[],kwarg:=none,defaults:=[] }
noncomputable def defBody (s:Stmt):List Stmt:=match s with
 | .FunctionDef _ _ b _ _ _ _ _ _ _=>b
 | _=>[]
noncomputable def defScope (s:Stmt):Scope:=match s with
 | .FunctionDef _ _ _ _ _ _ sc _ _ _=>sc
 | _=>{ kind := .function,names:=[],isGenerator:=false,isCoroutine:=false }
noncomputable abbrev CX0:CXT:=fun _ _ _ _ _ _=>False
noncomputable abbrev E0:XK:=fun _ _ _=>False
theorem pass0 {X:Cx}:Passes CX0 X E0:=fun _ _ _ _ _ _ _ h=>h.elim
structure Fun (K:PySem.W.Frag) (x qual:Str) (st:Stmt) (f:Addr) (fd:FuncData):Prop where
 ex:∃ (oc:Value) (od:Option Addr) (kV doc pm:Value) (an:Option Addr) (cdv ct:Value) (osl:Array (Option Value)),
  fd=PySem.W.fnOf x qual (defArgs st) (defBody st) (defScope st) .none kV doc pm an cdv ct∧K.lookup f=some ⟨oc,od,.func fd,osl⟩∧PySem.W.codeIn K cdv qual=true
 kp:PySem.W.keepIn K (.ref f)=true
section
variable {P:Program}{w:World}{K:PySem.W.Frag}{mg:Str→Option Value}{base:Heap}
theorem Fun.ok {x qual:Str}{st:Stmt}{f:Addr}{fd:FuncData}{N ps:List Str}{k:Nat}{sp:Sp} (F:Fun K x qual st f fd) (S:FnScope N ps (defScope st)) (len:∀ vs H Q E,sp vs H Q E→vs.length=ps.length)
  (hbody:∀ (cdv:Value) (A:Around) (outer:List Env) (s:Shared) (H:Hp) (vs:List V) (Q:VK) (E:XK),Room k (A.deeper (envOfC qual (defScope st) s.heap.objs.size f cdv))→sp vs H Q E →
   ∃ t,PSs (cxOf CX0 P w K mg base N qual (defScope st) f cdv A outer s H E).nox (defBody st) t∧t { nx:=fun _ H'=>Q .non H',rt:=Q } (start N vs) H):FnOk P w K mg base CX0 (k+1) f fd ps sp:=by
 obtain⟨oc,od,kV,doc,pm,an,cdv,ct,osl,rfl,lk,hcd⟩:=F.ex;refine fn_of lk hcd S len fun A outer s H vs Q E hr hsp=>?_
 obtain⟨t,h,q⟩:=hbody cdv A outer s H vs Q E hr hsp;exact⟨t,h.nox,q⟩
theorem Fun.binds {x qual:Str}{st:Stmt}{f:Addr}{fd:FuncData}{ps:List Str} (F:Fun K x qual st f fd)
  (h:∀ (kV doc pm:Value) (an:Option Addr) (cdv ct:Value) (us:List Value),us.length=ps.length→bindArgs (PySem.W.fnOf x qual (defArgs st) (defBody st) (defScope st) .none kV doc pm an cdv ct) ⟨us,[]⟩=pure (ps.zip us)):Binds K fd ps []:=by
 obtain⟨oc,od,kV,doc,pm,an,cdv,ct,osl,rfl,lk,hcd⟩:=F.ex;exact .all (h kV doc pm an cdv ct)
theorem fun_mk {x qual:Str}{st:Stmt}{f:Addr}{oc:Value}{od an:Option Addr}{osl:Array (Option Value)}{kV doc pm cdv ct:Value} (l:K.lookup f=some ⟨oc,od,.func (PySem.W.fnOf x qual (defArgs st) (defBody st) (defScope st) .none kV doc pm an cdv ct),osl⟩)
  (c:PySem.W.codeIn K cdv qual=true) (k:PySem.W.keepIn K (.ref f)=true):Fun K x qual st f (PySem.W.fnOf x qual (defArgs st) (defBody st) (defScope st) .none kV doc pm an cdv ct):=⟨⟨oc,od,kV,doc,pm,an,cdv,ct,osl,rfl,l,c⟩,k⟩
end
theorem hu_of {A:Around}{k:Nat} (hr:Room k A):A.units+1<cLine:=Nat.lt_of_le_of_lt (Nat.add_le_add_left (by decide:1≤64) _) hr.units
section
variable {X:Cx}
theorem pv (i:Nat) {x:Str}{pos:Pos} (hN:X.N[i]? = some x:=by rfl) (hv:Vis X.env.scope x:=by first | exact Or.inl rfl | exact Or.inr (Or.inl rfl) | exact Or.inr (Or.inr rfl)) (hd:(x == ("__debug__" : Str))=false:=by decide)
  (hcd:(x == ("__classdict__" : Str))=false:=by decide):PE X (.Name x pos) (tVar i):=pe_var hN hv hd hcd
end
theorem iteF {A B:Prop} (h:B):if false=true then A else B:=by
 rw[if_neg Bool.false_ne_true];exact h
theorem iteT {A B:Prop} (h:A):if true=true then A else B:=by
 rw[if_pos rfl];exact h
theorem ite2 {c A B:Prop} [Decidable c] (h1:c→A) (h2:¬ c→B):if c then A else B:=by
 by_cases h:c
 ·rw[if_pos h];exact h1 h
 ·rw[if_neg h];exact h2 h
theorem iteNS {c A B:Prop} [Decidable c] (hc:c) (h:B):if (!decide c)=true then A else B:=by
 rw[decide_eq_true hc];exact iteF h
noncomputable def Same (H H':Hp):Prop:=∀ b o,H b=some o→H' b=some o
theorem Same.refl (H:Hp):Same H H:=fun _ _ h=>h
theorem Same.trans {H H1 H2:Hp} (a:Same H H1) (b:Same H1 H2):Same H H2:=fun c o h=>b c o (a c o h)
theorem Same.free {H H':Hp} (e:Same H H') {l:Addr} (h:H' l=Option.none):H l=Option.none:=by
 cases q:H l with
 | none=>rfl
 | some o =>
  rw[e l o q] at h;cases h
theorem Same.seq {K:PySem.W.Frag}{H H':Hp}{a:Addr}{xs:List V} (e:Same H H') (h:SqL K H a xs):SqL K H' a xs:=by
 rcases h with (h | ⟨o,h⟩) | h
 ·exact .inl (.inl (e _ _ h))
 ·exact .inl (.inr ⟨o,e _ _ h⟩)
 ·exact .inr h
end L2
namespace OF
noncomputable abbrev Terms:=List (Int × Int)
noncomputable def coef:Terms→Int→Int
 | [],_=>0
 | p :: r,k=>(if p.1=k then p.2 else 0)+coef r k
structure IsForm (f:Terms):Prop where
 rise:f.Pairwise (fun a b=>a.1<b.1)
 nz:∀ p∈f,p.2≠0
theorem coef_append:∀ (a b:Terms) (k:Int),coef (a++b) k=coef a k+coef b k
 | [],b,k=>by simp[coef]
 | p :: r,b,k=>by
  have ih:=coef_append r b k;simp only[List.cons_append,coef,ih];omega
theorem coef_snoc (a:Terms) (p:Int × Int) (k:Int):coef (a ++ [p]) k=coef a k+(if p.1=k then p.2 else 0):=by
 rw[coef_append];simp[coef]
theorem coef_neg:∀ (a:Terms) (k:Int),coef (a.map fun p=>(p.1,-p.2)) k = -coef a k
 | [],_=>rfl
 | p :: r,k=>by
  simp only[List.map_cons,coef,coef_neg r k];split <;> omega
theorem coef_none:∀ (a:Terms) (k:Int),(∀ p∈a,p.1≠k)→coef a k=0
 | [],_,_=>rfl
 | p :: r,k,h=>by
  have h1:¬ p.1=k:=h p (by simp);simp only[coef,if_neg h1,coef_none r k fun q hq=>h q (by simp[hq])];rfl
theorem coef_head {p:Int × Int}{r:Terms} (h:∀ q∈r,p.1<q.1):coef (p :: r) p.1=p.2:=by
 simp only[coef,if_pos];rw[coef_none r p.1 fun q hq=>Int.ne_of_gt (h q hq)];omega
theorem form_ext:∀ {f g:Terms},IsForm f→IsForm g→(∀ k,coef f k=coef g k)→f=g
 | [],[],_,_,_=>rfl
 | [],q :: s,_,hg,h=>by
  have h1:=List.pairwise_cons.mp hg.rise;have h2:=h q.1;rw[coef_head h1.1] at h2;exact absurd h2.symm (hg.nz q (by simp))
 | p :: r,[],hf,_,h=>by
  have h1:=List.pairwise_cons.mp hf.rise;have h2:=h p.1;rw[coef_head h1.1] at h2;exact absurd h2 (hf.nz p (by simp))
 | p :: r,q :: s,hf,hg,h=>by
  have f1:=List.pairwise_cons.mp hf.rise;have g1:=List.pairwise_cons.mp hg.rise;have hpq:p.1=q.1:=by
   rcases Int.lt_trichotomy p.1 q.1 with hl | he | hl
   ·have h2:=h p.1;rw[coef_head f1.1,coef_none (q :: s) p.1 (fun z hz=>by
     rcases List.mem_cons.mp hz with e | hz
     ·rw[e];omega
     ·have:=g1.1 z hz;omega)] at h2
    exact absurd h2 (hf.nz p (by simp))
   ·exact he
   ·have h2:=h q.1;rw[coef_head g1.1,coef_none (p :: r) q.1 (fun z hz=>by
     rcases List.mem_cons.mp hz with e | hz
     ·rw[e];omega
     ·have:=f1.1 z hz;omega)] at h2
    exact absurd h2.symm (hg.nz q (by simp))
  have hv:p.2=q.2:=by
   have h2:=h p.1;rw[coef_head f1.1,hpq,coef_head g1.1] at h2;exact h2
  have e:p=q:=Prod.ext hpq hv;subst e;have ih:=form_ext (f:=r) (g:=s) ⟨f1.2,fun z hz=>hf.nz z (by simp[hz])⟩ ⟨g1.2,fun z hz=>hg.nz z (by simp[hz])⟩ fun k=>by
   have h2:=h k;simp only[coef] at h2;omega
  rw[ih]
noncomputable def look:Terms→Int→Option Int
 | [],_=>none
 | p :: r,k=>if p.1=k then some p.2 else look r k
noncomputable def getI (d:Terms) (k:Int):Int:=(look d k).getD 0
noncomputable def putI (d:Terms) (k v:Int):Terms:=if (d.any fun p=>decide (p.1=k))=true then d.map (fun p=>if p.1=k then (p.1,v) else p) else d ++ [(k,v)]
theorem look_any (k:Int):∀ d:Terms,(d.any fun p=>decide (p.1=k))=(look d k).isSome
 | []=>rfl
 | p :: r=>by
  rw[List.any_cons,look];by_cases e:p.1=k
  ·simp[e]
  ·simp[e,look_any k r]
theorem look_map (k j v:Int):∀ d:Terms,look (d.map fun p=>if p.1=k then (p.1,v) else p) j=(look d j).map fun x=>if j=k then v else x
 | []=>rfl
 | p :: r=>by
  have ih:=look_map k j v r;rw[List.map_cons];by_cases h:p.1=k
  ·rw[if_pos h];by_cases e:p.1=j
   ·simp[look,e,show j=k from e.symm.trans h]
   ·simp[look,e,ih]
  ·rw[if_neg h];by_cases e:p.1=j
   ·simp[look,e,show ¬ j=k from fun z=>h (e.trans z)]
   ·simp[look,e,ih]
theorem look_snoc (k j v:Int):∀ d:Terms,look d k=none→look (d ++ [(k,v)]) j=if j=k then some v else look d j
 | [],_=>by
  by_cases e:k=j
  ·simp[look,e]
  ·simp[look,e,show ¬ j=k from fun z=>e z.symm]
 | p :: r,hn=>by
  have hk:¬ p.1=k:=fun z=>by simp[look,z] at hn
  have hn':look r k=none:=by simpa [look,hk] using hn
  have ih:=look_snoc k j v r hn';rw[List.cons_append];by_cases e:p.1=j
  ·simp[look,e,show ¬ j=k from fun z=>hk (e.trans z)]
  ·simp[look,e,ih]
theorem look_put (d:Terms) (k j v:Int):look (putI d k v) j=if j=k then some v else look d j:=by
 unfold putI;by_cases a:(d.any fun p=>decide (p.1=k))=true
 ·rw[if_pos a,look_map];rw[look_any] at a;by_cases e:j=k
  ·obtain⟨x,hx⟩:=Option.isSome_iff_exists.mp a;rw[e,hx];simp
  ·rw[if_neg e];cases look d j <;> simp[e]
 ·rw[if_neg a];refine look_snoc k j v d ?_;rw[look_any] at a;cases q:look d k with
  | none=>rfl
  | some x=>rw[q] at a;exact (a rfl).elim
theorem length_put (d:Terms) (k v:Int):(putI d k v).length≤d.length+1:=by
 unfold putI;split
 ·rw[List.length_map];omega
 ·simp
theorem look_mem {d:Terms}{k:Int}:look d k≠none↔k∈d.map (·.1):=by
 induction d with
 | nil=>simp[look]
 | cons p r ih =>
  rw[List.map_cons,List.mem_cons,look];by_cases e:p.1=k
  ·simp[e]
  ·have e':¬ k=p.1:=fun z=>e z.symm
   simp only[if_neg e];rw[ih];simp[e']
theorem keys_put (d:Terms) (k v:Int):(putI d k v).map (·.1)=if (look d k).isSome then d.map (·.1) else d.map (·.1) ++ [k]:=by
 unfold putI;rw[look_any];by_cases a:(look d k).isSome=true
 ·rw[if_pos a,if_pos a,List.map_map];congr 1
  funext p
  simp only[Function.comp];split <;> rfl
 ·rw[if_neg a,if_neg a,List.map_append];rfl
theorem nodup_put {d:Terms} (k v:Int) (h:(d.map (·.1)).Nodup):((putI d k v).map (·.1)).Nodup:=by
 rw[keys_put];by_cases a:(look d k).isSome=true
 ·rw[if_pos a];exact h
 ·rw[if_neg a];have hk:¬ k∈d.map (·.1):=fun m=>a (by
   have:=look_mem.mpr m
   cases q:look d k with
   | none=>exact (this q).elim
   | some x=>rfl)
  exact List.nodup_append.mpr ⟨h,by simp,fun a ha b hb=>by
   have:b=k:=by simpa using hb
   subst this;intro e;subst e;exact hk ha⟩
theorem getI_put (d:Terms) (k j v:Int):getI (putI d k v) j=if j=k then v else getI d j:=by
 unfold getI;rw[look_put];split <;> rfl
structure DictOf (d l:Terms):Prop where
 nd:(d.map (·.1)).Nodup
 len:d.length≤l.length
 val:∀ k,getI d k=coef l k
 src:∀ k∈d.map (·.1),k∈l.map (·.1)
theorem dictOf_nil:DictOf [] []:=⟨List.nodup_nil,Nat.le_refl _,fun _=>rfl,fun _ h=>h⟩
theorem DictOf.snoc {d l:Terms} (h:DictOf d l) (p:Int × Int):DictOf (putI d p.1 (getI d p.1+p.2)) (l ++ [p]):=by
 refine⟨nodup_put _ _ h.nd,?_,fun k=>?_,fun k hk=>?_⟩
 ·have:=length_put d p.1 (getI d p.1+p.2);have:=h.len;simp;omega
 ·rw[getI_put,coef_snoc,← h.val];by_cases e:k=p.1
  ·subst e;simp
  ·simp[e,show ¬ p.1=k from fun z=>e z.symm]
 ·rw[keys_put] at hk;rw[List.map_append,List.mem_append];split at hk
  ·exact .inl (h.src k hk)
  ·rcases List.mem_append.mp hk with hk | hk
   ·exact .inl (h.src k hk)
   ·exact .inr (by simpa using hk)
noncomputable def formOf (d:Terms) (ks:List Int):Terms:=(ks.filter fun k=>decide (getI d k≠0)).map fun k=>(k,getI d k)
theorem coef_formOf (d:Terms):∀ (ks:List Int),ks.Nodup→∀ k,coef (formOf d ks) k=if k∈ks then getI d k else 0
 | [],_,k=>by simp[formOf,coef]
 | a :: r,hn,k=>by
  have h1:=List.nodup_cons.mp hn;have ih:=coef_formOf d r h1.2 k;have e0:formOf d (a :: r)=if getI d a≠0 then (a,getI d a) :: formOf d r else formOf d r:=by
   unfold formOf;rw[List.filter_cons];by_cases e:getI d a=0 <;> simp[e]
  rw[e0];by_cases e:a=k
  ·subst e;have:¬ a∈r:=h1.1;by_cases z:getI d a=0
   ·simp[z,ih,this]
   ·simp[z,coef,ih,this]
  ·have e':¬ k=a:=fun z=>e z.symm
   by_cases z:getI d a=0
   ·simp[z,ih,e']
   ·simp[z,coef,ih,e,e']
theorem formOf_isForm (d:Terms) {ks:List Int} (h:ks.Pairwise (· < ·)):IsForm (formOf d ks):=by
 refine⟨?_,fun p hp=>?_⟩
 ·unfold formOf;rw[List.pairwise_map];exact (h.filter _)
 ·unfold formOf at hp;obtain⟨k,hk,e⟩:=List.mem_map.mp hp;subst e;simpa using (List.mem_filter.mp hk).2
theorem lt_of_le_nodup:∀ {ks:List Int},ks.Pairwise (· ≤ ·)→ks.Nodup→ks.Pairwise (· < ·)
 | [],_,_=>.nil
 | a :: r,h,n=>by
  have h1:=List.pairwise_cons.mp h;have n1:=List.nodup_cons.mp n;refine .cons (fun b hb=>?_) (lt_of_le_nodup h1.2 n1.2)
  have:=h1.1 b hb
  have:a≠b:=fun e=>n1.1 (e ▸ hb)
  omega
structure FormOf (f l:Terms):Prop extends IsForm f where
 val:∀ k,coef f k=coef l k
 src:∀ p∈f,p.1∈l.map (·.1)
theorem formOf_ok {d l:Terms}{ks:List Int} (h:DictOf d l) (hp:ks.Perm (d.map (·.1))) (hs:ks.Pairwise (· ≤ ·)):FormOf (formOf d ks) l:=by
 have nd:ks.Nodup:=hp.nodup_iff.mpr h.nd;refine⟨formOf_isForm d (lt_of_le_nodup hs nd),fun k=>?_,fun p hq=>?_⟩
 ·rw[coef_formOf d ks nd,← h.val];split
  ·rfl
  ·rename_i hk;unfold getI
   have:look d k=none:=by
    cases q:look d k with
    | none=>rfl
    | some x=>exact (hk (hp.mem_iff.mpr (look_mem.mp (by rw[q];simp)))).elim
   rw[this];rfl
 ·unfold formOf at hq;obtain⟨k,hk,e⟩:=List.mem_map.mp hq;subst e;exact h.src k (hp.mem_iff.mp (List.mem_filter.mp hk).1)
theorem FormOf.self {f:Terms} (h:IsForm f):FormOf f f:=⟨h,fun _=>rfl,fun p hp=>List.mem_map.mpr ⟨p,hp,rfl⟩⟩
theorem formOf_length (d:Terms) (ks:List Int):(formOf d ks).length≤ks.length:=by
 unfold formOf;rw[List.length_map];exact List.length_filter_le _ _
end OF
namespace L2
open PySem PySem.Spec PyProof.Rows
section
variable {X:Cx}
noncomputable def CDivG (i j:Int):Prop:=0<j∧j.natAbs.log2<9000
theorem op_fdivG:OpR X (binaryOp .FloorDiv) (rI CDivG fun i j=>.int (i / j)):=opI fun i j _ _ _ _ _ hc q=>by
 have h1:(0:Int)<j:=hc.1;have e:i.fdiv j=i / j:=Int.fdiv_eq_ediv_of_nonneg i (Int.le_of_lt h1);exact floordiv_int (Int.ne_of_gt h1) (by rw[e];exact q) (.inl (PyProof.noPylong_of_log2 hc.2))
theorem op_mulO:OpR X (binaryOp .Mult) (rI IntMulOk fun i j=>.int (i * j)):=opI fun _ _ _ _ _ _ _ hc q=>mul_int q hc
theorem divG_of {j:Int} (h1:0<j) (h2:j<2^250):0<j∧j.natAbs.log2<9000:=by
 refine⟨h1,?_⟩;have h3:j.natAbs<2^250:=by
  have e:(j.natAbs:Int)=j:=by omega
  have:((j.natAbs:Nat):Int)<((2^250:Nat):Int):=by rw[e]; (have q:((2^250:Nat):Int)=(2:Int)^250:=by norm_cast);rw[q];exact h2
  exact Int.ofNat_lt.mp this
 have h4:j.natAbs≠0:=by omega
 have:=(Nat.log2_lt h4).mpr h3
 omega
theorem call_isinstance:CallR X (.builtin "isinstance") (fun xs H Q=>∃ x n t b,xs=[x,V.ty n]∧TyOf X.K H x t∧PySem.W.kitOne X.K t (.type n)=some b∧Q (.bl b) H):=by
 intro pins s σ H xs us Q I r h;obtain⟨x,n,t,b,rfl,ty,e,q⟩:=h;obtain⟨u,w',rfl,ru,rw'⟩:=vals2 r;cases (show w'=Value.type n from rw');exact isinst_ok I ru ty e fun tk=>⟨.bl b,H,I.tok _,rfl,q⟩
theorem call_sumL (hc:X.calm=true):CallR X (.builtin "sum") (fun xs H Q=>∃ (a:Addr) (ns:List Int),xs=[.ref a]∧SqL X.K H a (ns.map V.int)∧Q (.int ns.sum) H):=by
 intro pins s σ H xs us Q I r h;obtain⟨a,ns,rfl,hq,q⟩:=h;obtain⟨u,rfl,ru⟩:=vals1 r;cases (show u=Value.ref a from ru);obtain⟨its,rv,p,hz⟩:=I.list hq;have hi:=intsAre_of rv;obtain⟨zs,hzs⟩:=hi.allInts.items;have hs:(PySem.numsOf its.toArray.toList).sum=ns.sum:=by rw[show its.toArray.toList=its from rfl,hi.numsOf]
 rw[hzs,PySem.nums_intItems] at hs;refine sum_intListG (I.ok.hd hc) (hzs ▸ p.isList) fun h' tk t' hk=>?_
 refine⟨.int ns.sum,H,I.kept (t':=tk) hk,⟨t',?_⟩,q⟩;rw[preSum_eq,List.take_of_length_le (by simp),hs]
end
end L2
namespace L2
open PySem PySem.Spec PyProof.Rows
theorem ObjOk.there {P:Program}{w:World}{H:Hp}{h:Heap}{a:Addr}{o:HO} (x:ObjOk P w H h a o):∃ ob,h.get? a=some ob:=by
 cases o with
 | lst xs=>obtain⟨_,_,_,_,e⟩:=x;exact⟨_,e⟩
 | tup xs=>obtain⟨_,_,_,o,e,_⟩:=x;exact⟨_,e⟩
 | dK kvs=>obtain⟨_,_,_,_,o,_,_,e,_⟩:=x;exact⟨_,e⟩
 | dT kvs=>obtain⟨_,_,_,_,o,_,_,e,_⟩:=x;exact⟨_,e⟩
 | set S n=>obtain⟨o,_,_,_,e,_⟩:=x;exact⟨_,e⟩
 | ins C dx fs=>obtain⟨_,_,_,e,_⟩:=x;exact⟨_,e⟩
 | own y=>exact x
 | xd fs=>obtain⟨_,⟨_,_,_,e,_⟩,_⟩:=x;exact⟨_,e⟩
 | rng lo hi=>obtain⟨_,_,_,e⟩:=x;exact⟨_,e⟩
 | frz ob u=>obtain⟨e,_⟩:=x;exact⟨_,e⟩
 | tbl ps=>exact⟨_,x⟩
 | met f y=>exact⟨_,x⟩
 | ext φ => obtain⟨_,e,_⟩:=x;exact e
theorem Inv.laidN {X:Cx}{pins:List (Addr × Obj)} {σ:St}{H:Hp}{s:Shared}{h':Heap}{a:Addr}{o:HO}{t':Nat} (I:Inv X pins σ H s) (k:∀ b u,s.heap.get? b=some u→h'.get? b=some u) (hn:s.heap.get? a=none)
  (new:ObjOk X.prog X.w (upd H a o) h' a o):Inv X pins σ (upd H a o) { s with heap:=h',toks:=t' }:=by
 have hH:H a=none:=by
  cases q:H a with
  | none=>rfl
  | some u =>
   obtain⟨ob,e⟩:=(I.hok a u q).there;rw[hn] at e;cases e
 refine I.un ⟨fun b u q _ _ _=>k b u q,fun b u q _ _ _=>⟨u.slots,k b u q⟩,fun b u q n _=>?_,fun b u q _=>⟨u,k b u q⟩,fun b xs q=>?_,fun b u xs q=>?_,fun b ps q=>⟨#[],?_⟩⟩ fun b u e=>?_
 ·rw[upd_ne (by intro z;rw[z,hn] at q;cases q)];exact n
 ·rw[upd_ne (ne_of_none q hH)];exact q
 ·rw[upd_ne (ne_of_none q hH)];exact q
 ·rw[upd_ne (ne_of_none q hH),q];simp
 ·by_cases hb:b=a
  ·subst hb;rw[upd_same] at e;cases e;exact new
  ·rw[upd_ne hb] at e;exact (I.hok b u e).stay (fun c v _ q=>k c v q) (fun c q=>by rw[upd_ne (ne_of_none q hH)];exact q) fun c xs q=>by rw[upd_ne (ne_of_none q hH)];exact q
theorem closureFor_of {env:Env}:∀ (names:List (Str × NameKind)) (acc:List (Str × Addr)),(∀ x,(x,NameKind.free)∈names→∃ c,env.cells.lookup x=some c) →
  ∃ cl,(forIn names acc fun (x:Str × NameKind) (cs:List (Str × Addr))=>(if (x.2 == NameKind.free)=true then (do let a ← cellOf env x.1;pure (ForInStep.yield ((x.1,a) :: cs))) else pure (ForInStep.yield cs):Sem (ForInStep (List (Str × Addr)))))=pure cl ∧
   ∀ x,cl.lookup x=(if (x,NameKind.free)∈names then env.cells.lookup x else acc.lookup x)
 | [],acc,_=>⟨acc,rfl,fun x=>by simp⟩
 | (n,k) :: r,acc,h=>by
  by_cases hk:k=NameKind.free
  ·subst hk;obtain⟨c,hc⟩:=h n (by simp);obtain⟨cl,e,l⟩:=closureFor_of (env:=env) r ((n,c) :: acc) fun x hx=>h x (by simp[hx])
   refine⟨cl,?_,fun x=>?_⟩
   ·rw[List.forIn_cons];have hcell:cellOf env n=pure c:=by unfold cellOf;rw[hc]
    simp only[beq_self_eq_true,if_true,hcell,pure_bind];exact e
   ·rw[l x];by_cases hx:(x,NameKind.free)∈r
    ·simp[hx]
    ·by_cases hn:x=n
     ·subst hn;simp[hx,hc]
     ·have hb:(x == n)=false:=by simpa using hn
      simp[hx,hn,List.lookup_cons,hb]
  ·have hb:(k == NameKind.free)=false:=by simpa using hk
   obtain⟨cl,e,l⟩:=closureFor_of (env:=env) r acc fun x hx=>h x (by simp[hx])
   refine⟨cl,?_,fun x=>?_⟩
   ·rw[List.forIn_cons];simp only[hb,Bool.false_eq_true,if_false,pure_bind];exact e
   ·rw[l x];have:¬ ((x,NameKind.free)=(n,k)):=fun z=>hk (by injection z with _ z2;exact z2.symm)
    simp[List.mem_cons,this]
theorem lookup_relabel (env:Env) (x:Str):∀ (names:List (Str × NameKind)),(names.map fun (n,k)=>if (k == NameKind.free && env.scope.kind == .function && env.kindOf n == some .cell) then (n,NameKind.cell) else (n,k)).lookup x =
  (names.lookup x).map fun k=>if (k == NameKind.free && env.scope.kind == .function && env.kindOf x == some .cell) then NameKind.cell else k
 | []=>rfl
 | (n,k) :: r=>by
  have ih:=lookup_relabel env x r;show List.lookup x ((if (k == NameKind.free && env.scope.kind == .function && env.kindOf n == some .cell)=true then (n,NameKind.cell) else (n,k)) :: _)=_;by_cases hx:x=n
  ·subst hx;split <;> simp_all [List.lookup_cons]
  ·have hb:(x == n)=false:=by simpa using hx
   split
   ·simp only[List.lookup_cons,hb];exact ih
   ·simp only[List.lookup_cons,hb];exact ih
noncomputable abbrev cxComp (X:Cx) (N':List Str) (scope:Scope) (cl:List (Str × Addr)) (C:Addr) (s₀:Shared) (H₀:Hp) (fp:List Addr):Cx :=
 { X with N:=N',s₀:=s₀,H₀:=H₀,env:=compEnvC scope cl C X.env,outer:=X.stack,ex:=fp,fn:=fun _=>false,pn:=[],xe:=fun _ _=>False }
structure CompSc (X:Cx) (scope:Scope) (N':List Str) (nT:Nat) (js:List Nat):Prop where
 kind:scope.kind = .function
 nocell:∀ y∈scope.names,y.2 ≠ .cell
 names:∀ y∈scope.names,y.2 = .local→scope.names.lookup y.1=some .local
 len:N'.length=nT+js.length
 frees:∀ (k j:Nat) (x:Str),js[k]? = some j→N'[nT+k]? = some x→X.N[j]? = some x
 kinds:∀ y∈scope.names,y.2 = .free→X.env.scope.names.lookup y.1=some .cell
 vis:∀ x∈N'.drop nT,scope.names.lookup x=some .free
noncomputable def startC (nT:Nat) (js:List Nat) (σ:St):St:=List.replicate nT none++js.map fun j=>(σ[j]?).join
noncomputable def tComp (wi:TI) (nT:Nat) (js:List Nat) (g:TG) (tc:TT) (te:TE):TE:=fun σ H Q=>wi σ H fun J H1=>∃ W:Nat→Nat→List V→St→Hp→Prop,(∃ m,W 0 m [] (startC nT js σ) H1)∧∀ i m ys σ H,W i m ys σ H →
 (J.stop i H∧∀ D,H D=none→Q (.ref D) (upd H D (.lst ys))) ∨
 (J.go i H∧ys.length<sizeLine∧∃ N:List V→St→Hp→Prop,(∀ ys' σ' H',N ys' σ' H'→∃ m',m'<m∧W (i+1) m' ys' σ' H') ∧
  ∀ x H',J.yld i H x H'→g x σ H' fun σ2 H2=>tc σ2 H2 fun b H3=>if b=true then te σ2 H3 fun y H4=>N (ys ++ [y]) σ2 H4 else N ys σ2 H3)
noncomputable def PTs (X:Cx) (ifs:List Expr) (t:TT):Prop :=
 ∀ (pins:List (Addr × Obj)) (s:Shared) (σ:St) (H:Hp) (Q:Bool→Hp→Prop),Inv X pins σ H s→t σ H Q →
  wpAny (model X.prog X.w) X.A (forIn ifs true fun c r=>if r=true then do let ok ← isTrue c X.env (eval c X.env);pure (ForInStep.yield ok) else pure (ForInStep.yield r)) (TP X pins σ Q) X.xe s
noncomputable def tTrue:TT:=fun _ H Q=>Q true H
theorem pts_nil {X:Cx}:PTs X [] tTrue:=fun _ _ _ H _ I h=>wpAny_tests_nil ⟨H,I,h⟩
theorem pts_one {X:Cx}{c:Expr}{t:TT} (h:PT X c t):PTs X [c] t:=fun pins s σ H Q I q=>wpAny_tests_one (h pins s σ H Q I q)
section
variable {prog:Program}{w:World}{A:Around}{R:Result→Shared→Prop}{s:Shared}
theorem compLoop_any {elt target iter:Expr}{ifs:List Expr}{scope:Scope}{pos:Pos}{it acc:Value}{env:Env} (I:Nat→Shared→Prop)
  (turn:∀ n s,I n s→wpAny (model prog w) A (pyNext it) (fun r s₁=>match r with
   | none=>R (.ok .next) s₁
   | some v=>wpAny (model prog w) A (letOwnedTupleGo target it v) (fun _ s₁'=>wpAny (model prog w) A (assign target env v) (fun _ s₂ =>
     wpAny (model prog w) A (forIn ifs true fun c r=>if r=true then do let ok ← isTrue c env (eval c env);pure (ForInStep.yield ok) else pure (ForInStep.yield r)) (fun ok s₃ =>
      if ok=true then wpAny (model prog w) A (eval elt env) (fun x s₄ =>
       wpAny (model prog w) A (call (.builtin "list.append") [acc,x]) (fun _ s₅=>∃ m,m<n∧I m s₅) (fun _ _=>False) s₄) (fun _ _=>False) s₃
      else ∃ m,m<n∧I m s₃) (fun _ _=>False) s₂) (fun _ _=>False) s₁') (fun _ _=>False) s₁) (fun _ _=>False) s)
  (n:Nat) (h:I n s) :
  codeAny (model prog w) A (.compLoop (.ListComp elt [⟨target,iter,ifs,0⟩] scope pos) 0 it acc env) R s:=by
 refine codeAny_loop rfl I (fun n s hI=>?_) n h;show wpAny _ A ((compTurn (.ListComp elt [⟨target,iter,ifs,0⟩] scope pos) 0 it acc env).onRaise (fun x=>do noteFrame x env;theTreesLotGoes x)) _ _ s;refine wpAny_noted ?_;rw[compTurn_list];refine wpAny_bind (wpAny_standAt (wpAny_bind (wpAny_mono (turn n s hI) (fun r s₁ h₁=>?_) fun _ _ h'=>h'.elim)));cases r with
 | none=>exact wpAny_pure h₁
 | some v =>
  refine wpAny_bind (wpAny_mono h₁ (fun _ s₁' h₁'=>?_) fun _ _ h'=>h'.elim);refine wpAny_bind (wpAny_mono h₁' (fun _ s₂ h₂=>wpAny_bind (wpAny_mono h₂ (fun ok s₃ h₃=>?_) fun _ _ h'=>h'.elim)) fun _ _ h'=>h'.elim);cases ok with
  | false=>exact wpAny_pure ⟨rfl,h₃⟩
  | true =>
   exact wpAny_bind (wpAny_bind (wpAny_mono h₃ (fun x s₄ h₄=>wpAny_bind (wpAny_mono h₄ (fun _ s₅ h₅=>wpAny_pure (wpAny_pure ⟨rfl,h₅⟩)) fun _ _ h'=>h'.elim)) fun _ _ h'=>h'.elim))
end
set_option maxHeartbeats 4000000 in
theorem comp_core {X:Cx}{tg iter elt:Expr}{ifs:List Expr}{scope:Scope}{pos:Pos}{N':List Str}{nT:Nat}{js:List Nat}{g:TG}{tc:TT}{te:TE}{RR:Value→Addr→Result→Shared→Prop}
  (hc:X.calm=true) (S:CompSc X scope N' nT js) {pins:List (Addr × Obj)} {σ:St}{H2:Hp}{s2:Shared}{cl:List (Str × Addr)}{it:Addr}{fp:List Addr}{tn:Nat→Heap→Prop}{J:It}
  (hcl:∀ x,cl.lookup x=(if (x,NameKind.free)∈scope.names then X.env.cells.lookup x else none))
  (hg:∀ C s₀ H₀ fp,PG (cxComp X N' scope cl C s₀ H₀ fp) tg g) (ht:∀ C s₀ H₀ fp,PTs (cxComp X N' scope cl C s₀ H₀ fp) ifs tc) (he:∀ C s₀ H₀ fp,PE (cxComp X N' scope cl C s₀ H₀ fp) elt te)
  (I2:Inv X pins σ H2 s2) (T:Turn X.prog X.w X.K tg J fp it tn) (st2:tn 0 s2.heap) (f2:∀ b∈fp,FpOk X pins H2 b) {QQ:Addr→List V→Hp→Prop}
  (W:Nat→Nat→List V→St→Hp→Prop) (w0:∃ m,W 0 m [] (startC nT js σ) H2)
  (turn:∀ i m ys σ H,W i m ys σ H→(J.stop i H∧∀ D,H D=none→QQ D ys H) ∨
   (J.go i H∧ys.length<sizeLine∧∃ N:List V→St→Hp→Prop,(∀ ys' σ' H',N ys' σ' H'→∃ m',m'<m∧W (i+1) m' ys' σ' H') ∧
    ∀ x H',J.yld i H x H'→g x σ H' fun σ2 H2=>tc σ2 H2 fun b H3=>if b=true then te σ2 H3 fun y H4=>N (ys ++ [y]) σ2 H4 else N ys σ2 H3))
  (hRR:∀ (D C:Addr) (s':Shared) (ys:List V) (H':Hp) (m:Str→Option Value),QQ D ys H'→s'.heap.Ns C m→s2.heap.get? C=none→s2.heap.objs.size≤C→D≠C→H' C=none→(∀ h',Heap.SameBut C s'.heap h'→Inv X pins σ (upd H' D (.lst ys)) { s' with heap:=h' })→RR (.ref D) C (.ok .next) s') :
  wpAny (model X.prog X.w) X.A (newList []) (fun acc s₃=>wpAny (model X.prog X.w) X.A (newFunctionEnv scope X.env.globals cl [] X.env.qual none .none (some X.env)) (fun cenv s₄ =>
   codeAny (model X.prog X.w) X.A (.compStart (.ListComp elt [⟨tg,iter,ifs,0⟩] scope pos) 0 (.ref it) acc { cenv with scope:=relabel scope X.env }) (RR acc cenv.locals) s₄) (fun _ _=>False) s₃) (fun _ _=>False) s2:=by
 refine wpAny_newObj_type (wpAny_newFunctionEnv S.nocell (by intro y hy;simp at hy) (fun h₁ hns₁ hsb₁=>?_) S.kind);dsimp only at hns₁ hsb₁ ⊢;generalize hH2:s2.heap.push { cls := .type "list",dict:=none,data := .seq ([]:List Value).toArray }=G2 at hns₁ hsb₁ ⊢;have hC:G2.objs.size=s2.heap.objs.size+1:=by rw[← hH2,Heap.size_push]
 generalize hCC:G2.objs.size=C at hns₁ hsb₁ hC ⊢;generalize hDD:s2.heap.objs.size=D at hC ⊢;have hDC:D≠C:=by omega
 have below:∀ b o,s2.heap.get? b=some o→b≠C∧b≠D:=fun b o e=>by
  have h:@LT.lt Nat _ b s2.heap.objs.size:=Heap.lt_size e;exact⟨fun z=>by have z':@Eq Nat b C:=z;omega,fun z=>by have z':@Eq Nat b D:=z;omega⟩
 have old:∀ b o,s2.heap.get? b=some o→h₁.get? b=some o:=fun b o e=>hsb₁.extBut b o (below b o e).1 (Heap.get?_push_of_some _ (hH2 ▸ Heap.get?_push_of_some _ e))
 have hacc:h₁.get? D=some { cls := .type "list",data := .seq ([]:List Value).toArray }:=hsb₁.extBut _ _ hDC (Heap.get?_push_of_some _ (by rw[← hH2,← hDD];exact Heap.get?_push_size _ rfl));have nC:s2.heap.get? C=none:=Heap.get?_none_of_le (by omega);have nD:s2.heap.get? D=none:=Heap.get?_none_of_le (by omega);have fC:H2 C=none:=I2.hok.fresh (by omega);have fD:H2 D=none:=I2.hok.fresh (by omega);have fpl:∀ b∈fp,b≠C∧b≠D:=fun b hb=>by obtain⟨o,e,_⟩:=T.obj _ _ st2 b hb;exact below b o e
 have nstk:∀ b∈fp,b ∉ frs X.stack:=fun b hb z=>by
  obtain⟨_,f1,f3,_⟩:=f2 b hb;rcases List.mem_cons.mp (I2.stkSub b z) with e | e
  ·exact f1 e
  ·exact f3 e
 have clO:∀ x c,cl.lookup x=some c→X.env.cells.lookup x=some c∧(x,NameKind.free)∈scope.names:=fun x c e=>by
  rw[hcl] at e;split at e
  ·rename_i hm;exact⟨e,hm⟩
  ·cases e
 have stkD:∀ b∈frs X.stack,b≠D∧b≠C:=fun b hb=>by
  have h:=I2.stkSub b hb;rcases List.mem_cons.mp h with e | e
  ·have h1:@LT.lt Nat _ X.env.locals s2.heap.objs.size:=I2.lt;have h2:@Eq Nat b X.env.locals:=e;exact⟨fun z=>by have z':@Eq Nat b D:=z;omega,fun z=>by have z':@Eq Nat b C:=z;omega⟩
  ·obtain⟨_,o,ho,_⟩:=I2.ok.funs.mem e;have h1:@LT.lt Nat _ b X.s₀.heap.objs.size:=Heap.lt_size ho;have h2:=I2.sz;exact⟨fun z=>by have z':@Eq Nat b D:=z;omega,fun z=>by have z':@Eq Nat b C:=z;omega⟩
 have ok':(cxComp X N' scope cl C s2 H2 fp).Ok:=by
  refine⟨I2.ok.mod,S.kind,I2.ok.glob,I2.ok.blt,(by show s2.heap.objs.size≤C;omega),fun x y c h1 h2=>I2.ok.inj x y c (clO x c h1).1 (clO y c h2).1,fun x hx=>?_,fun x c hx _=>(Bool.false_ne_true hx).elim,fun _=>I2.ok.hd hc,I2.ok.frames,.inl rfl,
   fun b hb=>⟨(fpl b hb).1,fun x c e=>(f2 b hb).2.2.2.2.1 x c (clO x c e).1⟩,I2.bs,Nat.le_trans I2.ok.bsz I2.sz,fun b o e hb=>?_,nstk,I2.stack,I2.stkFree⟩
  ·have hx':(relabel scope X.env).names.lookup x=some .cell∨(relabel scope X.env).names.lookup x=some .free:=hx;have hk:(relabel scope X.env).names.lookup x=_:=lookup_relabel X.env x scope.names;rw[hk] at hx';have hf:(x,NameKind.free)∈scope.names:=by
    cases q:scope.names.lookup x with
    | none=>rw[q] at hx';rcases hx' with z | z <;> cases z
    | some k =>
     have hm:=PySem.mem_of_lookup q;cases k with
     | free=>exact hm
     | cell=>exact absurd rfl (S.nocell _ hm)
     | _=>rw[q] at hx';rcases hx' with z | z <;> simp at z
   obtain⟨c,e⟩:=I2.ok.has x (.inl (S.kinds _ hf rfl));exact⟨c,by show cl.lookup x=some c;rw[hcl,if_pos hf];exact e⟩
  ·rcases (f2 b hb).2.2.2.1 with z | z
   ·exact I2.ok.noex b o e z
   ·have h1:@LT.lt Nat _ b X.s₀.heap.objs.size:=Heap.lt_size (I2.ok.bs b o e).1;have h2:@LE.le Nat _ X.s₀.heap.objs.size b:=z;omega
 have I0:Inv (cxComp X N' scope cl C s2 H2 fp) [] (startC nT js σ) H2 { s2 with heap:=h₁,toks:=s2.toks+([]:List (Str × Value)).length }:=by
  refine⟨ok',rfl,I2.bare,Un.kept old,⟨_,hns₁,fun i x v e1 e2 e3=>?_⟩,fun x c e=>?_,fC,fun x c e=>I2.freeC x c (clO x c e).1,fun p hp=>absurd (show p∈([]:List (Addr × Obj)) from hp) (by simp),I2.hok.kept old,?_⟩
  ·unfold startC at e2;by_cases hi:i<nT
   ·rw[List.getElem?_append_left (by simpa using hi),List.getElem?_replicate,if_pos hi] at e2;cases e2
   ·rw[List.getElem?_append_right (by simpa using hi),List.length_replicate,List.getElem?_map] at e2;obtain⟨k,hk⟩:∃ k,i=nT+k:=⟨i-nT,by omega⟩;subst hk;rw[Nat.add_sub_cancel_left] at e2;cases q:js[k]? with
    | none=>rw[q] at e2;cases e2
    | some j =>
     rw[q] at e2;have e2':(σ[j]?).join=some v:=Option.some.inj e2;have e3' : σ[j]? = some (some v):=by
      cases z : σ[j]? with
      | none=>rw[z] at e2';cases e2'
      | some a=>rw[z] at e2';exact congrArg some e2'
     have hxN:=S.frees k j x q e1;have hlk:scope.names.lookup x=some .free:=S.vis x (by
      rw[List.mem_iff_getElem?];exact⟨k,by rw[List.getElem?_drop];exact e1⟩)
     have hfree:(x,NameKind.free)∈scope.names:=PySem.mem_of_lookup hlk;have hcell:=S.kinds _ hfree rfl;obtain⟨m,hn,hl⟩:=I2.loc;obtain⟨u,r,l⟩:=hl j x v hxN e3' (.inr (.inl hcell));refine⟨u,r,?_⟩;rcases l with ⟨l,_⟩ | ⟨_,c,ec,ic⟩
     ·have l':X.env.scope.names.lookup x=some .local:=l;rw[hcell] at l';cases l'
     ·refine .inr ⟨?_,c,?_,?_⟩
      ·left;show (relabel scope X.env).names.lookup x=some .cell;have hk:(relabel scope X.env).names.lookup x=_:=lookup_relabel X.env x scope.names;have hkind:X.env.scope.kind = .function:=I2.ok.kind;have hko:X.env.kindOf x=some .cell:=hcell;rw[hk,hlk,Option.map_some,hkind,hko];rfl
      ·show cl.lookup x=some c;rw[hcl,if_pos hfree];exact ec
      ·exact ic.keeps old
  ·obtain⟨v,q⟩:=I2.cell x c (clO x c e).1;exact⟨v,q.keeps old⟩
  ·unfold startC;rw[List.length_append,List.length_replicate,List.length_map];exact S.len.symm
 have lp:∀ s₃:Shared,s₃={ s2 with heap:=h₁,toks:=s2.toks+([]:List (Str × Value)).length } →
   codeAny (model X.prog X.w) X.A (.compLoop (.ListComp elt [⟨tg,iter,ifs,0⟩] scope pos) 0 (.ref it) (.ref D) (compEnvC scope cl C X.env)) (RR (.ref D) C) s₃:=by
  rintro s₃ rfl;obtain⟨m0,w0⟩:=w0;refine compLoop_any (fun n s'=>∃ (i:Nat) (ys:List V) (its:List Value) (no:Nat) (σ':St) (H':Hp),Inv (cxComp X N' scope cl C s2 H2 fp) [(D,{ cls := .type "list",data := .seq its.toArray no })] σ' H' s'∧Vals ys its∧tn i s'.heap∧(∀ b∈fp,H' b=none)∧ys.length≤sizeLine∧W i n ys σ' H') ?_ m0
   ⟨0,[],[],0,startC nT js σ,H2,I0.pins_of fun p hp=>?_,.nil,T.keep _ _ _ st2 fun b _ o e=>old b o e,fun b hb=>(f2 b hb).1,Nat.zero_le _,w0⟩
  ·rintro n s3 ⟨i,ys,its,no,σ3,H3,I3,rv,st3,fr3,hz,w3⟩;have fpk:∀ {H':Hp},(∀ b∈fp,H' b=none)→∀ b∈fp,FpOk (cxComp X N' scope cl C s2 H2 fp) [(D,{ cls := .type "list",data := .seq its.toArray no })] H' b:=fun hn b hb =>
    ⟨hn b hb,(fpl b hb).1,nstk b hb,.inl hb,fun x c e=>(f2 b hb).2.2.2.2.1 x c (clO x c e).1,fun p hp=>by
     have e:p=(D,{ cls := .type "list",data := .seq its.toArray no }):=by simpa using hp
     rw[e];exact Ne.symm (fpl b hb).2⟩
   rcases turn i n ys σ3 H3 w3 with ⟨stop,q⟩ | ⟨go,hlt,N,hN,step⟩
   ·refine wpAny_mono (T.done (cxComp X N' scope cl C s2 H2 fp) rfl rfl rfl hc i _ s3 σ3 H3 (fun _ _=>False) I3 (fpk fr3) st3 stop) (fun r s4 ⟨hr,I4⟩=>?_) fun _ _ h=>h
    subst hr;obtain⟨pD1,pD2,pD3,pD4,_⟩:=I4.pin (D,{ cls := .type "list",data := .seq its.toArray no }) (by simp);obtain⟨m,hn,_⟩:=I4.loc;have fC4:H3 C=none:=I4.free;refine hRR D C s4 ys H3 m (q D pD2) hn nC (by omega) hDC fC4 fun h' sb=>?_
    have k4:∀ b o,b≠C→s4.heap.get? b=some o→h'.get? b=some o:=fun b o hb e=>sb.extBut b o hb e
    have tne:∀ b u,H3 b=some u→b≠D:=fun b u e=>ne_of_none e pD2
    refine I2.call' (s':={ s4 with heap:=h' }) (ch:=fp) I4.os ⟨fun b o e n hb hx=>k4 b o (below b o e).1 (I4.base.keep b o e n hb hx),fun b o e n hb hx=>?_,fun b o e n hx=>?_,fun b o e hx=>?_,fun b xs e=>?_,fun b o u e=>?_,fun b ps e=>?_⟩ (fun b u e=>?_) I4.bare fun b hb=>?_
    ·obtain⟨sl,e'⟩:=I4.base.slot b o e n hb hx;exact⟨sl,k4 b _ (below b o e).1 e'⟩
    ·rw[upd_ne (below b o e).2];exact I4.base.free b o e n hx
    ·obtain⟨o',e'⟩:=I4.base.there b o e hx;exact⟨o',k4 b o' (below b o e).1 e'⟩
    ·have e':=I4.base.tups b xs e;rw[upd_ne (tne b _ e')];exact e'
    ·have e':=I4.base.frzs b o u e;rw[upd_ne (tne b _ e')];exact e'
    ·obtain⟨more,e'⟩:=I4.base.tbls b ps e;exact⟨more,by rw[upd_ne (tne b _ e')];exact e'⟩
    ·by_cases hb:b=D
     ·subst hb;rw[upd_same] at e;cases e;exact⟨hz,its,no,rv,k4 b _ hDC pD1⟩
     ·rw[upd_ne hb] at e;refine (I4.hok b u e).stay (fun c v hcc z=>k4 c v ?_ z) (fun c z=>by rw[upd_ne (tne c _ z)];exact z) fun c xs z=>by rw[upd_ne (tne c _ z)];exact z
      rcases hcc with rfl | hcc
      ·exact ne_of_none e fC4
      ·exact ne_of_none hcc fC4
    ·obtain⟨_,g1,_,g3,g4,g5⟩:=f2 b hb;exact⟨g3,g1,g4,g5⟩
   ·refine wpAny_mono (T.item (cxComp X N' scope cl C s2 H2 fp) rfl rfl rfl hc i _ s3 σ3 H3 (fun _ _=>False) I3 (fpk fr3) st3 go) (fun r s4 ⟨u,hr,h4⟩=>?_) fun _ _ h=>h
    subst hr;refine wpAny_mono h4 (fun _ s5 ⟨x,H5,I5,r5,y5,st5,fr5⟩=>?_) fun _ _ h=>h
    have I5':=I5.pinned (fpk fr5) (T.obj _ _ st5);refine wpAny_mono (hg C s2 H2 fp _ s5 σ3 H5 x u _ I5' r5 (step x H5 y5)) (fun _ s6 ⟨σ6,H6,I6,q6⟩=>?_) fun _ _ h=>h
    refine wpAny_mono (ht C s2 H2 fp _ s6 σ6 H6 _ I6 q6) (fun ok s7 ⟨H7,I7,q7⟩=>?_) fun _ _ h=>h
    have back:∀ {pp:List (Addr × Obj)}{s':Shared} {σ':St}{H':Hp},(∀ b∈fp,∀ o,s5.heap.get? b=some o→(b,o)∈pp)→Inv (cxComp X N' scope cl C s2 H2 fp) pp σ' H' s'→tn (i+1) s'.heap∧∀ b∈fp,H' b=none:=fun {pp s' σ' H'} hpp I'=>by
     refine⟨T.keep _ _ _ st5 fun b hb o e=>(I'.pin (b,o) (List.mem_append_right _ (hpp b hb o e))).1,fun b hb=>?_⟩;obtain⟨o,e,d⟩:=T.obj _ _ st5 b hb;exact (I'.pin (b,o) (List.mem_append_right _ (hpp b hb o e))).2.1
    have inpp:∀ b∈fp,∀ o,s5.heap.get? b=some o→(b,o)∈[(D,({ cls := .type "list",data := .seq its.toArray no }:Obj))]++pinsAt fp s5.heap:=fun b hb o e=>List.mem_append_right _ (mem_pinsAt hb e)
    cases ok with
    | false =>
     rw[if_neg Bool.false_ne_true];rw[if_neg Bool.false_ne_true] at q7;obtain⟨m',hm,w7⟩:=hN _ _ _ q7;obtain⟨b1,b2⟩:=back inpp I7;exact⟨m',hm,i+1,ys,its,no,σ6,H7,I7.unpinned,rv,b1,b2,hz,w7⟩
    | true =>
     rw[if_pos rfl];rw[if_pos rfl] at q7;refine wpAny_mono (he C s2 H2 fp _ s7 σ6 H7 _ I7 q7) (fun v8 s8 ⟨y,H8,I8,r8,q8⟩=>?_) fun _ _ h=>h
     obtain⟨eD,nD8,neL,nf,_⟩:=I8.pin (D,{ cls := .type "list",data := .seq its.toArray no }) (List.mem_append_right _ (List.mem_append_left _ (by simp)));have hlen:=rv.length;refine call_meets F.slot_list_append ⟨_,eD,rfl⟩ F.entry_list_append (F.args_list_append_2 _ _) (PySem.list_append D its.toArray no v8 (by rw[List.size_toArray];omega)) ⟨eD,?_⟩;obtain⟨m',hm,w8⟩:=hN _ _ _ q8;have I9:Inv (cxComp X N' scope cl C s2 H2 fp) (pinsAt fp s5.heap) σ6 H8 s8:=I8.pins_of fun p hp=>I8.pin p (List.mem_append_right _ (List.mem_append_right _ hp))
     have hup:=get?_update_seq eD (fun a=>a.push v8);have I10:=I9.turned (h':=s8.heap.update D (Obj.mapSeq fun a=>a.push v8)) (t':=s8.toks) (it:=D) (fun b o hb e=>(Heap.get?_update_ne _ _ _ _ hb).trans e) nD8 neL (.inr (by show s2.heap.objs.size≤D;omega))
      (fun x c e z=>by
       obtain⟨v,oc,hoc,hdc⟩:=I8.cell x c e;rw[z,eD] at hoc;cases hoc;cases hdc) (fun p hp z=>by
        have hp':p∈pinsAt fp s5.heap:=by simpa using hp
        exact (fpl p.1 (of_pinsAt hp').1).2 z)
     obtain⟨b1,b2⟩:=back (fun b hb o e=>mem_pinsAt hb e) I10;refine⟨m',hm,i+1,ys ++ [y],its ++ [v8],(if ((its.toArray.push v8).size == its.toArray.size)=true then no else no+1),σ6,H8,I10.pins_of fun p hp=>?_,rv.append (.cons r8 .nil),b1,b2,(by rw[List.length_append];simp;omega),w8⟩;obtain rfl:=List.mem_singleton.mp hp;refine⟨?_,nD8,neL,nf,fun v z=>by cases z⟩;refine hup.trans ?_;rw[List.push_toArray]
  ·have e:p=(D,{ cls := .type "list",data := .seq ([]:List Value).toArray }):=by simpa using hp
   subst e;exact⟨hacc,fD,hDC,fun z=>(stkD D z).1 rfl,fun v z=>by cases z⟩
 exact codeAny_compStart_list (lp _ rfl) (T.self _ 0 _ _ _ (T.keep _ _ _ st2 fun b _ o e=>old b o e) (lp _ rfl))
theorem pe_comp {X:Cx}{tg iter elt:Expr}{ifs:List Expr}{scope:Scope}{pos:Pos} (N':List Str) (nT:Nat) (js:List Nat) {wi:TI}{g:TG}{tc:TT}{te:TE}
  (hc:X.calm=true) (S:CompSc X.nox scope N' nT js) (hi:PI X.nox tg iter wi)
  (hg:∀ cl C s₀ H₀ fp,PG (cxComp X.nox N' scope cl C s₀ H₀ fp) tg g) (ht:∀ cl C s₀ H₀ fp,PTs (cxComp X.nox N' scope cl C s₀ H₀ fp) ifs tc) (he:∀ cl C s₀ H₀ fp,PE (cxComp X.nox N' scope cl C s₀ H₀ fp) elt te)
  (hs:∀ x,foldedSetIterable iter X.env x=pure x:=by intro _;rfl) :
  PE X.nox (.ListComp elt [⟨tg,iter,ifs,0⟩] scope pos) (tComp wi nT js g tc te):=by
 intro pins s σ H Q I h;rw[eval_ListComp];obtain⟨cl,e,l⟩:=closureFor_of (env:=X.env) scope.names [] fun x hx=>I.ok.has x (.inl (S.kinds _ hx rfl))
 have hclos:closureFor scope X.env=pure cl:=by
  unfold closureFor;show (forIn scope.names [] fun (x:Str × NameKind) (cs:List (Str × Addr))=>(if (x.2 == NameKind.free)=true then (do let a ← cellOf X.env x.1;pure (ForInStep.yield ((x.1,a) :: cs))) else pure (ForInStep.yield cs):Sem (ForInStep (List (Str × Addr))))) >>= (fun s=>pure s)=pure cl;rw[e,pure_bind]
 refine wpAny_comprehension_free (cl:=cl) (use:=none) rfl hs hclos S.kind S.names ?_;refine thn (hi pins s σ H _ I h) fun v s1 h1=>thn h1 fun itv s2 h2=>?_
 obtain⟨it,fp,tn,J,H2,rfl,I2,T,st2,f2,W,w0,turn⟩:=h2;refine comp_core (X:=X.nox) (QQ:=fun D ys H'=>Q (.ref D) (upd H' D (.lst ys))) (RR:=fun acc C=>compPost (model X.prog X.w) X.A (fun _ _=>False) none (EP X.nox pins σ Q) acc C) hc S (fun x=>by rw[l x];rfl) (hg cl) (ht cl) (he cl) I2 T st2 f2 W w0 turn fun D C s' ys H' m q hn nC _ _ _ fin=>?_
 exact⟨m,hn,fun h' sb=>⟨.ref D,_,fin h' sb,rfl,q⟩⟩
theorem ps_setC {X:Cx}{tg iter elt:Expr}{ifs:List Expr}{scope:Scope}{cpos pos pos':Pos}{x:Str}{i:Nat} (N':List Str) (nT:Nat) (js:List Nat) {wi:TI}{g:TG}{tc:TT}{te:TE}
    (hN:X.nox.N.Nodup) (hix:X.nox.N[i]? = some x) (hx:Loc X.nox.env.scope x)
    (hc:X.calm=true) (S:CompSc X.nox scope N' nT js) (hi:PI X.nox tg iter wi)
    (hg:∀ cl C s₀ H₀ fp,PG (cxComp X.nox N' scope cl C s₀ H₀ fp) tg g) (ht:∀ cl C s₀ H₀ fp,PTs (cxComp X.nox N' scope cl C s₀ H₀ fp) ifs tc) (he:∀ cl C s₀ H₀ fp,PE (cxComp X.nox N' scope cl C s₀ H₀ fp) elt te)
    (hs:∀ x,foldedSetIterable iter X.env x=pure x:=by intro _;rfl) (hsw:swapsWith (.ListComp elt [⟨tg,iter,ifs,0⟩] scope cpos) (some (.Name x pos')) pos.line X.env=pure true:=by rfl)
    (hf:X.nox.fn x=true∨X.nox.env.scope.names.lookup x=some .local:=by first | exact .inl rfl | exact .inr rfl | assumption) :
    PS X.nox (.Assign [.Name x pos'] (.ListComp elt [⟨tg,iter,ifs,0⟩] scope cpos) pos) (tAsg (tComp wi nT js g tc te) (gName i)):=by
  intro pins s σ H D0 I h;have hG:PG X.nox (.Name x pos') (gName i):=pg_name hN hix hx hf;rw [exec_Assign_Name_used _ _ _ _ hsw];obtain ⟨cl,e,l⟩:=closureFor_of (env:=X.env) scope.names [] fun x hx=>I.ok.has x (.inl (S.kinds _ hx rfl))
  have hclos:closureFor scope X.env=pure cl:=by
    unfold closureFor;show (forIn scope.names [] fun (x:Str × NameKind) (cs:List (Str × Addr))=>(if (x.2 == NameKind.free)=true then (do let a ← cellOf X.env x.1;pure (ForInStep.yield ((x.1,a) :: cs))) else pure (ForInStep.yield cs) : Sem (ForInStep (List (Str × Addr))))) >>= (fun s=>pure s)=pure cl;rw [e,pure_bind]
  refine wpAny_bind (wpAny_standAt (wpAny_bind ?_));show wpAny _ X.nox.A (do let _ ← comprehension (.ListComp elt [⟨tg,iter,ifs,0⟩] scope cpos) scope X.env _ (newList []) false (eval iter X.env) (some (assign (.Name x pos') X.env))) _ _ s;refine wpAny_bind (wpAny_mono (wpAny_comprehension_free (cl:=cl) (use:=some (assign (.Name x pos') X.env)) (Q:=fun _ s'=>SP X.nox pins D0 .next s') rfl hs hclos S.kind S.names ?_) (fun _ s' hq=>wpAny_pure (wpAny_pure hq)) fun _ _ e=>e);refine thn (hi pins s σ H _ I h) fun v s1 h1=>thn h1 fun itv s2 h2 => ?_
  obtain ⟨it,fp,tn,J,H2,rfl,I2,T,st2,f2,W,w0,turn⟩:=h2;refine comp_core (X:=X.nox) (QQ:=fun D ys H'=>gName i (.ref D) σ (upd H' D (.lst ys)) D0.nx) (RR:=fun acc C=>compPost (model X.prog X.w) X.A (fun _ _=>False) (some (assign (.Name x pos') X.env)) (fun _ s'=>SP X.nox pins D0 .next s') acc C) hc S (fun x=>by rw [l x];rfl) (hg cl) (ht cl) (he cl) I2 T st2 f2 W w0 turn fun D C s' ys H' m q hn nC hC hDC hHC fin => ?_
  show wpAny _ X.A (assign (.Name x pos') X.env (.ref D)) _ _ _;have I3:Inv X.nox pins σ (upd H' D (.lst ys)) s':=fin s'.heap ⟨rfl,fun _ _=>rfl⟩;have hHC':upd H' D (.lst ys) C=none:=by rw [upd_ne (Ne.symm hDC)];exact hHC
  have fpC:∀ {H3:Hp},H3 C=none→FpOk X.nox pins H3 C:=fun h3=>I2.fpOk hC h3
  obtain ⟨oC,es,ep,hoC,rC⟩:=id hn;have hcell:∀ v,oC.data ≠ .cell v:=fun v z=>by
    have:=rC
    rw [z] at this;simp at this
  have I4 := I3.pinned (fp := [C]) (fun b hb => by have z : b = C := by simpa using hb
                                                   subst z; exact fpC hHC') (fun b hb => by have z : b = C := by simpa using hb
                                                                                            subst z; exact ⟨oC, hoC, hcell⟩)
  refine thn (hG _ s' σ _ (.ref D) (.ref D) _ I4 rfl q) fun _ s5 ⟨σ5,H5,I5,q5⟩ => ?_
  have pC:=I5.pin (C,oC) (List.mem_append_right _ (List.mem_append_right _ (mem_pinsAt (by simp) hoC)));refine ⟨m,⟨oC,es,ep,pC.1,rC⟩,fun h' sb => ?_⟩;obtain ⟨f0,f1,f2',f3,f4,f5⟩:=fpC pC.2.1;exact ⟨σ5,H5,(I5.unpinned).turned (t':=s5.toks) (fun b o hb e=>(sb.2 b hb).trans e) f0 f1 f3 f4 f5,q5⟩
theorem comp_list {K:PySem.W.Frag}{a:Addr}{xs:List V}{g:TG}{tc:TT}{te:TE} {σ:St}{H:Hp}{R:List V→Hp→Addr→Prop} (Pv:Nat→List V→St→Hp→Prop) (h0:Pv 0 [] σ H) (hl:∀ i ys σ H,i≤xs.length→Pv i ys σ H→SqL K H a xs∧ys.length≤i) (hz:xs.length≤sizeLine)
  (hs:∀ i x ys σ H,xs[i]? = some x→Pv i ys σ H→g x σ H fun σ2 H2=>tc σ2 H2 fun b H3=>if b=true then te σ2 H3 fun y H4=>Pv (i+1) (ys ++ [y]) σ2 H4 else Pv (i+1) ys σ2 H3)
  (hd:∀ ys σ H,Pv xs.length ys σ H→∀ D,H D=none→R ys H D) :
  ∃ W:Nat→Nat→List V→St→Hp→Prop,(∃ m,W 0 m [] σ H)∧∀ i m ys σ H,W i m ys σ H →
   ((Itl K a).stop i H∧∀ D,H D=none→R ys H D) ∨
   ((Itl K a).go i H∧ys.length<sizeLine∧∃ N:List V→St→Hp→Prop,(∀ ys' σ' H',N ys' σ' H'→∃ m',m'<m∧W (i+1) m' ys' σ' H') ∧
    ∀ x H',(Itl K a).yld i H x H'→g x σ H' fun σ2 H2=>tc σ2 H2 fun b H3=>if b=true then te σ2 H3 fun y H4=>N (ys ++ [y]) σ2 H4 else N ys σ2 H3):=by
 refine⟨fun i m ys σ H=>m=xs.length-i∧i≤xs.length∧Pv i ys σ H,⟨xs.length,by simp,Nat.zero_le _,h0⟩,?_⟩;rintro i m ys σ H ⟨rfl,hi,p⟩;have q:=hl i ys σ H hi p;by_cases hlt:i<xs.length
 ·refine .inr ⟨⟨xs,xs[i],q.1,by simp[hlt]⟩,(by omega),Pv (i+1),fun ys' σ' H' p'=>⟨xs.length-(i+1),by omega,rfl,hlt,p'⟩,fun x H' y=>?_⟩;obtain⟨e,y⟩:=y;subst e;exact hs i x ys σ _ (y xs q.1) p
 ·have e:i=xs.length:=by omega
  subst e;exact .inl ⟨⟨xs,q.1,Nat.le_refl _⟩,hd ys σ H p⟩
theorem comp_range {lo:Int}{n:Nat}{g:TG}{tc:TT}{te:TE} {σ:St}{H:Hp}{R:List V→Hp→Addr→Prop} (Pv:Nat→List V→St→Hp→Prop) (h0:Pv 0 [] σ H) (hl:∀ i ys σ H,Pv i ys σ H→ys.length≤i) (hz:n≤sizeLine)
  (hs:∀ i ys σ H,i<n→Pv i ys σ H→g (.int (lo+i)) σ H fun σ2 H2=>tc σ2 H2 fun b H3=>if b=true then te σ2 H3 fun y H4=>Pv (i+1) (ys ++ [y]) σ2 H4 else Pv (i+1) ys σ2 H3)
  (hd:∀ ys σ H,Pv n ys σ H→∀ D,H D=none→R ys H D) :
  ∃ W:Nat→Nat→List V→St→Hp→Prop,(∃ m,W 0 m [] σ H)∧∀ i m ys σ H,W i m ys σ H →
   ((Itr lo n).stop i H∧∀ D,H D=none→R ys H D) ∨
   ((Itr lo n).go i H∧ys.length<sizeLine∧∃ N:List V→St→Hp→Prop,(∀ ys' σ' H',N ys' σ' H'→∃ m',m'<m∧W (i+1) m' ys' σ' H') ∧
    ∀ x H',(Itr lo n).yld i H x H'→g x σ H' fun σ2 H2=>tc σ2 H2 fun b H3=>if b=true then te σ2 H3 fun y H4=>N (ys ++ [y]) σ2 H4 else N ys σ2 H3):=by
 refine⟨fun i m ys σ H=>m=n-i∧i≤n∧Pv i ys σ H,⟨n,by simp,Nat.zero_le _,h0⟩,?_⟩;rintro i m ys σ H ⟨rfl,hi,p⟩;have q:=hl i ys σ H p;by_cases hlt:i<n
 ·refine .inr ⟨hlt,(by omega),Pv (i+1),fun ys' σ' H' p'=>⟨n-(i+1),by omega,rfl,hlt,p'⟩,fun x H' y=>?_⟩;obtain⟨e,y⟩:=y;subst e y;exact hs i ys σ _ hlt p
 ·have e:i=n:=by omega
  subst e;exact .inl ⟨Nat.le_refl _,hd ys σ H p⟩
end L2
namespace OS
open PySem PyProof.Rows
class KO where
 num:Value→Int
 ok:Value→Prop
 kind:SortKind
class KL [KO] (prog:Program) (w:World) (A:Around) (s:Shared):Prop where
 lt:∀ {E:Value→Shared→Prop}{Q:Bool→Shared→Prop}{u v:Value},KO.ok u→KO.ok v→Q (decide (KO.num u<KO.num v)) s→wpAny (model prog w) A (keyLt' KO.kind u v) Q E s
noncomputable def gallop':Bool→Keyed→Array Keyed→Nat→Nat→Nat→StateT SortSt Sem (Option Nat):=sortPriv% PySem.Builtin.gallop
variable [KO]
noncomputable def kn (p:Keyed):Int:=KO.num p.1
noncomputable def IsK (p:Keyed):Prop:=KO.ok p.1
structure SB (st:SortSt):Prop where
 kind:kindOf st=KO.kind
 failed:failedOf st=none
section
variable {prog:Program}{w:World}{A:Around}{E:Value→Shared→Prop}{s:Shared} [KL prog w A s]
theorem wpS_elem {arr:Array Keyed}{i:Nat}{p:Keyed}{st:SortSt}{Q:Keyed→SortSt→Prop} (e:arr[i]? = some p) (h:Q p st):wpS (model prog w) A E s (elem' arr i) Q st:=by
 rw[elem'_eq,e];exact wpS_pure h
theorem wpS_lt {st:SortSt}{x y:Keyed}{Q:Option Bool→SortSt→Prop} (hB:SB st) (hx:IsK x) (hy:IsK y) (h:Q (some (decide (kn x<kn y))) st):wpS (model prog w) A E s (lt' x y) Q st:=by
 rw[lt'_eq];refine wpS_bind (wpS_get ?_);rw[hB.kind];exact wpS_bind (wpS_lift (wpAny_attempt (KL.lt hx hy ⟨rfl,wpS_pure h⟩)))
theorem wpS_ltA {st:SortSt}{i j:Nat}{x y:Keyed}{Q:Option Bool→SortSt→Prop} (hB:SB st) (hi:(arrOf st)[i]? = some x) (hj:(arrOf st)[j]? = some y) (hx:IsK x) (hy:IsK y) (h:Q (some (decide (kn x<kn y))) st):wpS (model prog w) A E s (ltAt' i j) Q st:=by
 rw[ltAt'_eq];refine wpS_bind (wpS_get ?_);show wpS _ _ _ _ (do let x ← elem' (arrOf st) i;let y ← elem' (arrOf st) j;lt' x y) Q st;exact wpS_bind (wpS_elem hi (wpS_bind (wpS_elem hj (wpS_lt hB hx hy h))))
noncomputable def bey (left:Bool) (key:Keyed) (arr:Array Keyed) (base i:Nat):StateT SortSt Sem (Option Bool):=do
 let x ← elem' arr (base+i);if left then lt' x key else return (← lt' key x).map (!·)
set_option maxHeartbeats 4000000 in
theorem gallop'_eq (left:Bool) (key:Keyed) (arr:Array Keyed) (base n hint:Nat):gallop' left key arr base n hint=(do
 let mut lastofs:=0;let mut ofs:=1;let mut lo:=0;let mut hi:=0
 let some right ← bey left key arr base hint | return none
 if right then
  let maxofs:=n-hint
  for _ in [0:n] do
   if ofs ≥ maxofs then break
   let some more ← bey left key arr base (hint+ofs) | return none
   if !more then break
   lastofs:=ofs;ofs:=2 * ofs+1
  lo:=hint+lastofs+1;hi:=hint+min ofs maxofs
 else
  let maxofs:=hint+1
  for _ in [0:n] do
   if ofs ≥ maxofs then break
   let some found ← bey left key arr base (hint-ofs) | return none
   if found then break
   lastofs:=ofs;ofs:=2 * ofs+1
  lo:=hint+1-min ofs maxofs;hi:=hint-lastofs
 for _ in [0:n] do
  if lo ≥ hi then break
  let m:=lo+(hi-lo) / 2
  let some more ← bey left key arr base m | return none
  if more=true then lo:=m+1 else hi:=m
 return some hi):=rfl
noncomputable def Bey (left:Bool) (key x:Keyed):Prop:=if left then kn x<kn key else kn x≤kn key
noncomputable instance (left:Bool) (key x:Keyed):Decidable (Bey left key x):=by unfold Bey;infer_instance
theorem wpS_bey {left:Bool}{key:Keyed}{arr:Array Keyed}{base i:Nat}{x:Keyed}{st:SortSt}{Q:Option Bool→SortSt→Prop} (hB:SB st) (hk:IsK key) (hx:IsK x) (e:arr[base+i]? = some x)
  (h:Q (some (decide (Bey left key x))) st):wpS (model prog w) A E s (bey left key arr base i) Q st:=by
 unfold bey;refine wpS_bind (wpS_elem e ?_);cases left with
 | true=>exact wpS_lt hB hx hk h
 | false =>
  refine wpS_bind (wpS_lt hB hk hx (wpS_pure ?_));have e:(Option.map (fun x => !x) (some (decide (kn key<kn x))))=some (decide (Bey false key x)):=by
   have:(!decide (kn key<kn x))=decide (kn x≤kn key):=by
    rw[Bool.eq_iff_iff];simp
   show some (!decide (kn key<kn x))=some (decide (kn x≤kn key));rw[this]
  rw[e];exact h
structure Run (arr:Array Keyed) (base n:Nat):Prop where
 has:base+n≤arr.size
 keys:∀ x∈arr,IsK x
 rise:∀ i j (x y:Keyed),i≤j→j<n→arr[base+i]? = some x→arr[base+j]? = some y→kn x≤kn y
theorem Run.at {arr:Array Keyed}{base n:Nat} (r:Run arr base n) {i:Nat} (hi:i<n):∃ x,arr[base+i]? = some x∧IsK x:=by
 have:=r.has
 have hi':base+i<arr.size:=by omega
 exact⟨arr[base+i],by simp[hi'],r.keys _ (by simp)⟩
theorem Run.mono {arr:Array Keyed}{base n:Nat} (r:Run arr base n) {left:Bool}{key x y:Keyed}{i j:Nat} (hij:i≤j) (hj:j<n) (ex:arr[base+i]? = some x) (ey:arr[base+j]? = some y) (h:Bey left key y):Bey left key x:=by
 have:=r.rise i j x y hij hj ex ey
 unfold Bey at *;split at h <;> simp_all <;> omega
noncomputable def Cut (left:Bool) (key:Keyed) (arr:Array Keyed) (base n k:Nat):Prop:=k≤n∧(∀ i x,i<k→arr[base+i]? = some x→Bey left key x)∧(∀ i x,k≤i→i<n→arr[base+i]? = some x→¬ Bey left key x)
noncomputable def AllB (left:Bool) (key:Keyed) (arr:Array Keyed) (base lo:Nat):Prop:=∀ i x,i<lo→arr[base+i]? = some x→Bey left key x
noncomputable def NoneB (left:Bool) (key:Keyed) (arr:Array Keyed) (base n hi:Nat):Prop:=∀ i x,hi≤i→i<n→arr[base+i]? = some x→¬ Bey left key x
theorem Run.allB {arr:Array Keyed}{base n:Nat} (r:Run arr base n) {left:Bool}{key x:Keyed}{j:Nat} (hj:j<n) (ex:arr[base+j]? = some x) (h:Bey left key x):AllB left key arr base (j+1) :=
 fun i y hi ey=>r.mono (by omega) hj ey ex h
theorem Run.noneB {arr:Array Keyed}{base n:Nat} (r:Run arr base n) {left:Bool}{key x:Keyed}{j:Nat} (hj:j<n) (ex:arr[base+j]? = some x) (h:¬ Bey left key x):NoneB left key arr base n j :=
 fun i y hi hn ey z=>h (r.mono hi hn ex ey z)
set_option maxHeartbeats 4000000 in
theorem wpS_gallop {left:Bool}{key:Keyed}{arr:Array Keyed}{base n hint:Nat}{st:SortSt}{Q:Option Nat→SortSt→Prop} (hB:SB st) (hk:IsK key) (r:Run arr base n) (hh:hint<n)
  (h:∀ k,Cut left key arr base n k→Q (some k) st):wpS (model prog w) A E s (gallop' left key arr base n hint) Q st:=by
 rw[gallop'_eq];dsimp only;obtain⟨xh,eh,kh⟩:=r.at hh;have search:∀ (F:Nat→Option (Option Nat) × Nat × Nat→StateT SortSt Sem (ForInStep (Option (Option Nat) × Nat × Nat))) (G:Option (Option Nat) × Nat × Nat→StateT SortSt Sem (Option Nat)),
   (∀ x lo hi,F x (none,lo,hi)=if lo ≥ hi then pure (ForInStep.done (none,lo,hi)) else bey left key arr base (lo+(hi-lo) / 2) >>= fun o=>match o with
    | some more=>if more=true then pure (ForInStep.yield (none,lo+(hi-lo) / 2+1,hi)) else pure (ForInStep.yield (none,lo,lo+(hi-lo) / 2))
    | none=>pure (ForInStep.done (some none,lo,hi)))→(∀ lo hi,G (none,lo,hi)=pure (some hi)) →
   ∀ lo hi:Nat,lo≤hi→hi≤n→AllB left key arr base lo→NoneB left key arr base n hi→wpS (model prog w) A E s (forIn [0:n] (none,lo,hi) F >>= G) Q st:=by
  intro F G hF hG lo hi hlh hhn ha hb;refine wpS_bind (wpS_mono (wpS_forRange (I:=fun x c st'=>st'=st∧∃ lo hi,c=(none,lo,hi)∧lo≤hi∧hi≤n∧hi-lo≤n-x∧AllB left key arr base lo∧NoneB left key arr base n hi)
   (Q:=fun c st'=>st'=st∧∃ k,c=(none,k,k)∧k≤n∧AllB left key arr base k∧NoneB left key arr base n k) ?step ?fin ⟨rfl,lo,hi,rfl,hlh,hhn,by omega,ha,hb⟩) ?post)
  case post =>
   rintro c st' ⟨rfl,k,rfl,h1,h2,h3⟩;rw[hG];exact wpS_pure (h k ⟨h1,h2,h3⟩)
  case fin =>
   rintro c st' ⟨rfl,lo,hi,rfl,h1,h2,h3,h4,h5⟩
   have:lo=hi:=by omega
   subst this;exact⟨rfl,lo,rfl,h2,h4,h5⟩
  case step =>
   rintro x c st' _ hx ⟨rfl,lo,hi,rfl,h1,h2,h3,h4,h5⟩;rw[hF];by_cases hge:lo ≥ hi
   ·rw[if_pos hge]
    have:lo=hi:=by omega
    subst this;exact wpS_pure ⟨rfl,lo,rfl,h2,h4,h5⟩
   ·rw[if_neg hge];generalize hm:lo+(hi-lo) / 2=m;have hmn:m<n:=by omega
    obtain⟨xm,em,km⟩:=r.at hmn;refine wpS_bind (wpS_bey hB hk km em ?_);by_cases hb:Bey left key xm
    ·simp only[hb,decide_true,if_true];exact wpS_pure ⟨rfl,m+1,hi,rfl,by omega,h2,by omega,r.allB hmn em hb,h5⟩
    ·simp only[hb,decide_false,Bool.false_eq_true,if_false];exact wpS_pure ⟨rfl,lo,m,rfl,by omega,by omega,by omega,h4,r.noneB hmn em hb⟩
 refine wpS_bind (wpS_bey hB hk kh eh ?_);by_cases hb:Bey left key xh
 ·simp only[hb,decide_true,if_true];refine wpS_bind (wpS_mono (wpS_forRange (I:=fun x c st'=>st'=st∧∃ la of,c=(none,la,of)∧la<of∧x+1≤of∧hint+la<n∧AllB left key arr base (hint+la+1))
   (Q:=fun c st'=>st'=st∧∃ la of,c=(none,la,of)∧la<of∧hint+la<n∧AllB left key arr base (hint+la+1)∧(of<n-hint→NoneB left key arr base n (hint+of))) ?step ?fin ⟨rfl,0,1,rfl,by omega,by omega,by omega,r.allB hh eh hb⟩) ?post)
  case step =>
   rintro x c st' _ hx ⟨rfl,la,of,rfl,h1,h0,h2,h3⟩;dsimp only;by_cases hge:of ≥ n-hint
   ·rw[if_pos hge];exact wpS_pure ⟨rfl,la,of,rfl,h1,h2,h3,fun z=>by omega⟩
   ·rw[if_neg hge];have hmn:hint+of<n:=by omega
    obtain⟨xm,em,km⟩:=r.at hmn;refine wpS_bind (wpS_bey hB hk km em ?_);by_cases hb:Bey left key xm
    ·simp only[hb,decide_true,Bool.not_true,Bool.false_eq_true,if_false];exact wpS_pure ⟨rfl,of,2 * of+1,rfl,by omega,by omega,hmn,r.allB hmn em hb⟩
    ·simp only[hb,decide_false,Bool.not_false,if_true];exact wpS_pure ⟨rfl,la,of,rfl,h1,h2,h3,fun _=>r.noneB hmn em hb⟩
  case fin =>
   rintro c st' ⟨rfl,la,of,rfl,h1,h0,h2,h3⟩;exact⟨rfl,la,of,rfl,h1,h2,h3,fun z=>by omega⟩
  case post =>
   rintro c st' ⟨rfl,la,of,rfl,h1,h2,h3,h4⟩;dsimp only;refine search _ _ (fun _ _ _=>by dsimp only;split;rfl;congr 1;funext o;cases o <;> rfl) (fun _ _=>rfl) (hint+la+1) (hint+min of (n-hint)) (by omega) (by omega) h3 ?_;by_cases hlt:of<n-hint
   ·rw[Nat.min_eq_left (by omega)];exact h4 hlt
   ·rw[Nat.min_eq_right (by omega)];intro i x a1 a2;omega
 ·simp only[hb,decide_false,Bool.false_eq_true,if_false];refine wpS_bind (wpS_mono (wpS_forRange (I:=fun x c st'=>st'=st∧∃ la of,c=(none,la,of)∧la<of∧x+1≤of∧la≤hint∧NoneB left key arr base n (hint-la))
   (Q:=fun c st'=>st'=st∧∃ la of,c=(none,la,of)∧la<of∧la≤hint∧NoneB left key arr base n (hint-la)∧(of<hint+1→AllB left key arr base (hint-of+1))) ?step ?fin ⟨rfl,0,1,rfl,by omega,by omega,by omega,r.noneB hh eh hb⟩) ?post)
  case step =>
   rintro x c st' _ hx ⟨rfl,la,of,rfl,h1,h0,h2,h3⟩;dsimp only;by_cases hge:of ≥ hint+1
   ·rw[if_pos hge];exact wpS_pure ⟨rfl,la,of,rfl,h1,h2,h3,fun z=>by omega⟩
   ·rw[if_neg hge];have hmn:hint-of<n:=by omega
    obtain⟨xm,em,km⟩:=r.at hmn;refine wpS_bind (wpS_bey hB hk km em ?_);by_cases hb:Bey left key xm
    ·simp only[hb,decide_true,if_true];exact wpS_pure ⟨rfl,la,of,rfl,h1,h2,h3,fun _=>r.allB hmn em hb⟩
    ·simp only[hb,decide_false,Bool.false_eq_true,if_false];exact wpS_pure ⟨rfl,of,2 * of+1,rfl,by omega,by omega,by omega,r.noneB hmn em hb⟩
  case fin =>
   rintro c st' ⟨rfl,la,of,rfl,h1,h0,h2,h3⟩;exact⟨rfl,la,of,rfl,h1,h2,h3,fun z=>by omega⟩
  case post =>
   rintro c st' ⟨rfl,la,of,rfl,h1,h2,h3,h4⟩;dsimp only;refine search _ _ (fun _ _ _=>by dsimp only;split;rfl;congr 1;funext o;cases o <;> rfl) (fun _ _=>rfl) (hint+1-min of (hint+1)) (hint-la) (by omega) (by omega) ?_ h3;by_cases hlt:of<hint+1
   ·rw[Nat.min_eq_left (by omega),show hint+1-of=hint-of+1 by omega];exact h4 hlt
   ·rw[Nat.min_eq_right (by omega)];intro i x a1 a2;omega
end
end OS
namespace OS
open PySem PyProof.Rows
variable [KO]
noncomputable abbrev Up (l:List Keyed):Prop:=l.Pairwise fun x y=>kn x≤kn y
noncomputable abbrev Bel (l m:List Keyed):Prop:=∀ x∈l,∀ y∈m,kn x≤kn y
structure MInv (A B out:List Keyed) (ia ib:Nat):Prop where
 perm:out.Perm (A.take ia++B.take ib)
 srt:Up out
 ubA:Bel out (A.drop ia)
 ubB:Bel out (B.drop ib)
theorem MInv.swap {A B out:List Keyed}{ia ib:Nat} (h:MInv A B out ia ib):MInv B A out ib ia:=⟨h.perm.trans List.perm_append_comm,h.srt,h.ubB,h.ubA⟩
noncomputable def Merged (A B res:List Keyed):Prop:=res.Perm (A++B)∧Up res
theorem drop_split (A:List Keyed) (i k:Nat):A.drop i=(A.drop i).take k++A.drop (i+k):=by
 rw[← List.drop_drop,List.take_append_drop]
theorem MInv.pushAs {A B out:List Keyed}{ia ib:Nat} (h:MInv A B out ia ib) (sA:Up A) (k:Nat) (hb:Bel ((A.drop ia).take k) (B.drop ib)):MInv A B (out++(A.drop ia).take k) (ia+k) ib:=by
 have e:=drop_split A ia k;have sd:Up (A.drop ia):=sA.sublist (List.drop_sublist _ _);have sd':=sd;rw[e] at sd';have sp:=List.pairwise_append.mp sd';refine⟨?_,List.pairwise_append.mpr ⟨h.srt,sp.1,fun x hx y hy=>h.ubA x hx y (List.mem_of_mem_take hy)⟩,fun x hx y hy=>?_,fun x hx y hy=>?_⟩
 ·rw[List.take_add];have h1:(out++(A.drop ia).take k).Perm ((A.take ia++B.take ib)++(A.drop ia).take k):=h.perm.append_right _;refine h1.trans ?_;rw[List.append_assoc,List.append_assoc];exact (List.perm_append_comm).append_left _
 ·rcases List.mem_append.mp hx with hx | hx
  ·exact h.ubA x hx y (by rw[e];exact List.mem_append_right _ hy)
  ·exact sp.2.2 x hx y hy
 ·rcases List.mem_append.mp hx with hx | hx
  ·exact h.ubB x hx y hy
  ·exact hb x hx y hy
theorem MInv.pushBs {A B out:List Keyed}{ia ib:Nat} (h:MInv A B out ia ib) (sB:Up B) (k:Nat) (hb:Bel ((B.drop ib).take k) (A.drop ia)):MInv A B (out++(B.drop ib).take k) ia (ib+k) :=
 (h.swap.pushAs sB k hb).swap
theorem take_one {A:List Keyed}{i:Nat}{x:Keyed} (e:A[i]? = some x):(A.drop i).take 1=[x]:=by
 have hi:=(List.getElem?_eq_some_iff.mp e).1;rw[List.drop_eq_getElem_cons hi];simp[(List.getElem?_eq_some_iff.mp e).2]
theorem MInv.pushA {A B out:List Keyed}{ia ib:Nat}{x:Keyed} (h:MInv A B out ia ib) (sA:Up A) (e:A[ia]? = some x) (hb:∀ y∈B.drop ib,kn x≤kn y):MInv A B (out ++ [x]) (ia+1) ib:=by
 have:=h.pushAs sA 1 (by rw[take_one e];intro z hz;rw[List.mem_singleton.mp hz];exact hb)
 rwa [take_one e] at this
theorem MInv.pushB {A B out:List Keyed}{ia ib:Nat}{x:Keyed} (h:MInv A B out ia ib) (sB:Up B) (e:B[ib]? = some x) (hb:∀ y∈A.drop ia,kn x≤kn y):MInv A B (out ++ [x]) ia (ib+1) :=
 (h.swap.pushA sB e hb).swap
theorem MInv.done {A B out:List Keyed}{ia ib:Nat} (h:MInv A B out ia ib) (sA:Up A) (sB:Up B) (hb:Bel (A.drop ia) (B.drop ib)):Merged A B (out++A.drop ia++B.drop ib):=by
 refine⟨?_,?_⟩
 ·have h1:(out++A.drop ia++B.drop ib).Perm ((A.take ia++B.take ib)++A.drop ia++B.drop ib):=(h.perm.append_right _).append_right _;refine h1.trans ?_;have h2:((A.take ia++B.take ib)++A.drop ia).Perm (A++B.take ib):=by
   rw[List.append_assoc];refine (List.perm_append_comm.append_left _).trans ?_;rw[← List.append_assoc,List.take_append_drop]
  refine (h2.append_right _).trans ?_;rw[List.append_assoc,List.take_append_drop]
 ·refine List.pairwise_append.mpr ⟨List.pairwise_append.mpr ⟨h.srt,sA.sublist (List.drop_sublist _ _),h.ubA⟩,sB.sublist (List.drop_sublist _ _),fun x hx y hy=>?_⟩;rcases List.mem_append.mp hx with hx | hx
  ·exact h.ubB x hx y hy
  ·exact hb x hx y hy
theorem Merged.swap {A B res:List Keyed} (h:Merged A B res):Merged B A res:=⟨h.1.trans List.perm_append_comm,h.2⟩
theorem MInv.lastA {A B out:List Keyed}{ia ib:Nat} (h:MInv A B out ia ib) (sA:Up A) (sB:Up B) (hb:Bel (B.drop ib) (A.drop ia)):Merged A B (out++B.drop ib++A.drop ia):=(h.swap.done sB sA hb).swap
theorem up_head {A:List Keyed}{i:Nat}{x:Keyed} (sA:Up A) (e:A[i]? = some x):∀ y∈A.drop i,kn x≤kn y:=by
 have hi:=(List.getElem?_eq_some_iff.mp e).1;have hx:=(List.getElem?_eq_some_iff.mp e).2;intro y hy;have sd:Up (A.drop i):=sA.sublist (List.drop_sublist _ _);rw[List.drop_eq_getElem_cons hi] at sd hy;rcases List.mem_cons.mp hy with z | z
 ·rw[z,hx];exact Int.le_refl _
 ·have:=(List.pairwise_cons.mp sd).1 y z
  rw[hx] at this;exact this
section
variable {prog:Program}{w:World}{A:Around}{E:Value→Shared→Prop}{s:Shared} [KL prog w A s]
noncomputable def mergeLo':Array Keyed→Array Keyed→StateT SortSt Sem (Array Keyed):=sortPriv% PySem.Builtin.mergeLo
noncomputable def setG (g:Nat):StateT SortSt Sem Unit:=modify fun s=>SortSt.mk' (kindOf s) (arrOf s) (pendingOf s) g (failedOf s)
set_option maxHeartbeats 4000000 in
theorem mergeLo'_eq (a b:Array Keyed):mergeLo' a b=(do
 rule "list.sort.merge-lo";let total:=a.size+b.size
 let done (out:Array Keyed) (ia ib:Nat):=out++a.extract ia a.size++b.extract ib b.size;let lastOfA (out:Array Keyed) (ia ib:Nat):=out++b.extract ib b.size++a.extract ia a.size
 let mut out:Array Keyed := #[← elem' b 0];let mut ia:=0;let mut ib:=1
 if ib == b.size then return done out ia ib
 if ia+1 == a.size then return lastOfA out ia ib
 let mut minGallop:=gallopOf (← get)
 for _ in [0:total] do
  let mut acount:=0;let mut bcount:=0
  for _ in [0:total] do
   let some bWins ← lt' (← elem' b ib) (← elem' a ia) | return done out ia ib
   if bWins=true then
    out:=out.push (← elem' b ib);ib:=ib+1;bcount:=bcount+1;acount:=0
    if ib == b.size then return done out ia ib
    if bcount ≥ minGallop then break
   else
    out:=out.push (← elem' a ia);ia:=ia+1;acount:=acount+1;bcount:=0
    if ia+1 == a.size then return lastOfA out ia ib
    if acount ≥ minGallop then break
  rule "list.sort.gallop";minGallop:=minGallop+1
  for _ in [0:total] do
   if minGallop > 1 then minGallop:=minGallop-1
   setG minGallop
   let some k ← gallop' false (← elem' b ib) a ia (a.size-ia) 0 | return done out ia ib
   acount:=k
   if k > 0 then
    out:=out++a.extract ia (ia+k);ia:=ia+k
    if ia+1 == a.size then return lastOfA out ia ib
    if ia == a.size then return done out ia ib
   out:=out.push (← elem' b ib);ib:=ib+1
   if ib == b.size then return done out ia ib
   let some k ← gallop' true (← elem' a ia) b ib (b.size-ib) 0 | return done out ia ib
   bcount:=k
   if k > 0 then
    out:=out++b.extract ib (ib+k);ib:=ib+k
    if ib == b.size then return done out ia ib
   out:=out.push (← elem' a ia);ia:=ia+1
   if ia+1 == a.size then return lastOfA out ia ib
   if acount<7 && bcount<7 then break
  minGallop:=minGallop+1;setG minGallop
 unsupported "internal:list.sort.merge-bound"):=rfl
theorem ext_all (a:Array Keyed) (i:Nat):(a.extract i a.size).toList=a.toList.drop i:=by
 rw[Array.toList_extract,List.extract_eq_take_drop,List.take_of_length_le (by simp)]
theorem ext_cut (a:Array Keyed) (i k:Nat):(a.extract i (i+k)).toList=(a.toList.drop i).take k:=by
 rw[Array.toList_extract,List.extract_eq_take_drop,Nat.add_sub_cancel_left]
theorem mem_cut {a:Array Keyed}{i k:Nat}{x:Keyed} (h:x∈(a.toList.drop i).take k):∃ j,j<k∧a[i+j]? = some x:=by
 obtain⟨j,hj,e⟩:=List.getElem_of_mem h;rw[List.length_take] at hj;refine⟨j,by omega,?_⟩;have e2:((a.toList.drop i).take k)[j]? = some x:=by rw[List.getElem?_eq_getElem (by rw[List.length_take];exact hj),e]
 rw[List.getElem?_take_of_lt (by omega),List.getElem?_drop] at e2;simpa using e2
theorem Run.up {a:Array Keyed} (r:Run a 0 a.size):Up a.toList:=by
 refine List.pairwise_iff_getElem.mpr fun i j hi hj hij=>?_
 rw[Array.length_toList] at hi hj;exact r.rise i j _ _ (by omega) hj (by simp[hi]) (by simp[hj])
theorem Run.suf {a:Array Keyed} (r:Run a 0 a.size) (i:Nat) (hi:i≤a.size):Run a i (a.size-i) :=
 ⟨by omega,r.keys,fun j k x y hjk hk ex ey=>r.rise (i+j) (i+k) x y (by omega) (by omega) (by rw[Nat.zero_add];exact ex) (by rw[Nat.zero_add];exact ey)⟩
theorem Run.pre {a:Array Keyed} (r:Run a 0 a.size) (i:Nat) (hi:i≤a.size):Run a 0 i :=
 ⟨by omega,r.keys,fun j k x y hjk hk ex ey=>r.rise j k x y hjk (by omega) ex ey⟩
theorem ls {a:Array Keyed}{i:Nat}{x:Keyed} (h:a[i]? = some x):a.toList[i]? = some x:=by simpa using h
structure Kp (st st':SortSt):Prop where
 sb:SB st'
 arr:arrOf st'=arrOf st
 pend:pendingOf st'=pendingOf st
theorem Kp.setG {st st':SortSt} (h:Kp st st') (g:Nat):Kp st (SortSt.mk' (kindOf st') (arrOf st') (pendingOf st') g (failedOf st')):=⟨⟨h.sb.kind,h.sb.failed⟩,h.arr,h.pend⟩
theorem wpS_setG {st:SortSt}{g:Nat}{Q:Unit→SortSt→Prop} (h:Q () (SortSt.mk' (kindOf st) (arrOf st) (pendingOf st) g (failedOf st))):wpS (model prog w) A E s (setG g) Q st:=by
 unfold setG;exact wpS_modify h
noncomputable abbrev C7:=Option (Array Keyed) × Array Keyed × Nat × Nat × Nat × Nat × Nat
structure LoR (a b:Array Keyed) (st₀:SortSt) (c:Nat) (R:ForInStep C7→SortSt→Prop):Prop where
 res:∀ res out ia ib mg ac bc st',Kp st₀ st'→Merged a.toList b.toList res.toList→R (.done (some res,out,ia,ib,mg,ac,bc)) st'
 brk:∀ out ia ib mg ac bc st',Kp st₀ st'→MInv a.toList b.toList out.toList ia ib→ia+1<a.size→ib<b.size→c<ia+ib→R (.done (none,out,ia,ib,mg,ac,bc)) st'
 go:∀ out ia ib mg ac bc st',Kp st₀ st'→MInv a.toList b.toList out.toList ia ib→ia+1<a.size→ib<b.size→c<ia+ib→R (.yield (none,out,ia,ib,mg,ac,bc)) st'
theorem bel_last {a b:Array Keyed} (h2:∀ z,a[a.size-1]? = some z→∀ y∈b,kn y<kn z) {i j:Nat} (hi:i+1=a.size):Bel (b.toList.drop j) (a.toList.drop i):=by
 intro y hy z hz;have hl:i<a.toList.length:=by rw[Array.length_toList];omega
 rw[List.drop_eq_getElem_cons hl,List.drop_eq_nil_of_le (by rw[Array.length_toList];omega)] at hz;have hz':z=a.toList[i]:=by simpa using hz
 have e:a[a.size-1]? = some z:=by
  rw[hz',show a.size-1=i by omega];simp
 exact Int.le_of_lt (h2 z e y (by simpa using List.mem_of_mem_drop hy))
theorem lo_tail {a b:Array Keyed}{st₀ st':SortSt}{c:Nat}{R:ForInStep C7→SortSt→Prop} (G:LoR a b st₀ c R) (ra:Run a 0 a.size) (rb:Run b 0 b.size) (h2:∀ z,a[a.size-1]? = some z→∀ y∈b,kn y<kn z)
  {out:Array Keyed}{ia ib mg k k1:Nat} (hK:Kp st₀ st') (I:MInv a.toList b.toList out.toList ia ib) (hia:ia+1<a.size) (hib:ib<b.size) (hc:c≤ia+ib)
  (hx:∀ x,a[ia]? = some x→∀ y∈b.toList.drop ib,kn x≤kn y) :
  wpS (model prog w) A E s (do
   let x ← elem' a ia
   if (ia+1+1 == a.size)=true then pure (ForInStep.done (some (out.push x++b.extract ib b.size++a.extract (ia+1) a.size),out.push x,ia+1,ib,mg,k,k1))
   else if (decide (k<7) && decide (k1<7))=true then pure (ForInStep.done (none,out.push x,ia+1,ib,mg,k,k1)) else pure (ForInStep.yield (none,out.push x,ia+1,ib,mg,k,k1))) R st':=by
 obtain⟨x,ex,kx⟩:=ra.at (i:=ia) (by omega);rw[Nat.zero_add] at ex;refine wpS_bind (wpS_elem ex ?_);have I':=I.pushA ra.up (ls ex) (hx x ex);rw[← Array.toList_push] at I';by_cases hl:ia+1+1=a.size
 ·rw[if_pos (by simpa using hl)];refine wpS_pure (G.res _ _ _ _ _ _ _ _ hK ?_);rw[Array.toList_append,Array.toList_append,ext_all,ext_all];exact I'.lastA ra.up rb.up (bel_last h2 hl)
 ·rw[if_neg (by simpa using hl)];split
  ·exact wpS_pure (G.brk _ _ _ _ _ _ _ hK I' (by omega) hib (by omega))
  ·exact wpS_pure (G.go _ _ _ _ _ _ _ hK I' (by omega) hib (by omega))
theorem lo_mid {a b:Array Keyed}{st₀ st':SortSt}{c:Nat}{R:ForInStep C7→SortSt→Prop} (G:LoR a b st₀ c R) (ra:Run a 0 a.size) (rb:Run b 0 b.size) (h2:∀ z,a[a.size-1]? = some z→∀ y∈b,kn y<kn z)
  {out:Array Keyed}{ia ib mg k bc:Nat} (hK:Kp st₀ st') (I:MInv a.toList b.toList out.toList ia ib) (hia:ia+1<a.size) (hib:ib<b.size) (hc:c≤ia+ib)
  (hx:∀ x,b[ib]? = some x→∀ y∈a.toList.drop ia,kn x≤kn y) (F:Keyed→Option Nat→StateT SortSt Sem (ForInStep C7))
  (hF:∀ y k1,F y (some k1)=if k1 > 0 then if (ib+1+k1 == b.size)=true then pure (ForInStep.done (some (out.push y++b.extract (ib+1) (ib+1+k1)++a.extract ia a.size++b.extract (ib+1+k1) b.size),out.push y++b.extract (ib+1) (ib+1+k1),ia,ib+1+k1,mg,k,k1))
    else do
     let x ← elem' a ia
     if (ia+1+1 == a.size)=true then pure (ForInStep.done (some ((out.push y++b.extract (ib+1) (ib+1+k1)).push x++b.extract (ib+1+k1) b.size++a.extract (ia+1) a.size),(out.push y++b.extract (ib+1) (ib+1+k1)).push x,ia+1,ib+1+k1,mg,k,k1))
     else if (decide (k<7) && decide (k1<7))=true then pure (ForInStep.done (none,(out.push y++b.extract (ib+1) (ib+1+k1)).push x,ia+1,ib+1+k1,mg,k,k1)) else pure (ForInStep.yield (none,(out.push y++b.extract (ib+1) (ib+1+k1)).push x,ia+1,ib+1+k1,mg,k,k1))
   else do
     let x ← elem' a ia
     if (ia+1+1 == a.size)=true then pure (ForInStep.done (some ((out.push y).push x++b.extract (ib+1) b.size++a.extract (ia+1) a.size),(out.push y).push x,ia+1,ib+1,mg,k,k1))
     else if (decide (k<7) && decide (k1<7))=true then pure (ForInStep.done (none,(out.push y).push x,ia+1,ib+1,mg,k,k1)) else pure (ForInStep.yield (none,(out.push y).push x,ia+1,ib+1,mg,k,k1))) :
  wpS (model prog w) A E s (do
   let y ← elem' b ib
   if (ib+1 == b.size)=true then pure (ForInStep.done (some (out.push y++a.extract ia a.size++b.extract (ib+1) b.size),out.push y,ia,ib+1,mg,k,bc))
   else do
    let z ← elem' a ia
    let o ← gallop' true z b (ib+1) (b.size-(ib+1)) 0
    F y o) R st':=by
 obtain⟨y,ey,ky⟩:=rb.at hib;rw[Nat.zero_add] at ey;refine wpS_bind (wpS_elem ey ?_);have I':=I.pushB rb.up (ls ey) (hx y ey);rw[← Array.toList_push] at I';by_cases hl:ib+1=b.size
 ·rw[if_pos (by simpa using hl)];refine wpS_pure (G.res _ _ _ _ _ _ _ _ hK ?_);rw[Array.toList_append,Array.toList_append,ext_all,ext_all];refine I'.done ra.up rb.up ?_;rw[List.drop_eq_nil_of_le (as:=b.toList) (by rw[Array.length_toList];omega)];intro _ _ _ z;simp at z
 ·rw[if_neg (by simpa using hl)];obtain⟨z,ez,kz⟩:=ra.at (i:=ia) (by omega);rw[Nat.zero_add] at ez;refine wpS_bind (wpS_elem ez ?_);refine wpS_bind (wpS_gallop hK.sb kz (rb.suf (ib+1) (by omega)) (by omega) fun k1 hcut=>?_);rw[hF];obtain⟨c1,c2,c3⟩:=hcut;have hz:∀ x∈(b.toList.drop (ib+1)).take k1,kn x<kn z:=fun x hx=>by
   obtain⟨j,hj,e⟩:=mem_cut hx;exact c2 j x hj e
  have I2:=I'.pushBs rb.up k1 fun x hx v hv=>Int.le_trans (Int.le_of_lt (hz x hx)) (up_head ra.up (ls ez) v hv)
  have tl:∀ x,a[ia]? = some x→ib+1+k1<b.size→∀ v∈b.toList.drop (ib+1+k1),kn x≤kn v:=fun x ex hlt v hv=>by
   rw[ez] at ex;obtain⟨u,eu,ku⟩:=rb.at hlt;rw[Nat.zero_add] at eu;have h3:¬ kn u<kn z:=c3 k1 u (Nat.le_refl _) (by omega) eu;have h4:=up_head rb.up (ls eu) v hv;cases ex;omega
  by_cases hk:k1 > 0
  ·rw[if_pos hk];rw[← ext_cut,← Array.toList_append] at I2;by_cases hl2:ib+1+k1=b.size
   ·rw[if_pos (by simpa using hl2)];refine wpS_pure (G.res _ _ _ _ _ _ _ _ hK ?_);rw[Array.toList_append,Array.toList_append,ext_all,ext_all];refine I2.done ra.up rb.up ?_;rw[List.drop_eq_nil_of_le (as:=b.toList) (by rw[Array.length_toList];omega)];intro _ _ _ z;simp at z
   ·rw[if_neg (by simpa using hl2)];exact lo_tail G ra rb h2 hK I2 hia (by omega) (by omega) fun x ex=>tl x ex (by omega)
  ·rw[if_neg hk];have hk0:k1=0:=by omega
   subst hk0;exact lo_tail G ra rb h2 hK I' hia (by omega) (by omega) fun x ex=>tl x ex (by omega)
set_option maxHeartbeats 4000000 in
theorem wpS_mergeLo {a b:Array Keyed}{st:SortSt}{Q:Array Keyed→SortSt→Prop} (hB:SB st) (ra:Run a 0 a.size) (rb:Run b 0 b.size) (hb:0<b.size) (ha:0<a.size)
  (h1:∀ x y,b[0]? = some x→a[0]? = some y→kn x<kn y) (h2:∀ z,a[a.size-1]? = some z→∀ y∈b,kn y<kn z)
  (h:∀ res st',SB st'→arrOf st'=arrOf st→pendingOf st'=pendingOf st→Merged a.toList b.toList res.toList→Q res st'):wpS (model prog w) A E s (mergeLo' a b) Q st:=by
 rw[mergeLo'_eq];dsimp only;refine wpS_bind (wpS_lift (wpAny_rule ⟨rfl,?_⟩));obtain⟨b0,eb0,kb0⟩:=rb.at hb;rw[Nat.zero_add] at eb0;refine wpS_bind (wpS_elem eb0 ?_);have hA:=ra.up;have hBu:=rb.up;have hlB:0<b.toList.length:=by rw[Array.length_toList];exact hb
 have I0:MInv a.toList b.toList (#[b0]:Array Keyed).toList 0 1:=by
  have e1:b.toList.take 1=[b0]:=by have:=take_one (ls eb0);rwa [List.drop_zero] at this
  refine⟨by rw[List.take_zero,List.nil_append,e1],List.pairwise_singleton _ _,fun x hx y hy=>?_,fun x hx y hy=>?_⟩
  ·obtain⟨a0,ea0,_⟩:=ra.at ha;rw[Nat.zero_add] at ea0;have hx':x=b0:=by simpa using hx
   rw[hx'];exact Int.le_trans (Int.le_of_lt (h1 b0 a0 eb0 ea0)) (up_head hA (ls ea0) y hy)
  ·have hx':x=b0:=by simpa using hx
   rw[hx'];refine up_head hBu (ls eb0) y ?_;rw[List.drop_zero];exact List.mem_of_mem_drop hy
 have K0:Kp st st:=⟨hB,rfl,rfl⟩;have dn:∀ {out:Array Keyed}{ia ib:Nat},MInv a.toList b.toList out.toList ia ib→ib=b.size→Merged a.toList b.toList (out++a.extract ia a.size++b.extract ib b.size).toList:=fun {out ia ib} I hl=>by
  rw[Array.toList_append,Array.toList_append,ext_all,ext_all];refine I.done hA hBu ?_;rw[List.drop_eq_nil_of_le (as:=b.toList) (by rw[Array.length_toList];omega)];intro _ _ _ z;simp at z
 have la:∀ {out:Array Keyed}{ia ib:Nat},MInv a.toList b.toList out.toList ia ib→ia+1=a.size→Merged a.toList b.toList (out++b.extract ib b.size++a.extract ia a.size).toList:=fun {out ia ib} I hl=>by
  rw[Array.toList_append,Array.toList_append,ext_all,ext_all];exact I.lastA hA hBu (bel_last h2 hl)
 by_cases g1:1=b.size
 ·rw[if_pos (by simpa using g1)];exact wpS_pure (h _ st hB rfl rfl (dn I0 g1))
 rw[if_neg (by simpa using g1)];by_cases g2:0+1=a.size
 ·rw[if_pos (by simpa using g2)];exact wpS_pure (h _ st hB rfl rfl (la I0 g2))
 rw[if_neg (by simpa using g2)];refine wpS_bind (wpS_get ?_);refine wpS_bind (wpS_mono (wpS_forRange
  (I:=fun x c st'=>∃ out ia ib mg,c=(none,out,ia,ib,mg)∧Kp st st'∧MInv a.toList b.toList out.toList ia ib∧ia+1<a.size∧ib<b.size∧x+1≤ia+ib)
  (Q:=fun c st'=>∃ res out ia ib mg,c=(some res,out,ia,ib,mg)∧Kp st st'∧Merged a.toList b.toList res.toList) ?step ?fin ⟨#[b0],0,1,_,rfl,K0,I0,by omega,by omega,by omega⟩) ?post)
 case fin =>
  rintro c st' ⟨out,ia,ib,mg,rfl,_,_,h3,h4,h5⟩;omega
 case post =>
  rintro c st' ⟨res,out,ia,ib,mg,rfl,hk,hm⟩;exact wpS_pure (h res st' hk.sb hk.arr hk.pend hm)
 case step =>
  rintro x c st1 _ hxt ⟨out,ia,ib,mg,rfl,hk1,I1,h3,h4,h5⟩;dsimp only;refine wpS_bind (wpS_mono (wpS_forRange
   (I:=fun x1 c st'=>∃ out ia ib ac bc,c=(none,out,ia,ib,ac,bc)∧Kp st st'∧MInv a.toList b.toList out.toList ia ib∧ia+1<a.size∧ib<b.size∧x+1+x1≤ia+ib)
   (Q:=fun c st'=>(∃ res out ia ib ac bc,c=(some res,out,ia,ib,ac,bc)∧Kp st st'∧Merged a.toList b.toList res.toList) ∨
    ∃ out ia ib ac bc,c=(none,out,ia,ib,ac,bc)∧Kp st st'∧MInv a.toList b.toList out.toList ia ib∧ia+1<a.size∧ib<b.size∧x+2≤ia+ib) ?step1 ?fin1 ⟨out,ia,ib,0,0,rfl,hk1,I1,h3,h4,by omega⟩) ?post1)
  case fin1 =>
   rintro c st' ⟨out,ia,ib,ac,bc,rfl,h6,h7,h8,h9,h10⟩;exact .inr ⟨out,ia,ib,ac,bc,rfl,h6,h7,h8,h9,by omega⟩
  case step1 =>
   rintro x1 c st2 _ hx1 ⟨out,ia,ib,ac,bc,rfl,hk2,I2,h8,h9,h10⟩;dsimp only;obtain⟨y,ey,ky⟩:=rb.at h9;obtain⟨z,ez,kz⟩:=ra.at (i:=ia) (by omega);rw[Nat.zero_add] at ey ez;refine wpS_bind (wpS_elem ey (wpS_bind (wpS_elem ez (wpS_bind (wpS_lt hk2.sb ky kz ?_)))));by_cases hw:kn y<kn z
   ·simp only[hw,decide_true,if_true];refine wpS_bind (wpS_elem ey ?_);have I3:=I2.pushB hBu (ls ey) fun v hv=>Int.le_trans (Int.le_of_lt hw) (up_head hA (ls ez) v hv)
    rw[← Array.toList_push] at I3;by_cases hl:ib+1=b.size
    ·rw[if_pos (by simpa using hl)];exact wpS_pure (.inl ⟨_,_,_,_,_,_,rfl,hk2,dn I3 hl⟩)
    ·rw[if_neg (by simpa using hl)];split
     ·exact wpS_pure (.inr ⟨_,_,_,_,_,rfl,hk2,I3,h8,by omega,by omega⟩)
     ·exact wpS_pure ⟨_,_,_,_,_,rfl,hk2,I3,h8,by omega,by omega⟩
   ·simp only[hw,decide_false,Bool.false_eq_true,if_false];refine wpS_bind (wpS_elem ez ?_);have I3:=I2.pushA hA (ls ez) fun v hv=>Int.le_trans (Int.not_lt.mp hw) (up_head hBu (ls ey) v hv)
    rw[← Array.toList_push] at I3;by_cases hl:ia+1+1=a.size
    ·rw[if_pos (by simpa using hl)];exact wpS_pure (.inl ⟨_,_,_,_,_,_,rfl,hk2,la I3 hl⟩)
    ·rw[if_neg (by simpa using hl)];split
     ·exact wpS_pure (.inr ⟨_,_,_,_,_,rfl,hk2,I3,by omega,h9,by omega⟩)
     ·exact wpS_pure ⟨_,_,_,_,_,rfl,hk2,I3,by omega,h9,by omega⟩
  case post1 =>
   rintro c st2 (⟨res,out,ia,ib,ac,bc,rfl,hk2,hm⟩ | ⟨out,ia,ib,ac,bc,rfl,hk2,I2,h8,h9,h10⟩)
   ·exact wpS_pure ⟨_,_,_,_,_,rfl,hk2,hm⟩
   dsimp only;refine wpS_bind (wpS_lift (wpAny_rule ⟨rfl,?_⟩));refine wpS_bind (wpS_mono (wpS_forRange
    (I:=fun x2 c st'=>∃ out ia ib mg ac bc,c=(none,out,ia,ib,mg,ac,bc)∧Kp st st'∧MInv a.toList b.toList out.toList ia ib∧ia+1<a.size∧ib<b.size∧x+2≤ia+ib)
    (Q:=fun c st'=>(∃ res out ia ib mg ac bc,c=(some res,out,ia,ib,mg,ac,bc)∧Kp st st'∧Merged a.toList b.toList res.toList) ∨
     ∃ out ia ib mg ac bc,c=(none,out,ia,ib,mg,ac,bc)∧Kp st st'∧MInv a.toList b.toList out.toList ia ib∧ia+1<a.size∧ib<b.size∧x+2≤ia+ib) ?step2 ?fin2 ⟨out,ia,ib,_,ac,bc,rfl,hk2,I2,h8,h9,by omega⟩) ?post2)
   case fin2 =>
    rintro c st' h';exact .inr h'
   case post2 =>
    rintro c st3 (⟨res,out,ia,ib,mg,ac,bc,rfl,hk3,hm⟩ | ⟨out,ia,ib,mg,ac,bc,rfl,hk3,I3,h11,h12,h13⟩)
    ·exact wpS_pure ⟨_,_,_,_,_,rfl,hk3,hm⟩
    ·exact wpS_bind (wpS_setG (wpS_pure ⟨_,_,_,_,rfl,hk3.setG _,I3,h11,h12,by omega⟩))
   case step2 =>
    rintro x2 c st3 _ hx2 ⟨out,ia,ib,mg,ac,bc,rfl,hk3,I3,h11,h12,h13⟩;dsimp only;obtain⟨y,ey,ky⟩:=rb.at h12;rw[Nat.zero_add] at ey;have ylast:∀ z,a[a.size-1]? = some z→kn y<kn z:=fun z ez=>h2 z ez y (Array.mem_of_getElem? ey)
    by_cases hmg:mg > 1
    all_goals first | rw[if_pos hmg] | rw[if_neg hmg]
    all_goals
     refine wpS_bind (wpS_setG ?_);refine wpS_bind (wpS_elem ey ?_);refine wpS_bind (wpS_gallop (hk3.setG _).sb ky (ra.suf ia (by omega)) (by omega) fun k hcut=>?_);dsimp only;obtain⟨c1,c2,c3⟩:=hcut;have hlt:ia+k<a.size:=by
      rcases Nat.lt_or_ge (ia+k) a.size with q | q
      ·exact q
      ·obtain⟨z,ez,_⟩:=ra.at (i:=a.size-1) (by omega);rw[Nat.zero_add] at ez;have q1:kn z≤kn y:=c2 (a.size-1-ia) z (by omega) (by rw[show ia+(a.size-1-ia)=a.size-1 by omega];exact ez)
       have:=ylast z ez
       omega
     have hy:∀ v∈a.toList.drop (ia+k),kn y≤kn v:=fun v hv=>by
      obtain⟨u,eu,ku⟩:=ra.at hlt;rw[Nat.zero_add] at eu;have q1:¬ kn u≤kn y:=c3 k u (Nat.le_refl _) (by omega) eu;have q2:=up_head hA (ls eu) v hv;omega
     have I4:=I3.pushAs hA k fun u hu v hv=>by
      obtain⟨j,hj,e⟩:=mem_cut hu;have q1:kn u≤kn y:=c2 j u hj e;exact Int.le_trans q1 (up_head hBu (ls ey) v hv)
     by_cases hk:k > 0
     ·rw[if_pos hk];rw[← ext_cut,← Array.toList_append] at I4;by_cases hl:ia+k+1=a.size
      ·rw[if_pos (by simpa using hl)];exact wpS_pure (.inl ⟨_,_,_,_,_,_,_,rfl,hk3.setG _,la I4 hl⟩)
      ·rw[if_neg (by simpa using hl),if_neg (by simp;omega)];refine lo_mid (c:=x+1) (st₀:=st) ⟨fun res out ia ib mg ac bc st' a1 a2=>.inl ⟨_,_,_,_,_,_,_,rfl,a1,a2⟩,fun out ia ib mg ac bc st' a1 a2 a3 a4 a5=>.inr ⟨_,_,_,_,_,_,rfl,a1,a2,a3,a4,by omega⟩,fun out ia ib mg ac bc st' a1 a2 a3 a4 a5=>⟨_,_,_,_,_,_,rfl,a1,a2,a3,a4,by omega⟩⟩ ra rb h2 (hk3.setG _) I4 (by omega) h12 (by omega) (fun u eu v hv=>by rw[ey] at eu;cases eu;exact hy v hv) _ (fun _ _=>rfl)
     ·rw[if_neg hk];have hk0:k=0:=by omega
      subst hk0;refine lo_mid (c:=x+1) (st₀:=st) ⟨fun res out ia ib mg ac bc st' a1 a2=>.inl ⟨_,_,_,_,_,_,_,rfl,a1,a2⟩,fun out ia ib mg ac bc st' a1 a2 a3 a4 a5=>.inr ⟨_,_,_,_,_,_,rfl,a1,a2,a3,a4,by omega⟩,fun out ia ib mg ac bc st' a1 a2 a3 a4 a5=>⟨_,_,_,_,_,_,rfl,a1,a2,a3,a4,by omega⟩⟩ ra rb h2 (hk3.setG _) I3 h11 h12 (by omega) (fun u eu v hv=>by rw[ey] at eu;cases eu;exact hy v hv) _ (fun _ _=>rfl)
end
end OS
namespace OS
open PySem PyProof.Rows
variable [KO]
structure NInv (A B o:List Keyed) (na nb:Nat):Prop where
 perm:o.Perm (A.drop na++B.drop nb)
 srt:Up o
 lbA:Bel (A.take na) o
 lbB:Bel (B.take nb) o
theorem NInv.swap {A B o:List Keyed}{na nb:Nat} (h:NInv A B o na nb):NInv B A o nb na:=⟨h.perm.trans List.perm_append_comm,h.srt,h.lbB,h.lbA⟩
theorem take_split (A:List Keyed) {i n:Nat} (h:i≤n):A.take n=A.take i++(A.take n).drop i:=by
 have e:=List.take_append_drop i (A.take n);rw[List.take_take,Nat.min_eq_left h] at e;exact e.symm
theorem NInv.pushAs {A B o:List Keyed}{na nb:Nat} (h:NInv A B o na nb) (sA:Up A) {i:Nat} (hi:i≤na) (hb:Bel (B.take nb) ((A.take na).drop i)):NInv A B ((A.take na).drop i++o) i nb:=by
 have e:=take_split A hi;have sd:Up (A.take na):=sA.sublist (List.take_sublist _ _);rw[e] at sd;have sp:=List.pairwise_append.mp sd;refine⟨?_,List.pairwise_append.mpr ⟨sp.2.1,h.srt,fun x hx y hy=>h.lbA x (List.mem_of_mem_drop hx) y hy⟩,fun x hx y hy=>?_,fun x hx y hy=>?_⟩
 ·have e2:A.drop i=(A.take na).drop i++A.drop na:=by
   have e3:A=A.take na++A.drop na:=(List.take_append_drop na A).symm;by_cases hl:na≤A.length
   ·have:i≤(A.take na).length:=by rw[List.length_take];omega
    conv=>lhs;rw[e3]
    rw[List.drop_append_of_le_length this]
   ·rw[List.take_of_length_le (by omega),List.drop_eq_nil_of_le (as:=A) (i:=na) (by omega),List.append_nil]
  rw[e2,List.append_assoc];exact h.perm.append_left _
 ·rcases List.mem_append.mp hy with hy | hy
  ·exact sp.2.2 x hx y hy
  ·exact h.lbA x (by rw[e];exact List.mem_append_left _ hx) y hy
 ·rcases List.mem_append.mp hy with hy | hy
  ·exact hb x hx y hy
  ·exact h.lbB x hx y hy
theorem NInv.pushBs {A B o:List Keyed}{na nb:Nat} (h:NInv A B o na nb) (sB:Up B) {i:Nat} (hi:i≤nb) (hb:Bel (A.take na) ((B.take nb).drop i)):NInv A B ((B.take nb).drop i++o) na i :=
 (h.swap.pushAs sB hi hb).swap
theorem cut_last {A:List Keyed}{n:Nat}{x:Keyed} (e:A[n]? = some x):(A.take (n+1)).drop n=[x]:=by
 rw[List.take_add_one,e];have hn:=(List.getElem?_eq_some_iff.mp e).1;rw[List.drop_append_of_le_length (by rw[List.length_take];omega),List.drop_eq_nil_of_le (by rw[List.length_take];omega)];rfl
theorem NInv.pushA {A B o:List Keyed}{na nb:Nat}{x:Keyed} (h:NInv A B o (na+1) nb) (sA:Up A) (e:A[na]? = some x) (hb:∀ y∈B.take nb,kn y≤kn x):NInv A B (x :: o) na nb:=by
 have:=h.pushAs sA (i:=na) (by omega) (by rw[cut_last e];intro y hy z hz;rw[List.mem_singleton.mp hz];exact hb y hy)
 rwa [cut_last e] at this
theorem NInv.pushB {A B o:List Keyed}{na nb:Nat}{x:Keyed} (h:NInv A B o na (nb+1)) (sB:Up B) (e:B[nb]? = some x) (hb:∀ y∈A.take na,kn y≤kn x):NInv A B (x :: o) na nb :=
 (h.swap.pushA sB e hb).swap
theorem NInv.done {A B o:List Keyed}{na nb:Nat} (h:NInv A B o na nb) (sA:Up A) (sB:Up B) (hb:Bel (A.take na) (B.take nb)):Merged A B (A.take na++B.take nb++o):=by
 refine⟨?_,?_⟩
 ·refine (h.perm.append_left _).trans ?_;have h2:(A.take na++B.take nb++(A.drop na++B.drop nb)).Perm (A.take na++(A.drop na++(B.take nb++B.drop nb))):=by
   rw[List.append_assoc];refine List.Perm.append_left _ ?_;rw[← List.append_assoc,← List.append_assoc];exact List.perm_append_comm.append_right _
  refine h2.trans ?_;rw[List.take_append_drop,← List.append_assoc,List.take_append_drop]
 ·refine List.pairwise_append.mpr ⟨List.pairwise_append.mpr ⟨sA.sublist (List.take_sublist _ _),sB.sublist (List.take_sublist _ _),hb⟩,h.srt,fun x hx y hy=>?_⟩;rcases List.mem_append.mp hx with hx | hx
  ·exact h.lbA x hx y hy
  ·exact h.lbB x hx y hy
theorem NInv.firstB {A B o:List Keyed}{na nb:Nat} (h:NInv A B o na nb) (sA:Up A) (sB:Up B) (hb:Bel (B.take nb) (A.take na)):Merged A B (B.take nb++A.take na++o):=(h.swap.done sB sA hb).swap
theorem up_lastT {A:List Keyed}{n:Nat}{x:Keyed} (sA:Up A) (e:A[n]? = some x):∀ y∈A.take (n+1),kn y≤kn x:=by
 intro y hy;have hn:=List.getElem?_eq_some_iff.mp e;obtain⟨j,hj,ey⟩:=List.getElem_of_mem hy;rw[List.length_take] at hj;have ey':A[j]'(by omega)=y:=by rw[← ey];simp
 by_cases h:j=n
 ·subst h;rw[← ey',hn.2];exact Int.le_refl _
 ·have:=List.pairwise_iff_getElem.mp sA j n (by omega) hn.1 (by omega)
  rw[ey',hn.2] at this;exact this
theorem ext_pre (a:Array Keyed) (n:Nat):(a.extract 0 n).toList=a.toList.take n:=by
 rw[Array.toList_extract,List.extract_eq_take_drop,List.drop_zero,Nat.sub_zero]
theorem ext_mid (a:Array Keyed) {i n:Nat}:(a.extract i n).toList=(a.toList.take n).drop i:=by
 rw[Array.toList_extract,List.extract_eq_take_drop,List.drop_take]
theorem mem_mid {a:Array Keyed}{i n:Nat}{x:Keyed} (h:x∈(a.toList.take n).drop i):∃ j,i≤j∧j<n∧a[j]? = some x:=by
 obtain⟨j,hj,e⟩:=List.getElem_of_mem h;rw[List.length_drop,List.length_take] at hj;refine⟨i+j,by omega,by omega,?_⟩;have e2:((a.toList.take n).drop i)[j]? = some x:=by rw[List.getElem?_eq_getElem (by rw[List.length_drop,List.length_take];exact hj),e]
 rw[List.getElem?_drop,List.getElem?_take_of_lt (by omega)] at e2;simpa using e2
section
variable {prog:Program}{w:World}{A:Around}{E:Value→Shared→Prop}{s:Shared} [KL prog w A s]
noncomputable def mergeHi':Array Keyed→Array Keyed→StateT SortSt Sem (Array Keyed):=sortPriv% PySem.Builtin.mergeHi
set_option maxHeartbeats 4000000 in
theorem mergeHi'_eq (a b:Array Keyed):mergeHi' a b=(do
 rule "list.sort.merge-hi";let total:=a.size+b.size
 let done (out:Array Keyed) (na nb:Nat):=a.extract 0 na++b.extract 0 nb++out.reverse;let firstOfB (out:Array Keyed) (na nb:Nat):=b.extract 0 nb++a.extract 0 na++out.reverse
 let mut na:=a.size-1;let mut nb:=b.size;let mut out:Array Keyed := #[← elem' a na]
 if na == 0 then return done out na nb
 if nb == 1 then return firstOfB out na nb
 let mut minGallop:=gallopOf (← get)
 for _ in [0:total] do
  let mut acount:=0;let mut bcount:=0
  for _ in [0:total] do
   let some aWins ← lt' (← elem' b (nb-1)) (← elem' a (na-1)) | return done out na nb
   if aWins=true then
    na:=na-1;out:=out.push (← elem' a na);acount:=acount+1;bcount:=0
    if na == 0 then return done out na nb
    if acount ≥ minGallop then break
   else
    nb:=nb-1;out:=out.push (← elem' b nb);bcount:=bcount+1;acount:=0
    if nb == 1 then return firstOfB out na nb
    if bcount ≥ minGallop then break
  rule "list.sort.gallop";minGallop:=minGallop+1
  for _ in [0:total] do
   if minGallop > 1 then minGallop:=minGallop-1
   setG minGallop
   let some at_ ← gallop' false (← elem' b (nb-1)) a 0 na (na-1) | return done out na nb
   let k:=na-at_
   acount:=k
   if k > 0 then
    out:=out++(a.extract at_ na).reverse;na:=at_
    if na == 0 then return done out na nb
   nb:=nb-1;out:=out.push (← elem' b nb)
   if nb == 1 then return firstOfB out na nb
   let some at_ ← gallop' true (← elem' a (na-1)) b 0 nb (nb-1) | return done out na nb
   let k:=nb-at_
   bcount:=k
   if k > 0 then
    out:=out++(b.extract at_ nb).reverse;nb:=at_
    if nb == 1 then return firstOfB out na nb
    if nb == 0 then return done out na nb
   na:=na-1;out:=out.push (← elem' a na)
   if na == 0 then return done out na nb
   if acount<7 && bcount<7 then break
  minGallop:=minGallop+1;setG minGallop
 unsupported "internal:list.sort.merge-bound"):=rfl
noncomputable abbrev D7:=Option (Array Keyed) × Nat × Nat × Array Keyed × Nat × Nat × Nat
structure HiR (a b:Array Keyed) (st₀:SortSt) (c:Nat) (R:ForInStep D7→SortSt→Prop):Prop where
 res:∀ res out na nb mg ac bc st',Kp st₀ st'→Merged a.toList b.toList res.toList→R (.done (some res,na,nb,out,mg,ac,bc)) st'
 brk:∀ out na nb mg ac bc st',Kp st₀ st'→NInv a.toList b.toList out.toList.reverse na nb→1≤na→na≤a.size→2≤nb→nb≤b.size→c<a.size-na+(b.size-nb)→R (.done (none,na,nb,out,mg,ac,bc)) st'
 go:∀ out na nb mg ac bc st',Kp st₀ st'→NInv a.toList b.toList out.toList.reverse na nb→1≤na→na≤a.size→2≤nb→nb≤b.size→c<a.size-na+(b.size-nb)→R (.yield (none,na,nb,out,mg,ac,bc)) st'
theorem hi_res0 {a b out:Array Keyed}{na nb:Nat} (ra:Run a 0 a.size) (rb:Run b 0 b.size) (I:NInv a.toList b.toList out.toList.reverse na nb) (hl:na=0):Merged a.toList b.toList (a.extract 0 na++b.extract 0 nb++out.reverse).toList:=by
 rw[Array.toList_append,Array.toList_append,ext_pre,ext_pre,Array.toList_reverse];refine I.done ra.up rb.up ?_;rw[hl];intro x hx;simp at hx
theorem hi_res1 {a b out:Array Keyed}{na nb:Nat} (ra:Run a 0 a.size) (rb:Run b 0 b.size) (h1:∀ x y,b[0]? = some x→a[0]? = some y→kn x<kn y) (I:NInv a.toList b.toList out.toList.reverse na nb) (hl:nb=1):Merged a.toList b.toList (b.extract 0 nb++a.extract 0 na++out.reverse).toList:=by
 rw[Array.toList_append,Array.toList_append,ext_pre,ext_pre,Array.toList_reverse];refine I.firstB ra.up rb.up fun x hx y hy=>?_
 rw[hl] at hx;obtain⟨j,_,hj,ex⟩:=mem_mid (i:=0) (by rw[List.drop_zero];exact hx);have hj0:j=0:=by omega
 subst hj0;obtain⟨i,_,hi,ey⟩:=mem_mid (i:=0) (by rw[List.drop_zero];exact hy);have hi':i<a.size:=by
  rcases Nat.lt_or_ge i a.size with q | q
  ·exact q
  ·rw[Array.getElem?_eq_none q] at ey;cases ey
 obtain⟨a0,ea0,_⟩:=ra.at (i:=0) (by omega);have q1:=ra.rise 0 i a0 y (by omega) hi' ea0 (by rw[Nat.zero_add];exact ey);rw[Nat.zero_add] at ea0;have q2:=h1 x a0 ex ea0;omega
theorem hi_tail {a b:Array Keyed}{st₀ st':SortSt}{c:Nat}{R:ForInStep D7→SortSt→Prop} (G:HiR a b st₀ c R) (ra:Run a 0 a.size) (rb:Run b 0 b.size)
  {out:Array Keyed}{na nb mg k k1:Nat} (hK:Kp st₀ st') (I:NInv a.toList b.toList out.toList.reverse na nb) (hna:1≤na) (hna2:na≤a.size) (hnb:2≤nb) (hnb2:nb≤b.size) (hc:c≤a.size-na+(b.size-nb))
  (hx:∀ x,a[na-1]? = some x→∀ y∈b.toList.take nb,kn y≤kn x) :
  wpS (model prog w) A E s (do
   let x ← elem' a (na-1)
   if (na-1 == 0)=true then pure (ForInStep.done (some (a.extract 0 (na-1)++b.extract 0 nb++(out.push x).reverse),na-1,nb,out.push x,mg,k,k1))
   else if (decide (k<7) && decide (k1<7))=true then pure (ForInStep.done (none,na-1,nb,out.push x,mg,k,k1)) else pure (ForInStep.yield (none,na-1,nb,out.push x,mg,k,k1))) R st':=by
 obtain⟨x,ex,kx⟩:=ra.at (i:=na-1) (by omega);rw[Nat.zero_add] at ex;refine wpS_bind (wpS_elem ex ?_);have I':NInv a.toList b.toList (out.push x).toList.reverse (na-1) nb:=by
  have e:(out.push x).toList.reverse=x :: out.toList.reverse:=by simp
  rw[e];refine NInv.pushA (na:=na-1) ?_ ra.up (ls ex) (hx x ex);rw[show na-1+1=na by omega];exact I
 by_cases hl:na-1=0
 ·rw[if_pos (by simpa using hl)];exact wpS_pure (G.res _ _ _ _ _ _ _ _ hK (hi_res0 ra rb I' hl))
 ·rw[if_neg (by simpa using hl)];split
  ·exact wpS_pure (G.brk _ _ _ _ _ _ _ hK I' (by omega) (by omega) hnb hnb2 (by omega))
  ·exact wpS_pure (G.go _ _ _ _ _ _ _ hK I' (by omega) (by omega) hnb hnb2 (by omega))
theorem hi_mid {a b:Array Keyed}{st₀ st':SortSt}{c:Nat}{R:ForInStep D7→SortSt→Prop} (G:HiR a b st₀ c R) (ra:Run a 0 a.size) (rb:Run b 0 b.size) (h1:∀ x y,b[0]? = some x→a[0]? = some y→kn x<kn y)
  {out:Array Keyed}{na nb mg k bc:Nat} (hK:Kp st₀ st') (I:NInv a.toList b.toList out.toList.reverse na nb) (hna:1≤na) (hna2:na≤a.size) (hnb:2≤nb) (hnb2:nb≤b.size) (hc:c≤a.size-na+(b.size-nb))
  (hx:∀ x,b[nb-1]? = some x→∀ y∈a.toList.take na,kn y≤kn x) (F:Keyed→Option Nat→StateT SortSt Sem (ForInStep D7))
  (hF:∀ y t,F y (some t)=if nb-1-t > 0 then
    if (t == 1)=true then pure (ForInStep.done (some (b.extract 0 t++a.extract 0 na++(out.push y++(b.extract t (nb-1)).reverse).reverse),na,t,out.push y++(b.extract t (nb-1)).reverse,mg,k,nb-1-t))
    else if (t == 0)=true then pure (ForInStep.done (some (a.extract 0 na++b.extract 0 t++(out.push y++(b.extract t (nb-1)).reverse).reverse),na,t,out.push y++(b.extract t (nb-1)).reverse,mg,k,nb-1-t))
    else do
     let x ← elem' a (na-1)
     if (na-1 == 0)=true then pure (ForInStep.done (some (a.extract 0 (na-1)++b.extract 0 t++((out.push y++(b.extract t (nb-1)).reverse).push x).reverse),na-1,t,(out.push y++(b.extract t (nb-1)).reverse).push x,mg,k,nb-1-t))
     else if (decide (k<7) && decide (nb-1-t<7))=true then pure (ForInStep.done (none,na-1,t,(out.push y++(b.extract t (nb-1)).reverse).push x,mg,k,nb-1-t)) else pure (ForInStep.yield (none,na-1,t,(out.push y++(b.extract t (nb-1)).reverse).push x,mg,k,nb-1-t))
   else do
     let x ← elem' a (na-1)
     if (na-1 == 0)=true then pure (ForInStep.done (some (a.extract 0 (na-1)++b.extract 0 (nb-1)++((out.push y).push x).reverse),na-1,nb-1,(out.push y).push x,mg,k,nb-1-t))
     else if (decide (k<7) && decide (nb-1-t<7))=true then pure (ForInStep.done (none,na-1,nb-1,(out.push y).push x,mg,k,nb-1-t)) else pure (ForInStep.yield (none,na-1,nb-1,(out.push y).push x,mg,k,nb-1-t))) :
  wpS (model prog w) A E s (do
   let y ← elem' b (nb-1)
   if (nb-1 == 1)=true then pure (ForInStep.done (some (b.extract 0 (nb-1)++a.extract 0 na++(out.push y).reverse),na,nb-1,out.push y,mg,k,bc))
   else do
    let z ← elem' a (na-1)
    let o ← gallop' true z b 0 (nb-1) (nb-1-1)
    F y o) R st':=by
 obtain⟨y,ey,ky⟩:=rb.at (i:=nb-1) (by omega);rw[Nat.zero_add] at ey;refine wpS_bind (wpS_elem ey ?_);have I':NInv a.toList b.toList (out.push y).toList.reverse na (nb-1):=by
  have e:(out.push y).toList.reverse=y :: out.toList.reverse:=by simp
  rw[e];refine NInv.pushB (nb:=nb-1) ?_ rb.up (ls ey) (hx y ey);rw[show nb-1+1=nb by omega];exact I
 by_cases hl:nb-1=1
 ·rw[if_pos (by simpa using hl)];exact wpS_pure (G.res _ _ _ _ _ _ _ _ hK (hi_res1 ra rb h1 I' hl))
 ·rw[if_neg (by simpa using hl)];obtain⟨z,ez,kz⟩:=ra.at (i:=na-1) (by omega);rw[Nat.zero_add] at ez;refine wpS_bind (wpS_elem ez ?_);refine wpS_bind (wpS_gallop hK.sb kz (rb.pre (nb-1) (by omega)) (by omega) fun t hcut=>?_);rw[hF];obtain⟨c1,c2,c3⟩:=hcut;have ht1:1≤t:=by
   rcases Nat.lt_or_ge 0 t with q | q
   ·exact q
   ·obtain⟨b0,eb0,_⟩:=rb.at (i:=0) (by omega);obtain⟨a0,ea0,_⟩:=ra.at (i:=0) (by omega);have q1:¬ kn b0<kn z:=c3 0 b0 (by omega) (by omega) eb0;have q2:=ra.rise 0 (na-1) a0 z (by omega) (by omega) ea0 (by rw[Nat.zero_add];exact ez);rw[Nat.zero_add] at eb0 ea0;have q3:=h1 b0 a0 eb0 ea0;omega
  have tz:∀ x,a[na-1]? = some x→∀ v∈b.toList.take t,kn v≤kn x:=fun x exx v hv=>by
   rw[ez] at exx;obtain⟨j,_,hj,ev⟩:=mem_mid (i:=0) (by rw[List.drop_zero];exact hv);have q1:kn v<kn z:=c2 j v hj (by rw[Nat.zero_add];exact ev);cases exx;omega
  have I2:=I'.pushBs rb.up (i:=t) (by omega) fun x hx v hv=>by
   obtain⟨j,hj1,hj2,ev⟩:=mem_mid hv;have q1:¬ kn v<kn z:=c3 j v hj1 (by omega) (by rw[Nat.zero_add];exact ev);have q2:=up_lastT ra.up (ls ez) x (by rw[show na-1+1=na by omega];exact hx);omega
  by_cases hk:nb-1-t > 0
  ·rw[if_pos hk];have e:(out.push y++(b.extract t (nb-1)).reverse).toList.reverse=(b.toList.take (nb-1)).drop t++(out.push y).toList.reverse:=by
    rw[Array.toList_append,List.reverse_append,Array.toList_reverse,List.reverse_reverse,ext_mid]
   rw[← e] at I2;by_cases hl2:t=1
   ·rw[if_pos (by simpa using hl2)];exact wpS_pure (G.res _ _ _ _ _ _ _ _ hK (hi_res1 ra rb h1 I2 hl2))
   ·rw[if_neg (by simpa using hl2),if_neg (by simp;omega)];exact hi_tail G ra rb hK I2 hna hna2 (by omega) (by omega) (by omega) tz
  ·rw[if_neg hk];have ht:t=nb-1:=by omega
   rw[ht] at tz ⊢;exact hi_tail G ra rb hK I' hna hna2 (by omega) (by omega) (by omega) tz
set_option maxHeartbeats 4000000 in
theorem wpS_mergeHi {a b:Array Keyed}{st:SortSt}{Q:Array Keyed→SortSt→Prop} (hB:SB st) (ra:Run a 0 a.size) (rb:Run b 0 b.size) (hb:0<b.size) (ha:0<a.size)
  (h1:∀ x y,b[0]? = some x→a[0]? = some y→kn x<kn y) (h2:∀ z,a[a.size-1]? = some z→∀ y∈b,kn y<kn z)
  (h:∀ res st',SB st'→arrOf st'=arrOf st→pendingOf st'=pendingOf st→Merged a.toList b.toList res.toList→Q res st'):wpS (model prog w) A E s (mergeHi' a b) Q st:=by
 rw[mergeHi'_eq];dsimp only;refine wpS_bind (wpS_lift (wpAny_rule ⟨rfl,?_⟩));obtain⟨z,ez,kz⟩:=ra.at (i:=a.size-1) (by omega);rw[Nat.zero_add] at ez;refine wpS_bind (wpS_elem ez ?_);have hA:=ra.up;have hBu:=rb.up;have I0:NInv a.toList b.toList (#[z]:Array Keyed).toList.reverse (a.size-1) b.size:=by
  have e1:a.toList.drop (a.size-1)=[z]:=by
   have:=take_one (ls ez)
   rwa [List.take_of_length_le (by rw[List.length_drop,Array.length_toList];omega)] at this
  have e2:b.toList.drop b.size=[]:=List.drop_eq_nil_of_le (by rw[Array.length_toList];omega);refine⟨by rw[e1,e2];exact List.Perm.refl _,List.pairwise_singleton _ _,fun x hx y hy=>?_,fun x hx y hy=>?_⟩
  ·have hy':y=z:=by simpa using hy
   rw[hy'];refine up_lastT hA (ls ez) x ?_;rw[show a.size-1+1=a.size by omega,List.take_of_length_le (by rw[Array.length_toList];omega)];exact List.mem_of_mem_take hx
  ·have hy':y=z:=by simpa using hy
   rw[hy'];exact Int.le_of_lt (h2 z ez x (by simpa using List.mem_of_mem_take hx))
 have K0:Kp st st:=⟨hB,rfl,rfl⟩;by_cases g1:a.size-1=0
 ·rw[if_pos (by simpa using g1)];exact wpS_pure (h _ st hB rfl rfl (hi_res0 ra rb I0 g1))
 rw[if_neg (by simpa using g1)];by_cases g2:b.size=1
 ·rw[if_pos (by simpa using g2)];exact wpS_pure (h _ st hB rfl rfl (hi_res1 ra rb h1 I0 g2))
 rw[if_neg (by simpa using g2)];refine wpS_bind (wpS_get ?_);refine wpS_bind (wpS_mono (wpS_forRange
  (I:=fun x c st'=>∃ na nb out mg,c=(none,na,nb,out,mg)∧Kp st st'∧NInv a.toList b.toList out.toList.reverse na nb∧1≤na∧na≤a.size∧2≤nb∧nb≤b.size∧x+1≤a.size-na+(b.size-nb))
  (Q:=fun c st'=>∃ res na nb out mg,c=(some res,na,nb,out,mg)∧Kp st st'∧Merged a.toList b.toList res.toList) ?step ?fin ⟨a.size-1,b.size,#[z],_,rfl,K0,I0,by omega,by omega,by omega,by omega,by omega⟩) ?post)
 case fin =>
  rintro c st' ⟨na,nb,out,mg,rfl,_,_,h3,h4,h5,h6,h7⟩;omega
 case post =>
  rintro c st' ⟨res,na,nb,out,mg,rfl,hk,hm⟩;exact wpS_pure (h res st' hk.sb hk.arr hk.pend hm)
 case step =>
  rintro x c st1 _ hxt ⟨na,nb,out,mg,rfl,hk1,I1,h3,h4,h5,h6,h7⟩;dsimp only;refine wpS_bind (wpS_mono (wpS_forRange
   (I:=fun x1 c st'=>∃ na nb out ac bc,c=(none,na,nb,out,ac,bc)∧Kp st st'∧NInv a.toList b.toList out.toList.reverse na nb∧1≤na∧na≤a.size∧2≤nb∧nb≤b.size∧x+1+x1≤a.size-na+(b.size-nb))
   (Q:=fun c st'=>(∃ res na nb out ac bc,c=(some res,na,nb,out,ac,bc)∧Kp st st'∧Merged a.toList b.toList res.toList) ∨
    ∃ na nb out ac bc,c=(none,na,nb,out,ac,bc)∧Kp st st'∧NInv a.toList b.toList out.toList.reverse na nb∧1≤na∧na≤a.size∧2≤nb∧nb≤b.size∧x+2≤a.size-na+(b.size-nb)) ?step1 ?fin1 ⟨na,nb,out,0,0,rfl,hk1,I1,h3,h4,h5,h6,by omega⟩) ?post1)
  case fin1 =>
   rintro c st' ⟨na,nb,out,ac,bc,rfl,g3,g4,g5,g6,g7,g8,g9⟩;exact .inr ⟨na,nb,out,ac,bc,rfl,g3,g4,g5,g6,g7,g8,by omega⟩
  case step1 =>
   rintro x1 c st2 _ hx1 ⟨na,nb,out,ac,bc,rfl,hk2,I2,g5,g6,g7,g8,g9⟩;dsimp only;obtain⟨y,ey,ky⟩:=rb.at (i:=nb-1) (by omega);obtain⟨v,ev,kv⟩:=ra.at (i:=na-1) (by omega);rw[Nat.zero_add] at ey ev;refine wpS_bind (wpS_elem ey (wpS_bind (wpS_elem ev (wpS_bind (wpS_lt hk2.sb ky kv ?_)))));have uy:=up_lastT hBu (ls ey);have uv:=up_lastT hA (ls ev);rw[show nb-1+1=nb by omega] at uy;rw[show na-1+1=na by omega] at uv;by_cases hw:kn y<kn v
   ·simp only[hw,decide_true,if_true];refine wpS_bind (wpS_elem ev ?_);have I3:NInv a.toList b.toList (out.push v).toList.reverse (na-1) nb:=by
     have e:(out.push v).toList.reverse=v :: out.toList.reverse:=by simp
     rw[e];refine NInv.pushA (na:=na-1) ?_ hA (ls ev) fun u hu=>by have:=uy u hu;omega
     rw[show na-1+1=na by omega];exact I2
    by_cases hl:na-1=0
    ·rw[if_pos (by simpa using hl)];exact wpS_pure (.inl ⟨_,_,_,_,_,_,rfl,hk2,hi_res0 ra rb I3 hl⟩)
    ·rw[if_neg (by simpa using hl)];split
     ·exact wpS_pure (.inr ⟨_,_,_,_,_,rfl,hk2,I3,by omega,by omega,g7,g8,by omega⟩)
     ·exact wpS_pure ⟨_,_,_,_,_,rfl,hk2,I3,by omega,by omega,g7,g8,by omega⟩
   ·simp only[hw,decide_false,Bool.false_eq_true,if_false];refine wpS_bind (wpS_elem ey ?_);have I3:NInv a.toList b.toList (out.push y).toList.reverse na (nb-1):=by
     have e:(out.push y).toList.reverse=y :: out.toList.reverse:=by simp
     rw[e];refine NInv.pushB (nb:=nb-1) ?_ hBu (ls ey) fun u hu=>by have:=uv u hu;omega
     rw[show nb-1+1=nb by omega];exact I2
    by_cases hl:nb-1=1
    ·rw[if_pos (by simpa using hl)];exact wpS_pure (.inl ⟨_,_,_,_,_,_,rfl,hk2,hi_res1 ra rb h1 I3 hl⟩)
    ·rw[if_neg (by simpa using hl)];split
     ·exact wpS_pure (.inr ⟨_,_,_,_,_,rfl,hk2,I3,by omega,by omega,by omega,by omega,by omega⟩)
     ·exact wpS_pure ⟨_,_,_,_,_,rfl,hk2,I3,by omega,by omega,by omega,by omega,by omega⟩
  case post1 =>
   rintro c st2 (⟨res,na,nb,out,ac,bc,rfl,hk2,hm⟩ | ⟨na,nb,out,ac,bc,rfl,hk2,I2,g5,g6,g7,g8,g9⟩)
   ·exact wpS_pure ⟨_,_,_,_,_,rfl,hk2,hm⟩
   dsimp only;refine wpS_bind (wpS_lift (wpAny_rule ⟨rfl,?_⟩));refine wpS_bind (wpS_mono (wpS_forRange
    (I:=fun x2 c st'=>∃ na nb out mg ac bc,c=(none,na,nb,out,mg,ac,bc)∧Kp st st'∧NInv a.toList b.toList out.toList.reverse na nb∧1≤na∧na≤a.size∧2≤nb∧nb≤b.size∧x+2≤a.size-na+(b.size-nb))
    (Q:=fun c st'=>(∃ res na nb out mg ac bc,c=(some res,na,nb,out,mg,ac,bc)∧Kp st st'∧Merged a.toList b.toList res.toList) ∨
     ∃ na nb out mg ac bc,c=(none,na,nb,out,mg,ac,bc)∧Kp st st'∧NInv a.toList b.toList out.toList.reverse na nb∧1≤na∧na≤a.size∧2≤nb∧nb≤b.size∧x+2≤a.size-na+(b.size-nb)) ?step2 ?fin2 ⟨na,nb,out,_,ac,bc,rfl,hk2,I2,g5,g6,g7,g8,by omega⟩) ?post2)
   case fin2 =>
    rintro c st' h';exact .inr h'
   case post2 =>
    rintro c st3 (⟨res,na,nb,out,mg,ac,bc,rfl,hk3,hm⟩ | ⟨na,nb,out,mg,ac,bc,rfl,hk3,I3,p5,p6,p7,p8,p9⟩)
    ·exact wpS_pure ⟨_,_,_,_,_,rfl,hk3,hm⟩
    ·exact wpS_bind (wpS_setG (wpS_pure ⟨_,_,_,_,rfl,hk3.setG _,I3,p5,p6,p7,p8,by omega⟩))
   case step2 =>
    rintro x2 c st3 _ hx2 ⟨na,nb,out,mg,ac,bc,rfl,hk3,I3,p5,p6,p7,p8,p9⟩;dsimp only;obtain⟨y,ey,ky⟩:=rb.at (i:=nb-1) (by omega);rw[Nat.zero_add] at ey;have uy:=up_lastT hBu (ls ey);rw[show nb-1+1=nb by omega] at uy;by_cases hmg:mg > 1
    all_goals first | rw[if_pos hmg] | rw[if_neg hmg]
    all_goals
     refine wpS_bind (wpS_setG ?_);refine wpS_bind (wpS_elem ey ?_);refine wpS_bind (wpS_gallop (hk3.setG _).sb ky (ra.pre na p6) (by omega) fun t hcut=>?_);dsimp only;obtain⟨c1,c2,c3⟩:=hcut;have ty:∀ u,b[nb-1]? = some u→∀ v∈a.toList.take t,kn v≤kn u:=fun u eu v hv=>by
      rw[ey] at eu;obtain⟨j,_,hj,ev⟩:=mem_mid (i:=0) (by rw[List.drop_zero];exact hv);have q1:kn v≤kn y:=c2 j v hj (by rw[Nat.zero_add];exact ev);cases eu;exact q1
     have I4:=I3.pushAs hA (i:=t) c1 fun u hu v hv=>by
      obtain⟨j,hj1,hj2,ev⟩:=mem_mid hv;have q1:¬ kn v≤kn y:=c3 j v hj1 hj2 (by rw[Nat.zero_add];exact ev);have q2:=uy u hu;omega
     by_cases hk:na-t > 0
     ·rw[if_pos hk];have e:(out++(a.extract t na).reverse).toList.reverse=(a.toList.take na).drop t++out.toList.reverse:=by
       rw[Array.toList_append,List.reverse_append,Array.toList_reverse,List.reverse_reverse,ext_mid]
      rw[← e] at I4;by_cases hl:t=0
      ·rw[if_pos (by simpa using hl)];exact wpS_pure (.inl ⟨_,_,_,_,_,_,_,rfl,hk3.setG _,hi_res0 ra rb I4 hl⟩)
      ·rw[if_neg (by simpa using hl)];refine hi_mid (c:=x+1) (st₀:=st) ⟨fun res out na nb mg ac bc st' a1 a2=>.inl ⟨_,_,_,_,_,_,_,rfl,a1,a2⟩,fun out na nb mg ac bc st' a1 a2 a3 a4 a5 a6 a7=>.inr ⟨_,_,_,_,_,_,rfl,a1,a2,a3,a4,a5,a6,by omega⟩,fun out na nb mg ac bc st' a1 a2 a3 a4 a5 a6 a7=>⟨_,_,_,_,_,_,rfl,a1,a2,a3,a4,a5,a6,by omega⟩⟩ ra rb h1 (hk3.setG _) I4 (by omega) (by omega) p7 p8 (by omega) ty _ (fun _ _=>rfl)
     ·rw[if_neg hk];have ht:t=na:=by omega
      rw[ht] at ty;refine hi_mid (c:=x+1) (st₀:=st) ⟨fun res out na nb mg ac bc st' a1 a2=>.inl ⟨_,_,_,_,_,_,_,rfl,a1,a2⟩,fun out na nb mg ac bc st' a1 a2 a3 a4 a5 a6 a7=>.inr ⟨_,_,_,_,_,_,rfl,a1,a2,a3,a4,a5,a6,by omega⟩,fun out na nb mg ac bc st' a1 a2 a3 a4 a5 a6 a7=>⟨_,_,_,_,_,_,rfl,a1,a2,a3,a4,a5,a6,by omega⟩⟩ ra rb h1 (hk3.setG _) I3 p5 p6 p7 p8 (by omega) ty _ (fun _ _=>rfl)
end
end OS
namespace OS
open PySem PyProof.Rows
variable [KO]
noncomputable def putAll (xs:Array Keyed) (m:List Keyed) (o:Nat):Array Keyed:=m.zipIdx.foldl (fun a (p,j)=>a.setIfInBounds (o+j) p) xs
theorem putFrom:∀ (m:List Keyed) (n o:Nat) (xs:Array Keyed),o+n+m.length≤xs.size→((m.zipIdx n).foldl (fun a (p,j)=>a.setIfInBounds (o+j) p) xs).toList=xs.toList.take (o+n)++m++xs.toList.drop (o+n+m.length)
 | [],n,o,xs,_=>by
  show xs.toList=_;rw[List.append_nil,List.length_nil,Nat.add_zero,List.take_append_drop]
 | p :: m,n,o,xs,h=>by
  rw[List.length_cons] at h;rw[List.zipIdx_cons,List.foldl_cons];have ih:=putFrom m (n+1) o (xs.setIfInBounds (o+n) p) (by rw[Array.size_setIfInBounds];omega);refine ih.trans ?_;have hl:o+n<xs.toList.length:=by rw[Array.length_toList];omega
  have e1:(xs.setIfInBounds (o+n) p).toList=xs.toList.set (o+n) p:=by simp
  rw[e1,show o+(n+1)=o+n+1 by omega,List.take_add_one,List.getElem?_set_self hl,List.take_set_of_le (by omega),List.drop_set_of_lt (by omega),List.length_cons,show o+n+1+m.length=o+n+(m.length+1) by omega];simp
theorem putAll_list {m:List Keyed}{o:Nat}{xs:Array Keyed} (h:o+m.length≤xs.size):(putAll xs m o).toList=xs.toList.take o++m++xs.toList.drop (o+m.length):=by
 have:=putFrom m 0 o xs (by simpa using h)
 simpa [putAll] using this
theorem Run.rise' {xs:Array Keyed}{b n i j:Nat}{x y:Keyed} (r:Run xs b n) (h1:b≤i) (h2:i≤j) (h3:j<b+n) (ex:xs[i]? = some x) (ey:xs[j]? = some y):kn x≤kn y :=
 r.rise (i-b) (j-b) x y (by omega) (by omega) (by rw[show b+(i-b)=i by omega];exact ex) (by rw[show b+(j-b)=j by omega];exact ey)
theorem run_of {xs:Array Keyed}{b n:Nat} (hs:b+n≤xs.size) (hk:∀ x∈xs,IsK x) (h:∀ i j x y,b≤i→i≤j→j<b+n→xs[i]? = some x→xs[j]? = some y→kn x≤kn y):Run xs b n :=
 ⟨hs,hk,fun i j x y hij hj ex ey=>h (b+i) (b+j) x y (by omega) (by omega) (by omega) ex ey⟩
theorem run_join {xs:Array Keyed}{sa na nb:Nat} (ra:Run xs sa na) (rb:Run xs (sa+na) nb) (hna:1≤na) (hnb:1≤nb) (h:∀ x y,xs[sa+na-1]? = some x→xs[sa+na]? = some y→kn x≤kn y):Run xs sa (na+nb):=by
 have hs:=rb.has;refine run_of (by omega) ra.keys fun i j x y h1 h2 h3 ex ey=>?_
 by_cases hj:j<sa+na
 ·exact ra.rise' h1 h2 hj ex ey
 ·by_cases hi:sa+na≤i
  ·exact rb.rise' hi h2 (by omega) ex ey
  ·obtain⟨z,ez,_⟩:=ra.at (i:=na-1) (by omega);obtain⟨v,ev,_⟩:=rb.at (i:=0) (by omega);rw[Nat.add_zero] at ev;rw[show sa+(na-1)=sa+na-1 by omega] at ez;have q1:=ra.rise' h1 (show i≤sa+na-1 by omega) (by omega) ex ez;have q2:=h z v ez ev;have q3:=rb.rise' (Nat.le_refl _) (show sa+na≤j by omega) (by omega) ev ey;omega
theorem ext_sub (a:Array Keyed) (i j:Nat):(a.extract i j).toList=(a.toList.drop i).take (j-i):=by
 rw[Array.toList_extract,List.extract_eq_take_drop]
theorem run_ext {xs:Array Keyed}{b n i j:Nat} (r:Run xs b n) (h1:b≤i) (h2:i≤j) (h3:j≤b+n):Run (xs.extract i j) 0 (xs.extract i j).size:=by
 have hs:=r.has;have hz:(xs.extract i j).size=j-i:=by rw[Array.size_extract];omega
 have hg:∀ t,t<j-i→(xs.extract i j)[t]? = xs[i+t]? := fun t ht=>by rw[Array.getElem?_extract,if_pos (by omega)]
 refine run_of (by omega) (fun x hx=>?_) fun t u x y a1 a2 a3 ex ey=>?_
 ·obtain⟨t,ht,e⟩:=Array.getElem_of_mem hx;have e2:=hg t (by omega);rw[Array.getElem?_eq_getElem ht,e] at e2;exact r.keys x (Array.mem_of_getElem? e2.symm)
 ·rw[hg t (by omega)] at ex;rw[hg u (by omega)] at ey;exact r.rise' (by omega) (show i+t≤i+u by omega) (by omega) ex ey
theorem merge_seg {xs:Array Keyed}{sa na nb k n2:Nat}{b0 z:Keyed}{M:List Keyed} (ra:Run xs sa na) (rb:Run xs (sa+na) nb) (hk:k<na) (hn:1≤n2) (hn2:n2≤nb) (eb:xs[sa+na]? = some b0) (ez:xs[sa+na-1]? = some z)
  (c1:Cut false b0 xs sa na k) (c2:Cut true z xs (sa+na) nb n2) (hM:Merged (xs.extract (sa+k) (sa+na)).toList (xs.extract (sa+na) (sa+na+n2)).toList M) :
  (putAll xs M (sa+k)).toList.Perm xs.toList∧(∀ j,j<sa∨sa+na+nb≤j→(putAll xs M (sa+k))[j]? = xs[j]?)∧Run (putAll xs M (sa+k)) sa (na+nb):=by
 have hs:=rb.has;rw[ext_sub,ext_sub] at hM;have hxl:xs.toList.length=xs.size:=Array.length_toList;have hml:M.length=na-k+n2:=by
  rw[hM.1.length_eq,List.length_append,List.length_take,List.length_take,List.length_drop,List.length_drop,hxl];omega
 have e:=putAll_list (m:=M) (o:=sa+k) (xs:=xs) (by omega);have emid:xs.toList=xs.toList.take (sa+k)++((xs.toList.drop (sa+k)).take (sa+na-(sa+k))++(xs.toList.drop (sa+na)).take (sa+na+n2-(sa+na)))++xs.toList.drop (sa+k+M.length):=by
  have d1:=drop_split xs.toList (sa+k) (sa+na-(sa+k));have d2:=drop_split xs.toList (sa+na) (sa+na+n2-(sa+na));rw[show sa+k+(sa+na-(sa+k))=sa+na by omega] at d1;rw[show sa+na+(sa+na+n2-(sa+na))=sa+k+M.length by omega] at d2;rw[List.append_assoc,List.append_assoc,← d2,← d1,List.take_append_drop]
 have hperm:(putAll xs M (sa+k)).toList.Perm xs.toList:=by
  rw[e]
  conv=>rhs;rw[emid]
  exact (hM.1.append_left _).append_right _
 have hsz:(putAll xs M (sa+k)).size=xs.size:=by
  have:=hperm.length_eq
  rwa [Array.length_toList,Array.length_toList] at this
 have hlt:(xs.toList.take (sa+k)).length=sa+k:=by rw[List.length_take];omega
 have out:∀ j,j<sa+k∨sa+na+n2≤j→(putAll xs M (sa+k))[j]? = xs[j]? := fun j hj=>by
  rw[← Array.getElem?_toList,← Array.getElem?_toList,e];rcases hj with hj | hj
  ·rw[List.getElem?_append_left (by rw[List.length_append];omega),List.getElem?_append_left (by omega),List.getElem?_take_of_lt (by omega)]
  ·rw[List.getElem?_append_right (by rw[List.length_append];omega),List.getElem?_drop,List.length_append,hlt];congr 1;omega
 have ins:∀ j x,sa+k≤j→j<sa+na+n2→(putAll xs M (sa+k))[j]? = some x→M[j-(sa+k)]? = some x:=fun j x h1 h2 ex=>by
  rw[← Array.getElem?_toList,e,List.getElem?_append_left (by rw[List.length_append];omega),List.getElem?_append_right (by omega),hlt] at ex;exact ex
 have src:∀ x∈M,∃ t,sa+k≤t∧t<sa+na+n2∧xs[t]? = some x:=fun x hx=>by
  rcases List.mem_append.mp (hM.1.mem_iff.mp hx) with q | q
  ·obtain⟨t,ht,et⟩:=mem_cut q;exact⟨_,by omega,by omega,et⟩
  ·obtain⟨t,ht,et⟩:=mem_cut q;exact⟨_,by omega,by omega,et⟩
 refine⟨hperm,fun j hj=>out j (by omega),run_of (by omega) (fun x hx=>ra.keys x ?_) fun i j x y h1 h2 h3 ex ey=>?_⟩
 ·have:=hperm.mem_iff.mp (Array.mem_toList_iff.mpr hx)
  exact Array.mem_toList_iff.mp this
 obtain⟨_,a1,a2⟩:=c1;obtain⟨_,d1,d2⟩:=c2;have lowM:∀ i x y,sa≤i→i<sa+k→xs[i]? = some x→y∈M→kn x≤kn y:=fun i x y g1 g2 ex hy=>by
  obtain⟨t,t1,t2,et⟩:=src y hy;by_cases ht:t<sa+na
  ·exact ra.rise' g1 (by omega) ht ex et
  ·have q1:kn x≤kn b0:=a1 (i-sa) x (by omega) (by rw[show sa+(i-sa)=i by omega];exact ex);have q2:=rb.rise' (Nat.le_refl _) (show sa+na≤t by omega) (by omega) eb et;omega
 have Mhigh:∀ j x y,sa+na+n2≤j→j<sa+na+nb→xs[j]? = some y→x∈M→kn x≤kn y:=fun j x y g1 g2 ey hx=>by
  obtain⟨t,t1,t2,et⟩:=src x hx;by_cases ht:t<sa+na
  ·have q1:¬ kn y<kn z:=d2 (j-(sa+na)) y (by omega) (by omega) (by rw[show sa+na+(j-(sa+na))=j by omega];exact ey);have q2:=ra.rise' (by omega) (show t≤sa+na-1 by omega) (by omega) et ez;omega
  ·exact rb.rise' (by omega) (show t≤j by omega) g2 et ey
 by_cases hi:i<sa+k
 ·rw[out i (.inl hi)] at ex;by_cases hj:j<sa+k
  ·rw[out j (.inl hj)] at ey;exact ra.rise' h1 h2 (by omega) ex ey
  ·by_cases hj2:j<sa+na+n2
   ·exact lowM i x y h1 hi ex (List.mem_of_getElem? (ins j y (by omega) hj2 ey))
   ·rw[out j (.inr (by omega))] at ey;have q1:kn x≤kn b0:=a1 (i-sa) x (by omega) (by rw[show sa+(i-sa)=i by omega];exact ex);have q2:=rb.rise' (Nat.le_refl _) (show sa+na≤j by omega) (by omega) eb ey;omega
 ·by_cases hi2:i<sa+na+n2
  ·have hx:=ins i x (by omega) hi2 ex;by_cases hj2:j<sa+na+n2
   ·have hy:=ins j y (by omega) hj2 ey;by_cases hij:i=j
    ·subst hij;rw[hx] at hy;cases hy;exact Int.le_refl _
    ·obtain⟨l1,e1⟩:=List.getElem?_eq_some_iff.mp hx;obtain⟨l2,e2⟩:=List.getElem?_eq_some_iff.mp hy
     have:=List.pairwise_iff_getElem.mp hM.2 _ _ l1 l2 (by omega)
     rwa [e1,e2] at this
   ·rw[out j (.inr (by omega))] at ey;exact Mhigh j x y (by omega) (by omega) ey (List.mem_of_getElem? hx)
  ·rw[out i (.inr (by omega))] at ex;rw[out j (.inr (by omega))] at ey;exact rb.rise' (by omega) h2 (by omega) ex ey
section
variable {prog:Program}{w:World}{A:Around}{E:Value→Shared→Prop}{s:Shared} [KL prog w A s]
theorem wpS_set {σ:Type}{M:Model}{t st : σ}{Q:PUnit → σ → Prop} (h:Q ⟨⟩ t):wpS M A E s (set t:StateT σ Sem PUnit) Q st:=by
 unfold wpS;rw[StateT.run_set];exact wpAny_pure ⟨rfl,h⟩
set_option maxHeartbeats 4000000 in
theorem mergeAt'_eq (i:Nat):mergeAt' i=(do
 let s ← get
 let (some (sa,na,power),some (sb,nb,_)):=((pendingOf s)[i]?,(pendingOf s)[i+1]?) | unsupported "internal:list.sort.pending"
 set (SortSt.mk' (kindOf s) (arrOf s) (((pendingOf s).setIfInBounds i (sa,na+nb,power)).eraseIdxIfInBounds (i+1)) (gallopOf s) (failedOf s))
 let some k ← gallop' false (← elem' (arrOf s) sb) (arrOf s) sa na 0 | return false
 let (sa,na):=(sa+k,na-k)
 if na == 0 then return true
 let some nb ← gallop' true (← elem' (arrOf s) (sa+na-1)) (arrOf s) sb nb (nb-1) | return false
 if nb == 0 then return true
 let x:=(arrOf s).extract sa sb;let y:=(arrOf s).extract sb (sb+nb)
 let merged ← if na≤nb then mergeLo' x y else mergeHi' x y
 modify fun s=>setArr s (putAll (arrOf s) merged.toList sa)
 return (failedOf (← get)).isNone):=rfl
set_option maxHeartbeats 4000000 in
theorem wpS_mergeAt {st:SortSt}{i sa na sb nb p p':Nat}{pre post:List (Nat × Nat × Nat)}{Q:Bool→SortSt→Prop} (hB:SB st) (hp:(pendingOf st).toList=pre++(sa,na,p) :: (sb,nb,p') :: post) (hi:i=pre.length) (hsb:sb=sa+na)
  (ra:Run (arrOf st) sa na) (rb:Run (arrOf st) sb nb) (hna:1≤na) (hnb:1≤nb)
  (h:∀ st',SB st'→(pendingOf st').toList=pre++(sa,na+nb,p) :: post→(arrOf st').toList.Perm (arrOf st).toList→(∀ j,j<sa∨sb+nb≤j→(arrOf st')[j]? = (arrOf st)[j]?)→Run (arrOf st') sa (na+nb)→Q true st') :
  wpS (model prog w) A E s (mergeAt' i) Q st:=by
 rw[mergeAt'_eq];refine wpS_bind (wpS_get ?_);have g1:(pendingOf st)[i]? = some (sa,na,p):=by rw[← Array.getElem?_toList,hp,hi];simp
 have g2:(pendingOf st)[i+1]? = some (sb,nb,p'):=by rw[← Array.getElem?_toList,hp,hi];simp
 rw[g1,g2];dsimp only;refine wpS_bind (wpS_set ?_);subst hsb;generalize hst1:SortSt.mk' (kindOf st) (arrOf st) (((pendingOf st).setIfInBounds i (sa,na+nb,p)).eraseIdxIfInBounds (i+1)) (gallopOf st) (failedOf st)=st1;have k1:SB st1:=by rw[← hst1];exact⟨hB.kind,hB.failed⟩
 have k2:arrOf st1=arrOf st:=by rw[← hst1]
 have k3:(pendingOf st1).toList=pre++(sa,na+nb,p) :: post:=by
  rw[← hst1];show (((pendingOf st).setIfInBounds i (sa,na+nb,p)).eraseIdxIfInBounds (i+1)).toList=_;rw[Array.toList_eraseIdxIfInBounds,Array.toList_setIfInBounds,hp,hi];rw[List.set_append_right _ _ (Nat.le_refl _),Nat.sub_self,List.set_cons_zero,List.eraseIdx_append_of_length_le (by omega),Nat.add_sub_cancel_left];rfl
 obtain⟨b0,eb,kb⟩:=rb.at (i:=0) (by omega);rw[Nat.add_zero] at eb;obtain⟨z,ez,kz⟩:=ra.at (i:=na-1) (by omega);rw[show sa+(na-1)=sa+na-1 by omega] at ez;refine wpS_bind (wpS_elem eb ?_);refine wpS_bind (wpS_gallop k1 kb ra (by omega) fun k hc1=>?_);dsimp only;have same:Run (arrOf st) sa (na+nb)→Q true st1:=fun hr=>h st1 k1 k3 (by rw[k2]) (fun j _=>by rw[k2]) (by rw[k2];exact hr)
 by_cases hz:na-k=0
 ·rw[if_pos (by simpa using hz)];refine wpS_pure (same (run_join ra rb hna hnb fun x y ex ey=>?_));rw[eb] at ey;cases ey;exact hc1.2.1 (na-1) x (by omega) (by rw[show sa+(na-1)=sa+na-1 by omega];exact ex)
 rw[if_neg (by simpa using hz),show sa+k+(na-k)-1=sa+na-1 by omega];refine wpS_bind (wpS_elem ez ?_);refine wpS_bind (wpS_gallop k1 kz rb (by omega) fun n2 hc2=>?_);dsimp only;by_cases hz2:n2=0
 ·rw[if_pos (by simpa using hz2)];refine wpS_pure (same (run_join ra rb hna hnb fun x y ex ey=>?_));rw[ez] at ex;cases ex;have:¬ kn y<kn z:=hc2.2.2 0 y (by omega) (by omega) (by rw[Nat.add_zero];exact ey);omega
 rw[if_neg (by simpa using hz2)];have hn2:=hc2.1;have hs:=rb.has;have s1:((arrOf st).extract (sa+k) (sa+na)).size=na-k:=by rw[Array.size_extract];omega
 have s2:((arrOf st).extract (sa+na) (sa+na+n2)).size=n2:=by rw[Array.size_extract];omega
 have p1:∀ x y,((arrOf st).extract (sa+na) (sa+na+n2))[0]? = some x→((arrOf st).extract (sa+k) (sa+na))[0]? = some y→kn x<kn y:=fun x y ex ey=>by
  rw[Array.getElem?_extract,if_pos (by omega),Nat.add_zero] at ex ey;rw[eb] at ex;cases ex;have:¬ kn y≤kn b0:=hc1.2.2 k y (Nat.le_refl _) (by omega) ey;omega
 have p2:∀ v,((arrOf st).extract (sa+k) (sa+na))[((arrOf st).extract (sa+k) (sa+na)).size-1]? = some v→∀ y∈(arrOf st).extract (sa+na) (sa+na+n2),kn y<kn v:=fun v ev y hy=>by
  rw[s1,Array.getElem?_extract,if_pos (by omega),show sa+k+(na-k-1)=sa+na-1 by omega,ez] at ev;cases ev;have hy':y∈((arrOf st).extract (sa+na) (sa+na+n2)).toList:=Array.mem_toList_iff.mpr hy;rw[ext_sub,Nat.add_sub_cancel_left] at hy';obtain⟨t,ht,et⟩:=mem_cut hy';exact hc2.2.1 t y ht et
 have fin:∀ (res:Array Keyed) (st2:SortSt),SB st2→arrOf st2=arrOf st1→pendingOf st2=pendingOf st1→Merged ((arrOf st).extract (sa+k) (sa+na)).toList ((arrOf st).extract (sa+na) (sa+na+n2)).toList res.toList →
   wpS (model prog w) A E s (do modify fun s=>setArr s (putAll (arrOf s) res.toList (sa+k));let d ← get;pure (failedOf d).isNone) Q st2:=fun res st2 q1 q2 q3 q4=>by
  refine wpS_bind (wpS_modify (wpS_bind (wpS_get (wpS_pure ?_))));have e:(failedOf (setArr st2 (putAll (arrOf st2) res.toList (sa+k)))).isNone=true:=by
   show (failedOf st2).isNone=true;rw[q1.failed];rfl
  rw[e];obtain⟨m1,m2,m3⟩:=merge_seg ra rb (by omega) (by omega) hn2 eb ez hc1 hc2 q4;have ea:arrOf (setArr st2 (putAll (arrOf st2) res.toList (sa+k)))=putAll (arrOf st) res.toList (sa+k):=by
   show putAll (arrOf st2) res.toList (sa+k)=_;rw[q2,k2]
  exact h _ ⟨q1.kind,q1.failed⟩ (by show (pendingOf st2).toList=_;rw[q3,k3]) (by rw[ea];exact m1) (by rw[ea];exact m2) (by rw[ea];exact m3)
 have r1:=run_ext ra (show sa≤sa+k by omega) (show sa+k≤sa+na by omega) (Nat.le_refl _);have r2:=run_ext rb (Nat.le_refl _) (show sa+na≤sa+na+n2 by omega) (by omega);by_cases hle:na-k≤n2
 ·rw[if_pos hle];exact wpS_bind (wpS_mergeLo k1 r1 r2 (by omega) (by omega) p1 p2 fin)
 ·rw[if_neg hle];exact wpS_bind (wpS_mergeHi k1 r1 r2 (by omega) (by omega) p1 p2 fin)
end
end OS
namespace OS
open PySem PyProof.Rows
variable [KO]
structure SL (a:Array Keyed) (pd:Array (Nat × Nat × Nat)) (lo:Nat) (st:SortSt):Prop where
 sb:SB st
 perm:(arrOf st).Perm a
 same:∀ j,j<lo→(arrOf st)[j]? = a[j]?
 pend:pendingOf st=pd
theorem SL.size {a:Array Keyed}{pd:Array (Nat × Nat × Nat)}{lo:Nat}{st:SortSt} (h:SL a pd lo st):(arrOf st).size=a.size:=h.perm.size_eq
theorem SL.setArr {a:Array Keyed}{pd:Array (Nat × Nat × Nat)}{lo:Nat}{st:SortSt} (h:SL a pd lo st) {xs:Array Keyed} (hp:xs.Perm (arrOf st)) (hs:∀ j,j<lo→xs[j]? = (arrOf st)[j]?):SL a pd lo (setArr st xs) :=
 ⟨⟨h.sb.kind,h.sb.failed⟩,hp.trans h.perm,fun j hj=>(hs j hj).trans (h.same j hj),h.pend⟩
theorem SL.mir {a:Array Keyed}{pd:Array (Nat × Nat × Nat)}{lo:Nat}{st:SortSt} (h:SL a pd lo st) {i j:Nat} (hi:lo≤i) (hj:j≤a.size):SL a pd lo (PyProof.Rows.setArr st (mirror (arrOf st) i j ((j-i) / 2))) :=
 h.setArr (mirror_perm _ _ _ _) fun t ht=>by rw[getElem?_mirror_all (by rw[h.size];exact hj),if_neg (by omega)]
noncomputable def KI (xs:Array Keyed) (i:Nat):Int:=match xs[i]? with
 | some p=>kn p
 | none=>0
theorem KI_congr {xs ys:Array Keyed}{i j:Nat} (h:xs[i]? = ys[j]?):KI xs i=KI ys j:=by unfold KI;rw[h]
theorem KI_kn {xs:Array Keyed}{i:Nat}{x:Keyed} (e:xs[i]? = some x):KI xs i=kn x:=by unfold KI;rw[e]
theorem KI_bubble {xs:Array Keyed}{src d:Nat} (hs:src<xs.size) (hd:d≤src) (k:Nat):KI (bubble xs src d) k=if k=src-d then KI xs src else if src-d<k∧k≤src then KI xs (k-1) else KI xs k:=by
 have e:=getElem?_bubble hs d hd k;split at e
 ·rename_i h1;rw[if_pos h1];exact KI_congr e
 ·rename_i h1;rw[if_neg h1];split at e
  ·rename_i h2;rw[if_pos h2];exact KI_congr e
  ·rename_i h2;rw[if_neg h2];exact KI_congr e
theorem KI_mirror {xs:Array Keyed}{i j:Nat} (hj:j≤xs.size) (k:Nat):KI (mirror xs i j ((j-i) / 2)) k=if i≤k∧k<j then KI xs (i+j-1-k) else KI xs k:=by
 have e:=getElem?_mirror_all (i:=i) hj k;split at e
 ·rename_i h1;rw[if_pos h1];exact KI_congr e
 ·rename_i h1;rw[if_neg h1];exact KI_congr e
theorem KI_mirror_equal {xs:Array Keyed}{i j:Nat} (hj:j≤xs.size) (q:∀ k,i≤k→k<j→KI xs k=KI xs (j-1)) (k:Nat):KI (mirror xs i j ((j-i) / 2)) k=KI xs k:=by
 rw[KI_mirror hj];split
 ·rw[q _ (by omega) (by omega),q k (by omega) (by omega)]
 ·rfl
noncomputable def Asc (xs:Array Keyed) (lo n:Nat):Prop:=∀ i j,i≤j→j<n→KI xs (lo+i)≤KI xs (lo+j)
noncomputable def Dsc (xs:Array Keyed) (lo n:Nat):Prop:=∀ i j,i≤j→j<n→KI xs (lo+j)≤KI xs (lo+i)
noncomputable abbrev C2:=Option (Option Nat) × Nat
noncomputable abbrev C3:=Option (Option Nat) × Nat × Nat
noncomputable def upF (lo:Nat):Nat→C2→StateT SortSt Sem (ForInStep C2):=fun _ c=>ltAt' (lo+c.2) (lo+c.2-1) >>= fun o=>match o with
 | some b=>if b=true then pure (.done (none,c.2)) else pure (.yield (none,c.2+1))
 | none=>pure (.done (some none,c.2))
noncomputable def endG (c:C2):StateT SortSt Sem (Option Nat):=match c.1 with | some r=>pure r | none=>pure (some c.2)
noncomputable def part3 (lo n m:Nat):StateT SortSt Sem (Option Nat):=reverseSlice' lo (lo+n) >>= fun _=>forIn [n:m] ((none,n):C2) (upF lo) >>= endG
noncomputable def dnF (lo:Nat):Nat→C3→StateT SortSt Sem (ForInStep C3):=fun _ c=>ltAt' (lo+c.2.1) (lo+c.2.1-1) >>= fun o=>match o with
 | some b=>if b=true then (if c.2.2 > 0 then reverseSlice' (lo+c.2.1-(c.2.2+1)) (lo+c.2.1) >>= fun _=>pure (.yield (none,c.2.1+1,0)) else pure (.yield (none,c.2.1+1,0)))
  else ltAt' (lo+c.2.1-1) (lo+c.2.1) >>= fun o=>match o with
   | some g=>if g=true then pure (.done (none,c.2.1,c.2.2)) else pure (.yield (none,c.2.1+1,c.2.2+1))
   | none=>pure (.done (some none,c.2.1,c.2.2))
 | none=>pure (.done (some none,c.2.1,c.2.2))
noncomputable def endH (lo m:Nat) (c:C3):StateT SortSt Sem (Option Nat):=match c.1 with
 | some r=>pure r
 | none=>if c.2.2 > 0 then reverseSlice' (lo+c.2.1-(c.2.2+1)) (lo+c.2.1) >>= fun _=>part3 lo c.2.1 m else part3 lo c.2.1 m
noncomputable def part2 (lo n m:Nat):StateT SortSt Sem (Option Nat):=liftM (rule "list.sort.descending-run") >>= fun _=>forIn [n+1:m] ((none,n+1,0):C3) (dnF lo) >>= endH lo m
noncomputable def endR (lo m:Nat) (c:C2):StateT SortSt Sem (Option Nat):=match c.1 with
 | some r=>pure r
 | none=>if (c.2 == m)=true then pure (some c.2) else if c.2 > 1 then ltAt' lo (lo+c.2-1) >>= fun o=>match o with
    | some b=>if b=true then pure (some c.2) else reverseSlice' lo (lo+c.2) >>= fun _=>part2 lo c.2 m
    | none=>pure none
   else part2 lo c.2 m
section
variable {σ:Type} {α β : Type}
theorem bc {m:StateT σ Sem α}{f g : α → StateT σ Sem β} (h:∀ a,f a=g a):(m >>= f)=(m >>= g):=by rw[show f=g from funext h]
theorem fc {γ : Type}{r:Std.Legacy.Range}{c : γ}{F F':Nat → γ → StateT σ Sem (ForInStep γ)}{G G' : γ → StateT σ Sem β} (h:∀ x c,F x c=F' x c) (h':∀ c,G c=G' c):(forIn r c F >>= G)=(forIn r c F' >>= G'):=by
 rw[show F=F' from funext fun x=>funext fun c=>h x c,show G=G' from funext h']
end
set_option maxHeartbeats 4000000 in
theorem run1_eq (lo m:Nat):countRun' lo m=(forIn [1:m] ((none,1):C2) (upF lo) >>= endR lo m):=by
 rw[countRun'_eq];refine fc (fun x c=>?_) (fun c=>?_)
 ·unfold upF;refine bc fun o=>?_
  cases o <;> rfl
 ·obtain⟨r,n⟩:=c;unfold endR;cases r with
  | some r=>rfl
  | none =>
   dsimp only;split
   ·rfl
   ·split
    ·refine bc fun o=>?_
     cases o with
     | none=>rfl
     | some b =>
      dsimp only;split
      ·rfl
      ·refine bc fun _=>?_
       unfold part2;refine bc fun _=>fc (fun x c=>?_) (fun c=>?_)
       ·unfold dnF;refine bc fun o=>?_
        cases o with
        | none=>rfl
        | some b =>
         dsimp only;split
         ·rfl
         ·refine bc fun o=>?_
          cases o <;> rfl
       ·obtain⟨r,k,q⟩:=c;unfold endH;cases r with
        | some r=>rfl
        | none =>
         dsimp only;split
         ·refine bc fun _=>?_
          unfold part3;refine bc fun _=>fc (fun x c=>?_) (fun c=>?_)
          ·unfold upF;refine bc fun o=>?_
           cases o <;> rfl
          ·obtain⟨r,n⟩:=c;cases r <;> rfl
         ·unfold part3;refine bc fun _=>fc (fun x c=>?_) (fun c=>?_)
          ·unfold upF;refine bc fun o=>?_
           cases o <;> rfl
          ·obtain⟨r,n⟩:=c;cases r <;> rfl
    ·unfold part2;refine bc fun _=>fc (fun x c=>?_) (fun c=>?_)
     ·unfold dnF;refine bc fun o=>?_
      cases o with
      | none=>rfl
      | some b =>
       dsimp only;split
       ·rfl
       ·refine bc fun o=>?_
        cases o <;> rfl
     ·obtain⟨r,k,q⟩:=c;unfold endH;cases r with
      | some r=>rfl
      | none =>
       dsimp only;split
       ·refine bc fun _=>?_
        unfold part3;refine bc fun _=>fc (fun x c=>?_) (fun c=>?_)
        ·unfold upF;refine bc fun o=>?_
         cases o <;> rfl
        ·obtain⟨r,n⟩:=c;cases r <;> rfl
       ·unfold part3;refine bc fun _=>fc (fun x c=>?_) (fun c=>?_)
        ·unfold upF;refine bc fun o=>?_
         cases o <;> rfl
        ·obtain⟨r,n⟩:=c;cases r <;> rfl
section
variable {prog:Program}{w:World}{A:Around}{E:Value→Shared→Prop}{s:Shared} [KL prog w A s] {a:Array Keyed}{pd:Array (Nat × Nat × Nat)}{lo:Nat}
theorem SL.at {st:SortSt} (h:SL a pd lo st) (hk:∀ x∈a,IsK x) {i:Nat} (hi:i<a.size):∃ x,(arrOf st)[i]? = some x∧IsK x∧KI (arrOf st) i=kn x:=by
 have hi':i<(arrOf st).size:=by rw[h.size];exact hi
 have hm:(arrOf st)[i]∈a.toList:=(Array.perm_iff_toList_perm.mp h.perm).mem_iff.mp (by simp);have e:=Array.getElem?_eq_getElem hi';exact⟨_,e,hk _ (Array.mem_toList_iff.mp hm),KI_kn e⟩
theorem SL.lt {st:SortSt}{i j:Nat}{Q:Option Bool→SortSt→Prop} (h:SL a pd lo st) (hk:∀ x∈a,IsK x) (hi:i<a.size) (hj:j<a.size) (q:Q (some (decide (KI (arrOf st) i<KI (arrOf st) j))) st):wpS (model prog w) A E s (ltAt' i j) Q st:=by
 obtain⟨x,e1,k1,f1⟩:=h.at hk hi;obtain⟨y,e2,k2,f2⟩:=h.at hk hj;rw[f1,f2] at q;exact wpS_ltA h.sb e1 e2 k1 k2 q
theorem wpS_up {st:SortSt}{b m:Nat}{Q:C2→SortSt→Prop} (hL:SL a pd lo st) (hk:∀ x∈a,IsK x) (hm:lo+m≤a.size) (hb:1≤b) (hbm:b≤m) (hs:Asc (arrOf st) lo b)
  (h:∀ n,b≤n→n≤m→Asc (arrOf st) lo n→(n=m∨KI (arrOf st) (lo+n)<KI (arrOf st) (lo+n-1))→Q (none,n) st):wpS (model prog w) A E s (forIn [b:m] ((none,b):C2) (upF lo)) Q st:=by
 refine wpS_forRange (I:=fun x c st'=>st'=st∧c=(none,x)∧Asc (arrOf st) lo x) ?step ?fin ⟨rfl,rfl,hs⟩
 case fin =>
  rintro c st' ⟨rfl,rfl,hs'⟩;rw[show max b m=m by omega] at hs' ⊢;exact h m hbm (Nat.le_refl _) hs' (.inl rfl)
 case step =>
  rintro x c st' hax hxn ⟨rfl,rfl,hs'⟩;unfold upF;dsimp only;refine wpS_bind (hL.lt hk (by omega) (by omega) ?_);by_cases hless:KI (arrOf st') (lo+x)<KI (arrOf st') (lo+x-1)
  ·simp only[hless,decide_true,if_true];exact wpS_pure (h x hax (by omega) hs' (.inr hless))
  ·simp only[hless,decide_false,Bool.false_eq_true,if_false];refine wpS_pure ⟨rfl,rfl,fun i j hij hj=>?_⟩;by_cases hjx:j<x
   ·exact hs' i j hij hjx
   ·by_cases hi':i=j
    ·rw[hi'];exact Int.le_refl _
    ·have q1:=hs' i (x-1) (by omega) (by omega);rw[show lo+(x-1)=lo+x-1 by omega] at q1;rw[show j=x by omega];omega
theorem wpS_part3 {st:SortSt}{n m:Nat}{Q:Option Nat→SortSt→Prop} (hL:SL a pd lo st) (hk:∀ x∈a,IsK x) (hm:lo+m≤a.size) (hn:1≤n) (hnm:n≤m) (hs:Dsc (arrOf st) lo n)
  (h:∀ k st',SL a pd lo st'→1≤k→k≤m→Asc (arrOf st') lo k→Q (some k) st'):wpS (model prog w) A E s (part3 lo n m) Q st:=by
 unfold part3;have hsz:lo+n≤(arrOf st).size:=by rw[hL.size];omega
 have hL':=hL.mir (Nat.le_refl lo) (show lo+n≤a.size by omega);refine wpS_bind (wpS_reverse (wpS_bind (wpS_up hL' hk hm hn hnm (fun i j hij hj=>?_) fun k k1 k2 k3 _=>wpS_pure (h k _ hL' (by omega) k2 k3))));show KI (mirror (arrOf st) lo (lo+n) ((lo+n-lo) / 2)) (lo+i)≤KI (mirror (arrOf st) lo (lo+n) ((lo+n-lo) / 2)) (lo+j);rw[KI_mirror hsz,KI_mirror hsz,if_pos (by omega),if_pos (by omega),show lo+(lo+n)-1-(lo+i)=lo+(n-1-i) by omega,show lo+(lo+n)-1-(lo+j)=lo+(n-1-j) by omega];exact hs _ _ (by omega) (by omega)
theorem mir_eq {xs:Array Keyed}{n q:Nat} (hs:lo+n≤xs.size) (hq:q+1≤n) (he:∀ i,n-(q+1)≤i→i<n→KI xs (lo+i)=KI xs (lo+n-1)) (k:Nat):KI (mirror xs (lo+n-(q+1)) (lo+n) ((lo+n-(lo+n-(q+1))) / 2)) k=KI xs k :=
 KI_mirror_equal hs (fun k h1 h2=>by have:=he (k-lo) (by omega) (by omega);rwa [show lo+(k-lo)=k by omega] at this) k
theorem wpS_dn {st:SortSt}{n m:Nat}{Q:C3→SortSt→Prop} (hL:SL a pd lo st) (hk:∀ x∈a,IsK x) (hm:lo+m≤a.size) (hn:1≤n) (hnm:n≤m) (hs:Dsc (arrOf st) lo n)
  (h:∀ k q st',SL a pd lo st'→n≤k→k≤m→Dsc (arrOf st') lo k→q+1≤k→(∀ i,k-(q+1)≤i→i<k→KI (arrOf st') (lo+i)=KI (arrOf st') (lo+k-1))→Q (none,k,q) st') :
  wpS (model prog w) A E s (forIn [n:m] ((none,n,0):C3) (dnF lo)) Q st:=by
 refine wpS_forRange (I:=fun x c st'=>∃ q,c=(none,x,q)∧SL a pd lo st'∧Dsc (arrOf st') lo x∧q+1≤x∧(∀ i,x-(q+1)≤i→i<x→KI (arrOf st') (lo+i)=KI (arrOf st') (lo+x-1))) ?step ?fin
  ⟨0,rfl,hL,hs,by omega,fun i h1 h2=>by congr 1;omega⟩
 case fin =>
  rintro c st' ⟨q,rfl,b1,b2,b3,b4⟩;rw[show max n m=m by omega] at b2 b3 b4 ⊢;exact h m q st' b1 hnm (Nat.le_refl _) b2 b3 b4
 case step =>
  rintro x c st' hax hxn ⟨q,rfl,b1,b2,b3,b4⟩;unfold dnF;dsimp only;have hsz:lo+x≤(arrOf st').size:=by rw[b1.size];omega
  refine wpS_bind (b1.lt hk (by omega) (by omega) ?_);by_cases hless:KI (arrOf st') (lo+x)<KI (arrOf st') (lo+x-1)
  ·simp only[hless,decide_true,if_true];have step1:∀ xs:Array Keyed,(∀ k,KI xs k=KI (arrOf st') k)→Dsc xs lo (x+1):=by
    intro xs hxs i j hij hj;rw[hxs,hxs];by_cases hjx:j<x
    ·exact b2 i j hij hjx
    ·by_cases hi':i=j
     ·rw[hi'];exact Int.le_refl _
     ·have q1:=b2 i (x-1) (by omega) (by omega);rw[show lo+(x-1)=lo+x-1 by omega] at q1;rw[show j=x by omega];omega
   by_cases hq:q > 0
   ·rw[if_pos hq];exact wpS_bind (wpS_reverse (wpS_pure ⟨0,rfl,b1.mir (by omega) (by omega),step1 _ (mir_eq hsz b3 b4),by omega,fun i h1 h2=>by congr 1;omega⟩))
   ·rw[if_neg hq];exact wpS_pure ⟨0,rfl,b1,step1 _ (fun _=>rfl),by omega,fun i h1 h2=>by congr 1;omega⟩
  ·simp only[hless,decide_false,Bool.false_eq_true,if_false];refine wpS_bind (b1.lt hk (by omega) (by omega) ?_);by_cases hg:KI (arrOf st') (lo+x-1)<KI (arrOf st') (lo+x)
   ·simp only[hg,decide_true,if_true];exact wpS_pure (h x q st' b1 hax (by omega) b2 b3 b4)
   ·simp only[hg,decide_false,Bool.false_eq_true,if_false];have heq:KI (arrOf st') (lo+x)=KI (arrOf st') (lo+x-1):=by omega
    refine wpS_pure ⟨q+1,rfl,b1,fun i j hij hj=>?_,by omega,fun i h1 h2=>?_⟩
    ·by_cases hjx:j<x
     ·exact b2 i j hij hjx
     ·by_cases hi':i=j
      ·rw[hi'];exact Int.le_refl _
      ·have q1:=b2 i (x-1) (by omega) (by omega);rw[show lo+(x-1)=lo+x-1 by omega] at q1;rw[show j=x by omega];omega
    ·rw[show lo+(x+1)-1=lo+x by omega];by_cases hix:i=x
     ·rw[hix]
     ·rw[heq];exact b4 i (by omega) (by omega)
theorem wpS_part2 {st:SortSt}{n m:Nat}{Q:Option Nat→SortSt→Prop} (hL:SL a pd lo st) (hk:∀ x∈a,IsK x) (hm:lo+m≤a.size) (hnm:n+1≤m) (hs:Dsc (arrOf st) lo (n+1))
  (h:∀ k st',SL a pd lo st'→1≤k→k≤m→Asc (arrOf st') lo k→Q (some k) st'):wpS (model prog w) A E s (part2 lo n m) Q st:=by
 unfold part2;refine wpS_bind (wpS_lift (wpAny_rule ⟨rfl,wpS_bind (wpS_dn hL hk hm (by omega) hnm hs fun k q st' b1 b2 b3 b4 b5 b6=>?_)⟩));unfold endH;dsimp only;have hsz:lo+k≤(arrOf st').size:=by rw[b1.size];omega
 by_cases hq:q > 0
 ·rw[if_pos hq];refine wpS_bind (wpS_reverse (wpS_part3 (b1.mir (by omega) (by omega)) hk hm (by omega) b3 (fun i j hij hj=>?_) h));show KI (mirror (arrOf st') _ _ _) _≤KI (mirror (arrOf st') _ _ _) _;rw[mir_eq hsz b5 b6,mir_eq hsz b5 b6];exact b4 i j hij hj
 ·rw[if_neg hq];exact wpS_part3 b1 hk hm (by omega) b3 b4 h
theorem wpS_run1 {st:SortSt}{m:Nat}{Q:Option Nat→SortSt→Prop} (hL:SL a pd lo st) (hk:∀ x∈a,IsK x) (hm:lo+m≤a.size) (hm1:1≤m)
  (h:∀ k st',SL a pd lo st'→1≤k→k≤m→Asc (arrOf st') lo k→Q (some k) st'):wpS (model prog w) A E s (countRun' lo m) Q st:=by
 rw[run1_eq];refine wpS_bind (wpS_up hL hk hm (Nat.le_refl 1) hm1 (fun i j hij hj=>by rw[show i=j by omega];exact Int.le_refl _) fun n n1 n2 hs hor=>?_);unfold endR;dsimp only;by_cases hnm:n=m
 ·rw[if_pos (by simpa using hnm)];exact wpS_pure (h n st hL n1 n2 hs)
 ·rw[if_neg (by simpa using hnm)];have hlt:=hor.resolve_left hnm;have ext:∀ xs:Array Keyed,(∀ k,KI xs k=KI (arrOf st) k)→(∀ i,i<n→KI (arrOf st) (lo+i)=KI (arrOf st) (lo+n-1))→Dsc xs lo (n+1):=fun xs hxs hall i j hij hj=>by
   rw[hxs,hxs];by_cases hjn:j<n
   ·rw[hall i (by omega),hall j hjn];exact Int.le_refl _
   ·by_cases hi':i=j
    ·rw[hi'];exact Int.le_refl _
    ·rw[hall i (by omega),show j=n by omega];exact Int.le_of_lt hlt
  by_cases hg:n > 1
  ·rw[if_pos hg];refine wpS_bind (hL.lt hk (by omega) (by omega) ?_);by_cases hr:KI (arrOf st) lo<KI (arrOf st) (lo+n-1)
   ·simp only[hr,decide_true,if_true];exact wpS_pure (h n st hL n1 n2 hs)
   ·simp only[hr,decide_false,Bool.false_eq_true,if_false];have hall:∀ i,i<n→KI (arrOf st) (lo+i)=KI (arrOf st) (lo+n-1):=fun i hi=>by
     have q1:=hs 0 i (by omega) hi;have q2:=hs i (n-1) (by omega) (by omega);rw[Nat.add_zero] at q1;rw[show lo+(n-1)=lo+n-1 by omega] at q2;omega
    have hsz:lo+n≤(arrOf st).size:=by rw[hL.size];omega
    have hme:∀ k,KI (mirror (arrOf st) lo (lo+n) ((lo+n-lo) / 2)) k=KI (arrOf st) k:=KI_mirror_equal hsz fun k h1 h2=>by
     have:=hall (k-lo) (by omega)
     rwa [show lo+(k-lo)=k by omega] at this
    exact wpS_bind (wpS_reverse (wpS_part2 (hL.mir (Nat.le_refl lo) (by omega)) hk hm (by omega) (ext _ hme hall) h))
  ·rw[if_neg hg];exact wpS_part2 hL hk hm (by omega) (ext _ (fun _=>rfl) fun i hi=>by rw[show i=0 by omega,show n=1 by omega];rfl) h
theorem wpS_bin {st:SortSt}{n ok:Nat}{Q:Bool→SortSt→Prop} (hL:SL a pd lo st) (hk:∀ x∈a,IsK x) (hn:lo+n≤a.size) (hok:ok≤n) (hs:Asc (arrOf st) lo ok)
  (h:∀ st',SL a pd lo st'→Asc (arrOf st') lo n→Q true st'):wpS (model prog w) A E s (binarySort' lo n ok) Q st:=by
 rw[binarySort'_eq];refine wpS_bind (wpS_mono (wpS_forRange (I:=fun k c st'=>c=(none,())∧SL a pd lo st'∧Asc (arrOf st') lo (min k n)) (Q:=fun c st'=>c=(none,())∧SL a pd lo st'∧Asc (arrOf st') lo n) ?step ?fin ?init) ?post)
 case post =>
  rintro c st' ⟨rfl,b1,b2⟩;exact wpS_pure (h st' b1 b2)
 case init =>
  refine⟨rfl,hL,fun i j hij hj=>?_⟩;by_cases h1:ok=0
  ·rw[show i=j by omega];exact Int.le_refl _
  ·exact hs i j hij (by omega)
 case fin =>
  rintro c st' ⟨hc,b1,b2⟩;rw[show min (max (max ok 1) n) n=n by omega] at b2;exact⟨hc,b1,b2⟩
 case step =>
  rintro k c st' hak hkn ⟨rfl,b1,b2⟩;rw[show min k n=k by omega] at b2;refine wpS_bind (wpS_mono (wpS_forRange (I:=fun x c st''=>st''=st'∧∃ l r,c=(none,l,r)∧l≤r∧r≤k∧r-l≤k-x∧(∀ i,i<l→KI (arrOf st') (lo+i)≤KI (arrOf st') (lo+k))∧(∀ i,r≤i→i<k→KI (arrOf st') (lo+k)<KI (arrOf st') (lo+i)))
   (Q:=fun c st''=>st''=st'∧∃ l r,c=(none,l,r)∧l≤k∧(∀ i,i<l→KI (arrOf st') (lo+i)≤KI (arrOf st') (lo+k))∧(∀ i,l≤i→i<k→KI (arrOf st') (lo+k)<KI (arrOf st') (lo+i))) ?istep ?ifin
   ⟨rfl,0,k,rfl,by omega,by omega,by omega,fun i hi=>by omega,fun i h1 h2=>by omega⟩) ?ipost)
  case ifin =>
   rintro c st'' ⟨rfl,l,r,rfl,d1,d2,d3,d4,d5⟩;obtain rfl:l=r:=by omega
   exact⟨rfl,l,l,rfl,d2,d4,d5⟩
  case istep =>
   rintro x c st'' _ hxk ⟨rfl,l,r,rfl,d1,d2,d3,d4,d5⟩;dsimp only;by_cases hge:l ≥ r
   ·rw[if_pos hge];obtain rfl:l=r:=by omega
    exact wpS_pure ⟨rfl,l,l,rfl,d2,d4,d5⟩
   ·rw[if_neg hge];refine wpS_bind (b1.lt hk (by omega) (by omega) ?_);by_cases hless:KI (arrOf st'') (lo+k)<KI (arrOf st'') (lo+(l+r) / 2)
    ·simp only[hless,decide_true,if_true];exact wpS_pure ⟨rfl,l,(l+r) / 2,rfl,by omega,by omega,by omega,d4,fun i h1 h2=>Int.lt_of_lt_of_le hless (b2 _ _ h1 h2)⟩
    ·simp only[hless,decide_false,Bool.false_eq_true,if_false];exact wpS_pure ⟨rfl,(l+r) / 2+1,r,rfl,by omega,by omega,by omega,fun i h1=>Int.le_trans (b2 i ((l+r) / 2) (by omega) (by omega)) (Int.not_lt.mp hless),d5⟩
  case ipost =>
   rintro c st'' ⟨rfl,l,r,rfl,d1,d4,d5⟩;show wpS _ _ _ _ (do moveDown' (lo+k) (lo+l);pure (ForInStep.yield (none,()))) _ _;rw[moveDown'_eq];have hks:lo+k<(arrOf st'').size:=by rw[b1.size];omega
   refine wpS_bind (wpS_modify (wpS_pure ⟨rfl,b1.setArr (bubble_perm _ _ _) (fun j hj=>?_),?_⟩))
   ·rw[getElem?_bubble hks _ (by omega),if_neg (by omega),if_neg (by omega)]
   rw[show min (k+1) n=k+1 by omega];intro i j hij hj;show KI (bubble (arrOf st'') (lo+k) (lo+k-(lo+l))) (lo+i)≤KI (bubble (arrOf st'') (lo+k) (lo+k-(lo+l))) (lo+j);rw[KI_bubble hks (by omega),KI_bubble hks (by omega),show lo+k-(lo+k-(lo+l))=lo+l by omega];have pr:∀ t,0<t→lo+t-1=lo+(t-1):=fun t ht=>by omega
   by_cases hi1:i=l
   ·rw[if_pos (by omega)];by_cases hj1:j=l
    ·rw[if_pos (by omega)];exact Int.le_refl _
    ·rw[if_neg (by omega),if_pos (by omega),pr j (by omega)];exact Int.le_of_lt (d5 _ (by omega) (by omega))
   ·rw[if_neg (by omega)];by_cases hil:l<i
    ·rw[if_pos (by omega),if_neg (by omega),if_pos (by omega),pr i (by omega),pr j (by omega)];exact b2 _ _ (by omega) (by omega)
    ·rw[if_neg (by omega)];by_cases hj1:j=l
     ·rw[if_pos (by omega)];exact d4 _ (by omega)
     ·rw[if_neg (by omega)];by_cases hjl:l<j
      ·rw[if_pos (by omega),pr j (by omega)];exact b2 _ _ (by omega) (by omega)
      ·rw[if_neg (by omega)];exact b2 _ _ (by omega) (by omega)
end
end OS
namespace OS
open PySem PyProof.Rows
variable [KO]
theorem ite_ix {c:Prop} [Decidable c] {n:Nat} (h:2≤n):(if c then n-2-1 else n-2)+1<n:=by split <;> omega
noncomputable def tl (p:Array (Nat × Nat × Nat)):List (Nat × Nat):=p.toList.map fun t=>(t.1,t.2.1)
noncomputable def Tiles (xs:Array Keyed):Nat→List (Nat × Nat)→Nat→Prop
 | b,[],e=>b=e
 | b,t :: r,e=>t.1=b∧1≤t.2∧Run xs b t.2∧Tiles xs (b+t.2) r e
theorem Tiles.le {xs:Array Keyed}:∀ {l:List (Nat × Nat)}{b e:Nat},Tiles xs b l e→b+l.length≤e
 | [],b,e,h=>by have:b=e:=h;simp;omega
 | t :: r,b,e,h=>by
  have:=Tiles.le h.2.2.2
  have:=h.2.1
  rw[List.length_cons];omega
theorem Tiles.append {xs:Array Keyed}:∀ {l r:List (Nat × Nat)}{b e:Nat},Tiles xs b (l++r) e↔∃ m,Tiles xs b l m∧Tiles xs m r e
 | [],r,b,e=>⟨fun h=>⟨b,rfl,h⟩,fun ⟨m,h1,h2⟩=>by have:b=m:=h1;rw[this];exact h2⟩
 | t :: l,r,b,e=>by
  constructor
  ·intro h;obtain⟨m,h1,h2⟩:=Tiles.append.mp h.2.2.2;exact⟨m,⟨h.1,h.2.1,h.2.2.1,h1⟩,h2⟩
  ·rintro⟨m,h1,h2⟩;exact⟨h1.1,h1.2.1,h1.2.2.1,Tiles.append.mpr ⟨m,h1.2.2.2,h2⟩⟩
theorem Run.keep {xs ys:Array Keyed}{b n:Nat} (r:Run xs b n) (hs:ys.size=xs.size) (hk:∀ x∈ys,IsK x) (h:∀ j,b≤j→j<b+n→ys[j]? = xs[j]?):Run ys b n:=by
 have:=r.has
 refine run_of (by omega) hk fun i j x y h1 h2 h3 ex ey=>?_
 rw[h i h1 (by omega)] at ex;rw[h j (by omega) h3] at ey;exact r.rise' h1 h2 h3 ex ey
theorem Tiles.keep {xs ys:Array Keyed} (hs:ys.size=xs.size) (hk:∀ x∈ys,IsK x):∀ {l:List (Nat × Nat)}{b e:Nat},Tiles xs b l e→(∀ j,b≤j→j<e→ys[j]? = xs[j]?)→Tiles ys b l e
 | [],_,_,h,_=>h
 | t :: r,b,e,h,q=>by
  have:=Tiles.le h.2.2.2
  exact⟨h.1,h.2.1,h.2.2.1.keep hs hk fun j h1 h2=>q j h1 (by omega),Tiles.keep hs hk h.2.2.2 fun j h1 h2=>q j (by omega) h2⟩
section
variable {prog:Program}{w:World}{A:Around}{E:Value→Shared→Prop}{s:Shared} [KL prog w A s] {a₀:Array Keyed}
structure SM (a₀:Array Keyed) (lo:Nat) (st:SortSt):Prop where
 sb:SB st
 perm:(arrOf st).Perm a₀
 tiles:Tiles (arrOf st) 0 (tl (pendingOf st)) lo
theorem SM.size {lo:Nat}{st:SortSt} (h:SM a₀ lo st):(arrOf st).size=a₀.size:=h.perm.size_eq
theorem SM.keys {lo:Nat}{st:SortSt} (h:SM a₀ lo st) (hk:∀ x∈a₀,IsK x):∀ x∈arrOf st,IsK x:=fun x hx=>hk x (h.perm.mem_iff.mp hx)
theorem tl_len (p:Array (Nat × Nat × Nat)):(tl p).length=p.size:=by unfold tl;simp
theorem SM.merge {lo i:Nat}{st:SortSt}{Q:Bool→SortSt→Prop} (h:SM a₀ lo st) (hk:∀ x∈a₀,IsK x) (hlo:lo≤a₀.size) (hi:i+1<(pendingOf st).size)
  (q:∀ st',SM a₀ lo st'→(pendingOf st').size+1=(pendingOf st).size→(∀ j,lo≤j→(arrOf st')[j]? = (arrOf st)[j]?)→Q true st'):wpS (model prog w) A E s (mergeAt' i) Q st:=by
 obtain⟨⟨sa,na,p⟩,e1⟩:∃ t,(pendingOf st)[i]? = some t:=⟨(pendingOf st)[i],by simp⟩;obtain⟨⟨sb,nb,p'⟩,e2⟩:∃ t,(pendingOf st)[i+1]? = some t:=⟨(pendingOf st)[i+1],by simp[hi]⟩;have el:(pendingOf st).toList=(pendingOf st).toList.take i++(sa,na,p) :: (sb,nb,p') :: (pendingOf st).toList.drop (i+2):=by
  have l1:i<(pendingOf st).toList.length:=by rw[Array.length_toList];omega
  have l2:i+1<(pendingOf st).toList.length:=by rw[Array.length_toList];omega
  have f1:(pendingOf st).toList[i]=(sa,na,p):=by
   have:=e1;rw[← Array.getElem?_toList,List.getElem?_eq_getElem l1] at this;exact Option.some.inj this
  have f2:(pendingOf st).toList[i+1]=(sb,nb,p'):=by
   have:=e2;rw[← Array.getElem?_toList,List.getElem?_eq_getElem l2] at this;exact Option.some.inj this
  have:=List.take_append_drop i (pendingOf st).toList
  rw[List.drop_eq_getElem_cons l1,List.drop_eq_getElem_cons l2,f1,f2] at this;exact this.symm
 have hpl:((pendingOf st).toList.take i).length=i:=by rw[List.length_take,Array.length_toList];omega
 generalize (pendingOf st).toList.take i=pre at el hpl;generalize (pendingOf st).toList.drop (i+2)=post at el;have hT:=h.tiles;unfold tl at hT;rw[el,List.map_append,List.map_cons,List.map_cons] at hT;obtain⟨m,t1,t2⟩:=Tiles.append.mp hT;obtain⟨z1,z2,z3,z4,z5,z6,z7⟩:=t2;dsimp only at z1 z2 z3 z4 z5 z6 z7;subst z1;refine wpS_mergeAt h.sb el hpl.symm z4 z3 (by rw[z4];exact z6) z2 z5 fun st' b1 b2 b3 b4 b5=>?_
 have hs':(arrOf st').size=(arrOf st).size:=by have:=b3.length_eq;rwa [Array.length_toList,Array.length_toList] at this
 have hp':(arrOf st').Perm a₀:=(Array.perm_iff_toList_perm.mpr b3).trans h.perm;have hk':∀ x∈arrOf st',IsK x:=fun x hx=>hk x (hp'.mem_iff.mp hx)
 have le1:=Tiles.le t1;have le2:=Tiles.le z7;refine q st' ⟨b1,hp',?_⟩ ?_ fun j hj=>b4 j (.inr (by omega))
 ·unfold tl;rw[b2,List.map_append,List.map_cons];refine Tiles.append.mpr ⟨sa,t1.keep hs' hk' fun j _ h2=>b4 j (.inl h2),rfl,by dsimp only;omega,b5,?_⟩;dsimp only;rw[show sa+(na+nb)=sa+na+nb by omega];exact z7.keep hs' hk' fun j h1 _=>b4 j (.inr (by omega))
 ·have l1:=congrArg List.length el;have l2:=congrArg List.length b2;rw[List.length_append,List.length_cons,List.length_cons,Array.length_toList] at l1;rw[List.length_append,List.length_cons,Array.length_toList] at l2;omega
noncomputable def SortedI (xs:Array Keyed) (k:Nat):Prop:=∀ i j,i≤j→j<k→KI xs i≤KI xs j
theorem run_asc {xs:Array Keyed}{lo n:Nat} (hs:lo+n≤xs.size) (hk:∀ x∈xs,IsK x) (h:Asc xs lo n):Run xs lo n :=
 ⟨hs,hk,fun i j x y hij hj ex ey=>by have:=h i j hij hj;rwa [KI_kn ex,KI_kn ey] at this⟩
theorem tl_push (p:Array (Nat × Nat × Nat)) (t:Nat × Nat × Nat):tl (p.push t)=tl p ++ [(t.1,t.2.1)]:=by unfold tl;simp
theorem tl_mod (p:Array (Nat × Nat × Nat)) (i w:Nat):tl (p.modify i fun x=>(x.fst,x.2.fst,w))=tl p:=by
 unfold tl;rw[Array.toList_modify];generalize p.toList=l;induction l generalizing i with
 | nil=>simp
 | cons t r ih =>
  cases i with
  | zero=>simp
  | succ i=>simpa using ih i
set_option maxHeartbeats 4000000 in
theorem wpS_runs {st:SortSt}{Q:Unit→SortSt→Prop} (hk:∀ x∈a₀,IsK x) (hB:SB st) (ha:(arrOf st).Perm a₀) (hp:pendingOf st = #[]) (h1:1≤a₀.size)
  (h:∀ st',(arrOf st').Perm a₀→failedOf st'=none→SortedI (arrOf st') a₀.size→Q () st'):wpS (model prog w) A E s sortRuns' Q st:=by
 rw[sortRuns'_eq];refine wpS_bind (wpS_get ?_);dsimp only;have hsz:(arrOf st).size=a₀.size:=ha.size_eq;simp only[hsz];generalize minRun' a₀.size a₀.size 0=mr;refine wpS_bind (wpS_mono (wpS_forRange (I:=fun x c st'=>∃ lo,c=(none,lo)∧SM a₀ lo st'∧lo≤a₀.size∧(x≤lo∨lo=a₀.size))
  (Q:=fun c st'=>c=(none,a₀.size)∧SM a₀ a₀.size st') ?step ?fin ⟨0,rfl,⟨hB,ha,by rw[hp];rfl⟩,by omega,by omega⟩) ?post)
 case fin =>
  rintro c st' ⟨lo,rfl,M,h2,h3⟩;have e:lo=a₀.size:=by omega
  rw[e] at M;exact⟨by rw[e],M⟩
 case post =>
  rintro c st1 ⟨rfl,M⟩;dsimp only;refine wpS_bind (wpS_mono (wpS_forRange (I:=fun x c st'=>c=(none,())∧SM a₀ a₀.size st'∧((pendingOf st').size≤1∨(pendingOf st').size+x≤a₀.size))
   (Q:=fun c st'=>c=(none,())∧SM a₀ a₀.size st'∧(pendingOf st').size≤1) ?step3 ?fin3 ⟨rfl,M,.inr ?init3⟩) ?post3)
  case init3 =>
   have:=Tiles.le M.tiles
   rw[tl_len] at this;omega
  case fin3 =>
   rintro c st' ⟨rfl,M',h2⟩;exact⟨rfl,M',by omega⟩
  case step3 =>
   rintro x c st' _ hx ⟨rfl,M',h2⟩;refine wpS_bind (wpS_get ?_)
   try dsimp only
   by_cases hle:(pendingOf st').size≤1
   ·rw[if_pos hle];exact wpS_pure ⟨rfl,M',hle⟩
   ·rw[if_neg hle];refine wpS_bind (M'.merge hk (Nat.le_refl _) (ite_ix (by omega)) fun st4 M4 h4 _=>?_);simp only[Bool.not_true,Bool.false_eq_true,if_false];exact wpS_pure ⟨rfl,M4,by omega⟩
  case post3 =>
   rintro c st' ⟨rfl,M',h2⟩;refine wpS_pure (h st' M'.perm M'.sb.failed ?_);have hT:=M'.tiles;have hlen:=tl_len (pendingOf st');generalize tl (pendingOf st')=l at hT hlen
   match l,hT,hlen with
   | [],hT,_=>have:0=a₀.size:=hT;omega
   | [t],hT,_ =>
    obtain⟨z1,z2,z3,z4⟩:=hT;have z5:0+t.2=a₀.size:=z4;intro i j hij hj;have hi':i<(arrOf st').size:=by rw[M'.size];omega
    have hj':j<(arrOf st').size:=by rw[M'.size];omega
    rw[KI_kn (Array.getElem?_eq_getElem hi'),KI_kn (Array.getElem?_eq_getElem hj')];exact z3.rise' (Nat.zero_le _) hij (by omega) (Array.getElem?_eq_getElem hi') (Array.getElem?_eq_getElem hj')
   | _ :: _ :: _,_,hlen=>rw[List.length_cons,List.length_cons] at hlen;omega
 case step =>
  rintro x c st1 _ hx ⟨lo,rfl,M1,h2,h3⟩;dsimp only;by_cases hge:lo ≥ a₀.size
  ·rw[if_pos hge];have e:lo=a₀.size:=by omega
   rw[e] at M1 ⊢;exact wpS_pure ⟨rfl,M1⟩
  rw[if_neg hge];have fin:∀ n,1≤n→lo+n≤a₀.size→∀ st',SM a₀ lo st'→Run (arrOf st') lo n→∃ l,((none,lo+n):Option Unit × Nat)=(none,l)∧SM a₀ l (setPending st' ((pendingOf st').push (lo,n,0)))∧l≤a₀.size∧(x+1≤l∨l=a₀.size):=fun n hn1 hn2 st' M R =>
   ⟨lo+n,rfl,⟨⟨M.sb.kind,M.sb.failed⟩,M.perm,by
    show Tiles (arrOf st') 0 (tl ((pendingOf st').push (lo,n,0))) (lo+n);rw[tl_push];exact Tiles.append.mpr ⟨lo,M.tiles,rfl,hn1,R,rfl⟩⟩,hn2,by omega⟩
  have hs1:=M1.size;refine wpS_bind (wpS_run1 (a:=arrOf st1) (pd:=pendingOf st1) (lo:=lo) ⟨M1.sb,Array.Perm.refl _,fun _ _=>rfl,rfl⟩ (M1.keys hk) (by omega) (by omega) fun n st2 L2 hn1 hnm As2=>?_);dsimp only;have hn2:lo+n≤a₀.size:=by omega
  by_cases hlt:n<mr
  ·rw[if_pos hlt];refine wpS_bind (wpS_lift (wpAny_rule ⟨rfl,?_⟩));refine wpS_bind (wpS_bin L2 (M1.keys hk) (n:=min (a₀.size-lo) mr) (by omega) (by omega) As2 fun st2 L2 As2=>?_);simp only[Bool.not_true,Bool.false_eq_true,if_false];have hn1:1≤min (a₀.size-lo) mr:=by omega
   have hn2:lo+min (a₀.size-lo) mr≤a₀.size:=by omega
   generalize min (a₀.size-lo) mr=n at As2 hn1 hn2;have M2:SM a₀ lo st2:=⟨L2.sb,L2.perm.trans M1.perm,by
    rw[L2.pend];exact M1.tiles.keep L2.size (fun x hx=>hk x ((L2.perm.trans M1.perm).mem_iff.mp hx)) fun j _ hj=>L2.same j hj⟩
   have R2:Run (arrOf st2) lo n:=run_asc (by rw[M2.size];exact hn2) (M2.keys hk) As2;refine wpS_bind (wpS_get ?_);cases hb:(pendingOf st2).back? with
   | none =>
    exact wpS_bind (wpS_modify (wpS_pure (fin n hn1 hn2 st2 M2 R2)))
   | some t =>
    obtain⟨s1,n1,o1⟩:=t;dsimp only;refine wpS_bind (wpS_mono (wpS_forRange (I:=fun _ c st'=>c=(none,())∧SM a₀ lo st'∧Run (arrOf st') lo n) (Q:=fun c st'=>c=(none,())∧SM a₀ lo st'∧Run (arrOf st') lo n) ?_ (fun _ _ hh=>hh) ⟨rfl,M2,R2⟩) ?_)
    ·rintro x c st3 _ _ ⟨rfl,M3,R3⟩;refine wpS_bind (wpS_get ?_)
     try dsimp only
     by_cases hsz:(pendingOf st3).size > 1
     ·rw[if_pos hsz];obtain⟨⟨u1,u2,u3⟩,eu⟩:∃ t,(pendingOf st3)[(pendingOf st3).size-2]? = some t:=⟨(pendingOf st3)[(pendingOf st3).size-2],by simp⟩;rw[eu];dsimp only;split
      ·exact wpS_pure ⟨rfl,M3,R3⟩
      ·refine wpS_bind (M3.merge hk (by omega) (by omega) fun st4 M4 _ e4=>?_);simp only[Bool.not_true,Bool.false_eq_true,if_false];exact wpS_pure ⟨rfl,M4,R3.keep (by rw[M4.size,M3.size]) (M4.keys hk) fun j h1 _=>e4 j h1⟩
     ·rw[if_neg hsz];exact wpS_pure ⟨rfl,M3,R3⟩
    ·rintro c st3 ⟨rfl,M3,R3⟩;dsimp only;refine wpS_bind (wpS_modify (wpS_bind (wpS_modify (wpS_pure ?_))));exact fin n hn1 hn2 _ ⟨⟨M3.sb.kind,M3.sb.failed⟩,M3.perm,by
      show Tiles (arrOf st3) 0 (tl ((pendingOf st3).modify _ _)) lo;rw[tl_mod];exact M3.tiles⟩ R3
  ·rw[if_neg hlt];have M2:SM a₀ lo st2:=⟨L2.sb,L2.perm.trans M1.perm,by
    rw[L2.pend];exact M1.tiles.keep L2.size (fun x hx=>hk x ((L2.perm.trans M1.perm).mem_iff.mp hx)) fun j _ hj=>L2.same j hj⟩
   have R2:Run (arrOf st2) lo n:=run_asc (by rw[M2.size];exact hn2) (M2.keys hk) As2;refine wpS_bind (wpS_get ?_);cases hb:(pendingOf st2).back? with
   | none =>
    exact wpS_bind (wpS_modify (wpS_pure (fin n hn1 hn2 st2 M2 R2)))
   | some t =>
    obtain⟨s1,n1,o1⟩:=t;dsimp only;refine wpS_bind (wpS_mono (wpS_forRange (I:=fun _ c st'=>c=(none,())∧SM a₀ lo st'∧Run (arrOf st') lo n) (Q:=fun c st'=>c=(none,())∧SM a₀ lo st'∧Run (arrOf st') lo n) ?_ (fun _ _ hh=>hh) ⟨rfl,M2,R2⟩) ?_)
    ·rintro x c st3 _ _ ⟨rfl,M3,R3⟩;refine wpS_bind (wpS_get ?_)
     try dsimp only
     by_cases hsz:(pendingOf st3).size > 1
     ·rw[if_pos hsz];obtain⟨⟨u1,u2,u3⟩,eu⟩:∃ t,(pendingOf st3)[(pendingOf st3).size-2]? = some t:=⟨(pendingOf st3)[(pendingOf st3).size-2],by simp⟩;rw[eu];dsimp only;split
      ·exact wpS_pure ⟨rfl,M3,R3⟩
      ·refine wpS_bind (M3.merge hk (by omega) (by omega) fun st4 M4 _ e4=>?_);simp only[Bool.not_true,Bool.false_eq_true,if_false];exact wpS_pure ⟨rfl,M4,R3.keep (by rw[M4.size,M3.size]) (M4.keys hk) fun j h1 _=>e4 j h1⟩
     ·rw[if_neg hsz];exact wpS_pure ⟨rfl,M3,R3⟩
    ·rintro c st3 ⟨rfl,M3,R3⟩;dsimp only;refine wpS_bind (wpS_modify (wpS_bind (wpS_modify (wpS_pure ?_))));exact fin n hn1 hn2 _ ⟨⟨M3.sb.kind,M3.sb.failed⟩,M3.perm,by
      show Tiles (arrOf st3) 0 (tl ((pendingOf st3).modify _ _)) lo;rw[tl_mod];exact M3.tiles⟩ R3
end
end OS
namespace OS
open PySem PyProof.Rows
noncomputable def intKO:KO:=⟨numOf,fun v=>∃ n t,v = .int n t,oneType'⟩
section
variable {prog:Program}{w:World}{A:Around}{E:Value→Shared→Prop}{s:Shared}
theorem intKL:@KL intKO prog w A s:=@KL.mk intKO _ _ _ _ fun {E Q u v} h1 h2 q=>by
 obtain⟨a,t,rfl⟩:=h1;obtain⟨b,r,rfl⟩:=h2;show wpAny _ _ (keyLt' oneType' _ _) _ _ _;rw[keyLt'_oneType];exact oneLt_int q
set_option maxHeartbeats 4000000 in
theorem sort_any {a:Addr}{vs:List Value}{ns:List Int}{n:Nat}{P:PySem.Fin→Shared→Prop} (ho:s.heap.get? a=some (seqObj "list" vs.toArray n)) (hI:IntsAre vs ns) (hz:vs.length≤sizeLine)
  (h:∀ (out:Array Value) (ns':List Int),IntsAre out.toList ns'→ns'.Perm ns→ns'.Pairwise (· ≤ ·)→P (.done (.ret .none)) { s with heap:=sortedHeap s.heap a vs out }):wpAny (model prog w) A (Builtin.«list.sort» ⟨[.ref a],[]⟩) P E s:=by
 by_cases h64:vs.length<64
 ·exact list_sort_tree ho hI h64 h
 rw[list_sort_plain];have ha:a<s.heap.objs.size:=Heap.lt_size ho;refine wpAny_bind (listItems_at ho rfl (wpAny_bind (listUpdate_at ho rfl ?_ (by rw[List.size_toArray];exact hz) (Nat.zero_le _))));obtain⟨e1,ho1⟩:∃ e1,(s.heap.update a (Obj.mapSeq fun _ => #[])).get? a=some (seqObj "list" #[] e1):=⟨_,get?_update_seq ho (fun _ => #[])⟩;refine wpAny_bind (seqEpoch_at ho1 rfl (wpAny_bind (wpAny_newTuple (wpAny_bind (wpAny_newList (wpAny_holding ?_))))));have ho6:(((s.heap.update a (Obj.mapSeq fun _ => #[])).push (seqObj "tuple" vs.toArray 0)).push (seqObj "list" #[] 0)).get? a=some (seqObj "list" #[] e1):=by
  have l1:a≠((s.heap.update a (Obj.mapSeq fun _ => #[])).push (seqObj "tuple" vs.toArray 0)).objs.size:=by rw[size_push',Heap.size_update];exact Nat.ne_of_lt (Nat.lt_succ_of_lt ha)
  have l2:a≠(s.heap.update a (Obj.mapSeq fun _ => #[])).objs.size:=by rw[Heap.size_update];exact Nat.ne_of_lt ha
  rw[Heap.get?_push_ne _ _ _ l1,Heap.get?_push_ne _ _ _ l2];exact ho1
 show wpAny (model prog w) A _ P E { s with heap:=((s.heap.update a (Obj.mapSeq fun _ => #[])).push (seqObj "tuple" vs.toArray 0)).push (seqObj "list" #[] 0) };dsimp only;have h2:¬ vs.toArray.size<2:=by rw[List.size_toArray];omega
 rw[if_neg h2,if_neg h2];obtain⟨v1,v2,rest,rfl⟩:∃ v1 v2 rest,vs=v1 :: v2 :: rest:=by
  match vs,h64 with
  | [],h=>simp at h
  | [_],h=>simp at h
  | v1 :: v2 :: rest,_=>exact⟨v1,v2,rest,rfl⟩
 rw[keyKind_ints hI]
 letI:=intKO
 haveI:KL prog w A ({ s with heap:=((s.heap.update a (Obj.mapSeq fun _ => #[])).push (seqObj "tuple" (v1 :: v2 :: rest).toArray 0)).push (seqObj "list" #[] 0) }:Shared):=intKL
 have hK:∀ x∈pairsOf (v1 :: v2 :: rest),IsK x:=fun x hx=>hI.intKeys x (Array.mem_toList_iff.mpr hx)
 refine wpAny_bind (wpAny_pure (wpAny_bind (wpAny_mono (wpS_runs (a₀:=pairsOf (v1 :: v2 :: rest)) (st:=SortSt.mk' oneType' ((v1 :: v2 :: rest).toArray.zip (v1 :: v2 :: rest).toArray) #[] 7 none)
  (Q:=fun _ st'=>(arrOf st').Perm (pairsOf (v1 :: v2 :: rest))∧failedOf st'=none∧SortedTo (arrOf st') (pairsOf (v1 :: v2 :: rest)).size) hK ⟨rfl,rfl⟩ (Array.Perm.refl _) rfl (by rw[pairsOf_size];omega) fun st' a1 a2 a3=>⟨a1,a2,a3⟩) ?_ fun _ _ e=>e)))
 rintro⟨⟨⟩,st'⟩ s' ⟨rfl,hp,hf,hs⟩;dsimp only;have hfin:((arrOf st').map (·.2)).size≤sizeLine+1:=by rw[Array.size_map,hp.size_eq,pairsOf_size];omega
 refine wpAny_bind (seqEpoch_at ho6 rfl (wpAny_bind (listUpdate_at ho6 rfl ?_ (Nat.zero_le _) hfin)));rw[hf];simp only[bne_self_eq_false,Bool.false_eq_true,if_false];obtain⟨ns',b1,b2,b3⟩:=sorted_out hI hp hs;exact wpAny_pure (h _ ns' b1 b2 b3)
end
end OS
namespace L2
open PySem PySem.Spec PyProof.Rows
noncomputable def Tups (H:Hp):List Addr→List (Int × Int)→Prop:=Paired fun p t=>H p=some (.tup [.int t.1,.int t.2])
theorem Tups.length {H:Hp}{ps:List Addr}{l:List (Int × Int)} (h:Tups H ps l):ps.length=l.length:=Paired.length h
theorem Tups.keep {H H':Hp}{ps:List Addr}{l:List (Int × Int)} (h:Tups H ps l) (k:∀ b xs,H b=some (.tup xs)→H' b=some (.tup xs)):Tups H' ps l:=Paired.mapP h fun p t e=>k p _ e
theorem Tups.at:∀ {H:Hp}{ps:List Addr}{l:List (Int × Int)}{i:Nat}{t:Int × Int},Tups H ps l→l[i]? = some t→∃ p,ps[i]? = some p∧H p=some (.tup [.int t.1,.int t.2])
 | _,_,_,_,_,.nil,e=>by simp at e
 | _,_,_,0,_,.cons r _,e=>by simp at e;subst e;exact⟨_,rfl,r⟩
 | _,_,_,i+1,t,.cons _ q,e=>by
  obtain⟨p,h1,h2⟩:=Tups.at (i:=i) (t:=t) q (by simpa using e);exact⟨p,by simpa using h1,h2⟩
theorem Tups.at' {H:Hp}{ps:List Addr}{l:List (Int × Int)}{i:Nat}{p:Addr} (h:Tups H ps l) (e:ps[i]? = some p):∃ t,l[i]? = some t∧H p=some (.tup [.int t.1,.int t.2]):=by
 have hi:i<l.length:=by
  have:=(List.getElem?_eq_some_iff.mp e).1
  have:=h.length
  omega
 obtain⟨q,h1,h2⟩:=h.at (i:=i) (t:=l[i]) (by simp[hi]);rw[e] at h1;cases h1;exact⟨l[i],by simp[hi],h2⟩
theorem Tups.append:∀ {H:Hp}{ps qs:List Addr}{l m:List (Int × Int)},Tups H ps l→Tups H qs m→Tups H (ps++qs) (l++m)
 | _,_,_,_,_,.nil,s=>s
 | _,_,_,_,_,.cons r t,s=>.cons r (Tups.append t s)
theorem Tups.snoc {H:Hp}{ps:List Addr}{l:List (Int × Int)}{p:Addr}{t:Int × Int} (h:Tups H ps l) (e:H p=some (.tup [.int t.1,.int t.2])):Tups H (ps ++ [p]) (l ++ [t]):=Tups.append h (.cons e .nil)
noncomputable def TL (K:PySem.W.Frag) (H:Hp) (a:Addr) (l:List (Int × Int)):Prop:=∃ ps:List Addr,SqL K H a (ps.map V.ref)∧Tups H ps l
noncomputable def TLo (H:Hp) (a:Addr) (l:List (Int × Int)):Prop:=∃ ps:List Addr,H a=some (.lst (ps.map V.ref))∧Tups H ps l
theorem TLo.tl {K:PySem.W.Frag}{H:Hp}{a:Addr}{l:List (Int × Int)} (h:TLo H a l):TL K H a l:=let ⟨ps,h1,h2⟩:=h; ⟨ps,.of h1,h2⟩
theorem TLo.keep {H H':Hp}{a:Addr}{l:List (Int × Int)} (h:TLo H a l) (k:Same H H'):TLo H' a l:=let ⟨ps,h1,h2⟩:=h; ⟨ps,k _ _ h1,h2.keep fun b xs e=>k b _ e⟩
theorem Same.upd {p:Addr}{H:Hp}{o:HO} (h:H p=none):Same H (upd H p o):=fun c o' e=>by rw[upd_ne (ne_of_none e h)];exact e
theorem vals_two {a b:Int}{us:List Value} (r:Vals [.int a,.int b] us):∃ t u,us=[Value.int a t,Value.int b u]:=by
 obtain⟨u,w,rfl,⟨t,rfl⟩,⟨t',rfl⟩⟩:=vals2 r;exact⟨t,t',rfl⟩
section
variable {X:Cx}
theorem call_sortedD (hc:X.calm=true):CallR X (.builtin "sorted") (fun xs H Q=>∃ (a:Addr) (kvs:List (Key × V)) (ks:List Int),xs=[.ref a]∧H a=some (.dK kvs)∧kvs.map (·.1)=ks.map Sum.inl ∧
  ∀ (l:Addr) (ks':List Int),H l=none→ks'.Perm ks→ks'.Pairwise (· ≤ ·)→Q (.ref l) (upd H l (.lst (ks'.map V.int)))):=by
 intro pins s σ H xs us Q I r h;obtain⟨a,kvs,ks,rfl,hH,hks,q⟩:=h;obtain⟨u,rfl,ru⟩:=vals1 r;cases (show u=Value.ref a from ru);obtain⟨z,hd,vs,rel,dd⟩:=dk_of I.hok hH;obtain⟨ep,hat⟩:=dd.dictAt;have hlen:vs.length=ks.length:=by
  have e1:=rel.length;have e2:=congrArg List.length hks;rw[List.length_map,List.length_map] at e2;omega
 refine Calls.call_function_entry kind_sorted plain_sorted entry_sorted (args_sorted1 _) ?_;unfold Builtin.«sorted»;refine wpAny_bind (m:=checkCount "sorted" 1 1 _) (wpAny_pure ?_);refine wpAny_bind (PySem.W.kdu_collect (A:=X.A.in1) (PySem.W.kdl_dict (knd:=mixKind X.prog X.w) (kvs:=vs) (ep:=ep) hd) (I.ok.hd hc) hat (by rw[← rel.length];exact z) fun h' tk acc hk hacc=>?_);have hal:acc.toList.length=vs.length:=by rw[Array.length_toList];exact hacc.1
 have hkeys:vs.map (·.1)=ks.map Sum.inl:=rel.keys.symm.trans hks;have hI:IntsAre acc.toList ks:=by
  refine intsAre_of ?_;have hall:∀ (j:Nat) (v:Value),acc.toList[j]? = some v→∃ k,ks[j]? = some k∧∃ t,v=Value.int k t:=fun j v e=>by
   obtain⟨k,x,hx,hik⟩:=hacc.2 j v (by rw[← Array.getElem?_toList];exact e);have e1:(vs.map (·.1))[j]? = some k:=by rw[List.getElem?_map,hx];rfl
   rw[hkeys,List.getElem?_map] at e1;cases e2:ks[j]? with
   | none=>rw[e2] at e1;cases e1
   | some k' =>
    rw[e2] at e1;have e3:Sum.inl k'=k:=Option.some.inj e1;subst e3;exact⟨k',rfl,Value.isInt_shape hik⟩
  have go:∀ (zs:List Value) (ns:List Int),zs.length=ns.length→(∀ (j:Nat) (v:Value),zs[j]? = some v→∃ k,ns[j]? = some k∧∃ t,v=Value.int k t)→Vals (ns.map V.int) zs:=by
   intro zs;induction zs with
   | nil=>intro ns hl _;cases ns with
    | nil=>exact .nil
    | cons _ _=>simp at hl
   | cons v r ih=>intro ns hl hv;cases ns with
    | nil=>simp at hl
    | cons n ns =>
     obtain⟨k,e1,e2⟩:=hv 0 v rfl;have e3:n=k:=by simpa using e1
     subst e3;exact .cons e2 (ih ns (by simpa using hl) fun j w e=>by simpa using hv (j+1) w (by simpa using e))
  exact go acc.toList ks (by omega) hall
 refine wpAny_bind (wpAny_newList ?_ (by rw[hal,← rel.length];exact z));have hoL:(h'.push (seqObj "list" acc.toList.toArray 0)).get? h'.objs.size=some (seqObj "list" acc.toList.toArray 0):=Heap.get?_push_size _ rfl;show wpAny _ _ _ _ _ { s with heap:=h'.push (seqObj "list" acc.toList.toArray 0),toks:=tk };refine wpAny_bind (wpAny_holding (wpAny_call_entry slot_list_sort ⟨_,hoL,rfl⟩ entry_list_sort (OS.sort_any hoL hI (by rw[hal,← rel.length];exact z) fun out ns' a1 a2 a3=>⟨_,rfl,?_⟩) (args_list_sort _)));have nD:s.heap.get? h'.objs.size=none:=by
  cases e:s.heap.get? h'.objs.size with
  | none=>rfl
  | some o=>exact absurd (Heap.lt_size (hk _ _ e)) (Nat.lt_irrefl _)
 have keep:∀ b o,s.heap.get? b=some o→(sortedHeap (h'.push (seqObj "list" acc.toList.toArray 0)) h'.objs.size acc.toList out).get? b=some o:=fun b o e=>by
  have hlt:=Heap.lt_size (hk _ _ e);rw[sortedHeap_old (Nat.ne_of_lt hlt) (by rw[size_push'];exact Nat.lt_succ_of_lt hlt)];exact Heap.get?_push_of_some _ (hk _ _ e)
 obtain⟨ee,hat'⟩:=sortedHeap_at (out:=out) hoL;have hH0:H h'.objs.size=none:=by
  cases e:H h'.objs.size with
  | none=>rfl
  | some o=>obtain⟨ob,e'⟩:=(I.hok _ _ e).there;rw[nD] at e';cases e'
 have rv:Vals (ns'.map V.int) out.toList:=vals_ints a1;have hnl:ns'.length=ks.length:=a2.length_eq;exact wpAny_pure ⟨_,rfl,⟨.ref h'.objs.size,_,I.laidN (o := .lst (ns'.map V.int)) (t':=tk) keep nD ⟨by rw[List.length_map,hnl,← hlen,← rel.length];exact z,out.toList,ee,rv,by simpa using hat'⟩,rfl,q _ ns' hH0 a2 a3⟩⟩
end
end L2
namespace L2
open PySem PySem.Spec PyProof.Rows
theorem bits_of_weight:∀ (ns:List Int),PySem.W.WData.weightAll (ns.map PySem.W.WData.int)≤2^20→∀ n∈ns,Builtin.Int.intBits n≤2^20
 | [],_,_,h=>by simp at h
 | m :: r,hw,n,hn=>by
  have e:PySem.W.WData.weightAll ((m :: r).map PySem.W.WData.int)=PySem.W.WData.weight (.int m)+1+PySem.W.WData.weightAll (r.map PySem.W.WData.int):=rfl;rw[e] at hw;rcases List.mem_cons.mp hn with z | z
  ·subst z;have e2:PySem.W.WData.weight (.int n)=if n == 0 then 0 else n.natAbs.log2+1:=rfl
   rw[e2] at hw;unfold Builtin.Int.intBits;split at hw <;> split <;> simp_all <;> omega
  ·exact bits_of_weight r (by omega) n z
theorem walk_ofB {l:PySem.W.OpenLaw}{n k:Nat}{q:Program}{loose:List Str}{XP:(Str→Option Value)→Heap→Prop}{YP:World→Heap→Prop}{d:DefRec}{K:Params→PySem.W.Frag}{CX:World→CXT}{sp:World→Sp}{x:Str}
  (hn:l.most=some n) (hn2:n≤sizeLine) (hdf:d.params.defaults=[]) (hr:Room k callerA)
  (hY:∀ (w:World) (h:Heap),YP w h→(K w.params).In h)
  (F:∀ (w:World) (mg:Str→Option Value) (fa:Addr) (h:Heap),(K w.params).In h→h.Ns mainGlobals mg→mg d.name=some (.ref fa) →
   ∃ fd:FuncData,(∀ (s:Shared) (u:Value),BindsTo s fd ⟨[u],[]⟩ [(x,u)]) ∧
    ∀ base:Heap,(K w.params).In base→base.Ns mainGlobals mg→FnOk l.prog w (K w.params) mg base (CX w) k fa fd [x] (sp w))
  (hsp:∀ (w:World) (H:Hp) (a:Addr) (ns:List Int),ns.length≤n→(∀ z∈ns,Builtin.Int.intBits z≤2^20)→Only H→SqL (K w.params) H a (ns.map V.int)→sp w [.ref a] H (fun v _=>v = .bl true) fun _ _ _=>False)
  (hCX:∀ (w:World) (H:Hp) (s:Shared) (e:Value) (s':Shared),CX w [] H s (fun _ _ _=>False) e s'→False) :
  PySem.W.WalkO q loose XP YP l.row.toRowW d [] (fun f vs=>PySem.call f vs):=by
 intro w s₀ s₁ mg mb G Y fa o pm cd doc dV kV ho hd hcd hD hmg hg args vals as hpre hlay hrd hwl hlo;obtain rfl:dV = .none:=PySem.W.Dflts.none hD hdf;obtain rfl:kV = .none:=PySem.W.Dflts.noKw hD;obtain⟨a,vs,ns,rfl,rfl,hobj,hints,hlen⟩:=Att.script_of hn hpre hwl;have hbits:∀ z∈ns,Builtin.Int.intBits z≤2^20:=by
  have h1:(PySem.W.WData.list (ns.map PySem.W.WData.int)).layable=true:=List.all_eq_true.mp hlay _ (by simp);have h2:=of_decide_eq_true (Bool.and_eq_true_iff.mp h1).2;exact bits_of_weight ns h2
 have KX:=hY w _ Y;obtain⟨fd,hb,hF⟩:=F w mg fa _ KX G.T.g hmg;refine PySem.W.enter_call (codeAny_mono (law_call KX G.T.g G.T.b G.T.builtins G.T.nolimit hg hobj hints (Nat.le_trans hlen hn2) hr hF hb (fun H hO hS=>hsp w H a ns hlen hbits hO hS) fun H e s'=>hCX w H s₁ e s') fun r s' hq=>?_);obtain⟨rfl,h2,h3,h4⟩:=hq;exact⟨.inl ⟨.bool true,.bool true,[],rfl,fun _=>rfl,.bool true,Att.post_true l _,fun _=>⟨List.Pairwise.nil,fun _ hm=>(nomatch hm)⟩⟩,h2,h3,h4⟩
noncomputable def encP (p:Int × Int):Key × V:=(Sum.inl p.1,V.int p.2)
theorem valV_enc (k:Int):∀ d:OF.Terms,valV (d.map encP) (Sum.inl k)=(OF.look d k).map V.int
 | []=>rfl
 | p :: r=>by
  rw[List.map_cons,OF.look];by_cases e:p.1=k
  ·rw[valV_pos (show (encP p).1=Sum.inl k by simp[encP,e]),if_pos e];rfl
  ·rw[valV_neg (show ¬ (encP p).1=Sum.inl k by simp[encP,e]),if_neg e];exact valV_enc k r
theorem putK_enc (d:OF.Terms) (k v:Int):putK (d.map encP) (Sum.inl k:Key) (V.int v)=(OF.putI d k v).map encP:=by
 unfold putK OF.putI;rw[valV_any,valV_enc,OF.look_any,Option.isSome_map];split
 ·rw[List.map_map,List.map_map];congr 1
  funext p
  simp only[Function.comp,encP];by_cases e:p.1=k
  ·simp[e]
  ·simp[e]
 ·rw[List.map_append];rfl
theorem keys_enc (d:OF.Terms):(d.map encP).map (·.1)=(d.map (·.1)).map Sum.inl:=by
 rw[List.map_map,List.map_map];rfl
end L2
namespace OF
open PySem
theorem bitOr_pp {x y:Int} (hx:0≤x) (hy:0≤y):Builtin.bitOr x y=((x.toNat ||| y.toNat:Nat):Int):=by
 have n1:¬ 0≤Builtin.bitNot x:=by unfold Builtin.bitNot;omega
 have n2:¬ 0≤Builtin.bitNot y:=by unfold Builtin.bitNot;omega
 have e:∀ z:Int,Builtin.bitNot (Builtin.bitNot z)=z:=fun z=>by unfold Builtin.bitNot;omega
 unfold Builtin.bitOr;rw[PyProof.Rows.bitAnd_nn n1 n2,e,e,e]
theorem add_pow_of_nobit {z i:Nat} (h:z / 2^i % 2=0):z+2^i=z ||| 2^i:=by
 have hb:z % 2^i<2^i:=Nat.mod_lt _ (Nat.two_pow_pos i);have hz:z=2^(i+1) * (z / 2^(i+1))+z % 2^i:=by
  have h1:=Nat.div_add_mod z (2^(i+1));have h2:z % 2^(i+1)=z % 2^i+2^i * (z / 2^i % 2):=Nat.mod_pow_succ;rw[h,Nat.mul_zero,Nat.add_zero] at h2;omega
 generalize z / 2^(i+1)=a at hz;generalize z % 2^i=b at hz hb;have hp:2^i+b<2^(i+1):=by rw[Nat.pow_succ];omega
 have hb':b<2^(i+1):=by omega
 have e1:z+2^i=2^(i+1) * a+(2^i+b):=by omega
 have e2:2^i+b=2^i ||| b:=by
  have:=Nat.two_pow_add_eq_or_of_lt hb 1
  rw[Nat.mul_one] at this;exact this
 rw[e1,hz,Nat.two_pow_add_eq_or_of_lt hp,Nat.two_pow_add_eq_or_of_lt hb',e2,Nat.or_assoc,Nat.or_comm b]
noncomputable def orAll:List (Int × Int)→Nat→Nat
 | [],a=>a
 | t :: r,a=>orAll r (a ||| t.1.toNat)
theorem orAll_snoc:∀ (l:List (Int × Int)) (t:Int × Int) (a:Nat),orAll (l ++ [t]) a=orAll l a ||| t.1.toNat
 | [],_,_=>rfl
 | p :: r,t,a=>orAll_snoc r t _
noncomputable def worthL (l:List (Int × Int)) (g:Int):Int:=((l.filter fun t=>decide (Builtin.bitAnd t.1 g=t.1)).map (·.2)).sum
end OF
namespace L2
open PySem PySem.Spec PyProof.Rows
theorem kit_same {K:PySem.W.Frag}{t:Value}:PySem.W.kitOne K t t=some true:=by
 unfold PySem.W.kitOne;rw[beq_self_eq_true];rfl
theorem iteN {c A B:Prop} [Decidable c] (h:¬ c) (b:B):if c then A else B:=by rw[if_neg h];exact b
theorem iteY {c A B:Prop} [Decidable c] (h:c) (a:A):if c then A else B:=by rw[if_pos h];exact a
theorem CompSc.of {X:Cx}{scope:Scope}{N':List Str}{nT:Nat}{js:List Nat} (sc₀:Scope) (N₀:List Str) (h1:X.env.scope=sc₀) (h2:X.N=N₀) (hk:scope.kind = .function)
  (hall:(scope.names.all fun y=>y.2 != .cell && (y.2 != .local || scope.names.lookup y.1 == some .local) && (y.2 != .free || sc₀.names.lookup y.1 == some .cell))=true)
  (hlen:N'.length=nT+js.length) (hf:(js.map fun j=>N₀[j]?)=(N'.drop nT).map some) (hv:((N'.drop nT).all fun x=>scope.names.lookup x == some .free)=true):CompSc X scope N' nT js:=by
 have hall':=List.all_eq_true.mp hall;refine⟨hk,fun y hy e=>?_,fun y hy e=>?_,hlen,fun k j x e1 e2=>?_,fun y hy e=>?_,fun x hx=>?_⟩
 ·have:=hall' y hy;rw[e] at this;simp at this
 ·have:=hall' y hy;rw[e] at this;simp at this;exact this
 ·have e3:(js.map fun j=>N₀[j]?)[k]? = some (N₀[j]?):=by rw[List.getElem?_map,e1];rfl
  rw[hf,List.getElem?_map,List.getElem?_drop,e2] at e3;rw[h2];exact (Option.some.inj e3).symm
 ·have:=hall' y hy;rw[e] at this;simp at this;rw[h1];exact this
 ·have:=List.all_eq_true.mp hv x hx;simpa using this
end L2
namespace OF
theorem nodup_sub_len:∀ {l B:List Int},l.Nodup→(∀ x∈l,x∈B)→l.length≤B.length
 | [],_,_,_=>Nat.zero_le _
 | a :: r,B,hn,hs=>by
  have h1:=List.nodup_cons.mp hn;have ha:=hs a (by simp);have h2:r.length≤(B.erase a).length:=nodup_sub_len h1.2 fun x hx=>by
   have hne:x≠a:=fun z=>h1.1 (z ▸ hx)
   exact (List.mem_erase_of_ne hne).mpr (hs x (by simp[hx]))
  have h3:=List.length_erase_of_mem ha;have h4:0<B.length:=List.length_pos_of_mem ha;rw[List.length_cons];omega
end OF
namespace L2
open PySem PySem.Spec PyProof.Rows
inductive D where
 | non | bl (b:Bool) | int (n:Int) | str (x:Str) | tup (ds:List D) | lst (ds:List D)
mutual
noncomputable def Is (H:Hp):V→D→Prop
 | v,.non=>v = .non
 | v,.bl b=>v = .bl b
 | v,.int n=>v = .int n
 | v,.str x=>v = .str x
 | v,.tup ds=>∃ a xs,v = .ref a∧H a=some (.tup xs)∧IsDs H xs ds
 | v,.lst ds=>∃ a xs,v = .ref a∧H a=some (.lst xs)∧IsDs H xs ds
noncomputable def IsDs (H:Hp):List V→List D→Prop
 | xs,[]=>xs=[]
 | xs,d :: ds=>∃ x r,xs=x :: r∧Is H x d∧IsDs H r ds
end
mutual
theorem Is.keep {H H':Hp} (k:Same H H'):∀ {v:V}{d:D},Is H v d→Is H' v d
 | v,.non,h=>by unfold Is at *;exact h
 | v,.bl _,h=>by unfold Is at *;exact h
 | v,.int _,h=>by unfold Is at *;exact h
 | v,.str _,h=>by unfold Is at *;exact h
 | v,.tup ds,h=>by
  unfold Is at *;obtain⟨a,xs,e,h1,h2⟩:=h;exact⟨a,xs,e,k _ _ h1,IsDs.keep k h2⟩
 | v,.lst ds,h=>by
  unfold Is at *;obtain⟨a,xs,e,h1,h2⟩:=h;exact⟨a,xs,e,k _ _ h1,IsDs.keep k h2⟩
theorem IsDs.keep {H H':Hp} (k:Same H H'):∀ {xs:List V}{ds:List D},IsDs H xs ds→IsDs H' xs ds
 | xs,[],h=>by unfold IsDs at *;exact h
 | xs,d :: ds,h=>by
  unfold IsDs at *;obtain⟨x,r,e,h1,h2⟩:=h;exact⟨x,r,e,Is.keep k h1,IsDs.keep k h2⟩
end
theorem IsDs.length {H:Hp}:∀ {xs:List V}{ds:List D},IsDs H xs ds→xs.length=ds.length
 | xs,[],h=>by unfold IsDs at h;rw[h];rfl
 | xs,d :: ds,h=>by
  unfold IsDs at h;obtain⟨x,r,rfl,_,h2⟩:=h;rw[List.length_cons,List.length_cons,IsDs.length h2]
theorem IsDs.at {H:Hp}:∀ {xs:List V}{ds:List D}{i:Nat}{d:D},IsDs H xs ds→ds[i]? = some d→∃ x,xs[i]? = some x∧Is H x d
 | xs,[],i,d,h,e=>by simp at e
 | xs,d' :: ds,0,d,h,e=>by
  unfold IsDs at h;obtain⟨x,r,rfl,h1,h2⟩:=h
  have:d'=d:=by simpa using e
  subst this;exact⟨x,rfl,h1⟩
 | xs,d' :: ds,i+1,d,h,e=>by
  unfold IsDs at h;obtain⟨x,r,rfl,h1,h2⟩:=h;obtain⟨x',e1,e2⟩:=IsDs.at (i:=i) (d:=d) h2 (by simpa using e);exact⟨x',by simpa using e1,e2⟩
noncomputable def b2i (b:Bool):Int:=if b then 1 else 0
mutual
noncomputable def deq:D→D→Bool
 | .non,.non=>true
 | .bl a,.bl b=>a == b
 | .bl a,.int n=>b2i a == n
 | .int n,.bl a=>n == b2i a
 | .int n,.int m=>n == m
 | .str x,.str y=>x == y
 | .tup ds,.tup es=>deqL ds es
 | .lst ds,.lst es=>deqL ds es
 | _,_=>false
noncomputable def deqL:List D→List D→Bool
 | [],[]=>true
 | d :: ds,e :: es=>deq d e && deqL ds es
 | _,_=>false
end
mutual
noncomputable def dep:D→Nat
 | .tup ds=>depL ds+1
 | .lst ds=>depL ds+1
 | _=>0
noncomputable def depL:List D→Nat
 | []=>0
 | d :: ds=>max (dep d) (depL ds)
end
theorem depL_mem:∀ {ds:List D}{j:Nat}{d:D},ds[j]? = some d→dep d≤depL ds
 | [],j,d,e=>by simp at e
 | d' :: ds,0,d,e=>by
  have:d'=d:=by simpa using e
  subst this;unfold depL;omega
 | d' :: ds,j+1,d,e=>by
  have:=depL_mem (ds:=ds) (j:=j) (d:=d) (by simpa using e)
  rw[depL];omega
theorem deq_tup (ds es:List D):deq (.tup ds) (.tup es)=deqL ds es:=rfl
theorem deq_lst (ds es:List D):deq (.lst ds) (.lst es)=deqL ds es:=rfl
theorem deqL_cons (d e:D) (ds es:List D):deqL (d :: ds) (e :: es)=(deq d e && deqL ds es):=rfl
noncomputable def eqJ (ds es:List D) (j:Nat):Bool:=match ds[j]?,es[j]? with
 | some d,some e=>deq d e
 | _,_=>false
theorem deqL_all:∀ (ds es:List D),deqL ds es=((List.range (min ds.length es.length)).all (eqJ ds es) && (ds.length == es.length))
 | [],[]=>rfl
 | [],e :: es=>by show false=_;simp
 | d :: ds,[]=>by show false=_;simp
 | d :: ds,e :: es=>by
  have ih:=deqL_all ds es;rw[deqL_cons,ih,List.length_cons,List.length_cons,Nat.add_min_add_right,List.range_succ_eq_map,List.all_cons,List.all_map];have e1:eqJ (d :: ds) (e :: es) 0=deq d e:=rfl;have e2:(eqJ (d :: ds) (e :: es)) ∘ Nat.succ=eqJ ds es:=by funext j;rfl
  rw[e1,e2,Bool.and_assoc];congr 2;simp
theorem deqL_len {ds es:List D} (h:ds.length≠es.length):deqL ds es=false:=by
 rw[deqL_all]
 have:(ds.length == es.length)=false:=by simpa using h
 rw[this,Bool.and_false]
mutual
theorem deq_self:∀ d:D,deq d d=true
 | .non=>rfl
 | .bl b=>by show (b == b)=true;simp
 | .int n=>by show (n == n)=true;simp
 | .str x=>by show (x == x)=true;simp
 | .tup ds=>deqL_self ds
 | .lst ds=>deqL_self ds
theorem deqL_self:∀ ds:List D,deqL ds ds=true
 | []=>rfl
 | d :: ds=>by rw[deqL_cons,deq_self d,deqL_self ds];rfl
end
mutual
theorem Is.inj {H:Hp}:∀ {v:V}{d e:D},Is H v d→Is H v e→d=e
 | v,.non,e,h,h'=>by
  unfold Is at h;subst h;cases e <;> unfold Is at h' <;> first | rfl | (cases h';done) | (obtain⟨_,_,z,_⟩:=h';cases z)
 | v,.bl b,e,h,h'=>by
  unfold Is at h;subst h;cases e <;> unfold Is at h' <;> first | (cases h';rfl) | (cases h';done) | (obtain⟨_,_,z,_⟩:=h';cases z)
 | v,.int n,e,h,h'=>by
  unfold Is at h;subst h;cases e <;> unfold Is at h' <;> first | (cases h';rfl) | (cases h';done) | (obtain⟨_,_,z,_⟩:=h';cases z)
 | v,.str x,e,h,h'=>by
  unfold Is at h;subst h;cases e <;> unfold Is at h' <;> first | (cases h';rfl) | (cases h';done) | (obtain⟨_,_,z,_⟩:=h';cases z)
 | v,.tup ds,e,h,h'=>by
  unfold Is at h;obtain⟨a,xs,rfl,h1,h2⟩:=h;cases e with
  | tup es =>
   unfold Is at h';obtain⟨b,ys,z,g1,g2⟩:=h';cases z;rw[h1] at g1;cases g1;rw[IsDs.inj h2 g2]
  | lst es =>
   unfold Is at h';obtain⟨b,ys,z,g1,g2⟩:=h';cases z;rw[h1] at g1;cases g1
  | _=>unfold Is at h';cases h'
 | v,.lst ds,e,h,h'=>by
  unfold Is at h;obtain⟨a,xs,rfl,h1,h2⟩:=h;cases e with
  | lst es =>
   unfold Is at h';obtain⟨b,ys,z,g1,g2⟩:=h';cases z;rw[h1] at g1;cases g1;rw[IsDs.inj h2 g2]
  | tup es =>
   unfold Is at h';obtain⟨b,ys,z,g1,g2⟩:=h';cases z;rw[h1] at g1;cases g1
  | _=>unfold Is at h';cases h'
theorem IsDs.inj {H:Hp}:∀ {xs:List V}{ds es:List D},IsDs H xs ds→IsDs H xs es→ds=es
 | xs,[],es,h,h'=>by
  unfold IsDs at h;subst h;cases es with
  | nil=>rfl
  | cons e es=>unfold IsDs at h';obtain⟨_,_,z,_⟩:=h';cases z
 | xs,d :: ds,es,h,h'=>by
  unfold IsDs at h;obtain⟨x,r,rfl,h1,h2⟩:=h;cases es with
  | nil=>unfold IsDs at h';cases h'
  | cons e es =>
   unfold IsDs at h';obtain⟨x',r',z,g1,g2⟩:=h';cases z;rw[Is.inj h1 g1,IsDs.inj h2 g2]
end
section
variable {X:Cx}{pins:List (Addr × Obj)} {σ:St}{H:Hp}{s:Shared}
structure CmpAt (A:Around) (s:Shared) (u w:Value) (b:Bool):Prop where
 rc:SeqAt.RcAt A s u w b
 ne:SeqAt.RcNeAt A s u w (!b)
theorem its_at {xs:List V}{its:List Value}{ds:List D} (r:Vals xs its) (h:IsDs H xs ds) {j:Nat} (hj:j<its.toArray.size):∃ d x,ds[j]? = some d∧Is H x d∧RelV x its.toArray[j]:=by
 have hj':j<its.length:=by simpa using hj
 have l1:=r.length;have l2:=h.length;have ed:ds[j]? = some ds[j]:=by simp[show j<ds.length by omega]
 obtain⟨x,ex,hx⟩:=h.at ed;obtain⟨u,eu,ru⟩:=r.get ex;refine⟨_,x,ed,hx,?_⟩;rw[List.getElem?_eq_getElem hj'] at eu
 have:its.toArray[j]=u:=by simpa using Option.some.inj eu
 rw[this];exact ru
inductive Kd (s:Shared) (H:Hp):Value→D→Prop where
 | none:Kd s H .none .non
 | bool (b:Bool):Kd s H (.bool b) (.bl b)
 | int (n:Int) (t:Tok):Kd s H (.int n t) (.int n)
 | str (x:Str) (t:Tok):Kd s H (.str x t) (.str x)
 | tuple {a:Addr}{xs:List V}{its:List Value}{ds:List D} (h:H a=some (.tup xs)) (r:Vals xs its) (p:s.heap.IsTuple a its.toArray) (q:IsDs H xs ds):Kd s H (.ref a) (.tup ds)
 | list {a:Addr}{xs:List V}{its:List Value}{ds:List D} (h:H a=some (.lst xs)) (r:Vals xs its) (p:s.heap.IsList a its.toArray) (q:IsDs H xs ds):Kd s H (.ref a) (.lst ds)
theorem kd_of (I:Inv X pins σ H s) {v:V}{u:Value}{d:D} (h:Is H v d) (r:RelV v u):Kd s H u d:=by
 cases d with
 | non=>unfold Is at h;subst h;cases (show u=Value.none from r);exact .none
 | bl b=>unfold Is at h;subst h;cases (show u=Value.bool b from r);exact .bool b
 | int n=>unfold Is at h;subst h;obtain⟨t,e⟩:=(show ∃ t,u=Value.int n t from r);cases e;exact .int n t
 | str x=>unfold Is at h;subst h;obtain⟨t,e⟩:=(show ∃ t,u=Value.str x t from r);cases e;exact .str x t
 | tup ds =>
  unfold Is at h;obtain⟨a,xs,rfl,h1,h2⟩:=h;cases (show u=Value.ref a from r);obtain⟨_,its,r1,t1⟩:=(show ObjOk X.prog X.w H s.heap a (.tup xs) from I.hok a _ h1);exact .tuple h1 r1 t1 h2
 | lst ds =>
  unfold Is at h;obtain⟨a,xs,rfl,h1,h2⟩:=h;cases (show u=Value.ref a from r);obtain⟨its,r1,p1,_⟩:=I.list (SqL.of (K:=X.K) h1);exact .list h1 r1 p1.isList h2
noncomputable def Sc:D→Prop
 | .tup _=>False
 | .lst _=>False
 | _=>True
set_option maxHeartbeats 4000000 in
theorem scalD {A:Around}{u u':Value}{d e:D} (hu:A.units<cLine) (k1:Kd s H u d) (hs:Sc d) (k2:Kd s H u' e):CmpAt A s u u' (deq d e)∧SeqAt.EqAt A s u u' (deq d e):=by
 cases k1 with
 | tuple=>exact hs.elim
 | list=>exact hs.elim
 | none  =>
  cases k2 with
  | none  => exact⟨⟨.none_none ,.none_none ⟩,SeqAt.EqAt.same _⟩
  | bool c=>exact⟨⟨.none_bool c,.none_bool c⟩,.none_bool c⟩
  | int k v=>exact⟨⟨.none_int k v,.none_int k v⟩,.none_int k v⟩
  | str y v=>exact⟨⟨.none_str y v,.none_str y v⟩,.none_str y v⟩
  | list h r p q=>exact⟨⟨.none_list  p hu,.none_list  p hu⟩,.none_list  p hu⟩
  | tuple h r p q=>exact⟨⟨.none_tuple  p hu,.none_tuple  p hu⟩,.none_tuple  p hu⟩
 | bool b =>
  cases k2 with
  | none  => exact⟨⟨.bool_none b,.bool_none b⟩,.bool_none b⟩
  | bool c=>exact⟨⟨.bool_bool b c,.bool_bool b c⟩,.bool_bool b c⟩
  | int k v=>exact⟨⟨.bool_int b k v,.bool_int b k v⟩,.bool_int b k v⟩
  | str y v=>exact⟨⟨.bool_str b y v,.bool_str b y v⟩,.bool_str b y v⟩
  | list h r p q=>exact⟨⟨.bool_list b p hu,.bool_list b p hu⟩,.bool_list b p hu⟩
  | tuple h r p q=>exact⟨⟨.bool_tuple b p hu,.bool_tuple b p hu⟩,.bool_tuple b p hu⟩
 | int m t =>
  cases k2 with
  | none  => exact⟨⟨.int_none m t,.int_none m t⟩,.int_none m t⟩
  | bool c=>exact⟨⟨.int_bool m t c,.int_bool m t c⟩,.int_bool m t c⟩
  | int k v=>exact⟨⟨.int_int m t k v,.int_int m t k v⟩,.int_int m t k v⟩
  | str y v=>exact⟨⟨.int_str m t y v,.int_str m t y v⟩,.int_str m t y v⟩
  | list h r p q=>exact⟨⟨.int_list m t p hu,.int_list m t p hu⟩,.int_list m t p hu⟩
  | tuple h r p q=>exact⟨⟨.int_tuple m t p hu,.int_tuple m t p hu⟩,.int_tuple m t p hu⟩
 | str x t =>
  cases k2 with
  | none  => exact⟨⟨.str_none x t,.str_none x t⟩,.str_none x t⟩
  | bool c=>exact⟨⟨.str_bool x t c,.str_bool x t c⟩,.str_bool x t c⟩
  | int k v=>exact⟨⟨.str_int x t k v,.str_int x t k v⟩,.str_int x t k v⟩
  | str y v=>exact⟨⟨.str_str x t y v,.str_str x t y v⟩,.str_str x t y v⟩
  | list h r p q=>exact⟨⟨.str_list x t p hu,.str_list x t p hu⟩,.str_list x t p hu⟩
  | tuple h r p q=>exact⟨⟨.str_tuple x t p hu,.str_tuple x t p hu⟩,.str_tuple x t p hu⟩
set_option maxHeartbeats 4000000 in
theorem cmp_at (I:Inv X pins σ H s):∀ (n:Nat) (d e:D) (A:Around) {u u':Value},dep d≤n→A.units+n<cLine→Kd s H u d→Kd s H u' e→CmpAt A s u u' (deq d e)∧SeqAt.EqAt A s u u' (deq d e):=by
 intro n;induction n with
 | zero =>
  intro d e A u u' hd hu k1 k2;cases k1 with
  | tuple=>unfold dep at hd;omega
  | list=>unfold dep at hd;omega
  | none=>exact scalD (by omega) .none trivial k2
  | bool b=>exact scalD (by omega) (.bool b) trivial k2
  | int m t=>exact scalD (by omega) (.int m t) trivial k2
  | str y t=>exact scalD (by omega) (.str y t) trivial k2
 | succ n ih =>
  intro d e A u u' hd hu k1 k2;have hu0:A.units<cLine:=by omega
  have hu1:A.in1.units+n<cLine:=by show A.units+1+n<cLine;omega
  cases k1 with
  | @tuple a xs its ds h1 r1 p1 q1 =>
   cases k2 with
   | @tuple b ys its2 es h2 r2 p2 q2 =>
    have hdd:depL ds≤n:=by unfold dep at hd;omega
    have n1:its.length=ds.length:=by have:=r1.length;have:=q1.length;omega
    have n2:its2.length=es.length:=by have:=r2.length;have:=q2.length;omega
    have he:∀ j (g1:j<its.toArray.size) (g2:j<its2.toArray.size),SeqAt.EqAt A.in1 s its.toArray[j] its2.toArray[j] (eqJ ds es j):=fun j g1 g2=>by
     obtain⟨d1,x1,e1,i1,v1⟩:=its_at r1 q1 g1;obtain⟨d2,x2,e2,i2,v2⟩:=its_at r2 q2 g2;have e3:eqJ ds es j=deq d1 d2:=by unfold eqJ;rw[e1,e2]
     rw[e3];exact (ih d1 d2 A.in1 (Nat.le_trans (depL_mem e1) hdd) hu1 (kd_of I i1 v1) (kd_of I i2 v2)).2
    have ev:((List.range (min its.toArray.size its2.toArray.size)).all (eqJ ds es) && (its.toArray.size == its2.toArray.size))=deq (.tup ds) (.tup es):=by
     rw[List.size_toArray,List.size_toArray,n1,n2,deq_tup,deqL_all]
    have R1:=SeqAt.RcAt.tuples p1 p2 hu0 he;have R2:=SeqAt.RcNeAt.tuples p1 p2 hu0 he;rw[ev] at R1 R2;refine⟨⟨R1,R2⟩,?_⟩;by_cases hab:a=b
    ·subst hab;rw[h1] at h2;cases h2;rw[IsDs.inj q1 q2,deq_self];exact SeqAt.EqAt.same _
    ·exact SeqAt.EqAt.of_refs hab R1
   | @list b ys its2 es h2 r2 p2 q2=>exact⟨⟨.tuple_list p1 p2 hu0,.tuple_list p1 p2 hu0⟩,.tuple_list p1 p2 hu0⟩
   | none=>exact⟨⟨.tuple_none p1 hu0,.tuple_none p1 hu0⟩,.tuple_none p1 hu0⟩
   | bool b=>exact⟨⟨.tuple_bool b p1 hu0,.tuple_bool b p1 hu0⟩,.tuple_bool b p1 hu0⟩
   | int m t=>exact⟨⟨.tuple_int m t p1 hu0,.tuple_int m t p1 hu0⟩,.tuple_int m t p1 hu0⟩
   | str y t=>exact⟨⟨.tuple_str y t p1 hu0,.tuple_str y t p1 hu0⟩,.tuple_str y t p1 hu0⟩
  | @list a xs its ds h1 r1 p1 q1 =>
   cases k2 with
   | @list b ys its2 es h2 r2 p2 q2 =>
    have hdd:depL ds≤n:=by unfold dep at hd;omega
    have n1:its.length=ds.length:=by have:=r1.length;have:=q1.length;omega
    have n2:its2.length=es.length:=by have:=r2.length;have:=q2.length;omega
    have R:CmpAt A s (.ref a) (.ref b) (deq (.lst ds) (.lst es)):=by
     by_cases hn:ds.length=es.length
     ·have he:∀ j (g1:j<its.toArray.size) (g2:j<its2.toArray.size),SeqAt.EqAt A.in1 s its.toArray[j] its2.toArray[j] (eqJ ds es j):=fun j g1 g2=>by
       obtain⟨d1,x1,e1,i1,v1⟩:=its_at r1 q1 g1;obtain⟨d2,x2,e2,i2,v2⟩:=its_at r2 q2 g2;have e3:eqJ ds es j=deq d1 d2:=by unfold eqJ;rw[e1,e2]
       rw[e3];exact (ih d1 d2 A.in1 (Nat.le_trans (depL_mem e1) hdd) hu1 (kd_of I i1 v1) (kd_of I i2 v2)).2
      have hsz:its.toArray.size=its2.toArray.size:=by simp;omega
      have ev:(List.range its.toArray.size).all (eqJ ds es)=deq (.lst ds) (.lst es):=by
       rw[List.size_toArray,n1,deq_lst,deqL_all,hn,Nat.min_self];simp
      have R1:=SeqAt.RcAt.lists p1 p2 hsz hu0 he;have R2:=SeqAt.RcNeAt.lists p1 p2 hsz hu0 he;rw[ev] at R1 R2;exact⟨R1,R2⟩
     ·have hsz:(its.toArray.size != its2.toArray.size)=true:=by simp;omega
      rw[deq_lst,deqL_len hn];exact⟨SeqAt.RcAt.lists_lengths p1 p2 hsz hu0,SeqAt.RcNeAt.lists_lengths p1 p2 hsz hu0⟩
    refine⟨R,?_⟩;by_cases hab:a=b
    ·subst hab;rw[h1] at h2;cases h2;rw[IsDs.inj q1 q2,deq_self];exact SeqAt.EqAt.same _
    ·exact SeqAt.EqAt.of_refs hab R.rc
   | @tuple b ys its2 es h2 r2 p2 q2=>exact⟨⟨.list_tuple p1 p2 hu0,.list_tuple p1 p2 hu0⟩,.list_tuple p1 p2 hu0⟩
   | none=>exact⟨⟨.list_none p1 hu0,.list_none p1 hu0⟩,.list_none p1 hu0⟩
   | bool b=>exact⟨⟨.list_bool b p1 hu0,.list_bool b p1 hu0⟩,.list_bool b p1 hu0⟩
   | int m t=>exact⟨⟨.list_int m t p1 hu0,.list_int m t p1 hu0⟩,.list_int m t p1 hu0⟩
   | str y t=>exact⟨⟨.list_str y t p1 hu0,.list_str y t p1 hu0⟩,.list_str y t p1 hu0⟩
  | none=>exact scalD hu0 .none trivial k2
  | bool b=>exact scalD hu0 (.bool b) trivial k2
  | int m t=>exact scalD hu0 (.int m t) trivial k2
  | str y t=>exact scalD hu0 (.str y t) trivial k2
noncomputable def rEqD (f:Bool→Bool):R2:=fun x y H Q=>∃ d e,Is H x d∧Is H y e∧dep d≤60∧Q (.bl (f (deq d e))) H
theorem op_eqD (hu:X.A.units+60<cLine):OpR X (compareOp .Eq) (rEqD id):=by
 intro pins s σ H x y v u Q I rx ry h;obtain⟨d,e,h1,h2,h3,q⟩:=h;exact (cmp_at I 60 d e X.A h3 hu (kd_of I h1 rx) (kd_of I h2 ry)).1.rc _ _ _ _ ⟨.bl (deq d e),H,I,rfl,q⟩
theorem op_neD (hu:X.A.units+60<cLine):OpR X (compareOp .NotEq) (rEqD not):=by
 intro pins s σ H x y v u Q I rx ry h;obtain⟨d,e,h1,h2,h3,q⟩:=h;exact (cmp_at I 60 d e X.A h3 hu (kd_of I h1 rx) (kd_of I h2 ry)).1.ne _ _ _ _ ⟨.bl (!(deq d e)),H,I,rfl,q⟩
theorem hu60 {A:Around}{k:Nat} (hr:Room k A):A.units+60<cLine:=Nat.lt_of_le_of_lt (Nat.add_le_add_left (by decide:60≤64) _) hr.units
end
end L2
namespace L2
open PySem PySem.Spec PyProof.Rows
section
variable {X:Cx}{st:Stmt}{sts:List Stmt}{t:TS}{e:Expr}{te:TE}
noncomputable def tCut (t:TS):TS:=fun D σ H=>∃ M:St→Hp→Prop,t { D with nx:=M } σ H∧∀ σ' H',M σ' H'→D.nx σ' H'
theorem ps_cut (h:PS X st t):PS X st (tCut t):=by
 rintro pins s σ H D I ⟨M,q,w⟩;refine thn (h pins s σ H { D with nx:=M } I q) fun r s' z=>?_
 cases r with
 | next=>obtain⟨σ',H',I',m⟩:=z;exact⟨σ',H',I',w _ _ m⟩
 | _=>exact z
end
end L2
namespace L2
open PySem PySem.Spec PyProof.Rows
theorem ix_listK {X:Cx} (K:PySem.W.Frag) (h:X.K=K):IxR X (rIxL K):=by subst h;exact ix_list
end L2
namespace My
open PySem L2 OF
theorem small6 {n:Nat} (h:n≤1000000):n<sizeLine:=Nat.lt_of_le_of_lt h (by decide)
theorem mulL {a b:Int} (h1 : -(2^64)<a) (h2:a<2^64):IntMulOk a b:=CMul.ok (.inl ⟨h1,h2⟩)
theorem mulR {a b:Int} (h1 : -(2^64)<b) (h2:b<2^64):IntMulOk a b:=CMul.ok (.inr ⟨h1,h2⟩)
theorem shl_eq (m:Nat):(1:Int) * 2^((m:Int)).toNat=2^m:=by rw[Int.one_mul,Int.toNat_natCast]
theorem at_ref {ps:List Addr}{i:Nat}{y:V} (hi:(ps.map V.ref)[i]? = some y):∃ p,ps[i]? = some p∧y=V.ref p:=by
 rw[List.getElem?_map] at hi;cases e:ps[i]? with
 | none=>rw[e] at hi;cases hi
 | some p=>rw[e] at hi;exact⟨p,rfl,(Option.some.inj hi).symm⟩
theorem at_int {ns:List Int}{i:Nat}{y:V} (hi:(ns.map V.int)[i]? = some y):∃ n,ns[i]? = some n∧y=V.int n:=by
 rw[List.getElem?_map] at hi;cases e:ns[i]? with
 | none=>rw[e] at hi;cases hi
 | some p=>rw[e] at hi;exact⟨p,rfl,(Option.some.inj hi).symm⟩
noncomputable def spForm (K:PySem.W.Frag):Sp:=fun vs H Q _=>∃ (a:Addr) (l:Terms),vs=[.ref a]∧TL K H a l∧l.length≤100000 ∧
 ∀ (b:Addr) (f:Terms) (H':Hp),H b=none→TLo H' b f→FormOf f l→f.length≤l.length→Same H H'→Q (.ref b) H'
noncomputable def spFormFrom:Sp:=fun vs H Q _=>∃ (d:Addr) (dd:Terms),vs=[.ref d]∧H d=some (.dK (dd.map encP))∧(dd.map (·.1)).Nodup∧dd.length≤100000 ∧
 ∀ (b:Addr) (ks:List Int) (H':Hp),H b=none→TLo H' b (formOf dd ks)→ks.Perm (dd.map (·.1))→ks.Pairwise (· ≤ ·)→Same H H'→Q (.ref b) H'
noncomputable def spWorth (K:PySem.W.Frag):Sp:=fun vs H Q _=>∃ (a:Addr) (l:Terms) (g:Int),vs=[.ref a,.int g]∧TL K H a l∧l.length≤100000∧∀ H',Same H H'→Q (.int (worthL l g)) H'
noncomputable def spLaw (K:PySem.W.Frag):Sp:=fun vs H Q _=>∃ (a:Addr) (ns:List Int),vs=[.ref a]∧SqL K H a (ns.map V.int)∧ns.length≤63∧(∀ n∈ns,Builtin.Int.intBits n≤2^20)∧∀ H',Q (.bl true) H'
noncomputable def dT (t:Int × Int):D := .tup [.int t.1,.int t.2]
noncomputable def dF (l:Terms):D := .lst (l.map dT)
theorem isL_tups {H:Hp}:∀ {ps:List Addr}{l:Terms},Tups H ps l→IsDs H (ps.map V.ref) (l.map dT)
 | _,_,.nil=>by unfold IsDs;rfl
 | _,_,.cons (a:=p) (b:=t) r q=>by
  rw[List.map_cons,List.map_cons];unfold IsDs;refine⟨_,_,rfl,?_,isL_tups q⟩;unfold dT Is;refine⟨p,_,rfl,r,?_⟩;unfold IsDs;refine⟨_,_,rfl,(by unfold Is;rfl),?_⟩;unfold IsDs;refine⟨_,_,rfl,(by unfold Is;rfl),?_⟩;unfold IsDs;rfl
theorem _root_.L2.TLo.is {H:Hp}{a:Addr}{l:Terms} (h:TLo H a l):Is H (.ref a) (dF l):=by
 obtain⟨ps,h1,h2⟩:=h;unfold dF Is;exact⟨a,_,rfl,h1,isL_tups h2⟩
theorem dep_dT (t:Int × Int):dep (dT t)=1:=rfl
theorem depL_dT:∀ l:Terms,depL (l.map dT)≤1
 | []=>Nat.zero_le _
 | t :: r=>by
  rw[List.map_cons,depL,dep_dT]
  have:=depL_dT r
  omega
theorem dep_dF (l:Terms):dep (dF l)≤2:=by
 unfold dF;rw[dep];have:=depL_dT l;omega
theorem deq_dT (t u:Int × Int):deq (dT t) (dT u)=decide (t=u):=by
 obtain⟨a,b⟩:=t;obtain⟨c,d⟩:=u;show ((a == c) && ((b == d) && true))=decide ((a,b)=(c,d));by_cases e1:a=c <;> by_cases e2:b=d <;> simp[e1,e2]
theorem deqL_dT:∀ l m:Terms,deqL (l.map dT) (m.map dT)=decide (l=m)
 | [],[]=>rfl
 | [],_ :: _=>rfl
 | _ :: _,[]=>rfl
 | t :: l,u :: m=>by
  rw[List.map_cons,List.map_cons,deqL_cons,deq_dT,deqL_dT l m];by_cases e1:t=u <;> by_cases e2:l=m <;> simp[e1,e2]
theorem deq_dF (l m:Terms):deq (dF l) (dF m)=decide (l=m):=by unfold dF;rw[deq_lst];exact deqL_dT l m
theorem is_lst {H:Hp}{a:Addr}{xs:List V}{ds:List D} (h1:H a=some (.lst xs)) (h2:IsDs H xs ds):Is H (.ref a) (.lst ds):=by
 unfold Is;exact⟨a,xs,rfl,h1,h2⟩
theorem mulOkB {a b:Int}{j k:Nat} (h1:a.natAbs<2^j) (h2:b.natAbs<2^k) (h:j+k≤134217728):IntMulOk a b:=by
 have f:∀ {x:Int}{m:Nat},x.natAbs<2^m→Builtin.Int.intBits x≤m:=fun {x m} hx=>by
  unfold Builtin.Int.intBits;split
  ·exact Nat.zero_le _
  ·rename_i h0;have h0':x.natAbs≠0:=by simpa using h0
   exact (Nat.log2_lt h0').mpr hx
 exact PyProof.Rows.mulOk_of_bits (f h1) (f h2) h
noncomputable def Small (B:Nat) (l:Terms):Prop:=∀ t∈l,t.2.natAbs≤B
theorem coef_mem:∀ {f:Terms},IsForm f→∀ t∈f,coef f t.1=t.2
 | [],_,t,h=>by simp at h
 | p :: r,hf,t,h=>by
  have h1:=List.pairwise_cons.mp hf.rise;rcases List.mem_cons.mp h with e | e
  ·rw[e];exact coef_head h1.1
  ·have hr:IsForm r:=⟨h1.2,fun q hq=>hf.nz q (by simp[hq])⟩
   have:=coef_mem hr t e
   have h2:=h1.1 t e;rw[coef,if_neg (by omega),this];omega
theorem _root_.L2.Same.write {HB H:Hp}{a:Addr}{o:HO} (h:Same HB H) (ha:HB a=none):Same HB (upd H a o):=fun b u e=>by
 rw[upd_ne (ne_of_none e ha)];exact h b u e
theorem TLo.cat {H H':Hp}{a b c:Addr}{l m:Terms}{ps qs:List Addr} (h1:Tups H ps l) (h2:Tups H qs m) (s:Same H H') (hc:H' c=some (.lst (ps.map V.ref++qs.map V.ref))):TLo H' c (l++m) :=
 ⟨ps++qs,by rw[hc,List.map_append],Tups.append (h1.keep fun b xs z=>s b _ z) (h2.keep fun b xs z=>s b _ z)⟩
theorem _root_.L2.TL.seq {K:PySem.W.Frag}{H:Hp}{a:Addr}{l:Terms} (h:TL K H a l):∃ xs,SqL K H a xs:=let ⟨ps,h1,_⟩:=h; ⟨_,h1⟩
theorem comp_pairs {K:PySem.W.Frag}{a:Addr}{l:Terms}{H:Hp}{te:TE}{R:List V→Hp→Addr→Prop} (f:Int × Int→Int × Int) (hT:TL K H a l) (hl:l.length≤1000000) (rest:List (Option V)) {σ:St} (hσ : σ = none :: none :: rest)
  (he:∀ t∈l,∀ (H2:Hp) (R:V→Hp→Prop),Same H H2→(∀ w,H2 w=none→R (.ref w) (upd H2 w (.tup [.int (f t).1,.int (f t).2])))→te (some (.int t.1) :: some (.int t.2) :: rest) H2 R)
  (q:∀ (D:Addr) (ys:List V) (H2:Hp),H D=none→TLo (upd H2 D (.lst ys)) D (l.map f)→Same H (upd H2 D (.lst ys))→R ys H2 D) :
  ∃ W:Nat→Nat→List V→St→Hp→Prop,(∃ m,W 0 m [] σ H)∧∀ i m ys σ H,W i m ys σ H →
   ((Itl K a).stop i H∧∀ D,H D=none→R ys H D) ∨
   ((Itl K a).go i H∧ys.length<sizeLine∧∃ N:List V→St→Hp→Prop,(∀ ys' σ' H',N ys' σ' H'→∃ m',m'<m∧W (i+1) m' ys' σ' H') ∧
    ∀ x H',(Itl K a).yld i H x H'→gTup K 2 (gCons (gName 0) (gCons (gName 1) gNil)) x σ H' fun σ2 H2=>tTrue σ2 H2 fun b H3=>if b=true then te σ2 H3 fun y H4=>N (ys ++ [y]) σ2 H4 else N ys σ2 H3):=by
 obtain⟨ps,hS,hP⟩:=hT;subst hσ;refine comp_list (K:=K) (a:=a) (xs:=ps.map V.ref) (R:=R) (fun i ys σ H2=>∃ (v0 v1:Option V) (qs:List Addr),σ = v0 :: v1 :: rest∧ys=qs.map V.ref∧Tups H2 qs ((l.take i).map f)∧Same H H2)
  ⟨none,none,[],rfl,rfl,.nil,Same.refl _⟩ (fun i ys σ H2 hi ⟨_,_,qs,_,e1,e2,e3⟩=>⟨e3.seq hS,by rw[e1,List.length_map,e2.length,List.length_map,List.length_take];omega⟩) (by rw[List.length_map,hP.length];exact Nat.le_of_lt (small6 hl)) ?_ ?_
 ·rintro i z ys σ H2 hi ⟨v0,v1,qs,rfl,rfl,g2,g4⟩;obtain⟨p,hqi,rfl⟩:=at_ref hi;obtain⟨t,ht1,ht2⟩:=hP.at' hqi;have htk:l.take (i+1)=l.take i ++ [t]:=by rw[List.take_add_one,ht1];rfl
  refine⟨p,_,rfl,SqT.of (g4 _ _ ht2),rfl,_,_,rfl,_,_,rfl,rfl,?_⟩;show te (some (.int t.1) :: some (.int t.2) :: rest) H2 _;refine he t (List.mem_of_getElem? ht1) H2 _ g4 fun w hw=>?_
  have s14:Same H2 (upd H2 w (.tup [.int (f t).1,.int (f t).2])):=Same.upd hw;refine⟨_,_,qs ++ [w],rfl,(by rw[List.map_append];rfl),?_,g4.trans s14⟩;rw[htk,List.map_append];exact Tups.snoc (g2.keep fun b xs z=>s14 b _ z) upd_same
 ·rintro ys σ H2 ⟨v0,v1,qs,rfl,rfl,g2,g4⟩ w hw;have hfull:l.take (ps.map V.ref).length=l:=by rw[List.length_map,hP.length,List.take_length]
  rw[hfull] at g2;have s14:Same H2 (upd H2 w (.lst (qs.map V.ref))):=Same.upd hw;exact q w _ _ (g4.free hw) ⟨qs,upd_same,g2.keep fun b xs z=>s14 b _ z⟩ (g4.trans s14)
theorem ne_of_none' {H:Hp}{a b:Addr}{o:HO} (h:H a=some o) (hb:H b=none):b≠a:=(ne_of_none h hb).symm
end My
namespace OF
open PySem
noncomputable def rowL (t:Int × Int) (m:Terms):Terms:=m.map fun u=>(Builtin.bitOr t.1 u.1,t.2 * u.2)
noncomputable def prodL (l m:Terms):Terms:=l.flatMap fun t=>rowL t m
theorem rowL_len (t:Int × Int) (m:Terms):(rowL t m).length=m.length:=List.length_map _
theorem rowL_snoc (t u:Int × Int) (m:Terms):rowL t (m ++ [u])=rowL t m ++ [(Builtin.bitOr t.1 u.1,t.2 * u.2)]:=by unfold rowL;rw[List.map_append];rfl
theorem prodL_snoc (l m:Terms) (t:Int × Int):prodL (l ++ [t]) m=prodL l m++rowL t m:=by unfold prodL;rw[List.flatMap_append];simp
theorem prodL_len:∀ (l m:Terms),(prodL l m).length=l.length * m.length
 | [],m=>by simp[prodL]
 | t :: l,m=>by
  have:=prodL_len l m
  have e:prodL (t :: l) m=rowL t m++prodL l m:=by unfold prodL;rw[List.flatMap_cons]
  rw[e,List.length_append,rowL_len,this,List.length_cons,Nat.add_mul,Nat.one_mul,Nat.add_comm]
theorem mem_prodL {l m:Terms}{x:Int × Int} (h:x∈prodL l m):∃ t∈l,∃ u∈m,x=(Builtin.bitOr t.1 u.1,t.2 * u.2):=by
 unfold prodL at h;obtain⟨t,ht,h⟩:=List.mem_flatMap.mp h;unfold rowL at h;obtain⟨u,hu,e⟩:=List.mem_map.mp h;exact⟨t,ht,u,hu,e.symm⟩
noncomputable def lin (φ : Int→Int):Terms→Int
 | []=>0
 | t :: r => φ t.1 * t.2+lin φ r
theorem lin_append (φ : Int→Int):∀ a b:Terms,lin φ (a++b)=lin φ a+lin φ b
 | [],b=>by simp[lin]
 | t :: r,b=>by rw[List.cons_append,lin,lin,lin_append φ r b];omega
theorem lin_split (φ : Int→Int) (k:Int):∀ l:Terms,lin φ l = φ k * coef l k+lin φ (l.filter fun t=>decide (t.1≠k))
 | []=>by simp[lin,coef]
 | t :: r=>by
  have ih:=lin_split φ k r;rw[lin,coef,ih];by_cases h:t.1=k
  ·rw[if_pos h,List.filter_cons_of_neg (by simp[h]),h,Int.mul_add];omega
  ·rw[if_neg h,List.filter_cons_of_pos (by simp[h]),lin,Int.zero_add];omega
theorem coef_filter (k j:Int):∀ l:Terms,coef (l.filter fun t=>decide (t.1≠k)) j=if j=k then 0 else coef l j
 | []=>by simp[coef]
 | t :: r=>by
  have ih:=coef_filter k j r;by_cases h:t.1=k
  ·rw[List.filter_cons_of_neg (by simp[h]),ih,coef];by_cases hj:j=k
   ·simp[hj]
   ·rw[if_neg hj,if_neg hj,if_neg (by omega)];omega
  ·rw[List.filter_cons_of_pos (by simp[h]),coef,coef,ih];by_cases hj:j=k
   ·rw[if_pos hj,if_pos hj,if_neg (by omega)];rfl
   ·rw[if_neg hj,if_neg hj]
theorem lin_zero (φ : Int→Int):∀ (n:Nat) (l:Terms),l.length≤n→(∀ k,coef l k=0)→lin φ l=0
 | _,[],_,_=>rfl
 | 0,t :: r,h,_=>by simp at h
 | n+1,t :: r,h,hc=>by
  rw[lin_split φ t.1,hc,Int.mul_zero,Int.zero_add];have e:((t :: r).filter fun u=>decide (u.1≠t.1))=r.filter fun u=>decide (u.1≠t.1):=List.filter_cons_of_neg (by simp)
  rw[e];refine lin_zero φ n _ ?_ fun k=>?_
  ·have:=List.length_filter_le (fun u:Int × Int=>decide (u.1≠t.1)) r
   rw[List.length_cons] at h;omega
  ·rw[← e,coef_filter];split
   ·rfl
   ·exact hc k
theorem lin_neg (φ : Int→Int):∀ l:Terms,lin φ (l.map fun p=>(p.1,-p.2)) = -lin φ l
 | []=>rfl
 | t :: r=>by
  rw[List.map_cons,lin,lin,lin_neg φ r];show φ t.1 * -t.2 + -lin φ r=_;rw[Int.mul_neg];omega
theorem lin_congr (φ : Int→Int) {l m:Terms} (h:∀ k,coef l k=coef m k):lin φ l=lin φ m:=by
 have:=lin_zero φ _ (l++m.map fun p=>(p.1,-p.2)) (Nat.le_refl _) fun k=>by rw[coef_append,coef_neg,h];omega
 rw[lin_append,lin_neg] at this;omega
theorem lin_mulr (φ : Int→Int) (c:Int):∀ l:Terms,lin φ (l.map fun p=>(p.1,p.2 * c))=lin φ l * c
 | []=>by simp[lin]
 | t :: r=>by rw[List.map_cons,lin,lin,lin_mulr φ c r,Int.add_mul,Int.mul_assoc]
noncomputable def phi (g k:Int):Int:=if Builtin.bitAnd k g=k then 1 else 0
theorem worth_lin (g:Int):∀ l:Terms,worthL l g=lin (phi g) l
 | []=>rfl
 | t :: r=>by
  have ih:=worth_lin g r;unfold worthL at ih ⊢;rw[lin,← ih,phi];by_cases h:Builtin.bitAnd t.1 g=t.1
  ·rw[if_pos h,List.filter_cons_of_pos (by simp[h]),List.map_cons,List.sum_cons,Int.one_mul]
  ·rw[if_neg h,List.filter_cons_of_neg (by simp[h]),Int.zero_mul,Int.zero_add]
theorem worth_congr {l m:Terms} (g:Int) (h:∀ k,coef l k=coef m k):worthL l g=worthL m g:=by rw[worth_lin,worth_lin,lin_congr _ h]
theorem lin_prod {φ : Int→Int}:∀ (l m:Terms),(∀ t∈l,∀ u∈m,φ (Builtin.bitOr t.1 u.1) = φ t.1 * φ u.1)→lin φ (prodL l m)=lin φ l * lin φ m
 | [],m,_=>by simp[prodL,lin]
 | t :: l,m,h=>by
  have ih:=lin_prod l m fun t' ht' u hu=>h t' (by simp[ht']) u hu
  have e:prodL (t :: l) m=rowL t m++prodL l m:=by unfold prodL;rw[List.flatMap_cons]
  rw[e,lin_append,ih,lin,Int.add_mul];congr 1;have hr:∀ m':Terms,(∀ u∈m',φ (Builtin.bitOr t.1 u.1) = φ t.1 * φ u.1)→lin φ (rowL t m') = φ t.1 * t.2 * lin φ m':=by
   intro m';induction m' with
   | nil=>intro _;simp[rowL,lin]
   | cons u r ihr =>
    intro hu;have e2:rowL t (u :: r)=(Builtin.bitOr t.1 u.1,t.2 * u.2) :: rowL t r:=rfl;rw[e2,lin,ihr fun v hv=>hu v (by simp[hv]),hu u (by simp),lin,Int.mul_add];congr 1;show φ t.1 * φ u.1 * (t.2 * u.2)=_;rw[Int.mul_assoc,Int.mul_assoc,Int.mul_left_comm (φ u.1)]
  exact hr m fun u hu=>h t (by simp) u hu
theorem nat_or_sub (a b g:Nat):(a ||| b) &&& g=(a ||| b)↔a &&& g=a∧b &&& g=b:=by
 constructor
 ·intro h;constructor
  ·apply Nat.eq_of_testBit_eq;intro j
   have:=congrArg (fun x=>x.testBit j) h
   simp only[Nat.testBit_and,Nat.testBit_or] at this;rw[Nat.testBit_and]
   revert this
   cases a.testBit j <;> cases b.testBit j <;> cases g.testBit j <;> simp
  ·apply Nat.eq_of_testBit_eq;intro j
   have:=congrArg (fun x=>x.testBit j) h
   simp only[Nat.testBit_and,Nat.testBit_or] at this;rw[Nat.testBit_and]
   revert this
   cases a.testBit j <;> cases b.testBit j <;> cases g.testBit j <;> simp
 ·rintro⟨h1,h2⟩;apply Nat.eq_of_testBit_eq;intro j;have e1:=congrArg (fun x=>x.testBit j) h1;have e2:=congrArg (fun x=>x.testBit j) h2;simp only[Nat.testBit_and] at e1 e2;rw[Nat.testBit_and,Nat.testBit_or]
  revert e1 e2
  cases a.testBit j <;> cases b.testBit j <;> cases g.testBit j <;> simp
theorem bitAnd_nat (a b:Nat):Builtin.bitAnd (a:Int) (b:Int)=((a &&& b:Nat):Int):=by
 have:=PyProof.Rows.bitAnd_pp (x:=(a:Int)) (y:=(b:Int)) (Int.natCast_nonneg _) (Int.natCast_nonneg _)
 simpa using this
theorem bitOr_nat (a b:Nat):Builtin.bitOr (a:Int) (b:Int)=((a ||| b:Nat):Int):=by
 have:=bitOr_pp (x:=(a:Int)) (y:=(b:Int)) (Int.natCast_nonneg _) (Int.natCast_nonneg _)
 simpa using this
theorem phi_or {a b g:Int} (ha:0≤a) (hb:0≤b) (hg:0≤g):phi g (Builtin.bitOr a b)=phi g a * phi g b:=by
 obtain⟨a,rfl⟩:=Int.eq_ofNat_of_zero_le ha;obtain⟨b,rfl⟩:=Int.eq_ofNat_of_zero_le hb;obtain⟨g,rfl⟩:=Int.eq_ofNat_of_zero_le hg;unfold phi;rw[bitOr_nat,bitAnd_nat,bitAnd_nat,bitAnd_nat];have h:=nat_or_sub a b g;have c:∀ x:Nat,(((x &&& g:Nat):Int)=(x:Int))↔x &&& g=x:=fun x=>by omega
 simp only[c];by_cases h1:a &&& g=a
 ·by_cases h2:b &&& g=b
  ·rw[if_pos (h.mpr ⟨h1,h2⟩),if_pos h1,if_pos h2];rfl
  ·rw[if_neg (fun z=>h2 (h.mp z).2),if_neg h2,Int.mul_zero]
 ·rw[if_neg (fun z=>h1 (h.mp z).1),if_neg h1,Int.zero_mul]
theorem coef_lin (l:Terms) (k:Int):coef l k=lin (fun j=>if j=k then 1 else 0) l:=by
 induction l with
 | nil=>rfl
 | cons t r ih =>
  rw[coef,lin,ih];split <;> simp_all
end OF
namespace L2
open PySem PySem.Spec PyProof.Rows
theorem Inv.turnedT {X:Cx}{pins:List (Addr × Obj)} {σ:St}{H:Hp}{s:Shared}{h':Heap}{t':Nat}{e it T:Addr}{o:HO} (I:Inv X pins σ H s) (k:∀ b u,b≠e→b≠it→s.heap.get? b=some u→h'.get? b=some u)
  (fe:FpOk X pins H e) (fi:FpOk X pins H it) (hT:s.heap.objs.size≤T) (new:ObjOk X.prog X.w (upd H T o) h' T o):Inv X pins σ (upd H T o) { s with heap:=h',toks:=t' }:=by
 have hn:H T=none:=I.hok.fresh hT;have ne1:∀ b u,H b=some u→b≠e∧b≠it:=fun b u q=>⟨ne_of_none q fe.1,ne_of_none q fi.1⟩
 have nm:∀ b,b ∉ [e,it]→b≠e∧b≠it:=fun b hb=>⟨fun z=>hb (by simp[z]),fun z=>hb (by simp[z])⟩
 have lt:∀ b u,s.heap.get? b=some u→b≠T:=fun b u q=>Nat.ne_of_lt (Nat.lt_of_lt_of_le (Heap.lt_size q) hT)
 refine I.step (g':=s.gens) (d':=s.drawn) (ch:=[e,it]) (fun b hb=>?_) (fun b u _ _ hc q _=>k b u (nm b hc).1 (nm b hc).2 q) (fun b u _ _ hc q _=>⟨u.slots,k b u (nm b hc).1 (nm b hc).2 q⟩) (fun b u _ q n=>by rw[upd_ne (lt b u q)];exact n)
  (fun b u hc q=>⟨u,k b u (nm b hc).1 (nm b hc).2 q⟩) (fun b xs q=>by rw[upd_ne (ne_of_none q hn)];exact q) (fun b u xs q=>by rw[upd_ne (ne_of_none q hn)];exact q) (fun b ps q=>⟨#[],by rw[upd_ne (ne_of_none q hn),q];simp⟩) (fun m hm=>?_) (fun b u q=>?_) I.bare
 ·rcases List.mem_cons.mp hb with z | z
  ·subst z;exact⟨fe.2.2.2.1,fe.2.1,fe.2.2.2.2.1,fe.2.2.2.2.2⟩
  ·have z':b=it:=by simpa using z
   subst z';exact⟨fi.2.2.2.1,fi.2.1,fi.2.2.2.2.1,fi.2.2.2.2.2⟩
 ·obtain⟨u,es,ep,ho,r⟩:=hm;exact⟨u,es,ep,k _ u (Ne.symm fe.2.1) (Ne.symm fi.2.1) ho,r⟩
 ·by_cases hb:b=T
  ·subst hb;rw[upd_same] at q;cases q;exact new
  ·rw[upd_ne hb] at q;refine (I.hok b u q).stay (fun c v hc z=>?_) (fun c z=>by rw[upd_ne (ne_of_none z hn)];exact z) fun c xs z=>by rw[upd_ne (ne_of_none z hn)];exact z
   rcases hc with w | w
   ·rw[w] at z ⊢;exact k b v (ne1 b u q).1 (ne1 b u q).2 z
   ·exact k c v (ne1 c _ w).1 (ne1 c _ w).2 z
noncomputable def Ite (K:PySem.W.Frag) (a:Addr):It :=
 ⟨fun i H=>∃ xs x,SqL K H a xs∧xs[i]? = some x,fun i H y H'=>∃ T x,H T=none∧y = .ref T∧H'=upd H T (.tup [.int (i:Nat),x])∧∀ xs,SqL K H a xs→xs[i]? = some x,fun i H=>∃ xs,SqL K H a xs∧xs.length≤i⟩
theorem turn_enum {P:Program}{w:World}{K:PySem.W.Frag}{elts:List Expr}{x1:Nat}{pos:Pos} (a e it:Addr) (hei:e≠it):Turn P w K (.Tuple elts x1 pos) (Ite K a) [e,it] e (fun i h=>(∃ old,IsEnum h e it i old)∧h.IsListIter it a i) where
 mem:=by simp
 obj:=fun i h st b hb=>by
  obtain⟨⟨old,he⟩,o,ho,c,d⟩:=st;rcases List.mem_cons.mp hb with z | z
  ·subst z;exact⟨_,he,fun v z=>by cases z⟩
  ·have z':b=it:=by simpa using z
   subst z';exact⟨o,ho,fun v z=>by rw[d] at z;cases z⟩
 keep:=fun i h h' st k=>by
  obtain⟨⟨old,he⟩,hit⟩:=st;exact⟨⟨old,k e (by simp) _ he⟩,hit.at fun o q=>k it (by simp) o q⟩
 item:=by
  intro X hP hw hK hc i pins s σ H E I hf st hg;subst hP hw hK;obtain⟨⟨old,he⟩,hit⟩:=st;obtain⟨xs,x,hq,hx⟩:=hg;obtain⟨its,rv,p,hz⟩:=I.list hq;obtain⟨u,hu,ru⟩:=rv.get hx;have fe:=hf e (by simp);have fi:=hf it (by simp);refine wpAny_pyNext_enum_item he hit p.isList (x:=u) (by simpa using hu) hei fun h1 ho hit1 hT hsz k1=>⟨_,rfl,?_⟩
  have helt:e<s.heap.objs.size:=Heap.lt_size he;have hTe:s.heap.objs.size≠e:=Nat.ne_of_gt helt;have hil:it<s.heap.objs.size:=by obtain⟨o,q,_⟩:=hit;exact Heap.lt_size q
  refine wpAny_letOwnedTupleGo_enum ho fun h2 he2 sb=>?_
  have kk:∀ b v,b≠e→b≠it→s.heap.get? b=some v→h2.get? b=some v:=fun b v h1' h2' q=>(sb.2 b h1').trans (k1 b v h1' h2' q)
  have hT2:h2.get? s.heap.objs.size=some { cls := .type "tuple",data := .seq #[.int i s.toks,u] }:=(sb.2 _ hTe).trans hT;refine⟨.ref s.heap.objs.size,upd H s.heap.objs.size (.tup [.int (i:Nat),x]),I.turnedT (t':=s.toks+1) kk fe fi (Nat.le_refl _) ⟨by show 2≤sizeLine;decide,[.int i s.toks,u],.cons ⟨_,rfl⟩ (.cons ru .nil),?_⟩,rfl,⟨_,x,I.hok.fresh (Nat.le_refl _),rfl,rfl,fun ys hy=>by rw[I.list_inj hy hq];exact hx⟩,⟨⟨_,by simpa using he2⟩,?_⟩,fun b hb=>?_⟩
  ·exact⟨_,hT2,rfl,0,rfl⟩
  ·exact hit1.at fun o q=>(sb.2 it hei.symm).trans q
  ·rcases List.mem_cons.mp hb with z | z
   ·subst z;rw[upd_ne (Ne.symm hTe)];exact fe.1
   ·have z':b=it:=by simpa using z
    subst z';rw[upd_ne (Nat.ne_of_lt hil)];exact fi.1
 done:=by
  intro X hP hw hK hc i pins s σ H E I hf st hg;subst hP hw hK;obtain⟨⟨old,he⟩,hit⟩:=st;obtain⟨xs,hq,hx⟩:=hg;obtain⟨its,rv,p,hz⟩:=I.list hq;obtain⟨f0,f1,f2,f3,f4,f5⟩:=hf it (by simp);have hl:=rv.length;exact wpAny_pyNext_enum_end (I.ok.hd hc) he hit p.isList (by simp;omega) fun h' eb=>⟨rfl,I.turned (t':=s.toks) (fun b o hb q=>eb b o hb q) f0 f1 f3 f4 f5⟩
 self:=fun _ _ _ _ _ st h=>by
  obtain⟨⟨old,he⟩,_⟩:=st;exact wpAny_pyIter_enum he h
noncomputable def iEnum (K:PySem.W.Frag) (ta:TA):TI:=fun σ H R=>ta σ H fun vs H1=>∃ a,vs=[.ref a]∧(∃ xs,SqL K H1 a xs)∧R (Ite K a) H1
theorem boot_enum:bootBuiltins "enumerate" = some (.type "enumerate"):=by decide +kernel
theorem pi_enum {X:Cx}{elts:List Expr}{x1:Nat}{p0 p pos:Pos}{a:Expr}{ta:TA} (hg:Gl X "enumerate") (hm:X.mg "enumerate" = none) (ha:PA X [a] ta) (hs:starEach [a] X.env=[(false,eval a X.env)]:=by rfl) :
  PI X (.Tuple elts x1 p0) (.Call (.Name "enumerate" p) [a] [] pos) (iEnum X.K ta):=by
 intro pins s σ H R I h;refine Call_ (ld_blt I hg hm boot_enum (PyProof.Rows.callWith_type1 (thn (ha pos pins s σ H _ I h) fun us s1 ⟨vs,H1,I1,r1,q1⟩=>?_) hs rfl));obtain⟨b,rfl,⟨xs,hq⟩,q⟩:=q1;obtain⟨u,rfl,ru⟩:=vals1 r1;cases (show u=Value.ref b from ru);obtain⟨its,rv,p,hz⟩:=I1.list hq;refine call_enumerate_list p.isList fun h' he hit hsz k=>wpAny_pyIter_enum he ?_
 have I2:Inv X pins σ H1 { s1 with heap:=h' }:=I1.kept (t':=s1.toks) k;have hne:s1.heap.objs.size+1≠s1.heap.objs.size:=Nat.succ_ne_self _;refine⟨s1.heap.objs.size+1,[s1.heap.objs.size+1,s1.heap.objs.size],_,_,H1,rfl,I2,turn_enum b _ _ hne,⟨⟨_,he⟩,hit⟩,fun c hc=>?_,q⟩;have fr:∀ c,s1.heap.objs.size≤c→FpOk X pins H1 c:=fun c hc=>I1.fpOk hc (I1.hok.fresh hc)
 rcases List.mem_cons.mp hc with z | z
 ·subst z;exact fr _ (Nat.le_succ _)
 ·have z':c=s1.heap.objs.size:=by simpa using z
  subst z';exact fr _ (Nat.le_refl _)
theorem comp_enum {K:PySem.W.Frag}{a:Addr}{xs:List V}{g:TG}{tc:TT}{te:TE} {σ:St}{H:Hp}{R:List V→Hp→Addr→Prop} (Pv:Nat→List V→St→Hp→Prop) (h0:Pv 0 [] σ H) (hl:∀ i ys σ H,i≤xs.length→Pv i ys σ H→SqL K H a xs∧ys.length≤i) (hz:xs.length≤sizeLine)
  (hs:∀ i x ys σ H T,xs[i]? = some x→Pv i ys σ H→H T=none→g (.ref T) σ (upd H T (.tup [.int (i:Nat),x])) fun σ2 H2=>tc σ2 H2 fun b H3=>if b=true then te σ2 H3 fun y H4=>Pv (i+1) (ys ++ [y]) σ2 H4 else Pv (i+1) ys σ2 H3)
  (hd:∀ ys σ H,Pv xs.length ys σ H→∀ D,H D=none→R ys H D) :
  ∃ W:Nat→Nat→List V→St→Hp→Prop,(∃ m,W 0 m [] σ H)∧∀ i m ys σ H,W i m ys σ H →
   ((Ite K a).stop i H∧∀ D,H D=none→R ys H D) ∨
   ((Ite K a).go i H∧ys.length<sizeLine∧∃ N:List V→St→Hp→Prop,(∀ ys' σ' H',N ys' σ' H'→∃ m',m'<m∧W (i+1) m' ys' σ' H') ∧
    ∀ x H',(Ite K a).yld i H x H'→g x σ H' fun σ2 H2=>tc σ2 H2 fun b H3=>if b=true then te σ2 H3 fun y H4=>N (ys ++ [y]) σ2 H4 else N ys σ2 H3):=by
 refine⟨fun i m ys σ H=>m=xs.length-i∧i≤xs.length∧Pv i ys σ H,⟨xs.length,by simp,Nat.zero_le _,h0⟩,?_⟩;rintro i m ys σ H ⟨rfl,hi,p⟩;have q:=hl i ys σ H hi p;by_cases hlt:i<xs.length
 ·refine .inr ⟨⟨xs,xs[i],q.1,by simp[hlt]⟩,(by omega),Pv (i+1),fun ys' σ' H' p'=>⟨xs.length-(i+1),by omega,rfl,hlt,p'⟩,fun x H' y=>?_⟩;obtain⟨T,z,hT,rfl,rfl,y⟩:=y;exact hs i z ys σ _ T (y xs q.1) p hT
 ·have e:i=xs.length:=by omega
  subst e;exact .inl ⟨⟨xs,q.1,Nat.le_refl _⟩,hd ys σ H p⟩
end L2
namespace L2
open PySem PySem.Spec PyProof.Rows
theorem lk_list_keys:typeLookup (.type "list") "keys" = pure none:=by rw[typeLookup_type,builtinLookup_eq_fast];kernel_rfl
section
variable {prog:Program}{w:World}{A:Around}{E:Value→Shared→Prop}{s:Shared}{a:Addr}
theorem noKeys {its:Array Value}{n:Nat}{sl:Array (Option Value)}{Q:Option Value→Shared→Prop} (hx:s.heap.get? a=some { cls := .type "list",dict:=none,data := .seq its n,slots:=sl }) (hA:A.handled=none)
  (h:∀ h' tk e,Heap.NewExcOf s.heap h' e "AttributeError" → Q none { s with heap:=h',toks:=tk }):wpAny (model prog w) A (getAttr? (.ref a) "keys") Q E s:=by
 obtain⟨hp,g,d,tk,os⟩:=s;have hT:∀ tk',(⟨hp,g,d,tk',os⟩:Shared).TypeIs (.ref a) "list" := fun _=>⟨_,hx,rfl⟩
 have f1:=sub_AttributeError;have f3:=PySem.F.slot_list_getattribute.lookup;have f4:=PySem.F.slot_list_getattribute.bind (.ref a);have f5:=am_list_getattr_none;unfold getAttr? getAttrBy? getAttrBy;repeat (any_goals (first | assumption | exact hT _ | ((with_reducible show wpAny _ _ (call (Value.builtin "list.__getattribute__") _ _) _ _ _);refine call_meets PySem.F.slot_list_getattribute (hT _) am_entry_list_getattribute (PySem.F.args_list_getattribute_2 _ _) (meets_getattribute_miss_list a its n sl "keys" _ lk_list_keys (by decide +kernel) (by decide +kernel)) ⟨hx,hA,fun h' tk' e hx'=>?_⟩) | wp_step))
 obtain⟨t',u',he⟩:=hx'.there;show wpAny _ _ (getattributeRaised _ _ _ _ _ _ _) _ _ _;unfold getattributeRaised;repeat (any_goals (first | assumption | wp_step))
 exact h _ _ _ hx'.of
end
theorem entry_upd_loop:entryFor table "dict.update.loop" = some Builtin.«dict.update.loop» := entryFor_of_tree (by kernel_rfl)
noncomputable def fillI (d:OF.Terms) (l:OF.Terms):OF.Terms:=l.foldl (fun d t=>OF.putI d t.1 t.2) d
section
variable {X:Cx}{pins:List (Addr × Obj)} {σ:St}{H:Hp}
theorem dict_loop {A:Around}{R:Result→Shared→Prop}{l it d:Addr}{ps:List Addr}{tt:OF.Terms} (hh:A.handled=none) (hS:∀ o,SqL X.K (upd H d o) l (ps.map V.ref)) (hP:∀ o,Tups (upd H d o) ps tt) (hF:∀ o,FpOk X pins (upd H d o) it) (hds:(d == sysModules)=false) :
  ∀ (r i:Nat) (kv:OF.Terms) (s:Shared),i+r=tt.length→kv.length+r<sizeLine→Inv X pins σ (upd H d (.dK (kv.map encP))) s→s.heap.IsListIter it l i →
   (∀ s',Inv X pins σ (upd H d (.dK ((fillI kv (tt.drop i)).map encP))) s'→R (.ok (.ret .none)) s') →
   codeAny (model X.prog X.w) A (.builtin "dict.update.loop" ⟨[.ref d,.ref it,rawInt i,.none],[]⟩) R s:=by
 intro r;induction r with
 | zero =>
  intro i kv s hi hz I st q;obtain⟨its,rv,p,hz2⟩:=I.list (hS _);have hl:=rv.length;have hl2:=(hP (.dK (kv.map encP))).length;rw[List.length_map] at hl;obtain⟨f0,f1,f2,f3,f4,f5⟩:=hF (.dK (kv.map encP));refine codeAny_builtin entry_upd_loop ?_;show wpAny _ _ (pyNext (.ref it) >>= _) _ _ _;refine wpAny_bind (wpAny_pyNext_list_end (A:=A.under _) hh st p.isList (by simp;omega) fun h' eb=>?_);refine wpAny_bind (m:=Builtin.Dict.addKeywords d []) (wpAny_pure (wpAny_pure ?_));have I':Inv X pins σ (upd H d (.dK (kv.map encP))) { s with heap:=h' }:=I.turned (t':=s.toks) (fun b o hb e=>eb b o hb e) f0 f1 f3 f4 f5;refine q _ ?_;rw[List.drop_eq_nil_of_le (by omega)];exact I'
 | succ r ih =>
  intro i kv s hi hz I st q;obtain⟨its,rv,p,hz2⟩:=I.list (hS _);have hl2:=(hP (.dK (kv.map encP))).length;have hil:i<tt.length:=by omega
  obtain⟨pa,hpa,hpt⟩:=(hP (.dK (kv.map encP))).at (i:=i) (t:=tt[i]) (by simp[hil]);obtain⟨u,hu,ru⟩:=rv.get (i:=i) (x:=V.ref pa) (by rw[List.getElem?_map,hpa];rfl);cases (show u=Value.ref pa from ru);obtain⟨f0,f1,f2,f3,f4,f5⟩:=hF (.dK (kv.map encP));refine codeAny_builtin entry_upd_loop ?_;show wpAny _ _ (pyNext (.ref it) >>= _) _ _ _;refine wpAny_bind (wpAny_pyNext_list_item st p.isList (x := .ref pa) (by simpa using hu) fun h1 st1 sb=>?_);have I1:Inv X pins σ (upd H d (.dK (kv.map encP))) { s with heap:=h1 }:=I.turned (t':=s.toks) (fun b o hb e=>(sb.2 b hb).trans e) f0 f1 f3 f4 f5;obtain⟨_,its2,r2,t2⟩:=(show ObjOk X.prog X.w _ h1 pa (.tup _) from I1.hok pa _ hpt);obtain⟨x1,x2,rfl⟩:=vals_two r2;obtain⟨ot,ht1,ht2,nt,ht3⟩:=id t2;dsimp only;refine wpAny_bind (wpAny_holding (wpAny_bind (wpAny_tryCatch ?_)));unfold Builtin.Dict.pairItems;refine wpAny_bind (wpAny_typeOf (T := "tuple") ⟨ot,ht1,ht2⟩ ?_);rw[if_pos (by decide)];refine wpAny_bind (wpAny_seqItems ht1 ht3 (wpAny_pure ?_));show wpAny _ _ (holding [Value.int tt[i].1 x1,Value.int tt[i].2 x2] (dictSet d (Value.int tt[i].1 x1) (Value.int tt[i].2 x2))) _ _ _;refine wpAny_holding ?_;obtain⟨z,hd,vs,rel,dd⟩:=dk_of I1.hok (show upd H d (.dK (kv.map encP)) d=some (.dK (kv.map encP)) from upd_same);have hvl:=rel.length;rw[List.length_map] at hvl;refine wpAny_dictSet_pairs (knd:=mixKind X.prog X.w) (k:=Sum.inl tt[i].1) (mixKind_int _ _ _ _) dd (fun h2 dd2 hs2=>?_) (by omega);have hlp:=OF.length_put kv tt[i].1 tt[i].2;have I2:Inv X pins σ (upd (upd H d (.dK (kv.map encP))) d (.dK ((OF.putI kv tt[i].1 tt[i].2).map encP))) { s with heap:=h2,toks:=s.toks+1 }:=by
   refine d_write (s:={ s with heap:=h1 }) I1 (by rw[upd_same];exact True.intro) hs2 (let ⟨q,_,_,hq,_⟩:=dd2; ⟨q,hq⟩) (dk_new (by rw[List.length_map];omega) hd ?_ dd2);rw[← putK_enc];exact rel.put (Sum.inl tt[i].1) ⟨x2,rfl⟩
  rw[upd_upd] at I2;refine wpAny_pure ⟨Code.quiet_builtin _ (by decide +kernel),?_⟩;have hdi:it≠d:=by
   intro z
   have:=(hF (.dK (kv.map encP))).1
   rw[z,upd_same] at this;cases this
  have st2:h2.IsListIter it l (i+1):=st1.at fun o e=>(hs2.2 it hdi).trans e
  show codeAny _ _ (.builtin "dict.update.loop" ⟨[.ref d,.ref it,rawInt ((i:Int)+1),.none],[]⟩) _ _
  have:=ih (i+1) (OF.putI kv tt[i].1 tt[i].2) _ (by omega) (by omega) I2 st2 fun s' I'=>q s' (by
   have e:tt.drop i=tt[i] :: tt.drop (i+1):=List.drop_eq_getElem_cons hil;rw[e];exact I')
  simpa using this
theorem call_dict_of (hc:X.calm=true):CallR X (.type "dict") (fun xs H Q=>∃ (a:Addr) (l:OF.Terms),xs=[.ref a]∧TL X.K H a l∧l.length≤1000000∧∀ d,H d=none→Q (.ref d) (upd H d (.dK ((fillI [] l).map encP)))):=by
 intro pins s σ H xs us Q I r h;obtain⟨a,l,rfl,⟨ps,hS,hP⟩,hz,q⟩:=h;obtain⟨u,rfl,ru⟩:=vals1 r;cases (show u=Value.ref a from ru);have hA:X.A.handled=none:=I.ok.hd hc;refine callType_codes (Q₁:=fun obj s₁=>obj = .ref s.heap.objs.size∧s₁={ s with heap:=s.heap.push { cls := .type "dict",data := .dict #[] } }) PySem.F.kt_called_dict (PySem.F.kt_typeCall_dict_1 _) PySem.F.entry_dict_init (kt_code_dict_new _ ⟨rfl,rfl⟩) ?_;rintro obj s₁ ⟨rfl,rfl⟩;have hnew:(s.heap.push { cls := .type "dict",data := .dict #[] }).DictOf (mixKind X.prog X.w) s.heap.objs.size []:=Heap.DictOf.new s.heap;have I1:Inv X pins σ (upd H s.heap.objs.size (.dK [])) { s with heap:=s.heap.push { cls := .type "dict",data := .dict #[] } } :=
  I.laid (a:=s.heap.objs.size) (o := .dK []) (t':=s.toks) (fun _ _ q=>Heap.get?_push_of_some _ q) (Nat.le_refl _) (dk_empty s.heap I.big)
 have hn:H s.heap.objs.size=none:=I.hok.fresh (Nat.le_refl _);have hds:(s.heap.objs.size == sysModules)=false:=(dk_of I1.hok upd_same).2.1;have hS1:∀ o,SqL X.K (upd H s.heap.objs.size o) a (ps.map V.ref):=fun o=>(Same.upd hn).seq hS
 have hP1:∀ o,Tups (upd H s.heap.objs.size o) ps l:=fun o=>hP.keep fun b xs z=>Same.upd hn b _ z
 generalize hd0:s.heap.objs.size=d at *;refine⟨hnew.typeIs,PySem.F.args_dict_init_2 _ _,?_⟩;unfold Builtin.«dict.__init__»;refine wpAny_bind ?_;unfold Builtin.Dict.selfAndRest;refine wpAny_bind (wpAny_notOrdered_dict hnew.typeIs ?_);show wpAny _ _ (pure (d,[Value.ref a])) _ _ _;refine wpAny_pure ?_;show wpAny _ _ (Builtin.Dict.updateFrom "dict.__init__" d (.ref a) [] .none) _ _ _;unfold Builtin.Dict.updateFrom;obtain⟨its,rv,p,hz2⟩:=I1.list (hS1 _);obtain⟨ol,nl,hl1,hl2,hl3,hl4⟩:=id p;refine wpAny_bind (wpAny_typeOf (T := "list") ⟨ol,hl1,hl2⟩ ?_);rw[if_pos (by decide)];obtain⟨oc,od,odt,osl⟩:=ol;dsimp only at hl2 hl3 hl4;subst hl2 hl3 hl4;refine wpAny_bind (noKeys hl1 hA fun h2 tk e ne=>?_);have I2:Inv X pins σ (upd H d (.dK [])) { s with heap:=h2,toks:=tk }:=I1.kept (t':=tk) fun b o q=>ne.keeps b o q
 obtain⟨its2,rv2,p2,_⟩:=I2.list (hS1 _);rw[if_pos (by rfl)];refine wpAny_bind (wpAny_rule (wpAny_bind (wpAny_pyIter_list p2.isList ?_)));have I3:Inv X pins σ (upd H d (.dK [])) { s with heap:=h2.push { cls := .type "list_iterator",data := .fields #[.ref a,.int 0 0] },toks:=tk }:=I2.kept (t':=tk) fun b o q=>Heap.get?_push_of_some _ q
 have hfr:(upd H d (.dK [])) h2.objs.size=none:=I2.hok.fresh (Nat.le_refl _);have hid:h2.objs.size≠d:=fun z=>by rw[z,upd_same] at hfr;cases hfr
 refine wpAny_pure ⟨Code.quiet_builtin _ (by decide +kernel),?_⟩;show codeAny _ _ (.builtin "dict.update.loop" ⟨[.ref d,.ref h2.objs.size,rawInt ((0:Nat):Int),.none],[]⟩) _ _;refine dict_loop (A:=X.A.in1) (it:=h2.objs.size) hA hS1 hP1 (fun o=>?_) hds l.length 0 [] _ (by omega) ?_ I3 ⟨_,Heap.get?_push_size _ rfl,rfl,rfl⟩ fun s' I'=>?_
 ·have hH:H h2.objs.size=none:=by rw[upd_ne hid] at hfr;exact hfr
  exact I2.fpOk (s:={ s with heap:=h2,toks:=tk }) (Nat.le_refl _) (by rw[upd_ne hid];exact hH)
 ·have:(1000000:Nat)<sizeLine:=by decide
  simp;omega
 ·rw[List.drop_zero] at I';exact⟨rfl,⟨.ref d,_,I',rfl,q d hn⟩⟩
end
end L2
namespace OF
open PySem
noncomputable def opB (s:Int) (j:Nat) (v:Nat→Int):Nat→Int:=fun g=>v g+if g.testBit j then s * v (g-2^j) else 0
theorem sub_eq_xor {g j:Nat} (h:g.testBit j=true):g-2^j=g ^^^ 2^j:=by
 have h1:(g ^^^ 2^j) / 2^j % 2=0:=by
  have:(g ^^^ 2^j).testBit j=false:=by rw[Nat.testBit_xor,h,Nat.testBit_two_pow_self];rfl
  rw[Nat.testBit_eq_decide_div_mod_eq] at this
  have:=of_decide_eq_false this
  omega
 have h2:=add_pow_of_nobit h1;have h3:(g ^^^ 2^j) ||| 2^j=g:=by
  apply Nat.eq_of_testBit_eq;intro i;rw[Nat.testBit_or,Nat.testBit_xor,Nat.testBit_two_pow];by_cases e:j=i
  ·subst e;simp[h]
  ·simp[e]
 omega
theorem sub_bit {g j:Nat} (h:g.testBit j=true) (i:Nat):(g-2^j).testBit i=(g.testBit i && decide (i≠j)):=by
 rw[sub_eq_xor h,Nat.testBit_xor,Nat.testBit_two_pow];by_cases e:j=i
 ·subst e;simp[h]
 ·have e':¬ i=j:=fun z=>e z.symm
  simp[e,e']
theorem opB_comm (s t:Int) {i j:Nat} (hij:i≠j) (v:Nat→Int):opB s i (opB t j v)=opB t j (opB s i v):=by
 funext g
 unfold opB;by_cases hi:g.testBit i=true <;> by_cases hj:g.testBit j=true
 ·have a1:(g-2^i).testBit j=true:=by rw[sub_bit hi,hj];simp[Ne.symm hij]
  have a2:(g-2^j).testBit i=true:=by rw[sub_bit hj,hi];simp[hij]
  have a3:g-2^i-2^j=g-2^j-2^i:=by omega
  simp only[hi,hj,a1,a2,a3,if_true];generalize v (g-2^j-2^i)=w;rw[Int.mul_add,Int.mul_add,Int.mul_left_comm s t w];omega
 ·have a1:(g-2^i).testBit j=false:=by rw[sub_bit hi];simp[hj]
  simp[hi,hj,a1]
 ·have a2:(g-2^j).testBit i=false:=by rw[sub_bit hj];simp[hi]
  simp[hi,hj,a2]
 ·simp[hi,hj]
theorem opB_inv (j:Nat) (v:Nat→Int):opB 1 j (opB (-1) j v)=v:=by
 funext g
 unfold opB;by_cases hj:g.testBit j=true
 ·have a1:(g-2^j).testBit j=false:=by rw[sub_bit hj];simp
  rw[if_pos hj,if_pos hj,a1];simp;omega
 ·simp[hj]
theorem opB_inv' (j:Nat) (v:Nat→Int):opB (-1) j (opB 1 j v)=v:=by
 funext g
 unfold opB;by_cases hj:g.testBit j=true
 ·have a1:(g-2^j).testBit j=false:=by rw[sub_bit hj];simp
  rw[if_pos hj,if_pos hj,a1];simp;omega
 ·simp[hj]
noncomputable def zet (s:Int) (v:Nat→Int):Nat→Nat→Int
 | 0=>v
 | m+1=>opB s m (zet s v m)
theorem zet_op (s t:Int) (v:Nat→Int):∀ (m j:Nat),m≤j→zet s (opB t j v) m=opB t j (zet s v m)
 | 0,_,_=>rfl
 | m+1,j,h=>by
  show opB s m (zet s (opB t j v) m)=opB t j (opB s m (zet s v m));rw[zet_op s t v m j (by omega),opB_comm s t (by omega)]
theorem zet_zet (s t:Int) (h:∀ j v,opB s j (opB t j v)=v) (v:Nat→Int):∀ m,zet s (zet t v m) m=v
 | 0=>rfl
 | m+1=>by
  show opB s m (zet s (opB t m (zet t v m)) m)=v;rw[zet_op s t _ m m (Nat.le_refl _),zet_zet s t h v m,h]
theorem opB_add (s:Int) (j:Nat) (v w:Nat→Int):opB s j (fun g=>v g+w g)=fun g=>opB s j v g+opB s j w g:=by
 funext g
 show v g+w g+(if g.testBit j then s * (v (g-2^j)+w (g-2^j)) else 0)=(v g+if g.testBit j then s * v (g-2^j) else 0)+(w g+if g.testBit j then s * w (g-2^j) else 0);split
 ·rw[Int.mul_add];omega
 ·omega
theorem zet_add (s:Int) (v w:Nat→Int):∀ m,zet s (fun g=>v g+w g) m=fun g=>zet s v m g+zet s w m g
 | 0=>rfl
 | m+1=>by
  show opB s m (zet s (fun g=>v g+w g) m)=_;rw[zet_add s v w m,opB_add];rfl
theorem zet_zero (s:Int):∀ m,zet s (fun _=>0) m=fun _=>0
 | 0=>rfl
 | m+1=>by
  show opB s m (zet s (fun _=>0) m)=_;rw[zet_zero s m];funext g;unfold opB;split <;> simp
noncomputable def SubJ (a g j:Nat):Prop:=(∀ i,i<j→a.testBit i=true→g.testBit i=true)∧∀ i,j≤i→a.testBit i=g.testBit i
open Classical in
theorem zet_delta (a:Nat) (c:Int):∀ (j g:Nat),zet 1 (fun k=>if k=a then c else 0) j g=if SubJ a g j then c else 0
 | 0,g=>by
  have h:SubJ a g 0↔g=a:=by
   constructor
   ·intro h;apply Nat.eq_of_testBit_eq;intro i;exact (h.2 i (Nat.zero_le _)).symm
   ·intro h;subst h;exact⟨fun i hi=>by omega,fun _ _=>rfl⟩
  show (if g=a then c else 0)=_;by_cases e:g=a
  ·rw[if_pos e,if_pos (h.mpr e)]
  ·rw[if_neg e,if_neg (fun z=>e (h.mp z))]
 | j+1,g=>by
  show opB 1 j (zet 1 (fun k=>if k=a then c else 0) j) g=_;unfold opB;rw[zet_delta a c j g];by_cases hg:g.testBit j=true
  ·rw[if_pos hg,zet_delta a c j (g-2^j),Int.one_mul];by_cases ha:a.testBit j=true
   ·have n2:¬ SubJ a (g-2^j) j:=fun z=>by
     have:=z.2 j (Nat.le_refl _)
     rw[sub_bit hg,ha] at this;simp at this
    have e:SubJ a g j↔SubJ a g (j+1):=by
     constructor
     ·intro z;refine⟨fun i hi h=>?_,fun i hi=>z.2 i (by omega)⟩;by_cases q:i<j
      ·exact z.1 i q h
      ·rw[← z.2 i (by omega)];exact h
     ·intro z;refine⟨fun i hi h=>z.1 i (by omega) h,fun i hi=>?_⟩;by_cases q:i=j
      ·subst q;rw[ha,hg]
      ·exact z.2 i (by omega)
    rw[if_neg n2];by_cases q:SubJ a g j
    ·rw[if_pos q,if_pos (e.mp q)];omega
    ·rw[if_neg q,if_neg (fun z=>q (e.mpr z))];omega
   ·have n1:¬ SubJ a g j:=fun z=>by
     have:=z.2 j (Nat.le_refl _)
     rw[hg] at this;exact ha this
    have e:SubJ a (g-2^j) j↔SubJ a g (j+1):=by
     constructor
     ·intro z;refine⟨fun i hi h=>?_,fun i hi=>?_⟩
      ·by_cases q:i<j
       ·have:=z.1 i q h
        rw[sub_bit hg] at this;simp at this;exact this.1
       ·have:i=j:=by omega
        subst this;exact hg
      ·have:=z.2 i (by omega)
       rw[sub_bit hg] at this;rw[this];simp;omega
     ·intro z;refine⟨fun i hi h=>?_,fun i hi=>?_⟩
      ·rw[sub_bit hg,z.1 i (by omega) h];simp;omega
      ·rw[sub_bit hg];by_cases q:i=j
       ·subst q;simp[ha]
       ·rw[z.2 i (by omega)];simp[q]
    rw[if_neg n1];by_cases q:SubJ a (g-2^j) j
    ·rw[if_pos q,if_pos (e.mp q)];omega
    ·rw[if_neg q,if_neg (fun z=>q (e.mpr z))];omega
  ·rw[if_neg hg,Int.add_zero];have e:SubJ a g j↔SubJ a g (j+1):=by
    constructor
    ·intro z;refine⟨fun i hi h=>?_,fun i hi=>z.2 i (by omega)⟩;by_cases q:i<j
     ·exact z.1 i q h
     ·rw[← z.2 i (by omega)];exact h
    ·intro z;refine⟨fun i hi h=>z.1 i (by omega) h,fun i hi=>?_⟩;by_cases q:i=j
     ·subst q;cases ha:a.testBit i with
      | true=>exact absurd (z.1 i (by omega) ha) hg
      | false=>simpa using hg
     ·exact z.2 i (by omega)
   by_cases q:SubJ a g j
   ·rw[if_pos q,if_pos (e.mp q)]
   ·rw[if_neg q,if_neg (fun z=>q (e.mpr z))]
theorem subJ_and {a g m:Nat} (ha:a<2^m) (hg:g<2^m):SubJ a g m↔a &&& g=a:=by
 have hi:∀ {x:Nat},x<2^m→∀ i,m≤i→x.testBit i=false:=fun hx i h=>Nat.testBit_lt_two_pow (Nat.lt_of_lt_of_le hx (Nat.pow_le_pow_right (by decide) h))
 constructor
 ·intro z;apply Nat.eq_of_testBit_eq;intro i;rw[Nat.testBit_and];by_cases q:i<m
  ·cases h:a.testBit i with
   | true=>rw[z.1 i q h];rfl
   | false=>rfl
  ·rw[hi ha i (by omega),hi hg i (by omega)];rfl
 ·intro z;refine⟨fun i _ h=>?_,fun i h=>by rw[hi ha i h,hi hg i h]⟩
  have:=congrArg (fun x=>x.testBit i) z
  simp only[Nat.testBit_and,h] at this;simpa using this
theorem zet_worth {m:Nat}:∀ {l:Terms},(∀ t∈l,0≤t.1∧t.1<2^m)→∀ g,g<2^m→zet 1 (fun k=>coef l (k:Int)) m g=worthL l (g:Int)
 | [],_,g,_=>by
  show zet 1 (fun _=>0) m g=0;rw[zet_zero]
 | t :: r,h,g,hg=>by
  have ih:=zet_worth (l:=r) (fun u hu=>h u (by simp[hu])) g hg;obtain⟨h0,h1⟩:=h t (by simp);obtain⟨a,ha⟩:=Int.eq_ofNat_of_zero_le h0;have ha2:a<2^m:=by
   rw[ha] at h1;have e:((2^m:Nat):Int)=(2:Int)^m:=by norm_cast
   omega
  have e1:(fun k:Nat=>coef (t :: r) (k:Int))=fun k=>(if k=a then t.2 else 0)+coef r (k:Int):=by
   funext k
   rw[coef,ha];by_cases q:k=a
   ·rw[if_pos q,if_pos (by omega)]
   ·rw[if_neg q,if_neg (by omega)]
  rw[e1,zet_add];show zet 1 (fun k=>if k=a then t.2 else 0) m g+zet 1 (fun k=>coef r (k:Int)) m g=_;rw[zet_delta,ih,worth_lin,worth_lin,lin,phi,ha,bitAnd_nat];have e2:=subJ_and ha2 hg;by_cases q:a &&& g=a
  ·rw[if_pos (e2.mpr q),if_pos (by omega),Int.one_mul]
  ·rw[if_neg (fun z=>q (e2.mp z)),if_neg (by omega),Int.zero_mul]
noncomputable def getN (ns:List Int) (p:Nat):Int:=ns.getD p 0
noncomputable def onceL (s:Int) (j:Nat) (ns:List Int):List Int:=(List.range ns.length).map (opB s j (getN ns))
theorem onceL_len (s:Int) (j:Nat) (ns:List Int):(onceL s j ns).length=ns.length:=by unfold onceL;simp
theorem getN_map {n:Nat} (v:Nat→Int) {p:Nat} (h:p<n):getN ((List.range n).map v) p=v p:=by
 unfold getN;rw[List.getD_eq_getElem?_getD,List.getElem?_map,List.getElem?_range h];rfl
theorem opB_congr {s:Int}{j n:Nat}{v w:Nat→Int} (h:∀ p,p<n→v p=w p) {g:Nat} (hg:g<n):opB s j v g=opB s j w g:=by
 unfold opB;rw[h g hg,h (g-2^j) (Nat.lt_of_le_of_lt (Nat.sub_le _ _) hg)]
theorem onceL_map (s:Int) (j n:Nat) (v:Nat→Int):onceL s j ((List.range n).map v)=(List.range n).map (opB s j v):=by
 unfold onceL;rw[List.length_map,List.length_range];refine List.map_congr_left fun p hp=>?_
 have hp':=List.mem_range.mp hp;exact opB_congr (n:=n) (fun q hq=>getN_map v hq) hp'
theorem list_as_map (ns:List Int):ns=(List.range ns.length).map (getN ns):=by
 refine List.ext_getElem (by simp) fun i h1 h2=>?_
 simp[getN,h1]
noncomputable def zetL (s:Int) (ns:List Int):Nat→List Int
 | 0=>ns
 | j+1=>onceL s j (zetL s ns j)
theorem zetL_map (s:Int) (n:Nat) (v:Nat→Int):∀ j,zetL s ((List.range n).map v) j=(List.range n).map (zet s v j)
 | 0=>rfl
 | j+1=>by rw[zetL,zetL_map s n v j,onceL_map];rfl
theorem zetL_len (s:Int) (ns:List Int):∀ j,(zetL s ns j).length=ns.length
 | 0=>rfl
 | j+1=>by rw[zetL,onceL_len,zetL_len s ns j]
theorem look_fill:∀ (l d:Terms),(l.map (·.1)).Nodup→(∀ t∈l,look d t.1=none)→∀ k,look (L2.fillI d l) k=(look l k).or (look d k)
 | [],d,_,_,k=>by simp[L2.fillI,look]
 | t :: r,d,hn,hd,k=>by
  rw[List.map_cons,List.nodup_cons] at hn;have e:L2.fillI d (t :: r)=L2.fillI (putI d t.1 t.2) r:=rfl;have hne:∀ u∈r,¬ u.1=t.1:=fun u hu z=>hn.1 (List.mem_map.mpr ⟨u,hu,z⟩)
  rw[e,look_fill r _ hn.2 (fun u hu=>by rw[look_put,if_neg (hne u hu)];exact hd u (by simp[hu])),look_put,look];by_cases q:t.1=k
  ·have hr:look r k=none:=by
    cases z:look r k with
    | none=>rfl
    | some x =>
     obtain⟨u,hu,eu⟩:=List.mem_map.mp (look_mem.mp (by rw[z];simp));exact absurd (eu.trans q.symm) (hne u hu)
   rw[hr,if_pos q.symm,if_pos q];rfl
  ·rw[if_neg (fun z=>q z.symm),if_neg q]
theorem look_coef:∀ {l:Terms},(l.map (·.1)).Nodup→∀ k,(look l k).getD 0=coef l k
 | [],_,_=>rfl
 | t :: r,hn,k=>by
  rw[List.map_cons,List.nodup_cons] at hn;have ih:=look_coef hn.2 k;rw[look,coef];by_cases q:t.1=k
  ·have hr:coef r k=0:=coef_none r k fun p hp z=>hn.1 (List.mem_map.mpr ⟨p,hp,z.trans q.symm⟩)
   rw[if_pos q,if_pos q,hr];simp
  ·rw[if_neg q,if_neg q,ih];omega
theorem form_nodup {f:Terms} (h:IsForm f):(f.map (·.1)).Nodup:=by
 rw[List.Nodup,List.pairwise_map];exact h.rise.imp fun h=>by omega
theorem fill_coef {f:Terms} (h:IsForm f) (k:Int):getI (L2.fillI [] f) k=coef f k:=by
 unfold getI;rw[look_fill f [] (form_nodup h) (fun _ _=>rfl),← look_coef (form_nodup h) k];cases look f k <;> rfl
noncomputable def pc (n:Nat):Nat:=if h:n=0 then 0 else n % 2+pc (n / 2)
termination_by n
decreasing_by omega
theorem pc_zero:pc 0=0:=by rw[pc];rfl
theorem pc_pos {n:Nat} (h:n≠0):pc n=n % 2+pc (n / 2):=by rw[pc,dif_neg h]
theorem pc_two (b e:Nat) (he:e<2):pc (2 * b+e)=e+pc b:=by
 by_cases h:2 * b+e=0
 ·have:b=0:=by omega
  have:e=0:=by omega
  subst b e;rw[pc_zero]
 ·rw[pc_pos h,show (2 * b+e) % 2=e by omega,show (2 * b+e) / 2=b by omega]
theorem and_two (b c e f:Nat) (he:e<2) (hf:f<2):(2 * b+e) &&& (2 * c+f)=2 * (b &&& c)+e * f:=by
 apply Nat.eq_of_testBit_eq;intro i;have hef:e * f<2:=by
  have:e=0∨e=1:=by omega
  have:f=0∨f=1:=by omega
  rcases ‹e=0∨e=1› with rfl | rfl <;> rcases ‹f=0∨f=1› with rfl | rfl <;> decide
 cases i with
 | zero =>
  rw[Nat.testBit_and,Nat.testBit_zero,Nat.testBit_zero,Nat.testBit_zero,show (2 * b+e) % 2=e by omega,show (2 * c+f) % 2=f by omega,show (2 * (b &&& c)+e * f) % 2=e * f by omega]
  have:e=0∨e=1:=by omega
  have:f=0∨f=1:=by omega
  rcases ‹e=0∨e=1› with rfl | rfl <;> rcases ‹f=0∨f=1› with rfl | rfl <;> decide
 | succ i =>
  rw[Nat.testBit_and,Nat.testBit_succ,Nat.testBit_succ,Nat.testBit_succ,show (2 * b+e) / 2=b by omega,show (2 * c+f) / 2=c by omega,show (2 * (b &&& c)+e * f) / 2=b &&& c by omega,Nat.testBit_and]
theorem low_off:∀ (n a:Nat),a≤n→a≠0→(a &&& (a-1))<a∧pc (a &&& (a-1))+1=pc a
 | 0,a,h,h0=>by omega
 | n+1,a,h,h0=>by
  obtain⟨b,e,he,rfl⟩:∃ b e,e<2∧a=2 * b+e:=⟨a / 2,a % 2,by omega,by omega⟩
  have:e=0∨e=1:=by omega
  rcases this with rfl | rfl
  ·have hb:b≠0:=by omega
   obtain⟨h1,h2⟩:=low_off n b (by omega) hb;rw[show 2 * b+0-1=2 * (b-1)+1 by omega,and_two b (b-1) 0 1 (by decide) (by decide),pc_two b 0 (by decide)]
   have:=pc_two (b &&& (b-1)) 0 (by decide)
   simp only[Nat.zero_mul,Nat.add_zero,Nat.zero_add] at *;omega
  ·have e1:=and_two b b 1 0 (by decide) (by decide);rw[Nat.and_self] at e1;rw[show 2 * b+1-1=2 * b+0 by omega,e1,pc_two b 1 (by decide)]
   have:=pc_two b 0 (by decide)
   simp only[Nat.mul_zero,Nat.add_zero] at *;omega
theorem pc_le:∀ (m a:Nat),a<2^m→pc a≤m
 | 0,a,h=>by
  have:a=0:=by simpa using h
  subst this;rw[pc_zero];exact Nat.le_refl _
 | m+1,a,h=>by
  by_cases h0:a=0
  ·subst h0;rw[pc_zero];omega
  ·rw[pc_pos h0]
   have:=pc_le m (a / 2) (by rw[Nat.pow_succ] at h;omega)
   omega
noncomputable def wsum (m:Nat) (l:Terms):Int:=(l.map fun t=>t.2 * 2^(m-pc t.1.toNat)).sum
theorem sum_add (f g:Nat→Int):∀ l:List Nat,(l.map fun x=>f x+g x).sum=(l.map f).sum+(l.map g).sum
 | []=>rfl
 | x :: r=>by simp only[List.map_cons,List.sum_cons,sum_add f g r];omega
theorem and_pow (i j:Nat):i &&& 2^j=if i.testBit j then 2^j else 0:=by
 apply Nat.eq_of_testBit_eq;intro k;rw[Nat.testBit_and,Nat.testBit_two_pow];by_cases e:j=k
 ·subst e;cases h:i.testBit j <;> simp
 ·cases h:i.testBit j <;> simp[e]
end OF
namespace My
open PySem L2 OF
theorem tt {σ:St}{H:Hp}{F G:Hp→Prop} (h:F H):tTrue σ H fun b H3=>if b=true then F H3 else G H3:=by
 show (if true=true then F H else G H);rw[if_pos rfl];exact h
theorem dep_ints:∀ ns:List Int,depL (ns.map D.int)=0
 | []=>rfl
 | n :: r=>by rw[List.map_cons,depL,dep_ints r];rfl
end My
namespace L2
open PySem OF
noncomputable def enumT (ns:List Int):Terms:=(List.range ns.length).map fun i:Nat=>((i:Int),getN ns i)
theorem coef_run (v:Nat→Int) (k:Int):∀ n:Nat,coef ((List.range n).map fun i:Nat=>((i:Int),v i)) k=if 0≤k∧k<(n:Int) then v k.toNat else 0
 | 0=>by
  rw[if_neg (by omega)];rfl
 | n+1=>by
  rw[List.range_succ,List.map_append];show coef (_ ++ [((n:Int),v n)]) k=_;rw[coef_snoc,coef_run v k n];by_cases h:(n:Int)=k
  ·rw[if_neg (by omega),if_pos h,if_pos (by omega),← h];simp
  ·by_cases h2:0≤k∧k<(n:Int)
   ·rw[if_pos h2,if_neg h,if_pos (by omega)];simp
   ·rw[if_neg h2,if_neg h,if_neg (by omega)];rfl
theorem enumT_map (n:Nat) (v:Nat→Int):enumT ((List.range n).map v)=(List.range n).map fun i:Nat=>((i:Int),v i):=by
 unfold enumT;rw[List.length_map,List.length_range];exact List.map_congr_left fun i hi=>by rw[getN_map v (List.mem_range.mp hi)]
theorem form_worths {m:Nat}{f l:Terms} (hl:∀ t∈l,0≤t.1∧t.1<2^m) {ns:List Int} (hn:ns=(List.range (2^m)).map fun g:Nat=>worthL l (g:Int)) (h:FormOf f (enumT (zetL (-1) ns m))) (k:Int):coef f k=coef l k:=by
 have e1:ns=(List.range (2^m)).map (zet 1 (fun k=>coef l (k:Int)) m):=by
  rw[hn];exact List.map_congr_left fun g hg=>(zet_worth hl g (List.mem_range.mp hg)).symm
 rw[h.val k,e1,zetL_map,zet_zet (-1) 1 opB_inv' _ m,enumT_map,coef_run];have pw:((2^m:Nat):Int)=(2:Int)^m:=by norm_cast
 split
 ·rename_i z;rw[Int.toNat_of_nonneg z.1]
 ·rename_i z;refine (coef_none l k fun p hp e=>z ?_).symm
  have:=hl p hp
  rw[← e,pw];exact this
theorem form_table {m:Nat}{f:Terms}{ns:List Int} (hn:ns.length=2^m) (h:FormOf f (enumT (zetL (-1) ns m))):(∀ t∈f,0≤t.1∧t.1<2^m)∧(ns=(List.range (2^m)).map fun g:Nat=>worthL f (g:Int))∧zetL 1 ((List.range (2^m)).map fun k:Nat=>coef f (k:Int)) m=ns:=by
 have e0:ns=(List.range (2^m)).map (getN ns):=by rw[← hn];exact list_as_map ns
 have pw:((2^m:Nat):Int)=(2:Int)^m:=by norm_cast
 have e1:zetL (-1) ns m=(List.range (2^m)).map (zet (-1) (getN ns) m):=by
  conv=>lhs;rw[e0]
  rw[zetL_map]
 have kb:∀ t∈f,0≤t.1∧t.1<2^m:=fun t ht=>by
  have z:=h.src t ht;rw[e1,enumT_map] at z;obtain⟨u,hu,e⟩:=List.mem_map.mp z;obtain⟨i,hi,e'⟩:=List.mem_map.mp hu;rw[← e,← e']
  have:=List.mem_range.mp hi
  show (0:Int)≤(i:Int)∧(i:Int)<2^m;omega
 have cf:(List.range (2^m)).map (fun k:Nat=>coef f (k:Int))=(List.range (2^m)).map (zet (-1) (getN ns) m):=List.map_congr_left fun k hk=>by
  have hk':=List.mem_range.mp hk;rw[h.val,e1,enumT_map,coef_run,if_pos (by omega)];simp
 have e3:zetL 1 ((List.range (2^m)).map fun k:Nat=>coef f (k:Int)) m=ns:=by
  rw[cf,zetL_map,zet_zet 1 (-1) opB_inv _ m,← e0]
 refine⟨kb,?_,e3⟩;rw[zetL_map] at e3;rw[← e3];exact List.map_congr_left fun g hg=>zet_worth kb g (List.mem_range.mp hg)
theorem table_worths {m:Nat}{f:Terms} (hf:∀ t∈f,0≤t.1∧t.1<2^m):zetL 1 ((List.range (2^m)).map fun k:Nat=>coef f (k:Int)) m=(List.range (2^m)).map fun g:Nat=>worthL f (g:Int):=by
 rw[zetL_map];exact List.map_congr_left fun g hg=>zet_worth hf g (List.mem_range.mp hg)
theorem worth_plus (f o:Terms) (g:Int):worthL (f++o) g=worthL f g+worthL o g:=by rw[worth_lin,worth_lin,worth_lin,lin_append]
theorem worth_times {f o:Terms}{g:Int} (hf:∀ t∈f,0≤t.1) (ho:∀ t∈o,0≤t.1) (hg:0≤g):worthL (prodL f o) g=worthL f g * worthL o g:=by
 rw[worth_lin,worth_lin,worth_lin];exact lin_prod f o fun t ht u hu=>phi_or (hf t ht) (ho u hu) hg
end L2
set_option maxHeartbeats 1000000
namespace My
open PySem L2 OF
theorem comp_flt {K:PySem.W.Frag}{a:Addr}{l:Terms}{H:Hp}{tc:TT}{te:TE}{R:List V→Hp→Addr→Prop} (p:Int × Int→Bool) (f:Int × Int→Int × Int) (hT:TL K H a l) (hl:l.length≤1000000) (rest:List (Option V)) {σ:St} (hσ : σ = none :: none :: rest)
  (hc:∀ t∈l,∀ (H2:Hp) (R:Bool→Hp→Prop),Same H H2→R (p t) H2→tc (some (.int t.1) :: some (.int t.2) :: rest) H2 R)
  (he:∀ t∈l,p t=true→∀ (H2:Hp) (R:V→Hp→Prop),Same H H2→(∀ w,H2 w=none→R (.ref w) (upd H2 w (.tup [.int (f t).1,.int (f t).2])))→te (some (.int t.1) :: some (.int t.2) :: rest) H2 R)
  (q:∀ (D:Addr) (ys:List V) (H2:Hp),H D=none→TLo (upd H2 D (.lst ys)) D ((l.filter p).map f)→Same H (upd H2 D (.lst ys))→R ys H2 D) :
  ∃ W:Nat→Nat→List V→St→Hp→Prop,(∃ m,W 0 m [] σ H)∧∀ i m ys σ H,W i m ys σ H →
   ((Itl K a).stop i H∧∀ D,H D=none→R ys H D) ∨
   ((Itl K a).go i H∧ys.length<sizeLine∧∃ N:List V→St→Hp→Prop,(∀ ys' σ' H',N ys' σ' H'→∃ m',m'<m∧W (i+1) m' ys' σ' H') ∧
    ∀ x H',(Itl K a).yld i H x H'→gTup K 2 (gCons (gName 0) (gCons (gName 1) gNil)) x σ H' fun σ2 H2=>tc σ2 H2 fun b H3=>if b=true then te σ2 H3 fun y H4=>N (ys ++ [y]) σ2 H4 else N ys σ2 H3):=by
 obtain⟨ps,hS,hP⟩:=hT;subst hσ;refine comp_list (K:=K) (a:=a) (xs:=ps.map V.ref) (R:=R) (fun i ys σ H2=>∃ (v0 v1:Option V) (qs:List Addr),σ = v0 :: v1 :: rest∧ys=qs.map V.ref∧Tups H2 qs (((l.take i).filter p).map f)∧Same H H2)
  ⟨none,none,[],rfl,rfl,.nil,Same.refl _⟩ (fun i ys σ H2 hi ⟨_,_,qs,_,e1,e2,e3⟩=>⟨e3.seq hS,by
   rw[e1,List.length_map,e2.length,List.length_map];exact Nat.le_trans (List.length_filter_le _ _) (by rw[List.length_take];omega)⟩) (by rw[List.length_map,hP.length];exact Nat.le_of_lt (small6 hl)) ?_ ?_
 ·rintro i z ys σ H2 hi ⟨v0,v1,qs,rfl,rfl,g2,g4⟩;obtain⟨b,hqi,rfl⟩:=at_ref hi;obtain⟨t,ht1,ht2⟩:=hP.at' hqi;have htm:=List.mem_of_getElem? ht1;have htk:l.take (i+1)=l.take i ++ [t]:=by rw[List.take_add_one,ht1];rfl
  refine⟨b,_,rfl,SqT.of (g4 _ _ ht2),rfl,_,_,rfl,_,_,rfl,rfl,?_⟩;show tc (some (.int t.1) :: some (.int t.2) :: rest) H2 _;refine hc t htm H2 _ g4 ?_;by_cases hp:p t=true
  ·rw[hp];refine iteY rfl ?_;refine he t htm hp H2 _ g4 fun w hw=>?_
   have s14:Same H2 (upd H2 w (.tup [.int (f t).1,.int (f t).2])):=Same.upd hw;refine⟨_,_,qs ++ [w],rfl,(by rw[List.map_append];rfl),?_,g4.trans s14⟩;rw[htk,List.filter_append,List.map_append];simp only[List.filter_cons,hp,List.filter_nil,if_true,List.map_cons,List.map_nil];exact Tups.snoc (g2.keep fun b xs z=>s14 b _ z) upd_same
  ·refine iteN hp ⟨_,_,qs,rfl,rfl,?_,g4⟩;rw[htk,List.filter_append,List.map_append];simp only[List.filter_cons,hp,List.filter_nil,List.map_nil,List.append_nil];simpa using g2
 ·rintro ys σ H2 ⟨v0,v1,qs,rfl,rfl,g2,g4⟩ w hw;have hfull:l.take (ps.map V.ref).length=l:=by rw[List.length_map,hP.length,List.take_length]
  rw[hfull] at g2;have s14:Same H2 (upd H2 w (.lst (qs.map V.ref))):=Same.upd hw;exact q w _ _ (g4.free hw) ⟨qs,upd_same,g2.keep fun b xs z=>s14 b _ z⟩ (g4.trans s14)
theorem _root_.OF.IsForm.filter {f:Terms} (h:IsForm f) (p:Int × Int→Bool):IsForm (f.filter p):=⟨h.rise.filter _,fun t ht=>h.nz t (List.mem_filter.mp ht).1⟩
noncomputable def hasB (k:Nat) (t:Int × Int):Bool:=t.1.toNat.testBit k
noncomputable def outL (k:Nat) (l:Terms):Terms:=l.filter fun t => !hasB k t
noncomputable def offL (k:Nat) (l:Terms):Terms:=(l.filter fun t=>hasB k t).map fun t=>(t.1-2^k,t.2)
noncomputable def fixL (k:Nat) (b:Int) (l:Terms):Terms:=outL k l++if b=0 then [] else offL k l
theorem outL_len (k:Nat) (l:Terms):(outL k l).length≤l.length:=List.length_filter_le _ _
theorem out_off_len (k:Nat):∀ l:Terms,(outL k l).length+(offL k l).length=l.length
 | []=>rfl
 | t :: l=>by
  have ih:=out_off_len k l;unfold outL offL at *;by_cases h:hasB k t=true <;> simp_all <;> omega
theorem hasB_and {t:Int × Int} (h:0≤t.1) (k:Nat):Builtin.bitAnd t.1 (2^k)=if hasB k t then 2^k else 0:=by
 have e:((t.1.toNat:Nat):Int)=t.1:=Int.toNat_of_nonneg h;have pw:((2:Int)^k)=((2^k:Nat):Int):=by norm_cast
 unfold hasB;rw[← e,pw,bitAnd_nat,and_pow,Int.toNat_natCast];split <;> rfl
theorem pow_ne (k:Nat):(2:Int)^k≠0:=by
 have pw:((2:Int)^k)=((2^k:Nat):Int):=by norm_cast
 have:=Nat.two_pow_pos k
 omega
theorem hasB_and0 {t:Int × Int} (h:0≤t.1) (k:Nat):decide (V.int (Builtin.bitAnd t.1 (2^k))=V.int 0) = !hasB k t:=by
 rw[hasB_and h];cases hasB k t
 ·simp
 ·have:=pow_ne k
  simp[this]
theorem hasB_ge {t:Int × Int} (h:0≤t.1) {k:Nat} (hb:hasB k t=true):2^k≤t.1:=by
 have e:((t.1.toNat:Nat):Int)=t.1:=Int.toNat_of_nonneg h;have pw:((2:Int)^k)=((2^k:Nat):Int):=by norm_cast
 have:=Nat.ge_two_pow_of_testBit hb
 omega
noncomputable def setB (g k:Nat) (b:Bool):Nat:=if b then (if g.testBit k then g else g+2^k) else (if g.testBit k then g-2^k else g)
theorem setB_bit (g k:Nat) (b:Bool) (i:Nat):(setB g k b).testBit i=if i=k then b else g.testBit i:=by
 unfold setB;by_cases h:g.testBit k=true
 ·cases b
  ·simp only[h,if_true,Bool.false_eq_true,if_false];rw[sub_bit h];by_cases e:i=k <;> simp[e]
  ·simp only[h,if_true];by_cases e:i=k <;> simp[e,h]
 ·have h':g.testBit k=false:=by simpa using h
  cases b
  ·simp only[h',Bool.false_eq_true,if_false];by_cases e:i=k <;> simp[e,h']
  ·simp only[h',if_true,Bool.false_eq_true,if_false];have hd:g / 2^k % 2=0:=by
    rw[Nat.testBit_eq_decide_div_mod_eq] at h'
    have:=of_decide_eq_false h'
    omega
   rw[add_pow_of_nobit hd,Nat.testBit_or,Nat.testBit_two_pow];by_cases e:i=k
   ·simp[e]
   ·have:¬ k=i:=fun z=>e z.symm
    simp[e,this]
theorem sub_iff (a g:Nat):a &&& g=a↔∀ i,a.testBit i=true→g.testBit i=true:=by
 constructor
 ·intro h i hi;rw[← h,Nat.testBit_and] at hi;exact (Bool.and_eq_true _ _ ▸ hi).2
 ·intro h;refine Nat.eq_of_testBit_eq fun i=>?_
  rw[Nat.testBit_and];cases e:a.testBit i
  ·rfl
  ·rw[h i e];rfl
theorem set_and (a g k:Nat) (b:Bool):(a &&& setB g k b=a)↔(if a.testBit k then b=true∧(a-2^k) &&& g=a-2^k else a &&& g=a):=by
 rw[sub_iff];by_cases h:a.testBit k=true
 ·rw[if_pos h,sub_iff];constructor
  ·intro H;refine⟨by have:=H k h;rw[setB_bit,if_pos rfl] at this;exact this,fun i hi=>?_⟩;rw[sub_bit h] at hi;have hi':a.testBit i=true∧i≠k:=by simpa using hi
   have:=H i hi'.1
   rw[setB_bit,if_neg hi'.2] at this;exact this
  ·rintro⟨hb,H⟩ i hi;rw[setB_bit];by_cases e:i=k
   ·rw[if_pos e];exact hb
   ·rw[if_neg e];exact H i (by rw[sub_bit h];simp[hi,e])
 ·rw[if_neg h,sub_iff];constructor
  ·intro H i hi;have e:i≠k:=fun z=>h (z ▸ hi)
   have:=H i hi
   rw[setB_bit,if_neg e] at this;exact this
  ·intro H i hi;have e:i≠k:=fun z=>h (z ▸ hi)
   rw[setB_bit,if_neg e];exact H i hi
theorem phi_nat {g a:Nat}:phi (g:Int) (a:Int)=if a &&& g=a then 1 else 0:=by
 unfold phi;rw[bitAnd_nat];by_cases h:a &&& g=a
 ·rw[if_pos h,if_pos (by rw[h])]
 ·rw[if_neg h,if_neg (by intro z;exact h (by exact_mod_cast z))]
theorem phi_set {t:Int × Int} (h:0≤t.1) (g k:Nat) (b:Bool):phi ((setB g k b:Nat):Int) t.1=if hasB k t then (if b then phi (g:Int) (t.1-2^k) else 0) else phi (g:Int) t.1:=by
 have e:((t.1.toNat:Nat):Int)=t.1:=Int.toNat_of_nonneg h;have pw:((2:Int)^k)=((2^k:Nat):Int):=by norm_cast
 have hs:=set_and t.1.toNat g k b;by_cases hb:hasB k t=true
 ·have hge:=Nat.ge_two_pow_of_testBit hb;have hb':t.1.toNat.testBit k=true:=hb;rw[if_pos hb'] at hs;rw[if_pos hb,← e,pw,phi_nat,show ((t.1.toNat:Nat):Int)-((2^k:Nat):Int)=((t.1.toNat-2^k:Nat):Int) by omega,phi_nat];cases b
  ·rw[if_neg (by rw[hs];simp)];rfl
  ·by_cases h2:(t.1.toNat-2^k) &&& g=t.1.toNat-2^k
   ·rw[if_pos (hs.mpr ⟨rfl,h2⟩),if_pos rfl,if_pos h2]
   ·rw[if_neg (fun z=>h2 (hs.mp z).2),if_pos rfl,if_neg h2]
 ·have hb':¬ t.1.toNat.testBit k=true:=hb;rw[if_neg hb'] at hs;rw[if_neg hb,← e,phi_nat,phi_nat];by_cases h2:t.1.toNat &&& g=t.1.toNat
  ·rw[if_pos (hs.mpr h2),if_pos h2]
  ·rw[if_neg (fun z=>h2 (hs.mp z)),if_neg h2]
theorem lin_set (g k:Nat) (b:Bool):∀ {l:Terms},(∀ t∈l,0≤t.1)→lin (phi ((setB g k b:Nat):Int)) l=lin (phi (g:Int)) (outL k l)+if b then lin (phi (g:Int)) (offL k l) else 0
 | [],_=>by unfold outL offL;cases b <;> rfl
 | t :: l,h=>by
  have ih:=lin_set g k b (l:=l) fun t ht=>h t (List.mem_cons_of_mem _ ht)
  have h0:=phi_set (h t (List.mem_cons_self ..)) g k b;unfold outL offL at *;rw[lin,h0,ih];by_cases hb:hasB k t=true <;> cases b <;> simp[hb,lin] <;> omega
theorem worth_fix {g k:Nat}{b:Int} (hb:b=0∨b=1) {l:Terms} (h:∀ t∈l,0≤t.1):worthL (fixL k b l) (g:Int)=worthL l ((setB g k (decide (b=1)):Nat):Int):=by
 rw[worth_lin,worth_lin,lin_set g k _ h];unfold fixL;rw[lin_append];rcases hb with rfl | rfl <;> simp[lin]
theorem _root_.OF.FormOf.keys {m:Nat}{f l:Terms} (h:FormOf f l) (hl:∀ t∈l,0≤t.1∧t.1<2^m):∀ t∈f,0≤t.1∧t.1<2^m:=fun t ht=>by
 obtain⟨u,hu,e⟩:=List.mem_map.mp (h.src t ht);rw[← e];exact hl u hu
end My
namespace My
open PySem L2 OF
theorem pc_off:∀ (k a:Nat),a.testBit k=true→pc (a-2^k)+1=pc a
 | 0,a,h=>by
  rw[Nat.testBit_zero] at h;have h1:a % 2=1:=of_decide_eq_true h;have e1:=pc_two (a / 2) 0 (by decide);have e2:=pc_two (a / 2) 1 (by decide);rw[show 2 * (a / 2)+0=a-2^0 by simp;omega] at e1;rw[show 2 * (a / 2)+1=a by omega] at e2;omega
 | k+1,a,h=>by
  rw[Nat.testBit_succ] at h;have ih:=pc_off k (a / 2) h;have hge:=Nat.ge_two_pow_of_testBit h;have e1:=pc_two (a / 2) (a % 2) (Nat.mod_lt _ (by decide));have e2:=pc_two (a / 2-2^k) (a % 2) (Nat.mod_lt _ (by decide));rw[show 2 * (a / 2)+a % 2=a by omega] at e1;have e3:2 * (a / 2-2^k)+a % 2=a-2^(k+1):=by rw[Nat.pow_succ];omega
  rw[e3] at e2;omega
theorem wsum_lin (m:Nat):∀ l:Terms,wsum m l=lin (fun k=>2^(m-pc k.toNat)) l
 | []=>rfl
 | t :: l=>by
  have ih:=wsum_lin m l;unfold wsum at *;rw[List.map_cons,List.sum_cons,lin,ih,Int.mul_comm]
theorem pow_sub {m j:Nat} (h:j≤m):(2:Int)^(m+1-j)=2 * 2^(m-j):=by
 rw[show m+1-j=m-j+1 by omega,Int.pow_succ,Int.mul_comm]
theorem key_lt {m:Nat}{t:Int × Int} (h:0≤t.1∧t.1<2^m):t.1.toNat<2^m:=by
 have pw:((2:Int)^m)=((2^m:Nat):Int):=by norm_cast
 omega
theorem wsum_fix {m k:Nat}:∀ {l:Terms},(∀ t∈l,0≤t.1∧t.1<2^m)→wsum m (fixL k 0 l)+wsum m (fixL k 1 l)=2 * wsum m l
 | [],_=>rfl
 | t :: l,h=>by
  have ih:=wsum_fix (k:=k) (l:=l) fun t ht=>h t (List.mem_cons_of_mem _ ht)
  have ht:=h t (List.mem_cons_self ..);have h1:=pc_le m t.1.toNat (key_lt ht);unfold fixL outL offL at *;rw[wsum_lin,wsum_lin,wsum_lin] at *;by_cases hb:hasB k t=true
  ·have h2:=pc_off k _ hb;have hge:=hasB_ge ht.1 hb;have pw:((2:Int)^k)=((2^k:Nat):Int):=by norm_cast
   have e:(t.1-2^k).toNat=t.1.toNat-2^k:=by omega
   have e2:(2:Int)^(m-pc (t.1.toNat-2^k))=2 * 2^(m-pc t.1.toNat):=by
    rw[← pow_sub h1];congr 1;omega
   rw[lin_append,lin_append] at *;simp[hb,lin] at *;rw[e,e2];rw[Int.mul_assoc];omega
  ·rw[lin_append,lin_append] at *;simp[hb,lin] at *;omega
theorem fixL_key {m k:Nat}{b:Int}{l:Terms} (h:∀ t∈l,0≤t.1∧t.1<2^m):∀ t∈fixL k b l,0≤t.1∧t.1<2^m:=by
 intro t ht;unfold fixL outL offL at ht;rcases List.mem_append.mp ht with z | z
 ·exact h t (List.mem_filter.mp z).1
 ·split at z
  ·cases z
  ·obtain⟨u,hu,rfl⟩:=List.mem_map.mp z;obtain⟨h1,h2⟩:=List.mem_filter.mp hu;have h3:=h u h1;have h4:=hasB_ge h3.1 h2
   have:=Int.ne_iff_lt_or_gt.mp (pow_ne k)
   have pw:((2:Int)^k)=((2^k:Nat):Int):=by norm_cast
   have hp:(0:Int)<2^k:=by rw[pw];have:=Nat.two_pow_pos k;omega
   exact⟨by show 0≤u.1-2^k;omega,by show u.1-2^k<2^m;omega⟩
end My
namespace L2
open PySem PySem.Spec PyProof.Rows
section
variable {X:Cx}
noncomputable def rBitLen:V→List V→Hp→VK→Prop:=fun x vs H Q=>∃ n:Int,x = .int n∧vs=[]∧Q (.int (Builtin.Int.intBits n)) H
theorem mt_bit_length:MtM X "int.bit_length" rBitLen:=by
 intro pins s σ H x xs v us Q I rx rv h;obtain⟨n,rfl,rfl,q⟩:=h;obtain⟨t,rfl⟩:=rx;obtain rfl:=rv.zero;exact call_int_bit_length ⟨.int _,H,I.tok _,⟨_,rfl⟩,q⟩
end
end L2
namespace My
open PySem L2 OF
theorem intBits_nat (n:Nat):Builtin.Int.intBits (n:Int)=if n=0 then 0 else n.log2+1:=by
 unfold Builtin.Int.intBits;by_cases h:n=0
 ·subst h;rfl
 ·rw[if_neg h,if_neg (by simp;omega)];rfl
theorem lt_intBits (n:Nat):n<2^Builtin.Int.intBits (n:Int):=by
 rw[intBits_nat];by_cases h:n=0
 ·subst h;decide
 ·rw[if_neg h];exact Nat.lt_log2_self
theorem intBits_lt {n m:Nat} (h:n<2^m):Builtin.Int.intBits (n:Int)≤m:=by
 rw[intBits_nat];by_cases h0:n=0
 ·subst h0;simp
 ·rw[if_neg h0];exact (Nat.log2_lt h0).mpr h
theorem intBits_pow (m:Nat):Builtin.Int.intBits ((2^m:Nat):Int)=m+1:=by
 rw[intBits_nat,if_neg (by have:=Nat.two_pow_pos m;omega),Nat.log2_two_pow]
theorem isDs_ints {H:Hp}:∀ ns:List Int,IsDs H (ns.map V.int) (ns.map D.int)
 | []=>rfl
 | n :: ns=>⟨_,_,rfl,rfl,isDs_ints ns⟩
theorem orAll_bit:∀ (l:Terms) (s j:Nat),(orAll l s).testBit j=true↔s.testBit j=true∨∃ t∈l,t.1.toNat.testBit j=true
 | [],s,j=>by simp[orAll]
 | t :: l,s,j=>by
  rw[orAll,orAll_bit l,Nat.testBit_or,Bool.or_eq_true];constructor
  ·rintro ((h | h) | ⟨u,h1,h2⟩)
   ·exact .inl h
   ·exact .inr ⟨t,List.mem_cons_self ..,h⟩
   ·exact .inr ⟨u,List.mem_cons_of_mem _ h1,h2⟩
  ·rintro (h | ⟨u,h1,h2⟩)
   ·exact .inl (.inl h)
   ·rcases List.mem_cons.mp h1 with z | z
    ·subst z;exact .inl (.inr h2)
    ·exact .inr ⟨u,z,h2⟩
theorem orAll_lt {l:Terms}{m:Nat} (h:∀ t∈l,0≤t.1∧t.1<2^m):orAll l 0<2^m:=by
 refine Nat.lt_pow_two_of_testBit _ fun j hj=>?_
 cases e:(orAll l 0).testBit j
 ·rfl
 ·rcases (orAll_bit l 0 j).mp e with z | ⟨t,h1,h2⟩
  ·simp at z
  ·have:=h t h1
   have pw:((2:Int)^m)=((2^m:Nat):Int):=by norm_cast
   have h3:t.1.toNat<2^j:=Nat.lt_of_lt_of_le (by omega:t.1.toNat<2^m) (Nat.pow_le_pow_right (by decide) hj);rw[Nat.testBit_lt_two_pow h3] at h2;cases h2
noncomputable def lst (a:Nat):List Nat:=(List.range (Builtin.Int.intBits (a:Int))).filter fun k=>a.testBit k
theorem mem_lst {a k:Nat}:k∈lst a↔a.testBit k=true:=by
 unfold lst;rw[List.mem_filter,List.mem_range];constructor
 ·exact fun h=>h.2
 ·intro h;refine⟨?_,h⟩;rcases Nat.lt_or_ge k (Builtin.Int.intBits (a:Int)) with z | z
  ·exact z
  ·have:=Nat.testBit_lt_two_pow (Nat.lt_of_lt_of_le (lt_intBits a) (Nat.pow_le_pow_right (by decide) z))
   rw[this] at h;cases h
end My
namespace L2
open PySem PySem.Spec PyProof.Rows
theorem Inv.turnedN {X:Cx}{pins:List (Addr × Obj)} {σ:St}{H:Hp}{s:Shared}{h':Heap}{t':Nat} (ch:List Addr) (I:Inv X pins σ H s) (k:∀ b u,b ∉ ch→s.heap.get? b=some u→h'.get? b=some u)
  (f:∀ b∈ch,FpOk X pins H b):Inv X pins σ H { s with heap:=h',toks:=t' }:=by
 have out:∀ b u,H b=some u→b ∉ ch:=fun b u q z=>by rw[(f b z).1] at q;cases q
 refine I.step (g':=s.gens) (d':=s.drawn) (ch:=ch) (fun b hb=>⟨(f b hb).2.2.2.1,(f b hb).2.1,(f b hb).2.2.2.2.1,(f b hb).2.2.2.2.2⟩) (fun b u _ _ hc q _=>k b u hc q) (fun b u _ _ hc q _=>⟨u.slots,k b u hc q⟩) (fun _ _ _ _ n=>n)
  (fun b u hc q=>⟨u,k b u hc q⟩) (fun _ _ e=>e) (fun _ _ _ e=>e) (fun b ps e=>⟨#[],by rw[e];simp⟩) (fun m hm=>?_) (fun b u e=>?_) I.bare
 ·obtain⟨u,es,ep,ho,r⟩:=hm;exact⟨u,es,ep,k _ u (fun z=>(f _ z).2.1 rfl) ho,r⟩
 ·refine (I.hok b u e).stay (fun c v hc q=>k c v ?_ q) (fun _ q=>q) fun _ _ q=>q
  rcases hc with z | z
  ·rw[z];exact out b u e
  ·exact out c _ z
theorem Inv.turnedL {X:Cx}{pins:List (Addr × Obj)} {σ:St}{H:Hp}{s:Shared}{h':Heap}{t':Nat}{T:Addr}{o:HO} (ch:List Addr) (I:Inv X pins σ H s) (k:∀ b u,b ∉ ch→s.heap.get? b=some u→h'.get? b=some u)
  (f:∀ b∈ch,FpOk X pins H b) (hT:s.heap.objs.size≤T) (new:ObjOk X.prog X.w (upd H T o) h' T o):Inv X pins σ (upd H T o) { s with heap:=h',toks:=t' }:=by
 have hn:H T=none:=I.hok.fresh hT;have out:∀ b u,H b=some u→b ∉ ch:=fun b u q z=>by rw[(f b z).1] at q;cases q
 have lt:∀ b u,s.heap.get? b=some u→b≠T:=fun b u q=>Nat.ne_of_lt (Nat.lt_of_lt_of_le (Heap.lt_size q) hT)
 have up:∀ {b:Addr}{u:HO},H b=some u→upd H T o b=some u:=fun q=>by rw[upd_ne (ne_of_none q hn)];exact q
 refine I.step (g':=s.gens) (d':=s.drawn) (ch:=ch) (fun b hb=>⟨(f b hb).2.2.2.1,(f b hb).2.1,(f b hb).2.2.2.2.1,(f b hb).2.2.2.2.2⟩) (fun b u _ _ hc q _=>k b u hc q) (fun b u _ _ hc q _=>⟨u.slots,k b u hc q⟩) (fun b u _ q n=>by rw[upd_ne (lt b u q)];exact n)
  (fun b u hc q=>⟨u,k b u hc q⟩) (fun b xs q=>up q) (fun b u xs q=>up q) (fun b ps q=>⟨#[],by rw[up q];simp⟩) (fun m hm=>?_) (fun b u q=>?_) I.bare
 ·obtain⟨u,es,ep,ho,r⟩:=hm;exact⟨u,es,ep,k _ u (fun z=>(f _ z).2.1 rfl) ho,r⟩
 ·by_cases hb:b=T
  ·subst hb;rw[upd_same] at q;cases q;exact new
  ·rw[upd_ne hb] at q;refine (I.hok b u q).stay (fun c v hc z=>?_) (fun c z=>up z) fun c xs z=>up z
   rcases hc with w | w
   ·rw[w] at z ⊢;exact k b v (out b u q) z
   ·exact k c v (out c _ w) z
noncomputable def Itz (K:PySem.W.Frag) (a b:Addr):It :=
 ⟨fun i H=>∃ xs ys x y,SqL K H a xs∧SqL K H b ys∧xs[i]? = some x∧ys[i]? = some y,fun i H v H'=>∃ T x y,H T=none∧v = .ref T∧H'=upd H T (.tup [x,y])∧(∀ xs,SqL K H a xs→xs[i]? = some x)∧∀ ys,SqL K H b ys→ys[i]? = some y,
  fun i H=>∃ xs ys,SqL K H a xs∧SqL K H b ys∧(xs.length≤i∨ys.length≤i)⟩
theorem turn_zip {P:Program}{w:World}{K:PySem.W.Frag}{elts:List Expr}{x1:Nat}{pos:Pos} (a b z TI TO i1 i2:Addr) (D:ZipApart z TI TO i1 i2 a b) :
  Turn P w K (.Tuple elts x1 pos) (Itz K a b) [z,TI,TO,i1,i2] z (fun i h=>IsZip h z TI TO .none∧IsPair h TI (.ref i1) (.ref i2)∧(∃ u v,IsPair h TO u v)∧h.IsListIter i1 a i∧h.IsListIter i2 b i) where
 mem:=by simp
 obj:=fun i h st c hc=>by
  obtain⟨hz,hTI,⟨u,v,hTO⟩,⟨o1,e1,c1,d1⟩,⟨o2,e2,c2,d2⟩⟩:=st;simp only[List.mem_cons,List.not_mem_nil,or_false] at hc;rcases hc with rfl | rfl | rfl | rfl | rfl
  ·exact⟨_,hz,fun v z=>by cases z⟩
  ·exact⟨_,hTI,fun v z=>by cases z⟩
  ·exact⟨_,hTO,fun v z=>by cases z⟩
  ·exact⟨o1,e1,fun v z=>by rw[d1] at z;cases z⟩
  ·exact⟨o2,e2,fun v z=>by rw[d2] at z;cases z⟩
 keep:=fun i h h' st k=>by
  obtain⟨hz,hTI,⟨u,v,hTO⟩,h1,h2⟩:=st;exact⟨k z (by simp) _ hz,k TI (by simp) _ hTI,⟨u,v,k TO (by simp) _ hTO⟩,h1.at fun o q=>k i1 (by simp) o q,h2.at fun o q=>k i2 (by simp) o q⟩
 item:=by
  intro X hP hw hK hc i pins s σ H E I hf st hg;subst hP hw hK;obtain⟨hz,hTI,⟨u,v,hTO⟩,h1,h2⟩:=st;obtain⟨xs,ys,x,y,hq,hq',hx,hy⟩:=hg;obtain⟨its,rv,p,hsz⟩:=I.list hq;obtain⟨its',rv',p',hsz'⟩:=I.list hq';obtain⟨ux,hu,ru⟩:=rv.get hx;obtain⟨uy,hu',ru'⟩:=rv'.get hy;refine wpAny_pyNext_zip_item D hz hTI hTO h1 h2 p.isList p'.isList (x:=ux) (y:=uy) (by simpa using hu) (by simpa using hu') fun h1' hz1 hTO1 hi1 hi2 hT hs1 k1=>⟨_,rfl,?_⟩
  refine wpAny_letOwnedTupleGo_zip hz1 fun h2' hz2 sb=>?_
  have lz:z<s.heap.objs.size:=Heap.lt_size hz;have hTz:s.heap.objs.size≠z:=Nat.ne_of_gt lz;have kk:∀ c o,c ∉ [z,TI,TO,i1,i2]→s.heap.get? c=some o→h2'.get? c=some o:=fun c o hc q=>by
   simp only[List.mem_cons,List.not_mem_nil,or_false,not_or] at hc;exact (sb.2 c hc.1).trans (k1 c o hc.1 hc.2.2.1 hc.2.2.2.1 hc.2.2.2.2 q)
  have hT2:IsPair h2' s.heap.objs.size ux uy:=(sb.2 _ hTz).trans hT;have hTI2:IsPair h2' TI (.ref i1) (.ref i2):=(sb.2 _ D.TIz).trans (k1 _ _ D.TIz D.TITO D.TIi1 D.TIi2 hTI);refine⟨.ref s.heap.objs.size,upd H s.heap.objs.size (.tup [x,y]),I.turnedL (t':=s.toks) _ kk hf (Nat.le_refl _) ⟨by show 2≤sizeLine;decide,[ux,uy],.cons ru (.cons ru' .nil),?_⟩,rfl,⟨_,x,y,I.hok.fresh (Nat.le_refl _),rfl,rfl,fun zs h=>by rw[I.list_inj h hq];exact hx,fun zs h=>by rw[I.list_inj h hq'];exact hy⟩,⟨hz2,hTI2,⟨ux,uy,(sb.2 _ D.TOz).trans hTO1⟩,?_,?_⟩,fun c hc=>?_⟩
  ·exact⟨_,hT2,rfl,0,rfl⟩
  ·exact hi1.at fun o q=>(sb.2 _ D.i1z).trans q
  ·exact hi2.at fun o q=>(sb.2 _ D.i2z).trans q
  ·have hcl:c<s.heap.objs.size:=by
    simp only[List.mem_cons,List.not_mem_nil,or_false] at hc;rcases hc with rfl | rfl | rfl | rfl | rfl
    ·exact lz
    ·exact Heap.lt_size hTI
    ·exact Heap.lt_size hTO
    ·obtain⟨o,q,_⟩:=h1;exact Heap.lt_size q
    ·obtain⟨o,q,_⟩:=h2;exact Heap.lt_size q
   rw[upd_ne (Nat.ne_of_lt hcl)];exact (hf c hc).1
 done:=by
  intro X hP hw hK hc i pins s σ H E I hf st hg;subst hP hw hK;obtain⟨hz,hTI,⟨u,v,hTO⟩,h1,h2⟩:=st;obtain⟨xs,ys,hq,hq',hx⟩:=hg;obtain⟨its,rv,p,hsz⟩:=I.list hq;obtain⟨its',rv',p',hsz'⟩:=I.list hq';have hl:=rv.length;have hl':=rv'.length;refine wpAny_pyNext_zip_end (I.ok.hd hc) D hz hTI hTO h1 h2 p.isList p'.isList ?_ fun h' kk=>⟨rfl,I.turnedN (t':=s.toks) [z,TI,TO,i1,i2] (fun c o hc q=>?_) hf⟩
  ·rcases hx with z | z
   ·left;simp;omega
   ·right;simp;omega
  ·simp only[List.mem_cons,List.not_mem_nil,or_false,not_or] at hc;exact kk c o hc.1 hc.2.2.1 hc.2.2.2.1 hc.2.2.2.2 q
 self:=fun _ _ _ _ _ st h=>wpAny_pyIter_zip st.1 h
noncomputable def iZip (K:PySem.W.Frag) (ta:TA):TI:=fun σ H R=>ta σ H fun vs H1=>∃ a b,vs=[.ref a,.ref b]∧(∃ xs,SqL K H1 a xs)∧(∃ ys,SqL K H1 b ys)∧R (Itz K a b) H1
theorem boot_zip:bootBuiltins "zip" = some (.type "zip"):=by decide +kernel
theorem pi_zip {X:Cx}{elts:List Expr}{x1:Nat}{p0 p pos:Pos}{a b:Expr}{ta:TA} (hg:Gl X "zip") (hm:X.mg "zip" = none) (ha:PA X [a,b] ta) (hs:starEach [a,b] X.env=(false,eval a X.env) :: starEach [b] X.env:=by rfl) (hs2:(backTo pos (starEach [b] X.env)).any (·.1)=false:=by rfl) :
  PI X (.Tuple elts x1 p0) (.Call (.Name "zip" p) [a,b] [] pos) (iZip X.K ta):=by
 intro pins s σ H R I h;refine Call_ (ld_blt I hg hm boot_zip (PyProof.Rows.callWith_type1 (thn (ha pos pins s σ H _ I h) fun us s1 ⟨vs,H1,I1,r1,q1⟩=>?_) hs hs2));obtain⟨l1,l2,rfl,⟨xs,hq⟩,⟨ys,hq'⟩,q⟩:=q1;obtain⟨u,v,rfl,ru,rv⟩:=vals2 r1;cases (show u=Value.ref l1 from ru);cases (show v=Value.ref l2 from rv);obtain⟨its,rx,p,hz⟩:=I1.list hq;obtain⟨its',rx',p',hz'⟩:=I1.list hq';have n1:l1<s1.heap.objs.size:=by obtain⟨o,q,_⟩:=p.isList;exact Heap.lt_size q
 have n2:l2<s1.heap.objs.size:=by obtain⟨o,q,_⟩:=p'.isList;exact Heap.lt_size q
 refine call_zip_2 p.isList p'.isList fun h' hz hTI hTO h1 h2 hsz k=>wpAny_pyIter_zip hz ?_
 have I2:Inv X pins σ H1 { s1 with heap:=h' }:=I1.kept (t':=s1.toks) k;refine⟨_,_,_,_,H1,rfl,I2,turn_zip l1 l2 _ _ _ _ _ (zipApart_new n1 n2),⟨hz,hTI,⟨_,_,hTO⟩,h1,h2⟩,fun c hc=>?_,q⟩;have fr:∀ c,s1.heap.objs.size≤c→FpOk X pins H1 c:=fun c hc=>I1.fpOk hc (I1.hok.fresh hc)
 simp only[List.mem_cons,List.not_mem_nil,or_false] at hc;rcases hc with rfl | rfl | rfl | rfl | rfl <;> exact fr _ (by omega)
theorem comp_zip {K:PySem.W.Frag}{a b:Addr}{xs ys:List V}{g:TG}{tc:TT}{te:TE} {σ:St}{H:Hp}{R:List V→Hp→Addr→Prop} (hxy:xs.length=ys.length) (Pv:Nat→List V→St→Hp→Prop) (h0:Pv 0 [] σ H)
  (hl:∀ i zs σ H,i≤xs.length→Pv i zs σ H→SqL K H a xs∧SqL K H b ys∧zs.length≤i) (hz:xs.length≤sizeLine)
  (hs:∀ i x y zs σ H T,xs[i]? = some x→ys[i]? = some y→Pv i zs σ H→H T=none→g (.ref T) σ (upd H T (.tup [x,y])) fun σ2 H2=>tc σ2 H2 fun b H3=>if b=true then te σ2 H3 fun y H4=>Pv (i+1) (zs ++ [y]) σ2 H4 else Pv (i+1) zs σ2 H3)
  (hd:∀ zs σ H,Pv xs.length zs σ H→∀ D,H D=none→R zs H D) :
  ∃ W:Nat→Nat→List V→St→Hp→Prop,(∃ m,W 0 m [] σ H)∧∀ i m zs σ H,W i m zs σ H →
   ((Itz K a b).stop i H∧∀ D,H D=none→R zs H D) ∨
   ((Itz K a b).go i H∧zs.length<sizeLine∧∃ N:List V→St→Hp→Prop,(∀ zs' σ' H',N zs' σ' H'→∃ m',m'<m∧W (i+1) m' zs' σ' H') ∧
    ∀ x H',(Itz K a b).yld i H x H'→g x σ H' fun σ2 H2=>tc σ2 H2 fun b H3=>if b=true then te σ2 H3 fun y H4=>N (zs ++ [y]) σ2 H4 else N zs σ2 H3):=by
 refine⟨fun i m zs σ H=>m=xs.length-i∧i≤xs.length∧Pv i zs σ H,⟨xs.length,by simp,Nat.zero_le _,h0⟩,?_⟩;rintro i m zs σ H ⟨rfl,hi,p⟩;obtain⟨q1,q2,q3⟩:=hl i zs σ H hi p;by_cases hlt:i<xs.length
 ·have hlt':i<ys.length:=by omega
  refine .inr ⟨⟨xs,ys,xs[i],ys[i],q1,q2,by simp[hlt],by simp[hlt']⟩,(by omega),Pv (i+1),fun ys' σ' H' p'=>⟨xs.length-(i+1),by omega,rfl,hlt,p'⟩,fun x H' y=>?_⟩;obtain⟨T,u,v,hT,rfl,rfl,y1,y2⟩:=y;exact hs i u v zs σ _ T (y1 xs q1) (y2 ys q2) p hT
 ·have e:i=xs.length:=by omega
  subst e;exact .inl ⟨⟨xs,ys,q1,q2,.inl (Nat.le_refl _)⟩,hd zs σ H p⟩
end L2
namespace My
open PySem L2 OF
inductive Gate where
 | fix (b:Int) | no (a:Nat) | two (w a b:Nat)
noncomputable def wd:Nat→Str
 | 0 => "and"
 | 1 => "or"
 | _ => "xor"
noncomputable def say (w:Nat) (x y:Int):Int:=if w=0 then x * y else if w=1 then (if y > x then y else x) else (x+y) % 2
noncomputable def Bit (x:Int):Prop:=x=0∨x=1
theorem say_bit {w:Nat}{x y:Int} (hx:Bit x) (hy:Bit y):Bit (say w x y):=by
 unfold say Bit at *;rcases hx with rfl | rfl <;> rcases hy with rfl | rfl <;> (split; · decide) <;> (split <;> decide)
theorem and_bit {x y:Int} (hx:Bit x) (hy:Bit y):Builtin.bitAnd x y=say 0 x y:=by
 rcases hx with rfl | rfl <;> rcases hy with rfl | rfl <;> decide
theorem or_bit {x y:Int} (hx:Bit x) (hy:Bit y):Builtin.bitOr x y=say 1 x y:=by
 rcases hx with rfl | rfl <;> rcases hy with rfl | rfl <;> decide
theorem xor_bit {x y:Int} (hx:Bit x) (hy:Bit y):Builtin.bitXor x y=say 2 x y:=by
 rcases hx with rfl | rfl <;> rcases hy with rfl | rfl <;> decide
end My
namespace L2
open PySem PySem.Spec PyProof.Rows
section
variable {X:Cx}{e st lo:Expr}{te:TE}{tl to:TO}{p2 pos:Pos}
noncomputable def pickL {α : Type} (c n:Nat) (xs:List α):List α := (List.range n).filterMap fun k=>xs[c+2 * k]?
theorem vals_pick {xs:List V}{us:List Value} (r:Vals xs us) (f:Nat→Nat):∀ ks:List Nat,Vals (ks.filterMap fun k=>xs[f k]?) (ks.filterMap fun k=>us[f k]?)
 | []=>.nil
 | k :: ks=>by
  have ih:=vals_pick r f ks;have hl:=r.length;cases h:xs[f k]? with
  | none =>
   have h2:us[f k]? = none:=by rw[List.getElem?_eq_none_iff] at h ⊢;omega
   rw[List.filterMap_cons_none (f:=fun k=>xs[f k]?) h,List.filterMap_cons_none (f:=fun k=>us[f k]?) h2];exact ih
  | some x =>
   obtain⟨u,hu,ru⟩:=r.get h;rw[List.filterMap_cons_some (f:=fun k=>xs[f k]?) h,List.filterMap_cons_some (f:=fun k=>us[f k]?) hu];exact .cons ru ih
theorem range_two (c n:Nat) (hc:c≤n):sliceRange (c:Int) (n:Int) 2=(List.range ((n-c+1) / 2)).map fun k=>c+2 * k:=by
 unfold sliceRange;have e:(if (2:Int) > 0 then (if (c:Int)<(n:Int) then ((n:Int)-(c:Int)+2-1) / 2 else 0) else (if (c:Int) > (n:Int) then ((c:Int)-(n:Int)-2-1) / (-2) else 0)).toNat=(n-c+1) / 2:=by
  rw[if_pos (by decide)];split <;> omega
 simp only[e];exact List.map_congr_left fun k _=>by omega
theorem pick_two (items:Array Value) (c:Nat) (hc:c≤items.size):slicePick items (some (c:Int)) none (some 2)=(pickL c ((items.size-c+1) / 2) items.toList).toArray:=by
 unfold slicePick;have e:sliceBounds (some (c:Int)) none (some 2) items.size=((c:Int),(items.size:Int),2):=by
  show ((if (2:Int) > 0 then max 0 (min (if (c:Int)<0 then (c:Int)+items.size else (c:Int)) items.size) else _),(if (2:Int) > 0 then (items.size:Int) else -1),(2:Int))=_;have h1:max 0 (min (if (c:Int)<0 then (c:Int)+items.size else (c:Int)) items.size)=(c:Int):=by
   rw[if_neg (by omega)];omega
  rw[h1];rfl
 rw[e,range_two c items.size hc,List.filterMap_map];congr 1;unfold pickL;congr 1
 funext k
 simp
noncomputable def tTwo (K:PySem.W.Frag) (te:TE) (tl to:TO):TE:=fun σ H Q=>te σ H fun x H1=>tl σ H1 fun o1 H2=>to σ H2 fun o H3=>o=some 2∧∃ (c:Nat) (a:Addr) (xs:List V),o1=some (c:Int)∧x = .ref a∧SqL K H3 a xs∧c≤xs.length ∧
 ∀ p,H3 p=none→Q (.ref p) (upd H3 p (.lst (pickL c ((xs.length-c+1) / 2) xs)))
theorem pe_two (he:PE X e te) (hlo:PO X (some lo) tl) (hst:PO X (some st) to):PE X (.Subscript e (.Slice (some lo) none (some st) p2) pos) (tTwo X.K te tl to):=by
 intro pins s σ H Q I h;refine Subscript_ (thn (he pins s σ H _ I h) fun v s1 ⟨x,H1,I1,r1,q1⟩=>?_);refine wpAny_Slice (thn (hlo pins s1 σ H1 _ I1 q1) fun vl s2 ⟨o1,H2,I2,pl,q2⟩=>?_);rw[evalPart_none];refine wpAny_pure (thn (hst pins s2 σ H2 _ I2 q2) fun vk s3 ⟨o,H3,I3,pk,q3⟩=>?_);obtain⟨rfl,c,a,xs,rfl,rfl,hx,hc,q⟩:=q3;cases r1;have I4:Inv X pins σ H3 { s3 with heap:=s3.heap.push { cls := .type "slice",data := .fields #[vl,.none,vk] } }:=I3.kept (t':=s3.toks) fun b ob q=>Heap.get?_push_of_some _ q
 obtain⟨its,r,ht,hz⟩:=I4.list hx;have hlen:=r.length;show wpAny (model X.prog X.w) X.A (subscriptTail e (.Slice (some lo) none (some st) p2) (.ref a) (.ref s3.heap.objs.size)) (EP X pins σ Q) X.xe { s3 with heap:=s3.heap.push { cls := .type "slice",data := .fields #[vl,.none,vk] } };refine tail_any (ops:=[.ref a,.ref s3.heap.objs.size]) ht.isList.typeIs slot_list_getitem.lookup ?_ (by with_unfolding_all rfl);refine wpAny_getItem_list_slice ht.isList (Heap.IsSliceOf.new ..) pl .none pk (by simp) ?_ (by rw[List.size_toArray];omega);rw[pick_two _ c (by rw[List.size_toArray];omega)];refine⟨.ref _,_,I4.laid (o := .lst (pickL c ((xs.length-c+1) / 2) xs)) (t':=s3.toks) (fun b ob q=>Heap.get?_push_of_some _ q) (Nat.le_refl _) ?_,rfl,q _ (I4.hok.fresh (Nat.le_refl _))⟩;refine⟨?_,pickL c ((xs.length-c+1) / 2) its,0,vals_pick r (fun k=>c+2 * k) _,?_⟩
 ·unfold pickL;refine Nat.le_trans (List.length_filterMap_le _ _) ?_;rw[List.length_range];exact Nat.le_trans ((show ∀ n c:Nat,(n-c+1) / 2≤n by omega) _ _) hz
 ·rw[Heap.get?_push_size _ rfl,List.size_toArray,← hlen]
end
end L2
namespace My
open PySem L2 OF
theorem pick_ints (c n:Nat) (ns:List Int) (h:ns.length=2 * n) (hc:c<2):pickL c n (ns.map V.int)=((List.range n).map fun k=>getN ns (2 * k+c)).map V.int:=by
 unfold pickL;rw[List.map_map];have key:∀ ks:List Nat,(∀ k∈ks,k<n)→(ks.filterMap fun k=>(ns.map V.int)[c+2 * k]?)=ks.map (V.int ∘ fun k=>getN ns (2 * k+c)):=fun ks=>by
  induction ks with
  | nil=>intro _;rfl
  | cons k ks ih =>
   intro hk;have hkn:=hk k (List.mem_cons_self ..);have e:(fun k=>(ns.map V.int)[c+2 * k]?) k=some (V.int (getN ns (2 * k+c))):=by
    show (ns.map V.int)[c+2 * k]? = _;rw[List.getElem?_map,List.getElem?_eq_getElem (by omega:c+2 * k<ns.length)];show some (V.int _)=some (V.int _);unfold getN;rw[List.getD_eq_getElem?_getD,show 2 * k+c=c+2 * k by omega,List.getElem?_eq_getElem (by omega:c+2 * k<ns.length)];rfl
   rw[List.filterMap_cons_some (f:=fun k=>(ns.map V.int)[c+2 * k]?) e,ih fun j hj=>hk j (List.mem_cons_of_mem _ hj)];rfl
 exact key _ fun k hk=>List.mem_range.mp hk
noncomputable def stepG (s:Int) (n:Nat) (ns:List Int):List Int:=(List.range n).map (fun k=>getN ns (2 * k))++(List.range n).map fun k=>getN ns (2 * k+1)+s * getN ns (2 * k)
theorem stepG_len (s:Int) (n:Nat) (ns:List Int):(stepG s n ns).length=2 * n:=by unfold stepG;simp;omega
theorem stepG_lo {s:Int}{n g:Nat}{ns:List Int} (h:g<n):getN (stepG s n ns) g=getN ns (2 * g):=by
 unfold getN stepG;rw[List.getD_eq_getElem?_getD,List.getElem?_append_left (by simpa using h),List.getElem?_map,List.getElem?_range h];rfl
theorem stepG_hi {s:Int}{n g:Nat}{ns:List Int} (h:g<n):getN (stepG s n ns) (g+n)=getN ns (2 * g+1)+s * getN ns (2 * g):=by
 conv=>lhs;unfold getN stepG
 rw[List.getD_eq_getElem?_getD,List.getElem?_append_right (by simp),List.length_map,List.length_range,Nat.add_sub_cancel,List.getElem?_map,List.getElem?_range h];rfl
noncomputable def Turned (s:Int) (v:Nat→Int) (m i:Nat) (ns:List Int):Prop:=ns.length=2^m∧∀ a b,a<2^(m-i)→b<2^i→getN ns (a+2^(m-i) * b)=zet s v i (2^i * a+b)
theorem Turned.start (s:Int) (m:Nat) (ns:List Int) (h:ns.length=2^m):Turned s (getN ns) m 0 ns:=by
 refine⟨h,fun a b ha hb=>?_⟩
 have:b=0:=by simpa using hb
 subst this;simp[zet]
theorem bit_top {i a b:Nat} (hb:b<2^i):(2^(i+1) * a+b).testBit i=false∧(2^(i+1) * a+(b+2^i)).testBit i=true:=by
 have p:=Nat.two_pow_pos i;have e:2^(i+1) * a=2^i * (2 * a):=by rw[Nat.pow_succ,Nat.mul_assoc]
 constructor
 ·rw[Nat.testBit_eq_decide_div_mod_eq,e,Nat.mul_add_div p,Nat.div_eq_of_lt hb];simp
 ·rw[Nat.testBit_eq_decide_div_mod_eq,e,Nat.mul_add_div p,show b+2^i=2^i * 1+b by omega,Nat.mul_add_div p,Nat.div_eq_of_lt hb];simp
theorem Turned.next {s:Int}{v:Nat→Int}{m i:Nat}{ns:List Int} (h:Turned s v m i ns) (hi:i<m):Turned s v m (i+1) (stepG s (2^(m-1)) ns):=by
 obtain⟨hl,hv⟩:=h;have em:2^m=2 * 2^(m-1):=by rw[← Nat.pow_succ'];congr 1;omega
 refine⟨by rw[stepG_len,em],fun a b ha hb=>?_⟩;have e1:2^(m-i)=2 * 2^(m-(i+1)):=by rw[← Nat.pow_succ'];congr 1;omega
 have e2:2^(m-1)=2^(m-(i+1)) * 2^i:=by rw[← Nat.pow_add];congr 1;omega
 have e3:2^(i+1)=2 * 2^i:=by rw[Nat.pow_succ']
 have p0:=Nat.two_pow_pos i;generalize hA:2^(m-(i+1))=A at *;generalize hB:2^i=B at *;have hopB:∀ g,zet s v (i+1) g=zet s v i g+if g.testBit i then s * zet s v i (g-2^i) else 0:=fun g=>rfl
 have low:∀ b',b'<B→a+A * b'<2^(m-1):=fun b' h'=>by
  rw[e2]
  have:A * b'+A≤A * B:=by rw[← Nat.mul_succ];exact Nat.mul_le_mul_left _ h'
  omega
 have twice:∀ b',2 * (a+A * b')=2 * a+2^(m-i) * b':=fun b'=>by rw[e1,Nat.mul_add,Nat.mul_assoc]
 rcases Nat.lt_or_ge b B with hb' | hb'
 ·rw[stepG_lo (low b hb'),twice,hv (2 * a) b (by rw[e1];omega) hb',hopB];have ht:=(bit_top (i:=i) (a:=a) (b:=b) (by rw[hB];exact hb')).1;rw[e3,Nat.mul_assoc,Nat.mul_left_comm] at *;rw[show 2 * (B * a)=B * (2 * a) by rw[Nat.mul_left_comm]] at *;simp only[ht,Bool.false_eq_true,if_false,Int.add_zero]
 ·obtain⟨c,rfl⟩:∃ c,b=c+B:=⟨b-B,by omega⟩;have hc:c<B:=by omega
  have pl:a+A * (c+B)=(a+A * c)+2^(m-1):=by rw[e2,Nat.mul_add,Nat.add_assoc]
  rw[pl,stepG_hi (low c hc),twice,show 2 * a+2^(m-i) * c+1=(2 * a+1)+2^(m-i) * c by omega,
   hv (2 * a+1) c (by rw[e1];omega) hc,hv (2 * a) c (by rw[e1];omega) hc,hopB]
  have ht:=(bit_top (i:=i) (a:=a) (b:=c) (by rw[hB];exact hc)).2;rw[e3,hB] at ht;have x1:2 * B * a=B * (2 * a):=by rw[Nat.mul_comm 2 B,Nat.mul_assoc]
  have x2:B * (2 * a+1)+c=2 * B * a+(c+B):=by rw[Nat.mul_add,Nat.mul_one,x1];omega
  have x3:2 * B * a+(c+B)-2^i=B * (2 * a)+c:=by rw[hB,x1];omega
  rw[e3,if_pos ht,x3,x2]
theorem Turned.all {s:Int}{m:Nat}{ns ms:List Int} (h:Turned s (getN ns) m m ms) (hn:ns.length=2^m):ms=zetL s ns m:=by
 obtain⟨hl,hv⟩:=h;have e0:ns=(List.range (2^m)).map (getN ns):=by rw[← hn];exact list_as_map ns
 conv=>rhs;rw[e0]
 rw[zetL_map]
 conv=>lhs;rw[list_as_map ms,hl]
 refine List.map_congr_left fun g hg=>?_
 have:=hv 0 g (by simp) (List.mem_range.mp hg)
 simpa using this
noncomputable def nzL (ns:List Int):Terms:=(enumT ns).filter fun t=>decide (t.2≠0)
theorem enumT_rise (ns:List Int):(enumT ns).Pairwise fun a b=>a.1<b.1:=by
 unfold enumT;rw[List.pairwise_map];exact List.pairwise_lt_range.imp fun {a b} h=>by show (a:Int)<(b:Int);omega
theorem coef_filter_nz (k:Int):∀ l:Terms,coef (l.filter fun t=>decide (t.2≠0)) k=coef l k
 | []=>rfl
 | t :: l=>by
  have ih:=coef_filter_nz k l;rw[List.filter_cons];by_cases h:t.2=0
  ·rw[if_neg (by simp[h]),ih];simp[coef,h]
  ·rw[if_pos (by simp[h])];simp only[coef];rw[ih]
theorem nzL_form (ns:List Int):FormOf (nzL ns) (enumT ns):=by
 refine⟨⟨(enumT_rise ns).filter _,fun t ht=>?_⟩,fun k=>coef_filter_nz k _,fun t ht=>List.mem_map.mpr ⟨t,(List.mem_filter.mp ht).1,rfl⟩⟩;simpa using (List.mem_filter.mp ht).2
theorem nzL_len (ns:List Int):(nzL ns).length≤ns.length:=by
 unfold nzL enumT;refine Nat.le_trans (List.length_filter_le _ _) (by simp)
end My
namespace My
open PySem L2 OF
theorem zet_small {s:Int} (hs:s=1∨s = -1) {v:Nat→Int}{B:Nat} (h:∀ g,(v g).natAbs≤B):∀ i g,(zet s v i g).natAbs≤2^i * B
 | 0,g=>by show (v g).natAbs≤2^0 * B;have:=h g;omega
 | i+1,g=>by
  have h1:=zet_small hs h i g;have h2:=zet_small hs h i (g-2^i);show (opB s i (zet s v i) g).natAbs≤_;unfold opB;have e:2^(i+1) * B=2^i * B+2^i * B:=by rw[Nat.pow_succ];rw[Nat.mul_two,Nat.add_mul]
  rw[e];split
  ·rcases hs with rfl | rfl <;> omega
  ·omega
theorem nz_small {bs:List Int}{m B:Nat} (hl:bs.length=2^m) (h:∀ x∈bs,x.natAbs≤B):Small (2^m * B) (nzL (zetL (-1) bs m)):=by
 intro t ht;have h1:=(List.mem_filter.mp ht).1;have e0:bs=(List.range (2^m)).map (getN bs):=by rw[← hl];exact list_as_map bs
 rw[e0,zetL_map,enumT_map] at h1;obtain⟨i,hi,rfl⟩:=List.mem_map.mp h1;refine zet_small (.inr rfl) (fun g=>?_) m i;unfold getN;rw[List.getD_eq_getElem?_getD];cases e:bs[g]? with
 | none=>simp
 | some x=>exact h x (List.mem_of_getElem? e)
theorem worth_low {m g:Nat}:∀ {l:Terms},(∀ t∈l,0≤t.1∧t.1<2^m)→worthL l (g:Int)=worthL l ((g % 2^m:Nat):Int)
 | [],_=>rfl
 | t :: l,h=>by
  have ih:=worth_low (g:=g) (l:=l) fun t ht=>h t (List.mem_cons_of_mem _ ht)
  have ht:=h t (List.mem_cons_self ..);have pw:((2:Int)^m)=((2^m:Nat):Int):=by norm_cast
  have e:((t.1.toNat:Nat):Int)=t.1:=Int.toNat_of_nonneg ht.1;rw[worth_lin,worth_lin] at *;rw[lin,lin,ih];congr 1;have e1:phi (g:Int) t.1=phi ((g % 2^m:Nat):Int) t.1:=by
   rw[← e,phi_nat,phi_nat];have hs:t.1.toNat &&& g=t.1.toNat↔t.1.toNat &&& (g % 2^m)=t.1.toNat:=by
    rw[sub_iff,sub_iff];refine forall_congr' fun i=>?_
    constructor
    ·intro H hi;rw[Nat.testBit_mod_two_pow,H hi]
     have:i<m:=by
      rcases Nat.lt_or_ge i m with z | z
      ·exact z
      ·rw[Nat.testBit_lt_two_pow (Nat.lt_of_lt_of_le (by omega:t.1.toNat<2^m) (Nat.pow_le_pow_right (by decide) z))] at hi;cases hi
     simp[this]
    ·intro H hi
     have:=H hi
     rw[Nat.testBit_mod_two_pow] at this;simp at this;exact this.2
   by_cases hc:t.1.toNat &&& g=t.1.toNat
   ·rw[if_pos hc,if_pos (hs.mp hc)]
   ·rw[if_neg hc,if_neg (fun z=>hc (hs.mpr z))]
  rw[e1]
end My
namespace My
open PySem L2 OF
theorem forms_eq {M:Nat}{F G:Terms} (hF:IsForm F) (hG:IsForm G) (kF:∀ t∈F,0≤t.1∧t.1<2^M) (kG:∀ t∈G,0≤t.1∧t.1<2^M) (hw:∀ g:Nat,worthL F (g:Int)=worthL G (g:Int)):F=G:=by
 have e:((List.range (2^M)).map fun g:Nat=>worthL F (g:Int))=(List.range (2^M)).map fun g:Nat=>worthL G (g:Int):=List.map_congr_left fun g _=>hw g
 refine form_ext hF hG fun k=>?_
 rw[← form_worths kF rfl (nzL_form _) k,← form_worths kG e (nzL_form _) k]
theorem or_keys {M:Nat}{f g:Terms} (hf:∀ t∈f,0≤t.1∧t.1<2^M) (hg:∀ t∈g,0≤t.1∧t.1<2^M):∀ t∈prodL f g,0≤t.1∧t.1<2^M:=fun t ht=>by
 obtain⟨u,hu,v,hv,rfl⟩:=mem_prodL ht;have h1:=hf u hu;have h2:=hg v hv;have pw:((2:Int)^M)=((2^M:Nat):Int):=by norm_cast
 show 0≤Builtin.bitOr u.1 v.1∧Builtin.bitOr u.1 v.1<2^M;rw[bitOr_pp h1.1 h2.1]
 have:=Nat.or_lt_two_pow (n:=M) (x:=u.1.toNat) (y:=v.1.toNat) (by omega) (by omega)
 omega
theorem one_worth (c:Int) (g:Nat):worthL [((0:Int),c)] (g:Int)=c:=by
 rw[worth_lin];simp only[lin]
 have:phi (g:Int) 0=1:=by rw[show (0:Int)=((0:Nat):Int) from rfl,phi_nat];simp
 rw[this];omega
end My
namespace My
open PySem L2 OF
noncomputable def Fms (H:Hp):List Addr→List Terms→Prop:=Paired fun p f=>TLo H p f
theorem Fms.length {H:Hp}{ps:List Addr}{l:List Terms} (h:Fms H ps l):ps.length=l.length:=Paired.length h
theorem Fms.keep {H H':Hp}{ps:List Addr}{l:List Terms} (h:Fms H ps l) (k:Same H H'):Fms H' ps l:=Paired.mapP h fun p t e=>e.keep k
theorem Fms.at:∀ {H:Hp}{ps:List Addr}{l:List Terms}{i:Nat}{f:Terms},Fms H ps l→l[i]? = some f→∃ p,ps[i]? = some p∧TLo H p f
 | _,_,_,0,_,.cons e _,h=>by cases h;exact⟨_,rfl,e⟩
 | _,_,_,i+1,_,.cons _ r,h=>by
  obtain⟨t,h1,h2⟩:=Fms.at (i:=i) r (by simpa using h);exact⟨t,by simpa using h1,h2⟩
theorem Fms.snoc:∀ {H:Hp}{ps:List Addr}{l:List Terms}{p:Addr}{t:Terms},Fms H ps l→TLo H p t→Fms H (ps ++ [p]) (l ++ [t])
 | _,_,_,_,_,.nil,e=>.cons e .nil
 | _,_,_,_,_,.cons x r,e=>.cons x (Fms.snoc r e)
noncomputable def FLo (H:Hp) (a:Addr) (l:List Terms):Prop:=∃ ps:List Addr,H a=some (.lst (ps.map V.ref))∧Fms H ps l
noncomputable def wordL (w:Nat) (l o:Terms):Terms:=if w=0 then prodL l o else (l++o)++(prodL l o).map fun t=>(t.1,t.2 * (if w=1 then -1 else -2))
noncomputable def notL (l:Terms):Terms:=[(0,1)]++l.map fun t=>(t.1,-t.2)
theorem worth_not (l:Terms) (g:Nat):worthL (notL l) (g:Int)=1-worthL l (g:Int):=by
 unfold notL;rw[worth_plus,one_worth,worth_lin,worth_lin,lin_neg];omega
theorem worth_word {w:Nat} (hw:w<3) {l o:Terms} (hl:∀ t∈l,0≤t.1) (ho:∀ t∈o,0≤t.1) {g:Nat} (h1:Bit (worthL l (g:Int))) (h2:Bit (worthL o (g:Int))):worthL (wordL w l o) (g:Int)=say w (worthL l (g:Int)) (worthL o (g:Int)):=by
 unfold wordL;have hp:=worth_times hl ho (Int.natCast_nonneg g);by_cases h0:w=0
 ·subst h0;rw[if_pos rfl,hp];rfl
 ·rw[if_neg h0,worth_plus,worth_plus,worth_lin _ ((prodL l o).map _),lin_mulr,← worth_lin,hp];obtain rfl | rfl:w=1∨w=2:=by omega
  ·rcases h1 with z | z <;> rcases h2 with y | y <;> rw[z,y] <;> decide
  ·rcases h1 with z | z <;> rcases h2 with y | y <;> rw[z,y] <;> decide
noncomputable def wireL (a:Nat):Terms:=[((2:Int)^a,1)]
theorem worth_wire (a g:Nat):worthL (wireL a) (g:Int)=if g.testBit a then 1 else 0:=by
 rw[worth_lin];unfold wireL;simp only[lin];have e:((2:Int)^a)=((2^a:Nat):Int):=by norm_cast
 rw[e,phi_nat];have h:2^a &&& g=2^a↔g.testBit a=true:=by
  rw[Nat.and_comm,and_pow]
  have:=Nat.two_pow_pos a
  by_cases hb:g.testBit a=true
  ·simp[hb]
  ·simp[hb];omega
 by_cases hb:g.testBit a=true
 ·rw[if_pos (h.mpr hb),if_pos hb];rfl
 ·rw[if_neg (fun z=>hb (h.mp z)),if_neg hb];rfl
theorem wire_keys (a:Nat):∀ t∈wireL a,0≤t.1∧t.1<2^(a+1):=fun t ht=>by
 have e:t=((2:Int)^a,1):=by simpa [wireL] using ht
 rw[e];have pw:((2:Int)^a)=((2^a:Nat):Int):=by norm_cast
 have:=Nat.two_pow_pos a
 show 0≤(2:Int)^a∧(2:Int)^a<2^(a+1);rw[Int.pow_succ];omega
theorem keys_up {m n:Nat} (h:m≤n) {l:Terms} (hl:∀ t∈l,0≤t.1∧t.1<2^m):∀ t∈l,0≤t.1∧t.1<2^n:=fun t ht=>by
 have h1:=hl t ht;have e1:((2:Int)^m)=((2^m:Nat):Int):=by norm_cast
 have e2:((2:Int)^n)=((2^n:Nat):Int):=by norm_cast
 have:=Nat.pow_le_pow_right (n:=2) (by decide) h
 omega
theorem word_keys {M w:Nat}{l o:Terms} (hl:∀ t∈l,0≤t.1∧t.1<2^M) (ho:∀ t∈o,0≤t.1∧t.1<2^M):∀ t∈wordL w l o,0≤t.1∧t.1<2^M:=fun t ht=>by
 unfold wordL at ht;split at ht
 ·exact or_keys hl ho t ht
 ·rcases List.mem_append.mp ht with z | z
  ·rcases List.mem_append.mp z with y | y
   ·exact hl t y
   ·exact ho t y
  ·obtain⟨u,hu,rfl⟩:=List.mem_map.mp z;exact or_keys hl ho u hu
theorem not_keys {M:Nat}{l:Terms} (hl:∀ t∈l,0≤t.1∧t.1<2^M):∀ t∈notL l,0≤t.1∧t.1<2^M:=fun t ht=>by
 unfold notL at ht;rcases List.mem_append.mp ht with z | z
 ·have e:t=(0,1):=by simpa using z
  rw[e];have pw:((2:Int)^M)=((2^M:Nat):Int):=by norm_cast
  have:=Nat.two_pow_pos M
  exact⟨Int.le_refl _,by show (0:Int)<2^M;omega⟩
 ·obtain⟨u,hu,rfl⟩:=List.mem_map.mp z;exact hl u hu
theorem setB_self (g k:Nat):setB g k (g.testBit k)=g:=by
 unfold setB;cases h:g.testBit k <;> simp
theorem Fms.keepU {H:Hp}{D:Addr}{xs:List V}{o:HO} (hD:H D=some (.lst xs)):∀ {ps:List Addr}{l:List Terms},Fms H ps l→D ∉ ps→Fms (upd H D o) ps l
 | _,_,.nil,_=>.nil
 | _,_,.cons e r,h=>by
  refine .cons ?_ (Fms.keepU hD r fun z=>h (List.mem_cons_of_mem _ z));obtain⟨qs,h1,h2⟩:=e;exact⟨qs,by rw[upd_ne (fun z=>h (by rw[z];exact List.mem_cons_self ..))];exact h1,h2.keep fun b zs z=>by rw[upd_ne (ne_of z hD (by intro w;cases w))];exact z⟩
end My
namespace L2
open PySem PySem.Spec PyProof.Rows
section
variable {prog:Program}{w:World}{A:Around}{E:Value→Shared→Prop}{s:Shared}
theorem any_alive {M:Model}{a:Addr}{Q:Option Obj→Shared→Prop} (h:Q (s.heap.get? a) s):wpAny M A (loadIfAlive a) Q E s:=fun Γ p _=>by
 show Sem.wp M Γ (.loadIfAlive a .pure) _ _ p s;simpa using h
theorem zip_held {z TI TO i1 i2 l1 l2 T:Addr}{k1 k2:Nat}{xs ys:Array Value}{x y:Value}{b:Bool}{oT:Obj}{Q:Value→Shared→Prop} (D:ZipApart z TI TO i1 i2 l1 l2)
  (hz:s.heap.get? z=some { cls := .type "zip",dict:=none,data := .fields #[rawInt T,.bool b,.bool false,.ref TI,.ref TO],slots := #[] }) (hT:s.heap.get? T=some oT) (hTI:IsPair s.heap TI (.ref i1) (.ref i2))
  (h1:s.heap.IsListIter i1 l1 k1) (h2:s.heap.IsListIter i2 l2 k2) (hl1:s.heap.IsList l1 xs) (hl2:s.heap.IsList l2 ys) (hx:xs[k1]? = some x) (hy:ys[k2]? = some y)
  (hQ:∀ h',h'.get? z=some { cls := .type "zip",dict:=none,data := .fields #[rawInt T,.bool true,.bool false,.ref TI,.ref TO],slots := #[] }→h'.IsListIter i1 l1 (k1+1)→h'.IsListIter i2 l2 (k2+1)→IsPair h' s.heap.objs.size x y→h'.objs.size=s.heap.objs.size+1 →
   (∀ c o,c≠z→c≠i1→c≠i2→s.heap.get? c=some o→h'.get? c=some o)→Q (.ref s.heap.objs.size) { s with heap:=h' }) :
  wpAny (model prog w) A (Builtin.«zip.__next__» ⟨[.ref z],[]⟩) (fun fin s'=>∃ v,fin = .done (.ret v)∧Q v s') E s:=by
 refine (show wpAny (model prog w) A (field (Value.ref z) 2 >>= _) _ E s from wpAny_bind (wpAny_field (x:=Value.bool false) hz rfl rfl ?_));refine (show wpAny (model prog w) A (field (Value.ref z) 3 >>= _) _ E s from wpAny_bind (wpAny_field (x:=Value.ref TI) hz rfl rfl (wpAny_bind (wpAny_seqItems hTI rfl ?_))));refine (show wpAny (model prog w) A (Builtin.SmallTypes.ownedTupleIsFree (Value.ref z) >>= _) _ E s from wpAny_bind ?_);unfold Builtin.SmallTypes.ownedTupleIsFree;refine wpAny_bind (wpAny_field (x:=rawInt T) hz rfl rfl ?_);refine (show wpAny (model prog w) A (loadIfAlive (T:Int).toNat >>= _) _ E s from wpAny_bind (any_alive ?_));rw[show (T:Int).toNat=T from Int.toNat_natCast T,hT];have free:∀ {Q':Bool→Shared→Prop},(∀ h₁,h₁.get? z=some { cls := .type "zip",dict:=none,data := .fields #[rawInt T,.bool true,.bool false,.ref TI,.ref TO],slots := #[] }→(∀ c,c≠z→h₁.get? c=s.heap.get? c)→h₁.objs.size=s.heap.objs.size→Q' false { s with heap:=h₁ }) →
   wpAny (model prog w) A (do
    let v ← field (Value.ref z) 1
    if (v != Value.bool true)=true then do
     let _ ← setField (Value.ref z) 1 (Value.bool true)
     pure false
    else pure false) Q' E s:=fun {Q'} h=>by
  refine wpAny_bind (wpAny_field (x:=Value.bool b) hz rfl rfl ?_);cases b
  ·refine (show wpAny (model prog w) A (setField (Value.ref z) 1 (Value.bool true) >>= _) _ E s from wpAny_bind (wpAny_setField_rec hz (by simp) fun h₁ hz₁ hs₁=>wpAny_pure (h h₁ hz₁ (fun c hc=>hs₁.2 c hc) hs₁.1)))
  ·exact wpAny_pure (h s.heap hz (fun _ _=>rfl) rfl)
 refine free fun h₁ hz₁ k₁ hs₁=>?_
 have up:∀ c o,c≠z→s.heap.get? c=some o→h₁.get? c=some o:=fun c o hc e=>(k₁ c hc).trans e
 have i1₁:h₁.IsListIter i1 l1 k1:=h1.at fun o e=>up _ o D.i1z e
 have i2₁:h₁.IsListIter i2 l2 k2:=h2.at fun o e=>up _ o D.i2z e
 refine (show wpAny (model prog w) A (forIn #[Value.ref i1,Value.ref i2] _ _ >>= _) _ E { s with heap:=h₁ } from wpAny_bind ?_);rw[← Array.forIn_toList];simp only[List.forIn_cons,List.forIn_nil];have hl1₁:h₁.IsList l1 xs:=hl1.at fun o e=>up _ o D.l1z e
 have hl2₁:h₁.IsList l2 ys:=hl2.at fun o e=>up _ o D.l2z e
 refine wpAny_bind (wpAny_bind (wpAny_holding ?_));refine (show wpAny (model prog w) A (Builtin.SmallTypes.nextOf (Value.ref i1) >>= _) _ E { s with heap:=h₁ } from wpAny_bind (wpAny_nextOf_list_item i1₁ hl1₁ hx fun h₂ i1₂ hs₂=>wpAny_pure (wpAny_pure ?_)));refine wpAny_bind (wpAny_bind (wpAny_holding ?_));have i2₂:h₂.IsListIter i2 l2 k2:=i2₁.extBut hs₂.extBut (Ne.symm D.i12);have hl2₂:h₂.IsList l2 ys:=hl2₁.extBut hs₂.extBut D.l2i1;refine (show wpAny (model prog w) A (Builtin.SmallTypes.nextOf (Value.ref i2) >>= _) _ E { s with heap:=h₂ } from wpAny_bind (wpAny_nextOf_list_item i2₂ hl2₂ hy fun h₃ i2₃ hs₃=>wpAny_pure (wpAny_pure (wpAny_pure ?_))));have z₃:h₃.get? z=some { cls := .type "zip",dict:=none,data := .fields #[rawInt T,.bool true,.bool false,.ref TI,.ref TO],slots := #[] }:=(hs₃.2 z (Ne.symm D.i2z)).trans ((hs₂.2 z (Ne.symm D.i1z)).trans hz₁);have sz:h₃.objs.size=s.heap.objs.size:=by rw[hs₃.1,hs₂.1,hs₁]
 refine wpAny_bind (wpAny_newTuple (hsz:=by show 2≤sizeLine;decide) (wpAny_pure ⟨_,rfl,?_⟩));have ps:∀ {c:Addr}{o:Obj},h₃.get? c=some o→(h₃.push { cls := .type "tuple",data := .seq [x,y].toArray }).get? c=some o:=fun e=>Heap.get?_push_of_some _ e
 have last:=hQ (h₃.push { cls := .type "tuple",data := .seq [x,y].toArray }) (ps z₃) ((i1₂.extBut hs₃.extBut D.i12).at fun o e=>ps e) (i2₃.at fun o e=>ps e) (by rw[← sz];exact Heap.get?_push_size _ rfl) (by rw[Heap.size_push,sz]) fun c o c1 c2 c3 e=>ps ((hs₃.2 c c3).trans ((hs₂.2 c c2).trans (up c o c1 e)))
 rw[← sz] at last;exact last
theorem zip_held_end {z TI TO i1 i2 l1 l2 T:Addr}{k1 k2:Nat}{xs ys:Array Value}{b:Bool}{oT:Obj}{Q:Fin→Shared→Prop} (hh:A.handled=none) (D:ZipApart z TI TO i1 i2 l1 l2)
  (hz:s.heap.get? z=some { cls := .type "zip",dict:=none,data := .fields #[rawInt T,.bool b,.bool false,.ref TI,.ref TO],slots := #[] }) (hT:s.heap.get? T=some oT) (hTI:IsPair s.heap TI (.ref i1) (.ref i2))
  (h1:s.heap.IsListIter i1 l1 k1) (h2:s.heap.IsListIter i2 l2 k2) (hl1:s.heap.IsList l1 xs) (hl2:s.heap.IsList l2 ys) (he:xs[k1]? = none∨ys[k2]? = none)
  (hE:∀ h' e,(∀ c o,c≠z→c≠i1→c≠i2→s.heap.get? c=some o→h'.get? c=some o)→(∃ o,h'.get? e=some o∧o.cls = .type "StopIteration")→E (.ref e) { s with heap:=h' }) :
  wpAny (model prog w) A (Builtin.«zip.__next__» ⟨[.ref z],[]⟩) Q E s:=by
 refine (show wpAny (model prog w) A (field (Value.ref z) 2 >>= _) _ E s from wpAny_bind (wpAny_field (x:=Value.bool false) hz rfl rfl ?_));refine (show wpAny (model prog w) A (field (Value.ref z) 3 >>= _) _ E s from wpAny_bind (wpAny_field (x:=Value.ref TI) hz rfl rfl (wpAny_bind (wpAny_seqItems hTI rfl ?_))));refine (show wpAny (model prog w) A (Builtin.SmallTypes.ownedTupleIsFree (Value.ref z) >>= _) _ E s from wpAny_bind ?_);unfold Builtin.SmallTypes.ownedTupleIsFree;refine wpAny_bind (wpAny_field (x:=rawInt T) hz rfl rfl ?_);refine (show wpAny (model prog w) A (loadIfAlive (T:Int).toNat >>= _) _ E s from wpAny_bind (any_alive ?_));rw[show (T:Int).toNat=T from Int.toNat_natCast T,hT];have free:∀ {Q':Bool→Shared→Prop},(∀ h₁,h₁.get? z=some { cls := .type "zip",dict:=none,data := .fields #[rawInt T,.bool true,.bool false,.ref TI,.ref TO],slots := #[] }→(∀ c,c≠z→h₁.get? c=s.heap.get? c)→h₁.objs.size=s.heap.objs.size→Q' false { s with heap:=h₁ }) →
   wpAny (model prog w) A (do
    let v ← field (Value.ref z) 1
    if (v != Value.bool true)=true then do
     let _ ← setField (Value.ref z) 1 (Value.bool true)
     pure false
    else pure false) Q' E s:=fun {Q'} h=>by
  refine wpAny_bind (wpAny_field (x:=Value.bool b) hz rfl rfl ?_);cases b
  ·refine (show wpAny (model prog w) A (setField (Value.ref z) 1 (Value.bool true) >>= _) _ E s from wpAny_bind (wpAny_setField_rec hz (by simp) fun h₁ hz₁ hs₁=>wpAny_pure (h h₁ hz₁ (fun c hc=>hs₁.2 c hc) hs₁.1)))
  ·exact wpAny_pure (h s.heap hz (fun _ _=>rfl) rfl)
 refine free fun h₁ hz₁ k₁ hs₁=>?_
 have up:∀ c o,c≠z→s.heap.get? c=some o→h₁.get? c=some o:=fun c o hc e=>(k₁ c hc).trans e
 have i1₁:h₁.IsListIter i1 l1 k1:=h1.at fun o e=>up _ o D.i1z e
 have i2₁:h₁.IsListIter i2 l2 k2:=h2.at fun o e=>up _ o D.i2z e
 refine (show wpAny (model prog w) A (forIn #[Value.ref i1,Value.ref i2] _ _ >>= _) _ E { s with heap:=h₁ } from wpAny_bind ?_);rw[← Array.forIn_toList];simp only[List.forIn_cons,List.forIn_nil];have hl1₁:h₁.IsList l1 xs:=hl1.at fun o e=>up _ o D.l1z e
 have hl2₁:h₁.IsList l2 ys:=hl2.at fun o e=>up _ o D.l2z e
 refine wpAny_bind (wpAny_bind (wpAny_holding ?_));cases hx:xs[k1]? with
 | none =>
  refine (show wpAny (model prog w) A (Builtin.SmallTypes.nextOf (Value.ref i1) >>= _) _ E { s with heap:=h₁ } from wpAny_bind (wpAny_nextOf_list_end hh i1₁ hl1₁ hx fun h₂ e hs₂ o=>?_));exact hE h₂ e (fun c o c1 c2 _ x=>hs₂ c o c2 (up c o c1 x)) o
 | some x =>
  have hy:ys[k2]? = none:=he.resolve_left (by rw[hx];intro z;cases z);refine (show wpAny (model prog w) A (Builtin.SmallTypes.nextOf (Value.ref i1) >>= _) _ E { s with heap:=h₁ } from wpAny_bind (wpAny_nextOf_list_item i1₁ hl1₁ hx fun h₂ i1₂ hs₂=>wpAny_pure (wpAny_pure ?_)));refine wpAny_bind (wpAny_bind (wpAny_holding ?_));have i2₂:h₂.IsListIter i2 l2 k2:=i2₁.extBut hs₂.extBut (Ne.symm D.i12);have hl2₂:h₂.IsList l2 ys:=hl2₁.extBut hs₂.extBut D.l2i1;refine (show wpAny (model prog w) A (Builtin.SmallTypes.nextOf (Value.ref i2) >>= _) _ E { s with heap:=h₂ } from wpAny_bind (wpAny_nextOf_list_end hh i2₂ hl2₂ hy fun h₃ e hs₃ o=>?_));exact hE h₃ e (fun c o c1 c2 c3 x=>hs₃ c o c3 ((hs₂.2 c c2).trans (up c o c1 x))) o
theorem zip_again {z TI TO i1 i2 l1 l2 T:Addr}{k1 k2:Nat}{xs ys:Array Value}{x y u v:Value}{b:Bool}{Q:Value→Shared→Prop} (D:ZipApart z TI TO i1 i2 l1 l2)
  (hz:s.heap.get? z=some { cls := .type "zip",dict:=none,data := .fields #[rawInt T,.bool b,.bool false,.ref TI,.ref TO],slots := #[] }) (hT:s.heap.get? T=none) (hTI:IsPair s.heap TI (.ref i1) (.ref i2)) (hTO:IsPair s.heap TO u v)
  (h1:s.heap.IsListIter i1 l1 k1) (h2:s.heap.IsListIter i2 l2 k2) (hl1:s.heap.IsList l1 xs) (hl2:s.heap.IsList l2 ys) (hx:xs[k1]? = some x) (hy:ys[k2]? = some y)
  (hQ:∀ h' b',h'.get? z=some { cls := .type "zip",dict:=none,data := .fields #[rawInt s.heap.objs.size,.bool b',.bool false,.ref TI,.ref TO],slots := #[] }→IsPair h' TO x y→h'.IsListIter i1 l1 (k1+1)→h'.IsListIter i2 l2 (k2+1)→IsPair h' s.heap.objs.size x y→h'.objs.size=s.heap.objs.size+1 →
   (∀ c o,c≠z→c≠TO→c≠i1→c≠i2→s.heap.get? c=some o→h'.get? c=some o)→Q (.ref s.heap.objs.size) { s with heap:=h' }) :
  wpAny (model prog w) A (Builtin.«zip.__next__» ⟨[.ref z],[]⟩) (fun fin s'=>∃ v,fin = .done (.ret v)∧Q v s') E s:=by
 refine (show wpAny (model prog w) A (field (Value.ref z) 2 >>= _) _ E s from wpAny_bind (wpAny_field (x:=Value.bool false) hz rfl rfl ?_));refine (show wpAny (model prog w) A (field (Value.ref z) 3 >>= _) _ E s from wpAny_bind (wpAny_field (x:=Value.ref TI) hz rfl rfl (wpAny_bind (wpAny_seqItems hTI rfl ?_))));refine (show wpAny (model prog w) A (Builtin.SmallTypes.ownedTupleIsFree (Value.ref z) >>= _) _ E s from wpAny_bind ?_);unfold Builtin.SmallTypes.ownedTupleIsFree;refine wpAny_bind (wpAny_field (x:=rawInt T) hz rfl rfl ?_);refine (show wpAny (model prog w) A (loadIfAlive (T:Int).toNat >>= _) _ E s from wpAny_bind (any_alive ?_));rw[show (T:Int).toNat=T from Int.toNat_natCast T,hT];refine (show wpAny (model prog w) A (pure true) _ E s from wpAny_pure ?_);refine (show wpAny (model prog w) A (rule "zip.__next__.owned-tuple-again" >>= _) _ E s from wpAny_bind (wpAny_rule (wpAny_bind (wpAny_field (x:=Value.ref TO) hz rfl rfl ?_))));refine wpAny_bind (wpAny_setField_rec (x:=Value.ellipsis) hz (by simp) fun h₁ hz₁ hs₁=>wpAny_bind ?_);simp only[List.zipIdx_cons,List.zipIdx_nil,List.forIn_cons,List.forIn_nil];have i1₁:h₁.IsListIter i1 l1 k1:=h1.extBut hs₁.extBut D.i1z;have i2₁:h₁.IsListIter i2 l2 k2:=h2.extBut hs₁.extBut D.i2z;have hl1₁:h₁.IsList l1 xs:=hl1.extBut hs₁.extBut D.l1z;have hl2₁:h₁.IsList l2 ys:=hl2.extBut hs₁.extBut D.l2z;have t₁:IsPair h₁ TO u v:=(hs₁.2 TO D.TOz).trans hTO;refine wpAny_bind (wpAny_bind (wpAny_onRaise ?_));refine (show wpAny (model prog w) A (Builtin.SmallTypes.nextOf (Value.ref i1) >>= _) _ _ { s with heap:=h₁ } from wpAny_bind (wpAny_nextOf_list_item i1₁ hl1₁ hx fun h₂ i1₂ hs₂=>wpAny_pure ?_));have t₂:IsPair h₂ TO u v:=(hs₂.2 TO D.TOi1).trans t₁;refine wpAny_bind (wpAny_seqItems t₂ rfl (wpAny_bind (wpAny_updateSeq_pair t₂ fun h₃ t₃ hs₃=>wpAny_bind (wpAny_letGo (wpAny_pure ?_)))));refine wpAny_bind (wpAny_bind (wpAny_onRaise ?_));have i2₃:h₃.IsListIter i2 l2 k2:=(i2₁.extBut hs₂.extBut (Ne.symm D.i12)).extBut hs₃.extBut (Ne.symm D.TOi2);have hl2₃:h₃.IsList l2 ys:=(hl2₁.extBut hs₂.extBut D.l2i1).extBut hs₃.extBut D.l2TO;refine (show wpAny (model prog w) A (Builtin.SmallTypes.nextOf (Value.ref i2) >>= _) _ _ { s with heap:=h₃ } from wpAny_bind (wpAny_nextOf_list_item i2₃ hl2₃ hy fun h₄ i2₄ hs₄=>wpAny_pure ?_));have t₄:IsPair h₄ TO x v:=(hs₄.2 TO D.TOi2).trans t₃;refine wpAny_bind (wpAny_seqItems t₄ rfl (wpAny_bind (wpAny_updateSeq_pair t₄ fun h₅ t₅ hs₅=>wpAny_bind (wpAny_letGo (wpAny_pure (wpAny_pure ?_))))));have t₅':IsPair h₅ TO x y:=t₅;have sz:h₅.objs.size=s.heap.objs.size:=by rw[hs₅.1,hs₄.1,hs₃.1,hs₂.1,hs₁.1]
 have kk:∀ c o,c≠z→c≠TO→c≠i1→c≠i2→s.heap.get? c=some o→h₅.get? c=some o:=fun c o c1 c2 c3 c4 e=>(hs₅.2 c c2).trans ((hs₄.2 c c4).trans ((hs₃.2 c c2).trans ((hs₂.2 c c3).trans ((hs₁.2 c c1).trans e))))
 have z₅:h₅.get? z=some { cls := .type "zip",dict:=none,data := .fields #[.ellipsis,.bool b,.bool false,.ref TI,.ref TO],slots := #[] }:=(hs₅.2 z (Ne.symm D.TOz)).trans ((hs₄.2 z (Ne.symm D.i2z)).trans ((hs₃.2 z (Ne.symm D.TOz)).trans ((hs₂.2 z (Ne.symm D.i1z)).trans hz₁)));have j1:h₅.IsListIter i1 l1 (k1+1):=((i1₂.extBut hs₃.extBut (Ne.symm D.TOi1)).extBut hs₄.extBut D.i12).extBut hs₅.extBut (Ne.symm D.TOi1);have j2:h₅.IsListIter i2 l2 (k2+1):=i2₄.extBut hs₅.extBut (Ne.symm D.TOi2);refine wpAny_bind (wpAny_seqItems t₅' rfl (wpAny_bind (wpAny_newTuple (hsz:=by show 2≤sizeLine;decide) (wpAny_bind ?_))));have ps:∀ {c:Addr}{o:Obj},h₅.get? c=some o→(h₅.push { cls := .type "tuple",data := .seq (#[x,y]:Array Value).toList.toArray }).get? c=some o:=fun e=>Heap.get?_push_of_some _ e
 unfold Builtin.SmallTypes.ownedTupleHandOut;refine wpAny_bind (wpAny_setField_rec (ps z₅) (by simp) fun h₆ z₆ hs₆=>?_);refine wpAny_setField_rec z₆ (by simp) fun h₇ z₇ hs₇=>wpAny_pure ⟨_,rfl,?_⟩
 have zl:z<h₅.objs.size:=Heap.lt_size z₅;have up:∀ c o,c≠z→h₅.get? c=some o→h₇.get? c=some o:=fun c o c1 e=>(hs₇.2 c c1).trans ((hs₆.2 c c1).trans (ps e))
 have nt:h₇.get? h₅.objs.size=some { cls := .type "tuple",data := .seq (#[x,y]:Array Value).toList.toArray }:=(hs₇.2 _ (Nat.ne_of_gt zl)).trans ((hs₆.2 _ (Nat.ne_of_gt zl)).trans (Heap.get?_push_size _ rfl));have last:=hQ h₇ false (by rw[← sz];exact z₇) (up _ _ D.TOz t₅') (j1.at fun o e=>up _ o D.i1z e) (j2.at fun o e=>up _ o D.i2z e) (by rw[← sz];exact nt) (by rw[hs₇.1,hs₆.1,Heap.size_push,sz]) fun c o c1 c2 c3 c4 e=>up c o c1 (kk c o c1 c2 c3 c4 e)
 rw[← sz] at last;exact last
theorem zip_again_end {z TI TO i1 i2 l1 l2 T:Addr}{k1 k2:Nat}{xs ys:Array Value}{u v:Value}{b:Bool}{Q:Fin→Shared→Prop} (hh:A.handled=none) (D:ZipApart z TI TO i1 i2 l1 l2)
  (hz:s.heap.get? z=some { cls := .type "zip",dict:=none,data := .fields #[rawInt T,.bool b,.bool false,.ref TI,.ref TO],slots := #[] }) (hT:s.heap.get? T=none) (hTI:IsPair s.heap TI (.ref i1) (.ref i2)) (hTO:IsPair s.heap TO u v)
  (h1:s.heap.IsListIter i1 l1 k1) (h2:s.heap.IsListIter i2 l2 k2) (hl1:s.heap.IsList l1 xs) (hl2:s.heap.IsList l2 ys) (he:xs[k1]? = none∨ys[k2]? = none)
  (hE:∀ h' e,(∀ c o,c≠z→c≠TO→c≠i1→c≠i2→s.heap.get? c=some o→h'.get? c=some o)→(∃ o,h'.get? e=some o∧o.cls = .type "StopIteration")→E (.ref e) { s with heap:=h' }) :
  wpAny (model prog w) A (Builtin.«zip.__next__» ⟨[.ref z],[]⟩) Q E s:=by
 refine (show wpAny (model prog w) A (field (Value.ref z) 2 >>= _) _ E s from wpAny_bind (wpAny_field (x:=Value.bool false) hz rfl rfl ?_));refine (show wpAny (model prog w) A (field (Value.ref z) 3 >>= _) _ E s from wpAny_bind (wpAny_field (x:=Value.ref TI) hz rfl rfl (wpAny_bind (wpAny_seqItems hTI rfl ?_))));refine (show wpAny (model prog w) A (Builtin.SmallTypes.ownedTupleIsFree (Value.ref z) >>= _) _ E s from wpAny_bind ?_);unfold Builtin.SmallTypes.ownedTupleIsFree;refine wpAny_bind (wpAny_field (x:=rawInt T) hz rfl rfl ?_);refine (show wpAny (model prog w) A (loadIfAlive (T:Int).toNat >>= _) _ E s from wpAny_bind (any_alive ?_));rw[show (T:Int).toNat=T from Int.toNat_natCast T,hT];refine (show wpAny (model prog w) A (pure true) _ E s from wpAny_pure ?_);refine (show wpAny (model prog w) A (rule "zip.__next__.owned-tuple-again" >>= _) _ E s from wpAny_bind (wpAny_rule (wpAny_bind (wpAny_field (x:=Value.ref TO) hz rfl rfl ?_))));refine wpAny_bind (wpAny_setField_rec (x:=Value.ellipsis) hz (by simp) fun h₁ hz₁ hs₁=>wpAny_bind ?_);simp only[List.zipIdx_cons,List.zipIdx_nil,List.forIn_cons,List.forIn_nil];have i1₁:h₁.IsListIter i1 l1 k1:=h1.extBut hs₁.extBut D.i1z;have i2₁:h₁.IsListIter i2 l2 k2:=h2.extBut hs₁.extBut D.i2z;have hl1₁:h₁.IsList l1 xs:=hl1.extBut hs₁.extBut D.l1z;have hl2₁:h₁.IsList l2 ys:=hl2.extBut hs₁.extBut D.l2z;have t₁:IsPair h₁ TO u v:=(hs₁.2 TO D.TOz).trans hTO;refine wpAny_bind (wpAny_bind (wpAny_onRaise ?_));have apart:∀ {h':Heap}{e:Addr}{o:Obj}{vs:Array Value},h'.get? z=some { cls := .type "zip",dict:=none,data := .fields vs,slots := #[] }→h'.get? e=some o→o.cls = .type "StopIteration" → e≠z:=fun a1 a2 a3 x=>by
  rw[x,a1] at a2;cases a2;simp at a3
 cases hx:xs[k1]? with
 | none =>
  refine (show wpAny (model prog w) A (Builtin.SmallTypes.nextOf (Value.ref i1) >>= _) _ _ { s with heap:=h₁ } from wpAny_bind (wpAny_nextOf_list_end hh i1₁ hl1₁ hx fun h₂ e hs₂ oe=>?_));obtain⟨o,ho,hc⟩:=oe;have z₂:=hs₂ z _ (Ne.symm D.i1z) hz₁;exact wpAny_setField_rec z₂ (by simp) fun h₃ _ hs₃=>hE h₃ e (fun c o c1 _ c3 _ x=>(hs₃.2 c c1).trans (hs₂ c o c3 ((hs₁.2 c c1).trans x))) ⟨o,(hs₃.2 e (apart z₂ ho hc)).trans ho,hc⟩
 | some x =>
  have hy:ys[k2]? = none:=he.resolve_left (by rw[hx];intro z;cases z);refine (show wpAny (model prog w) A (Builtin.SmallTypes.nextOf (Value.ref i1) >>= _) _ _ { s with heap:=h₁ } from wpAny_bind (wpAny_nextOf_list_item i1₁ hl1₁ hx fun h₂ i1₂ hs₂=>wpAny_pure ?_));have t₂:IsPair h₂ TO u v:=(hs₂.2 TO D.TOi1).trans t₁;refine wpAny_bind (wpAny_seqItems t₂ rfl (wpAny_bind (wpAny_updateSeq_pair t₂ fun h₃ t₃ hs₃=>wpAny_bind (wpAny_letGo (wpAny_pure ?_)))));refine wpAny_bind (wpAny_bind (wpAny_onRaise ?_));have i2₃:h₃.IsListIter i2 l2 k2:=(i2₁.extBut hs₂.extBut (Ne.symm D.i12)).extBut hs₃.extBut (Ne.symm D.TOi2);have hl2₃:h₃.IsList l2 ys:=(hl2₁.extBut hs₂.extBut D.l2i1).extBut hs₃.extBut D.l2TO;refine (show wpAny (model prog w) A (Builtin.SmallTypes.nextOf (Value.ref i2) >>= _) _ _ { s with heap:=h₃ } from wpAny_bind (wpAny_nextOf_list_end hh i2₃ hl2₃ hy fun h₄ e hs₄ oe=>?_));obtain⟨o,ho,hc⟩:=oe;have z₄:=hs₄ z _ (Ne.symm D.i2z) ((hs₃.2 z (Ne.symm D.TOz)).trans ((hs₂.2 z (Ne.symm D.i1z)).trans hz₁));exact wpAny_setField_rec z₄ (by simp) fun h₅ _ hs₅=>hE h₅ e (fun c o c1 c2 c3 c4 x=>(hs₅.2 c c1).trans (hs₄ c o c4 ((hs₃.2 c c2).trans ((hs₂.2 c c3).trans ((hs₁.2 c c1).trans x))))) ⟨o,(hs₅.2 e (apart z₄ ho hc)).trans ho,hc⟩
noncomputable def ZObj (h:Heap) (z TI TO:Addr):Prop:=IsZip h z TI TO .none∨∃ (T:Addr) (b:Bool),h.get? z=some { cls := .type "zip",dict:=none,data := .fields #[rawInt T,.bool b,.bool false,.ref TI,.ref TO],slots := #[] }
theorem next_zipN {z TI TO i1 i2 l1 l2:Addr}{k1 k2:Nat}{xs ys:Array Value}{x y u v:Value}{Q:Option Value→Shared→Prop} (D:ZipApart z TI TO i1 i2 l1 l2) (hz:ZObj s.heap z TI TO) (hTI:IsPair s.heap TI (.ref i1) (.ref i2)) (hTO:IsPair s.heap TO u v)
  (h1:s.heap.IsListIter i1 l1 k1) (h2:s.heap.IsListIter i2 l2 k2) (hl1:s.heap.IsList l1 xs) (hl2:s.heap.IsList l2 ys) (hx:xs[k1]? = some x) (hy:ys[k2]? = some y)
  (hQ:∀ h',ZObj h' z TI TO→(∃ u v,IsPair h' TO u v)→h'.IsListIter i1 l1 (k1+1)→h'.IsListIter i2 l2 (k2+1)→IsPair h' s.heap.objs.size x y→(∀ c o,c≠z→c≠TO→c≠i1→c≠i2→s.heap.get? c=some o→h'.get? c=some o)→Q (some (.ref s.heap.objs.size)) { s with heap:=h' }) :
  wpAny (model prog w) A (pyNext (.ref z)) Q E s:=by
 rcases hz with hz | ⟨T,b,hz⟩
 ·exact wpAny_pyNext_zip_item D hz hTI hTO h1 h2 hl1 hl2 hx hy fun h' a1 a2 a3 a4 a5 _ a7=>hQ h' (.inr ⟨_,_,a1⟩) ⟨_,_,a2⟩ a3 a4 a5 a7
 ·have ty:s.TypeIs (.ref z) "zip" := ⟨_,hz,rfl⟩;unfold pyNext;refine wpAny_bind (wpAny_attempt (wpAny_callSpecial?_slot (name:=Str.ofString "__next__") ty F.slot_zip_next (wpAny_call_entry F.slot_zip_next ty F.entry_zip_next ?_ (F.args_zip_next_1 _))));cases hT:s.heap.get? T with
  | none=>exact zip_again D hz hT hTI hTO h1 h2 hl1 hl2 hx hy fun h' b' a1 a2 a3 a4 a5 _ a7=>wpAny_pure (hQ h' (.inr ⟨_,_,a1⟩) ⟨_,_,a2⟩ a3 a4 a5 a7)
  | some oT=>exact zip_held D hz hT hTI h1 h2 hl1 hl2 hx hy fun h' a1 a3 a4 a5 _ a7=>wpAny_pure (hQ h' (.inr ⟨_,_,a1⟩) ⟨_,_,a7 TO _ D.TOz D.TOi1 D.TOi2 hTO⟩ a3 a4 a5 fun c o c1 _ c3 c4 e=>a7 c o c1 c3 c4 e)
theorem next_zipN_end {z TI TO i1 i2 l1 l2:Addr}{k1 k2:Nat}{xs ys:Array Value}{u v:Value}{Q:Option Value→Shared→Prop} (hh:A.handled=none) (D:ZipApart z TI TO i1 i2 l1 l2) (hz:ZObj s.heap z TI TO) (hTI:IsPair s.heap TI (.ref i1) (.ref i2)) (hTO:IsPair s.heap TO u v)
  (h1:s.heap.IsListIter i1 l1 k1) (h2:s.heap.IsListIter i2 l2 k2) (hl1:s.heap.IsList l1 xs) (hl2:s.heap.IsList l2 ys) (he:xs[k1]? = none∨ys[k2]? = none)
  (hQ:∀ h',(∀ c o,c≠z→c≠TO→c≠i1→c≠i2→s.heap.get? c=some o→h'.get? c=some o)→Q none { s with heap:=h' }):wpAny (model prog w) A (pyNext (.ref z)) Q E s:=by
 rcases hz with hz | ⟨T,b,hz⟩
 ·exact wpAny_pyNext_zip_end hh D hz hTI hTO h1 h2 hl1 hl2 he hQ
 ·have ty:s.TypeIs (.ref z) "zip" := ⟨_,hz,rfl⟩;unfold pyNext;refine wpAny_bind (wpAny_attempt (wpAny_callSpecial?_slot (name:=Str.ofString "__next__") ty F.slot_zip_next (wpAny_call_entry F.slot_zip_next ty F.entry_zip_next ?_ (F.args_zip_next_1 _))));cases hT:s.heap.get? T with
  | none =>
   refine zip_again_end hh D hz hT hTI hTO h1 h2 hl1 hl2 he fun h' e a1 a2=>?_
   obtain⟨o,ho,hc⟩:=a2;exact wpAny_bind (wpAny_isInstance (T := "StopIteration") (b:=true) ⟨o,ho,hc⟩ isSubtype_stop (wpAny_pure (hQ h' a1)))
  | some oT =>
   refine zip_held_end hh D hz hT hTI h1 h2 hl1 hl2 he fun h' e a1 a2=>?_
   obtain⟨o,ho,hc⟩:=a2;exact wpAny_bind (wpAny_isInstance (T := "StopIteration") (b:=true) ⟨o,ho,hc⟩ isSubtype_stop (wpAny_pure (hQ h' fun c o c1 _ c3 c4 x=>a1 c o c1 c3 c4 x)))
end
theorem turn_zipN {P:Program}{w:World}{K:PySem.W.Frag}{nm:Str}{pos:Pos} (a b z TI TO i1 i2:Addr) (D:ZipApart z TI TO i1 i2 a b) :
  Turn P w K (.Name nm pos) (Itz K a b) [z,TI,TO,i1,i2] z (fun i h=>ZObj h z TI TO∧IsPair h TI (.ref i1) (.ref i2)∧(∃ u v,IsPair h TO u v)∧h.IsListIter i1 a i∧h.IsListIter i2 b i) where
 mem:=by simp
 obj:=fun i h st c hc=>by
  obtain⟨hz,hTI,⟨u,v,hTO⟩,⟨o1,e1,c1,d1⟩,⟨o2,e2,c2,d2⟩⟩:=st;simp only[List.mem_cons,List.not_mem_nil,or_false] at hc;rcases hc with rfl | rfl | rfl | rfl | rfl
  ·rcases hz with hz | ⟨T,b,hz⟩
   ·exact⟨_,hz,fun v z=>by cases z⟩
   ·exact⟨_,hz,fun v z=>by cases z⟩
  ·exact⟨_,hTI,fun v z=>by cases z⟩
  ·exact⟨_,hTO,fun v z=>by cases z⟩
  ·exact⟨o1,e1,fun v z=>by rw[d1] at z;cases z⟩
  ·exact⟨o2,e2,fun v z=>by rw[d2] at z;cases z⟩
 keep:=fun i h h' st k=>by
  obtain⟨hz,hTI,⟨u,v,hTO⟩,h1,h2⟩:=st;refine⟨?_,k TI (by simp) _ hTI,⟨u,v,k TO (by simp) _ hTO⟩,h1.at fun o q=>k i1 (by simp) o q,h2.at fun o q=>k i2 (by simp) o q⟩;rcases hz with hz | ⟨T,b,hz⟩
  ·exact .inl (k z (by simp) _ hz)
  ·exact .inr ⟨T,b,k z (by simp) _ hz⟩
 item:=by
  intro X hP hw hK hc i pins s σ H E I hf st hg;subst hP hw hK;obtain⟨hz,hTI,⟨u,v,hTO⟩,h1,h2⟩:=st;obtain⟨xs,ys,x,y,hq,hq',hx,hy⟩:=hg;obtain⟨its,rv,p,hsz⟩:=I.list hq;obtain⟨its',rv',p',hsz'⟩:=I.list hq';obtain⟨ux,hu,ru⟩:=rv.get hx;obtain⟨uy,hu',ru'⟩:=rv'.get hy;refine next_zipN D hz hTI hTO h1 h2 p.isList p'.isList (x:=ux) (y:=uy) (by simpa using hu) (by simpa using hu') fun h' z' hTO' j1 j2 hT kk=>⟨_,rfl,wpAny_pure ?_⟩
  have out:∀ c o,c ∉ [z,TI,TO,i1,i2]→s.heap.get? c=some o→h'.get? c=some o:=fun c o hc q=>by
   simp only[List.mem_cons,List.not_mem_nil,or_false,not_or] at hc;exact kk c o hc.1 hc.2.2.1 hc.2.2.2.1 hc.2.2.2.2 q
  refine⟨.ref s.heap.objs.size,upd H s.heap.objs.size (.tup [x,y]),I.turnedL (t':=s.toks) _ out hf (Nat.le_refl _) ⟨by show 2≤sizeLine;decide,[ux,uy],.cons ru (.cons ru' .nil),⟨_,hT,rfl,0,rfl⟩⟩,rfl,⟨_,x,y,I.hok.fresh (Nat.le_refl _),rfl,rfl,fun zs h=>by rw[I.list_inj h hq];exact hx,fun zs h=>by rw[I.list_inj h hq'];exact hy⟩,⟨z',kk _ _ D.TIz D.TITO D.TIi1 D.TIi2 hTI,hTO',j1,j2⟩,fun c hc=>?_⟩;have hcl:c<s.heap.objs.size:=by
   simp only[List.mem_cons,List.not_mem_nil,or_false] at hc;rcases hc with rfl | rfl | rfl | rfl | rfl
   ·rcases hz with hz | ⟨T,b,hz⟩ <;> exact Heap.lt_size hz
   ·exact Heap.lt_size hTI
   ·exact Heap.lt_size hTO
   ·obtain⟨o,q,_⟩:=h1;exact Heap.lt_size q
   ·obtain⟨o,q,_⟩:=h2;exact Heap.lt_size q
  rw[upd_ne (Nat.ne_of_lt hcl)];exact (hf c hc).1
 done:=by
  intro X hP hw hK hc i pins s σ H E I hf st hg;subst hP hw hK;obtain⟨hz,hTI,⟨u,v,hTO⟩,h1,h2⟩:=st;obtain⟨xs,ys,hq,hq',hx⟩:=hg;obtain⟨its,rv,p,hsz⟩:=I.list hq;obtain⟨its',rv',p',hsz'⟩:=I.list hq';have hl:=rv.length;have hl':=rv'.length;refine next_zipN_end (I.ok.hd hc) D hz hTI hTO h1 h2 p.isList p'.isList ?_ fun h' kk=>⟨rfl,I.turnedN (t':=s.toks) [z,TI,TO,i1,i2] (fun c o hc q=>?_) hf⟩
  ·rcases hx with z | z
   ·left;simp;omega
   ·right;simp;omega
  ·simp only[List.mem_cons,List.not_mem_nil,or_false,not_or] at hc;exact kk c o hc.1 hc.2.2.1 hc.2.2.2.1 hc.2.2.2.2 q
 self:=fun _ _ _ _ _ st h=>by
  rcases st.1 with hz | ⟨T,b,hz⟩
  ·exact wpAny_pyIter_zip hz h
  ·have ty:Shared.TypeIs _ (.ref z) "zip" := ⟨_,hz,rfl⟩;exact wpAny_pyIter_slot ty F.slot_zip_iter (wpAny_call_entry F.slot_zip_iter ty F.entry_zip_iter (show wpAny _ _ (ret (.ref z)) _ _ _ from wpAny_pure ⟨_,rfl, "zip",_,ty,F.slot_zip_next.lookup,h⟩) (F.args_zip_iter_1 _))
theorem pi_zipN {X:Cx}{nm:Str}{p0 p pos:Pos}{a b:Expr}{ta:TA} (hg:Gl X "zip") (hm:X.mg "zip" = none) (ha:PA X [a,b] ta) (hs:starEach [a,b] X.env=(false,eval a X.env) :: starEach [b] X.env:=by rfl) (hs2:(backTo pos (starEach [b] X.env)).any (·.1)=false:=by rfl) :
  PI X (.Name nm p0) (.Call (.Name "zip" p) [a,b] [] pos) (iZip X.K ta):=by
 intro pins s σ H R I h;refine Call_ (ld_blt I hg hm boot_zip (PyProof.Rows.callWith_type1 (thn (ha pos pins s σ H _ I h) fun us s1 ⟨vs,H1,I1,r1,q1⟩=>?_) hs hs2));obtain⟨l1,l2,rfl,⟨xs,hq⟩,⟨ys,hq'⟩,q⟩:=q1;obtain⟨u,v,rfl,ru,rv⟩:=vals2 r1;cases (show u=Value.ref l1 from ru);cases (show v=Value.ref l2 from rv);obtain⟨its,rx,p,hz⟩:=I1.list hq;obtain⟨its',rx',p',hz'⟩:=I1.list hq';have n1:l1<s1.heap.objs.size:=by obtain⟨o,q,_⟩:=p.isList;exact Heap.lt_size q
 have n2:l2<s1.heap.objs.size:=by obtain⟨o,q,_⟩:=p'.isList;exact Heap.lt_size q
 refine call_zip_2 p.isList p'.isList fun h' hz hTI hTO h1 h2 hsz k=>wpAny_pyIter_zip hz ?_
 have I2:Inv X pins σ H1 { s1 with heap:=h' }:=I1.kept (t':=s1.toks) k;refine⟨_,_,_,_,H1,rfl,I2,turn_zipN l1 l2 _ _ _ _ _ (zipApart_new n1 n2),⟨.inl hz,hTI,⟨_,_,hTO⟩,h1,h2⟩,fun c hc=>?_,q⟩;have fr:∀ c,s1.heap.objs.size≤c→FpOk X pins H1 c:=fun c hc=>I1.fpOk hc (I1.hok.fresh hc)
 simp only[List.mem_cons,List.not_mem_nil,or_false] at hc;rcases hc with rfl | rfl | rfl | rfl | rfl <;> exact fr _ (by omega)
theorem at_seq {K:PySem.W.Frag}{H:Hp}{b:Addr}{xs:List V}{i:Int}{v:V}{Q:VK} (hb:H b=some (.lst xs)∨H b=some (.tup xs)) (ha:atI xs i=some v) (q:Q v H):rIx K (.ref b) (.int i) H Q:=by
 rcases hb with hb | hb
 ·exact .inl ⟨b,_,_,_,rfl,rfl,SqL.of hb,ha,q⟩
 ·exact .inr (.inl ⟨b,_,_,_,rfl,rfl,SqT.of hb,ha,q⟩)
end L2
namespace My
open PySem L2 OF
structure FG (M:Nat) (f:Terms):Prop where
 form:IsForm f
 keys:∀ t∈f,0≤t.1∧t.1<2^M
 bit:∀ g:Nat,Bit (worthL f (g:Int))
theorem FG.small {M:Nat}{f:Terms} (h:FG M f):Small (2^M) f:=by
 have hn:((List.range (2^M)).map fun g:Nat=>worthL f (g:Int)).length=2^M:=by simp
 have hs:=nz_small (m:=M) (B:=1) hn fun x hx=>by
  obtain⟨g,_,rfl⟩:=List.mem_map.mp hx;rcases h.bit g with z | z <;> rw[z] <;> decide
 have e:nzL (zetL (-1) ((List.range (2^M)).map fun g:Nat=>worthL f (g:Int)) M)=f:=form_ext (nzL_form _).toIsForm h.form fun k=>form_worths h.keys rfl (nzL_form _) k
 rw[e,Nat.mul_one] at hs;exact hs
theorem FG.wire {M a:Nat} (h:a<M) {f:Terms} (hf:f=wireL a):FG M f:=by
 subst hf;refine⟨⟨List.pairwise_singleton ..,fun p hp=>?_⟩,keys_up h (wire_keys a),fun g=>?_⟩
 ·have e:p=((2:Int)^a,1):=by simpa [wireL] using hp
  rw[e];show (1:Int)≠0;decide
 ·rw[worth_wire];unfold Bit;split <;> simp
theorem FG.not {M:Nat}{l f:Terms} (hl:FG M l) (hf:IsForm f) (hc:∀ k,coef f k=coef (notL l) k):FG M f∧∀ g:Nat,worthL f (g:Int)=1-worthL l (g:Int):=by
 have hw:∀ g:Nat,worthL f (g:Int)=1-worthL l (g:Int):=fun g=>by rw[worth_congr _ hc,worth_not]
 refine⟨⟨hf,fun t ht=>?_,fun g=>?_⟩,hw⟩
 ·have h1:=coef_mem hf t ht;have h2:=hf.nz t ht;rw[hc] at h1;by_cases z:∃ u∈notL l,u.1=t.1
  ·obtain⟨u,hu,e⟩:=z;rw[← e];exact not_keys hl.keys u hu
  ·exact absurd (h1.symm.trans (coef_none (notL l) t.1 fun p hp e=>z ⟨p,hp,e⟩)) h2
 ·rw[hw];rcases hl.bit g with z | z <;> rw[z] <;> unfold Bit <;> simp
theorem FG.word {M w:Nat} (hw:w<3) {l o f:Terms} (hl:FG M l) (ho:FG M o) (hf:FormOf f (wordL w l o)):FG M f∧∀ g:Nat,worthL f (g:Int)=say w (worthL l (g:Int)) (worthL o (g:Int)):=by
 have e:∀ g:Nat,worthL f (g:Int)=say w (worthL l (g:Int)) (worthL o (g:Int)):=fun g=>by
  rw[worth_congr _ hf.val,worth_word hw (fun t ht=>(hl.keys t ht).1) (fun t ht=>(ho.keys t ht).1) (hl.bit g) (ho.bit g)]
 exact⟨⟨hf.toIsForm,hf.keys (word_keys hl.keys ho.keys),fun g=>by rw[e];exact say_bit (hl.bit g) (ho.bit g)⟩,e⟩
theorem keys_many {l:Terms}{U:Nat} (h0:∀ t∈l,0≤t.1) (hU:∀ j,(orAll l 0).testBit j=true→U.testBit j=true):∀ t∈l,0≤t.1∧t.1<2^Builtin.Int.intBits (U:Int):=fun t ht=>by
 refine⟨h0 t ht,?_⟩;have h1:t.1.toNat<2^Builtin.Int.intBits (U:Int):=by
  refine Nat.lt_pow_two_of_testBit _ fun j hj=>?_
  cases e:t.1.toNat.testBit j
  ·rfl
  ·have h2:=hU j ((orAll_bit l 0 j).mpr (.inr ⟨t,ht,e⟩));rw[Nat.testBit_lt_two_pow (Nat.lt_of_lt_of_le (lt_intBits U) (Nat.pow_le_pow_right (by decide) hj))] at h2;cases h2
 have pw:((2:Int)^Builtin.Int.intBits (U:Int))=((2^Builtin.Int.intBits (U:Int):Nat):Int):=by norm_cast
 have:=h0 t ht
 omega
theorem FG.table {M m w:Nat} (hm:m≤M) {l o f:Terms} (hl:FG M l) (ho:FG M o) (kl:∀ t∈l,0≤t.1∧t.1<2^m) (ko:∀ t∈o,0≤t.1∧t.1<2^m) {ns:List Int} (hn:ns=(List.range (2^m)).map fun g:Nat=>say w (worthL l (g:Int)) (worthL o (g:Int))) (hf:FormOf f (enumT (zetL (-1) ns m))) :
  FG M f∧∀ g:Nat,worthL f (g:Int)=say w (worthL l (g:Int)) (worthL o (g:Int)):=by
 have hlen:ns.length=2^m:=by rw[hn];simp
 obtain⟨kf,wf,_⟩:=form_table hlen hf;have low:∀ g:Nat,g<2^m→worthL f (g:Int)=say w (worthL l (g:Int)) (worthL o (g:Int)):=fun g hg=>by
  have h1:=getN_map (n:=2^m) (fun g:Nat=>worthL f (g:Int)) hg;have h2:=getN_map (n:=2^m) (fun g:Nat=>say w (worthL l (g:Int)) (worthL o (g:Int))) hg;rw[← wf] at h1;rw[← hn] at h2;rw[← h1,h2]
 have e:∀ g:Nat,worthL f (g:Int)=say w (worthL l (g:Int)) (worthL o (g:Int)):=fun g=>by
  rw[worth_low kf,worth_low (g:=g) kl,worth_low (g:=g) ko];exact low _ (Nat.mod_lt _ (Nat.two_pow_pos m))
 exact⟨⟨hf.toIsForm,keys_up hm kf,fun g=>by rw[e];exact say_bit (hl.bit g) (ho.bit g)⟩,e⟩
end My
namespace My
open PySem L2 OF
noncomputable def spAt (K:PySem.W.Frag):Sp:=fun vs H Q _=>∃ (a:Addr) (ns:List Int) (k:Nat),vs=[.ref a,.int (k:Int)]∧SqL K H a (ns.map V.int)∧Q (.int (ns.getD k 0)) H
noncomputable def spMix:Sp:=fun vs H Q _=>∃ c k:Int,vs=[.int c,.int k] ∧ -(2^64)<k∧k<2^64∧∀ r,0≤r→r<2147483587→Q (.int r) H
end My
namespace L2
open PySem PySem.Spec PyProof.Rows
section
variable {X:Cx}{e st lo hi:Expr}{te:TE}{tl th to:TO}{p2 pos:Pos}
noncomputable def tStep (K:PySem.W.Frag) (te:TE) (tl th to:TO):TE:=fun σ H Q=>te σ H fun x H1=>tl σ H1 fun o1 H2=>th σ H2 fun o2 H3=>to σ H3 fun o H4=>∃ (n:Int) (a:Addr) (xs:List V),o=some n∧n≠0∧x = .ref a∧SqL K H4 a xs ∧
 ∀ (p:Addr) (ys:List V),H4 p=none→(∀ y∈ys,y∈xs)→ys.length≤xs.length→Q (.ref p) (upd H4 p (.lst ys))
theorem pe_sl3 (he:PE X e te) (hlo:PO X (some lo) tl) (hhi:PO X (some hi) th) (hst:PO X (some st) to):PE X (.Subscript e (.Slice (some lo) (some hi) (some st) p2) pos) (tStep X.K te tl th to):=by
 intro pins s σ H Q I h;refine Subscript_ (thn (he pins s σ H _ I h) fun v s1 ⟨x,H1,I1,r1,q1⟩=>?_);refine wpAny_Slice (thn (hlo pins s1 σ H1 _ I1 q1) fun vl s2 ⟨o1,H2,I2,pl,q2⟩=>thn (hhi pins s2 σ H2 _ I2 q2) fun vu s2' ⟨o2,H2',I2',pu,q2'⟩=>thn (hst pins s2' σ H2' _ I2' q2') fun vk s3 ⟨o,H3,I3,pk,q3⟩=>?_);obtain⟨n,a,xs,rfl,hn,rfl,hx,q⟩:=q3;cases r1;have I4:Inv X pins σ H3 { s3 with heap:=s3.heap.push { cls := .type "slice",data := .fields #[vl,vu,vk] } }:=I3.kept (t':=s3.toks) fun b ob q=>Heap.get?_push_of_some _ q
 obtain⟨its,r,ht,hz⟩:=I4.list hx;have hlen:=r.length;show wpAny (model X.prog X.w) X.A (subscriptTail e (.Slice (some lo) (some hi) (some st) p2) (.ref a) (.ref s3.heap.objs.size)) (EP X pins σ Q) X.xe { s3 with heap:=s3.heap.push { cls := .type "slice",data := .fields #[vl,vu,vk] } };refine tail_any (ops:=[.ref a,.ref s3.heap.objs.size]) ht.isList.typeIs slot_list_getitem.lookup ?_ (by with_unfolding_all rfl);refine wpAny_getItem_list_slice ht.isList (Heap.IsSliceOf.new ..) pl pu pk (by intro z;exact hn (Option.some.inj z)) ?_ (by rw[List.size_toArray];omega);have hle:=slicePick_size_le its.toArray o1 o2 (some n);unfold slicePick at hle ⊢;generalize sliceRange (sliceBounds o1 o2 (some n) its.toArray.size).1 (sliceBounds o1 o2 (some n) its.toArray.size).2.1 (sliceBounds o1 o2 (some n) its.toArray.size).2.2=ks at hle ⊢;have hv:Vals (ks.filterMap fun k=>xs[k]?) (ks.filterMap fun k=>its.toArray[k]?):=by
  have:=vals_pick r (fun k=>k) ks
  simpa using this
 have hl2:=hv.length;rw[List.size_toArray,List.size_toArray] at hle;have hlx:(ks.filterMap fun k=>xs[k]?).length≤xs.length:=by omega
 refine⟨.ref _,_,I4.laid (o := .lst (ks.filterMap fun k=>xs[k]?)) (t':=s3.toks) (fun b ob q=>Heap.get?_push_of_some _ q) (Nat.le_refl _) ?_,rfl,q _ _ (I4.hok.fresh (Nat.le_refl _)) (fun y hy=>?_) hlx⟩
 ·exact⟨by omega,(ks.filterMap fun k=>its.toArray[k]?),0,hv,by rw[Heap.get?_push_size _ rfl]⟩
 ·obtain⟨k,_,hk⟩:=List.mem_filterMap.mp hy;exact List.mem_of_getElem? hk
end
end L2
namespace L2
open PySem PySem.Spec PyProof.Rows
section
variable {X:Cx}
theorem call_sortedL (hc:X.calm=true):CallR X (.builtin "sorted") (fun xs H Q=>∃ (a:Addr) (ns:List Int),xs=[.ref a]∧SqL X.K H a (ns.map V.int)∧ns.length<64 ∧
  ∀ (l:Addr) (ns':List Int),H l=none→ns'.Perm ns→ns'.Pairwise (· ≤ ·)→Q (.ref l) (upd H l (.lst (ns'.map V.int)))):=by
 intro pins s σ H xs us Q I r h;obtain⟨a,ns,rfl,hq,h64,q⟩:=h;obtain⟨u,rfl,ru⟩:=vals1 r;cases (show u=Value.ref a from ru);obtain⟨its,rv,p,hz⟩:=I.list hq;have hi:=intsAre_of rv;have hlen:=rv.length;rw[List.length_map] at hlen;refine sorted_ints p.isList hi (by omega) fun out ns' a1 a2 a3=>?_
 have hsz:((s.heap.push (seqObj "list" #[] 0)).update s.heap.objs.size (Obj.mapSeq (· ++ its.toArray))).objs.size=s.heap.objs.size+1:=by
  rw[Heap.size_update,size_push']
 have hoL:(((s.heap.push (seqObj "list" #[] 0)).update s.heap.objs.size (Obj.mapSeq (· ++ its.toArray))).push (seqObj "list" its.toArray 0)).get? (s.heap.objs.size+1)=some (seqObj "list" its.toArray 0):=by
  rw[← hsz];exact Heap.get?_push_size _ rfl
 have keep:∀ b o,s.heap.get? b=some o→(sortedAll s.heap its out).get? b=some o:=fun b o e=>by
  have hlt:b<s.heap.objs.size:=Heap.lt_size e;unfold sortedAll;rw[sortedHeap_old (Nat.ne_of_lt (Nat.lt_succ_of_lt hlt)) (by rw[size_push',hsz];exact Nat.lt_succ_of_lt (Nat.lt_succ_of_lt hlt))];rw[Heap.get?_push_ne _ _ _ (by rw[hsz];exact Nat.ne_of_lt (Nat.lt_succ_of_lt hlt)),Heap.get?_update_ne _ _ _ _ (Nat.ne_of_lt hlt),Heap.get?_push_ne _ _ _ (Nat.ne_of_lt hlt)];exact e
 have nD:s.heap.get? (s.heap.objs.size+1)=none:=Heap.get?_none_of_le (Nat.le_succ _);obtain⟨ee,hat'⟩:=sortedHeap_at (out:=out) hoL;have hH0:H (s.heap.objs.size+1)=none:=by
  cases e:H (s.heap.objs.size+1) with
  | none=>rfl
  | some o=>obtain⟨ob,e'⟩:=(I.hok _ _ e).there;rw[nD] at e';cases e'
 have rv':Vals (ns'.map V.int) out.toList:=vals_ints a1;have hnl:ns'.length=ns.length:=a2.length_eq;exact⟨.ref (s.heap.objs.size+1),_,I.laidN (o := .lst (ns'.map V.int)) (t':=s.toks) keep nD ⟨by rw[List.length_map,hnl];exact Nat.le_of_lt (Nat.lt_trans h64 (by decide)),out.toList,ee,rv',by simpa [sortedAll] using hat'⟩,rfl,q _ ns' hH0 a2 a3⟩
end
end L2
namespace My
open PySem L2 OF
noncomputable def natL (ls:List Nat):List V:=ls.map fun y:Nat=>V.int (y:Int)
inductive Tr where
 | leaf (n:Int) | node (k:Nat) (a b:Tr)
noncomputable def Tr.d:Tr→D
 | .leaf n=>.int n
 | .node k a b=>.tup [.int (k:Int),a.d,b.d]
noncomputable def Tr.dp:Tr→Nat
 | .leaf _=>0
 | .node _ a b=>max a.dp b.dp+1
noncomputable def Tr.at (β : Nat→Bool):Tr→Int
 | .leaf n=>n
 | .node k a b=>if β k=true then a.at β else b.at β
noncomputable def Tr.ok (P:Nat→Prop):Tr→Prop
 | .leaf n=>n=0∨n=1
 | .node k a b=>P k∧a.ok P∧b.ok P
theorem Tr.ok.imp {P R:Nat→Prop} (f:∀ k,P k→R k):∀ {t:Tr},t.ok P→t.ok R
 | .leaf _,h=>h
 | .node k a b,h=>⟨f k h.1,Tr.ok.imp f h.2.1,Tr.ok.imp f h.2.2⟩
theorem tr_leaf {H:Hp}{v:V}{n:Int} (h:Is H v (Tr.leaf n).d):v = .int n:=by
 unfold Tr.d Is at h;exact h
theorem tr_node {H:Hp}{v:V}{k:Nat}{a b:Tr} (h:Is H v (Tr.node k a b).d):∃ p x y,v = .ref p∧H p=some (.tup [.int (k:Int),x,y])∧Is H x a.d∧Is H y b.d:=by
 unfold Tr.d Is at h;obtain⟨p,xs,rfl,h1,h2⟩:=h;unfold IsDs at h2;obtain⟨x0,r0,rfl,h3,h4⟩:=h2;unfold IsDs at h4;obtain⟨x1,r1,rfl,h5,h6⟩:=h4;unfold IsDs at h6;obtain⟨x2,r2,rfl,h7,h8⟩:=h6;unfold IsDs at h8;unfold Is at h3;subst h3 h8;exact⟨p,x1,x2,rfl,h1,h5,h7⟩
theorem tr_int {H:Hp}{n:Int}:Is H (.int n) (Tr.leaf n).d:=by unfold Tr.d Is;rfl
theorem tr_mk {H:Hp}{p:Addr}{k:Nat}{x y:V}{a b:Tr} (h:H p=some (.tup [.int (k:Int),x,y])) (h1:Is H x a.d) (h2:Is H y b.d):Is H (.ref p) (Tr.node k a b).d:=by
 unfold Tr.d Is;refine⟨p,_,rfl,h,?_⟩;unfold IsDs;refine⟨_,_,rfl,(by unfold Is;rfl),?_⟩;unfold IsDs;refine⟨_,_,rfl,h1,?_⟩;unfold IsDs;refine⟨_,_,rfl,h2,?_⟩;unfold IsDs;rfl
theorem kit_int_tuple {K:PySem.W.Frag}:PySem.W.kitOne K (.type "int") (.type "tuple")=some false:=by
 unfold PySem.W.kitOne;rw[if_neg (by decide +kernel)];show (if PySem.W.kitMeta "tuple" = true then (fastBuiltinMro "int").map (·.contains (Value.type "tuple")) else none)=some false;decide +kernel
noncomputable def orB (K:Nat) (l:Terms):Terms:=l.map fun t=>(Builtin.bitOr t.1 (2^K),t.2)
theorem pow_cast (K:Nat):((2:Int)^K)=((2^K:Nat):Int):=by norm_cast
theorem key_nat {x:Int} (h:0≤x):((x.toNat:Nat):Int)=x:=Int.toNat_of_nonneg h
theorem or_key {x:Int} (h:0≤x) (K:Nat):Builtin.bitOr x (2^K)=((x.toNat ||| 2^K:Nat):Int):=by
 rw[← key_nat h,pow_cast,bitOr_nat,Int.toNat_natCast]
theorem phi_or {x:Int} (h:0≤x) (g K:Nat):phi (g:Int) (Builtin.bitOr x (2^K))=if g.testBit K=true then phi (g:Int) x else 0:=by
 rw[or_key h,phi_nat];have e:phi (g:Int) x=if x.toNat &&& g=x.toNat then 1 else 0:=by rw[← phi_nat,key_nat h]
 rw[e];by_cases hg:g.testBit K=true
 ·rw[if_pos hg]
  have:((x.toNat ||| 2^K) &&& g=x.toNat ||| 2^K)↔(x.toNat &&& g=x.toNat):=by
   rw[sub_iff,sub_iff];constructor
   ·intro H i hi;exact H i (by rw[Nat.testBit_or,hi];rfl)
   ·intro H i hi;rw[Nat.testBit_or,Nat.testBit_two_pow] at hi;cases hx:x.toNat.testBit i
    ·rw[hx] at hi
     have:K=i:=by simpa using hi
     rw[← this];exact hg
    ·exact H i hx
  by_cases hx:x.toNat &&& g=x.toNat
  ·rw[if_pos hx,if_pos (this.mpr hx)]
  ·rw[if_neg hx,if_neg (fun z=>hx (this.mp z))]
 ·rw[if_neg hg,if_neg];intro z;rw[sub_iff] at z;exact hg (z K (by rw[Nat.testBit_or,Nat.testBit_two_pow];simp))
theorem worth_orB (g K:Nat):∀ {l:Terms},(∀ t∈l,0≤t.1)→worthL (orB K l) (g:Int)=if g.testBit K=true then worthL l (g:Int) else 0
 | [],_=>by by_cases h:g.testBit K=true <;> simp[h,orB,worthL]
 | t :: r,h=>by
  have ih:=worth_orB g K (l:=r) fun u hu=>h u (by simp[hu])
  rw[worth_lin] at ih ⊢;rw[worth_lin] at ih ⊢;show phi (g:Int) (Builtin.bitOr t.1 (2^K)) * t.2+lin (phi (g:Int)) (orB K r)=_;rw[ih,phi_or (h t (by simp))];by_cases hg:g.testBit K=true
  ·simp only[hg,if_true];rfl
  ·simp[hg]
noncomputable def negL (l:Terms):Terms:=l.map fun t=>(t.1,-t.2)
noncomputable def choL (K:Nat) (f1 f0:Terms):Terms:=f0++orB K f1++negL (orB K f0)
theorem worth_neg (g:Int) (l:Terms):worthL (negL l) g = - worthL l g:=by
 rw[worth_lin,worth_lin];induction l with
 | nil=>rfl
 | cons t r ih =>
  show phi g t.1 * -t.2+lin (phi g) (negL r) = -(phi g t.1 * t.2+lin (phi g) r);rw[ih,Int.mul_neg];omega
theorem worth_cat (g:Int) (l m:Terms):worthL (l++m) g=worthL l g+worthL m g:=by
 unfold worthL;rw[List.filter_append,List.map_append,List.sum_append]
theorem worth_cho {K:Nat}{f1 f0:Terms} (h1:∀ t∈f1,0≤t.1) (h0:∀ t∈f0,0≤t.1) (g:Nat):worthL (choL K f1 f0) (g:Int)=if g.testBit K=true then worthL f1 (g:Int) else worthL f0 (g:Int):=by
 unfold choL;rw[worth_cat,worth_cat,worth_neg,worth_orB g K h1,worth_orB g K h0];by_cases hg:g.testBit K=true <;> simp[hg] <;> omega
theorem dict_fill:∀ (l d m:Terms),DictOf d m→(l.map (·.1)).Nodup→(∀ t∈l,∀ u∈m,u.1≠t.1)→DictOf (L2.fillI d l) (m++l)
 | [],d,m,h,_,_=>by rw[List.append_nil];exact h
 | t :: r,d,m,h,hn,hm=>by
  rw[List.map_cons,List.nodup_cons] at hn;have h0:getI d t.1=0:=by rw[h.val];exact coef_none _ _ fun u hu=>hm t (by simp) u hu
  have h1:=h.snoc t;rw[h0,Int.zero_add] at h1;have ih:=dict_fill r (putI d t.1 t.2) (m ++ [t]) h1 hn.2 fun u hu v hv=>by
   rcases List.mem_append.mp hv with z | z
   ·exact hm u (by simp[hu]) v z
   ·have e:v=t:=by simpa using z
    rw[e];intro z;exact hn.1 (List.mem_map.mpr ⟨u,hu,z.symm⟩)
  rw[List.append_assoc] at ih;exact ih
theorem dict_form {f:Terms} (h:IsForm f):DictOf (L2.fillI [] f) f:=by
 have:=dict_fill f [] [] dictOf_nil (form_nodup h) (fun t _ u hu=>by cases hu)
 exact this
theorem or_inj {x y:Int}{K:Nat} (hx:0≤x) (hy:0≤y) (bx:x.toNat.testBit K=false) (byy:y.toNat.testBit K=false) (h:Builtin.bitOr x (2^K)=Builtin.bitOr y (2^K)):x=y:=by
 rw[or_key hx,or_key hy] at h;have h':x.toNat ||| 2^K=y.toNat ||| 2^K:=by exact_mod_cast h
 have:x.toNat=y.toNat:=by
  refine Nat.eq_of_testBit_eq fun i=>?_
  have hi:=congrArg (fun z=>z.testBit i) h';simp only[Nat.testBit_or,Nat.testBit_two_pow] at hi;by_cases e:K=i
  ·subst e;rw[bx,byy]
  ·simpa [e] using hi
 omega
theorem or_ne {x y:Int}{K:Nat} (hx:0≤x) (hy:0≤y) (byy:y.toNat.testBit K=false):y≠Builtin.bitOr x (2^K):=fun z=>by
 rw[or_key hx] at z;rw[z,Int.toNat_natCast,Nat.testBit_or,Nat.testBit_two_pow] at byy;simp at byy
theorem or_range {x:Int}{K:Nat} (hx:0≤x) (h2:x<2^60) (hK:K<60):0≤Builtin.bitOr x (2^K)∧Builtin.bitOr x (2^K)<2^60:=by
 rw[or_key hx];have h3:x.toNat<2^60:=by omega
 have h4:x.toNat ||| 2^K<2^60:=Nat.or_lt_two_pow h3 (Nat.pow_lt_pow_right (by decide) hK)
 constructor
 ·exact Int.natCast_nonneg _
 ·exact_mod_cast h4
theorem or_bits {x:Int}{K j:Nat} (hx:0≤x):(Builtin.bitOr x (2^K)).toNat.testBit j=(x.toNat.testBit j || decide (K=j)):=by
 rw[or_key hx,Int.toNat_natCast,Nat.testBit_or,Nat.testBit_two_pow]
noncomputable def wayB (g o n:Nat) (k:Nat):Bool:=if o.testBit k then true else if n.testBit k then false else g.testBit k
theorem way_one {g o n K:Nat} (ho:o.testBit K=false) (hn:n.testBit K=false) (hg:g.testBit K=true):wayB g (o ||| 2^K) n=wayB g o n:=by
 funext k
 unfold wayB;rw[Nat.testBit_or,Nat.testBit_two_pow];by_cases e:K=k
 ·subst e;simp[ho,hn,hg]
 ·simp[e]
theorem way_nought {g o n K:Nat} (ho:o.testBit K=false) (hn:n.testBit K=false) (hg:¬ g.testBit K=true):wayB g o (n ||| 2^K)=wayB g o n:=by
 funext k
 unfold wayB;rw[Nat.testBit_or,Nat.testBit_two_pow];by_cases e:K=k
 ·subst e;simp[ho,hn,hg]
 ·simp[e]
theorem way_nil (g:Nat):wayB g 0 0=fun k=>g.testBit k:=by funext k;unfold wayB;simp
noncomputable def Keyed (M o n:Nat) (f:Terms):Prop:=∀ t∈f,0≤t.1∧t.1<2^60∧∀ j,t.1.toNat.testBit j=true→M.testBit j=true∧o.testBit j=false∧n.testBit j=false
theorem inV_mem {x:Nat}{ls:List Nat}:inV (.int (x:Int)) (ls.map fun y:Nat=>V.int (y:Int))=decide (x∈ls):=by
 unfold inV;rw[Bool.eq_iff_iff,List.any_eq_true,decide_eq_true_iff];constructor
 ·rintro⟨y,hy,e⟩;obtain⟨z,hz,rfl⟩:=List.mem_map.mp hy
  have:(z:Int)=(x:Int):=by simpa [eqV] using e
  have:z=x:=by omega
  rw[← this];exact hz
 ·intro h;exact⟨_,List.mem_map.mpr ⟨x,h,rfl⟩,by simp[eqV]⟩
theorem flat_ints (ls:List Nat):(ls.map fun y:Nat=>V.int (y:Int)).all flatV=true:=by
 rw[List.all_eq_true];intro y hy;obtain⟨z,_,rfl⟩:=List.mem_map.mp hy;rfl
theorem free_step {ls:List Nat}{tp x:Nat} (h:ls.length<tp):∃ m,(x+m) % tp ∉ ls:=by
 by_cases z:∃ m,(x+m) % tp ∉ ls
 ·exact z
 ·exfalso;have hall:∀ m,(x+m) % tp∈ls:=fun m=>Classical.byContradiction fun w=>z ⟨m,w⟩
  have hsub:∀ y∈List.range tp,y∈ls:=fun y hy=>by
   have hy':=List.mem_range.mp hy;have hx:=Nat.mod_lt x (show 0<tp by omega);have h1:=hall (y+(tp-x % tp));have e:(x+(y+(tp-x % tp))) % tp=y:=by
    have e1:x=tp * (x / tp)+x % tp:=(Nat.div_add_mod x tp).symm;have e2:x+(y+(tp-x % tp))=y+tp * (x / tp+1):=by
     rw[Nat.mul_add,Nat.mul_one];omega
    rw[e2,Nat.add_mul_mod_self_left,Nat.mod_eq_of_lt hy']
   rw[e] at h1;exact h1
  have:=nodup_sub_len (l:=(List.range tp).map fun y:Nat=>(y:Int)) (B:=ls.map fun y:Nat=>(y:Int)) (List.nodup_range.map (fun y:Nat=>(y:Int)) (fun a b h z=>h (Int.ofNat.inj z))) fun x hx=>by
   obtain⟨y,hy,rfl⟩:=List.mem_map.mp hx;exact List.mem_map.mpr ⟨y,hsub y hy,rfl⟩
  rw[List.length_map,List.length_map,List.length_range] at this;omega
end My
namespace My
open PySem L2 OF
theorem fix_same {k:Nat}{b:Int}{f:Terms} (h:∀ t∈f,hasB k t=false):fixL k b f=f:=by
 unfold fixL outL offL;have e1:f.filter (fun t => !hasB k t)=f:=List.filter_eq_self.mpr fun t ht=>by simp[h t ht]
 have e2:f.filter (fun t=>hasB k t)=[]:=List.filter_eq_nil_iff.mpr fun t ht=>by simp[h t ht]
 rw[e1,e2];simp
end My
namespace My
open PySem L2 OF
inductive Sm where
 | bit (k:Nat) | fix (b:Int) | no (s:Sm) | two (w:Nat) (s t:Sm)
noncomputable def Sm.d:Sm→D
 | .bit k=>.tup [.str "bit",.int (k:Int)]
 | .fix b=>.tup [.str "fix",.int b]
 | .no s=>.tup [.str "not",s.d]
 | .two w s t=>.tup [.str (wd w),s.d,t.d]
noncomputable def Sm.dp:Sm→Nat
 | .bit _=>0
 | .fix _=>0
 | .no s=>s.dp+1
 | .two _ s t=>max s.dp t.dp+1
noncomputable def Sm.at (β : Nat→Bool):Sm→Int
 | .bit k=>if β k=true then 1 else 0
 | .fix b=>b
 | .no s=>1-s.at β
 | .two w s t=>say w (s.at β) (t.at β)
noncomputable def Sm.ok (P:Nat→Prop):Sm→Prop
 | .bit k=>P k
 | .fix b=>b=0∨b=1
 | .no s=>s.ok P
 | .two w s t=>w<3∧s.ok P∧t.ok P
theorem Sm.ok.imp {P R:Nat→Prop} (f:∀ k,P k→R k):∀ {s:Sm},s.ok P→s.ok R
 | .bit k,h=>f k h
 | .fix _,h=>h
 | .no s,h=>Sm.ok.imp (s:=s) f h
 | .two w s t,h=>⟨h.1,Sm.ok.imp f h.2.1,Sm.ok.imp f h.2.2⟩
theorem Sm.at_bit {P:Nat→Prop} (β : Nat→Bool):∀ {s:Sm},s.ok P→Bit (s.at β)
 | .bit k,_=>by unfold Sm.at Bit;split <;> simp
 | .fix b,h=>h
 | .no s,h=>by
  have:=Sm.at_bit β (s:=s) h
  show Bit (1-s.at β);rcases this with z | z <;> rw[z] <;> simp[Bit]
 | .two w s t,h=>say_bit (Sm.at_bit β h.2.1) (Sm.at_bit β h.2.2)
theorem is_tup2 {H:Hp}{v:V}{d e:D}:Is H v (.tup [d,e])→∃ p x y,v = .ref p∧H p=some (.tup [x,y])∧Is H x d∧Is H y e:=fun h=>by
 unfold Is at h;obtain⟨p,xs,rfl,h1,h2⟩:=h;unfold IsDs at h2;obtain⟨x0,r0,rfl,h3,h4⟩:=h2;unfold IsDs at h4;obtain⟨x1,r1,rfl,h5,h6⟩:=h4;unfold IsDs at h6;subst h6;exact⟨p,x0,x1,rfl,h1,h3,h5⟩
theorem is_tup3 {H:Hp}{v:V}{d e f:D}:Is H v (.tup [d,e,f])→∃ p x y z,v = .ref p∧H p=some (.tup [x,y,z])∧Is H x d∧Is H y e∧Is H z f:=fun h=>by
 unfold Is at h;obtain⟨p,xs,rfl,h1,h2⟩:=h;unfold IsDs at h2;obtain⟨x0,r0,rfl,h3,h4⟩:=h2;unfold IsDs at h4;obtain⟨x1,r1,rfl,h5,h6⟩:=h4;unfold IsDs at h6;obtain⟨x2,r2,rfl,h7,h8⟩:=h6;unfold IsDs at h8;subst h8;exact⟨p,x0,x1,x2,rfl,h1,h3,h5,h7⟩
theorem mk_tup2 {H:Hp}{p:Addr}{x y:V}{d e:D} (h:H p=some (.tup [x,y])) (h1:Is H x d) (h2:Is H y e):Is H (.ref p) (.tup [d,e]):=by
 unfold Is;refine⟨p,_,rfl,h,?_⟩;unfold IsDs;refine⟨_,_,rfl,h1,?_⟩;unfold IsDs;refine⟨_,_,rfl,h2,?_⟩;unfold IsDs;rfl
theorem mk_tup3 {H:Hp}{p:Addr}{x y z:V}{d e f:D} (h:H p=some (.tup [x,y,z])) (h1:Is H x d) (h2:Is H y e) (h3:Is H z f):Is H (.ref p) (.tup [d,e,f]):=by
 unfold Is;refine⟨p,_,rfl,h,?_⟩;unfold IsDs;refine⟨_,_,rfl,h1,?_⟩;unfold IsDs;refine⟨_,_,rfl,h2,?_⟩;unfold IsDs;refine⟨_,_,rfl,h3,?_⟩;unfold IsDs;rfl
theorem is_str {H:Hp}{v:V}{x:Str}:Is H v (.str x)↔v = .str x:=by unfold Is;exact Iff.rfl
theorem is_int {H:Hp}{v:V}{x:Int}:Is H v (.int x)↔v = .int x:=by unfold Is;exact Iff.rfl
theorem sm_bit {H:Hp}{v:V}{k:Nat} (h:Is H v (Sm.bit k).d):∃ p,v = .ref p∧H p=some (.tup [.str "bit",.int (k:Int)]):=by
 obtain⟨p,x,y,rfl,h1,h2,h3⟩:=is_tup2 h;rw[is_str] at h2;rw[is_int] at h3;subst h2 h3;exact⟨p,rfl,h1⟩
theorem sm_fix {H:Hp}{v:V}{b:Int} (h:Is H v (Sm.fix b).d):∃ p,v = .ref p∧H p=some (.tup [.str "fix",.int b]):=by
 obtain⟨p,x,y,rfl,h1,h2,h3⟩:=is_tup2 h;rw[is_str] at h2;rw[is_int] at h3;subst h2 h3;exact⟨p,rfl,h1⟩
theorem sm_no {H:Hp}{v:V}{s:Sm} (h:Is H v (Sm.no s).d):∃ p x,v = .ref p∧H p=some (.tup [.str "not",x])∧Is H x s.d:=by
 obtain⟨p,x,y,rfl,h1,h2,h3⟩:=is_tup2 h;rw[is_str] at h2;subst h2;exact⟨p,y,rfl,h1,h3⟩
theorem sm_two {H:Hp}{v:V}{w:Nat}{s t:Sm} (h:Is H v (Sm.two w s t).d):∃ p x y,v = .ref p∧H p=some (.tup [.str (wd w),x,y])∧Is H x s.d∧Is H y t.d:=by
 obtain⟨p,x,y,z,rfl,h1,h2,h3,h4⟩:=is_tup3 h;rw[is_str] at h2;subst h2;exact⟨p,y,z,rfl,h1,h3,h4⟩
theorem sm_keepX {H H':Hp} (k:∀ p xs,H p=some (.tup xs)→H' p=some (.tup xs)):∀ {s:Sm}{v:V},Is H v s.d→Is H' v s.d
 | .bit j,v,h=>by obtain⟨p,rfl,h1⟩:=sm_bit h;exact mk_tup2 (k _ _ h1) (is_str.mpr rfl) (is_int.mpr rfl)
 | .fix j,v,h=>by obtain⟨p,rfl,h1⟩:=sm_fix h;exact mk_tup2 (k _ _ h1) (is_str.mpr rfl) (is_int.mpr rfl)
 | .no s,v,h=>by obtain⟨p,x,rfl,h1,h2⟩:=sm_no h;exact mk_tup2 (k _ _ h1) (is_str.mpr rfl) (sm_keepX k h2)
 | .two w s t,v,h=>by obtain⟨p,x,y,rfl,h1,h2,h3⟩:=sm_two h;exact mk_tup3 (k _ _ h1) (is_str.mpr rfl) (sm_keepX k h2) (sm_keepX k h3)
theorem sm_keepU {H:Hp}{l:Addr}{xs:List V}{o:HO}{s:Sm}{v:V} (h:Is H v s.d) (hl:H l=some (.lst xs)):Is (upd H l o) v s.d:=sm_keepX (fun p ys e=>by
 have hne:p≠l:=fun z=>by rw[z,hl] at e;cases e
 rw[upd_ne hne];exact e) h
noncomputable def KeyIn (ls:List Nat) (f:Terms):Prop:=∀ t∈f,∀ j,t.1.toNat.testBit j=true→j∈ls
structure FS (ls:List Nat) (f:Terms):Prop where
 fg:FG 16 f
 key:KeyIn ls f
theorem sub_len:∀ (ls ks:List Nat),ks.Nodup→(∀ k∈ks,∀ j,k.testBit j=true→j∈ls)→ks.length≤2^ls.length
 | [],ks,hn,h=>by
  have h0:∀ k∈ks,k=0:=fun k hk=>Nat.eq_of_testBit_eq fun j=>by
   cases e:k.testBit j
   ·simp
   ·exact absurd (h k hk j e) (by simp)
  match ks,hn,h0 with
  | [],_,_=>exact Nat.zero_le _
  | [_],_,_=>exact Nat.le_refl _
  | a :: b :: r,hn,h0 =>
   have h1:=h0 a (by simp);have h2:=h0 b (by simp);rw[List.nodup_cons] at hn;exact absurd (by rw[h1,h2];simp) hn.1
 | x :: r,ks,hn,h=>by
  have hA:(ks.filter fun k=>k.testBit x).length≤2^r.length:=by
   have:=sub_len r ((ks.filter fun k=>k.testBit x).map fun k=>k-2^x) (by
    rw[List.Nodup,List.pairwise_map];refine (hn.filter _).imp_of_mem fun {a b} ha hb hab z=>hab ?_
    have h1:=Nat.ge_two_pow_of_testBit (List.mem_filter.mp ha).2;have h2:=Nat.ge_two_pow_of_testBit (List.mem_filter.mp hb).2;omega) (fun k hk j hj=>by
     obtain⟨k',hk',rfl⟩:=List.mem_map.mp hk;have hk2:=List.mem_filter.mp hk';rw[sub_bit hk2.2] at hj;have hj':k'.testBit j=true∧j≠x:=by simpa using hj
     rcases List.mem_cons.mp (h k' hk2.1 j hj'.1) with z | z
     ·exact absurd z hj'.2
     ·exact z)
   rw[List.length_map] at this;exact this
  have hB:(ks.filter fun k => !k.testBit x).length≤2^r.length:=sub_len r _ (hn.filter _) fun k hk j hj=>by
   have hk2:=List.mem_filter.mp hk;rcases List.mem_cons.mp (h k hk2.1 j hj) with z | z
   ·subst z;have:=hk2.2;rw[hj] at this;cases this
   ·exact z
  have hs:∀ l:List Nat,l.length=(l.filter fun k=>k.testBit x).length+(l.filter fun k => !k.testBit x).length:=fun l=>by
   induction l with
   | nil=>rfl
   | cons a l ih =>
    rw[List.filter_cons,List.filter_cons,List.length_cons,ih];cases a.testBit x <;> simp <;> omega
  rw[List.length_cons,Nat.pow_succ,hs ks];omega
theorem FS.len {ls:List Nat}{f:Terms} (h:FS ls f):f.length≤2^ls.length:=by
 have h0:=h.fg.keys;have hn:(f.map fun t=>t.1.toNat).Nodup:=by
  rw[List.Nodup,List.pairwise_map];refine h.fg.form.rise.imp_of_mem fun {a b} ha hb hab=>?_
  have:=(h0 a ha).1
  have:=(h0 b hb).1
  omega
 have:=sub_len ls _ hn fun k hk j hj=>by
  obtain⟨t,ht,rfl⟩:=List.mem_map.mp hk;exact h.key t ht j hj
 rw[List.length_map] at this;exact this
theorem worth_inv {ls:List Nat}{l:Terms} (h:KeyIn ls l) (h0:∀ t∈l,0≤t.1) {j:Nat} (hj:j ∉ ls) (g:Nat):worthL l ((setB g j false:Nat):Int)=worthL l (g:Int):=by
 have e:fixL j 0 l=l:=fix_same fun t ht=>by
  unfold hasB;cases z:t.1.toNat.testBit j
  ·rfl
  ·exact absurd (h t ht j z) hj
 have:=worth_fix (g:=g) (k:=j) (b:=0) (.inl rfl) h0
 rw[e] at this;rw[this];rfl
theorem key_of_worth {ls:List Nat}{f:Terms} (h:FG 16 f) (hw:∀ j,j ∉ ls→∀ g:Nat,worthL f ((setB g j false:Nat):Int)=worthL f (g:Int)):KeyIn ls f:=fun t ht j hj=>by
 by_cases z:j∈ls
 ·exact z
 ·exfalso;have e1:FormOf (outL j f) (fixL j 0 f):=by
   have:=FormOf.self (h.form.filter fun t => !hasB j t)
   unfold fixL;rw[if_pos rfl,List.append_nil];exact this
  have e2:outL j f=f:=forms_eq (M:=16) e1.toIsForm h.form (fun u hu=>h.keys u (List.mem_filter.mp hu).1) h.keys fun g=>by
   have h0:∀ t∈f,0≤t.1:=fun t ht=>(h.keys t ht).1
   rw[worth_congr _ e1.val,worth_fix (.inl rfl) h0];exact hw j z g
  have hm:t∈outL j f:=by rw[e2];exact ht
  have:=(List.mem_filter.mp hm).2
  unfold hasB at this;rw[hj] at this;cases this
theorem FS.of1 {ls:List Nat}{f l:Terms} (h:FG 16 f) (hl:FS ls l) (F:Int→Int) (hw:∀ g:Nat,worthL f (g:Int)=F (worthL l (g:Int))):FS ls f:=⟨h,key_of_worth h fun j hj g=>by
 rw[hw,hw,worth_inv hl.key (fun t ht=>(hl.fg.keys t ht).1) hj]⟩
theorem FS.of2 {ls:List Nat}{f l o:Terms} (h:FG 16 f) (hl:FS ls l) (ho:FS ls o) (F:Int→Int→Int) (hw:∀ g:Nat,worthL f (g:Int)=F (worthL l (g:Int)) (worthL o (g:Int))):FS ls f:=⟨h,key_of_worth h fun j hj g=>by
 rw[hw,hw,worth_inv hl.key (fun t ht=>(hl.fg.keys t ht).1) hj,worth_inv ho.key (fun t ht=>(ho.fg.keys t ht).1) hj]⟩
theorem FS.bit {ls:List Nat}{k:Nat} (hk:k∈ls) (h16:k<16):FS ls [((2:Int)^k,1)]:=by
 refine⟨FG.wire (M:=16) (a:=k) h16 rfl,fun t ht j hj=>?_⟩;have e:t=((2:Int)^k,1):=by simpa using ht
 rw[e] at hj;have e2:((2:Int)^k).toNat=2^k:=by rw[pow_cast,Int.toNat_natCast]
 have hj':((2:Int)^k).toNat.testBit j=true:=hj;rw[e2,Nat.testBit_two_pow] at hj'
 have:k=j:=of_decide_eq_true hj'
 rw[← this];exact hk
theorem FS.fix {ls:List Nat}{f:Terms}{b:Int} (hb:b=0∨b=1) (hf:FormOf f [(0,b)]):FS ls f:=by
 have hk:∀ t∈f,t.1=0:=fun t ht=>by simpa using hf.src t ht
 refine⟨⟨hf.toIsForm,fun t ht=>by rw[hk t ht];decide,fun g=>by rw[worth_congr _ hf.val,one_worth];exact hb⟩,fun t ht j hj=>?_⟩;rw[hk t ht] at hj;simp at hj
theorem wd_ne {w:Nat}:(wd w ≠ "bit")∧(wd w ≠ "fix")∧(wd w ≠ "not"):=by
 match w with
 | 0=>decide
 | 1=>decide
 | n+2=>show ("xor" : Str) ≠ "bit" ∧ ("xor" : Str) ≠ "fix" ∧ ("xor" : Str) ≠ "not";decide
theorem words_at {j:Nat} (h:j<3):atI [V.str "and",V.str "or",V.str "xor"] (j:Int)=some (V.str (wd j)):=by
 obtain rfl | rfl | rfl:j=0∨j=1∨j=2:=by omega
 ·rfl
 ·rfl
 ·rfl
end My
set_option maxHeartbeats 4000000
namespace L2
open PySem PySem.Spec PyProof.Rows
noncomputable def Itv (K:PySem.W.Frag) (a:Addr) (n:Nat):It :=
 ⟨fun i H=>∃ xs x,SqL K H a xs∧i<n∧xs[n-1-i]? = some x,fun i H x H'=>H'=H∧∀ xs,SqL K H a xs→xs[n-1-i]? = some x,fun i _=>n≤i⟩
theorem turn_rev {P:Program}{w:World}{K:PySem.W.Frag}{tg:Expr} (a it:Addr) (n:Nat) :
  Turn P w K tg (Itv K a n) [it] it (fun i h=>i≤n∧h.IsRevIter it a ((n:Int)-1-(i:Int))) where
 mem:=List.mem_singleton.mpr rfl
 obj:=fun i h st b hb=>by
  obtain⟨_,o,e,c,d⟩:=st;rw[List.mem_singleton.mp hb];exact⟨o,e,fun v z=>by rw[d] at z;cases z⟩
 keep:=fun i h h' st k=>⟨st.1,st.2.at (k it (List.mem_singleton.mpr rfl))⟩
 item:=by
  intro X hP hw hK hc i pins s σ H E I hf st hg;subst hP hw hK;obtain⟨xs,x,hq,hi,hx⟩:=hg;obtain⟨its,rv,p,_⟩:=I.list hq;obtain⟨u,hu,ru⟩:=rv.get hx;have fo:=hf it (List.mem_singleton.mpr rfl);have hit:=st.2;rw[show (n:Int)-1-(i:Int)=((n-1-i:Nat):Int) by omega] at hit;refine wpAny_pyNext_rev_item hit p.isList (x:=u) (by simpa using hu) fun h' st' sb=>?_
  have J:Inv X pins σ H { s with heap:=h' }:=I.turned (t':=s.toks) (fun b o hb z=>(sb.2 b hb).trans z) fo.1 fo.2.1 fo.2.2.2.1 fo.2.2.2.2.1 fo.2.2.2.2.2;rw[show ((n-1-i:Nat):Int)-1=(n:Int)-1-((i+1:Nat):Int) by omega] at st';have st2:=st';obtain⟨o,z1,z2,z3⟩:=st';exact⟨u,rfl,go_of (s:={ s with heap:=h' }) z1 z2 z3 (by decide) ⟨x,H,J,ru,⟨rfl,fun ys hy=>by rw[I.list_inj hy hq];exact hx⟩,⟨hi,st2⟩,fun b hb=>(hf b hb).1⟩⟩
 done:=by
  intro X hP hw hK hc i pins s σ H E I hf st hg;subst hP hw hK;have fo:=hf it (List.mem_singleton.mpr rfl);have hn:n≤i:=hg;have hit:=st.2;have hle:=st.1;rw[show (n:Int)-1-(i:Int) = -1 by omega] at hit;exact wpAny_pyNext_rev_end (I.ok.hd hc) hit fun h' eb=>⟨rfl,I.turned (t':=s.toks) (fun b o hb z=>eb b o hb z) fo.1 fo.2.1 fo.2.2.2.1 fo.2.2.2.2.1 fo.2.2.2.2.2⟩
 self:=fun _ _ _ _ _ st h=>wpAny_pyIter_revIter st.2 h
noncomputable def iRev (K:PySem.W.Frag) (ta:TA):TI:=fun σ H R=>ta σ H fun vs H1=>∃ a xs,vs=[.ref a]∧SqL K H1 a xs∧R (Itv K a xs.length) H1
theorem pi_reversed {X:Cx}{tg a:Expr}{ta:TA}{p pos:Pos} (hg:Gl X "reversed") (hm:X.mg "reversed" = none) (ha:PA X [a] ta) (hs:starEach [a] X.env=[(false,eval a X.env)]:=by rfl) :
  PI X tg (.Call (.Name "reversed" p) [a] [] pos) (iRev X.K ta):=by
 intro pins s σ H R I h;refine Call_ (ld_blt I hg hm boot_reversed (PyProof.Rows.callWith_type1 (thn (ha pos pins s σ H _ I h) fun us s1 ⟨vs,H1,I1,r1,q1⟩=>?_) hs rfl));obtain⟨l,xs,rfl,hq,q⟩:=q1;obtain⟨u,rfl,ru⟩:=Vals.one r1;cases (show u=Value.ref l from ru);obtain⟨its,rx,p,hz⟩:=I1.list hq;have hln:=rx.length;refine call_reversed_list p.isList (wpAny_pyIter_revIter (it:=s1.heap.objs.size) (l:=l) (i:=((its.toArray.size:Nat):Int)-1) ⟨_,Heap.get?_push_size _ rfl,rfl,rfl⟩ ?_);refine⟨s1.heap.objs.size,[s1.heap.objs.size],_,_,H1,rfl,I1.kept (t':=s1.toks) fun b o e=>Heap.get?_push_of_some _ e,turn_rev l _ xs.length,⟨Nat.zero_le _,?_⟩,fun b hb=>?_,q⟩
 ·rw[show ((xs.length:Nat):Int)-1-((0:Nat):Int)=((its.toArray.size:Nat):Int)-1 by rw[List.size_toArray,hln];simp];exact⟨_,Heap.get?_push_size _ rfl,rfl,rfl⟩
 ·rw[List.mem_singleton.mp hb];exact I1.fpOk (Nat.le_refl _) (I1.hok.fresh (Nat.le_refl _))
theorem for_rev {K:PySem.W.Frag}{a:Addr}{xs:List V}{g:TG}{tb:TS}{D:Ends} {σ:St}{H:Hp} (Pv:Nat→St→Hp→Prop) (h0:Pv 0 σ H) (hl:∀ i σ H,i≤xs.length→Pv i σ H→SqL K H a xs)
  (hs:∀ i x σ H,xs.reverse[i]? = some x→Pv i σ H→g x σ H fun σ2 H2=>tb { D with nx:=Pv (i+1),ct:=Pv (i+1),bk:=D.nx } σ2 H2) (hd:∀ σ H,Pv xs.length σ H→D.nx σ H) :
  ∃ W:Nat→Nat→St→Hp→Prop,(∃ m,W 0 m σ H)∧∀ i m σ H,W i m σ H →
   ((Itv K a xs.length).stop i H∧D.nx σ H)∨((Itv K a xs.length).go i H∧∃ N:St→Hp→Prop,(∀ σ' H',N σ' H'→∃ m',m'<m∧W (i+1) m' σ' H')∧∀ x H',(Itv K a xs.length).yld i H x H'→g x σ H' fun σ2 H2=>tb { D with nx:=N,ct:=N,bk:=D.nx } σ2 H2):=by
 refine⟨fun i m σ H=>m=xs.length-i∧i≤xs.length∧Pv i σ H,⟨xs.length,by simp,Nat.zero_le _,h0⟩,fun i m σ H ⟨em,hi,p⟩=>?_⟩;subst em;have q:=hl i σ H hi p;rcases Nat.lt_or_ge i xs.length with hlt | hge
 ·have hb:xs.length-1-i<xs.length:=by omega
  refine .inr ⟨⟨xs,xs[xs.length-1-i],q,hlt,List.getElem?_eq_getElem hb⟩,Pv (i+1),fun σ' H' p'=>⟨xs.length-(i+1),by omega,rfl,hlt,p'⟩,fun x H' y=>?_⟩;rw[y.1];exact hs i x σ H (by rw[List.getElem?_reverse hlt];exact y.2 xs q) p
 ·have e:i=xs.length:=by omega
  rw[e] at p;exact .inl ⟨hge,hd σ H p⟩
noncomputable def rExtT (K:PySem.W.Frag):V→List V→Hp→VK→Prop:=fun x vs H Q=>∃ l b xs zs,x = .ref l∧vs=[.ref b]∧H l=some (.lst xs)∧SqT K H b zs∧xs.length+zs.length≤sizeLine∧Q .non (upd H l (.lst (xs++zs)))
theorem extend_tup {prog:Program}{w:World}{A:Around}{E:Value→Shared→Prop}{s:Shared}{l b:Addr}{its its2:List Value}{n:Nat}{Q:Value→Shared→Prop}
  (e:s.heap.get? l=some { cls := .type "list",data := .seq its.toArray n }) (hb:IsTup s.heap b its2.toArray) (hz:its.length+its2.length≤sizeLine)
  (h:Q .none { s with heap:=s.heap.update l (Obj.mapSeq fun x=>x++its2.toArray) }):wpAny (model prog w) A (call (.builtin "list.extend") [.ref l,.ref b]) Q E s:=by
 obtain⟨o,ho,hc,k,hd⟩:=hb;refine wpAny_call_entry F.slot_list_extend ⟨_,e,rfl⟩ F.entry_list_extend ?_ (F.args_list_extend_2 _ _);unfold Builtin.«list.extend»;refine wpAny_bind (wpAny_of_eq (a:=(Value.ref l,Value.ref b)) rfl ?_);dsimp only;unfold Builtin.List.listExtendWith;refine wpAny_bind (wpAny_typeOf (T := "tuple") ⟨o,ho,hc⟩ ?_);rw[if_pos (by rw[show (Value.type "tuple" == Value.type "tuple")=true by decide +kernel,Bool.or_true])];refine wpAny_bind (wpAny_listItems ho hd ?_);refine wpAny_bind (wpAny_listItems e rfl ?_);have hlong:¬ (!its.toArray.isEmpty && Builtin.List.listTooLong (its.toArray.size+its2.toArray.size))=true:=by
  rw[notLongL (by rw[List.size_toArray,List.size_toArray];exact hz),Bool.and_false];exact Bool.false_ne_true
 rw[if_neg hlong];refine wpAny_bind ?_;show wpAny _ _ (updateSeq l _) _ _ _;refine wpAny_updateSeq e rfl ?_ (by rw[List.size_toArray];omega) (by rw[Array.size_append,List.size_toArray,List.size_toArray];omega);exact wpAny_pure ⟨_,rfl,h⟩
theorem mt_extendT {X:Cx}:MtM X "list.extend" (rExtT X.K):=by
 intro pins s σ H x vs v us Q I rx rv h;obtain⟨l,b,xs,zs,rfl,rfl,hH,hB,hz,q⟩:=h;cases rx;obtain⟨u,rfl,ru⟩:=rv.one;cases ru;obtain⟨z,its,n,r,hl,e⟩:=I.lstM hH;obtain⟨its2,r2,pl,_⟩:=I.tuple hB;have hl2:=r2.length;refine extend_tup e pl (by omega) ⟨.non,_,I.lset (its':=its++its2) hH e (by simp) (r.append r2) ?_,rfl,q⟩;rw[List.length_append];exact hz
end L2
namespace My
open PySem L2 OF
noncomputable def Sm.sz:Sm→Nat
 | .bit _=>1
 | .fix _=>1
 | .no s=>s.sz+1
 | .two _ s t=>s.sz+t.sz+1
noncomputable def Sm.pre:Sm→List Sm
 | .bit k=>[.bit k]
 | .fix b=>[.fix b]
 | .no s=>.no s :: s.pre
 | .two w s t=>.two w s t :: (t.pre++s.pre)
theorem Sm.pre_len:∀ s:Sm,s.pre.length=s.sz
 | .bit _=>rfl
 | .fix _=>rfl
 | .no s=>by show s.pre.length+1=s.sz+1;rw[pre_len s]
 | .two w s t=>by show (t.pre++s.pre).length+1=s.sz+t.sz+1;rw[List.length_append,pre_len s,pre_len t];omega
theorem Sm.sz_pos:∀ s:Sm,0<s.sz
 | .bit _=>Nat.one_pos
 | .fix _=>Nat.one_pos
 | .no s=>Nat.succ_pos _
 | .two w s t=>Nat.succ_pos _
theorem Sm.sz_dp:∀ s:Sm,s.sz+1≤2^(s.dp+1)
 | .bit _=>Nat.le_refl _
 | .fix _=>Nat.le_refl _
 | .no s=>by
  have:=sz_dp s
  show s.sz+1+1≤2^(s.dp+1+1);rw[Nat.pow_succ]
  have:=sz_pos s
  omega
 | .two w s t=>by
  have h1:=sz_dp s;have h2:=sz_dp t;have k1:2^(s.dp+1)≤2^(max s.dp t.dp+1):=Nat.pow_le_pow_right (by decide) (by omega);have k2:2^(t.dp+1)≤2^(max s.dp t.dp+1):=Nat.pow_le_pow_right (by decide) (by omega);show s.sz+t.sz+1+1≤2^(max s.dp t.dp+1+1);rw[Nat.pow_succ];omega
noncomputable def Next (st:List Sm):Sm→List Sm→Prop
 | .bit k,st'=>st'=st ++ [.bit k]
 | .fix b,st'=>st'=st ++ [.fix b]
 | .no s,st'=>∃ a,st=a ++ [s]∧st'=a ++ [.no s]
 | .two w s t,st'=>∃ a,st=a ++ [s,t]∧st'=a ++ [.two w s t]
noncomputable def Runs (fin:List Sm):List Sm→List Sm→Prop
 | st,[]=>st=fin
 | st,p :: L=>∃ st',Next st p st'∧Runs fin st' L
theorem runs_post {fin:List Sm}:∀ (s:Sm) (st L:List Sm),Runs fin (st ++ [s]) L→Runs fin st (s.pre.reverse++L)
 | .bit k,st,L,h=>⟨_,rfl,h⟩
 | .fix b,st,L,h=>⟨_,rfl,h⟩
 | .no s,st,L,h=>by
  show Runs fin st ((Sm.no s :: s.pre).reverse++L);rw[List.reverse_cons,List.append_assoc];exact runs_post s st _ ⟨_,⟨st,rfl,rfl⟩,h⟩
 | .two w s t,st,L,h=>by
  show Runs fin st ((Sm.two w s t :: (t.pre++s.pre)).reverse++L);rw[List.reverse_cons,List.reverse_append,List.append_assoc,List.append_assoc];exact runs_post s st _ (runs_post t _ _ ⟨_,⟨st,by rw[List.append_assoc];rfl,rfl⟩,h⟩)
noncomputable abbrev Smr (G:Hp):List V→List Sm→Prop:=Paired fun x s=>Is G x s.d
theorem Smr.snoc:∀ {G:Hp}{xs:List V}{l:List Sm}{x:V}{s:Sm},Smr G xs l→Is G x s.d→Smr G (xs ++ [x]) (l ++ [s])
 | _,_,_,_,_,.nil,h=>.cons h .nil
 | _,_,_,_,_,.cons e r,h=>.cons e (Smr.snoc r h)
theorem Smr.last:∀ {G:Hp}{xs:List V}{l:List Sm},Smr G xs l→xs≠[]→∃ ys y m s,xs=ys ++ [y]∧l=m ++ [s]∧Smr G ys m∧Is G y s.d
 | _,_,_,.nil,h=>absurd rfl h
 | _,_,_,.cons (l₁:=[]) e .nil,h=>⟨[],_,[],_,rfl,rfl,.nil,e⟩
 | G,x :: y :: xs,s :: l,.cons e r,h=>by
  obtain⟨ys,z,m,t,e1,e2,h1,h2⟩:=Smr.last r (by simp);rw[e1,e2];exact⟨x :: ys,z,s :: m,t,rfl,rfl,.cons e h1,h2⟩
theorem Smr.rev:∀ {G:Hp}{xs:List V}{l:List Sm},Smr G xs l→Smr G xs.reverse l.reverse
 | _,_,_,.nil=>.nil
 | _,_,_,.cons e r=>by rw[List.reverse_cons,List.reverse_cons];exact (Smr.rev r).snoc e
theorem Smr.at:∀ {G:Hp}{xs:List V}{l:List Sm}{i:Nat}{x:V},Smr G xs l→xs[i]? = some x→∃ s,l[i]? = some s∧Is G x s.d
 | _,_,_,_,_,.nil,h=>by cases h
 | _,_,_,0,_,.cons e r,h=>by cases h;exact⟨_,rfl,e⟩
 | _,_,_,i+1,_,.cons e r,h=>Smr.at (i:=i) r h
noncomputable def FoS (ls:List Nat) (s:Sm) (f:Terms):Prop:=FS ls f∧∀ g:Nat,worthL f (g:Int)=s.at fun k=>g.testBit k
theorem paired_app {α β : Type}{R : α → β → Prop}:∀ {a b:List α}{m:List β},Paired R (a++b) m→∃ m1 m2,m=m1++m2∧Paired R a m1∧Paired R b m2
 | [],b,m,h=>⟨[],m,rfl,.nil,h⟩
 | x :: a,b,y :: m,.cons e r=>by
  obtain⟨m1,m2,rfl,h1,h2⟩:=paired_app (a:=a) r;exact⟨y :: m1,m2,rfl,.cons e h1,h2⟩
theorem paired_snoc {α β : Type}{R : α → β → Prop}:∀ {a:List α}{m:List β}{x : α}{y : β},Paired R a m→R x y→Paired R (a ++ [x]) (m ++ [y])
 | _,_,_,_,.nil,h=>.cons h .nil
 | _,_,_,_,.cons e r,h=>.cons e (paired_snoc r h)
end My
namespace My
open PySem L2 OF
theorem paired_appR {α β : Type}{R : α → β → Prop}:∀ {m a b:List β}{l:List α},Paired R l (a++b)→∃ l1 l2,l=l1++l2∧Paired R l1 a∧Paired R l2 b
 | m,[],b,l,h=>⟨[],l,rfl,.nil,h⟩
 | m,y :: a,b,x :: l,.cons e r=>by
  obtain⟨l1,l2,rfl,h1,h2⟩:=paired_appR (m:=m) (a:=a) r;exact⟨x :: l1,l2,rfl,.cons e h1,h2⟩
theorem Sm.pre_ok {P:Nat→Prop}:∀ {s:Sm},s.ok P→∀ p∈s.pre,p.ok P
 | .bit k,h,p,hp=>by rw[List.mem_singleton.mp hp];exact h
 | .fix b,h,p,hp=>by rw[List.mem_singleton.mp hp];exact h
 | .no s,h,p,hp=>by
  rcases List.mem_cons.mp hp with rfl | z
  ·exact h
  ·exact Sm.pre_ok (s:=s) h p z
 | .two w s t,h,p,hp=>by
  rcases List.mem_cons.mp hp with rfl | z
  ·exact h
  ·rcases List.mem_append.mp z with z | z
   ·exact Sm.pre_ok h.2.2 p z
   ·exact Sm.pre_ok h.2.1 p z
theorem wd_in (w:Nat):inV (V.str (wd w)) [.str "and",.str "or",.str "xor"]=true:=by
 match w with
 | 0=>decide
 | 1=>decide
 | n+2=>show inV (V.str "xor") [.str "and",.str "or",.str "xor"]=true;decide
theorem small21 {n:Nat} (h:n+1≤2^21):n<sizeLine:=Nat.lt_of_lt_of_le (Nat.lt_of_succ_le h) (by decide)
theorem pre_small {s:Sm} (h:s.dp≤20):s.sz+1≤2^21:=Nat.le_trans s.sz_dp (Nat.pow_le_pow_right (by decide) (by omega))
end My
set_option maxHeartbeats 1000000
set_option maxHeartbeats 4000000
set_option maxHeartbeats 1000000
namespace L2
open PySem PySem.Spec PyProof.Rows
section
variable {X:Cx}{tg:Expr}
theorem mt_find:MtM X "str.find" (fun x vs H Q=>∃ i j,x = .str i∧vs=[.str j]∧Q (.int (Txt.find i j)) H):=by
 intro pins s σ H x xs v us Q I rx rv h;obtain⟨i,j,rfl,rfl,q⟩:=h;obtain⟨t,rfl⟩:=rx;obtain⟨u,rfl,⟨t2,rfl⟩⟩:=rv.one;exact SC.find ⟨.int _,H,I.tok _,⟨_,rfl⟩,q⟩
theorem call_int_str:CallR X (.type "int") (fun xs H Q=>∃ x n,xs=[.str x]∧intText? x=some n∧x.length≤640∧Q (.int n) H):=by
 intro pins s σ H xs us Q I r h;obtain⟨x,n,rfl,hn,hl,q⟩:=h;obtain⟨u,rfl,⟨t,rfl⟩⟩:=vals1 r;exact PySem.W.KIN.call_text hn hl ⟨.int n,H,I.tok _,⟨_,rfl⟩,q⟩
end
end L2
namespace My
open PySem L2 OF
noncomputable def S (l:List Nat):Str:=⟨l.toArray⟩
theorem S_list (l:List Nat):(S l).cps.toList=l:=rfl
theorem S_len (l:List Nat):(S l).length=l.length:=rfl
theorem S_eq {x:Str}{l:List Nat} (h:x.cps.toList=l):x=S l:=by subst h;rfl
theorem S_inj {a b:List Nat} (h:S a=S b):a=b:=congrArg (fun x:Str=>x.cps.toList) h
theorem S_cat (a b:List Nat):S a++S b=S (a++b):=S_eq (by
 show (a.toArray++b.toArray).toList=_;rw[Array.toList_append])
noncomputable def digs (n:Nat):List Nat:=(Nat.toDigits 10 n).map Char.toNat
theorem str_num (n:Nat):Str.ofString (toString ((n:Nat):Int))=S (digs n):=S_eq (PySem.W.KIN.signs_num n)
end My
namespace My
open PySem L2 OF
theorem lit_0:("0" : Str)=S [48]:=by decide +kernel
theorem lit_1:("1" : Str)=S [49]:=by decide +kernel
theorem lit_sp:(" " : Str)=S [32]:=by decide +kernel
noncomputable def LET:List Nat:=[97,98,99,100,101,102,103,104,105,106,107,108,109,110,111,112]
theorem lit_let:("abcdefghijklmnop" : Str)=S LET:=by decide +kernel
theorem let_at:∀ k:Nat,k<16→LET[k]? = some (97+k):=by decide
theorem find_let:∀ k:Nat,k<16→Txt.find (S LET) (S [97+k])=(k:Int):=by decide +kernel
theorem int_fig:∀ d:Nat,d<10→intText? (S [48+d])=some (d:Int):=by decide +kernel
end My
namespace My
open PySem L2 OF
theorem lst_rise (m:Nat):(lst m).Pairwise (· < ·):=by
 unfold lst;exact List.Pairwise.filter _ List.pairwise_lt_range
end My
namespace L2
open PySem PySem.Spec PyProof.Rows
section
variable {X:Cx}
theorem from_nat (n k:Nat):fromIndex n (k:Int)=k:=by
 unfold fromIndex;rw[if_neg (by omega),Int.max_eq_right (Int.natCast_nonneg _),Int.toNat_natCast]
theorem mt_startswith2:MtM X "str.startswith" (fun x vs H Q=>∃ (i j:Str) (k:Nat),x = .str i∧vs=[.str j,.int (k:Int)]∧Q (.bl (decide (k+j.length≤i.length) && Builtin.Str.subAt i j k)) H):=by
 intro pins s σ H x xs v us Q I rx rv h;obtain⟨i,j,k,rfl,rfl,q⟩:=h;obtain⟨t,rfl⟩:=rx;obtain⟨u,u',rfl,⟨t2,rfl⟩,⟨t3,rfl⟩⟩:=rv.two;have g:=gives_str_startswith_from i j (k:Int) t t2 t3;rw[from_nat] at g;exact call_gives F.slot_str_startswith (typeIs_str _ _ _) F.entry_str_startswith (F.args_str_startswith_3 _ _ _) g ⟨.bl _,H,I,rfl,q⟩
theorem mt_strip0:MtM X "str.strip" (fun x vs H Q=>∃ i,x = .str i∧vs=[]∧i.length≤sizeLine∧Q (.str (Txt.strip i)) H):=by
 intro pins s σ H x xs v us Q I rx rv h;obtain⟨i,rfl,rfl,hz,q⟩:=h;obtain⟨t,rfl⟩:=rx;obtain rfl:=rv.zero;exact SC.strip (fun t' k=>⟨.str _,H,I.tok _,⟨_,rfl⟩,q⟩) hz
end
end L2
namespace My
open PySem L2 OF
noncomputable def wdL (w:Nat):List Nat:=if w=0 then [97,110,100] else if w=1 then [111,114] else [120,111,114]
noncomputable def isJ:Sm→Bool
 | .two _ _ _=>true
 | _=>false
noncomputable def toksS:Sm→List (List Nat)
 | .bit k=>[[97+k]]
 | .fix b=>[[48+b.toNat]]
 | .no s=>[110,111,116,32] :: (if isJ s then [40] :: (toksS s ++ [[41]]) else toksS s)
 | .two w s t=>(if isJ s then [40] :: (toksS s ++ [[41]]) else toksS s)++(([32]++wdL w ++ [32]) :: (if isJ t then [40] :: (toksS t ++ [[41]]) else toksS t))
noncomputable def toksP (s:Sm):List (List Nat):=if isJ s then [40] :: (toksS s ++ [[41]]) else toksS s
theorem toks_no (s:Sm):toksS (.no s)=[110,111,116,32] :: toksP s:=by unfold toksP;rw[toksS]
theorem toks_two (w:Nat) (s t:Sm):toksS (.two w s t)=toksP s++(([32]++wdL w ++ [32]) :: toksP t):=by unfold toksP;rw[toksS]
noncomputable def fstTok (l:List Nat):List Nat :=
 if [110,111,116,32] <+: l then [110,111,116,32] else if [32,97,110,100,32] <+: l then [32,97,110,100,32] else if [32,111,114,32] <+: l then [32,111,114,32] else if [32,120,111,114,32] <+: l then [32,120,111,114,32] else l.take 1
noncomputable def Behind (l:List Nat):Prop:=l=[]∨(∃ r,l=32 :: r)∨∃ r,l=41 :: r
noncomputable def Cuts:List (List Nat)→List Nat→Prop
 | [],_=>True
 | t :: ts,r=>t≠[]∧fstTok (t++(ts.flatten++r))=t∧Cuts ts r
theorem Cuts.app:∀ {a b:List (List Nat)}{r:List Nat},Cuts a (b.flatten++r)→Cuts b r→Cuts (a++b) r
 | [],b,r,_,h=>h
 | t :: a,b,r,h,h'=>by
  obtain⟨h1,h2,h3⟩:=h;refine⟨h1,?_,Cuts.app h3 h'⟩;show fstTok (t++((a++b).flatten++r))=t;rw[List.flatten_append,List.append_assoc];exact h2
theorem fst_not (r:List Nat):fstTok ([110,111,116,32]++r)=[110,111,116,32]:=if_pos (List.prefix_append _ _)
theorem fst_one {c:Nat}{r:List Nat} (h32:c≠32) (hn:c≠110∨Behind r):fstTok ([c]++r)=[c]:=by
 unfold fstTok;have e1:¬ [110,111,116,32] <+: [c]++r:=fun z=>by
  obtain⟨t,ht⟩:=z;simp at ht;rcases hn with y | y
  ·exact y ht.1.symm
  ·rcases y with y | ⟨r',y⟩ | ⟨r',y⟩
   ·rw[y] at ht;simp at ht
   ·rw[y] at ht;simp at ht
   ·rw[y] at ht;simp at ht
 have e2:∀ l:List Nat,¬ (32 :: l) <+: [c]++r:=fun l z=>by
  obtain⟨t,ht⟩:=z;simp at ht;exact h32 ht.1.symm
 rw[if_neg e1,if_neg (e2 _),if_neg (e2 _),if_neg (e2 _)];rfl
theorem fst_jn {w:Nat} (hw:w<3) (r:List Nat):fstTok (([32]++wdL w ++ [32])++r)=[32]++wdL w ++ [32]:=by
 rcases (show w=0∨w=1∨w=2 by omega) with rfl | rfl | rfl
 ·rfl
 ·rfl
 ·rfl
theorem cuts_S {r:List Nat}:∀ {s:Sm},s.ok (fun k=>k<16)→(∀ r,Behind r→Cuts (toksS s) r)∧(∀ r,Behind r→Cuts (toksP s) r)
 | .bit k,h=>by
  have hk:k<16:=h
  have:∀ r,Behind r→Cuts (toksS (.bit k)) r:=fun r hr=>⟨by simp,fst_one (by omega) (.inr hr),trivial⟩
  exact⟨this,this⟩
 | .fix b,h=>by
  have hb:b=0∨b=1:=h
  have:∀ r,Behind r→Cuts (toksS (.fix b)) r:=fun r hr=>⟨by simp,fst_one (by omega) (.inr hr),trivial⟩
  exact⟨this,this⟩
 | .no s,h=>by
  have ih:=(cuts_S (r:=r) (s:=s) h).2
  have:∀ r,Behind r→Cuts (toksS (.no s)) r:=fun r hr=>by
   rw[toks_no];exact⟨by simp,fst_not _,ih r hr⟩
  exact⟨this,this⟩
 | .two w s t,h=>by
  obtain⟨hw,h1,h2⟩:=h;have i1:=(cuts_S (r:=r) (s:=s) h1).2;have i2:=(cuts_S (r:=r) (s:=t) h2).2;have go:∀ r,Behind r→Cuts (toksS (.two w s t)) r:=fun r hr=>by
   rw[toks_two];refine Cuts.app (i1 _ (.inr (.inl ⟨_,rfl⟩))) ⟨by simp,?_,i2 r hr⟩;exact fst_jn hw _
  refine⟨go,fun r hr=>?_⟩;show Cuts ([40] :: (toksS (.two w s t) ++ [[41]])) r;refine⟨by simp,fst_one (by decide) (.inl (by decide)),?_⟩;exact Cuts.app (go _ (.inr (.inr ⟨_,rfl⟩))) ⟨by simp,fst_one (by decide) (.inl (by decide)),trivial⟩
noncomputable def txtS:Sm→List Nat
 | .bit k=>[97+k]
 | .fix b=>digs b.natAbs
 | .no s=>[110,111,116,32]++(if isJ s then [40]++txtS s ++ [41] else txtS s)
 | .two w s t=>(if isJ s then [40]++txtS s ++ [41] else txtS s) ++ [32]++wdL w ++ [32]++(if isJ t then [40]++txtS t ++ [41] else txtS t)
noncomputable def partS (s:Sm):List Nat:=if isJ s then [40]++txtS s ++ [41] else txtS s
theorem part_le (s:Sm):(partS s).length≤(txtS s).length+2:=by unfold partS;split <;> simp <;> omega
theorem txt_le (s:Sm):(txtS s).length≤(partS s).length:=by
 unfold partS;split
 ·simp;omega
 ·exact Nat.le_refl _
theorem lit_and:("and" : Str)=S [97,110,100]:=by decide +kernel
theorem lit_or:("or" : Str)=S [111,114]:=by decide +kernel
theorem lit_xor:("xor" : Str)=S [120,111,114]:=by decide +kernel
theorem lit_not:("not " : Str)=S [110,111,116,32]:=by decide +kernel
theorem lit_op:("(" : Str)=S [40]:=by decide +kernel
theorem lit_cl:(")" : Str)=S [41]:=by decide +kernel
theorem wd_S {w:Nat} (h:w<3):wd w=S (wdL w):=by
 rcases (show w=0∨w=1∨w=2 by omega) with rfl | rfl | rfl
 ·exact lit_and
 ·exact lit_or
 ·exact lit_xor
theorem wd_le (w:Nat):(wdL w).length≤3:=by unfold wdL;split <;> (try split) <;> simp
theorem wd_neV {w:Nat} (h:w<3):decide (V.str (wd w)=V.str "bit")=false∧decide (V.str (wd w)=V.str "fix")=false∧decide (V.str (wd w)=V.str "not")=false:=by
 rcases (show w=0∨w=1∨w=2 by omega) with rfl | rfl | rfl <;> decide
theorem txt_no (s:Sm):txtS (.no s)=[110,111,116,32]++partS s:=by unfold partS;rw[txtS]
theorem txt_two (w:Nat) (s t:Sm):txtS (.two w s t)=partS s ++ [32]++wdL w ++ [32]++partS t:=by unfold partS;rw[txtS]
theorem wd_inV {w:Nat} (h:w<3):inV (V.str (wd w)) [V.str "and",V.str "or",V.str "xor"]=true:=by
 rcases (show w=0∨w=1∨w=2 by omega) with rfl | rfl | rfl <;> decide
theorem few_bits1 {n:Nat} (h:n≤1):(n:Int).natAbs.log2<1920:=by
 rcases (show n=0∨n=1 by omega) with rfl | rfl <;> decide
theorem size4 {n:Nat} (h:n≤40000):n≤sizeLine:=Nat.le_trans h (by decide)
theorem toks_txt:∀ {s:Sm},s.ok (fun k=>k<16)→(toksS s).flatten=txtS s∧(toksP s).flatten=partS s
 | .bit k,_=>⟨rfl,rfl⟩
 | .fix b,h=>by
  have hb:b=0∨b=1:=h;rcases hb with rfl | rfl
  ·exact⟨rfl,rfl⟩
  ·exact⟨rfl,rfl⟩
 | .no s,h=>by
  have ih:=(toks_txt (s:=s) h).2
  have:(toksS (.no s)).flatten=txtS (.no s):=by rw[toks_no,txt_no,List.flatten_cons,ih]
  exact⟨this,this⟩
 | .two w s t,h=>by
  obtain⟨hw,h1,h2⟩:=h;have i1:=(toks_txt (s:=s) h1).2;have i2:=(toks_txt (s:=t) h2).2;have go:(toksS (.two w s t)).flatten=txtS (.two w s t):=by
   rw[toks_two,txt_two,List.flatten_append,List.flatten_cons,i1,i2];simp
  refine⟨go,?_⟩;show ([40] :: (toksS (.two w s t) ++ [[41]])).flatten=[40]++txtS (.two w s t) ++ [41];rw[List.flatten_cons,List.flatten_append,go];simp
end My
namespace My
open PySem L2 OF
theorem starts_at (l t:List Nat) (k:Nat) (h:k≤l.length):(decide (k+(S t).length≤(S l).length) && Builtin.Str.subAt (S l) (S t) k)=decide (t <+: l.drop k):=by
 rw[StrLaws.subAt_eq,S_list,S_list,S_len,S_len];by_cases z:t <+: l.drop k
 ·rw[decide_eq_true z];obtain⟨r,hr⟩:=z;have hl:t.length≤(l.drop k).length:=by rw[← hr,List.length_append];omega
  rw[List.length_drop] at hl;rw[decide_eq_true (by omega),Bool.true_and,← hr,List.take_left];simp
 ·rw[decide_eq_false z]
  have:((l.drop k).take t.length == t)=false:=by
   refine beq_eq_false_iff_ne.mpr fun y=>z ⟨(l.drop k).drop t.length,?_⟩
   conv=>lhs;rw[← y]
   have e:((l.drop k).take t.length).length=t.length:=by rw[y]
   rw[e];exact List.take_append_drop _ _
  rw[this,Bool.and_false]
theorem lit_sand:(" and " : Str)=S [32,97,110,100,32]:=by decide +kernel
theorem lit_sor:(" or " : Str)=S [32,111,114,32]:=by decide +kernel
theorem lit_sxor:(" xor " : Str)=S [32,120,111,114,32]:=by decide +kernel
noncomputable def spcd:List (List Nat):=[[110,111,116,32],[32,97,110,100,32],[32,111,114,32],[32,120,111,114,32]]
theorem spcd_V:[V.str "not ",V.str " and ",V.str " or ",V.str " xor "]=spcd.map fun t=>V.str (S t):=by
 rw[lit_not,lit_sand,lit_sor,lit_sxor];rfl
theorem fst_found {l t:List Nat}{i:Nat} (ht:spcd[i]? = some t) (hb:∀ j t',j<i→spcd[j]? = some t'→¬ t' <+: l) (h:t <+: l):fstTok l=t:=by
 unfold fstTok
 match i,ht with
 | 0,ht=>cases ht;exact if_pos h
 | 1,ht=>cases ht;rw[if_neg (hb 0 _ (by decide) rfl)];exact if_pos h
 | 2,ht=>cases ht;rw[if_neg (hb 0 _ (by decide) rfl),if_neg (hb 1 _ (by decide) rfl)];exact if_pos h
 | 3,ht=>cases ht;rw[if_neg (hb 0 _ (by decide) rfl),if_neg (hb 1 _ (by decide) rfl),if_neg (hb 2 _ (by decide) rfl)];exact if_pos h
 | i+4,ht=>simp[spcd] at ht
theorem fst_none {l:List Nat} (hb:∀ j t',j<4→spcd[j]? = some t'→¬ t' <+: l):fstTok l=l.take 1:=by
 unfold fstTok;rw[if_neg (hb 0 _ (by decide) rfl),if_neg (hb 1 _ (by decide) rfl),if_neg (hb 2 _ (by decide) rfl),if_neg (hb 3 _ (by decide) rfl)]
theorem cuts_at:∀ {ts:List (List Nat)}{r:List Nat}{i:Nat}{t:List Nat},Cuts ts r→ts[i]? = some t→t≠[]∧fstTok ((ts.drop i).flatten++r)=t
 | [],_,_,_,_,e=>by simp at e
 | u :: ts,r,0,t,h,e=>by
  have:u=t:=by simpa using e
  subst this;refine⟨h.1,?_⟩;rw[List.drop_zero,List.flatten_cons,List.append_assoc];exact h.2.1
 | u :: ts,r,i+1,t,h,e=>by
  rw[List.drop_succ_cons];exact cuts_at h.2.2 (by simpa using e)
theorem flat_drop:∀ (ts:List (List Nat)) (i:Nat),ts.flatten.drop (ts.take i).flatten.length=(ts.drop i).flatten
 | [],i=>by simp
 | t :: ts,0=>rfl
 | t :: ts,i+1=>by
  rw[List.take_succ_cons,List.flatten_cons,List.flatten_cons,List.length_append,List.drop_succ_cons,← flat_drop ts i,← List.drop_drop,List.drop_left]
theorem cuts_len:∀ {ts:List (List Nat)}{r:List Nat},Cuts ts r→ts.length≤ts.flatten.length
 | [],_,_=>Nat.le_refl _
 | t :: ts,r,h=>by
  have h1:=cuts_len h.2.2;have h2:0<t.length:=List.length_pos_iff.mpr h.1;rw[List.flatten_cons,List.length_append,List.length_cons];omega
theorem wd_inA:∀ w:Nat,inV (V.str (wd w)) [V.str "and",V.str "or",V.str "xor"]=true
 | 0=>by decide
 | 1=>by decide
 | _+2=>by show inV (V.str "xor") _=true;decide
end My
namespace My
open PySem L2 OF
inductive Itm where
 | nt | op | jn (w:Nat) (s:Sm)
noncomputable def Itm.d:Itm→D
 | .nt=>.tup [.str "not"]
 | .op=>.tup [.str "("]
 | .jn w s=>.tup [.str (wd w),s.d]
noncomputable def noK:Nat→Sm→Sm
 | 0,s=>s
 | k+1,s=>noK k (.no s)
noncomputable def NotLast (p:Itm→Prop) (its:List Itm):Prop:=∀ it,its.getLast? = some it→¬ p it
noncomputable def isNt:Itm→Prop
 | .nt=>True
 | _=>False
noncomputable def isJn:Itm→Prop
 | .jn _ _=>True
 | _=>False
noncomputable abbrev Mst:=Option Sm × List Itm
inductive Step:Mst→List Nat→Mst→Prop
 | no (its:List Itm):Step (none,its) [110,111,116,32] (none,its ++ [.nt])
 | op (its:List Itm):Step (none,its) [40] (none,its ++ [.op])
 | bit (its:List Itm) (k j:Nat) (h:NotLast isNt its) (hj:j<16):Step (none,its++List.replicate k .nt) [97+j] (some (noK k (.bit j)),its)
 | fix (its:List Itm) (k:Nat) (b:Int) (h:NotLast isNt its) (hb:b=0∨b=1):Step (none,its++List.replicate k .nt) [48+b.toNat] (some (noK k (.fix b)),its)
 | jn (its:List Itm) (s:Sm) (w:Nat) (h:NotLast isJn its) (hw:w<3):Step (some s,its) ([32]++wdL w ++ [32]) (none,its ++ [.jn w s])
 | cl (its:List Itm) (k w:Nat) (s t:Sm) (h:NotLast isNt its) (hw:w<3):Step (some t,its++List.replicate k .nt ++ [.op,.jn w s]) [41] (some (noK k (.two w s t)),its)
inductive Steps:Mst→List (List Nat)→Mst→Prop
 | nil (a:Mst):Steps a [] a
 | cons {a b c:Mst}{t:List Nat}{ts:List (List Nat)}:Step a t b→Steps b ts c→Steps a (t :: ts) c
theorem Steps.app {a b c:Mst}{ts us:List (List Nat)} (h:Steps a ts b) (h':Steps b us c):Steps a (ts++us) c:=by
 induction h with
 | nil=>exact h'
 | cons s _ ih=>exact .cons s (ih h')
theorem last_app (its:List Itm) (it:Itm):(its ++ [it]).getLast? = some it:=by simp
theorem notLast_app {p:Itm→Prop}{its:List Itm}{it:Itm} (h:¬ p it):NotLast p (its ++ [it]):=fun x hx=>by
 rw[last_app] at hx;cases hx;exact h
theorem nts_succ (its:List Itm) (k:Nat):its++List.replicate k Itm.nt ++ [.nt]=its++List.replicate (k+1) .nt:=by
 rw[List.append_assoc,← List.replicate_succ']
theorem run_S:∀ {s:Sm},s.ok (fun k=>k<16) →
  (∀ its k,NotLast isNt its→isJ s=false→Steps (none,its++List.replicate k .nt) (toksS s) (some (noK k s),its)) ∧
  (∀ its k,NotLast isNt its→Steps (none,its++List.replicate k .nt) (toksP s) (some (noK k s),its)) ∧
  (∀ w a b,s = .two w a b→∀ its,NotLast isNt its→NotLast isJn its→Steps (none,its) (toksS s) (some b,its ++ [.jn w a]))
 | .bit j,h=>by
  have go:∀ its k,NotLast isNt its→Steps (none,its++List.replicate k .nt) (toksS (.bit j)) (some (noK k (.bit j)),its):=fun its k hn=>.cons (.bit its k j hn h) (.nil _)
  exact⟨fun its k hn _=>go its k hn,go,fun w a b e=>by cases e⟩
 | .fix b,h=>by
  have go:∀ its k,NotLast isNt its→Steps (none,its++List.replicate k .nt) (toksS (.fix b)) (some (noK k (.fix b)),its):=fun its k hn=>.cons (.fix its k b hn h) (.nil _)
  exact⟨fun its k hn _=>go its k hn,go,fun w a b e=>by cases e⟩
 | .no s,h=>by
  have ih:=(run_S (s:=s) h).2.1;have go:∀ its k,NotLast isNt its→Steps (none,its++List.replicate k .nt) (toksS (.no s)) (some (noK k (.no s)),its):=fun its k hn=>by
   rw[toks_no];refine .cons (.no _) ?_;rw[nts_succ];exact ih its (k+1) hn
  exact⟨fun its k hn _=>go its k hn,go,fun w a b e=>by cases e⟩
 | .two w s t,h=>by
  obtain⟨hw,h1,h2⟩:=h;have i1:=(run_S (s:=s) h1).2.1;have i2:=(run_S (s:=t) h2).2.1;have go:∀ its,NotLast isNt its→NotLast isJn its→Steps (none,its) (toksS (.two w s t)) (some t,its ++ [.jn w s]):=fun its hn hj=>by
   rw[toks_two];have a1:=i1 its 0 hn;rw[List.replicate_zero,List.append_nil] at a1;refine a1.app (.cons (.jn its s w hj hw) ?_);have a2:=i2 (its ++ [.jn w s]) 0 (notLast_app (p:=isNt) (it := .jn w s) (fun z=>nomatch z));rw[List.replicate_zero,List.append_nil] at a2;exact a2
  refine⟨(fun its k _ z=>by cases z),(fun its k hn=>?_),(fun w' a b e=>by cases e;exact go)⟩;show Steps _ ([40] :: (toksS (.two w s t) ++ [[41]])) _;refine .cons (.op _) ?_;refine (go _ (notLast_app (p:=isNt) (it := .op) fun z=>nomatch z) (notLast_app (p:=isJn) (it := .op) fun z=>nomatch z)).app (.cons ?_ (.nil _))
  have:=Step.cl its k w s t hn hw
  rw[List.append_assoc (its++List.replicate k Itm.nt) [Itm.op] [Itm.jn w s]];exact this
theorem Steps.path {a c:Mst}{ts:List (List Nat)} (h:Steps a ts c):∃ f:Nat→Mst,f 0=a∧f ts.length=c∧∀ i t,ts[i]? = some t→Step (f i) t (f (i+1)):=by
 induction h with
 | nil a=>exact⟨fun _=>a,rfl,rfl,fun i t e=>by simp at e⟩
 | @cons a b c t ts s _ ih =>
  obtain⟨f,f0,f1,f2⟩:=ih;refine⟨fun i=>match i with | 0=>a | i+1=>f i,rfl,f1,fun i u e=>?_⟩;cases i with
  | zero =>
   have:t=u:=by simpa using e
   subst this;show Step a t (f 0);rw[f0];exact s
  | succ i=>exact f2 i u (by simpa using e)
noncomputable def ItmAt (H:Hp) (v:V) (it:Itm):Prop:=Is H v it.d
noncomputable def Stks (H:Hp) (b:Addr) (its:List Itm):Prop:=∃ xs:List V,H b=some (.lst xs)∧Paired (ItmAt H) xs its
theorem is_tup1 {H:Hp}{v:V}{d:D} (h:Is H v (.tup [d])):∃ p x,v = .ref p∧H p=some (.tup [x])∧Is H x d:=by
 unfold Is at h;obtain⟨p,xs,rfl,h1,h2⟩:=h;unfold IsDs at h2;obtain⟨x,r,rfl,h3,h4⟩:=h2;unfold IsDs at h4;subst h4;exact⟨p,x,rfl,h1,h3⟩
theorem mk_tup1 {H:Hp}{p:Addr}{x:V}{d:D} (h:H p=some (.tup [x])) (h1:Is H x d):Is H (.ref p) (.tup [d]):=by
 unfold Is;refine⟨p,_,rfl,h,?_⟩;unfold IsDs;refine⟨_,_,rfl,h1,?_⟩;unfold IsDs;rfl
theorem itm_nt {H:Hp}{v:V} (h:ItmAt H v .nt):∃ p,v = .ref p∧H p=some (.tup [.str "not"]):=by
 obtain⟨p,x,rfl,h1,h2⟩:=is_tup1 (show Is H v (.tup [.str "not"]) from h);rw[is_str] at h2;subst h2;exact⟨p,rfl,h1⟩
theorem itm_op {H:Hp}{v:V} (h:ItmAt H v .op):∃ p,v = .ref p∧H p=some (.tup [.str "("]):=by
 obtain⟨p,x,rfl,h1,h2⟩:=is_tup1 (show Is H v (.tup [.str "("]) from h);rw[is_str] at h2;subst h2;exact⟨p,rfl,h1⟩
theorem itm_jn {H:Hp}{v:V}{w:Nat}{s:Sm} (h:ItmAt H v (.jn w s)):∃ p x,v = .ref p∧H p=some (.tup [.str (wd w),x])∧Is H x s.d:=by
 obtain⟨p,x,y,rfl,h1,h2,h3⟩:=is_tup2 (show Is H v (.tup [.str (wd w),s.d]) from h);rw[is_str] at h2;subst h2;exact⟨p,y,rfl,h1,h3⟩
theorem itm_keep {H H':Hp} (k:∀ p xs,H p=some (.tup xs)→H' p=some (.tup xs)):∀ {it:Itm}{v:V},ItmAt H v it→ItmAt H' v it
 | .nt,v,h=>by obtain⟨p,rfl,h1⟩:=itm_nt h;exact mk_tup1 (k _ _ h1) (is_str.mpr rfl)
 | .op,v,h=>by obtain⟨p,rfl,h1⟩:=itm_op h;exact mk_tup1 (k _ _ h1) (is_str.mpr rfl)
 | .jn w s,v,h=>by obtain⟨p,x,rfl,h1,h2⟩:=itm_jn h;exact mk_tup2 (k _ _ h1) (is_str.mpr rfl) (sm_keepX k h2)
noncomputable def SameB (b:Addr) (H H':Hp):Prop:=∀ p o,p≠b→H p=some o→H' p=some o
theorem SameB.refl (b:Addr) (H:Hp):SameB b H H:=fun _ _ _ e=>e
theorem SameB.trans {b:Addr}{H H' H'':Hp} (h:SameB b H H') (h':SameB b H' H''):SameB b H H'':=fun p o n e=>h' p o n (h p o n e)
theorem SameB.of {b:Addr}{H H':Hp} (h:Same H H'):SameB b H H':=fun p o _ e=>h p o e
theorem SameB.upd {b:Addr}{H:Hp}{o:HO}:SameB b H (L2.upd H b o):=fun p o' n e=>by rw[upd_ne n];exact e
theorem SameB.tups {b:Addr}{H H':Hp}{ys:List V} (h:SameB b H H') (hb:H b=some (.lst ys)):∀ p xs,H p=some (.tup xs)→H' p=some (.tup xs):=fun p xs e=>h p _ (fun z=>by rw[z,hb] at e;cases e) e
end My
namespace My
open PySem L2 OF
theorem atI_last {α : Type} (xs:List α) (y : α):atI (xs ++ [y]) (-1)=some y:=by
 have e:ixN (xs ++ [y]).length (-1)=some xs.length:=by
  unfold ixN;rw[List.length_append];simp;omega
 unfold atI;rw[e];simp
theorem paired_last {α β : Type}{R : α → β → Prop}:∀ {zs:List α}{its:List β}{it : β},Paired R zs (its ++ [it])→∃ xs y,zs=xs ++ [y]∧Paired R xs its∧R y it
 | _,[],it,h=>by
  cases h with
  | cons r q=>cases q;exact⟨[],_,rfl,.nil,r⟩
 | _,i :: its,it,h=>by
  cases h with
  | cons r q =>
   obtain⟨xs,y,e,p,r'⟩:=paired_last q;exact⟨_ :: xs,y,by rw[e];rfl,.cons r p,r'⟩
theorem Stks.last {H:Hp}{b:Addr}{its:List Itm}{it:Itm} (h:Stks H b (its ++ [it])):∃ xs y,H b=some (.lst (xs ++ [y]))∧Paired (ItmAt H) xs its∧ItmAt H y it:=by
 obtain⟨zs,h1,h2⟩:=h;obtain⟨xs,y,rfl,p,r⟩:=paired_last h2;exact⟨xs,y,h1,p,r⟩
theorem paired_keep {H H':Hp} (k:∀ p xs,H p=some (.tup xs)→H' p=some (.tup xs)) {xs:List V}{its:List Itm} (h:Paired (ItmAt H) xs its):Paired (ItmAt H') xs its:=Paired.mapP h fun _ _ e=>itm_keep k e
theorem Stks.nil {H:Hp}{b:Addr} (h:Stks H b []):H b=some (.lst []):=by
 obtain⟨xs,h1,h2⟩:=h;cases h2;exact h1
theorem snoc_cases {α : Type} (l:List α):l=[]∨∃ r x,l=r ++ [x]:=by
 rcases List.eq_nil_or_concat l with h | ⟨r,x,h⟩
 ·exact .inl h
 ·exact .inr ⟨r,x,by rw[h,List.concat_eq_append]⟩
theorem Stks.keep {H H':Hp}{b:Addr}{its:List Itm} (h:Stks H b its) (s:Same H H'):Stks H' b its:=by
 obtain⟨xs,h1,h2⟩:=h;exact⟨xs,s _ _ h1,paired_keep (fun p ys e=>s p _ e) h2⟩
end My
namespace My
open PySem L2 OF
theorem step_len {a b:Mst}{t:List Nat} (h:Step a t b):b.2.length≤a.2.length+1:=by
 cases h <;> simp <;> omega
theorem run_all {s:Sm} (h:s.ok (fun k=>k<16)):∃ (e:Sm) (its:List Itm),Steps (none,[]) (toksS s) (some e,its)∧((its=[]∧e=s)∨∃ w a,its=[.jn w a]∧s = .two w a e):=by
 obtain⟨r1,r2,r3⟩:=run_S h;have hn:∀ p,NotLast p ([]:List Itm):=fun p it z=>by simp at z
 cases hj:isJ s with
 | false =>
  have:=r1 [] 0 (hn _) hj
  exact⟨s,[],this,.inl ⟨rfl,rfl⟩⟩
 | true =>
  cases s with
  | two w a b=>exact⟨b,[.jn w a],r3 w a b rfl [] (hn _) (hn _),.inr ⟨w,a,rfl,rfl⟩⟩
  | _=>cases hj
theorem SameB.same {b:Addr}{H H' H'':Hp} (h:Same H H') (k:SameB b H' H'') (hb:H b=none):Same H H'':=fun p o e=>k p o (fun z=>by rw[z,hb] at e;cases e) (h p o e)
end My
namespace My
open PySem L2 OF
theorem sm_ref {H:Hp}{v:V}:∀ {s:Sm},Is H v s.d→v ≠ .non
 | .bit _,h=>by obtain⟨p,rfl,_⟩:=sm_bit h;exact fun z=>nomatch z
 | .fix _,h=>by obtain⟨p,rfl,_⟩:=sm_fix h;exact fun z=>nomatch z
 | .no _,h=>by obtain⟨p,x,rfl,_⟩:=sm_no h;exact fun z=>nomatch z
 | .two _ _ _,h=>by obtain⟨p,x,y,rfl,_⟩:=sm_two h;exact fun z=>nomatch z
end My
namespace My
open PySem L2 OF
noncomputable def sprd:List Nat→Nat→Nat
 | [],_=>0
 | x :: r,s=>(s % 2) * 2^x+sprd r (s / 2)
noncomputable def pull:List Nat→Nat→Nat
 | [],_=>0
 | x :: r,g=>(if g.testBit x then 1 else 0)+2 * pull r g
theorem sprd_bits:∀ {ls:List Nat}{s j:Nat},ls.Nodup→(sprd ls s).testBit j=true→j∈ls
 | [],s,j,_,h=>by simp[sprd] at h
 | x :: r,s,j,hn,h=>by
  rw[List.nodup_cons] at hn;have h0:(sprd r (s / 2)).testBit x=false:=by
   cases z:(sprd r (s / 2)).testBit x
   ·rfl
   ·exact absurd (sprd_bits hn.2 z) hn.1
  have h1:sprd r (s / 2) / 2^x % 2=0:=by
   rw[Nat.testBit_eq_decide_div_mod_eq] at h0
   have:=of_decide_eq_false h0
   omega
  rw[sprd] at h;rcases Nat.mod_two_eq_zero_or_one s with z | z
  ·rw[z,Nat.zero_mul,Nat.zero_add] at h;exact List.mem_cons_of_mem _ (sprd_bits hn.2 h)
  ·rw[z,Nat.one_mul,Nat.add_comm,add_pow_of_nobit h1,Nat.testBit_or,Nat.testBit_two_pow] at h;by_cases e:x=j
   ·rw[e];simp
   ·exact List.mem_cons_of_mem _ (sprd_bits hn.2 (by simpa [e] using h))
theorem sprd_pull:∀ {ls:List Nat}{g j:Nat},ls.Nodup→j∈ls→(sprd ls (pull ls g)).testBit j=g.testBit j
 | [],g,j,_,h=>by cases h
 | x :: r,g,j,hn,h=>by
  rw[List.nodup_cons] at hn;have h0:∀ s,(sprd r s).testBit x=false:=fun s=>by
   cases z:(sprd r s).testBit x
   ·rfl
   ·exact absurd (sprd_bits hn.2 z) hn.1
  have h1:∀ s,sprd r s / 2^x % 2=0:=fun s=>by
   have:=h0 s
   rw[Nat.testBit_eq_decide_div_mod_eq] at this
   have:=of_decide_eq_false this
   omega
  rw[pull,sprd];have e2:((if g.testBit x=true then 1 else 0)+2 * pull r g) / 2=pull r g:=by split <;> omega
  have e3:((if g.testBit x=true then 1 else 0)+2 * pull r g) % 2=if g.testBit x=true then 1 else 0:=by split <;> omega
  rw[e2,e3];by_cases hx:g.testBit x=true
  ·rw[if_pos hx,Nat.one_mul,Nat.add_comm,add_pow_of_nobit (h1 _),Nat.testBit_or,Nat.testBit_two_pow];by_cases e:x=j
   ·subst e;simp[hx]
   ·have hj:j∈r:=by
     rcases List.mem_cons.mp h with z | z
     ·exact absurd z.symm e
     ·exact z
    rw[sprd_pull hn.2 hj];simp[e]
  ·rw[if_neg hx,Nat.zero_mul,Nat.zero_add];by_cases e:x=j
   ·subst e;rw[h0];simpa using hx
   ·have hj:j∈r:=by
     rcases List.mem_cons.mp h with z | z
     ·exact absurd z.symm e
     ·exact z
    exact sprd_pull hn.2 hj
theorem pull_lt:∀ {ls:List Nat}{g:Nat},pull ls g<2^ls.length
 | [],_=>by simp[pull]
 | x :: r,g=>by
  have:=pull_lt (ls:=r) (g:=g)
  rw[pull,List.length_cons,Nat.pow_succ];split <;> omega
noncomputable def pickN (ls:List Nat) (s:Nat) (i:Nat):List Nat:=((List.range i).filter fun k=>s.testBit k).map fun k=>2^ls.getD k 0
theorem pick_snoc (ls:List Nat) (s i:Nat):pickN ls s (i+1)=pickN ls s i++if s.testBit i then [2^ls.getD i 0] else []:=by
 unfold pickN;rw[List.range_succ,List.filter_append,List.map_append];congr 1;cases h:s.testBit i <;> simp[h]
theorem pick_sum:∀ (ls:List Nat) (s:Nat),(pickN ls s ls.length).sum=sprd ls s
 | [],s=>rfl
 | x :: r,s=>by
  have ih:=pick_sum r (s / 2);have e:pickN (x :: r) s (x :: r).length=(if s.testBit 0 then [2^x] else [])++pickN r (s / 2) r.length:=by
   unfold pickN;rw[List.length_cons,List.range_succ_eq_map,List.filter_cons];have e2:((List.map Nat.succ (List.range r.length)).filter fun k=>s.testBit k)=((List.range r.length).filter fun k=>(s / 2).testBit k).map Nat.succ:=by
    rw[List.filter_map];congr 1;refine List.filter_congr fun k _=>?_
    show s.testBit (k+1)=_;rw[Nat.testBit_succ]
   rw[e2];have e3:(((List.range r.length).filter fun k=>(s / 2).testBit k).map Nat.succ).map (fun k=>2^(x :: r).getD k 0)=((List.range r.length).filter fun k=>(s / 2).testBit k).map fun k=>2^r.getD k 0:=by
    rw[List.map_map];exact List.map_congr_left fun k _=>by simp
   by_cases h:s.testBit 0=true
   ·rw[if_pos h,if_pos h,List.map_cons,e3];simp
   ·rw[if_neg h,if_neg h,e3];simp
  rw[e,List.sum_append,ih,sprd];congr 1;rw[Nat.testBit_zero];rcases Nat.mod_two_eq_zero_or_one s with z | z <;> simp[z]
theorem Sm.at_congr {ls:List Nat} {β γ : Nat→Bool} (h:∀ k∈ls,β k = γ k):∀ {s:Sm},s.ok (fun k=>k∈ls)→s.at β = s.at γ
 | .bit k,hk=>by unfold Sm.at;rw[h k hk]
 | .fix _,_=>rfl
 | .no s,hk=>by unfold Sm.at;rw[Sm.at_congr h (s:=s) hk]
 | .two w s t,hk=>by unfold Sm.at;rw[Sm.at_congr h hk.2.1,Sm.at_congr h hk.2.2]
theorem worth_letters {ls:List Nat}{f:Terms} (hk:∀ t∈f,0≤t.1) (hi:KeyIn ls f) {g g':Nat} (h:∀ k∈ls,g.testBit k=g'.testBit k):worthL f (g:Int)=worthL f (g':Int):=by
 unfold worthL;congr 2;refine List.filter_congr fun t ht=>?_
 have h0:=hk t ht;have e:∀ x:Nat,decide (Builtin.bitAnd t.1 (x:Int)=t.1)=decide (t.1.toNat &&& x=t.1.toNat):=fun x=>by
  have e1:Builtin.bitAnd t.1 (x:Int)=((t.1.toNat &&& x:Nat):Int):=by rw[← bitAnd_nat,key_nat h0]
  rw[e1];have e2:(((t.1.toNat &&& x:Nat):Int)=t.1)↔(t.1.toNat &&& x=t.1.toNat):=by omega
  exact decide_eq_decide.mpr e2
 rw[e,e];refine decide_eq_decide.mpr ?_;rw[sub_iff,sub_iff];constructor
 ·intro H i hi';rw[← h i (hi t ht i hi')];exact H i hi'
 ·intro H i hi';rw[h i (hi t ht i hi')];exact H i hi'
end My
namespace My
open PySem L2 OF
theorem sum_two (h:Nat→Int):∀ N:Nat,((List.range (2 * N)).map h).sum=((List.range N).map fun s=>h (2 * s)+h (2 * s+1)).sum
 | 0=>rfl
 | N+1=>by
  rw[show 2 * (N+1)=2 * N+1+1 by omega,List.range_succ,List.range_succ,List.map_append,List.map_append,List.sum_append,List.sum_append,sum_two h N,List.range_succ,List.map_append,List.sum_append];simp only[List.map_cons,List.map_nil,List.sum_cons,List.sum_nil];omega
theorem key_nil {l:Terms} (h0:∀ t∈l,0≤t.1) (h:KeyIn [] l):∀ t∈l,t.1=0:=fun t ht=>by
 have:t.1.toNat=0:=Nat.eq_of_testBit_eq fun j=>by
  rw[Nat.zero_testBit];cases e:t.1.toNat.testBit j
  ·rfl
  ·exact absurd (h t ht j e) (by simp)
 have:=h0 t ht
 omega
theorem key_fix {x:Nat}{r:List Nat}{b:Int}{l:Terms} (h0:∀ t∈l,0≤t.1) (h:KeyIn (x :: r) l):KeyIn r (fixL x b l):=fun t ht j hj=>by
 have one:∀ u∈l,j≠x→u.1.toNat.testBit j=true→j∈r:=fun u hu hne hb=>by
  rcases List.mem_cons.mp (h u hu j hb) with z | z
  ·exact absurd z hne
  ·exact z
 unfold fixL at ht;rcases List.mem_append.mp ht with z | z
 ·obtain⟨hu,hn⟩:=List.mem_filter.mp z;refine one t hu (fun e=>?_) hj;rw[e] at hj;simp[hasB,hj] at hn
 ·split at z
  ·cases z
  ·obtain⟨u,hu,rfl⟩:=List.mem_map.mp z;obtain⟨hu1,hu2⟩:=List.mem_filter.mp hu;have hb:u.1.toNat.testBit x=true:=hu2;have pw:((2:Int)^x)=((2^x:Nat):Int):=by norm_cast
   have hge:=hasB_ge (h0 u hu1) hu2;have e:(u.1-2^x).toNat=setB u.1.toNat x false:=by
    unfold setB;rw[if_neg (by decide),if_pos hb,pw];rw[pw] at hge
    have:=h0 u hu1
    generalize 2^x=y at hge ⊢;omega
   have hj':(u.1-2^x).toNat.testBit j=true:=hj;rw[e,setB_bit] at hj';split at hj'
   ·cases hj'
   ·rename_i hne;exact one u hu1 hne hj'
theorem spread_sum {m:Nat}:∀ (ls:List Nat) {l:Terms},ls.Nodup→ls.length≤m→(∀ t∈l,0≤t.1∧t.1<2^m)→KeyIn ls l→wsum m l=((List.range (2^ls.length)).map fun s:Nat=>worthL l ((sprd ls s:Nat):Int)).sum * 2^(m-ls.length)
 | [],l,_,_,hk,hi=>by
  have hz:=key_nil (fun t ht=>(hk t ht).1) hi;show wsum m l=(worthL l 0+0) * 2^(m-0);rw[Nat.sub_zero,Int.add_zero,wsum_lin,worth_lin];clear hk hi;induction l with
  | nil=>simp[lin]
  | cons t r ih =>
   rw[lin,lin,ih fun u hu=>hz u (List.mem_cons_of_mem _ hu),hz t (List.mem_cons_self ..)];have e1:phi 0 0=1:=by decide
   have e2:(2:Int)^(m-pc (0:Int).toNat)=2^m:=by rw[show pc (0:Int).toNat=0 from pc_zero,Nat.sub_zero]
   rw[e1,e2,Int.add_mul,Int.one_mul,Int.mul_comm]
 | x :: r,l,hn,hm,hk,hi=>by
  rw[List.nodup_cons] at hn;rw[List.length_cons] at hm;have h0:=fun t ht=>(hk t ht).1
  have i0:=spread_sum r (l:=fixL x 0 l) hn.2 (by omega) (fixL_key hk) (key_fix h0 hi);have i1:=spread_sum r (l:=fixL x 1 l) hn.2 (by omega) (fixL_key hk) (key_fix h0 hi);have hw:=wsum_fix (m:=m) (k:=x) hk;have nob:∀ s,(sprd r s).testBit x=false:=fun s=>by
   cases z:(sprd r s).testBit x
   ·rfl
   ·exact absurd (sprd_bits hn.2 z) hn.1
  have e0:∀ s:Nat,worthL (fixL x 0 l) ((sprd r s:Nat):Int)=worthL l ((sprd (x :: r) (2 * s):Nat):Int):=fun s=>by
   rw[worth_fix (.inl rfl) h0];congr 2;show setB (sprd r s) x false=2 * s % 2 * 2^x+sprd r (2 * s / 2);unfold setB;rw[if_neg (by decide),if_neg (by rw[nob];decide),show 2 * s % 2=0 by omega,show 2 * s / 2=s by omega,Nat.zero_mul,Nat.zero_add]
  have e1:∀ s:Nat,worthL (fixL x 1 l) ((sprd r s:Nat):Int)=worthL l ((sprd (x :: r) (2 * s+1):Nat):Int):=fun s=>by
   rw[worth_fix (.inr rfl) h0];congr 2;show setB (sprd r s) x true=(2 * s+1) % 2 * 2^x+sprd r ((2 * s+1) / 2);unfold setB;rw[if_pos rfl,if_neg (by rw[nob];decide),show (2 * s+1) % 2=1 by omega,show (2 * s+1) / 2=s by omega,Nat.one_mul,Nat.add_comm]
  rw[List.length_cons,Nat.pow_succ,Nat.mul_comm,sum_two,sum_add];rw[i0,i1,← Int.add_mul] at hw;simp only[e0,e1] at hw;have ep:(2:Int)^(m-r.length)=2 * 2^(m-(r.length+1)):=by
   rw[show m-r.length=m-(r.length+1)+1 by omega,Int.pow_succ,Int.mul_comm]
  rw[ep,← Int.mul_assoc,Int.mul_comm _ 2,Int.mul_assoc] at hw;omega
noncomputable def Sm.trn:Sm→Sm
 | .bit k=>.no (.no (.bit k))
 | .fix b=>.no (.no (.fix b))
 | .no s=>.no s.trn
 | .two w s t=>.two w t.trn s.trn
theorem Sm.trn_ok {P:Nat→Prop}:∀ {s:Sm},s.ok P→s.trn.ok P
 | .bit _,h=>h
 | .fix _,h=>h
 | .no s,h=>Sm.trn_ok (s:=s) h
 | .two w s t,h=>⟨h.1,Sm.trn_ok h.2.2,Sm.trn_ok h.2.1⟩
theorem Sm.trn_dp:∀ s:Sm,s.trn.dp≤s.dp+2
 | .bit _=>Nat.le_refl _
 | .fix _=>Nat.le_refl _
 | .no s=>Nat.succ_le_succ (Sm.trn_dp s)
 | .two w s t=>by
  have h1:=Sm.trn_dp s;have h2:=Sm.trn_dp t;show max t.trn.dp s.trn.dp+1≤max s.dp t.dp+1+2;omega
end My
namespace OH
open PySem PySem.W PyProof.Rows
noncomputable def runT (tb:String→Option Builtin) (p:Program) (w:World) (n₀:Nat) (ann:Option Value):Nat→SharedT→Thread→Option SharedT
 | 0,_,_=>none
 | n+1,s,t=>match through t with
  | true=>some s
  | false=>match stepOk n₀ ann t with
   | false=>none
   | true=>match stepT (denote tb) p w s t with
    | some x=>runT tb p w n₀ ann n x.1 x.2
    | none=>none
theorem runT_abs {tb:String→Option Builtin}{p:Program}{w:World}{n₀:Nat}{ann:Option Value}{n:Nat}:∀ {s r:SharedT}{t:Thread},runT tb p w n₀ ann n s t=some r→topRun tb p w n₀ ann n s.abs t=some r.abs:=by
 induction n with
 | zero=>intro s r t h;cases h
 | succ n ih =>
  intro s r t h;unfold runT at h;unfold topRun;cases a:through t with
  | true=>rw[a] at h;cases h;rfl
  | false =>
   rw[a] at h;cases b:stepOk n₀ ann t with
   | false=>rw[b] at h;cases h
   | true =>
    rw[b] at h;cases c:stepT (denote tb) p w s t with
    | none=>rw[c] at h;cases h
    | some x=>rw[c] at h;rw[stepT_spec c];exact ih h
noncomputable def runF (p:Program) (w:World) (n₀:Nat) (ann:Option Value):Nat→SharedT→Thread→Option SharedT
 | 0,_,_=>none
 | n+1,s,t=>match through t with
  | true=>some s
  | false=>match PySem.W.Fast.tw6613529449190102663 n₀ ann t with
   | false=>none
   | true=>match PySem.W.Fast.tw10156331382660048174 (PySem.W.Fast.tw11892475500146522536 PySem.W.Fast.tw14364793385576792824) p w s t with
    | some x=>runF p w n₀ ann n x.1 x.2
    | none=>none
theorem runF_eq {p:Program}{w:World}{n₀:Nat}{ann:Option Value}{n:Nat}:∀ {s:SharedT}{t:Thread},runF p w n₀ ann n s t=runT treeTable p w n₀ ann n s t:=by
 induction n with
 | zero=>intro s t;rfl
 | succ n ih =>
  intro s t;unfold runF runT;rw[← PySem.W.Fast.te6613529449190102663,← PySem.W.Fast.te10156331382660048174,← PySem.W.Fast.te11892475500146522536,← PySem.W.Fast.te14364793385576792824];cases through t <;> cases stepOk n₀ ann t <;> try rfl
  cases stepT (denote treeTable) p w s t with
  | none=>rfl
  | some x=>exact ih
noncomputable def bootT (P:Params):BT :=
 .node (boot_o_0 P)
  (.node (boot_o_1 P) (.node (boot_o_3 P) (.node (boot_o_7 P) .nil .nil) .nil) (.node (boot_o_5 P) (.node (boot_o_9 P) .nil .nil) .nil))
  (.node (boot_o_2 P) (.node (boot_o_4 P) (.node (boot_o_8 P) .nil .nil) .nil) (.node (boot_o_6 P) (.node (boot_o_10 P) .nil .nil) .nil))
theorem boot_is (P:Params):boot_heap P=absHeap (bootT P) 11 (boot_heap P).life:=by kernel_rfl
theorem boot_size (w:World):((boot_heap w.params).isNs mainGlobals,(boot_heap w.params).objs.size,(boot_heap w.params).nsMap mainGlobals "__annotations__")=(true,11,some (.ref 6)):=by kernel_rfl
noncomputable abbrev bootS (P:Params) (os:OsState):SharedT:=⟨bootT P,11,(boot_heap P).life,#[],boot_drawn,boot_toks,os⟩
theorem left {p q:Program}{loose:List Str}{Xt:Shared→Bool} {α : Type}{Yf:Shared → α}{Ya:World → α}{N:Nat}
  (e:opening p=plainProg p.main.scope.names) (hN:Nat.ble 600 N=true) (f:∀ s,fenceModules? p s=some s)
  (run:∀ w:World,(fun os=>(runF p w 11 (some (.ref 6)) N (bootS w.params os) (topStub p)).map fun s =>
    (staticsOk (importedModules p.main.body) (boot_heap w.params) s.abs.heap && namesBound p s.abs.heap && gensDone s.abs && laidKept (boot_heap w.params) s.abs.heap,
     PySem.W.Fast.tw4187177175401517315 q loose (importedModules p.main.body) Xt true s.abs,Yf s.abs))=fun _=>some (true,openGood q loose,Ya w)):LeftO p q loose Xt Yf Ya N:=fun w=>by
 obtain⟨⟨h,gs,d,k,os⟩,x,x'⟩:=Option.map_eq_some_iff.mp (boot_open e hN f w);obtain⟨rfl,rfl,rfl,rfl⟩:h=boot_heap w.params∧gs=Array.mk []∧d=boot_drawn∧k=boot_toks:=by simpa using x'
 obtain⟨z1,z2,z3⟩:_∧_∧_:=by simpa only [Prod.mk.injEq] using boot_size w
 obtain⟨s,r,l⟩:=Option.map_eq_some_iff.mp (congrFun (run w) os);rw[← PySem.W.Fast.te4187177175401517315] at l;obtain⟨l1,l2,l3⟩:_∧_∧_:=by simpa only [Prod.mk.injEq] using l
 have t:=runT_abs (runF_eq.symm.trans r);have b:(bootS w.params os).abs=⟨boot_heap w.params,Array.mk [],boot_drawn,boot_toks,os⟩:=by
  show (⟨absHeap (bootT w.params) 11 (boot_heap w.params).life,_,_,_,_⟩:Shared)=_;rw[← boot_is]
 rw[b] at t;have y:topFrom treeTable p w N ⟨boot_heap w.params,Array.mk [],boot_drawn,boot_toks,os⟩=some s.abs:=by
  unfold topFrom;dsimp only;rw[z1,z2,z3,t];show (match staticsOk (importedModules p.main.body) (boot_heap w.params) s.abs.heap && namesBound p s.abs.heap && gensDone s.abs && laidKept (boot_heap w.params) s.abs.heap with | true=>_ | false=>_)=_;rw[l1]
 unfold openEnds;rw[x];show (topFrom treeTable p w N _).map _=_;rw[y];exact congrArg some (Prod.ext l2 l3)
end OH
set_option maxHeartbeats 4000000
namespace My
open PySem L2 OF
noncomputable def hdS:List Stmt→Stmt
 | x :: _=>x
 | []=>.Pass ⟨0,0,0,0⟩
noncomputable def tlS:List Stmt→List Stmt
 | _ :: r=>r
 | []=>[]
noncomputable def bd0 : List Stmt := PySem.Challenge.pw_onceform_k31_whole_statements.main.body
noncomputable def bd1:List Stmt:=tlS bd0
noncomputable def bd2:List Stmt:=tlS bd1
noncomputable def bd3:List Stmt:=tlS bd2
noncomputable def bd4:List Stmt:=tlS bd3
noncomputable def bd5:List Stmt:=tlS bd4
noncomputable def bd6:List Stmt:=tlS bd5
noncomputable def bd7:List Stmt:=tlS bd6
noncomputable def bd8:List Stmt:=tlS bd7
noncomputable def bd9:List Stmt:=tlS bd8
noncomputable def bd10:List Stmt:=tlS bd9
noncomputable def bd11:List Stmt:=tlS bd10
noncomputable def bd12:List Stmt:=tlS bd11
noncomputable def bd13:List Stmt:=tlS bd12
noncomputable def bd14:List Stmt:=tlS bd13
noncomputable def bd15:List Stmt:=tlS bd14
noncomputable def bd16:List Stmt:=tlS bd15
noncomputable def bd17:List Stmt:=tlS bd16
noncomputable def bd18:List Stmt:=tlS bd17
noncomputable def bd19:List Stmt:=tlS bd18
noncomputable def bd20:List Stmt:=tlS bd19
noncomputable def bd21:List Stmt:=tlS bd20
noncomputable def bd22:List Stmt:=tlS bd21
noncomputable def bd23:List Stmt:=tlS bd22
noncomputable def bd24:List Stmt:=tlS bd23
noncomputable def bd25:List Stmt:=tlS bd24
noncomputable def bd26:List Stmt:=tlS bd25
noncomputable def bd27:List Stmt:=tlS bd26
noncomputable def bd28:List Stmt:=tlS bd27
noncomputable def bd29:List Stmt:=tlS bd28
noncomputable def bd30:List Stmt:=tlS bd29
noncomputable def bd31:List Stmt:=tlS bd30
noncomputable def bd32:List Stmt:=tlS bd31
noncomputable def bd33:List Stmt:=tlS bd32
noncomputable def bd34:List Stmt:=tlS bd33
noncomputable def bd35:List Stmt:=tlS bd34
noncomputable def bd36:List Stmt:=tlS bd35
noncomputable def bd37:List Stmt:=tlS bd36
noncomputable def bd38:List Stmt:=tlS bd37
noncomputable def bd39:List Stmt:=tlS bd38
noncomputable def bd40:List Stmt:=tlS bd39
noncomputable def bd41:List Stmt:=tlS bd40
noncomputable def bd42:List Stmt:=tlS bd41
noncomputable def bd43:List Stmt:=tlS bd42
noncomputable def bd44:List Stmt:=tlS bd43
noncomputable def bd45:List Stmt:=tlS bd44
noncomputable def bd46:List Stmt:=tlS bd45
noncomputable def bd47:List Stmt:=tlS bd46
noncomputable def bd48:List Stmt:=tlS bd47
noncomputable def bd49:List Stmt:=tlS bd48
noncomputable def bd50:List Stmt:=tlS bd49
noncomputable def bd51:List Stmt:=tlS bd50
noncomputable def bd52:List Stmt:=tlS bd51
noncomputable def bd53:List Stmt:=tlS bd52
noncomputable def bd54:List Stmt:=tlS bd53
noncomputable def bd55:List Stmt:=tlS bd54
noncomputable def bd56:List Stmt:=tlS bd55
noncomputable def bd57:List Stmt:=tlS bd56
noncomputable def bd58:List Stmt:=tlS bd57
noncomputable def bd59:List Stmt:=tlS bd58
noncomputable def bd60:List Stmt:=tlS bd59
noncomputable def bd61:List Stmt:=tlS bd60
noncomputable def bd62:List Stmt:=tlS bd61
noncomputable def bd63:List Stmt:=tlS bd62
noncomputable abbrev s_Z3:Stmt:=hdS bd1
noncomputable abbrev s_Z1:Stmt:=hdS bd2
noncomputable abbrev s_Z26:Stmt:=hdS bd3
noncomputable abbrev s_Z6:Stmt:=hdS bd8
noncomputable abbrev s_Z27:Stmt:=hdS bd9
noncomputable abbrev s_Z32:Stmt:=hdS bd10
noncomputable abbrev s_Z25:Stmt:=hdS bd11
noncomputable abbrev s_Z38:Stmt:=hdS bd12
noncomputable abbrev s_Z34:Stmt:=hdS bd13
noncomputable abbrev s_Z48:Stmt:=hdS bd14
noncomputable abbrev s_Z42:Stmt:=hdS bd15
noncomputable abbrev s_Z12:Stmt:=hdS bd17
noncomputable abbrev s_Z37:Stmt:=hdS bd18
noncomputable abbrev s_Z28:Stmt:=hdS bd19
noncomputable abbrev s_Z7:Stmt:=hdS bd20
noncomputable abbrev s_Z44:Stmt:=hdS bd21
noncomputable abbrev s_Z13:Stmt:=hdS bd22
noncomputable abbrev s_Z0:Stmt:=hdS bd24
noncomputable abbrev s_Z10:Stmt:=hdS bd25
noncomputable abbrev s_Z14:Stmt:=hdS bd26
noncomputable abbrev s_Z8:Stmt:=hdS bd31
noncomputable abbrev s_Z31:Stmt:=hdS bd32
noncomputable abbrev s_Z35:Stmt:=hdS bd33
noncomputable abbrev s_Z36:Stmt:=hdS bd34
noncomputable abbrev s_Z33:Stmt:=hdS bd35
noncomputable abbrev s_Z40:Stmt:=hdS bd36
noncomputable abbrev s_Z39:Stmt:=hdS bd37
noncomputable abbrev s_Z30:Stmt:=hdS bd38
noncomputable abbrev s_Z29:Stmt:=hdS bd39
noncomputable abbrev s_Z46:Stmt:=hdS bd40
noncomputable abbrev s_Z45:Stmt:=hdS bd41
noncomputable abbrev s_Z47:Stmt:=hdS bd43
noncomputable abbrev s_Z11:Stmt:=hdS bd44
noncomputable abbrev s_Z4:Stmt:=hdS bd45
noncomputable abbrev s_Z43:Stmt:=hdS bd47
noncomputable abbrev s_Z41:Stmt:=hdS bd48
noncomputable abbrev s_Z9:Stmt:=hdS bd49
noncomputable abbrev s_Z5:Stmt:=hdS bd50
noncomputable abbrev s_Z2:Stmt:=hdS bd51
noncomputable abbrev s_Z15:Stmt:=hdS bd53
noncomputable abbrev s_Z20:Stmt:=hdS bd54
noncomputable abbrev s_Z22:Stmt:=hdS bd55
noncomputable abbrev s_Z18:Stmt:=hdS bd57
noncomputable abbrev s_Z21:Stmt:=hdS bd58
noncomputable abbrev s_Z17:Stmt:=hdS bd59
noncomputable abbrev s_Z16:Stmt:=hdS bd60
noncomputable abbrev s_Z24:Stmt:=hdS bd61
noncomputable abbrev s_Z23:Stmt:=hdS bd62
noncomputable abbrev s_law:Stmt:=hdS bd63
set_option genInjectivity false
structure Def (K:PySem.W.Frag) (mg:Str→Option Value) (x:Str) (st:Stmt) (ps:List Str) (f:Addr) (fd:FuncData):Prop where
 F:Fun K x x st f fd
 m:mg x=some (.ref f)
 b:Binds K fd ps []
structure Txt (K:PySem.W.Frag) (mg:Str→Option Value) where
 a_Z16:Addr
 fd_Z16:FuncData
 d_Z16:Def K mg "_law_few_letters" s_Z16 ["_law_number", "_law_most", "_law_top"] a_Z16 fd_Z16
 a_Z15:Addr
 fd_Z15:FuncData
 d_Z15:Def K mg "_law_at" s_Z15 ["_law_script", "_law_k"] a_Z15 fd_Z15
 a_Z20:Addr
 fd_Z20:FuncData
 d_Z20:Def K mg "_law_mixed" s_Z20 ["_law_cell", "_law_k"] a_Z20 fd_Z20
 a_Z17:Addr
 fd_Z17:FuncData
 d_Z17:Def K mg "_law_folded" s_Z17 ["_law_script", "_law_start", "_law_many"] a_Z17 fd_Z17
 a_Z22:Addr
 fd_Z22:FuncData
 d_Z22:Def K mg "_law_statement" s_Z22 ["_law_numbers", "_law_letters_here"] a_Z22 fd_Z22
 a_Z18:Addr
 fd_Z18:FuncData
 d_Z18:Def K mg "_law_holds_at" s_Z18 ["_law_statement_here", "_law_given"] a_Z18 fd_Z18
 a_Z21:Addr
 fd_Z21:FuncData
 d_Z21:Def K mg "_law_spread" s_Z21 ["_law_s", "_law_letters_here"] a_Z21 fd_Z21
 a_Z23:Addr
 fd_Z23:FuncData
 d_Z23:Def K mg "_law_told" s_Z23 ["_law_statement_here", "_law_letters_here"] a_Z23 fd_Z23
 a_Z24:Addr
 fd_Z24:FuncData
 d_Z24:Def K mg "_law_turned" s_Z24 ["_law_statement_here"] a_Z24 fd_Z24
 a_Z31:Addr
 fd_Z31:FuncData
 d_Z31:Def K mg "parts_of" s_Z31 ["statement"] a_Z31 fd_Z31
 a_Z6:Addr
 fd_Z6:FuncData
 d_Z6:Def K mg "form_from" s_Z6 ["numbers"] a_Z6 fd_Z6
 a_Z27:Addr
 fd_Z27:FuncData
 d_Z27:Def K mg "made" s_Z27 ["some"] a_Z27 fd_Z27
 a_Z3:Addr
 fd_Z3:FuncData
 d_Z3:Def K mg "doubled" s_Z3 ["many"] a_Z3 fd_Z3
 a_Z12:Addr
 fd_Z12:FuncData
 d_Z12:Def K mg "gathered" s_Z12 ["numbers", "sign"] a_Z12 fd_Z12
 a_Z37:Addr
 fd_Z37:FuncData
 d_Z37:Def K mg "table_of" s_Z37 ["form", "many"] a_Z37 fd_Z37
 a_Z42:Addr
 fd_Z42:FuncData
 d_Z42:Def K mg "unknowns" s_Z42 ["form"] a_Z42 fd_Z42
 a_Z28:Addr
 fd_Z28:FuncData
 d_Z28:Def K mg "paired_tables" s_Z28 ["one", "other"] a_Z28 fd_Z28
 a_Z7:Addr
 fd_Z7:FuncData
 d_Z7:Def K mg "form_of" s_Z7 ["table"] a_Z7 fd_Z7
 a_Z32:Addr
 fd_Z32:FuncData
 d_Z32:Def K mg "plus" s_Z32 ["one", "other"] a_Z32 fd_Z32
 a_Z34:Addr
 fd_Z34:FuncData
 d_Z34:Def K mg "scaled" s_Z34 ["form", "number"] a_Z34 fd_Z34
 a_Z25:Addr
 fd_Z25:FuncData
 d_Z25:Def K mg "less" s_Z25 ["one", "other"] a_Z25 fd_Z25
 a_Z38:Addr
 fd_Z38:FuncData
 d_Z38:Def K mg "times" s_Z38 ["one", "other"] a_Z38 fd_Z38
 a_Z14:Addr
 fd_Z14:FuncData
 d_Z14:Def K mg "joined" s_Z14 ["word", "one", "other"] a_Z14 fd_Z14
 a_Z0:Addr
 fd_Z0:FuncData
 d_Z0:Def K mg "bit_of_word" s_Z0 ["word", "bits"] a_Z0 fd_Z0
 a_Z10:Addr
 fd_Z10:FuncData
 d_Z10:Def K mg "form_of_word" s_Z10 ["word", "parts"] a_Z10 fd_Z10
 a_Z8:Addr
 fd_Z8:FuncData
 d_Z8:Def K mg "form_of_statement" s_Z8 ["statement"] a_Z8 fd_Z8
 a_Z1:Addr
 fd_Z1:FuncData
 d_Z1:Def K mg "bits_of" s_Z1 ["given", "many"] a_Z1 fd_Z1
 a_Z26:Addr
 fd_Z26:FuncData
 d_Z26:Def K mg "listed" s_Z26 ["members"] a_Z26 fd_Z26
 a_Z48:Addr
 fd_Z48:FuncData
 d_Z48:Def K mg "worth" s_Z48 ["form", "given"] a_Z48 fd_Z48
 a_Z47:Addr
 fd_Z47:FuncData
 d_Z47:Def K mg "without" s_Z47 ["form", "bit"] a_Z47 fd_Z47
 a_Z11:Addr
 fd_Z11:FuncData
 d_Z11:Def K mg "freed" s_Z11 ["form", "bit"] a_Z11 fd_Z11
 a_Z4:Addr
 fd_Z4:FuncData
 d_Z4:Def K mg "fixed" s_Z4 ["form", "k", "bit"] a_Z4 fd_Z4
 a_Z41:Addr
 fd_Z41:FuncData
 d_Z41:Def K mg "tree_of" s_Z41 ["form"] a_Z41 fd_Z41
 a_Z2:Addr
 fd_Z2:FuncData
 d_Z2:Def K mg "chosen" s_Z2 ["bit", "ones", "others"] a_Z2 fd_Z2
 a_Z5:Addr
 fd_Z5:FuncData
 d_Z5:Def K mg "form_below" s_Z5 ["tree", "ones", "noughts"] a_Z5 fd_Z5
 a_Z9:Addr
 fd_Z9:FuncData
 d_Z9:Def K mg "form_of_tree" s_Z9 ["tree"] a_Z9 fd_Z9
 a_Z13:Addr
 fd_Z13:FuncData
 d_Z13:Def K mg "holders" s_Z13 ["members", "size"] a_Z13 fd_Z13
 a_Z44:Addr
 fd_Z44:FuncData
 d_Z44:Def K mg "whole_sum" s_Z44 ["form", "many"] a_Z44 fd_Z44
 a_Z43:Addr
 fd_Z43:FuncData
 d_Z43:Def K mg "ways" s_Z43 ["form", "many"] a_Z43 fd_Z43
 a_Z39:Addr
 fd_Z39:FuncData
 d_Z39:Def K mg "token_at" s_Z39 ["text", "place"] a_Z39 fd_Z39
 a_Z40:Addr
 fd_Z40:FuncData
 d_Z40:Def K mg "tokens_of" s_Z40 ["text"] a_Z40 fd_Z40
 a_Z45:Addr
 fd_Z45:FuncData
 d_Z45:Def K mg "with_joining" s_Z45 ["part", "begun"] a_Z45 fd_Z45
 a_Z46:Addr
 fd_Z46:FuncData
 d_Z46:Def K mg "with_nots" s_Z46 ["part", "begun"] a_Z46 fd_Z46
 a_Z30:Addr
 fd_Z30:FuncData
 d_Z30:Def K mg "part_from" s_Z30 ["token", "begun"] a_Z30 fd_Z30
 a_Z29:Addr
 fd_Z29:FuncData
 d_Z29:Def K mg "part_after" s_Z29 ["token", "part", "begun"] a_Z29 fd_Z29
 a_Z33:Addr
 fd_Z33:FuncData
 d_Z33:Def K mg "read" s_Z33 ["text"] a_Z33 fd_Z33
 a_Z35:Addr
 fd_Z35:FuncData
 d_Z35:Def K mg "shown" s_Z35 ["statement"] a_Z35 fd_Z35
 a_Z36:Addr
 fd_Z36:FuncData
 d_Z36:Def K mg "shown_part" s_Z36 ["part"] a_Z36 fd_Z36
 n_dict:mg "dict" = none
 n_enumerate:mg "enumerate" = none
 n_int:mg "int" = none
 n_isinstance:mg "isinstance" = none
 n_len:mg "len" = none
 n_range:mg "range" = none
 n_reversed:mg "reversed" = none
 n_sorted:mg "sorted" = none
 n_str:mg "str" = none
 n_sum:mg "sum" = none
 n_tuple:mg "tuple" = none
 n_zip:mg "zip" = none
 a_JOINING:Addr
 g_JOINING:mg "JOINING" = some (.ref a_JOINING)
 q_JOINING:∀ H:Hp,SqT K H a_JOINING [.str "and",.str "or",.str "xor"]
 a_SPACED:Addr
 g_SPACED:mg "SPACED" = some (.ref a_SPACED)
 q_SPACED:∀ H:Hp,SqT K H a_SPACED [.str "not ",.str " and ",.str " or ",.str " xor "]
 t_LETTERS:Tok
 g_LETTERS:mg "LETTERS" = some (.str "abcdefghijklmnop" t_LETTERS)
set_option genInjectivity true
theorem ps_dead {X:Cx}{st:Stmt}:PS X st (fun _ _ _=>False):=fun _ _ _ _ _ _ h=>h.elim
seal L2.PS L2.PSs L2.PE L2.PT L2.PA L2.PI L2.PG L2.PW L2.PO L2.PTs
section
variable {P:Program}{w:World}{K:PySem.W.Frag}{mg:Str→Option Value}{base:Heap}
noncomputable def spFew (K:PySem.W.Frag):Sp:=fun vs H Q _=>∃ (n:Int) (mo tp:Nat),vs=[.int n,.int (mo:Int),.int (tp:Int)]∧mo≤tp∧tp≤60 ∧
 ∀ (b:Addr) (ls:List Nat) (H':Hp),H b=none→H' b=some (.lst (natL ls))→ls.Nodup→(∀ x∈ls,x<tp)→ls.length=mo→ls.Pairwise (· ≤ ·)→Same H H'→Q (.ref b) H'
theorem sc_Z16:FnScope ["_law_number", "_law_most", "_law_top", "_law_found", "_law_k", "_law_at_here"] ["_law_number", "_law_most", "_law_top"] (defScope s_Z16):=⟨rfl,rfl,rfl,by decide +kernel,rfl,by decide +kernel,by decide +kernel⟩
theorem ok_Z16 (T:Txt K mg):FnOk P w K mg base CX0 1 T.a_Z16 T.fd_Z16 ["_law_number", "_law_most", "_law_top"] (spFew K):=by
 refine T.d_Z16.F.ok sc_Z16 (fun vs H Q E h=>?_) (fun cdv A outer s H vs Q E hr h=>?_)
 ·obtain⟨n,mo,tp,rfl,hmo,htp,q⟩:=h;rfl
 ·obtain⟨n,mo,tp,rfl,hmo,htp,q⟩:=h;have hu:=hu_of hr;refine⟨_,(pss_cons (ps_set (i:=3) sc_Z16.nd rfl (Or.inl rfl) (pe_lst pa_nil))
   (pss_cons (ps_for PassesOwn.never rfl (pi_range1 rfl T.n_range (pa_cons (pv 1) pa_nil)) (pg_name (i:=4) sc_Z16.nd rfl (Or.inl rfl))
    (pss_cons (ps_set (i:=5) sc_Z16.nd rfl (Or.inl rfl) (pe_op op_mod (pe_op op_fdivG (pv 0) (pe_op op_add (pv 4) pe_int)) (pv 2)))
   (pss_cons (ps_while PassesOwn.never (pt_cmpR op_in_seq (pv 5) (pv 3) rfl) (pss_one (ps_set (i:=5) sc_Z16.nd rfl (Or.inl rfl) (pe_op op_mod (pe_op op_add (pv 5) pe_int) (pv 2)))))
   (pss_one (ps_expr (pe_bm PySem.F.plainAttrs_list PySem.F.slot_list_append PySem.F.type_list_append mt_append (pv 3) (pa_cons (pv 5) pa_nil)))))))
   (pss_one (ps_ret (pe_callB (call_sortedL rfl) (by rfl) T.n_sorted PyProof.Rows.boot_sorted (pa_cons (pv 3) pa_nil)))))),?_⟩
  refine⟨Nat.zero_le _,fun c hc=>?_⟩;have s0:Same H (upd H c (.lst [])):=Same.upd hc;refine⟨_,rfl,(mo:Int),rfl,by omega,by omega,?_⟩;refine for_range (n:=mo) (fun i σ H2=>∃ (ls:List Nat) (v4 v5:Option V),σ = [some (.int n),some (.int (mo:Int)),some (.int (tp:Int)),some (.ref c),v4,v5]∧H2 c=some (.lst (natL ls))∧ls.length=i∧ls.Nodup∧(∀ x∈ls,x<tp)∧Same H H2)
   ⟨[],none,none,rfl,upd_same,rfl,List.nodup_nil,(fun x hx=>by cases hx),s0⟩ ?_ ?_
  ·rintro i σ H2 hi ⟨ls,v4,v5,rfl,h1,h2,h3,h4,h5⟩;refine⟨_,rfl,_,rfl,_,_,rfl,rfl,_,_,rfl,rfl,divG_of (by omega) (by omega),_,rfl,_,_,rfl,rfl,(by show (0:Int)<(tp:Int);omega),?_⟩;have g1:=Int.emod_nonneg (n / (0+(i:Int)+1)) (show ((tp:Int))≠0 by omega);have g2:=Int.emod_lt_of_pos (n / (0+(i:Int)+1)) (show (0:Int)<(tp:Int) by omega);obtain⟨x0,hx0⟩:∃ x0:Nat,n / (0+(i:Int)+1) % (tp:Int)=(x0:Int):=⟨_,(Int.toNat_of_nonneg g1).symm⟩;rw[hx0] at g2;dsimp only;rw[hx0];obtain⟨m0,hm0⟩:=free_step (ls:=ls) (tp:=tp) (x:=x0) (by omega);refine⟨fun m σ H3=>∃ x:Nat,σ = [some (.int n),some (.int (mo:Int)),some (.int (tp:Int)),some (.ref c),some (.int (0+(i:Int))),some (.int (x:Int))]∧x<tp∧(x+m) % tp ∉ ls∧H3=H2,⟨m0,x0,rfl,by omega,hm0,rfl⟩,?_⟩;rintro m σ H3 ⟨x,rfl,hx,hm,rfl⟩;refine⟨_,rfl,_,rfl,c,_,rfl,.inl (SqL.of h1),rfl,flat_ints ls,_,rfl,?_⟩;show if (inV (.int (x:Int)) (natL ls))=true then _ else _
   unfold natL;rw[inV_mem];by_cases hin:x∈ls
   ·refine iteY (by simpa using hin) ?_;have hmp:m≠0:=by
     intro z;rw[z,Nat.add_zero,Nat.mod_eq_of_lt hx] at hm;exact hm hin
    refine⟨fun σ' H' => σ'=[some (.int n),some (.int (mo:Int)),some (.int (tp:Int)),some (.ref c),some (.int (0+(i:Int))),some (.int (((x+1) % tp:Nat):Int))]∧H'=H3,fun σ' H' ⟨e1,e2⟩=>⟨m-1,by omega,(x+1) % tp,e1,Nat.mod_lt _ (by omega),?_,e2⟩,?_⟩
    ·have e:((x+1) % tp+(m-1)) % tp=(x+m) % tp:=by
      rw[Nat.mod_add_mod,show x+1+(m-1)=x+m by omega]
     rw[e];exact hm
    ·refine⟨_,rfl,_,_,rfl,rfl,_,rfl,_,_,rfl,rfl,(by show (0:Int)<(tp:Int);omega),?_,rfl⟩;have e:((((x+1) % tp:Nat)):Int)=((x:Int)+1) % (tp:Int):=by norm_cast
     rw[e];rfl
   ·refine iteN (by simpa using hin) ?_;refine⟨_,rfl,.inl ⟨rfl,_,SqL.of h1⟩,_,rfl,c,_,_,rfl,rfl,h1,(by unfold natL;rw[List.length_map];exact small6 (by omega)),ls ++ [x],_,_,rfl,(by rw[upd_same];unfold natL;rw[List.map_append];rfl),by simp[h2],?_,?_,h5.write hc⟩
    ·rw[List.nodup_append];refine⟨h3,by simp,fun a' ha' b' hb' z=>?_⟩
     have:b'=x:=by simpa using hb'
     subst z this;exact hin ha'
    ·intro y hy;rcases List.mem_append.mp hy with z | z
     ·exact h4 y z
     ·have:y=x:=by simpa using z
      rw[this];exact hx
  ·rintro σ H2 ⟨ls,v4,v5,rfl,h1,h2,h3,h4,h5⟩;have e1:natL ls=(ls.map fun y:Nat=>(y:Int)).map V.int:=by unfold natL;rw[List.map_map];rfl
   rw[e1] at h1;refine⟨_,rfl,c,_,rfl,SqL.of h1,(by rw[List.length_map];omega),fun l ns' hl hperm hsort=>?_⟩;have hmem:∀ z∈ns',∃ y:Nat,y∈ls∧(y:Int)=z:=fun z hz=>by
    have:=hperm.mem_iff.mp hz
    obtain⟨y,hy,e⟩:=List.mem_map.mp this;exact⟨y,hy,e⟩
   have e2:ns'=(ns'.map Int.toNat).map fun y:Nat=>(y:Int):=by
    rw[List.map_map]
    conv=>lhs;rw[← List.map_id ns']
    refine List.map_congr_left fun z hz=>?_
    obtain⟨y,_,e⟩:=hmem z hz;show z=((z.toNat:Nat):Int);omega
   have hp2:(ns'.map Int.toNat).Perm ls:=by
    have:=hperm.map Int.toNat
    rw[List.map_map] at this;have e3:ls.map (Int.toNat ∘ fun y:Nat=>(y:Int))=ls:=by
     conv=>rhs;rw[← List.map_id ls]
     exact List.map_congr_left fun z _=>by simp
    rw[e3] at this;exact this
   refine q l (ns'.map Int.toNat) _ (h5.free hl) ?_ (hp2.nodup_iff.mpr h3) (fun x hx=>h4 x (hp2.mem_iff.mp hx)) (by rw[hp2.length_eq,h2]) ?_ (h5.trans (Same.upd hl))
   ·rw[upd_same];unfold natL
    conv=>lhs;rw[e2]
    rw[List.map_map];rfl
   ·rw[List.pairwise_map];exact hsort.imp fun h=>by omega
theorem sc_Z15:FnScope ["_law_script", "_law_k"] ["_law_script", "_law_k"] (defScope s_Z15):=⟨rfl,rfl,rfl,by decide +kernel,rfl,by decide +kernel,by decide +kernel⟩
theorem ok_Z15 (T:Txt K mg):FnOk P w K mg base CX0 1 T.a_Z15 T.fd_Z15 ["_law_script", "_law_k"] (spAt K):=by
 refine T.d_Z15.F.ok sc_Z15 (fun vs H Q E h=>?_) (fun cdv A outer s H vs Q E hr h=>?_)
 ·obtain⟨a,ns,k,rfl,hS,q⟩:=h;rfl
 ·obtain⟨a,ns,k,rfl,hS,q⟩:=h;have hu:=hu_of hr;refine⟨_,(pss_cons (ps_if (pt_cmpR op_lt (pv 1) (pe_callB call_len_seq (by rfl) T.n_len PySem.boot_len (pa_cons (pv 0) pa_nil)) (nomark _)) (pss_one (ps_ret (pe_ix ix_list (pv 0) (pv 1) (fun _ _=>rfl)))) pss_nil)
   (pss_one (ps_ret pe_int))),?_⟩
  refine⟨_,rfl,_,rfl,a,_,rfl,.inl hS,_,_,rfl,rfl,_,rfl,?_⟩;refine ite2 (fun h1=>?_) (fun h1=>?_)
  ·have h1':k<ns.length:=by have:=of_decide_eq_true h1;rw[List.length_map] at this;omega
   refine⟨_,rfl,_,rfl,a,_,_,_,rfl,rfl,hS,atI_nat (j:=k) (v:=V.int (ns.getD k 0)) ?_,q⟩;rw[List.getElem?_map,List.getElem?_eq_getElem h1',List.getD_eq_getElem?_getD,List.getElem?_eq_getElem h1'];rfl
  ·have h1':ns.length≤k:=by
    by_cases z:ns.length≤k
    ·exact z
    ·exact absurd (decide_eq_true (by rw[List.length_map];omega)) h1
   rw[List.getD_eq_getElem?_getD,List.getElem?_eq_none h1'] at q;exact q
theorem sc_Z20:FnScope ["_law_cell", "_law_k", "_law_number"] ["_law_cell", "_law_k"] (defScope s_Z20):=⟨rfl,rfl,rfl,by decide +kernel,rfl,by decide +kernel,by decide +kernel⟩
theorem ok_Z20 (T:Txt K mg):FnOk P w K mg base CX0 1 T.a_Z20 T.fd_Z20 ["_law_cell", "_law_k"] spMix:=by
 refine T.d_Z20.F.ok sc_Z20 (fun vs H Q E h=>?_) (fun cdv A outer s H vs Q E hr h=>?_)
 ·obtain⟨c,k,rfl,k1,k2,q⟩:=h;rfl
 ·obtain⟨c,k,rfl,k1,k2,q⟩:=h;have hu:=hu_of hr;refine⟨_,(pss_cons (ps_set (i:=2) sc_Z20.nd rfl (Or.inl rfl) (pe_op op_mod (pe_op op_add (pe_op op_add (pe_op op_mulO (pv 0) pe_int) (pe_op op_mulO (pe_op op_mulO pe_int (pv 1)) (pv 1))) (pv 1)) pe_int))
   (pss_cons (ps_set (i:=2) sc_Z20.nd rfl (Or.inl rfl) (pe_op op_mod (pe_op op_mulO (pv 2) (pv 2)) pe_int))
   (pss_one (ps_ret (pe_op op_mod (pe_op op_mulO (pv 2) pe_int) pe_int))))),?_⟩
  refine⟨_,rfl,_,_,rfl,rfl,mulR (by decide) (by decide),_,rfl,_,_,rfl,rfl,mulL (by decide) (by decide),_,rfl,_,_,rfl,rfl,mulR k1 k2,_,_,rfl,rfl,_,rfl,_,_,rfl,rfl,_,_,rfl,rfl,(by show (0:Int)<2147483647;decide),?_⟩;generalize hz:(c * 1103515245+7919 * k * k+k) % 2147483647=z;have z1:0≤z:=by rw[← hz];exact Int.emod_nonneg _ (by decide)
  have z2:z<2147483647:=by rw[← hz];exact Int.emod_lt_of_pos _ (by decide)
  refine⟨_,rfl,_,rfl,_,_,rfl,rfl,mulL (by omega) (by omega),_,_,rfl,rfl,(by show (0:Int)<2147483629;decide),?_⟩;refine⟨_,rfl,_,_,rfl,rfl,mulR (by decide) (by decide),_,_,rfl,rfl,(by show (0:Int)<2147483587;decide),?_⟩;exact q _ (Int.emod_nonneg _ (by decide)) (Int.emod_lt_of_pos _ (by decide))
noncomputable def spFolded (K:PySem.W.Frag):Sp:=fun vs H Q _=>∃ (a:Addr) (ns:List Int) (st mn:Nat),vs=[.ref a,.int (st:Int),.int (mn:Int)]∧SqL K H a (ns.map V.int)∧0<mn∧mn≤30∧st≤10 ∧
 ∀ (b:Addr) (ms:List Int) (H':Hp),H b=none→H' b=some (.lst (ms.map V.int))→ms.length=mn→Same H H'→Q (.ref b) H'
theorem sc_Z17:FnScope ["_law_script", "_law_start", "_law_many", "_law_free", "_law_found", "_law_k", "_law_total", "_law_cell"] ["_law_script", "_law_start", "_law_many"] (defScope s_Z17):=⟨rfl,rfl,rfl,by decide +kernel,rfl,by decide +kernel,by decide +kernel⟩
theorem ok_Z17 (T:Txt K mg):FnOk P w K mg base CX0 2 T.a_Z17 T.fd_Z17 ["_law_script", "_law_start", "_law_many"] (spFolded K):=by
 refine T.d_Z17.F.ok sc_Z17 (fun vs H Q E h=>?_) (fun cdv A outer s H vs Q E hr h=>?_)
 ·obtain⟨a,ns,st,mn,rfl,hS,h0,hmn,hst,q⟩:=h;rfl
 ·obtain⟨a,ns,st,mn,rfl,hS,h0,hmn,hst,q⟩:=h;have hu:=hu_of hr;refine⟨_,(pss_cons (ps_set (i:=3) sc_Z17.nd rfl (Or.inl rfl) (pe_cmpR op_eq (pe_op op_mod (pe_op op_fdivG (pe_call (ok_Z15 (P:=P) (w:=w) (base:=base) T) hr (by rfl) T.d_Z15.m T.d_Z15.F.kp T.d_Z15.b .nil pass0 (pa_cons (pv 0) (pa_cons pe_int pa_nil))) pe_int) pe_int) pe_int (nomark _)))
   (pss_cons (ps_set (i:=4) sc_Z17.nd rfl (Or.inl rfl) (pe_lst pa_nil))
   (pss_cons (ps_for PassesOwn.never rfl (pi_range1 rfl T.n_range (pa_cons (pv 2) pa_nil)) (pg_name (i:=5) sc_Z17.nd rfl (Or.inl rfl))
    (pss_cons (ps_set (i:=6) sc_Z17.nd rfl (Or.inl rfl) pe_int)
   (pss_cons (ps_for PassesOwn.never rfl (pi_list (pe_sl3 (pv 0) (po_some (pe_op op_add (pv 1) (pv 5))) (po_some pe_int) (po_some (pv 2)))) (pg_name (i:=7) sc_Z17.nd rfl (Or.inl rfl))
    (pss_one (ps_set (i:=6) sc_Z17.nd rfl (Or.inl rfl) (pe_ix ix_list (pe_lst (pa_cons (pe_call (ok_Z20 (P:=P) (w:=w) (base:=base) T) hr (by rfl) T.d_Z20.m T.d_Z20.F.kp T.d_Z20.b .nil pass0 (pa_cons (pe_op op_add (pv 6) (pv 7)) (pa_cons (pe_op op_add (pv 5) pe_int) pa_nil))) (pa_cons (pe_op op_add (pv 6) (pv 7)) pa_nil))) (pe_callTy call_int1 rfl T.n_int PyProof.Rows.boot_int (pa_cons (pv 3) pa_nil)) (fun _ _=>rfl)))))
   (pss_one (ps_expr (pe_bm PySem.F.plainAttrs_list PySem.F.slot_list_append PySem.F.type_list_append mt_append (pv 4) (pa_cons (pe_ix ix_list (pe_lst (pa_cons (pe_call (ok_Z20 (P:=P) (w:=w) (base:=base) T) hr (by rfl) T.d_Z20.m T.d_Z20.F.kp T.d_Z20.b .nil pass0 (pa_cons (pv 6) (pa_cons (pe_op op_add (pv 5) pe_int) pa_nil))) (pa_cons (pv 6) pa_nil))) (pe_callTy call_int1 rfl T.n_int PyProof.Rows.boot_int (pa_cons (pv 3) pa_nil)) (fun _ _=>rfl)) pa_nil)))))))
   (pss_one (ps_ret (pv 4)))))),?_⟩
  refine⟨_,rfl,a,ns,0,rfl,hS,_,_,rfl,rfl,divG_of (by decide) (by decide),_,_,rfl,rfl,(by show (0:Int)<2;decide),rfl,?_⟩;generalize decide (V.int (ns.getD 0 0 / 1000 % 2)=V.int 1)=fr;refine⟨Nat.zero_le _,fun c hc=>?_⟩;have s0:Same H (upd H c (.lst [])):=Same.upd hc;refine⟨_,rfl,(mn:Int),rfl,by omega,by omega,?_⟩;refine for_range (n:=mn) (fun i σ H2=>∃ (ms:List Int) (v5 v6 v7:Option V),σ = [some (.ref a),some (.int (st:Int)),some (.int (mn:Int)),some (.bl fr),some (.ref c),v5,v6,v7]∧H2 c=some (.lst (ms.map V.int))∧ms.length=i∧Same H H2)
   ⟨[],none,none,none,rfl,upd_same,rfl,s0⟩ ?_ ?_
  ·rintro i σ H2 hi ⟨ms,v5,v6,v7,rfl,h1,h2,h3⟩;have pick:∀ (l:Addr) (x y:Int) (H3:Hp) (R:VK),(∀ z,R (.int z) (upd H3 l (.lst [.int x,.int y])))→∀ z:Int,z=(if fr then 1 else 0)→rIxL K (.ref l) (.int z) (upd H3 l (.lst [.int x,.int y])) R:=fun l x y H3 R hR z hz=>by
    subst hz;cases fr with
    | true=>exact⟨l,_,_,_,rfl,rfl,SqL.of upd_same,rfl,hR y⟩
    | false=>exact⟨l,_,_,_,rfl,rfl,SqL.of upd_same,rfl,hR x⟩
   refine⟨_,rfl,_,rfl,_,rfl,_,_,rfl,rfl,_,rfl,_,rfl,_,rfl,_,rfl,(mn:Int),a,_,rfl,by omega,rfl,h3.seq hS,fun p ys hp hys hyl=>?_⟩;have s4:Same H2 (upd H2 p (.lst ys)):=Same.upd hp;have hp4:upd H2 p (.lst ys) p=some (.lst ys):=upd_same;generalize upd H2 p (.lst ys)=H4 at s4 hp4;refine⟨p,rfl,⟨_,SqL.of hp4⟩,?_⟩;refine for_list (K:=K) (a:=p) (xs:=ys) (fun j σ H5=>∃ (tot:Int) (v7:Option V),σ = [some (.ref a),some (.int (st:Int)),some (.int (mn:Int)),some (.bl fr),some (.ref c),some (.int (0+(i:Int))),some (.int tot),v7]∧Same H4 H5)
    ⟨0,v7,rfl,Same.refl _⟩ (fun j σ H5 _ ⟨_,_,_,e⟩=>SqL.of (e _ _ hp4)) ?_ ?_
   ·rintro j y σ H5 hj ⟨tot,v7,rfl,s5⟩;obtain⟨x,_,rfl⟩:=List.mem_map.mp (hys y (List.mem_of_getElem? hj));refine⟨_,rfl,_,rfl,_,_,rfl,rfl,_,rfl,_,_,rfl,rfl,_,_,rfl,by omega,by omega,fun r r1 r2=>?_⟩;refine⟨_,rfl,_,rfl,_,_,rfl,rfl,(by show 2≤sizeLine;decide),fun l hl=>?_⟩;refine⟨_,rfl,.inr ⟨fr,rfl,?_⟩⟩;exact pick l _ _ _ _ (fun z=>⟨z,_,rfl,s5.trans (Same.upd hl)⟩) _ rfl
   ·rintro σ H5 ⟨tot,v7,rfl,s5⟩;have hc5:=s5 _ _ (s4 _ _ h1);refine⟨_,rfl,.inl ⟨rfl,_,SqL.of hc5⟩,_,rfl,_,rfl,_,_,rfl,rfl,_,_,rfl,by omega,by omega,fun r r1 r2=>?_⟩;refine⟨_,rfl,(by show 2≤sizeLine;decide),fun l hl=>?_⟩;refine⟨_,rfl,.inr ⟨fr,rfl,?_⟩⟩;have s6:Same H5 (upd H5 l (.lst [.int r,.int tot])):=Same.upd hl;refine pick l _ _ _ _ (fun z=>?_) _ rfl;refine⟨c,_,_,rfl,rfl,s6 _ _ hc5,(by rw[List.length_map];exact small6 (by omega)),ms ++ [z],_,_,_,rfl,(by rw[upd_same,List.map_append];rfl),by simp[h2],?_⟩;exact (h3.trans (s4.trans (s5.trans s6))).write hc
  ·rintro σ H2 ⟨ms,v5,v6,v7,rfl,h1,h2,h3⟩;exact⟨_,rfl,q c ms H2 hc h1 h2 h3⟩
noncomputable def nodes:Sm→Nat
 | .bit _=>1
 | .fix _=>1
 | .no s=>nodes s+1
 | .two _ s t=>nodes s+nodes t+1
theorem dp_nodes:∀ s:Sm,s.dp+1≤nodes s
 | .bit _=>Nat.le_refl _
 | .fix _=>Nat.le_refl _
 | .no s=>by have:=dp_nodes s;show s.dp+1+1≤nodes s+1;omega
 | .two _ s t=>by have:=dp_nodes s;have:=dp_nodes t;show max s.dp t.dp+1+1≤nodes s+nodes t+1;omega
theorem txt_nodes {p:Nat→Prop}:∀ {s:Sm},s.ok p→(txtS s).length≤9 * nodes s
 | .bit _,_=>by show 1≤9 * 1;decide
 | .fix b,h=>by
  have hb:b=0∨b=1:=h;rcases hb with rfl | rfl <;> decide
 | .no s,h=>by
  have i1:=txt_nodes (s:=s) h
  have:=part_le s
  rw[txt_no,List.length_append];show 4+_≤9 * (nodes s+1);omega
 | .two w s t,h=>by
  have i1:=txt_nodes (s:=s) h.2.1;have i2:=txt_nodes (s:=t) h.2.2
  have:=part_le s
  have:=part_le t
  have:=wd_le w
  rw[txt_two];simp only[List.length_append,List.length_cons,List.length_nil];show _≤9 * (nodes s+nodes t+1);omega
structure StW (ls:List Nat) (n:Nat) (G:Hp) (c:Addr) (xs:List V):Prop where
 here:G c=some (.lst xs)
 all:∃ ss:List Sm,Paired (fun x (s:Sm)=>Is G x s.d∧s.ok (fun k=>k∈ls)) xs ss∧(ss.map nodes).sum≤n
theorem StW.keep {ls:List Nat}{n:Nat}{G G':Hp}{c:Addr}{xs:List V} (h:StW ls n G c xs) (k:Same G G'):StW ls n G' c xs:=by
 obtain⟨h1,ss,h2,h3⟩:=h;exact⟨k _ _ h1,ss,Paired.mapP h2 fun _ _ e=>⟨e.1.keep k,e.2⟩,h3⟩
theorem StW.pop {ls:List Nat}{n:Nat}{G:Hp}{c:Addr}{xs:List V} (h:StW ls n G c xs) (h0:0<xs.length):∃ (y:V) (s:Sm),xs[xs.length-1]? = some y∧Is (upd G c (.lst xs.dropLast)) y s.d∧s.ok (fun k=>k∈ls)∧nodes s≤n∧StW ls (n-nodes s) (upd G c (.lst xs.dropLast)) c xs.dropLast:=by
 obtain⟨h1,ss,h2,h3⟩:=h;rcases snoc_cases ss with rfl | ⟨r,s,rfl⟩
 ·cases h2;exact absurd h0 (Nat.lt_irrefl _)
 ·obtain⟨xs',y,rfl,p,q⟩:=paired_last h2;rw[List.map_append,List.sum_append] at h3;have h3':(r.map nodes).sum+(nodes s+0)≤n:=h3;rw[List.dropLast_concat];exact⟨y,s,by simp,sm_keepU q.1 h1,q.2,by omega,upd_same,r,Paired.mapP p fun _ _ e=>⟨sm_keepU e.1 h1,e.2⟩,by omega⟩
theorem StW.push {ls:List Nat}{n n':Nat}{G:Hp}{c t:Addr}{xs zs:List V}{s:Sm} (h:StW ls n G c xs) (ht:G t=none) (hs:∀ G':Hp,(∀ p ys,G p=some (.tup ys)→G' p=some (.tup ys))→G' t=some (.tup zs)→Is G' (.ref t) s.d) (hok:s.ok fun k=>k∈ls) (hd:n+nodes s≤n') :
  upd G t (.tup zs) c=some (.lst xs)∧StW ls n' (upd (upd G t (.tup zs)) c (.lst (xs ++ [.ref t]))) c (xs ++ [.ref t]):=by
 obtain⟨h1,ss,h2,h3⟩:=h;have s1:Same G (upd G t (.tup zs)):=Same.upd ht;have k:∀ p ys,G p=some (.tup ys)→upd (upd G t (.tup zs)) c (.lst (xs ++ [.ref t])) p=some (.tup ys):=fun p ys e=>by
  have hne:p≠c:=fun z=>by rw[z,h1] at e;cases e
  rw[upd_ne hne];exact s1 _ _ e
 have htc:t≠c:=fun z=>by rw[z,h1] at ht;cases ht
 refine⟨s1 _ _ h1,upd_same,ss ++ [s],paired_snoc (Paired.mapP h2 fun _ _ e=>⟨sm_keepX k e.1,e.2⟩) ⟨hs _ k (by rw[upd_ne htc];exact upd_same),hok⟩,?_⟩;rw[List.map_append,List.sum_append];show _+(nodes s+0)≤n';omega
noncomputable def spStatW (K:PySem.W.Frag):Sp:=fun vs H Q _=>∃ (a b:Addr) (ns:List Int) (ls:List Nat),vs=[.ref a,.ref b]∧H a=some (.lst (ns.map V.int))∧H b=some (.lst (natL ls))∧ns.length≤20∧0<ls.length∧ls.length≤8 ∧
 ∀ (v:V) (s:Sm) (H':Hp),Is H' v s.d→s.ok (fun k=>k∈ls)→nodes s≤2 * ns.length+1→Same H H'→Q v H'
theorem sc_Z22:FnScope ["_law_numbers", "_law_letters_here", "_law_stack", "_law_number", "_law_other", "_law_one"] ["_law_numbers", "_law_letters_here"] (defScope s_Z22):=⟨rfl,rfl,rfl,by decide +kernel,rfl,by decide +kernel,by decide +kernel⟩
theorem ok_Z22 (T:Txt K mg):FnOk P w K mg base CX0 1 T.a_Z22 T.fd_Z22 ["_law_numbers", "_law_letters_here"] (spStatW K):=by
 refine T.d_Z22.F.ok sc_Z22 (fun vs H Q E h=>?_) (fun cdv A outer s H vs Q E hr h=>?_)
 ·obtain⟨a,b,ns,ls,rfl,hS,hb,hns,hl0,hl8,q⟩:=h;rfl
 ·obtain⟨a,b,ns,ls,rfl,hS,hb,hns,hl0,hl8,q⟩:=h;have hu:=hu_of hr;refine⟨_,(pss_cons (ps_set (i:=2) sc_Z22.nd rfl (Or.inl rfl) (pe_lst pa_nil))
   (pss_cons (ps_for PassesOwn.never rfl (pi_list (pv 0)) (pg_name (i:=3) sc_Z22.nd rfl (Or.inl rfl))
    (pss_one (ps_if (PW.pt (pw_and (pt_cmpR op_eq (pe_op op_mod (pv 3) pe_int) pe_int (nomark _)) (pw_and1 (pt_cmpR op_gt (pe_callB call_len_seq (by rfl) T.n_len PySem.boot_len (pa_cons (pv 2) pa_nil)) pe_int (nomark _))))) (pss_one (ps_expr (pe_bm PySem.F.plainAttrs_list PySem.F.slot_list_append PySem.F.type_list_append mt_append (pv 2) (pa_cons (pe_tup (pa_cons pe_str (pa_cons (pe_bm0 PySem.F.plainAttrs_list PySem.F.slot_list_pop PySem.F.type_list_pop mt_pop (pv 2)) pa_nil))) pa_nil)))) (pss_one (ps_if (PW.pt (pw_and (pt_cmpR op_gt (pe_op op_mod (pv 3) pe_int) pe_int (nomark _)) (pw_and1 (pt_cmpR op_gt (pe_callB call_len_seq (by rfl) T.n_len PySem.boot_len (pa_cons (pv 2) pa_nil)) pe_int (nomark _))))) (pss_cons (ps_set (i:=4) sc_Z22.nd rfl (Or.inl rfl) (pe_bm0 PySem.F.plainAttrs_list PySem.F.slot_list_pop PySem.F.type_list_pop mt_pop (pv 2)))
   (pss_cons (ps_set (i:=5) sc_Z22.nd rfl (Or.inl rfl) (pe_bm0 PySem.F.plainAttrs_list PySem.F.slot_list_pop PySem.F.type_list_pop mt_pop (pv 2)))
   (pss_one (ps_expr (pe_bm PySem.F.plainAttrs_list PySem.F.slot_list_append PySem.F.type_list_append mt_append (pv 2) (pa_cons (pe_tup (pa_cons (pe_ix ix_list (pe_lst (pa_cons pe_str (pa_cons pe_str (pa_cons pe_str pa_nil)))) (pe_op op_mod (pe_op op_fdivG (pv 3) pe_int) pe_int) (fun _ _=>rfl)) (pa_cons (pv 5) (pa_cons (pv 4) pa_nil)))) pa_nil)))))) (pss_one (ps_if (pt_cmpR op_eq (pe_op op_mod (pv 3) pe_int) pe_int (nomark _)) (pss_one (ps_expr (pe_bm PySem.F.plainAttrs_list PySem.F.slot_list_append PySem.F.type_list_append mt_append (pv 2) (pa_cons (pe_tup (pa_cons pe_str (pa_cons (pe_op op_mod (pe_op op_fdivG (pv 3) pe_int) pe_int) pa_nil))) pa_nil)))) (pss_one (ps_expr (pe_bm PySem.F.plainAttrs_list PySem.F.slot_list_append PySem.F.type_list_append mt_append (pv 2) (pa_cons (pe_tup (pa_cons pe_str (pa_cons (pe_ix ix_list (pv 1) (pe_op op_mod (pe_op op_fdivG (pv 3) pe_int) (pe_callB call_len_seq (by rfl) T.n_len PySem.boot_len (pa_cons (pv 1) pa_nil))) (fun _ _=>rfl)) pa_nil))) pa_nil)))))))))))
   (pss_cons (ps_while PassesOwn.never (pt_cmpR op_gt (pe_callB call_len_seq (by rfl) T.n_len PySem.boot_len (pa_cons (pv 2) pa_nil)) pe_int (nomark _)) (pss_cons (ps_set (i:=4) sc_Z22.nd rfl (Or.inl rfl) (pe_bm0 PySem.F.plainAttrs_list PySem.F.slot_list_pop PySem.F.type_list_pop mt_pop (pv 2)))
   (pss_cons (ps_set (i:=5) sc_Z22.nd rfl (Or.inl rfl) (pe_bm0 PySem.F.plainAttrs_list PySem.F.slot_list_pop PySem.F.type_list_pop mt_pop (pv 2)))
   (pss_one (ps_expr (pe_bm PySem.F.plainAttrs_list PySem.F.slot_list_append PySem.F.type_list_append mt_append (pv 2) (pa_cons (pe_tup (pa_cons (pe_ix ix_list (pe_lst (pa_cons pe_str (pa_cons pe_str (pa_cons pe_str pa_nil)))) (pe_op op_mod (pe_callB call_len_seq (by rfl) T.n_len PySem.boot_len (pa_cons (pv 2) pa_nil)) pe_int) (fun _ _=>rfl)) (pa_cons (pv 5) (pa_cons (pv 4) pa_nil)))) pa_nil)))))))
   (pss_cons (ps_if (pt_cmpR op_eq (pe_callB call_len_seq (by rfl) T.n_len PySem.boot_len (pa_cons (pv 2) pa_nil)) pe_int (nomark _)) (pss_one (ps_ret (pe_tup (pa_cons pe_str (pa_cons pe_int pa_nil))))) pss_nil)
   (pss_one (ps_ret (pe_ix ix_list (pv 2) pe_int (fun _ _=>rfl)))))))),?_⟩
  refine⟨Nat.zero_le _,fun c hc=>?_⟩;have s0:Same H (upd H c (.lst [])):=Same.upd hc;have k0:StW ls 0 (upd H c (.lst [])) c []:=⟨upd_same,[],.nil,Nat.le_refl _⟩;generalize upd H c (.lst [])=H1 at s0 k0;refine⟨_,rfl,a,rfl,⟨_,SqL.of (s0 _ _ hS)⟩,?_⟩;refine for_list (K:=K) (a:=a) (xs:=ns.map V.int) (fun i σ G=>∃ (xs:List V) (v3 v4 v5:Option V),σ = [some (.ref a),some (.ref b),some (.ref c),v3,v4,v5]∧StW ls i G c xs∧xs.length≤i∧Same H G)
   ⟨[],none,none,none,rfl,k0,Nat.le_refl _,s0⟩ (fun i σ G _ ⟨_,_,_,_,_,_,_,e⟩=>SqL.of (e _ _ hS)) ?_ ?_
  ·rintro i y0 σ G hi ⟨xs,v3,v4,v5,rfl,hs,hxl,sG⟩;obtain⟨x,hxi,rfl⟩:=at_int hi;have hi8:i<ns.length:=(List.getElem?_eq_some_iff.mp hxi).1;refine⟨_,rfl,_,_,rfl,rfl,(by show (0:Int)<7;decide),rfl,_,rfl,?_⟩;refine ite2 (fun h1=>?_) (fun h1=>iteF ?_)
   ·refine⟨_,rfl,c,_,rfl,.inl (SqL.of hs.here),_,_,rfl,rfl,_,rfl,?_⟩;refine ite2 (fun h2=>?_) (fun h2=>?_)
    ·have h0:0<xs.length:=by have:=of_decide_eq_true h2;omega
     obtain⟨y,s1,hy1,hy2,hy3,hy4,hk⟩:=hs.pop h0;refine⟨_,rfl,.inl ⟨rfl,_,SqL.of hs.here⟩,_,rfl,.inl ⟨rfl,_,SqL.of hs.here⟩,c,xs,y,rfl,rfl,hs.here,hy1,(by show 2≤sizeLine;decide),fun t ht=>?_⟩;have hl1:=List.length_dropLast (xs:=xs);obtain⟨p1,p2⟩:=hk.push (n':=i+1) (zs:=[.str "not",y]) (s := .no s1) ht (fun G' kk h3=>mk_tup2 h3 (is_str.mpr rfl) (sm_keepX kk hy2)) hy3 (by show _+(nodes s1+1)≤i+1;omega);exact⟨c,_,_,rfl,rfl,p1,small6 (by omega),_,_,_,_,rfl,p2,(by rw[List.length_append];show xs.dropLast.length+1≤i+1;omega),((sG.write hc).trans (Same.upd ht)).write hc⟩
    ·refine⟨_,rfl,_,_,rfl,rfl,(by show (0:Int)<7;decide),_,_,rfl,rfl,_,rfl,?_⟩;refine ite2 (fun h3=>?_) (fun h3=>iteF ?_)
     ·refine⟨_,rfl,c,_,rfl,.inl (SqL.of hs.here),_,_,rfl,rfl,_,rfl,?_⟩;refine ite2 (fun h4=>?_) (fun h4=>?_)
      ·have h0:1<xs.length:=by have:=of_decide_eq_true h4;omega
       obtain⟨y,s1,hy1,hy2,hy3,hy4,hk⟩:=hs.pop (by omega);refine⟨_,rfl,.inl ⟨rfl,_,SqL.of hs.here⟩,c,xs,y,rfl,rfl,hs.here,hy1,?_⟩;have hl1:=List.length_dropLast (xs:=xs);have sG1:=sG.write (o := .lst xs.dropLast) hc;generalize upd G c (.lst xs.dropLast)=G1 at hy2 hk sG1;obtain⟨z,s2,hz1,hz2,hz3,hz4,hk2⟩:=hk.pop (by omega);refine⟨_,rfl,.inl ⟨rfl,_,SqL.of hk.here⟩,c,xs.dropLast,z,rfl,rfl,hk.here,hz1,?_⟩;have hl2:=List.length_dropLast (xs:=xs.dropLast);have sG2:=sG1.write (o := .lst xs.dropLast.dropLast) hc;have hy2':Is (upd G1 c (.lst xs.dropLast.dropLast)) y s1.d:=sm_keepU hy2 hk.here;generalize upd G1 c (.lst xs.dropLast.dropLast)=G2 at hy2' hz2 hk2 sG2;have gj1:=Int.emod_nonneg (x / 7) (show (3:Int)≠0 by decide);have gj2:=Int.emod_lt_of_pos (x / 7) (show (0:Int)<3 by decide);obtain⟨j,hj⟩:∃ j:Nat,x / 7 % 3=(j:Int):=⟨_,(Int.toNat_of_nonneg gj1).symm⟩;have hj3:j<3:=by omega
       refine⟨_,rfl,.inl ⟨rfl,_,SqL.of hk2.here⟩,(by show 3≤sizeLine;decide),fun l hl=>?_⟩;have sl:Same G2 (upd G2 l (.lst [.str "and",.str "or",.str "xor"])):=Same.upd hl;have wl:upd G2 l (.lst [.str "and",.str "or",.str "xor"]) l=some (.lst [.str "and",.str "or",.str "xor"]):=upd_same;generalize upd G2 l (.lst [.str "and",.str "or",.str "xor"])=G3 at sl wl;refine⟨_,rfl,_,_,rfl,rfl,divG_of (by decide) (by decide),_,_,rfl,rfl,(by show (0:Int)<3;decide),l,_,_,V.str (wd j),rfl,rfl,SqL.of wl,(by rw[hj];exact words_at hj3),_,rfl,_,rfl,(by show 3≤sizeLine;decide),fun t ht=>?_⟩;obtain⟨p1,p2⟩:=(hk2.keep sl).push (n':=i+1) (zs:=[.str (wd j),z,y]) (s := .two j s2 s1) ht (fun G' kk h3=>mk_tup3 h3 (is_str.mpr rfl) (sm_keepX kk (hz2.keep sl)) (sm_keepX kk (hy2'.keep sl))) ⟨hj3,hz3,hy3⟩ (by show _+(nodes s2+nodes s1+1)≤i+1;omega);exact⟨c,_,_,rfl,rfl,p1,small6 (by omega),_,_,_,_,rfl,p2,(by rw[List.length_append];show xs.dropLast.dropLast.length+1≤i+1;omega),((sG2.trans sl).trans (Same.upd ht)).write hc⟩
      ·refine⟨_,rfl,_,_,rfl,rfl,(by show (0:Int)<28;decide),rfl,_,rfl,?_⟩;refine ite2 (fun h5=>?_) (fun h5=>?_)
       ·refine⟨_,rfl,.inl ⟨rfl,_,SqL.of hs.here⟩,_,rfl,_,_,rfl,rfl,divG_of (by decide) (by decide),_,_,rfl,rfl,(by show (0:Int)<2;decide),(by show 2≤sizeLine;decide),fun t ht=>?_⟩;obtain⟨p1,p2⟩:=hs.push (n':=i+1) (zs:=[.str "fix",.int (x / 28 % 2)]) (s := .fix (x / 28 % 2)) ht (fun G' kk h3=>mk_tup2 h3 (is_str.mpr rfl) (is_int.mpr rfl)) (by show x / 28 % 2=0∨x / 28 % 2=1;omega) (Nat.le_refl _);exact⟨c,_,_,rfl,rfl,p1,small6 (by omega),_,_,_,_,rfl,p2,(by rw[List.length_append];show xs.length+1≤i+1;omega),(sG.trans (Same.upd ht)).write hc⟩
       ·have hbG:=sG _ _ hb;have hll:(natL ls).length=ls.length:=by unfold natL;rw[List.length_map]
        have gk1:=Int.emod_nonneg (x / 7) (show ((natL ls).length:Int)≠0 by omega);have gk2:=Int.emod_lt_of_pos (x / 7) (show (0:Int)<((natL ls).length:Int) by omega);obtain⟨m,hm⟩:∃ m:Nat,x / 7 % ((natL ls).length:Int)=(m:Int):=⟨_,(Int.toNat_of_nonneg gk1).symm⟩;have hml:m<ls.length:=by omega
        have hmk:(natL ls)[m]? = some (V.int ((ls[m]:Nat):Int)):=by unfold natL;rw[List.getElem?_map,List.getElem?_eq_getElem hml];rfl
        refine⟨_,rfl,.inl ⟨rfl,_,SqL.of hs.here⟩,_,rfl,_,rfl,_,_,rfl,rfl,divG_of (by decide) (by decide),_,rfl,b,_,rfl,.inl (SqL.of hbG),_,_,rfl,rfl,(by omega),b,_,_,_,rfl,rfl,SqL.of hbG,(by rw[hm];exact atI_nat hmk),(by show 2≤sizeLine;decide),fun t ht=>?_⟩;obtain⟨p1,p2⟩:=hs.push (n':=i+1) (zs:=[.str "bit",.int ((ls[m]:Nat):Int)]) (s := .bit ls[m]) ht (fun G' kk h3=>mk_tup2 h3 (is_str.mpr rfl) (is_int.mpr rfl)) (List.getElem_mem hml) (Nat.le_refl _);exact⟨c,_,_,rfl,rfl,p1,small6 (by omega),_,_,_,_,rfl,p2,(by rw[List.length_append];show xs.length+1≤i+1;omega),(sG.trans (Same.upd ht)).write hc⟩
     ·refine⟨_,rfl,_,_,rfl,rfl,(by show (0:Int)<28;decide),rfl,_,rfl,?_⟩;refine ite2 (fun h5=>?_) (fun h5=>?_)
      ·refine⟨_,rfl,.inl ⟨rfl,_,SqL.of hs.here⟩,_,rfl,_,_,rfl,rfl,divG_of (by decide) (by decide),_,_,rfl,rfl,(by show (0:Int)<2;decide),(by show 2≤sizeLine;decide),fun t ht=>?_⟩;obtain⟨p1,p2⟩:=hs.push (n':=i+1) (zs:=[.str "fix",.int (x / 28 % 2)]) (s := .fix (x / 28 % 2)) ht (fun G' kk h3=>mk_tup2 h3 (is_str.mpr rfl) (is_int.mpr rfl)) (by show x / 28 % 2=0∨x / 28 % 2=1;omega) (Nat.le_refl _);exact⟨c,_,_,rfl,rfl,p1,small6 (by omega),_,_,_,_,rfl,p2,(by rw[List.length_append];show xs.length+1≤i+1;omega),(sG.trans (Same.upd ht)).write hc⟩
      ·have hbG:=sG _ _ hb;have hll:(natL ls).length=ls.length:=by unfold natL;rw[List.length_map]
       have gk1:=Int.emod_nonneg (x / 7) (show ((natL ls).length:Int)≠0 by omega);have gk2:=Int.emod_lt_of_pos (x / 7) (show (0:Int)<((natL ls).length:Int) by omega);obtain⟨m,hm⟩:∃ m:Nat,x / 7 % ((natL ls).length:Int)=(m:Int):=⟨_,(Int.toNat_of_nonneg gk1).symm⟩;have hml:m<ls.length:=by omega
       have hmk:(natL ls)[m]? = some (V.int ((ls[m]:Nat):Int)):=by unfold natL;rw[List.getElem?_map,List.getElem?_eq_getElem hml];rfl
       refine⟨_,rfl,.inl ⟨rfl,_,SqL.of hs.here⟩,_,rfl,_,rfl,_,_,rfl,rfl,divG_of (by decide) (by decide),_,rfl,b,_,rfl,.inl (SqL.of hbG),_,_,rfl,rfl,(by omega),b,_,_,_,rfl,rfl,SqL.of hbG,(by rw[hm];exact atI_nat hmk),(by show 2≤sizeLine;decide),fun t ht=>?_⟩;obtain⟨p1,p2⟩:=hs.push (n':=i+1) (zs:=[.str "bit",.int ((ls[m]:Nat):Int)]) (s := .bit ls[m]) ht (fun G' kk h3=>mk_tup2 h3 (is_str.mpr rfl) (is_int.mpr rfl)) (List.getElem_mem hml) (Nat.le_refl _);exact⟨c,_,_,rfl,rfl,p1,small6 (by omega),_,_,_,_,rfl,p2,(by rw[List.length_append];show xs.length+1≤i+1;omega),(sG.trans (Same.upd ht)).write hc⟩
   ·refine⟨_,rfl,_,_,rfl,rfl,(by show (0:Int)<7;decide),_,_,rfl,rfl,_,rfl,?_⟩;refine ite2 (fun h3=>?_) (fun h3=>iteF ?_)
    ·refine⟨_,rfl,c,_,rfl,.inl (SqL.of hs.here),_,_,rfl,rfl,_,rfl,?_⟩;refine ite2 (fun h4=>?_) (fun h4=>?_)
     ·have h0:1<xs.length:=by have:=of_decide_eq_true h4;omega
      obtain⟨y,s1,hy1,hy2,hy3,hy4,hk⟩:=hs.pop (by omega);refine⟨_,rfl,.inl ⟨rfl,_,SqL.of hs.here⟩,c,xs,y,rfl,rfl,hs.here,hy1,?_⟩;have hl1:=List.length_dropLast (xs:=xs);have sG1:=sG.write (o := .lst xs.dropLast) hc;generalize upd G c (.lst xs.dropLast)=G1 at hy2 hk sG1;obtain⟨z,s2,hz1,hz2,hz3,hz4,hk2⟩:=hk.pop (by omega);refine⟨_,rfl,.inl ⟨rfl,_,SqL.of hk.here⟩,c,xs.dropLast,z,rfl,rfl,hk.here,hz1,?_⟩;have hl2:=List.length_dropLast (xs:=xs.dropLast);have sG2:=sG1.write (o := .lst xs.dropLast.dropLast) hc;have hy2':Is (upd G1 c (.lst xs.dropLast.dropLast)) y s1.d:=sm_keepU hy2 hk.here;generalize upd G1 c (.lst xs.dropLast.dropLast)=G2 at hy2' hz2 hk2 sG2;have gj1:=Int.emod_nonneg (x / 7) (show (3:Int)≠0 by decide);have gj2:=Int.emod_lt_of_pos (x / 7) (show (0:Int)<3 by decide);obtain⟨j,hj⟩:∃ j:Nat,x / 7 % 3=(j:Int):=⟨_,(Int.toNat_of_nonneg gj1).symm⟩;have hj3:j<3:=by omega
      refine⟨_,rfl,.inl ⟨rfl,_,SqL.of hk2.here⟩,(by show 3≤sizeLine;decide),fun l hl=>?_⟩;have sl:Same G2 (upd G2 l (.lst [.str "and",.str "or",.str "xor"])):=Same.upd hl;have wl:upd G2 l (.lst [.str "and",.str "or",.str "xor"]) l=some (.lst [.str "and",.str "or",.str "xor"]):=upd_same;generalize upd G2 l (.lst [.str "and",.str "or",.str "xor"])=G3 at sl wl;refine⟨_,rfl,_,_,rfl,rfl,divG_of (by decide) (by decide),_,_,rfl,rfl,(by show (0:Int)<3;decide),l,_,_,V.str (wd j),rfl,rfl,SqL.of wl,(by rw[hj];exact words_at hj3),_,rfl,_,rfl,(by show 3≤sizeLine;decide),fun t ht=>?_⟩;obtain⟨p1,p2⟩:=(hk2.keep sl).push (n':=i+1) (zs:=[.str (wd j),z,y]) (s := .two j s2 s1) ht (fun G' kk h3=>mk_tup3 h3 (is_str.mpr rfl) (sm_keepX kk (hz2.keep sl)) (sm_keepX kk (hy2'.keep sl))) ⟨hj3,hz3,hy3⟩ (by show _+(nodes s2+nodes s1+1)≤i+1;omega);exact⟨c,_,_,rfl,rfl,p1,small6 (by omega),_,_,_,_,rfl,p2,(by rw[List.length_append];show xs.dropLast.dropLast.length+1≤i+1;omega),((sG2.trans sl).trans (Same.upd ht)).write hc⟩
     ·refine⟨_,rfl,_,_,rfl,rfl,(by show (0:Int)<28;decide),rfl,_,rfl,?_⟩;refine ite2 (fun h5=>?_) (fun h5=>?_)
      ·refine⟨_,rfl,.inl ⟨rfl,_,SqL.of hs.here⟩,_,rfl,_,_,rfl,rfl,divG_of (by decide) (by decide),_,_,rfl,rfl,(by show (0:Int)<2;decide),(by show 2≤sizeLine;decide),fun t ht=>?_⟩;obtain⟨p1,p2⟩:=hs.push (n':=i+1) (zs:=[.str "fix",.int (x / 28 % 2)]) (s := .fix (x / 28 % 2)) ht (fun G' kk h3=>mk_tup2 h3 (is_str.mpr rfl) (is_int.mpr rfl)) (by show x / 28 % 2=0∨x / 28 % 2=1;omega) (Nat.le_refl _);exact⟨c,_,_,rfl,rfl,p1,small6 (by omega),_,_,_,_,rfl,p2,(by rw[List.length_append];show xs.length+1≤i+1;omega),(sG.trans (Same.upd ht)).write hc⟩
      ·have hbG:=sG _ _ hb;have hll:(natL ls).length=ls.length:=by unfold natL;rw[List.length_map]
       have gk1:=Int.emod_nonneg (x / 7) (show ((natL ls).length:Int)≠0 by omega);have gk2:=Int.emod_lt_of_pos (x / 7) (show (0:Int)<((natL ls).length:Int) by omega);obtain⟨m,hm⟩:∃ m:Nat,x / 7 % ((natL ls).length:Int)=(m:Int):=⟨_,(Int.toNat_of_nonneg gk1).symm⟩;have hml:m<ls.length:=by omega
       have hmk:(natL ls)[m]? = some (V.int ((ls[m]:Nat):Int)):=by unfold natL;rw[List.getElem?_map,List.getElem?_eq_getElem hml];rfl
       refine⟨_,rfl,.inl ⟨rfl,_,SqL.of hs.here⟩,_,rfl,_,rfl,_,_,rfl,rfl,divG_of (by decide) (by decide),_,rfl,b,_,rfl,.inl (SqL.of hbG),_,_,rfl,rfl,(by omega),b,_,_,_,rfl,rfl,SqL.of hbG,(by rw[hm];exact atI_nat hmk),(by show 2≤sizeLine;decide),fun t ht=>?_⟩;obtain⟨p1,p2⟩:=hs.push (n':=i+1) (zs:=[.str "bit",.int ((ls[m]:Nat):Int)]) (s := .bit ls[m]) ht (fun G' kk h3=>mk_tup2 h3 (is_str.mpr rfl) (is_int.mpr rfl)) (List.getElem_mem hml) (Nat.le_refl _);exact⟨c,_,_,rfl,rfl,p1,small6 (by omega),_,_,_,_,rfl,p2,(by rw[List.length_append];show xs.length+1≤i+1;omega),(sG.trans (Same.upd ht)).write hc⟩
    ·refine⟨_,rfl,_,_,rfl,rfl,(by show (0:Int)<28;decide),rfl,_,rfl,?_⟩;refine ite2 (fun h5=>?_) (fun h5=>?_)
     ·refine⟨_,rfl,.inl ⟨rfl,_,SqL.of hs.here⟩,_,rfl,_,_,rfl,rfl,divG_of (by decide) (by decide),_,_,rfl,rfl,(by show (0:Int)<2;decide),(by show 2≤sizeLine;decide),fun t ht=>?_⟩;obtain⟨p1,p2⟩:=hs.push (n':=i+1) (zs:=[.str "fix",.int (x / 28 % 2)]) (s := .fix (x / 28 % 2)) ht (fun G' kk h3=>mk_tup2 h3 (is_str.mpr rfl) (is_int.mpr rfl)) (by show x / 28 % 2=0∨x / 28 % 2=1;omega) (Nat.le_refl _);exact⟨c,_,_,rfl,rfl,p1,small6 (by omega),_,_,_,_,rfl,p2,(by rw[List.length_append];show xs.length+1≤i+1;omega),(sG.trans (Same.upd ht)).write hc⟩
     ·have hbG:=sG _ _ hb;have hll:(natL ls).length=ls.length:=by unfold natL;rw[List.length_map]
      have gk1:=Int.emod_nonneg (x / 7) (show ((natL ls).length:Int)≠0 by omega);have gk2:=Int.emod_lt_of_pos (x / 7) (show (0:Int)<((natL ls).length:Int) by omega);obtain⟨m,hm⟩:∃ m:Nat,x / 7 % ((natL ls).length:Int)=(m:Int):=⟨_,(Int.toNat_of_nonneg gk1).symm⟩;have hml:m<ls.length:=by omega
      have hmk:(natL ls)[m]? = some (V.int ((ls[m]:Nat):Int)):=by unfold natL;rw[List.getElem?_map,List.getElem?_eq_getElem hml];rfl
      refine⟨_,rfl,.inl ⟨rfl,_,SqL.of hs.here⟩,_,rfl,_,rfl,_,_,rfl,rfl,divG_of (by decide) (by decide),_,rfl,b,_,rfl,.inl (SqL.of hbG),_,_,rfl,rfl,(by omega),b,_,_,_,rfl,rfl,SqL.of hbG,(by rw[hm];exact atI_nat hmk),(by show 2≤sizeLine;decide),fun t ht=>?_⟩;obtain⟨p1,p2⟩:=hs.push (n':=i+1) (zs:=[.str "bit",.int ((ls[m]:Nat):Int)]) (s := .bit ls[m]) ht (fun G' kk h3=>mk_tup2 h3 (is_str.mpr rfl) (is_int.mpr rfl)) (List.getElem_mem hml) (Nat.le_refl _);exact⟨c,_,_,rfl,rfl,p1,small6 (by omega),_,_,_,_,rfl,p2,(by rw[List.length_append];show xs.length+1≤i+1;omega),(sG.trans (Same.upd ht)).write hc⟩
  ·rintro σ G ⟨xs,v3,v4,v5,rfl,hs,hxl,sG⟩;rw[List.length_map] at hs hxl;refine⟨fun m σ G=>∃ (xs:List V) (v4 v5:Option V),σ = [some (.ref a),some (.ref b),some (.ref c),v3,v4,v5]∧xs.length=m∧(∃ n,StW ls n G c xs∧n+xs.length≤2 * ns.length)∧Same H G,⟨_,xs,v4,v5,rfl,rfl,⟨_,hs,by omega⟩,sG⟩,?_⟩;rintro m σ G ⟨xs,v4,v5,rfl,hm,⟨n,hs,hn⟩,sG⟩;refine⟨_,rfl,c,_,rfl,.inl (SqL.of hs.here),_,_,rfl,rfl,_,rfl,?_⟩;refine ite2 (fun h4=>?_) (fun h4=>?_)
   ·have h0:1<xs.length:=by have:=of_decide_eq_true h4;omega
    refine⟨fun σ' G'=>∃ (xs':List V) (v4 v5:Option V),σ'=[some (.ref a),some (.ref b),some (.ref c),v3,v4,v5]∧xs'.length+1=m∧(∃ n,StW ls n G' c xs'∧n+xs'.length≤2 * ns.length)∧Same H G',fun σ' G' ⟨xs',v4',v5',z1,z2,z3,z4⟩=>⟨xs'.length,by omega,xs',v4',v5',z1,rfl,z3,z4⟩,?_⟩;obtain⟨y,s1,hy1,hy2,hy3,hy4,hk⟩:=hs.pop (by omega);refine⟨_,rfl,.inl ⟨rfl,_,SqL.of hs.here⟩,c,xs,y,rfl,rfl,hs.here,hy1,?_⟩;have hl1:=List.length_dropLast (xs:=xs);have sG1:=sG.write (o := .lst xs.dropLast) hc;generalize upd G c (.lst xs.dropLast)=G1 at hy2 hk sG1;obtain⟨z,s2,hz1,hz2,hz3,hz4,hk2⟩:=hk.pop (by omega);refine⟨_,rfl,.inl ⟨rfl,_,SqL.of hk.here⟩,c,xs.dropLast,z,rfl,rfl,hk.here,hz1,?_⟩;have hl2:=List.length_dropLast (xs:=xs.dropLast);have sG2:=sG1.write (o := .lst xs.dropLast.dropLast) hc;have hy2':Is (upd G1 c (.lst xs.dropLast.dropLast)) y s1.d:=sm_keepU hy2 hk.here;generalize upd G1 c (.lst xs.dropLast.dropLast)=G2 at hy2' hz2 hk2 sG2;refine⟨_,rfl,.inl ⟨rfl,_,SqL.of hk2.here⟩,(by show 3≤sizeLine;decide),fun l hl=>?_⟩;have sl:Same G2 (upd G2 l (.lst [.str "and",.str "or",.str "xor"])):=Same.upd hl;have wl:upd G2 l (.lst [.str "and",.str "or",.str "xor"]) l=some (.lst [.str "and",.str "or",.str "xor"]):=upd_same;generalize upd G2 l (.lst [.str "and",.str "or",.str "xor"])=G3 at sl wl;have hc3:=(hk2.keep sl).here;have ej:((xs.dropLast.dropLast.length:Nat):Int) % 3=((xs.dropLast.dropLast.length % 3:Nat):Int):=by norm_cast
    have hj3:=Nat.mod_lt xs.dropLast.dropLast.length (show 0<3 by decide);generalize hjj:xs.dropLast.dropLast.length % 3=j at ej hj3;refine⟨_,rfl,c,_,rfl,.inl (SqL.of hc3),_,_,rfl,rfl,(by show (0:Int)<3;decide),l,_,_,V.str (wd j),rfl,rfl,SqL.of wl,(by rw[ej];exact words_at hj3),_,rfl,_,rfl,(by show 3≤sizeLine;decide),fun t ht=>?_⟩;obtain⟨p1,p2⟩:=(hk2.keep sl).push (n':=n+1) (zs:=[.str (wd j),z,y]) (s := .two j s2 s1) ht (fun G' kk h3=>mk_tup3 h3 (is_str.mpr rfl) (sm_keepX kk (hz2.keep sl)) (sm_keepX kk (hy2'.keep sl))) ⟨hj3,hz3,hy3⟩ (by show _+(nodes s2+nodes s1+1)≤n+1;omega);have hlen:(xs.dropLast.dropLast ++ [V.ref t]).length=xs.length-1:=by rw[List.length_append];show xs.dropLast.dropLast.length+1=_;omega
    exact⟨c,_,_,rfl,rfl,p1,small6 (by omega),_,_,_,rfl,by omega,⟨n+1,p2,by omega⟩,((sG2.trans sl).trans (Same.upd ht)).write hc⟩
   ·have h1:¬ 1<xs.length:=fun z=>h4 (decide_eq_true (by omega))
    refine⟨_,rfl,c,_,rfl,.inl (SqL.of hs.here),rfl,_,rfl,?_⟩;refine ite2 (fun h5=>?_) (fun h5=>?_)
    ·refine⟨(by show 2≤sizeLine;decide),fun t ht=>?_⟩;exact q (.ref t) (.fix 1) _ (mk_tup2 upd_same (is_str.mpr rfl) (is_int.mpr rfl)) (.inr rfl) (by show 1≤_;omega) (sG.trans (Same.upd ht))
    ·have h6:0<xs.length:=by
      rcases Nat.eq_zero_or_pos xs.length with z | z
      ·exact absurd (decide_eq_true (by rw[z];rfl)) h5
      ·exact z
     obtain⟨h7,ss,h8,h9⟩:=id hs;have h10:xs.length=1:=by omega
     obtain⟨x0,rfl⟩:=List.length_eq_one_iff.mp h10;cases h8 with
     | @cons _ s1 _ ss' r r' =>
      cases r';have h11:nodes s1+0≤n:=h9;exact⟨_,rfl,c,_,_,x0,rfl,rfl,SqL.of hs.here,rfl,q _ s1 G r.1 r.2 (by simp at hn;omega) sG⟩
noncomputable def spHoldsAt (d:Nat):Sp:=fun vs H Q _=>∃ (v:V) (s:Sm) (g:Nat),vs=[v,.int (g:Int)]∧Is H v s.d∧s.ok (fun k=>k<16)∧s.dp<d∧Q (.bl (decide (s.at (fun k=>g.testBit k)=1))) H
theorem sc_Z18:FnScope ["_law_statement_here", "_law_given", "_law_one", "_law_other"] ["_law_statement_here", "_law_given"] (defScope s_Z18):=⟨rfl,rfl,rfl,by decide +kernel,rfl,by decide +kernel,by decide +kernel⟩
theorem okr_Z18 (T:Txt K mg) (d:Nat):FnOk P w K mg base CX0 (1+d) T.a_Z18 T.fd_Z18 ["_law_statement_here", "_law_given"] (spHoldsAt d):=by
 induction d with
 | zero=>exact T.d_Z18.F.ok sc_Z18 (fun vs H Q E h=>by obtain⟨v,s',g,rfl,hI,hok,hd,q⟩:=h;exact absurd hd (Nat.not_lt_zero _)) (fun cdv A outer s H vs Q E hr h=>by obtain⟨v,s',g,rfl,hI,hok,hd,q⟩:=h;exact absurd hd (Nat.not_lt_zero _))
 | succ d ih =>
 refine T.d_Z18.F.ok (k:=1+d) sc_Z18 (fun vs H Q E h=>?_) (fun cdv A outer s H vs Q E hr h=>?_)
 ·obtain⟨v,s',g,rfl,hI,hok,hd,q⟩:=h;rfl
 ·obtain⟨v,s',g,rfl,hI,hok,hd,q⟩:=h;have hu:=hu_of hr;refine⟨_,(pss_cons (ps_if (pt_cmpR op_eq (pe_ix ix_tup (pv 0) pe_int (fun _ _=>rfl)) pe_str (nomark _)) (pss_one (ps_ret (pe_cmpR op_eq (pe_op op_mod (pe_op op_fdivG (pv 1) (pe_op op_shl pe_int (pe_ix ix_tup (pv 0) pe_int (fun _ _=>rfl)))) pe_int) pe_int (nomark _)))) pss_nil)
   (pss_cons (ps_if (pt_cmpR op_eq (pe_ix ix_tup (pv 0) pe_int (fun _ _=>rfl)) pe_str (nomark _)) (pss_one (ps_ret (pe_cmpR op_eq (pe_ix ix_tup (pv 0) pe_int (fun _ _=>rfl)) pe_int (nomark _)))) pss_nil)
   (pss_cons (ps_set (i:=2) sc_Z18.nd rfl (Or.inl rfl) (pe_call ih hr (by rfl) T.d_Z18.m T.d_Z18.F.kp T.d_Z18.b .nil pass0 (pa_cons (pe_ix ix_tup (pv 0) pe_int (fun _ _=>rfl)) (pa_cons (pv 1) pa_nil))))
   (pss_cons (ps_if (pt_cmpR op_eq (pe_ix ix_tup (pv 0) pe_int (fun _ _=>rfl)) pe_str (nomark _)) (pss_one (ps_ret (pe_not (pv 2)))) pss_nil)
   (pss_cons (ps_set (i:=3) sc_Z18.nd rfl (Or.inl rfl) (pe_call ih hr (by rfl) T.d_Z18.m T.d_Z18.F.kp T.d_Z18.b .nil pass0 (pa_cons (pe_ix ix_tup (pv 0) pe_int (fun _ _=>rfl)) (pa_cons (pv 1) pa_nil))))
   (pss_cons (ps_if (pt_cmpR op_eq (pe_ix ix_tup (pv 0) pe_int (fun _ _=>rfl)) pe_str (nomark _)) (pss_one (ps_ret (pe_and (pv 2) (pe_one (pv 3))))) pss_nil)
   (pss_cons (ps_if (pt_cmpR op_eq (pe_ix ix_tup (pv 0) pe_int (fun _ _=>rfl)) pe_str (nomark _)) (pss_one (ps_ret (pe_or (pv 2) (pe_one (pv 3))))) pss_nil)
   (pss_one (ps_ret (pe_cmpR op_ne (pv 2) (pv 3) (nomark _))))))))))),?_⟩
  cases s' with
  | bit k =>
   obtain⟨p,rfl,hp⟩:=sm_bit hI;have hk:k<16:=hok;refine⟨_,rfl,p,_,_,_,rfl,rfl,SqT.of hp,rfl,rfl,_,rfl,iteY (by decide) ?_⟩;have e0:(1:Int) * 2^((k:Int)).toNat=2^k:=shl_eq k;have pw:=pow_cast k;have hpp:=Nat.two_pow_pos k;have hlt:(2:Nat)^k<2^16:=Nat.pow_lt_pow_right (by decide) hk;refine⟨_,rfl,_,rfl,p,_,_,_,rfl,rfl,SqT.of hp,rfl,_,_,rfl,rfl,⟨Int.natCast_nonneg _,by omega,by decide⟩,_,_,rfl,rfl,(by rw[e0,pw];exact divG_of (by omega) (by omega)),_,_,rfl,rfl,(by show (0:Int)<2;decide),rfl,?_⟩;have eb:(g:Int) / (1 * 2^((k:Int)).toNat) % 2=if g.testBit k=true then 1 else 0:=by
    rw[e0,pw,Nat.testBit_eq_decide_div_mod_eq]
    have:((g:Int) / ((2^k:Nat):Int) % 2)=((g / 2^k % 2:Nat):Int):=by norm_cast
    rw[this];by_cases z:g / 2^k % 2=1
    ·simp[z]
    ·have:g / 2^k % 2=0:=by omega
     simp[this]
   show Q (.bl (decide (V.int ((g:Int) / (1 * 2^((k:Int)).toNat) % 2)=V.int 1))) H;rw[eb];have q':Q (.bl (decide ((if g.testBit k=true then (1:Int) else 0)=1))) H:=q;by_cases hg:g.testBit k=true
   ·rw[if_pos hg] at q' ⊢;simpa using q'
   ·rw[if_neg hg] at q' ⊢;simpa using q'
  | fix c =>
   obtain⟨p,rfl,hp⟩:=sm_fix hI;refine⟨_,rfl,p,_,_,_,rfl,rfl,SqT.of hp,rfl,rfl,_,rfl,iteN (by decide) ?_⟩;refine⟨_,rfl,p,_,_,_,rfl,rfl,SqT.of hp,rfl,rfl,_,rfl,iteY (by decide) ?_⟩;refine⟨_,rfl,p,_,_,_,rfl,rfl,SqT.of hp,rfl,rfl,?_⟩;have q':Q (.bl (decide (c=1))) H:=q;have e:decide (V.int c=V.int 1)=decide (c=1):=by
    by_cases z:c=1
    ·subst z;simp
    ·simp[z]
   rw[← e] at q';exact q'
  | no s1 =>
   obtain⟨p,x,rfl,hp,hx⟩:=sm_no hI;have hd1:s1.dp<d:=by have:s1.dp+1<d+1:=hd;omega
   refine⟨_,rfl,p,_,_,_,rfl,rfl,SqT.of hp,rfl,rfl,_,rfl,iteN (by decide) ?_⟩;refine⟨_,rfl,p,_,_,_,rfl,rfl,SqT.of hp,rfl,rfl,_,rfl,iteN (by decide) ?_⟩;refine⟨_,rfl,p,_,_,_,rfl,rfl,SqT.of hp,rfl,_,rfl,x,s1,g,rfl,hx,hok,hd1,?_⟩;refine⟨_,rfl,p,_,_,_,rfl,rfl,SqT.of hp,rfl,rfl,_,rfl,iteY (by decide) ?_⟩;refine⟨_,rfl,_,rfl,?_⟩;have hb:=Sm.at_bit (fun k=>g.testBit k) (s:=s1) hok;have q':Q (.bl (decide (1-s1.at (fun k=>g.testBit k)=1))) H:=q;have e:decide (1-s1.at (fun k=>g.testBit k)=1) = !decide (s1.at (fun k=>g.testBit k)=1):=by
    rcases hb with z | z <;> rw[z] <;> decide
   rw[e] at q';exact q'
  | two w s1 s2 =>
   obtain⟨p,x,y,rfl,hp,hx,hy⟩:=sm_two hI;obtain⟨hw3,ok1,ok2⟩:=hok;have hdd:s1.dp<d∧s2.dp<d:=by
    have h1:max s1.dp s2.dp+1<d+1:=hd;omega
   obtain⟨n1,n2,n3⟩:=wd_ne (w:=w);have hb1:=Sm.at_bit (fun k=>g.testBit k) (s:=s1) ok1;have hb2:=Sm.at_bit (fun k=>g.testBit k) (s:=s2) ok2;have q':Q (.bl (decide (say w (s1.at (fun k=>g.testBit k)) (s2.at (fun k=>g.testBit k))=1))) H:=q;refine⟨_,rfl,p,_,_,_,rfl,rfl,SqT.of hp,rfl,rfl,_,rfl,iteN (by simpa using n1) ?_⟩;refine⟨_,rfl,p,_,_,_,rfl,rfl,SqT.of hp,rfl,rfl,_,rfl,iteN (by simpa using n2) ?_⟩;refine⟨_,rfl,p,_,_,_,rfl,rfl,SqT.of hp,rfl,_,rfl,x,s1,g,rfl,hx,ok1,hdd.1,?_⟩;refine⟨_,rfl,p,_,_,_,rfl,rfl,SqT.of hp,rfl,rfl,_,rfl,iteN (by simpa using n3) ?_⟩;refine⟨_,rfl,p,_,_,_,rfl,rfl,SqT.of hp,rfl,_,rfl,y,s2,g,rfl,hy,ok2,hdd.2,?_⟩;generalize s1.at (fun k=>g.testBit k)=a1 at hb1 q' ⊢;generalize s2.at (fun k=>g.testBit k)=a2 at hb2 q' ⊢;obtain rfl | rfl | rfl:w=0∨w=1∨w=2:=by omega
   ·refine⟨_,rfl,p,_,_,_,rfl,rfl,SqT.of hp,rfl,rfl,_,rfl,iteY (by decide) ?_⟩;rcases hb1 with rfl | rfl <;> rcases hb2 with rfl | rfl
    ·exact⟨_,rfl,false,rfl,iteF q'⟩
    ·exact⟨_,rfl,false,rfl,iteF q'⟩
    ·exact⟨_,rfl,true,rfl,iteT ⟨_,rfl,q'⟩⟩
    ·exact⟨_,rfl,true,rfl,iteT ⟨_,rfl,q'⟩⟩
   ·refine⟨_,rfl,p,_,_,_,rfl,rfl,SqT.of hp,rfl,rfl,_,rfl,iteN (by decide) ?_⟩;refine⟨_,rfl,p,_,_,_,rfl,rfl,SqT.of hp,rfl,rfl,_,rfl,iteY (by decide) ?_⟩;rcases hb1 with rfl | rfl <;> rcases hb2 with rfl | rfl
    ·exact⟨_,rfl,false,rfl,iteF ⟨_,rfl,q'⟩⟩
    ·exact⟨_,rfl,false,rfl,iteF ⟨_,rfl,q'⟩⟩
    ·exact⟨_,rfl,true,rfl,iteT q'⟩
    ·exact⟨_,rfl,true,rfl,iteT q'⟩
   ·refine⟨_,rfl,p,_,_,_,rfl,rfl,SqT.of hp,rfl,rfl,_,rfl,iteN (by decide) ?_⟩;refine⟨_,rfl,p,_,_,_,rfl,rfl,SqT.of hp,rfl,rfl,_,rfl,iteN (by decide) ?_⟩;rcases hb1 with rfl | rfl <;> rcases hb2 with rfl | rfl
    ·exact⟨_,rfl,_,rfl,rfl,q'⟩
    ·exact⟨_,rfl,_,rfl,rfl,q'⟩
    ·exact⟨_,rfl,_,rfl,rfl,q'⟩
    ·exact⟨_,rfl,_,rfl,rfl,q'⟩
theorem ok_Z18 (T:Txt K mg):FnOk P w K mg base CX0 23 T.a_Z18 T.fd_Z18 ["_law_statement_here", "_law_given"] (spHoldsAt 22):=okr_Z18 T 22
noncomputable def spSpreadX (K:PySem.W.Frag):Sp:=fun vs H Q _=>∃ (s':Nat) (a:Addr) (ls:List Nat),vs=[.int (s':Int),.ref a]∧H a=some (.lst (natL ls))∧ls.length≤60∧(∀ x∈ls,x<60) ∧
 ∀ (H':Hp),Same H H'→Q (.int ((sprd ls s':Nat):Int)) H'
theorem sc_Z21:FnScope ["_law_s", "_law_letters_here"] ["_law_s", "_law_letters_here"] (defScope s_Z21):=⟨rfl,rfl,rfl,by decide +kernel,rfl,by decide +kernel,by decide +kernel⟩
theorem nd_Z21_2:(["_law_k", "_law_s", "_law_letters_here"]:List Str).Nodup:=by decide +kernel
theorem ok_Z21 (T:Txt K mg):FnOk P w K mg base CX0 1 T.a_Z21 T.fd_Z21 ["_law_s", "_law_letters_here"] (spSpreadX K):=by
 refine T.d_Z21.F.ok sc_Z21 (fun vs H Q E h=>?_) (fun cdv A outer s H vs Q E hr h=>?_)
 ·obtain⟨s',a,ls,rfl,hL,hl60,hl,q⟩:=h;rfl
 ·obtain⟨s',a,ls,rfl,hL,hl60,hl,q⟩:=h;have hu:=hu_of hr;refine⟨_,(pss_one (ps_ret (pe_callB (call_sumL rfl) (by rfl) T.n_sum PyProof.Rows.boot_sum (pa_cons (pe_comp (g:=(gName 0)) ["_law_k", "_law_s", "_law_letters_here"] 1 [0,1] rfl (by exact CompSc.of (defScope s_Z21) ["_law_s", "_law_letters_here"] rfl rfl rfl (by decide +kernel) rfl (by decide +kernel) (by decide +kernel)) (pi_range1 rfl T.n_range (pa_cons (pe_callB call_len_seq (by rfl) T.n_len PySem.boot_len (pa_cons (pv 1) pa_nil)) pa_nil))
    (fun cl C s₀ H₀ fp=>(pg_name (i:=0) nd_Z21_2 rfl (Or.inl rfl) (Or.inr rfl))) (fun cl C s₀ H₀ fp=>(pts_one (pt_cmpR op_eq (pe_op op_mod (pe_op op_fdivG (pv 1) (pe_op op_shl pe_int (pv 0))) pe_int) pe_int (nomark _)))) (fun cl C s₀ H₀ fp=>(pe_op op_shl pe_int (pe_ix (ix_listK K rfl) (pv 2) (pv 0) (fun _ _=>rfl))))) pa_nil)))),?_⟩
  have hll:(natL ls).length=ls.length:=by unfold natL;rw[List.length_map]
  refine⟨_,rfl,a,_,rfl,.inl (SqL.of hL),((natL ls).length:Int),rfl,by omega,by omega,?_⟩;refine comp_range (lo:=0) (n:=(natL ls).length) (fun i ys σ H2=>∃ (v0:Option V),σ = [v0,some (.int (s':Int)),some (.ref a)]∧ys=((pickN ls s' i).map fun y:Nat=>(y:Int)).map V.int∧(pickN ls s' i).length≤i∧H2=H)
   ⟨none,rfl,rfl,Nat.le_refl _,rfl⟩ (fun i ys σ H2 ⟨_,_,e,e2,_⟩=>by rw[e,List.length_map,List.length_map];exact e2) (by rw[hll];exact Nat.le_of_lt (small6 (by omega))) ?_ ?_
  ·rintro i ys σ H2 hi ⟨v0,rfl,rfl,hz,rfl⟩;rw[hll] at hi;unfold gName;have e0:(0:Int)+(i:Int)=(i:Int):=Int.zero_add _;have hlt:(2:Nat)^i<2^60:=Nat.pow_lt_pow_right (by decide) (by omega);have hpp:=Nat.two_pow_pos i;have e1:(1:Int) * 2^((0+(i:Int))).toNat=((2^i:Nat):Int):=by rw[e0,shl_eq,pow_cast]
   refine⟨_,rfl,_,rfl,_,_,rfl,rfl,⟨by omega,by omega,by decide⟩,_,_,rfl,rfl,(by rw[e1];exact divG_of (by omega) (by omega)),_,_,rfl,rfl,(by show (0:Int)<2;decide),rfl,_,rfl,?_⟩;have eb:(s':Int) / (1 * 2^((0+(i:Int))).toNat) % 2=if s'.testBit i=true then 1 else 0:=by
    rw[e1,Nat.testBit_eq_decide_div_mod_eq]
    have:((s':Int) / ((2^i:Nat):Int) % 2)=((s' / 2^i % 2:Nat):Int):=by norm_cast
    rw[this];by_cases z:s' / 2^i % 2=1
    ·simp[z]
    ·have:s' / 2^i % 2=0:=by omega
     simp[this]
   show if decide (V.int ((s':Int) / (1 * 2^((0+(i:Int))).toNat) % 2)=V.int 1)=true then _ else _
   rw[eb];have hsn:=pick_snoc ls s' i;by_cases hb:s'.testBit i=true
   ·rw[if_pos hb] at hsn ⊢;refine iteY (by decide) ?_;have hxm:ls[i]<60:=hl _ (List.getElem_mem hi);have eg:ls.getD i 0=ls[i]:=by rw[List.getD_eq_getElem?_getD,List.getElem?_eq_getElem hi];rfl
    refine⟨_,rfl,_,rfl,a,_,_,V.int ((ls[i]:Nat):Int),rfl,rfl,SqL.of hL,(by rw[e0];exact atI_nat (by unfold natL;rw[List.getElem?_map,List.getElem?_eq_getElem hi];rfl)),_,_,rfl,rfl,⟨Int.natCast_nonneg _,by omega,by decide⟩,_,rfl,?_,(by rw[hsn,List.length_append];show _+1≤i+1;omega),rfl⟩;dsimp only;rw[hsn,List.map_append,List.map_append,shl_eq,pow_cast,eg];rfl
   ·rw[if_neg hb] at hsn ⊢;rw[List.append_nil] at hsn;exact iteN (by decide) ⟨_,rfl,by rw[hsn],by rw[hsn];omega,rfl⟩
  ·rintro ys σ H2 ⟨v0,rfl,rfl,hz,rfl⟩ D hD;refine⟨D,_,rfl,SqL.of upd_same,?_⟩;have e:∀ zs:List Nat,(zs.map fun y:Nat=>(y:Int)).sum=((zs.sum:Nat):Int):=fun zs=>by
    induction zs with
    | nil=>rfl
    | cons z r ih=>rw[List.map_cons,List.sum_cons,List.sum_cons,ih];norm_cast
   rw[e,hll,pick_sum];exact q _ (Same.upd hD)
noncomputable def tolds (s:Sm) (ls:List Nat):List Int:=(List.range (2^ls.length)).map fun r:Nat=>s.at fun k=>(sprd ls r).testBit k
noncomputable def spTold (K:PySem.W.Frag):Sp:=fun vs H Q _=>∃ (v:V) (b:Addr) (s:Sm) (ls:List Nat),vs=[v,.ref b]∧Is H v s.d∧s.ok (fun k=>k∈ls)∧s.dp≤20∧H b=some (.lst (natL ls))∧ls.length≤5∧(∀ x∈ls,x<16) ∧
 ∀ (D:Addr) (H':Hp),H D=none→H' D=some (.lst ((tolds s ls).map V.int))→Same H H'→Q (.ref D) H'
theorem sc_Z23:FnScope ["_law_statement_here", "_law_letters_here"] ["_law_statement_here", "_law_letters_here"] (defScope s_Z23):=⟨rfl,rfl,rfl,by decide +kernel,rfl,by decide +kernel,by decide +kernel⟩
theorem nd_Z23_1:(["_law_s", "_law_statement_here", "_law_letters_here"]:List Str).Nodup:=by decide +kernel
theorem ok_Z23 (T:Txt K mg):FnOk P w K mg base CX0 24 T.a_Z23 T.fd_Z23 ["_law_statement_here", "_law_letters_here"] (spTold K):=by
 refine T.d_Z23.F.ok sc_Z23 (fun vs H Q E h=>?_) (fun cdv A outer s H vs Q E hr h=>?_)
 ·obtain⟨v,b,s',ls,rfl,hI,hok,hdp,hL,h5,h16,q⟩:=h;rfl
 ·obtain⟨v,b,s',ls,rfl,hI,hok,hdp,hL,h5,h16,q⟩:=h;have hu:=hu_of hr;refine⟨_,(pss_one (ps_ret (pe_comp (g:=(gName 0)) ["_law_s", "_law_statement_here", "_law_letters_here"] 1 [0,1] rfl (by exact CompSc.of (defScope s_Z23) ["_law_statement_here", "_law_letters_here"] rfl rfl rfl (by decide +kernel) rfl (by decide +kernel) (by decide +kernel)) (pi_range1 rfl T.n_range (pa_cons (pe_op op_shl pe_int (pe_callB call_len_seq (by rfl) T.n_len PySem.boot_len (pa_cons (pv 1) pa_nil))) pa_nil))
    (fun cl C s₀ H₀ fp=>(pg_name (i:=0) nd_Z23_1 rfl (Or.inl rfl) (Or.inr rfl))) (fun cl C s₀ H₀ fp=>pts_nil) (fun cl C s₀ H₀ fp=>(pe_callTy call_int1 rfl T.n_int PyProof.Rows.boot_int (pa_cons (pe_call (ok_Z18 (P:=P) (w:=w) (base:=base) T) hr (by rfl) T.d_Z18.m T.d_Z18.F.kp T.d_Z18.b .nil pass0 (pa_cons (pv 1) (pa_cons (pe_call (ok_Z21 (P:=P) (w:=w) (base:=base) T) (hr.mono (by decide)) (by rfl) T.d_Z21.m T.d_Z21.F.kp T.d_Z21.b .nil pass0 (pa_cons (pv 0) (pa_cons (pv 2) pa_nil))) pa_nil))) pa_nil)))))),?_⟩
  have hlx:(natL ls).length=ls.length:=by unfold natL;rw[List.length_map]
  have ok16:s'.ok (fun k=>k<16):=Sm.ok.imp (fun k hk=>h16 k hk) hok;have e1:(1:Int) * 2^(((natL ls).length:Int)).toNat=((2^ls.length:Nat):Int):=by rw[hlx,shl_eq,pow_cast]
  have hmx:(2:Nat)^ls.length≤2^5:=Nat.pow_le_pow_right (by decide) h5;have hpn:(0:Int)≤((2^ls.length:Nat):Int):=Int.natCast_nonneg _;refine⟨_,rfl,b,_,rfl,.inl (SqL.of hL),_,_,rfl,rfl,⟨Int.natCast_nonneg _,by rw[hlx];omega,by decide⟩,((2^ls.length:Nat):Int),(by dsimp only;rw[e1]),by omega,by omega,?_⟩;refine comp_range (lo:=0) (n:=((2^ls.length:Nat):Int).toNat) (fun i ys σ G=>∃ v0:Option V,σ = [v0,some v,some (.ref b)]∧ys=((List.range i).map fun r:Nat=>s'.at fun k=>(sprd ls r).testBit k).map V.int∧Same H G)
   ⟨none,rfl,rfl,Same.refl _⟩ (fun i ys σ G ⟨_,_,e,_⟩=>by rw[e];simp) (by rw[Int.toNat_natCast];exact Nat.le_of_lt (small6 (by omega))) ?_ ?_
  ·rintro i ys σ G hi ⟨v0,rfl,rfl,sG⟩;unfold gName;refine tt ?_;refine⟨_,rfl,_,rfl,_,rfl,i,b,ls,(by rw[Int.zero_add];rfl),sG _ _ hL,by omega,(fun x hx=>by have:=h16 x hx;omega),fun G2 s2=>?_⟩;have hI2:=(hI.keep sG).keep s2;refine⟨v,s',sprd ls i,rfl,hI2,ok16,by omega,?_⟩;have hb:=Sm.at_bit (fun k=>(sprd ls i).testBit k) ok16;have eb:(if decide (s'.at (fun k=>(sprd ls i).testBit k)=1)=true then (1:Int) else 0)=s'.at fun k=>(sprd ls i).testBit k:=by
    rcases hb with z | z <;> rw[z] <;> decide
   refine .inr ⟨_,rfl,_,rfl,?_,sG.trans s2⟩;rw[List.range_succ,List.map_append,List.map_append,eb];rfl
  ·rintro ys σ G ⟨v0,rfl,rfl,sG⟩ D hD;rw[Int.toNat_natCast];exact q D _ (sG.free hD) upd_same (sG.trans (Same.upd hD))
noncomputable def spTurned (d:Nat):Sp:=fun vs H Q _=>∃ (v:V) (s:Sm),vs=[v]∧Is H v s.d∧s.ok (fun k=>k<16)∧s.dp<d∧∀ (v':V) (H':Hp),Is H' v' s.trn.d→Same H H'→Q v' H'
theorem sc_Z24:FnScope ["_law_statement_here"] ["_law_statement_here"] (defScope s_Z24):=⟨rfl,rfl,rfl,by decide +kernel,rfl,by decide +kernel,by decide +kernel⟩
theorem okr_Z24 (T:Txt K mg) (d:Nat):FnOk P w K mg base CX0 (1+d) T.a_Z24 T.fd_Z24 ["_law_statement_here"] (spTurned d):=by
 induction d with
 | zero=>exact T.d_Z24.F.ok sc_Z24 (fun vs H Q E h=>by obtain⟨v,s',rfl,hI,hok,hd,q⟩:=h;exact absurd hd (Nat.not_lt_zero _)) (fun cdv A outer s H vs Q E hr h=>by obtain⟨v,s',rfl,hI,hok,hd,q⟩:=h;exact absurd hd (Nat.not_lt_zero _))
 | succ d ih =>
 refine T.d_Z24.F.ok (k:=1+d) sc_Z24 (fun vs H Q E h=>?_) (fun cdv A outer s H vs Q E hr h=>?_)
 ·obtain⟨v,s',rfl,hI,hok,hd,q⟩:=h;rfl
 ·obtain⟨v,s',rfl,hI,hok,hd,q⟩:=h;have hu:=hu_of hr;refine⟨_,(pss_cons (ps_if (pt_cmpR op_in_seq (pe_ix ix_tup (pv 0) pe_int (fun _ _=>rfl)) (pe_lst (pa_cons pe_str (pa_cons pe_str (pa_cons pe_str pa_nil)))) rfl) (pss_one (ps_ret (pe_tup (pa_cons (pe_ix ix_tup (pv 0) pe_int (fun _ _=>rfl)) (pa_cons (pe_call ih hr (by rfl) T.d_Z24.m T.d_Z24.F.kp T.d_Z24.b .nil pass0 (pa_cons (pe_ix ix_tup (pv 0) pe_int (fun _ _=>rfl)) pa_nil)) (pa_cons (pe_call ih hr (by rfl) T.d_Z24.m T.d_Z24.F.kp T.d_Z24.b .nil pass0 (pa_cons (pe_ix ix_tup (pv 0) pe_int (fun _ _=>rfl)) pa_nil)) pa_nil)))))) pss_nil)
   (pss_cons (ps_if (pt_cmpR op_eq (pe_ix ix_tup (pv 0) pe_int (fun _ _=>rfl)) pe_str (nomark _)) (pss_one (ps_ret (pe_tup (pa_cons pe_str (pa_cons (pe_call ih hr (by rfl) T.d_Z24.m T.d_Z24.F.kp T.d_Z24.b .nil pass0 (pa_cons (pe_ix ix_tup (pv 0) pe_int (fun _ _=>rfl)) pa_nil)) pa_nil))))) pss_nil)
   (pss_one (ps_ret (pe_tup (pa_cons pe_str (pa_cons (pe_tup (pa_cons pe_str (pa_cons (pv 0) pa_nil))) pa_nil))))))),?_⟩
  cases s' with
  | bit k =>
   obtain⟨p,rfl,hp⟩:=sm_bit hI;refine⟨_,rfl,p,_,_,_,rfl,rfl,SqT.of hp,rfl,(by show 3≤sizeLine;decide),fun l hl=>?_⟩;have z1:Same H (upd H l (.lst [.str "and",.str "or",.str "xor"])):=Same.upd hl;refine⟨l,_,rfl,.inl (SqL.of upd_same),rfl,rfl,_,rfl,iteN (by decide) ?_⟩;generalize upd H l (.lst [.str "and",.str "or",.str "xor"])=H1 at z1;refine⟨_,rfl,p,_,_,_,rfl,rfl,SqT.of (z1 _ _ hp),rfl,rfl,_,rfl,iteN (by decide) ?_⟩;refine⟨_,rfl,(by show 2≤sizeLine;decide),fun t1 ht1=>⟨(by show 2≤sizeLine;decide),fun t2 ht2=>?_⟩⟩;have z2:Same H1 (upd H1 t1 (.tup [.str "not",.ref p])):=Same.upd ht1;have w2:upd H1 t1 (.tup [.str "not",.ref p]) t1=some (.tup [.str "not",.ref p]):=upd_same;generalize upd H1 t1 (.tup [.str "not",.ref p])=H2 at z2 w2 ht2;have z3:Same H2 (upd H2 t2 (.tup [.str "not",.ref t1])):=Same.upd ht2;exact q _ _ (mk_tup2 upd_same (is_str.mpr rfl) (mk_tup2 (z3 _ _ w2) (is_str.mpr rfl) (hI.keep (z1.trans (z2.trans z3))))) (z1.trans (z2.trans z3))
  | fix k =>
   obtain⟨p,rfl,hp⟩:=sm_fix hI;refine⟨_,rfl,p,_,_,_,rfl,rfl,SqT.of hp,rfl,(by show 3≤sizeLine;decide),fun l hl=>?_⟩;have z1:Same H (upd H l (.lst [.str "and",.str "or",.str "xor"])):=Same.upd hl;refine⟨l,_,rfl,.inl (SqL.of upd_same),rfl,rfl,_,rfl,iteN (by decide) ?_⟩;generalize upd H l (.lst [.str "and",.str "or",.str "xor"])=H1 at z1;refine⟨_,rfl,p,_,_,_,rfl,rfl,SqT.of (z1 _ _ hp),rfl,rfl,_,rfl,iteN (by decide) ?_⟩;refine⟨_,rfl,(by show 2≤sizeLine;decide),fun t1 ht1=>⟨(by show 2≤sizeLine;decide),fun t2 ht2=>?_⟩⟩;have z2:Same H1 (upd H1 t1 (.tup [.str "not",.ref p])):=Same.upd ht1;have w2:upd H1 t1 (.tup [.str "not",.ref p]) t1=some (.tup [.str "not",.ref p]):=upd_same;generalize upd H1 t1 (.tup [.str "not",.ref p])=H2 at z2 w2 ht2;have z3:Same H2 (upd H2 t2 (.tup [.str "not",.ref t1])):=Same.upd ht2;exact q _ _ (mk_tup2 upd_same (is_str.mpr rfl) (mk_tup2 (z3 _ _ w2) (is_str.mpr rfl) (hI.keep (z1.trans (z2.trans z3))))) (z1.trans (z2.trans z3))
  | no s1 =>
   obtain⟨p,x,rfl,hp,hx⟩:=sm_no hI;have hd1:s1.dp<d:=by have:s1.dp+1<d+1:=hd;omega
   refine⟨_,rfl,p,_,_,_,rfl,rfl,SqT.of hp,rfl,(by show 3≤sizeLine;decide),fun l hl=>?_⟩;have z1:Same H (upd H l (.lst [.str "and",.str "or",.str "xor"])):=Same.upd hl;refine⟨l,_,rfl,.inl (SqL.of upd_same),rfl,rfl,_,rfl,iteN (by decide) ?_⟩;generalize upd H l (.lst [.str "and",.str "or",.str "xor"])=H1 at z1;refine⟨_,rfl,p,_,_,_,rfl,rfl,SqT.of (z1 _ _ hp),rfl,rfl,_,rfl,iteY (by decide) ?_⟩;refine⟨_,rfl,p,_,_,_,rfl,rfl,SqT.of (z1 _ _ hp),rfl,x,s1,rfl,hx.keep z1,hok,hd1,fun v1 H2 h2 z2=>⟨(by show 2≤sizeLine;decide),fun t ht=>?_⟩⟩;have z3:Same H2 (upd H2 t (.tup [.str "not",v1])):=Same.upd ht;exact q _ _ (mk_tup2 upd_same (is_str.mpr rfl) (h2.keep z3)) (z1.trans (z2.trans z3))
  | two w s1 s2 =>
   obtain⟨p,x,y,rfl,hp,hx,hy⟩:=sm_two hI;obtain⟨hw,ok1,ok2⟩:=hok;have hdd:s1.dp<d∧s2.dp<d:=by have:max s1.dp s2.dp+1<d+1:=hd;omega
   refine⟨_,rfl,p,_,_,_,rfl,rfl,SqT.of hp,rfl,(by show 3≤sizeLine;decide),fun l hl=>?_⟩;have z1:Same H (upd H l (.lst [.str "and",.str "or",.str "xor"])):=Same.upd hl;have hin:(if false=true then !inV (V.str (wd w)) [.str "and",.str "or",.str "xor"] else inV (V.str (wd w)) [.str "and",.str "or",.str "xor"])=true:=by
    obtain rfl | rfl | rfl:w=0∨w=1∨w=2:=by omega
    ·decide
    ·decide
    ·decide
   refine⟨l,_,rfl,.inl (SqL.of upd_same),rfl,rfl,_,rfl,iteY hin ?_⟩;generalize upd H l (.lst [.str "and",.str "or",.str "xor"])=H1 at z1;refine⟨_,rfl,p,_,_,_,rfl,rfl,SqT.of (z1 _ _ hp),rfl,_,rfl,p,_,_,_,rfl,rfl,SqT.of (z1 _ _ hp),rfl,y,s2,rfl,hy.keep z1,ok2,hdd.2,fun v1 H2 h2 z2=>?_⟩;have z12:=z1.trans z2;refine⟨_,rfl,p,_,_,_,rfl,rfl,SqT.of (z12 _ _ hp),rfl,x,s1,rfl,hx.keep z12,ok1,hdd.1,fun v2 H3 h3 z3=>⟨(by show 3≤sizeLine;decide),fun t ht=>?_⟩⟩;have z4:Same H3 (upd H3 t (.tup [.str (wd w),v1,v2])):=Same.upd ht;exact q _ _ (mk_tup3 upd_same (is_str.mpr rfl) (h2.keep (z3.trans z4)) (h3.keep z4)) (z12.trans (z3.trans z4))
theorem ok_Z24 (T:Txt K mg):FnOk P w K mg base CX0 23 T.a_Z24 T.fd_Z24 ["_law_statement_here"] (spTurned 22):=okr_Z24 T 22
noncomputable def spPartsOf:Sp:=fun vs H Q _=>∃ (v:V) (s:Sm),vs=[v]∧Is H v s.d∧s.dp≤20∧∀ (D:Addr) (xs:List V) (H':Hp),H D=none→H' D=some (.lst xs)→Smr H xs s.pre→Same H H'→Q (.ref D) H'
theorem sc_Z31:FnScope ["statement", "parts", "waiting", "part"] ["statement"] (defScope s_Z31):=⟨rfl,rfl,rfl,by decide +kernel,rfl,by decide +kernel,by decide +kernel⟩
theorem ok_Z31 (T:Txt K mg):FnOk P w K mg base CX0 1 T.a_Z31 T.fd_Z31 ["statement"] spPartsOf:=by
 refine T.d_Z31.F.ok sc_Z31 (fun vs H Q E h=>?_) (fun cdv A outer s H vs Q E hr h=>?_)
 ·obtain⟨v,s',rfl,hI,hdp,q⟩:=h;rfl
 ·obtain⟨v,s',rfl,hI,hdp,q⟩:=h;have hu:=hu_of hr;refine⟨_,(pss_cons (ps_set (i:=1) sc_Z31.nd rfl (Or.inl rfl) (pe_lst pa_nil))
   (pss_cons (ps_set (i:=2) sc_Z31.nd rfl (Or.inl rfl) (pe_lst (pa_cons (pv 0) pa_nil)))
   (pss_cons (ps_while PassesOwn.never (pt_truth (pv 2) (fun _=>rfl)) (pss_cons (ps_set (i:=3) sc_Z31.nd rfl (Or.inl rfl) (pe_bm0 PySem.F.plainAttrs_list PySem.F.slot_list_pop PySem.F.type_list_pop mt_pop (pv 2)))
   (pss_cons (ps_expr (pe_bm PySem.F.plainAttrs_list PySem.F.slot_list_append PySem.F.type_list_append mt_append (pv 1) (pa_cons (pv 3) pa_nil)))
   (pss_one (ps_if (PW.pt (pw_or (pt_cmpR op_eq (pe_ix ix_tup (pv 3) pe_int (fun _ _=>rfl)) pe_str (nomark _)) (pw_or1 (pt_cmpR op_in_seq (pe_ix ix_tup (pv 3) pe_int (fun _ _=>rfl)) (pe_glob (v := .ref T.a_JOINING) (by rfl) T.g_JOINING rfl) rfl)))) (pss_one (ps_expr (pe_bm PySem.F.plainAttrs_list PySem.F.slot_list_extend PySem.F.type_list_extend mt_extendT (pv 2) (pa_cons (pe_slice sl_tup (pv 3) (po_some pe_int) po_none) pa_nil)))) pss_nil)))))
   (pss_one (ps_ret (pv 1)))))),?_⟩
  refine⟨Nat.zero_le _,fun D hD=>?_⟩;refine⟨_,rfl,(by show 1≤sizeLine;decide),fun W hW=>?_⟩;have s0:Same H (upd H D (.lst [])):=Same.upd hD;have s1:Same (upd H D (.lst [])) (upd (upd H D (.lst [])) W (.lst [v])):=Same.upd hW;have hDW:D≠W:=fun z=>by rw[← z,upd_same] at hW;cases hW
  have hW0:H W=none:=s0.free hW;refine⟨fun m σ G=>∃ (ps ws:List V) (dn td:List Sm) (v3:Option V),σ = [some v,some (.ref D),some (.ref W),v3]∧G D=some (.lst ps)∧G W=some (.lst ws)∧Smr H ps dn∧Smr H ws td∧dn++(td.reverse.flatMap Sm.pre)=s'.pre∧(td.map Sm.sz).sum=m∧Same H G,
   ⟨s'.sz,[],[v],[],[s'],none,rfl,s1 _ _ upd_same,upd_same,.nil,.cons hI .nil,by simp,by simp,s0.trans s1⟩,?_⟩
  rintro m σ G ⟨ps,ws,dn,td,v3,rfl,g1,g2,g3,g4,g5,g6,sG⟩;refine⟨_,rfl,_,.inl ⟨ws,SqL.of g2,rfl⟩,?_⟩;have hpl:ps.length=dn.length:=Paired.length g3;have hdl:dn.length+(td.reverse.flatMap Sm.pre).length=s'.sz:=by rw[← Sm.pre_len,← g5,List.length_append]
  have hsm:=pre_small hdp;by_cases hne:ws=[]
  ·refine iteN (by rw[hne];simp) ?_;have e:td=[]:=by subst hne;cases g4;rfl
   subst e;exact⟨_,rfl,q D ps G hD g1 (by rw[← g5];simpa using g3) sG⟩
  ·refine iteY (by simpa using hne) ?_;obtain⟨ys,y,td',p,rfl,rfl,h1,h2⟩:=Smr.last g4 hne;have hyl:ys.length=td'.length:=Paired.length h1;have htl:td'.length+p.sz≤((td' ++ [p]).reverse.flatMap Sm.pre).length:=by
    rw[List.reverse_append,List.reverse_singleton,List.singleton_append,List.flatMap_cons,List.length_append,Sm.pre_len]
    have:∀ l:List Sm,l.length≤(l.flatMap Sm.pre).length:=fun l=>by
     induction l with
     | nil=>exact Nat.le_refl _
     | cons a l ih =>
      rw[List.flatMap_cons,List.length_append,Sm.pre_len,List.length_cons]
      have:=a.sz_pos
      omega
    have:=this td'.reverse
    rw[List.length_reverse] at this;omega
   have hpz:=p.sz_pos;refine⟨_,fun σ' G' z=>z,?_⟩;refine⟨_,rfl,.inl ⟨rfl,_,SqL.of g2⟩,W,ys ++ [y],y,rfl,rfl,g2,(by simp),?_⟩;have sG1:=sG.write (o := .lst (ys ++ [y]).dropLast) hW0;have w1:upd G W (.lst (ys ++ [y]).dropLast) W=some (.lst ys):=by rw[upd_same,List.dropLast_concat]
   have w2:upd G W (.lst (ys ++ [y]).dropLast) D=some (.lst ps):=by rw[upd_ne hDW];exact g1
   generalize upd G W (.lst (ys ++ [y]).dropLast)=G1 at sG1 w1 w2 ⊢;refine⟨_,rfl,.inl ⟨rfl,_,SqL.of w2⟩,_,rfl,D,_,_,rfl,rfl,w2,small21 (by omega),?_⟩;have sG2:=sG1.write (o := .lst (ps ++ [y])) hD;have w3:upd G1 D (.lst (ps ++ [y])) D=some (.lst (ps ++ [y])):=upd_same;have w4:upd G1 D (.lst (ps ++ [y])) W=some (.lst ys):=by rw[upd_ne (Ne.symm hDW)];exact w1
   generalize upd G1 D (.lst (ps ++ [y]))=G2 at sG2 w3 w4 ⊢;have hps:=Smr.snoc g3 h2;cases p with
   | bit k =>
    obtain⟨p,rfl,hp⟩:=sm_bit (h2.keep sG2);refine⟨_,rfl,p,_,_,_,rfl,rfl,SqT.of hp,rfl,rfl,_,rfl,iteN (by decide) ?_⟩;refine⟨_,rfl,p,_,_,_,rfl,rfl,SqT.of hp,rfl,T.a_JOINING,_,rfl,.inr (T.q_JOINING _),rfl,rfl,_,rfl,iteN (by decide) ?_⟩;refine⟨(td'.map Sm.sz).sum,?_,ps ++ [.ref p],ys,dn ++ [.bit k],td',_,rfl,w3,w4,hps,h1,?_,rfl,sG2⟩
    ·rw[← g6,List.map_append,List.sum_append];simp[Sm.sz]
    ·rw[← g5,List.reverse_append];simp[Sm.pre]
   | fix c =>
    obtain⟨p,rfl,hp⟩:=sm_fix (h2.keep sG2);refine⟨_,rfl,p,_,_,_,rfl,rfl,SqT.of hp,rfl,rfl,_,rfl,iteN (by decide) ?_⟩;refine⟨_,rfl,p,_,_,_,rfl,rfl,SqT.of hp,rfl,T.a_JOINING,_,rfl,.inr (T.q_JOINING _),rfl,rfl,_,rfl,iteN (by decide) ?_⟩;refine⟨(td'.map Sm.sz).sum,?_,ps ++ [.ref p],ys,dn ++ [.fix c],td',_,rfl,w3,w4,hps,h1,?_,rfl,sG2⟩
    ·rw[← g6,List.map_append,List.sum_append];simp[Sm.sz]
    ·rw[← g5,List.reverse_append];simp[Sm.pre]
   | no s1 =>
    obtain⟨p,x,rfl,hp,hx⟩:=sm_no (h2.keep sG2);have hxH:Is H x s1.d:=by
     obtain⟨p',x',e',hp',hx'⟩:=sm_no h2;cases e'
     have:=sG2 _ _ hp'
     rw[hp] at this;cases this;exact hx'
    refine⟨_,rfl,p,_,_,_,rfl,rfl,SqT.of hp,rfl,rfl,_,rfl,iteY (by decide) (iteT ?_)⟩;refine⟨_,rfl,.inl ⟨rfl,_,SqL.of w4⟩,_,rfl,_,rfl,p,_,rfl,SqT.of hp,(by show ¬ (1=0∧_);exact fun z=>absurd z.1 (by decide)),fun t ht=>?_⟩;have st:Same G2 (upd G2 t (.tup [x])):=Same.upd ht;have wt:upd G2 t (.tup [x]) t=some (.tup [x]):=upd_same;refine⟨W,t,ys,[x],rfl,rfl,st _ _ w4,SqT.of wt,(by show ys.length+1≤sizeLine;exact small21 (by omega)),?_⟩;refine⟨((td' ++ [s1]).map Sm.sz).sum,?_,ps ++ [.ref p],ys ++ [x],dn ++ [.no s1],td' ++ [s1],_,rfl,(by rw[upd_ne hDW];exact st _ _ w3),upd_same,hps,Smr.snoc h1 hxH,?_,rfl,(sG2.trans st).write hW0⟩
    ·rw[← g6,List.map_append,List.map_append,List.sum_append,List.sum_append];simp[Sm.sz]
    ·rw[← g5,List.reverse_append,List.reverse_append];simp[Sm.pre]
   | two j s1 s2 =>
    obtain⟨p,x,z,rfl,hp,hx,hz⟩:=sm_two (h2.keep sG2);obtain⟨hxH,hzH⟩:Is H x s1.d∧Is H z s2.d:=by
     obtain⟨p',x',z',e',hp',hx',hz'⟩:=sm_two h2;cases e'
     have:=sG2 _ _ hp'
     rw[hp] at this;cases this;exact⟨hx',hz'⟩
    obtain⟨n1,n2,n3⟩:=wd_ne (w:=j);have hsz:(Sm.two j s1 s2).sz=s1.sz+s2.sz+1:=rfl;have hz1:=s1.sz_pos;have hz2:=s2.sz_pos;refine⟨_,rfl,p,_,_,_,rfl,rfl,SqT.of hp,rfl,rfl,_,rfl,iteN (by simpa using n3) ?_⟩;refine⟨_,rfl,p,_,_,_,rfl,rfl,SqT.of hp,rfl,T.a_JOINING,_,rfl,.inr (T.q_JOINING _),rfl,rfl,_,rfl,iteY (wd_in j) ?_⟩;refine⟨_,rfl,.inl ⟨rfl,_,SqL.of w4⟩,_,rfl,_,rfl,p,_,rfl,SqT.of hp,(by show ¬ (1=0∧_);exact fun z=>absurd z.1 (by decide)),fun t ht=>?_⟩;have st:Same G2 (upd G2 t (.tup [x,z])):=Same.upd ht;have wt:upd G2 t (.tup [x,z]) t=some (.tup [x,z]):=upd_same;refine⟨W,t,ys,[x,z],rfl,rfl,st _ _ w4,SqT.of wt,(by show ys.length+2≤sizeLine;exact small21 (by omega)),?_⟩;refine⟨((td' ++ [s1,s2]).map Sm.sz).sum,?_,ps ++ [.ref p],ys ++ [x,z],dn ++ [.two j s1 s2],td' ++ [s1,s2],_,rfl,(by rw[upd_ne hDW];exact st _ _ w3),upd_same,hps,?_,?_,rfl,(sG2.trans st).write hW0⟩
    ·rw[← g6,List.map_append,List.map_append,List.sum_append,List.sum_append];simp[Sm.sz]
    ·have:=Smr.snoc (Smr.snoc h1 hxH) hzH
     rwa [List.append_assoc,List.append_assoc] at this
    ·rw[← g5,List.reverse_append,List.reverse_append];simp[Sm.pre]
theorem sc_Z6:FnScope ["numbers"] ["numbers"] (defScope s_Z6):=⟨rfl,rfl,rfl,by decide +kernel,rfl,by decide +kernel,by decide +kernel⟩
theorem nd_Z6_1:(["members", "numbers"]:List Str).Nodup:=by decide +kernel
theorem ok_Z6 (T:Txt K mg):FnOk P w K mg base CX0 1 T.a_Z6 T.fd_Z6 ["numbers"] spFormFrom:=by
 refine T.d_Z6.F.ok sc_Z6 (fun vs H Q E h=>?_) (fun cdv A outer s H vs Q E hr h=>?_)
 ·obtain⟨d,dd,rfl,hd,hnd,hlen,q⟩:=h;rfl
 ·obtain⟨d,dd,rfl,hd,hnd,hlen,q⟩:=h;have hu:=hu_of hr;refine⟨_,(pss_one (ps_ret (pe_comp (g:=(gName 0)) ["members", "numbers"] 1 [0] rfl (by exact CompSc.of (defScope s_Z6) ["numbers"] rfl rfl rfl (by decide +kernel) rfl (by decide +kernel) (by decide +kernel)) (pi_list (pe_callB (call_sortedD rfl) (by rfl) T.n_sorted PyProof.Rows.boot_sorted (pa_cons (pv 0) pa_nil)))
    (fun cl C s₀ H₀ fp=>(pg_name (i:=0) nd_Z6_1 rfl (Or.inl rfl) (Or.inr rfl))) (fun cl C s₀ H₀ fp=>(pts_one (pt_cmpR op_ne (pe_dget hu (pv 1) (pv 0) (fun _ _=>rfl)) pe_int (nomark _)))) (fun cl C s₀ H₀ fp=>(pe_tup (pa_cons (pv 0) (pa_cons (pe_dget hu (pv 1) (pv 0) (fun _ _=>rfl)) pa_nil))))))),?_⟩
  refine⟨_,rfl,d,_,dd.map (·.1),rfl,hd,keys_enc dd,fun e ks he hperm hsort=>?_⟩;have hed:d≠e:=ne_of_none hd he;refine⟨e,rfl,⟨_,SqL.of upd_same⟩,?_⟩;have hkl:ks.length≤100000:=by have:=hperm.length_eq;rw[List.length_map] at this;omega
  refine comp_list (K:=K) (a:=e) (xs:=ks.map V.int) (fun i ys σ H2=>∃ (v0:Option V) (qs:List Addr),σ = [v0,some (.ref d)]∧ys=qs.map V.ref∧Tups H2 qs (formOf dd (ks.take i))∧H2 d=some (.dK (dd.map encP))∧H2 e=some (.lst (ks.map V.int))∧Same H H2)
   ⟨none,[],rfl,rfl,.nil,(by rw[upd_ne hed];exact hd),upd_same,Same.upd he⟩ (fun i ys σ H2 hi ⟨_,qs,_,e1,e2,_,e4,_⟩=>⟨SqL.of e4,by
    rw[e1,List.length_map,e2.length]
    have:=formOf_length dd (ks.take i)
    rw[List.length_take] at this;omega⟩) (by rw[List.length_map];exact Nat.le_of_lt (small6 (by omega))) ?_ ?_
  ·rintro i y ys σ H2 hi ⟨v0,qs,rfl,rfl,g2,g3,g4,g5⟩;obtain⟨k,hki,rfl⟩:=at_int hi;have hkm:k∈dd.map (·.1):=hperm.mem_iff.mp (List.mem_of_getElem? hki);obtain⟨v,hv⟩:∃ v,look dd k=some v:=by
    cases e:look dd k with
    | none=>exact absurd e (look_mem.mpr hkm)
    | some v=>exact⟨v,rfl⟩
   have hgv:getI dd k=v:=by unfold getI;rw[hv];rfl
   have htk:ks.take (i+1)=ks.take i ++ [k]:=by rw[List.take_add_one,hki];rfl
   have hget:∀ {H3:Hp},H3 d=some (.dK (dd.map encP))→DGet H3 d (.int k) (some (.int v)):=fun {H3} z=>by
    have:=DGet.k (k:=Sum.inl k) z
    rw[valV_enc,hv] at this;exact this
   refine⟨_,rfl,_,rfl,d,_,rfl,hget g3,rfl,_,rfl,?_⟩;by_cases hv0:v=0
   ·subst hv0;refine iteNS rfl ⟨_,qs,rfl,rfl,?_,g3,g4,g5⟩
    have:formOf dd (ks.take (i+1))=formOf dd (ks.take i):=by
     rw[htk];unfold formOf;rw[List.filter_append,List.map_append];simp[hgv]
    rw[this];exact g2
   ·have hne:¬ (V.int v=V.int 0):=fun z=>hv0 (by injection z)
    rw[decide_eq_false hne];refine iteT ?_;refine⟨_,rfl,_,rfl,_,rfl,d,_,rfl,hget g3,(by show 2≤sizeLine;decide),fun t ht=>?_⟩;have s3:Same H2 (upd H2 t (.tup [.int k,.int v])):=Same.upd ht;refine⟨_,qs ++ [t],rfl,(by rw[List.map_append];rfl),?_,s3 _ _ g3,s3 _ _ g4,g5.trans s3⟩
    have:formOf dd (ks.take (i+1))=formOf dd (ks.take i) ++ [(k,v)]:=by
     rw[htk];unfold formOf;rw[List.filter_append,List.map_append];simp[hgv,hv0]
    rw[this];exact Tups.snoc (g2.keep fun b xs z=>s3 b _ z) upd_same
  ·rintro ys σ H2 ⟨v0,qs,rfl,rfl,g2,g3,g4,g5⟩ D hD;rw[List.length_map,List.take_length] at g2;have s3:Same H2 (upd H2 D (.lst (qs.map V.ref))):=Same.upd hD;exact q D ks _ (g5.free hD) ⟨qs,upd_same,g2.keep fun b xs z=>s3 b _ z⟩ hperm hsort (g5.trans s3)
theorem sc_Z27:FnScope ["some", "numbers", "members", "number"] ["some"] (defScope s_Z27):=⟨rfl,rfl,rfl,by decide +kernel,rfl,by decide +kernel,by decide +kernel⟩
theorem ok_Z27 (T:Txt K mg):FnOk P w K mg base CX0 2 T.a_Z27 T.fd_Z27 ["some"] (spForm K):=by
 refine T.d_Z27.F.ok sc_Z27 (fun vs H Q E h=>?_) (fun cdv A outer s H vs Q E hr h=>?_)
 ·obtain⟨a,l,rfl,⟨ps,hS,hT⟩,hlen,q⟩:=h;rfl
 ·obtain⟨a,l,rfl,⟨ps,hS,hT⟩,hlen,q⟩:=h;have hu:=hu_of hr;refine⟨_,(pss_cons (ps_set (i:=1) sc_Z27.nd rfl (Or.inl rfl) pe_dnewK)
   (pss_cons (ps_for PassesOwn.never rfl (pi_list (pv 0)) (pg_tup (n:=2) rfl (pgs_cons (pg_name (i:=2) sc_Z27.nd rfl (Or.inl rfl)) (pgs_cons (pg_name (i:=3) sc_Z27.nd rfl (Or.inl rfl)) pgs_nil)))
    (pss_one (ps_dput hu (pv 1) (pv 2) (pe_op op_add (pe_dget2 hu (pv 1) (pv 2) pe_int ⟨rfl,rfl,rfl,rfl⟩) (pv 3)) rfl)))
   (pss_one (ps_ret (pe_call (ok_Z6 (P:=P) (w:=w) (base:=base) T) hr (by rfl) T.d_Z6.m T.d_Z6.F.kp T.d_Z6.b .nil pass0 (pa_cons (pv 1) pa_nil)))))),?_⟩
  intro d hd;have s0:Same H (upd H d (.dK [])):=Same.upd hd;refine⟨_,rfl,a,rfl,⟨_,s0.seq hS⟩,?_⟩;refine for_list (K:=K) (a:=a) (xs:=ps.map V.ref) (fun i σ H2=>∃ (dd:Terms) (v2 v3:Option V),σ = [some (.ref a),some (.ref d),v2,v3]∧H2=upd H d (.dK (dd.map encP))∧DictOf dd (l.take i))
   ⟨[],none,none,rfl,rfl,dictOf_nil⟩ (fun i σ H2 _ ⟨_,_,_,_,e,_⟩=>by rw[e];exact (Same.upd hd).seq hS) ?_ ?_
  ·rintro i y σ H2 hi ⟨dd,v2,v3,rfl,rfl,hdd⟩;obtain⟨p,hpi,rfl⟩:=at_ref hi;obtain⟨t,ht1,ht2⟩:=hT.at' hpi;have htk:l.take (i+1)=l.take i ++ [t]:=by rw[List.take_add_one,ht1];rfl
   have hil:i<l.length:=(List.getElem?_eq_some_iff.mp ht1).1;have hdl:dd.length≤i:=Nat.le_trans hdd.len (by rw[List.length_take];omega);have hdd2:=hdd.snoc t;rw[← htk] at hdd2;refine⟨p,_,rfl,SqT.of ((Same.upd hd) _ _ ht2),rfl,_,_,rfl,_,_,rfl,rfl,?_⟩;refine⟨_,rfl,d,rfl,.inl ⟨_,.inl upd_same⟩,_,rfl,_,DGet.k (k:=Sum.inl t.1) upd_same,?_⟩;rw[valV_enc];have eg:((look dd t.1).map V.int).getD (V.int 0)=V.int (getI dd t.1):=by
    unfold getI;cases look dd t.1 <;> rfl
   rw[eg];refine⟨_,rfl,_,_,rfl,rfl,_,rfl,_,rfl,d,_,rfl,DPut.k (k:=Sum.inl t.1) upd_same ?_,putI dd t.1 (getI dd t.1+t.2),_,_,rfl,?_,hdd2⟩
   ·rw[List.length_map];exact small6 (by omega)
   ·rw[upd_upd,putK_enc]
  ·rintro σ H2 ⟨dd,v2,v3,rfl,rfl,hdd⟩;have hl0:l.take (ps.map V.ref).length=l:=by rw[List.length_map,hT.length,List.take_length]
   rw[hl0] at hdd;refine⟨_,rfl,d,dd,rfl,upd_same,hdd.nd,Nat.le_trans hdd.len hlen,fun b ks H3 hb hT3 hperm hsort s3=>?_⟩;have hbd:b≠d:=by intro z;subst z;rw[upd_same] at hb;cases hb
   have hHb:H b=none:=by have:=hb;rw[upd_ne hbd] at this;exact this
   refine q b (formOf dd ks) H3 hHb hT3 (formOf_ok hdd hperm hsort) ?_ ((Same.upd hd).trans s3);have h1:=formOf_length dd ks;have h2:=hperm.length_eq;rw[List.length_map] at h2;have h3:=hdd.len;omega
noncomputable def spDoubled:Sp:=fun vs H Q _=>∃ m:Nat,vs=[.int (m:Int)]∧m≤100∧Q (.int (2^m)) H
theorem sc_Z3:FnScope ["many", "size", "turn"] ["many"] (defScope s_Z3):=⟨rfl,rfl,rfl,by decide +kernel,rfl,by decide +kernel,by decide +kernel⟩
theorem ok_Z3 (T:Txt K mg):FnOk P w K mg base CX0 1 T.a_Z3 T.fd_Z3 ["many"] spDoubled:=by
 refine T.d_Z3.F.ok sc_Z3 (fun vs H Q E h=>?_) (fun cdv A outer s H vs Q E hr h=>?_)
 ·obtain⟨m,rfl,hm,q⟩:=h;rfl
 ·obtain⟨m,rfl,hm,q⟩:=h;have hu:=hu_of hr;refine⟨_,(pss_cons (ps_set (i:=1) sc_Z3.nd rfl (Or.inl rfl) pe_int)
   (pss_cons (ps_for PassesOwn.never rfl (pi_range1 rfl T.n_range (pa_cons (pv 0) pa_nil)) (pg_name (i:=2) sc_Z3.nd rfl (Or.inl rfl))
    (pss_one (ps_set (i:=1) sc_Z3.nd rfl (Or.inl rfl) (pe_op op_mulO (pv 1) pe_int))))
   (pss_one (ps_ret (pv 1))))),?_⟩
  refine⟨_,rfl,(m:Int),rfl,by omega,by omega,for_range (n:=m) (fun i σ H2=>∃ v2:Option V,σ = [some (.int (m:Int)),some (.int (2^i)),v2]∧H2=H) ⟨none,rfl,rfl⟩ ?_ ?_⟩
  ·rintro i σ H2 hi ⟨v2,rfl,rfl⟩;refine⟨_,rfl,_,_,rfl,rfl,mulR (by decide) (by decide),some (.int (0+(i:Int))),?_,rfl⟩;rw[Int.pow_succ];rfl
  ·rintro σ H2 ⟨v2,rfl,rfl⟩;exact⟨_,rfl,q⟩
noncomputable def spGathered (K:PySem.W.Frag):Sp:=fun vs H Q _=>∃ (a:Addr) (ns:List Int) (m:Nat) (s:Int),vs=[.ref a,.int s]∧H a=some (.lst (ns.map V.int))∧ns.length=2^m∧(s=1∨s = -1)∧m≤16 ∧
 ∀ (D:Addr) (H':Hp),(D=a∨H D=none)→H' D=some (.lst ((zetL s ns m).map V.int))→Same H H'→Q (.ref D) H'
theorem sc_Z12:FnScope ["numbers", "sign", "turns", "turn", "without"] ["numbers", "sign"] (defScope s_Z12):=⟨rfl,rfl,rfl,by decide +kernel,rfl,by decide +kernel,by decide +kernel⟩
theorem nd_Z12_1:(["number", "low", "sign"]:List Str).Nodup:=by decide +kernel
theorem ok_Z12 (T:Txt K mg):FnOk P w K mg base CX0 1 T.a_Z12 T.fd_Z12 ["numbers", "sign"] (spGathered K):=by
 refine T.d_Z12.F.ok sc_Z12 (fun vs H Q E h=>?_) (fun cdv A outer s H vs Q E hr h=>?_)
 ·obtain⟨a,ns,m,s',rfl,ha,hlen,hs,hm,q⟩:=h;rfl
 ·obtain⟨a,ns,m,s',rfl,ha,hlen,hs,hm,q⟩:=h;have hu:=hu_of hr;refine⟨_,(pss_cons (ps_set (i:=2) sc_Z12.nd rfl (Or.inl rfl) (pe_op op_sub (pe_bm0 PySem.F.plainAttrs_int PyProof.Rows.slot_int_bit_length PyProof.Rows.type_int_bit_length mt_bit_length (pe_callB call_len_seq (by rfl) T.n_len PySem.boot_len (pa_cons (pv 0) pa_nil))) pe_int))
   (pss_cons (ps_for PassesOwn.never rfl (pi_range1 rfl T.n_range (pa_cons (pv 2) pa_nil)) (pg_name (i:=3) sc_Z12.nd rfl (Or.inl rfl))
    (pss_cons (ps_set (i:=4) sc_Z12.nd rfl (Or.inl rfl) (pe_two (pv 0) (po_some pe_int) (po_some pe_int)))
   (pss_one (ps_set (i:=0) sc_Z12.nd rfl (Or.inl rfl) (pe_op op_cat (pv 4) (pe_comp (g:=(gTup K 2 (gCons (gName 0) (gCons (gName 1) gNil)))) ["number", "low", "sign"] 2 [1] rfl (by exact CompSc.of (defScope s_Z12) ["numbers", "sign", "turns", "turn", "without"] rfl rfl rfl (by decide +kernel) rfl (by decide +kernel) (by decide +kernel)) (pi_zip rfl T.n_zip (pa_cons (pe_two (pv 0) (po_some pe_int) (po_some pe_int)) (pa_cons (pv 4) pa_nil)))
    (fun cl C s₀ H₀ fp=>(pg_tup (n:=2) rfl (pgs_cons (pg_name (i:=0) nd_Z12_1 rfl (Or.inl rfl) (Or.inr rfl)) (pgs_cons (pg_name (i:=1) nd_Z12_1 rfl (Or.inl rfl) (Or.inr rfl)) pgs_nil)))) (fun cl C s₀ H₀ fp=>pts_nil) (fun cl C s₀ H₀ fp=>(pe_op op_add (pv 0) (pe_op op_mulO (pv 2) (pv 1))))))))))
   (pss_one (ps_ret (pv 0))))),?_⟩
  have hmx:(2:Nat)^m≤2^16:=Nat.pow_le_pow_right (by decide) hm;refine⟨_,rfl,a,_,rfl,.inl (SqL.of ha),rfl,_,rfl,rfl,_,_,rfl,rfl,?_⟩;rw[List.length_map,hlen,intBits_pow];refine⟨_,rfl,(((m+1:Nat):Int)-1),rfl,by omega,by omega,?_⟩;have em:((((m+1:Nat):Int)-1)).toNat=m:=by omega
  rw[em];refine for_range (n:=m) (fun i σ H2=>∃ (v3 v4:Option V) (b:Addr) (ms:List Int),σ = [some (.ref b),some (.int s'),some (.int (((m+1:Nat):Int)-1)),v3,v4]∧(b=a∨H b=none)∧H2 b=some (.lst (ms.map V.int))∧Turned s' (getN ns) m i ms∧Same H H2)
   ⟨none,none,a,ns,rfl,.inl rfl,ha,Turned.start _ _ _ hlen,Same.refl _⟩ ?_ ?_
  ·rintro i σ H2 hi ⟨v3,v4,b,ms,rfl,hb,hb2,ht,s2⟩;have hml:=ht.1;have e1:2^m=2 * 2^(m-1):=by rw[← Nat.pow_succ'];congr 1;omega
   have hl2:(ms.map V.int).length=2 * 2^(m-1):=by rw[List.length_map,hml,e1]
   have p0:=Nat.two_pow_pos (m-1);have hm0:(2:Nat)^(m-1)≤2^16:=Nat.pow_le_pow_right (by decide) (by omega);generalize hn:2^(m-1)=n at *;have ec:∀ c,c<2→pickL c (((ms.map V.int).length-c+1) / 2) (ms.map V.int)=((List.range n).map fun k=>getN ms (2 * k+c)).map V.int:=fun c hc=>by
    rw[hl2,show (2 * n-c+1) / 2=n by omega];exact pick_ints c n ms (by rw[List.length_map] at hl2;exact hl2) hc
   refine⟨_,rfl,_,rfl,_,rfl,rfl,0,b,_,rfl,rfl,SqL.of hb2,Nat.zero_le _,fun w hw=>?_⟩;have s3:Same H2 (upd H2 w (.lst (pickL 0 (((ms.map V.int).length-0+1) / 2) (ms.map V.int)))):=Same.upd hw;have hw3:upd H2 w (.lst (pickL 0 (((ms.map V.int).length-0+1) / 2) (ms.map V.int))) w=some (.lst (((List.range n).map fun k=>getN ms (2 * k)).map V.int)):=by rw[upd_same,ec 0 (by decide)];rfl
   generalize upd H2 w (.lst (pickL 0 (((ms.map V.int).length-0+1) / 2) (ms.map V.int)))=H3 at s3 hw3;refine⟨_,rfl,_,rfl,_,rfl,_,rfl,rfl,1,b,_,rfl,rfl,SqL.of (s3 _ _ hb2),by omega,fun x hx=>?_⟩;have s4:Same H3 (upd H3 x (.lst (pickL 1 (((ms.map V.int).length-1+1) / 2) (ms.map V.int)))):=Same.upd hx;have hx4:upd H3 x (.lst (pickL 1 (((ms.map V.int).length-1+1) / 2) (ms.map V.int))) x=some (.lst (((List.range n).map fun k=>getN ms (2 * k+1)).map V.int)):=by rw[upd_same,ec 1 (by decide)]
   generalize upd H3 x (.lst (pickL 1 (((ms.map V.int).length-1+1) / 2) (ms.map V.int)))=H4 at s4 hx4;have hw4:=s4 _ _ hw3;refine⟨_,rfl,x,w,rfl,⟨_,SqL.of hx4⟩,⟨_,SqL.of hw4⟩,?_⟩;refine comp_zip (K:=K) (a:=x) (b:=w) (xs:=((List.range n).map fun k=>getN ms (2 * k+1)).map V.int) (ys:=((List.range n).map fun k=>getN ms (2 * k)).map V.int) (by simp) (fun i zs σ H5=>∃ v0 v1:Option V,σ = [v0,v1,some (.int s')]∧zs=((List.range i).map fun k=>getN ms (2 * k+1)+s' * getN ms (2 * k)).map V.int∧Same H4 H5)
    ⟨none,none,rfl,rfl,Same.refl _⟩ (fun i zs σ H5 hi ⟨_,_,_,e1,e2⟩=>⟨SqL.of (e2 _ _ hx4),SqL.of (e2 _ _ hw4),by rw[e1];simp⟩) (by simp;exact Nat.le_of_lt (small6 (by omega))) ?_ ?_
   ·rintro i u v zs σ H5 W hu hv ⟨v0,v1,rfl,rfl,s5⟩ hW;have hin:i<n:=by
     have:=(List.getElem?_eq_some_iff.mp hu).1
     simpa using this
    have eu:u=V.int (getN ms (2 * i+1)):=by
     rw[List.getElem?_map,List.getElem?_map,List.getElem?_range hin] at hu;exact (Option.some.inj hu).symm
    have ev:v=V.int (getN ms (2 * i)):=by
     rw[List.getElem?_map,List.getElem?_map,List.getElem?_range hin] at hv;exact (Option.some.inj hv).symm
    subst eu ev;have s6:Same H5 (upd H5 W (.tup [.int (getN ms (2 * i+1)),.int (getN ms (2 * i))])):=Same.upd hW;refine⟨W,_,rfl,SqT.of upd_same,rfl,_,_,rfl,_,_,rfl,rfl,?_⟩;refine tt ?_;refine⟨_,rfl,_,rfl,_,rfl,_,_,rfl,rfl,mulL (by omega) (by omega),_,_,rfl,rfl,some (.int (getN ms (2 * i+1))),some (.int (getN ms (2 * i))),rfl,?_,s5.trans s6⟩;rw[List.range_succ,List.map_append,List.map_append];rfl
   ·rintro zs σ H5 ⟨v0,v1,rfl,rfl,s5⟩ D hD;have hlx:(((List.range n).map fun k=>getN ms (2 * k+1)).map V.int).length=n:=by simp
    rw[hlx];have s6:Same H5 (upd H5 D (.lst (((List.range n).map fun k=>getN ms (2 * k+1)+s' * getN ms (2 * k)).map V.int))):=Same.upd hD;refine⟨w,D,_,_,rfl,rfl,s6 _ _ (s5 _ _ hw4),upd_same,(by simp;exact Nat.le_of_lt (small6 (by omega))),fun c hc=>?_⟩;have S6:=s2.trans (s3.trans (s4.trans (s5.trans s6)));refine⟨_,_,c,stepG s' n ms,rfl,.inr (S6.free hc),?_,?_,S6.trans (Same.upd hc)⟩
    ·rw[upd_same];unfold stepG;rw[List.map_append]
    ·rw[← hn];exact ht.next hi
  ·rintro σ H2 ⟨v3,v4,b,ms,rfl,hb,hb2,ht,s2⟩;refine⟨_,rfl,q b H2 hb ?_ s2⟩;rw[← ht.all hlen];exact hb2
noncomputable def spTable (K:PySem.W.Frag):Sp:=fun vs H Q _=>∃ (a:Addr) (l:Terms) (m:Nat),vs=[.ref a,.int (m:Int)]∧TL K H a l∧IsForm l∧l.length≤100000∧m≤16 ∧
 ∀ (D:Addr) (H':Hp),H D=none→H' D=some (.lst ((zetL 1 ((List.range (2^m)).map fun k:Nat=>coef l (k:Int)) m).map V.int))→Same H H'→Q (.ref D) H'
theorem sc_Z37:FnScope ["form", "many", "numbers"] ["form", "many"] (defScope s_Z37):=⟨rfl,rfl,rfl,by decide +kernel,rfl,by decide +kernel,by decide +kernel⟩
theorem nd_Z37_1:(["members", "numbers"]:List Str).Nodup:=by decide +kernel
theorem ok_Z37 (T:Txt K mg):FnOk P w K mg base CX0 2 T.a_Z37 T.fd_Z37 ["form", "many"] (spTable K):=by
 refine T.d_Z37.F.ok sc_Z37 (fun vs H Q E h=>?_) (fun cdv A outer s H vs Q E hr h=>?_)
 ·obtain⟨a,l,m,rfl,hT,hF,hlen,hm,q⟩:=h;rfl
 ·obtain⟨a,l,m,rfl,hT,hF,hlen,hm,q⟩:=h;have hu:=hu_of hr;refine⟨_,(pss_cons (ps_set (i:=2) sc_Z37.nd rfl (Or.inr rfl) (pe_callTy (call_dict_of rfl) rfl T.n_dict PyProof.Rows.boot_dict (pa_cons (pv 0) pa_nil)))
   (pss_one (ps_ret (pe_call (ok_Z12 (P:=P) (w:=w) (base:=base) T) hr (by rfl) T.d_Z12.m T.d_Z12.F.kp T.d_Z12.b .nil pass0 (pa_cons (pe_comp (g:=(gName 0)) ["members", "numbers"] 1 [2] rfl (by exact CompSc.of (defScope s_Z37) ["form", "many", "numbers"] rfl rfl rfl (by decide +kernel) rfl (by decide +kernel) (by decide +kernel)) (pi_range1 rfl T.n_range (pa_cons (pe_call (ok_Z3 (P:=P) (w:=w) (base:=base) T) hr (by rfl) T.d_Z3.m T.d_Z3.F.kp T.d_Z3.b .nil pass0 (pa_cons (pv 1) pa_nil)) pa_nil))
    (fun cl C s₀ H₀ fp=>(pg_name (i:=0) nd_Z37_1 rfl (Or.inl rfl) (Or.inr rfl))) (fun cl C s₀ H₀ fp=>pts_nil) (fun cl C s₀ H₀ fp=>(pe_dget2 hu (pv 1) (pv 0) pe_int ⟨rfl,rfl,rfl,rfl⟩))) (pa_cons pe_int pa_nil)))))),?_⟩
  refine⟨_,rfl,a,l,rfl,hT,by omega,fun d hd=>?_⟩;have s1:Same H (upd H d (.dK ((fillI [] l).map encP))):=Same.upd hd;have hdd:upd H d (.dK ((fillI [] l).map encP)) d=some (.dK ((fillI [] l).map encP)):=upd_same;generalize upd H d (.dK ((fillI [] l).map encP))=H1 at s1 hdd;have pw:((2:Int)^m)=((2^m:Nat):Int):=by norm_cast
  have e2:((2:Int)^m).toNat=2^m:=by rw[pw];rfl
  have hmx:(2:Nat)^m≤2^16:=Nat.pow_le_pow_right (by decide) hm;refine⟨_,rfl,m,rfl,by omega,(2:Int)^m,rfl,by omega,by omega,?_⟩;refine comp_range (lo:=0) (n:=((2:Int)^m).toNat) (fun i ys σ H2=>∃ v0:Option V,σ = [v0,some (.ref d)]∧ys=((List.range i).map fun k:Nat=>coef l (k:Int)).map V.int∧H2=H1) ⟨none,rfl,rfl,rfl⟩ (fun i ys σ H2 ⟨_,_,e,_⟩=>by rw[e];simp) (by rw[e2];exact Nat.le_of_lt (small6 (by omega))) ?_ ?_
  ·rintro i ys σ H2 hi ⟨v0,rfl,rfl,rfl⟩;unfold gName;refine tt ?_;refine⟨_,rfl,d,rfl,.inl ⟨_,.inl hdd⟩,_,rfl,_,DGet.k (k:=Sum.inl (0+(i:Int))) hdd,?_⟩;rw[valV_enc];have eg:((look (fillI [] l) (0+(i:Int))).map V.int).getD (V.int 0)=V.int (coef l (i:Int)):=by
    rw[← fill_coef hF,Int.zero_add];unfold getI;cases look (fillI [] l) (i:Int) <;> rfl
   refine⟨some (.int (0+(i:Int))),rfl,?_,rfl⟩;rw[List.range_succ,List.map_append,List.map_append,eg];rfl
  ·rintro ys σ H2 ⟨v0,rfl,rfl,rfl⟩ D hD;rw[e2];have s2:Same H2 (upd H2 D (.lst (((List.range (2^m)).map fun k:Nat=>coef l (k:Int)).map V.int))):=Same.upd hD;refine⟨D,_,m,1,rfl,upd_same,by simp,.inl rfl,hm,fun D' H' hD' hl s3=>?_⟩;refine q D' H' ?_ hl (s1.trans (s2.trans s3));rcases hD' with z | z
   ·subst z;exact s1.free hD
   ·exact s1.free (s2.free z)
noncomputable def spUnk (K:PySem.W.Frag):Sp:=fun vs H Q _=>∃ (a:Addr) (l:Terms),vs=[.ref a]∧TL K H a l∧(∀ t∈l,0≤t.1)∧Q (.int (orAll l 0:Nat)) H
theorem sc_Z42:FnScope ["form", "together", "members", "number"] ["form"] (defScope s_Z42):=⟨rfl,rfl,rfl,by decide +kernel,rfl,by decide +kernel,by decide +kernel⟩
theorem ok_Z42 (T:Txt K mg):FnOk P w K mg base CX0 1 T.a_Z42 T.fd_Z42 ["form"] (spUnk K):=by
 refine T.d_Z42.F.ok sc_Z42 (fun vs H Q E h=>?_) (fun cdv A outer s H vs Q E hr h=>?_)
 ·obtain⟨a,l,rfl,⟨ps,hS,hT⟩,h0,q⟩:=h;rfl
 ·obtain⟨a,l,rfl,⟨ps,hS,hT⟩,h0,q⟩:=h;have hu:=hu_of hr;refine⟨_,(pss_cons (ps_set (i:=1) sc_Z42.nd rfl (Or.inl rfl) pe_int)
   (pss_cons (ps_for PassesOwn.never rfl (pi_list (pv 0)) (pg_tup (n:=2) rfl (pgs_cons (pg_name (i:=2) sc_Z42.nd rfl (Or.inl rfl)) (pgs_cons (pg_name (i:=3) sc_Z42.nd rfl (Or.inl rfl)) pgs_nil)))
    (pss_one (ps_set (i:=1) sc_Z42.nd rfl (Or.inl rfl) (pe_op op_or (pv 1) (pv 2)))))
   (pss_one (ps_ret (pv 1))))),?_⟩
  refine⟨_,rfl,a,rfl,⟨_,hS⟩,?_⟩;refine for_list (K:=K) (a:=a) (xs:=ps.map V.ref) (fun i σ H2=>∃ (v2 v3:Option V),σ = [some (.ref a),some (.int (orAll (l.take i) 0:Nat)),v2,v3]∧H2=H)
   ⟨none,none,rfl,rfl⟩ (fun i σ H2 _ ⟨_,_,_,e⟩=>by rw[e];exact hS) ?_ ?_
  ·rintro i y σ H2 hi ⟨v2,v3,rfl,rfl⟩;obtain⟨p,hpi,rfl⟩:=at_ref hi;obtain⟨t,ht1,ht2⟩:=hT.at' hpi;have htm:=List.mem_of_getElem? ht1;have htk:l.take (i+1)=l.take i ++ [t]:=by rw[List.take_add_one,ht1];rfl
   have e:((t.1.toNat:Nat):Int)=t.1:=Int.toNat_of_nonneg (h0 t htm);refine⟨p,_,rfl,SqT.of ht2,rfl,_,_,rfl,_,_,rfl,rfl,?_⟩;refine⟨_,rfl,_,rfl,_,_,rfl,rfl,some (.int t.1),some (.int t.2),?_,rfl⟩;rw[htk,orAll_snoc];show [some (.ref a),some (V.int (Builtin.bitOr ((orAll (l.take i) 0:Nat):Int) t.1)),_,_]=_;rw[← e,bitOr_nat,e]
  ·rintro σ H2 ⟨v2,v3,rfl,rfl⟩;refine⟨_,rfl,?_⟩;rw[List.length_map,hT.length,List.take_length];exact q
noncomputable def spPairedS (K:PySem.W.Frag):Sp:=fun vs H Q _=>∃ (p r:Addr) (l o:Terms) (M:Nat),vs=[.ref p,.ref r]∧TLo H p l∧TLo H r o∧FG M l∧FG M o∧l.length≤32∧o.length≤32∧M≤16∧Q .non H ∧
 ∀ (d1 d2 t:Addr) (m:Nat) (H':Hp),H' t=some (.tup [.ref d1,.ref d2])→H' d1=some (.lst (((List.range (2^m)).map fun g:Nat=>worthL l (g:Int)).map V.int))→H' d2=some (.lst (((List.range (2^m)).map fun g:Nat=>worthL o (g:Int)).map V.int))→m≤M→(∀ t∈l,0≤t.1∧t.1<2^m)→(∀ t∈o,0≤t.1∧t.1<2^m)→Same H H'→Q (.ref t) H'
theorem sc_Z28:FnScope ["one", "other", "many"] ["one", "other"] (defScope s_Z28):=⟨rfl,rfl,rfl,by decide +kernel,rfl,by decide +kernel,by decide +kernel⟩
theorem ok_Z28 (T:Txt K mg):FnOk P w K mg base CX0 3 T.a_Z28 T.fd_Z28 ["one", "other"] (spPairedS K):=by
 refine T.d_Z28.F.ok sc_Z28 (fun vs H Q E h=>?_) (fun cdv A outer s H vs Q E hr h=>?_)
 ·obtain⟨p,r,l,o,M,rfl,hp2,hr2,hl,ho,ll,lo,hM,q1,q2⟩:=h;rfl
 ·obtain⟨p,r,l,o,M,rfl,hp2,hr2,hl,ho,ll,lo,hM,q1,q2⟩:=h;have hu:=hu_of hr;refine⟨_,(pss_cons (ps_set (i:=2) sc_Z28.nd rfl (Or.inl rfl) (pe_bm0 PySem.F.plainAttrs_int PyProof.Rows.slot_int_bit_length PyProof.Rows.type_int_bit_length mt_bit_length (pe_op op_or (pe_call (ok_Z42 (P:=P) (w:=w) (base:=base) T) (hr.mono (by decide)) (by rfl) T.d_Z42.m T.d_Z42.F.kp T.d_Z42.b .nil pass0 (pa_cons (pv 0) pa_nil)) (pe_call (ok_Z42 (P:=P) (w:=w) (base:=base) T) (hr.mono (by decide)) (by rfl) T.d_Z42.m T.d_Z42.F.kp T.d_Z42.b .nil pass0 (pa_cons (pv 1) pa_nil)))))
   (pss_cons (ps_if (pt_cmpR op_le (pe_op op_mulO (pe_callB call_len_seq (by rfl) T.n_len PySem.boot_len (pa_cons (pv 0) pa_nil)) (pe_callB call_len_seq (by rfl) T.n_len PySem.boot_len (pa_cons (pv 1) pa_nil))) (pe_op op_mulO (pe_op op_add (pv 2) pe_int) (pe_call (ok_Z3 (P:=P) (w:=w) (base:=base) T) (hr.mono (by decide)) (by rfl) T.d_Z3.m T.d_Z3.F.kp T.d_Z3.b .nil pass0 (pa_cons (pv 2) pa_nil))) (nomark _)) (pss_one (ps_ret pe_non)) pss_nil)
   (pss_one (ps_ret (pe_tup (pa_cons (pe_call (ok_Z37 (P:=P) (w:=w) (base:=base) T) hr (by rfl) T.d_Z37.m T.d_Z37.F.kp T.d_Z37.b .nil pass0 (pa_cons (pv 0) (pa_cons (pv 2) pa_nil))) (pa_cons (pe_call (ok_Z37 (P:=P) (w:=w) (base:=base) T) hr (by rfl) T.d_Z37.m T.d_Z37.F.kp T.d_Z37.b .nil pass0 (pa_cons (pv 1) (pa_cons (pv 2) pa_nil))) pa_nil))))))),?_⟩
  have u1:=orAll_lt hl.keys;have u2:=orAll_lt ho.keys;refine⟨_,rfl,p,l,rfl,hp2.tl,(fun t ht=>(hl.keys t ht).1),?_⟩;refine⟨_,rfl,r,o,rfl,hr2.tl,(fun t ht=>(ho.keys t ht).1),_,_,rfl,rfl,rfl,_,rfl,rfl,?_⟩;have eor:Builtin.bitOr ((orAll l 0:Nat):Int) ((orAll o 0:Nat):Int)=((orAll l 0 ||| orAll o 0:Nat):Int):=bitOr_nat _ _;have hmany:Builtin.Int.intBits (Builtin.bitOr ((orAll l 0:Nat):Int) ((orAll o 0:Nat):Int))≤M:=by
   rw[eor];exact intBits_lt (Nat.or_lt_two_pow u1 u2)
  have kl:=keys_many (U:=orAll l 0 ||| orAll o 0) (fun t ht=>(hl.keys t ht).1) fun j hj=>by rw[Nat.testBit_or,hj];rfl
  have ko:=keys_many (U:=orAll l 0 ||| orAll o 0) (fun t ht=>(ho.keys t ht).1) fun j hj=>by rw[Nat.testBit_or,hj,Bool.or_true]
  rw[← eor] at kl ko;generalize Builtin.Int.intBits (Builtin.bitOr ((orAll l 0:Nat):Int) ((orAll o 0:Nat):Int))=many at hmany kl ko;obtain⟨pa,hpa1,hpa2⟩:=id hp2;obtain⟨pc,hpc1,hpc2⟩:=id hr2;have la:=hpa2.length;have lc:=hpc2.length;refine⟨_,rfl,p,_,rfl,.inl (SqL.of hpa1),_,rfl,r,_,rfl,.inl (SqL.of hpc1),_,_,rfl,rfl,mulL (by rw[List.length_map];omega) (by rw[List.length_map];omega),?_⟩;refine⟨_,rfl,_,_,rfl,rfl,_,rfl,many,rfl,by omega,_,_,rfl,rfl,mulL (by have:=Int.natCast_nonneg many;omega) (by omega),_,_,rfl,rfl,_,rfl,?_⟩;refine ite2 (fun _=>q1) (fun _=>?_);refine⟨_,rfl,_,rfl,p,l,many,rfl,hp2.tl,hl.form,by omega,by omega,fun d1 H1 hd1 hD1 s1=>?_⟩;rw[table_worths kl] at hD1;refine⟨_,rfl,_,rfl,r,o,many,rfl,(hr2.keep s1).tl,ho.form,by omega,by omega,fun d2 H2 hd2 hD2 s2=>?_⟩;rw[table_worths ko] at hD2;refine⟨by show 2≤sizeLine;decide,fun t ht=>?_⟩;have s3:Same H2 (upd H2 t (.tup [.ref d1,.ref d2])):=Same.upd ht;exact q2 d1 d2 t many _ upd_same (s3 _ _ (s2 _ _ hD1)) (s3 _ _ hD2) hmany kl ko (s1.trans (s2.trans s3))
noncomputable def spFormOf (K:PySem.W.Frag):Sp:=fun vs H Q _=>∃ (a:Addr) (ns:List Int) (m:Nat),vs=[.ref a]∧H a=some (.lst (ns.map V.int))∧ns.length=2^m∧m≤16 ∧
 ∀ (D:Addr) (f:Terms) (H':Hp),H D=none→TLo H' D f→FormOf f (enumT (zetL (-1) ns m))→f.length≤ns.length→Same H H'→Q (.ref D) H'
theorem sc_Z7:FnScope ["table"] ["table"] (defScope s_Z7):=⟨rfl,rfl,rfl,by decide +kernel,rfl,by decide +kernel,by decide +kernel⟩
theorem nd_Z7_1:(["members", "number"]:List Str).Nodup:=by decide +kernel
theorem ok_Z7 (T:Txt K mg):FnOk P w K mg base CX0 2 T.a_Z7 T.fd_Z7 ["table"] (spFormOf K):=by
 refine T.d_Z7.F.ok sc_Z7 (fun vs H Q E h=>?_) (fun cdv A outer s H vs Q E hr h=>?_)
 ·obtain⟨a,ns,m,rfl,ha,hlen,hm,q⟩:=h;rfl
 ·obtain⟨a,ns,m,rfl,ha,hlen,hm,q⟩:=h;have hu:=hu_of hr;refine⟨_,(pss_one (ps_ret (pe_comp (g:=(gTup K 2 (gCons (gName 0) (gCons (gName 1) gNil)))) ["members", "number"] 2 [] rfl (by exact CompSc.of (defScope s_Z7) ["table"] rfl rfl rfl (by decide +kernel) rfl (by decide +kernel) (by decide +kernel)) (pi_enum rfl T.n_enumerate (pa_cons (pe_call (ok_Z12 (P:=P) (w:=w) (base:=base) T) hr (by rfl) T.d_Z12.m T.d_Z12.F.kp T.d_Z12.b .nil pass0 (pa_cons (pv 0) (pa_cons (pe_un un_neg pe_int) pa_nil))) pa_nil))
    (fun cl C s₀ H₀ fp=>(pg_tup (n:=2) rfl (pgs_cons (pg_name (i:=0) nd_Z7_1 rfl (Or.inl rfl) (Or.inr rfl)) (pgs_cons (pg_name (i:=1) nd_Z7_1 rfl (Or.inl rfl) (Or.inr rfl)) pgs_nil)))) (fun cl C s₀ H₀ fp=>(pts_one (pt_cmpR op_ne (pv 1) pe_int (nomark _)))) (fun cl C s₀ H₀ fp=>(pe_tup (pa_cons (pv 0) (pa_cons (pv 1) pa_nil))))))),?_⟩
  have hmx:(2:Nat)^m≤2^16:=Nat.pow_le_pow_right (by decide) hm;refine⟨_,rfl,_,rfl,a,ns,m,-1,rfl,ha,hlen,.inr rfl,hm,fun b H1 hb hb1 s1=>?_⟩;have hzl:(zetL (-1) ns m).length=2^m:=by rw[zetL_len,hlen]
  have hFm:=nzL_form (zetL (-1) ns m);have hnl:=nzL_len (zetL (-1) ns m);rw[hzl] at hnl;generalize zetL (-1) ns m=zs at hzl hb1 hFm hnl q;refine⟨b,rfl,⟨_,SqL.of hb1⟩,?_⟩;have ez:nzL zs=((List.range (2^m)).map fun g:Nat=>((g:Int),getN zs g)).filter fun t=>decide (t.2≠0):=by unfold nzL enumT;rw[hzl]
  refine comp_enum (K:=K) (a:=b) (xs:=zs.map V.int) (fun j ys σ H2=>∃ (v0 v1:Option V) (qs:List Addr),σ = [v0,v1]∧ys=qs.map V.ref∧Tups H2 qs (((List.range j).map fun g:Nat=>((g:Int),getN zs g)).filter fun t=>decide (t.2≠0))∧Same H1 H2)
   ⟨none,none,[],rfl,rfl,.nil,Same.refl _⟩ (fun j ys σ H2 hj ⟨_,_,qs,_,e1,e2,e3⟩=>⟨SqL.of (e3 _ _ hb1),by rw[e1,List.length_map,e2.length];exact Nat.le_trans (List.length_filter_le _ _) (by simp)⟩) (by rw[List.length_map,hzl];exact Nat.le_of_lt (small6 (by omega))) ?_ ?_
  ·rintro j x ys σ H2 W hi ⟨v0,v1,qs,rfl,rfl,g1,g2⟩ hW;obtain⟨n,hn,rfl⟩:=at_int hi;have hgn:getN zs j=n:=by unfold getN;rw[List.getD_eq_getElem?_getD,hn];rfl
   have s3:Same H2 (upd H2 W (.tup [.int (j:Nat),.int n])):=Same.upd hW;refine⟨W,_,rfl,SqT.of upd_same,rfl,_,_,rfl,_,_,rfl,rfl,?_⟩;refine⟨_,rfl,rfl,_,rfl,?_⟩;by_cases hz:n=0
   ·refine iteN (by simp[hz]) ⟨some (.int (j:Nat)),some (.int n),qs,rfl,rfl,?_,g2.trans s3⟩;have e:(([j].map fun g:Nat=>((g:Int),getN zs g)).filter fun t=>decide (t.2≠0))=[]:=by simp[hgn,hz]
    rw[List.range_succ,List.map_append,List.filter_append,e,List.append_nil];exact g1.keep fun b xs z=>s3 b _ z
   ·refine iteY (by simp[hz]) ?_;refine⟨_,rfl,_,rfl,(by show 2≤sizeLine;decide),fun t ht=>?_⟩;have s4:Same (upd H2 W (.tup [.int (j:Nat),.int n])) (upd (upd H2 W (.tup [.int (j:Nat),.int n])) t (.tup [.int (j:Nat),.int n])):=Same.upd ht;refine⟨some (.int (j:Nat)),some (.int n),qs ++ [t],rfl,(by rw[List.map_append];rfl),?_,g2.trans (s3.trans s4)⟩;rw[List.range_succ,List.map_append,List.filter_append];have e:(([j].map fun g:Nat=>((g:Int),getN zs g)).filter fun t=>decide (t.2≠0))=[((j:Int),n)]:=by simp[hgn,hz]
    rw[e];exact Tups.snoc (g1.keep fun b xs z=>(s3.trans s4) b _ z) upd_same
  ·rintro ys σ H2 ⟨v0,v1,qs,rfl,rfl,g1,g2⟩ D hD;rw[List.length_map,hzl,← ez] at g1;have s3:Same H2 (upd H2 D (.lst (qs.map V.ref))):=Same.upd hD;exact q D (nzL zs) _ (s1.free (g2.free hD)) ⟨qs,upd_same,g1.keep fun b xs z=>s3 b _ z⟩ hFm (by rw[hlen];exact hnl) (s1.trans (g2.trans s3))
noncomputable def spPlus:Sp:=fun vs H Q _=>∃ (a b:Addr) (l m:Terms),vs=[.ref a,.ref b]∧TLo H a l∧TLo H b m∧l.length+m.length≤100000 ∧
 ∀ (c:Addr) (f:Terms) (H':Hp),H c=none→TLo H' c f→FormOf f (l++m)→f.length≤l.length+m.length→Same H H'→Q (.ref c) H'
theorem sc_Z32:FnScope ["one", "other"] ["one", "other"] (defScope s_Z32):=⟨rfl,rfl,rfl,by decide +kernel,rfl,by decide +kernel,by decide +kernel⟩
theorem ok_Z32 (T:Txt K mg):FnOk P w K mg base CX0 3 T.a_Z32 T.fd_Z32 ["one", "other"] spPlus:=by
 refine T.d_Z32.F.ok sc_Z32 (fun vs H Q E h=>?_) (fun cdv A outer s H vs Q E hr h=>?_)
 ·obtain⟨a,b,l,m,rfl,hTa,hTb,hlen,q⟩:=h;rfl
 ·obtain⟨a,b,l,m,rfl,hTa,hTb,hlen,q⟩:=h;have hu:=hu_of hr;refine⟨_,(pss_one (ps_ret (pe_call (ok_Z27 (P:=P) (w:=w) (base:=base) T) hr (by rfl) T.d_Z27.m T.d_Z27.F.kp T.d_Z27.b .nil pass0 (pa_cons (pe_op op_cat (pv 0) (pv 1)) pa_nil)))),?_⟩;obtain⟨ps,ha,hp⟩:=id hTa;obtain⟨qs,hb,hq⟩:=id hTb;have n1:=hp.length;have n2:=hq.length;refine⟨_,rfl,_,rfl,a,b,_,_,rfl,rfl,ha,hb,(by rw[List.length_map,List.length_map];exact Nat.le_of_lt (small6 (by omega))),fun c hc=>?_⟩;have s1:Same H (upd H c (.lst (ps.map V.ref++qs.map V.ref))):=Same.upd hc;refine⟨c,l++m,rfl,(TLo.cat (a:=a) (b:=b) hp hq s1 upd_same).tl,(by rw[List.length_append];exact hlen),fun d f H' hd hT hF hl s2=>?_⟩;rw[List.length_append] at hl;exact q d f H' (s1.free hd) hT hF hl (s1.trans s2)
noncomputable def spScaled (K:PySem.W.Frag):Sp:=fun vs H Q _=>∃ (a:Addr) (l:Terms) (n:Int),vs=[.ref a,.int n]∧TL K H a l∧l.length≤100000∧(∀ t∈l,IntMulOk t.2 n) ∧
 ∀ (b:Addr) (f:Terms) (H':Hp),H b=none→TLo H' b f→FormOf f (l.map fun t=>(t.1,t.2 * n))→f.length≤l.length→Same H H'→Q (.ref b) H'
theorem sc_Z34:FnScope ["form", "number"] ["form", "number"] (defScope s_Z34):=⟨rfl,rfl,rfl,by decide +kernel,rfl,by decide +kernel,by decide +kernel⟩
theorem nd_Z34_1:(["members", "own", "number"]:List Str).Nodup:=by decide +kernel
theorem ok_Z34 (T:Txt K mg):FnOk P w K mg base CX0 3 T.a_Z34 T.fd_Z34 ["form", "number"] (spScaled K):=by
 refine T.d_Z34.F.ok sc_Z34 (fun vs H Q E h=>?_) (fun cdv A outer s H vs Q E hr h=>?_)
 ·obtain⟨a,l,n,rfl,hT,hlen,hmul,q⟩:=h;rfl
 ·obtain⟨a,l,n,rfl,hT,hlen,hmul,q⟩:=h;have hu:=hu_of hr;refine⟨_,(pss_one (ps_ret (pe_call (ok_Z27 (P:=P) (w:=w) (base:=base) T) hr (by rfl) T.d_Z27.m T.d_Z27.F.kp T.d_Z27.b .nil pass0 (pa_cons (pe_comp (g:=(gTup K 2 (gCons (gName 0) (gCons (gName 1) gNil)))) ["members", "own", "number"] 2 [1] rfl (by exact CompSc.of (defScope s_Z34) ["form", "number"] rfl rfl rfl (by decide +kernel) rfl (by decide +kernel) (by decide +kernel)) (pi_list (pv 0))
    (fun cl C s₀ H₀ fp=>(pg_tup (n:=2) rfl (pgs_cons (pg_name (i:=0) nd_Z34_1 rfl (Or.inl rfl) (Or.inr rfl)) (pgs_cons (pg_name (i:=1) nd_Z34_1 rfl (Or.inl rfl) (Or.inr rfl)) pgs_nil)))) (fun cl C s₀ H₀ fp=>pts_nil) (fun cl C s₀ H₀ fp=>(pe_tup (pa_cons (pv 0) (pa_cons (pe_op op_mulO (pv 1) (pv 2)) pa_nil))))) pa_nil)))),?_⟩
  refine⟨_,rfl,a,rfl,hT.seq,?_⟩;refine comp_pairs (fun t=>(t.1,t.2 * n)) hT (by omega) [some (.int n)] rfl (fun t ht H2 R s2 k=>?_) fun D ys H2 hD hT1 s1=>?_
  ·exact⟨_,rfl,_,rfl,_,rfl,_,_,rfl,rfl,hmul t ht,(by show 2≤sizeLine;decide),k⟩
  ·refine⟨D,_,rfl,hT1.tl,(by rw[List.length_map];exact hlen),fun b f H' hb hT' hF hl s'=>?_⟩;rw[List.length_map] at hl;exact q b f H' (s1.free hb) hT' hF hl (s1.trans s')
noncomputable def spLess:Sp:=fun vs H Q _=>∃ (a b:Addr) (l m:Terms),vs=[.ref a,.ref b]∧TLo H a l∧TLo H b m∧l.length+m.length≤100000 ∧
 ∀ (c:Addr) (f:Terms) (H':Hp),H c=none→TLo H' c f→IsForm f→(∀ k,coef f k=coef l k-coef m k)→f.length≤l.length+m.length→Same H H'→Q (.ref c) H'
theorem sc_Z25:FnScope ["one", "other"] ["one", "other"] (defScope s_Z25):=⟨rfl,rfl,rfl,by decide +kernel,rfl,by decide +kernel,by decide +kernel⟩
theorem ok_Z25 (T:Txt K mg):FnOk P w K mg base CX0 4 T.a_Z25 T.fd_Z25 ["one", "other"] spLess:=by
 refine T.d_Z25.F.ok sc_Z25 (fun vs H Q E h=>?_) (fun cdv A outer s H vs Q E hr h=>?_)
 ·obtain⟨a,b,l,m,rfl,hTa,hTb,hlen,q⟩:=h;rfl
 ·obtain⟨a,b,l,m,rfl,hTa,hTb,hlen,q⟩:=h;have hu:=hu_of hr;refine⟨_,(pss_one (ps_ret (pe_call (ok_Z32 (P:=P) (w:=w) (base:=base) T) hr (by rfl) T.d_Z32.m T.d_Z32.F.kp T.d_Z32.b .nil pass0 (pa_cons (pv 0) (pa_cons (pe_call (ok_Z34 (P:=P) (w:=w) (base:=base) T) hr (by rfl) T.d_Z34.m T.d_Z34.F.kp T.d_Z34.b .nil pass0 (pa_cons (pv 1) (pa_cons (pe_un un_neg pe_int) pa_nil))) pa_nil))))),?_⟩;refine⟨_,rfl,_,rfl,_,rfl,b,m,-1,rfl,hTb.tl,by omega,fun t _=>mulR (by decide) (by decide),fun d g H1 hd hT1 hF1 hl1 s1=>?_⟩;refine⟨a,d,l,g,rfl,hTa.keep s1,hT1,by omega,fun c f H2 hc hT2 hF2 hl2 s2=>?_⟩;refine q c f H2 (s1.free hc) hT2 hF2.toIsForm (fun k=>?_) (by omega) (s1.trans s2);rw[hF2.val,coef_append,hF1.val];have e:(m.map fun t=>(t.1,t.2 * -1))=m.map fun t=>(t.1,-t.2):=List.map_congr_left fun t _=>by rw[show t.2 * -1 = -t.2 by omega]
  rw[e,coef_neg];omega
noncomputable def spTimes (K:PySem.W.Frag):Sp:=fun vs H Q _=>∃ (a b:Addr) (l m:Terms),vs=[.ref a,.ref b]∧TL K H a l∧TL K H b m∧l.length * m.length≤100000∧(∀ t∈l,∀ u∈m,IntMulOk t.2 u.2) ∧
 ∀ (c:Addr) (f:Terms) (H':Hp),H c=none→TLo H' c f→FormOf f (prodL l m)→f.length≤l.length * m.length→Same H H'→Q (.ref c) H'
theorem sc_Z38:FnScope ["one", "other", "numbers", "members", "number", "others", "factor", "both"] ["one", "other"] (defScope s_Z38):=⟨rfl,rfl,rfl,by decide +kernel,rfl,by decide +kernel,by decide +kernel⟩
theorem ok_Z38 (T:Txt K mg):FnOk P w K mg base CX0 2 T.a_Z38 T.fd_Z38 ["one", "other"] (spTimes K):=by
 refine T.d_Z38.F.ok sc_Z38 (fun vs H Q E h=>?_) (fun cdv A outer s H vs Q E hr h=>?_)
 ·obtain⟨a,b,l,m,rfl,⟨ps,hS,hT⟩,⟨qs,hS2,hT2⟩,hlen,hmul,q⟩:=h;rfl
 ·obtain⟨a,b,l,m,rfl,⟨ps,hS,hT⟩,⟨qs,hS2,hT2⟩,hlen,hmul,q⟩:=h;have hu:=hu_of hr;refine⟨_,(pss_cons (ps_set (i:=2) sc_Z38.nd rfl (Or.inl rfl) pe_dnewK)
   (pss_cons (ps_for PassesOwn.never rfl (pi_list (pv 0)) (pg_tup (n:=2) rfl (pgs_cons (pg_name (i:=3) sc_Z38.nd rfl (Or.inl rfl)) (pgs_cons (pg_name (i:=4) sc_Z38.nd rfl (Or.inl rfl)) pgs_nil)))
    (pss_one (ps_for PassesOwn.never rfl (pi_list (pv 1)) (pg_tup (n:=2) rfl (pgs_cons (pg_name (i:=5) sc_Z38.nd rfl (Or.inl rfl)) (pgs_cons (pg_name (i:=6) sc_Z38.nd rfl (Or.inl rfl)) pgs_nil)))
    (pss_cons (ps_set (i:=7) sc_Z38.nd rfl (Or.inl rfl) (pe_op op_or (pv 3) (pv 5)))
   (pss_one (ps_dput hu (pv 2) (pv 7) (pe_op op_add (pe_dget2 hu (pv 2) (pv 7) pe_int ⟨rfl,rfl,rfl,rfl⟩) (pe_op op_mulO (pv 4) (pv 6))) rfl))))))
   (pss_one (ps_ret (pe_call (ok_Z6 (P:=P) (w:=w) (base:=base) T) hr (by rfl) T.d_Z6.m T.d_Z6.F.kp T.d_Z6.b .nil pass0 (pa_cons (pv 2) pa_nil)))))),?_⟩
  intro d hd;have s0:∀ o,Same H (upd H d o):=fun o=>Same.upd hd
  refine⟨_,rfl,a,rfl,⟨_,(s0 _).seq hS⟩,?_⟩;refine for_list (K:=K) (a:=a) (xs:=ps.map V.ref) (fun i σ H2=>∃ (dd:Terms) (v3 v4 v5 v6 v7:Option V),σ = [some (.ref a),some (.ref b),some (.ref d),v3,v4,v5,v6,v7]∧H2=upd H d (.dK (dd.map encP))∧DictOf dd (prodL (l.take i) m))
   ⟨[],none,none,none,none,none,rfl,rfl,dictOf_nil⟩ (fun i σ H2 _ ⟨_,_,_,_,_,_,_,e,_⟩=>by rw[e];exact (s0 _).seq hS) ?_ ?_
  ·rintro i y σ H2 hi ⟨dd,v3,v4,v5,v6,v7,rfl,rfl,hdd⟩;obtain⟨p,hpi,rfl⟩:=at_ref hi;obtain⟨t,ht1,ht2⟩:=hT.at' hpi;have hil:i<l.length:=(List.getElem?_eq_some_iff.mp ht1).1;have htk:l.take (i+1)=l.take i ++ [t]:=by rw[List.take_add_one,ht1];rfl
   refine⟨p,_,rfl,SqT.of (s0 _ _ _ ht2),rfl,_,_,rfl,_,_,rfl,rfl,?_⟩;refine⟨_,rfl,b,rfl,⟨_,(s0 _).seq hS2⟩,?_⟩;refine for_list (K:=K) (a:=b) (xs:=qs.map V.ref) (fun j σ H2=>∃ (dd:Terms) (v5 v6 v7:Option V),σ = [some (.ref a),some (.ref b),some (.ref d),some (.int t.1),some (.int t.2),v5,v6,v7]∧H2=upd H d (.dK (dd.map encP))∧DictOf dd (prodL (l.take i) m++rowL t (m.take j)))
    ⟨dd,v5,v6,v7,rfl,rfl,by rw[List.take_zero];exact (List.append_nil _).symm ▸ hdd⟩ (fun i σ H2 _ ⟨_,_,_,_,_,e,_⟩=>by rw[e];exact (s0 _).seq hS2) ?_ ?_
   ·rintro j z σ H2 hj ⟨dd,v5,v6,v7,rfl,rfl,hdd⟩;obtain⟨p',hpj,rfl⟩:=at_ref hj;obtain⟨u,hu1,hu2⟩:=hT2.at' hpj;have hjl:j<m.length:=(List.getElem?_eq_some_iff.mp hu1).1;have huk:m.take (j+1)=m.take j ++ [u]:=by rw[List.take_add_one,hu1];rfl
    refine⟨p',_,rfl,SqT.of (s0 _ _ _ hu2),rfl,_,_,rfl,_,_,rfl,rfl,?_⟩;refine⟨_,rfl,_,rfl,_,_,rfl,rfl,?_⟩;have hdd2:=hdd.snoc (Builtin.bitOr t.1 u.1,t.2 * u.2);rw[List.append_assoc,← rowL_snoc,← huk] at hdd2;have hdl:=hdd.len;have h9:=prodL_len (l.take i) m;rw[List.length_append,rowL_len,h9,List.length_take,List.length_take,Nat.min_eq_left (Nat.le_of_lt hil),Nat.min_eq_left (Nat.le_of_lt hjl)] at hdl;have h10:i * m.length+m.length≤l.length * m.length:=by rw[← Nat.succ_mul];exact Nat.mul_le_mul_right _ hil
    refine⟨_,rfl,d,rfl,.inl ⟨_,.inl upd_same⟩,_,rfl,_,DGet.k (k:=Sum.inl (Builtin.bitOr t.1 u.1)) upd_same,?_⟩;rw[valV_enc];have eg:((look dd (Builtin.bitOr t.1 u.1)).map V.int).getD (V.int 0)=V.int (getI dd (Builtin.bitOr t.1 u.1)):=by
     unfold getI;cases look dd (Builtin.bitOr t.1 u.1) <;> rfl
    rw[eg];refine⟨_,rfl,_,rfl,_,_,rfl,rfl,hmul t (List.mem_of_getElem? ht1) u (List.mem_of_getElem? hu1),_,_,rfl,rfl,_,rfl,_,rfl,d,_,rfl,DPut.k (k:=Sum.inl (Builtin.bitOr t.1 u.1)) upd_same ?_,putI dd (Builtin.bitOr t.1 u.1) (getI dd (Builtin.bitOr t.1 u.1)+t.2 * u.2),_,_,_,rfl,?_,hdd2⟩
    ·rw[List.length_map];exact small6 (by omega)
    ·rw[upd_upd,putK_enc]
   ·rintro σ H2 ⟨dd,v5,v6,v7,rfl,rfl,hdd⟩;have hl0:m.take (qs.map V.ref).length=m:=by rw[List.length_map,hT2.length,List.take_length]
    rw[hl0,← prodL_snoc,← htk] at hdd;exact⟨dd,_,_,_,_,_,rfl,rfl,hdd⟩
  ·rintro σ H2 ⟨dd,v3,v4,v5,v6,v7,rfl,rfl,hdd⟩;have hl0:l.take (ps.map V.ref).length=l:=by rw[List.length_map,hT.length,List.take_length]
   rw[hl0] at hdd;have hdl:=hdd.len;rw[prodL_len] at hdl;refine⟨_,rfl,d,dd,rfl,upd_same,hdd.nd,by omega,fun c ks H3 hc hT3 hperm hsort s3=>?_⟩;refine q c (formOf dd ks) H3 ((s0 _).free hc) hT3 (formOf_ok hdd hperm hsort) ?_ ((s0 _).trans s3);have h1:=formOf_length dd ks;have h2:=hperm.length_eq;rw[List.length_map] at h2;omega
noncomputable def spJoined (K:PySem.W.Frag):Sp:=fun vs H Q _=>∃ (a b:Addr) (l o:Terms) (w:Nat),vs=[.str (wd w),.ref a,.ref b]∧TLo H a l∧TLo H b o∧w<3∧l.length+o.length+l.length * o.length≤100000∧(∀ t∈l,∀ u∈o,IntMulOk t.2 u.2) ∧
 ∀ (c:Addr) (f:Terms) (H':Hp),H c=none→TLo H' c f→FormOf f (wordL w l o)→Same H H'→Q (.ref c) H'
theorem sc_Z14:FnScope ["word", "one", "other", "both", "taken"] ["word", "one", "other"] (defScope s_Z14):=⟨rfl,rfl,rfl,by decide +kernel,rfl,by decide +kernel,by decide +kernel⟩
theorem ok_Z14 (T:Txt K mg):FnOk P w K mg base CX0 4 T.a_Z14 T.fd_Z14 ["word", "one", "other"] (spJoined K):=by
 refine T.d_Z14.F.ok sc_Z14 (fun vs H Q E h=>?_) (fun cdv A outer s H vs Q E hr h=>?_)
 ·obtain⟨a,b,l,o,w',rfl,hT,hTo,hw,hlen,hmul,q⟩:=h;rfl
 ·obtain⟨a,b,l,o,w',rfl,hT,hTo,hw,hlen,hmul,q⟩:=h;have hu:=hu_of hr;refine⟨_,(pss_cons (ps_set (i:=3) sc_Z14.nd rfl (Or.inl rfl) (pe_call (ok_Z38 (P:=P) (w:=w) (base:=base) T) (hr.mono (by decide)) (by rfl) T.d_Z38.m T.d_Z38.F.kp T.d_Z38.b .nil pass0 (pa_cons (pv 1) (pa_cons (pv 2) pa_nil))))
   (pss_cons (ps_if (pt_cmpR op_eq (pv 0) pe_str (nomark _)) (pss_one (ps_ret (pv 3))) pss_nil)
   (pss_cons (ps_set (i:=4) sc_Z14.nd rfl (Or.inl rfl) (pe_ifExp (pt_cmpR op_eq (pv 0) pe_str (nomark _)) (pe_un un_neg pe_int) (pe_un un_neg pe_int)))
   (pss_one (ps_ret (pe_call (ok_Z32 (P:=P) (w:=w) (base:=base) T) hr (by rfl) T.d_Z32.m T.d_Z32.F.kp T.d_Z32.b .nil pass0 (pa_cons (pe_call (ok_Z32 (P:=P) (w:=w) (base:=base) T) hr (by rfl) T.d_Z32.m T.d_Z32.F.kp T.d_Z32.b .nil pass0 (pa_cons (pv 1) (pa_cons (pv 2) pa_nil))) (pa_cons (pe_call (ok_Z34 (P:=P) (w:=w) (base:=base) T) hr (by rfl) T.d_Z34.m T.d_Z34.F.kp T.d_Z34.b .nil pass0 (pa_cons (pv 3) (pa_cons (pv 4) pa_nil))) pa_nil)))))))),?_⟩
  refine⟨_,rfl,_,rfl,a,b,l,o,rfl,hT.tl,hTo.tl,by omega,hmul,fun c p H1 hc hT1 hF1 hl1 s1=>?_⟩;have comb:∀ (n:Int) (f g h:Terms),w'≠0→n=(if w'=1 then -1 else -2)→FormOf g (l++o)→FormOf h (p.map fun t=>(t.1,t.2 * n))→FormOf f (g++h)→FormOf f (wordL w' l o):=fun n f g h hw0 hn hg hh hf=>by
   have ec:∀ k,coef (g++h) k=coef (wordL w' l o) k:=fun k=>by
    unfold wordL;rw[if_neg hw0,coef_append,coef_append,hg.val,hh.val,← hn];have e:∀ (x:Terms),coef (x.map fun t=>(t.1,t.2 * n)) k=coef x k * n:=fun x=>by
     rw[coef_lin,coef_lin,lin_mulr]
    rw[e,e,hF1.val]
   refine⟨hf.toIsForm,fun k=>by rw[hf.val,ec],fun t ht=>?_⟩;have h1:=hf.src t ht;unfold wordL;rw[if_neg hw0,List.map_append,List.mem_append];rw[List.map_append,List.mem_append] at h1;rcases h1 with z | z
   ·obtain⟨u,hu,e⟩:=List.mem_map.mp z;exact .inl (by rw[← e];exact hg.src u hu)
   ·obtain⟨u,hu,e⟩:=List.mem_map.mp z;have h2:=hh.src u hu;rw[List.map_map] at h2 ⊢;obtain⟨v,hv,e2⟩:=List.mem_map.mp h2;have h3:=hF1.src v hv;obtain⟨x,hx,e3⟩:=List.mem_map.mp h3;exact .inr (List.mem_map.mpr ⟨x,hx,by rw[← e,← e2];exact e3⟩)
  obtain rfl | rfl | rfl:w'=0∨w'=1∨w'=2:=by omega
  ·refine⟨_,rfl,rfl,_,rfl,iteY (by decide) ?_⟩;exact⟨_,rfl,q c p H1 hc hT1 (by unfold wordL;rw[if_pos rfl];exact hF1) s1⟩
  ·refine⟨_,rfl,rfl,_,rfl,iteN (by decide) ?_⟩;refine⟨_,rfl,rfl,_,rfl,iteY (by decide) ⟨_,rfl,?_⟩⟩;refine⟨_,rfl,_,rfl,a,b,l,o,rfl,hT.keep s1,hTo.keep s1,by omega,fun x g H2 hx hT2 hF2 hl2 s2=>?_⟩;refine⟨_,rfl,_,rfl,c,p,(-1),rfl,(hT1.keep s2).tl,by omega,(fun t _=>mulR (by decide) (by decide)),fun y h H3 hy hT3 hF3 hl3 s3=>?_⟩;refine⟨x,y,g,h,rfl,hT2.keep s3,hT3,by omega,fun z f H4 hz hT4 hF4 hl4 s4=>?_⟩;exact q z f H4 (s1.free (s2.free (s3.free hz))) hT4 (comb (-1) f g h (by decide) rfl hF2 hF3 hF4) (s1.trans (s2.trans (s3.trans s4)))
  ·refine⟨_,rfl,rfl,_,rfl,iteN (by decide) ?_⟩;refine⟨_,rfl,rfl,_,rfl,iteN (by decide) ⟨_,rfl,?_⟩⟩;refine⟨_,rfl,_,rfl,a,b,l,o,rfl,hT.keep s1,hTo.keep s1,by omega,fun x g H2 hx hT2 hF2 hl2 s2=>?_⟩;refine⟨_,rfl,_,rfl,c,p,(-2),rfl,(hT1.keep s2).tl,by omega,(fun t _=>mulR (by decide) (by decide)),fun y h H3 hy hT3 hF3 hl3 s3=>?_⟩;refine⟨x,y,g,h,rfl,hT2.keep s3,hT3,by omega,fun z f H4 hz hT4 hF4 hl4 s4=>?_⟩;exact q z f H4 (s1.free (s2.free (s3.free hz))) hT4 (comb (-2) f g h (by decide) rfl hF2 hF3 hF4) (s1.trans (s2.trans (s3.trans s4)))
noncomputable def WordIs (s:Str) (xs:List Int) (r:Int):Prop:=(s = "not" ∧ ∃ x,xs=[x]∧r=1-x)∨∃ w x y,w<3∧s=wd w∧xs=[x,y]∧Bit x∧Bit y∧r=say w x y
noncomputable def spWord:Sp:=fun vs H Q _=>∃ (s:Str) (b:Addr) (xs:List Int) (r:Int),vs=[.str s,.ref b]∧(H b=some (.lst (xs.map V.int))∨H b=some (.tup (xs.map V.int)))∧WordIs s xs r∧Q (.int r) H
theorem sc_Z0:FnScope ["word", "bits"] ["word", "bits"] (defScope s_Z0):=⟨rfl,rfl,rfl,by decide +kernel,rfl,by decide +kernel,by decide +kernel⟩
theorem ok_Z0 (T:Txt K mg):FnOk P w K mg base CX0 1 T.a_Z0 T.fd_Z0 ["word", "bits"] spWord:=by
 refine T.d_Z0.F.ok sc_Z0 (fun vs H Q E h=>?_) (fun cdv A outer s H vs Q E hr h=>?_)
 ·obtain⟨s',b,xs,r,rfl,hb,hw,q⟩:=h;rfl
 ·obtain⟨s',b,xs,r,rfl,hb,hw,q⟩:=h;have hu:=hu_of hr;refine⟨_,(pss_cons (ps_if (pt_cmpR op_eq (pv 0) pe_str (nomark _)) (pss_one (ps_ret (pe_op op_sub pe_int (pe_ix ix_seq (pv 1) pe_int (fun _ _=>rfl))))) pss_nil)
   (pss_cons (ps_if (pt_cmpR op_eq (pv 0) pe_str (nomark _)) (pss_one (ps_ret (pe_op op_and (pe_ix ix_seq (pv 1) pe_int (fun _ _=>rfl)) (pe_ix ix_seq (pv 1) pe_int (fun _ _=>rfl))))) pss_nil)
   (pss_cons (ps_if (pt_cmpR op_eq (pv 0) pe_str (nomark _)) (pss_one (ps_ret (pe_op op_or (pe_ix ix_seq (pv 1) pe_int (fun _ _=>rfl)) (pe_ix ix_seq (pv 1) pe_int (fun _ _=>rfl))))) pss_nil)
   (pss_one (ps_ret (pe_op op_xor (pe_ix ix_seq (pv 1) pe_int (fun _ _=>rfl)) (pe_ix ix_seq (pv 1) pe_int (fun _ _=>rfl)))))))),?_⟩
  rcases hw with ⟨rfl,x,rfl,rfl⟩ | ⟨w,x,y,hw,rfl,rfl,hx,hy,rfl⟩
  ·refine⟨_,rfl,rfl,_,rfl,iteY (by decide) ?_⟩;exact⟨_,rfl,at_seq hb rfl ⟨_,_,rfl,rfl,q⟩⟩
  ·obtain rfl | rfl | rfl:w=0∨w=1∨w=2:=by omega
   ·refine⟨_,rfl,rfl,_,rfl,iteN (by decide) ?_⟩;refine⟨_,rfl,rfl,_,rfl,iteY (by decide) ?_⟩;have e:=and_bit hx hy;rw[← e] at q;exact⟨_,rfl,at_seq hb rfl ⟨_,rfl,at_seq hb rfl ⟨_,_,rfl,rfl,q⟩⟩⟩
   ·refine⟨_,rfl,rfl,_,rfl,iteN (by decide) ?_⟩;refine⟨_,rfl,rfl,_,rfl,iteN (by decide) ?_⟩;refine⟨_,rfl,rfl,_,rfl,iteY (by decide) ?_⟩;have e:=or_bit hx hy;rw[← e] at q;exact⟨_,rfl,at_seq hb rfl ⟨_,rfl,at_seq hb rfl ⟨_,_,rfl,rfl,q⟩⟩⟩
   ·refine⟨_,rfl,rfl,_,rfl,iteN (by decide) ?_⟩;refine⟨_,rfl,rfl,_,rfl,iteN (by decide) ?_⟩;refine⟨_,rfl,rfl,_,rfl,iteN (by decide) ?_⟩;have e:=xor_bit hx hy;rw[← e] at q;exact⟨_,rfl,at_seq hb rfl ⟨_,rfl,at_seq hb rfl ⟨_,_,rfl,rfl,q⟩⟩⟩
noncomputable def WordG (s:Str) (ls:List Terms):Gate→Prop
 | .fix _=>False
 | .no _=>s = "not" ∧ ls.length=1
 | .two w _ _=>s=wd w∧w<3∧ls.length=2
noncomputable def saidG (ls:List Terms) (g:Nat):Gate→Int
 | .fix b=>b
 | .no _=>1-worthL (ls.getD 0 []) (g:Int)
 | .two w _ _=>say w (worthL (ls.getD 0 []) (g:Int)) (worthL (ls.getD 1 []) (g:Int))
noncomputable def spFormOfWordS (K:PySem.W.Frag):Sp:=fun vs H Q _=>∃ (b:Addr) (t:Gate) (ls:List Terms) (lt:List Nat),(∃ s,vs=[.str s,.ref b]∧WordG s ls t)∧lt.length≤5∧FLo H b ls∧(∀ l∈ls,FS lt l) ∧
 ∀ (c:Addr) (f:Terms) (H':Hp),H c=none→TLo H' c f→FS lt f→(∀ g:Nat,worthL f (g:Int)=saidG ls g t)→Same H H'→Q (.ref c) H'
theorem sc_Z10:FnScope ["word", "parts", "tables"] ["word", "parts"] (defScope s_Z10):=⟨rfl,rfl,rfl,by decide +kernel,rfl,by decide +kernel,by decide +kernel⟩
theorem nd_Z10_1:(["pair", "word"]:List Str).Nodup:=by decide +kernel
theorem ok_Z10 (T:Txt K mg):FnOk P w K mg base CX0 5 T.a_Z10 T.fd_Z10 ["word", "parts"] (spFormOfWordS K):=by
 refine T.d_Z10.F.ok sc_Z10 (fun vs H Q E h=>?_) (fun cdv A outer s H vs Q E hr h=>?_)
 ·obtain⟨b,t,ls,lt,⟨s',rfl,hW⟩,hl5,hFL,hFG,q⟩:=h;rfl
 ·obtain⟨b,t,ls,lt,⟨s',rfl,hW⟩,hl5,hFL,hFG,q⟩:=h;have hu:=hu_of hr;refine⟨_,(pss_cons (ps_if (pt_cmpR op_eq (pv 0) pe_str (nomark _)) (pss_one (ps_ret (pe_call (ok_Z25 (P:=P) (w:=w) (base:=base) T) hr (by rfl) T.d_Z25.m T.d_Z25.F.kp T.d_Z25.b .nil pass0 (pa_cons (pe_lst (pa_cons (pe_tup (pa_cons pe_int (pa_cons pe_int pa_nil))) pa_nil)) (pa_cons (pe_ix ix_list (pv 1) pe_int (fun _ _=>rfl)) pa_nil))))) pss_nil)
   (pss_cons (ps_set (i:=2) sc_Z10.nd rfl (Or.inl rfl) (pe_call (ok_Z28 (P:=P) (w:=w) (base:=base) T) (hr.mono (by decide)) (by rfl) T.d_Z28.m T.d_Z28.F.kp T.d_Z28.b .nil pass0 (pa_cons (pe_ix ix_list (pv 1) pe_int (fun _ _=>rfl)) (pa_cons (pe_ix ix_list (pv 1) pe_int (fun _ _=>rfl)) pa_nil))))
   (pss_cons (ps_if (pt_cmpR op_isN (pv 2) pe_non (nomark _)) (pss_one (ps_ret (pe_call (ok_Z14 (P:=P) (w:=w) (base:=base) T) hr (by rfl) T.d_Z14.m T.d_Z14.F.kp T.d_Z14.b .nil pass0 (pa_cons (pv 0) (pa_cons (pe_ix ix_list (pv 1) pe_int (fun _ _=>rfl)) (pa_cons (pe_ix ix_list (pv 1) pe_int (fun _ _=>rfl)) pa_nil)))))) pss_nil)
   (pss_one (ps_ret (pe_call (ok_Z7 (P:=P) (w:=w) (base:=base) T) (hr.mono (by decide)) (by rfl) T.d_Z7.m T.d_Z7.F.kp T.d_Z7.b .nil pass0 (pa_cons (pe_comp (g:=(gName 0)) ["pair", "word"] 1 [0] rfl (by exact CompSc.of (defScope s_Z10) ["word", "parts", "tables"] rfl rfl rfl (by decide +kernel) rfl (by decide +kernel) (by decide +kernel)) (pi_zipN rfl T.n_zip (pa_cons (pe_ix ix_tup (pv 2) pe_int (fun _ _=>rfl)) (pa_cons (pe_ix ix_tup (pv 2) pe_int (fun _ _=>rfl)) pa_nil)))
    (fun cl C s₀ H₀ fp=>(pg_name (i:=0) nd_Z10_1 rfl (Or.inl rfl) (Or.inr rfl))) (fun cl C s₀ H₀ fp=>pts_nil) (fun cl C s₀ H₀ fp=>(pe_call (ok_Z0 (P:=P) (w:=w) (base:=base) T) (hr.mono (by decide)) (by rfl) T.d_Z0.m T.d_Z0.F.kp T.d_Z0.b .nil pass0 (pa_cons (pv 1) (pa_cons (pv 0) pa_nil))))) pa_nil))))))),?_⟩
  have h32:∀ {f:Terms},FS lt f→f.length≤32:=fun h=>Nat.le_trans h.len (Nat.pow_le_pow_right (by decide:2 > 0) hl5:2^lt.length≤2^5)
  cases t with
  | fix b=>exact hW.elim
  | no a =>
   obtain⟨rfl,hls⟩:=hW;obtain⟨l,rfl⟩:∃ l,ls=[l]:=by
    match ls,hls with
    | [l],_=>exact⟨l,rfl⟩
   obtain⟨ps,hb,hP⟩:=hFL;obtain⟨p,hp1,hp2⟩:=hP.at (i:=0) rfl;have hps:ps=[p]:=by
    have hn:=hP.length
    match ps,hn,hp1 with
    | [x],_,h=>cases h;rfl
   subst hps;have hlS:=hFG l (by simp);have hl:=hlS.fg;have ll:=h32 hlS;refine⟨_,rfl,rfl,_,rfl,iteY (by decide) ?_⟩;refine⟨(by show 2≤sizeLine;decide),fun t1 ht1=>⟨(by show 1≤sizeLine;decide),fun e1 he1=>?_⟩⟩;have b1:Same H (upd H t1 (.tup [.int 0,.int 1])):=Same.upd ht1;have b2:Same (upd H t1 (.tup [.int 0,.int 1])) (upd (upd H t1 (.tup [.int 0,.int 1])) e1 (.lst [.ref t1])):=Same.upd he1;have B:=b1.trans b2;refine⟨_,rfl,b,_,_,_,rfl,rfl,SqL.of (B _ _ hb),rfl,e1,p,[(0,1)],l,rfl,⟨[t1],upd_same,.cons (b2 _ _ upd_same) .nil⟩,hp2.keep B,(by show 1+l.length≤100000;omega),fun c f H2 hc hT2 hI2 hv2 hl2 s2=>?_⟩;obtain⟨g1,g2⟩:=hl.not hI2 fun k=>by unfold notL;rw[hv2,coef_append,coef_neg];omega
   exact q c f H2 (B.free hc) hT2 (.of1 g1 hlS (fun x=>1-x) g2) g2 (B.trans s2)
  | two w a c =>
   obtain⟨rfl,hw,hls⟩:=hW;obtain⟨l,o,rfl⟩:∃ l o,ls=[l,o]:=by
    match ls,hls with
    | [l,o],_=>exact⟨l,o,rfl⟩
   obtain⟨ps,hb,hP⟩:=hFL;obtain⟨p,hp1,hp2⟩:=hP.at (i:=0) rfl;obtain⟨r,hr1,hr2⟩:=hP.at (i:=1) rfl;have hps:ps=[p,r]:=by
    have hn:=hP.length
    match ps,hn,hp1,hr1 with
    | [x,y],_,h,h'=>cases h;cases h';rfl
   subst hps;have hlS:=hFG l (by simp);have hoS:=hFG o (by simp);have hl:=hlS.fg;have ho:=hoS.fg;have ll:=h32 hlS;have lo:=h32 hoS;have hne:¬ (decide (V.str (wd w)=V.str "not")=true):=by
    obtain rfl | rfl | rfl:w=0∨w=1∨w=2:=by omega
    ·decide
    ·decide
    ·decide
   refine⟨_,rfl,rfl,_,rfl,iteN hne ?_⟩;refine⟨_,rfl,b,_,_,_,rfl,rfl,SqL.of hb,rfl,_,rfl,b,_,_,_,rfl,rfl,SqL.of hb,rfl,p,r,l,o,16,rfl,hp2,hr2,hl,ho,ll,lo,by decide,?_,fun d1 d2 tA m H2 hD0 hD1' hD2 hm kl ko s2=>?_⟩
   ·refine⟨_,rfl,rfl,_,rfl,iteY (by decide) ?_⟩;have hll:l.length * o.length≤32 * 32:=Nat.mul_le_mul (by omega) (by omega);refine⟨_,rfl,_,rfl,b,_,_,_,rfl,rfl,SqL.of hb,rfl,_,rfl,b,_,_,_,rfl,rfl,SqL.of hb,rfl,p,r,l,o,w,rfl,hp2,hr2,hw,(by omega),(fun t ht u hu=>?_),fun d f H2 hd hT2 hF2 s2=>?_⟩
    ·have h1:=hl.small t ht;exact mulL (by omega) (by omega)
    ·obtain⟨g1,g2⟩:=FG.word hw hl ho hF2;exact q d f H2 hd hT2 (.of2 g1 hlS hoS (say w) g2) g2 s2
   ·refine⟨_,rfl,rfl,_,rfl,iteN (by simp) ?_⟩;have hmx:(2:Nat)^m≤2^16:=Nat.pow_le_pow_right (by decide) (by omega);refine⟨_,rfl,tA,_,_,_,rfl,rfl,SqT.of hD0,rfl,_,rfl,tA,_,_,_,rfl,rfl,SqT.of hD0,rfl,d1,d2,rfl,⟨_,SqL.of hD1'⟩,⟨_,SqL.of hD2⟩,?_⟩;refine comp_zip (K:=K) (a:=d1) (b:=d2) (xs:=((List.range (2^m)).map fun g:Nat=>worthL l (g:Int)).map V.int) (ys:=((List.range (2^m)).map fun g:Nat=>worthL o (g:Int)).map V.int) (by simp) (fun i zs σ H3=>∃ v0:Option V,σ = [v0,some (.str (wd w))]∧zs=((List.range i).map fun g:Nat=>say w (worthL l (g:Int)) (worthL o (g:Int))).map V.int∧Same H2 H3)
     ⟨none,rfl,rfl,Same.refl _⟩ (fun i zs σ H3 hi ⟨_,_,e1,e2⟩=>⟨SqL.of (e2 _ _ hD1'),SqL.of (e2 _ _ hD2),by rw[e1];simp⟩) (by simp;exact Nat.le_of_lt (small6 (by omega))) ?_ ?_
    ·rintro i u v zs σ H3 W hu hv ⟨v0,rfl,rfl,s3⟩ hW;have hin:i<2^m:=by
      have:=(List.getElem?_eq_some_iff.mp hu).1
      simpa using this
     have eu:u=V.int (worthL l (i:Int)):=by
      rw[List.getElem?_map,List.getElem?_map,List.getElem?_range hin] at hu;exact (Option.some.inj hu).symm
     have ev:v=V.int (worthL o (i:Int)):=by
      rw[List.getElem?_map,List.getElem?_map,List.getElem?_range hin] at hv;exact (Option.some.inj hv).symm
     subst eu ev;have s4:Same H3 (upd H3 W (.tup [.int (worthL l (i:Int)),.int (worthL o (i:Int))])):=Same.upd hW;unfold gName;refine tt ?_;refine⟨_,rfl,_,rfl,_,W,[worthL l (i:Int),worthL o (i:Int)],_,rfl,.inr upd_same,.inr ⟨w,_,_,hw,rfl,rfl,hl.bit i,ho.bit i,rfl⟩,some (.ref W),rfl,?_,s3.trans s4⟩;rw[List.range_succ,List.map_append,List.map_append];rfl
    ·rintro zs σ H3 ⟨v0,rfl,rfl,s3⟩ D hD;have hlx:(((List.range (2^m)).map fun g:Nat=>worthL l (g:Int)).map V.int).length=2^m:=by simp
     rw[hlx];have s4:Same H3 (upd H3 D (.lst (((List.range (2^m)).map fun g:Nat=>say w (worthL l (g:Int)) (worthL o (g:Int))).map V.int))):=Same.upd hD;refine⟨D,_,m,rfl,upd_same,by simp,by omega,fun c f H4 hc hT4 hF4 hl4 s5=>?_⟩;obtain⟨g1,g2⟩:=FG.table hm hl ho kl ko rfl hF4;have S:=s2.trans (s3.trans s4);exact q c f H4 (S.free hc) hT4 (.of2 g1 hlS hoS (say w) g2) g2 (S.trans s5)
noncomputable def spOfStat (K:PySem.W.Frag) (d:Nat):Sp:=fun vs H Q _=>∃ (v:V) (s:Sm) (ls:List Nat),vs=[v]∧Is H v s.d∧s.ok (fun k=>k∈ls)∧s.dp<d∧s.dp≤20∧ls.length≤5∧(∀ x∈ls,x<16) ∧
 ∀ (b:Addr) (f:Terms) (H':Hp),H b=none→TLo H' b f→FS ls f→(∀ g:Nat,worthL f (g:Int)=s.at fun k=>g.testBit k)→Same H H'→Q (.ref b) H'
theorem sc_Z8:FnScope ["statement", "forms", "part", "word", "last"] ["statement"] (defScope s_Z8):=⟨rfl,rfl,rfl,by decide +kernel,rfl,by decide +kernel,by decide +kernel⟩
theorem ok_Z8 (T:Txt K mg):FnOk P w K mg base CX0 6 T.a_Z8 T.fd_Z8 ["statement"] (spOfStat K 22):=by
 refine T.d_Z8.F.ok sc_Z8 (fun vs H Q E h=>?_) (fun cdv A outer s H vs Q E hr h=>?_)
 ·obtain⟨v,s',ls,rfl,hI,hok,hd,hsz,hl5,hl16,q⟩:=h;rfl
 ·obtain⟨v,s',ls,rfl,hI,hok,hd,hsz,hl5,hl16,q⟩:=h;have hu:=hu_of hr;refine⟨_,(pss_cons (ps_set (i:=1) sc_Z8.nd rfl (Or.inl rfl) (pe_lst pa_nil))
   (pss_cons (ps_for PassesOwn.never rfl (pi_reversed rfl T.n_reversed (pa_cons (pe_call (ok_Z31 (P:=P) (w:=w) (base:=base) T) (hr.mono (by decide)) (by rfl) T.d_Z31.m T.d_Z31.F.kp T.d_Z31.b .nil pass0 (pa_cons (pv 0) pa_nil)) pa_nil)) (pg_name (i:=2) sc_Z8.nd rfl (Or.inl rfl))
    (pss_cons (ps_set (i:=3) sc_Z8.nd rfl (Or.inl rfl) (pe_ix ix_tup (pv 2) pe_int (fun _ _=>rfl)))
   (pss_one (ps_if (pt_cmpR op_eq (pv 3) pe_str (nomark _)) (pss_one (ps_expr (pe_bm PySem.F.plainAttrs_list PySem.F.slot_list_append PySem.F.type_list_append mt_append (pv 1) (pa_cons (pe_lst (pa_cons (pe_tup (pa_cons (pe_call (ok_Z3 (P:=P) (w:=w) (base:=base) T) (hr.mono (by decide)) (by rfl) T.d_Z3.m T.d_Z3.F.kp T.d_Z3.b .nil pass0 (pa_cons (pe_ix ix_tup (pv 2) pe_int (fun _ _=>rfl)) pa_nil)) (pa_cons pe_int pa_nil))) pa_nil)) pa_nil)))) (pss_one (ps_if (pt_cmpR op_eq (pv 3) pe_str (nomark _)) (pss_one (ps_expr (pe_bm PySem.F.plainAttrs_list PySem.F.slot_list_append PySem.F.type_list_append mt_append (pv 1) (pa_cons (pe_call (ok_Z27 (P:=P) (w:=w) (base:=base) T) (hr.mono (by decide)) (by rfl) T.d_Z27.m T.d_Z27.F.kp T.d_Z27.b .nil pass0 (pa_cons (pe_lst (pa_cons (pe_tup (pa_cons pe_int (pa_cons (pe_ix ix_tup (pv 2) pe_int (fun _ _=>rfl)) pa_nil))) pa_nil)) pa_nil)) pa_nil)))) (pss_one (ps_if (pt_cmpR op_eq (pv 3) pe_str (nomark _)) (pss_one (ps_expr (pe_bm PySem.F.plainAttrs_list PySem.F.slot_list_append PySem.F.type_list_append mt_append (pv 1) (pa_cons (pe_call (ok_Z10 (P:=P) (w:=w) (base:=base) T) hr (by rfl) T.d_Z10.m T.d_Z10.F.kp T.d_Z10.b .nil pass0 (pa_cons (pv 3) (pa_cons (pe_lst (pa_cons (pe_bm0 PySem.F.plainAttrs_list PySem.F.slot_list_pop PySem.F.type_list_pop mt_pop (pv 1)) pa_nil)) pa_nil))) pa_nil)))) (pss_cons (ps_set (i:=4) sc_Z8.nd rfl (Or.inl rfl) (pe_bm0 PySem.F.plainAttrs_list PySem.F.slot_list_pop PySem.F.type_list_pop mt_pop (pv 1)))
   (pss_one (ps_expr (pe_bm PySem.F.plainAttrs_list PySem.F.slot_list_append PySem.F.type_list_append mt_append (pv 1) (pa_cons (pe_call (ok_Z10 (P:=P) (w:=w) (base:=base) T) hr (by rfl) T.d_Z10.m T.d_Z10.F.kp T.d_Z10.b .nil pass0 (pa_cons (pv 3) (pa_cons (pe_lst (pa_cons (pe_bm0 PySem.F.plainAttrs_list PySem.F.slot_list_pop PySem.F.type_list_pop mt_pop (pv 1)) (pa_cons (pv 4) pa_nil))) pa_nil))) pa_nil)))))))))))))
   (pss_one (ps_ret (pe_ix ix_list (pv 1) pe_int (fun _ _=>rfl)))))),?_⟩
  refine⟨Nat.zero_le _,fun C hC=>?_⟩;have s0:Same H (upd H C (.lst [])):=Same.upd hC;refine⟨_,rfl,v,s',rfl,hI.keep s0,hsz,fun D xs H1 hD hX hS s1=>⟨D,xs,rfl,SqL.of hX,?_⟩⟩;have hSH:Smr H xs s'.pre:=Paired.mapP hS fun x p e=>sm_keepX (fun a ys z=>by
   by_cases y:a=C
   ·rw[y,upd_same] at z;cases z
   ·rw[upd_ne y] at z;exact z) e
  have hDC:D≠C:=fun z=>by rw[z,upd_same] at hD;cases hD
  have hxl:xs.length=s'.sz:=by rw[← Sm.pre_len];exact Paired.length hSH
  have hsm:=pre_small hsz;refine for_rev (K:=K) (a:=D) (xs:=xs) (fun i σ G=>∃ (qs:List Addr) (fl:List Terms) (st:List Sm) (v2 v3 v4:Option V),σ = [some v,some (.ref C),v2,v3,v4]∧G C=some (.lst (qs.map V.ref))∧Fms G qs fl∧Paired (FoS ls) st fl∧Runs [s'] st (s'.pre.reverse.drop i)∧st.length≤i∧(∀ p∈qs,H p=none∧p≠C)∧G D=some (.lst xs)∧Same H G)
   ⟨[],[],[],none,none,none,rfl,s1 _ _ upd_same,.nil,.nil,(by have:=runs_post (fin:=[s']) s' [] [] rfl;rwa [List.append_nil] at this),Nat.le_refl _,(fun p hp=>by cases hp),hX,s0.trans s1⟩
   (fun i σ G _ ⟨_,_,_,_,_,_,_,_,_,_,_,_,_,e,_⟩=>SqL.of e) ?_ ?_
  ·rintro i y σ G hi ⟨qs,fl,st,v2,v3,v4,rfl,g1,g2,g3,g4,g5,g6,g7,sG⟩;obtain⟨p,hp1,hp2⟩:=hSH.rev.at hi;have hpo:=Sm.pre_ok hok p (List.mem_reverse.mp (List.mem_of_getElem? hp1));have hil:i<s'.sz:=by
    have:=(List.getElem?_eq_some_iff.mp hi).1
    rw[List.length_reverse] at this;omega
   have hdr:s'.pre.reverse.drop i=p :: s'.pre.reverse.drop (i+1):=by
    obtain⟨h1,h2⟩:=List.getElem?_eq_some_iff.mp hp1;rw[List.drop_eq_getElem_cons h1,h2]
   rw[hdr] at g4;obtain⟨st',hN,hR⟩:=g4;have hql:=g2.length;have hfl:st.length=fl.length:=Paired.length g3;have put:∀ {G2:Hp}{e:Addr}{f:Terms}{qa:List Addr}{fa:List Terms}{sa:List Sm},G2 C=some (.lst (qa.map V.ref))→Fms G2 qa fa→Paired (FoS ls) sa fa→(∀ p∈qa,H p=none∧p≠C)→G2 D=some (.lst xs)→Same H G2→sa.length≤i→H e=none→e≠C→TLo G2 e f→FoS ls p f→st'=sa ++ [p]→∀ v2 v3 v4:Option V,
     (∃ (qs:List Addr) (fl:List Terms) (st:List Sm) (v2' v3' v4':Option V),[some v,some (.ref C),v2,v3,v4]=[some v,some (V.ref C),v2',v3',v4']∧upd G2 C (.lst (qa.map V.ref ++ [.ref e])) C=some (.lst (qs.map V.ref))∧Fms (upd G2 C (.lst (qa.map V.ref ++ [.ref e]))) qs fl∧Paired (FoS ls) st fl∧Runs [s'] st (s'.pre.reverse.drop (i+1))∧st.length≤i+1∧(∀ p∈qs,H p=none∧p≠C)∧upd G2 C (.lst (qa.map V.ref ++ [.ref e])) D=some (.lst xs)∧Same H (upd G2 C (.lst (qa.map V.ref ++ [.ref e])))):=by
    intro G2 e f qa fa sa h1 h2 h3 h4 h5 h6 h6b h7 h8 h9 h10 h11 v2 v3 v4;refine⟨qa ++ [e],fa ++ [f],sa ++ [p],v2,v3,v4,rfl,(by rw[upd_same,List.map_append];rfl),?_,paired_snoc h3 h10,(by rw[← h11];exact hR),(by rw[List.length_append];show sa.length+1≤i+1;omega),fun p' hp'=>?_,(by rw[upd_ne hDC];exact h5),h6.write hC⟩
    ·refine Fms.keepU h1 (Fms.snoc h2 h9) fun z=>?_
     rcases List.mem_append.mp z with y | y
     ·exact (h4 C y).2 rfl
     ·exact h8 (List.mem_singleton.mp y).symm
    ·rcases List.mem_append.mp hp' with y | y
     ·exact h4 p' y
     ·rw[List.mem_singleton.mp y];exact⟨h7,h8⟩
   cases p with
   | bit k =>
    obtain⟨p,rfl,hp⟩:=sm_bit (hp2.keep sG);have hk16:=hl16 k hpo;refine⟨_,rfl,p,_,_,_,rfl,rfl,SqT.of hp,rfl,?_⟩;refine⟨_,rfl,rfl,_,rfl,iteY (by decide) ?_⟩;refine⟨_,rfl,.inl ⟨rfl,_,SqL.of g1⟩,_,rfl,p,_,_,_,rfl,rfl,SqT.of hp,rfl,k,rfl,by omega,(by show 2≤sizeLine;decide),fun t1 ht1=>⟨(by show 1≤sizeLine;decide),fun e1 he1=>?_⟩⟩;have b1:Same G (upd G t1 (.tup [.int (2^k),.int 1])):=Same.upd ht1;have b2:Same (upd G t1 (.tup [.int (2^k),.int 1])) (upd (upd G t1 (.tup [.int (2^k),.int 1])) e1 (.lst [.ref t1])):=Same.upd he1;have B:=b1.trans b2;exact⟨C,_,_,rfl,rfl,B _ _ g1,small21 (by rw[List.length_map];omega),put (B _ _ g1) (g2.keep B) g3 g6 (B _ _ g7) (sG.trans B) g5 (sG.free (b1.free he1)) (ne_of_none' g1 (b1.free he1)) ⟨[t1],upd_same,.cons (b2 _ _ upd_same) .nil⟩ ⟨FS.bit hpo hk16,fun g=>worth_wire k g⟩ hN _ _ _⟩
   | fix c =>
    obtain⟨p,rfl,hp⟩:=sm_fix (hp2.keep sG);refine⟨_,rfl,p,_,_,_,rfl,rfl,SqT.of hp,rfl,?_⟩;refine⟨_,rfl,rfl,_,rfl,iteN (by decide) ?_⟩;refine⟨_,rfl,rfl,_,rfl,iteY (by decide) ?_⟩;refine⟨_,rfl,.inl ⟨rfl,_,SqL.of g1⟩,_,rfl,p,_,_,_,rfl,rfl,SqT.of hp,rfl,(by show 2≤sizeLine;decide),fun t1 ht1=>⟨(by show 1≤sizeLine;decide),fun e1 he1=>?_⟩⟩;have b1:Same G (upd G t1 (.tup [.int 0,.int c])):=Same.upd ht1;have b2:Same (upd G t1 (.tup [.int 0,.int c])) (upd (upd G t1 (.tup [.int 0,.int c])) e1 (.lst [.ref t1])):=Same.upd he1;have eT:TLo (upd (upd G t1 (.tup [.int 0,.int c])) e1 (.lst [.ref t1])) e1 [(0,c)]:=⟨[t1],upd_same,.cons (b2 _ _ upd_same) .nil⟩;refine⟨e1,[(0,c)],rfl,eT.tl,(by show 1≤100000;decide),fun b f H2 hb hT2 hF2 hl2 s2=>?_⟩;have B:=(b1.trans b2).trans s2;exact⟨C,_,_,rfl,rfl,B _ _ g1,small21 (by rw[List.length_map];omega),put (B _ _ g1) (g2.keep B) g3 g6 (B _ _ g7) (sG.trans B) g5 (sG.free ((b1.trans b2).free hb)) (ne_of_none' g1 ((b1.trans b2).free hb)) hT2 ⟨FS.fix hpo hF2,fun g=>by rw[worth_congr _ hF2.val,one_worth];rfl⟩ hN _ _ _⟩
   | no s1 =>
    obtain⟨sa,rfl,rfl⟩:=hN;obtain⟨fa,fb,rfl,a1,a2⟩:=paired_app g3;cases a2 with
    | cons hf1 a3 =>
    cases a3;rename_i f1;obtain⟨qa,qb,rfl,c1,c2⟩:=paired_appR (m:=fa) g2;cases c2 with
    | cons hq1 c3 =>
    cases c3;rename_i b1;obtain⟨p,x,rfl,hp,hx⟩:=sm_no (hp2.keep sG);refine⟨_,rfl,p,_,_,_,rfl,rfl,SqT.of hp,rfl,?_⟩;refine⟨_,rfl,rfl,_,rfl,iteN (by decide) ?_⟩;refine⟨_,rfl,rfl,_,rfl,iteN (by decide) ?_⟩;refine⟨_,rfl,rfl,_,rfl,iteY (by decide) ?_⟩;have hlast:((qa ++ [b1]).map V.ref)[((qa ++ [b1]).map V.ref).length-1]? = some (V.ref b1):=by simp
    refine⟨_,rfl,.inl ⟨rfl,_,SqL.of g1⟩,_,rfl,_,rfl,.inl ⟨rfl,_,SqL.of g1⟩,C,_,.ref b1,rfl,rfl,g1,hlast,?_⟩;have w1:upd G C (.lst ((qa ++ [b1]).map V.ref).dropLast) C=some (.lst (qa.map V.ref)):=by rw[upd_same,List.map_append];exact congrArg (fun z=>some (HO.lst z)) List.dropLast_concat
    have w2:Fms (upd G C (.lst ((qa ++ [b1]).map V.ref).dropLast)) (qa ++ [b1]) (fa ++ [f1]):=Fms.keepU g1 g2 fun z=>(g6 C z).2 rfl
    have w3:upd G C (.lst ((qa ++ [b1]).map V.ref).dropLast) D=some (.lst xs):=by rw[upd_ne hDC];exact g7
    have sG1:=sG.write (o := .lst ((qa ++ [b1]).map V.ref).dropLast) hC;generalize upd G C (.lst ((qa ++ [b1]).map V.ref).dropLast)=G1 at w1 w2 w3 sG1 ⊢;obtain⟨x1,x2,ex,w4,w5⟩:=paired_appR (m:=fa) w2;obtain⟨rfl,ex2⟩:=List.append_inj ex (by rw[Paired.length c1,Paired.length w4]);subst ex2;cases w5 with
    | cons hb1 w6 =>
    refine⟨(by show 1≤sizeLine;decide),fun e he=>?_⟩;have k1:Same G1 (upd G1 e (.lst [.ref b1])):=Same.upd he;refine⟨e,.no 0,[f1],ls,⟨_,rfl,rfl,rfl⟩,hl5,⟨[b1],upd_same,.cons (hb1.keep k1) .nil⟩,(fun l hl=>by rw[List.mem_singleton.mp hl];exact hf1.1),fun c f H6 hc hT hF hw s6=>?_⟩;have B:=k1.trans s6;exact⟨C,_,_,rfl,rfl,B _ _ w1,small21 (by rw[List.length_map,Paired.length w4,← Paired.length a1];rw[List.length_append] at g5;omega),put (B _ _ w1) (Fms.keep w4 B) a1 (fun p hp=>g6 p (List.mem_append_left _ hp)) (B _ _ w3) (sG1.trans B) (by rw[List.length_append] at g5;omega) (sG1.free (k1.free hc)) (ne_of_none' w1 (k1.free hc)) hT ⟨hF,fun g=>by rw[hw];show 1-worthL f1 (g:Int)=_;rw[hf1.2];rfl⟩ rfl _ _ _⟩
   | two j s1 s2 =>
    obtain⟨sa,rfl,rfl⟩:=hN;obtain⟨hw3,ok1,ok2⟩:=hpo;obtain⟨fa,fb,rfl,a1,a2⟩:=paired_app g3;cases a2 with
    | cons hf1 a3 =>
    cases a3 with
    | cons hf2 a4 =>
    cases a4;rename_i f1 f2;obtain⟨qa,qb,rfl,c1,c2⟩:=paired_appR (m:=fa) g2;cases c2 with
    | cons hq1 c3 =>
    cases c3 with
    | cons hq2 c4 =>
    cases c4;rename_i b1 b2;obtain⟨p,x,z,rfl,hp,hx,hz⟩:=sm_two (hp2.keep sG);obtain⟨n1,n2,n3⟩:=wd_ne (w:=j);refine⟨_,rfl,p,_,_,_,rfl,rfl,SqT.of hp,rfl,?_⟩;refine⟨_,rfl,rfl,_,rfl,iteN (by simpa using n1) ?_⟩;refine⟨_,rfl,rfl,_,rfl,iteN (by simpa using n2) ?_⟩;refine⟨_,rfl,rfl,_,rfl,iteN (by simpa using n3) ?_⟩;have hlast:((qa ++ [b1,b2]).map V.ref)[((qa ++ [b1,b2]).map V.ref).length-1]? = some (V.ref b2):=by simp
    refine⟨_,rfl,.inl ⟨rfl,_,SqL.of g1⟩,C,_,.ref b2,rfl,rfl,g1,hlast,?_⟩;have ed:((qa ++ [b1,b2]).map V.ref).dropLast=(qa ++ [b1]).map V.ref:=by rw[List.map_append,List.map_append];exact List.dropLast_append_cons
    have w1:upd G C (.lst ((qa ++ [b1,b2]).map V.ref).dropLast) C=some (.lst ((qa ++ [b1]).map V.ref)):=by rw[upd_same,ed]
    have w2:Fms (upd G C (.lst ((qa ++ [b1,b2]).map V.ref).dropLast)) (qa ++ [b1,b2]) (fa ++ [f1,f2]):=Fms.keepU g1 g2 fun z=>(g6 C z).2 rfl
    have w3:upd G C (.lst ((qa ++ [b1,b2]).map V.ref).dropLast) D=some (.lst xs):=by rw[upd_ne hDC];exact g7
    have sG1:=sG.write (o := .lst ((qa ++ [b1,b2]).map V.ref).dropLast) hC;generalize upd G C (.lst ((qa ++ [b1,b2]).map V.ref).dropLast)=G1 at w1 w2 w3 sG1 ⊢;have hlast2:((qa ++ [b1]).map V.ref)[((qa ++ [b1]).map V.ref).length-1]? = some (V.ref b1):=by simp
    refine⟨_,rfl,.inl ⟨rfl,_,SqL.of w1⟩,_,rfl,_,rfl,.inl ⟨rfl,_,SqL.of w1⟩,C,_,.ref b1,rfl,rfl,w1,hlast2,?_⟩;have y1:upd G1 C (.lst ((qa ++ [b1]).map V.ref).dropLast) C=some (.lst (qa.map V.ref)):=by rw[upd_same,List.map_append];exact congrArg (fun z=>some (HO.lst z)) List.dropLast_concat
    have y2:Fms (upd G1 C (.lst ((qa ++ [b1]).map V.ref).dropLast)) (qa ++ [b1,b2]) (fa ++ [f1,f2]):=Fms.keepU w1 w2 fun z=>(g6 C z).2 rfl
    have y3:upd G1 C (.lst ((qa ++ [b1]).map V.ref).dropLast) D=some (.lst xs):=by rw[upd_ne hDC];exact w3
    have sG2:=sG1.write (o := .lst ((qa ++ [b1]).map V.ref).dropLast) hC;generalize upd G1 C (.lst ((qa ++ [b1]).map V.ref).dropLast)=G2 at y1 y2 y3 sG2 ⊢;obtain⟨x1,x2,ex,w4,w5⟩:=paired_appR (m:=fa) y2;obtain⟨rfl,ex2⟩:=List.append_inj ex (by rw[Paired.length c1,Paired.length w4]);subst ex2;cases w5 with
    | cons hb1 w6 =>
    cases w6 with
    | cons hb2 w7 =>
    refine⟨_,rfl,(by show 2≤sizeLine;decide),fun e he=>?_⟩;have k1:Same G2 (upd G2 e (.lst [.ref b1,.ref b2])):=Same.upd he;refine⟨e,.two j 0 0,[f1,f2],ls,⟨_,rfl,rfl,hw3,rfl⟩,hl5,⟨[b1,b2],upd_same,.cons (hb1.keep k1) (.cons (hb2.keep k1) .nil)⟩,(fun l hl=>by
     have e:l=f1∨l=f2:=by simpa using hl
     rcases e with e | e <;> rw[e]
     ·exact hf1.1
     ·exact hf2.1),fun c f H6 hc hT hF hw s6=>?_⟩
    have B:=k1.trans s6;exact⟨C,_,_,rfl,rfl,B _ _ y1,small21 (by rw[List.length_map,Paired.length w4,← Paired.length a1];rw[List.length_append] at g5;omega),put (B _ _ y1) (Fms.keep w4 B) a1 (fun p hp=>g6 p (List.mem_append_left _ hp)) (B _ _ y3) (sG2.trans B) (by rw[List.length_append] at g5;omega) (sG2.free (k1.free hc)) (ne_of_none' y1 (k1.free hc)) hT ⟨hF,fun g=>by rw[hw];show say j (worthL f1 (g:Int)) (worthL f2 (g:Int))=_;rw[hf1.2,hf2.2];rfl⟩ rfl _ _ _⟩
  ·rintro σ G ⟨qs,fl,st,v2,v3,v4,rfl,g1,g2,g3,g4,g5,g6,g7,sG⟩;have e:s'.pre.reverse.drop xs.length=[]:=by rw[hxl,← Sm.pre_len];exact List.drop_eq_nil_of_le (by rw[List.length_reverse];exact Nat.le_refl _)
   rw[e] at g4;have e2:st=[s']:=g4;subst e2;cases g3 with
   | cons hf1 a3 =>
   cases a3;cases g2 with
   | cons hq1 c3 =>
   cases c3;rename_i f1 b1;exact⟨_,rfl,C,_,_,_,rfl,rfl,SqL.of g1,rfl,q b1 f1 G (g6 b1 (by simp)).1 hq1 hf1.1 hf1.2 sG⟩
noncomputable def spBits:Sp:=fun vs H Q _=>∃ (g m:Nat),vs=[.int (g:Int),.int (m:Int)]∧m≤100000 ∧
 ∀ (D:Addr) (H':Hp),H D=none→H' D=some (.lst (((List.range m).map fun i:Nat=>((g / 2^i % 2:Nat):Int)).map V.int))→Same H H'→Q (.ref D) H'
theorem sc_Z1:FnScope ["given", "many", "bits", "k"] ["given", "many"] (defScope s_Z1):=⟨rfl,rfl,rfl,by decide +kernel,rfl,by decide +kernel,by decide +kernel⟩
theorem ok_Z1 (T:Txt K mg):FnOk P w K mg base CX0 1 T.a_Z1 T.fd_Z1 ["given", "many"] spBits:=by
 refine T.d_Z1.F.ok sc_Z1 (fun vs H Q E h=>?_) (fun cdv A outer s H vs Q E hr h=>?_)
 ·obtain⟨g,m,rfl,hm,q⟩:=h;rfl
 ·obtain⟨g,m,rfl,hm,q⟩:=h;have hu:=hu_of hr;refine⟨_,(pss_cons (ps_set (i:=2) sc_Z1.nd rfl (Or.inl rfl) (pe_lst pa_nil))
   (pss_cons (ps_for PassesOwn.never rfl (pi_range1 rfl T.n_range (pa_cons (pv 1) pa_nil)) (pg_name (i:=3) sc_Z1.nd rfl (Or.inl rfl))
    (pss_cons (ps_expr (pe_bm PySem.F.plainAttrs_list PySem.F.slot_list_append PySem.F.type_list_append mt_append (pv 2) (pa_cons (pe_op op_mod (pv 0) pe_int) pa_nil)))
   (pss_one (ps_set (i:=0) sc_Z1.nd rfl (Or.inl rfl) (pe_op op_fdivG (pv 0) pe_int)))))
   (pss_one (ps_ret (pv 2))))),?_⟩
  refine⟨Nat.zero_le _,fun D hD=>?_⟩;refine⟨_,rfl,(m:Int),rfl,by omega,by omega,for_range (n:=m) (fun i σ H2=>∃ v3:Option V,σ = [some (.int ((g / 2^i:Nat):Int)),some (.int (m:Int)),some (.ref D),v3]∧H2=upd H D (.lst (((List.range i).map fun i:Nat=>((g / 2^i % 2:Nat):Int)).map V.int))) ⟨none,?_,rfl⟩ ?_ ?_⟩
  ·rw[Nat.pow_zero,Nat.div_one];rfl
  ·rintro i σ H2 hi ⟨v3,rfl,rfl⟩;refine⟨_,rfl,.inl ⟨rfl,_,SqL.of upd_same⟩,_,rfl,_,_,rfl,rfl,(by show (0:Int)<2;decide),D,_,_,rfl,rfl,upd_same,(by rw[List.length_map,List.length_map,List.length_range];exact small6 (by omega)),?_⟩;refine⟨_,rfl,_,_,rfl,rfl,⟨by decide,by decide⟩,some (.int (0+(i:Int))),?_,?_⟩
   ·show [some (V.int (((g / 2^i:Nat):Int) / 2)),_,_,_]=_;rw[show ((g / 2^i:Nat):Int) / 2=((g / 2^(i+1):Nat):Int) by rw[Nat.pow_succ,← Nat.div_div_eq_div_mul];norm_cast]
   ·rw[upd_upd,List.range_succ,List.map_append,List.map_append];rfl
  ·rintro σ H2 ⟨v3,rfl,rfl⟩;exact⟨_,rfl,q D _ hD upd_same (Same.upd hD)⟩
noncomputable def spListed (K:PySem.W.Frag):Sp:=fun vs H Q _=>∃ (a:Nat),vs=[.int (a:Int)]∧a<2^1000 ∧
 ∀ (D:Addr) (H':Hp),H D=none→H' D=some (.lst (((lst a).map fun k:Nat=>(k:Int)).map V.int))→Same H H'→Q (.ref D) H'
theorem sc_Z26:FnScope ["members"] ["members"] (defScope s_Z26):=⟨rfl,rfl,rfl,by decide +kernel,rfl,by decide +kernel,by decide +kernel⟩
theorem nd_Z26_1:(["k", "bit"]:List Str).Nodup:=by decide +kernel
theorem ok_Z26 (T:Txt K mg):FnOk P w K mg base CX0 2 T.a_Z26 T.fd_Z26 ["members"] (spListed K):=by
 refine T.d_Z26.F.ok sc_Z26 (fun vs H Q E h=>?_) (fun cdv A outer s H vs Q E hr h=>?_)
 ·obtain⟨a,rfl,ha,q⟩:=h;rfl
 ·obtain⟨a,rfl,ha,q⟩:=h;have hu:=hu_of hr;refine⟨_,(pss_one (ps_ret (pe_comp (g:=(gTup K 2 (gCons (gName 0) (gCons (gName 1) gNil)))) ["k", "bit"] 2 [] rfl (by exact CompSc.of (defScope s_Z26) ["members"] rfl rfl rfl (by decide +kernel) rfl (by decide +kernel) (by decide +kernel)) (pi_enum rfl T.n_enumerate (pa_cons (pe_call (ok_Z1 (P:=P) (w:=w) (base:=base) T) hr (by rfl) T.d_Z1.m T.d_Z1.F.kp T.d_Z1.b .nil pass0 (pa_cons (pv 0) (pa_cons (pe_bm0 PySem.F.plainAttrs_int PyProof.Rows.slot_int_bit_length PyProof.Rows.type_int_bit_length mt_bit_length (pv 0)) pa_nil))) pa_nil))
    (fun cl C s₀ H₀ fp=>(pg_tup (n:=2) rfl (pgs_cons (pg_name (i:=0) nd_Z26_1 rfl (Or.inl rfl) (Or.inr rfl)) (pgs_cons (pg_name (i:=1) nd_Z26_1 rfl (Or.inl rfl) (Or.inr rfl)) pgs_nil)))) (fun cl C s₀ H₀ fp=>(pts_one (pt_cmpR op_eq (pv 1) pe_int (nomark _)))) (fun cl C s₀ H₀ fp=>(pv 0))))),?_⟩
  have hb:=intBits_lt ha;refine⟨_,rfl,_,rfl,rfl,_,rfl,rfl,a,Builtin.Int.intBits (a:Int),rfl,by omega,fun b H1 hbn hb1 s1=>?_⟩;refine⟨b,rfl,⟨_,SqL.of hb1⟩,?_⟩;refine comp_enum (K:=K) (a:=b) (xs:=((List.range (Builtin.Int.intBits (a:Int))).map fun i:Nat=>((a / 2^i % 2:Nat):Int)).map V.int) (fun i ys σ H2=>∃ v0 v1:Option V,σ = [v0,v1]∧ys=(((List.range i).filter fun k=>a.testBit k).map fun k:Nat=>(k:Int)).map V.int∧Same H1 H2)
   ⟨none,none,rfl,rfl,Same.refl _⟩ (fun i ys σ H2 hi ⟨_,_,_,e1,e2⟩=>⟨SqL.of (e2 _ _ hb1),by
    rw[e1,List.length_map,List.length_map];exact Nat.le_trans (List.length_filter_le _ _) (by rw[List.length_range];exact Nat.le_refl _)⟩) (by rw[List.length_map,List.length_map,List.length_range];exact Nat.le_of_lt (small6 (by omega))) ?_ ?_
  ·rintro i x ys σ H2 W hi ⟨v0,v1,rfl,rfl,s2⟩ hW;obtain⟨n,hn,rfl⟩:=at_int hi;rw[List.getElem?_map] at hn;have hil:i<Builtin.Int.intBits (a:Int):=by
    rcases Nat.lt_or_ge i (Builtin.Int.intBits (a:Int)) with z | z
    ·exact z
    ·rw[List.getElem?_eq_none (by rw[List.length_range];exact z)] at hn;cases hn
   rw[List.getElem?_range hil] at hn;have hn':((a / 2^i % 2:Nat):Int)=n:=Option.some.inj hn;have s3:Same H2 (upd H2 W (.tup [.int (i:Nat),.int n])):=Same.upd hW;refine⟨W,_,rfl,SqT.of upd_same,rfl,_,_,rfl,_,_,rfl,rfl,?_⟩;refine⟨_,rfl,rfl,_,rfl,?_⟩;have hbit:=Nat.testBit_eq_decide_div_mod_eq (x:=a) (i:=i);by_cases h1:a / 2^i % 2=1
   ·have hb1:a.testBit i=true:=by rw[hbit];exact decide_eq_true h1
    refine iteY (by rw[← hn',h1];decide) ?_;refine⟨_,rfl,_,_,rfl,?_,s2.trans s3⟩;rw[List.range_succ,List.filter_append,List.map_append,List.map_append];simp[hb1]
   ·have hb1:a.testBit i=false:=by rw[hbit];exact decide_eq_false h1
    have h0:a / 2^i % 2=0:=by have:=Nat.mod_lt (a / 2^i) (by decide:2 > 0);omega
    refine iteN (by rw[← hn',h0];decide) ⟨_,_,rfl,?_,s2.trans s3⟩;rw[List.range_succ,List.filter_append,List.map_append,List.map_append];simp[hb1]
  ·rintro ys σ H2 ⟨v0,v1,rfl,rfl,s2⟩ D hD;refine q D _ (s1.free (s2.free hD)) ?_ (s1.trans (s2.trans (Same.upd hD)));rw[upd_same,List.length_map,List.length_map,List.length_range];rfl
theorem sc_Z48:FnScope ["form", "given"] ["form", "given"] (defScope s_Z48):=⟨rfl,rfl,rfl,by decide +kernel,rfl,by decide +kernel,by decide +kernel⟩
theorem nd_Z48_2:(["members", "number", "given"]:List Str).Nodup:=by decide +kernel
theorem ok_Z48 (T:Txt K mg):FnOk P w K mg base CX0 1 T.a_Z48 T.fd_Z48 ["form", "given"] (spWorth K):=by
 refine T.d_Z48.F.ok sc_Z48 (fun vs H Q E h=>?_) (fun cdv A outer s H vs Q E hr h=>?_)
 ·obtain⟨a,l,g,rfl,⟨ps,hS,hT⟩,hlen,q⟩:=h;rfl
 ·obtain⟨a,l,g,rfl,⟨ps,hS,hT⟩,hlen,q⟩:=h;have hu:=hu_of hr;refine⟨_,(pss_one (ps_ret (pe_callB (call_sumL rfl) (by rfl) T.n_sum PyProof.Rows.boot_sum (pa_cons (pe_comp (g:=(gTup K 2 (gCons (gName 0) (gCons (gName 1) gNil)))) ["members", "number", "given"] 2 [1] rfl (by exact CompSc.of (defScope s_Z48) ["form", "given"] rfl rfl rfl (by decide +kernel) rfl (by decide +kernel) (by decide +kernel)) (pi_list (pv 0))
    (fun cl C s₀ H₀ fp=>(pg_tup (n:=2) rfl (pgs_cons (pg_name (i:=0) nd_Z48_2 rfl (Or.inl rfl) (Or.inr rfl)) (pgs_cons (pg_name (i:=1) nd_Z48_2 rfl (Or.inl rfl) (Or.inr rfl)) pgs_nil)))) (fun cl C s₀ H₀ fp=>(pts_one (pt_cmpR op_eq (pe_op op_and (pv 0) (pv 2)) (pv 0) (nomark _)))) (fun cl C s₀ H₀ fp=>(pv 1))) pa_nil)))),?_⟩
  refine⟨_,rfl,a,rfl,⟨_,hS⟩,?_⟩;refine comp_list (K:=K) (a:=a) (xs:=ps.map V.ref) (fun i ys σ H2=>∃ (v0 v1:Option V),σ = [v0,v1,some (.int g)]∧H2=H∧ys=(((l.take i).filter fun t=>decide (Builtin.bitAnd t.1 g=t.1)).map (·.2)).map V.int)
   ⟨none,none,rfl,rfl,rfl⟩ (fun i ys σ H2 hi ⟨_,_,_,e,e2⟩=>⟨by rw[e];exact hS,by
    rw[e2,List.length_map,List.length_map];exact Nat.le_trans (List.length_filter_le _ _) (by rw[List.length_take];omega)⟩) (by rw[List.length_map,hT.length];exact Nat.le_of_lt (small6 (by omega))) ?_ ?_
  ·rintro i y ys σ H2 hi ⟨v0,v1,rfl,rfl,rfl⟩;obtain⟨p,hpi,rfl⟩:=at_ref hi;obtain⟨t,ht1,ht2⟩:=hT.at' hpi;have htk:l.take (i+1)=l.take i ++ [t]:=by rw[List.take_add_one,ht1];rfl
   refine⟨p,_,rfl,SqT.of ht2,rfl,_,_,rfl,_,_,rfl,rfl,?_⟩;refine⟨_,rfl,_,rfl,_,_,rfl,rfl,_,rfl,rfl,_,rfl,?_⟩;refine ite2 (fun h1=>?_) (fun h1=>?_)
   ·have h1':Builtin.bitAnd t.1 g=t.1:=by have:=of_decide_eq_true h1;injection this
    refine⟨_,rfl,_,_,rfl,rfl,?_⟩;rw[htk,List.filter_append,List.map_append,List.map_append];simp[h1']
   ·have h1':¬ Builtin.bitAnd t.1 g=t.1:=fun z=>h1 (decide_eq_true (congrArg V.int z))
    refine⟨_,_,rfl,rfl,?_⟩;rw[htk,List.filter_append,List.map_append,List.map_append];simp[h1']
  ·rintro ys σ H2 ⟨v0,v1,rfl,rfl,rfl⟩ D hD;refine⟨D,_,rfl,SqL.of upd_same,?_⟩
   have:=q _ (Same.upd (o := .lst ((((l.take (ps.map V.ref).length).filter fun t=>decide (Builtin.bitAnd t.1 g=t.1)).map (·.2)).map V.int)) hD)
   rw[List.length_map,hT.length,List.take_length] at this ⊢;exact this
noncomputable def spOut (K:PySem.W.Frag):Sp:=fun vs H Q _=>∃ (a:Addr) (l:Terms) (k:Nat),vs=[.ref a,.int (2^k)]∧TL K H a l∧(∀ t∈l,0≤t.1)∧l.length≤100000 ∧
 ∀ (c:Addr) (H':Hp),H c=none→TLo H' c (outL k l)→Same H H'→Q (.ref c) H'
theorem sc_Z47:FnScope ["form", "bit"] ["form", "bit"] (defScope s_Z47):=⟨rfl,rfl,rfl,by decide +kernel,rfl,by decide +kernel,by decide +kernel⟩
theorem nd_Z47_1:(["members", "number", "bit"]:List Str).Nodup:=by decide +kernel
theorem ok_Z47 (T:Txt K mg):FnOk P w K mg base CX0 1 T.a_Z47 T.fd_Z47 ["form", "bit"] (spOut K):=by
 refine T.d_Z47.F.ok sc_Z47 (fun vs H Q E h=>?_) (fun cdv A outer s H vs Q E hr h=>?_)
 ·obtain⟨a,l,k,rfl,hT,h0,hlen,q⟩:=h;rfl
 ·obtain⟨a,l,k,rfl,hT,h0,hlen,q⟩:=h;have hu:=hu_of hr;refine⟨_,(pss_one (ps_ret (pe_comp (g:=(gTup K 2 (gCons (gName 0) (gCons (gName 1) gNil)))) ["members", "number", "bit"] 2 [1] rfl (by exact CompSc.of (defScope s_Z47) ["form", "bit"] rfl rfl rfl (by decide +kernel) rfl (by decide +kernel) (by decide +kernel)) (pi_list (pv 0))
    (fun cl C s₀ H₀ fp=>(pg_tup (n:=2) rfl (pgs_cons (pg_name (i:=0) nd_Z47_1 rfl (Or.inl rfl) (Or.inr rfl)) (pgs_cons (pg_name (i:=1) nd_Z47_1 rfl (Or.inl rfl) (Or.inr rfl)) pgs_nil)))) (fun cl C s₀ H₀ fp=>(pts_one (pt_cmpR op_eq (pe_op op_and (pv 0) (pv 2)) pe_int (nomark _)))) (fun cl C s₀ H₀ fp=>(pe_tup (pa_cons (pv 0) (pa_cons (pv 1) pa_nil))))))),?_⟩
  refine⟨_,rfl,a,rfl,hT.seq,?_⟩;refine comp_flt (fun t => !hasB k t) (fun t=>t) hT (by omega) [some (.int (2^k))] rfl (fun t ht H2 R s2 r=>?_) (fun t ht hp H2 R s2 r=>?_) fun D ys H2 hD hT1 s1=>?_
  ·refine⟨_,rfl,_,rfl,_,_,rfl,rfl,rfl,_,rfl,?_⟩;rw[hasB_and0 (h0 t ht)];exact r
  ·exact⟨_,rfl,_,rfl,(by show 2≤sizeLine;decide),r⟩
  ·exact q D _ hD (by rw[List.map_id'] at hT1;exact hT1) s1
noncomputable def spOff (K:PySem.W.Frag):Sp:=fun vs H Q _=>∃ (a:Addr) (l:Terms) (k:Nat),vs=[.ref a,.int (2^k)]∧TL K H a l∧(∀ t∈l,0≤t.1)∧l.length≤100000 ∧
 ∀ (c:Addr) (H':Hp),H c=none→TLo H' c (offL k l)→Same H H'→Q (.ref c) H'
theorem sc_Z11:FnScope ["form", "bit"] ["form", "bit"] (defScope s_Z11):=⟨rfl,rfl,rfl,by decide +kernel,rfl,by decide +kernel,by decide +kernel⟩
theorem nd_Z11_1:(["members", "number", "bit"]:List Str).Nodup:=by decide +kernel
theorem ok_Z11 (T:Txt K mg):FnOk P w K mg base CX0 1 T.a_Z11 T.fd_Z11 ["form", "bit"] (spOff K):=by
 refine T.d_Z11.F.ok sc_Z11 (fun vs H Q E h=>?_) (fun cdv A outer s H vs Q E hr h=>?_)
 ·obtain⟨a,l,k,rfl,hT,h0,hlen,q⟩:=h;rfl
 ·obtain⟨a,l,k,rfl,hT,h0,hlen,q⟩:=h;have hu:=hu_of hr;refine⟨_,(pss_one (ps_ret (pe_comp (g:=(gTup K 2 (gCons (gName 0) (gCons (gName 1) gNil)))) ["members", "number", "bit"] 2 [1] rfl (by exact CompSc.of (defScope s_Z11) ["form", "bit"] rfl rfl rfl (by decide +kernel) rfl (by decide +kernel) (by decide +kernel)) (pi_list (pv 0))
    (fun cl C s₀ H₀ fp=>(pg_tup (n:=2) rfl (pgs_cons (pg_name (i:=0) nd_Z11_1 rfl (Or.inl rfl) (Or.inr rfl)) (pgs_cons (pg_name (i:=1) nd_Z11_1 rfl (Or.inl rfl) (Or.inr rfl)) pgs_nil)))) (fun cl C s₀ H₀ fp=>(pts_one (pt_cmpR op_ne (pe_op op_and (pv 0) (pv 2)) pe_int (nomark _)))) (fun cl C s₀ H₀ fp=>(pe_tup (pa_cons (pe_op op_sub (pv 0) (pv 2)) (pa_cons (pv 1) pa_nil))))))),?_⟩
  refine⟨_,rfl,a,rfl,hT.seq,?_⟩;refine comp_flt (fun t=>hasB k t) (fun t=>(t.1-2^k,t.2)) hT (by omega) [some (.int (2^k))] rfl (fun t ht H2 R s2 r=>?_) (fun t ht hp H2 R s2 r=>?_) fun D ys H2 hD hT1 s1=>?_
  ·refine⟨_,rfl,_,rfl,_,_,rfl,rfl,rfl,_,rfl,?_⟩;rw[hasB_and0 (h0 t ht),Bool.not_not];exact r
  ·exact⟨_,rfl,_,rfl,_,_,rfl,rfl,_,rfl,(by show 2≤sizeLine;decide),r⟩
  ·exact q D _ hD hT1 s1
noncomputable def spFixed (K:PySem.W.Frag):Sp:=fun vs H Q _=>∃ (a:Addr) (l:Terms) (k:Nat) (b:Int),vs=[.ref a,.int (k:Int),.int b]∧TLo H a l∧IsForm l∧(∀ t∈l,0≤t.1)∧l.length≤100000∧k≤100∧(b=0∨b=1) ∧
 ∀ (c:Addr) (f:Terms) (H':Hp),H c=none→TLo H' c f→FormOf f (fixL k b l)→f.length≤l.length→Same H H'→Q (.ref c) H'
theorem sc_Z4:FnScope ["form", "k", "bit", "own"] ["form", "k", "bit"] (defScope s_Z4):=⟨rfl,rfl,rfl,by decide +kernel,rfl,by decide +kernel,by decide +kernel⟩
theorem ok_Z4 (T:Txt K mg):FnOk P w K mg base CX0 4 T.a_Z4 T.fd_Z4 ["form", "k", "bit"] (spFixed K):=by
 refine T.d_Z4.F.ok sc_Z4 (fun vs H Q E h=>?_) (fun cdv A outer s H vs Q E hr h=>?_)
 ·obtain⟨a,l,k,b,rfl,hT,hF,h0,hlen,hk,hb,q⟩:=h;rfl
 ·obtain⟨a,l,k,b,rfl,hT,hF,h0,hlen,hk,hb,q⟩:=h;have hu:=hu_of hr;refine⟨_,(pss_cons (ps_set (i:=3) sc_Z4.nd rfl (Or.inl rfl) (pe_call (ok_Z3 (P:=P) (w:=w) (base:=base) T) (hr.mono (by decide)) (by rfl) T.d_Z3.m T.d_Z3.F.kp T.d_Z3.b .nil pass0 (pa_cons (pv 1) pa_nil)))
   (pss_cons (ps_if (pt_cmpR op_eq (pv 2) pe_int (nomark _)) (pss_one (ps_ret (pe_call (ok_Z47 (P:=P) (w:=w) (base:=base) T) (hr.mono (by decide)) (by rfl) T.d_Z47.m T.d_Z47.F.kp T.d_Z47.b .nil pass0 (pa_cons (pv 0) (pa_cons (pv 3) pa_nil))))) pss_nil)
   (pss_one (ps_ret (pe_call (ok_Z32 (P:=P) (w:=w) (base:=base) T) hr (by rfl) T.d_Z32.m T.d_Z32.F.kp T.d_Z32.b .nil pass0 (pa_cons (pe_call (ok_Z47 (P:=P) (w:=w) (base:=base) T) (hr.mono (by decide)) (by rfl) T.d_Z47.m T.d_Z47.F.kp T.d_Z47.b .nil pass0 (pa_cons (pv 0) (pa_cons (pv 3) pa_nil))) (pa_cons (pe_call (ok_Z11 (P:=P) (w:=w) (base:=base) T) (hr.mono (by decide)) (by rfl) T.d_Z11.m T.d_Z11.F.kp T.d_Z11.b .nil pass0 (pa_cons (pv 0) (pa_cons (pv 3) pa_nil))) pa_nil))))))),?_⟩
  refine⟨_,rfl,k,rfl,hk,?_⟩;refine⟨_,rfl,rfl,_,rfl,?_⟩;rcases hb with rfl | rfl
  ·refine iteY (by decide) ?_;refine⟨_,rfl,_,rfl,a,l,k,rfl,hT.tl,h0,hlen,fun c H' hc hT' s'=>?_⟩;refine q c _ H' hc hT' ?_ (outL_len k l) s'
   have:=FormOf.self (hF.filter fun t => !hasB k t)
   unfold fixL;rw[if_pos rfl,List.append_nil];exact this
  ·refine iteN (by decide) ?_;refine⟨_,rfl,_,rfl,a,l,k,rfl,hT.tl,h0,hlen,fun c H1 hc hT1 s1=>?_⟩;refine⟨_,rfl,_,rfl,a,l,k,rfl,(hT.keep s1).tl,h0,hlen,fun d H2 hd hT2 s2=>?_⟩;have e:=out_off_len k l;refine⟨c,d,outL k l,offL k l,rfl,hT1.keep s2,hT2,by omega,fun x f H3 hx hT3 hF3 hl3 s3=>?_⟩;refine q x f H3 (s1.free (s2.free hx)) hT3 ?_ (by omega) (s1.trans (s2.trans s3));unfold fixL;rw[if_neg (by decide)];exact hF3
noncomputable def PlainT (m:Int):Tr→Prop
 | .leaf n=>n=0∨n=1
 | .node k a b=>m<(k:Int)∧a≠b∧PlainT (k:Int) a∧PlainT (k:Int) b
noncomputable def spTreeOf (K:PySem.W.Frag) (d:Nat):Sp:=fun vs H Q _=>∃ (a:Addr) (f:Terms) (ls:List Nat),vs=[.ref a]∧TLo H a f∧FS ls f∧(∀ x∈ls,x<16)∧ls.length<d∧ls.length≤5 ∧
 ∀ (v:V) (t:Tr) (H':Hp),Is H' v t.d→t.ok (fun k=>k<60)→t.dp≤ls.length→(∀ m:Int,(∀ x∈ls,m<(x:Int))→PlainT m t)→(∀ g:Nat,t.at (fun k=>g.testBit k)=worthL f (g:Int))→Same H H'→Q v H'
theorem no_key {f:Terms}{k:Nat} (h:FG 16 f) (hw:∀ g:Nat,worthL f ((setB g k false:Nat):Int)=worthL f (g:Int)):∀ t∈f,t.1.toNat.testBit k=false:=fun t ht=>by
 have h0:∀ t∈f,0≤t.1:=fun t ht=>(h.keys t ht).1
 have hr:KeyIn (List.range 16) f:=fun t ht j hj=>by
  rcases Nat.lt_or_ge j 16 with z | z
  ·exact List.mem_range.mpr z
  ·have h1:t.1.toNat<2^16:=key_lt (h.keys t ht);rw[Nat.testBit_lt_two_pow (Nat.lt_of_lt_of_le h1 (Nat.pow_le_pow_right (by decide) z))] at hj;cases hj
 have hk:KeyIn ((List.range 16).filter fun j=>decide (j≠k)) f:=key_of_worth h fun j hj g=>by
  by_cases e:j=k
  ·rw[e];exact hw g
  ·refine worth_inv hr h0 (fun z=>hj (List.mem_filter.mpr ⟨z,by simpa using e⟩)) g
 cases z:t.1.toNat.testBit k
 ·rfl
 ·have:=(List.mem_filter.mp (hk t ht k z)).2
  simp at this
theorem fs_fix {ls:List Nat}{f f':Terms}{k:Nat}{b:Int} (hb:b=0∨b=1) (hF:FS ls f) (hmin:∀ t∈f,∀ j,t.1.toNat.testBit j=true→k≤j) (h:FormOf f' (fixL k b f)):FS (ls.filter fun x=>decide (k<x)) f'∧∀ g:Nat,worthL f' (g:Int)=worthL f ((setB g k (decide (b=1)):Nat):Int):=by
 have h0:∀ t∈f,0≤t.1:=fun t ht=>(hF.fg.keys t ht).1
 have hw:∀ g:Nat,worthL f' (g:Int)=worthL f ((setB g k (decide (b=1)):Nat):Int):=fun g=>by rw[worth_congr _ h.val,worth_fix hb h0]
 refine⟨⟨⟨h.toIsForm,h.keys (fixL_key hF.fg.keys),fun g=>by rw[hw];exact hF.fg.bit _⟩,fun t ht j hj=>?_⟩,hw⟩;obtain⟨u,hu,e⟩:=List.mem_map.mp (h.src t ht);have key:∃ w∈f,w.1.toNat.testBit j=true∧j≠k:=by
  unfold fixL at hu;rcases List.mem_append.mp hu with z | z
  ·have hz:=List.mem_filter.mp z;have hz2:u.1.toNat.testBit k=false:=by
    have:=hz.2
    unfold hasB at this;simpa using this
   rw[← e] at hj;refine⟨u,hz.1,hj,fun y=>?_⟩;subst y;rw[hz2] at hj;cases hj
  ·split at z
   ·cases z
   ·unfold offL at z;obtain⟨w,hw',rfl⟩:=List.mem_map.mp z;have hz:=List.mem_filter.mp hw';have hz2:w.1.toNat.testBit k=true:=hz.2;have hge:=hasB_ge (h0 w hz.1) hz.2;have e2:(w.1-2^k).toNat=w.1.toNat-2^k:=by
     have h5:=h0 w hz.1;rw[pow_cast] at hge ⊢;generalize 2^k=P0 at hge ⊢;generalize w.1=W0 at hge h5 ⊢;omega
    rw[← e] at hj;have hj':(w.1-2^k).toNat.testBit j=true:=hj;rw[e2,sub_bit hz2] at hj';have hj2:w.1.toNat.testBit j=true∧j≠k:=by simpa using hj'
    exact⟨w,hz.1,hj2.1,hj2.2⟩
 obtain⟨w,hw1,hw2,hw3⟩:=key;refine List.mem_filter.mpr ⟨hF.key w hw1 j hw2,?_⟩
 have:=hmin w hw1 j hw2
 exact decide_eq_true (by omega)
theorem sc_Z41:FnScope ["form", "together", "k"] ["form"] (defScope s_Z41):=⟨rfl,rfl,rfl,by decide +kernel,rfl,by decide +kernel,by decide +kernel⟩
theorem okr_Z41 (T:Txt K mg) (d:Nat):FnOk P w K mg base CX0 (5+d) T.a_Z41 T.fd_Z41 ["form"] ((spTreeOf K) d):=by
 induction d with
 | zero=>exact T.d_Z41.F.ok sc_Z41 (fun vs H Q E h=>by obtain⟨a,f,ls,rfl,hT,hF,hlt,hd,hl5,q⟩:=h;exact absurd hd (Nat.not_lt_zero _)) (fun cdv A outer s H vs Q E hr h=>by obtain⟨a,f,ls,rfl,hT,hF,hlt,hd,hl5,q⟩:=h;exact absurd hd (Nat.not_lt_zero _))
 | succ d ih =>
 refine T.d_Z41.F.ok (k:=5+d) sc_Z41 (fun vs H Q E h=>?_) (fun cdv A outer s H vs Q E hr h=>?_)
 ·obtain⟨a,f,ls,rfl,hT,hF,hlt,hd,hl5,q⟩:=h;rfl
 ·obtain⟨a,f,ls,rfl,hT,hF,hlt,hd,hl5,q⟩:=h;have hu:=hu_of hr;refine⟨_,(pss_cons (ps_set (i:=1) sc_Z41.nd rfl (Or.inl rfl) (pe_call (ok_Z26 (P:=P) (w:=w) (base:=base) T) (hr.mono (by omega)) (by rfl) T.d_Z26.m T.d_Z26.F.kp T.d_Z26.b .nil pass0 (pa_cons (pe_call (ok_Z42 (P:=P) (w:=w) (base:=base) T) (hr.mono (by omega)) (by rfl) T.d_Z42.m T.d_Z42.F.kp T.d_Z42.b .nil pass0 (pa_cons (pv 0) pa_nil)) pa_nil)))
   (pss_cons (ps_if (pt_not (pt_truth (pv 1) (fun _=>rfl))) (pss_one (ps_ret (pe_call (ok_Z48 (P:=P) (w:=w) (base:=base) T) (hr.mono (by omega)) (by rfl) T.d_Z48.m T.d_Z48.F.kp T.d_Z48.b .nil pass0 (pa_cons (pv 0) (pa_cons pe_int pa_nil))))) pss_nil)
   (pss_cons (ps_set (i:=2) sc_Z41.nd rfl (Or.inl rfl) (pe_ix ix_list (pv 1) pe_int (fun _ _=>rfl)))
   (pss_one (ps_ret (pe_tup (pa_cons (pv 2) (pa_cons (pe_call ih hr (by rfl) T.d_Z41.m T.d_Z41.F.kp T.d_Z41.b .nil pass0 (pa_cons (pe_call (ok_Z4 (P:=P) (w:=w) (base:=base) T) (hr.mono (by omega)) (by rfl) T.d_Z4.m T.d_Z4.F.kp T.d_Z4.b .nil pass0 (pa_cons (pv 0) (pa_cons (pv 2) (pa_cons pe_int pa_nil)))) pa_nil)) (pa_cons (pe_call ih hr (by rfl) T.d_Z41.m T.d_Z41.F.kp T.d_Z41.b .nil pass0 (pa_cons (pe_call (ok_Z4 (P:=P) (w:=w) (base:=base) T) (hr.mono (by omega)) (by rfl) T.d_Z4.m T.d_Z4.F.kp T.d_Z4.b .nil pass0 (pa_cons (pv 0) (pa_cons (pv 2) (pa_cons pe_int pa_nil)))) pa_nil)) pa_nil))))))))),?_⟩
  have h0:∀ t∈f,0≤t.1:=fun t ht=>(hF.fg.keys t ht).1
  have hfl:f.length≤32:=Nat.le_trans hF.len (Nat.pow_le_pow_right (by decide:2 > 0) hl5:2^ls.length≤2^5);have hU16:orAll f 0<2^16:=orAll_lt hF.fg.keys;have hbit:∀ j,(orAll f 0).testBit j=true→∃ t∈f,t.1.toNat.testBit j=true:=fun j hj=>by
   rcases (orAll_bit f 0 j).mp hj with z | z
   ·simp at z
   ·exact z
  refine⟨_,rfl,a,f,rfl,hT.tl,h0,?_⟩;refine⟨orAll f 0,rfl,Nat.lt_of_lt_of_le hU16 (Nat.pow_le_pow_right (by decide) (by decide)),fun D1 H1 hDn hD1 s1=>?_⟩;have hT1:=hT.keep s1;cases hls:lst (orAll f 0) with
  | nil =>
   rw[hls] at hD1;refine⟨_,rfl,false,.inl ⟨_,SqL.of hD1,rfl⟩,iteT ?_⟩;have hnone:KeyIn [] f:=fun t ht j hj=>by
    have:=mem_lst.mpr ((orAll_bit f 0 j).mpr (.inr ⟨t,ht,hj⟩))
    rw[hls] at this;exact this
   have hw:∀ g:Nat,worthL f (g:Int)=worthL f ((0:Nat):Int):=fun g=>worth_letters h0 hnone fun k hk=>by cases hk
   refine⟨_,rfl,a,f,0,rfl,hT1.tl,by omega,fun H2 s2=>?_⟩;exact q (.int (worthL f 0)) (.leaf (worthL f 0)) H2 tr_int (hF.fg.bit 0) (Nat.zero_le _) (fun m _=>hF.fg.bit 0) (fun g=>(hw g).symm) (s1.trans s2)
  | cons k rest =>
   rw[hls] at hD1;have hkU:(orAll f 0).testBit k=true:=mem_lst.mp (by rw[hls];simp);obtain⟨t0,ht0,hb0⟩:=hbit k hkU;have hkl:=hF.key t0 ht0 k hb0;have hk16:=hlt k hkl;have hmin:∀ t∈f,∀ j,t.1.toNat.testBit j=true→k≤j:=fun t ht j hj=>by
    have hj':=mem_lst.mpr ((orAll_bit f 0 j).mpr (.inr ⟨t,ht,hj⟩));have hr:=lst_rise (orAll f 0);rw[hls] at hj' hr;rcases List.mem_cons.mp hj' with z | z
    ·omega
    ·exact Nat.le_of_lt ((List.pairwise_cons.mp hr).1 j z)
   refine⟨_,rfl,true,.inl ⟨_,SqL.of hD1,rfl⟩,iteF ?_⟩;refine⟨_,rfl,D1,_,_,V.int ((k:Nat):Int),rfl,rfl,SqL.of hD1,atI_nat (j:=0) rfl,?_⟩;refine⟨_,rfl,_,rfl,_,rfl,a,f,k,1,rfl,hT1,hF.fg.form,h0,by omega,by omega,.inr rfl,fun c1 f1 H2 hc1 hT2 hF1 hl1 s2=>?_⟩;obtain⟨g1,w1⟩:=fs_fix (.inr rfl) hF hmin hF1;have hlen:(ls.filter fun x=>decide (k<x)).length<ls.length:=by
    rcases Nat.lt_or_ge (ls.filter fun x=>decide (k<x)).length ls.length with z | z
    ·exact z
    ·have e:=List.length_filter_le (fun x=>decide (k<x)) ls
     have:(ls.filter fun x=>decide (k<x))=ls:=(List.filter_sublist (p:=fun x=>decide (k<x)) (l:=ls)).eq_of_length (by omega)
     have:=List.filter_eq_self.mp this k hkl
     simp at this
   have hlt':∀ x∈(ls.filter fun x=>decide (k<x)),x<16:=fun x hx=>hlt x (List.mem_filter.mp hx).1
   refine⟨c1,f1,_,rfl,hT2,g1,hlt',by omega,by omega,fun v1 t1 H3 hI1 ok1 dp1 pl1 at1 s3=>?_⟩;have S3:=s1.trans (s2.trans s3);refine⟨_,rfl,_,rfl,a,f,k,0,rfl,hT.keep S3,hF.fg.form,h0,by omega,by omega,.inl rfl,fun c0 f0 H4 hc0 hT4 hF0 hl0 s4=>?_⟩;obtain⟨g0,w0⟩:=fs_fix (.inl rfl) hF hmin hF0;refine⟨c0,f0,_,rfl,hT4,g0,hlt',by omega,by omega,fun v0 t0' H5 hI0 ok0 dp0 pl0 at0 s5=>?_⟩;refine⟨(by show 3≤sizeLine;decide),fun z hz=>?_⟩;have s6:Same H5 (upd H5 z (.tup [.int (k:Int),v1,v0])):=Same.upd hz;have hmk:∀ x∈(ls.filter fun x=>decide (k<x)),((k:Nat):Int)<(x:Int):=fun x hx=>by
    have:=of_decide_eq_true (List.mem_filter.mp hx).2
    omega
   have hne:t1≠t0':=fun e=>by
    have hk0:=no_key (k:=k) hF.fg fun g=>by
     have e1:=at1 g;have e0:=at0 g;rw[e,e0,w0,w1] at e1;have h2:=setB_self g k;cases hg:g.testBit k
     ·rw[hg] at h2;rw[h2]
     ·rw[hg] at h2;have e3:setB g k (decide ((1:Int)=1))=g:=by simpa using h2
      rw[e3] at e1;exact e1
    rw[hk0 t0 ht0] at hb0;cases hb0
   refine q (.ref z) (.node k t1 t0') _ (tr_mk upd_same (hI1.keep (s4.trans (s5.trans s6))) (hI0.keep s6)) ⟨by omega,ok1,ok0⟩ (by show max t1.dp t0'.dp+1≤ls.length;omega) (fun m hm=>⟨hm k hkl,hne,pl1 _ hmk,pl0 _ hmk⟩) (fun g=>?_) (S3.trans (s4.trans (s5.trans s6)));show (if g.testBit k=true then t1.at (fun k=>g.testBit k) else t0'.at fun k=>g.testBit k)=_;have h2:=setB_self g k;by_cases hg:g.testBit k=true
   ·rw[if_pos hg,at1,w1];rw[hg] at h2;have e3:setB g k (decide ((1:Int)=1))=g:=by simpa using h2
    rw[e3]
   ·rw[if_neg hg,at0,w0];have hg':g.testBit k=false:=by simpa using hg
    rw[hg'] at h2;have e3:setB g k (decide ((0:Int)=1))=g:=by simpa using h2
    rw[e3]
theorem ok_Z41 (T:Txt K mg):FnOk P w K mg base CX0 13 T.a_Z41 T.fd_Z41 ["form"] ((spTreeOf K) 8):=okr_Z41 T 8
noncomputable def spChosen (K:PySem.W.Frag):Sp:=fun vs H Q _=>∃ (a b:Addr) (f1 f0:Terms) (k:Nat),vs=[.int (2^k),.ref a,.ref b]∧TLo H a f1∧TLo H b f0∧IsForm f1∧IsForm f0∧(∀ t∈f1,0≤t.1∧t.1.toNat.testBit k=false)∧(∀ t∈f0,0≤t.1∧t.1.toNat.testBit k=false)∧f1.length+2 * f0.length≤100000 ∧
 ∀ (c:Addr) (f:Terms) (H':Hp),H c=none→TLo H' c f→FormOf f (choL k f1 f0)→f.length≤f1.length+2 * f0.length→Same H H'→Q (.ref c) H'
theorem sc_Z2:FnScope ["bit", "ones", "others", "numbers", "members", "number"] ["bit", "ones", "others"] (defScope s_Z2):=⟨rfl,rfl,rfl,by decide +kernel,rfl,by decide +kernel,by decide +kernel⟩
theorem ok_Z2 (T:Txt K mg):FnOk P w K mg base CX0 2 T.a_Z2 T.fd_Z2 ["bit", "ones", "others"] (spChosen K):=by
 refine T.d_Z2.F.ok sc_Z2 (fun vs H Q E h=>?_) (fun cdv A outer s H vs Q E hr h=>?_)
 ·obtain⟨a,b,f1,f0,k,rfl,hTa,hTb,hf1,hf0,k1,k0,hlen,q⟩:=h;rfl
 ·obtain⟨a,b,f1,f0,k,rfl,hTa,hTb,hf1,hf0,k1,k0,hlen,q⟩:=h;have hu:=hu_of hr;refine⟨_,(pss_cons (ps_set (i:=3) sc_Z2.nd rfl (Or.inl rfl) (pe_callTy (call_dict_of rfl) rfl T.n_dict PyProof.Rows.boot_dict (pa_cons (pv 2) pa_nil)))
   (pss_cons (ps_for PassesOwn.never rfl (pi_list (pv 1)) (pg_tup (n:=2) rfl (pgs_cons (pg_name (i:=4) sc_Z2.nd rfl (Or.inl rfl)) (pgs_cons (pg_name (i:=5) sc_Z2.nd rfl (Or.inl rfl)) pgs_nil)))
    (pss_one (ps_dput hu (pv 3) (pe_op op_or (pv 4) (pv 0)) (pv 5) rfl)))
   (pss_cons (ps_for PassesOwn.never rfl (pi_list (pv 2)) (pg_tup (n:=2) rfl (pgs_cons (pg_name (i:=4) sc_Z2.nd rfl (Or.inl rfl)) (pgs_cons (pg_name (i:=5) sc_Z2.nd rfl (Or.inl rfl)) pgs_nil)))
    (pss_one (ps_dput hu (pv 3) (pe_op op_or (pv 4) (pv 0)) (pe_op op_sub (pe_dget2 hu (pv 3) (pe_op op_or (pv 4) (pv 0)) pe_int ⟨rfl,rfl,rfl,rfl⟩) (pv 5)) rfl)))
   (pss_one (ps_ret (pe_call (ok_Z6 (P:=P) (w:=w) (base:=base) T) hr (by rfl) T.d_Z6.m T.d_Z6.F.kp T.d_Z6.b .nil pass0 (pa_cons (pv 3) pa_nil))))))),?_⟩
  obtain⟨ps,hS,hT⟩:=id hTa;obtain⟨qs,hS2,hT2⟩:=id hTb;refine⟨_,rfl,b,f0,rfl,hTb.tl,by omega,fun d hd=>?_⟩;have s0:∀ o,Same H (upd H d o):=fun o=>Same.upd hd
  refine⟨_,rfl,a,rfl,⟨_,SqL.of (s0 _ _ _ hS)⟩,?_⟩;refine for_list (K:=K) (a:=a) (xs:=ps.map V.ref) (fun i σ H2=>∃ (dd:Terms) (v4 v5:Option V),σ = [some (.int (2^k)),some (.ref a),some (.ref b),some (.ref d),v4,v5]∧H2=upd H d (.dK (dd.map encP))∧DictOf dd (f0++orB k (f1.take i)))
   ⟨_,none,none,rfl,rfl,by rw[List.take_zero];exact (List.append_nil f0).symm ▸ dict_form hf0⟩ (fun i σ H2 _ ⟨_,_,_,_,e,_⟩=>by rw[e];exact SqL.of (s0 _ _ _ hS)) ?_ ?_
  ·rintro i y σ H2 hi ⟨dd,v4,v5,rfl,rfl,hdd⟩;obtain⟨p,hpi,rfl⟩:=at_ref hi;obtain⟨t,ht1,ht2⟩:=hT.at' hpi;have hil:i<f1.length:=(List.getElem?_eq_some_iff.mp ht1).1;have htm:=List.mem_of_getElem? ht1;have htk:f1.take (i+1)=f1.take i ++ [t]:=by rw[List.take_add_one,ht1];rfl
   have h0:getI dd (Builtin.bitOr t.1 (2^k))=0:=by
    rw[hdd.val];refine coef_none _ _ fun u hu z=>?_
    rcases List.mem_append.mp hu with w | w
    ·exact or_ne (k1 t htm).1 (k0 u w).1 (k0 u w).2 z
    ·obtain⟨u',hu',rfl⟩:=List.mem_map.mp w;have hm':=List.mem_of_mem_take hu';have e:=or_inj (k1 u' hm').1 (k1 t htm).1 (k1 u' hm').2 (k1 t htm).2 z;obtain⟨j,hj⟩:=List.getElem?_of_mem hu';have hjl:j<i:=by
      have:=(List.getElem?_eq_some_iff.mp hj).1
      rw[List.length_take] at this;omega
     rw[List.getElem?_take_of_lt hjl] at hj;obtain⟨i1,i2⟩:=List.getElem?_eq_some_iff.mp ht1;obtain⟨j1,j2⟩:=List.getElem?_eq_some_iff.mp hj;have hlt:=List.pairwise_iff_getElem.mp hf1.rise j i j1 i1 hjl;rw[j2,i2] at hlt;omega
   have hdd2:=hdd.snoc (Builtin.bitOr t.1 (2^k),t.2);rw[h0,Int.zero_add,List.append_assoc] at hdd2;have hl1:=hdd.len;rw[List.length_append,orB,List.length_map,List.length_take] at hl1;refine⟨p,_,rfl,SqT.of (s0 _ _ _ ht2),rfl,_,_,rfl,_,_,rfl,rfl,?_⟩;refine⟨_,rfl,_,rfl,_,rfl,_,rfl,_,_,rfl,rfl,d,_,rfl,DPut.k (k:=Sum.inl (Builtin.bitOr t.1 (2^k))) upd_same ?_,putI dd (Builtin.bitOr t.1 (2^k)) t.2,_,_,rfl,?_,?_⟩
   ·rw[List.length_map];exact small6 (by omega)
   ·rw[upd_upd,putK_enc]
   ·rw[htk];have e:orB k (f1.take i ++ [t])=orB k (f1.take i) ++ [(Builtin.bitOr t.1 (2^k),t.2)]:=by unfold orB;rw[List.map_append];rfl
    rw[e];exact hdd2
  ·rintro σ H2 ⟨dd,v4,v5,rfl,rfl,hdd⟩;have hl0:f1.take (ps.map V.ref).length=f1:=by rw[List.length_map,hT.length,List.take_length]
   rw[hl0] at hdd;refine⟨_,rfl,b,rfl,⟨_,SqL.of (s0 _ _ _ hS2)⟩,?_⟩;refine for_list (K:=K) (a:=b) (xs:=qs.map V.ref) (fun i σ H2=>∃ (dd:Terms) (v4 v5:Option V),σ = [some (.int (2^k)),some (.ref a),some (.ref b),some (.ref d),v4,v5]∧H2=upd H d (.dK (dd.map encP))∧DictOf dd (f0++orB k f1++negL (orB k (f0.take i))))
    ⟨_,_,_,rfl,rfl,by rw[List.take_zero];exact (List.append_nil (f0++orB k f1)).symm ▸ hdd⟩ (fun i σ H2 _ ⟨_,_,_,_,e,_⟩=>by rw[e];exact SqL.of (s0 _ _ _ hS2)) ?_ ?_
   ·rintro i y σ H2 hi ⟨dd,v4,v5,rfl,rfl,hdd⟩;obtain⟨p,hpi,rfl⟩:=at_ref hi;obtain⟨t,ht1,ht2⟩:=hT2.at' hpi;have hil:i<f0.length:=(List.getElem?_eq_some_iff.mp ht1).1;have htk:f0.take (i+1)=f0.take i ++ [t]:=by rw[List.take_add_one,ht1];rfl
    have hdd2:=hdd.snoc (Builtin.bitOr t.1 (2^k),-t.2);rw[List.append_assoc] at hdd2;have hl1:=hdd.len;rw[List.length_append,List.length_append,negL,orB,orB,List.length_map,List.length_map,List.length_map,List.length_take] at hl1;refine⟨p,_,rfl,SqT.of (s0 _ _ _ ht2),rfl,_,_,rfl,_,_,rfl,rfl,?_⟩;refine⟨_,rfl,d,rfl,.inl ⟨_,.inl upd_same⟩,_,rfl,_,rfl,_,_,rfl,rfl,_,DGet.k (k:=Sum.inl (Builtin.bitOr t.1 (2^k))) upd_same,?_⟩;rw[valV_enc];have eg:((look dd (Builtin.bitOr t.1 (2^k))).map V.int).getD (V.int 0)=V.int (getI dd (Builtin.bitOr t.1 (2^k))):=by
     unfold getI;cases look dd (Builtin.bitOr t.1 (2^k)) <;> rfl
    rw[eg];refine⟨_,rfl,_,_,rfl,rfl,_,rfl,_,rfl,_,rfl,_,_,rfl,rfl,d,_,rfl,DPut.k (k:=Sum.inl (Builtin.bitOr t.1 (2^k))) upd_same ?_,putI dd (Builtin.bitOr t.1 (2^k)) (getI dd (Builtin.bitOr t.1 (2^k))-t.2),_,_,rfl,?_,?_⟩
    ·rw[List.length_map];exact small6 (by omega)
    ·rw[upd_upd,putK_enc]
    ·rw[htk];have e:negL (orB k (f0.take i ++ [t]))=negL (orB k (f0.take i)) ++ [(Builtin.bitOr t.1 (2^k),-t.2)]:=by unfold negL orB;rw[List.map_append,List.map_append];rfl
     rw[e,Int.sub_eq_add_neg];exact hdd2
   ·rintro σ H2 ⟨dd,v4,v5,rfl,rfl,hdd⟩;have hl0:f0.take (qs.map V.ref).length=f0:=by rw[List.length_map,hT2.length,List.take_length]
    rw[hl0] at hdd;have hl1:=hdd.len;rw[List.length_append,List.length_append,negL,orB,orB,List.length_map,List.length_map,List.length_map] at hl1;refine⟨_,rfl,d,dd,rfl,upd_same,hdd.nd,by omega,fun c ks H3 hc hT3 hperm hsort s3=>?_⟩;refine q c (formOf dd ks) H3 ((s0 _).free hc) hT3 (formOf_ok hdd hperm hsort) ?_ ((s0 _).trans s3);have h1:=formOf_length dd ks;have h2:=hperm.length_eq;rw[List.length_map] at h2;omega
noncomputable def spBelow (K:PySem.W.Frag) (d:Nat):Sp:=fun vs H Q _=>∃ (v:V) (t:Tr) (o n M:Nat),vs=[v,.int (o:Int),.int (n:Int)]∧Is H v t.d∧t.ok (fun k=>k<60∧M.testBit k=true)∧t.dp<d∧t.dp≤8 ∧
 ∀ (b:Addr) (f:Terms) (H':Hp),H b=none→TLo H' b f→IsForm f→Keyed M o n f→f.length≤3^t.dp→(∀ g:Nat,worthL f (g:Int)=t.at (wayB g o n))→Same H H'→Q (.ref b) H'
theorem sc_Z5:FnScope ["tree", "ones", "noughts", "bit"] ["tree", "ones", "noughts"] (defScope s_Z5):=⟨rfl,rfl,rfl,by decide +kernel,rfl,by decide +kernel,by decide +kernel⟩
theorem okr_Z5 (T:Txt K mg) (d:Nat):FnOk P w K mg base CX0 (3+d) T.a_Z5 T.fd_Z5 ["tree", "ones", "noughts"] ((spBelow K) d):=by
 induction d with
 | zero=>exact T.d_Z5.F.ok sc_Z5 (fun vs H Q E h=>by obtain⟨v,t,o,n,M,rfl,hI,hok,hd,hsz,q⟩:=h;exact absurd hd (Nat.not_lt_zero _)) (fun cdv A outer s H vs Q E hr h=>by obtain⟨v,t,o,n,M,rfl,hI,hok,hd,hsz,q⟩:=h;exact absurd hd (Nat.not_lt_zero _))
 | succ d ih =>
 refine T.d_Z5.F.ok (k:=3+d) sc_Z5 (fun vs H Q E h=>?_) (fun cdv A outer s H vs Q E hr h=>?_)
 ·obtain⟨v,t,o,n,M,rfl,hI,hok,hd,hsz,q⟩:=h;rfl
 ·obtain⟨v,t,o,n,M,rfl,hI,hok,hd,hsz,q⟩:=h;have hu:=hu_of hr;refine⟨_,(pss_cons (ps_if (pt_not (pt_val (pe_callB call_isinstance (by rfl) T.n_isinstance PyProof.Rows.boot_isinstance (pa_cons (pv 0) (pa_cons (pe_bltn (v := .ty "tuple") (by rfl) T.n_tuple PyProof.Rows.boot_tuple rfl) pa_nil))) (fun _=>rfl))) (pss_one (ps_ret (pe_call (ok_Z27 (P:=P) (w:=w) (base:=base) T) (hr.mono (by omega)) (by rfl) T.d_Z27.m T.d_Z27.F.kp T.d_Z27.b .nil pass0 (pa_cons (pe_lst (pa_cons (pe_tup (pa_cons pe_int (pa_cons (pv 0) pa_nil))) pa_nil)) pa_nil)))) pss_nil)
   (pss_cons (ps_set (i:=3) sc_Z5.nd rfl (Or.inl rfl) (pe_call (ok_Z3 (P:=P) (w:=w) (base:=base) T) (hr.mono (by omega)) (by rfl) T.d_Z3.m T.d_Z3.F.kp T.d_Z3.b .nil pass0 (pa_cons (pe_ix ix_tup (pv 0) pe_int (fun _ _=>rfl)) pa_nil)))
   (pss_cons (ps_if (pt_cmpR op_ne (pe_op op_and (pv 1) (pv 3)) pe_int (nomark _)) (pss_one (ps_ret (pe_call ih hr (by rfl) T.d_Z5.m T.d_Z5.F.kp T.d_Z5.b .nil pass0 (pa_cons (pe_ix ix_tup (pv 0) pe_int (fun _ _=>rfl)) (pa_cons (pv 1) (pa_cons (pv 2) pa_nil)))))) pss_nil)
   (pss_cons (ps_if (pt_cmpR op_ne (pe_op op_and (pv 2) (pv 3)) pe_int (nomark _)) (pss_one (ps_ret (pe_call ih hr (by rfl) T.d_Z5.m T.d_Z5.F.kp T.d_Z5.b .nil pass0 (pa_cons (pe_ix ix_tup (pv 0) pe_int (fun _ _=>rfl)) (pa_cons (pv 1) (pa_cons (pv 2) pa_nil)))))) pss_nil)
   (pss_one (ps_ret (pe_call (ok_Z2 (P:=P) (w:=w) (base:=base) T) (hr.mono (by omega)) (by rfl) T.d_Z2.m T.d_Z2.F.kp T.d_Z2.b .nil pass0 (pa_cons (pv 3) (pa_cons (pe_call ih hr (by rfl) T.d_Z5.m T.d_Z5.F.kp T.d_Z5.b .nil pass0 (pa_cons (pe_ix ix_tup (pv 0) pe_int (fun _ _=>rfl)) (pa_cons (pe_op op_or (pv 1) (pv 3)) (pa_cons (pv 2) pa_nil)))) (pa_cons (pe_call ih hr (by rfl) T.d_Z5.m T.d_Z5.F.kp T.d_Z5.b .nil pass0 (pa_cons (pe_ix ix_tup (pv 0) pe_int (fun _ _=>rfl)) (pa_cons (pv 1) (pa_cons (pe_op op_or (pv 2) (pv 3)) pa_nil)))) pa_nil)))))))))),?_⟩
  cases t with
  | leaf c =>
   cases tr_leaf hI;refine⟨_,rfl,_,_,_,false,rfl,.int _,kit_int_tuple,false,rfl,iteT ?_⟩;refine⟨_,rfl,(by show 2≤sizeLine;decide),fun t1 ht1=>⟨(by show 1≤sizeLine;decide),fun e1 he1=>?_⟩⟩;have b1:Same H (upd H t1 (.tup [.int 0,.int c])):=Same.upd ht1;have b2:Same (upd H t1 (.tup [.int 0,.int c])) (upd (upd H t1 (.tup [.int 0,.int c])) e1 (.lst [.ref t1])):=Same.upd he1;have eT:TLo (upd (upd H t1 (.tup [.int 0,.int c])) e1 (.lst [.ref t1])) e1 [(0,c)]:=⟨[t1],upd_same,.cons (b2 _ _ upd_same) .nil⟩;refine⟨e1,[(0,c)],rfl,eT.tl,(by show 1≤100000;decide),fun b f H2 hb hT2 hF2 hl2 s2=>?_⟩;refine q b f H2 ((b1.trans b2).free hb) hT2 hF2.toIsForm (fun u hu=>?_) hl2 (fun g=>?_) ((b1.trans b2).trans s2)
   ·have h1:=hF2.src u hu;have e:u.1=0:=by simpa using h1
    rw[e];exact⟨Int.le_refl _,by decide,fun j hj=>by simp at hj⟩
   ·rw[worth_congr _ hF2.val,one_worth];rfl
  | node k a b =>
   obtain⟨p,x,y,rfl,hp,hx,hy⟩:=tr_node hI;obtain⟨⟨hk,hkM⟩,oka,okb⟩:=hok;have hda:a.dp<d∧b.dp<d∧a.dp≤7∧b.dp≤7:=by
    have h1:max a.dp b.dp+1<d+1:=hd;have h2:max a.dp b.dp+1≤8:=hsz;omega
   refine⟨_,rfl,_,_,_,true,rfl,.tup hp,kit_same,true,rfl,iteF ?_⟩;refine⟨_,rfl,p,_,_,_,rfl,rfl,SqT.of hp,rfl,k,rfl,by omega,?_⟩;have eo:∀ z:Nat,Builtin.bitAnd (z:Int) (2^k)=if z.testBit k=true then (2^k:Int) else 0:=fun z=>by
    rw[pow_cast,bitAnd_nat,and_pow];by_cases h:z.testBit k=true <;> simp[h]
   have e2:((2:Int)^k)≠0:=by rw[pow_cast];have:=Nat.two_pow_pos k;omega
   refine⟨_,rfl,_,rfl,_,_,rfl,rfl,rfl,_,rfl,?_⟩;show if (!decide (V.int (Builtin.bitAnd (o:Int) (2^k))=V.int 0))=true then _ else _
   rw[eo];by_cases ho:o.testBit k=true
   ·rw[if_pos ho];refine iteY (by simp[e2]) ?_;refine⟨_,rfl,p,_,_,_,rfl,rfl,SqT.of hp,rfl,_,rfl,_,rfl,x,a,o,n,M,rfl,hx,oka,hda.1,by omega,fun b' f H' hb' hT hF hK hl hw s'=>?_⟩;refine q b' f H' hb' hT hF hK (Nat.le_trans hl (Nat.pow_le_pow_right (by decide) (by show a.dp≤max a.dp b.dp+1;omega))) (fun g=>?_) s';rw[hw];show _=if wayB g o n k=true then _ else _
    rw[if_pos (by unfold wayB;rw[ho];rfl)]
   ·rw[if_neg ho];have ho':o.testBit k=false:=by simpa using ho
    refine iteN (by simp) ?_;refine⟨_,rfl,_,rfl,_,_,rfl,rfl,rfl,_,rfl,?_⟩;show if (!decide (V.int (Builtin.bitAnd (n:Int) (2^k))=V.int 0))=true then _ else _
    rw[eo];by_cases hn:n.testBit k=true
    ·rw[if_pos hn];refine iteY (by simp[e2]) ?_;refine⟨_,rfl,p,_,_,_,rfl,rfl,SqT.of hp,rfl,_,rfl,_,rfl,y,b,o,n,M,rfl,hy,okb,hda.2.1,by omega,fun b' f H' hb' hT hF hK hl hw s'=>?_⟩;refine q b' f H' hb' hT hF hK (Nat.le_trans hl (Nat.pow_le_pow_right (by decide) (by show b.dp≤max a.dp b.dp+1;omega))) (fun g=>?_) s';rw[hw];show _=if wayB g o n k=true then _ else _
     rw[if_neg (by unfold wayB;rw[ho',hn];simp)]
    ·rw[if_neg hn];have hn':n.testBit k=false:=by simpa using hn
     refine iteN (by simp) ?_;refine⟨_,rfl,_,rfl,p,_,_,_,rfl,rfl,SqT.of hp,rfl,_,rfl,_,rfl,_,_,rfl,rfl,_,rfl,x,a,o ||| 2^k,n,M,(by dsimp only;rw[pow_cast,bitOr_nat];rfl),hx,oka,hda.1,by omega,fun b1 f1 H1 hb1 hT1 hF1 hK1 hl1 hw1 s1=>?_⟩;refine⟨_,rfl,p,_,_,_,rfl,rfl,SqT.of (s1 _ _ hp),rfl,_,rfl,_,rfl,_,rfl,_,_,rfl,rfl,y,b,o,n ||| 2^k,M,(by dsimp only;rw[pow_cast,bitOr_nat];rfl),hy.keep s1,okb,hda.2.1,by omega,fun b0 f0 H2 hb0 hT0 hF0 hK0 hl0 hw0 s2=>?_⟩;have p3:∀ {i:Nat},i≤7→3^i≤3^7:=fun h=>Nat.pow_le_pow_right (by decide) h
     have q1:=p3 hda.2.2.1;have q0:=p3 hda.2.2.2;have k1:∀ t∈f1,0≤t.1∧t.1.toNat.testBit k=false:=fun t ht=>by
      refine⟨(hK1 t ht).1,?_⟩;cases z:t.1.toNat.testBit k
      ·rfl
      ·have:=((hK1 t ht).2.2 k z).2.1
       rw[Nat.testBit_or,Nat.testBit_two_pow] at this;simp at this
     have k0:∀ t∈f0,0≤t.1∧t.1.toNat.testBit k=false:=fun t ht=>by
      refine⟨(hK0 t ht).1,?_⟩;cases z:t.1.toNat.testBit k
      ·rfl
      ·have:=((hK0 t ht).2.2 k z).2.2
       rw[Nat.testBit_or,Nat.testBit_two_pow] at this;simp at this
     refine⟨b1,b0,f1,f0,k,rfl,hT1.keep s2,hT0,hF1,hF0,k1,k0,by omega,fun c f H3 hc hT3 hF3 hl3 s3=>?_⟩;refine q c f H3 (s1.free (s2.free hc)) hT3 hF3.toIsForm (fun u hu=>?_) ?_ (fun g=>?_) (s1.trans (s2.trans s3))
     ·have h1:=hF3.src u hu;obtain⟨u',hu',e⟩:=List.mem_map.mp h1;have hor:∀ w:Int × Int,(0≤w.1∧w.1<2^60∧∀ j,w.1.toNat.testBit j=true→M.testBit j=true∧o.testBit j=false∧n.testBit j=false)→0≤Builtin.bitOr w.1 (2^k)∧Builtin.bitOr w.1 (2^k)<2^60∧∀ j,(Builtin.bitOr w.1 (2^k)).toNat.testBit j=true→M.testBit j=true∧o.testBit j=false∧n.testBit j=false:=fun w hw=>by
       refine⟨(or_range hw.1 hw.2.1 hk).1,(or_range hw.1 hw.2.1 hk).2,fun j hj=>?_⟩;rw[or_bits hw.1] at hj;by_cases z:k=j
       ·subst z;exact⟨hkM,ho',hn'⟩
       ·exact hw.2.2 j (by simpa [z] using hj)
      have g1:∀ w∈f1,0≤w.1∧w.1<2^60∧∀ j,w.1.toNat.testBit j=true→M.testBit j=true∧o.testBit j=false∧n.testBit j=false:=fun w hw=>⟨(hK1 w hw).1,(hK1 w hw).2.1,fun j hj=>by
       obtain⟨z1,z2,z3⟩:=(hK1 w hw).2.2 j hj;rw[Nat.testBit_or,Bool.or_eq_false_iff] at z2;exact⟨z1,z2.1,z3⟩⟩
      have g0:∀ w∈f0,0≤w.1∧w.1<2^60∧∀ j,w.1.toNat.testBit j=true→M.testBit j=true∧o.testBit j=false∧n.testBit j=false:=fun w hw=>⟨(hK0 w hw).1,(hK0 w hw).2.1,fun j hj=>by
       obtain⟨z1,z2,z3⟩:=(hK0 w hw).2.2 j hj;rw[Nat.testBit_or,Bool.or_eq_false_iff] at z3;exact⟨z1,z2,z3.1⟩⟩
      rw[← e];unfold choL negL orB at hu';rcases List.mem_append.mp hu' with w | w
      ·rcases List.mem_append.mp w with w | w
       ·exact g0 u' w
       ·obtain⟨w',hw',rfl⟩:=List.mem_map.mp w;exact hor w' (g1 w' hw')
      ·obtain⟨w1,hw1',rfl⟩:=List.mem_map.mp w;obtain⟨w',hw',rfl⟩:=List.mem_map.mp hw1';exact hor w' (g0 w' hw')
     ·have m1:3^a.dp≤3^(max a.dp b.dp):=Nat.pow_le_pow_right (by decide) (by omega);have m2:3^b.dp≤3^(max a.dp b.dp):=Nat.pow_le_pow_right (by decide) (by omega);show f.length≤3^(max a.dp b.dp+1);rw[Nat.pow_succ];omega
     ·rw[worth_congr _ hF3.val,worth_cho (fun t ht=>(k1 t ht).1) (fun t ht=>(k0 t ht).1)];show _=if wayB g o n k=true then _ else _
      have ew:wayB g o n k=g.testBit k:=by unfold wayB;rw[ho',hn'];rfl
      rw[ew];by_cases hg:g.testBit k=true
      ·rw[if_pos hg,if_pos hg,hw1,way_one ho' hn' hg]
      ·rw[if_neg hg,if_neg hg,hw0,way_nought ho' hn' hg]
theorem ok_Z5 (T:Txt K mg):FnOk P w K mg base CX0 15 T.a_Z5 T.fd_Z5 ["tree", "ones", "noughts"] ((spBelow K) 12):=okr_Z5 T 12
noncomputable def spOfTree (K:PySem.W.Frag):Sp:=fun vs H Q _=>∃ (v:V) (t:Tr) (M:Nat),vs=[v]∧Is H v t.d∧t.ok (fun k=>k<60∧M.testBit k=true)∧t.dp≤8 ∧
 ∀ (b:Addr) (f:Terms) (H':Hp),H b=none→TLo H' b f→IsForm f→Keyed M 0 0 f→f.length≤3^8→(∀ g:Nat,worthL f (g:Int)=t.at fun k=>g.testBit k)→Same H H'→Q (.ref b) H'
theorem sc_Z9:FnScope ["tree"] ["tree"] (defScope s_Z9):=⟨rfl,rfl,rfl,by decide +kernel,rfl,by decide +kernel,by decide +kernel⟩
theorem ok_Z9 (T:Txt K mg):FnOk P w K mg base CX0 16 T.a_Z9 T.fd_Z9 ["tree"] (spOfTree K):=by
 refine T.d_Z9.F.ok sc_Z9 (fun vs H Q E h=>?_) (fun cdv A outer s H vs Q E hr h=>?_)
 ·obtain⟨v,t,M,rfl,hI,hok,hsz,q⟩:=h;rfl
 ·obtain⟨v,t,M,rfl,hI,hok,hsz,q⟩:=h;have hu:=hu_of hr;refine⟨_,(pss_one (ps_ret (pe_call (ok_Z5 (P:=P) (w:=w) (base:=base) T) hr (by rfl) T.d_Z5.m T.d_Z5.F.kp T.d_Z5.b .nil pass0 (pa_cons (pv 0) (pa_cons pe_int (pa_cons pe_int pa_nil)))))),?_⟩;refine⟨_,rfl,v,t,0,0,M,rfl,hI,hok,by omega,hsz,fun b f H' hb hT hF hK hl hw s'=>?_⟩;exact q b f H' hb hT hF hK (Nat.le_trans hl (Nat.pow_le_pow_right (by decide) hsz)) (fun g=>by rw[hw,way_nil]) s'
noncomputable def spHolders:Sp:=fun vs H Q _=>∃ (b m:Nat),vs=[.int (b:Int),.int (2^m)]∧b<2^m∧m≤100∧Q (.int (2^(m-pc b))) H
theorem sc_Z13:FnScope ["members", "size"] ["members", "size"] (defScope s_Z13):=⟨rfl,rfl,rfl,by decide +kernel,rfl,by decide +kernel,by decide +kernel⟩
theorem ok_Z13 (T:Txt K mg):FnOk P w K mg base CX0 1 T.a_Z13 T.fd_Z13 ["members", "size"] spHolders:=by
 refine T.d_Z13.F.ok sc_Z13 (fun vs H Q E h=>?_) (fun cdv A outer s H vs Q E hr h=>?_)
 ·obtain⟨b,m,rfl,hb,hm,q⟩:=h;rfl
 ·obtain⟨b,m,rfl,hb,hm,q⟩:=h;have hu:=hu_of hr;refine⟨_,(pss_cons (ps_while PassesOwn.never (pt_cmpR op_ne (pv 0) pe_int (nomark _)) (pss_cons (ps_set (i:=0) sc_Z13.nd rfl (Or.inl rfl) (pe_op op_and (pv 0) (pe_op op_sub (pv 0) pe_int)))
   (pss_one (ps_set (i:=1) sc_Z13.nd rfl (Or.inl rfl) (pe_op op_fdivG (pv 1) pe_int)))))
   (pss_one (ps_ret (pv 1)))),?_⟩
  have pw:∀ i:Nat,((2:Int)^i)=((2^i:Nat):Int):=fun i=>by norm_cast
  refine while_by (fun σ H2=>∃ c k:Nat,σ = [some (.int (c:Int)),some (.int (2^k))]∧H2=H∧pc c≤k∧k-pc c=m-pc b)
   (fun σ _=>match σ with | [some (.int c),_]=>c.toNat | _=>0) ⟨b,m,rfl,rfl,pc_le m b hb,rfl⟩ ?_ ?_
  ·rintro σ H2 ⟨c,k,rfl,rfl,h1,h2⟩;refine⟨_,rfl,rfl,_,rfl,?_⟩;by_cases hc:c=0
   ·subst hc;rw[pc_zero,Nat.sub_zero] at h2;refine iteN (by simp) ⟨_,rfl,?_⟩;rw[h2];exact q
   ·obtain⟨l1,l2⟩:=low_off c c (Nat.le_refl _) hc;refine iteY (by simp;omega) ?_;have e1:Builtin.bitAnd (c:Int) ((c:Int)-1)=((c &&& (c-1):Nat):Int):=by
     rw[show (c:Int)-1=((c-1:Nat):Int) by omega,bitAnd_nat]
    have e2:((2:Int)^k) / 2=2^(k-1):=by
     rw[show k=k-1+1 by omega,Int.pow_succ];simp
    refine⟨_,rfl,_,rfl,_,_,rfl,rfl,_,_,rfl,rfl,_,rfl,_,_,rfl,rfl,⟨by decide,by decide⟩,⟨c &&& (c-1),k-1,?_,rfl,by omega,by omega⟩,?_⟩
    ·show [some (V.int (Builtin.bitAnd (c:Int) ((c:Int)-1))),some (V.int ((2:Int)^k / 2))]=_;rw[e1,e2]
    ·show (Builtin.bitAnd (c:Int) ((c:Int)-1)).toNat<((c:Nat):Int).toNat;rw[e1];simpa using l1
  ·rintro σ H2 Q1 Q2 h ⟨v,h1,h2,b,h3,h4⟩;exact⟨v,h1,h2,b,h3,h _ _ h4⟩
noncomputable def spWholeSum (K:PySem.W.Frag):Sp:=fun vs H Q _=>∃ (a:Addr) (l:Terms) (m:Nat),vs=[.ref a,.int (m:Int)]∧TL K H a l∧(∀ t∈l,0≤t.1∧t.1<2^m)∧l.length≤100000∧m≤100∧Small (2^5000) l ∧
 ∀ H',Same H H'→Q (.int (wsum m l)) H'
theorem sc_Z44:FnScope ["form", "many", "size"] ["form", "many"] (defScope s_Z44):=⟨rfl,rfl,rfl,by decide +kernel,rfl,by decide +kernel,by decide +kernel⟩
theorem nd_Z44_2:(["members", "number", "size"]:List Str).Nodup:=by decide +kernel
theorem ok_Z44 (T:Txt K mg):FnOk P w K mg base CX0 2 T.a_Z44 T.fd_Z44 ["form", "many"] (spWholeSum K):=by
 refine T.d_Z44.F.ok sc_Z44 (fun vs H Q E h=>?_) (fun cdv A outer s H vs Q E hr h=>?_)
 ·obtain⟨a,l,m,rfl,⟨ps,hS,hT⟩,hk,hlen,hm,hsm,q⟩:=h;rfl
 ·obtain⟨a,l,m,rfl,⟨ps,hS,hT⟩,hk,hlen,hm,hsm,q⟩:=h;have hu:=hu_of hr;refine⟨_,(pss_cons (ps_set (i:=2) sc_Z44.nd rfl (Or.inr rfl) (pe_call (ok_Z3 (P:=P) (w:=w) (base:=base) T) hr (by rfl) T.d_Z3.m T.d_Z3.F.kp T.d_Z3.b .nil pass0 (pa_cons (pv 1) pa_nil)))
   (pss_one (ps_ret (pe_callB (call_sumL rfl) (by rfl) T.n_sum PyProof.Rows.boot_sum (pa_cons (pe_comp (g:=(gTup K 2 (gCons (gName 0) (gCons (gName 1) gNil)))) ["members", "number", "size"] 2 [2] rfl (by exact CompSc.of (defScope s_Z44) ["form", "many", "size"] rfl rfl rfl (by decide +kernel) rfl (by decide +kernel) (by decide +kernel)) (pi_list (pv 0))
    (fun cl C s₀ H₀ fp=>(pg_tup (n:=2) rfl (pgs_cons (pg_name (i:=0) nd_Z44_2 rfl (Or.inl rfl) (Or.inr rfl)) (pgs_cons (pg_name (i:=1) nd_Z44_2 rfl (Or.inl rfl) (Or.inr rfl)) pgs_nil)))) (fun cl C s₀ H₀ fp=>(pts_one (pt_cmpR op_lt (pv 0) (pv 2) (nomark _)))) (fun cl C s₀ H₀ fp=>(pe_op op_mulO (pv 1) (pe_call (ok_Z13 (P:=P) (w:=w) (base:=base) T) hr (by rfl) T.d_Z13.m T.d_Z13.F.kp T.d_Z13.b .nil pass0 (pa_cons (pv 0) (pa_cons (pv 2) pa_nil)))))) pa_nil))))),?_⟩
  have pw:∀ i:Nat,((2:Int)^i)=((2^i:Nat):Int):=fun i=>by norm_cast
  refine⟨_,rfl,m,rfl,hm,?_⟩;refine⟨_,rfl,a,rfl,⟨_,hS⟩,?_⟩;refine comp_list (K:=K) (a:=a) (xs:=ps.map V.ref) (fun i ys σ H2=>∃ v0 v1:Option V,σ = [v0,v1,some (.int (2^m))]∧ys=((l.take i).map fun t=>t.2 * 2^(m-pc t.1.toNat)).map V.int∧H2=H)
   ⟨none,none,rfl,rfl,rfl⟩ (fun i ys σ H2 hi ⟨_,_,_,e1,e2⟩=>⟨by rw[e2];exact hS,by rw[e1,List.length_map,List.length_map,List.length_take];omega⟩) (by rw[List.length_map,hT.length];exact Nat.le_of_lt (small6 (by omega))) ?_ ?_
  ·rintro i y ys σ H2 hi ⟨v0,v1,rfl,rfl,rfl⟩;obtain⟨p,hpi,rfl⟩:=at_ref hi;obtain⟨t,ht1,ht2⟩:=hT.at' hpi;have htm:=List.mem_of_getElem? ht1;obtain⟨k0,k1⟩:=hk t htm;have htk:l.take (i+1)=l.take i ++ [t]:=by rw[List.take_add_one,ht1];rfl
   have e1:((t.1.toNat:Nat):Int)=t.1:=Int.toNat_of_nonneg k0;have e2:=pw m;refine⟨p,_,rfl,SqT.of ht2,rfl,_,_,rfl,_,_,rfl,rfl,?_⟩;refine⟨_,rfl,_,rfl,_,_,rfl,rfl,_,rfl,iteY (decide_eq_true k1) ?_⟩;refine⟨_,rfl,_,rfl,_,rfl,t.1.toNat,m,(by rw[e1];rfl),(by omega),hm,?_⟩;have hb1:t.2.natAbs<2^5001:=Nat.lt_of_le_of_lt (hsm t htm) (Nat.pow_lt_pow_right (by decide) (by decide));have hb2:((2:Int)^(m-pc t.1.toNat)).natAbs<2^101:=by
    rw[pw,Int.natAbs_natCast];exact Nat.pow_lt_pow_right (by decide) (by omega)
   refine⟨_,_,rfl,rfl,mulOkB hb1 hb2 (by decide),some (.int t.1),some (.int t.2),rfl,?_,rfl⟩;rw[htk,List.map_append,List.map_append];rfl
  ·rintro ys σ H2 ⟨v0,v1,rfl,rfl,rfl⟩ D hD;rw[List.length_map,hT.length,List.take_length];exact⟨D,_,rfl,SqL.of upd_same,q _ (Same.upd hD)⟩
theorem sc_Z43:FnScope ["form", "many"] ["form", "many"] (defScope s_Z43):=⟨rfl,rfl,rfl,by decide +kernel,rfl,by decide +kernel,by decide +kernel⟩
theorem ok_Z43 (T:Txt K mg):FnOk P w K mg base CX0 3 T.a_Z43 T.fd_Z43 ["form", "many"] (spWholeSum K):=by
 refine T.d_Z43.F.ok sc_Z43 (fun vs H Q E h=>?_) (fun cdv A outer s H vs Q E hr h=>?_)
 ·obtain⟨a,l,m,rfl,hT,hk,hlen,hm,hsm,q⟩:=h;rfl
 ·obtain⟨a,l,m,rfl,hT,hk,hlen,hm,hsm,q⟩:=h;have hu:=hu_of hr;refine⟨_,(pss_one (ps_ret (pe_call (ok_Z44 (P:=P) (w:=w) (base:=base) T) hr (by rfl) T.d_Z44.m T.d_Z44.F.kp T.d_Z44.b .nil pass0 (pa_cons (pv 0) (pa_cons (pv 1) pa_nil))))),?_⟩;exact⟨_,rfl,_,rfl,a,l,m,rfl,hT,hk,hlen,hm,hsm,q⟩
noncomputable def spTok (K:PySem.W.Frag):Sp:=fun vs H Q _=>∃ (l:List Nat) (k:Nat),vs=[.str (S l),.int (k:Int)]∧k<l.length∧l.length≤100000∧Q (.str (S (fstTok (l.drop k)))) H
theorem sc_Z39:FnScope ["text", "place", "token"] ["text", "place"] (defScope s_Z39):=⟨rfl,rfl,rfl,by decide +kernel,rfl,by decide +kernel,by decide +kernel⟩
theorem ok_Z39 (T:Txt K mg):FnOk P w K mg base CX0 1 T.a_Z39 T.fd_Z39 ["text", "place"] (spTok K):=by
 refine T.d_Z39.F.ok sc_Z39 (fun vs H Q E h=>?_) (fun cdv A outer s H vs Q E hr h=>?_)
 ·obtain⟨l,k,rfl,hk,hl,q⟩:=h;rfl
 ·obtain⟨l,k,rfl,hk,hl,q⟩:=h;have hu:=hu_of hr;refine⟨_,(pss_cons (ps_for PassesOwn.never rfl (pi_tup (pe_glob (v := .ref T.a_SPACED) (by rfl) T.g_SPACED rfl)) (pg_name (i:=2) sc_Z39.nd rfl (Or.inl rfl))
    (pss_one (ps_if (pt_val (pe_bm PySem.F.plainAttrs_str PySem.F.slot_str_startswith PySem.F.type_str_startswith mt_startswith2 (pv 0) (pa_cons (pv 2) (pa_cons (pv 1) pa_nil))) (fun _=>rfl)) (pss_one (ps_ret (pv 2))) pss_nil)))
   (pss_one (ps_ret (pe_ix ix_str (pv 0) (pv 1) (fun _ _=>rfl))))),?_⟩
  have hq:∀ G:Hp,SqT K G T.a_SPACED (spcd.map fun t=>V.str (S t)):=fun G=>by rw[← spcd_V];exact T.q_SPACED G
  refine⟨T.a_SPACED,rfl,⟨_,hq _⟩,?_⟩;refine for_tup (K:=K) (a:=T.a_SPACED) (xs:=spcd.map fun t=>V.str (S t)) (fun i σ G=>∃ v2:Option V,σ = [some (.str (S l)),some (.int (k:Int)),v2]∧(∀ j t',j<i→spcd[j]? = some t'→¬ t' <+: l.drop k)∧G=H)
   ⟨none,rfl,(fun j t' hj _=>absurd hj (Nat.not_lt_zero _)),rfl⟩ (fun i σ G _ _=>hq _) ?_ ?_
  ·rintro i y σ G hi ⟨v2,rfl,hb,rfl⟩;rw[List.getElem?_map] at hi;obtain⟨t,ht,rfl⟩:∃ t,spcd[i]? = some t∧V.str (S t)=y:=by
    cases e:spcd[i]? with
    | none=>rw[e] at hi;cases hi
    | some t=>rw[e] at hi;exact⟨t,rfl,Option.some.inj hi⟩
   unfold gName;refine⟨_,rfl,rfl,_,rfl,_,rfl,_,_,k,rfl,rfl,_,rfl,?_⟩;rw[starts_at l t k (Nat.le_of_lt hk)];by_cases z:t <+: l.drop k
   ·refine iteY (decide_eq_true z) ?_;refine⟨_,rfl,?_⟩;rw[fst_found ht hb z] at q;exact q
   ·refine iteN (fun y=>z (of_decide_eq_true y)) ?_;refine⟨_,rfl,fun j t' hj hj'=>?_,rfl⟩;rcases Nat.lt_or_ge j i with w | w
    ·exact hb j t' w hj'
    ·have:j=i:=by omega
     subst this;rw[ht] at hj';cases hj';exact z
  ·rintro σ G ⟨v2,rfl,hb,rfl⟩;have e:=fst_none hb;obtain⟨c,hc⟩:∃ c,l[k]? = some c:=⟨_,List.getElem?_eq_getElem hk⟩;have e1:(l.drop k).take 1=[c]:=by rw[List.take_one,List.head?_drop,hc];rfl
   rw[e,e1] at q;exact⟨_,rfl,_,rfl,_,_,c,rfl,rfl,by rw[S_len];exact Nat.le_of_lt (small6 (by omega)),by rw[S_list];exact atI_nat hc,q⟩
noncomputable def spToks (K:PySem.W.Frag):Sp:=fun vs H Q _=>∃ ts:List (List Nat),vs=[.str (S ts.flatten)]∧Cuts ts []∧ts.flatten.length≤10000∧∀ (c:Addr) (H':Hp),H c=none→H' c=some (.lst (ts.map fun t=>V.str (S t)))→Same H H'→Q (.ref c) H'
theorem sc_Z40:FnScope ["text", "tokens", "place", "token"] ["text"] (defScope s_Z40):=⟨rfl,rfl,rfl,by decide +kernel,rfl,by decide +kernel,by decide +kernel⟩
theorem ok_Z40 (T:Txt K mg):FnOk P w K mg base CX0 2 T.a_Z40 T.fd_Z40 ["text"] (spToks K):=by
 refine T.d_Z40.F.ok sc_Z40 (fun vs H Q E h=>?_) (fun cdv A outer s H vs Q E hr h=>?_)
 ·obtain⟨ts,rfl,hc,hl,q⟩:=h;rfl
 ·obtain⟨ts,rfl,hc,hl,q⟩:=h;have hu:=hu_of hr;refine⟨_,(pss_cons (ps_set (i:=1) sc_Z40.nd rfl (Or.inl rfl) (pe_lst pa_nil))
   (pss_cons (ps_set (i:=2) sc_Z40.nd rfl (Or.inl rfl) pe_int)
   (pss_cons (ps_while PassesOwn.never (pt_cmpR op_lt (pv 2) (pe_callB call_len_str (by rfl) T.n_len PySem.boot_len (pa_cons (pv 0) pa_nil)) (nomark _)) (pss_cons (ps_set (i:=3) sc_Z40.nd rfl (Or.inl rfl) (pe_call (ok_Z39 (P:=P) (w:=w) (base:=base) T) hr (by rfl) T.d_Z39.m T.d_Z39.F.kp T.d_Z39.b .nil pass0 (pa_cons (pv 0) (pa_cons (pv 2) pa_nil))))
   (pss_cons (ps_expr (pe_bm PySem.F.plainAttrs_list PySem.F.slot_list_append PySem.F.type_list_append mt_append (pv 1) (pa_cons (pv 3) pa_nil)))
   (pss_one (ps_set (i:=2) sc_Z40.nd rfl (Or.inl rfl) (pe_op op_add (pv 2) (pe_callB call_len_str (by rfl) T.n_len PySem.boot_len (pa_cons (pv 3) pa_nil))))))))
   (pss_one (ps_ret (pv 1)))))),?_⟩
  refine⟨Nat.zero_le _,fun c hcn=>?_⟩;have s0:Same H (upd H c (.lst [])):=Same.upd hcn;have hz:(S ts.flatten).length≤sizeLine:=by rw[S_len];exact size4 (by omega)
  refine⟨fun m σ G=>∃ (i:Nat) (v3:Option V),σ = [some (.str (S ts.flatten)),some (.ref c),some (.int (((ts.take i).flatten.length:Nat):Int)),v3]∧i≤ts.length∧m=ts.length-i∧G c=some (.lst ((ts.take i).map fun t=>V.str (S t)))∧Same H G,⟨ts.length,0,none,rfl,Nat.zero_le _,rfl,upd_same,s0⟩,?_⟩;rintro m σ G ⟨i,v3,rfl,hi,rfl,g1,sG⟩;refine⟨_,rfl,_,rfl,_,rfl,hz,_,_,rfl,rfl,_,rfl,?_⟩;by_cases z:i<ts.length
  ·obtain⟨t,ht⟩:∃ t,ts[i]? = some t:=⟨_,List.getElem?_eq_getElem z⟩;obtain⟨tn,tf⟩:=cuts_at hc ht;rw[List.append_nil] at tf;have htk:ts.take (i+1)=ts.take i ++ [t]:=by rw[List.take_add_one,ht];rfl
   have hfl:(ts.take (i+1)).flatten.length=(ts.take i).flatten.length+t.length:=by rw[htk,List.flatten_append,List.length_append];simp
   have htp:0<t.length:=List.length_pos_iff.mpr tn;have hle:(ts.take (i+1)).flatten.length≤ts.flatten.length:=by
    have:=congrArg (fun x:List (List Nat)=>x.flatten.length) (List.take_append_drop (i+1) ts)
    simp only[List.flatten_append,List.length_append] at this;omega
   refine iteY (by rw[S_len];exact decide_eq_true (by omega)) ?_;refine⟨fun σ' G'=>∃ v3:Option V,σ'=[some (.str (S ts.flatten)),some (.ref c),some (.int (((ts.take (i+1)).flatten.length:Nat):Int)),v3]∧G' c=some (.lst ((ts.take (i+1)).map fun t=>V.str (S t)))∧Same H G',fun σ' G' ⟨v3,e1,e2,e3⟩=>⟨ts.length-(i+1),by omega,i+1,v3,e1,z,rfl,e2,e3⟩,?_⟩;refine⟨_,rfl,_,rfl,ts.flatten,(ts.take i).flatten.length,rfl,by omega,by omega,?_⟩;rw[flat_drop,tf];refine⟨_,rfl,.inl ⟨rfl,_,SqL.of g1⟩,_,rfl,c,_,_,rfl,rfl,g1,(by
    rw[List.length_map,List.length_take];have hn:ts.length≤ts.flatten.length:=cuts_len hc;exact small6 (by omega)),?_⟩
   refine⟨_,rfl,_,rfl,_,rfl,(by rw[S_len];exact size4 (by omega)),_,_,rfl,rfl,?_⟩;refine⟨some (.str (S t)),?_,?_,sG.write hcn⟩
   ·have e:(((ts.take (i+1)).flatten.length:Nat):Int)=(((ts.take i).flatten.length:Nat):Int)+((S t).length:Int):=by rw[hfl,S_len];omega
    rw[e];rfl
   ·rw[upd_same,htk,List.map_append];rfl
  ·have hi':i=ts.length:=by omega
   subst hi';rw[List.take_length] at g1 ⊢;refine iteN (by rw[S_len];simp) ?_;exact⟨_,rfl,q c G hcn g1 sG⟩
noncomputable def joinI (t:Sm) (its:List Itm):Sm × List Itm:=match its.getLast? with
 | some (.jn w s)=>(.two w s t,its.dropLast)
 | _=>(t,its)
theorem joinI_app (t:Sm) (r:List Itm) (it:Itm):joinI t (r ++ [it])=match it with | .jn w s=>(.two w s t,r) | _=>(t,r ++ [it]):=by
 unfold joinI;rw[last_app];cases it <;> simp
noncomputable def spJoin (K:PySem.W.Frag):Sp:=fun vs H Q _=>∃ (v:V) (s:Sm) (b:Addr) (its:List Itm),vs=[v,.ref b]∧Is H v s.d∧Stks H b its∧its.length≤10000 ∧
 ∀ (v':V) (H':Hp),Is H' v' (joinI s its).1.d→Stks H' b (joinI s its).2→SameB b H H'→Q v' H'
theorem sc_Z45:FnScope ["part", "begun"] ["part", "begun"] (defScope s_Z45):=⟨rfl,rfl,rfl,by decide +kernel,rfl,by decide +kernel,by decide +kernel⟩
theorem ok_Z45 (T:Txt K mg):FnOk P w K mg base CX0 1 T.a_Z45 T.fd_Z45 ["part", "begun"] (spJoin K):=by
 refine T.d_Z45.F.ok sc_Z45 (fun vs H Q E h=>?_) (fun cdv A outer s H vs Q E hr h=>?_)
 ·obtain⟨v,s0,b,its,rfl,hI,hB,hl,q⟩:=h;rfl
 ·obtain⟨v,s0,b,its,rfl,hI,hB,hl,q⟩:=h;have hu:=hu_of hr;refine⟨_,(pss_cons (ps_if (PW.pt (pw_and (pt_truth (pv 1) (fun _=>rfl)) (pw_and1 (pt_cmpR op_in_seq (pe_ix ix_tup (pe_ix ix_list (pv 1) (pe_un un_neg pe_int) (fun _ _=>rfl)) pe_int (fun _ _=>rfl)) (pe_glob (v := .ref T.a_JOINING) (by rfl) T.g_JOINING rfl) rfl)))) (pss_one (ps_ret (pe_op op_catT (pe_bm0 PySem.F.plainAttrs_list PySem.F.slot_list_pop PySem.F.type_list_pop mt_pop (pv 1)) (pe_tup (pa_cons (pv 0) pa_nil))))) pss_nil)
   (pss_one (ps_ret (pv 0)))),?_⟩
  rcases snoc_cases its with rfl | ⟨r,it,rfl⟩
  ·refine⟨_,rfl,false,.inl ⟨_,SqL.of hB.nil,rfl⟩,?_⟩;refine iteF ?_;refine iteF ?_;exact⟨_,rfl,q v H hI hB (SameB.refl _ _)⟩
  ·obtain⟨xs,y,hb,hp,hy⟩:=hB.last;rw[joinI_app] at q;refine⟨_,rfl,true,.inl ⟨_,SqL.of hb,by simp⟩,?_⟩;refine iteT ?_;cases it with
   | nt =>
    obtain⟨p,rfl,h1⟩:=itm_nt hy;refine⟨_,rfl,_,rfl,b,_,_,_,rfl,rfl,SqL.of hb,atI_last _ _,p,_,_,_,rfl,rfl,SqT.of h1,rfl,T.a_JOINING,_,rfl,.inr (T.q_JOINING _),rfl,rfl,_,rfl,iteN (by decide) ?_⟩;exact⟨_,rfl,q v H hI hB (SameB.refl _ _)⟩
   | op =>
    obtain⟨p,rfl,h1⟩:=itm_op hy;refine⟨_,rfl,_,rfl,b,_,_,_,rfl,rfl,SqL.of hb,atI_last _ _,p,_,_,_,rfl,rfl,SqT.of h1,rfl,T.a_JOINING,_,rfl,.inr (T.q_JOINING _),rfl,rfl,_,rfl,iteN (by decide) ?_⟩;exact⟨_,rfl,q v H hI hB (SameB.refl _ _)⟩
   | jn w s2 =>
    obtain⟨p,x,rfl,h1,h2⟩:=itm_jn hy;refine⟨_,rfl,_,rfl,b,_,_,_,rfl,rfl,SqL.of hb,atI_last _ _,p,_,_,_,rfl,rfl,SqT.of h1,rfl,T.a_JOINING,_,rfl,.inr (T.q_JOINING _),rfl,rfl,_,rfl,iteY (wd_inA w) ?_⟩;refine⟨_,rfl,.inl ⟨rfl,_,SqL.of hb⟩,b,_,.ref p,rfl,rfl,hb,(by simp),?_⟩;rw[List.dropLast_concat];have b1:SameB b H (upd H b (.lst xs)):=SameB.upd;refine⟨_,rfl,(by show 1≤sizeLine;decide),fun t ht=>?_⟩;have hpb:p≠b:=fun z=>by rw[z,hb] at h1;cases h1
    have hp1:upd H b (.lst xs) p=some (.tup [.str (wd w),x]):=by rw[upd_ne hpb];exact h1
    have b2:Same (upd H b (.lst xs)) (upd (upd H b (.lst xs)) t (.tup [v])):=Same.upd ht;refine⟨p,t,_,_,rfl,rfl,SqT.of (b2 _ _ hp1),SqT.of upd_same,by simp,(by show 3≤sizeLine;decide),(fun z=>by cases z),fun _ p' hp'=>?_⟩;have b3:Same (upd (upd H b (.lst xs)) t (.tup [v])) (upd (upd (upd H b (.lst xs)) t (.tup [v])) p' (.tup ([.str (wd w),x] ++ [v]))):=Same.upd hp';have sAll:SameB b H (upd (upd (upd H b (.lst xs)) t (.tup [v])) p' (.tup ([.str (wd w),x] ++ [v]))):=b1.trans (SameB.of (b2.trans b3));have kt:=sAll.tups hb;exact q (.ref p') _ (mk_tup3 upd_same (is_str.mpr rfl) (sm_keepX kt h2) (sm_keepX kt hI)) ⟨xs,(b2.trans b3) _ _ upd_same,paired_keep kt hp⟩ sAll
noncomputable def spNots (K:PySem.W.Frag):Sp:=fun vs H Q _=>∃ (v:V) (s:Sm) (b:Addr) (its:List Itm) (k:Nat),vs=[v,.ref b]∧Is H v s.d∧Stks H b (its++List.replicate k .nt)∧NotLast isNt its∧its.length+k≤10000 ∧
 ∀ (v':V) (H':Hp),Is H' v' (noK k s).d→Stks H' b its→SameB b H H'→Q v' H'
theorem sc_Z46:FnScope ["part", "begun"] ["part", "begun"] (defScope s_Z46):=⟨rfl,rfl,rfl,by decide +kernel,rfl,by decide +kernel,by decide +kernel⟩
theorem ok_Z46 (T:Txt K mg):FnOk P w K mg base CX0 1 T.a_Z46 T.fd_Z46 ["part", "begun"] (spNots K):=by
 refine T.d_Z46.F.ok sc_Z46 (fun vs H Q E h=>?_) (fun cdv A outer s H vs Q E hr h=>?_)
 ·obtain⟨v,s0,b,its,kk,rfl,hI,hB,hn,hl,q⟩:=h;rfl
 ·obtain⟨v,s0,b,its,kk,rfl,hI,hB,hn,hl,q⟩:=h;have hu:=hu_of hr;refine⟨_,(pss_cons (ps_while PassesOwn.never (PW.pt (pw_and (pt_truth (pv 1) (fun _=>rfl)) (pw_and1 (pt_cmpR op_eq (pe_ix ix_tup (pe_ix ix_list (pv 1) (pe_un un_neg pe_int) (fun _ _=>rfl)) pe_int (fun _ _=>rfl)) pe_str (nomark _))))) (pss_one (ps_set (i:=0) sc_Z46.nd rfl (Or.inl rfl) (pe_op op_catT (pe_bm0 PySem.F.plainAttrs_list PySem.F.slot_list_pop PySem.F.type_list_pop mt_pop (pv 1)) (pe_tup (pa_cons (pv 0) pa_nil))))))
   (pss_one (ps_ret (pv 0)))),?_⟩
  refine⟨fun m σ G=>∃ (v1:V) (s1:Sm) (k:Nat),σ = [some v1,some (.ref b)]∧Is G v1 s1.d∧Stks G b (its++List.replicate k .nt)∧m=k∧noK k s1=noK kk s0∧k≤kk∧SameB b H G,⟨kk,v,s0,kk,rfl,hI,hB,rfl,rfl,Nat.le_refl _,SameB.refl _ _⟩,?_⟩;rintro m σ G ⟨v1,s1,k,rfl,hI1,hB1,rfl,e,hk,sB⟩;cases m with
  | zero =>
   rw[List.replicate_zero,List.append_nil] at hB1;have fin:∀ G',G'=G→Q v1 G':=fun G' z=>by rw[z];exact q v1 G (by rw[← e];exact hI1) hB1 sB
   rcases snoc_cases its with rfl | ⟨r,it,rfl⟩
   ·refine⟨_,rfl,false,.inl ⟨_,SqL.of hB1.nil,rfl⟩,?_⟩;refine iteF ?_;refine iteF ?_;exact⟨_,rfl,fin _ rfl⟩
   ·obtain⟨xs,y,hb,hp,hy⟩:=hB1.last;have hne:=hn it (last_app r it);refine⟨_,rfl,true,.inl ⟨_,SqL.of hb,by simp⟩,?_⟩;refine iteT ?_;cases it with
    | nt=>exact absurd trivial hne
    | op =>
     obtain⟨p,rfl,h1⟩:=itm_op hy;refine⟨_,rfl,_,rfl,b,_,_,_,rfl,rfl,SqL.of hb,atI_last _ _,p,_,_,_,rfl,rfl,SqT.of h1,rfl,rfl,_,rfl,?_⟩;refine iteN (by decide) ?_;exact⟨_,rfl,fin _ rfl⟩
    | jn w s2 =>
     obtain⟨p,x,rfl,h1,h2⟩:=itm_jn hy;refine⟨_,rfl,_,rfl,b,_,_,_,rfl,rfl,SqL.of hb,atI_last _ _,p,_,_,_,rfl,rfl,SqT.of h1,rfl,rfl,_,rfl,?_⟩;refine iteN (fun z=>wd_ne.2.2 (by have z':=of_decide_eq_true z;injection z')) ?_;exact⟨_,rfl,fin _ rfl⟩
  | succ k =>
   rw[← nts_succ] at hB1;obtain⟨xs,y,hb,hp,hy⟩:=hB1.last;obtain⟨p,rfl,h1⟩:=itm_nt hy;have hlen:xs.length=its.length+k:=by have:=Paired.length hp;rw[List.length_append,List.length_replicate] at this;exact this
   refine⟨_,rfl,true,.inl ⟨_,SqL.of hb,by simp⟩,?_⟩;refine iteT ?_;refine⟨_,rfl,_,rfl,b,_,_,_,rfl,rfl,SqL.of hb,atI_last _ _,p,_,_,_,rfl,rfl,SqT.of h1,rfl,rfl,_,rfl,?_⟩;refine iteY (by decide) ?_;refine⟨fun σ' G'=>∃ (v2:V) (s2:Sm),σ'=[some v2,some (.ref b)]∧Is G' v2 s2.d∧Stks G' b (its++List.replicate k .nt)∧noK k s2=noK kk s0∧SameB b H G',fun σ' G' ⟨v2,s2,e1,e2,e3,e4,e5⟩=>⟨k,Nat.lt_succ_self k,v2,s2,k,e1,e2,e3,rfl,e4,by omega,e5⟩,?_⟩;refine⟨_,rfl,.inl ⟨rfl,_,SqL.of hb⟩,b,_,.ref p,rfl,rfl,hb,(by simp),?_⟩;rw[List.dropLast_concat];have b1:SameB b G (upd G b (.lst xs)):=SameB.upd;refine⟨_,rfl,(by show 1≤sizeLine;decide),fun t ht=>?_⟩;have hpb:p≠b:=fun z=>by rw[z,hb] at h1;cases h1
   have hp1:upd G b (.lst xs) p=some (.tup [.str "not"]):=by rw[upd_ne hpb];exact h1
   have b2:Same (upd G b (.lst xs)) (upd (upd G b (.lst xs)) t (.tup [v1])):=Same.upd ht;refine⟨p,t,_,_,rfl,rfl,SqT.of (b2 _ _ hp1),SqT.of upd_same,by simp,(by show 2≤sizeLine;decide),(fun z=>by cases z),fun _ p' hp'=>?_⟩;have b3:Same (upd (upd G b (.lst xs)) t (.tup [v1])) (upd (upd (upd G b (.lst xs)) t (.tup [v1])) p' (.tup ([.str "not"] ++ [v1]))):=Same.upd hp';have sAll:SameB b G (upd (upd (upd G b (.lst xs)) t (.tup [v1])) p' (.tup ([.str "not"] ++ [v1]))):=b1.trans (SameB.of (b2.trans b3));have kt:=sAll.tups hb;exact⟨.ref p',.no s1,rfl,mk_tup2 upd_same (is_str.mpr rfl) (sm_keepX kt hI1),⟨xs,(b2.trans b3) _ _ upd_same,paired_keep kt hp⟩,e,sB.trans sAll⟩
noncomputable def PtAt (H:Hp) (v:V):Option Sm→Prop
 | none=>v = .non
 | some s=>Is H v s.d
noncomputable def spFrom (K:PySem.W.Frag):Sp:=fun vs H Q _=>∃ (t:List Nat) (b:Addr) (its:List Itm) (st:Mst),vs=[.str (S t),.ref b]∧Stks H b its∧its.length≤9000∧Step (none,its) t st ∧
 ∀ (v':V) (H':Hp),PtAt H' v' st.1→Stks H' b st.2→SameB b H H'→Q v' H'
theorem strip_not:Txt.strip (S [110,111,116,32])=Str.ofString "not" := by decide +kernel
theorem strip_op:Txt.strip (S [40])=Str.ofString "(" := by decide +kernel
theorem sc_Z30:FnScope ["token", "begun", "k"] ["token", "begun"] (defScope s_Z30):=⟨rfl,rfl,rfl,by decide +kernel,rfl,by decide +kernel,by decide +kernel⟩
theorem ok_Z30 (T:Txt K mg):FnOk P w K mg base CX0 2 T.a_Z30 T.fd_Z30 ["token", "begun"] (spFrom K):=by
 refine T.d_Z30.F.ok sc_Z30 (fun vs H Q E h=>?_) (fun cdv A outer s H vs Q E hr h=>?_)
 ·obtain⟨t,b,its,st,rfl,hB,hl,hst,q⟩:=h;rfl
 ·obtain⟨t,b,its,st,rfl,hB,hl,hst,q⟩:=h;have hu:=hu_of hr;refine⟨_,(pss_cons (ps_if (PW.pt (pw_or (pt_cmpR op_eq (pv 0) pe_str (nomark _)) (pw_or1 (pt_cmpR op_eq (pv 0) pe_str (nomark _))))) (pss_cons (ps_expr (pe_bm PySem.F.plainAttrs_list PySem.F.slot_list_append PySem.F.type_list_append mt_append (pv 1) (pa_cons (pe_tup (pa_cons (pe_bm0 PySem.F.plainAttrs_str PySem.F.slot_str_strip PySem.F.type_str_strip mt_strip0 (pv 0)) pa_nil)) pa_nil)))
   (pss_one (ps_ret pe_non))) pss_nil)
   (pss_cons (ps_if (PW.pt (pw_or (pt_cmpR op_eq (pv 0) pe_str (nomark _)) (pw_or1 (pt_cmpR op_eq (pv 0) pe_str (nomark _))))) (pss_one (ps_ret (pe_call (ok_Z46 (P:=P) (w:=w) (base:=base) T) hr (by rfl) T.d_Z46.m T.d_Z46.F.kp T.d_Z46.b .nil pass0 (pa_cons (pe_tup (pa_cons pe_str (pa_cons (pe_callTy call_int_str rfl T.n_int PyProof.Rows.boot_int (pa_cons (pv 0) pa_nil)) pa_nil))) (pa_cons (pv 1) pa_nil))))) pss_nil)
   (pss_cons (ps_set (i:=2) sc_Z30.nd rfl (Or.inl rfl) (pe_bm PySem.F.plainAttrs_str PySem.F.slot_str_find PySem.F.type_str_find mt_find (pe_glob (v := .str "abcdefghijklmnop") (by rfl) T.g_LETTERS ⟨_,rfl⟩) (pa_cons (pv 0) pa_nil)))
   (pss_cons (ps_if (pt_cmpR op_lt (pv 2) pe_int (nomark _)) (pss_one ps_dead) pss_nil)
   (pss_one (ps_ret (pe_call (ok_Z46 (P:=P) (w:=w) (base:=base) T) hr (by rfl) T.d_Z46.m T.d_Z46.F.kp T.d_Z46.b .nil pass0 (pa_cons (pe_tup (pa_cons pe_str (pa_cons (pv 2) pa_nil))) (pa_cons (pv 1) pa_nil))))))))),?_⟩
  have nb:∀ {a c:List Nat},a≠c→¬ decide (V.str (S a)=V.str (S c))=true:=fun h z=>h (by have:=of_decide_eq_true z;injection this with this;exact S_inj this)
  cases hst with
  | no its =>
   obtain⟨xs,h1,h2⟩:=hB;refine⟨_,rfl,rfl,_,rfl,iteY (by rw[lit_not];exact decide_eq_true rfl) ?_⟩;refine iteT ?_;refine⟨_,rfl,.inl ⟨rfl,_,SqL.of h1⟩,_,rfl,rfl,_,rfl,rfl,(by rw[S_len];show 4≤sizeLine;decide),?_⟩;rw[strip_not];refine⟨(by show 1≤sizeLine;decide),fun t' ht=>?_⟩;have c1:Same H (upd H t' (.tup [.str "not"])):=Same.upd ht;refine⟨b,_,_,rfl,rfl,c1 _ _ h1,(by rw[Paired.length h2];exact small6 (by omega)),?_⟩;have c2:SameB b H (upd (upd H t' (.tup [.str "not"])) b (.lst (xs ++ [.ref t']))):=(SameB.of c1).trans SameB.upd;have kt:=c2.tups h1;have ntb:t'≠b:=fun z=>by rw[z,h1] at ht;cases ht
   exact q .non _ rfl ⟨xs ++ [.ref t'],upd_same,paired_snoc (paired_keep kt h2) (show Is _ _ (.tup [.str "not"]) from mk_tup1 (by rw[upd_ne ntb];exact upd_same) (is_str.mpr rfl))⟩ c2
  | op its =>
   obtain⟨xs,h1,h2⟩:=hB;refine⟨_,rfl,rfl,_,rfl,iteN (by rw[lit_not];exact nb (by decide)) ?_⟩;refine⟨_,rfl,rfl,_,rfl,?_⟩;have e40:decide (V.str (S [40])=V.str (Str.ofString "("))=true:=by rw[lit_op];exact decide_eq_true rfl
   rw[e40];refine iteT ?_;refine⟨_,rfl,.inl ⟨rfl,_,SqL.of h1⟩,_,rfl,rfl,_,rfl,rfl,(by rw[S_len];show 1≤sizeLine;decide),?_⟩;rw[strip_op];refine⟨(by show 1≤sizeLine;decide),fun t' ht=>?_⟩;have c1:Same H (upd H t' (.tup [.str "("])):=Same.upd ht;refine⟨b,_,_,rfl,rfl,c1 _ _ h1,(by rw[Paired.length h2];exact small6 (by omega)),?_⟩;have c2:SameB b H (upd (upd H t' (.tup [.str "("])) b (.lst (xs ++ [.ref t']))):=(SameB.of c1).trans SameB.upd;have kt:=c2.tups h1;have ntb:t'≠b:=fun z=>by rw[z,h1] at ht;cases ht
   exact q .non _ rfl ⟨xs ++ [.ref t'],upd_same,paired_snoc (paired_keep kt h2) (show Is _ _ (.tup [.str "("]) from mk_tup1 (by rw[upd_ne ntb];exact upd_same) (is_str.mpr rfl))⟩ c2
  | bit its k j hn hj =>
   refine⟨_,rfl,rfl,_,rfl,iteN (by rw[lit_not];exact nb (fun z=>by simp at z)) ?_⟩;refine⟨_,rfl,rfl,_,rfl,iteN (by rw[lit_op];exact nb (fun z=>by simp at z;omega)) ?_⟩;refine⟨_,rfl,rfl,_,rfl,iteN (by rw[lit_0];exact nb (fun z=>by simp at z;omega)) ?_⟩;refine⟨_,rfl,rfl,_,rfl,iteN (by rw[lit_1];exact nb (fun z=>by simp at z;omega)) ?_⟩;refine⟨rfl,_,rfl,_,_,rfl,rfl,?_⟩;rw[lit_let,find_let j hj];refine⟨_,rfl,_,_,rfl,rfl,_,rfl,iteN (by intro w;have:=of_decide_eq_true w;omega) ?_⟩;refine⟨_,rfl,(by show 2≤sizeLine;decide),fun t' ht=>?_⟩;have c1:Same H (upd H t' (.tup [.str "bit",.int (j:Int)])):=Same.upd ht;exact⟨_,rfl,.ref t',.bit j,b,its,k,rfl,mk_tup2 upd_same (is_str.mpr rfl) (is_int.mpr rfl),hB.keep c1,hn,by simp at hl;omega,fun v' H' i' s' b'=>q v' H' i' s' ((SameB.of c1).trans b')⟩
  | fix its k c hn hc =>
   refine⟨_,rfl,rfl,_,rfl,iteN (by rw[lit_not];exact nb (fun z=>by simp at z)) ?_⟩;refine⟨_,rfl,rfl,_,rfl,iteN (by rw[lit_op];exact nb (fun z=>by simp at z;omega)) ?_⟩;rcases hc with rfl | rfl
   ·refine⟨_,rfl,rfl,_,rfl,iteY (by rw[lit_0];exact decide_eq_true rfl) ?_⟩;refine iteT ?_;refine⟨_,rfl,_,_,rfl,int_fig 0 (by decide),(by show 1≤640;decide),(by show 2≤sizeLine;decide),fun t' ht=>?_⟩;have c1:Same H (upd H t' (.tup [.str "fix",.int ((0:Nat):Int)])):=Same.upd ht;exact⟨_,rfl,.ref t',.fix 0,b,its,k,rfl,mk_tup2 upd_same (is_str.mpr rfl) (is_int.mpr rfl),hB.keep c1,hn,by simp at hl;omega,fun v' H' i' s' b'=>q v' H' i' s' ((SameB.of c1).trans b')⟩
   ·refine⟨_,rfl,rfl,_,rfl,iteN (by rw[lit_0];exact nb (by decide)) ?_⟩;refine⟨_,rfl,rfl,_,rfl,?_⟩;have e1:decide (V.str (S [48+(1:Int).toNat])=V.str (Str.ofString "1"))=true:=by rw[lit_1];exact decide_eq_true rfl
    rw[e1];refine iteT ?_;refine⟨_,rfl,_,_,rfl,int_fig 1 (by decide),(by show 1≤640;decide),(by show 2≤sizeLine;decide),fun t' ht=>?_⟩;have c1:Same H (upd H t' (.tup [.str "fix",.int ((1:Nat):Int)])):=Same.upd ht;exact⟨_,rfl,.ref t',.fix 1,b,its,k,rfl,mk_tup2 upd_same (is_str.mpr rfl) (is_int.mpr rfl),hB.keep c1,hn,by simp at hl;omega,fun v' H' i' s' b'=>q v' H' i' s' ((SameB.of c1).trans b')⟩
theorem strip_jn {w:Nat} (h:w<3):Txt.strip (S ([32]++wdL w ++ [32]))=wd w:=by
 rcases (show w=0∨w=1∨w=2 by omega) with rfl | rfl | rfl <;> decide +kernel
theorem strip_cl:Txt.strip (S [41])=Str.ofString ")" := by decide +kernel
noncomputable def spAfter (K:PySem.W.Frag):Sp:=fun vs H Q _=>∃ (t:List Nat) (v:V) (s:Sm) (b:Addr) (its:List Itm) (st:Mst),vs=[.str (S t),v,.ref b]∧Is H v s.d∧Stks H b its∧its.length≤9000∧Step (some s,its) t st ∧
 ∀ (v':V) (H':Hp),PtAt H' v' st.1→Stks H' b st.2→SameB b H H'→Q v' H'
theorem sc_Z29:FnScope ["token", "part", "begun", "word"] ["token", "part", "begun"] (defScope s_Z29):=⟨rfl,rfl,rfl,by decide +kernel,rfl,by decide +kernel,by decide +kernel⟩
theorem ok_Z29 (T:Txt K mg):FnOk P w K mg base CX0 2 T.a_Z29 T.fd_Z29 ["token", "part", "begun"] (spAfter K):=by
 refine T.d_Z29.F.ok sc_Z29 (fun vs H Q E h=>?_) (fun cdv A outer s H vs Q E hr h=>?_)
 ·obtain⟨t,v,s0,b,its,st,rfl,hI,hB,hl,hst,q⟩:=h;rfl
 ·obtain⟨t,v,s0,b,its,st,rfl,hI,hB,hl,hst,q⟩:=h;have hu:=hu_of hr;refine⟨_,(pss_cons (ps_set (i:=3) sc_Z29.nd rfl (Or.inl rfl) (pe_bm0 PySem.F.plainAttrs_str PySem.F.slot_str_strip PySem.F.type_str_strip mt_strip0 (pv 0)))
   (pss_cons (ps_if (pt_cmpR op_in_seq (pv 3) (pe_glob (v := .ref T.a_JOINING) (by rfl) T.g_JOINING rfl) rfl) (pss_cons (ps_cut (ps_if (PW.pt (pw_and (pt_truth (pv 2) (fun _=>rfl)) (pw_and1 (pt_cmpR op_in_seq (pe_ix ix_tup (pe_ix ix_list (pv 2) (pe_un un_neg pe_int) (fun _ _=>rfl)) pe_int (fun _ _=>rfl)) (pe_glob (v := .ref T.a_JOINING) (by rfl) T.g_JOINING rfl) rfl)))) (pss_one ps_dead) pss_nil))
   (pss_cons (ps_expr (pe_bm PySem.F.plainAttrs_list PySem.F.slot_list_append PySem.F.type_list_append mt_append (pv 2) (pa_cons (pe_tup (pa_cons (pv 3) (pa_cons (pv 1) pa_nil))) pa_nil)))
   (pss_one (ps_ret pe_non)))) pss_nil)
   (pss_cons (ps_if (pt_cmpR op_ne (pv 0) pe_str (nomark _)) (pss_one ps_dead) pss_nil)
   (pss_cons (ps_set (i:=1) sc_Z29.nd rfl (Or.inl rfl) (pe_call (ok_Z45 (P:=P) (w:=w) (base:=base) T) hr (by rfl) T.d_Z45.m T.d_Z45.F.kp T.d_Z45.b .nil pass0 (pa_cons (pv 1) (pa_cons (pv 2) pa_nil))))
   (pss_cons (ps_if (pt_not (pt_truth (pv 2) (fun _=>rfl))) (pss_one ps_dead) pss_nil)
   (pss_cons (ps_expr (pe_bm0 PySem.F.plainAttrs_list PySem.F.slot_list_pop PySem.F.type_list_pop mt_pop (pv 2)))
   (pss_one (ps_ret (pe_call (ok_Z46 (P:=P) (w:=w) (base:=base) T) hr (by rfl) T.d_Z46.m T.d_Z46.F.kp T.d_Z46.b .nil pass0 (pa_cons (pv 1) (pa_cons (pv 2) pa_nil))))))))))),?_⟩
  cases hst with
  | jn its s1 w hn hw =>
   obtain⟨xs,h1,h2⟩:=id hB;have hwl:=wd_le w;refine⟨_,rfl,rfl,_,rfl,rfl,(by rw[S_len];exact size4 (by simp;omega)),?_⟩;rw[strip_jn hw];refine⟨_,rfl,T.a_JOINING,_,rfl,.inr (T.q_JOINING _),rfl,rfl,_,rfl,iteY (wd_inA w) ?_⟩;refine⟨fun σ' G' => σ'=[some (.str (S ([32]++wdL w ++ [32]))),some v,some (.ref b),some (.str (wd w))]∧G'=H,?_,?_⟩
   ·rcases snoc_cases its with rfl | ⟨r,it,rfl⟩
    ·refine⟨_,rfl,false,.inl ⟨_,SqL.of hB.nil,rfl⟩,?_⟩;refine iteF ?_;refine iteF ?_;exact⟨rfl,rfl⟩
    ·obtain⟨xs',y,hb,hp,hy⟩:=hB.last;have hne:=hn it (last_app r it);refine⟨_,rfl,true,.inl ⟨_,SqL.of hb,by simp⟩,?_⟩;refine iteT ?_;cases it with
     | jn w' s'=>exact absurd trivial hne
     | nt =>
      obtain⟨p,rfl,h3⟩:=itm_nt hy;refine⟨_,rfl,_,rfl,b,_,_,_,rfl,rfl,SqL.of hb,atI_last _ _,p,_,_,_,rfl,rfl,SqT.of h3,rfl,T.a_JOINING,_,rfl,.inr (T.q_JOINING _),rfl,rfl,_,rfl,iteN (by decide) ?_⟩;exact⟨rfl,rfl⟩
     | op =>
      obtain⟨p,rfl,h3⟩:=itm_op hy;refine⟨_,rfl,_,rfl,b,_,_,_,rfl,rfl,SqL.of hb,atI_last _ _,p,_,_,_,rfl,rfl,SqT.of h3,rfl,T.a_JOINING,_,rfl,.inr (T.q_JOINING _),rfl,rfl,_,rfl,iteN (by decide) ?_⟩;exact⟨rfl,rfl⟩
   ·rintro σ' G' ⟨rfl,rfl⟩;refine⟨_,rfl,.inl ⟨rfl,_,SqL.of h1⟩,_,rfl,_,rfl,(by show 2≤sizeLine;decide),fun t' ht=>?_⟩;have c1:Same G' (upd G' t' (.tup [.str (wd w),v])):=Same.upd ht;refine⟨b,_,_,rfl,rfl,c1 _ _ h1,(by rw[Paired.length h2];exact small6 (by omega)),?_⟩;have c2:SameB b G' (upd (upd G' t' (.tup [.str (wd w),v])) b (.lst (xs ++ [.ref t']))):=(SameB.of c1).trans SameB.upd;have kt:=c2.tups h1;have ntb:t'≠b:=fun z=>by rw[z,h1] at ht;cases ht
    exact q .non _ rfl ⟨xs ++ [.ref t'],upd_same,paired_snoc (paired_keep kt h2) (show Is _ _ (.tup [.str (wd w),s0.d]) from mk_tup2 (by rw[upd_ne ntb];exact upd_same) (is_str.mpr rfl) (sm_keepX kt hI))⟩ c2
  | cl its k w s1 t1 hn hw =>
   have ej:joinI s0 (its++List.replicate k .nt ++ [.op,.jn w s1])=(.two w s1 s0,its++List.replicate k .nt ++ [.op]):=by
    have:its++List.replicate k Itm.nt ++ [.op,.jn w s1]=(its++List.replicate k Itm.nt ++ [.op]) ++ [.jn w s1]:=by simp
    rw[this,joinI_app]
   refine⟨_,rfl,rfl,_,rfl,rfl,(by rw[S_len];show 1≤sizeLine;decide),?_⟩;rw[strip_cl];refine⟨_,rfl,T.a_JOINING,_,rfl,.inr (T.q_JOINING _),rfl,rfl,_,rfl,iteN (by decide) ?_⟩;refine⟨_,rfl,rfl,_,rfl,iteN (by rw[lit_cl,decide_eq_true rfl];decide) ?_⟩;refine⟨_,rfl,_,rfl,v,s0,b,_,rfl,hI,hB,by simp at hl ⊢;omega,fun v1 H1 i1 st1 b1=>?_⟩;rw[ej] at i1 st1;obtain⟨xs,y,hb,hp,hy⟩:=st1.last;refine⟨_,rfl,true,.inl ⟨_,SqL.of hb,by simp⟩,?_⟩;refine iteF ?_;refine⟨_,rfl,.inl ⟨rfl,_,SqL.of hb⟩,b,_,y,rfl,rfl,hb,(by simp),?_⟩;rw[List.dropLast_concat];have c1:SameB b H1 (upd H1 b (.lst xs)):=SameB.upd;have kt:=c1.tups hb;exact⟨_,rfl,_,rfl,v1,.two w s1 s0,b,its,k,rfl,sm_keepX kt i1,⟨xs,upd_same,paired_keep kt hp⟩,hn,by simp at hl;omega,fun v' H' i' s' b'=>q v' H' i' s' (b1.trans (c1.trans b'))⟩
noncomputable def spReadSt (K:PySem.W.Frag):Sp:=fun vs H Q _=>∃ s:Sm,vs=[.str (S (txtS s))]∧s.ok (fun k=>k<16)∧(txtS s).length≤9000∧∀ (v':V) (H':Hp),Is H' v' s.d→Same H H'→Q v' H'
theorem sc_Z33:FnScope ["text", "begun", "part", "token"] ["text"] (defScope s_Z33):=⟨rfl,rfl,rfl,by decide +kernel,rfl,by decide +kernel,by decide +kernel⟩
theorem ok_Z33 (T:Txt K mg):FnOk P w K mg base CX0 3 T.a_Z33 T.fd_Z33 ["text"] (spReadSt K):=by
 refine T.d_Z33.F.ok sc_Z33 (fun vs H Q E h=>?_) (fun cdv A outer s H vs Q E hr h=>?_)
 ·obtain⟨s0,rfl,hok,hl,q⟩:=h;rfl
 ·obtain⟨s0,rfl,hok,hl,q⟩:=h;have hu:=hu_of hr;refine⟨_,(pss_cons (ps_set (i:=1) sc_Z33.nd rfl (Or.inl rfl) (pe_lst pa_nil))
   (pss_cons (ps_set (i:=2) sc_Z33.nd rfl (Or.inl rfl) pe_non)
   (pss_cons (ps_for PassesOwn.never rfl (pi_list (pe_call (ok_Z40 (P:=P) (w:=w) (base:=base) T) hr (by rfl) T.d_Z40.m T.d_Z40.F.kp T.d_Z40.b .nil pass0 (pa_cons (pv 0) pa_nil))) (pg_name (i:=3) sc_Z33.nd rfl (Or.inl rfl))
    (pss_one (ps_if (pt_cmpR op_isN (pv 2) pe_non (nomark _)) (pss_one (ps_set (i:=2) sc_Z33.nd rfl (Or.inl rfl) (pe_call (ok_Z30 (P:=P) (w:=w) (base:=base) T) hr (by rfl) T.d_Z30.m T.d_Z30.F.kp T.d_Z30.b .nil pass0 (pa_cons (pv 3) (pa_cons (pv 1) pa_nil))))) (pss_one (ps_set (i:=2) sc_Z33.nd rfl (Or.inl rfl) (pe_call (ok_Z29 (P:=P) (w:=w) (base:=base) T) hr (by rfl) T.d_Z29.m T.d_Z29.F.kp T.d_Z29.b .nil pass0 (pa_cons (pv 3) (pa_cons (pv 2) (pa_cons (pv 1) pa_nil)))))))))
   (pss_cons (ps_if (pt_cmpR op_isN (pv 2) pe_non (nomark _)) (pss_one ps_dead) pss_nil)
   (pss_cons (ps_set (i:=2) sc_Z33.nd rfl (Or.inl rfl) (pe_call (ok_Z45 (P:=P) (w:=w) (base:=base) T) (hr.mono (by decide)) (by rfl) T.d_Z45.m T.d_Z45.F.kp T.d_Z45.b .nil pass0 (pa_cons (pv 2) (pa_cons (pv 1) pa_nil))))
   (pss_cons (ps_if (pt_truth (pv 1) (fun _=>rfl)) (pss_one ps_dead) pss_nil)
   (pss_one (ps_ret (pv 2))))))))),?_⟩
  obtain⟨e,fits,hrun,hend⟩:=run_all hok;obtain⟨f,f0,fn,fs⟩:=hrun.path;have htx:=(toks_txt hok).1;have hcut:=(cuts_S (r:=[]) hok).1 [] (.inl rfl);have htn:(toksS s0).length≤9000:=by have:=cuts_len hcut;rw[htx] at this;omega
  refine⟨Nat.zero_le _,fun b hb=>?_⟩;have s1:Same H (upd H b (.lst [])):=Same.upd hb;refine⟨_,rfl,toksS s0,by rw[htx];rfl,hcut,by rw[htx];omega,fun c H1 hc hc1 s2=>?_⟩;have hb1:H1 b=some (.lst []):=s2 _ _ upd_same;have ncb:c≠b:=fun z=>by rw[z,upd_same] at hc;cases hc
  refine⟨c,rfl,⟨_,SqL.of hc1⟩,?_⟩;refine for_list (K:=K) (a:=c) (xs:=(toksS s0).map fun t=>V.str (S t)) (fun i σ G=>∃ (v:V) (v3:Option V),σ = [some (.str (S (txtS s0))),some (.ref b),some v,v3]∧PtAt G v (f i).1∧Stks G b (f i).2∧(f i).2.length≤i∧SameB b H1 G)
   ⟨.non,none,rfl,(by rw[f0];rfl),(by rw[f0];exact⟨[],hb1,.nil⟩),(by rw[f0];exact Nat.le_refl _),SameB.refl _ _⟩ (fun i σ G _ ⟨_,_,_,_,_,_,e⟩=>SqL.of (e _ _ ncb hc1)) ?_ ?_
  ·rintro i y σ G hi ⟨v,v3,rfl,g1,g2,g3,g4⟩;rw[List.getElem?_map] at hi;obtain⟨t,ht,rfl⟩:∃ t,(toksS s0)[i]? = some t∧V.str (S t)=y:=by
    cases e:(toksS s0)[i]? with
    | none=>rw[e] at hi;cases hi
    | some t=>rw[e] at hi;exact⟨t,rfl,Option.some.inj hi⟩
   have hst:=fs i t ht;have hil:i<(toksS s0).length:=(List.getElem?_eq_some_iff.mp ht).1;have hsl:=step_len hst;unfold gName;cases hp:(f i).1 with
   | none =>
    rw[hp] at g1;cases (show v = .non from g1);have hst':Step (none,(f i).2) t (f (i+1)):=by rw[← hp];exact hst
    refine⟨_,rfl,rfl,_,rfl,iteY (by decide) ?_⟩;refine⟨_,rfl,_,rfl,t,b,(f i).2,f (i+1),rfl,g2,by omega,hst',fun v' G' p' s' b'=>?_⟩;exact⟨v',_,rfl,p',s',by omega,g4.trans b'⟩
   | some s1' =>
    rw[hp] at g1;have hI:Is G v s1'.d:=g1;have hst':Step (some s1',(f i).2) t (f (i+1)):=by rw[← hp];exact hst
    refine⟨_,rfl,rfl,_,rfl,iteN (fun z=>sm_ref hI (of_decide_eq_true z)) ?_⟩;refine⟨_,rfl,_,rfl,_,rfl,t,v,s1',b,(f i).2,f (i+1),rfl,hI,g2,by omega,hst',fun v' G' p' s' b'=>?_⟩;exact⟨v',_,rfl,p',s',by omega,g4.trans b'⟩
  ·rintro σ G ⟨v,v3,rfl,g1,g2,g3,g4⟩;rw[List.length_map,fn] at g1 g2;have hI:Is G v e.d:=g1;have ej:joinI e fits=(s0,[]):=by
    rcases hend with ⟨rfl,rfl⟩ | ⟨w,a,rfl,rfl⟩
    ·rfl
    ·rfl
   have hfl:fits.length≤1:=by
    rcases hend with ⟨rfl,_⟩ | ⟨w,a,rfl,_⟩
    ·exact Nat.zero_le _
    ·exact Nat.le_refl _
   refine⟨_,rfl,rfl,_,rfl,iteN (fun z=>sm_ref hI (of_decide_eq_true z)) ?_⟩;refine⟨_,rfl,_,rfl,v,e,b,fits,rfl,hI,g2,by omega,fun v1 H2 i1 st1 b1=>?_⟩;rw[ej] at i1 st1;refine⟨_,rfl,false,.inl ⟨_,SqL.of st1.nil,rfl⟩,?_⟩;refine iteF ?_;exact⟨_,rfl,q v1 H2 i1 (SameB.same (s1.trans s2) (g4.trans b1) hb)⟩
noncomputable def spSh (K:PySem.W.Frag) (d:Nat):Sp:=fun vs H Q _=>∃ (v:V) (s:Sm),vs=[v]∧Is H v s.d∧s.ok (fun k=>k<16)∧2 * s.dp+1<d∧(txtS s).length≤10000∧∀ H',Same H H'→Q (.str (S (txtS s))) H'
noncomputable def spShP (K:PySem.W.Frag) (d:Nat):Sp:=fun vs H Q _=>∃ (v:V) (s:Sm),vs=[v]∧Is H v s.d∧s.ok (fun k=>k<16)∧2 * s.dp+2<d∧(txtS s).length≤10000∧∀ H',Same H H'→Q (.str (S (partS s))) H'
theorem sc_Z35:FnScope ["statement", "word"] ["statement"] (defScope s_Z35):=⟨rfl,rfl,rfl,by decide +kernel,rfl,by decide +kernel,by decide +kernel⟩
theorem sc_Z36:FnScope ["part"] ["part"] (defScope s_Z36):=⟨rfl,rfl,rfl,by decide +kernel,rfl,by decide +kernel,by decide +kernel⟩
theorem okr_Z35 (T:Txt K mg) (d:Nat):FnOk P w K mg base CX0 (1+d) T.a_Z35 T.fd_Z35 ["statement"] ((spSh K) d)∧FnOk P w K mg base CX0 (1+d) T.a_Z36 T.fd_Z36 ["part"] ((spShP K) d):=by
 induction d with
 | zero=>exact⟨T.d_Z35.F.ok sc_Z35 (fun vs H Q E h=>by obtain⟨v,s0,rfl,hI,hok,hd,hlen,q⟩:=h;exact absurd hd (Nat.not_lt_zero _)) (fun cdv A outer s H vs Q E hr h=>by obtain⟨v,s0,rfl,hI,hok,hd,hlen,q⟩:=h;exact absurd hd (Nat.not_lt_zero _)),T.d_Z36.F.ok sc_Z36 (fun vs H Q E h=>by obtain⟨v,s0,rfl,hI,hok,hd,hlen,q⟩:=h;exact absurd hd (Nat.not_lt_zero _)) (fun cdv A outer s H vs Q E hr h=>by obtain⟨v,s0,rfl,hI,hok,hd,hlen,q⟩:=h;exact absurd hd (Nat.not_lt_zero _))⟩
 | succ d ih =>
 refine⟨?_,?_⟩
 ·refine T.d_Z35.F.ok (k:=1+d) sc_Z35 (fun vs H Q E h=>?_) (fun cdv A outer s H vs Q E hr h=>?_)
  ·obtain⟨v,s0,rfl,hI,hok,hd,hlen,q⟩:=h;rfl
  ·obtain⟨v,s0,rfl,hI,hok,hd,hlen,q⟩:=h;have hu:=hu_of hr;refine⟨_,(pss_cons (ps_set (i:=1) sc_Z35.nd rfl (Or.inl rfl) (pe_ix ix_tup (pv 0) pe_int (fun _ _=>rfl)))
   (pss_cons (ps_if (pt_cmpR op_eq (pv 1) pe_str (nomark _)) (pss_one (ps_ret (pe_ix ix_str (pe_glob (v := .str "abcdefghijklmnop") (by rfl) T.g_LETTERS ⟨_,rfl⟩) (pe_ix ix_tup (pv 0) pe_int (fun _ _=>rfl)) (fun _ _=>rfl)))) pss_nil)
   (pss_cons (ps_if (pt_cmpR op_eq (pv 1) pe_str (nomark _)) (pss_one (ps_ret (pe_callTy call_str_int rfl T.n_str PyProof.Rows.boot_str (pa_cons (pe_ix ix_tup (pv 0) pe_int (fun _ _=>rfl)) pa_nil)))) pss_nil)
   (pss_cons (ps_if (pt_cmpR op_eq (pv 1) pe_str (nomark _)) (pss_one (ps_ret (pe_op op_add_str pe_str (pe_call ih.2 hr (by rfl) T.d_Z36.m T.d_Z36.F.kp T.d_Z36.b .nil pass0 (pa_cons (pe_ix ix_tup (pv 0) pe_int (fun _ _=>rfl)) pa_nil))))) pss_nil)
   (pss_one (ps_ret (pe_op op_add_str (pe_op op_add_str (pe_op op_add_str (pe_op op_add_str (pe_call ih.2 hr (by rfl) T.d_Z36.m T.d_Z36.F.kp T.d_Z36.b .nil pass0 (pa_cons (pe_ix ix_tup (pv 0) pe_int (fun _ _=>rfl)) pa_nil)) pe_str) (pv 1)) pe_str) (pe_call ih.2 hr (by rfl) T.d_Z36.m T.d_Z36.F.kp T.d_Z36.b .nil pass0 (pa_cons (pe_ix ix_tup (pv 0) pe_int (fun _ _=>rfl)) pa_nil))))))))),?_⟩
   cases s0 with
   | bit k =>
    obtain⟨p,rfl,hp⟩:=sm_bit hI;have hk:k<16:=hok;refine⟨_,rfl,p,_,_,_,rfl,rfl,SqT.of hp,rfl,?_⟩;refine⟨_,rfl,rfl,_,rfl,iteY (by decide) ?_⟩;refine⟨_,rfl,p,_,_,_,rfl,rfl,SqT.of hp,rfl,_,_,_,rfl,rfl,(by rw[lit_let,S_len];show 16≤sizeLine;decide),(by rw[lit_let,S_list];exact atI_nat (let_at k hk)),?_⟩;exact q H (Same.refl _)
   | fix c =>
    obtain⟨p,rfl,hp⟩:=sm_fix hI;have hc:c=0∨c=1:=hok;obtain⟨n,rfl⟩:∃ n:Nat,c=(n:Int):=⟨c.toNat,by omega⟩;refine⟨_,rfl,p,_,_,_,rfl,rfl,SqT.of hp,rfl,?_⟩;refine⟨_,rfl,rfl,_,rfl,iteN (by decide) ?_⟩;refine⟨_,rfl,rfl,_,rfl,iteY (by decide) ?_⟩;refine⟨_,rfl,p,_,_,_,rfl,rfl,SqT.of hp,rfl,_,rfl,few_bits1 (by omega),?_⟩;rw[str_num];exact q H (Same.refl _)
   | no s1 =>
    obtain⟨p,x,rfl,hp,hx⟩:=sm_no hI;rw[txt_no] at hlen;have hl1:(partS s1).length≤10000:=by rw[List.length_append] at hlen;omega
    have hl2:(txtS s1).length≤10000:=Nat.le_trans (txt_le s1) hl1;refine⟨_,rfl,p,_,_,_,rfl,rfl,SqT.of hp,rfl,?_⟩;refine⟨_,rfl,rfl,_,rfl,iteN (by decide) ?_⟩;refine⟨_,rfl,rfl,_,rfl,iteN (by decide) ?_⟩;refine⟨_,rfl,rfl,_,rfl,iteY (by decide) ?_⟩;refine⟨_,rfl,p,_,_,_,rfl,rfl,SqT.of hp,rfl,x,s1,rfl,hx,hok,(by have:2 * (s1.dp+1)+1<d+1:=hd;omega),hl2,fun H1 k1=>?_⟩;refine⟨_,_,rfl,rfl,(by rw[lit_not,S_len,S_len];exact size4 (by simp;omega)),?_⟩;rw[lit_not,S_cat,← txt_no];exact q H1 k1
   | two w s1 s2 =>
    obtain⟨p,x,y,rfl,hp,hx,hy⟩:=sm_two hI;obtain⟨hw3,ok1,ok2⟩:=hok;obtain⟨n1,n2,n3⟩:=wd_neV hw3;rw[txt_two] at hlen;have hwl:=wd_le w;have hl1:(partS s1).length≤10000:=by simp only[List.length_append] at hlen;omega
    have hl1':(partS s2).length≤10000:=by simp only[List.length_append] at hlen;omega
    have hl2:(txtS s1).length≤10000:=Nat.le_trans (txt_le s1) hl1;have hl3:(txtS s2).length≤10000:=Nat.le_trans (txt_le s2) hl1';have hdd:2 * (max s1.dp s2.dp+1)+1<d+1:=hd;refine⟨_,rfl,p,_,_,_,rfl,rfl,SqT.of hp,rfl,?_⟩;refine⟨_,rfl,rfl,_,rfl,iteN (by rw[n1];decide) ?_⟩;refine⟨_,rfl,rfl,_,rfl,iteN (by rw[n2];decide) ?_⟩;refine⟨_,rfl,rfl,_,rfl,iteN (by rw[n3];decide) ?_⟩;refine⟨_,rfl,p,_,_,_,rfl,rfl,SqT.of hp,rfl,x,s1,rfl,hx,ok1,by omega,hl2,fun H1 k1=>?_⟩;refine⟨_,_,rfl,rfl,(by rw[lit_sp,S_len,S_len];exact size4 (by simp;omega)),?_⟩;rw[lit_sp,S_cat,wd_S hw3];refine⟨_,rfl,_,_,rfl,rfl,(by rw[S_len,S_len];exact size4 (by simp;omega)),?_⟩;rw[S_cat];refine⟨_,_,rfl,rfl,(by rw[S_len,S_len];exact size4 (by simp;omega)),?_⟩;rw[S_cat];refine⟨_,rfl,p,_,_,_,rfl,rfl,SqT.of (k1 _ _ hp),rfl,y,s2,rfl,hy.keep k1,ok2,by omega,hl3,fun H2 k2=>?_⟩;refine⟨_,_,rfl,rfl,(by rw[S_len,S_len];exact size4 (by simp;omega)),?_⟩;rw[S_cat,← txt_two];exact q H2 (k1.trans k2)
 ·refine T.d_Z36.F.ok (k:=1+d) sc_Z36 (fun vs H Q E h=>?_) (fun cdv A outer s H vs Q E hr h=>?_)
  ·obtain⟨v,s0,rfl,hI,hok,hd,hlen,q⟩:=h;rfl
  ·obtain⟨v,s0,rfl,hI,hok,hd,hlen,q⟩:=h;have hu:=hu_of hr;refine⟨_,(pss_cons (ps_if (pt_cmpR op_in_seq (pe_ix ix_tup (pv 0) pe_int (fun _ _=>rfl)) (pe_glob (v := .ref T.a_JOINING) (by rfl) T.g_JOINING rfl) rfl) (pss_one (ps_ret (pe_op op_add_str (pe_op op_add_str pe_str (pe_call ih.1 hr (by rfl) T.d_Z35.m T.d_Z35.F.kp T.d_Z35.b .nil pass0 (pa_cons (pv 0) pa_nil))) pe_str))) pss_nil)
   (pss_one (ps_ret (pe_call ih.1 hr (by rfl) T.d_Z35.m T.d_Z35.F.kp T.d_Z35.b .nil pass0 (pa_cons (pv 0) pa_nil))))),?_⟩
   cases s0 with
   | bit k =>
    obtain⟨p,rfl,hp⟩:=sm_bit hI;have e:partS (.bit k)=txtS (.bit k):=rfl;rw[e] at q;refine⟨_,rfl,p,_,_,_,rfl,rfl,SqT.of hp,rfl,T.a_JOINING,_,rfl,.inr (T.q_JOINING _),rfl,rfl,_,rfl,?_⟩;refine iteN (by decide) ?_;exact⟨_,rfl,.ref p,(.bit k),rfl,hI,hok,by omega,hlen,fun H1 k1=>q H1 k1⟩
   | fix c =>
    obtain⟨p,rfl,hp⟩:=sm_fix hI;have e:partS (.fix c)=txtS (.fix c):=rfl;rw[e] at q;refine⟨_,rfl,p,_,_,_,rfl,rfl,SqT.of hp,rfl,T.a_JOINING,_,rfl,.inr (T.q_JOINING _),rfl,rfl,_,rfl,?_⟩;refine iteN (by decide) ?_;exact⟨_,rfl,.ref p,(.fix c),rfl,hI,hok,by omega,hlen,fun H1 k1=>q H1 k1⟩
   | no s1 =>
    obtain⟨p,x,rfl,hp,hx⟩:=sm_no hI;have e:partS (.no s1)=txtS (.no s1):=rfl;rw[e] at q;refine⟨_,rfl,p,_,_,_,rfl,rfl,SqT.of hp,rfl,T.a_JOINING,_,rfl,.inr (T.q_JOINING _),rfl,rfl,_,rfl,?_⟩;refine iteN (by decide) ?_;exact⟨_,rfl,.ref p,(.no s1),rfl,hI,hok,by omega,hlen,fun H1 k1=>q H1 k1⟩
   | two w s1 s2 =>
    obtain⟨p,x,y,rfl,hp,hx,hy⟩:=sm_two hI;have e:partS (.two w s1 s2)=[40]++txtS (.two w s1 s2) ++ [41]:=rfl;rw[e] at q;refine⟨_,rfl,p,_,_,_,rfl,rfl,SqT.of hp,rfl,T.a_JOINING,_,rfl,.inr (T.q_JOINING _),rfl,rfl,_,rfl,?_⟩;refine iteY (wd_inV hok.1) ?_;refine⟨_,rfl,.ref p,.two w s1 s2,rfl,hI,hok,by omega,hlen,fun H1 k1=>?_⟩;refine⟨_,_,rfl,rfl,(by rw[lit_op,S_len,S_len];exact size4 (by simp;omega)),?_⟩;rw[lit_op,S_cat];refine⟨_,_,rfl,rfl,(by rw[lit_cl,S_len,S_len];exact size4 (by simp;omega)),?_⟩;rw[lit_cl,S_cat];exact q H1 k1
theorem ok_Z35 (T:Txt K mg):FnOk P w K mg base CX0 101 T.a_Z35 T.fd_Z35 ["statement"] ((spSh K) 100):=(okr_Z35 T 100).1
end
end My
namespace My
open PySem L2 OF
seal L2.PS L2.PSs L2.PE L2.PT L2.PA L2.PI L2.PG L2.PW L2.PO L2.PTs
section
variable {P:Program}{w:World}{K:PySem.W.Frag}{mg:Str→Option Value}{base:Heap}
theorem Tr.off {m:Int}:∀ {t:Tr}{k g:Nat}{b:Bool},PlainT m t→(k:Int)≤m→t.at (fun j=>(setB g k b).testBit j)=t.at fun j=>g.testBit j
 | .leaf _,_,_,_,_,_=>rfl
 | .node x a c,k,g,b,h,hk=>by
  obtain⟨h1,_,h3,h4⟩:=h;unfold Tr.at;have hne:¬ x=k:=by omega
  rw[setB_bit,if_neg hne,Tr.off (m:=(x:Int)) h3 (by omega),Tr.off (m:=(x:Int)) h4 (by omega)]
noncomputable def Tr.sz:Tr→Nat
 | .leaf _=>0
 | .node _ a c=>a.sz+c.sz+1
theorem Tr.set1 {k:Nat}{a c:Tr} (h:PlainT (k:Int) a) (g:Nat):(Tr.node k a c).at (fun j=>(setB g k true).testBit j)=a.at fun j=>g.testBit j:=by
 show (if (setB g k true).testBit k=true then _ else _)=_;rw[setB_bit,if_pos rfl,if_pos rfl];exact Tr.off h (Int.le_refl _)
theorem Tr.set0 {k:Nat}{a c:Tr} (h:PlainT (k:Int) c) (g:Nat):(Tr.node k a c).at (fun j=>(setB g k false).testBit j)=c.at fun j=>g.testBit j:=by
 show (if (setB g k false).testBit k=true then _ else _)=_;rw[setB_bit,if_pos rfl,if_neg (by decide)];exact Tr.off h (Int.le_refl _)
theorem tr_uniq:∀ (n:Nat) (t t':Tr) (m m':Int),t.sz+t'.sz≤n→PlainT m t→PlainT m' t'→(∀ g:Nat,t.at (fun j=>g.testBit j)=t'.at fun j=>g.testBit j)→t=t':=fun n=>by
 induction n with
 | zero =>
  intro t t' m m' hn h h' e;cases t with
  | node k a c=>have:a.sz+c.sz+1+t'.sz≤0:=hn;omega
  | leaf x =>
   cases t' with
   | node k a c=>have:0+(a.sz+c.sz+1)≤0:=hn;omega
   | leaf y=>have e0:x=y:=e 0;rw[e0]
 | succ n ih =>
  have indep:∀ (k:Nat) (a c u:Tr) (mu:Int),a.sz+c.sz≤n→a≠c→PlainT (k:Int) a→PlainT (k:Int) c→PlainT mu u→(∀ (g:Nat) (b:Bool),u.at (fun j=>(setB g k b).testBit j)=u.at fun j=>g.testBit j)→(∀ g:Nat,(Tr.node k a c).at (fun j=>g.testBit j)=u.at fun j=>g.testBit j)→False:=fun k a c u mu hn hne ha hc hu hi e=>by
   refine hne (ih a c _ _ hn ha hc fun g=>?_);rw[← Tr.set1 (c:=c) ha g,← Tr.set0 (a:=a) hc g,e,e,hi,hi]
  intro t t' m m' hn h h' e;cases t with
  | leaf x =>
   cases t' with
   | leaf y=>have e0:x=y:=e 0;rw[e0]
   | node k a c =>
    obtain⟨_,h2,h3,h4⟩:=h';have hn':0+(a.sz+c.sz+1)≤n+1:=hn;exact (indep k a c (.leaf x) 0 (by omega) h2 h3 h4 h (fun _ _=>rfl) fun g=>(e g).symm).elim
  | node k a c =>
   obtain⟨h1,h2,h3,h4⟩:=id h;cases t' with
   | leaf y =>
    have hn':a.sz+c.sz+1+0≤n+1:=hn;exact (indep k a c (.leaf y) 0 (by omega) h2 h3 h4 h' (fun _ _=>rfl) e).elim
   | node k' a' c' =>
    obtain⟨h1',h2',h3',h4'⟩:=id h';have hn':a.sz+c.sz+1+(a'.sz+c'.sz+1)≤n+1:=hn;rcases Nat.lt_trichotomy k k' with z | z | z
    ·exact (indep k a c (.node k' a' c') _ (by omega) h2 h3 h4 h' (fun g b=>Tr.off (m:=(k:Int)) ⟨by omega,h2',h3',h4'⟩ (Int.le_refl _)) e).elim
    ·subst z;rw[ih a a' _ _ (by omega) h3 h3' fun g=>by rw[← Tr.set1 (c:=c) h3 g,← Tr.set1 (c:=c') h3' g,e],ih c c' _ _ (by omega) h4 h4' fun g=>by rw[← Tr.set0 (a:=a) h4 g,← Tr.set0 (a:=a') h4' g,e]]
    ·exact (indep k' a' c' (.node k a c) _ (by omega) h2' h3' h4' h (fun g b=>Tr.off (m:=(k':Int)) ⟨by omega,h2,h3,h4⟩ (Int.le_refl _)) fun g=>(e g).symm).elim
theorem deq_tr:∀ {t t':Tr},deq t.d t'.d=true→t=t'
 | .leaf x,.leaf y,h=>by
  have h':(x == y)=true:=h;rw[beq_iff_eq.mp h']
 | .leaf x,.node k a c,h=>by cases h
 | .node k a c,.leaf y,h=>by cases h
 | .node k a c,.node k' a' c',h=>by
  have h':(((k:Int) == (k':Int)) && (deq a.d a'.d && (deq c.d c'.d && true)))=true:=h;simp only[Bool.and_eq_true,Bool.and_true] at h';obtain⟨h1,h2,h3⟩:=h';have e:k=k':=by have:=beq_iff_eq.mp h1;omega
  rw[e,deq_tr h2,deq_tr h3]
theorem tolds_eq {s t:Sm}{ls:List Nat} (hn:ls.Nodup) (hs:s.ok fun k=>k∈ls) (ht:t.ok fun k=>k∈ls):tolds s ls=tolds t ls↔∀ g:Nat,s.at (fun k=>g.testBit k)=t.at fun k=>g.testBit k:=by
 constructor
 ·intro h g;have h1:=List.map_inj_left.mp h (pull ls g) (List.mem_range.mpr pull_lt);rw[Sm.at_congr (fun k hk=>(sprd_pull (g:=g) hn hk).symm) hs,Sm.at_congr (fun k hk=>(sprd_pull (g:=g) hn hk).symm) ht];exact h1
 ·intro h;exact List.map_congr_left fun r _=>h (sprd ls r)
theorem cut_short (ms:List Int) (k:Nat):∃ ks:List Int,cutV (ms.map V.int) none (some (k:Int))=ks.map V.int∧ks.length≤k:=by
 unfold cutV;rw[HT.sIx_none,HT.sIx_nat,List.drop_zero,Nat.sub_zero,← List.map_take];exact⟨_,rfl,by rw[List.length_take];omega⟩
theorem cut_late (ms:List Int) (k:Nat):∃ ks:List Int,cutV (ms.map V.int) (some (k:Int)) none=ks.map V.int∧ks.length≤ms.length-k:=by
 unfold cutV;rw[HT.sIx_none,HT.sIx_nat,← List.map_drop,← List.map_take];exact⟨_,rfl,by rw[List.length_take,List.length_drop,List.length_map];omega⟩
theorem nodes_trn:∀ s:Sm,nodes s.trn≤3 * nodes s
 | .bit _=>Nat.le_refl _
 | .fix _=>Nat.le_refl _
 | .no s=>by have:=nodes_trn s;show nodes s.trn+1≤3 * (nodes s+1);omega
 | .two _ s t=>by have:=nodes_trn s;have:=nodes_trn t;show nodes t.trn+nodes s.trn+1≤3 * (nodes s+nodes t+1);omega
structure TrOf (f:Terms) (t:Tr):Prop where
 ok:t.ok fun k=>k<60
 dp:t.dp≤5
 plain:PlainT (-1) t
 tells:∀ g:Nat,t.at (fun k=>g.testBit k)=worthL f (g:Int)
theorem is_intsM {H:Hp}{a:Addr}{ns:List Int} (h:H a=some (.lst (ns.map V.int))):Is H (.ref a) (.lst (ns.map D.int)):=is_lst h (isDs_ints ns)
theorem pair_app {α β : Type}{R : α → β → Prop}:∀ {l l':List α}{m m':List β},Paired R l m→Paired R l' m'→Paired R (l++l') (m++m')
 | _,_,_,_,.nil,h=>h
 | _,_,_,_,.cons e r,h=>.cons e (pair_app r h)
theorem deq_ints:∀ l m:List Int,deqL (l.map D.int) (m.map D.int)=decide (l=m)
 | [],[]=>rfl
 | [],b :: m=>by simp[deqL]
 | a :: l,[]=>by simp[deqL]
 | a :: l,b :: m=>by
  rw[List.map_cons,List.map_cons,deqL_cons,deq_ints l m,Bool.eq_iff_iff];show ((a == b) && _)=true↔_;simp
theorem dep_sm:∀ s:Sm,dep s.d≤s.dp+1
 | .bit _=>Nat.le_refl _
 | .fix _=>Nat.le_refl _
 | .no s=>by
  have h1:=dep_sm s;show max 0 (max (dep s.d) 0)+1≤s.dp+1+1;omega
 | .two w s t=>by
  have h1:=dep_sm s;have h2:=dep_sm t;show max 0 (max (dep s.d) (max (dep t.d) 0))+1≤max s.dp t.dp+1+1;omega
theorem dep_tr:∀ t:Tr,dep t.d≤t.dp
 | .leaf _=>Nat.le_refl _
 | .node k a c=>by
  have h1:=dep_tr a;have h2:=dep_tr c;show max (dep (.int (k:Int))) (max (dep a.d) (max (dep c.d) 0))+1≤max a.dp c.dp+1;have h3:dep (.int (k:Int))=0:=rfl;omega
theorem sc_law:FnScope ["_law_script", "_law_letters_here", "_law_numbers", "_law_one", "_law_two", "_law_first", "_law_second", "_law_forms", "_law_trees", "_law_k", "_law_spare", "_law_both"] ["_law_script"] (defScope s_law):=⟨rfl,rfl,rfl,by decide +kernel,rfl,by decide +kernel,by decide +kernel⟩
theorem nd_law_1:(["_law_form"]:List Str).Nodup:=by decide +kernel
theorem nd_law_2:(["_law_k", "_law_first", "_law_second"]:List Str).Nodup:=by decide +kernel
theorem nd_law_3:(["_law_form"]:List Str).Nodup:=by decide +kernel
theorem ok_law {f:Addr}{fd:FuncData} (F:Fun K "law" "law" s_law f fd) (T:Txt K mg):FnOk P w K mg base CX0 102 f fd ["_law_script"] (spLaw K):=by
 refine F.ok sc_law (fun vs H Q E h=>?_) (fun cdv A outer s H vs Q E hr h=>?_)
 ·obtain⟨a,ns,rfl,hS,hlen,hbits,kq⟩:=h;rfl
 ·obtain⟨a,ns,rfl,hS,hlen,hbits,kq⟩:=h;have hu:=hu_of hr;refine⟨_,(pss_cons (ps_set (i:=1) sc_law.nd rfl (Or.inl rfl) (pe_call (ok_Z16 (P:=P) (w:=w) (base:=base) T) (hr.mono (by decide)) (by rfl) T.d_Z16.m T.d_Z16.F.kp T.d_Z16.b .nil pass0 (pa_cons (pe_call (ok_Z20 (P:=P) (w:=w) (base:=base) T) (hr.mono (by decide)) (by rfl) T.d_Z20.m T.d_Z20.F.kp T.d_Z20.b .nil pass0 (pa_cons (pe_call (ok_Z15 (P:=P) (w:=w) (base:=base) T) (hr.mono (by decide)) (by rfl) T.d_Z15.m T.d_Z15.F.kp T.d_Z15.b .nil pass0 (pa_cons (pv 0) (pa_cons pe_int pa_nil))) (pa_cons pe_int pa_nil))) (pa_cons (pe_op op_add pe_int (pe_op op_mod (pe_call (ok_Z15 (P:=P) (w:=w) (base:=base) T) (hr.mono (by decide)) (by rfl) T.d_Z15.m T.d_Z15.F.kp T.d_Z15.b .nil pass0 (pa_cons (pv 0) (pa_cons pe_int pa_nil))) pe_int)) (pa_cons pe_int pa_nil)))))
   (pss_cons (ps_set (i:=2) sc_law.nd rfl (Or.inl rfl) (pe_call (ok_Z17 (P:=P) (w:=w) (base:=base) T) (hr.mono (by decide)) (by rfl) T.d_Z17.m T.d_Z17.F.kp T.d_Z17.b .nil pass0 (pa_cons (pv 0) (pa_cons pe_int (pa_cons pe_int pa_nil)))))
   (pss_cons (ps_set (i:=3) sc_law.nd rfl (Or.inl rfl) (pe_call (ok_Z22 (P:=P) (w:=w) (base:=base) T) (hr.mono (by decide)) (by rfl) T.d_Z22.m T.d_Z22.F.kp T.d_Z22.b .nil pass0 (pa_cons (pe_slice sl_list (pv 2) po_none (po_some (pe_op op_mod (pe_call (ok_Z15 (P:=P) (w:=w) (base:=base) T) (hr.mono (by decide)) (by rfl) T.d_Z15.m T.d_Z15.F.kp T.d_Z15.b .nil pass0 (pa_cons (pv 0) (pa_cons pe_int pa_nil))) pe_int))) (pa_cons (pv 1) pa_nil))))
   (pss_cons (ps_set (i:=4) sc_law.nd rfl (Or.inl rfl) (pe_call (ok_Z22 (P:=P) (w:=w) (base:=base) T) (hr.mono (by decide)) (by rfl) T.d_Z22.m T.d_Z22.F.kp T.d_Z22.b .nil pass0 (pa_cons (pe_slice sl_list (pv 2) (po_some pe_int) po_none) (pa_cons (pv 1) pa_nil))))
   (pss_cons (ps_cut (ps_if (pt_cmpR op_eq (pe_op op_mod (pe_op op_fdivG (pe_call (ok_Z15 (P:=P) (w:=w) (base:=base) T) (hr.mono (by decide)) (by rfl) T.d_Z15.m T.d_Z15.F.kp T.d_Z15.b .nil pass0 (pa_cons (pv 0) (pa_cons pe_int pa_nil))) pe_int) pe_int) pe_int (nomark _)) (pss_one (ps_set (i:=4) sc_law.nd rfl (Or.inl rfl) (pe_call (ok_Z24 (P:=P) (w:=w) (base:=base) T) (hr.mono (by decide)) (by rfl) T.d_Z24.m T.d_Z24.F.kp T.d_Z24.b .nil pass0 (pa_cons (pv 3) pa_nil)))) pss_nil))
   (pss_cons (ps_set (i:=5) sc_law.nd rfl (Or.inr rfl) (pe_call (ok_Z23 (P:=P) (w:=w) (base:=base) T) (hr.mono (by decide)) (by rfl) T.d_Z23.m T.d_Z23.F.kp T.d_Z23.b .nil pass0 (pa_cons (pv 3) (pa_cons (pv 1) pa_nil))))
   (pss_cons (ps_set (i:=6) sc_law.nd rfl (Or.inr rfl) (pe_call (ok_Z23 (P:=P) (w:=w) (base:=base) T) (hr.mono (by decide)) (by rfl) T.d_Z23.m T.d_Z23.F.kp T.d_Z23.b .nil pass0 (pa_cons (pv 4) (pa_cons (pv 1) pa_nil))))
   (pss_cons (ps_set (i:=7) sc_law.nd rfl (Or.inl rfl) (pe_lst (pa_cons (pe_call (ok_Z8 (P:=P) (w:=w) (base:=base) T) (hr.mono (by decide)) (by rfl) T.d_Z8.m T.d_Z8.F.kp T.d_Z8.b .nil pass0 (pa_cons (pv 3) pa_nil)) (pa_cons (pe_call (ok_Z8 (P:=P) (w:=w) (base:=base) T) (hr.mono (by decide)) (by rfl) T.d_Z8.m T.d_Z8.F.kp T.d_Z8.b .nil pass0 (pa_cons (pv 4) pa_nil)) (pa_cons (pe_call (ok_Z8 (P:=P) (w:=w) (base:=base) T) (hr.mono (by decide)) (by rfl) T.d_Z8.m T.d_Z8.F.kp T.d_Z8.b .nil pass0 (pa_cons (pe_tup (pa_cons pe_str (pa_cons (pv 3) (pa_cons (pv 4) pa_nil)))) pa_nil)) pa_nil)))))
   (pss_cons (ps_setC (i:=8) (g:=(gName 0)) ["_law_form"] 1 [] sc_law.nd rfl (Or.inl rfl) rfl (by exact CompSc.of (defScope s_law) ["_law_script", "_law_letters_here", "_law_numbers", "_law_one", "_law_two", "_law_first", "_law_second", "_law_forms", "_law_trees", "_law_k", "_law_spare", "_law_both"] rfl rfl rfl (by decide +kernel) rfl (by decide +kernel) (by decide +kernel)) (pi_list (pv 7))
    (fun cl C s₀ H₀ fp=>(pg_name (i:=0) nd_law_1 rfl (Or.inl rfl) (Or.inr rfl))) (fun cl C s₀ H₀ fp=>pts_nil) (fun cl C s₀ H₀ fp=>(pe_call (ok_Z41 (P:=P) (w:=w) (base:=base) T) (hr.mono (by decide)) (by rfl) T.d_Z41.m T.d_Z41.F.kp T.d_Z41.b .nil pass0 (pa_cons (pv 0) pa_nil))))
   (pss_cons (ps_if (PW.pt (pw_or (pt_cmpR op_ne (pe_cmpR (op_eqD (hu60 hr)) (pe_ix ix_list (pv 7) pe_int (fun _ _=>rfl)) (pe_ix ix_list (pv 7) pe_int (fun _ _=>rfl)) (nomark _)) (pe_cmpR (op_eqD (hu60 hr)) (pv 5) (pv 6) (nomark _)) (nomark _)) (pw_or1 (pt_cmpR op_ne (pe_cmpR (op_eqD (hu60 hr)) (pe_ix ix_list (pv 8) pe_int (fun _ _=>rfl)) (pe_ix ix_list (pv 8) pe_int (fun _ _=>rfl)) (nomark _)) (pe_cmpR (op_eqD (hu60 hr)) (pv 5) (pv 6) (nomark _)) (nomark _))))) (pss_one (ps_ret pe_bl)) pss_nil)
   (pss_cons (ps_for PassesOwn.never rfl (pi_range1 rfl T.n_range (pa_cons pe_int pa_nil)) (pg_name (i:=9) sc_law.nd rfl (Or.inl rfl))
    (pss_one (ps_if (pt_cmpR (op_neD (hu60 hr)) (pe_call (ok_Z9 (P:=P) (w:=w) (base:=base) T) (hr.mono (by decide)) (by rfl) T.d_Z9.m T.d_Z9.F.kp T.d_Z9.b .nil pass0 (pa_cons (pe_ix ix_list (pv 8) (pv 9) (fun _ _=>rfl)) pa_nil)) (pe_ix ix_list (pv 7) (pv 9) (fun _ _=>rfl)) (nomark _)) (pss_one (ps_ret pe_bl)) pss_nil)))
   (pss_cons (ps_set (i:=10) sc_law.nd rfl (Or.inl rfl) (pe_op op_shl pe_int (pe_op op_sub pe_int (pe_callB call_len_seq (by rfl) T.n_len PySem.boot_len (pa_cons (pv 1) pa_nil)))))
   (pss_cons (ps_setC (i:=11) (g:=(gName 0)) ["_law_k", "_law_first", "_law_second"] 1 [5,6] sc_law.nd rfl (Or.inl rfl) rfl (by exact CompSc.of (defScope s_law) ["_law_script", "_law_letters_here", "_law_numbers", "_law_one", "_law_two", "_law_first", "_law_second", "_law_forms", "_law_trees", "_law_k", "_law_spare", "_law_both"] rfl rfl rfl (by decide +kernel) rfl (by decide +kernel) (by decide +kernel)) (pi_range1 rfl T.n_range (pa_cons (pe_callB call_len_seq (by rfl) T.n_len PySem.boot_len (pa_cons (pv 5) pa_nil)) pa_nil))
    (fun cl C s₀ H₀ fp=>(pg_name (i:=0) nd_law_2 rfl (Or.inl rfl) (Or.inr rfl))) (fun cl C s₀ H₀ fp=>pts_nil) (fun cl C s₀ H₀ fp=>(pe_op op_sub (pe_op op_add (pe_ix (ix_listK K rfl) (pv 1) (pv 0) (fun _ _=>rfl)) (pe_ix (ix_listK K rfl) (pv 2) (pv 0) (fun _ _=>rfl))) (pe_op op_mulO (pe_op op_mulO pe_int (pe_ix (ix_listK K rfl) (pv 1) (pv 0) (fun _ _=>rfl))) (pe_ix (ix_listK K rfl) (pv 2) (pv 0) (fun _ _=>rfl))))))
   (pss_cons (ps_if (pt_cmpR (op_neD (hu60 hr)) (pe_comp (g:=(gName 0)) ["_law_form"] 1 [] rfl (by exact CompSc.of (defScope s_law) ["_law_script", "_law_letters_here", "_law_numbers", "_law_one", "_law_two", "_law_first", "_law_second", "_law_forms", "_law_trees", "_law_k", "_law_spare", "_law_both"] rfl rfl rfl (by decide +kernel) rfl (by decide +kernel) (by decide +kernel)) (pi_list (pv 7))
    (fun cl C s₀ H₀ fp=>(pg_name (i:=0) nd_law_3 rfl (Or.inl rfl) (Or.inr rfl))) (fun cl C s₀ H₀ fp=>pts_nil) (fun cl C s₀ H₀ fp=>(pe_call (ok_Z43 (P:=P) (w:=w) (base:=base) T) (hr.mono (by decide)) (by rfl) T.d_Z43.m T.d_Z43.F.kp T.d_Z43.b .nil pass0 (pa_cons (pv 0) (pa_cons pe_int pa_nil))))) (pe_lst (pa_cons (pe_op op_mulO (pe_callB (call_sumL rfl) (by rfl) T.n_sum PyProof.Rows.boot_sum (pa_cons (pv 5) pa_nil)) (pv 10)) (pa_cons (pe_op op_mulO (pe_callB (call_sumL rfl) (by rfl) T.n_sum PyProof.Rows.boot_sum (pa_cons (pv 6) pa_nil)) (pv 10)) (pa_cons (pe_op op_mulO (pe_callB (call_sumL rfl) (by rfl) T.n_sum PyProof.Rows.boot_sum (pa_cons (pv 11) pa_nil)) (pv 10)) pa_nil)))) (nomark _)) (pss_one (ps_ret pe_bl)) pss_nil)
   (pss_one (ps_ret (pe_and (pe_cmpR (op_eqD (hu60 hr)) (pe_call (ok_Z8 (P:=P) (w:=w) (base:=base) T) (hr.mono (by decide)) (by rfl) T.d_Z8.m T.d_Z8.F.kp T.d_Z8.b .nil pass0 (pa_cons (pe_call (ok_Z33 (P:=P) (w:=w) (base:=base) T) (hr.mono (by decide)) (by rfl) T.d_Z33.m T.d_Z33.F.kp T.d_Z33.b .nil pass0 (pa_cons (pe_call (ok_Z35 (P:=P) (w:=w) (base:=base) T) hr (by rfl) T.d_Z35.m T.d_Z35.F.kp T.d_Z35.b .nil pass0 (pa_cons (pv 3) pa_nil)) pa_nil)) pa_nil)) (pe_ix ix_list (pv 7) pe_int (fun _ _=>rfl)) (nomark _)) (pe_one (pe_cmpR (op_eqD (hu60 hr)) (pe_call (ok_Z33 (P:=P) (w:=w) (base:=base) T) (hr.mono (by decide)) (by rfl) T.d_Z33.m T.d_Z33.F.kp T.d_Z33.b .nil pass0 (pa_cons (pe_call (ok_Z35 (P:=P) (w:=w) (base:=base) T) hr (by rfl) T.d_Z35.m T.d_Z35.F.kp T.d_Z35.b .nil pass0 (pa_cons (pv 4) pa_nil)) pa_nil)) (pv 4) (nomark _)))))))))))))))))))),?_⟩
  refine⟨_,rfl,a,ns,0,rfl,hS,_,_,rfl,by decide,by decide,fun r r1 r2=>?_⟩;refine⟨_,rfl,a,ns,0,rfl,hS,_,_,rfl,rfl,(by show (0:Int)<5;decide),_,_,rfl,rfl,?_⟩;have g1:=Int.emod_nonneg (ns.getD 0 0) (show (5:Int)≠0 by decide);have g2:=Int.emod_lt_of_pos (ns.getD 0 0) (show (0:Int)<5 by decide);obtain⟨mo,hmo⟩:∃ mo:Nat,1+ns.getD 0 0 % 5=(mo:Int):=⟨(1+ns.getD 0 0 % 5).toNat,by omega⟩;refine⟨r,mo,10,(by dsimp only;rw[hmo];rfl),by omega,by omega,fun b ls H1 hb hL nd hlt hll hsrt s1=>?_⟩;have hl5:ls.length≤5:=by omega
  have hl0:0<ls.length:=by omega
  have h16:∀ x∈ls,x<16:=fun x hx=>by have:=hlt x hx;omega
  refine⟨_,rfl,a,ns,1,12,rfl,s1.seq hS,by decide,by decide,by decide,fun c ms H2 hc hM hml s2=>?_⟩;have S2:=s1.trans s2;refine⟨_,rfl,_,rfl,a,ns,1,rfl,S2.seq hS,_,_,rfl,rfl,(by show (0:Int)<7;decide),_,rfl,c,_,rfl,SqL.of hM,fun c2 hc2=>?_⟩;have q1:=Int.emod_nonneg (ns.getD 1 0) (show (7:Int)≠0 by decide);have q2:=Int.emod_lt_of_pos (ns.getD 1 0) (show (0:Int)<7 by decide);obtain⟨z7,hz7⟩:∃ z:Nat,ns.getD 1 0 % 7=(z:Int):=⟨_,(Int.toNat_of_nonneg q1).symm⟩;obtain⟨ms1,ec1,hc1⟩:=cut_short ms z7;have s3:Same H2 (upd H2 c2 (.lst (cutV (ms.map V.int) none (some (ns.getD 1 0 % 7))))):=Same.upd hc2;have w3:upd H2 c2 (.lst (cutV (ms.map V.int) none (some (ns.getD 1 0 % 7)))) c2=some (.lst (ms1.map V.int)):=by rw[upd_same,hz7,ec1]
  generalize upd H2 c2 (.lst (cutV (ms.map V.int) none (some (ns.getD 1 0 % 7))))=H3 at s3 w3;have hL3:=(s2.trans s3) _ _ hL;have hM3:=s3 _ _ hM;refine⟨_,rfl,c2,b,ms1,ls,rfl,w3,hL3,by omega,hl0,by omega,fun v1 t1 H4 hI1 ok1 hnd1 s4=>?_⟩;have hdp1:=dp_nodes t1;have hn13:nodes t1≤13:=by omega
  have hd12:t1.dp≤12:=by omega
  refine⟨_,rfl,_,rfl,c,_,rfl,SqL.of (s4 _ _ hM3),fun c3 hc3=>?_⟩;obtain⟨ms2,ec2,hc2'⟩:=cut_late ms 6;have s5:Same H4 (upd H4 c3 (.lst (cutV (ms.map V.int) (some 6) none))):=Same.upd hc3;have w5:upd H4 c3 (.lst (cutV (ms.map V.int) (some 6) none)) c3=some (.lst (ms2.map V.int)):=by rw[upd_same];exact congrArg (fun x=>some (HO.lst x)) ec2
  generalize upd H4 c3 (.lst (cutV (ms.map V.int) (some 6) none))=H5 at s5 w5;have hL5:=(s4.trans s5) _ _ hL3;refine⟨_,rfl,c3,b,ms2,ls,rfl,w5,hL5,by omega,hl0,by omega,fun v2 t2 H6 hI2 ok2 hnd2 s6=>?_⟩;have hdp2:=dp_nodes t2;have S6:=S2.trans (s3.trans (s4.trans (s5.trans s6)));have hI1':=hI1.keep (s5.trans s6);have ok1':t1.ok (fun k=>k<16):=Sm.ok.imp (fun k hk=>h16 k hk) ok1;refine⟨fun σ G=>∃ (v2:V) (t2:Sm),σ = [some (.ref a),some (.ref b),some (.ref c),some v1,some v2,none,none,none,none,none,none,none]∧Is G v1 t1.d∧Is G v2 t2.d∧t2.ok (fun k=>k∈ls)∧t2.dp≤14∧nodes t2≤39∧G b=some (.lst (natL ls)),?_,?_⟩
  ·refine⟨_,rfl,a,ns,1,rfl,S6.seq hS,_,_,rfl,rfl,divG_of (by decide) (by decide),_,_,rfl,rfl,(by show (0:Int)<3;decide),rfl,_,rfl,ite2 (fun _=>?_) (fun _=>⟨v2,t2,rfl,hI1',hI2,ok2,by omega,by omega,s6 _ _ hL5⟩)⟩;refine⟨_,rfl,v1,t1,rfl,hI1',ok1',by omega,fun v' H7 h7 s7=>?_⟩
   have:=Sm.trn_dp t1
   have:=nodes_trn t1
   exact⟨v',t1.trn,rfl,hI1'.keep s7,h7,Sm.trn_ok ok1,by omega,by omega,(s6.trans s7) _ _ hL5⟩
  clear hI2 ok2 hnd2 hdp2 hI1' S6 s6 hL5 w5 s5 ec2 hc2' w3 s3 hM3 hL3 ec1 hc1 S2 hM hL hI1;rintro σ G ⟨v2,t2,rfl,hI1,hI2,ok2,hdp2,hnd2,hL⟩;have ok2':t2.ok (fun k=>k<16):=Sm.ok.imp (fun k hk=>h16 k hk) ok2;refine⟨_,rfl,_,rfl,v1,b,t1,ls,rfl,hI1,ok1,by omega,hL,hl5,h16,fun F1 G1 hF1 wF1 y1=>?_⟩;refine⟨_,rfl,_,rfl,v2,b,t2,ls,rfl,hI2.keep y1,ok2,by omega,y1 _ _ hL,hl5,h16,fun F2 G2 hF2 wF2 y2=>?_⟩;have Y2:=y1.trans y2;refine⟨_,rfl,v1,t1,ls,rfl,hI1.keep Y2,ok1,by omega,by omega,hl5,h16,fun b1 f1 G3 hb1 hT1 hS1 hw1 y3=>?_⟩;refine⟨_,rfl,v2,t2,ls,rfl,(hI2.keep Y2).keep y3,ok2,by omega,by omega,hl5,h16,fun b2 f2 G4 hb2 hT2 hS2 hw2 y4=>?_⟩;have Y4:=Y2.trans (y3.trans y4);refine⟨_,rfl,_,rfl,(by show 3≤sizeLine;decide),fun tx htx=>?_⟩;have y5:Same G4 (upd G4 tx (.tup [.str "xor",v1,v2])):=Same.upd htx;have wx:upd G4 tx (.tup [.str "xor",v1,v2]) tx=some (.tup [.str "xor",v1,v2]):=upd_same;generalize upd G4 tx (.tup [.str "xor",v1,v2])=G5 at y5 wx;have Y5:=Y4.trans y5;have okx:(Sm.two 2 t1 t2).ok (fun k=>k∈ls):=⟨by decide,ok1,ok2⟩;refine⟨.ref tx,.two 2 t1 t2,ls,rfl,mk_tup3 wx (is_str.mpr rfl) (hI1.keep Y5) (hI2.keep Y5),okx,(by show max t1.dp t2.dp+1<22;omega),(by show max t1.dp t2.dp+1≤20;omega),hl5,h16,fun b3 f3 G6 hb3 hT3 hS3 hw3 y6=>⟨(by show 3≤sizeLine;decide),fun FL hFL=>?_⟩⟩;have y7:Same G6 (upd G6 FL (.lst [.ref b1,.ref b2,.ref b3])):=Same.upd hFL;have wFL:upd G6 FL (.lst [.ref b1,.ref b2,.ref b3]) FL=some (.lst ([b1,b2,b3].map V.ref)):=upd_same;have hFs:Fms (upd G6 FL (.lst [.ref b1,.ref b2,.ref b3])) [b1,b2,b3] [f1,f2,f3] := .cons ((hT1.keep y4).keep (y5.trans (y6.trans y7))) (.cons (hT2.keep (y5.trans (y6.trans y7))) (.cons (hT3.keep y7) .nil));have Y7:=Y5.trans (y6.trans y7);have wF1':=(y2.trans (y3.trans (y4.trans (y5.trans (y6.trans y7))))) _ _ wF1;have wF2':=(y3.trans (y4.trans (y5.trans (y6.trans y7)))) _ _ wF2;have hL7:=Y7 _ _ hL;have hI1:=hI1.keep Y7;have hI2:=hI2.keep Y7;generalize upd G6 FL (.lst [.ref b1,.ref b2,.ref b3])=H7 at wFL hFs wF1' wF2' hL7 hI1 hI2;clear y1 y2 y3 y4 y5 y6 y7 Y2 Y4 Y5 Y7 wF1 wF2 hT1 hT2 hT3 wx hL htx;have hall:∀ f∈[f1,f2,f3],FS ls f:=fun f hf=>by
   rcases List.mem_cons.mp hf with z | z
   ·rw[z];exact hS1
   ·rcases List.mem_cons.mp z with z | z
    ·rw[z];exact hS2
    ·rw[List.mem_singleton.mp z];exact hS3
  refine⟨_,rfl,FL,rfl,⟨_,SqL.of wFL⟩,?_⟩;refine comp_list (K:=K) (a:=FL) (xs:=[b1,b2,b3].map V.ref) (fun i ys σ G=>∃ (v0:Option V) (ts:List Tr),σ = [v0]∧Paired (fun y (t:Tr)=>Is G y t.d) ys ts∧Paired TrOf ([f1,f2,f3].take i) ts∧Same H7 G)
   ⟨none,[],rfl,.nil,.nil,Same.refl _⟩ (fun i ys σ G hi ⟨_,ts,_,e1,e2,e3⟩=>⟨SqL.of (e3 _ _ wFL),by rw[Paired.length e1,← Paired.length e2,List.length_take];omega⟩) (by show 3≤sizeLine;decide) ?_ ?_
  ·rintro i y ys σ G hi ⟨v0,ts,rfl,e1,e2,sG⟩;obtain⟨p,hpi,rfl⟩:=at_ref hi;have hi3:i<3:=(List.getElem?_eq_some_iff.mp hpi).1;obtain⟨f,hf⟩:∃ f,[f1,f2,f3][i]? = some f:=⟨_,List.getElem?_eq_getElem hi3⟩;obtain⟨p',h1,h2⟩:=hFs.at hf;rw[hpi] at h1;cases h1;unfold gName;refine tt ?_;refine⟨_,rfl,p,f,ls,rfl,h2.keep sG,hall f (List.mem_of_getElem? hf),h16,by omega,hl5,fun v t G2 hv hok hdp hpl hat s2=>?_⟩;refine⟨some (.ref p),ts ++ [t],rfl,?_,?_,sG.trans s2⟩
   ·exact pair_app (Paired.mapP e1 fun y t h=>h.keep s2) (.cons hv .nil)
   ·rw[List.take_add_one,hf];exact pair_app e2 (.cons ⟨hok,by omega,hpl _ fun x hx=>by omega,hat⟩ .nil)
  rintro ys σ G8 ⟨v0,ts,rfl,e1,e2,s8⟩ TL' hTL';have e2':Paired TrOf [f1,f2,f3] ts:=e2;obtain⟨y1,y2,y3,u1,u2,u3,rfl,rfl⟩:∃ y1 y2 y3 u1 u2 u3,ys=[y1,y2,y3]∧ts=[u1,u2,u3]:=by
   cases e2' with
   | cons _ e2'=>cases e2' with
    | cons _ e2'=>cases e2' with
     | cons _ e2' =>
      cases e2';cases e1 with
      | cons _ e1=>cases e1 with
       | cons _ e1=>cases e1 with
        | cons _ e1=>cases e1;exact⟨_,_,_,_,_,_,rfl,rfl⟩
  obtain⟨q1',q2',q3'⟩:Is G8 y1 u1.d∧Is G8 y2 u2.d∧Is G8 y3 u3.d:=by
   cases e1 with
   | cons a1 e1=>cases e1 with
    | cons a2 e1=>cases e1 with
     | cons a3 e1=>exact⟨a1,a2,a3⟩
  obtain⟨o1,o2,o3⟩:TrOf f1 u1∧TrOf f2 u2∧TrOf f3 u3:=by
   cases e2' with
   | cons a1 e1=>cases e1 with
    | cons a2 e1=>cases e1 with
     | cons a3 e1=>exact⟨a1,a2,a3⟩
  have s9:Same G8 (upd G8 TL' (.lst [y1,y2,y3])):=Same.upd hTL';have wT:upd G8 TL' (.lst [y1,y2,y3]) TL'=some (.lst [y1,y2,y3]):=upd_same;have S9:=s8.trans s9;have q1:=q1'.keep s9;have q2:=q2'.keep s9;have q3:=q3'.keep s9;generalize upd G8 TL' (.lst [y1,y2,y3])=H9 at wT S9 q1 q2 q3;have wFL9:=S9 _ _ wFL;have hFs9:=hFs.keep S9;have w1:=S9 _ _ wF1';have w2:=S9 _ _ wF2';have hL9:=S9 _ _ hL7;have hI1:=hI1.keep S9;have hI2:=hI2.keep S9;obtain⟨m1,m2,m3⟩:TLo H9 b1 f1∧TLo H9 b2 f2∧TLo H9 b3 f3:=by
   cases hFs9 with
   | cons a1 e1=>cases e1 with
    | cons a2 e1=>cases e1 with
     | cons a3 e1=>exact⟨a1,a2,a3⟩
  clear e1 e2 e2' q1' q2' q3' s8 s9 wFL hFs wF1' wF2' hL7;have hte:=tolds_eq nd ok1 ok2;have hff:f1=f2↔tolds t1 ls=tolds t2 ls:=by
   rw[hte];constructor
   ·intro h g;rw[← hw1,← hw2,h]
   ·intro h;exact forms_eq hS1.fg.form hS2.fg.form hS1.fg.keys hS2.fg.keys fun g=>by rw[hw1,hw2,h g]
  have e1:deq (dF f1) (dF f2)=decide (tolds t1 ls=tolds t2 ls):=by rw[deq_dF];exact decide_eq_decide.mpr hff
  have e2:deq u1.d u2.d=decide (tolds t1 ls=tolds t2 ls):=by
   by_cases h:tolds t1 ls=tolds t2 ls
   ·have hu:u1=u2:=tr_uniq _ u1 u2 (-1) (-1) (Nat.le_refl _) o1.plain o2.plain fun g=>by rw[o1.tells,o2.tells,hff.mpr h]
    rw[hu,deq_self,decide_eq_true h]
   ·rw[decide_eq_false h];cases hb:deq u1.d u2.d
    ·rfl
    ·refine absurd (hte.mpr fun g=>?_) h;rw[← hw1,← hw2,← o1.tells,← o2.tells,deq_tr hb]
  have e3:deq (.lst ((tolds t1 ls).map D.int)) (.lst ((tolds t2 ls).map D.int))=decide (tolds t1 ls=tolds t2 ls):=by rw[deq_lst];exact deq_ints _ _
  have hdi:∀ l:List Int,dep (.lst (l.map D.int))≤60:=fun l=>by rw[dep,dep_ints];decide
  have hdf:∀ f:Terms,dep (dF f)≤60:=fun f=>Nat.le_trans (dep_dF f) (by decide)
  have hdt:∀ {f:Terms}{u:Tr},TrOf f u→dep u.d≤60:=fun {f u} o=>Nat.le_trans (dep_tr u) (Nat.le_trans o.dp (by decide))
  have is1:∀ G,Same H9 G→Is G (.ref F1) (.lst ((tolds t1 ls).map D.int)):=fun G sG=>is_intsM (sG _ _ w1)
  have is2:∀ G,Same H9 G→Is G (.ref F2) (.lst ((tolds t2 ls).map D.int)):=fun G sG=>is_intsM (sG _ _ w2)
  refine⟨_,rfl,FL,_,_,V.ref b1,rfl,rfl,SqL.of wFL9,rfl,_,rfl,FL,_,_,V.ref b2,rfl,rfl,SqL.of wFL9,rfl,dF f1,dF f2,m1.is,m2.is,hdf f1,_,rfl,_,rfl,_,_,is1 _ (Same.refl _),is2 _ (Same.refl _),hdi _,rfl,_,rfl,iteN (by rw[e1,e3];simp) ?_⟩;refine⟨_,rfl,TL',_,_,y1,rfl,rfl,SqL.of wT,rfl,_,rfl,TL',_,_,y2,rfl,rfl,SqL.of wT,rfl,u1.d,u2.d,q1,q2,hdt o1,_,rfl,_,rfl,_,_,is1 _ (Same.refl _),is2 _ (Same.refl _),hdi _,rfl,_,rfl,iteN (by rw[e2,e3];simp) ?_⟩;have key10:∀ {f:Terms},FS ls f→∀ t∈f,0≤t.1∧t.1<2^10:=fun {f} hF t ht=>by
   have h0:=(hF.fg.keys t ht).1;refine⟨h0,?_⟩;have h1:t.1.toNat<2^10:=Nat.lt_pow_two_of_testBit _ fun j hj=>by
    cases z:t.1.toNat.testBit j
    ·rfl
    ·have:=hlt j (hF.key t ht j z);omega
   omega
  refine⟨3,rfl,by decide,by decide,for_range (n:=3) (fun i σ G=>∃ v9:Option V,σ = [some (.ref a),some (.ref b),some (.ref c),some v1,some v2,some (.ref F1),some (.ref F2),some (.ref FL),some (.ref TL'),v9,none,none]∧Same H9 G) ⟨none,rfl,Same.refl _⟩ ?_ ?_⟩
  ·rintro i σ G hi ⟨v9,rfl,sG⟩;have hzi:(0:Int)+(i:Int)=(i:Int):=Int.zero_add _;obtain⟨y,u,p,f,hy,hp,hu,ho,hm,hF⟩:∃ y u p f,[y1,y2,y3][i]? = some y∧[b1,b2,b3][i]? = some p∧Is H9 y u.d∧TrOf f u∧TLo H9 p f∧FS ls f:=by
    match i,hi with
    | 0,_=>exact⟨y1,u1,b1,f1,rfl,rfl,q1,o1,m1,hS1⟩
    | 1,_=>exact⟨y2,u2,b2,f2,rfl,rfl,q2,o2,m2,hS2⟩
    | 2,_=>exact⟨y3,u3,b3,f3,rfl,rfl,q3,o3,m3,hS3⟩
   refine⟨_,rfl,_,rfl,TL',_,_,y,rfl,rfl,SqL.of (sG _ _ wT),(by rw[hzi];exact atI_nat hy),y,u,2^60-1,rfl,hu.keep sG,Tr.ok.imp (fun k hk=>⟨hk,by rw[Nat.testBit_two_pow_sub_one];exact decide_eq_true hk⟩) ho.ok,Nat.le_trans ho.dp (by decide),fun b' f' G2 hb' hT' hF' hK' hl' hw' s2=>?_⟩;have ef:f'=f:=forms_eq (M:=60) hF' hF.fg.form (fun t ht=>⟨(hK' t ht).1,(hK' t ht).2.1⟩) (fun t ht=>⟨(hF.fg.keys t ht).1,Int.lt_of_lt_of_le (hF.fg.keys t ht).2 (by decide)⟩) fun g=>by rw[hw',ho.tells]
   exact⟨_,rfl,_,rfl,FL,_,_,V.ref p,rfl,rfl,SqL.of (s2 _ _ (sG _ _ wFL9)),(by rw[hzi];exact atI_nat (by rw[List.getElem?_map,hp];rfl)),dF f',dF f,hT'.is,((hm.keep sG).keep s2).is,hdf f',_,rfl,iteN (by rw[ef,deq_self];decide) ⟨_,rfl,sG.trans s2⟩⟩
  rintro σ G ⟨v9,rfl,sG⟩;have hlx:(natL ls).length=ls.length:=by unfold natL;rw[List.length_map]
  have hsp:(1:Int) * 2^((10:Int)-((natL ls).length:Int)).toNat=((2^(10-ls.length):Nat):Int):=by
   rw[hlx,show (10:Int)-(ls.length:Int)=((10-ls.length:Nat):Int) by omega,shl_eq,pow_cast]
  have hsm:(2:Nat)^(10-ls.length)≤2^10:=Nat.pow_le_pow_right (by decide) (by omega);have hs0:(0:Int)≤((2^(10-ls.length):Nat):Int):=Int.natCast_nonneg _;refine⟨_,rfl,b,_,rfl,.inl (SqL.of (sG _ _ hL9)),_,_,rfl,rfl,_,_,rfl,rfl,⟨by rw[hlx];omega,by rw[hlx];omega,by decide⟩,?_⟩;dsimp only;rw[hsp];have tl:∀ t:Sm,(tolds t ls).length=2^ls.length:=fun t=>by unfold tolds;rw[List.length_map,List.length_range]
  have h32:(2:Nat)^ls.length≤2^5:=Nat.pow_le_pow_right (by decide) hl5;refine⟨_,rfl,F1,_,rfl,.inl (SqL.of (sG _ _ w1)),(((tolds t1 ls).map V.int).length:Int),rfl,by omega,by rw[List.length_map,tl];omega,?_⟩;have at_t:∀ (t:Sm) (i:Nat),i<2^ls.length→(tolds t ls)[i]? = some (t.at fun k=>(sprd ls i).testBit k):=fun t i hi=>by unfold tolds;rw[List.getElem?_map,List.getElem?_range hi];rfl
  refine comp_range (lo:=0) (n:=((((tolds t1 ls).map V.int).length:Nat):Int).toNat) (fun i ys σ G2=>∃ v0:Option V,σ = [v0,some (.ref F1),some (.ref F2)]∧ys=((tolds (.two 2 t1 t2) ls).take i).map V.int∧ys.length≤i∧G2=G)
   ⟨none,rfl,rfl,Nat.le_refl _,rfl⟩ (fun i ys σ G2 ⟨_,_,_,e,_⟩=>e) (by rw[Int.toNat_natCast,List.length_map,tl];exact Nat.le_of_lt (small6 (by omega))) ?_ ?_
  ·rintro i ys σ G2 hi ⟨v0,rfl,rfl,hyl,rfl⟩;rw[Int.toNat_natCast,List.length_map,tl] at hi;have hzi:(0:Int)+(i:Int)=(i:Int):=Int.zero_add _;have hx:=at_t t1 i hi;have hy:=at_t t2 i hi;have hxy:=at_t (.two 2 t1 t2) i hi;have bx:=Sm.at_bit (fun k=>(sprd ls i).testBit k) ok1;have by':=Sm.at_bit (fun k=>(sprd ls i).testBit k) ok2;generalize t1.at (fun k=>(sprd ls i).testBit k)=x at hx bx;have hxy':(tolds (.two 2 t1 t2) ls)[i]? = some (say 2 x (t2.at fun k=>(sprd ls i).testBit k)):=by
    have e:t1.at (fun k=>(sprd ls i).testBit k)=x:=by rw[at_t t1 i hi] at hx;exact Option.some.inj hx
    rw[hxy,← e];rfl
   generalize t2.at (fun k=>(sprd ls i).testBit k)=y at hy by' hxy';have ax:atI ((tolds t1 ls).map V.int) (0+(i:Int))=some (V.int x):=by rw[hzi];exact atI_nat (by rw[List.getElem?_map,hx];rfl)
   have ay:atI ((tolds t2 ls).map V.int) (0+(i:Int))=some (V.int y):=by rw[hzi];exact atI_nat (by rw[List.getElem?_map,hy];rfl)
   have sx:=SqL.of (K:=K) (sG _ _ w1);have sy:=SqL.of (K:=K) (sG _ _ w2);unfold gName;refine tt ?_;refine⟨_,rfl,_,rfl,F1,_,_,V.int x,rfl,rfl,sx,ax,_,rfl,_,rfl,F2,_,_,V.int y,rfl,rfl,sy,ay,_,_,rfl,rfl,?_⟩;refine⟨_,rfl,_,rfl,F1,_,_,V.int x,rfl,rfl,sx,ax,_,_,rfl,rfl,mulL (by decide) (by decide),_,rfl,_,rfl,F2,_,_,V.int y,rfl,rfl,sy,ay,_,_,rfl,rfl,mulR (by rcases by' with z | z <;> rw[z] <;> decide) (by rcases by' with z | z <;> rw[z] <;> decide),_,_,rfl,rfl,?_⟩;have ev:x+y-2 * x * y=say 2 x y:=by
    rcases bx with z | z <;> rcases by' with z' | z' <;> rw[z,z'] <;> decide
   dsimp only;rw[ev];refine⟨_,rfl,?_,by rw[List.length_append];show _+1≤_;omega,rfl⟩;rw[List.take_add_one,hxy',List.map_append];rfl
  rintro ys σ G2 ⟨v0,rfl,rfl,_,rfl⟩ BL hBL;have eB:(tolds (.two 2 t1 t2) ls).take ((((tolds t1 ls).map V.int).length:Nat):Int).toNat=tolds (.two 2 t1 t2) ls:=by
   rw[Int.toNat_natCast,List.length_map,tl,← tl (.two 2 t1 t2),List.take_length]
  rw[eB];have s10:Same G2 (upd G2 BL (.lst ((tolds (.two 2 t1 t2) ls).map V.int))):=Same.upd hBL;have wB:upd G2 BL (.lst ((tolds (.two 2 t1 t2) ls).map V.int)) BL=some (.lst ((tolds (.two 2 t1 t2) ls).map V.int)):=upd_same;generalize upd G2 BL (.lst ((tolds (.two 2 t1 t2) ls).map V.int))=H10 at s10 wB ⊢;have S10:=sG.trans s10;have wsm:∀ {f:Terms}{t:Sm},FS ls f→(∀ g:Nat,worthL f (g:Int)=t.at fun k=>g.testBit k)→wsum 10 f=(tolds t ls).sum * ((2^(10-ls.length):Nat):Int):=fun {f t} hF hw=>by
   rw[spread_sum ls nd (by omega) (key10 hF) hF.key];have e:((List.range (2^ls.length)).map fun s:Nat=>worthL f ((sprd ls s:Nat):Int))=tolds t ls:=List.map_congr_left fun s _=>hw (sprd ls s)
   rw[e,← pow_cast]
  refine⟨_,rfl,FL,rfl,⟨_,SqL.of (S10 _ _ wFL9)⟩,?_⟩;refine comp_list (K:=K) (a:=FL) (xs:=[b1,b2,b3].map V.ref) (fun i ys σ G=>∃ v0:Option V,σ = [v0]∧ys=(([f1,f2,f3].take i).map fun f=>wsum 10 f).map V.int∧Same H10 G)
   ⟨none,rfl,rfl,Same.refl _⟩ (fun i ys σ G hi ⟨_,_,e1,e3⟩=>⟨SqL.of (e3 _ _ (S10 _ _ wFL9)),by rw[e1,List.length_map,List.length_map,List.length_take];omega⟩) (by show 3≤sizeLine;decide) ?_ ?_
  ·rintro i y ys σ G hi ⟨v0,rfl,rfl,sG'⟩;obtain⟨p,hpi,rfl⟩:=at_ref hi;have hi3:i<3:=(List.getElem?_eq_some_iff.mp hpi).1;obtain⟨f,hf⟩:∃ f,[f1,f2,f3][i]? = some f:=⟨_,List.getElem?_eq_getElem hi3⟩;obtain⟨p',h1,h2⟩:=hFs9.at hf;rw[hpi] at h1;cases h1;have hF:=hall f (List.mem_of_getElem? hf);have hfl:f.length≤32:=Nat.le_trans hF.len (Nat.pow_le_pow_right (by decide:2 > 0) hl5:2^ls.length≤2^5);unfold gName;refine tt ?_;refine⟨_,rfl,p,f,10,rfl,((h2.keep S10).keep sG').tl,key10 hF,by omega,by decide,(fun t ht=>Nat.le_trans (hF.fg.small t ht) (Nat.pow_le_pow_right (by decide) (by decide))),fun G3 s3=>?_⟩;refine⟨some (.ref p),rfl,?_,sG'.trans s3⟩;rw[List.take_add_one,hf,List.map_append,List.map_append];rfl
  rintro ys σ G3 ⟨v0,rfl,rfl,s11⟩ WL hWL;have s12:Same G3 (upd G3 WL (.lst ((([f1,f2,f3].take ([b1,b2,b3].map V.ref).length).map fun f=>wsum 10 f).map V.int))):=Same.upd hWL;have wW:upd G3 WL (.lst ((([f1,f2,f3].take ([b1,b2,b3].map V.ref).length).map fun f=>wsum 10 f).map V.int)) WL=some (.lst ([wsum 10 f1,wsum 10 f2,wsum 10 f3].map V.int)):=upd_same;generalize upd G3 WL (.lst ((([f1,f2,f3].take ([b1,b2,b3].map V.ref).length).map fun f=>wsum 10 f).map V.int))=H12 at s12 wW ⊢;have S12:=s11.trans s12;have T12:=S10.trans S12;have mo:∀ x:Int,IntMulOk x ((2^(10-ls.length):Nat):Int):=fun x=>mulR (by omega) (by omega)
  refine⟨_,rfl,F1,_,rfl,SqL.of (T12 _ _ w1),_,rfl,_,_,rfl,rfl,mo _,_,rfl,F2,_,rfl,SqL.of (T12 _ _ w2),_,rfl,_,_,rfl,rfl,mo _,_,rfl,BL,_,rfl,SqL.of (S12 _ _ wB),_,rfl,_,_,rfl,rfl,mo _,(by show 3≤sizeLine;decide),fun L2' hL2=>?_⟩;have s13:Same H12 (upd H12 L2' (.lst [.int ((tolds t1 ls).sum * ((2^(10-ls.length):Nat):Int)),.int ((tolds t2 ls).sum * ((2^(10-ls.length):Nat):Int)),.int ((tolds (.two 2 t1 t2) ls).sum * ((2^(10-ls.length):Nat):Int))])):=Same.upd hL2;have wL2:upd H12 L2' (.lst [.int ((tolds t1 ls).sum * ((2^(10-ls.length):Nat):Int)),.int ((tolds t2 ls).sum * ((2^(10-ls.length):Nat):Int)),.int ((tolds (.two 2 t1 t2) ls).sum * ((2^(10-ls.length):Nat):Int))]) L2'=some (.lst ([wsum 10 f1,wsum 10 f2,wsum 10 f3].map V.int)):=by
   rw[upd_same,wsm hS1 hw1,wsm hS2 hw2,wsm hS3 hw3];rfl
  generalize upd H12 L2' (.lst [.int ((tolds t1 ls).sum * ((2^(10-ls.length):Nat):Int)),.int ((tolds t2 ls).sum * ((2^(10-ls.length):Nat):Int)),.int ((tolds (.two 2 t1 t2) ls).sum * ((2^(10-ls.length):Nat):Int))])=H13 at s13 wL2 ⊢;refine⟨_,_,is_intsM (s13 _ _ wW),is_intsM wL2,hdi _,_,rfl,iteN (by rw[deq_self];decide) ?_⟩;have T13:=T12.trans s13;have hI1:=hI1.keep T13;have hI2:=hI2.keep T13;have tx1:=txt_nodes ok1;have tx2:=txt_nodes ok2;refine⟨_,rfl,v1,t1,rfl,hI1,ok1',by omega,by omega,fun H14 s14=>?_⟩;refine⟨t1,rfl,ok1',by omega,fun v' H15 hv' s15=>?_⟩;refine⟨v',t1,ls,rfl,hv',ok1,by omega,by omega,hl5,h16,fun b' f' H16 hb' hT' hS' hw' s16=>?_⟩;have T16:=T13.trans (s14.trans (s15.trans s16));have ef:f'=f1:=forms_eq hS'.fg.form hS1.fg.form hS'.fg.keys hS1.fg.keys fun g=>by rw[hw',hw1]
  refine⟨_,rfl,FL,_,_,V.ref b1,rfl,rfl,SqL.of (T16 _ _ wFL9),rfl,dF f',dF f1,hT'.is,(m1.keep T16).is,hdf f',true,(by rw[ef,deq_self];rfl),iteT ?_⟩;have hI2:=hI2.keep (s14.trans (s15.trans s16));refine⟨_,rfl,v2,t2,rfl,hI2,ok2',by omega,by omega,fun H17 s17=>?_⟩;refine⟨t2,rfl,ok2',by omega,fun v'' H18 hv'' s18=>?_⟩;refine⟨_,rfl,t2.d,t2.d,hv'',hI2.keep (s17.trans s18),Nat.le_trans (dep_sm t2) (by omega),?_⟩;rw[deq_self];exact kq _
end
theorem us1 {fd:FuncData}{ps:List Str} (h:∀ x0,bindArgs fd ⟨[x0],[]⟩=pure (ps.zip [x0])) (us:List Value) (hl:us.length=1):bindArgs fd ⟨us,[]⟩=pure (ps.zip us):=by
 cases us with
 | nil=>cases hl
 | cons x0 us =>
 replace hl:=Nat.succ.inj hl
 cases List.eq_nil_of_length_eq_zero hl;exact h x0
theorem us2 {fd:FuncData}{ps:List Str} (h:∀ x0 x1,bindArgs fd ⟨[x0,x1],[]⟩=pure (ps.zip [x0,x1])) (us:List Value) (hl:us.length=2):bindArgs fd ⟨us,[]⟩=pure (ps.zip us):=by
 cases us with
 | nil=>cases hl
 | cons x0 us =>
 replace hl:=Nat.succ.inj hl
 cases us with
 | nil=>cases hl
 | cons x1 us =>
 replace hl:=Nat.succ.inj hl
 cases List.eq_nil_of_length_eq_zero hl;exact h x0 x1
theorem us3 {fd:FuncData}{ps:List Str} (h:∀ x0 x1 x2,bindArgs fd ⟨[x0,x1,x2],[]⟩=pure (ps.zip [x0,x1,x2])) (us:List Value) (hl:us.length=3):bindArgs fd ⟨us,[]⟩=pure (ps.zip us):=by
 cases us with
 | nil=>cases hl
 | cons x0 us =>
 replace hl:=Nat.succ.inj hl
 cases us with
 | nil=>cases hl
 | cons x1 us =>
 replace hl:=Nat.succ.inj hl
 cases us with
 | nil=>cases hl
 | cons x2 us =>
 replace hl:=Nat.succ.inj hl
 cases List.eq_nil_of_length_eq_zero hl;exact h x0 x1 x2
noncomputable def defPos (s:Stmt):Pos:=match s with
 | .FunctionDef _ _ _ _ _ _ _ _ _ p=>p
 | _=>⟨0,0,0,0⟩
theorem all_mk {l:PySem.W.OpenLaw}{w:World}{K:PySem.W.Frag}{h:Heap}{mg:Str→Option Value}{fa fL f0 f1 f2 f3 f4 f5 f6 f7 f8 f9 f10 f11 f12 f13 f14 f15 f16 f17 f18 f19 f20 f21 f22 f23 f24 f25 f26 f27 f28 f29 f30 f31 f32 f33 f34 f35 f36 f37 f38 f39 f40 f41 f42 f43 f44 f45 f46 f47:Addr} (X:K.In h) (G:h.Ns mainGlobals mg) (hfa:mg "law" = some (.ref fa))
  {odL anL od0 an0 od1 an1 od2 an2 od3 an3 od4 an4 od5 an5 od6 an6 od7 an7 od8 an8 od9 an9 od10 an10 od11 an11 od12 an12 od13 an13 od14 an14 od15 an15 od16 an16 od17 an17 od18 an18 od19 an19 od20 an20 od21 an21 od22 an22 od23 an23 od24 an24 od25 an25 od26 an26 od27 an27 od28 an28 od29 an29 od30 an30 od31 an31 od32 an32 od33 an33 od34 an34 od35 an35 od36 an36 od37 an37 od38 an38 od39 an39 od40 an40 od41 an41 od42 an42 od43 an43 od44 an44 od45 an45 od46 an46 od47 an47:Option Addr}{slL sl0 sl1 sl2 sl3 sl4 sl5 sl6 sl7 sl8 sl9 sl10 sl11 sl12 sl13 sl14 sl15 sl16 sl17 sl18 sl19 sl20 sl21 sl22 sl23 sl24 sl25 sl26 sl27 sl28 sl29 sl30 sl31 sl32 sl33 sl34 sl35 sl36 sl37 sl38 sl39 sl40 sl41 sl42 sl43 sl44 sl45 sl46 sl47:Array (Option Value)}{ocL kVL dcL pmL cdL ctL oc0 kV0 dc0 pm0 cd0 ct0 oc1 kV1 dc1 pm1 cd1 ct1 oc2 kV2 dc2 pm2 cd2 ct2 oc3 kV3 dc3 pm3 cd3 ct3 oc4 kV4 dc4 pm4 cd4 ct4 oc5 kV5 dc5 pm5 cd5 ct5 oc6 kV6 dc6 pm6 cd6 ct6 oc7 kV7 dc7 pm7 cd7 ct7 oc8 kV8 dc8 pm8 cd8 ct8 oc9 kV9 dc9 pm9 cd9 ct9 oc10 kV10 dc10 pm10 cd10 ct10 oc11 kV11 dc11 pm11 cd11 ct11 oc12 kV12 dc12 pm12 cd12 ct12 oc13 kV13 dc13 pm13 cd13 ct13 oc14 kV14 dc14 pm14 cd14 ct14 oc15 kV15 dc15 pm15 cd15 ct15 oc16 kV16 dc16 pm16 cd16 ct16 oc17 kV17 dc17 pm17 cd17 ct17 oc18 kV18 dc18 pm18 cd18 ct18 oc19 kV19 dc19 pm19 cd19 ct19 oc20 kV20 dc20 pm20 cd20 ct20 oc21 kV21 dc21 pm21 cd21 ct21 oc22 kV22 dc22 pm22 cd22 ct22 oc23 kV23 dc23 pm23 cd23 ct23 oc24 kV24 dc24 pm24 cd24 ct24 oc25 kV25 dc25 pm25 cd25 ct25 oc26 kV26 dc26 pm26 cd26 ct26 oc27 kV27 dc27 pm27 cd27 ct27 oc28 kV28 dc28 pm28 cd28 ct28 oc29 kV29 dc29 pm29 cd29 ct29 oc30 kV30 dc30 pm30 cd30 ct30 oc31 kV31 dc31 pm31 cd31 ct31 oc32 kV32 dc32 pm32 cd32 ct32 oc33 kV33 dc33 pm33 cd33 ct33 oc34 kV34 dc34 pm34 cd34 ct34 oc35 kV35 dc35 pm35 cd35 ct35 oc36 kV36 dc36 pm36 cd36 ct36 oc37 kV37 dc37 pm37 cd37 ct37 oc38 kV38 dc38 pm38 cd38 ct38 oc39 kV39 dc39 pm39 cd39 ct39 oc40 kV40 dc40 pm40 cd40 ct40 oc41 kV41 dc41 pm41 cd41 ct41 oc42 kV42 dc42 pm42 cd42 ct42 oc43 kV43 dc43 pm43 cd43 ct43 oc44 kV44 dc44 pm44 cd44 ct44 oc45 kV45 dc45 pm45 cd45 ct45 oc46 kV46 dc46 pm46 cd46 ct46 oc47 kV47 dc47 pm47 cd47 ct47:Value}
  (a0:PySem.W.nsIn K mainGlobals "_law_few_letters" = some (some (.ref f0))) (l0:K.lookup f0=some ⟨oc0,od0,.func (PySem.W.fnOf "_law_few_letters" "_law_few_letters" (defArgs s_Z16) (defBody s_Z16) (defScope s_Z16) .none kV0 dc0 pm0 an0 cd0 ct0),sl0⟩) (c0:PySem.W.codeIn K cd0 "_law_few_letters" = true) (k0:PySem.W.keepIn K (.ref f0)=true)
  (a1:PySem.W.nsIn K mainGlobals "_law_at" = some (some (.ref f1))) (l1:K.lookup f1=some ⟨oc1,od1,.func (PySem.W.fnOf "_law_at" "_law_at" (defArgs s_Z15) (defBody s_Z15) (defScope s_Z15) .none kV1 dc1 pm1 an1 cd1 ct1),sl1⟩) (c1:PySem.W.codeIn K cd1 "_law_at" = true) (k1:PySem.W.keepIn K (.ref f1)=true)
  (a2:PySem.W.nsIn K mainGlobals "_law_mixed" = some (some (.ref f2))) (l2:K.lookup f2=some ⟨oc2,od2,.func (PySem.W.fnOf "_law_mixed" "_law_mixed" (defArgs s_Z20) (defBody s_Z20) (defScope s_Z20) .none kV2 dc2 pm2 an2 cd2 ct2),sl2⟩) (c2:PySem.W.codeIn K cd2 "_law_mixed" = true) (k2:PySem.W.keepIn K (.ref f2)=true)
  (a3:PySem.W.nsIn K mainGlobals "_law_folded" = some (some (.ref f3))) (l3:K.lookup f3=some ⟨oc3,od3,.func (PySem.W.fnOf "_law_folded" "_law_folded" (defArgs s_Z17) (defBody s_Z17) (defScope s_Z17) .none kV3 dc3 pm3 an3 cd3 ct3),sl3⟩) (c3:PySem.W.codeIn K cd3 "_law_folded" = true) (k3:PySem.W.keepIn K (.ref f3)=true)
  (a4:PySem.W.nsIn K mainGlobals "_law_statement" = some (some (.ref f4))) (l4:K.lookup f4=some ⟨oc4,od4,.func (PySem.W.fnOf "_law_statement" "_law_statement" (defArgs s_Z22) (defBody s_Z22) (defScope s_Z22) .none kV4 dc4 pm4 an4 cd4 ct4),sl4⟩) (c4:PySem.W.codeIn K cd4 "_law_statement" = true) (k4:PySem.W.keepIn K (.ref f4)=true)
  (a5:PySem.W.nsIn K mainGlobals "_law_holds_at" = some (some (.ref f5))) (l5:K.lookup f5=some ⟨oc5,od5,.func (PySem.W.fnOf "_law_holds_at" "_law_holds_at" (defArgs s_Z18) (defBody s_Z18) (defScope s_Z18) .none kV5 dc5 pm5 an5 cd5 ct5),sl5⟩) (c5:PySem.W.codeIn K cd5 "_law_holds_at" = true) (k5:PySem.W.keepIn K (.ref f5)=true)
  (a6:PySem.W.nsIn K mainGlobals "_law_spread" = some (some (.ref f6))) (l6:K.lookup f6=some ⟨oc6,od6,.func (PySem.W.fnOf "_law_spread" "_law_spread" (defArgs s_Z21) (defBody s_Z21) (defScope s_Z21) .none kV6 dc6 pm6 an6 cd6 ct6),sl6⟩) (c6:PySem.W.codeIn K cd6 "_law_spread" = true) (k6:PySem.W.keepIn K (.ref f6)=true)
  (a7:PySem.W.nsIn K mainGlobals "_law_told" = some (some (.ref f7))) (l7:K.lookup f7=some ⟨oc7,od7,.func (PySem.W.fnOf "_law_told" "_law_told" (defArgs s_Z23) (defBody s_Z23) (defScope s_Z23) .none kV7 dc7 pm7 an7 cd7 ct7),sl7⟩) (c7:PySem.W.codeIn K cd7 "_law_told" = true) (k7:PySem.W.keepIn K (.ref f7)=true)
  (a8:PySem.W.nsIn K mainGlobals "_law_turned" = some (some (.ref f8))) (l8:K.lookup f8=some ⟨oc8,od8,.func (PySem.W.fnOf "_law_turned" "_law_turned" (defArgs s_Z24) (defBody s_Z24) (defScope s_Z24) .none kV8 dc8 pm8 an8 cd8 ct8),sl8⟩) (c8:PySem.W.codeIn K cd8 "_law_turned" = true) (k8:PySem.W.keepIn K (.ref f8)=true)
  (a9:PySem.W.nsIn K mainGlobals "parts_of" = some (some (.ref f9))) (l9:K.lookup f9=some ⟨oc9,od9,.func (PySem.W.fnOf "parts_of" "parts_of" (defArgs s_Z31) (defBody s_Z31) (defScope s_Z31) .none kV9 dc9 pm9 an9 cd9 ct9),sl9⟩) (c9:PySem.W.codeIn K cd9 "parts_of" = true) (k9:PySem.W.keepIn K (.ref f9)=true)
  (a10:PySem.W.nsIn K mainGlobals "form_from" = some (some (.ref f10))) (l10:K.lookup f10=some ⟨oc10,od10,.func (PySem.W.fnOf "form_from" "form_from" (defArgs s_Z6) (defBody s_Z6) (defScope s_Z6) .none kV10 dc10 pm10 an10 cd10 ct10),sl10⟩) (c10:PySem.W.codeIn K cd10 "form_from" = true) (k10:PySem.W.keepIn K (.ref f10)=true)
  (a11:PySem.W.nsIn K mainGlobals "made" = some (some (.ref f11))) (l11:K.lookup f11=some ⟨oc11,od11,.func (PySem.W.fnOf "made" "made" (defArgs s_Z27) (defBody s_Z27) (defScope s_Z27) .none kV11 dc11 pm11 an11 cd11 ct11),sl11⟩) (c11:PySem.W.codeIn K cd11 "made" = true) (k11:PySem.W.keepIn K (.ref f11)=true)
  (a12:PySem.W.nsIn K mainGlobals "doubled" = some (some (.ref f12))) (l12:K.lookup f12=some ⟨oc12,od12,.func (PySem.W.fnOf "doubled" "doubled" (defArgs s_Z3) (defBody s_Z3) (defScope s_Z3) .none kV12 dc12 pm12 an12 cd12 ct12),sl12⟩) (c12:PySem.W.codeIn K cd12 "doubled" = true) (k12:PySem.W.keepIn K (.ref f12)=true)
  (a13:PySem.W.nsIn K mainGlobals "gathered" = some (some (.ref f13))) (l13:K.lookup f13=some ⟨oc13,od13,.func (PySem.W.fnOf "gathered" "gathered" (defArgs s_Z12) (defBody s_Z12) (defScope s_Z12) .none kV13 dc13 pm13 an13 cd13 ct13),sl13⟩) (c13:PySem.W.codeIn K cd13 "gathered" = true) (k13:PySem.W.keepIn K (.ref f13)=true)
  (a14:PySem.W.nsIn K mainGlobals "table_of" = some (some (.ref f14))) (l14:K.lookup f14=some ⟨oc14,od14,.func (PySem.W.fnOf "table_of" "table_of" (defArgs s_Z37) (defBody s_Z37) (defScope s_Z37) .none kV14 dc14 pm14 an14 cd14 ct14),sl14⟩) (c14:PySem.W.codeIn K cd14 "table_of" = true) (k14:PySem.W.keepIn K (.ref f14)=true)
  (a15:PySem.W.nsIn K mainGlobals "unknowns" = some (some (.ref f15))) (l15:K.lookup f15=some ⟨oc15,od15,.func (PySem.W.fnOf "unknowns" "unknowns" (defArgs s_Z42) (defBody s_Z42) (defScope s_Z42) .none kV15 dc15 pm15 an15 cd15 ct15),sl15⟩) (c15:PySem.W.codeIn K cd15 "unknowns" = true) (k15:PySem.W.keepIn K (.ref f15)=true)
  (a16:PySem.W.nsIn K mainGlobals "paired_tables" = some (some (.ref f16))) (l16:K.lookup f16=some ⟨oc16,od16,.func (PySem.W.fnOf "paired_tables" "paired_tables" (defArgs s_Z28) (defBody s_Z28) (defScope s_Z28) .none kV16 dc16 pm16 an16 cd16 ct16),sl16⟩) (c16:PySem.W.codeIn K cd16 "paired_tables" = true) (k16:PySem.W.keepIn K (.ref f16)=true)
  (a17:PySem.W.nsIn K mainGlobals "form_of" = some (some (.ref f17))) (l17:K.lookup f17=some ⟨oc17,od17,.func (PySem.W.fnOf "form_of" "form_of" (defArgs s_Z7) (defBody s_Z7) (defScope s_Z7) .none kV17 dc17 pm17 an17 cd17 ct17),sl17⟩) (c17:PySem.W.codeIn K cd17 "form_of" = true) (k17:PySem.W.keepIn K (.ref f17)=true)
  (a18:PySem.W.nsIn K mainGlobals "plus" = some (some (.ref f18))) (l18:K.lookup f18=some ⟨oc18,od18,.func (PySem.W.fnOf "plus" "plus" (defArgs s_Z32) (defBody s_Z32) (defScope s_Z32) .none kV18 dc18 pm18 an18 cd18 ct18),sl18⟩) (c18:PySem.W.codeIn K cd18 "plus" = true) (k18:PySem.W.keepIn K (.ref f18)=true)
  (a19:PySem.W.nsIn K mainGlobals "scaled" = some (some (.ref f19))) (l19:K.lookup f19=some ⟨oc19,od19,.func (PySem.W.fnOf "scaled" "scaled" (defArgs s_Z34) (defBody s_Z34) (defScope s_Z34) .none kV19 dc19 pm19 an19 cd19 ct19),sl19⟩) (c19:PySem.W.codeIn K cd19 "scaled" = true) (k19:PySem.W.keepIn K (.ref f19)=true)
  (a20:PySem.W.nsIn K mainGlobals "less" = some (some (.ref f20))) (l20:K.lookup f20=some ⟨oc20,od20,.func (PySem.W.fnOf "less" "less" (defArgs s_Z25) (defBody s_Z25) (defScope s_Z25) .none kV20 dc20 pm20 an20 cd20 ct20),sl20⟩) (c20:PySem.W.codeIn K cd20 "less" = true) (k20:PySem.W.keepIn K (.ref f20)=true)
  (a21:PySem.W.nsIn K mainGlobals "times" = some (some (.ref f21))) (l21:K.lookup f21=some ⟨oc21,od21,.func (PySem.W.fnOf "times" "times" (defArgs s_Z38) (defBody s_Z38) (defScope s_Z38) .none kV21 dc21 pm21 an21 cd21 ct21),sl21⟩) (c21:PySem.W.codeIn K cd21 "times" = true) (k21:PySem.W.keepIn K (.ref f21)=true)
  (a22:PySem.W.nsIn K mainGlobals "joined" = some (some (.ref f22))) (l22:K.lookup f22=some ⟨oc22,od22,.func (PySem.W.fnOf "joined" "joined" (defArgs s_Z14) (defBody s_Z14) (defScope s_Z14) .none kV22 dc22 pm22 an22 cd22 ct22),sl22⟩) (c22:PySem.W.codeIn K cd22 "joined" = true) (k22:PySem.W.keepIn K (.ref f22)=true)
  (a23:PySem.W.nsIn K mainGlobals "bit_of_word" = some (some (.ref f23))) (l23:K.lookup f23=some ⟨oc23,od23,.func (PySem.W.fnOf "bit_of_word" "bit_of_word" (defArgs s_Z0) (defBody s_Z0) (defScope s_Z0) .none kV23 dc23 pm23 an23 cd23 ct23),sl23⟩) (c23:PySem.W.codeIn K cd23 "bit_of_word" = true) (k23:PySem.W.keepIn K (.ref f23)=true)
  (a24:PySem.W.nsIn K mainGlobals "form_of_word" = some (some (.ref f24))) (l24:K.lookup f24=some ⟨oc24,od24,.func (PySem.W.fnOf "form_of_word" "form_of_word" (defArgs s_Z10) (defBody s_Z10) (defScope s_Z10) .none kV24 dc24 pm24 an24 cd24 ct24),sl24⟩) (c24:PySem.W.codeIn K cd24 "form_of_word" = true) (k24:PySem.W.keepIn K (.ref f24)=true)
  (a25:PySem.W.nsIn K mainGlobals "form_of_statement" = some (some (.ref f25))) (l25:K.lookup f25=some ⟨oc25,od25,.func (PySem.W.fnOf "form_of_statement" "form_of_statement" (defArgs s_Z8) (defBody s_Z8) (defScope s_Z8) .none kV25 dc25 pm25 an25 cd25 ct25),sl25⟩) (c25:PySem.W.codeIn K cd25 "form_of_statement" = true) (k25:PySem.W.keepIn K (.ref f25)=true)
  (a26:PySem.W.nsIn K mainGlobals "bits_of" = some (some (.ref f26))) (l26:K.lookup f26=some ⟨oc26,od26,.func (PySem.W.fnOf "bits_of" "bits_of" (defArgs s_Z1) (defBody s_Z1) (defScope s_Z1) .none kV26 dc26 pm26 an26 cd26 ct26),sl26⟩) (c26:PySem.W.codeIn K cd26 "bits_of" = true) (k26:PySem.W.keepIn K (.ref f26)=true)
  (a27:PySem.W.nsIn K mainGlobals "listed" = some (some (.ref f27))) (l27:K.lookup f27=some ⟨oc27,od27,.func (PySem.W.fnOf "listed" "listed" (defArgs s_Z26) (defBody s_Z26) (defScope s_Z26) .none kV27 dc27 pm27 an27 cd27 ct27),sl27⟩) (c27:PySem.W.codeIn K cd27 "listed" = true) (k27:PySem.W.keepIn K (.ref f27)=true)
  (a28:PySem.W.nsIn K mainGlobals "worth" = some (some (.ref f28))) (l28:K.lookup f28=some ⟨oc28,od28,.func (PySem.W.fnOf "worth" "worth" (defArgs s_Z48) (defBody s_Z48) (defScope s_Z48) .none kV28 dc28 pm28 an28 cd28 ct28),sl28⟩) (c28:PySem.W.codeIn K cd28 "worth" = true) (k28:PySem.W.keepIn K (.ref f28)=true)
  (a29:PySem.W.nsIn K mainGlobals "without" = some (some (.ref f29))) (l29:K.lookup f29=some ⟨oc29,od29,.func (PySem.W.fnOf "without" "without" (defArgs s_Z47) (defBody s_Z47) (defScope s_Z47) .none kV29 dc29 pm29 an29 cd29 ct29),sl29⟩) (c29:PySem.W.codeIn K cd29 "without" = true) (k29:PySem.W.keepIn K (.ref f29)=true)
  (a30:PySem.W.nsIn K mainGlobals "freed" = some (some (.ref f30))) (l30:K.lookup f30=some ⟨oc30,od30,.func (PySem.W.fnOf "freed" "freed" (defArgs s_Z11) (defBody s_Z11) (defScope s_Z11) .none kV30 dc30 pm30 an30 cd30 ct30),sl30⟩) (c30:PySem.W.codeIn K cd30 "freed" = true) (k30:PySem.W.keepIn K (.ref f30)=true)
  (a31:PySem.W.nsIn K mainGlobals "fixed" = some (some (.ref f31))) (l31:K.lookup f31=some ⟨oc31,od31,.func (PySem.W.fnOf "fixed" "fixed" (defArgs s_Z4) (defBody s_Z4) (defScope s_Z4) .none kV31 dc31 pm31 an31 cd31 ct31),sl31⟩) (c31:PySem.W.codeIn K cd31 "fixed" = true) (k31:PySem.W.keepIn K (.ref f31)=true)
  (a32:PySem.W.nsIn K mainGlobals "tree_of" = some (some (.ref f32))) (l32:K.lookup f32=some ⟨oc32,od32,.func (PySem.W.fnOf "tree_of" "tree_of" (defArgs s_Z41) (defBody s_Z41) (defScope s_Z41) .none kV32 dc32 pm32 an32 cd32 ct32),sl32⟩) (c32:PySem.W.codeIn K cd32 "tree_of" = true) (k32:PySem.W.keepIn K (.ref f32)=true)
  (a33:PySem.W.nsIn K mainGlobals "chosen" = some (some (.ref f33))) (l33:K.lookup f33=some ⟨oc33,od33,.func (PySem.W.fnOf "chosen" "chosen" (defArgs s_Z2) (defBody s_Z2) (defScope s_Z2) .none kV33 dc33 pm33 an33 cd33 ct33),sl33⟩) (c33:PySem.W.codeIn K cd33 "chosen" = true) (k33:PySem.W.keepIn K (.ref f33)=true)
  (a34:PySem.W.nsIn K mainGlobals "form_below" = some (some (.ref f34))) (l34:K.lookup f34=some ⟨oc34,od34,.func (PySem.W.fnOf "form_below" "form_below" (defArgs s_Z5) (defBody s_Z5) (defScope s_Z5) .none kV34 dc34 pm34 an34 cd34 ct34),sl34⟩) (c34:PySem.W.codeIn K cd34 "form_below" = true) (k34:PySem.W.keepIn K (.ref f34)=true)
  (a35:PySem.W.nsIn K mainGlobals "form_of_tree" = some (some (.ref f35))) (l35:K.lookup f35=some ⟨oc35,od35,.func (PySem.W.fnOf "form_of_tree" "form_of_tree" (defArgs s_Z9) (defBody s_Z9) (defScope s_Z9) .none kV35 dc35 pm35 an35 cd35 ct35),sl35⟩) (c35:PySem.W.codeIn K cd35 "form_of_tree" = true) (k35:PySem.W.keepIn K (.ref f35)=true)
  (a36:PySem.W.nsIn K mainGlobals "holders" = some (some (.ref f36))) (l36:K.lookup f36=some ⟨oc36,od36,.func (PySem.W.fnOf "holders" "holders" (defArgs s_Z13) (defBody s_Z13) (defScope s_Z13) .none kV36 dc36 pm36 an36 cd36 ct36),sl36⟩) (c36:PySem.W.codeIn K cd36 "holders" = true) (k36:PySem.W.keepIn K (.ref f36)=true)
  (a37:PySem.W.nsIn K mainGlobals "whole_sum" = some (some (.ref f37))) (l37:K.lookup f37=some ⟨oc37,od37,.func (PySem.W.fnOf "whole_sum" "whole_sum" (defArgs s_Z44) (defBody s_Z44) (defScope s_Z44) .none kV37 dc37 pm37 an37 cd37 ct37),sl37⟩) (c37:PySem.W.codeIn K cd37 "whole_sum" = true) (k37:PySem.W.keepIn K (.ref f37)=true)
  (a38:PySem.W.nsIn K mainGlobals "ways" = some (some (.ref f38))) (l38:K.lookup f38=some ⟨oc38,od38,.func (PySem.W.fnOf "ways" "ways" (defArgs s_Z43) (defBody s_Z43) (defScope s_Z43) .none kV38 dc38 pm38 an38 cd38 ct38),sl38⟩) (c38:PySem.W.codeIn K cd38 "ways" = true) (k38:PySem.W.keepIn K (.ref f38)=true)
  (a39:PySem.W.nsIn K mainGlobals "token_at" = some (some (.ref f39))) (l39:K.lookup f39=some ⟨oc39,od39,.func (PySem.W.fnOf "token_at" "token_at" (defArgs s_Z39) (defBody s_Z39) (defScope s_Z39) .none kV39 dc39 pm39 an39 cd39 ct39),sl39⟩) (c39:PySem.W.codeIn K cd39 "token_at" = true) (k39:PySem.W.keepIn K (.ref f39)=true)
  (a40:PySem.W.nsIn K mainGlobals "tokens_of" = some (some (.ref f40))) (l40:K.lookup f40=some ⟨oc40,od40,.func (PySem.W.fnOf "tokens_of" "tokens_of" (defArgs s_Z40) (defBody s_Z40) (defScope s_Z40) .none kV40 dc40 pm40 an40 cd40 ct40),sl40⟩) (c40:PySem.W.codeIn K cd40 "tokens_of" = true) (k40:PySem.W.keepIn K (.ref f40)=true)
  (a41:PySem.W.nsIn K mainGlobals "with_joining" = some (some (.ref f41))) (l41:K.lookup f41=some ⟨oc41,od41,.func (PySem.W.fnOf "with_joining" "with_joining" (defArgs s_Z45) (defBody s_Z45) (defScope s_Z45) .none kV41 dc41 pm41 an41 cd41 ct41),sl41⟩) (c41:PySem.W.codeIn K cd41 "with_joining" = true) (k41:PySem.W.keepIn K (.ref f41)=true)
  (a42:PySem.W.nsIn K mainGlobals "with_nots" = some (some (.ref f42))) (l42:K.lookup f42=some ⟨oc42,od42,.func (PySem.W.fnOf "with_nots" "with_nots" (defArgs s_Z46) (defBody s_Z46) (defScope s_Z46) .none kV42 dc42 pm42 an42 cd42 ct42),sl42⟩) (c42:PySem.W.codeIn K cd42 "with_nots" = true) (k42:PySem.W.keepIn K (.ref f42)=true)
  (a43:PySem.W.nsIn K mainGlobals "part_from" = some (some (.ref f43))) (l43:K.lookup f43=some ⟨oc43,od43,.func (PySem.W.fnOf "part_from" "part_from" (defArgs s_Z30) (defBody s_Z30) (defScope s_Z30) .none kV43 dc43 pm43 an43 cd43 ct43),sl43⟩) (c43:PySem.W.codeIn K cd43 "part_from" = true) (k43:PySem.W.keepIn K (.ref f43)=true)
  (a44:PySem.W.nsIn K mainGlobals "part_after" = some (some (.ref f44))) (l44:K.lookup f44=some ⟨oc44,od44,.func (PySem.W.fnOf "part_after" "part_after" (defArgs s_Z29) (defBody s_Z29) (defScope s_Z29) .none kV44 dc44 pm44 an44 cd44 ct44),sl44⟩) (c44:PySem.W.codeIn K cd44 "part_after" = true) (k44:PySem.W.keepIn K (.ref f44)=true)
  (a45:PySem.W.nsIn K mainGlobals "read" = some (some (.ref f45))) (l45:K.lookup f45=some ⟨oc45,od45,.func (PySem.W.fnOf "read" "read" (defArgs s_Z33) (defBody s_Z33) (defScope s_Z33) .none kV45 dc45 pm45 an45 cd45 ct45),sl45⟩) (c45:PySem.W.codeIn K cd45 "read" = true) (k45:PySem.W.keepIn K (.ref f45)=true)
  (a46:PySem.W.nsIn K mainGlobals "shown" = some (some (.ref f46))) (l46:K.lookup f46=some ⟨oc46,od46,.func (PySem.W.fnOf "shown" "shown" (defArgs s_Z35) (defBody s_Z35) (defScope s_Z35) .none kV46 dc46 pm46 an46 cd46 ct46),sl46⟩) (c46:PySem.W.codeIn K cd46 "shown" = true) (k46:PySem.W.keepIn K (.ref f46)=true)
  (a47:PySem.W.nsIn K mainGlobals "shown_part" = some (some (.ref f47))) (l47:K.lookup f47=some ⟨oc47,od47,.func (PySem.W.fnOf "shown_part" "shown_part" (defArgs s_Z36) (defBody s_Z36) (defScope s_Z36) .none kV47 dc47 pm47 an47 cd47 ct47),sl47⟩) (c47:PySem.W.codeIn K cd47 "shown_part" = true) (k47:PySem.W.keepIn K (.ref f47)=true)
  (aL:PySem.W.nsIn K mainGlobals "law" = some (some (.ref fL))) (lL:K.lookup fL=some ⟨ocL,odL,.func (PySem.W.fnOf "law" "law" (defArgs s_law) (defBody s_law) (defScope s_law) .none kVL dcL pmL anL cdL ctL),slL⟩) (cL:PySem.W.codeIn K cdL "law" = true) (kL:PySem.W.keepIn K (.ref fL)=true)
  (z_dict:PySem.W.nsIn K mainGlobals "dict" = some none)
  (z_enumerate:PySem.W.nsIn K mainGlobals "enumerate" = some none)
  (z_int:PySem.W.nsIn K mainGlobals "int" = some none)
  (z_isinstance:PySem.W.nsIn K mainGlobals "isinstance" = some none)
  (z_len:PySem.W.nsIn K mainGlobals "len" = some none)
  (z_range:PySem.W.nsIn K mainGlobals "range" = some none)
  (z_reversed:PySem.W.nsIn K mainGlobals "reversed" = some none)
  (z_sorted:PySem.W.nsIn K mainGlobals "sorted" = some none)
  (z_str:PySem.W.nsIn K mainGlobals "str" = some none)
  (z_sum:PySem.W.nsIn K mainGlobals "sum" = some none)
  (z_tuple:PySem.W.nsIn K mainGlobals "tuple" = some none)
  (z_zip:PySem.W.nsIn K mainGlobals "zip" = some none)
  {ga_JOINING:Addr}{go_JOINING:Option Addr}{gn_JOINING:Nat}{gs_JOINING:Array (Option Value)}{gt0_JOINING gt1_JOINING gt2_JOINING:Tok}
  (g_JOINING:PySem.W.nsIn K mainGlobals "JOINING" = some (some (.ref ga_JOINING))) (h_JOINING:K.lookup ga_JOINING=some ⟨.type "tuple",go_JOINING,.seq #[.str "and" gt0_JOINING,.str "or" gt1_JOINING,.str "xor" gt2_JOINING] gn_JOINING,gs_JOINING⟩)
  {ga_SPACED:Addr}{go_SPACED:Option Addr}{gn_SPACED:Nat}{gs_SPACED:Array (Option Value)}{gt0_SPACED gt1_SPACED gt2_SPACED gt3_SPACED:Tok}
  (g_SPACED:PySem.W.nsIn K mainGlobals "SPACED" = some (some (.ref ga_SPACED))) (h_SPACED:K.lookup ga_SPACED=some ⟨.type "tuple",go_SPACED,.seq #[.str "not " gt0_SPACED,.str " and " gt1_SPACED,.str " or " gt2_SPACED,.str " xor " gt3_SPACED] gn_SPACED,gs_SPACED⟩)
  {tk_LETTERS:Tok} (g_LETTERS:PySem.W.nsIn K mainGlobals "LETTERS" = some (some (.str "abcdefghijklmnop" tk_LETTERS))) :
  ∃ fd:FuncData,(∀ (s:Shared) (v:Value),BindsTo s fd ⟨[v],[]⟩ [("_law_script",v)])∧∀ base:Heap,K.In base→base.Ns mainGlobals mg→FnOk l.prog w K mg base CX0 102 fa fd ["_law_script"] (spLaw K):=by
 have e:=hfa.symm.trans (PySem.W.mg_of X G aL);cases e;have F0:=fun_mk (st:=s_Z16) l0 c0 k0;have F1:=fun_mk (st:=s_Z15) l1 c1 k1;have F2:=fun_mk (st:=s_Z20) l2 c2 k2;have F3:=fun_mk (st:=s_Z17) l3 c3 k3;have F4:=fun_mk (st:=s_Z22) l4 c4 k4;have F5:=fun_mk (st:=s_Z18) l5 c5 k5;have F6:=fun_mk (st:=s_Z21) l6 c6 k6;have F7:=fun_mk (st:=s_Z23) l7 c7 k7;have F8:=fun_mk (st:=s_Z24) l8 c8 k8;have F9:=fun_mk (st:=s_Z31) l9 c9 k9;have F10:=fun_mk (st:=s_Z6) l10 c10 k10;have F11:=fun_mk (st:=s_Z27) l11 c11 k11;have F12:=fun_mk (st:=s_Z3) l12 c12 k12;have F13:=fun_mk (st:=s_Z12) l13 c13 k13;have F14:=fun_mk (st:=s_Z37) l14 c14 k14;have F15:=fun_mk (st:=s_Z42) l15 c15 k15;have F16:=fun_mk (st:=s_Z28) l16 c16 k16;have F17:=fun_mk (st:=s_Z7) l17 c17 k17;have F18:=fun_mk (st:=s_Z32) l18 c18 k18;have F19:=fun_mk (st:=s_Z34) l19 c19 k19;have F20:=fun_mk (st:=s_Z25) l20 c20 k20;have F21:=fun_mk (st:=s_Z38) l21 c21 k21;have F22:=fun_mk (st:=s_Z14) l22 c22 k22;have F23:=fun_mk (st:=s_Z0) l23 c23 k23;have F24:=fun_mk (st:=s_Z10) l24 c24 k24;have F25:=fun_mk (st:=s_Z8) l25 c25 k25;have F26:=fun_mk (st:=s_Z1) l26 c26 k26;have F27:=fun_mk (st:=s_Z26) l27 c27 k27;have F28:=fun_mk (st:=s_Z48) l28 c28 k28;have F29:=fun_mk (st:=s_Z47) l29 c29 k29;have F30:=fun_mk (st:=s_Z11) l30 c30 k30;have F31:=fun_mk (st:=s_Z4) l31 c31 k31;have F32:=fun_mk (st:=s_Z41) l32 c32 k32;have F33:=fun_mk (st:=s_Z2) l33 c33 k33;have F34:=fun_mk (st:=s_Z5) l34 c34 k34;have F35:=fun_mk (st:=s_Z9) l35 c35 k35;have F36:=fun_mk (st:=s_Z13) l36 c36 k36;have F37:=fun_mk (st:=s_Z44) l37 c37 k37;have F38:=fun_mk (st:=s_Z43) l38 c38 k38;have F39:=fun_mk (st:=s_Z39) l39 c39 k39;have F40:=fun_mk (st:=s_Z40) l40 c40 k40;have F41:=fun_mk (st:=s_Z45) l41 c41 k41;have F42:=fun_mk (st:=s_Z46) l42 c42 k42;have F43:=fun_mk (st:=s_Z30) l43 c43 k43;have F44:=fun_mk (st:=s_Z29) l44 c44 k44;have F45:=fun_mk (st:=s_Z33) l45 c45 k45;have F46:=fun_mk (st:=s_Z35) l46 c46 k46;have F47:=fun_mk (st:=s_Z36) l47 c47 k47;have T:Txt K mg:={
  a_Z16:=f0,fd_Z16:=_,d_Z16:=⟨F0,PySem.W.mg_of X G a0,F0.binds fun _ _ _ _ _ _ us hl=>us3 (fun _ _ _=>rfl) us hl⟩
  a_Z15:=f1,fd_Z15:=_,d_Z15:=⟨F1,PySem.W.mg_of X G a1,F1.binds fun _ _ _ _ _ _ us hl=>us2 (fun _ _=>rfl) us hl⟩
  a_Z20:=f2,fd_Z20:=_,d_Z20:=⟨F2,PySem.W.mg_of X G a2,F2.binds fun _ _ _ _ _ _ us hl=>us2 (fun _ _=>rfl) us hl⟩
  a_Z17:=f3,fd_Z17:=_,d_Z17:=⟨F3,PySem.W.mg_of X G a3,F3.binds fun _ _ _ _ _ _ us hl=>us3 (fun _ _ _=>rfl) us hl⟩
  a_Z22:=f4,fd_Z22:=_,d_Z22:=⟨F4,PySem.W.mg_of X G a4,F4.binds fun _ _ _ _ _ _ us hl=>us2 (fun _ _=>rfl) us hl⟩
  a_Z18:=f5,fd_Z18:=_,d_Z18:=⟨F5,PySem.W.mg_of X G a5,F5.binds fun _ _ _ _ _ _ us hl=>us2 (fun _ _=>rfl) us hl⟩
  a_Z21:=f6,fd_Z21:=_,d_Z21:=⟨F6,PySem.W.mg_of X G a6,F6.binds fun _ _ _ _ _ _ us hl=>us2 (fun _ _=>rfl) us hl⟩
  a_Z23:=f7,fd_Z23:=_,d_Z23:=⟨F7,PySem.W.mg_of X G a7,F7.binds fun _ _ _ _ _ _ us hl=>us2 (fun _ _=>rfl) us hl⟩
  a_Z24:=f8,fd_Z24:=_,d_Z24:=⟨F8,PySem.W.mg_of X G a8,F8.binds fun _ _ _ _ _ _ us hl=>us1 (fun _=>rfl) us hl⟩
  a_Z31:=f9,fd_Z31:=_,d_Z31:=⟨F9,PySem.W.mg_of X G a9,F9.binds fun _ _ _ _ _ _ us hl=>us1 (fun _=>rfl) us hl⟩
  a_Z6:=f10,fd_Z6:=_,d_Z6:=⟨F10,PySem.W.mg_of X G a10,F10.binds fun _ _ _ _ _ _ us hl=>us1 (fun _=>rfl) us hl⟩
  a_Z27:=f11,fd_Z27:=_,d_Z27:=⟨F11,PySem.W.mg_of X G a11,F11.binds fun _ _ _ _ _ _ us hl=>us1 (fun _=>rfl) us hl⟩
  a_Z3:=f12,fd_Z3:=_,d_Z3:=⟨F12,PySem.W.mg_of X G a12,F12.binds fun _ _ _ _ _ _ us hl=>us1 (fun _=>rfl) us hl⟩
  a_Z12:=f13,fd_Z12:=_,d_Z12:=⟨F13,PySem.W.mg_of X G a13,F13.binds fun _ _ _ _ _ _ us hl=>us2 (fun _ _=>rfl) us hl⟩
  a_Z37:=f14,fd_Z37:=_,d_Z37:=⟨F14,PySem.W.mg_of X G a14,F14.binds fun _ _ _ _ _ _ us hl=>us2 (fun _ _=>rfl) us hl⟩
  a_Z42:=f15,fd_Z42:=_,d_Z42:=⟨F15,PySem.W.mg_of X G a15,F15.binds fun _ _ _ _ _ _ us hl=>us1 (fun _=>rfl) us hl⟩
  a_Z28:=f16,fd_Z28:=_,d_Z28:=⟨F16,PySem.W.mg_of X G a16,F16.binds fun _ _ _ _ _ _ us hl=>us2 (fun _ _=>rfl) us hl⟩
  a_Z7:=f17,fd_Z7:=_,d_Z7:=⟨F17,PySem.W.mg_of X G a17,F17.binds fun _ _ _ _ _ _ us hl=>us1 (fun _=>rfl) us hl⟩
  a_Z32:=f18,fd_Z32:=_,d_Z32:=⟨F18,PySem.W.mg_of X G a18,F18.binds fun _ _ _ _ _ _ us hl=>us2 (fun _ _=>rfl) us hl⟩
  a_Z34:=f19,fd_Z34:=_,d_Z34:=⟨F19,PySem.W.mg_of X G a19,F19.binds fun _ _ _ _ _ _ us hl=>us2 (fun _ _=>rfl) us hl⟩
  a_Z25:=f20,fd_Z25:=_,d_Z25:=⟨F20,PySem.W.mg_of X G a20,F20.binds fun _ _ _ _ _ _ us hl=>us2 (fun _ _=>rfl) us hl⟩
  a_Z38:=f21,fd_Z38:=_,d_Z38:=⟨F21,PySem.W.mg_of X G a21,F21.binds fun _ _ _ _ _ _ us hl=>us2 (fun _ _=>rfl) us hl⟩
  a_Z14:=f22,fd_Z14:=_,d_Z14:=⟨F22,PySem.W.mg_of X G a22,F22.binds fun _ _ _ _ _ _ us hl=>us3 (fun _ _ _=>rfl) us hl⟩
  a_Z0:=f23,fd_Z0:=_,d_Z0:=⟨F23,PySem.W.mg_of X G a23,F23.binds fun _ _ _ _ _ _ us hl=>us2 (fun _ _=>rfl) us hl⟩
  a_Z10:=f24,fd_Z10:=_,d_Z10:=⟨F24,PySem.W.mg_of X G a24,F24.binds fun _ _ _ _ _ _ us hl=>us2 (fun _ _=>rfl) us hl⟩
  a_Z8:=f25,fd_Z8:=_,d_Z8:=⟨F25,PySem.W.mg_of X G a25,F25.binds fun _ _ _ _ _ _ us hl=>us1 (fun _=>rfl) us hl⟩
  a_Z1:=f26,fd_Z1:=_,d_Z1:=⟨F26,PySem.W.mg_of X G a26,F26.binds fun _ _ _ _ _ _ us hl=>us2 (fun _ _=>rfl) us hl⟩
  a_Z26:=f27,fd_Z26:=_,d_Z26:=⟨F27,PySem.W.mg_of X G a27,F27.binds fun _ _ _ _ _ _ us hl=>us1 (fun _=>rfl) us hl⟩
  a_Z48:=f28,fd_Z48:=_,d_Z48:=⟨F28,PySem.W.mg_of X G a28,F28.binds fun _ _ _ _ _ _ us hl=>us2 (fun _ _=>rfl) us hl⟩
  a_Z47:=f29,fd_Z47:=_,d_Z47:=⟨F29,PySem.W.mg_of X G a29,F29.binds fun _ _ _ _ _ _ us hl=>us2 (fun _ _=>rfl) us hl⟩
  a_Z11:=f30,fd_Z11:=_,d_Z11:=⟨F30,PySem.W.mg_of X G a30,F30.binds fun _ _ _ _ _ _ us hl=>us2 (fun _ _=>rfl) us hl⟩
  a_Z4:=f31,fd_Z4:=_,d_Z4:=⟨F31,PySem.W.mg_of X G a31,F31.binds fun _ _ _ _ _ _ us hl=>us3 (fun _ _ _=>rfl) us hl⟩
  a_Z41:=f32,fd_Z41:=_,d_Z41:=⟨F32,PySem.W.mg_of X G a32,F32.binds fun _ _ _ _ _ _ us hl=>us1 (fun _=>rfl) us hl⟩
  a_Z2:=f33,fd_Z2:=_,d_Z2:=⟨F33,PySem.W.mg_of X G a33,F33.binds fun _ _ _ _ _ _ us hl=>us3 (fun _ _ _=>rfl) us hl⟩
  a_Z5:=f34,fd_Z5:=_,d_Z5:=⟨F34,PySem.W.mg_of X G a34,F34.binds fun _ _ _ _ _ _ us hl=>us3 (fun _ _ _=>rfl) us hl⟩
  a_Z9:=f35,fd_Z9:=_,d_Z9:=⟨F35,PySem.W.mg_of X G a35,F35.binds fun _ _ _ _ _ _ us hl=>us1 (fun _=>rfl) us hl⟩
  a_Z13:=f36,fd_Z13:=_,d_Z13:=⟨F36,PySem.W.mg_of X G a36,F36.binds fun _ _ _ _ _ _ us hl=>us2 (fun _ _=>rfl) us hl⟩
  a_Z44:=f37,fd_Z44:=_,d_Z44:=⟨F37,PySem.W.mg_of X G a37,F37.binds fun _ _ _ _ _ _ us hl=>us2 (fun _ _=>rfl) us hl⟩
  a_Z43:=f38,fd_Z43:=_,d_Z43:=⟨F38,PySem.W.mg_of X G a38,F38.binds fun _ _ _ _ _ _ us hl=>us2 (fun _ _=>rfl) us hl⟩
  a_Z39:=f39,fd_Z39:=_,d_Z39:=⟨F39,PySem.W.mg_of X G a39,F39.binds fun _ _ _ _ _ _ us hl=>us2 (fun _ _=>rfl) us hl⟩
  a_Z40:=f40,fd_Z40:=_,d_Z40:=⟨F40,PySem.W.mg_of X G a40,F40.binds fun _ _ _ _ _ _ us hl=>us1 (fun _=>rfl) us hl⟩
  a_Z45:=f41,fd_Z45:=_,d_Z45:=⟨F41,PySem.W.mg_of X G a41,F41.binds fun _ _ _ _ _ _ us hl=>us2 (fun _ _=>rfl) us hl⟩
  a_Z46:=f42,fd_Z46:=_,d_Z46:=⟨F42,PySem.W.mg_of X G a42,F42.binds fun _ _ _ _ _ _ us hl=>us2 (fun _ _=>rfl) us hl⟩
  a_Z30:=f43,fd_Z30:=_,d_Z30:=⟨F43,PySem.W.mg_of X G a43,F43.binds fun _ _ _ _ _ _ us hl=>us2 (fun _ _=>rfl) us hl⟩
  a_Z29:=f44,fd_Z29:=_,d_Z29:=⟨F44,PySem.W.mg_of X G a44,F44.binds fun _ _ _ _ _ _ us hl=>us3 (fun _ _ _=>rfl) us hl⟩
  a_Z33:=f45,fd_Z33:=_,d_Z33:=⟨F45,PySem.W.mg_of X G a45,F45.binds fun _ _ _ _ _ _ us hl=>us1 (fun _=>rfl) us hl⟩
  a_Z35:=f46,fd_Z35:=_,d_Z35:=⟨F46,PySem.W.mg_of X G a46,F46.binds fun _ _ _ _ _ _ us hl=>us1 (fun _=>rfl) us hl⟩
  a_Z36:=f47,fd_Z36:=_,d_Z36:=⟨F47,PySem.W.mg_of X G a47,F47.binds fun _ _ _ _ _ _ us hl=>us1 (fun _=>rfl) us hl⟩
  n_dict:=PySem.W.mg_none_of X G z_dict
  n_enumerate:=PySem.W.mg_none_of X G z_enumerate
  n_int:=PySem.W.mg_none_of X G z_int
  n_isinstance:=PySem.W.mg_none_of X G z_isinstance
  n_len:=PySem.W.mg_none_of X G z_len
  n_range:=PySem.W.mg_none_of X G z_range
  n_reversed:=PySem.W.mg_none_of X G z_reversed
  n_sorted:=PySem.W.mg_none_of X G z_sorted
  n_str:=PySem.W.mg_none_of X G z_str
  n_sum:=PySem.W.mg_none_of X G z_sum
  n_tuple:=PySem.W.mg_none_of X G z_tuple
  n_zip:=PySem.W.mg_none_of X G z_zip
  a_JOINING:=ga_JOINING,g_JOINING:=PySem.W.mg_of X G g_JOINING,q_JOINING:=fun H=>.inr ⟨_,_,_,h_JOINING,rfl,rfl,(by show 3≤sizeLine;decide),(.cons ⟨_,rfl⟩ (.cons ⟨_,rfl⟩ (.cons ⟨_,rfl⟩ .nil)))⟩
  a_SPACED:=ga_SPACED,g_SPACED:=PySem.W.mg_of X G g_SPACED,q_SPACED:=fun H=>.inr ⟨_,_,_,h_SPACED,rfl,rfl,(by show 4≤sizeLine;decide),(.cons ⟨_,rfl⟩ (.cons ⟨_,rfl⟩ (.cons ⟨_,rfl⟩ (.cons ⟨_,rfl⟩ .nil))))⟩
  t_LETTERS:=tk_LETTERS,g_LETTERS:=PySem.W.mg_of X G g_LETTERS
 }
 have FL:=fun_mk (st:=s_law) lL cL kL;exact⟨PySem.W.fnOf "law" "law" (defArgs s_law) (defBody s_law) (defScope s_law) .none kVL dcL pmL anL cdL ctL,fun s v=>.of_eq rfl,fun base _ _=>ok_law FL T⟩
noncomputable def K (P:Params):PySem.W.Frag :=
 (nat_lit 3,⟨.type "dict",none,.dict #[⟨PyData.keyHash P "__name__",.str "__name__" 165,.str "law_onceform_k31_whole_statements" 575⟩,⟨PyData.keyHash P "__doc__",.str "__doc__" 166,.none⟩,⟨PyData.keyHash P "__package__",.str "__package__" 167,.none⟩,⟨PyData.keyHash P "__loader__",.str "__loader__" 168,.builtin "__main__.__loader__#opaque"⟩,⟨PyData.keyHash P "__spec__",.str "__spec__" 169,.none⟩,⟨PyData.keyHash P "__annotations__",.str "__annotations__" 170,.ref 6⟩,⟨PyData.keyHash P "__builtins__",.str "__builtins__" 171,.ref 4⟩,⟨PyData.keyHash P "__file__",.str "__file__" 173,.str "/claim/cut.py" 172⟩,⟨PyData.keyHash P "__cached__",.str "__cached__" 174,.none⟩,⟨PyData.keyHash P "doubled",.str "doubled" 197,.ref 21⟩,⟨PyData.keyHash P "bits_of",.str "bits_of" 207,.ref 28⟩,⟨PyData.keyHash P "listed",.str "listed" 213,.ref 33⟩,⟨PyData.keyHash P "FormError",.str "FormError" 233,.ref 43⟩,⟨PyData.keyHash P "NoStatement",.str "NoStatement" 249,.ref 56⟩,⟨PyData.keyHash P "form_from",.str "form_from" 257,.ref 63⟩,⟨PyData.keyHash P "made",.str "made" 267,.ref 70⟩,⟨PyData.keyHash P "plus",.str "plus" 275,.ref 77⟩,⟨PyData.keyHash P "less",.str "less" 283,.ref 84⟩,⟨PyData.keyHash P "times",.str "times" 297,.ref 91⟩,⟨PyData.keyHash P "scaled",.str "scaled" 303,.ref 96⟩,⟨PyData.keyHash P "worth",.str "worth" 309,.ref 101⟩,⟨PyData.keyHash P "unknowns",.str "unknowns" 319,.ref 108⟩,⟨PyData.keyHash P "gathered",.str "gathered" 327,.ref 113⟩,⟨PyData.keyHash P "table_of",.str "table_of" 333,.ref 118⟩,⟨PyData.keyHash P "paired_tables",.str "paired_tables" 342,.ref 125⟩,⟨PyData.keyHash P "form_of",.str "form_of" 348,.ref 130⟩,⟨PyData.keyHash P "whole_sum",.str "whole_sum" 354,.ref 135⟩,⟨PyData.keyHash P "holders",.str "holders" 362,.ref 142⟩,⟨PyData.keyHash P "bit_of_word",.str "bit_of_word" 372,.ref 149⟩,⟨PyData.keyHash P "form_of_word",.str "form_of_word" 378,.ref 154⟩,⟨PyData.keyHash P "joined",.str "joined" 389,.ref 161⟩,⟨PyData.keyHash P "LETTERS",.str "LETTERS" 393,.str "abcdefghijklmnop" 392⟩,⟨PyData.keyHash P "JOINING",.str "JOINING" 397,.ref 162⟩,⟨PyData.keyHash P "SPACED",.str "SPACED" 402,.ref 163⟩,⟨PyData.keyHash P "form_of_statement",.str "form_of_statement" 413,.ref 170⟩,⟨PyData.keyHash P "parts_of",.str "parts_of" 423,.ref 177⟩,⟨PyData.keyHash P "shown",.str "shown" 431,.ref 184⟩,⟨PyData.keyHash P "shown_part",.str "shown_part" 438,.ref 191⟩,⟨PyData.keyHash P "read",.str "read" 448,.ref 198⟩,⟨PyData.keyHash P "tokens_of",.str "tokens_of" 458,.ref 205⟩,⟨PyData.keyHash P "token_at",.str "token_at" 467,.ref 212⟩,⟨PyData.keyHash P "part_from",.str "part_from" 476,.ref 219⟩,⟨PyData.keyHash P "part_after",.str "part_after" 486,.ref 226⟩,⟨PyData.keyHash P "with_nots",.str "with_nots" 494,.ref 233⟩,⟨PyData.keyHash P "with_joining",.str "with_joining" 502,.ref 240⟩,⟨PyData.keyHash P "without",.str "without" 510,.ref 245⟩,⟨PyData.keyHash P "freed",.str "freed" 516,.ref 250⟩,⟨PyData.keyHash P "fixed",.str "fixed" 526,.ref 257⟩,⟨PyData.keyHash P "ways",.str "ways" 536,.ref 264⟩,⟨PyData.keyHash P "tree_of",.str "tree_of" 545,.ref 271⟩,⟨PyData.keyHash P "form_of_tree",.str "form_of_tree" 552,.ref 278⟩,⟨PyData.keyHash P "form_below",.str "form_below" 562,.ref 285⟩,⟨PyData.keyHash P "chosen",.str "chosen" 574,.ref 292⟩,⟨PyData.keyHash P "_law_at",.str "_law_at" 584,.ref 299⟩,⟨PyData.keyHash P "_law_mixed",.str "_law_mixed" 593,.ref 306⟩,⟨PyData.keyHash P "_law_statement",.str "_law_statement" 605,.ref 313⟩,⟨PyData.keyHash P "_law_letters",.str "_law_letters" 616,.ref 320⟩,⟨PyData.keyHash P "_law_holds_at",.str "_law_holds_at" 626,.ref 327⟩,⟨PyData.keyHash P "_law_spread",.str "_law_spread" 632,.ref 332⟩,⟨PyData.keyHash P "_law_folded",.str "_law_folded" 646,.ref 339⟩,⟨PyData.keyHash P "_law_few_letters",.str "_law_few_letters" 658,.ref 346⟩,⟨PyData.keyHash P "_law_turned",.str "_law_turned" 665,.ref 353⟩,⟨PyData.keyHash P "_law_told",.str "_law_told" 671,.ref 358⟩,⟨PyData.keyHash P "law",.str "law" 677,.ref 363⟩] 64,#[]⟩) ::
 (nat_lit 20,⟨.type "code",none,.fields #[.str "doubled" 189,.str "doubled" 190,.str "/claim/cut.py" 191,.int 2 0,.int 1 0,.int 0 0,.int 0 0,.int 3 0,.ref 15,.bool true,.int 181 0,.ref 16,.none,.ref 17,.ref 18,.ref 19,.int 195 0,.int 2 0,.str "/claim/cut.py" 196],#[]⟩) ::
 (nat_lit 21,⟨.type "function",none,.func (PySem.W.fnOf "doubled" "doubled" (defArgs s_Z3) (defBody s_Z3) (defScope s_Z3) .none .none .none (.str "onceform.bits" 187) none (.ref 20) .none),#[]⟩) ::
 (nat_lit 27,⟨.type "code",none,.fields #[.str "bits_of" 198,.str "bits_of" 199,.str "/claim/cut.py" 200,.int 7 0,.int 2 0,.int 0 0,.int 0 0,.int 3 0,.ref 22,.bool true,.int 181 0,.ref 23,.none,.ref 24,.ref 25,.ref 26,.int 205 0,.int 7 0,.str "/claim/cut.py" 206],#[]⟩) ::
 (nat_lit 28,⟨.type "function",none,.func (PySem.W.fnOf "bits_of" "bits_of" (defArgs s_Z1) (defBody s_Z1) (defScope s_Z1) .none .none .none (.str "onceform.bits" 187) none (.ref 27) .none),#[]⟩) ::
 (nat_lit 32,⟨.type "code",none,.fields #[.str "listed" 208,.str "listed" 209,.str "/claim/cut.py" 210,.int 13 0,.int 1 0,.int 0 0,.int 0 0,.int 3 0,.ref 29,.bool true,.int 181 0,.ref 30,.none,.none,.none,.ref 31,.int 211 0,.int 13 0,.str "/claim/cut.py" 212],#[]⟩) ::
 (nat_lit 33,⟨.type "function",none,.func (PySem.W.fnOf "listed" "listed" (defArgs s_Z26) (defBody s_Z26) (defScope s_Z26) .none .none .none (.str "onceform.bits" 187) none (.ref 32) .none),#[]⟩) ::
 (nat_lit 62,⟨.type "code",none,.fields #[.str "form_from" 252,.str "form_from" 253,.str "/claim/cut.py" 254,.int 21 0,.int 1 0,.int 0 0,.int 0 0,.int 3 0,.ref 59,.bool true,.int 181 0,.ref 60,.none,.none,.none,.ref 61,.int 255 0,.int 21 0,.str "/claim/cut.py" 256],#[]⟩) ::
 (nat_lit 63,⟨.type "function",none,.func (PySem.W.fnOf "form_from" "form_from" (defArgs s_Z6) (defBody s_Z6) (defScope s_Z6) .none .none .none (.str "onceform.forms" 250) none (.ref 62) .none),#[]⟩) ::
 (nat_lit 69,⟨.type "code",none,.fields #[.str "made" 258,.str "made" 259,.str "/claim/cut.py" 260,.int 23 0,.int 1 0,.int 0 0,.int 0 0,.int 3 0,.ref 64,.bool true,.int 181 0,.ref 65,.none,.ref 66,.ref 67,.ref 68,.int 265 0,.int 23 0,.str "/claim/cut.py" 266],#[]⟩) ::
 (nat_lit 70,⟨.type "function",none,.func (PySem.W.fnOf "made" "made" (defArgs s_Z27) (defBody s_Z27) (defScope s_Z27) .none .none .none (.str "onceform.forms" 250) none (.ref 69) .none),#[]⟩) ::
 (nat_lit 76,⟨.type "code",none,.fields #[.str "plus" 268,.str "plus" 269,.str "/claim/cut.py" 270,.int 28 0,.int 2 0,.int 0 0,.int 0 0,.int 3 0,.ref 71,.bool true,.int 181 0,.ref 72,.none,.ref 73,.ref 74,.ref 75,.int 273 0,.int 28 0,.str "/claim/cut.py" 274],#[]⟩) ::
 (nat_lit 77,⟨.type "function",none,.func (PySem.W.fnOf "plus" "plus" (defArgs s_Z32) (defBody s_Z32) (defScope s_Z32) .none .none .none (.str "onceform.forms" 250) none (.ref 76) .none),#[]⟩) ::
 (nat_lit 83,⟨.type "code",none,.fields #[.str "less" 276,.str "less" 277,.str "/claim/cut.py" 278,.int 30 0,.int 2 0,.int 0 0,.int 0 0,.int 3 0,.ref 78,.bool true,.int 181 0,.ref 79,.none,.ref 80,.ref 81,.ref 82,.int 281 0,.int 30 0,.str "/claim/cut.py" 282],#[]⟩) ::
 (nat_lit 84,⟨.type "function",none,.func (PySem.W.fnOf "less" "less" (defArgs s_Z25) (defBody s_Z25) (defScope s_Z25) .none .none .none (.str "onceform.forms" 250) none (.ref 83) .none),#[]⟩) ::
 (nat_lit 90,⟨.type "code",none,.fields #[.str "times" 284,.str "times" 285,.str "/claim/cut.py" 286,.int 32 0,.int 2 0,.int 0 0,.int 0 0,.int 3 0,.ref 85,.bool true,.int 181 0,.ref 86,.none,.ref 87,.ref 88,.ref 89,.int 295 0,.int 32 0,.str "/claim/cut.py" 296],#[]⟩) ::
 (nat_lit 91,⟨.type "function",none,.func (PySem.W.fnOf "times" "times" (defArgs s_Z38) (defBody s_Z38) (defScope s_Z38) .none .none .none (.str "onceform.forms" 250) none (.ref 90) .none),#[]⟩) ::
 (nat_lit 95,⟨.type "code",none,.fields #[.str "scaled" 298,.str "scaled" 299,.str "/claim/cut.py" 300,.int 39 0,.int 2 0,.int 0 0,.int 0 0,.int 3 0,.ref 92,.bool true,.int 181 0,.ref 93,.none,.none,.none,.ref 94,.int 301 0,.int 39 0,.str "/claim/cut.py" 302],#[]⟩) ::
 (nat_lit 96,⟨.type "function",none,.func (PySem.W.fnOf "scaled" "scaled" (defArgs s_Z34) (defBody s_Z34) (defScope s_Z34) .none .none .none (.str "onceform.forms" 250) none (.ref 95) .none),#[]⟩) ::
 (nat_lit 100,⟨.type "code",none,.fields #[.str "worth" 304,.str "worth" 305,.str "/claim/cut.py" 306,.int 41 0,.int 2 0,.int 0 0,.int 0 0,.int 3 0,.ref 97,.bool true,.int 181 0,.ref 98,.none,.none,.none,.ref 99,.int 307 0,.int 41 0,.str "/claim/cut.py" 308],#[]⟩) ::
 (nat_lit 101,⟨.type "function",none,.func (PySem.W.fnOf "worth" "worth" (defArgs s_Z48) (defBody s_Z48) (defScope s_Z48) .none .none .none (.str "onceform.forms" 250) none (.ref 100) .none),#[]⟩) ::
 (nat_lit 107,⟨.type "code",none,.fields #[.str "unknowns" 310,.str "unknowns" 311,.str "/claim/cut.py" 312,.int 43 0,.int 1 0,.int 0 0,.int 0 0,.int 3 0,.ref 102,.bool true,.int 181 0,.ref 103,.none,.ref 104,.ref 105,.ref 106,.int 317 0,.int 43 0,.str "/claim/cut.py" 318],#[]⟩) ::
 (nat_lit 108,⟨.type "function",none,.func (PySem.W.fnOf "unknowns" "unknowns" (defArgs s_Z42) (defBody s_Z42) (defScope s_Z42) .none .none .none (.str "onceform.forms" 250) none (.ref 107) .none),#[]⟩) ::
 (nat_lit 112,⟨.type "code",none,.fields #[.str "gathered" 322,.str "gathered" 323,.str "/claim/cut.py" 324,.int 49 0,.int 2 0,.int 0 0,.int 0 0,.int 3 0,.ref 109,.bool true,.int 181 0,.ref 110,.none,.none,.none,.ref 111,.int 325 0,.int 49 0,.str "/claim/cut.py" 326],#[]⟩) ::
 (nat_lit 113,⟨.type "function",none,.func (PySem.W.fnOf "gathered" "gathered" (defArgs s_Z12) (defBody s_Z12) (defScope s_Z12) .none .none .none (.str "onceform.tables" 320) none (.ref 112) .none),#[]⟩) ::
 (nat_lit 117,⟨.type "code",none,.fields #[.str "table_of" 328,.str "table_of" 329,.str "/claim/cut.py" 330,.int 55 0,.int 2 0,.int 0 0,.int 0 0,.int 3 0,.ref 114,.bool true,.int 181 0,.ref 115,.none,.none,.none,.ref 116,.int 331 0,.int 55 0,.str "/claim/cut.py" 332],#[]⟩) ::
 (nat_lit 118,⟨.type "function",none,.func (PySem.W.fnOf "table_of" "table_of" (defArgs s_Z37) (defBody s_Z37) (defScope s_Z37) .none .none .none (.str "onceform.tables" 320) none (.ref 117) .none),#[]⟩) ::
 (nat_lit 124,⟨.type "code",none,.fields #[.str "paired_tables" 334,.str "paired_tables" 335,.str "/claim/cut.py" 336,.int 58 0,.int 2 0,.int 0 0,.int 0 0,.int 3 0,.ref 119,.bool true,.int 181 0,.ref 120,.none,.ref 121,.ref 122,.ref 123,.int 340 0,.int 58 0,.str "/claim/cut.py" 341],#[]⟩) ::
 (nat_lit 125,⟨.type "function",none,.func (PySem.W.fnOf "paired_tables" "paired_tables" (defArgs s_Z28) (defBody s_Z28) (defScope s_Z28) .none .none .none (.str "onceform.tables" 320) none (.ref 124) .none),#[]⟩) ::
 (nat_lit 129,⟨.type "code",none,.fields #[.str "form_of" 343,.str "form_of" 344,.str "/claim/cut.py" 345,.int 63 0,.int 1 0,.int 0 0,.int 0 0,.int 3 0,.ref 126,.bool true,.int 181 0,.ref 127,.none,.none,.none,.ref 128,.int 346 0,.int 63 0,.str "/claim/cut.py" 347],#[]⟩) ::
 (nat_lit 130,⟨.type "function",none,.func (PySem.W.fnOf "form_of" "form_of" (defArgs s_Z7) (defBody s_Z7) (defScope s_Z7) .none .none .none (.str "onceform.tables" 320) none (.ref 129) .none),#[]⟩) ::
 (nat_lit 134,⟨.type "code",none,.fields #[.str "whole_sum" 349,.str "whole_sum" 350,.str "/claim/cut.py" 351,.int 65 0,.int 2 0,.int 0 0,.int 0 0,.int 3 0,.ref 131,.bool true,.int 181 0,.ref 132,.none,.none,.none,.ref 133,.int 352 0,.int 65 0,.str "/claim/cut.py" 353],#[]⟩) ::
 (nat_lit 135,⟨.type "function",none,.func (PySem.W.fnOf "whole_sum" "whole_sum" (defArgs s_Z44) (defBody s_Z44) (defScope s_Z44) .none .none .none (.str "onceform.tables" 320) none (.ref 134) .none),#[]⟩) ::
 (nat_lit 141,⟨.type "code",none,.fields #[.str "holders" 355,.str "holders" 356,.str "/claim/cut.py" 357,.int 68 0,.int 2 0,.int 0 0,.int 0 0,.int 3 0,.ref 136,.bool true,.int 181 0,.ref 137,.none,.ref 138,.ref 139,.ref 140,.int 360 0,.int 68 0,.str "/claim/cut.py" 361],#[]⟩) ::
 (nat_lit 142,⟨.type "function",none,.func (PySem.W.fnOf "holders" "holders" (defArgs s_Z13) (defBody s_Z13) (defScope s_Z13) .none .none .none (.str "onceform.tables" 320) none (.ref 141) .none),#[]⟩) ::
 (nat_lit 148,⟨.type "code",none,.fields #[.str "bit_of_word" 365,.str "bit_of_word" 366,.str "/claim/cut.py" 367,.int 74 0,.int 2 0,.int 0 0,.int 0 0,.int 3 0,.ref 143,.bool true,.int 181 0,.ref 144,.none,.ref 145,.ref 146,.ref 147,.int 370 0,.int 74 0,.str "/claim/cut.py" 371],#[]⟩) ::
 (nat_lit 149,⟨.type "function",none,.func (PySem.W.fnOf "bit_of_word" "bit_of_word" (defArgs s_Z0) (defBody s_Z0) (defScope s_Z0) .none .none .none (.str "onceform.words" 363) none (.ref 148) .none),#[]⟩) ::
 (nat_lit 153,⟨.type "code",none,.fields #[.str "form_of_word" 373,.str "form_of_word" 374,.str "/claim/cut.py" 375,.int 82 0,.int 2 0,.int 0 0,.int 0 0,.int 3 0,.ref 150,.bool true,.int 181 0,.ref 151,.none,.none,.none,.ref 152,.int 376 0,.int 82 0,.str "/claim/cut.py" 377],#[]⟩) ::
 (nat_lit 154,⟨.type "function",none,.func (PySem.W.fnOf "form_of_word" "form_of_word" (defArgs s_Z10) (defBody s_Z10) (defScope s_Z10) .none .none .none (.str "onceform.words" 363) none (.ref 153) .none),#[]⟩) ::
 (nat_lit 160,⟨.type "code",none,.fields #[.str "joined" 379,.str "joined" 380,.str "/claim/cut.py" 381,.int 89 0,.int 3 0,.int 0 0,.int 0 0,.int 3 0,.ref 155,.bool true,.int 181 0,.ref 156,.none,.ref 157,.ref 158,.ref 159,.int 387 0,.int 89 0,.str "/claim/cut.py" 388],#[]⟩) ::
 (nat_lit 161,⟨.type "function",none,.func (PySem.W.fnOf "joined" "joined" (defArgs s_Z14) (defBody s_Z14) (defScope s_Z14) .none .none .none (.str "onceform.words" 363) none (.ref 160) .none),#[]⟩) ::
 (nat_lit 162,⟨.type "tuple",none,.seq #[.str "and" 394,.str "or" 395,.str "xor" 396] 0,#[]⟩) ::
 (nat_lit 163,⟨.type "tuple",none,.seq #[.str "not " 398,.str " and " 399,.str " or " 400,.str " xor " 401] 0,#[]⟩) ::
 (nat_lit 169,⟨.type "code",none,.fields #[.str "form_of_statement" 403,.str "form_of_statement" 404,.str "/claim/cut.py" 405,.int 99 0,.int 1 0,.int 0 0,.int 0 0,.int 3 0,.ref 164,.bool true,.int 181 0,.ref 165,.none,.ref 166,.ref 167,.ref 168,.int 411 0,.int 99 0,.str "/claim/cut.py" 412],#[]⟩) ::
 (nat_lit 170,⟨.type "function",none,.func (PySem.W.fnOf "form_of_statement" "form_of_statement" (defArgs s_Z8) (defBody s_Z8) (defScope s_Z8) .none .none .none (.str "onceform.statements" 390) none (.ref 169) .none),#[]⟩) ::
 (nat_lit 176,⟨.type "code",none,.fields #[.str "parts_of" 414,.str "parts_of" 415,.str "/claim/cut.py" 416,.int 113 0,.int 1 0,.int 0 0,.int 0 0,.int 3 0,.ref 171,.bool true,.int 181 0,.ref 172,.none,.ref 173,.ref 174,.ref 175,.int 421 0,.int 113 0,.str "/claim/cut.py" 422],#[]⟩) ::
 (nat_lit 177,⟨.type "function",none,.func (PySem.W.fnOf "parts_of" "parts_of" (defArgs s_Z31) (defBody s_Z31) (defScope s_Z31) .none .none .none (.str "onceform.statements" 390) none (.ref 176) .none),#[]⟩) ::
 (nat_lit 183,⟨.type "code",none,.fields #[.str "shown" 424,.str "shown" 425,.str "/claim/cut.py" 426,.int 122 0,.int 1 0,.int 0 0,.int 0 0,.int 3 0,.ref 178,.bool true,.int 181 0,.ref 179,.none,.ref 180,.ref 181,.ref 182,.int 429 0,.int 122 0,.str "/claim/cut.py" 430],#[]⟩) ::
 (nat_lit 184,⟨.type "function",none,.func (PySem.W.fnOf "shown" "shown" (defArgs s_Z35) (defBody s_Z35) (defScope s_Z35) .none .none .none (.str "onceform.statements" 390) none (.ref 183) .none),#[]⟩) ::
 (nat_lit 190,⟨.type "code",none,.fields #[.str "shown_part" 432,.str "shown_part" 433,.str "/claim/cut.py" 434,.int 131 0,.int 1 0,.int 0 0,.int 0 0,.int 3 0,.ref 185,.bool true,.int 181 0,.ref 186,.none,.ref 187,.ref 188,.ref 189,.int 436 0,.int 131 0,.str "/claim/cut.py" 437],#[]⟩) ::
 (nat_lit 191,⟨.type "function",none,.func (PySem.W.fnOf "shown_part" "shown_part" (defArgs s_Z36) (defBody s_Z36) (defScope s_Z36) .none .none .none (.str "onceform.statements" 390) none (.ref 190) .none),#[]⟩) ::
 (nat_lit 197,⟨.type "code",none,.fields #[.str "read" 439,.str "read" 440,.str "/claim/cut.py" 441,.int 135 0,.int 1 0,.int 0 0,.int 0 0,.int 3 0,.ref 192,.bool true,.int 181 0,.ref 193,.none,.ref 194,.ref 195,.ref 196,.int 446 0,.int 135 0,.str "/claim/cut.py" 447],#[]⟩) ::
 (nat_lit 198,⟨.type "function",none,.func (PySem.W.fnOf "read" "read" (defArgs s_Z33) (defBody s_Z33) (defScope s_Z33) .none .none .none (.str "onceform.statements" 390) none (.ref 197) .none),#[]⟩) ::
 (nat_lit 204,⟨.type "code",none,.fields #[.str "tokens_of" 449,.str "tokens_of" 450,.str "/claim/cut.py" 451,.int 149 0,.int 1 0,.int 0 0,.int 0 0,.int 3 0,.ref 199,.bool true,.int 181 0,.ref 200,.none,.ref 201,.ref 202,.ref 203,.int 456 0,.int 149 0,.str "/claim/cut.py" 457],#[]⟩) ::
 (nat_lit 205,⟨.type "function",none,.func (PySem.W.fnOf "tokens_of" "tokens_of" (defArgs s_Z40) (defBody s_Z40) (defScope s_Z40) .none .none .none (.str "onceform.statements" 390) none (.ref 204) .none),#[]⟩) ::
 (nat_lit 211,⟨.type "code",none,.fields #[.str "token_at" 459,.str "token_at" 460,.str "/claim/cut.py" 461,.int 157 0,.int 2 0,.int 0 0,.int 0 0,.int 3 0,.ref 206,.bool true,.int 181 0,.ref 207,.none,.ref 208,.ref 209,.ref 210,.int 465 0,.int 157 0,.str "/claim/cut.py" 466],#[]⟩) ::
 (nat_lit 212,⟨.type "function",none,.func (PySem.W.fnOf "token_at" "token_at" (defArgs s_Z39) (defBody s_Z39) (defScope s_Z39) .none .none .none (.str "onceform.statements" 390) none (.ref 211) .none),#[]⟩) ::
 (nat_lit 218,⟨.type "code",none,.fields #[.str "part_from" 468,.str "part_from" 469,.str "/claim/cut.py" 470,.int 162 0,.int 2 0,.int 0 0,.int 0 0,.int 3 0,.ref 213,.bool true,.int 181 0,.ref 214,.none,.ref 215,.ref 216,.ref 217,.int 474 0,.int 162 0,.str "/claim/cut.py" 475],#[]⟩) ::
 (nat_lit 219,⟨.type "function",none,.func (PySem.W.fnOf "part_from" "part_from" (defArgs s_Z30) (defBody s_Z30) (defScope s_Z30) .none .none .none (.str "onceform.statements" 390) none (.ref 218) .none),#[]⟩) ::
 (nat_lit 225,⟨.type "code",none,.fields #[.str "part_after" 477,.str "part_after" 478,.str "/claim/cut.py" 479,.int 172 0,.int 3 0,.int 0 0,.int 0 0,.int 3 0,.ref 220,.bool true,.int 181 0,.ref 221,.none,.ref 222,.ref 223,.ref 224,.int 484 0,.int 172 0,.str "/claim/cut.py" 485],#[]⟩) ::
 (nat_lit 226,⟨.type "function",none,.func (PySem.W.fnOf "part_after" "part_after" (defArgs s_Z29) (defBody s_Z29) (defScope s_Z29) .none .none .none (.str "onceform.statements" 390) none (.ref 225) .none),#[]⟩) ::
 (nat_lit 232,⟨.type "code",none,.fields #[.str "with_nots" 487,.str "with_nots" 488,.str "/claim/cut.py" 489,.int 186 0,.int 2 0,.int 0 0,.int 0 0,.int 3 0,.ref 227,.bool true,.int 181 0,.ref 228,.none,.ref 229,.ref 230,.ref 231,.int 492 0,.int 186 0,.str "/claim/cut.py" 493],#[]⟩) ::
 (nat_lit 233,⟨.type "function",none,.func (PySem.W.fnOf "with_nots" "with_nots" (defArgs s_Z46) (defBody s_Z46) (defScope s_Z46) .none .none .none (.str "onceform.statements" 390) none (.ref 232) .none),#[]⟩) ::
 (nat_lit 239,⟨.type "code",none,.fields #[.str "with_joining" 495,.str "with_joining" 496,.str "/claim/cut.py" 497,.int 190 0,.int 2 0,.int 0 0,.int 0 0,.int 3 0,.ref 234,.bool true,.int 181 0,.ref 235,.none,.ref 236,.ref 237,.ref 238,.int 500 0,.int 190 0,.str "/claim/cut.py" 501],#[]⟩) ::
 (nat_lit 240,⟨.type "function",none,.func (PySem.W.fnOf "with_joining" "with_joining" (defArgs s_Z45) (defBody s_Z45) (defScope s_Z45) .none .none .none (.str "onceform.statements" 390) none (.ref 239) .none),#[]⟩) ::
 (nat_lit 244,⟨.type "code",none,.fields #[.str "without" 505,.str "without" 506,.str "/claim/cut.py" 507,.int 195 0,.int 2 0,.int 0 0,.int 0 0,.int 3 0,.ref 241,.bool true,.int 181 0,.ref 242,.none,.none,.none,.ref 243,.int 508 0,.int 195 0,.str "/claim/cut.py" 509],#[]⟩) ::
 (nat_lit 245,⟨.type "function",none,.func (PySem.W.fnOf "without" "without" (defArgs s_Z47) (defBody s_Z47) (defScope s_Z47) .none .none .none (.str "onceform.changes" 503) none (.ref 244) .none),#[]⟩) ::
 (nat_lit 249,⟨.type "code",none,.fields #[.str "freed" 511,.str "freed" 512,.str "/claim/cut.py" 513,.int 197 0,.int 2 0,.int 0 0,.int 0 0,.int 3 0,.ref 246,.bool true,.int 181 0,.ref 247,.none,.none,.none,.ref 248,.int 514 0,.int 197 0,.str "/claim/cut.py" 515],#[]⟩) ::
 (nat_lit 250,⟨.type "function",none,.func (PySem.W.fnOf "freed" "freed" (defArgs s_Z11) (defBody s_Z11) (defScope s_Z11) .none .none .none (.str "onceform.changes" 503) none (.ref 249) .none),#[]⟩) ::
 (nat_lit 256,⟨.type "code",none,.fields #[.str "fixed" 517,.str "fixed" 518,.str "/claim/cut.py" 519,.int 199 0,.int 3 0,.int 0 0,.int 0 0,.int 3 0,.ref 251,.bool true,.int 181 0,.ref 252,.none,.ref 253,.ref 254,.ref 255,.int 524 0,.int 199 0,.str "/claim/cut.py" 525],#[]⟩) ::
 (nat_lit 257,⟨.type "function",none,.func (PySem.W.fnOf "fixed" "fixed" (defArgs s_Z4) (defBody s_Z4) (defScope s_Z4) .none .none .none (.str "onceform.changes" 503) none (.ref 256) .none),#[]⟩) ::
 (nat_lit 263,⟨.type "code",none,.fields #[.str "ways" 529,.str "ways" 530,.str "/claim/cut.py" 531,.int 205 0,.int 2 0,.int 0 0,.int 0 0,.int 3 0,.ref 258,.bool true,.int 181 0,.ref 259,.none,.ref 260,.ref 261,.ref 262,.int 534 0,.int 205 0,.str "/claim/cut.py" 535],#[]⟩) ::
 (nat_lit 264,⟨.type "function",none,.func (PySem.W.fnOf "ways" "ways" (defArgs s_Z43) (defBody s_Z43) (defScope s_Z43) .none .none .none (.str "onceform.trees" 527) none (.ref 263) .none),#[]⟩) ::
 (nat_lit 270,⟨.type "code",none,.fields #[.str "tree_of" 537,.str "tree_of" 538,.str "/claim/cut.py" 539,.int 207 0,.int 1 0,.int 0 0,.int 0 0,.int 3 0,.ref 265,.bool true,.int 181 0,.ref 266,.none,.ref 267,.ref 268,.ref 269,.int 543 0,.int 207 0,.str "/claim/cut.py" 544],#[]⟩) ::
 (nat_lit 271,⟨.type "function",none,.func (PySem.W.fnOf "tree_of" "tree_of" (defArgs s_Z41) (defBody s_Z41) (defScope s_Z41) .none .none .none (.str "onceform.trees" 527) none (.ref 270) .none),#[]⟩) ::
 (nat_lit 277,⟨.type "code",none,.fields #[.str "form_of_tree" 546,.str "form_of_tree" 547,.str "/claim/cut.py" 548,.int 213 0,.int 1 0,.int 0 0,.int 0 0,.int 3 0,.ref 272,.bool true,.int 181 0,.ref 273,.none,.ref 274,.ref 275,.ref 276,.int 550 0,.int 213 0,.str "/claim/cut.py" 551],#[]⟩) ::
 (nat_lit 278,⟨.type "function",none,.func (PySem.W.fnOf "form_of_tree" "form_of_tree" (defArgs s_Z9) (defBody s_Z9) (defScope s_Z9) .none .none .none (.str "onceform.trees" 527) none (.ref 277) .none),#[]⟩) ::
 (nat_lit 284,⟨.type "code",none,.fields #[.str "form_below" 553,.str "form_below" 554,.str "/claim/cut.py" 555,.int 215 0,.int 3 0,.int 0 0,.int 0 0,.int 3 0,.ref 279,.bool true,.int 181 0,.ref 280,.none,.ref 281,.ref 282,.ref 283,.int 560 0,.int 215 0,.str "/claim/cut.py" 561],#[]⟩) ::
 (nat_lit 285,⟨.type "function",none,.func (PySem.W.fnOf "form_below" "form_below" (defArgs s_Z5) (defBody s_Z5) (defScope s_Z5) .none .none .none (.str "onceform.trees" 527) none (.ref 284) .none),#[]⟩) ::
 (nat_lit 291,⟨.type "code",none,.fields #[.str "chosen" 563,.str "chosen" 564,.str "/claim/cut.py" 565,.int 224 0,.int 3 0,.int 0 0,.int 0 0,.int 3 0,.ref 286,.bool true,.int 181 0,.ref 287,.none,.ref 288,.ref 289,.ref 290,.int 572 0,.int 224 0,.str "/claim/cut.py" 573],#[]⟩) ::
 (nat_lit 292,⟨.type "function",none,.func (PySem.W.fnOf "chosen" "chosen" (defArgs s_Z2) (defBody s_Z2) (defScope s_Z2) .none .none .none (.str "onceform.trees" 527) none (.ref 291) .none),#[]⟩) ::
 (nat_lit 298,⟨.type "code",none,.fields #[.str "_law_at" 577,.str "_law_at" 578,.str "/claim/cut.py" 579,.int 232 0,.int 2 0,.int 0 0,.int 0 0,.int 3 0,.ref 293,.bool true,.int 181 0,.ref 294,.none,.ref 295,.ref 296,.ref 297,.int 582 0,.int 232 0,.str "/claim/cut.py" 583],#[]⟩) ::
 (nat_lit 299,⟨.type "function",none,.func (PySem.W.fnOf "_law_at" "_law_at" (defArgs s_Z15) (defBody s_Z15) (defScope s_Z15) .none .none .none (.str "law_onceform_k31_whole_statements" 575) none (.ref 298) .none),#[]⟩) ::
 (nat_lit 305,⟨.type "code",none,.fields #[.str "_law_mixed" 585,.str "_law_mixed" 586,.str "/claim/cut.py" 587,.int 236 0,.int 2 0,.int 0 0,.int 0 0,.int 3 0,.ref 300,.bool true,.int 181 0,.ref 301,.none,.ref 302,.ref 303,.ref 304,.int 591 0,.int 236 0,.str "/claim/cut.py" 592],#[]⟩) ::
 (nat_lit 306,⟨.type "function",none,.func (PySem.W.fnOf "_law_mixed" "_law_mixed" (defArgs s_Z20) (defBody s_Z20) (defScope s_Z20) .none .none .none (.str "law_onceform_k31_whole_statements" 575) none (.ref 305) .none),#[]⟩) ::
 (nat_lit 312,⟨.type "code",none,.fields #[.str "_law_statement" 594,.str "_law_statement" 595,.str "/claim/cut.py" 596,.int 240 0,.int 2 0,.int 0 0,.int 0 0,.int 3 0,.ref 307,.bool true,.int 181 0,.ref 308,.none,.ref 309,.ref 310,.ref 311,.int 603 0,.int 240 0,.str "/claim/cut.py" 604],#[]⟩) ::
 (nat_lit 313,⟨.type "function",none,.func (PySem.W.fnOf "_law_statement" "_law_statement" (defArgs s_Z22) (defBody s_Z22) (defScope s_Z22) .none .none .none (.str "law_onceform_k31_whole_statements" 575) none (.ref 312) .none),#[]⟩) ::
 (nat_lit 326,⟨.type "code",none,.fields #[.str "_law_holds_at" 617,.str "_law_holds_at" 618,.str "/claim/cut.py" 619,.int 268 0,.int 2 0,.int 0 0,.int 0 0,.int 3 0,.ref 321,.bool true,.int 181 0,.ref 322,.none,.ref 323,.ref 324,.ref 325,.int 624 0,.int 268 0,.str "/claim/cut.py" 625],#[]⟩) ::
 (nat_lit 327,⟨.type "function",none,.func (PySem.W.fnOf "_law_holds_at" "_law_holds_at" (defArgs s_Z18) (defBody s_Z18) (defScope s_Z18) .none .none .none (.str "law_onceform_k31_whole_statements" 575) none (.ref 326) .none),#[]⟩) ::
 (nat_lit 331,⟨.type "code",none,.fields #[.str "_law_spread" 627,.str "_law_spread" 628,.str "/claim/cut.py" 629,.int 282 0,.int 2 0,.int 0 0,.int 0 0,.int 3 0,.ref 328,.bool true,.int 181 0,.ref 329,.none,.none,.none,.ref 330,.int 630 0,.int 282 0,.str "/claim/cut.py" 631],#[]⟩) ::
 (nat_lit 332,⟨.type "function",none,.func (PySem.W.fnOf "_law_spread" "_law_spread" (defArgs s_Z21) (defBody s_Z21) (defScope s_Z21) .none .none .none (.str "law_onceform_k31_whole_statements" 575) none (.ref 331) .none),#[]⟩) ::
 (nat_lit 338,⟨.type "code",none,.fields #[.str "_law_folded" 633,.str "_law_folded" 634,.str "/claim/cut.py" 635,.int 284 0,.int 3 0,.int 0 0,.int 0 0,.int 3 0,.ref 333,.bool true,.int 181 0,.ref 334,.none,.ref 335,.ref 336,.ref 337,.int 644 0,.int 284 0,.str "/claim/cut.py" 645],#[]⟩) ::
 (nat_lit 339,⟨.type "function",none,.func (PySem.W.fnOf "_law_folded" "_law_folded" (defArgs s_Z17) (defBody s_Z17) (defScope s_Z17) .none .none .none (.str "law_onceform_k31_whole_statements" 575) none (.ref 338) .none),#[]⟩) ::
 (nat_lit 345,⟨.type "code",none,.fields #[.str "_law_few_letters" 647,.str "_law_few_letters" 648,.str "/claim/cut.py" 649,.int 293 0,.int 3 0,.int 0 0,.int 0 0,.int 3 0,.ref 340,.bool true,.int 181 0,.ref 341,.none,.ref 342,.ref 343,.ref 344,.int 656 0,.int 293 0,.str "/claim/cut.py" 657],#[]⟩) ::
 (nat_lit 346,⟨.type "function",none,.func (PySem.W.fnOf "_law_few_letters" "_law_few_letters" (defArgs s_Z16) (defBody s_Z16) (defScope s_Z16) .none .none .none (.str "law_onceform_k31_whole_statements" 575) none (.ref 345) .none),#[]⟩) ::
 (nat_lit 352,⟨.type "code",none,.fields #[.str "_law_turned" 659,.str "_law_turned" 660,.str "/claim/cut.py" 661,.int 301 0,.int 1 0,.int 0 0,.int 0 0,.int 3 0,.ref 347,.bool true,.int 181 0,.ref 348,.none,.ref 349,.ref 350,.ref 351,.int 663 0,.int 301 0,.str "/claim/cut.py" 664],#[]⟩) ::
 (nat_lit 353,⟨.type "function",none,.func (PySem.W.fnOf "_law_turned" "_law_turned" (defArgs s_Z24) (defBody s_Z24) (defScope s_Z24) .none .none .none (.str "law_onceform_k31_whole_statements" 575) none (.ref 352) .none),#[]⟩) ::
 (nat_lit 357,⟨.type "code",none,.fields #[.str "_law_told" 666,.str "_law_told" 667,.str "/claim/cut.py" 668,.int 307 0,.int 2 0,.int 0 0,.int 0 0,.int 3 0,.ref 354,.bool true,.int 181 0,.ref 355,.none,.none,.none,.ref 356,.int 669 0,.int 307 0,.str "/claim/cut.py" 670],#[]⟩) ::
 (nat_lit 358,⟨.type "function",none,.func (PySem.W.fnOf "_law_told" "_law_told" (defArgs s_Z23) (defBody s_Z23) (defScope s_Z23) .none .none .none (.str "law_onceform_k31_whole_statements" 575) none (.ref 357) .none),#[]⟩) ::
 (nat_lit 362,⟨.type "code",none,.fields #[.str "law" 672,.str "law" 673,.str "/claim/cut.py" 674,.int 309 0,.int 1 0,.int 0 0,.int 0 0,.int 3 0,.ref 359,.bool true,.int 181 0,.ref 360,.none,.none,.none,.ref 361,.int 675 0,.int 309 0,.str "/claim/cut.py" 676],#[]⟩) ::
 (nat_lit 363,⟨.type "function",none,.func (PySem.W.fnOf "law" "law" (defArgs s_law) (defBody s_law) (defScope s_law) .none .none .none (.str "law_onceform_k31_whole_statements" 575) none (.ref 362) .none),#[]⟩) ::
 []
noncomputable abbrev Q : Program := PySem.W.view PySem.Challenge.rw_onceform_k31_whole_statements.row.toRowW.prog [1, 2, 3, 5, 6, 8, 9, 10, 11, 12, 13, 14, 15, 17, 18, 19, 20, 21, 22, 24, 25, 26, 28, 29, 30, 31, 32, 33, 34, 35, 36, 37, 38, 39, 40, 41, 43, 44, 45, 47, 48, 49, 50, 51, 53, 54, 55, 56, 57, 58, 59, 60, 61, 62, 63]
theorem as_is (P:Params):[3,20,21,27,28,32,33,62,63,69,70,76,77,83,84,90,91,95,96,100,101,107,108,112,113,117,118,124,125,129,130,134,135,141,142,148,149,153,154,160,161,162,163,169,170,176,177,183,184,190,191,197,198,204,205,211,212,218,219,225,226,232,233,239,240,244,245,249,250,256,257,263,264,270,271,277,278,284,285,291,292,298,299,305,306,312,313,326,327,331,332,338,339,345,346,352,353,357,358,362,363]=(K P).map (·.1):=by kernel_rfl
noncomputable abbrev Hk:PySem.W.Hook:=PySem.W.kHook K [3,20,21,27,28,32,33,62,63,69,70,76,77,83,84,90,91,95,96,100,101,107,108,112,113,117,118,124,125,129,130,134,135,141,142,148,149,153,154,160,161,162,163,169,170,176,177,183,184,190,191,197,198,204,205,211,212,218,219,225,226,232,233,239,240,244,245,249,250,256,257,263,264,270,271,277,278,284,285,291,292,298,299,305,306,312,313,326,327,331,332,338,339,345,346,352,353,357,358,362,363] as_is
noncomputable abbrev Xq : Shared → Bool := fun s => PySem.W.xlAt Q [] s && PySem.W.recOk (PySem.W.RowW.records PySem.Challenge.rw_onceform_k31_whole_statements.row.toRowW) s
set_option maxHeartbeats 0 in
theorem left : PySem.W.LeftO PySem.Challenge.rw_onceform_k31_whole_statements.row.toRowW.prog Q [] Xq Hk.obs Hk.val 4158 := OH.left (by kernel_rfl) (by decide) (fun s => by kernel_rfl) (fun w => by kernel_rfl)
set_option maxHeartbeats 0 in
theorem said : PySem.Challenge.rw_onceform_k31_whole_statements.wellSaid = true := (congrFun PySem.W.Fast.te9446332074065402090 _).trans (by kernel_rfl)
theorem walk {l:PySem.W.OpenLaw}{q:Program}{loose:List Str}{XP:(Str→Option Value)→Heap→Prop}{YP:World→Heap→Prop}{d:DefRec}{K:Params→PySem.W.Frag} (hn:l.most=some 63) (hdf:d.params.defaults=[])
  (hY:∀ (w:World) (h:Heap),YP w h→(K w.params).In h)
  (F:∀ (w:World) (mg:Str→Option Value) (fa:Addr) (h:Heap),(K w.params).In h→h.Ns mainGlobals mg→mg d.name=some (.ref fa) →
   ∃ fd:FuncData,(∀ (s:Shared) (u:Value),BindsTo s fd ⟨[u],[]⟩ [("_law_script",u)])∧∀ base:Heap,(K w.params).In base→base.Ns mainGlobals mg→FnOk l.prog w (K w.params) mg base CX0 102 fa fd ["_law_script"] (spLaw (K w.params))) :
  PySem.W.WalkO q loose XP YP l.row.toRowW d [] (fun f vs=>PySem.call f vs) :=
 L2.walk_ofB (n:=63) (k:=102) (x := "_law_script") (CX:=fun _=>CX0) (sp:=fun w=>spLaw (K w.params)) hn (by decide) hdf ⟨rfl,by decide,by decide⟩ hY F (fun _ _ a ns hl hb _ hS=>⟨a,ns,rfl,hS,hl,hb,fun _=>rfl⟩) fun _ _ _ _ _ z=>z
end My
open PySem PySem.W PyProof.Rows
set_option maxRecDepth 100000 in
set_option maxHeartbeats 0 in
theorem PySem.Challenge.cw_onceform_k31_whole_statements_holds : PySem.Challenge.rw_onceform_k31_whole_statements.Holds := by
 w_on
 refine PySem.W.holds_law My.said fun said=>?_
 refine PySem.W.holds_open (q:=My.Q) (loose:=[]) (Xt:=My.Xq) (XP:=PySem.W.XL My.Q []) (Yf:=My.Hk.obs) (Ya:=My.Hk.val) (YP:=PySem.W.InK My.K) (N:=4158) (d:=⟨"law",L2.defArgs My.s_law,L2.defBody My.s_law,L2.defScope My.s_law,My.defPos My.s_law⟩) (kwd:=[]) My.left My.Hk.of My.Hk.keeps
  (fun s e=>PySem.W.xl_of s (Bool.and_eq_true_iff.mp e).1) PySem.W.XL.keeps (by kernel_rfl) (by kernel_rfl) (by kernel_rfl) (fun s e=>PySem.W.recFacts_of (Bool.and_eq_true_iff.mp e).2) (by kernel_rfl) said (by decide +kernel) ⟨rfl,rfl,rfl,rfl,rfl,by decide +kernel⟩ ?hw ?hc
 case hw=>w_witness2
 k_fill
 refine My.walk (K := My.K) (l := PySem.Challenge.rw_onceform_k31_whole_statements) rfl rfl (fun w h Y => Y) ?F
 case F =>
  intro w mg fa h KX G hmg;refine' My.all_mk KX G hmg ?a0 ?l0 ?c0 ?k0 ?a1 ?l1 ?c1 ?k1 ?a2 ?l2 ?c2 ?k2 ?a3 ?l3 ?c3 ?k3 ?a4 ?l4 ?c4 ?k4 ?a5 ?l5 ?c5 ?k5 ?a6 ?l6 ?c6 ?k6 ?a7 ?l7 ?c7 ?k7 ?a8 ?l8 ?c8 ?k8 ?a9 ?l9 ?c9 ?k9 ?a10 ?l10 ?c10 ?k10 ?a11 ?l11 ?c11 ?k11 ?a12 ?l12 ?c12 ?k12 ?a13 ?l13 ?c13 ?k13 ?a14 ?l14 ?c14 ?k14 ?a15 ?l15 ?c15 ?k15 ?a16 ?l16 ?c16 ?k16 ?a17 ?l17 ?c17 ?k17 ?a18 ?l18 ?c18 ?k18 ?a19 ?l19 ?c19 ?k19 ?a20 ?l20 ?c20 ?k20 ?a21 ?l21 ?c21 ?k21 ?a22 ?l22 ?c22 ?k22 ?a23 ?l23 ?c23 ?k23 ?a24 ?l24 ?c24 ?k24 ?a25 ?l25 ?c25 ?k25 ?a26 ?l26 ?c26 ?k26 ?a27 ?l27 ?c27 ?k27 ?a28 ?l28 ?c28 ?k28 ?a29 ?l29 ?c29 ?k29 ?a30 ?l30 ?c30 ?k30 ?a31 ?l31 ?c31 ?k31 ?a32 ?l32 ?c32 ?k32 ?a33 ?l33 ?c33 ?k33 ?a34 ?l34 ?c34 ?k34 ?a35 ?l35 ?c35 ?k35 ?a36 ?l36 ?c36 ?k36 ?a37 ?l37 ?c37 ?k37 ?a38 ?l38 ?c38 ?k38 ?a39 ?l39 ?c39 ?k39 ?a40 ?l40 ?c40 ?k40 ?a41 ?l41 ?c41 ?k41 ?a42 ?l42 ?c42 ?k42 ?a43 ?l43 ?c43 ?k43 ?a44 ?l44 ?c44 ?k44 ?a45 ?l45 ?c45 ?k45 ?a46 ?l46 ?c46 ?k46 ?a47 ?l47 ?c47 ?k47 ?aL ?lL ?cL ?kL ?z_dict ?z_enumerate ?z_int ?z_isinstance ?z_len ?z_range ?z_reversed ?z_sorted ?z_str ?z_sum ?z_tuple ?z_zip ?g_JOINING ?h_JOINING ?g_SPACED ?h_SPACED ?g_LETTERS
  (case a0=>k_is)
  (case l0=>k_is)
  (case c0=>k_is)
  (case k0=>k_is)
  (case a1=>k_is)
  (case l1=>k_is)
  (case c1=>k_is)
  (case k1=>k_is)
  (case a2=>k_is)
  (case l2=>k_is)
  (case c2=>k_is)
  (case k2=>k_is)
  (case a3=>k_is)
  (case l3=>k_is)
  (case c3=>k_is)
  (case k3=>k_is)
  (case a4=>k_is)
  (case l4=>k_is)
  (case c4=>k_is)
  (case k4=>k_is)
  (case a5=>k_is)
  (case l5=>k_is)
  (case c5=>k_is)
  (case k5=>k_is)
  (case a6=>k_is)
  (case l6=>k_is)
  (case c6=>k_is)
  (case k6=>k_is)
  (case a7=>k_is)
  (case l7=>k_is)
  (case c7=>k_is)
  (case k7=>k_is)
  (case a8=>k_is)
  (case l8=>k_is)
  (case c8=>k_is)
  (case k8=>k_is)
  (case a9=>k_is)
  (case l9=>k_is)
  (case c9=>k_is)
  (case k9=>k_is)
  (case a10=>k_is)
  (case l10=>k_is)
  (case c10=>k_is)
  (case k10=>k_is)
  (case a11=>k_is)
  (case l11=>k_is)
  (case c11=>k_is)
  (case k11=>k_is)
  (case a12=>k_is)
  (case l12=>k_is)
  (case c12=>k_is)
  (case k12=>k_is)
  (case a13=>k_is)
  (case l13=>k_is)
  (case c13=>k_is)
  (case k13=>k_is)
  (case a14=>k_is)
  (case l14=>k_is)
  (case c14=>k_is)
  (case k14=>k_is)
  (case a15=>k_is)
  (case l15=>k_is)
  (case c15=>k_is)
  (case k15=>k_is)
  (case a16=>k_is)
  (case l16=>k_is)
  (case c16=>k_is)
  (case k16=>k_is)
  (case a17=>k_is)
  (case l17=>k_is)
  (case c17=>k_is)
  (case k17=>k_is)
  (case a18=>k_is)
  (case l18=>k_is)
  (case c18=>k_is)
  (case k18=>k_is)
  (case a19=>k_is)
  (case l19=>k_is)
  (case c19=>k_is)
  (case k19=>k_is)
  (case a20=>k_is)
  (case l20=>k_is)
  (case c20=>k_is)
  (case k20=>k_is)
  (case a21=>k_is)
  (case l21=>k_is)
  (case c21=>k_is)
  (case k21=>k_is)
  (case a22=>k_is)
  (case l22=>k_is)
  (case c22=>k_is)
  (case k22=>k_is)
  (case a23=>k_is)
  (case l23=>k_is)
  (case c23=>k_is)
  (case k23=>k_is)
  (case a24=>k_is)
  (case l24=>k_is)
  (case c24=>k_is)
  (case k24=>k_is)
  (case a25=>k_is)
  (case l25=>k_is)
  (case c25=>k_is)
  (case k25=>k_is)
  (case a26=>k_is)
  (case l26=>k_is)
  (case c26=>k_is)
  (case k26=>k_is)
  (case a27=>k_is)
  (case l27=>k_is)
  (case c27=>k_is)
  (case k27=>k_is)
  (case a28=>k_is)
  (case l28=>k_is)
  (case c28=>k_is)
  (case k28=>k_is)
  (case a29=>k_is)
  (case l29=>k_is)
  (case c29=>k_is)
  (case k29=>k_is)
  (case a30=>k_is)
  (case l30=>k_is)
  (case c30=>k_is)
  (case k30=>k_is)
  (case a31=>k_is)
  (case l31=>k_is)
  (case c31=>k_is)
  (case k31=>k_is)
  (case a32=>k_is)
  (case l32=>k_is)
  (case c32=>k_is)
  (case k32=>k_is)
  (case a33=>k_is)
  (case l33=>k_is)
  (case c33=>k_is)
  (case k33=>k_is)
  (case a34=>k_is)
  (case l34=>k_is)
  (case c34=>k_is)
  (case k34=>k_is)
  (case a35=>k_is)
  (case l35=>k_is)
  (case c35=>k_is)
  (case k35=>k_is)
  (case a36=>k_is)
  (case l36=>k_is)
  (case c36=>k_is)
  (case k36=>k_is)
  (case a37=>k_is)
  (case l37=>k_is)
  (case c37=>k_is)
  (case k37=>k_is)
  (case a38=>k_is)
  (case l38=>k_is)
  (case c38=>k_is)
  (case k38=>k_is)
  (case a39=>k_is)
  (case l39=>k_is)
  (case c39=>k_is)
  (case k39=>k_is)
  (case a40=>k_is)
  (case l40=>k_is)
  (case c40=>k_is)
  (case k40=>k_is)
  (case a41=>k_is)
  (case l41=>k_is)
  (case c41=>k_is)
  (case k41=>k_is)
  (case a42=>k_is)
  (case l42=>k_is)
  (case c42=>k_is)
  (case k42=>k_is)
  (case a43=>k_is)
  (case l43=>k_is)
  (case c43=>k_is)
  (case k43=>k_is)
  (case a44=>k_is)
  (case l44=>k_is)
  (case c44=>k_is)
  (case k44=>k_is)
  (case a45=>k_is)
  (case l45=>k_is)
  (case c45=>k_is)
  (case k45=>k_is)
  (case a46=>k_is)
  (case l46=>k_is)
  (case c46=>k_is)
  (case k46=>k_is)
  (case a47=>k_is)
  (case l47=>k_is)
  (case c47=>k_is)
  (case k47=>k_is)
  (case aL=>k_is)
  (case lL=>k_is)
  (case cL=>k_is)
  (case kL=>k_is)
  (case z_dict=>k_is)
  (case z_enumerate=>k_is)
  (case z_int=>k_is)
  (case z_isinstance=>k_is)
  (case z_len=>k_is)
  (case z_range=>k_is)
  (case z_reversed=>k_is)
  (case z_sorted=>k_is)
  (case z_str=>k_is)
  (case z_sum=>k_is)
  (case z_tuple=>k_is)
  (case z_zip=>k_is)
  (case g_JOINING=>k_is)
  (case h_JOINING=>k_is)
  (case g_SPACED=>k_is)
  (case h_SPACED=>k_is)
  (case g_LETTERS=>k_is)
#print axioms PySem.Challenge.cw_onceform_k31_whole_statements_holds
