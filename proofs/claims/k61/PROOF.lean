import PyProof.Rows.All
import Wide.All
import OpenK.AllK
import Wide.FinOn
import Lean
import PyProof.EqAt
import PyProof.EqKinds
import PyProof.TupleCall
import PyProof.NeKinds
import PyProof.WalksEnum
import PyProof.EnumMake
import PyProof.AttrMissHeap
import KE.KDictOf
import PyProof.ListNew
import PyProof.ZipIter
import PyProof.Rows.ZipGen
import KE.KIntText
import PyProof.StrLawsTight
import KE.KRevIter
import KE.KDictList
import KE.KEqDict
import PyProof.DictCopy
import KE.KSortTup
import PySem.Challenge.RW_onceform_k61_products_told
set_option Elab.async false
set_option linter.all false
set_option maxRecDepth 100000
set_option maxHeartbeats 4000000
namespace L2
open PySem PySem.Spec PyProof.Rows
abbrev Key:=Sum Int Str
def keyIs:Key→Value→Bool
  | .inl k,v=>Value.isInt k v
  | .inr x,v=>Value.isStrOf x v
def keyH (w:World) : Key→Int
  | .inl k=>hashInt k
  | .inr x=>hashStr w x
theorem keyIs_shape:∀ {k:Key}{v:Value},keyIs k v=true→(∃ i t,k=Sum.inl i∧v=Value.int i t)∨(∃ x t,k=Sum.inr x∧v=Value.str x t)
  | .inl i,v,h=>by
    obtain ⟨t,e⟩:=Value.isInt_shape (k:=i) (v:=v) h
    exact .inl ⟨i,t,rfl,e⟩
  | .inr x,v,h=>by
    obtain ⟨t,e⟩:=Value.isStrOf_shape (x:=x) (v:=v) h
    exact .inr ⟨x,t,rfl,e⟩
theorem keyIs_int (i:Int) (t:Tok) : keyIs (.inl i) (.int i t)=true:=by simp [keyIs,Value.isInt]
theorem keyIs_str (x:Str) (t:Tok) : keyIs (.inr x) (.str x t)=true:=by simp [keyIs,Value.isStrOf]
theorem key_ll (a b:Int) : decide ((Sum.inl a:Key)=Sum.inl b)=(a == b):=by
  by_cases e:a=b
  · subst e;simp
  · have h : ¬ (Sum.inl a:Key)=Sum.inl b:=fun q=>e (Sum.inl.inj q)
    rw [decide_eq_false h]
    exact (beq_eq_false_iff_ne.mpr e).symm
theorem key_rr (a b:Str) : decide ((Sum.inr a:Key)=Sum.inr b)=decide (a=b):=by
  by_cases e:a=b
  · subst e;simp
  · have h : ¬ (Sum.inr a:Key)=Sum.inr b:=fun q=>e (Sum.inr.inj q)
    rw [decide_eq_false h,decide_eq_false e]
theorem key_lr (a:Int) (b:Str) : decide ((Sum.inl a:Key)=Sum.inr b)=false:=decide_eq_false (fun q=>nomatch q)
theorem key_rl (a:Str) (b:Int) : decide ((Sum.inr a:Key)=Sum.inl b)=false:=decide_eq_false (fun q=>nomatch q)
def mixKind (prog:Program) (w:World) : PySem.KeyKind prog w Key where
  is:=keyIs
  hash:=keyH w
  inj:=fun v a b ha hb=>by
    rcases keyIs_shape ha with ⟨i,t,rfl,rfl⟩ | ⟨x,t,rfl,rfl⟩
    · rcases keyIs_shape hb with ⟨j,u,rfl,e⟩ | ⟨y,u,rfl,e⟩
      · injection e with e1 _;rw [e1]
      · exact nomatch e
    · rcases keyIs_shape hb with ⟨j,u,rfl,e⟩ | ⟨y,u,rfl,e⟩
      · exact nomatch e
      · injection e with e1 _;rw [e1]
  byValue:=fun k v h=>by
    rcases keyIs_shape h with ⟨i,t,rfl,rfl⟩ | ⟨x,t,rfl,rfl⟩ <;> rfl
  pyHash:=fun hv h=>by
    rcases keyIs_shape hv with ⟨i,t,rfl,rfl⟩ | ⟨x,t,rfl,rfl⟩
    · exact wpAny_pyHash_int h
    · exact wpAny_pyHash_str h
  eqBool:=fun hu hv h=>by
    rcases keyIs_shape hu with ⟨i,t,rfl,rfl⟩ | ⟨x,t,rfl,rfl⟩
    · rcases keyIs_shape hv with ⟨j,u,rfl,rfl⟩ | ⟨y,u,rfl,rfl⟩
      · rw [key_ll] at h;exact wpAny_eqBool_int h
      · rw [key_lr] at h;exact SeqAt.EqAt.int_str i t y u _ _ _ _ h
    · rcases keyIs_shape hv with ⟨j,u,rfl,rfl⟩ | ⟨y,u,rfl,rfl⟩
      · rw [key_rl] at h;exact SeqAt.EqAt.str_int x t j u _ _ _ _ h
      · rw [key_rr] at h;exact wpAny_eqBool_str h
  «strs» := fun k x t v h=>by
    rcases keyIs_shape h with ⟨i,u,rfl,e⟩ | ⟨y,u,rfl,e⟩
    · exact nomatch e
    · injection e with e1 _
      subst e1
      cases v <;> rfl
theorem mixKind_int (prog:Program) (w:World) (i:Int) (t:Tok) : (mixKind prog w).is (.inl i) (.int i t)=true:=keyIs_int i t
theorem mixKind_str (prog:Program) (w:World) (x:Str) (t:Tok) : (mixKind prog w).is (.inr x) (.str x t)=true:=keyIs_str x t
end L2
namespace L2
open PySem PySem.Spec PyProof.Rows
inductive V where
  | non | bl (b:Bool) | int (i:Int) | str (x:Str) | byt (b:Array UInt8) | flt (b:UInt64) | ref (a:Addr) | ty (n:String)
  deriving DecidableEq
def RelV:V→Value→Prop
  | .non,u=>u=Value.none
  | .bl b,u=>u=Value.bool b
  | .int i,u => ∃ t,u=Value.int i t
  | .str x,u => ∃ t,u=Value.str x t
  | .byt b,u => ∃ t,u=Value.bytes b t
  | .flt b,u => ∃ t,u=Value.float b t
  | .ref a,u=>u=Value.ref a
  | .ty n,u=>u=Value.type n
abbrev Vals:List V→List Value→Prop:=Paired RelV
theorem Vals.length {xs:List V}{us:List Value} (r:Vals xs us) : xs.length=us.length:=Paired.length r
theorem Vals.get:∀ {xs:List V}{us:List Value}{i:Nat}{x:V},Vals xs us→xs[i]? = some x→∃ u,us[i]? = some u∧RelV x u
  | _,_,_,_,.nil,e=>by simp at e
  | _,_,0,_,.cons r _,e=>by simp at e;subst e;exact ⟨_,rfl,r⟩
  | _,_,i+1,x,.cons _ t,e=>by
    obtain ⟨u,h1,h2⟩:=Vals.get (i:=i) (x:=x) t (by simpa using e)
    exact ⟨u,by simpa using h1,h2⟩
theorem Vals.append:∀ {xs ys:List V}{us ws:List Value},Vals xs us→Vals ys ws→Vals (xs++ys) (us++ws)
  | _,_,_,_,.nil,s=>s
  | _,_,_,_,.cons r t,s => .cons r (Vals.append t s)
theorem Vals.take:∀ {xs:List V}{us:List Value} (n:Nat),Vals xs us→Vals (xs.take n) (us.take n)
  | _,_,0,_ => .nil
  | _,_,_+1,.nil => .nil
  | _,_,n+1,.cons r t => .cons r (Vals.take n t)
theorem Vals.drop:∀ {xs:List V}{us:List Value} (n:Nat),Vals xs us→Vals (xs.drop n) (us.drop n)
  | _,_,0,r=>r
  | _,_,_+1,.nil => .nil
  | _,_,n+1,.cons _ t=>Vals.drop n t
def RelO:Option V→Option Value→Prop
  | some v,some u=>RelV v u
  | none,none=>True
  | _,_=>False
def KV {κ : Type} : List (κ × V)→List (κ × Value)→Prop:=Paired fun (p : κ × V) (q : κ × Value)=>p.1=q.1∧RelV p.2 q.2
def kV:Key→V
  | .inl i => .int i
  | .inr x => .str x
inductive HO where
    | lst (xs:List V)
    | tup (xs:List V)
    | dK (kvs:List (Key × V)) | dT (kvs:List (List Key × V))
    | set (S:Int→Bool) (n:Nat)
    | ins (C dx:Addr) (fs:List (Str × V))
    | own (x:Addr)
    | xd (fs:List (Str × V))
    | met (f x:Addr)
    | rng (lo hi:Int)
    | frz (o:Obj) (u:HO)
    | tbl (ps:Array Value)
    | ext (φ : Heap→Prop)
abbrev Hp:=Addr→Option HO
def upd (H:Hp) (a:Addr) (o:HO) : Hp:=fun b=>if b=a then some o else H b
theorem upd_same {H:Hp}{a:Addr}{o:HO} : upd H a o a=some o:=by unfold upd;rw [if_pos rfl]
theorem upd_ne {H:Hp}{a b:Addr}{o:HO} (h:b≠a) : upd H a o b=H b:=by unfold upd;rw [if_neg h]
theorem upd_upd {H:Hp}{a:Addr}{o u:HO} : upd (upd H a o) a u=upd H a u:=by
  funext b;unfold upd;split <;> rfl
theorem ne_of {H:Hp}{a b:Addr}{o u:HO} (h:H a=some o) (h':H b=some u) (d:o≠u) : a≠b:=by
  intro e;subst e;rw [h] at h';exact d (Option.some.inj h')
theorem ne_of_none {H:Hp}{a b:Addr}{o:HO} (h:H a=some o) (h':H b=none) : a≠b:=by
  intro e;subst e;rw [h] at h';cases h'
section
variable (P:Program) (w:World)
def ObjOk (H:Hp) (h:Heap) (a:Addr) : HO→Prop
  | .lst xs=>xs.length≤sizeLine∧∃ (its:List Value) (n:Nat),Vals xs its∧h.get? a=some { cls := .type "list",data := .seq its.toArray n }
  | .tup xs=>xs.length≤sizeLine∧∃ its:List Value,Vals xs its∧IsTup h a its.toArray
  | .dK kvs=>kvs.length≤sizeLine∧(a == sysModules)=false∧∃ vs,KV kvs vs∧h.DictOf (mixKind P w) a vs
  | .dT kvs=>kvs.length≤sizeLine∧(a == sysModules)=false∧∃ xs:List (List Key × Addr × Value),
      Paired (fun (p:List Key × V) (q:List Key × Addr × Value)=>p.1=q.1∧H q.2.1=some (.tup (p.1.map kV))∧RelV p.2 q.2.2) kvs xs ∧
      ∃ o es ep,h.get? a=some o∧o.ExactDict∧o.data = .dict es ep∧es.toList=xs.map (entryOfKey (tupleKind (mixKind P w)))∧(xs.map (·.1)).Nodup
  | .set S n=>h.SetOf (intKind P w) a S n
  | .ins C dx fs=>H dx=some (.own a)∧fs.length≤1000∧dx≠a∧h.get? a=some (PySem.W.instObj C dx) ∧
      ∃ mA,h.Ns1 dx mA∧(∀ f,RelO (fs.lookup f) (mA f))∧PySem.Within mA (fs.map (·.1))
  | .own _ => ∃ o,h.get? a=some o
  | .xd fs => ∃ mA,h.Ns1 a mA∧∀ f,RelO (fs.lookup f) (mA f)
  | .rng lo hi => ∃ t u v,h.get? a=some { cls := .type "range",data := .fields #[.int lo t,.int hi u,.int 1 v] }
  | .frz o u=>h.get? a=some o∧ObjOk H h a u
  | .tbl ps=>h.get? a=some { cls := .none,data := .fields ps }
  | .met f x=>h.get? a=some (PySem.W.methodObj (.ref f) (.ref x))
  | .ext φ => φ h∧(∃ o,h.get? a=some o)∧∀ h1 h2:Heap,φ h1→(∀ o,h1.get? a=some o→h2.get? a=some o) → φ h2
def HOk (H:Hp) (h:Heap) : Prop := ∀ a o,H a=some o→ObjOk P w H h a o
end
section
variable {P:Program}{w:World}{H H':Hp}{h h':Heap}{a:Addr}{o:HO}
theorem ObjOk.lt (x:ObjOk P w H h a o) : a<h.objs.size:=by
  cases o with
  | lst xs=>obtain ⟨_,_,_,_,e⟩:=x;exact Heap.lt_size e
  | tup xs=>obtain ⟨_,_,_,p⟩:=x;exact p.lt
  | dK kvs=>obtain ⟨_,_,_,_,o,_,_,e,_⟩:=x;exact Heap.lt_size e
  | dT kvs=>obtain ⟨_,_,_,_,o,_,_,e,_⟩:=x;exact Heap.lt_size e
  | set S n=>obtain ⟨o,_,_,_,e,_⟩:=x;exact Heap.lt_size e
  | ins C dx fs=>obtain ⟨_,_,_,e,_⟩:=x;exact Heap.lt_size e
  | own y=>obtain ⟨_,e⟩:=x;exact Heap.lt_size e
  | xd fs=>obtain ⟨_,⟨_,_,_,e,_⟩,_⟩:=x;exact Heap.lt_size e
  | rng lo hi=>obtain ⟨_,_,_,e⟩:=x;exact Heap.lt_size e
  | frz ob u=>obtain ⟨e,_⟩:=x;exact Heap.lt_size e
  | tbl ps=>exact Heap.lt_size (show h.get? a=some _ from x)
  | met f y=>exact Heap.lt_size (show h.get? a=some _ from x)
  | ext φ => obtain ⟨_,⟨_,e⟩,_⟩:=x;exact Heap.lt_size e
theorem Paired.mapP {α β : Type}{F G : α → β → Prop} : ∀ {l₁:List α}{l₂:List β},Paired F l₁ l₂→(∀ a b,F a b→G a b)→Paired G l₁ l₂
  | _,_,.nil,_ => .nil
  | _,_,.cons r t,f => .cons (f _ _ r) (Paired.mapP t f)
theorem ObjOk.stay (x:ObjOk P w H h a o) (k:∀ b u,(b=a∨H b=some (.own a))→h.get? b=some u→h'.get? b=some u)
    (ho:∀ b,H b=some (.own a)→H' b=some (.own a)) (ht:∀ b xs,H b=some (.tup xs)→H' b=some (.tup xs)) : ObjOk P w H' h' a o:=by
  induction o with
  | lst xs=>obtain ⟨z,its,n,r,e⟩:=x;exact ⟨z,its,n,r,k _ _ (.inl rfl) e⟩
  | tup xs=>obtain ⟨z,its,r,ob,e,c⟩:=x;exact ⟨z,its,r,ob,k _ _ (.inl rfl) e,c⟩
  | dK kvs=>obtain ⟨z,y,vs,r,ob,es,ep,e,c⟩:=x;exact ⟨z,y,vs,r,ob,es,ep,k _ _ (.inl rfl) e,c⟩
  | dT kvs =>
    obtain ⟨z,y,xs,r,ob,es,ep,e,c⟩:=x
    exact ⟨z,y,xs,Paired.mapP r fun p q z=>⟨z.1,ht _ _ z.2.1,z.2.2⟩,ob,es,ep,k _ _ (.inl rfl) e,c⟩
  | set S n=>obtain ⟨ob,es,ep,t,e,c⟩:=x;exact ⟨ob,es,ep,t,k _ _ (.inl rfl) e,c⟩
  | ins C dx fs =>
    obtain ⟨d,z,ne,e,mA,⟨od,es,ep,e2,c⟩,r⟩:=x
    exact ⟨ho _ d,z,ne,k _ _ (.inl rfl) e,mA,⟨od,es,ep,k _ _ (.inr d) e2,c⟩,r⟩
  | own y=>obtain ⟨ob,e⟩:=x;exact ⟨ob,k _ _ (.inl rfl) e⟩
  | xd fs=>obtain ⟨mA,⟨od,es,ep,e,c⟩,r⟩:=x;exact ⟨mA,⟨od,es,ep,k _ _ (.inl rfl) e,c⟩,r⟩
  | rng lo hi=>obtain ⟨t,u,v,e⟩:=x;exact ⟨t,u,v,k _ _ (.inl rfl) e⟩
  | frz ob u ih=>obtain ⟨e,q⟩:=x;exact ⟨k _ _ (.inl rfl) e,ih q⟩
  | tbl ps =>
    have e:h.get? a=some { cls := .none,data := .fields ps }:=x
    show h'.get? a=some { cls := .none,data := .fields ps }
    exact k a _ (.inl rfl) e
  | met f y =>
    have e:h.get? a=some (PySem.W.methodObj (.ref f) (.ref y)):=x
    show h'.get? a=some (PySem.W.methodObj (.ref f) (.ref y))
    exact k a _ (.inl rfl) e
  | ext φ => obtain ⟨p,⟨o,e⟩,st⟩:=x;exact ⟨st _ _ p fun o q=>k _ _ (.inl rfl) q,⟨o,k _ _ (.inl rfl) e⟩,st⟩
theorem HOk.lt (x:HOk P w H h) (e:H a=some o) : a<h.objs.size:=(x a o e).lt
theorem HOk.fresh (x:HOk P w H h) (e:h.objs.size≤a) : H a=none:=by
  cases q:H a with
  | none=>rfl
  | some u=>exact absurd (Nat.lt_of_lt_of_le (x.lt q) e) (Nat.lt_irrefl _)
theorem HOk.kept (x:HOk P w H h) (k:∀ b u,h.get? b=some u→h'.get? b=some u) : HOk P w H h':=fun a o e =>
  (x a o e).stay (fun b u _ q=>k b u q) (fun _ q=>q) fun _ _ q=>q
theorem HOk.laid (x:HOk P w H h) (k:∀ b u,h.get? b=some u→h'.get? b=some u) (hp:h.objs.size≤a) (new:ObjOk P w (upd H a o) h' a o) : HOk P w (upd H a o) h':=fun b u e=>by
  have hn:=x.fresh hp
  by_cases hb:b=a
  · subst hb;rw [upd_same] at e;cases e;exact new
  · rw [upd_ne hb] at e
    exact (x b u e).stay (fun c v _ q=>k c v q) (fun c q=>by rw [upd_ne (ne_of_none q hn)];exact q) fun c xs q=>by rw [upd_ne (ne_of_none q hn)];exact q
end
def Rd (H:Hp) (a:Addr) (u:HO) : Prop:=H a=some u∨∃ o,H a=some (.frz o u)
theorem Rd.ok {P:Program}{w:World}{H:Hp}{h:Heap}{a:Addr}{u:HO} (r:Rd H a u) (x:HOk P w H h) : ObjOk P w H h a u:=by
  rcases r with r | ⟨o,r⟩
  · exact x a u r
  · obtain ⟨_,q⟩:=x a _ r
    exact q
def Mut:Option HO→Prop
  | some (.lst _)=>True
  | some (.dK _)=>True
  | some (.dT _)=>True
  | some (.set _ _)=>True
  | some (.ins _ _ _)=>True
  | some (.ext _)=>True
  | _=>False
section
variable {P:Program}{w:World}{H:Hp}{h h':Heap}{x e:Addr}{o':HO}
theorem HOk.write (ok:HOk P w H h) (mu:Mut (H x)) (he:e=x∨H e=some (.own x)) (k:∀ b u,b≠e→h.get? b=some u→h'.get? b=some u) (heo:∃ u,h'.get? e=some u)
    (new:ObjOk P w (upd H x o') h' x o') : HOk P w (upd H x o') h':=fun b u q=>by
  have nown:∀ c y,H c=some (.own y)→c≠x:=fun c y r z=>by subst z;rw [r] at mu;exact mu
  have ntup:∀ c xs,H c=some (.tup xs)→c≠x:=fun c xs r z=>by subst z;rw [r] at mu;exact mu
  by_cases hb:b=x
  · subst hb;rw [upd_same] at q;cases q;exact new
  · rw [upd_ne hb] at q
    by_cases hbe:b=e
    · have q':H b=some (.own x):=by
        rcases he with z | z
        · exact absurd (hbe.trans z) hb
        · rw [hbe];exact z
      rw [q] at q';cases q'
      obtain ⟨v,hv⟩:=heo
      exact ⟨v,by rw [hbe];exact hv⟩
    · refine (ok b u q).stay (fun c v hc r=>k c v ?_ r) (fun c r=>by rw [upd_ne (nown c b r)];exact r) fun c xs r=>by rw [upd_ne (ntup c xs r)];exact r
      rcases hc with rfl | hc
      · exact hbe
      · rintro rfl
        rcases he with z | z
        · exact nown c b hc z
        · rw [hc] at z;cases z;exact hb rfl
end
structure Un (fs ex:List Addr) (H H':Hp) (h h':Heap) : Prop where
  keep:∀ b o,h.get? b=some o→H b=none→b ∉ fs→b ∉ ex→h'.get? b=some o
  slot:∀ b o,h.get? b=some o→H b=none→b∈fs→b ∉ ex→∃ sl,h'.get? b=some { o with slots:=sl }
  free:∀ b o,h.get? b=some o→H b=none→b ∉ ex→H' b=none
  there:∀ b o,h.get? b=some o→b ∉ ex→∃ o',h'.get? b=some o'
  tups:∀ b xs,H b=some (.tup xs)→H' b=some (.tup xs)
  frzs:∀ b o u,H b=some (.frz o u)→H' b=some (.frz o u)
  tbls:∀ b ps,H b=some (.tbl ps)→∃ more,H' b=some (.tbl (ps++more))
section
variable {fs fs' ex ex':List Addr}{H H1 H2:Hp}{h h1 h2 h':Heap}{a x e:Addr}{o:HO}
theorem Un.any (u:Un fs ex H H1 h h1) {b:Addr}{ob:Obj} (q:h.get? b=some ob) (n:H b=none) (hx:b ∉ ex) : ∃ sl,h1.get? b=some { ob with slots:=sl }:=by
  by_cases hb:b∈fs
  · exact u.slot b ob q n hb hx
  · exact ⟨ob.slots,u.keep b ob q n hb hx⟩
theorem Un.kept (k:∀ b u,h.get? b=some u→h'.get? b=some u) : Un fs ex H H h h' :=
  ⟨fun b ob q _ _ _=>k b ob q,fun b ob q _ _ _=>⟨ob.slots,k b ob q⟩,fun _ _ _ n _=>n,fun b ob q _=>⟨ob,k b ob q⟩,fun _ _ q=>q,fun _ _ _ q=>q,fun _ ps q=>⟨#[],by rw [q];simp⟩⟩
theorem Un.refl:Un fs ex H H h h:=Un.kept fun _ _ q=>q
theorem Un.laid (k:∀ b u,h.get? b=some u→h'.get? b=some u) (hp:h.objs.size≤a) (hn:H a=none) : Un fs ex H (upd H a o) h h' where
  keep:=fun b u q _ _ _=>k b u q
  slot:=fun b u q _ _ _=>⟨u.slots,k b u q⟩
  free:=fun b u q n _=>by rw [upd_ne (Nat.ne_of_lt (Nat.lt_of_lt_of_le (Heap.lt_size q) hp))];exact n
  there:=fun b u q _=>⟨u,k b u q⟩
  tups:=fun b xs q=>by rw [upd_ne (ne_of_none q hn)];exact q
  frzs:=fun b u xs q=>by rw [upd_ne (ne_of_none q hn)];exact q
  tbls:=fun b ps q=>⟨#[],by rw [upd_ne (ne_of_none q hn),q];simp⟩
theorem Un.write (mu:Mut (H x)) (he:e=x∨H e=some (.own x)) (k:∀ b u,b≠e→h.get? b=some u→h'.get? b=some u) (heo:∃ u,h'.get? e=some u) : Un fs ex H (upd H x o) h h':=by
  have hx:∀ b,H b=none→b≠x:=fun b n z=>by subst z;rw [n] at mu;exact mu
  have hb:∀ b,H b=none→b≠e:=fun b n z=>by
    subst z
    rcases he with r | r
    · exact hx b n r
    · rw [n] at r;cases r
  have hm:∀ b u,H b=some u→¬ Mut (some u)→b≠x:=fun b u q nm z=>by subst z;rw [q] at mu;exact nm mu
  refine ⟨fun b u q n _ _=>k b u (hb b n) q,fun b u q n _ _=>⟨u.slots,k b u (hb b n) q⟩,fun b u q n _=>by rw [upd_ne (hx b n)];exact n,fun b u q _ => ?_,
    fun b xs q=>by rw [upd_ne (hm b _ q fun z=>z)];exact q,fun b u xs q=>by rw [upd_ne (hm b _ q fun z=>z)];exact q,fun b ps q=>⟨#[],by rw [upd_ne (hm b _ q fun z=>z),q];simp⟩⟩
  by_cases hbe:b=e
  · subst hbe;exact heo
  · exact ⟨u,k b u hbe q⟩
end
def trk (h:Heap) (H:Hp) : List Addr:=(List.range h.objs.size).filter fun a=>(H a).isSome
def hidT (h:Heap) (H:Hp) : Heap:=PySem.W.hideAll h (trk h H)
theorem hidT_size (h:Heap) (H:Hp) : (hidT h H).objs.size=h.objs.size:=PySem.W.hideAll_size _ _
theorem hidT_get {h:Heap}{H:Hp}{b:Addr}{o:Obj} (e:h.get? b=some o) (n:H b=none) : (hidT h H).get? b=some o :=
  PySem.W.hideAll_get _ e fun hm=>by
    have q:(H b).isSome=true:=(List.mem_filter.mp hm).2
    rw [n] at q;simp at q
theorem of_hidT {h:Heap}{H:Hp}{b:Addr}{o:Obj} (e:(hidT h H).get? b=some o) : h.get? b=some o∧H b=none:=by
  have e':h.get? b=some o:=PySem.W.of_hideAll (trk h H) e
  refine ⟨e',?_⟩
  cases q:H b with
  | none=>rfl
  | some x =>
    have hm:b∈trk h H:=List.mem_filter.mpr ⟨List.mem_range.mpr (Heap.lt_size e'),by simp [q]⟩
    have z:(hidT h H).get? b=none:=PySem.W.hideAll_none (trk h H) hm
    rw [z] at e;cases e
end L2
namespace L2
open PySem PySem.Spec PyProof.Rows
structure Mod (K:PySem.W.Frag) (mg:Str→Option Value) (base:Heap) : Prop where
  kin:K.In base
  glob:base.Ns mainGlobals mg
  blt:∃ mb,base.Ns builtinsNs mb∧∀ x:Str,x ≠ "__name__" → mb x=bootBuiltins x
  nolimit:base.NoLimit
structure Cx where
  prog:Program
  w:World
  K:PySem.W.Frag
  mg:Str→Option Value
  base:Heap
  A:Around
  N:List Str
  s₀:Shared
  H₀:Hp
  env:Env
  outer:List Env
  stack:List Env
  ex:List Addr
  fn:Str→Bool
  calm:Bool
  pn:List (Addr × Obj)
  xe:Value→Shared→Prop
def frs (l:List Env) : List Addr:=l.filterMap (·.frame)
abbrev Cx.fs (X:Cx) : List Addr:=frs X.outer
def Vis (sc:Scope) (x:Str) : Prop:=sc.names.lookup x=some .local∨sc.names.lookup x=some .cell∨sc.names.lookup x=some .free
def Loc (sc:Scope) (x:Str) : Prop:=sc.names.lookup x=some .local∨sc.names.lookup x=some .cell
def Look (env:Env) (h:Heap) (m:Str→Option Value) (x:Str) (u:Value) : Prop :=
  (env.kindOf x=some .local∧m x=some u)∨((env.kindOf x=some .cell∨env.kindOf x=some .free)∧∃ c,env.cells.lookup x=some c∧h.IsCell c (some u))
structure Cx.Ok (X:Cx) : Prop where
  mod:Mod X.K X.mg X.base
  kind:X.env.scope.kind = .function
  glob:X.env.globals=mainGlobals
  blt:X.env.builtins=builtinsNs
  above:X.s₀.heap.objs.size≤X.env.locals
  inj:∀ x y c,X.env.cells.lookup x=some c→X.env.cells.lookup y=some c→x=y
  has:∀ x,(X.env.kindOf x=some .cell∨X.env.kindOf x=some .free)→∃ c,X.env.cells.lookup x=some c
  cab:∀ x c,X.fn x=true→X.env.cells.lookup x=some c→X.s₀.heap.objs.size≤c
  hd:X.calm=true→X.A.handled=none
  frames:X.A.frames=some X.stack
  stk:X.stack=X.outer∨(X.stack=X.env :: X.outer∧X.env.frame=some X.env.locals)
  exf:∀ b∈X.ex,b≠X.env.locals∧∀ x c,X.env.cells.lookup x=some c→c≠b
  bs:∀ b o,X.base.get? b=some o→X.s₀.heap.get? b=some o∧X.H₀ b=none
  bsz:X.base.objs.size≤X.s₀.heap.objs.size
  noex:∀ b o,X.base.get? b=some o→b ∉ X.ex
  exfs:∀ b∈X.ex,b ∉ X.fs
  funs:X.s₀.heap.FunFrames X.base X.outer
  frf:∀ b∈X.fs,X.H₀ b=none
structure Inv (X:Cx) (pins:List (Addr × Obj)) (σ : List (Option V)) (H:Hp) (s:Shared) : Prop where
  ok:X.Ok
  os:s.os=X.s₀.os
  bare:AllBare s.gens
  base:Un X.fs X.ex X.H₀ H X.s₀.heap s.heap
  loc:∃ m,s.heap.Ns X.env.locals m∧∀ (i:Nat) (x:Str) (v:V),X.N[i]? = some x → σ[i]? = some (some v)→Vis X.env.scope x→∃ u,RelV v u∧Look X.env s.heap m x u
  cell:∀ x c,X.env.cells.lookup x=some c→∃ v,s.heap.IsCell c v
  free:H X.env.locals=none
  freeC:∀ x c,X.env.cells.lookup x=some c→H c=none
  pin:∀ p∈X.pn++pins,s.heap.get? p.1=some p.2∧H p.1=none∧p.1≠X.env.locals∧p.1 ∉ X.fs∧∀ v,p.2.data ≠ .cell v
  hok:HOk X.prog X.w H s.heap
  len : σ.length=X.N.length
section
variable {X:Cx}{pins:List (Addr × Obj)} {σ : List (Option V)}{H H':Hp}{s:Shared}{h':Heap}
theorem Cx.Ok.nofr (ok:X.Ok) {b:Addr}{o:Obj} (e:X.base.get? b=some o) : b ∉ X.fs:=fun hb=>by
  have:=(ok.funs.mem hb).1
  rw [e] at this;cases this
theorem Inv.bs (I:Inv X pins σ H s) : ∀ b o,X.base.get? b=some o→s.heap.get? b=some o∧H b=none:=fun b o e =>
  ⟨I.base.keep b o (I.ok.bs b o e).1 (I.ok.bs b o e).2 (I.ok.nofr e) (I.ok.noex b o e),I.base.free b o (I.ok.bs b o e).1 (I.ok.bs b o e).2 (I.ok.noex b o e)⟩
theorem Inv.bk (I:Inv X pins σ H s) : ∀ b o,X.base.get? b=some o→s.heap.get? b=some o:=fun b o e=>(I.bs b o e).1
theorem Inv.mod (I:Inv X pins σ H s) : Mod X.K X.mg X.base:=I.ok.mod
theorem Inv.kIn (I:Inv X pins σ H s) : X.K.In s.heap:=I.ok.mod.kin.keeps I.bk
theorem Inv.lt (I:Inv X pins σ H s) : X.env.locals<s.heap.objs.size:=let ⟨_,hn,_⟩:=I.loc;hn.lt
theorem Inv.sz (I:Inv X pins σ H s) : X.s₀.heap.objs.size≤s.heap.objs.size:=Nat.le_trans I.ok.above (Nat.le_of_lt I.lt)
theorem Inv.nofs (I:Inv X pins σ H s) {a:Addr} (h:s.heap.objs.size≤a) : a ∉ X.fs:=fun hb=>by
  obtain ⟨_,o,ho,_⟩:=I.ok.funs.mem hb
  exact absurd (Nat.lt_of_lt_of_le (Heap.lt_size ho) (Nat.le_trans I.sz h)) (Nat.lt_irrefl _)
theorem Inv.cne (I:Inv X pins σ H s) : ∀ x c,X.env.cells.lookup x=some c→c≠X.env.locals:=fun x c e z=>by
  obtain ⟨v,o,ho,hd⟩:=I.cell x c e
  obtain ⟨m,⟨o',es,ep,ho',hd',_⟩,_⟩:=I.loc
  rw [z,ho'] at ho;cases ho;rw [hd'] at hd;cases hd
theorem Inv.funs (I:Inv X pins σ H s) : s.heap.FunFrames X.base X.outer:=by
  have all:∀ (l:List Env),(∀ b∈frs l,b∈X.fs)→X.s₀.heap.FunFrames X.base l→s.heap.FunFrames X.base l:=by
    intro l
    induction l with
    | nil=>intro _ _;trivial
    | cons env r ih =>
      intro hs hl
      obtain ⟨hk,⟨L,o,hf,hn,ho,hd⟩,hr⟩:=hl
      have hL:L∈X.fs:=hs L (by unfold frs;rw [List.filterMap_cons,hf];exact List.mem_cons_self)
      obtain ⟨sl,e⟩:=I.base.slot L o ho (I.ok.frf L hL) hL fun z=>I.ok.exfs L z hL
      exact ⟨hk,⟨L,_,hf,hn,e,hd⟩,ih (fun b hb=>hs b (by unfold frs;rw [List.filterMap_cons,hf];exact List.mem_cons_of_mem _ hb)) hr⟩
  exact all X.outer (fun _ hb=>hb) I.ok.funs
theorem Inv.stack (I:Inv X pins σ H s) : s.heap.FunFrames X.base X.stack:=by
  rcases I.ok.stk with e | ⟨e,hf⟩
  · rw [e];exact I.funs
  · rw [e]
    obtain ⟨m,hn,_⟩:=I.loc
    refine .cons (by rw [I.ok.kind];decide) hf hn ?_ I.funs
    exact Heap.get?_none_of_le (Nat.le_trans I.ok.bsz I.ok.above)
theorem Inv.stkSub (I:Inv X pins σ H s) : ∀ b∈frs X.stack,b∈X.env.locals :: X.fs:=fun b hb=>by
  rcases I.ok.stk with e | ⟨e,hf⟩
  · rw [e] at hb;exact List.mem_cons_of_mem _ hb
  · rw [e] at hb
    unfold frs at hb
    rw [List.filterMap_cons,hf] at hb
    exact hb
theorem Inv.stkFree (I:Inv X pins σ H s) : ∀ b∈frs X.stack,H b=none:=fun b hb=>by
  rcases List.mem_cons.mp (I.stkSub b hb) with e | hb
  · rw [e];exact I.free
  · obtain ⟨_,o,ho,_⟩:=I.ok.funs.mem hb
    exact I.base.free b o ho (I.ok.frf b hb) fun z=>I.ok.exfs b z hb
theorem Inv.step {g':Array GenState}{t':Nat}{d':Drawn}{ch:List Addr} (I:Inv X pins σ H s)
    (hch:∀ b∈ch,(b∈X.ex∨X.s₀.heap.objs.size≤b)∧b≠X.env.locals∧(∀ x c,X.env.cells.lookup x=some c→c≠b)∧∀ p∈X.pn++pins,p.1≠b)
    (keep:∀ b o,b≠X.env.locals→b ∉ X.fs→b ∉ ch→s.heap.get? b=some o→H b=none→h'.get? b=some o)
    (slot:∀ b o,b≠X.env.locals→b∈X.fs→b ∉ ch→s.heap.get? b=some o→H b=none→∃ sl,h'.get? b=some { o with slots:=sl }) (free:∀ b o,b ∉ ch→s.heap.get? b=some o→H b=none→H' b=none)
    (there:∀ b o,b ∉ ch→s.heap.get? b=some o→∃ o',h'.get? b=some o')
    (tups:∀ b xs,H b=some (.tup xs)→H' b=some (.tup xs)) (frzs:∀ b o u,H b=some (.frz o u)→H' b=some (.frz o u)) (tbls:∀ b ps,H b=some (.tbl ps)→∃ more,H' b=some (.tbl (ps++more)))
    (ns:∀ m,s.heap.Ns X.env.locals m→h'.Ns X.env.locals m) (hok:HOk X.prog X.w H' h') (hg:AllBare g') :
    Inv X pins σ H' { s with heap:=h',gens:=g',drawn:=d',toks:=t' }:=by
  have neL:∀ b o,X.s₀.heap.get? b=some o→b≠X.env.locals:=fun b o e=>Nat.ne_of_lt (Nat.lt_of_lt_of_le (Heap.lt_size e) I.ok.above)
  have neC:∀ b o,X.s₀.heap.get? b=some o→b ∉ X.ex→b ∉ ch:=fun b o e hx hb=>by
    rcases (hch b hb).1 with z | z
    · exact hx z
    · exact absurd (Nat.lt_of_lt_of_le (Heap.lt_size e) z) (Nat.lt_irrefl _)
  have cellK:∀ x c,X.env.cells.lookup x=some c→∀ v,s.heap.IsCell c v→h'.IsCell c v:=fun x c e v ⟨o,ho,hd⟩=>by
    have nch:c ∉ ch:=fun z=>(hch c z).2.2.1 x c e rfl
    by_cases hc:c∈X.fs
    · obtain ⟨sl,q⟩:=slot c o (I.cne x c e) hc nch ho (I.freeC x c e)
      exact ⟨_,q,hd⟩
    · exact ⟨o,keep c o (I.cne x c e) hc nch ho (I.freeC x c e),hd⟩
  refine ⟨I.ok,I.os,hg,⟨fun b o e n hb hx => ?_,fun b o e n hb hx => ?_,fun b o e n hx => ?_,fun b o e hx => ?_,fun b xs e=>tups b xs (I.base.tups b xs e),fun b o xs e=>frzs b o xs (I.base.frzs b o xs e),fun b ps e => ?_⟩,?_,fun x c e => ?_,?_,fun x c e => ?_,fun p hp => ?_,hok,I.len⟩
  · exact keep b o (neL b o e) hb (neC b o e hx) (I.base.keep b o e n hb hx) (I.base.free b o e n hx)
  · obtain ⟨sl,e1⟩:=I.base.slot b o e n hb hx
    obtain ⟨sl',e2⟩:=slot b _ (neL b o e) hb (neC b o e hx) e1 (I.base.free b o e n hx)
    exact ⟨sl',e2⟩
  · obtain ⟨o',e1⟩:=I.base.there b o e hx
    exact free b o' (neC b o e hx) e1 (I.base.free b o e n hx)
  · obtain ⟨o',e1⟩:=I.base.there b o e hx
    exact there b o' (neC b o e hx) e1
  · obtain ⟨m1,e1⟩:=I.base.tbls b ps e
    obtain ⟨m2,e2⟩:=tbls b _ e1
    exact ⟨m1++m2,by rw [e2,Array.append_assoc]⟩
  · obtain ⟨m,hn,hl⟩:=I.loc
    refine ⟨m,ns m hn,fun i x v e1 e2 e3 => ?_⟩
    obtain ⟨u,r,l⟩:=hl i x v e1 e2 e3
    refine ⟨u,r,?_⟩
    rcases l with l | ⟨k,c,e,z⟩
    · exact .inl l
    · exact .inr ⟨k,c,e,cellK x c e _ z⟩
  · obtain ⟨v,z⟩:=I.cell x c e
    exact ⟨v,cellK x c e v z⟩
  · obtain ⟨m,⟨o,_,_,ho,_⟩,_⟩:=I.loc
    exact free _ o (fun z=>(hch _ z).2.1 rfl) ho I.free
  · obtain ⟨v,o,ho,hd⟩:=I.cell x c e
    exact free c o (fun z=>(hch c z).2.2.1 x c e rfl) ho (I.freeC x c e)
  · obtain ⟨e,n,ne,nf,d⟩:=I.pin p hp
    have nch:p.1 ∉ ch:=fun z=>(hch p.1 z).2.2.2 p hp rfl
    exact ⟨keep p.1 p.2 ne nf nch e n,free p.1 p.2 nch e n,ne,nf,d⟩
theorem Inv.un {t':Nat} (I:Inv X pins σ H s) (u:Un X.fs [] H H' s.heap h') (hok:HOk X.prog X.w H' h') : Inv X pins σ H' { s with heap:=h',toks:=t' }:=by
  obtain ⟨m,⟨o,es,ep,ho,r⟩,_⟩:=id I.loc
  obtain ⟨sl,hL⟩:=u.any ho I.free (by simp)
  exact I.step (g':=s.gens) (d':=s.drawn) (ch:=[]) (fun _ z=>nomatch z) (fun b o _ hb _ e n=>u.keep b o e n hb (by simp)) (fun b o _ hb _ e n=>u.slot b o e n hb (by simp)) (fun b o _ e n=>u.free b o e n (by simp)) (fun b o _ e=>u.there b o e (by simp)) u.tups u.frzs u.tbls (fun m' hm=>by
    obtain ⟨o',es',ep',ho',r'⟩:=hm
    rw [ho] at ho';cases ho'
    exact ⟨_,es',ep',hL,r'⟩) hok I.bare
theorem Inv.call {g':Array GenState}{t':Nat}{d':Drawn}{ch:List Addr} (I:Inv X pins σ H s) (u:Un (frs X.stack) ch H H' s.heap h') (hok:HOk X.prog X.w H' h') (hg:AllBare g')
    (hch:∀ b∈ch,(b∈X.ex∨X.s₀.heap.objs.size≤b)∧b≠X.env.locals∧(∀ x c,X.env.cells.lookup x=some c→c≠b)∧∀ p∈X.pn++pins,p.1≠b) :
    Inv X pins σ H' { s with heap:=h',gens:=g',drawn:=d',toks:=t' }:=by
  obtain ⟨m,⟨o,es,ep,ho,r⟩,_⟩:=id I.loc
  obtain ⟨sl,hL⟩:=u.any ho I.free fun z=>(hch _ z).2.1 rfl
  exact I.step (ch:=ch) hch (fun b o hL hb hc e n=>u.keep b o e n (fun z=>(List.mem_cons.mp (I.stkSub b z)).elim hL hb) hc) (fun b o _ _ hc e n=>u.any e n hc) (fun b o hc e n=>u.free b o e n hc) (fun b o hc e=>u.there b o e hc) u.tups u.frzs u.tbls (fun m' hm=>by
    obtain ⟨o',es',ep',ho',r'⟩:=hm
    rw [ho] at ho';cases ho'
    exact ⟨_,es',ep',hL,r'⟩) hok hg
theorem Inv.turned {t':Nat}{it:Addr} (I:Inv X pins σ H s) (k:∀ b o,b≠it→s.heap.get? b=some o→h'.get? b=some o) (hn:H it=none) (hL:it≠X.env.locals)
    (h1:it∈X.ex∨X.s₀.heap.objs.size≤it) (h2:∀ x c,X.env.cells.lookup x=some c→c≠it) (h3:∀ p∈X.pn++pins,p.1≠it) : Inv X pins σ H { s with heap:=h',toks:=t' }:=by
  have nit:∀ b u,H b=some u→b≠it:=fun b u e z=>by rw [z,hn] at e;cases e
  refine I.step (g':=s.gens) (d':=s.drawn) (ch:=[it]) (fun b hb => ?_) (fun b o _ _ hc e _=>k b o (fun z=>hc (by simp [z])) e) (fun b o _ _ hc e _=>⟨o.slots,k b o (fun z=>hc (by simp [z])) e⟩) (fun _ _ _ _ n=>n)
    (fun b o hc e=>⟨o,k b o (fun z=>hc (by simp [z])) e⟩) (fun _ _ e=>e) (fun _ _ _ e=>e) (fun b ps e=>⟨#[],by rw [e];simp⟩) (fun m hm => ?_) (fun b u e => ?_) I.bare
  · have e:b=it:=by simpa using hb
    subst e
    exact ⟨h1,hL,h2,h3⟩
  · obtain ⟨o,es,ep,ho,r⟩:=hm
    exact ⟨o,es,ep,k _ o (Ne.symm hL) ho,r⟩
  · refine (I.hok b u e).stay (fun c v hc q=>k c v ?_ q) (fun _ q=>q) fun _ _ q=>q
    rcases hc with z | z
    · rw [z];exact nit b u e
    · exact nit c _ z
theorem Inv.tok (I:Inv X pins σ H s) (t:Nat) : Inv X pins σ H { s with toks:=t }:=I.un (h':=s.heap) (t':=t) Un.refl I.hok
theorem Inv.kept {t':Nat} (I:Inv X pins σ H s) (k:∀ b u,s.heap.get? b=some u→h'.get? b=some u) : Inv X pins σ H { s with heap:=h',toks:=t' }:=I.un (Un.kept k) (I.hok.kept k)
theorem Inv.laid {a:Addr}{o:HO}{t':Nat} (I:Inv X pins σ H s) (k:∀ b u,s.heap.get? b=some u→h'.get? b=some u) (hp:s.heap.objs.size≤a) (new:ObjOk X.prog X.w (upd H a o) h' a o) :
    Inv X pins σ (upd H a o) { s with heap:=h',toks:=t' }:=I.un (Un.laid k hp (I.hok.fresh hp)) (I.hok.laid k hp new)
theorem Inv.write {x e:Addr}{o:HO}{t':Nat} (I:Inv X pins σ H s) (mu:Mut (H x)) (he:e=x∨H e=some (.own x)) (k:∀ b u,b≠e→s.heap.get? b=some u→h'.get? b=some u) (heo:∃ u,h'.get? e=some u)
    (new:ObjOk X.prog X.w (upd H x o) h' x o) : Inv X pins σ (upd H x o) { s with heap:=h',toks:=t' }:=I.un (Un.write mu he k heo) (I.hok.write mu he k heo new)
theorem Inv.pins_of {pins':List (Addr × Obj)} (I:Inv X pins σ H s) (h:∀ p∈pins',s.heap.get? p.1=some p.2∧H p.1=none∧p.1≠X.env.locals∧p.1 ∉ X.fs∧∀ v,p.2.data ≠ .cell v) : Inv X pins' σ H s :=
  ⟨I.ok,I.os,I.bare,I.base,I.loc,I.cell,I.free,I.freeC,fun p hp=>(List.mem_append.mp hp).elim (fun z=>I.pin p (List.mem_append_left _ z)) (h p),I.hok,I.len⟩
theorem nodup_ix {N:List Str} (hN:N.Nodup) {i j:Nat}{x:Str} (a:N[i]? = some x) (b:N[j]? = some x) : i=j:=by
  obtain ⟨h1,e1⟩:=List.getElem?_eq_some_iff.mp a
  obtain ⟨h2,e2⟩:=List.getElem?_eq_some_iff.mp b
  exact (List.getElem_inj hN).mp (e1.trans e2.symm)
theorem store_ok2 {M:Model}{A:Around}{E:Value→Shared→Prop}{i:Nat}{x:Str}{v:V}{u:Value}{Q:Unit→Shared→Prop} (I:Inv X pins σ H s) (hN:X.N.Nodup) (hi:X.N[i]? = some x) (hx:Loc X.env.scope x) (r:RelV v u)
    (h:∀ s',Inv X pins (σ.set i (some v)) H s'→(∃ a,Heap.SameBut a s.heap s'.heap∧(a=X.env.locals∨X.env.cells.lookup x=some a))→Q () s') (hf:X.fn x=true∨X.env.scope.names.lookup x=some .local:=by first | exact .inl rfl | exact .inr rfl | assumption) : wpAny M A (storeName X.env x u) Q E s:=by
  obtain ⟨m,hn,hl⟩:=id I.loc
  have hcls:(X.env.scope.kind == .class || (X.env.scope.kind == .module && X.env.locals != X.env.globals))=false:=by rw [I.ok.kind];rfl
  have hiσ : i < σ.length:=by rw [I.len];exact (List.getElem?_eq_some_iff.mp hi).1
  have cne:=I.cne
  have tracked:∀ {a:Addr}{h':Heap},(∃ o,s.heap.get? a=some o∧H a=none)→Heap.SameBut a s.heap h'→HOk X.prog X.w H h':=fun {a h'} ha hs b ob e=>by
    obtain ⟨_,_,hfree⟩:=ha
    refine (I.hok b ob e).stay (fun c w' hc q=>(hs.2 c ?_).trans q) (fun _ q=>q) fun _ _ q=>q
    rintro rfl
    rcases hc with rfl | hc
    · rw [hfree] at e;cases e
    · rw [hfree] at hc;cases hc
  rcases hx with hk | hk
  · refine wpAny_storeName_local hk hn (fun h' hn' hs => ?_) hcls
    obtain ⟨oL,_,_,hoL,_⟩:=id hn
    refine h _ ⟨I.ok,I.os,I.bare,⟨fun b o e n hb hx => ?_,fun b o e n hb hx => ?_,I.base.free,fun b o e hx => ?_,I.base.tups,I.base.frzs,I.base.tbls⟩,⟨_,hn',fun j y v' e1 e2 e3 => ?_⟩,fun y c e => ?_,I.free,I.freeC,fun p hp => ?_,tracked ⟨oL,hoL,I.free⟩ hs,by simpa using I.len⟩ ⟨_,hs,.inl rfl⟩
    · exact (hs.2 b (Nat.ne_of_lt (Nat.lt_of_lt_of_le (Heap.lt_size e) I.ok.above))).trans (I.base.keep b o e n hb hx)
    · obtain ⟨sl,e1⟩:=I.base.slot b o e n hb hx
      exact ⟨sl,(hs.2 b (Nat.ne_of_lt (Nat.lt_of_lt_of_le (Heap.lt_size e) I.ok.above))).trans e1⟩
    · obtain ⟨o',e1⟩:=I.base.there b o e hx
      exact ⟨o',(hs.2 b (Nat.ne_of_lt (Nat.lt_of_lt_of_le (Heap.lt_size e) I.ok.above))).trans e1⟩
    · by_cases hj:j=i
      · subst hj
        rw [hi] at e1;cases e1
        rw [List.getElem?_set_self hiσ] at e2
        cases e2
        exact ⟨u,r,.inl ⟨hk,by simp⟩⟩
      · rw [List.getElem?_set_ne (Ne.symm hj)] at e2
        obtain ⟨u',r',q⟩:=hl j y v' e1 e2 e3
        refine ⟨u',r',?_⟩
        rcases q with ⟨k,e⟩ | ⟨k,c,e,z⟩
        · refine .inl ⟨k,?_⟩
          have:y≠x:=fun e=>hj (nodup_ix hN e1 (e ▸ hi))
          simp [this,e]
        · exact .inr ⟨k,c,e,z.sameBut hs (cne y c e)⟩
    · obtain ⟨w',z⟩:=I.cell y c e
      exact ⟨w',z.sameBut hs (cne y c e)⟩
    · obtain ⟨e,n,ne,nf,d⟩:=I.pin p hp
      exact ⟨(hs.2 p.1 ne).trans e,n,ne,nf,d⟩
  · have hfn:X.fn x=true:=by
      rcases hf with z | z
      · exact z
      · rw [z] at hk;cases hk
    obtain ⟨c,hc⟩:=I.ok.has x (.inl hk)
    obtain ⟨w',z⟩:=I.cell x c hc
    refine wpAny_storeName_cell I.ok.kind hk hc z (fun h' hc' hs => ?_)
    obtain ⟨oc,hoc,hocd⟩:=id z
    refine h { s with heap:=h' } ⟨I.ok,I.os,I.bare,⟨fun b o e n hb hx => ?_,fun b o e n hb hx => ?_,I.base.free,fun b o e hx => ?_,I.base.tups,I.base.frzs,I.base.tbls⟩,⟨m,hn.sameBut hs (Ne.symm (cne x c hc)),fun j y v' e1 e2 e3 => ?_⟩,fun y c' e => ?_,I.free,I.freeC,fun p hp => ?_,tracked ⟨oc,hoc,I.freeC x c hc⟩ hs,by simpa using I.len⟩ ⟨c,hs,.inr hc⟩
    · exact (hs.2 b (Nat.ne_of_lt (Nat.lt_of_lt_of_le (Heap.lt_size e) (I.ok.cab x c hfn hc)))).trans (I.base.keep b o e n hb hx)
    · obtain ⟨sl,e1⟩:=I.base.slot b o e n hb hx
      exact ⟨sl,(hs.2 b (Nat.ne_of_lt (Nat.lt_of_lt_of_le (Heap.lt_size e) (I.ok.cab x c hfn hc)))).trans e1⟩
    · obtain ⟨o',e1⟩:=I.base.there b o e hx
      exact ⟨o',(hs.2 b (Nat.ne_of_lt (Nat.lt_of_lt_of_le (Heap.lt_size e) (I.ok.cab x c hfn hc)))).trans e1⟩
    · by_cases hj:j=i
      · subst hj
        rw [hi] at e1;cases e1
        rw [List.getElem?_set_self hiσ] at e2
        cases e2
        exact ⟨u,r,.inr ⟨.inl hk,c,hc,hc'⟩⟩
      · rw [List.getElem?_set_ne (Ne.symm hj)] at e2
        obtain ⟨u',r',q⟩:=hl j y v' e1 e2 e3
        refine ⟨u',r',?_⟩
        rcases q with q | ⟨k,c',e,z'⟩
        · exact .inl q
        · refine .inr ⟨k,c',e,z'.sameBut hs ?_⟩
          rintro rfl
          exact hj (nodup_ix hN e1 (I.ok.inj _ _ _ e hc ▸ hi))
    · by_cases hcc:c'=c
      · subst hcc;exact ⟨_,hc'⟩
      · obtain ⟨w2,z2⟩:=I.cell y c' e
        exact ⟨w2,z2.sameBut hs hcc⟩
    · obtain ⟨e,n,ne,nf,d⟩:=I.pin p hp
      refine ⟨(hs.2 p.1 ?_).trans e,n,ne,nf,d⟩
      intro q
      rw [q,hoc] at e
      have q':oc=p.2:=Option.some.inj e
      exact d w' (by rw [← q'];exact hocd)
theorem store_ok {M:Model}{A:Around}{E:Value→Shared→Prop}{i:Nat}{x:Str}{v:V}{u:Value}{Q:Unit→Shared→Prop} (I:Inv X pins σ H s) (hN:X.N.Nodup) (hi:X.N[i]? = some x) (hx:Loc X.env.scope x) (r:RelV v u)
    (h:∀ s',Inv X pins (σ.set i (some v)) H s'→Q () s') (hf:X.fn x=true∨X.env.scope.names.lookup x=some .local:=by first | exact .inl rfl | exact .inr rfl | assumption) : wpAny M A (storeName X.env x u) Q E s :=
  store_ok2 I hN hi hx r (fun s' I' _=>h s' I') hf
theorem Inv.call' {s':Shared}{ch:List Addr} (I:Inv X pins σ H s) (ho:s'.os=s.os) (u:Un (frs X.stack) ch H H' s.heap s'.heap) (hok:HOk X.prog X.w H' s'.heap) (hg:AllBare s'.gens)
    (hch:∀ b∈ch,(b∈X.ex∨X.s₀.heap.objs.size≤b)∧b≠X.env.locals∧(∀ x c,X.env.cells.lookup x=some c→c≠b)∧∀ p∈X.pn++pins,p.1≠b) : Inv X pins σ H' s':=by
  obtain ⟨h',g',d',t',o'⟩:=s'
  have e:o'=s.os:=ho
  subst e
  exact I.call (g':=g') (t':=t') (d':=d') u hok hg hch
end
abbrev XK:=Value→Option Addr→Hp→Prop
abbrev St:=List (Option V)
abbrev VK:=V→Hp→Prop
abbrev TE:=St→Hp→VK→Prop
abbrev TT:=St→Hp→(Bool→Hp→Prop)→Prop
abbrev TA:=St→Hp→(List V→Hp→Prop)→Prop
structure Ends where
  nx:St→Hp→Prop
  rt:VK
  bk:St→Hp→Prop:=fun _ _=>False
  ct:St→Hp→Prop:=fun _ _=>False
abbrev TS:=Ends→St→Hp→Prop
def EP (X:Cx) (pins:List (Addr × Obj)) (σ : St) (Q:VK) (u:Value) (s':Shared) : Prop := ∃ v H',Inv X pins σ H' s'∧RelV v u∧Q v H'
def TP (X:Cx) (pins:List (Addr × Obj)) (σ : St) (Q:Bool→Hp→Prop) (b:Bool) (s':Shared) : Prop := ∃ H',Inv X pins σ H' s'∧Q b H'
def AP (X:Cx) (pins:List (Addr × Obj)) (σ : St) (Q:List V→Hp→Prop) (us:List Value) (s':Shared) : Prop := ∃ vs H',Inv X pins σ H' s'∧Vals vs us∧Q vs H'
def SP (X:Cx) (pins:List (Addr × Obj)) (D:Ends) (f:Flow) (s':Shared) : Prop :=
  match f with
  | .next => ∃ σ' H',Inv X pins σ' H' s'∧D.nx σ' H'
  | .brk => ∃ σ' H',Inv X pins σ' H' s'∧D.bk σ' H'
  | .cont => ∃ σ' H',Inv X pins σ' H' s'∧D.ct σ' H'
  | .ret u => ∃ v σ' H',Inv X pins σ' H' s'∧RelV v u∧D.rt v H'
def PE (X:Cx) (e:Expr) (t:TE) : Prop :=
  ∀ (pins:List (Addr × Obj)) (s:Shared) (σ : St) (H:Hp) (Q:VK),Inv X pins σ H s→t σ H Q→wpAny (model X.prog X.w) X.A (eval e X.env) (EP X pins σ Q) X.xe s
def PT (X:Cx) (e:Expr) (t:TT) : Prop :=
  ∀ (pins:List (Addr × Obj)) (s:Shared) (σ : St) (H:Hp) (Q:Bool→Hp→Prop),Inv X pins σ H s→t σ H Q→wpAny (model X.prog X.w) X.A (isTrue e X.env (eval e X.env)) (TP X pins σ Q) X.xe s
def PW (X:Cx) (e:Expr) (t:TT) : Prop :=
  ∀ (whole:Sem Value) (pins:List (Addr × Obj)) (s:Shared) (σ : St) (H:Hp) (Q:Bool→Hp→Prop),Inv X pins σ H s→t σ H Q→wpAny (model X.prog X.w) X.A (isTrue e X.env whole) (TP X pins σ Q) X.xe s
theorem PW.pt {X:Cx}{e:Expr}{t:TT} (h:PW X e t) : PT X e t:=h _
def PA (X:Cx) (es:List Expr) (t:TA) : Prop :=
  ∀ (pos:Pos) (pins:List (Addr × Obj)) (s:Shared) (σ : St) (H:Hp) (Q:List V→Hp→Prop),Inv X pins σ H s→t σ H Q→wpAny (model X.prog X.w) X.A (spliced (backTo pos (starEach es X.env))) (AP X pins σ Q) X.xe s
def PS (X:Cx) (st:Stmt) (t:TS) : Prop :=
  ∀ (pins:List (Addr × Obj)) (s:Shared) (σ : St) (H:Hp) (D:Ends),Inv X pins σ H s→t D σ H→wpAny (model X.prog X.w) X.A (exec st X.env) (SP X pins D) X.xe s
def PSs (X:Cx) (st:List Stmt) (t:TS) : Prop :=
  ∀ (pins:List (Addr × Obj)) (s:Shared) (σ : St) (H:Hp) (D:Ends),Inv X pins σ H s→t D σ H→wpAny (model X.prog X.w) X.A (execs st X.env) (SP X pins D) X.xe s
theorem thn {α : Type}{t:Sem α}{Q Q' : α → Shared→Prop}{M:Model}{A:Around}{E:Value→Shared→Prop}{s:Shared} (h:wpAny M A t Q E s) (hQ:∀ a s,Q a s→Q' a s) : wpAny M A t Q' E s:=wpAny_mono h hQ fun _ _ x=>x
end L2
namespace L2
open PySem PySem.Spec PyProof.Rows
section
variable {X:Cx}
def tVar (i:Nat) : TE:=fun σ H Q => ∃ v,σ[i]? = some (some v)∧Q v H
def tC (v:V) : TE:=fun _ H Q=>Q v H
theorem pe_var {i:Nat}{x:Str}{pos:Pos} (hN:X.N[i]? = some x) (hv:Vis X.env.scope x) (hd:(x == ("__debug__" : Str))=false:=by decide) (hcd:(x == ("__classdict__" : Str))=false:=by decide) : PE X (.Name x pos) (tVar i):=by
  intro pins s σ H Q I h
  obtain ⟨v,e,h⟩:=h
  obtain ⟨m,hn,hl⟩:=I.loc
  obtain ⟨u,r,l⟩:=hl i x v hN e hv
  have fin:EP X pins σ Q u s:=⟨v,H,I,r,h⟩
  rcases l with ⟨hk,hm⟩ | ⟨hk,c,hc,hcell⟩
  · exact wpAny_Name (wpAny_loadName_local I.ok.kind hk hn hm fin) hd
  · rcases hk with hk | hk
    · exact wpAny_Name (wpAny_loadName_cell I.ok.kind hk hc hcell fin) hd
    · exact wpAny_Name (wpAny_loadName_free I.ok.kind hk hc hcell fin hcd) hd
theorem pe_int {i j pos} : PE X (.Constant (.int i) j pos) (tC (.int i)):=fun _ _ _ H _ I h=>wpAny_Constant_int ⟨.int i,H,I.tok _,⟨_,rfl⟩,h⟩
theorem pe_bl {b j pos} : PE X (.Constant (.bool b) j pos) (tC (.bl b)):=fun _ _ _ H _ I h=>Constant_bool ⟨.bl b,H,I,rfl,h⟩
def Gl (X:Cx) (x:Str) : Prop:=X.env.kindOf x=some .globalImplicit
theorem ld_glob {E:Value→Shared→Prop}{pins:List (Addr × Obj)}{s:Shared} {σ : St}{H:Hp}{x:Str}{u:Value}{pos:Pos}{Q:Value→Shared→Prop} (I:Inv X pins σ H s) (hg:Gl X x) (hm:X.mg x=some u) (h:Q u s)
    (hd:(x == ("__debug__" : Str))=false:=by decide) : wpAny (model X.prog X.w) X.A (eval (.Name x pos) X.env) Q E s :=
  Calls.Name_function_global I.ok.kind hg (Calls.loadGlobal_global (by rw [I.ok.glob];exact I.mod.glob.keeps I.bk) hm h) hd
theorem ld_blt {E:Value→Shared→Prop}{pins:List (Addr × Obj)}{s:Shared} {σ : St}{H:Hp}{x:Str}{u:Value}{pos:Pos}{Q:Value→Shared→Prop} (I:Inv X pins σ H s) (hg:Gl X x) (hm:X.mg x=none) (hv:bootBuiltins x=some u) (h:Q u s)
    (hn:x ≠ "__name__" := by decide) (hd:(x == ("__debug__" : Str))=false:=by decide) : wpAny (model X.prog X.w) X.A (eval (.Name x pos) X.env) Q E s:=by
  obtain ⟨mb,h1,h2⟩:=I.mod.blt
  exact Calls.Name_function_global I.ok.kind hg (Calls.loadGlobal_builtin (by rw [I.ok.glob];exact I.mod.glob.keeps I.bk) hm (by rw [I.ok.blt];exact h1.keeps I.bk) ((h2 x hn).trans hv) h) hd
theorem pe_bltn {x:Str}{v:V}{u:Value}{pos:Pos} (hg:Gl X x) (hm:X.mg x=none) (hv:bootBuiltins x=some u) (r:RelV v u) (hn:x ≠ "__name__" := by decide) (hd:(x == ("__debug__" : Str))=false:=by decide) : PE X (.Name x pos) (tC v) :=
  fun _ _ _ H _ I h=>ld_blt I hg hm hv ⟨v,H,I,r,h⟩ hn hd
variable {a b:Expr}{ta tb:TE}{pos:Pos}
def PC (X:Cx) (op:CmpOp) (a b:Expr) (t:TE) : Prop :=
  ∀ (pins:List (Addr × Obj)) (s:Shared) (σ : St) (H:Hp) (Q:VK),Inv X pins σ H s→t σ H Q →
    wpAny (model X.prog X.w) X.A (eval a X.env) (fun v s₁=>wpAny (model X.prog X.w) X.A (eval b X.env) (fun u s₂=>wpAny (model X.prog X.w) X.A (compareOp op v u) (EP X pins σ Q) X.xe s₂) X.xe s₁) X.xe s
def tB (t:TE) : TT:=fun σ H Q=>t σ H fun x H1 => ∃ c,x = .bl c∧Q c H1
theorem pt_cmp {op:CmpOp}{t:TE} (h:PC X op a b t) (h1:behindInMarks op b=false:=by first | exact nobehind _ (by decide) (by decide) | rfl) : PT X (.Compare a [op] [b] pos) (tB t):=by
  intro pins s σ H Q I hw
  refine wpAny_isTrue_Compare1 (thn (h pins s σ H _ I hw) fun v s1 h1=>thn h1 fun u s2 h2=>thn h2 fun c s3 ⟨x,H1,I1,r1,q1⟩ => ?_) h1
  obtain ⟨d,rfl,q⟩:=q1
  cases r1
  exact wpAny_truthy_bool ⟨H1,I1,q⟩
theorem pt_val {e:Expr}{t:TE} (h:PE X e t) (he:∀ whole,isTrue e X.env whole=(do let v ← whole;standAt e.pos;holding [v] (truthy v)):=by intro _;rfl) : PT X e (tB t):=by
  intro pins s σ H Q I hw
  refine isTrue_plain (thn (h pins s σ H _ I hw) fun v s1 ⟨x,H1,I1,r1,q1⟩ => ?_) (he _)
  obtain ⟨d,rfl,q⟩:=q1
  cases r1
  exact wpAny_truthy_bool ⟨H1,I1,q⟩
variable {tA tB':TT}{rest:List Expr}
def tAnd (t u:TT) : TT:=fun σ H Q=>t σ H fun c H1=>if c=true then u σ H1 Q else Q false H1
def tOr (t u:TT) : TT:=fun σ H Q=>t σ H fun c H1=>if c=true then Q true H1 else u σ H1 Q
def tNot (t:TT) : TT:=fun σ H Q=>t σ H fun c H1=>Q (!c) H1
theorem pw_and1 (ha:PT X a tA) : PW X (.BoolOp .And [a] pos) tA:=by
  intro wh pins s σ H Q I h
  refine isTrue_and (thn (ha pins s σ H Q I h) fun c s1 e => ?_)
  cases c with
  | true=>exact isTrue_and_nil e
  | false=>exact e
theorem pw_or1 (ha:PT X a tA) : PW X (.BoolOp .Or [a] pos) tA:=by
  intro wh pins s σ H Q I h
  refine isTrue_or (thn (ha pins s σ H Q I h) fun c s1 e => ?_)
  cases c with
  | false=>exact isTrue_or_nil e
  | true=>exact e
theorem pw_and (ha:PT X a tA) (hb:PW X (.BoolOp .And (b :: rest) pos) tB') : PW X (.BoolOp .And (a :: b :: rest) pos) (tAnd tA tB'):=by
  intro wh pins s σ H Q I h
  refine isTrue_and (thn (ha pins s σ H _ I h) fun c s1 ⟨H1,I1,q1⟩ => ?_)
  cases c with
  | true=>exact hb wh pins s1 σ H1 Q I1 q1
  | false=>exact ⟨H1,I1,q1⟩
theorem pw_or (ha:PT X a tA) (hb:PW X (.BoolOp .Or (b :: rest) pos) tB') : PW X (.BoolOp .Or (a :: b :: rest) pos) (tOr tA tB'):=by
  intro wh pins s σ H Q I h
  refine isTrue_or (thn (ha pins s σ H _ I h) fun c s1 ⟨H1,I1,q1⟩ => ?_)
  cases c with
  | true=>exact ⟨H1,I1,q1⟩
  | false=>exact hb wh pins s1 σ H1 Q I1 q1
theorem pt_not (ha:PT X a tA) : PT X (.UnaryOp .Not a pos) (tNot tA):=by
  intro pins s σ H Q I h
  exact isTrue_not (ha pins s σ H (fun c H1=>Q (!c) H1) I h)
def tAndV (ta tb:TE) : TE:=fun σ H Q=>ta σ H fun x H1 => ∃ c,x = .bl c∧if c=true then tb σ H1 Q else Q (.bl false) H1
def tNotV (ta:TE) : TE:=fun σ H Q=>ta σ H fun x H1 => ∃ c,x = .bl c∧Q (.bl (!c)) H1
theorem pe_one {op}{t:TE} (h:PE X a t) : PE X (.BoolOp op [a] pos) t:=fun pins s σ H Q I hw=>BoolOp_one (h pins s σ H Q I hw)
theorem pe_and (ha:PE X a ta) (hb:PE X (.BoolOp .And (b :: rest) pos) tb) : PE X (.BoolOp .And (a :: b :: rest) pos) (tAndV ta tb):=by
  intro pins s σ H Q I h
  refine BoolOp_and (thn (ha pins s σ H _ I h) fun v s1 ⟨x,H1,I1,r1,q1⟩ => ?_)
  obtain ⟨c,rfl,q1⟩:=q1
  cases r1
  refine wpAny_truthy_bool ?_
  cases c with
  | true=>exact hb pins s1 σ H1 Q I1 q1
  | false=>exact ⟨.bl false,H1,I1,rfl,q1⟩
theorem pe_not (ha:PE X a ta) : PE X (.UnaryOp .Not a pos) (tNotV ta):=by
  intro pins s σ H Q I h
  refine UnaryOp_ (thn (ha pins s σ H _ I h) fun v s1 ⟨x,H1,I1,r1,q1⟩ => ?_)
  obtain ⟨c,rfl,q1⟩:=q1
  cases r1
  exact not_of (wpAny_truthy_bool ⟨.bl (!c),H1,I1,rfl,q1⟩)
end
end L2
namespace L2
open PySem PySem.Spec PyProof.Rows
def SqL (K:PySem.W.Frag) (H:Hp) (a:Addr) (xs:List V) : Prop :=
  Rd H a (.lst xs) ∨
    ∃ (o:Obj) (its:Array Value) (n:Nat),K.lookup a=some o∧o.cls = .type "list" ∧ o.dict=none∧o.data = .seq its n∧its.size≤sizeLine∧Vals xs its.toList
def SqT (K:PySem.W.Frag) (H:Hp) (a:Addr) (xs:List V) : Prop :=
  Rd H a (.tup xs) ∨
    ∃ (o:Obj) (its:Array Value) (n:Nat),K.lookup a=some o∧o.cls = .type "tuple" ∧ o.data = .seq its n∧its.size≤sizeLine∧Vals xs its.toList
def absV:Value→Option V
  | .none=>some .non
  | .bool b=>some (.bl b)
  | .int i _=>some (.int i)
  | .str x _=>some (.str x)
  | .bytes b _=>some (.byt b)
  | .float b _=>some (.flt b)
  | .ref a=>some (.ref a)
  | .type n=>some (.ty n)
  | _=>none
theorem RelV.abs {x:V}{u:Value} (r:RelV x u) : absV u=some x:=by
  cases x with
  | non=>cases r;rfl
  | bl _=>cases r;rfl
  | int _=>obtain ⟨t,rfl⟩:=r;rfl
  | str _=>obtain ⟨t,rfl⟩:=r;rfl
  | byt _=>obtain ⟨t,rfl⟩:=r;rfl
  | flt _=>obtain ⟨t,rfl⟩:=r;rfl
  | ref _=>cases r;rfl
  | ty _=>cases r;rfl
theorem RelV.inj {x y:V}{u:Value} (r:RelV x u) (q:RelV y u) : x=y:=Option.some.inj (r.abs.symm.trans q.abs)
theorem Vals.inj {xs ys:List V}{us:List Value} (h:Vals xs us) (h':Vals ys us) : xs=ys:=by
  induction h generalizing ys with
  | nil=>cases h';rfl
  | cons r t ih=>cases h' with | cons r' t'=>rw [r.inj r',ih t']
section
variable {X:Cx}{pins:List (Addr × Obj)} {σ : St}{H:Hp}{s:Shared}{a:Addr}{xs ys:List V}
theorem SqL.of {K:PySem.W.Frag} (h:H a=some (.lst xs)) : SqL K H a xs := .inl (.inl h)
theorem SqT.of {K:PySem.W.Frag} (h:H a=some (.tup xs)) : SqT K H a xs := .inl (.inl h)
theorem Inv.list (I:Inv X pins σ H s) (h:SqL X.K H a xs) : ∃ its:List Value,Vals xs its∧PlainL s.heap a its.toArray∧xs.length≤sizeLine:=by
  rcases h with h | ⟨o,its,n,hk,hc,hd,hs,hz,r⟩
  · obtain ⟨z,its,n,r,e⟩:=h.ok I.hok
    exact ⟨its,r,⟨_,n,e,rfl,rfl,rfl⟩,z⟩
  · refine ⟨its.toList,r,⟨o,n,I.kIn a o hk,hc,hd,by simpa using hs⟩,?_⟩
    have e:=r.length
    simp only [Array.length_toList] at e
    omega
theorem Inv.tuple (I:Inv X pins σ H s) (h:SqT X.K H a xs) : ∃ its:List Value,Vals xs its∧IsTup s.heap a its.toArray∧xs.length≤sizeLine:=by
  rcases h with h | ⟨o,its,n,hk,hc,hs,hz,r⟩
  · obtain ⟨z,its,r,p⟩:=h.ok I.hok
    exact ⟨its,r,p,z⟩
  · refine ⟨its.toList,r,⟨o,I.kIn a o hk,hc,n,by simpa using hs⟩,?_⟩
    have e:=r.length
    simp only [Array.length_toList] at e
    omega
theorem Inv.list_inj (I:Inv X pins σ H s) (h:SqL X.K H a xs) (h':SqL X.K H a ys) : xs=ys:=by
  obtain ⟨its,r,⟨o,n,e,_,_,d⟩,_⟩:=I.list h
  obtain ⟨its',r',⟨o',n',e',_,_,d'⟩,_⟩:=I.list h'
  rw [e] at e';cases e'
  rw [d] at d'
  injection d' with d1 _
  have:its=its':=by simpa using congrArg Array.toList d1
  subst this
  exact r.inj r'
theorem Inv.tuple_inj (I:Inv X pins σ H s) (h:SqT X.K H a xs) (h':SqT X.K H a ys) : xs=ys:=by
  obtain ⟨its,r,⟨o,e,_,n,d⟩,_⟩:=I.tuple h
  obtain ⟨its',r',⟨o',e',_,n',d'⟩,_⟩:=I.tuple h'
  rw [e] at e';cases e'
  rw [d] at d'
  injection d' with d1 _
  have:its=its':=by simpa using congrArg Array.toList d1
  subst this
  exact r.inj r'
end
abbrev Cx.wish (X:Cx) (E:Value→Shared→Prop) : Cx:={ X with xe:=E }
abbrev Cx.nox (X:Cx) : Cx:=X.wish fun _ _=>False
theorem Cx.Ok.wish {X:Cx} (ok:X.Ok) (E:Value→Shared→Prop) : (X.wish E).Ok :=
  ⟨ok.mod,ok.kind,ok.glob,ok.blt,ok.above,ok.inj,ok.has,ok.cab,ok.hd,ok.frames,ok.stk,ok.exf,ok.bs,ok.bsz,ok.noex,ok.exfs,ok.funs,ok.frf⟩
theorem Cx.Ok.unwish {X:Cx}{E:Value→Shared→Prop} (ok:(X.wish E).Ok) : X.Ok :=
  ⟨ok.mod,ok.kind,ok.glob,ok.blt,ok.above,ok.inj,ok.has,ok.cab,ok.hd,ok.frames,ok.stk,ok.exf,ok.bs,ok.bsz,ok.noex,ok.exfs,ok.funs,ok.frf⟩
section
variable {X:Cx}{pins:List (Addr × Obj)} {σ : St}{H:Hp}{s:Shared}{E:Value→Shared→Prop}
theorem Inv.wish (I:Inv X pins σ H s) (E:Value→Shared→Prop) : Inv (X.wish E) pins σ H s:=⟨I.ok.wish E,I.os,I.bare,I.base,I.loc,I.cell,I.free,I.freeC,I.pin,I.hok,I.len⟩
theorem Inv.unwish (I:Inv (X.wish E) pins σ H s) : Inv X pins σ H s:=⟨I.ok.unwish,I.os,I.bare,I.base,I.loc,I.cell,I.free,I.freeC,I.pin,I.hok,I.len⟩
theorem SP.unwish {D:Ends}{f:Flow}{s':Shared} (h:SP (X.wish E) pins D f s') : SP X pins D f s':=by
  cases f with
  | next=>obtain ⟨σ',H',I,q⟩:=h;exact ⟨σ',H',I.unwish,q⟩
  | brk=>obtain ⟨σ',H',I,q⟩:=h;exact ⟨σ',H',I.unwish,q⟩
  | cont=>obtain ⟨σ',H',I,q⟩:=h;exact ⟨σ',H',I.unwish,q⟩
  | ret u=>obtain ⟨v,σ',H',I,r,q⟩:=h;exact ⟨v,σ',H',I.unwish,r,q⟩
theorem PSs.nox {st:List Stmt}{t:TS} (h:PSs X.nox st t) : PSs X st t:=fun pins s σ H D I hw =>
  wpAny_mono (h pins s σ H D (I.wish _) hw) (fun _ _ q=>q.unwish) fun _ _ z=>False.elim z
end
section
variable {X:Cx}{st:Stmt}{rest:List Stmt}{t u:TS}{e:Expr}{te:TE}{pos:Pos}
def tNext:TS:=fun D σ H=>D.nx σ H
def tSeq (t u:TS) : TS:=fun D σ H=>t { D with nx:=u D } σ H
theorem pss_nil:PSs X [] tNext:=fun _ _ σ H _ I h=>wpAny_execs_nil ⟨σ,H,I,h⟩
theorem pss_cons (h1:PS X st t) (h2:PSs X rest u) : PSs X (st :: rest) (tSeq t u):=by
  intro pins s σ H D I h
  refine wpAny_execs_cons (thn (h1 pins s σ H { D with nx:=u D } I h) fun f s1 q => ?_)
  cases f with
  | next =>
    obtain ⟨σ',H',I',q⟩:=q
    exact h2 pins s1 σ' H' D I' q
  | ret v=>exact q
  | brk=>exact q
  | cont=>exact q
theorem pss_one (h1:PS X st t) : PSs X [st] t:=by
  intro pins s σ H D I h
  refine wpAny_execs_cons (thn (h1 pins s σ H D I h) fun f s1 q => ?_)
  cases f with
  | next=>exact wpAny_execs_nil q
  | ret v=>exact q
  | brk=>exact q
  | cont=>exact q
theorem Inv.quiet {pins:List (Addr × Obj)} {σ : St}{H:Hp}{s:Shared} (I:Inv X pins σ H s) : interactive X.env=false:=by simp [interactive,I.ok.kind]
def tDrop (te:TE) : TS:=fun D σ H=>te σ H fun _ H1=>D.nx σ H1
theorem ps_expr (he:PE X e te) (hs:swapsWith e none pos.line X.env=pure false:=by rfl) : PS X (.Expr e pos) (tDrop te):=by
  intro pins s σ H D I h
  exact wpAny_Expr_any (thn (he pins s σ H _ I h) fun v s1 ⟨x,H1,I1,r1,q1⟩=>⟨σ,H1,I1,q1⟩) I.quiet hs
def tRet (te:TE) : TS:=fun D σ H=>te σ H D.rt
theorem ps_ret (he:PE X e te) : PS X (.Return (some e) pos) (tRet te):=by
  intro pins s σ H D I h
  exact wpAny_Return_some (thn (he pins s σ H _ I h) fun v s1 ⟨x,H1,I1,r1,q1⟩=>⟨x,σ,H1,I1,r1,q1⟩)
def tIfS (c:TT) (t u:TS) : TS:=fun D σ H=>c σ H fun b H1=>if b=true then t D σ H1 else u D σ H1
theorem ps_if {c:Expr}{a b:List Stmt}{tc:TT} (hc:PT X c tc) (ha:PSs X a t) (hb:PSs X b u) : PS X (.If c a b pos) (tIfS tc t u):=by
  intro pins s σ H D I h
  refine wpAny_If (thn (hc pins s σ H _ I h) fun d s1 ⟨H1,I1,q1⟩ => ?_)
  cases d with
  | true=>exact ha pins s1 σ H1 D I1 q1
  | false=>exact hb pins s1 σ H1 D I1 q1
end
abbrev TG:=V→St→Hp→(St→Hp→Prop)→Prop
abbrev TGs:=List V→St→Hp→(St→Hp→Prop)→Prop
def PG (X:Cx) (target:Expr) (t:TG) : Prop :=
  ∀ (pins:List (Addr × Obj)) (s:Shared) (σ : St) (H:Hp) (v:V) (u:Value) (Q:St→Hp→Prop),Inv X pins σ H s→RelV v u→t v σ H Q →
    wpAny (model X.prog X.w) X.A (assign target X.env u) (fun _ s' => ∃ σ' H',Inv X pins σ' H' s'∧Q σ' H') X.xe s
def PGs (X:Cx) (ts:List Expr) (t:TGs) : Prop :=
  ∀ (pins:List (Addr × Obj)) (s:Shared) (σ : St) (H:Hp) (vs:List V) (us:List Value) (Q:St→Hp→Prop),Inv X pins σ H s→Vals vs us→t vs σ H Q →
    wpAny (model X.prog X.w) X.A (assignInOrder ((assignEach ts X.env).map (·.2)) us) (fun _ s' => ∃ σ' H',Inv X pins σ' H' s'∧Q σ' H') X.xe s
section
variable {X:Cx}{pos:Pos}
def gName (i:Nat) : TG:=fun v σ H Q=>Q (σ.set i (some v)) H
theorem pg_name {i:Nat}{x:Str} (hN:X.N.Nodup) (hi:X.N[i]? = some x) (hx:Loc X.env.scope x) (hf:X.fn x=true∨X.env.scope.names.lookup x=some .local:=by first | exact .inl rfl | exact .inr rfl | assumption) : PG X (.Name x pos) (gName i):=by
  intro pins s σ H v u Q I r h
  exact wpAny_assign_Name (store_ok I hN hi hx r (fun s' I'=>⟨_,H,I',h⟩) hf)
def gNil:TGs:=fun vs σ H Q=>vs=[]∧Q σ H
def gCons (t:TG) (u:TGs) : TGs:=fun vs σ H Q => ∃ v r,vs=v :: r∧t v σ H fun σ' H'=>u r σ' H' Q
theorem pgs_nil:PGs X [] gNil:=by
  intro pins s σ H vs us Q I r h
  obtain ⟨e,h⟩:=h
  subst e
  cases r
  exact assignInOrder_nil ⟨σ,H,I,h⟩
theorem pgs_cons {e:Expr}{es:List Expr}{t:TG}{u:TGs} (h1:PG X e t) (h2:PGs X es u)
    (hs:(assignEach (e :: es) X.env).map (·.2)=assign e X.env :: (assignEach es X.env).map (·.2):=by rfl) : PGs X (e :: es) (gCons t u):=by
  intro pins s σ H vs us Q I r h
  obtain ⟨v,vr,e1,h⟩:=h
  subst e1
  cases r with
  | cons r rr =>
    rw [hs]
    refine assignInOrder_cons (thn (h1 pins s σ H _ _ _ I r h) fun _ s1 ⟨σ1,H1,I1,q1⟩ => ?_)
    exact h2 pins s1 σ1 H1 _ _ Q I1 rr q1
def gTup (K:PySem.W.Frag) (n:Nat) (t:TGs) : TG:=fun v σ H Q => ∃ a xs,v = .ref a∧SqT K H a xs∧xs.length=n∧t xs σ H Q
theorem pg_tup {es:List Expr}{k:Nat}{t:TGs}{n:Nat} (hc:X.calm=true) (h:PGs X es t)
    (hn:(assignEach es X.env).length=n:=by rfl) (hst:(assignEach es X.env).findIdx? (·.1)=none:=by rfl) : PG X (.Tuple es k pos) (gTup X.K n t):=by
  intro pins s σ H v u Q I r hw
  obtain ⟨a,xs,e1,hq,hl,hw⟩:=hw
  subst e1
  cases r
  obtain ⟨its,rv,ht,hz⟩:=I.tuple hq
  refine assign_Tuple_tuple (I.ok.hd hc) ht (by simp [hn,← hl,rv.length]) hst fun h' hx => ?_
  have I1:Inv X pins σ H { s with heap:=h' }:=I.kept (t':=s.toks) fun b o e=>hx b o (Nat.ne_of_lt (Heap.lt_size e)) e
  exact h pins _ σ H xs _ Q I1 (by simpa using rv) hw
def tAsg (te:TE) (g:TG) : TS:=fun D σ H=>te σ H fun x H1=>g x σ H1 D.nx
theorem ps_set {i:Nat}{x:Str}{e:Expr}{te:TE}{pos':Pos} (hN:X.N.Nodup) (hi:X.N[i]? = some x) (hx:Loc X.env.scope x) (he:PE X e te) (hs:swapsWith e (some (.Name x pos')) pos.line X.env=pure false:=by rfl) (hf:X.fn x=true∨X.env.scope.names.lookup x=some .local:=by first | exact .inl rfl | exact .inr rfl | assumption) :
    PS X (.Assign [.Name x pos'] e pos) (tAsg te (gName i)):=by
  intro pins s σ H D I h
  refine wpAny_Assign_Name (thn (he pins s σ H _ I h) fun v s1 ⟨y,H1,I1,r1,q1⟩ => ?_) hs
  exact store_ok I1 hN hi hx r1 (fun s2 I2=>⟨_,H1,I2,q1⟩) hf
end
section
variable {X:Cx}{pos:Pos}
def tWhile (c:TT) (tb:TS) : TS:=fun D σ H => ∃ W:Nat→St→Hp→Prop,(∃ m,W m σ H)∧∀ m σ H,W m σ H →
  c σ H fun b H1=>if b=true then ∃ N:St→Hp→Prop,(∀ σ' H',N σ' H'→∃ m',m'<m∧W m' σ' H')∧tb { D with nx:=N,ct:=N,bk:=D.nx } σ H1 else D.nx σ H1
theorem ps_while {c:Expr}{body:List Stmt}{tc:TT}{tb:TS} (hp:PassesOwn (model X.prog X.w) X.A X.env X.xe) (hc:PT X c tc) (hb:PSs X body tb) : PS X (.While c body [] pos) (tWhile tc tb):=by
  intro pins s σ H D I h
  obtain ⟨W,⟨m0,w0⟩,turn⟩:=h
  refine wpAny_While (codeAny_whileLoop (fun n s' => ∃ σ' H',Inv X pins σ' H' s'∧W n σ' H') ?_ m0 ⟨σ,H,I,w0⟩)
  rintro n s1 ⟨σ1,H1,I1,w1⟩
  refine wpAny_passesOwn hp (thn (hc pins s1 σ1 H1 _ I1 (turn n σ1 H1 w1)) fun b s2 ⟨H2,I2,q2⟩ => ?_)
  cases b with
  | true =>
    obtain ⟨N,hN,q2⟩:=q2
    rw [if_pos rfl]
    refine wpAny_passesOwn hp (thn (hb pins s2 σ1 H2 _ I2 q2) fun f s3 q3 => ?_)
    cases f with
    | next =>
      obtain ⟨σ3,H3,I3,n3⟩:=q3
      obtain ⟨m',hm,w3⟩:=hN σ3 H3 n3
      exact ⟨m',hm,σ3,H3,I3,w3⟩
    | cont =>
      obtain ⟨σ3,H3,I3,n3⟩:=q3
      obtain ⟨m',hm,w3⟩:=hN σ3 H3 n3
      exact ⟨m',hm,σ3,H3,I3,w3⟩
    | brk=>exact q3
    | ret v=>exact q3
  | false =>
    rw [if_neg Bool.false_ne_true]
    exact wpAny_execs_nil ⟨σ1,H2,I2,q2⟩
end
structure It where
  go:Nat→Hp→Prop
  yld:Nat→Hp→V→Hp→Prop
  stop:Nat→Hp→Prop
def FpOk (X:Cx) (pins:List (Addr × Obj)) (H:Hp) (b:Addr) : Prop :=
  H b=none∧b≠X.env.locals∧b ∉ X.fs∧(b∈X.ex∨X.s₀.heap.objs.size≤b)∧(∀ x c,X.env.cells.lookup x=some c→c≠b)∧∀ p∈X.pn++pins,p.1≠b
theorem Inv.fpOk {X:Cx}{pins:List (Addr × Obj)} {σ : St}{H H':Hp}{s:Shared}{b:Addr} (I:Inv X pins σ H s) (hb:s.heap.objs.size≤b) (hn:H' b=none) : FpOk X pins H' b:=by
  refine ⟨hn,Nat.ne_of_gt (Nat.lt_of_lt_of_le I.lt hb),I.nofs hb,.inr (Nat.le_trans I.sz hb),fun x c e z => ?_,fun p hp z => ?_⟩
  · obtain ⟨v,q⟩:=I.cell x c e
    exact absurd (Nat.lt_of_lt_of_le q.lt (by rw [z];exact hb)) (Nat.lt_irrefl _)
  · exact absurd (Nat.lt_of_lt_of_le (Heap.lt_size (I.pin p hp).1) (by rw [z];exact hb)) (Nat.lt_irrefl _)
structure Turn (P:Program) (w:World) (K:PySem.W.Frag) (tg:Expr) (J:It) (fp:List Addr) (it:Addr) (tn:Nat→Heap→Prop) : Prop where
  mem:it∈fp
  obj:∀ i h,tn i h→∀ b∈fp,∃ o,h.get? b=some o∧∀ v,o.data ≠ .cell v
  keep:∀ i h h',tn i h→(∀ b∈fp,∀ o,h.get? b=some o→h'.get? b=some o)→tn i h'
  item:∀ (X:Cx),X.prog=P→X.w=w→X.K=K→X.calm=true→∀ (i:Nat) (pins:List (Addr × Obj)) (s:Shared) (σ : St) (H:Hp) (E:Value→Shared→Prop),Inv X pins σ H s→(∀ b∈fp,FpOk X pins H b)→tn i s.heap→J.go i H →
    wpAny (model P w) X.A (pyNext (.ref it)) (fun r s1 => ∃ u,r=some u ∧
      wpAny (model P w) X.A (letOwnedTupleGo tg (.ref it) u) (fun _ s2 => ∃ x H',Inv X pins σ H' s2∧RelV x u∧J.yld i H x H'∧tn (i+1) s2.heap∧∀ b∈fp,H' b=none) E s1) E s
  done:∀ (X:Cx),X.prog=P→X.w=w→X.K=K→X.calm=true→∀ (i:Nat) (pins:List (Addr × Obj)) (s:Shared) (σ : St) (H:Hp) (E:Value→Shared→Prop),Inv X pins σ H s→(∀ b∈fp,FpOk X pins H b)→tn i s.heap→J.stop i H →
    wpAny (model P w) X.A (pyNext (.ref it)) (fun r s1=>r=none∧Inv X pins σ H s1) E s
  self:∀ (A:Around) (i:Nat) (s:Shared) (Q:Value→Shared→Prop) (E:Value→Shared→Prop),tn i s.heap→Q (.ref it) s→wpAny (model P w) A (pyIter (.ref it)) Q E s
abbrev TI:=St→Hp→(It→Hp→Prop)→Prop
def PIE (X:Cx) (pins:List (Addr × Obj)) (σ : St) (tg:Expr) (R:It→Hp→Prop) (itv:Value) (s2:Shared) : Prop :=
  ∃ (it:Addr) (fp:List Addr) (tn:Nat→Heap→Prop) (J:It) (H':Hp),itv = .ref it∧Inv X pins σ H' s2∧Turn X.prog X.w X.K tg J fp it tn∧tn 0 s2.heap∧(∀ b∈fp,FpOk X pins H' b)∧R J H'
def PI (X:Cx) (tg iter:Expr) (wi:TI) : Prop :=
  ∀ (pins:List (Addr × Obj)) (s:Shared) (σ : St) (H:Hp) (R:It→Hp→Prop),Inv X pins σ H s→wi σ H R →
    wpAny (model X.prog X.w) X.A (eval iter X.env) (fun v s1=>wpAny (model X.prog X.w) X.A (pyIter v) (PIE X pins σ tg R) X.xe s1) X.xe s
theorem go_of {M:Model}{A:Around}{E:Value→Shared→Prop}{s:Shared}{tg:Expr}{it:Addr}{u:Value}{o:Obj}{n:String}{vs:Array Value}{Q:Unit→Shared→Prop} (ho:s.heap.get? it=some o) (hc:o.cls = .type n) (hd:o.data = .fields vs)
    (hn : ["enumerate", "zip", "dict_itemiterator", "dict_reverseitemiterator", "odict_iterator", "itertools.zip_longest", "itertools.pairwise"].contains n=false) (hQ:Q () s) : wpAny M A (letOwnedTupleGo tg (.ref it) u) Q E s:=by
  unfold letOwnedTupleGo
  cases tg <;> first
    | exact wpAny_pure hQ
    | (cases u <;> first
        | exact wpAny_pure hQ
        | (refine wpAny_bind (wpAny_load ho ?_)
           rw [hc,hd]
           show wpAny M A (if (["enumerate", "zip", "dict_itemiterator", "dict_reverseitemiterator", "odict_iterator", "itertools.zip_longest", "itertools.pairwise"].contains n && vs[0]? == some (rawInt _))=true then _ else _) Q E s
           rw [if_neg (by intro h;rw [hn,Bool.false_and] at h;cases h)]
           exact wpAny_pure hQ))
def Itl (K:PySem.W.Frag) (a:Addr) : It :=
  ⟨fun i H => ∃ xs x,SqL K H a xs∧xs[i]? = some x,fun i H x H'=>H'=H∧∀ xs,SqL K H a xs→xs[i]? = some x,fun i H => ∃ xs,SqL K H a xs∧xs.length≤i⟩
def Itt (K:PySem.W.Frag) (a:Addr) : It :=
  ⟨fun i H => ∃ xs x,SqT K H a xs∧xs[i]? = some x,fun i H x H'=>H'=H∧∀ xs,SqT K H a xs→xs[i]? = some x,fun i H => ∃ xs,SqT K H a xs∧xs.length≤i⟩
def Itr (lo:Int) (n:Nat) : It:=⟨fun i _=>i<n,fun i H x H'=>H'=H∧x = .int (lo+i),fun i _=>n≤i⟩
theorem turn_list {P:Program}{w:World}{K:PySem.W.Frag}{tg:Expr} (a it:Addr) : Turn P w K tg (Itl K a) [it] it (fun i h=>h.IsListIter it a i) where
  mem:=by simp
  obj:=fun i h st b hb=>by
    have e:b=it:=by simpa using hb
    subst e
    obtain ⟨o,e,c,d⟩:=st
    exact ⟨o,e,fun v z=>by rw [d] at z;cases z⟩
  keep:=fun i h h' st k=>st.at fun o e=>k it (by simp) o e
  item:=by
    intro X hP hw hK hc i pins s σ H E I hf st hg
    subst hP hw hK
    obtain ⟨xs,x,hq,hx⟩:=hg
    obtain ⟨its,rv,p,hz⟩:=I.list hq
    obtain ⟨u,hu,ru⟩:=rv.get hx
    obtain ⟨f0,f1,f2,f3,f4,f5⟩:=hf it (by simp)
    refine wpAny_pyNext_list_item st p.isList (x:=u) (by simpa using hu) fun h' st' sb => ?_
    have I1:Inv X pins σ H { s with heap:=h' }:=I.turned (t':=s.toks) (fun b o hb e=>(sb.2 b hb).trans e) f0 f1 f3 f4 f5
    obtain ⟨o,e,c,d⟩:=id st'
    exact ⟨u,rfl,go_of (s:={ s with heap:=h' }) e c d (by decide) ⟨x,H,I1,ru,⟨rfl,fun ys hy=>by rw [I.list_inj hy hq];exact hx⟩,st',fun b hb=>(hf b hb).1⟩⟩
  done:=by
    intro X hP hw hK hc i pins s σ H E I hf st hg
    subst hP hw hK
    obtain ⟨xs,hq,hx⟩:=hg
    obtain ⟨its,rv,p,hz⟩:=I.list hq
    obtain ⟨f0,f1,f2,f3,f4,f5⟩:=hf it (by simp)
    have hl:=rv.length
    exact wpAny_pyNext_list_end (I.ok.hd hc) st p.isList (by simp;omega) fun h' eb=>⟨rfl,I.turned (t':=s.toks) (fun b o hb e=>eb b o hb e) f0 f1 f3 f4 f5⟩
  self:=fun _ _ _ _ _ st h=>wpAny_pyIter_listiter st h
theorem turn_tuple {P:Program}{w:World}{K:PySem.W.Frag}{tg:Expr} (a it:Addr) : Turn P w K tg (Itt K a) [it] it (fun i h=>h.IsTupleIter it a i) where
  mem:=by simp
  obj:=fun i h st b hb=>by
    have e:b=it:=by simpa using hb
    subst e
    obtain ⟨o,e,c,d⟩:=st
    exact ⟨o,e,fun v z=>by rw [d] at z;cases z⟩
  keep:=fun i h h' st k=>st.at fun o e=>k it (by simp) o e
  item:=by
    intro X hP hw hK hc i pins s σ H E I hf st hg
    subst hP hw hK
    obtain ⟨xs,x,hq,hx⟩:=hg
    obtain ⟨its,rv,p,hz⟩:=I.tuple hq
    obtain ⟨u,hu,ru⟩:=rv.get hx
    obtain ⟨f0,f1,f2,f3,f4,f5⟩:=hf it (by simp)
    refine wpAny_pyNext_tuple_item st (show s.heap.IsTuple a its.toArray from p) (x:=u) (by simpa using hu) fun h' st' sb => ?_
    have I1:Inv X pins σ H { s with heap:=h' }:=I.turned (t':=s.toks) (fun b o hb e=>(sb.2 b hb).trans e) f0 f1 f3 f4 f5
    obtain ⟨o,e,c,d⟩:=id st'
    exact ⟨u,rfl,go_of (s:={ s with heap:=h' }) e c d (by decide) ⟨x,H,I1,ru,⟨rfl,fun ys hy=>by rw [I.tuple_inj hy hq];exact hx⟩,st',fun b hb=>(hf b hb).1⟩⟩
  done:=by
    intro X hP hw hK hc i pins s σ H E I hf st hg
    subst hP hw hK
    obtain ⟨xs,hq,hx⟩:=hg
    obtain ⟨its,rv,p,hz⟩:=I.tuple hq
    obtain ⟨f0,f1,f2,f3,f4,f5⟩:=hf it (by simp)
    have hl:=rv.length
    exact wpAny_pyNext_tuple_end (I.ok.hd hc) st (show s.heap.IsTuple a its.toArray from p) (by simp;omega) fun h' eb=>⟨rfl,I.turned (t':=s.toks) (fun b o hb e=>eb b o hb e) f0 f1 f3 f4 f5⟩
  self:=fun _ _ _ _ _ st h=>wpAny_pyIter_tupleiter st h
theorem turn_range {P:Program}{w:World}{K:PySem.W.Frag}{tg:Expr} (it:Addr) (lo:Int) (n:Nat) : Turn P w K tg (Itr lo n) [it] it (fun i h=>IsRangeIter h it (lo+(i:Nat) * 1) ((n:Int)-(i:Nat)) 1) where
  mem:=by simp
  obj:=fun i h st b hb=>by
    have e:b=it:=by simpa using hb
    subst e
    exact ⟨_,st,fun v z=>by
      have z':Data.fields _=Data.cell v:=z
      cases z'⟩
  keep:=fun i h h' st k=>k it (by simp) _ st
  item:=by
    intro X hP hw hK hc i pins s σ H E I hf st hg
    subst hP hw hK
    obtain ⟨f0,f1,f2,f3,f4,f5⟩:=hf it (by simp)
    have W:=Walks.range (prog:=X.prog) (w:=X.w) (I.ok.hd hc) it lo 1 n
    refine W.item i s _ _ hg st fun v h' tk hv st' kk => ?_
    obtain ⟨t,rfl⟩:=hv
    have I1:Inv X pins σ H { s with heap:=h',toks:=tk }:=I.turned (fun b o hb e=>kk b o (by simpa using hb) e) f0 f1 f3 f4 f5
    refine ⟨_,rfl,go_of (s:={ s with heap:=h',toks:=tk }) (n := "range_iterator") st' rfl rfl (by decide) ⟨.int (lo+i),H,I1,⟨t,?_⟩,⟨rfl,rfl⟩,st',fun b hb=>(hf b hb).1⟩⟩
    rw [Int.mul_one]
  done:=by
    intro X hP hw hK hc i pins s σ H E I hf st hg
    subst hP hw hK
    obtain ⟨f0,f1,f2,f3,f4,f5⟩:=hf it (by simp)
    exact wpAny_pyNext_range_end (I.ok.hd hc) st (by have:n≤i:=hg;omega) fun h' eb=>⟨rfl,I.turned (t':=s.toks) (fun b o hb e=>eb b o hb e) f0 f1 f3 f4 f5⟩
  self:=fun _ _ _ _ _ st h=>wpAny_pyIter_rangeiter st h
end L2
namespace L2
open PySem PySem.Spec PyProof.Rows
section
variable {X:Cx}{tg:Expr}
def iList (K:PySem.W.Frag) (tl:TE) : TI:=fun σ H R=>tl σ H fun x H1 => ∃ a,x = .ref a∧(∃ xs,SqL K H1 a xs)∧R (Itl K a) H1
def iTup (K:PySem.W.Frag) (tl:TE) : TI:=fun σ H R=>tl σ H fun x H1 => ∃ a,x = .ref a∧(∃ xs,SqT K H1 a xs)∧R (Itt K a) H1
theorem pi_list {l:Expr}{tl:TE} (hl:PE X l tl) : PI X tg l (iList X.K tl):=by
  intro pins s σ H R I h
  refine thn (hl pins s σ H _ I h) fun v s1 ⟨x,H1,I1,r1,q1⟩ => ?_
  obtain ⟨a,e,⟨xs,hq⟩,q⟩:=q1
  subst e
  cases r1
  obtain ⟨its,rv,p,hz⟩:=I1.list hq
  refine wpAny_pyIter_list p.isList ?_
  refine ⟨s1.heap.objs.size,[s1.heap.objs.size],_,_,H1,rfl,I1.kept (t':=s1.toks) fun b o e=>Heap.get?_push_of_some _ e,turn_list a _,⟨_,Heap.get?_push_size _ rfl,rfl,rfl⟩,fun b hb => ?_,q⟩
  have e:b=s1.heap.objs.size:=by simpa using hb
  subst e
  exact I1.fpOk (Nat.le_refl _) (I1.hok.fresh (Nat.le_refl _))
theorem pi_tup {l:Expr}{tl:TE} (hl:PE X l tl) : PI X tg l (iTup X.K tl):=by
  intro pins s σ H R I h
  refine thn (hl pins s σ H _ I h) fun v s1 ⟨x,H1,I1,r1,q1⟩ => ?_
  obtain ⟨a,e,⟨xs,hq⟩,q⟩:=q1
  subst e
  cases r1
  obtain ⟨its,rv,p,hz⟩:=I1.tuple hq
  refine wpAny_pyIter_tuple (show s1.heap.IsTuple a its.toArray from p) ?_
  refine ⟨s1.heap.objs.size,[s1.heap.objs.size],_,_,H1,rfl,I1.kept (t':=s1.toks) fun b o e=>Heap.get?_push_of_some _ e,turn_tuple a _,⟨_,Heap.get?_push_size _ rfl,rfl,rfl⟩,fun b hb => ?_,q⟩
  have e:b=s1.heap.objs.size:=by simpa using hb
  subst e
  exact I1.fpOk (Nat.le_refl _) (I1.hok.fresh (Nat.le_refl _))
theorem range_it {pins:List (Addr × Obj)} {σ : St}{H:Hp}{s:Shared}{R:It→Hp→Prop}{E:Value→Shared→Prop}{lo hi:Int}{t u v:Tok}{tk:Nat} (I:Inv X pins σ H s) (h1 : -(2^62)≤lo) (h2:lo<2^62) (h3 : -(2^62)≤hi) (h4:hi<2^62)
    (q:R (Itr lo (hi-lo).toNat) H) : wpAny (model X.prog X.w) X.A (pyIter (.ref s.heap.objs.size)) (PIE X pins σ tg R) E { s with heap:=s.heap.push { cls := .type "range",data := .fields #[.int lo t,.int hi u,.int 1 v] },toks:=tk }:=by
  refine wpAny_pyIter_range (IsRange.new ..) (small_one h1 h2 h3 h4) ?_
  have I1:Inv X pins σ H { s with heap:=s.heap.push { cls := .type "range",data := .fields #[.int lo t,.int hi u,.int 1 v] },toks:=tk }:=I.kept fun b o e=>Heap.get?_push_of_some _ e
  refine ⟨(s.heap.push { cls := .type "range",data := .fields #[.int lo t,.int hi u,.int 1 v] }).objs.size,[(s.heap.push { cls := .type "range",data := .fields #[.int lo t,.int hi u,.int 1 v] }).objs.size],_,_,H,rfl,
    I1.kept (t':=tk) fun b o e=>Heap.get?_push_of_some _ e,turn_range _ lo (hi-lo).toNat,?_,fun b hb => ?_,q⟩
  · have e1:lo+((0:Nat) : Int) * 1=lo:=by simp
    have e2:(((hi-lo).toNat:Nat) : Int)-((0:Nat) : Int)=Builtin.Range.rangeSize lo hi 1:=by rw [rangeSize_one];split <;> omega
    show IsRangeIter _ _ (lo+((0:Nat) : Int) * 1) ((((hi-lo).toNat:Nat) : Int)-((0:Nat) : Int)) 1
    rw [e1,e2]
    exact Heap.get?_push_size _ rfl
  · have e:b=(s.heap.push { cls := .type "range",data := .fields #[.int lo t,.int hi u,.int 1 v] }).objs.size:=by simpa using hb
    subst e
    exact I1.fpOk (Nat.le_refl _) (I1.hok.fresh (Nat.le_refl _))
def iRng1 (ta:TA) : TI:=fun σ H R=>ta σ H fun vs H1 => ∃ j:Int,vs=[.int j] ∧ -(2^62)≤j∧j<2^62∧R (Itr 0 j.toNat) H1
theorem pi_range1 {a:Expr}{ta:TA}{p pos:Pos} (hg:Gl X "range") (hm:X.mg "range" = none) (ha:PA X [a] ta) (hs:starEach [a] X.env=[(false,eval a X.env)]:=by rfl) : PI X tg (.Call (.Name "range" p) [a] [] pos) (iRng1 ta):=by
  intro pins s σ H R I h
  refine Call_ (ld_blt I hg hm boot_range (PyProof.Rows.callWith_type1 (thn (ha pos pins s σ H _ I h) fun us s1 ⟨vs,H1,I1,r1,q1⟩ => ?_) hs rfl))
  obtain ⟨j,e,q1,q2,q⟩:=q1
  subst e
  cases r1 with
  | cons r rr =>
    cases rr
    obtain ⟨t,rfl⟩:=r
    exact call_range_1 (range_it I1 (by omega) (by omega) q1 q2 (by simpa using q))
def tFor (wi:TI) (g:TG) (tb:TS) : TS:=fun D σ H=>wi σ H fun J H1 => ∃ W:Nat→Nat→St→Hp→Prop,(∃ m,W 0 m σ H1)∧∀ i m σ H,W i m σ H →
  (J.stop i H∧D.nx σ H)∨(J.go i H∧∃ N:St→Hp→Prop,(∀ σ' H',N σ' H'→∃ m',m'<m∧W (i+1) m' σ' H')∧∀ x H',J.yld i H x H'→g x σ H' fun σ2 H2=>tb { D with nx:=N,ct:=N,bk:=D.nx } σ2 H2)
def pinsAt (fp:List Addr) (h:Heap) : List (Addr × Obj):=fp.filterMap fun b=>(h.get? b).map fun o=>(b,o)
theorem mem_pinsAt {fp:List Addr}{h:Heap}{b:Addr}{o:Obj} (hb:b∈fp) (e:h.get? b=some o) : (b,o)∈pinsAt fp h:=List.mem_filterMap.mpr ⟨b,hb,by rw [e];rfl⟩
theorem of_pinsAt {fp:List Addr}{h:Heap}{p:Addr × Obj} (hp:p∈pinsAt fp h) : p.1∈fp∧h.get? p.1=some p.2:=by
  obtain ⟨b,hb,e⟩:=List.mem_filterMap.mp hp
  cases q:h.get? b with
  | none=>rw [q] at e;cases e
  | some o =>
    rw [q] at e
    have e':(b,o)=p:=Option.some.inj e
    subst e'
    exact ⟨hb,q⟩
theorem Inv.pinned {pins:List (Addr × Obj)} {σ : St}{H:Hp}{s:Shared}{fp:List Addr} (I:Inv X pins σ H s) (hf:∀ b∈fp,FpOk X pins H b) (ho:∀ b∈fp,∃ o,s.heap.get? b=some o∧∀ v,o.data ≠ .cell v) : Inv X (pins++pinsAt fp s.heap) σ H s :=
  I.pins_of fun p hp=>(List.mem_append.mp hp).elim (fun z=>I.pin p (List.mem_append_right _ z)) fun z=>by
    obtain ⟨hb,e⟩:=of_pinsAt z
    obtain ⟨f0,f1,f2,_⟩:=hf p.1 hb
    obtain ⟨o,e',d⟩:=ho p.1 hb
    rw [e] at e';cases e'
    exact ⟨e,f0,f1,f2,d⟩
theorem Inv.unpinned {pins pl:List (Addr × Obj)} {σ : St}{H:Hp}{s:Shared} (I:Inv X (pins++pl) σ H s) : Inv X pins σ H s:=I.pins_of fun p hp=>I.pin p (List.mem_append_right _ (List.mem_append_left _ hp))
theorem ps_for {iter:Expr}{body:List Stmt}{wi:TI}{g:TG}{tb:TS}{pos:Pos} (hp:PassesOwn (model X.prog X.w) X.A X.env X.xe) (hc:X.calm=true) (hi:PI X tg iter wi) (hg:PG X tg g) (hb:PSs X body tb)
    (hs:∀ x,foldedSetIterable iter X.env x=pure x:=by intro _;rfl) : PS X (.For tg iter body [] pos) (tFor wi g tb):=by
  intro pins s σ H D I h
  refine wpAny_For (thn (hi pins s σ H _ I h) fun v s1 h1=>thn h1 fun itv s2 h2 => ?_) hs
  obtain ⟨it,fp,tn,J,H2,e,I2,T,st2,f2,W,⟨m0,w0⟩,turn⟩:=h2
  subst e
  have stat:∀ {H':Hp},(∀ b∈fp,H' b=none)→∀ b∈fp,FpOk X pins H' b:=fun hn b hb=>⟨hn b hb,(f2 b hb).2⟩
  refine codeAny_forLoop_any (fun n s' => ∃ i σ' H',Inv X pins σ' H' s'∧tn i s'.heap∧(∀ b∈fp,H' b=none)∧W i n σ' H') ?_ m0 ⟨0,σ,H2,I2,st2,fun b hb=>(f2 b hb).1,w0⟩
  rintro n s3 ⟨i,σ3,H3,I3,st3,fr3,w3⟩
  rcases turn i n σ3 H3 w3 with ⟨stop,qn⟩ | ⟨go,N,hN,step⟩
  · refine wpAny_passesOwn hp (thn (T.done X rfl rfl rfl hc i pins s3 σ3 H3 X.xe I3 (stat fr3) st3 stop) fun r s4 ⟨hr,I4⟩ => ?_)
    subst hr
    exact wpAny_execs_nil ⟨σ3,H3,I4,qn⟩
  · refine wpAny_passesOwn hp (thn (T.item X rfl rfl rfl hc i pins s3 σ3 H3 X.xe I3 (stat fr3) st3 go) fun r s4 ⟨u,hr,h4⟩ => ?_)
    subst hr
    refine wpAny_passesOwn hp (thn h4 fun _ s5 ⟨x,H5,I5,r5,y5,st5,fr5⟩ => ?_)
    have I5':=I5.pinned (stat fr5) (T.obj _ _ st5)
    refine wpAny_passesOwn hp (thn (hg _ s5 σ3 H5 x u _ I5' r5 (step x H5 y5)) fun _ s6 ⟨σ6,H6,I6,q6⟩ => ?_)
    refine wpAny_passesOwn hp (thn (hb _ s6 σ6 H6 _ I6 q6) fun f s7 q7 => ?_)
    have again:∀ {σ7:St}{H7:Hp},Inv X (pins++pinsAt fp s5.heap) σ7 H7 s7→N σ7 H7→∃ m,m<n∧∃ i σ' H',Inv X pins σ' H' s7∧tn i s7.heap∧(∀ b∈fp,H' b=none)∧W i m σ' H':=fun {σ7 H7} I7 n7=>by
      obtain ⟨m',hm,w7⟩:=hN σ7 H7 n7
      refine ⟨m',hm,i+1,σ7,H7,I7.unpinned,T.keep _ _ _ st5 fun b hb o e=>(I7.pin (b,o) (List.mem_append_right _ (List.mem_append_right _ (mem_pinsAt hb e)))).1,fun b hb => ?_,w7⟩
      obtain ⟨o,e,d⟩:=T.obj _ _ st5 b hb
      exact (I7.pin (b,o) (List.mem_append_right _ (List.mem_append_right _ (mem_pinsAt hb e)))).2.1
    cases f with
    | next=>obtain ⟨σ7,H7,I7,n7⟩:=q7;exact again I7 n7
    | cont=>obtain ⟨σ7,H7,I7,n7⟩:=q7;exact again I7 n7
    | brk=>obtain ⟨σ7,H7,I7,q7⟩:=q7;exact ⟨σ7,H7,I7.unpinned,q7⟩
    | ret v=>obtain ⟨x7,σ7,H7,I7,r7,q7⟩:=q7;exact ⟨x7,σ7,H7,I7.unpinned,r7,q7⟩
end
theorem for_list {K:PySem.W.Frag}{a:Addr}{xs:List V}{g:TG}{tb:TS}{D:Ends} {σ : St}{H:Hp} (Pv:Nat→St→Hp→Prop) (h0:Pv 0 σ H) (hl:∀ i σ H,i≤xs.length→Pv i σ H→SqL K H a xs)
    (hs:∀ i x σ H,xs[i]? = some x→Pv i σ H→g x σ H fun σ2 H2=>tb { D with nx:=Pv (i+1),ct:=Pv (i+1),bk:=D.nx } σ2 H2) (hd:∀ σ H,Pv xs.length σ H→D.nx σ H) :
    ∃ W:Nat→Nat→St→Hp→Prop,(∃ m,W 0 m σ H)∧∀ i m σ H,W i m σ H →
      ((Itl K a).stop i H∧D.nx σ H)∨((Itl K a).go i H∧∃ N:St→Hp→Prop,(∀ σ' H',N σ' H'→∃ m',m'<m∧W (i+1) m' σ' H')∧∀ x H',(Itl K a).yld i H x H'→g x σ H' fun σ2 H2=>tb { D with nx:=N,ct:=N,bk:=D.nx } σ2 H2):=by
  refine ⟨fun i m σ H=>m=xs.length-i∧i≤xs.length∧Pv i σ H,⟨xs.length,by simp,Nat.zero_le _,h0⟩,?_⟩
  rintro i m σ H ⟨rfl,hi,p⟩
  have q:=hl i σ H hi p
  by_cases hlt:i<xs.length
  · refine .inr ⟨⟨xs,xs[i],q,by simp [hlt]⟩,Pv (i+1),fun σ' H' p'=>⟨xs.length-(i+1),by omega,rfl,hlt,p'⟩,fun x H' y => ?_⟩
    obtain ⟨e,y⟩:=y
    subst e
    exact hs i x σ _ (y xs q) p
  · have e:i=xs.length:=by omega
    subst e
    exact .inl ⟨⟨xs,q,Nat.le_refl _⟩,hd σ H p⟩
theorem for_tup {K:PySem.W.Frag}{a:Addr}{xs:List V}{g:TG}{tb:TS}{D:Ends} {σ : St}{H:Hp} (Pv:Nat→St→Hp→Prop) (h0:Pv 0 σ H) (hl:∀ i σ H,i≤xs.length→Pv i σ H→SqT K H a xs)
    (hs:∀ i x σ H,xs[i]? = some x→Pv i σ H→g x σ H fun σ2 H2=>tb { D with nx:=Pv (i+1),ct:=Pv (i+1),bk:=D.nx } σ2 H2) (hd:∀ σ H,Pv xs.length σ H→D.nx σ H) :
    ∃ W:Nat→Nat→St→Hp→Prop,(∃ m,W 0 m σ H)∧∀ i m σ H,W i m σ H →
      ((Itt K a).stop i H∧D.nx σ H)∨((Itt K a).go i H∧∃ N:St→Hp→Prop,(∀ σ' H',N σ' H'→∃ m',m'<m∧W (i+1) m' σ' H')∧∀ x H',(Itt K a).yld i H x H'→g x σ H' fun σ2 H2=>tb { D with nx:=N,ct:=N,bk:=D.nx } σ2 H2):=by
  refine ⟨fun i m σ H=>m=xs.length-i∧i≤xs.length∧Pv i σ H,⟨xs.length,by simp,Nat.zero_le _,h0⟩,?_⟩
  rintro i m σ H ⟨rfl,hi,p⟩
  have q:=hl i σ H hi p
  by_cases hlt:i<xs.length
  · refine .inr ⟨⟨xs,xs[i],q,by simp [hlt]⟩,Pv (i+1),fun σ' H' p'=>⟨xs.length-(i+1),by omega,rfl,hlt,p'⟩,fun x H' y => ?_⟩
    obtain ⟨e,y⟩:=y
    subst e
    exact hs i x σ _ (y xs q) p
  · have e:i=xs.length:=by omega
    subst e
    exact .inl ⟨⟨xs,q,Nat.le_refl _⟩,hd σ H p⟩
theorem for_range {lo:Int}{n:Nat}{g:TG}{tb:TS}{D:Ends} {σ : St}{H:Hp} (Pv:Nat→St→Hp→Prop) (h0:Pv 0 σ H)
    (hs:∀ i σ H,i<n→Pv i σ H→g (.int (lo+i)) σ H fun σ2 H2=>tb { D with nx:=Pv (i+1),ct:=Pv (i+1),bk:=D.nx } σ2 H2) (hd:∀ σ H,Pv n σ H→D.nx σ H) :
    ∃ W:Nat→Nat→St→Hp→Prop,(∃ m,W 0 m σ H)∧∀ i m σ H,W i m σ H →
      ((Itr lo n).stop i H∧D.nx σ H)∨((Itr lo n).go i H∧∃ N:St→Hp→Prop,(∀ σ' H',N σ' H'→∃ m',m'<m∧W (i+1) m' σ' H')∧∀ x H',(Itr lo n).yld i H x H'→g x σ H' fun σ2 H2=>tb { D with nx:=N,ct:=N,bk:=D.nx } σ2 H2):=by
  refine ⟨fun i m σ H=>m=n-i∧i≤n∧Pv i σ H,⟨n,by simp,Nat.zero_le _,h0⟩,?_⟩
  rintro i m σ H ⟨rfl,hi,p⟩
  by_cases hlt:i<n
  · refine .inr ⟨hlt,Pv (i+1),fun σ' H' p'=>⟨n-(i+1),by omega,rfl,hlt,p'⟩,fun x H' y => ?_⟩
    obtain ⟨e,y⟩:=y
    subst e y
    exact hs i σ _ hlt p
  · have e:i=n:=by omega
    subst e
    exact .inl ⟨Nat.le_refl _,hd σ H p⟩
end L2
namespace L2
open PySem PySem.Spec PyProof.Rows
abbrev R2:=V→V→Hp→VK→Prop
def OpR (X:Cx) (f:Value→Value→Sem Value) (r:R2) : Prop :=
  ∀ (pins:List (Addr × Obj)) (s:Shared) (σ : St) (H:Hp) (x y:V) (v u:Value) (Q:VK),Inv X pins σ H s→RelV x v→RelV y u→r x y H Q →
    wpAny (model X.prog X.w) X.A (f v u) (EP X pins σ Q) X.xe s
def UnR (X:Cx) (f:Value→Sem Value) (r:V→Hp→VK→Prop) : Prop :=
  ∀ (pins:List (Addr × Obj)) (s:Shared) (σ : St) (H:Hp) (x:V) (v:Value) (Q:VK),Inv X pins σ H s→RelV x v→r x H Q →
    wpAny (model X.prog X.w) X.A (f v) (EP X pins σ Q) X.xe s
def CallR (X:Cx) (f:Value) (r:List V→Hp→VK→Prop) : Prop :=
  ∀ (pins:List (Addr × Obj)) (s:Shared) (σ : St) (H:Hp) (xs:List V) (us:List Value) (Q:VK),Inv X pins σ H s→Vals xs us→r xs H Q →
    wpAny (model X.prog X.w) X.A (call f us) (EP X pins σ Q) X.xe s
def TruR (X:Cx) (r:V→Hp→(Bool→Hp→Prop)→Prop) : Prop :=
  ∀ (pins:List (Addr × Obj)) (s:Shared) (σ : St) (H:Hp) (x:V) (v:Value) (Q:Bool→Hp→Prop),Inv X pins σ H s→RelV x v→r x H Q →
    wpAny (model X.prog X.w) X.A (truthy v) (TP X pins σ Q) X.xe s
def tOp (r:R2) (ta tb:TE) : TE:=fun σ H Q=>ta σ H fun x H1=>tb σ H1 fun y H2=>r x y H2 Q
def tUn (r:V→Hp→VK→Prop) (ta:TE) : TE:=fun σ H Q=>ta σ H fun x H1=>r x H1 Q
def rI (C:Int→Int→Prop) (g:Int→Int→V) : R2:=fun x y H Q => ∃ i j,x = .int i∧y = .int j∧C i j∧Q (g i j) H
def rI0 (g:Int→Int→V) : R2:=fun x y H Q => ∃ i j,x = .int i∧y = .int j∧Q (g i j) H
def rU (g:Int→V) : V→Hp→VK→Prop:=fun x H Q => ∃ i,x = .int i∧Q (g i) H
section
variable {X:Cx}{a b c:Expr}{ta tb tc:TE}{pos:Pos}
theorem binT (ha:PE X a ta) (hb:PE X b tb) {pins:List (Addr × Obj)}{s:Shared} {σ : St}{H:Hp}{R:V→V→Hp→Prop} (I:Inv X pins σ H s)
    (h:ta σ H fun x H1=>tb σ H1 fun y H2=>R x y H2) {Q:Value→Shared→Prop}{f:Value→Value→Sem Value}
    (hf:∀ v u s2 x y H2,Inv X pins σ H2 s2→RelV x v→RelV y u→R x y H2→wpAny (model X.prog X.w) X.A (f v u) Q X.xe s2) :
    wpAny (model X.prog X.w) X.A (eval a X.env) (fun v s₁=>wpAny (model X.prog X.w) X.A (eval b X.env) (fun u s₂=>wpAny (model X.prog X.w) X.A (f v u) Q X.xe s₂) X.xe s₁) X.xe s:=by
  refine thn (ha pins s σ H _ I h) fun v s1 ⟨x,H1,I1,r1,q1⟩ => ?_
  refine thn (hb pins s1 σ H1 _ I1 q1) fun u s2 ⟨y,H2,I2,r2,q2⟩ => ?_
  exact hf v u s2 x y H2 I2 r1 r2 q2
theorem pe_op {op:Operator}{r:R2} (ho:OpR X (binaryOp op) r) (ha:PE X a ta) (hb:PE X b tb) : PE X (.BinOp a op b pos) (tOp r ta tb):=by
  intro pins s σ H Q I h
  exact wpAny_BinOp (binT ha hb I h fun v u s2 x y H2 I2 rx ry q=>ho pins s2 σ H2 x y v u Q I2 rx ry q)
theorem pe_un {op:UnaryOp}{r:V→Hp→VK→Prop} (ho:UnR X (unaryOp op) r) (ha:PE X a ta) : PE X (.UnaryOp op a pos) (tUn r ta):=by
  intro pins s σ H Q I h
  exact UnaryOp_ (thn (ha pins s σ H _ I h) fun v s1 ⟨x,H1,I1,r1,q1⟩=>ho pins s1 σ H1 x v Q I1 r1 q1)
theorem opI {f:Value→Value→Sem Value}{C:Int→Int→Prop}{g:Int→Int→Int}
    (rule:∀ (i j:Int) (t u:Tok) (s:Shared) (Q:Value→Shared→Prop) (E:Value→Shared→Prop),C i j→Q (.int (g i j) s.toks) { s with toks:=s.toks+1 }→wpAny (model X.prog X.w) X.A (f (.int i t) (.int j u)) Q E s) :
    OpR X f (rI C fun i j => .int (g i j)):=by
  intro pins s σ H x y v u Q I rx ry h
  obtain ⟨i,j,rfl,rfl,hc,q⟩:=h
  obtain ⟨t,rfl⟩:=rx
  obtain ⟨t',rfl⟩:=ry
  exact rule i j t t' s _ _ hc ⟨.int (g i j),H,I.tok _,⟨_,rfl⟩,q⟩
theorem opI0 {f:Value→Value→Sem Value}{g:Int→Int→Int}
    (rule:∀ (i j:Int) (t u:Tok) (s:Shared) (Q:Value→Shared→Prop) (E:Value→Shared→Prop),Q (.int (g i j) s.toks) { s with toks:=s.toks+1 }→wpAny (model X.prog X.w) X.A (f (.int i t) (.int j u)) Q E s) :
    OpR X f (rI0 fun i j => .int (g i j)):=by
  intro pins s σ H x y v u Q I rx ry h
  obtain ⟨i,j,rfl,rfl,q⟩:=h
  obtain ⟨t,rfl⟩:=rx
  obtain ⟨t',rfl⟩:=ry
  exact rule i j t t' s _ _ ⟨.int (g i j),H,I.tok _,⟨_,rfl⟩,q⟩
theorem opB0 {f:Value→Value→Sem Value}{g:Int→Int→Bool}
    (rule:∀ (i j:Int) (t u:Tok) (s:Shared) (Q:Value→Shared→Prop) (E:Value→Shared→Prop),Q (.bool (g i j)) s→wpAny (model X.prog X.w) X.A (f (.int i t) (.int j u)) Q E s) :
    OpR X f (rI0 fun i j => .bl (g i j)):=by
  intro pins s σ H x y v u Q I rx ry h
  obtain ⟨i,j,rfl,rfl,q⟩:=h
  obtain ⟨t,rfl⟩:=rx
  obtain ⟨t',rfl⟩:=ry
  exact rule i j t t' s _ _ ⟨.bl (g i j),H,I,rfl,q⟩
def CPow (i j:Int) : Prop:=0≤j∧j≤1000000∧i.natAbs<2^64
def CMul (i j:Int) : Prop:=(-(2^64)<i∧i<2^64)∨(-(2^64)<j∧j<2^64)
theorem CMul.ok {i j:Int} (h:CMul i j) : IntMulOk i j:=by
  rcases h with ⟨h1,h2⟩ | ⟨h1,h2⟩
  · exact .of_left (intBits_le_64 h1 h2)
  · exact .of_right (intBits_le_64 h1 h2)
theorem op_add:OpR X (binaryOp .Add) (rI0 fun i j => .int (i+j)):=opI0 fun _ _ _ _ _ _ _ q=>add_int q
theorem op_sub:OpR X (binaryOp .Sub) (rI0 fun i j => .int (i-j)):=opI0 fun _ _ _ _ _ _ _ q=>sub_int q
theorem op_mod:OpR X (binaryOp .Mod) (rI (fun _ j=>0<j) fun i j => .int (i % j)):=opI fun i j _ _ _ _ _ hc q=>by
  have h1:(0:Int)<j:=hc
  exact mod_int' (by omega) (by rw [Int.fmod_eq_emod_of_nonneg i (by omega)];exact q)
theorem op_pow:OpR X (binaryOp .Pow) (rI CPow fun i j => .int (i^j.toNat)):=opI fun _ _ _ _ _ _ _ hc q=>pow_int_small hc.1 hc.2.1 hc.2.2 q
theorem op_shl:OpR X (binaryOp .LShift) (rI CPow fun i j => .int (i * 2^j.toNat)):=opI fun _ _ _ _ _ _ _ hc q=>lshift_int_small hc.1 hc.2.1 hc.2.2 q
theorem op_and:OpR X (binaryOp .BitAnd) (rI0 fun i j => .int (Builtin.bitAnd i j)):=opI0 fun _ _ _ _ _ _ _ q=>and_int q
theorem op_or:OpR X (binaryOp .BitOr) (rI0 fun i j => .int (Builtin.bitOr i j)):=opI0 fun _ _ _ _ _ _ _ q=>or_int q
theorem unI {f:Value→Sem Value}{g:Int→Int}
    (rule:∀ (i:Int) (t:Tok) (s:Shared) (Q:Value→Shared→Prop) (E:Value→Shared→Prop),Q (.int (g i) s.toks) { s with toks:=s.toks+1 }→wpAny (model X.prog X.w) X.A (f (.int i t)) Q E s) :
    UnR X f (rU fun i => .int (g i)):=by
  intro pins s σ H x v Q I rx h
  obtain ⟨i,rfl,q⟩:=h
  obtain ⟨t,rfl⟩:=rx
  exact rule i t s _ _ ⟨.int (g i),H,I.tok _,⟨_,rfl⟩,q⟩
theorem un_neg:UnR X (unaryOp .USub) (rU fun i => .int (-i)):=unI fun _ _ _ _ _ q=>neg_int q
end
def scal:V→V→Bool
  | .non,.non=>true | .non,.int _=>true | .int _,.non=>true | .non,.bl _=>true | .bl _,.non=>true | .non,.str _=>true | .str _,.non=>true
  | .int _,.int _=>true | .bl _,.bl _=>true | .str _,.str _=>true | .byt _,.byt _=>true
  | .int _,.str _=>true | .str _,.int _=>true | .bl _,.str _=>true | .str _,.bl _=>true
  | _,_=>false
def rEq:R2:=fun x y H Q=>scal x y=true∧Q (.bl (decide (x=y))) H
def rNe:R2:=fun x y H Q=>scal x y=true∧Q (.bl (!decide (x=y))) H
theorem dec_int {i j:Int} : decide (V.int i=V.int j)=(i == j):=by
  rw [Bool.eq_iff_iff]
  simp
theorem dec_bl {i j:Bool} : decide (V.bl i=V.bl j)=(i == j):=by
  rw [Bool.eq_iff_iff]
  simp
theorem dec_str {i j:Str} : decide (V.str i=V.str j)=(i == j):=by
  rw [Bool.eq_iff_iff]
  simp
theorem dec_byt {i j:Array UInt8} : decide (V.byt i=V.byt j)=(i.toList == j.toList):=by
  rw [Bool.eq_iff_iff]
  cases i
  cases j
  simp
section
variable {X:Cx}{a b c:Expr}{ta tb tc:TE}{pos:Pos}
theorem fin_bl {pins:List (Addr × Obj)} {σ : St}{H:Hp}{s:Shared}{Q:VK}{k k':Bool} (I:Inv X pins σ H s) (q:Q (.bl k) H) (e:k=k') : EP X pins σ Q (.bool k') s:=by
  subst e
  exact ⟨.bl k,H,I,rfl,q⟩
theorem op_eq:OpR X (compareOp .Eq) rEq:=by
  intro pins s σ H x y v u Q I rx ry h
  obtain ⟨hs,q⟩:=h
  cases x with
  | non =>
    cases rx
    cases y with
    | non=>cases ry;exact PySem.EqNone.eq_none_none (fin_bl I q (by simp))
    | bl j=>cases ry;exact PySem.EqNone.eq_none_bool (fin_bl I q (by simp))
    | int j=>obtain ⟨t',rfl⟩:=ry;exact PySem.EqNone.eq_none_int (fin_bl I q (by simp))
    | str j=>obtain ⟨t',rfl⟩:=ry;exact PySem.EqNone.eq_none_str (fin_bl I q (by simp))
    | _=>exact absurd (show false=true from hs) Bool.false_ne_true
  | bl i =>
    cases rx
    cases y with
    | non=>cases ry;exact PySem.EqNone.eq_bool_none (fin_bl I q (by simp))
    | bl j=>cases ry;exact eq_bool (fin_bl I q dec_bl)
    | str j=>obtain ⟨t',rfl⟩:=ry;exact PySem.EqMixed.eq_bool_str (fin_bl I q (by simp))
    | _=>exact absurd (show false=true from hs) Bool.false_ne_true
  | int i =>
    obtain ⟨t,rfl⟩:=rx
    cases y with
    | non=>cases ry;exact PySem.EqNone.eq_int_none (fin_bl I q (by simp))
    | int j=>obtain ⟨t',rfl⟩:=ry;exact eq_int (fin_bl I q dec_int)
    | str j=>obtain ⟨t',rfl⟩:=ry;exact PySem.EqMixed.eq_int_str (fin_bl I q (by simp))
    | _=>exact absurd (show false=true from hs) Bool.false_ne_true
  | str i =>
    obtain ⟨t,rfl⟩:=rx
    cases y with
    | non=>cases ry;exact PySem.EqNone.eq_str_none (fin_bl I q (by simp))
    | bl j=>cases ry;exact PySem.EqMixed.eq_str_bool (fin_bl I q (by simp))
    | int j=>obtain ⟨t',rfl⟩:=ry;exact PySem.EqMixed.eq_str_int (fin_bl I q (by simp))
    | str j=>obtain ⟨t',rfl⟩:=ry;exact eq_str (fin_bl I q dec_str)
    | _=>exact absurd (show false=true from hs) Bool.false_ne_true
  | byt i =>
    obtain ⟨t,rfl⟩:=rx
    cases y with
    | byt j=>obtain ⟨t',rfl⟩:=ry;exact PySem.W.eq_bytes (fin_bl I q dec_byt)
    | _=>exact absurd (show false=true from hs) Bool.false_ne_true
  | _=>cases y <;> exact absurd (show false=true from hs) Bool.false_ne_true
theorem op_ne:OpR X (compareOp .NotEq) rNe:=by
  intro pins s σ H x y v u Q I rx ry h
  obtain ⟨hs,q⟩:=h
  cases x with
  | non =>
    cases rx
    cases y with
    | non=>cases ry;exact PySem.EqNone.ne_none_none (fin_bl I q (by simp))
    | bl j=>cases ry;exact PySem.EqNone.ne_none_bool (fin_bl I q (by simp))
    | int j=>obtain ⟨t',rfl⟩:=ry;exact PySem.EqNone.ne_none_int (fin_bl I q (by simp))
    | str j=>obtain ⟨t',rfl⟩:=ry;exact PySem.EqNone.ne_none_str (fin_bl I q (by simp))
    | _=>exact absurd (show false=true from hs) Bool.false_ne_true
  | bl i =>
    cases rx
    cases y with
    | non=>cases ry;exact PySem.EqNone.ne_bool_none (fin_bl I q (by simp))
    | bl j=>cases ry;exact ne_bool (fin_bl I q (congrArg not dec_bl))
    | str j=>obtain ⟨t',rfl⟩:=ry;exact PySem.EqMixed.ne_bool_str (fin_bl I q (by simp))
    | _=>exact absurd (show false=true from hs) Bool.false_ne_true
  | int i =>
    obtain ⟨t,rfl⟩:=rx
    cases y with
    | non=>cases ry;exact PySem.EqNone.ne_int_none (fin_bl I q (by simp))
    | int j=>obtain ⟨t',rfl⟩:=ry;exact ne_int (fin_bl I q (congrArg not dec_int))
    | str j=>obtain ⟨t',rfl⟩:=ry;exact PySem.EqMixed.ne_int_str (fin_bl I q (by simp))
    | _=>exact absurd (show false=true from hs) Bool.false_ne_true
  | str i =>
    obtain ⟨t,rfl⟩:=rx
    cases y with
    | non=>cases ry;exact PySem.EqNone.ne_str_none (fin_bl I q (by simp))
    | bl j=>cases ry;exact PySem.EqMixed.ne_str_bool (fin_bl I q (by simp))
    | int j=>obtain ⟨t',rfl⟩:=ry;exact PySem.EqMixed.ne_str_int (fin_bl I q (by simp))
    | str j=>obtain ⟨t',rfl⟩:=ry;exact ne_str (fin_bl I q (congrArg not dec_str))
    | _=>exact absurd (show false=true from hs) Bool.false_ne_true
  | byt i =>
    obtain ⟨t,rfl⟩:=rx
    cases y with
    | byt j=>obtain ⟨t',rfl⟩:=ry;exact PySem.W.ne_bytes (fin_bl I q (congrArg not dec_byt))
    | _=>exact absurd (show false=true from hs) Bool.false_ne_true
  | _=>cases y <;> exact absurd (show false=true from hs) Bool.false_ne_true
theorem op_lt:OpR X (compareOp .Lt) (rI0 fun i j => .bl (decide (i<j))):=opB0 fun _ _ _ _ _ _ _ q=>lt_int q
theorem op_gt:OpR X (compareOp .Gt) (rI0 fun i j => .bl (decide (j<i))):=opB0 fun _ _ _ _ _ _ _ q=>gt_int q
theorem op_ge:OpR X (compareOp .GtE) (rI0 fun i j => .bl (decide (j≤i))):=opB0 fun _ _ _ _ _ _ _ q=>ge_int q
theorem nomark (b:Expr) {op:CmpOp} (h:op ≠ .In:=by decide) (h2:op ≠ .NotIn:=by decide) : behindInMarks op b=false:=by
  have e1:(op == CmpOp.In)=false:=by cases op <;> first | rfl | exact absurd rfl h
  have e2:(op == CmpOp.NotIn)=false:=by cases op <;> first | rfl | exact absurd rfl h2
  cases b with
  | Set elts k pos=>show (k == 0 && (op == CmpOp.In || op == CmpOp.NotIn) && _)=false;rw [e1,e2,Bool.or_false,Bool.and_false,Bool.false_and]
  | _=>rfl
theorem pe_cmpR {op:CmpOp}{r:R2} (ho:OpR X (compareOp op) r) (ha:PE X a ta) (hb:PE X b tb) (hm:behindInMarks op b=false) : PE X (.Compare a [op] [b] pos) (tOp r ta tb):=by
  intro pins s σ H Q I h
  exact wpAny_Compare1 (binT ha hb I h fun v u s2 x y H2 I2 rx ry q=>ho pins s2 σ H2 x y v u Q I2 rx ry q) hm
def tTest (t:TE) : TT:=fun σ H Q=>t σ H fun x H' => ∃ k,x = .bl k∧Q k H'
theorem pt_cmpR {op:CmpOp}{r:R2} (ho:OpR X (compareOp op) r) (ha:PE X a ta) (hb:PE X b tb) (hm:behindInMarks op b=false) : PT X (.Compare a [op] [b] pos) (tTest (tOp r ta tb)):=by
  intro pins s σ H Q I h
  refine wpAny_isTrue_Compare1 (thn (ha pins s σ H _ I h) fun v s1 ⟨x,H1,I1,r1,q1⟩=>thn (hb pins s1 σ H1 _ I1 q1) fun u s2 ⟨y,H2,I2,r2,q2⟩ =>
    thn (ho pins s2 σ H2 x y v u _ I2 r1 r2 q2) fun c s3 ⟨z,H3,I3,r3,k,e,q3⟩ => ?_) hm
  subst e
  cases r3
  exact wpAny_truthy_bool ⟨H3,I3,q3⟩
def TruV (K:PySem.W.Frag) (x:V) (H:Hp) (k:Bool) : Prop :=
  match x with
  | .non=>k=false
  | .bl b=>k=b
  | .int i=>k=(i != 0)
  | .str y=>y.length≤sizeLine∧k=((y.length:Int) != 0)
  | .byt y=>y.size≤sizeLine∧k=((y.size:Int) != 0)
  | .ref p=>(∃ xs,SqL K H p xs∧k = !xs.isEmpty)∨(∃ xs,SqT K H p xs∧k = !xs.isEmpty)∨∃ kvs,H p=some (.dK kvs)∧k = !kvs.isEmpty
  | _=>False
theorem isEmpty_kv {κ : Type}{kvs:List (κ × V)}{vs:List (κ × Value)} (r:KV kvs vs) : (!vs.isEmpty) = !kvs.isEmpty:=by
  cases r <;> rfl
theorem isEmpty_of {xs:List V}{its:List Value} (r:Vals xs its) : (!its.toArray.isEmpty) = !xs.isEmpty:=by
  cases r <;> simp
theorem line63:(sizeLine:Nat)<2^63:=by rw [sizeLine_eq];decide
theorem tru_ok:TruR X (fun x H Q => ∃ k,TruV X.K x H k∧Q k H):=by
  intro pins s σ H x v Q I rx h
  obtain ⟨k,e,q⟩:=h
  have hl:=line63
  have hs:sizeLine=16777216:=sizeLine_eq
  cases x with
  | non =>
    cases rx
    have e':k=false:=e
    subst e'
    exact truthy_none ⟨H,I,q⟩
  | bl b =>
    cases rx
    have e':k=b:=e
    subst e'
    exact wpAny_truthy_bool ⟨H,I,q⟩
  | int i =>
    obtain ⟨t,rfl⟩:=rx
    have e':k=(i != 0):=e
    subst e'
    exact PySem.P.truthy_int ⟨H,I,q⟩
  | str y =>
    obtain ⟨t,rfl⟩:=rx
    obtain ⟨hy,e'⟩ : y.length≤sizeLine∧k=((y.length:Int) != 0):=e
    subst e'
    exact PySem.P.truthy_str (by omega) ⟨H,I.tok _,q⟩
  | byt y =>
    obtain ⟨t,rfl⟩:=rx
    obtain ⟨hy,e'⟩ : y.size≤sizeLine∧k=((y.size:Int) != 0):=e
    subst e'
    exact PySem.W.truthy_bytes (by omega) ⟨H,I.tok _,q⟩
  | ref p =>
    cases rx
    have e':(∃ xs,SqL X.K H p xs∧k = !xs.isEmpty)∨(∃ xs,SqT X.K H p xs∧k = !xs.isEmpty)∨∃ kvs,H p=some (.dK kvs)∧k = !kvs.isEmpty:=e
    rcases e' with ⟨xs,hx,e'⟩ | ⟨xs,hx,e'⟩ | ⟨kvs,hx,e'⟩
    · subst e'
      obtain ⟨its,r,pl,hz⟩:=I.list hx
      have hlen:=r.length
      exact wpAny_truthy_list pl.isList (by simp only [List.size_toArray];omega) ⟨H,I.tok _,by rw [isEmpty_of r];exact q⟩
    · subst e'
      obtain ⟨its,r,pl,hz⟩:=I.tuple hx
      have hlen:=r.length
      exact truthy_tuple pl (by simp only [List.size_toArray];omega) ⟨H,I.tok _,by rw [isEmpty_of r];exact q⟩
    · subst e'
      obtain ⟨hz,hS,vs,r,m⟩ : kvs.length≤sizeLine∧(p == sysModules)=false∧∃ vs,KV kvs vs∧s.heap.DictOf (mixKind X.prog X.w) p vs:=I.hok p _ hx
      have hlen:kvs.length=vs.length:=Paired.length r
      exact wpAny_truthy_dict hS m (by omega) ⟨H,I.tok _,by rw [isEmpty_kv r];exact q⟩
  | _=>exact (show False from e).elim
theorem pt_truth (ha:PE X a ta) (he:∀ whole,isTrue a X.env whole=(do let v ← whole;standAt a.pos;holding [v] (truthy v))) :
    PT X a (fun σ H Q=>ta σ H fun x H' => ∃ k,TruV X.K x H' k∧Q k H'):=by
  intro pins s σ H Q I h
  exact isTrue_plain (thn (ha pins s σ H _ I h) fun v s1 ⟨x,H1,I1,r1,q1⟩=>tru_ok pins s1 σ H1 x v Q I1 r1 q1) (he _)
theorem vals1 {x:V}{us:List Value} (r:Vals [x] us) : ∃ u,us=[u]∧RelV x u:=by
  cases r with
  | cons r1 r2=>cases r2;exact ⟨_,rfl,r1⟩
theorem vals2 {x y:V}{us:List Value} (r:Vals [x,y] us) : ∃ u w',us=[u,w']∧RelV x u∧RelV y w':=by
  cases r with
  | cons r1 r2 =>
    cases r2 with
    | cons r3 r4=>cases r4;exact ⟨_,_,rfl,r1,r3⟩
theorem call_abs:CallR X (.builtin "abs") (fun xs H Q => ∃ i,xs=[.int i]∧Q (.int (if i<0 then -i else i)) H):=by
  intro pins s σ H xs us Q I r h
  obtain ⟨i,rfl,q⟩:=h
  obtain ⟨u,rfl,t,rfl⟩:=vals1 r
  exact call_abs_int fun u tk=>⟨.int (if i<0 then -i else i),H,I.tok _,⟨_,rfl⟩,q⟩
end
end L2
namespace L2
open PySem PySem.Spec PyProof.Rows
structure ObjM (h:Heap) (x dx C:Addr) (mA:Str→Option Value) : Prop where
  obj:h.get? x=some (PySem.W.instObj C dx)
  ns:h.Ns1 dx mA
  ne:dx≠x
theorem lookIn_ns {h:Heap}{dx:Addr}{mA:Str→Option Value} (n:h.Ns1 dx mA) : ∃ od,h.get? dx=some od∧∀ name,PySem.W.lookIn name od=some (mA name):=by
  obtain ⟨o,es,ep,ho,hd,hk,_,hm⟩:=n
  refine ⟨o,ho,fun name => ?_⟩
  have e:=hm name
  unfold nsFind findBy at e
  rw [← Array.find?_toList] at e
  unfold PySem.W.lookIn
  rw [hd]
  dsimp only
  split
  · rename_i y q
    rw [q] at e
    exact congrArg some e
  · rename_i q
    rw [q] at e
    have a:es.toList.any (·.refKey)=false:=by
      rw [List.any_eq_false]
      intro y hy
      obtain ⟨z,t,hkey⟩:=hk y (Array.mem_toList_iff.mp hy)
      simp [DictEntry.refKey,hkey]
    have a' : ¬ es.toList.any (·.refKey)=true:=by rw [a];exact Bool.false_ne_true
    rw [if_neg a']
    exact congrArg some e
theorem ObjM.look {h:Heap}{x dx C:Addr}{mA:Str→Option Value} (I:ObjM h x dx C mA) : ∃ od,PySem.W.InstAt h x (PySem.W.instObj C dx) C (some od)∧∀ name,PySem.W.lookIn name od=some (mA name) :=
  let ⟨od,ho,hl⟩:=lookIn_ns I.ns
  ⟨od,⟨I.obj,rfl,rfl,ho⟩,hl⟩
section
variable {prog:Program}{w:World}{A:Around}{E:Value→Shared→Prop}{s:Shared}{K:PySem.W.Frag}{x dx C f:Addr}{mA:Str→Option Value}{name:Str}{v:Value}
end
theorem RelO.some_of {v:V}{o:Option Value} (r:RelO (some v) o) : ∃ u,o=some u∧RelV v u:=by
  cases o with
  | none=>exact (show False from r).elim
  | some u=>exact ⟨u,rfl,r⟩
section
variable {P:Program}{w:World}{H H':Hp}{h h':Heap}{a C dx:Addr}{fs fs':List (Str × V)}
theorem ins_get (hok:HOk P w H h) (e:H a=some (.ins C dx fs)) : ∃ mA,ObjM h a dx C mA∧(∀ f,RelO (fs.lookup f) (mA f))∧PySem.Within mA (fs.map (·.1))∧fs.length≤1000∧H dx=some (.own a):=by
  obtain ⟨d,z,ne,ob,mA,n,r,q⟩:=(show ObjOk P w H h a (.ins C dx fs) from hok a _ e)
  exact ⟨mA,⟨ob,n,ne⟩,r,q,z,d⟩
end
structure Cls (K:PySem.W.Frag) (C:Addr) : Prop where
  pg:PySem.W.plainGet K C Str.empty=true
  hd:PySem.W.hasDictIn K C=true
  po:PySem.W.plainOver K C=true
  sa:PySem.W.findIn K (.ref C) "__setattr__" = some (some (.builtin "object.__setattr__"))
theorem Cls.get {K:PySem.W.Frag}{C:Addr} (c:Cls K C) (f:Str) : PySem.W.plainGet K C f=true:=c.pg
section
variable {X:Cx}{pins:List (Addr × Obj)} {σ : St}{H:Hp}{s:Shared}{a C dx:Addr}{fs:List (Str × V)}{f:Str}{v:V}{A:Around}{E:Value→Shared→Prop}
end
section
variable {X:Cx}{o e value:Expr}{f:Str}{pos pos' tpos:Pos}{ta tv:TE}
end
section
variable {X:Cx}{pins:List (Addr × Obj)} {σ : St}{H:Hp}{s:Shared}{A:Around}{E:Value→Shared→Prop}{Q:Value→Shared→Prop}{c:Value}{b:Bool}
inductive TyOf (K:PySem.W.Frag) (H:Hp) : V→Value→Prop where
  | non:TyOf K H .non (.type "NoneType")
  | bl (x:Bool) : TyOf K H (.bl x) (.type "bool")
  | int (i:Int) : TyOf K H (.int i) (.type "int")
  | str (x:Str) : TyOf K H (.str x) (.type "str")
  | flt (x:UInt64) : TyOf K H (.flt x) (.type "float")
  | lst {a:Addr}{xs:List V} (e:H a=some (.lst xs)) : TyOf K H (.ref a) (.type "list")
  | frz {a:Addr}{o:Obj}{xs:List V} (e:H a=some (.frz o (.lst xs))) : TyOf K H (.ref a) (.type "list")
  | tup {a:Addr}{xs:List V} (e:H a=some (.tup xs)) : TyOf K H (.ref a) (.type "tuple")
  | dK {a:Addr}{kvs:List (Key × V)} (e:H a=some (.dK kvs)) : TyOf K H (.ref a) (.type "dict")
  | dT {a:Addr}{kvs:List (List Key × V)} (e:H a=some (.dT kvs)) : TyOf K H (.ref a) (.type "dict")
  | ins {a C dx:Addr}{fs:List (Str × V)} (e:H a=some (.ins C dx fs)) (cl:Cls K C) (ha:PySem.W.findIn K (.ref C) "__class__" = some (some (.builtin "object.__class__")))
      (hn:PySem.W.specialIn K (.builtin "object.__class__") "__get__" = some (some (.builtin "getset_descriptor.__get__"))) (htk:PySem.W.takesIn K (.builtin "object.__class__")=some true)
      (hm:PySem.W.mroIn K C (.type "object")=some true) : TyOf K H (.ref a) (.ref C)
theorem isinst_ok {x:V}{u t:Value} (I:Inv X pins σ H s) (rx:RelV x u) (ty:TyOf X.K H x t) (e:PySem.W.kitOne X.K t c=some b) (h:∀ tk,Q (.bool b) { s with toks:=tk }) :
    wpAny (model X.prog X.w) A (call (.builtin "isinstance") [u,c]) Q E s:=by
  cases ty with
  | non=>cases (show u=Value.none from rx);exact PySem.W.kia_one PySem.W.kitx_none I.kIn True.intro e (fun z=>nomatch z) h
  | bl y=>cases (show u=Value.bool y from rx);exact PySem.W.kia_one PySem.W.kitx_bool I.kIn True.intro e (fun z=>nomatch z) h
  | int i=>obtain ⟨t,q⟩:=(show ∃ t,u=Value.int i t from rx);cases q;exact PySem.W.kia_one PySem.W.kitx_int I.kIn True.intro e (fun z=>nomatch z) h
  | str y=>obtain ⟨t,q⟩:=(show ∃ t,u=Value.str y t from rx);cases q;exact PySem.W.kia_one PySem.W.kitx_str I.kIn True.intro e (fun z=>nomatch z) h
  | flt y=>obtain ⟨t,q⟩:=(show ∃ t,u=Value.float y t from rx);cases q;exact PySem.W.kia_one PySem.W.kitx_float I.kIn True.intro e (fun z=>nomatch z) h
  | @lst a xs ea =>
    cases (show u=Value.ref a from rx)
    obtain ⟨_,_,n,_,h1⟩:=(show ObjOk X.prog X.w H s.heap a (.lst xs) from I.hok a _ ea)
    exact PySem.W.kia_one PySem.W.kitx_list I.kIn ⟨_,h1,rfl⟩ e (fun z=>nomatch z) h
  | @frz a ob xs ea =>
    cases (show u=Value.ref a from rx)
    obtain ⟨_,_,_,n,_,h1⟩:=(show ObjOk X.prog X.w H s.heap a (.frz ob (.lst xs)) from I.hok a _ ea)
    exact PySem.W.kia_one PySem.W.kitx_list I.kIn ⟨_,h1,rfl⟩ e (fun z=>nomatch z) h
  | @tup a xs ea =>
    cases (show u=Value.ref a from rx)
    obtain ⟨_,_,_,p⟩:=(show ObjOk X.prog X.w H s.heap a (.tup xs) from I.hok a _ ea)
    obtain ⟨o,h1,h2,_⟩:=p
    exact PySem.W.kia_one PySem.W.kitx_tuple I.kIn ⟨o,h1,h2⟩ e (fun z=>nomatch z) h
  | @dK a kvs ea =>
    cases (show u=Value.ref a from rx)
    obtain ⟨_,_,vs,_,p⟩:=(show ObjOk X.prog X.w H s.heap a (.dK kvs) from I.hok a _ ea)
    obtain ⟨o,es,ep,h1,h2,_⟩:=p
    exact PySem.W.kia_one PySem.W.kitx_dict I.kIn ⟨o,h1,h2.1⟩ e (fun z=>nomatch z) h
  | @dT a kvs ea =>
    cases (show u=Value.ref a from rx)
    obtain ⟨_,_,xs,_,o,es,ep,h1,h2,_⟩:=(show ObjOk X.prog X.w H s.heap a (.dT kvs) from I.hok a _ ea)
    exact PySem.W.kia_one PySem.W.kitx_dict I.kIn ⟨o,h1,h2.1⟩ e (fun z=>nomatch z) h
  | @ins a C dx fs ea cl ha hn htk hm =>
    cases (show u=Value.ref a from rx)
    obtain ⟨mA,O,_⟩:=ins_get I.hok ea
    obtain ⟨od,J,_⟩:=O.look
    exact PySem.W.kia_one (PySem.W.kitx_own (cl.get _) cl.hd ha hn htk hm) I.kIn J e (fun z=>nomatch z) h
end
end L2
namespace L2
open PySem PySem.Spec PyProof.Rows
structure Room (k:Nat) (A:Around) : Prop where
  hd:A.handled=none
  dp:A.depth+3 * k+5<recursionLimit
  un:A.units+16 * k+200<cLine
theorem Room.mono {j k:Nat}{A:Around} (r:Room k A) (h:j≤k) : Room j A:=⟨r.hd,by have:=r.dp;omega,by have:=r.un;omega⟩
theorem Room.deeper {k:Nat}{A:Around} (r:Room (k+1) A) (env:Env) : Room k (A.deeper env) :=
  ⟨r.hd,by have:=r.dp;show A.depth+1+3 * k+5<_;omega,by have:=r.un;show A.units+3+16 * k+200<_;omega⟩
theorem Room.depth {k:Nat}{A:Around} (r:Room k A) : A.depth<recursionLimit:=by have:=r.dp;omega
theorem Room.units {k:Nat}{A:Around} (r:Room k A) : A.units+64<cLine:=by have:=r.un;omega
def tNil:TA:=fun _ H Q=>Q [] H
def tCons (ta:TE) (tr:TA) : TA:=fun σ H Q=>ta σ H fun x H1=>tr σ H1 fun xs H2=>Q (x :: xs) H2
section
variable {X:Cx}{e:Expr}{es:List Expr}{te:TE}{t:TA}{pos:Pos}
theorem pa_nil:PA X [] tNil:=fun _ _ _ _ H Q I h=>Calls.spliced_nil ⟨[],H,I,.nil,h⟩
theorem pa_cons (ha:PE X e te) (hr:PA X es t) (hs:starEach (e :: es) X.env=(false,eval e X.env) :: starEach es X.env:=by rfl) : PA X (e :: es) (tCons te t):=by
  intro pos pins s σ H Q I h
  rw [hs]
  show wpAny _ _ (spliced ((false,eval e X.env) :: backTo pos (starEach es X.env))) _ _ s
  refine Calls.spliced_cons (thn (ha pins s σ H _ I h) fun u s1 ⟨x,H1,I1,r1,q1⟩ => ?_)
  exact thn (hr pos pins s1 σ H1 _ I1 q1) fun us s2 ⟨xs,H2,I2,r2,q2⟩=>⟨x :: xs,H2,I2,.cons r1 r2,q2⟩
def tTup (t:TA) : TE:=fun σ H Q=>t σ H fun xs H1=>xs.length≤sizeLine∧∀ p,H1 p=none→Q (.ref p) (upd H1 p (.tup xs))
def tLst (t:TA) : TE:=fun σ H Q=>t σ H fun xs H1=>xs.length≤sizeLine∧∀ p,H1 p=none→Q (.ref p) (upd H1 p (.lst xs))
theorem pe_tup {x1} (h:PA X es t) : PE X (.Tuple es x1 pos) (tTup t):=by
  intro pins s σ H Q I hq
  refine wpAny_Tuple_spliced (thn (h pos pins s σ H _ I hq) fun us s1 ⟨xs,H1,I1,r,z,q⟩=>⟨by rw [← r.length];exact z,?_⟩)
  have hf:H1 s1.heap.objs.size=none:=I1.hok.fresh (Nat.le_refl _)
  refine ⟨.ref s1.heap.objs.size,upd H1 s1.heap.objs.size (.tup xs),I1.laid (t':=s1.toks) (fun b u e=>Heap.get?_push_of_some _ e) (Nat.le_refl _) ?_,rfl,q _ hf⟩
  exact ⟨z,us,r,⟨_,Heap.get?_push_size _ rfl,rfl,_,rfl⟩⟩
theorem pe_lst (h:PA X es t) : PE X (.List es pos) (tLst t):=by
  intro pins s σ H Q I hq
  refine wpAny_List_spliced (thn (h pos pins s σ H _ I hq) fun us s1 ⟨xs,H1,I1,r,z,q⟩=>⟨by rw [← r.length];exact z,?_⟩)
  have hf:H1 s1.heap.objs.size=none:=I1.hok.fresh (Nat.le_refl _)
  refine ⟨.ref s1.heap.objs.size,upd H1 s1.heap.objs.size (.lst xs),I1.laid (t':=s1.toks) (fun b u e=>Heap.get?_push_of_some _ e) (Nat.le_refl _) ?_,rfl,q _ hf⟩
  exact ⟨z,us,0,r,Heap.get?_push_size _ rfl⟩
end
abbrev Sp:=List V→Hp→VK→XK→Prop
abbrev CXT:=List Env→Hp→Shared→XK→Value→Shared→Prop
structure Env0 (P:Program) (w:World) (K:PySem.W.Frag) (mg:Str→Option Value) (base:Heap) (A:Around) (outer:List Env) (s:Shared) (H:Hp) : Prop where
  frames:A.frames=some outer
  mod:Mod K mg base
  bs:∀ b o,base.get? b=some o→s.heap.get? b=some o∧H b=none
  bsz:base.objs.size≤s.heap.objs.size
  funs:s.heap.FunFrames base outer
  frf:∀ b∈frs outer,H b=none
  hok:HOk P w H s.heap
  bare:AllBare s.gens
def CE (outer:List Env) (P:Program) (w:World) (H:Hp) (s:Shared) (Q:VK) (u:Value) (s':Shared) : Prop :=
  ∃ v H',s'.os=s.os∧AllBare s'.gens∧Un (frs outer) [] H H' s.heap s'.heap∧HOk P w H' s'.heap∧RelV v u∧Q v H'
def CR (CX:CXT) (outer:List Env) (P:Program) (w:World) (H:Hp) (s:Shared) (Q:VK) (E:XK) (r:Result) (s':Shared) : Prop :=
  match r with
  | .ok (.ret u)=>CE outer P w H s Q u s'
  | .ok _=>False
  | .error e=>CX outer H s E e s'
structure FnOk (P:Program) (w:World) (K:PySem.W.Frag) (mg:Str→Option Value) (base:Heap) (CX:CXT) (k:Nat) (f:Addr) (fd:FuncData) (ps:List Str) (sp:Sp) : Prop where
  len:∀ vs H Q E,sp vs H Q E→vs.length=ps.length
  run:∀ (A:Around) (outer:List Env) (s:Shared) (H:Hp) (args:Args) (us:List Value) (vs:List V) (Q:VK) (E:XK),Room k A→Env0 P w K mg base A outer s H→BindsTo s fd args (ps.zip us)→Vals vs us→sp vs H Q E →
    codeAny (model P w) A (.call (.ref f) args) (CR CX outer P w H s Q E) s
section
variable {X:Cx}{pins:List (Addr × Obj)} {σ : St}{H:Hp}{s s':Shared}
theorem Inv.env0 (I:Inv X pins σ H s) : Env0 X.prog X.w X.K X.mg X.base X.A X.stack s H :=
  ⟨I.ok.frames,I.ok.mod,I.bs,Nat.le_trans I.ok.bsz I.sz,I.stack,I.stkFree,I.hok,I.bare⟩
theorem Inv.after {Q:VK}{u:Value} (I:Inv X pins σ H s) (h:CE X.stack X.prog X.w H s Q u s') : EP X pins σ Q u s':=by
  obtain ⟨v,H',os,bare,un,hok,r,q⟩:=h
  obtain ⟨hh,g,d,t,os'⟩:=s'
  obtain rfl:os'=s.os:=os
  exact ⟨v,H',I.call (h':=hh) (g':=g) (d':=d) (t':=t) (ch:=[]) un hok bare (fun b z=>absurd z (by simp)),r,q⟩
end
def tCall (sp:Sp) (dvs:List V) (E:XK) (t:TA) : TE:=fun σ H Q=>t σ H fun vs H1=>sp (vs++dvs) H1 Q E
def Binds (K:PySem.W.Frag) (fd:FuncData) (ps:List Str) (ds:List Value) : Prop :=
  ∀ (s:Shared) (us:List Value),K.In s.heap→(us++ds).length=ps.length→BindsTo s fd ⟨us,[]⟩ (ps.zip (us++ds))
theorem Binds.all {K:PySem.W.Frag}{fd:FuncData}{ps:List Str} (h:∀ us:List Value,us.length=ps.length→bindArgs fd ⟨us,[]⟩=pure (ps.zip us)) : Binds K fd ps []:=fun s us _ hl=>by
  rw [List.append_nil] at hl ⊢
  exact .of_eq (h us hl)
def Passes (CX:CXT) (X:Cx) (E:XK) : Prop := ∀ (pins:List (Addr × Obj)) (σ : St) (H:Hp) (s:Shared) (e:Value) (s':Shared),Inv X pins σ H s→CX X.stack H s E e s'→X.xe e s'
section
variable {X:Cx}{CX:CXT}{k:Nat}{f C:Addr}{fd:FuncData}{ps:List Str}{sp:Sp}{dvs:List V}{ds:List Value}{E:XK}{x m:Str}{p pos apos:Pos}{e o:Expr}{es:List Expr}{ta:TE}{t:TA}
theorem run_fn {pins:List (Addr × Obj)} {σ : St}{H:Hp}{s:Shared}{Q:VK}{us:List Value}{vs:List V} (F:FnOk X.prog X.w X.K X.mg X.base CX k f fd ps sp) (hr:Room k X.A) (hb:Binds X.K fd ps ds) (hd:Vals dvs ds) (hx:Passes CX X E)
    (I:Inv X pins σ H s) (r:Vals vs us) (h:sp (vs++dvs) H Q E) : wpAny (model X.prog X.w) X.A (call (.ref f) us) (EP X pins σ Q) X.xe s:=by
  have r2:Vals (vs++dvs) (us++ds):=r.append hd
  have hl:(us++ds).length=ps.length:=by rw [← r2.length];exact F.len _ _ _ _ h
  refine wpAny_call (codeAny_mono (F.run X.A X.stack s H ⟨us,[]⟩ (us++ds) (vs++dvs) Q E hr I.env0 (hb s us I.kIn hl) r2 h) fun r s' hq => ?_)
  cases r with
  | error e=>exact hx pins σ H s e s' I hq
  | ok fl =>
    cases fl with
    | ret u=>exact I.after hq
    | next=>exact False.elim hq
    | brk=>exact False.elim hq
    | cont=>exact False.elim hq
theorem pe_call (F:FnOk X.prog X.w X.K X.mg X.base CX k f fd ps sp) (hr:Room k X.A) (hg:Gl X x) (hm:X.mg x=some (.ref f)) (hk:PySem.W.keepIn X.K (.ref f)=true) (hb:Binds X.K fd ps ds) (hd:Vals dvs ds) (hx:Passes CX X E)
    (ha:PA X (e :: es) t) (hdb:(x == ("__debug__" : Str))=false:=by decide) (he:starEach (e :: es) X.env=(false,eval e X.env) :: starEach es X.env:=by rfl) (hpl:(backTo pos (starEach es X.env)).any (·.1)=false:=by rfl) :
    PE X (.Call (.Name x p) (e :: es) [] pos) (tCall sp dvs E t):=by
  intro pins s σ H Q I h
  refine wpAny_Call_Name_kw (ld_glob I hg hm ?_ hdb)
  refine PySem.W.callWith_K (h₀:=X.base) I.ok.mod.kin hk (thn (ha pos pins s σ H _ I h) fun us s1 ⟨vs,H1,I1,r,q⟩=>⟨I1.kIn,?_⟩) he hpl
  exact run_fn F hr hb hd hx I1 r q
end
section
variable {X:Cx}{CX:CXT}{k:Nat}{f C:Addr}{fd:FuncData}{ps ks:List Str}{sp:Sp}{E:XK}{x m:Str}{p pos apos kpos:Pos}{e o:Expr}{es:List Expr}{kws:List Keyword}{te ta:TE}{t tk:TA}{nm:Option Str}
variable {g:List Value→List Value→List Value}{gV:List V→List V→List V}
end
structure FnScope (N P:List Str) (sc:Scope) : Prop where
  kind:sc.kind = .function
  co:sc.isCoroutine=false
  gen:sc.isGenerator=false
  nd:N.Nodup
  pre:N.take P.length=P
  par:∀ x∈P,sc.names.lookup x=some .local∨sc.names.lookup x=some .cell
  nofree:∀ y∈sc.names,y.2 ≠ .free
theorem bindL_out {kindOf:Str→Option NameKind}{x:Str} : ∀ {binds:List (Str × Value)}{m:Str→Option Value},(∀ v,(x,v) ∉ binds)→bindL kindOf binds m x=m x
  | [],_,_=>rfl
  | (n,v) :: r,m,h=>by
    unfold bindL
    rw [bindL_out fun w hw=>h w (List.mem_cons_of_mem _ hw)]
    split
    · have:x≠n:=by rintro rfl;exact h v List.mem_cons_self
      simp [this]
    · rfl
theorem bindC_out {kindOf:Str→Option NameKind}{x:Str} : ∀ {binds:List (Str × Value)}{m:Str→Option Value},(∀ v,(x,v) ∉ binds)→bindC kindOf binds m x=m x
  | [],_,_=>rfl
  | (n,v) :: r,m,h=>by
    unfold bindC
    rw [bindC_out fun w hw=>h w (List.mem_cons_of_mem _ hw)]
    split
    · rfl
    · have:x≠n:=by rintro rfl;exact h v List.mem_cons_self
      simp [this]
theorem bindL_get {kindOf:Str→Option NameKind}{x:Str}{v:Value} : ∀ {P:List Str}{vs:List Value}{i:Nat}{m:Str→Option Value},P.Nodup→P[i]? = some x→vs[i]? = some v→kindOf x=some .local →
    bindL kindOf (P.zip vs) m x=some v
  | [],_,_,_,_,h,_,_=>by simp at h
  | _ :: _,[],_,_,_,_,h,_=>by simp at h
  | p :: P,w :: vs,0,m,nd,h1,h2,hk=>by
    simp at h1 h2;subst h1;subst h2
    show bindL kindOf ((p,w) :: P.zip vs) m p=_
    unfold bindL
    rw [bindL_out fun v hv=>(List.nodup_cons.mp nd).1 (List.of_mem_zip hv).1,if_pos hk]
    simp
  | p :: P,w :: vs,i+1,m,nd,h1,h2,hk=>by
    show bindL kindOf ((p,w) :: P.zip vs) m x=_
    unfold bindL
    exact bindL_get (i:=i) (List.nodup_cons.mp nd).2 (by simpa using h1) (by simpa using h2) hk
theorem bindC_get {kindOf:Str→Option NameKind}{x:Str}{v:Value} : ∀ {P:List Str}{vs:List Value}{i:Nat}{m:Str→Option Value},P.Nodup→P[i]? = some x→vs[i]? = some v→kindOf x≠some .local →
    bindC kindOf (P.zip vs) m x=some v
  | [],_,_,_,_,h,_,_=>by simp at h
  | _ :: _,[],_,_,_,_,h,_=>by simp at h
  | p :: P,w :: vs,0,m,nd,h1,h2,hk=>by
    simp at h1 h2;subst h1;subst h2
    show bindC kindOf ((p,w) :: P.zip vs) m p=_
    unfold bindC
    rw [bindC_out fun v hv=>(List.nodup_cons.mp nd).1 (List.of_mem_zip hv).1,if_neg hk]
    simp
  | p :: P,w :: vs,i+1,m,nd,h1,h2,hk=>by
    show bindC kindOf ((p,w) :: P.zip vs) m x=_
    unfold bindC
    exact bindC_get (i:=i) (List.nodup_cons.mp nd).2 (by simpa using h1) (by simpa using h2) hk
def start (N:List Str) (vs:List V) : St:=vs.map some++List.replicate (N.length-vs.length) none
def cxOf (CX:CXT) (P:Program) (w:World) (K:PySem.W.Frag) (mg:Str→Option Value) (base:Heap) (N:List Str) (qual:Str) (scope:Scope) (f:Addr) (cd:Value) (A:Around) (outer:List Env) (s:Shared) (H:Hp) (E:XK) : Cx where
  prog:=P
  w:=w
  K:=K
  mg:=mg
  base:=base
  A:=A.deeper (envOfC qual scope s.heap.objs.size f cd)
  N:=N
  s₀:=s
  H₀:=H
  env:=envOfC qual scope s.heap.objs.size f cd
  outer:=outer
  stack:=envOfC qual scope s.heap.objs.size f cd :: outer
  ex:=[]
  calm:=true
  fn:=fun _=>true
  pn:=[]
  xe:=fun e s'=>wpAny (model P w) (A.deeper (envOfC qual scope s.heap.objs.size f cd)) (leaving (envOfC qual scope s.heap.objs.size f cd) e) (fun _ s''=>CX outer H s E e s'') (fun e' s''=>CX outer H s E e' s'') s'
theorem cell_has {sc:Scope}{n:Nat}{x:Str} (h:sc.names.lookup x=some .cell) : ∃ c,(cellsFrom n sc.names []).lookup x=some c:=by
  have q:=PySem.W.cellsFrom_some sc.names n [] (.inl h)
  exact Option.isSome_iff_exists.mp q
theorem inv_start {CX:CXT}{P:Program}{w:World}{K:PySem.W.Frag}{mg:Str→Option Value}{base:Heap}{N ps:List Str}{qual:Str}{scope:Scope}{f:Addr}{cd:Value}{A:Around}{outer:List Env}{s s1:Shared}{H:Hp}{E:XK}{us:List Value}{vs:List V}
    (S:FnScope N ps scope) (hd:A.handled=none) (e0:Env0 P w K mg base A outer s H) (hl:vs.length=ps.length) (r:Vals vs us)
    (x:InCallC s s.heap.objs.size (bindL (envOfC qual scope s.heap.objs.size f cd).kindOf (ps.zip us) fun _=>none) (cellsFrom (s.heap.objs.size+1) scope.names []) (bindC (envOfC qual scope s.heap.objs.size f cd).kindOf (ps.zip us) fun _=>none) s1) :
    Inv (cxOf CX P w K mg base N qual scope f cd A outer s H E) [] (start N vs) H s1:=by
  have hpl:ps.length≤N.length:=by have:=congrArg List.length S.pre;rw [List.length_take] at this;omega
  obtain ⟨h1,tk,rfl,hk⟩:=x.done
  have noA:∀ b:Addr,b ∉ (cxOf CX P w K mg base N qual scope f cd A outer s H E).ex:=fun b z=>absurd (show b∈([] : List Addr) from z) (by simp)
  refine ⟨⟨e0.mod,S.kind,rfl,rfl,Nat.le_refl _,fun y z c h1 h2 => ?_,fun y hy => ?_,fun y c _ h => ?_,fun _=>hd,Around.frames_deeper e0.frames,.inr ⟨rfl,rfl⟩,fun b z=>absurd z (noA b),e0.bs,e0.bsz,fun b _ _=>noA b,fun b z=>absurd z (noA b),e0.funs,e0.frf⟩,
    rfl,e0.bare,Un.kept hk,⟨_,x.toInCall.ns,fun i y v h1 h2 h3 => ?_⟩,fun y c h=>⟨_,x.cell y c h⟩,e0.hok.fresh (Nat.le_refl _),fun y c h => ?_,fun p hp=>absurd (show p∈([] : List (Addr × Obj)) from hp) (by simp),e0.hok.kept hk,?_⟩
  · exact name_of_addr x.apart (PySem.mem_of_lookup h1) (PySem.mem_of_lookup h2)
  · have hy:scope.names.lookup y=some .cell∨scope.names.lookup y=some .free:=hy
    rcases hy with hy | hy
    · exact cell_has hy
    · exact absurd rfl (S.nofree _ (PySem.mem_of_lookup hy))
  · exact Nat.le_of_lt (x.above y c (PySem.mem_of_lookup h))
  · have hi:i<vs.length:=by
      unfold start at h2
      by_cases hi:i<vs.length
      · exact hi
      · rw [List.getElem?_append_right (by simpa using hi)] at h2
        rw [List.getElem?_replicate] at h2
        split at h2 <;> cases h2
    have ha:vs[i]? = some v:=by
      unfold start at h2
      rw [List.getElem?_append_left (by simpa using hi),List.getElem?_map] at h2
      cases e:vs[i]? with
      | none=>rw [e] at h2;cases h2
      | some a=>rw [e] at h2;cases h2;rfl
    obtain ⟨u,hu,rv⟩:=r.get ha
    have hp:ps[i]? = some y:=by
      rw [← S.pre,List.getElem?_take_of_lt (by omega)];exact h1
    have ndP:ps.Nodup:=by rw [← S.pre];exact S.nd.sublist (List.take_sublist _ _)
    refine ⟨u,rv,?_⟩
    rcases S.par y (List.mem_of_getElem? hp) with k | k
    · exact .inl ⟨k,bindL_get ndP hp hu k⟩
    · obtain ⟨c,e⟩:=cell_has (n:=s.heap.objs.size+1) k
      refine .inr ⟨.inl k,c,e,?_⟩
      have q:=x.cell y c e
      rw [bindC_get ndP hp hu (by show scope.names.lookup y≠_;rw [k];decide)] at q
      exact q
  · exact e0.hok.fresh (Nat.le_of_lt (x.above y c (PySem.mem_of_lookup h)))
  · unfold start
    show _=N.length
    rw [List.length_append,List.length_map,List.length_replicate]
    omega
theorem fn_of {CX:CXT}{P:Program}{w:World}{K:PySem.W.Frag}{mg:Str→Option Value}{base:Heap}{k:Nat}{f:Addr}{name qual:Str}{params:Arguments}{body:List Stmt}{scope:Scope}{dV kV doc pm cdv ct oc:Value}{an od:Option Addr}
    {osl:Array (Option Value)}{N ps:List Str}{sp:Sp} (lk:K.lookup f=some ⟨oc,od,.func (PySem.W.fnOf name qual params body scope dV kV doc pm an cdv ct),osl⟩) (hcd:PySem.W.codeIn K cdv qual=true) (S:FnScope N ps scope)
    (len:∀ vs H Q E,sp vs H Q E→vs.length=ps.length)
    (hbody:∀ (A:Around) (outer:List Env) (s:Shared) (H:Hp) (vs:List V) (Q:VK) (E:XK),Room k (A.deeper (envOfC qual scope s.heap.objs.size f cdv))→sp vs H Q E →
      ∃ t,PSs (cxOf CX P w K mg base N qual scope f cdv A outer s H E) body t∧t { nx:=fun _ H'=>Q .non H',rt:=Q } (start N vs) H) :
    FnOk P w K mg base CX (k+1) f (PySem.W.fnOf name qual params body scope dV kV doc pm an cdv ct) ps sp:=by
  refine ⟨len,fun A outer s H args us vs Q E hr e0 hb r hsp => ?_⟩
  have hl:=len _ _ _ _ hsp
  have KX:K.In s.heap:=e0.mod.kin.keeps fun b o e=>(e0.bs b o e).1
  have lim:s.heap.NoLimit:=e0.mod.nolimit.keeps fun b o e=>(e0.bs b o e).1
  have hkind:∀ y∈ps.zip us,scope.names.lookup y.1=some .local∨(scope.names.lookup y.1=some .cell∧((cellsFrom (s.heap.objs.size+1) scope.names []).lookup y.1).isSome=true):=fun ⟨n,v⟩ hy=>by
    rcases S.par n (List.of_mem_zip hy).1 with q | q
    · exact .inl q
    · exact .inr ⟨q,PySem.W.cellsFrom_some _ _ _ (.inl q)⟩
  refine codeAny_call_function hr.depth (KX _ _ lk) rfl S.co S.gen rfl (PySem.W.codeRec_of KX hcd) (hb _ _ _ _ ?_)
  refine wpAny_newFunctionEnv_cells S.kind hkind fun env he s1 x => ?_
  subst he
  refine ⟨lim.keeps x.toInCall.keep,codeAny_func ?_⟩
  obtain ⟨t,ht,hq⟩:=hbody A outer s H vs Q E (hr.deeper _) hsp
  have I:Inv (cxOf CX P w K mg base N qual scope f cdv A outer s H E) [] (start N vs) H s1:=inv_start S hr.hd e0 hl r x
  refine wpAny_mono (ht [] s1 (start N vs) H _ I hq) (fun fl s' hs => ?_) fun e s' hs=>hs
  have fin:∀ {σ':St}{H':Hp}{v:V}{u:Value},Inv (cxOf CX P w K mg base N qual scope f cdv A outer s H E) [] σ' H' s'→RelV v u→Q v H'→CE outer P w H s Q u s' :=
    fun {σ' H' v u} J rv q=>⟨v,H',J.os,J.bare,J.base,J.hok,rv,q⟩
  cases fl with
  | ret u =>
    obtain ⟨v,σ',H',J,rv,q⟩:=hs
    exact fin J rv q
  | next =>
    obtain ⟨σ',H',J,q⟩:=hs
    exact fin (v:=V.non) (u:=Value.none) J rfl q
  | brk =>
    obtain ⟨_,_,_,q⟩:=hs
    exact False.elim q
  | cont =>
    obtain ⟨_,_,_,q⟩:=hs
    exact False.elim q
end L2
namespace L2
open PySem PySem.Spec PyProof.Rows
section
variable {X:Cx}{x:Str}{p pos:Pos}{e:Expr}{es:List Expr}{t:TA}{id T:String}{r:List V→Hp→VK→Prop}
def tCB (r:List V→Hp→VK→Prop) (t:TA) : TE:=fun σ H Q=>t σ H fun vs H1=>r vs H1 Q
theorem pe_callB (hc:CallR X (.builtin id) r) (hg:Gl X x) (hm:X.mg x=none) (hv:bootBuiltins x=some (.builtin id)) (ha:PA X (e :: es) t) (hn:x ≠ "__name__" := by decide) (hdb:(x == ("__debug__" : Str))=false:=by decide)
    (he:starEach (e :: es) X.env=(false,eval e X.env) :: starEach es X.env:=by rfl) (hpl:(backTo pos (starEach es X.env)).any (·.1)=false:=by rfl) : PE X (.Call (.Name x p) (e :: es) [] pos) (tCB r t):=by
  intro pins s σ H Q I h
  refine wpAny_Call_Name_kw (ld_blt I hg hm hv ?_ hn hdb)
  exact PyProof.Rows.callWith_builtin1 (thn (ha pos pins s σ H _ I h) fun us s1 ⟨vs,H1,I1,r1,q1⟩=>hc pins s1 σ H1 vs us Q I1 r1 q1) he hpl
theorem pe_callTy (hc:CallR X (.type T) r) (hg:Gl X x) (hm:X.mg x=none) (hv:bootBuiltins x=some (.type T)) (ha:PA X (e :: es) t) (hn:x ≠ "__name__" := by decide) (hdb:(x == ("__debug__" : Str))=false:=by decide)
    (he:starEach (e :: es) X.env=(false,eval e X.env) :: starEach es X.env:=by rfl) (hpl:(backTo pos (starEach es X.env)).any (·.1)=false:=by rfl) : PE X (.Call (.Name x p) (e :: es) [] pos) (tCB r t):=by
  intro pins s σ H Q I h
  refine wpAny_Call_Name_kw (ld_blt I hg hm hv ?_ hn hdb)
  exact PyProof.Rows.callWith_type1 (thn (ha pos pins s σ H _ I h) fun us s1 ⟨vs,H1,I1,r1,q1⟩=>hc pins s1 σ H1 vs us Q I1 r1 q1) he hpl
end
end L2
namespace HT
open PySem PyProof.Rows
section
open PySem.SeqAt
open PySem.AutoSeq1 (wpAny_loadPart')
open PySem.MeetsSeq PySem.MeetsSeq2 PySem.MeetsSeq3
end
section
variable {prog:Program}{w:World}{A:Around}{E:Value→Shared→Prop}{s:Shared}
def sIx (n d:Nat) : Option Int→Nat
  | none=>d
  | some v=>if v<0 then (v+(n:Int)).toNat else min v.toNat n
end
end HT
namespace L2
open PySem PySem.Spec PyProof.Rows
abbrev TO:=St→Hp→(Option Int→Hp→Prop)→Prop
def PO (X:Cx) (e:Option Expr) (t:TO) : Prop :=
  ∀ (pins:List (Addr × Obj)) (s:Shared) (σ : St) (H:Hp) (Q:Option Int→Hp→Prop),Inv X pins σ H s→t σ H Q →
    wpAny (model X.prog X.w) X.A (evalPart e X.env) (fun u s' => ∃ o H',Inv X pins σ H' s'∧IsPart u o∧Q o H') X.xe s
def tPart (t:TE) : TO:=fun σ H Q=>t σ H fun x H1 => ∃ i,x = .int i∧Q (some i) H1
theorem intsAre_of {ns:List Int} : ∀ {us:List Value},Vals (ns.map V.int) us→IntsAre us ns:=by
  induction ns with
  | nil=>intro us r;rw [List.map_nil] at r;cases r;exact .nil
  | cons n ns ih =>
    intro us r
    rw [List.map_cons] at r
    cases r with
    | cons r1 r2 =>
      obtain ⟨t,e⟩:=r1
      subst e
      exact .cons n t (ih r2)
section
variable {X:Cx}{e:Expr}{te:TE}{lo hi:Option Expr}{tl th:TO}{pos p2:Pos}
theorem po_some (h:PE X e te) : PO X (some e) (tPart te):=by
  intro pins s σ H Q I hw
  rw [evalPart_some]
  refine thn (h pins s σ H _ I hw) fun u s1 ⟨x,H1,I1,r1,q1⟩ => ?_
  obtain ⟨i,rfl,q⟩:=q1
  obtain ⟨t,rfl⟩:=r1
  exact ⟨some i,H1,I1,.int i t,q⟩
def SlR (X:Cx) (r:V→Option Int→Option Int→Hp→VK→Prop) : Prop :=
  ∀ (pins:List (Addr × Obj)) (s:Shared) (σ : St) (H:Hp) (x:V) (v vl vu:Value) (lo hi:Option Int) (sl:Addr) (Q:VK),Inv X pins σ H s→RelV x v→s.heap.IsSliceOf sl vl vu .none→IsPart vl lo→IsPart vu hi→r x lo hi H Q →
    ∃ T id,typeLookup (.type T) "__getitem__" = pure (some (.builtin id))∧s.TypeIs v T∧wpAny (model X.prog X.w) X.A (getItem v (.ref sl)) (EP X pins σ Q) X.xe s
def tSl (r:V→Option Int→Option Int→Hp→VK→Prop) (te:TE) (tl th:TO) : TE:=fun σ H Q=>te σ H fun x H1=>tl σ H1 fun l H2=>th σ H2 fun u H3=>r x l u H3 Q
theorem pe_slice {r:V→Option Int→Option Int→Hp→VK→Prop} (hr:SlR X r) (he:PE X e te) (hl:PO X lo tl) (hu:PO X hi th) : PE X (.Subscript e (.Slice lo hi none p2) pos) (tSl r te tl th):=by
  intro pins s σ H Q I h
  refine Subscript_ (thn (he pins s σ H _ I h) fun v s1 ⟨x,H1,I1,r1,q1⟩ => ?_)
  refine wpAny_Slice (thn (hl pins s1 σ H1 _ I1 q1) fun vl s2 ⟨l,H2,I2,pl,q2⟩=>thn (hu pins s2 σ H2 _ I2 q2) fun vu s3 ⟨u,H3,I3,pu,q3⟩ => ?_)
  rw [evalPart_none]
  refine wpAny_pure ?_
  have I4:Inv X pins σ H3 { s3 with heap:=s3.heap.push { cls := .type "slice",data := .fields #[vl,vu,.none] } }:=I3.kept (t':=s3.toks) fun b ob q=>Heap.get?_push_of_some _ q
  obtain ⟨T,id,hT,ht,hg⟩:=hr pins { s3 with heap:=s3.heap.push { cls := .type "slice",data := .fields #[vl,vu,.none] } } σ H3 x v vl vu l u s3.heap.objs.size Q I4 r1 (Heap.IsSliceOf.new ..) pl pu q3
  show wpAny (model X.prog X.w) X.A (subscriptTail e (.Slice lo hi none p2) v (.ref s3.heap.objs.size)) (EP X pins σ Q) X.xe { s3 with heap:=s3.heap.push { cls := .type "slice",data := .fields #[vl,vu,.none] } }
  exact tail_any (ops:=[.ref s3.heap.objs.size,v]) ht hT hg (by with_unfolding_all rfl)
def cutV (xs:List V) (lo hi:Option Int) : List V:=(xs.drop (HT.sIx xs.length 0 lo)).take (HT.sIx xs.length xs.length hi-HT.sIx xs.length 0 lo)
theorem cutV_length (xs:List V) (lo hi:Option Int) : (cutV xs lo hi).length≤xs.length:=by
  unfold cutV
  rw [List.length_take,List.length_drop]
  exact Nat.le_trans (Nat.min_le_right _ _) (Nat.sub_le _ _)
end
end L2
namespace L2
open PySem PySem.Spec PyProof.Rows
def ixN (n:Nat) (i:Int) : Option Nat:=if 0≤i then (if i<n then some i.toNat else none) else if -(n:Int)≤i then some (i+n).toNat else none
def atI {α : Type} (xs:List α) (i:Int) : Option α := (ixN xs.length i).bind fun j=>xs[j]?
theorem ixN_seq {n:Nat}{i:Int}{j:Nat} (h:ixN n i=some j) : seqIndex? i n=some j∧j<n ∧ -(n:Int)≤i∧i<n:=by
  unfold ixN at h
  by_cases h0 : 0≤i
  · rw [if_pos h0] at h
    by_cases h1:i<n
    · rw [if_pos h1] at h
      have e:i.toNat=j:=Option.some.inj h
      exact ⟨by rw [seqIndex_of h0 h1,e],by omega,by omega,h1⟩
    · rw [if_neg h1] at h;cases h
  · rw [if_neg h0] at h
    by_cases h1 : -(n:Int)≤i
    · rw [if_pos h1] at h
      have e:(i+n).toNat=j:=Option.some.inj h
      exact ⟨by rw [seqIndex_neg (by omega) h1,e],by omega,h1,by omega⟩
    · rw [if_neg h1] at h;cases h
theorem atI_get {α : Type}{xs:List α}{i:Int}{v : α} (h:atI xs i=some v) : ∃ j,seqIndex? i xs.length=some j∧xs[j]? = some v∧j<xs.length ∧ -(xs.length:Int)≤i∧i<xs.length:=by
  unfold atI at h
  cases e:ixN xs.length i with
  | none=>rw [e] at h;cases h
  | some j =>
    rw [e] at h
    obtain ⟨h1,h2,h3,h4⟩:=ixN_seq e
    exact ⟨j,h1,h,h2,h3,h4⟩
theorem atI_nat {α : Type}{xs:List α}{j:Nat}{v : α} (h:xs[j]? = some v) : atI xs (j:Int)=some v:=by
  have hj:j<xs.length:=(List.getElem?_eq_some_iff.mp h).1
  have e:ixN xs.length (j:Int)=some j:=by
    unfold ixN
    rw [if_pos (by omega),if_pos (by omega)];simp
  unfold atI;rw [e];exact h
def PlainIx (b:Expr) : Prop := ∀ o i,subscripted b false o i=operate [o,i] (getItem o i)
def IxR (X:Cx) (r:R2) : Prop :=
  ∀ (value slice:Expr) (pins:List (Addr × Obj)) (s:Shared) (σ : St) (H:Hp) (x y:V) (v u:Value) (Q:VK),Inv X pins σ H s→RelV x v→RelV y u→r x y H Q →
    subscripted slice false v u=operate [v,u] (getItem v u)→wpAny (model X.prog X.w) X.A (subscriptTail value slice v u) (EP X pins σ Q) X.xe s
def MtR (X:Cx) (id:String) (r:V→List V→Hp→VK→Prop) : Prop :=
  ∀ (pins:List (Addr × Obj)) (s:Shared) (σ : St) (H:Hp) (x:V) (xs:List V) (v:Value) (us:List Value) (Q:VK),Inv X pins σ H s→RelV x v→Vals xs us→r x xs H Q →
    wpAny (model X.prog X.w) X.A (call (.builtin id) (v :: us)) (EP X pins σ Q) X.xe s
section
variable {X:Cx}{a b:Expr}{ta tb:TE}{pos:Pos}
theorem pe_ix {r:R2} (hr:IxR X r) (ha:PE X a ta) (hb:PE X b tb) (hs:PlainIx b) : PE X (.Subscript a b pos) (tOp r ta tb):=by
  intro pins s σ H Q I h
  exact Subscript_ (binT ha hb I h fun v u s2 x y H2 I2 rx ry q=>hr a b pins s2 σ H2 x y v u Q I2 rx ry q (hs _ _))
def rIxL (K:PySem.W.Frag) : R2:=fun x y H Q => ∃ p xs i v,x = .ref p∧y = .int i∧SqL K H p xs∧atI xs i=some v∧Q v H
def rIxT (K:PySem.W.Frag) : R2:=fun x y H Q => ∃ p xs i v,x = .ref p∧y = .int i∧SqT K H p xs∧atI xs i=some v∧Q v H
theorem ix_list:IxR X (rIxL X.K):=by
  intro value slice pins s σ H x y v u Q I rx ry h hs
  obtain ⟨p,xs,i,z,rfl,rfl,hq,he,q⟩:=h
  cases rx
  obtain ⟨t,rfl⟩:=ry
  obtain ⟨its,r,pl,hz⟩:=I.list hq
  obtain ⟨j,h1,h2,h3,h4,h5⟩:=atI_get he
  obtain ⟨w,ew,rw'⟩:=r.get h2
  have hl:=r.length
  have hn:=line63
  have fin:EP X pins σ Q w s:=⟨z,H,I,rw',q⟩
  by_cases h0 : 0≤i
  · have hj:i.toNat=j:=by
      rw [seqIndex_of h0 h5] at h1
      exact Option.some.inj h1
    exact item_listR pl.isList h0 (by omega) (by rw [hj];simpa using ew) fin hs
  · have hj:(i+(its.toArray.size:Int)).toNat=j:=by
      rw [seqIndex_neg (by omega) h4] at h1
      rw [List.size_toArray,← hl]
      exact Option.some.inj h1
    exact subscriptTail_builtinR (x:=w) pl.isList.typeIs slot_list_getitem.lookup
      (wpAny_getItem_list_neg (Q:=fun r s'=>r=w∧EP X pins σ Q r s') pl.isList (by omega) (by rw [List.size_toArray] <;> omega) (by omega) (by rw [hj];simpa using ew) ⟨rfl,fin⟩) hs
theorem ix_tup:IxR X (rIxT X.K):=by
  intro value slice pins s σ H x y v u Q I rx ry h hs
  obtain ⟨p,xs,i,z,rfl,rfl,hq,he,q⟩:=h
  cases rx
  obtain ⟨t,rfl⟩:=ry
  obtain ⟨its,r,pl,hz⟩:=I.tuple hq
  obtain ⟨j,h1,h2,h3,h4,h5⟩:=atI_get he
  obtain ⟨w,ew,rw'⟩:=r.get h2
  have hl:=r.length
  have hn:=line63
  have fin:EP X pins σ Q w s:=⟨z,H,I,rw',q⟩
  exact subscriptTail_builtinR (x:=w) pl.typeIs slot_tuple_getitem.lookup
    (getItem_tuple (j:=j) (Q:=fun r s'=>r=w∧EP X pins σ Q r s') pl (by omega) (by omega) (by rw [List.size_toArray,← hl];exact h1) (by simpa using ew) ⟨rfl,fin⟩) hs
theorem sb_neg {i:Int}{n:Nat} (h:i<0) : max 0 (min (i+(n:Int)) n)=(((i+n).toNat:Nat) : Int):=by
  rw [Int.min_eq_left (by omega),Int.ofNat_toNat,Int.max_comm]
theorem sb_pos {i:Int}{n:Nat} (h : ¬ i<0) : max 0 (min i (n:Int))=((min i.toNat n:Nat) : Int):=by
  obtain ⟨k,rfl⟩:=Int.eq_ofNat_of_zero_le (Int.not_lt.mp h)
  rw [Int.toNat_natCast]
  rcases Nat.le_total k n with h | h
  · rw [Nat.min_eq_left h,Int.min_eq_left (Int.ofNat_le.mpr h),Int.max_eq_right (Int.natCast_nonneg _)]
  · rw [Nat.min_eq_right h,Int.min_eq_right (Int.ofNat_le.mpr h),Int.max_eq_right (Int.natCast_nonneg _)]
theorem slice_bounds (lo hi:Option Int) (n:Nat) : (sliceBounds lo hi none n).1=((HT.sIx n 0 lo:Nat) : Int)∧(sliceBounds lo hi none n).2.1=((HT.sIx n n hi:Nat) : Int)∧(sliceBounds lo hi none n).2.2=1:=by
  refine ⟨?_,?_,rfl⟩
  · cases lo with
    | none=>simp [sliceBounds,HT.sIx]
    | some i =>
      simp only [sliceBounds,HT.sIx,Option.getD_none,show (1:Int) > 0 by decide,if_true]
      by_cases h:i<0
      · simp only [h,if_true];exact sb_neg h
      · simp only [h,if_false];exact sb_pos h
  · cases hi with
    | none=>simp [sliceBounds,HT.sIx]
    | some i =>
      simp only [sliceBounds,HT.sIx,Option.getD_none,show (1:Int) > 0 by decide,if_true]
      by_cases h:i<0
      · simp only [h,if_true];exact sb_neg h
      · simp only [h,if_false];exact sb_pos h
theorem slicePick_cut (its:List Value) (lo hi:Option Int) : slicePick its.toArray lo hi none=((its.drop (HT.sIx its.length 0 lo)).take (HT.sIx its.length its.length hi-HT.sIx its.length 0 lo)).toArray:=by
  obtain ⟨h1,h2,h3⟩:=slice_bounds lo hi its.toArray.size
  unfold slicePick
  rw [h1,h2,h3]
  simp only [sliceRange_one,pick_run,List.size_toArray] <;> rfl
def rSlL (K:PySem.W.Frag) : V→Option Int→Option Int→Hp→VK→Prop:=fun x lo hi H Q => ∃ a xs,x = .ref a∧SqL K H a xs∧∀ p,H p=none→Q (.ref p) (upd H p (.lst (cutV xs lo hi)))
theorem sl_list:SlR X (rSlL X.K):=by
  intro pins s σ H x v vl vu lo hi sl Q I rx hs pl pu h
  obtain ⟨a,xs,rfl,hx,q⟩:=h
  cases rx
  obtain ⟨its,r,ht,hz⟩:=I.list hx
  have hlen:=r.length
  refine ⟨"list",_,slot_list_getitem.lookup,ht.isList.typeIs,?_⟩
  refine wpAny_getItem_list_slice ht.isList hs pl pu .none (by simp) ?_ (by rw [List.size_toArray] <;> omega)
  rw [slicePick_cut,← hlen]
  refine ⟨.ref s.heap.objs.size,_,I.laid (t':=s.toks) (o := .lst (cutV xs lo hi)) (fun b ob q=>Heap.get?_push_of_some _ q) (Nat.le_refl _) ?_,rfl,q _ (I.hok.fresh (Nat.le_refl _))⟩
  exact ⟨Nat.le_trans (cutV_length xs lo hi) hz,_,0,(r.drop (HT.sIx xs.length 0 lo)).take (HT.sIx xs.length xs.length hi-HT.sIx xs.length 0 lo),Heap.get?_push_size _ rfl⟩
theorem call_len_seq:CallR X (.builtin "len") (fun xs H Q => ∃ p ys,xs=[.ref p]∧(SqL X.K H p ys∨SqT X.K H p ys)∧Q (.int ys.length) H):=by
  intro pins s σ H xs us Q I r h
  obtain ⟨p,ys,rfl,hq,q⟩:=h
  obtain ⟨u,rfl,rx⟩:=vals1 r
  cases rx
  have hn:=line63
  rcases hq with hq | hq
  · obtain ⟨its,r',pl,hz⟩:=I.list hq
    have hlen:=r'.length
    exact Calls.call_len_list pl.isList (by simp only [List.size_toArray] <;> omega) ⟨.int ys.length,H,I.tok _,⟨s.toks+1,by rw [List.size_toArray,hlen]⟩,q⟩
  · obtain ⟨its,r',pl,hz⟩:=I.tuple hq
    have hlen:=r'.length
    exact len_tuple pl (by simp only [List.size_toArray] <;> omega) ⟨.int ys.length,H,I.tok _,⟨s.toks+1,by rw [List.size_toArray,hlen]⟩,q⟩
theorem call_list_of:CallR X (.type "list") (fun xs H Q => ∃ p ys,xs=[.ref p]∧(SqL X.K H p ys∨SqT X.K H p ys)∧∀ l,H l=none→Q (.ref l) (upd H l (.lst ys))):=by
  intro pins s σ H xs us Q I r h
  obtain ⟨p,ys,rfl,hq,q⟩:=h
  obtain ⟨u,rfl,rx⟩:=vals1 r
  cases rx
  have fin:∀ (its:List Value),Vals ys its→ys.length≤sizeLine→∀ (h':Heap) (c':Nat),(∀ b o',s.heap.get? b=some o'→h'.get? b=some o') →
      h'.get? s.heap.objs.size=some { cls := .type "list",dict:=none,data := .seq its.toArray c',slots := #[] }→EP X pins σ Q (.ref s.heap.objs.size) { s with heap:=h' }:=fun its r' hz h' c' kp e =>
    ⟨.ref s.heap.objs.size,_,I.laid (t':=s.toks) kp (Nat.le_refl _) (show ObjOk X.prog X.w _ h' _ (.lst ys) from ⟨hz,its,c',r',e⟩),rfl,q _ (I.hok.fresh (Nat.le_refl _))⟩
  rcases hq with hq | hq
  · obtain ⟨its,r',pl,hz⟩:=I.list hq
    have hlen:=r'.length
    obtain ⟨o,ho,hc,n,hd⟩:=pl.isList
    exact call_list_seq p (.inl rfl) ho hc hd (fun h' c' kp e=>fin its r' hz h' c' kp e) (by simp only [List.size_toArray] <;> omega)
  · obtain ⟨its,r',pl,hz⟩:=I.tuple hq
    have hlen:=r'.length
    obtain ⟨o,ho,hc,n,hd⟩:=pl
    exact call_list_seq p (.inr rfl) ho hc hd (fun h' c' kp e=>fin its r' hz h' c' kp e) (by simp only [List.size_toArray] <;> omega)
def tyV (K:PySem.W.Frag) (T:String) (x:V) (H:Hp) : Prop:=match x with
  | .str _=>T = "str"
  | .int _=>T = "int"
  | .ref p=>(T = "list" ∧ ∃ xs,SqL K H p xs)∨(T = "tuple" ∧ ∃ o,K.lookup p=some o∧o.cls = .type "tuple" ∧ o.dict=none) ∨
      (T = "dict" ∧ ((∃ kvs,H p=some (.dK kvs))∨∃ kvs,H p=some (.dT kvs)))∨(T = "set" ∧ ∃ S n,H p=some (.set S n))
  | _=>False
theorem tyV_is {pins:List (Addr × Obj)} {σ : St}{H:Hp}{s:Shared}{T:String}{x:V}{v:Value} (I:Inv X pins σ H s) (r:RelV x v) (ty:tyV X.K T x H) :
    s.TypeIs v T∧∀ a,v = .ref a→∃ ob,s.heap.get? a=some ob∧ob.dict=none:=by
  cases x with
  | str z =>
    obtain ⟨t,rfl⟩:=r
    cases (show T = "str" from ty)
    exact ⟨typeIs_str s z t,fun _ e=>nomatch e⟩
  | int i =>
    obtain ⟨t,rfl⟩:=r
    cases (show T = "int" from ty)
    exact ⟨typeIs_int s i t,fun _ e=>nomatch e⟩
  | ref p =>
    cases r
    rcases ty with ⟨rfl,xs,hq⟩ | ⟨rfl,o,hk,hc,hd⟩ | ⟨rfl,hk⟩ | ⟨rfl,S,n,hk⟩
    · obtain ⟨its,_,pl,_⟩:=I.list hq
      refine ⟨pl.isList.typeIs,fun a e => ?_⟩
      cases e
      obtain ⟨o,n,e,c,hd,_⟩:=pl
      exact ⟨o,e,hd⟩
    · refine ⟨⟨o,I.kIn p o hk,hc⟩,fun a e => ?_⟩
      cases e
      exact ⟨o,I.kIn _ o hk,hd⟩
    · have z:∃ o,s.heap.get? p=some o∧o.ExactDict:=by
        rcases hk with ⟨kvs,hk⟩ | ⟨kvs,hk⟩
        · obtain ⟨_,_,_,_,o,_,_,e,ex,_⟩:=I.hok p _ hk
          exact ⟨o,e,ex⟩
        · obtain ⟨_,_,_,_,o,_,_,e,ex,_⟩:=I.hok p _ hk
          exact ⟨o,e,ex⟩
      obtain ⟨o,e,ex⟩:=z
      refine ⟨⟨o,e,ex.1⟩,fun a e2 => ?_⟩
      cases e2
      exact ⟨o,e,ex.2.1⟩
    · obtain ⟨o,_,_,_,e,ex,_⟩:=I.hok p _ hk
      refine ⟨⟨o,e,ex.1⟩,fun a e2 => ?_⟩
      cases e2
      exact ⟨o,e,ex.2.1⟩
  | _=>exact False.elim ty
def tBM0 (K:PySem.W.Frag) (T:String) (r:V→List V→Hp→VK→Prop) (to:TE) : TE:=fun σ H Q=>to σ H fun x H1=>tyV K T x H1∧r x [] H1 Q
def tBM (K:PySem.W.Frag) (T:String) (r:V→List V→Hp→VK→Prop) (to:TE) (t:TA) : TE:=fun σ H Q=>to σ H fun x H1=>tyV K T x H1∧t σ H1 fun xs H2=>r x xs H2 Q
variable {o e:Expr}{es:List Expr}{to:TE}{t:TA}{name:Str}{apos cpos:Pos}{T id:String}{r:V→List V→Hp→VK→Prop}
theorem pe_bm0 (pa:PlainAttrs T) (slot:Slot T name id) (hty:typeOf (.builtin id)=pure (.type "method_descriptor")) (hm:MtR X id r) (ho:PE X o to)
    (hbase:attributeBase o name X.env (eval o X.env)=eval o X.env:=by rfl) (hline:(apos.endLine == cpos.line)=true:=by rfl) : PE X (.Call (.Attribute o name apos) [] [] cpos) (tBM0 X.K T r to):=by
  intro pins s σ H Q I h
  refine wpAny_Call_method0_late hbase hline (thn (ho pins s σ H _ I h) fun v s1 ⟨x,H1,I1,r1,ty,q1⟩ => ?_)
  obtain ⟨h1,h2⟩:=tyV_is I1 r1 ty
  exact ⟨T,id,pa,slot,hty,h1,h2,Calls.callWith_builtin rfl (PySem.evalArgs_none (hm pins s1 σ H1 x [] v [] Q I1 r1 .nil q1))⟩
theorem pe_bm (pa:PlainAttrs T) (slot:Slot T name id) (hty:typeOf (.builtin id)=pure (.type "method_descriptor")) (hm:MtR X id r) (ho:PE X o to) (ha:PA X (e :: es) t)
    (hbase:attributeBase o name X.env (eval o X.env)=eval o X.env:=by rfl)
    (hfew:((backTo cpos (starEach (e :: es) X.env)).all (fun x => !x.1) && (backToKw cpos (keywordEach [] X.env)).all (fun x=>x.1.isSome)
      && decide ((e :: es).length+([] : List Keyword).length+(if ([] : List Keyword).isEmpty then 0 else 1)<30))=true:=by rfl)
    (hline:(apos.endLine == cpos.line)=true:=by rfl) (hs:starEach (e :: es) X.env=(false,eval e X.env) :: starEach es X.env:=by rfl) (hplain:(backTo cpos (starEach es X.env)).any (·.1)=false:=by rfl) :
    PE X (.Call (.Attribute o name apos) (e :: es) [] cpos) (tBM X.K T r to t):=by
  intro pins s σ H Q I h
  refine wpAny_Call_method_late hbase hfew hline rfl (thn (ho pins s σ H _ I h) fun v s1 ⟨x,H1,I1,r1,ty,q1⟩ => ?_)
  obtain ⟨h1,h2⟩:=tyV_is I1 r1 ty
  refine ⟨T,id,pa,slot,hty,h1,h2,?_⟩
  have hA:=ha cpos pins s1 σ H1 _ I1 q1
  rw [hs] at hA ⊢
  refine Calls.callWith_builtin (by show (false || (backTo cpos (starEach es X.env)).any (·.1))=false;rw [hplain] <;> rfl) (Calls.evalArgs_plain ?_)
  exact thn hA fun us s2 ⟨vs,H2,I2,r2,q2⟩=>hm pins s2 σ H2 x vs v us Q I2 r1 r2 q2
end
end L2
namespace L2
open PySem PySem.Spec PyProof.Rows
def MtM (X:Cx) (id:String) (r:V→List V→Hp→VK→Prop) : Prop :=
  ∀ (pins:List (Addr × Obj)) (s:Shared) (σ : St) (H:Hp) (x:V) (xs:List V) (v:Value) (us:List Value) (Q:VK),Inv X pins σ H s→RelV x v→Vals xs us→r x xs H Q →
    wpAny (model X.prog X.w) X.A (call (.builtin id) (v :: us)) (EP X pins σ Q) X.xe s
theorem Vals.one {x:V}{us:List Value} (h:Vals [x] us) : ∃ u,us=[u]∧RelV x u:=by
  cases h with | cons r t=>cases t;exact ⟨_,rfl,r⟩
theorem Vals.zero:∀ {us:List Value},Vals [] us→us=[]
  | _,.nil=>rfl
section
variable {X:Cx}{pins:List (Addr × Obj)} {σ : St}{H:Hp}{s:Shared}{l b:Addr}{xs ys zs:List V}
theorem Inv.lset {its its':List Value}{n:Nat}{f:Array Value→Array Value}{t':Nat} (I:Inv X pins σ H s) (hH:H l=some (.lst xs))
    (e:s.heap.get? l=some { cls := .type "list",data := .seq its.toArray n }) (hf:f its.toArray=its'.toArray) (hv:Vals ys its') (hz:ys.length≤sizeLine) :
    Inv X pins σ (upd H l (.lst ys)) { s with heap:=s.heap.update l (Obj.mapSeq f),toks:=t' }:=by
  have q:=PySem.IsL.update e f
  rw [hf] at q
  refine I.write (x:=l) (e:=l) (by rw [hH];exact trivial) (.inl rfl) (fun b' u hb hu=>(Heap.get?_update_other s.heap (Obj.mapSeq f) (Ne.symm hb)).trans hu) ⟨_,q⟩ ?_
  exact ⟨hz,its',_,hv,q⟩
theorem Inv.lnew {its:List Value}{t':Nat} (I:Inv X pins σ H s) (hv:Vals ys its) (hz:ys.length≤sizeLine) :
    Inv X pins σ (upd H s.heap.objs.size (.lst ys)) { s with heap:=s.heap.push { cls := .type "list",data := .seq its.toArray },toks:=t' } :=
  I.laid (fun _ _ q=>Heap.get?_push_of_some _ q) (Nat.le_refl _) ⟨hz,its,0,hv,Heap.get?_push_size _ rfl⟩
theorem Inv.fresh (I:Inv X pins σ H s) : H s.heap.objs.size=none:=I.hok.fresh (Nat.le_refl _)
theorem Inv.lstM (I:Inv X pins σ H s) (hH:H l=some (.lst xs)) : xs.length≤sizeLine∧∃ (its:List Value) (n:Nat),Vals xs its∧xs.length=its.length∧s.heap.get? l=some { cls := .type "list",data := .seq its.toArray n }:=by
  obtain ⟨z,its,n,r,e⟩:=I.hok l _ hH
  exact ⟨z,its,n,r,r.length,e⟩
end
section
variable {X:Cx}
def rAppend:V→List V→Hp→VK→Prop:=fun x vs H Q => ∃ l xs y,x = .ref l∧vs=[y]∧H l=some (.lst xs)∧xs.length<sizeLine∧Q .non (upd H l (.lst (xs ++ [y])))
theorem mt_append:MtM X "list.append" rAppend:=by
  intro pins s σ H x vs v us Q I rx rv h
  obtain ⟨l,xs,y,rfl,rfl,hH,hz,q⟩:=h
  cases rx
  obtain ⟨u,rfl,ru⟩:=rv.one
  obtain ⟨z,its,n,r,hl,e⟩:=I.lstM hH
  refine call_meets F.slot_list_append ⟨_,e,rfl⟩ F.entry_list_append (F.args_list_append_2 _ _) (PySem.list_append l its.toArray n u (by rw [List.size_toArray];omega)) ⟨e,?_⟩
  refine ⟨.non,_,I.lset (its':=its ++ [u]) hH e (by simp) (r.append (.cons ru .nil)) ?_,rfl,q⟩
  rw [List.length_append,List.length_singleton]
  omega
def rCat:R2:=fun x y H Q => ∃ l b xs zs,x = .ref l∧y = .ref b∧H l=some (.lst xs)∧H b=some (.lst zs)∧xs.length+zs.length≤sizeLine∧∀ p,H p=none→Q (.ref p) (upd H p (.lst (xs++zs)))
theorem op_cat:OpR X (binaryOp .Add) rCat:=by
  intro pins s σ H x y v u Q I rx ry h
  obtain ⟨l,b,xs,zs,rfl,rfl,hH,hB,hz,q⟩:=h
  cases rx
  cases ry
  obtain ⟨z,its,n,r,hl,e⟩:=I.lstM hH
  obtain ⟨z2,its2,n2,r2,hl2,e2⟩:=I.lstM hB
  refine PySem.P.add_list e e2 ?_ (by rw [List.size_toArray,List.size_toArray];omega)
  have ea:its.toArray++its2.toArray=(its++its2).toArray:=by simp
  rw [ea]
  exact ⟨.ref _,_,I.lnew (t':=s.toks) (r.append r2) (by rw [List.length_append];omega),rfl,q _ I.fresh⟩
end
section
variable {prog:Program}{w:World}{A:Around}{E:Value→Shared→Prop}{s:Shared}
end
section
variable {X:Cx}
end
end L2
namespace L2
open PySem PySem.Spec PyProof.Rows
section
variable {κ : Type} [DecidableEq κ]
def valV (kvs:List (κ × V)) (k : κ) : Option V:=(kvs.find? fun kv=>decide (kv.1=k)).map (·.2)
def putK (kvs:List (κ × V)) (k : κ) (v:V) : List (κ × V) :=
  if (kvs.any fun kv=>decide (kv.1=k))=true then kvs.map (fun kv=>if kv.1=k then (kv.1,v) else kv) else kvs ++ [(k,v)]
theorem valV_pos {p : κ × V}{r:List (κ × V)}{k : κ} (e:p.1=k) : valV (p :: r) k=some p.2:=by simp [valV,List.find?_cons,e]
theorem valV_neg {p : κ × V}{r:List (κ × V)}{k : κ} (e : ¬ p.1=k) : valV (p :: r) k=valV r k:=by simp [valV,List.find?_cons,e]
theorem valV_any (k : κ) : ∀ kvs:List (κ × V),(kvs.any fun kv=>decide (kv.1=k))=(valV kvs k).isSome
  | []=>rfl
  | p :: r=>by
    rw [List.any_cons]
    by_cases e:p.1=k
    · simp only [valV_pos e,decide_eq_true e,Bool.true_or,Option.isSome_some]
    · rw [valV_neg e,decide_eq_false e,Bool.false_or];exact valV_any k r
theorem length_putK (kvs:List (κ × V)) (k : κ) (v:V) : (putK kvs k v).length≤kvs.length+1:=by
  unfold putK
  split
  · rw [List.length_map];omega
  · rw [List.length_append,List.length_cons,List.length_nil];omega
theorem RelO.isSome_eq {o:Option V}{u:Option Value} (r:RelO o u) : o.isSome=u.isSome:=by
  cases o with
  | none=>cases u with
    | none=>rfl
    | some _=>exact (show False from r).elim
  | some _=>cases u with
    | none=>exact (show False from r).elim
    | some _=>rfl
theorem RelO.getD {o:Option V}{u:Option Value}{d:V}{d':Value} (r:RelO o u) (rd:RelV d d') : RelV (o.getD d) (u.getD d'):=by
  cases o with
  | none=>cases u with
    | none=>exact rd
    | some _=>exact (show False from r).elim
  | some _=>cases u with
    | none=>exact (show False from r).elim
    | some _=>exact r
theorem KV.val {kvs:List (κ × V)}{vs:List (κ × Value)} (r:KV kvs vs) (k : κ) : RelO (valV kvs k) (valueAt vs k):=by
  unfold KV at r
  induction r with
  | nil=>exact True.intro
  | @cons p q ps qs h t ih =>
    obtain ⟨h1,h2⟩:=h
    by_cases e:p.1=k
    · have e':q.1=k:=h1.symm.trans e
      have b:valueAt (q :: qs) k=some q.2:=by simp [valueAt,List.find?_cons,e']
      rw [valV_pos e,b];exact h2
    · have e' : ¬ q.1=k:=fun z=>e (h1.trans z)
      have b:valueAt (q :: qs) k=valueAt qs k:=by simp [valueAt,List.find?_cons,e']
      rw [valV_neg e,b];exact ih
theorem KV.any {kvs:List (κ × V)}{vs:List (κ × Value)} (r:KV kvs vs) (k : κ) : (kvs.any fun kv=>decide (kv.1=k))=vs.any fun kv=>decide (kv.1=k):=by
  unfold KV at r
  induction r with
  | nil=>rfl
  | cons h t ih=>rw [List.any_cons,List.any_cons,ih,h.1]
theorem KV.repl {kvs:List (κ × V)}{vs:List (κ × Value)} (r:KV kvs vs) (k : κ) {y:V}{u:Value} (ry:RelV y u) :
    KV (kvs.map fun kv=>if kv.1=k then (kv.1,y) else kv) (vs.map fun kv=>if kv.1=k then (kv.1,u) else kv):=by
  unfold KV at r ⊢
  induction r with
  | nil=>exact .nil
  | @cons p q ps qs h t ih =>
    rw [List.map_cons,List.map_cons]
    refine .cons ?_ ih
    obtain ⟨h1,h2⟩:=h
    by_cases e:p.1=k
    · rw [if_pos e,if_pos (h1.symm.trans e)];exact ⟨h1,ry⟩
    · rw [if_neg e,if_neg (fun z=>e (h1.trans z))];exact ⟨h1,h2⟩
theorem KV.put {kvs:List (κ × V)}{vs:List (κ × Value)} (r:KV kvs vs) (k : κ) {y:V}{u:Value} (ry:RelV y u) : KV (putK kvs k y) (stored vs k u):=by
  unfold putK stored
  rw [r.any k]
  by_cases e:(vs.any fun kv=>decide (kv.1=k))=true
  · rw [if_pos e,if_pos e];exact r.repl k ry
  · rw [if_neg e,if_neg e];exact Paired.snoc r ⟨rfl,ry⟩
theorem KV.keys {kvs:List (κ × V)}{vs:List (κ × Value)} (r:KV kvs vs) : kvs.map (·.1)=vs.map (·.1):=by
  unfold KV at r
  induction r with
  | nil=>rfl
  | cons h t ih=>rw [List.map_cons,List.map_cons,ih,h.1]
theorem KV.length {kvs:List (κ × V)}{vs:List (κ × Value)} (r:KV kvs vs) : kvs.length=vs.length:=Paired.length r
end
theorem kV_is {P:Program}{w:World}{k:Key}{u:Value} (r:RelV (kV k) u) : (mixKind P w).is k u=true:=by
  cases k with
  | inl i=>obtain ⟨t,e⟩:=(show ∃ t,u=Value.int i t from r);subst e;exact mixKind_int P w i t
  | inr x=>obtain ⟨t,e⟩:=(show ∃ t,u=Value.str x t from r);subst e;exact mixKind_str P w x t
theorem items_are {P:Program}{w:World} : ∀ {ks:List Key}{us:List Value},Vals (ks.map kV) us→ItemsAre (mixKind P w) ks us
  | [],_,r=>by rw [List.map_nil] at r;cases r;exact .nil
  | k :: ks,_,r=>by
    rw [List.map_cons] at r
    cases r with
    | cons h t=>exact .cons (kV_is h) (items_are t)
abbrev KT (H:Hp) : List (List Key × V)→List (List Key × Addr × Value)→Prop:=Paired fun p q=>p.1=q.1∧H q.2.1=some (.tup (p.1.map kV))∧RelV p.2 q.2.2
theorem KT.val {H:Hp}{kvs:List (List Key × V)}{xs:List (List Key × Addr × Value)} (r:KT H kvs xs) (k:List Key) : RelO (valV kvs k) ((atKey xs k).map (·.2)):=by
  induction r with
  | nil=>exact True.intro
  | @cons p q ps qs h t ih =>
    obtain ⟨h1,_,h2⟩:=h
    by_cases e:p.1=k
    · have e':q.1=k:=h1.symm.trans e
      have b:atKey (q :: qs) k=some q.2:=by simp [atKey,List.find?_cons,e']
      rw [valV_pos e,b];exact h2
    · have e' : ¬ q.1=k:=fun z=>e (h1.trans z)
      have b:atKey (q :: qs) k=atKey qs k:=by simp [atKey,List.find?_cons,e']
      rw [valV_neg e,b];exact ih
theorem KT.repl {H:Hp}{kvs:List (List Key × V)}{xs:List (List Key × Addr × Value)} (r:KT H kvs xs) (k:List Key) {y:V}{u:Value} (ry:RelV y u) :
    KT H (kvs.map fun kv=>if kv.1=k then (kv.1,y) else kv) (xs.map (putAt k u)):=by
  induction r with
  | nil=>exact .nil
  | @cons p q ps qs h t ih =>
    rw [List.map_cons,List.map_cons]
    refine .cons ?_ ih
    obtain ⟨h1,h2,h3⟩:=h
    unfold putAt
    by_cases e:p.1=k
    · rw [if_pos e,if_pos (h1.symm.trans e)];exact ⟨h1,h2,ry⟩
    · rw [if_neg e,if_neg (fun z=>e (h1.trans z))];exact ⟨h1,h2,h3⟩
theorem KT.put {H:Hp}{kvs:List (List Key × V)}{xs:List (List Key × Addr × Value)} (r:KT H kvs xs) (k:List Key) {b:Addr}{y:V}{u:Value} (hb:H b=some (.tup (k.map kV))) (ry:RelV y u) :
    KT H (putK kvs k y) (storedH xs k b u):=by
  have e:(kvs.any fun kv=>decide (kv.1=k))=(atKey xs k).isSome:=by
    rw [valV_any,(r.val k).isSome_eq,Option.isSome_map]
  unfold putK storedH
  rw [e]
  by_cases q:(atKey xs k).isSome=true
  · rw [if_pos q,if_pos q];exact r.repl k ry
  · rw [if_neg q,if_neg q];exact Paired.snoc r ⟨rfl,hb,ry⟩
theorem KT.keeps {H H':Hp}{kvs:List (List Key × V)}{xs:List (List Key × Addr × Value)} (r:KT H kvs xs) (ht:∀ b ys,H b=some (.tup ys)→H' b=some (.tup ys)) : KT H' kvs xs :=
  Paired.mapP r fun _ _ z=>⟨z.1,ht _ _ z.2.1,z.2.2⟩
section
variable {P:Program}{w:World}{H:Hp}{h:Heap}{a:Addr}
theorem rd_of {u:HO} (ok:HOk P w H h) (e:Rd H a u) : ObjOk P w H h a u:=e.ok ok
theorem dk_rd {kvs:List (Key × V)} (ok:HOk P w H h) (e:Rd H a (.dK kvs)) : kvs.length≤sizeLine∧(a == sysModules)=false∧∃ vs,KV kvs vs∧h.DictOf (mixKind P w) a vs :=
  show ObjOk P w H h a (.dK kvs) from rd_of ok e
theorem dk_of {kvs:List (Key × V)} (ok:HOk P w H h) (e:H a=some (.dK kvs)) : kvs.length≤sizeLine∧(a == sysModules)=false∧∃ vs,KV kvs vs∧h.DictOf (mixKind P w) a vs:=dk_rd ok (.inl e)
theorem key_of {ks:List Key} (ok:HOk P w H h) (e:H a=some (.tup (ks.map kV))) : (tupleKind (mixKind P w)).is h ks a:=by
  obtain ⟨_,its,r,o,h1,h2,n,h3⟩:=(show ObjOk P w H h a (.tup (ks.map kV)) from ok a _ e)
  exact ⟨o,its.toArray,n,h1,h2,h3,by simpa using items_are r⟩
theorem dt_rd {kvs:List (List Key × V)} (ok:HOk P w H h) (e:Rd H a (.dT kvs)) : kvs.length≤sizeLine∧(a == sysModules)=false ∧
    ∃ xs,KT H kvs xs∧h.DictOfH (tupleKind (mixKind P w)) a xs:=by
  obtain ⟨z,y,xs,r,o,es,ep,h1,h2,h3,h4,h5⟩:=(show ObjOk P w H h a (.dT kvs) from rd_of ok e)
  refine ⟨z,y,xs,r,o,es,ep,h1,h2,h3,h4,fun x hx => ?_,h5⟩
  have all:∀ {l:List (List Key × V)}{m:List (List Key × Addr × Value)},KT H l m→∀ x∈m,(tupleKind (mixKind P w)).is h x.1 x.2.1:=by
    intro l m q
    induction q with
    | nil=>intro x hx;exact nomatch hx
    | @cons p q ps qs hq t ih =>
      intro x hx
      rcases List.mem_cons.mp hx with e | hx
      · subst e
        exact key_of ok (by rw [← hq.1];exact hq.2.1)
      · exact ih x hx
  exact all r x hx
theorem dt_of {kvs:List (List Key × V)} (ok:HOk P w H h) (e:H a=some (.dT kvs)) : kvs.length≤sizeLine∧(a == sysModules)=false ∧
    ∃ xs,KT H kvs xs∧h.DictOfH (tupleKind (mixKind P w)) a xs:=dt_rd ok (.inl e)
end
def DGet (H:Hp) (a:Addr) (y:V) (r:Option V) : Prop :=
  (∃ kvs k,Rd H a (.dK kvs)∧y=kV k∧r=valV kvs k)∨∃ kvs k b,Rd H a (.dT kvs)∧y = .ref b∧H b=some (.tup (k.map kV))∧r=valV kvs k
def DPut (H:Hp) (a:Addr) (y v:V) (H':Hp) : Prop :=
  (∃ kvs k,H a=some (.dK kvs)∧y=kV k∧kvs.length<sizeLine∧H'=upd H a (.dK (putK kvs k v))) ∨
  ∃ kvs k b,H a=some (.dT kvs)∧y = .ref b∧H b=some (.tup (k.map kV))∧kvs.length<sizeLine∧H'=upd H a (.dT (putK kvs k v))
theorem DGet.k {H:Hp}{a:Addr}{kvs:List (Key × V)}{k:Key} (e:H a=some (.dK kvs)) : DGet H a (kV k) (valV kvs k) := .inl ⟨kvs,k,.inl e,rfl,rfl⟩
theorem DGet.t {H:Hp}{a b:Addr}{kvs:List (List Key × V)}{k:List Key} (e:H a=some (.dT kvs)) (eb:H b=some (.tup (k.map kV))) : DGet H a (.ref b) (valV kvs k) := .inr ⟨kvs,k,b,.inl e,rfl,eb,rfl⟩
theorem DPut.k {H:Hp}{a:Addr}{kvs:List (Key × V)}{k:Key}{v:V} (e:H a=some (.dK kvs)) (hl:kvs.length<sizeLine) : DPut H a (kV k) v (upd H a (.dK (putK kvs k v))) := .inl ⟨kvs,k,e,rfl,hl,rfl⟩
theorem DPut.t {H:Hp}{a b:Addr}{kvs:List (List Key × V)}{k:List Key}{v:V} (e:H a=some (.dT kvs)) (eb:H b=some (.tup (k.map kV))) (hl:kvs.length<sizeLine) :
    DPut H a (.ref b) v (upd H a (.dT (putK kvs k v))) := .inr ⟨kvs,k,b,e,rfl,eb,hl,rfl⟩
section
variable {X:Cx}{pins:List (Addr × Obj)} {σ : St}{H:Hp}{s:Shared}{a:Addr}{y v:V}{u r:Value}{o:Option V}{A:Around}{E:Value→Shared→Prop}
theorem Inv.big (I:Inv X pins σ H s) : sysModules<s.heap.objs.size:=by
  have h:mainGlobals<s.heap.objs.size:=(I.mod.glob.keeps I.bk).lt
  exact Nat.lt_trans (by decide) h
theorem d_getItem {Q:Value→Shared→Prop} (hu:A.units+1<cLine) (I:Inv X pins σ H s) (g:DGet H a y (some v)) (ry:RelV y u) (h:∀ w' s',Inv X pins σ H s'→RelV v w'→Q w' s') :
    wpAny (model X.prog X.w) A (getItem (.ref a) u) Q E s:=by
  rcases g with ⟨kvs,k,e,ey,l⟩ | ⟨kvs,k,b,e,ey,eb,l⟩
  · subst ey
    obtain ⟨z,hd,vs,rel,dd⟩:=dk_rd I.hok e
    obtain ⟨w',hw,rw'⟩:=RelO.some_of (v:=v) (o:=valueAt vs k) (by rw [l];exact rel.val k)
    exact wpAny_getItem_of (kV_is ry) dd.mapOf hw (h w' _ (I.tok _) rw')
  · subst ey
    cases (show u=Value.ref b from ry)
    obtain ⟨z,hd,xs,rel,dd⟩:=dt_rd I.hok e
    obtain ⟨w',hw,rw'⟩:=RelO.some_of (v:=v) (o:=(atKey xs k).map (·.2)) (by rw [l];exact rel.val k)
    obtain ⟨p,hp,hp2⟩:=Option.map_eq_some_iff.mp hw
    refine wpAny_getItem_heap (tupleKind_room_in1 hu) (key_of I.hok eb) dd hp ?_
    rw [hp2]
    exact h w' _ (I.tok _) rw'
theorem d_notIn {Q:Value→Shared→Prop} (hu:A.units+1<cLine) (I:Inv X pins σ H s) (g:DGet H a y o) (ry:RelV y u) (h:∀ s',Inv X pins σ H s'→Q (.bool (!o.isSome)) s') :
    wpAny (model X.prog X.w) A (compareOp .NotIn u (.ref a)) Q E s:=by
  rcases g with ⟨kvs,k,e,ey,l⟩ | ⟨kvs,k,b,e,ey,eb,l⟩
  · subst ey
    obtain ⟨z,hd,vs,rel,dd⟩:=dk_rd I.hok e
    refine wpAny_notIn_of (kV_is ry) hd dd.mapOf ?_
    rw [← (rel.val k).isSome_eq,← l]
    exact h _ (I.tok _)
  · subst ey
    cases (show u=Value.ref b from ry)
    obtain ⟨z,hd,xs,rel,dd⟩:=dt_rd I.hok e
    refine wpAny_notIn_heap (tupleKind_room_in1 hu) (key_of I.hok eb) hd dd ?_
    have q:=(rel.val k).isSome_eq
    rw [Option.isSome_map] at q
    rw [← q,← l]
    exact h _ (I.tok _)
theorem d_write {h':Heap}{t':Nat}{ob:HO} (I:Inv X pins σ H s) (mu:Mut (H a)) (hs:Heap.SameBut a s.heap h') (he:∃ q,h'.get? a=some q) (new:ObjOk X.prog X.w (upd H a ob) h' a ob) :
    Inv X pins σ (upd H a ob) { s with heap:=h',toks:=t' } :=
  I.write (x:=a) (e:=a) mu (.inl rfl) (fun b q hb z=>(hs.2 b hb).trans z) he new
theorem dk_new {P:Program}{w:World}{H':Hp}{h':Heap}{kvs:List (Key × V)}{vs:List (Key × Value)} (z:kvs.length≤sizeLine) (hd:(a == sysModules)=false) (rel:KV kvs vs) (dd:h'.DictOf (mixKind P w) a vs) :
    ObjOk P w H' h' a (.dK kvs):=⟨z,hd,vs,rel,dd⟩
theorem d_setItem {H':Hp}{Q:Unit→Shared→Prop} (hu:A.units+1<cLine) (I:Inv X pins σ H s) (g:DPut H a y v H') (ry:RelV y u) (rv:RelV v r) (h:∀ s',Inv X pins σ H' s'→Q () s') :
    wpAny (model X.prog X.w) A (setItem (.ref a) u r) Q E s:=by
  rcases g with ⟨kvs,k,e,ey,l,eH⟩ | ⟨kvs,k,b,e,ey,eb,l,eH⟩
  · subst ey eH
    obtain ⟨z,hd,vs,rel,dd⟩:=dk_of I.hok e
    have hz:vs.length≤sizeLine:=by rw [← rel.length];exact z
    have hl:(putK kvs k v).length≤sizeLine:=by have:=length_putK kvs k v;omega
    refine wpAny_setItem_pairs (hsz:=hz) (kV_is ry) dd fun h' dd' hs=>h _ ?_
    have he:∃ q,h'.get? a=some q:=let ⟨q,_,_,hq,_⟩:=dd'; ⟨q,hq⟩
    exact d_write I (by rw [e];exact True.intro) hs he (dk_new hl hd (rel.put k rv) dd')
  · subst ey eH
    cases (show u=Value.ref b from ry)
    obtain ⟨z,hd,xs,rel,dd⟩:=dt_of I.hok e
    have hz:xs.length≤sizeLine:=by rw [← Paired.length rel];exact z
    have hl:(putK kvs k v).length≤sizeLine:=by have:=length_putK kvs k v;omega
    refine wpAny_setItem_heap (hsz:=hz) (tupleKind_room_in1 hu) (key_of I.hok eb) dd fun h' dd' hs=>h _ ?_
    obtain ⟨q,es,ep,hq,h2,h3,h4,_,h5⟩:=dd'
    refine d_write I (by rw [e];exact True.intro) hs ⟨q,hq⟩ ⟨hl,hd,_,(rel.put k eb rv).keeps fun c ys ec => ?_,q,es,ep,hq,h2,h3,h4,h5⟩
    rw [upd_ne (ne_of ec e (fun z=>nomatch z))]
    exact ec
end
section
variable {X:Cx}{pins:List (Addr × Obj)} {σ : St}{H:Hp}{s:Shared}{a:Addr}{kvs:List (Key × V)}{k:Key}{u:Value}{A:Around}{E:Value→Shared→Prop}
end
def NoSl (i:Expr) : Prop := ∀ ov iv,subscripted i false ov iv=operate [ov,iv] (getItem ov iv)
theorem subD_of {prog:Program}{w:World}{A:Around}{E:Value→Shared→Prop}{s:Shared}{env:Env}{value slice:Expr}{pos:Pos}{T id:String}{Q:Value→Shared→Prop}
    (hl:typeLookup (.type T) "__getitem__" = pure (some (.builtin id))) (hs:NoSl slice)
    (h:wpAny (model prog w) A (eval value env) (fun o s₁=>wpAny (model prog w) A (eval slice env) (fun i s₂=>s₂.TypeIs o T∧wpAny (model prog w) A (getItem o i) Q E s₂) E s₁) E s) :
    wpAny (model prog w) A (eval (.Subscript value slice pos) env) Q E s:=by
  refine Subscript_ (wpAny_mono h (fun o s₁ h₁=>wpAny_mono h₁ (fun i s₂ h₂ => ?_) fun _ _ x=>x) fun _ _ x=>x)
  obtain ⟨hT,h₂⟩:=h₂
  unfold subscriptTail
  refine wpAny_bind ?_
  rw [getitemInPython_of_ne hT.not_modules]
  refine wpAny_bind (wpAny_specialOf hT hl ?_)
  have fin:wpAny (model prog w) A (subscripted slice false o i) (fun r s₃=>wpAny (model prog w) A (letTemporaryGo value o r >>= fun _=>pure r) Q E s₃) E s₂:=by
    rw [hs o i]
    exact wpAny_operating (wpAny_mono h₂ (fun r s₃ h₃=>wpAny_bind (wpAny_letTemporaryGo (wpAny_pure h₃))) fun _ _ x=>x)
  first
    | exact wpAny_pure (wpAny_bind fin)
    | exact wpAny_bind (wpAny_pure (wpAny_bind fin))
    | exact wpAny_bind fin
theorem dict_typeIs {X:Cx}{pins:List (Addr × Obj)} {σ : St}{H:Hp}{s:Shared}{a:Addr}{y:V}{o:Option V} (I:Inv X pins σ H s) (g:DGet H a y o) : s.TypeIs (.ref a) "dict" := by
  rcases g with ⟨kvs,k,e,_,_⟩ | ⟨kvs,k,b,e,_,_,_⟩
  · obtain ⟨_,_,vs,_,dd⟩:=dk_rd I.hok e
    exact dd.typeIs
  · obtain ⟨_,_,xs,_,dd⟩:=dt_rd I.hok e
    exact dd.typeIs
def tDGet (td ty:TE) : TE:=fun σ H Q=>td σ H fun x H1=>ty σ H1 fun y H2 => ∃ a v,x = .ref a∧DGet H2 a y (some v)∧Q v H2
def tDNotIn (ty td:TE) : TE:=fun σ H Q=>ty σ H fun y H1=>td σ H1 fun x H2 => ∃ a o,x = .ref a∧DGet H2 a y o∧Q (.bl (!o.isSome)) H2
def sDPut (td ty tv:TE) : TS:=fun D σ H=>tv σ H fun v H1=>td σ H1 fun x H2=>ty σ H2 fun y H3 => ∃ a H4,x = .ref a∧DPut H3 a y v H4∧D.nx σ H4
section
variable {X:Cx}{o i e value:Expr}{pos pos' tpos:Pos}{td ty tv:TE}
theorem pe_dget (hu:X.A.units+1<cLine) (ho:PE X o td) (hi:PE X i ty) (hs:NoSl i) : PE X (.Subscript o i pos) (tDGet td ty):=by
  intro pins s σ H Q I h
  refine subD_of PySem.F.slot_dict_getitem.lookup hs (thn (ho pins s σ H _ I h) fun u s1 ⟨x,H1,I1,rx,q1⟩=>thn (hi pins s1 σ H1 _ I1 q1) fun iv s2 ⟨y,H2,I2,ry,a,v,ex,g,q2⟩ => ?_)
  subst ex
  obtain rfl:u=Value.ref a:=rx
  exact ⟨dict_typeIs I2 g,d_getItem hu I2 g ry fun w' s3 I3 rw'=>⟨v,H2,I3,rw',q2⟩⟩
theorem pc_dnotin (hu:X.A.units+1<cLine) (hi:PE X i ty) (ho:PE X o td) : PC X .NotIn i o (tDNotIn ty td):=by
  intro pins s σ H Q I h
  refine thn (hi pins s σ H _ I h) fun iv s1 ⟨y,H1,I1,ry,q1⟩=>thn (ho pins s1 σ H1 _ I1 q1) fun u s2 ⟨x,H2,I2,rx,a,ov,ex,g,q2⟩ => ?_
  subst ex
  obtain rfl:u=Value.ref a:=rx
  exact d_notIn hu I2 g ry fun s3 I3=>⟨.bl (!ov.isSome),H2,I3,rfl,q2⟩
theorem ps_dput (hu:X.A.units+1<cLine) (ho:PE X o td) (hi:PE X i ty) (hv:PE X value tv) (hs:swapsWith value (some (.Subscript o i pos')) pos.line X.env=pure false) :
    PS X (.Assign [.Subscript o i pos'] value pos) (sDPut td ty tv):=by
  intro pins s σ H D I h
  refine wpAny_Assign_Subscript (thn (hv pins s σ H _ I h) fun r s1 ⟨v,H1,I1,rv,q1⟩=>thn (ho pins s1 σ H1 _ I1 q1) fun u s2 ⟨x,H2,I2,rx,q2⟩=>thn (hi pins s2 σ H2 _ I2 q2) fun iv s3 ⟨y,H3,I3,ry,a,H4,ex,g,q3⟩ => ?_) hs
  subst ex
  obtain rfl:u=Value.ref a:=rx
  exact d_setItem hu I3 g ry rv fun s4 I4=>⟨σ,H4,I4,q3⟩
end
theorem dk_empty {P:Program}{w:World}{H:Hp} (h:Heap) (hb:sysModules<h.objs.size) : ObjOk P w H (h.push { cls := .type "dict",data := .dict #[] }) h.objs.size (.dK []) :=
  ⟨Nat.zero_le _,beq_eq_false_iff_ne.mpr (Ne.symm (Nat.ne_of_lt hb)),[],.nil,Heap.DictOf.new h⟩
theorem dt_empty {P:Program}{w:World}{H:Hp} (h:Heap) (hb:sysModules<h.objs.size) : ObjOk P w H (h.push { cls := .type "dict",data := .dict #[] }) h.objs.size (.dT []) :=
  ⟨Nat.zero_le _,beq_eq_false_iff_ne.mpr (Ne.symm (Nat.ne_of_lt hb)),[],.nil,_,#[],0,Heap.get?_push_size _ rfl,⟨rfl,rfl,rfl⟩,rfl,rfl,List.nodup_nil⟩
def tDNewK:TE:=fun _ H Q => ∀ p,H p=none→Q (.ref p) (upd H p (.dK []))
def tDNewT:TE:=fun _ H Q => ∀ p,H p=none→Q (.ref p) (upd H p (.dT []))
section
variable {X:Cx}{pos:Pos}
theorem pe_dnewK:PE X (.Dict [] [] pos) tDNewK:=fun pins s σ H Q I h =>
  wpAny_Dict_empty ⟨.ref s.heap.objs.size,_,I.laid (a:=s.heap.objs.size) (o := .dK []) (t':=s.toks) (fun _ _ q=>Heap.get?_push_of_some _ q) (Nat.le_refl _) (dk_empty s.heap I.big),rfl,h _ (I.hok.fresh (Nat.le_refl _))⟩
theorem pe_dnewT:PE X (.Dict [] [] pos) tDNewT:=fun pins s σ H Q I h =>
  wpAny_Dict_empty ⟨.ref s.heap.objs.size,_,I.laid (a:=s.heap.objs.size) (o := .dT []) (t':=s.toks) (fun _ _ q=>Heap.get?_push_of_some _ q) (Nat.le_refl _) (dt_empty s.heap I.big),rfl,h _ (I.hok.fresh (Nat.le_refl _))⟩
end
structure M2 (X:Cx) (o:Expr) (m:Str) (apos:Pos) (e f:Expr) (cpos:Pos) : Prop where
  base:attributeBase o m X.env (eval o X.env)=eval o X.env
  few:((backTo cpos (starEach [e,f] X.env)).all (fun x => !x.1) && (backToKw cpos (keywordEach [] X.env)).all (fun x=>x.1.isSome)
    && decide (([e,f] : List Expr).length+([] : List Keyword).length+(if ([] : List Keyword).isEmpty then 0 else 1)<30))=true
  line:(apos.endLine == cpos.line)=true
  trees:backTo cpos (starEach [e,f] X.env)=[(false,eval e X.env),(false,eval f X.env)]
def IsD (H:Hp) (a:Addr) : Prop:=(∃ kvs,Rd H a (.dK kvs))∨∃ kvs,Rd H a (.dT kvs)
theorem isD_at {X:Cx}{pins:List (Addr × Obj)} {σ : St}{H:Hp}{s:Shared}{a:Addr} (I:Inv X pins σ H s) (d:IsD H a) :
    s.TypeIs (.ref a) "dict" ∧ (∀ b,Value.ref a = .ref b→∃ ob,s.heap.get? b=some ob∧ob.dict=none)∧(a == sysModules)=false:=by
  rcases d with ⟨kvs,e⟩ | ⟨kvs,e⟩
  · obtain ⟨_,hd,vs,_,dd⟩:=dk_rd I.hok e
    refine ⟨dd.typeIs,fun b q => ?_,hd⟩
    cases q
    obtain ⟨ob,_,_,h1,h2,_⟩:=dd
    exact ⟨ob,h1,h2.2.1⟩
  · obtain ⟨_,hd,xs,_,dd⟩:=dt_rd I.hok e
    refine ⟨dd.typeIs,fun b q => ?_,hd⟩
    cases q
    obtain ⟨ob,_,_,h1,h2,_⟩:=dd
    exact ⟨ob,h1,h2.2.1⟩
section
variable {X:Cx}{pins:List (Addr × Obj)} {σ : St}{H:Hp}{s:Shared}{a:Addr}{y d:V}{u r:Value}{o:Option V}{A:Around}{E:Value→Shared→Prop}
theorem d_get2 {Q:Value→Shared→Prop} (hu:A.units+1<cLine) (I:Inv X pins σ H s) (g:DGet H a y o) (ry:RelV y u) (rd:RelV d r) (h:∀ w' s',Inv X pins σ H s'→RelV (o.getD d) w'→Q w' s') :
    wpAny (model X.prog X.w) A (call (.builtin "dict.get") [.ref a,u,r]) Q E s:=by
  rcases g with ⟨kvs,k,e,ey,l⟩ | ⟨kvs,k,b,e,ey,eb,l⟩
  · subst ey
    obtain ⟨z,hd,vs,rel,dd⟩:=dk_rd I.hok e
    refine call_meetsIn PySem.F.slot_dict_get dd.typeIs PySem.F.entry_dict_get (PySem.F.args_dict_get_3 _ _ _) (meets_dict_get_default (mixKind X.prog X.w) a (kV_is ry) hd r) ⟨_,dd.mapOf,h _ _ (I.tok _) ?_⟩
    rw [l]
    exact (rel.val k).getD rd
  · subst ey
    cases (show u=Value.ref b from ry)
    obtain ⟨z,hd,xs,rel,dd⟩:=dt_rd I.hok e
    refine call_meetsIn PySem.F.slot_dict_get dd.typeIs PySem.F.entry_dict_get (PySem.F.args_dict_get_3 _ _ _) (meetsH_dict_get_default (tupleKind (mixKind X.prog X.w)) a b hd r) ⟨tupleKind_room_in1 hu,k,xs,key_of I.hok eb,dd,h _ _ (I.tok _) ?_⟩
    rw [l]
    exact (rel.val k).getD rd
end
def tDGet2 (td ty tx:TE) : TE:=fun σ H Q=>td σ H fun x H1 => ∃ a,x = .ref a∧IsD H1 a∧ty σ H1 fun y H2=>tx σ H2 fun z H3 => ∃ o,DGet H3 a y o∧Q (o.getD z) H3
section
variable {X:Cx}{o e f:Expr}{apos cpos:Pos}{td ty tx:TE}
theorem pe_dget2 (hu:X.A.units+1<cLine) (ho:PE X o td) (he:PE X e ty) (hf:PE X f tx) (m:M2 X o "get" apos e f cpos) : PE X (.Call (.Attribute o "get" apos) [e,f] [] cpos) (tDGet2 td ty tx):=by
  intro pins s σ H Q I h
  refine wpAny_Call_method m.base m.few m.line PySem.F.plainAttrs_dict PySem.F.slot_dict_get PySem.F.type_dict_get (thn (ho pins s σ H _ I h) fun u s1 ⟨x,H1,I1,rx,a,ex,d,q1⟩ => ?_)
  subst ex
  obtain rfl:u=Value.ref a:=rx
  obtain ⟨t1,t2,_⟩:=isD_at I1 d
  refine ⟨t1,t2,?_⟩
  rw [m.trees]
  refine Calls.callWith_builtin rfl (Calls.evalArgs_plain (Calls.spliced_cons (thn (he pins s1 σ H1 _ I1 q1) fun iv s2 ⟨y,H2,I2,ry,q2⟩ =>
    Calls.spliced_cons (thn (hf pins s2 σ H2 _ I2 q2) fun fv s3 ⟨z,H3,I3,rz,ov,g,q3⟩=>Calls.spliced_nil ?_))))
  exact d_get2 hu I3 g ry rz fun w' s4 I4 rw'=>⟨_,H3,I4,rw',q3⟩
end
section
variable {X:Cx}{pins:List (Addr × Obj)} {σ : St}{H:Hp}{s:Shared}{a:Addr}{kvs:List (Key × V)}{A:Around}{E:Value→Shared→Prop}
end
section
variable {X:Cx}{pins:List (Addr × Obj)} {σ : St}{H:Hp}{s:Shared}{a:Addr}{y:V}{u:Value}{A:Around}{E:Value→Shared→Prop}
end
end L2
namespace Att
open PySem PySem.W PySem.Calls PyProof.Rows
theorem ints_of_wellAll {P:Params}{h:Heap} : ∀ (ns:List Int) (vs:List Value),WellAll P h vs (ns.map WData.int)→IntsAre vs ns:=by
  intro ns
  induction ns with
  | nil =>
    intro vs w
    rw [List.map_nil] at w
    cases w
    exact .nil
  | cons n ns ih =>
    intro vs w
    rw [List.map_cons] at w
    cases w with
    | cons a b =>
      cases a
      exact .cons _ _ (ih _ b)
theorem script_of {l:OpenLaw}{n:Nat} (hn:l.most=some n) {P:Params}{h:Heap}{args:List WData}{vals:List Value}
    (hpre:l.row.toRowW.claim.pre args=true) (hwl:WellAll P h vals args) :
    ∃ a vs ns,vals=[Value.ref a]∧args=[WData.list (ns.map WData.int)]∧h.get? a=some { cls := .type "list",data := .seq vs.toArray }∧IntsAre vs ns∧ns.length≤n:=by
  have hsh:WShape.hasAll [] args [.list .int]=true:=(pre_splitW hpre).1
  have hc:l.pre.holds [] { args:=args }=true:=(pre_splitW hpre).2
  obtain ⟨d,r,rfl,h1,h2⟩:=hasAllW_cons hsh
  obtain rfl:=hasAllW_nil h2
  obtain ⟨xs,rfl,h3⟩:=hasW_list h1
  obtain ⟨ns,rfl⟩:=items_int h3
  have hlen:ns.length≤n:=by
    unfold OpenLaw.pre at hc
    have h4:(WTm.not (.lt (.lit (.int (n:Int))) (.len (.arg 0)))).holds [] { args:=[.list (ns.map .int)] }=true:=by
      have h4:=(holds_andW hc).1
      rw [hn] at h4
      exact h4
    have h5:=condW_of h4 (w_not (w_lt w_lit (w_len_list (w_arg rfl))))
    rw [List.length_map] at h5
    refine Nat.le_of_not_lt fun q => ?_
    have q':(n:Int)<((ns.length:Nat) : Int):=by omega
    first
      | (rw [decide_eq_true q'] at h5;exact absurd h5 (by decide))
      | (simp at h5;omega)
  cases hwl with
  | cons w1 w2 =>
    cases w2
    cases w1 with
    | list ho hall=>exact ⟨_,_,ns,rfl,rfl,ho,ints_of_wellAll ns _ hall,hlen⟩
theorem post_true (l:OpenLaw) (args:List WData) : l.row.toRowW.claim.post args (.bool true) args=true :=
  postW_of (r:=l.row.toRowW) (X:=(true == true))
    (show WShape.has [] (.bool true) .bool=true by first | rfl | decide | simp [WShape.has,WShape.arms,WShape.armsAll])
    (show (WTm.eq .res (.lit (.bool true))).value [] { args:=args,res:=some (.bool true),after:=args }=some (.bool (true == true)) from w_eq_bool (w_res rfl) w_lit) rfl
section
variable {prog:Program}{w:World}{A:Around}{E:Value→Shared→Prop}{s:Shared}{K:Frag}
end
end Att
namespace L2
open PySem PySem.Spec PyProof.Rows
theorem vals_ints:∀ {vs:List Value}{ns:List Int},IntsAre vs ns→Vals (ns.map V.int) vs
  | _,_,.nil => .nil
  | _,_,.cons n t h => .cons ⟨t,rfl⟩ (vals_ints h)
def Only (H:Hp) : Prop := ∀ b,H b=none∨∃ o xs,H b=some (.frz o (.lst xs))
theorem law_call {P:Program}{w:World}{K:PySem.W.Frag}{mg mb:Str→Option Value}{CX:CXT}{k:Nat}{fa a:Addr}{fd:FuncData}{x:Str}{sp:Sp}{s₁:Shared}{vs:List Value}{ns:List Int}
    (KX:K.In s₁.heap) (hns:s₁.heap.Ns mainGlobals mg) (hb:s₁.heap.Ns builtinsNs mb) (hbb:∀ x:Str,x ≠ "__name__" → mb x=bootBuiltins x) (hlim:s₁.heap.NoLimit) (hg:s₁.gens = #[])
    (ha:s₁.heap.get? a=some { cls := .type "list",data := .seq vs.toArray }) (hi:IntsAre vs ns) (hl:ns.length≤sizeLine) (hr:Room k callerA)
    (F:∀ base:Heap,K.In base→base.Ns mainGlobals mg→FnOk P w K mg base CX k fa fd [x] sp) (hbind:∀ (s:Shared) (u:Value),BindsTo s fd ⟨[u],[]⟩ [(x,u)])
    (hsp:∀ H:Hp,Only H→SqL K H a (ns.map V.int)→sp [.ref a] H (fun v _=>v = .bl true) fun _ _ _=>False)
    (hCX:∀ H e s',CX [] H s₁ (fun _ _ _=>False) e s'→False) :
    codeAny (model P w) callerA (.call (.ref fa) ⟨[.ref a],[]⟩) (fun r s'=>r = .ok (.ret (.bool true))∧OldK s₁.heap s'.heap∧s'.os=s₁.os∧AllBare s'.gens) s₁:=by
  have rv:=vals_ints hi
  have lenV:=hi.length
  have core:∀ H:Hp,Only H→SqL K H a (ns.map V.int)→HOk P w H s₁.heap→(∀ b,H b≠none→b=a)→(H a≠none→K.lookup a=none) →
      codeAny (model P w) callerA (.call (.ref fa) ⟨[.ref a],[]⟩) (fun r s'=>r = .ok (.ret (.bool true))∧OldK s₁.heap s'.heap∧s'.os=s₁.os∧AllBare s'.gens) s₁:=by
    intro H hO hS hok hA hK
    have base_of:∀ {b:Addr}{o:Obj},s₁.heap.get? b=some o→H b=none→(hidT s₁.heap H).get? b=some o:=fun e n=>hidT_get e n
    have noA:∀ {b:Addr}{o:Obj}{es:Array DictEntry}{ep:Nat},s₁.heap.get? b=some o→o.data = .dict es ep→H b=none:=fun {b o es ep} e d=>by
      cases q:H b with
      | none=>rfl
      | some u =>
        have e':b=a:=hA b (by rw [q];simp)
        subst e'
        rw [ha] at e;cases e
        have d':Data.seq vs.toArray _=Data.dict es ep:=d
        cases d'
    have nsK:∀ {b:Addr}{m:Str→Option Value},s₁.heap.Ns b m→(hidT s₁.heap H).Ns b m:=fun {b m} ⟨o,es,ep,e,d,r⟩=>⟨o,es,ep,base_of e (noA e d),d,r⟩
    have hKb:K.In (hidT s₁.heap H):=fun b o e=>base_of (KX b o e) (by
      cases q:H b with
      | none=>rfl
      | some u =>
        have e':b=a:=hA b (by rw [q];simp)
        subst e'
        rw [hK (by rw [q];simp)] at e;cases e)
    have hM:Mod K mg (hidT s₁.heap H):=⟨hKb,nsK hns,⟨mb,nsK hb,hbb⟩,let ⟨mc,h1,h2⟩:=hlim; ⟨mc,nsK h1,h2⟩⟩
    have e0:Env0 P w K mg (hidT s₁.heap H) callerA [] s₁ H:=⟨rfl,hM,fun b o e=>of_hidT e,Nat.le_of_eq (hidT_size _ _),trivial,fun b hb=>absurd (show b∈([] : List Addr) from hb) (by simp),hok,.of_eq hg⟩
    refine codeAny_mono ((F _ hKb (nsK hns)).run callerA [] s₁ H ⟨[.ref a],[]⟩ [.ref a] [.ref a] _ _ hr e0 (hbind s₁ (.ref a)) (.cons rfl .nil) (hsp H hO hS)) fun r s' h => ?_
    cases r with
    | error e=>exact (hCX H e s' h).elim
    | ok fl =>
      cases fl with
      | next=>exact False.elim h
      | brk=>exact False.elim h
      | cont=>exact False.elim h
      | ret u =>
        obtain ⟨v,H',os,bare,un,hok',r',q⟩:=h
        have q':v = .bl true:=q
        subst q'
        obtain rfl:u=Value.bool true:=r'
        refine ⟨rfl,OldK.of_keep fun b o e => ?_,os,bare⟩
        cases q:H b with
        | none=>exact un.keep b o e q (by intro z;exact absurd (show b∈([] : List Addr) from z) (by simp)) (by simp)
        | some u =>
          rcases hO b with z | ⟨ob,xs,z⟩
          · rw [q] at z;cases z
          · have z2:=un.frzs b ob _ z
            obtain ⟨e1,_⟩:=hok b _ z
            obtain ⟨e2,_⟩:=hok' b _ z2
            rw [e] at e1;cases e1
            exact e2
  cases hk:K.lookup a with
  | some o =>
    have e:=KX a o hk
    rw [ha] at e
    cases e
    refine core (fun _=>none) (fun _ => .inl rfl) (.inr ⟨_,vs.toArray,_,hk,rfl,rfl,rfl,by rw [List.size_toArray,lenV];exact hl,by simpa using rv⟩) (fun b u z=>by have z':(none:Option HO)=some u:=z;cases z') (fun b z=>absurd rfl z) fun z=>absurd rfl z
  | none =>
    refine core (fun b=>if b=a then some (.frz { cls := .type "list",data := .seq vs.toArray } (.lst (ns.map V.int))) else none) (fun b => ?_) (.inl (.inr ⟨{ cls := .type "list",data := .seq vs.toArray },if_pos rfl⟩)) (fun b u z => ?_) (fun b z => ?_) fun _=>hk
    · by_cases hb:b=a
      · exact .inr ⟨_,_,if_pos hb⟩
      · exact .inl (if_neg hb)
    · by_cases hb:b=a
      · have z':=(if_pos hb).symm.trans z
        cases z'
        subst hb
        exact ⟨ha,by rw [List.length_map];exact hl,vs,_,rv,ha⟩
      · have z':=(if_neg hb).symm.trans z
        cases z'
    · by_cases hb:b=a
      · exact hb
      · exact absurd (if_neg hb) z
end L2
namespace L2
open PySem PySem.Spec PyProof.Rows
end L2
namespace L2
open PySem PySem.Spec PyProof.Rows
def defArgs (s:Stmt) : Arguments:=match s with
  | .FunctionDef _ a _ _ _ _ _ _ _ _=>a
  | _=>{ posonlyargs:=[],args:=[],vararg:=none,kwonlyargs:=[],kw_defaults:=[],kwarg:=none,defaults:=[] }
def defBody (s:Stmt) : List Stmt:=match s with
  | .FunctionDef _ _ b _ _ _ _ _ _ _=>b
  | _=>[]
def defScope (s:Stmt) : Scope:=match s with
  | .FunctionDef _ _ _ _ _ _ sc _ _ _=>sc
  | _=>{ kind := .function,names:=[],isGenerator:=false,isCoroutine:=false }
abbrev CX0:CXT:=fun _ _ _ _ _ _=>False
abbrev E0:XK:=fun _ _ _=>False
theorem pass0 {X:Cx} : Passes CX0 X E0:=fun _ _ _ _ _ _ _ h=>h.elim
structure Fun (K:PySem.W.Frag) (x qual:Str) (st:Stmt) (f:Addr) (fd:FuncData) : Prop where
  ex:∃ (oc:Value) (od:Option Addr) (kV doc pm:Value) (an:Option Addr) (cdv ct:Value) (osl:Array (Option Value)),
    fd=PySem.W.fnOf x qual (defArgs st) (defBody st) (defScope st) .none kV doc pm an cdv ct∧K.lookup f=some ⟨oc,od,.func fd,osl⟩∧PySem.W.codeIn K cdv qual=true
  kp:PySem.W.keepIn K (.ref f)=true
section
variable {P:Program}{w:World}{K:PySem.W.Frag}{mg:Str→Option Value}{base:Heap}
theorem Fun.ok {x qual:Str}{st:Stmt}{f:Addr}{fd:FuncData}{N ps:List Str}{k:Nat}{sp:Sp} (F:Fun K x qual st f fd) (S:FnScope N ps (defScope st)) (len:∀ vs H Q E,sp vs H Q E→vs.length=ps.length)
    (hbody:∀ (cdv:Value) (A:Around) (outer:List Env) (s:Shared) (H:Hp) (vs:List V) (Q:VK) (E:XK),Room k (A.deeper (envOfC qual (defScope st) s.heap.objs.size f cdv))→sp vs H Q E →
      ∃ t,PSs (cxOf CX0 P w K mg base N qual (defScope st) f cdv A outer s H E).nox (defBody st) t∧t { nx:=fun _ H'=>Q .non H',rt:=Q } (start N vs) H) : FnOk P w K mg base CX0 (k+1) f fd ps sp:=by
  obtain ⟨oc,od,kV,doc,pm,an,cdv,ct,osl,rfl,lk,hcd⟩:=F.ex
  refine fn_of lk hcd S len fun A outer s H vs Q E hr hsp => ?_
  obtain ⟨t,h,q⟩:=hbody cdv A outer s H vs Q E hr hsp
  exact ⟨t,h.nox,q⟩
theorem Fun.binds {x qual:Str}{st:Stmt}{f:Addr}{fd:FuncData}{ps:List Str} (F:Fun K x qual st f fd)
    (h:∀ (kV doc pm:Value) (an:Option Addr) (cdv ct:Value) (us:List Value),us.length=ps.length→bindArgs (PySem.W.fnOf x qual (defArgs st) (defBody st) (defScope st) .none kV doc pm an cdv ct) ⟨us,[]⟩=pure (ps.zip us)) : Binds K fd ps []:=by
  obtain ⟨oc,od,kV,doc,pm,an,cdv,ct,osl,rfl,lk,hcd⟩:=F.ex
  exact .all (h kV doc pm an cdv ct)
theorem fun_mk {x qual:Str}{st:Stmt}{f:Addr}{oc:Value}{od an:Option Addr}{osl:Array (Option Value)}{kV doc pm cdv ct:Value} (l:K.lookup f=some ⟨oc,od,.func (PySem.W.fnOf x qual (defArgs st) (defBody st) (defScope st) .none kV doc pm an cdv ct),osl⟩)
    (c:PySem.W.codeIn K cdv qual=true) (k:PySem.W.keepIn K (.ref f)=true) : Fun K x qual st f (PySem.W.fnOf x qual (defArgs st) (defBody st) (defScope st) .none kV doc pm an cdv ct):=⟨⟨oc,od,kV,doc,pm,an,cdv,ct,osl,rfl,l,c⟩,k⟩
end
theorem hu_of {A:Around}{k:Nat} (hr:Room k A) : A.units+1<cLine:=Nat.lt_of_le_of_lt (Nat.add_le_add_left (by decide : 1≤64) _) hr.units
section
variable {X:Cx}
theorem pv (i:Nat) {x:Str}{pos:Pos} (hN:X.N[i]? = some x:=by rfl) (hv:Vis X.env.scope x:=by first | exact Or.inl rfl | exact Or.inr (Or.inl rfl) | exact Or.inr (Or.inr rfl)) (hd:(x == ("__debug__" : Str))=false:=by decide)
    (hcd:(x == ("__classdict__" : Str))=false:=by decide) : PE X (.Name x pos) (tVar i):=pe_var hN hv hd hcd
end
theorem iteF {A B:Prop} (h:B) : if false=true then A else B:=by
  rw [if_neg Bool.false_ne_true]
  exact h
theorem iteT {A B:Prop} (h:A) : if true=true then A else B:=by
  rw [if_pos rfl]
  exact h
theorem ite2 {c A B:Prop} [Decidable c] (h1:c→A) (h2 : ¬ c→B) : if c then A else B:=by
  by_cases h:c
  · rw [if_pos h]
    exact h1 h
  · rw [if_neg h]
    exact h2 h
theorem iteNS {c A B:Prop} [Decidable c] (hc:c) (h:B) : if (!decide c)=true then A else B:=by
  rw [decide_eq_true hc]
  exact iteF h
def Same (H H':Hp) : Prop := ∀ b o,H b=some o→H' b=some o
theorem Same.refl (H:Hp) : Same H H:=fun _ _ h=>h
theorem Same.trans {H H1 H2:Hp} (a:Same H H1) (b:Same H1 H2) : Same H H2:=fun c o h=>b c o (a c o h)
theorem Same.free {H H':Hp} (e:Same H H') {l:Addr} (h:H' l=Option.none) : H l=Option.none:=by
  cases q:H l with
  | none=>rfl
  | some o =>
    rw [e l o q] at h
    cases h
theorem Same.seq {K:PySem.W.Frag}{H H':Hp}{a:Addr}{xs:List V} (e:Same H H') (h:SqL K H a xs) : SqL K H' a xs:=by
  rcases h with (h | ⟨o,h⟩) | h
  · exact .inl (.inl (e _ _ h))
  · exact .inl (.inr ⟨o,e _ _ h⟩)
  · exact .inr h
end L2
namespace L2
open PySem PySem.Spec PyProof.Rows
section
variable {X:Cx}
end
section
variable {κ : Type} [DecidableEq κ]
end
end L2
namespace OF
abbrev Terms:=List (Int × Int)
def coef:Terms→Int→Int
  | [],_=>0
  | p :: r,k=>(if p.1=k then p.2 else 0)+coef r k
structure IsForm (f:Terms) : Prop where
  rise:f.Pairwise (fun a b=>a.1<b.1)
  nz:∀ p∈f,p.2≠0
theorem coef_append:∀ (a b:Terms) (k:Int),coef (a++b) k=coef a k+coef b k
  | [],b,k=>by simp [coef]
  | p :: r,b,k=>by
    have ih:=coef_append r b k
    simp only [List.cons_append,coef,ih];omega
theorem coef_snoc (a:Terms) (p:Int × Int) (k:Int) : coef (a ++ [p]) k=coef a k+(if p.1=k then p.2 else 0):=by
  rw [coef_append];simp [coef]
theorem coef_neg:∀ (a:Terms) (k:Int),coef (a.map fun p=>(p.1,-p.2)) k = -coef a k
  | [],_=>rfl
  | p :: r,k=>by
    simp only [List.map_cons,coef,coef_neg r k];split <;> omega
theorem coef_none:∀ (a:Terms) (k:Int),(∀ p∈a,p.1≠k)→coef a k=0
  | [],_,_=>rfl
  | p :: r,k,h=>by
    have h1 : ¬ p.1=k:=h p (by simp)
    simp only [coef,if_neg h1,coef_none r k fun q hq=>h q (by simp [hq])];rfl
theorem coef_head {p:Int × Int}{r:Terms} (h:∀ q∈r,p.1<q.1) : coef (p :: r) p.1=p.2:=by
  simp only [coef,if_pos]
  rw [coef_none r p.1 fun q hq=>Int.ne_of_gt (h q hq)];omega
theorem form_ext:∀ {f g:Terms},IsForm f→IsForm g→(∀ k,coef f k=coef g k)→f=g
  | [],[],_,_,_=>rfl
  | [],q :: s,_,hg,h=>by
    have h1:=List.pairwise_cons.mp hg.rise
    have h2:=h q.1
    rw [coef_head h1.1] at h2
    exact absurd h2.symm (hg.nz q (by simp))
  | p :: r,[],hf,_,h=>by
    have h1:=List.pairwise_cons.mp hf.rise
    have h2:=h p.1
    rw [coef_head h1.1] at h2
    exact absurd h2 (hf.nz p (by simp))
  | p :: r,q :: s,hf,hg,h=>by
    have f1:=List.pairwise_cons.mp hf.rise
    have g1:=List.pairwise_cons.mp hg.rise
    have hpq:p.1=q.1:=by
      rcases Int.lt_trichotomy p.1 q.1 with hl | he | hl
      · have h2:=h p.1
        rw [coef_head f1.1,coef_none (q :: s) p.1 (fun z hz=>by
          rcases List.mem_cons.mp hz with e | hz
          · rw [e];omega
          · have:=g1.1 z hz;omega)] at h2
        exact absurd h2 (hf.nz p (by simp))
      · exact he
      · have h2:=h q.1
        rw [coef_head g1.1,coef_none (p :: r) q.1 (fun z hz=>by
          rcases List.mem_cons.mp hz with e | hz
          · rw [e];omega
          · have:=f1.1 z hz;omega)] at h2
        exact absurd h2.symm (hg.nz q (by simp))
    have hv:p.2=q.2:=by
      have h2:=h p.1
      rw [coef_head f1.1,hpq,coef_head g1.1] at h2
      exact h2
    have e:p=q:=Prod.ext hpq hv
    subst e
    have ih:=form_ext (f:=r) (g:=s) ⟨f1.2,fun z hz=>hf.nz z (by simp [hz])⟩ ⟨g1.2,fun z hz=>hg.nz z (by simp [hz])⟩ fun k=>by
      have h2:=h k
      simp only [coef] at h2;omega
    rw [ih]
def look:Terms→Int→Option Int
  | [],_=>none
  | p :: r,k=>if p.1=k then some p.2 else look r k
def getI (d:Terms) (k:Int) : Int:=(look d k).getD 0
def putI (d:Terms) (k v:Int) : Terms:=if (d.any fun p=>decide (p.1=k))=true then d.map (fun p=>if p.1=k then (p.1,v) else p) else d ++ [(k,v)]
theorem look_any (k:Int) : ∀ d:Terms,(d.any fun p=>decide (p.1=k))=(look d k).isSome
  | []=>rfl
  | p :: r=>by
    rw [List.any_cons,look]
    by_cases e:p.1=k
    · simp [e]
    · simp [e,look_any k r]
theorem look_map (k j v:Int) : ∀ d:Terms,look (d.map fun p=>if p.1=k then (p.1,v) else p) j=(look d j).map fun x=>if j=k then v else x
  | []=>rfl
  | p :: r=>by
    have ih:=look_map k j v r
    rw [List.map_cons]
    by_cases h:p.1=k
    · rw [if_pos h]
      by_cases e:p.1=j
      · simp [look,e,show j=k from e.symm.trans h]
      · simp [look,e,ih]
    · rw [if_neg h]
      by_cases e:p.1=j
      · simp [look,e,show ¬ j=k from fun z=>h (e.trans z)]
      · simp [look,e,ih]
theorem look_snoc (k j v:Int) : ∀ d:Terms,look d k=none→look (d ++ [(k,v)]) j=if j=k then some v else look d j
  | [],_=>by
    by_cases e:k=j
    · simp [look,e]
    · simp [look,e,show ¬ j=k from fun z=>e z.symm]
  | p :: r,hn=>by
    have hk : ¬ p.1=k:=fun z=>by simp [look,z] at hn
    have hn':look r k=none:=by simpa [look,hk] using hn
    have ih:=look_snoc k j v r hn'
    rw [List.cons_append]
    by_cases e:p.1=j
    · simp [look,e,show ¬ j=k from fun z=>hk (e.trans z)]
    · simp [look,e,ih]
theorem look_put (d:Terms) (k j v:Int) : look (putI d k v) j=if j=k then some v else look d j:=by
  unfold putI
  by_cases a:(d.any fun p=>decide (p.1=k))=true
  · rw [if_pos a,look_map]
    rw [look_any] at a
    by_cases e:j=k
    · obtain ⟨x,hx⟩:=Option.isSome_iff_exists.mp a
      rw [e,hx];simp
    · rw [if_neg e]
      cases look d j <;> simp [e]
  · rw [if_neg a]
    refine look_snoc k j v d ?_
    rw [look_any] at a
    cases q:look d k with
    | none=>rfl
    | some x=>rw [q] at a;exact (a rfl).elim
theorem length_put (d:Terms) (k v:Int) : (putI d k v).length≤d.length+1:=by
  unfold putI
  split
  · rw [List.length_map];omega
  · simp
theorem look_mem {d:Terms}{k:Int} : look d k≠none↔k∈d.map (·.1):=by
  induction d with
  | nil=>simp [look]
  | cons p r ih =>
    rw [List.map_cons,List.mem_cons,look]
    by_cases e:p.1=k
    · simp [e]
    · have e' : ¬ k=p.1:=fun z=>e z.symm
      simp only [if_neg e]
      rw [ih];simp [e']
theorem keys_put (d:Terms) (k v:Int) : (putI d k v).map (·.1)=if (look d k).isSome then d.map (·.1) else d.map (·.1) ++ [k]:=by
  unfold putI
  rw [look_any]
  by_cases a:(look d k).isSome=true
  · rw [if_pos a,if_pos a,List.map_map]
    congr 1
    funext p
    simp only [Function.comp]
    split <;> rfl
  · rw [if_neg a,if_neg a,List.map_append];rfl
theorem nodup_put {d:Terms} (k v:Int) (h:(d.map (·.1)).Nodup) : ((putI d k v).map (·.1)).Nodup:=by
  rw [keys_put]
  by_cases a:(look d k).isSome=true
  · rw [if_pos a];exact h
  · rw [if_neg a]
    have hk : ¬ k∈d.map (·.1):=fun m=>a (by
      have:=look_mem.mpr m
      cases q:look d k with
      | none=>exact (this q).elim
      | some x=>rfl)
    exact List.nodup_append.mpr ⟨h,by simp,fun a ha b hb=>by
      have:b=k:=by simpa using hb
      subst this
      intro e;subst e;exact hk ha⟩
theorem getI_put (d:Terms) (k j v:Int) : getI (putI d k v) j=if j=k then v else getI d j:=by
  unfold getI
  rw [look_put]
  split <;> rfl
structure DictOf (d l:Terms) : Prop where
  nd:(d.map (·.1)).Nodup
  len:d.length≤l.length
  val:∀ k,getI d k=coef l k
  src:∀ k∈d.map (·.1),k∈l.map (·.1)
theorem dictOf_nil:DictOf [] []:=⟨List.nodup_nil,Nat.le_refl _,fun _=>rfl,fun _ h=>h⟩
theorem DictOf.snoc {d l:Terms} (h:DictOf d l) (p:Int × Int) : DictOf (putI d p.1 (getI d p.1+p.2)) (l ++ [p]):=by
  refine ⟨nodup_put _ _ h.nd,?_,fun k => ?_,fun k hk => ?_⟩
  · have:=length_put d p.1 (getI d p.1+p.2);have:=h.len;simp;omega
  · rw [getI_put,coef_snoc,← h.val]
    by_cases e:k=p.1
    · subst e;simp
    · simp [e,show ¬ p.1=k from fun z=>e z.symm]
  · rw [keys_put] at hk
    rw [List.map_append,List.mem_append]
    split at hk
    · exact .inl (h.src k hk)
    · rcases List.mem_append.mp hk with hk | hk
      · exact .inl (h.src k hk)
      · exact .inr (by simpa using hk)
def formOf (d:Terms) (ks:List Int) : Terms:=(ks.filter fun k=>decide (getI d k≠0)).map fun k=>(k,getI d k)
theorem coef_formOf (d:Terms) : ∀ (ks:List Int),ks.Nodup→∀ k,coef (formOf d ks) k=if k∈ks then getI d k else 0
  | [],_,k=>by simp [formOf,coef]
  | a :: r,hn,k=>by
    have h1:=List.nodup_cons.mp hn
    have ih:=coef_formOf d r h1.2 k
    have e0:formOf d (a :: r)=if getI d a≠0 then (a,getI d a) :: formOf d r else formOf d r:=by
      unfold formOf
      rw [List.filter_cons]
      by_cases e:getI d a=0 <;> simp [e]
    rw [e0]
    by_cases e:a=k
    · subst e
      have : ¬ a∈r:=h1.1
      by_cases z:getI d a=0
      · simp [z,ih,this]
      · simp [z,coef,ih,this]
    · have e' : ¬ k=a:=fun z=>e z.symm
      by_cases z:getI d a=0
      · simp [z,ih,e']
      · simp [z,coef,ih,e,e']
theorem formOf_isForm (d:Terms) {ks:List Int} (h:ks.Pairwise (· < ·)) : IsForm (formOf d ks):=by
  refine ⟨?_,fun p hp => ?_⟩
  · unfold formOf
    rw [List.pairwise_map]
    exact (h.filter _)
  · unfold formOf at hp
    obtain ⟨k,hk,e⟩:=List.mem_map.mp hp
    subst e
    simpa using (List.mem_filter.mp hk).2
theorem lt_of_le_nodup:∀ {ks:List Int},ks.Pairwise (· ≤ ·)→ks.Nodup→ks.Pairwise (· < ·)
  | [],_,_ => .nil
  | a :: r,h,n=>by
    have h1:=List.pairwise_cons.mp h
    have n1:=List.nodup_cons.mp n
    refine .cons (fun b hb => ?_) (lt_of_le_nodup h1.2 n1.2)
    have:=h1.1 b hb
    have:a≠b:=fun e=>n1.1 (e ▸ hb)
    omega
structure FormOf (f l:Terms) : Prop extends IsForm f where
  val:∀ k,coef f k=coef l k
  src:∀ p∈f,p.1∈l.map (·.1)
theorem formOf_ok {d l:Terms}{ks:List Int} (h:DictOf d l) (hp:ks.Perm (d.map (·.1))) (hs:ks.Pairwise (· ≤ ·)) : FormOf (formOf d ks) l:=by
  have nd:ks.Nodup:=hp.nodup_iff.mpr h.nd
  refine ⟨formOf_isForm d (lt_of_le_nodup hs nd),fun k => ?_,fun p hq => ?_⟩
  · rw [coef_formOf d ks nd,← h.val]
    split
    · rfl
    · rename_i hk
      unfold getI
      have:look d k=none:=by
        cases q:look d k with
        | none=>rfl
        | some x=>exact (hk (hp.mem_iff.mpr (look_mem.mp (by rw [q];simp)))).elim
      rw [this];rfl
  · unfold formOf at hq
    obtain ⟨k,hk,e⟩:=List.mem_map.mp hq
    subst e
    exact h.src k (hp.mem_iff.mp (List.mem_filter.mp hk).1)
theorem formOf_length (d:Terms) (ks:List Int) : (formOf d ks).length≤ks.length:=by
  unfold formOf;rw [List.length_map];exact List.length_filter_le _ _
end OF
namespace L2
open PySem PySem.Spec PyProof.Rows
section
variable {X:Cx}
def CDivG (i j:Int) : Prop:=0<j∧j.natAbs.log2<9000
theorem op_fdivG:OpR X (binaryOp .FloorDiv) (rI CDivG fun i j => .int (i / j)):=opI fun i j _ _ _ _ _ hc q=>by
  have h1:(0:Int)<j:=hc.1
  have e:i.fdiv j=i / j:=Int.fdiv_eq_ediv_of_nonneg i (Int.le_of_lt h1)
  exact floordiv_int (Int.ne_of_gt h1) (by rw [e];exact q) (.inl (PyProof.noPylong_of_log2 hc.2))
theorem op_mulO:OpR X (binaryOp .Mult) (rI IntMulOk fun i j => .int (i * j)):=opI fun _ _ _ _ _ _ _ hc q=>mul_int q hc
theorem divG_of {j:Int} (h1 : 0<j) (h2:j<2^250) : 0<j∧j.natAbs.log2<9000:=by
  refine ⟨h1,?_⟩
  have h3:j.natAbs<2^250:=by
    have e:(j.natAbs:Int)=j:=by omega
    have:((j.natAbs:Nat) : Int)<((2^250:Nat) : Int):=by rw [e]; (have q:((2^250:Nat) : Int)=(2:Int)^250:=by norm_cast);rw [q];exact h2
    exact Int.ofNat_lt.mp this
  have h4:j.natAbs≠0:=by omega
  have:=(Nat.log2_lt h4).mpr h3
  omega
theorem call_isinstance:CallR X (.builtin "isinstance") (fun xs H Q => ∃ x n t b,xs=[x,V.ty n]∧TyOf X.K H x t∧PySem.W.kitOne X.K t (.type n)=some b∧Q (.bl b) H):=by
  intro pins s σ H xs us Q I r h
  obtain ⟨x,n,t,b,rfl,ty,e,q⟩:=h
  obtain ⟨u,w',rfl,ru,rw'⟩:=vals2 r
  cases (show w'=Value.type n from rw')
  exact isinst_ok I ru ty e fun tk=>⟨.bl b,H,I.tok _,rfl,q⟩
theorem call_sumL (hc:X.calm=true) : CallR X (.builtin "sum") (fun xs H Q => ∃ (a:Addr) (ns:List Int),xs=[.ref a]∧SqL X.K H a (ns.map V.int)∧Q (.int ns.sum) H):=by
  intro pins s σ H xs us Q I r h
  obtain ⟨a,ns,rfl,hq,q⟩:=h
  obtain ⟨u,rfl,ru⟩:=vals1 r
  cases (show u=Value.ref a from ru)
  obtain ⟨its,rv,p,hz⟩:=I.list hq
  have hi:=intsAre_of rv
  obtain ⟨zs,hzs⟩:=hi.allInts.items
  have hs:(PySem.numsOf its.toArray.toList).sum=ns.sum:=by rw [show its.toArray.toList=its from rfl,hi.numsOf]
  rw [hzs,PySem.nums_intItems] at hs
  refine sum_intListG (I.ok.hd hc) (hzs ▸ p.isList) fun h' tk t' hk => ?_
  refine ⟨.int ns.sum,H,I.kept (t':=tk) hk,⟨t',?_⟩,q⟩
  rw [preSum_eq,List.take_of_length_le (by simp),hs]
end
end L2
namespace L2
open PySem PySem.Spec PyProof.Rows
theorem ObjOk.there {P:Program}{w:World}{H:Hp}{h:Heap}{a:Addr}{o:HO} (x:ObjOk P w H h a o) : ∃ ob,h.get? a=some ob:=by
  cases o with
  | lst xs=>obtain ⟨_,_,_,_,e⟩:=x;exact ⟨_,e⟩
  | tup xs=>obtain ⟨_,_,_,o,e,_⟩:=x;exact ⟨_,e⟩
  | dK kvs=>obtain ⟨_,_,_,_,o,_,_,e,_⟩:=x;exact ⟨_,e⟩
  | dT kvs=>obtain ⟨_,_,_,_,o,_,_,e,_⟩:=x;exact ⟨_,e⟩
  | set S n=>obtain ⟨o,_,_,_,e,_⟩:=x;exact ⟨_,e⟩
  | ins C dx fs=>obtain ⟨_,_,_,e,_⟩:=x;exact ⟨_,e⟩
  | own y=>exact x
  | xd fs=>obtain ⟨_,⟨_,_,_,e,_⟩,_⟩:=x;exact ⟨_,e⟩
  | rng lo hi=>obtain ⟨_,_,_,e⟩:=x;exact ⟨_,e⟩
  | frz ob u=>obtain ⟨e,_⟩:=x;exact ⟨_,e⟩
  | tbl ps=>exact ⟨_,x⟩
  | met f y=>exact ⟨_,x⟩
  | ext φ => obtain ⟨_,e,_⟩:=x;exact e
theorem Inv.laidN {X:Cx}{pins:List (Addr × Obj)} {σ : St}{H:Hp}{s:Shared}{h':Heap}{a:Addr}{o:HO}{t':Nat} (I:Inv X pins σ H s) (k:∀ b u,s.heap.get? b=some u→h'.get? b=some u) (hn:s.heap.get? a=none)
    (new:ObjOk X.prog X.w (upd H a o) h' a o) : Inv X pins σ (upd H a o) { s with heap:=h',toks:=t' }:=by
  have hH:H a=none:=by
    cases q:H a with
    | none=>rfl
    | some u =>
      obtain ⟨ob,e⟩:=(I.hok a u q).there
      rw [hn] at e;cases e
  refine I.un ⟨fun b u q _ _ _=>k b u q,fun b u q _ _ _=>⟨u.slots,k b u q⟩,fun b u q n _ => ?_,fun b u q _=>⟨u,k b u q⟩,fun b xs q => ?_,fun b u xs q => ?_,fun b ps q=>⟨#[],?_⟩⟩ fun b u e => ?_
  · rw [upd_ne (by intro z;rw [z,hn] at q;cases q)];exact n
  · rw [upd_ne (ne_of_none q hH)];exact q
  · rw [upd_ne (ne_of_none q hH)];exact q
  · rw [upd_ne (ne_of_none q hH),q];simp
  · by_cases hb:b=a
    · subst hb;rw [upd_same] at e;cases e;exact new
    · rw [upd_ne hb] at e
      exact (I.hok b u e).stay (fun c v _ q=>k c v q) (fun c q=>by rw [upd_ne (ne_of_none q hH)];exact q) fun c xs q=>by rw [upd_ne (ne_of_none q hH)];exact q
theorem closureFor_of {env:Env} : ∀ (names:List (Str × NameKind)) (acc:List (Str × Addr)),(∀ x,(x,NameKind.free)∈names→∃ c,env.cells.lookup x=some c) →
    ∃ cl,(forIn names acc fun (x:Str × NameKind) (cs:List (Str × Addr))=>(if (x.2 == NameKind.free)=true then (do let a ← cellOf env x.1;pure (ForInStep.yield ((x.1,a) :: cs))) else pure (ForInStep.yield cs) : Sem (ForInStep (List (Str × Addr)))))=pure cl ∧
      ∀ x,cl.lookup x=(if (x,NameKind.free)∈names then env.cells.lookup x else acc.lookup x)
  | [],acc,_=>⟨acc,rfl,fun x=>by simp⟩
  | (n,k) :: r,acc,h=>by
    by_cases hk:k=NameKind.free
    · subst hk
      obtain ⟨c,hc⟩:=h n (by simp)
      obtain ⟨cl,e,l⟩:=closureFor_of (env:=env) r ((n,c) :: acc) fun x hx=>h x (by simp [hx])
      refine ⟨cl,?_,fun x => ?_⟩
      · rw [List.forIn_cons]
        have hcell:cellOf env n=pure c:=by unfold cellOf;rw [hc]
        simp only [beq_self_eq_true,if_true,hcell,pure_bind]
        exact e
      · rw [l x]
        by_cases hx:(x,NameKind.free)∈r
        · simp [hx]
        · by_cases hn:x=n
          · subst hn;simp [hx,hc]
          · have hb:(x == n)=false:=by simpa using hn
            simp [hx,hn,List.lookup_cons,hb]
    · have hb:(k == NameKind.free)=false:=by simpa using hk
      obtain ⟨cl,e,l⟩:=closureFor_of (env:=env) r acc fun x hx=>h x (by simp [hx])
      refine ⟨cl,?_,fun x => ?_⟩
      · rw [List.forIn_cons]
        simp only [hb,Bool.false_eq_true,if_false,pure_bind]
        exact e
      · rw [l x]
        have : ¬ ((x,NameKind.free)=(n,k)):=fun z=>hk (by injection z with _ z2;exact z2.symm)
        simp [List.mem_cons,this]
theorem lookup_relabel (env:Env) (x:Str) : ∀ (names:List (Str × NameKind)),(names.map fun (n,k)=>if (k == NameKind.free && env.scope.kind == .function && env.kindOf n == some .cell) then (n,NameKind.cell) else (n,k)).lookup x =
    (names.lookup x).map fun k=>if (k == NameKind.free && env.scope.kind == .function && env.kindOf x == some .cell) then NameKind.cell else k
  | []=>rfl
  | (n,k) :: r=>by
    have ih:=lookup_relabel env x r
    show List.lookup x ((if (k == NameKind.free && env.scope.kind == .function && env.kindOf n == some .cell)=true then (n,NameKind.cell) else (n,k)) :: _)=_
    by_cases hx:x=n
    · subst hx
      split <;> simp_all [List.lookup_cons]
    · have hb:(x == n)=false:=by simpa using hx
      split
      · simp only [List.lookup_cons,hb];exact ih
      · simp only [List.lookup_cons,hb];exact ih
abbrev cxComp (X:Cx) (N':List Str) (scope:Scope) (cl:List (Str × Addr)) (C:Addr) (s₀:Shared) (H₀:Hp) (fp:List Addr) : Cx :=
  { X with N:=N',s₀:=s₀,H₀:=H₀,env:=compEnvC scope cl C X.env,outer:=X.stack,ex:=fp,fn:=fun _=>false,pn:=[],xe:=fun _ _=>False }
structure CompSc (X:Cx) (scope:Scope) (N':List Str) (nT:Nat) (js:List Nat) : Prop where
  kind:scope.kind = .function
  nocell:∀ y∈scope.names,y.2 ≠ .cell
  names:∀ y∈scope.names,y.2 = .local→scope.names.lookup y.1=some .local
  len:N'.length=nT+js.length
  frees:∀ (k j:Nat) (x:Str),js[k]? = some j→N'[nT+k]? = some x→X.N[j]? = some x
  kinds:∀ y∈scope.names,y.2 = .free→X.env.scope.names.lookup y.1=some .cell
  vis:∀ x∈N'.drop nT,scope.names.lookup x=some .free
def startC (nT:Nat) (js:List Nat) (σ : St) : St:=List.replicate nT none++js.map fun j=>(σ[j]?).join
def tComp (wi:TI) (nT:Nat) (js:List Nat) (g:TG) (tc:TT) (te:TE) : TE:=fun σ H Q=>wi σ H fun J H1 => ∃ W:Nat→Nat→List V→St→Hp→Prop,(∃ m,W 0 m [] (startC nT js σ) H1)∧∀ i m ys σ H,W i m ys σ H →
  (J.stop i H∧∀ D,H D=none→Q (.ref D) (upd H D (.lst ys))) ∨
  (J.go i H∧ys.length<sizeLine∧∃ N:List V→St→Hp→Prop,(∀ ys' σ' H',N ys' σ' H'→∃ m',m'<m∧W (i+1) m' ys' σ' H') ∧
    ∀ x H',J.yld i H x H'→g x σ H' fun σ2 H2=>tc σ2 H2 fun b H3=>if b=true then te σ2 H3 fun y H4=>N (ys ++ [y]) σ2 H4 else N ys σ2 H3)
def PTs (X:Cx) (ifs:List Expr) (t:TT) : Prop :=
  ∀ (pins:List (Addr × Obj)) (s:Shared) (σ : St) (H:Hp) (Q:Bool→Hp→Prop),Inv X pins σ H s→t σ H Q →
    wpAny (model X.prog X.w) X.A (forIn ifs true fun c r=>if r=true then do let ok ← isTrue c X.env (eval c X.env);pure (ForInStep.yield ok) else pure (ForInStep.yield r)) (TP X pins σ Q) X.xe s
def tTrue:TT:=fun _ H Q=>Q true H
theorem pts_nil {X:Cx} : PTs X [] tTrue:=fun _ _ _ H _ I h=>wpAny_tests_nil ⟨H,I,h⟩
theorem pts_one {X:Cx}{c:Expr}{t:TT} (h:PT X c t) : PTs X [c] t:=fun pins s σ H Q I q=>wpAny_tests_one (h pins s σ H Q I q)
section
variable {prog:Program}{w:World}{A:Around}{R:Result→Shared→Prop}{s:Shared}
theorem compLoop_any {elt target iter:Expr}{ifs:List Expr}{scope:Scope}{pos:Pos}{it acc:Value}{env:Env} (I:Nat→Shared→Prop)
    (turn:∀ n s,I n s→wpAny (model prog w) A (pyNext it) (fun r s₁=>match r with
      | none=>R (.ok .next) s₁
      | some v=>wpAny (model prog w) A (letOwnedTupleGo target it v) (fun _ s₁'=>wpAny (model prog w) A (assign target env v) (fun _ s₂ =>
          wpAny (model prog w) A (forIn ifs true fun c r=>if r=true then do let ok ← isTrue c env (eval c env);pure (ForInStep.yield ok) else pure (ForInStep.yield r)) (fun ok s₃ =>
            if ok=true then wpAny (model prog w) A (eval elt env) (fun x s₄ =>
              wpAny (model prog w) A (call (.builtin "list.append") [acc,x]) (fun _ s₅ => ∃ m,m<n∧I m s₅) (fun _ _=>False) s₄) (fun _ _=>False) s₃
            else ∃ m,m<n∧I m s₃) (fun _ _=>False) s₂) (fun _ _=>False) s₁') (fun _ _=>False) s₁) (fun _ _=>False) s)
    (n:Nat) (h:I n s) :
    codeAny (model prog w) A (.compLoop (.ListComp elt [⟨target,iter,ifs,0⟩] scope pos) 0 it acc env) R s:=by
  refine codeAny_loop rfl I (fun n s hI => ?_) n h
  show wpAny _ A ((compTurn (.ListComp elt [⟨target,iter,ifs,0⟩] scope pos) 0 it acc env).onRaise (fun x=>do noteFrame x env;theTreesLotGoes x)) _ _ s
  refine wpAny_noted ?_
  rw [compTurn_list]
  refine wpAny_bind (wpAny_standAt (wpAny_bind (wpAny_mono (turn n s hI) (fun r s₁ h₁ => ?_) fun _ _ h'=>h'.elim)))
  cases r with
  | none=>exact wpAny_pure h₁
  | some v =>
    refine wpAny_bind (wpAny_mono h₁ (fun _ s₁' h₁' => ?_) fun _ _ h'=>h'.elim)
    refine wpAny_bind (wpAny_mono h₁' (fun _ s₂ h₂=>wpAny_bind (wpAny_mono h₂ (fun ok s₃ h₃ => ?_) fun _ _ h'=>h'.elim)) fun _ _ h'=>h'.elim)
    cases ok with
    | false=>exact wpAny_pure ⟨rfl,h₃⟩
    | true =>
      exact wpAny_bind (wpAny_bind (wpAny_mono h₃ (fun x s₄ h₄=>wpAny_bind (wpAny_mono h₄ (fun _ s₅ h₅=>wpAny_pure (wpAny_pure ⟨rfl,h₅⟩)) fun _ _ h'=>h'.elim)) fun _ _ h'=>h'.elim))
end
set_option maxHeartbeats 4000000 in
theorem comp_core {X:Cx}{tg iter elt:Expr}{ifs:List Expr}{scope:Scope}{pos:Pos}{N':List Str}{nT:Nat}{js:List Nat}{g:TG}{tc:TT}{te:TE}{RR:Value→Addr→Result→Shared→Prop}
    (hc:X.calm=true) (S:CompSc X scope N' nT js) {pins:List (Addr × Obj)} {σ : St}{H2:Hp}{s2:Shared}{cl:List (Str × Addr)}{it:Addr}{fp:List Addr}{tn:Nat→Heap→Prop}{J:It}
    (hcl:∀ x,cl.lookup x=(if (x,NameKind.free)∈scope.names then X.env.cells.lookup x else none))
    (hg:∀ C s₀ H₀ fp,PG (cxComp X N' scope cl C s₀ H₀ fp) tg g) (ht:∀ C s₀ H₀ fp,PTs (cxComp X N' scope cl C s₀ H₀ fp) ifs tc) (he:∀ C s₀ H₀ fp,PE (cxComp X N' scope cl C s₀ H₀ fp) elt te)
    (I2:Inv X pins σ H2 s2) (T:Turn X.prog X.w X.K tg J fp it tn) (st2:tn 0 s2.heap) (f2:∀ b∈fp,FpOk X pins H2 b) {QQ:Addr→List V→Hp→Prop}
    (W:Nat→Nat→List V→St→Hp→Prop) (w0:∃ m,W 0 m [] (startC nT js σ) H2)
    (turn:∀ i m ys σ H,W i m ys σ H→(J.stop i H∧∀ D,H D=none→QQ D ys H) ∨
      (J.go i H∧ys.length<sizeLine∧∃ N:List V→St→Hp→Prop,(∀ ys' σ' H',N ys' σ' H'→∃ m',m'<m∧W (i+1) m' ys' σ' H') ∧
        ∀ x H',J.yld i H x H'→g x σ H' fun σ2 H2=>tc σ2 H2 fun b H3=>if b=true then te σ2 H3 fun y H4=>N (ys ++ [y]) σ2 H4 else N ys σ2 H3))
    (hRR:∀ (D C:Addr) (s':Shared) (ys:List V) (H':Hp) (m:Str→Option Value),QQ D ys H'→s'.heap.Ns C m→s2.heap.get? C=none→s2.heap.objs.size≤C→D≠C→H' C=none→(∀ h',Heap.SameBut C s'.heap h'→Inv X pins σ (upd H' D (.lst ys)) { s' with heap:=h' })→RR (.ref D) C (.ok .next) s') :
    wpAny (model X.prog X.w) X.A (newList []) (fun acc s₃=>wpAny (model X.prog X.w) X.A (newFunctionEnv scope X.env.globals cl [] X.env.qual none .none (some X.env)) (fun cenv s₄ =>
      codeAny (model X.prog X.w) X.A (.compStart (.ListComp elt [⟨tg,iter,ifs,0⟩] scope pos) 0 (.ref it) acc { cenv with scope:=relabel scope X.env }) (RR acc cenv.locals) s₄) (fun _ _=>False) s₃) (fun _ _=>False) s2:=by
  refine wpAny_newObj_type (wpAny_newFunctionEnv S.nocell (by intro y hy;simp at hy) (fun h₁ hns₁ hsb₁ => ?_) S.kind)
  dsimp only at hns₁ hsb₁ ⊢
  generalize hH2:s2.heap.push { cls := .type "list",dict:=none,data := .seq ([] : List Value).toArray }=G2 at hns₁ hsb₁ ⊢
  have hC:G2.objs.size=s2.heap.objs.size+1:=by rw [← hH2,Heap.size_push]
  generalize hCC:G2.objs.size=C at hns₁ hsb₁ hC ⊢
  generalize hDD:s2.heap.objs.size=D at hC ⊢
  have hDC:D≠C:=by omega
  have below:∀ b o,s2.heap.get? b=some o→b≠C∧b≠D:=fun b o e=>by
    have h : @LT.lt Nat _ b s2.heap.objs.size:=Heap.lt_size e
    exact ⟨fun z=>by have z' : @Eq Nat b C:=z;omega,fun z=>by have z' : @Eq Nat b D:=z;omega⟩
  have old:∀ b o,s2.heap.get? b=some o→h₁.get? b=some o:=fun b o e=>hsb₁.extBut b o (below b o e).1 (Heap.get?_push_of_some _ (hH2 ▸ Heap.get?_push_of_some _ e))
  have hacc:h₁.get? D=some { cls := .type "list",data := .seq ([] : List Value).toArray }:=hsb₁.extBut _ _ hDC (Heap.get?_push_of_some _ (by rw [← hH2,← hDD];exact Heap.get?_push_size _ rfl))
  have nC:s2.heap.get? C=none:=Heap.get?_none_of_le (by omega)
  have nD:s2.heap.get? D=none:=Heap.get?_none_of_le (by omega)
  have fC:H2 C=none:=I2.hok.fresh (by omega)
  have fD:H2 D=none:=I2.hok.fresh (by omega)
  have fpl:∀ b∈fp,b≠C∧b≠D:=fun b hb=>by obtain ⟨o,e,_⟩:=T.obj _ _ st2 b hb;exact below b o e
  have nstk:∀ b∈fp,b ∉ frs X.stack:=fun b hb z=>by
    obtain ⟨_,f1,f3,_⟩:=f2 b hb
    rcases List.mem_cons.mp (I2.stkSub b z) with e | e
    · exact f1 e
    · exact f3 e
  have clO:∀ x c,cl.lookup x=some c→X.env.cells.lookup x=some c∧(x,NameKind.free)∈scope.names:=fun x c e=>by
    rw [hcl] at e
    split at e
    · rename_i hm;exact ⟨e,hm⟩
    · cases e
  have stkD:∀ b∈frs X.stack,b≠D∧b≠C:=fun b hb=>by
    have h:=I2.stkSub b hb
    rcases List.mem_cons.mp h with e | e
    · have h1 : @LT.lt Nat _ X.env.locals s2.heap.objs.size:=I2.lt
      have h2 : @Eq Nat b X.env.locals:=e
      exact ⟨fun z=>by have z' : @Eq Nat b D:=z;omega,fun z=>by have z' : @Eq Nat b C:=z;omega⟩
    · obtain ⟨_,o,ho,_⟩:=I2.ok.funs.mem e
      have h1 : @LT.lt Nat _ b X.s₀.heap.objs.size:=Heap.lt_size ho
      have h2:=I2.sz
      exact ⟨fun z=>by have z' : @Eq Nat b D:=z;omega,fun z=>by have z' : @Eq Nat b C:=z;omega⟩
  have ok':(cxComp X N' scope cl C s2 H2 fp).Ok:=by
    refine ⟨I2.ok.mod,S.kind,I2.ok.glob,I2.ok.blt,(by show s2.heap.objs.size≤C;omega),fun x y c h1 h2=>I2.ok.inj x y c (clO x c h1).1 (clO y c h2).1,fun x hx => ?_,fun x c hx _=>(Bool.false_ne_true hx).elim,fun _=>I2.ok.hd hc,I2.ok.frames,.inl rfl,
      fun b hb=>⟨(fpl b hb).1,fun x c e=>(f2 b hb).2.2.2.2.1 x c (clO x c e).1⟩,I2.bs,Nat.le_trans I2.ok.bsz I2.sz,fun b o e hb => ?_,nstk,I2.stack,I2.stkFree⟩
    · have hx':(relabel scope X.env).names.lookup x=some .cell∨(relabel scope X.env).names.lookup x=some .free:=hx
      have hk:(relabel scope X.env).names.lookup x=_:=lookup_relabel X.env x scope.names
      rw [hk] at hx'
      have hf:(x,NameKind.free)∈scope.names:=by
        cases q:scope.names.lookup x with
        | none=>rw [q] at hx';rcases hx' with z | z <;> cases z
        | some k =>
          have hm:=PySem.mem_of_lookup q
          cases k with
          | free=>exact hm
          | cell=>exact absurd rfl (S.nocell _ hm)
          | _=>rw [q] at hx';rcases hx' with z | z <;> simp at z
      obtain ⟨c,e⟩:=I2.ok.has x (.inl (S.kinds _ hf rfl))
      exact ⟨c,by show cl.lookup x=some c;rw [hcl,if_pos hf];exact e⟩
    · rcases (f2 b hb).2.2.2.1 with z | z
      · exact I2.ok.noex b o e z
      · have h1 : @LT.lt Nat _ b X.s₀.heap.objs.size:=Heap.lt_size (I2.ok.bs b o e).1
        have h2 : @LE.le Nat _ X.s₀.heap.objs.size b:=z
        omega
  have I0:Inv (cxComp X N' scope cl C s2 H2 fp) [] (startC nT js σ) H2 { s2 with heap:=h₁,toks:=s2.toks+([] : List (Str × Value)).length }:=by
    refine ⟨ok',rfl,I2.bare,Un.kept old,⟨_,hns₁,fun i x v e1 e2 e3 => ?_⟩,fun x c e => ?_,fC,fun x c e=>I2.freeC x c (clO x c e).1,fun p hp=>absurd (show p∈([] : List (Addr × Obj)) from hp) (by simp),I2.hok.kept old,?_⟩
    · unfold startC at e2
      by_cases hi:i<nT
      · rw [List.getElem?_append_left (by simpa using hi),List.getElem?_replicate,if_pos hi] at e2;cases e2
      · rw [List.getElem?_append_right (by simpa using hi),List.length_replicate,List.getElem?_map] at e2
        obtain ⟨k,hk⟩ : ∃ k,i=nT+k:=⟨i-nT,by omega⟩
        subst hk
        rw [Nat.add_sub_cancel_left] at e2
        cases q:js[k]? with
        | none=>rw [q] at e2;cases e2
        | some j =>
          rw [q] at e2
          have e2':(σ[j]?).join=some v:=Option.some.inj e2
          have e3' : σ[j]? = some (some v):=by
            cases z : σ[j]? with
            | none=>rw [z] at e2';cases e2'
            | some a=>rw [z] at e2';exact congrArg some e2'
          have hxN:=S.frees k j x q e1
          have hlk:scope.names.lookup x=some .free:=S.vis x (by
            rw [List.mem_iff_getElem?]
            exact ⟨k,by rw [List.getElem?_drop];exact e1⟩)
          have hfree:(x,NameKind.free)∈scope.names:=PySem.mem_of_lookup hlk
          have hcell:=S.kinds _ hfree rfl
          obtain ⟨m,hn,hl⟩:=I2.loc
          obtain ⟨u,r,l⟩:=hl j x v hxN e3' (.inr (.inl hcell))
          refine ⟨u,r,?_⟩
          rcases l with ⟨l,_⟩ | ⟨_,c,ec,ic⟩
          · have l':X.env.scope.names.lookup x=some .local:=l
            rw [hcell] at l';cases l'
          · refine .inr ⟨?_,c,?_,?_⟩
            · left
              show (relabel scope X.env).names.lookup x=some .cell
              have hk:(relabel scope X.env).names.lookup x=_:=lookup_relabel X.env x scope.names
              have hkind:X.env.scope.kind = .function:=I2.ok.kind
              have hko:X.env.kindOf x=some .cell:=hcell
              rw [hk,hlk,Option.map_some,hkind,hko]
              rfl
            · show cl.lookup x=some c
              rw [hcl,if_pos hfree];exact ec
            · exact ic.keeps old
    · obtain ⟨v,q⟩:=I2.cell x c (clO x c e).1
      exact ⟨v,q.keeps old⟩
    · unfold startC
      rw [List.length_append,List.length_replicate,List.length_map]
      exact S.len.symm
  have lp:∀ s₃:Shared,s₃={ s2 with heap:=h₁,toks:=s2.toks+([] : List (Str × Value)).length } →
      codeAny (model X.prog X.w) X.A (.compLoop (.ListComp elt [⟨tg,iter,ifs,0⟩] scope pos) 0 (.ref it) (.ref D) (compEnvC scope cl C X.env)) (RR (.ref D) C) s₃:=by
    rintro s₃ rfl
    obtain ⟨m0,w0⟩:=w0
    refine compLoop_any (fun n s' => ∃ (i:Nat) (ys:List V) (its:List Value) (no:Nat) (σ':St) (H':Hp),Inv (cxComp X N' scope cl C s2 H2 fp) [(D,{ cls := .type "list",data := .seq its.toArray no })] σ' H' s'∧Vals ys its∧tn i s'.heap∧(∀ b∈fp,H' b=none)∧ys.length≤sizeLine∧W i n ys σ' H') ?_ m0
      ⟨0,[],[],0,startC nT js σ,H2,I0.pins_of fun p hp => ?_,.nil,T.keep _ _ _ st2 fun b _ o e=>old b o e,fun b hb=>(f2 b hb).1,Nat.zero_le _,w0⟩
    · rintro n s3 ⟨i,ys,its,no,σ3,H3,I3,rv,st3,fr3,hz,w3⟩
      have fpk:∀ {H':Hp},(∀ b∈fp,H' b=none)→∀ b∈fp,FpOk (cxComp X N' scope cl C s2 H2 fp) [(D,{ cls := .type "list",data := .seq its.toArray no })] H' b:=fun hn b hb =>
        ⟨hn b hb,(fpl b hb).1,nstk b hb,.inl hb,fun x c e=>(f2 b hb).2.2.2.2.1 x c (clO x c e).1,fun p hp=>by
          have e:p=(D,{ cls := .type "list",data := .seq its.toArray no }):=by simpa using hp
          rw [e]
          exact Ne.symm (fpl b hb).2⟩
      rcases turn i n ys σ3 H3 w3 with ⟨stop,q⟩ | ⟨go,hlt,N,hN,step⟩
      · refine wpAny_mono (T.done (cxComp X N' scope cl C s2 H2 fp) rfl rfl rfl hc i _ s3 σ3 H3 (fun _ _=>False) I3 (fpk fr3) st3 stop) (fun r s4 ⟨hr,I4⟩ => ?_) fun _ _ h=>h
        subst hr
        obtain ⟨pD1,pD2,pD3,pD4,_⟩:=I4.pin (D,{ cls := .type "list",data := .seq its.toArray no }) (by simp)
        obtain ⟨m,hn,_⟩:=I4.loc
        have fC4:H3 C=none:=I4.free
        refine hRR D C s4 ys H3 m (q D pD2) hn nC (by omega) hDC fC4 fun h' sb => ?_
        have k4:∀ b o,b≠C→s4.heap.get? b=some o→h'.get? b=some o:=fun b o hb e=>sb.extBut b o hb e
        have tne:∀ b u,H3 b=some u→b≠D:=fun b u e=>ne_of_none e pD2
        refine I2.call' (s':={ s4 with heap:=h' }) (ch:=fp) I4.os ⟨fun b o e n hb hx=>k4 b o (below b o e).1 (I4.base.keep b o e n hb hx),fun b o e n hb hx => ?_,fun b o e n hx => ?_,fun b o e hx => ?_,fun b xs e => ?_,fun b o u e => ?_,fun b ps e => ?_⟩ (fun b u e => ?_) I4.bare fun b hb => ?_
        · obtain ⟨sl,e'⟩:=I4.base.slot b o e n hb hx
          exact ⟨sl,k4 b _ (below b o e).1 e'⟩
        · rw [upd_ne (below b o e).2];exact I4.base.free b o e n hx
        · obtain ⟨o',e'⟩:=I4.base.there b o e hx
          exact ⟨o',k4 b o' (below b o e).1 e'⟩
        · have e':=I4.base.tups b xs e
          rw [upd_ne (tne b _ e')];exact e'
        · have e':=I4.base.frzs b o u e
          rw [upd_ne (tne b _ e')];exact e'
        · obtain ⟨more,e'⟩:=I4.base.tbls b ps e
          exact ⟨more,by rw [upd_ne (tne b _ e')];exact e'⟩
        · by_cases hb:b=D
          · subst hb
            rw [upd_same] at e
            cases e
            exact ⟨hz,its,no,rv,k4 b _ hDC pD1⟩
          · rw [upd_ne hb] at e
            refine (I4.hok b u e).stay (fun c v hcc z=>k4 c v ?_ z) (fun c z=>by rw [upd_ne (tne c _ z)];exact z) fun c xs z=>by rw [upd_ne (tne c _ z)];exact z
            rcases hcc with rfl | hcc
            · exact ne_of_none e fC4
            · exact ne_of_none hcc fC4
        · obtain ⟨_,g1,_,g3,g4,g5⟩:=f2 b hb
          exact ⟨g3,g1,g4,g5⟩
      · refine wpAny_mono (T.item (cxComp X N' scope cl C s2 H2 fp) rfl rfl rfl hc i _ s3 σ3 H3 (fun _ _=>False) I3 (fpk fr3) st3 go) (fun r s4 ⟨u,hr,h4⟩ => ?_) fun _ _ h=>h
        subst hr
        refine wpAny_mono h4 (fun _ s5 ⟨x,H5,I5,r5,y5,st5,fr5⟩ => ?_) fun _ _ h=>h
        have I5':=I5.pinned (fpk fr5) (T.obj _ _ st5)
        refine wpAny_mono (hg C s2 H2 fp _ s5 σ3 H5 x u _ I5' r5 (step x H5 y5)) (fun _ s6 ⟨σ6,H6,I6,q6⟩ => ?_) fun _ _ h=>h
        refine wpAny_mono (ht C s2 H2 fp _ s6 σ6 H6 _ I6 q6) (fun ok s7 ⟨H7,I7,q7⟩ => ?_) fun _ _ h=>h
        have back:∀ {pp:List (Addr × Obj)}{s':Shared} {σ':St}{H':Hp},(∀ b∈fp,∀ o,s5.heap.get? b=some o→(b,o)∈pp)→Inv (cxComp X N' scope cl C s2 H2 fp) pp σ' H' s'→tn (i+1) s'.heap∧∀ b∈fp,H' b=none:=fun {pp s' σ' H'} hpp I'=>by
          refine ⟨T.keep _ _ _ st5 fun b hb o e=>(I'.pin (b,o) (List.mem_append_right _ (hpp b hb o e))).1,fun b hb => ?_⟩
          obtain ⟨o,e,d⟩:=T.obj _ _ st5 b hb
          exact (I'.pin (b,o) (List.mem_append_right _ (hpp b hb o e))).2.1
        have inpp:∀ b∈fp,∀ o,s5.heap.get? b=some o→(b,o)∈[(D,({ cls := .type "list",data := .seq its.toArray no } : Obj))]++pinsAt fp s5.heap:=fun b hb o e=>List.mem_append_right _ (mem_pinsAt hb e)
        cases ok with
        | false =>
          rw [if_neg Bool.false_ne_true]
          rw [if_neg Bool.false_ne_true] at q7
          obtain ⟨m',hm,w7⟩:=hN _ _ _ q7
          obtain ⟨b1,b2⟩:=back inpp I7
          exact ⟨m',hm,i+1,ys,its,no,σ6,H7,I7.unpinned,rv,b1,b2,hz,w7⟩
        | true =>
          rw [if_pos rfl]
          rw [if_pos rfl] at q7
          refine wpAny_mono (he C s2 H2 fp _ s7 σ6 H7 _ I7 q7) (fun v8 s8 ⟨y,H8,I8,r8,q8⟩ => ?_) fun _ _ h=>h
          obtain ⟨eD,nD8,neL,nf,_⟩:=I8.pin (D,{ cls := .type "list",data := .seq its.toArray no }) (List.mem_append_right _ (List.mem_append_left _ (by simp)))
          have hlen:=rv.length
          refine call_meets F.slot_list_append ⟨_,eD,rfl⟩ F.entry_list_append (F.args_list_append_2 _ _) (PySem.list_append D its.toArray no v8 (by rw [List.size_toArray];omega)) ⟨eD,?_⟩
          obtain ⟨m',hm,w8⟩:=hN _ _ _ q8
          have I9:Inv (cxComp X N' scope cl C s2 H2 fp) (pinsAt fp s5.heap) σ6 H8 s8:=I8.pins_of fun p hp=>I8.pin p (List.mem_append_right _ (List.mem_append_right _ hp))
          have hup:=get?_update_seq eD (fun a=>a.push v8)
          have I10:=I9.turned (h':=s8.heap.update D (Obj.mapSeq fun a=>a.push v8)) (t':=s8.toks) (it:=D) (fun b o hb e=>(Heap.get?_update_ne _ _ _ _ hb).trans e) nD8 neL (.inr (by show s2.heap.objs.size≤D;omega))
            (fun x c e z=>by
              obtain ⟨v,oc,hoc,hdc⟩:=I8.cell x c e
              rw [z,eD] at hoc
              cases hoc
              cases hdc) (fun p hp z=>by
                have hp':p∈pinsAt fp s5.heap:=by simpa using hp
                exact (fpl p.1 (of_pinsAt hp').1).2 z)
          obtain ⟨b1,b2⟩:=back (fun b hb o e=>mem_pinsAt hb e) I10
          refine ⟨m',hm,i+1,ys ++ [y],its ++ [v8],(if ((its.toArray.push v8).size == its.toArray.size)=true then no else no+1),σ6,H8,I10.pins_of fun p hp => ?_,rv.append (.cons r8 .nil),b1,b2,(by rw [List.length_append];simp;omega),w8⟩
          obtain rfl:=List.mem_singleton.mp hp
          refine ⟨?_,nD8,neL,nf,fun v z=>by cases z⟩
          refine hup.trans ?_
          rw [List.push_toArray]
    · have e:p=(D,{ cls := .type "list",data := .seq ([] : List Value).toArray }):=by simpa using hp
      subst e
      exact ⟨hacc,fD,hDC,fun z=>(stkD D z).1 rfl,fun v z=>by cases z⟩
  exact codeAny_compStart_list (lp _ rfl) (T.self _ 0 _ _ _ (T.keep _ _ _ st2 fun b _ o e=>old b o e) (lp _ rfl))
theorem pe_comp {X:Cx}{tg iter elt:Expr}{ifs:List Expr}{scope:Scope}{pos:Pos} (N':List Str) (nT:Nat) (js:List Nat) {wi:TI}{g:TG}{tc:TT}{te:TE}
    (hc:X.calm=true) (S:CompSc X.nox scope N' nT js) (hi:PI X.nox tg iter wi)
    (hg:∀ cl C s₀ H₀ fp,PG (cxComp X.nox N' scope cl C s₀ H₀ fp) tg g) (ht:∀ cl C s₀ H₀ fp,PTs (cxComp X.nox N' scope cl C s₀ H₀ fp) ifs tc) (he:∀ cl C s₀ H₀ fp,PE (cxComp X.nox N' scope cl C s₀ H₀ fp) elt te)
    (hs:∀ x,foldedSetIterable iter X.env x=pure x:=by intro _;rfl) :
    PE X.nox (.ListComp elt [⟨tg,iter,ifs,0⟩] scope pos) (tComp wi nT js g tc te):=by
  intro pins s σ H Q I h
  rw [eval_ListComp]
  obtain ⟨cl,e,l⟩:=closureFor_of (env:=X.env) scope.names [] fun x hx=>I.ok.has x (.inl (S.kinds _ hx rfl))
  have hclos:closureFor scope X.env=pure cl:=by
    unfold closureFor
    show (forIn scope.names [] fun (x:Str × NameKind) (cs:List (Str × Addr))=>(if (x.2 == NameKind.free)=true then (do let a ← cellOf X.env x.1;pure (ForInStep.yield ((x.1,a) :: cs))) else pure (ForInStep.yield cs) : Sem (ForInStep (List (Str × Addr))))) >>= (fun s=>pure s)=pure cl
    rw [e,pure_bind]
  refine wpAny_comprehension_free (cl:=cl) (use:=none) rfl hs hclos S.kind S.names ?_
  refine thn (hi pins s σ H _ I h) fun v s1 h1=>thn h1 fun itv s2 h2 => ?_
  obtain ⟨it,fp,tn,J,H2,rfl,I2,T,st2,f2,W,w0,turn⟩:=h2
  refine comp_core (X:=X.nox) (QQ:=fun D ys H'=>Q (.ref D) (upd H' D (.lst ys))) (RR:=fun acc C=>compPost (model X.prog X.w) X.A (fun _ _=>False) none (EP X.nox pins σ Q) acc C) hc S (fun x=>by rw [l x];rfl) (hg cl) (ht cl) (he cl) I2 T st2 f2 W w0 turn fun D C s' ys H' m q hn nC _ _ _ fin => ?_
  exact ⟨m,hn,fun h' sb=>⟨.ref D,_,fin h' sb,rfl,q⟩⟩
theorem ps_setC {X:Cx}{tg iter elt:Expr}{ifs:List Expr}{scope:Scope}{cpos pos pos':Pos}{x:Str}{i:Nat} (N':List Str) (nT:Nat) (js:List Nat) {wi:TI}{g:TG}{tc:TT}{te:TE}
    (hN:X.nox.N.Nodup) (hix:X.nox.N[i]? = some x) (hx:Loc X.nox.env.scope x)
    (hc:X.calm=true) (S:CompSc X.nox scope N' nT js) (hi:PI X.nox tg iter wi)
    (hg:∀ cl C s₀ H₀ fp,PG (cxComp X.nox N' scope cl C s₀ H₀ fp) tg g) (ht:∀ cl C s₀ H₀ fp,PTs (cxComp X.nox N' scope cl C s₀ H₀ fp) ifs tc) (he:∀ cl C s₀ H₀ fp,PE (cxComp X.nox N' scope cl C s₀ H₀ fp) elt te)
    (hs:∀ x,foldedSetIterable iter X.env x=pure x:=by intro _;rfl) (hsw:swapsWith (.ListComp elt [⟨tg,iter,ifs,0⟩] scope cpos) (some (.Name x pos')) pos.line X.env=pure true:=by rfl)
    (hf:X.nox.fn x=true∨X.nox.env.scope.names.lookup x=some .local:=by first | exact .inl rfl | exact .inr rfl | assumption) :
    PS X.nox (.Assign [.Name x pos'] (.ListComp elt [⟨tg,iter,ifs,0⟩] scope cpos) pos) (tAsg (tComp wi nT js g tc te) (gName i)):=by
  intro pins s σ H D0 I h
  have hG:PG X.nox (.Name x pos') (gName i):=pg_name hN hix hx hf
  rw [exec_Assign_Name_used _ _ _ _ hsw]
  obtain ⟨cl,e,l⟩:=closureFor_of (env:=X.env) scope.names [] fun x hx=>I.ok.has x (.inl (S.kinds _ hx rfl))
  have hclos:closureFor scope X.env=pure cl:=by
    unfold closureFor
    show (forIn scope.names [] fun (x:Str × NameKind) (cs:List (Str × Addr))=>(if (x.2 == NameKind.free)=true then (do let a ← cellOf X.env x.1;pure (ForInStep.yield ((x.1,a) :: cs))) else pure (ForInStep.yield cs) : Sem (ForInStep (List (Str × Addr))))) >>= (fun s=>pure s)=pure cl
    rw [e,pure_bind]
  refine wpAny_bind (wpAny_standAt (wpAny_bind ?_))
  show wpAny _ X.nox.A (do let _ ← comprehension (.ListComp elt [⟨tg,iter,ifs,0⟩] scope cpos) scope X.env _ (newList []) false (eval iter X.env) (some (assign (.Name x pos') X.env))) _ _ s
  refine wpAny_bind (wpAny_mono (wpAny_comprehension_free (cl:=cl) (use:=some (assign (.Name x pos') X.env)) (Q:=fun _ s'=>SP X.nox pins D0 .next s') rfl hs hclos S.kind S.names ?_) (fun _ s' hq=>wpAny_pure (wpAny_pure hq)) fun _ _ e=>e)
  refine thn (hi pins s σ H _ I h) fun v s1 h1=>thn h1 fun itv s2 h2 => ?_
  obtain ⟨it,fp,tn,J,H2,rfl,I2,T,st2,f2,W,w0,turn⟩:=h2
  refine comp_core (X:=X.nox) (QQ:=fun D ys H'=>gName i (.ref D) σ (upd H' D (.lst ys)) D0.nx) (RR:=fun acc C=>compPost (model X.prog X.w) X.A (fun _ _=>False) (some (assign (.Name x pos') X.env)) (fun _ s'=>SP X.nox pins D0 .next s') acc C) hc S (fun x=>by rw [l x];rfl) (hg cl) (ht cl) (he cl) I2 T st2 f2 W w0 turn fun D C s' ys H' m q hn nC hC hDC hHC fin => ?_
  show wpAny _ X.A (assign (.Name x pos') X.env (.ref D)) _ _ _
  have I3:Inv X.nox pins σ (upd H' D (.lst ys)) s':=fin s'.heap ⟨rfl,fun _ _=>rfl⟩
  have hHC':upd H' D (.lst ys) C=none:=by rw [upd_ne (Ne.symm hDC)];exact hHC
  have fpC:∀ {H3:Hp},H3 C=none→FpOk X.nox pins H3 C:=fun h3=>I2.fpOk hC h3
  obtain ⟨oC,es,ep,hoC,rC⟩:=id hn
  have hcell:∀ v,oC.data ≠ .cell v:=fun v z=>by
    have:=rC
    rw [z] at this
    simp at this
  have I4 := I3.pinned (fp := [C]) (fun b hb => by have z : b = C := by simpa using hb
                                                   subst z; exact fpC hHC') (fun b hb => by have z : b = C := by simpa using hb
                                                                                            subst z; exact ⟨oC, hoC, hcell⟩)
  refine thn (hG _ s' σ _ (.ref D) (.ref D) _ I4 rfl q) fun _ s5 ⟨σ5,H5,I5,q5⟩ => ?_
  have pC:=I5.pin (C,oC) (List.mem_append_right _ (List.mem_append_right _ (mem_pinsAt (by simp) hoC)))
  refine ⟨m,⟨oC,es,ep,pC.1,rC⟩,fun h' sb => ?_⟩
  obtain ⟨f0,f1,f2',f3,f4,f5⟩:=fpC pC.2.1
  exact ⟨σ5,H5,(I5.unpinned).turned (t':=s5.toks) (fun b o hb e=>(sb.2 b hb).trans e) f0 f1 f3 f4 f5,q5⟩
theorem comp_list {K:PySem.W.Frag}{a:Addr}{xs:List V}{g:TG}{tc:TT}{te:TE} {σ : St}{H:Hp}{R:List V→Hp→Addr→Prop} (Pv:Nat→List V→St→Hp→Prop) (h0:Pv 0 [] σ H) (hl:∀ i ys σ H,i≤xs.length→Pv i ys σ H→SqL K H a xs∧ys.length≤i) (hz:xs.length≤sizeLine)
    (hs:∀ i x ys σ H,xs[i]? = some x→Pv i ys σ H→g x σ H fun σ2 H2=>tc σ2 H2 fun b H3=>if b=true then te σ2 H3 fun y H4=>Pv (i+1) (ys ++ [y]) σ2 H4 else Pv (i+1) ys σ2 H3)
    (hd:∀ ys σ H,Pv xs.length ys σ H→∀ D,H D=none→R ys H D) :
    ∃ W:Nat→Nat→List V→St→Hp→Prop,(∃ m,W 0 m [] σ H)∧∀ i m ys σ H,W i m ys σ H →
      ((Itl K a).stop i H∧∀ D,H D=none→R ys H D) ∨
      ((Itl K a).go i H∧ys.length<sizeLine∧∃ N:List V→St→Hp→Prop,(∀ ys' σ' H',N ys' σ' H'→∃ m',m'<m∧W (i+1) m' ys' σ' H') ∧
        ∀ x H',(Itl K a).yld i H x H'→g x σ H' fun σ2 H2=>tc σ2 H2 fun b H3=>if b=true then te σ2 H3 fun y H4=>N (ys ++ [y]) σ2 H4 else N ys σ2 H3):=by
  refine ⟨fun i m ys σ H=>m=xs.length-i∧i≤xs.length∧Pv i ys σ H,⟨xs.length,by simp,Nat.zero_le _,h0⟩,?_⟩
  rintro i m ys σ H ⟨rfl,hi,p⟩
  have q:=hl i ys σ H hi p
  by_cases hlt:i<xs.length
  · refine .inr ⟨⟨xs,xs[i],q.1,by simp [hlt]⟩,(by omega),Pv (i+1),fun ys' σ' H' p'=>⟨xs.length-(i+1),by omega,rfl,hlt,p'⟩,fun x H' y => ?_⟩
    obtain ⟨e,y⟩:=y
    subst e
    exact hs i x ys σ _ (y xs q.1) p
  · have e:i=xs.length:=by omega
    subst e
    exact .inl ⟨⟨xs,q.1,Nat.le_refl _⟩,hd ys σ H p⟩
theorem comp_range {lo:Int}{n:Nat}{g:TG}{tc:TT}{te:TE} {σ : St}{H:Hp}{R:List V→Hp→Addr→Prop} (Pv:Nat→List V→St→Hp→Prop) (h0:Pv 0 [] σ H) (hl:∀ i ys σ H,Pv i ys σ H→ys.length≤i) (hz:n≤sizeLine)
    (hs:∀ i ys σ H,i<n→Pv i ys σ H→g (.int (lo+i)) σ H fun σ2 H2=>tc σ2 H2 fun b H3=>if b=true then te σ2 H3 fun y H4=>Pv (i+1) (ys ++ [y]) σ2 H4 else Pv (i+1) ys σ2 H3)
    (hd:∀ ys σ H,Pv n ys σ H→∀ D,H D=none→R ys H D) :
    ∃ W:Nat→Nat→List V→St→Hp→Prop,(∃ m,W 0 m [] σ H)∧∀ i m ys σ H,W i m ys σ H →
      ((Itr lo n).stop i H∧∀ D,H D=none→R ys H D) ∨
      ((Itr lo n).go i H∧ys.length<sizeLine∧∃ N:List V→St→Hp→Prop,(∀ ys' σ' H',N ys' σ' H'→∃ m',m'<m∧W (i+1) m' ys' σ' H') ∧
        ∀ x H',(Itr lo n).yld i H x H'→g x σ H' fun σ2 H2=>tc σ2 H2 fun b H3=>if b=true then te σ2 H3 fun y H4=>N (ys ++ [y]) σ2 H4 else N ys σ2 H3):=by
  refine ⟨fun i m ys σ H=>m=n-i∧i≤n∧Pv i ys σ H,⟨n,by simp,Nat.zero_le _,h0⟩,?_⟩
  rintro i m ys σ H ⟨rfl,hi,p⟩
  have q:=hl i ys σ H p
  by_cases hlt:i<n
  · refine .inr ⟨hlt,(by omega),Pv (i+1),fun ys' σ' H' p'=>⟨n-(i+1),by omega,rfl,hlt,p'⟩,fun x H' y => ?_⟩
    obtain ⟨e,y⟩:=y
    subst e y
    exact hs i ys σ _ hlt p
  · have e:i=n:=by omega
    subst e
    exact .inl ⟨Nat.le_refl _,hd ys σ H p⟩
end L2
namespace OS
open PySem PyProof.Rows
class KO where
  num:Value→Int
  ok:Value→Prop
  kind:SortKind
class KL [KO] (prog:Program) (w:World) (A:Around) (s:Shared) : Prop where
  lt:∀ {E:Value→Shared→Prop}{Q:Bool→Shared→Prop}{u v:Value},KO.ok u→KO.ok v→Q (decide (KO.num u<KO.num v)) s→wpAny (model prog w) A (keyLt' KO.kind u v) Q E s
def gallop':Bool→Keyed→Array Keyed→Nat→Nat→Nat→StateT SortSt Sem (Option Nat):=sortPriv% PySem.Builtin.gallop
variable [KO]
def kn (p:Keyed) : Int:=KO.num p.1
def IsK (p:Keyed) : Prop:=KO.ok p.1
structure SB (st:SortSt) : Prop where
  kind:kindOf st=KO.kind
  failed:failedOf st=none
section
variable {prog:Program}{w:World}{A:Around}{E:Value→Shared→Prop}{s:Shared} [KL prog w A s]
theorem wpS_elem {arr:Array Keyed}{i:Nat}{p:Keyed}{st:SortSt}{Q:Keyed→SortSt→Prop} (e:arr[i]? = some p) (h:Q p st) : wpS (model prog w) A E s (elem' arr i) Q st:=by
  rw [elem'_eq,e]
  exact wpS_pure h
theorem wpS_lt {st:SortSt}{x y:Keyed}{Q:Option Bool→SortSt→Prop} (hB:SB st) (hx:IsK x) (hy:IsK y) (h:Q (some (decide (kn x<kn y))) st) : wpS (model prog w) A E s (lt' x y) Q st:=by
  rw [lt'_eq]
  refine wpS_bind (wpS_get ?_)
  rw [hB.kind]
  exact wpS_bind (wpS_lift (wpAny_attempt (KL.lt hx hy ⟨rfl,wpS_pure h⟩)))
theorem wpS_ltA {st:SortSt}{i j:Nat}{x y:Keyed}{Q:Option Bool→SortSt→Prop} (hB:SB st) (hi:(arrOf st)[i]? = some x) (hj:(arrOf st)[j]? = some y) (hx:IsK x) (hy:IsK y) (h:Q (some (decide (kn x<kn y))) st) : wpS (model prog w) A E s (ltAt' i j) Q st:=by
  rw [ltAt'_eq]
  refine wpS_bind (wpS_get ?_)
  show wpS _ _ _ _ (do let x ← elem' (arrOf st) i;let y ← elem' (arrOf st) j;lt' x y) Q st
  exact wpS_bind (wpS_elem hi (wpS_bind (wpS_elem hj (wpS_lt hB hx hy h))))
def bey (left:Bool) (key:Keyed) (arr:Array Keyed) (base i:Nat) : StateT SortSt Sem (Option Bool):=do
  let x ← elem' arr (base+i);if left then lt' x key else return (← lt' key x).map (!·)
set_option maxHeartbeats 4000000 in
theorem gallop'_eq (left:Bool) (key:Keyed) (arr:Array Keyed) (base n hint:Nat) : gallop' left key arr base n hint=(do
  let mut lastofs:=0;let mut ofs:=1;let mut lo:=0;let mut hi:=0
  let some right ← bey left key arr base hint | return none
  if right then
    let maxofs:=n-hint
    for _ in [0:n] do
      if ofs ≥ maxofs then break
      let some more ← bey left key arr base (hint+ofs) | return none
      if !more then break
      lastofs:=ofs;ofs:=2 * ofs+1
    lo:=hint+lastofs+1;hi:=hint+min ofs maxofs
  else
    let maxofs:=hint+1
    for _ in [0:n] do
      if ofs ≥ maxofs then break
      let some found ← bey left key arr base (hint-ofs) | return none
      if found then break
      lastofs:=ofs;ofs:=2 * ofs+1
    lo:=hint+1-min ofs maxofs;hi:=hint-lastofs
  for _ in [0:n] do
    if lo ≥ hi then break
    let m:=lo+(hi-lo) / 2
    let some more ← bey left key arr base m | return none
    if more=true then lo:=m+1 else hi:=m
  return some hi):=rfl
def Bey (left:Bool) (key x:Keyed) : Prop:=if left then kn x<kn key else kn x≤kn key
instance (left:Bool) (key x:Keyed) : Decidable (Bey left key x):=by unfold Bey;infer_instance
theorem wpS_bey {left:Bool}{key:Keyed}{arr:Array Keyed}{base i:Nat}{x:Keyed}{st:SortSt}{Q:Option Bool→SortSt→Prop} (hB:SB st) (hk:IsK key) (hx:IsK x) (e:arr[base+i]? = some x)
    (h:Q (some (decide (Bey left key x))) st) : wpS (model prog w) A E s (bey left key arr base i) Q st:=by
  unfold bey
  refine wpS_bind (wpS_elem e ?_)
  cases left with
  | true=>exact wpS_lt hB hx hk h
  | false =>
    refine wpS_bind (wpS_lt hB hk hx (wpS_pure ?_))
    have e:(Option.map (fun x => !x) (some (decide (kn key<kn x))))=some (decide (Bey false key x)):=by
      have:(!decide (kn key<kn x))=decide (kn x≤kn key):=by
        rw [Bool.eq_iff_iff];simp
      show some (!decide (kn key<kn x))=some (decide (kn x≤kn key))
      rw [this]
    rw [e];exact h
structure Run (arr:Array Keyed) (base n:Nat) : Prop where
  has:base+n≤arr.size
  keys:∀ x∈arr,IsK x
  rise:∀ i j (x y:Keyed),i≤j→j<n→arr[base+i]? = some x→arr[base+j]? = some y→kn x≤kn y
theorem Run.at {arr:Array Keyed}{base n:Nat} (r:Run arr base n) {i:Nat} (hi:i<n) : ∃ x,arr[base+i]? = some x∧IsK x:=by
  have:=r.has
  have hi':base+i<arr.size:=by omega
  exact ⟨arr[base+i],by simp [hi'],r.keys _ (by simp)⟩
theorem Run.mono {arr:Array Keyed}{base n:Nat} (r:Run arr base n) {left:Bool}{key x y:Keyed}{i j:Nat} (hij:i≤j) (hj:j<n) (ex:arr[base+i]? = some x) (ey:arr[base+j]? = some y) (h:Bey left key y) : Bey left key x:=by
  have:=r.rise i j x y hij hj ex ey
  unfold Bey at *
  split at h <;> simp_all <;> omega
def Cut (left:Bool) (key:Keyed) (arr:Array Keyed) (base n k:Nat) : Prop:=k≤n∧(∀ i x,i<k→arr[base+i]? = some x→Bey left key x)∧(∀ i x,k≤i→i<n→arr[base+i]? = some x→¬ Bey left key x)
def AllB (left:Bool) (key:Keyed) (arr:Array Keyed) (base lo:Nat) : Prop := ∀ i x,i<lo→arr[base+i]? = some x→Bey left key x
def NoneB (left:Bool) (key:Keyed) (arr:Array Keyed) (base n hi:Nat) : Prop := ∀ i x,hi≤i→i<n→arr[base+i]? = some x→¬ Bey left key x
theorem Run.allB {arr:Array Keyed}{base n:Nat} (r:Run arr base n) {left:Bool}{key x:Keyed}{j:Nat} (hj:j<n) (ex:arr[base+j]? = some x) (h:Bey left key x) : AllB left key arr base (j+1) :=
  fun i y hi ey=>r.mono (by omega) hj ey ex h
theorem Run.noneB {arr:Array Keyed}{base n:Nat} (r:Run arr base n) {left:Bool}{key x:Keyed}{j:Nat} (hj:j<n) (ex:arr[base+j]? = some x) (h : ¬ Bey left key x) : NoneB left key arr base n j :=
  fun i y hi hn ey z=>h (r.mono hi hn ex ey z)
set_option maxHeartbeats 4000000 in
theorem wpS_gallop {left:Bool}{key:Keyed}{arr:Array Keyed}{base n hint:Nat}{st:SortSt}{Q:Option Nat→SortSt→Prop} (hB:SB st) (hk:IsK key) (r:Run arr base n) (hh:hint<n)
    (h:∀ k,Cut left key arr base n k→Q (some k) st) : wpS (model prog w) A E s (gallop' left key arr base n hint) Q st:=by
  rw [gallop'_eq]
  dsimp only
  obtain ⟨xh,eh,kh⟩:=r.at hh
  have search:∀ (F:Nat→Option (Option Nat) × Nat × Nat→StateT SortSt Sem (ForInStep (Option (Option Nat) × Nat × Nat))) (G:Option (Option Nat) × Nat × Nat→StateT SortSt Sem (Option Nat)),
      (∀ x lo hi,F x (none,lo,hi)=if lo ≥ hi then pure (ForInStep.done (none,lo,hi)) else bey left key arr base (lo+(hi-lo) / 2) >>= fun o=>match o with
        | some more=>if more=true then pure (ForInStep.yield (none,lo+(hi-lo) / 2+1,hi)) else pure (ForInStep.yield (none,lo,lo+(hi-lo) / 2))
        | none=>pure (ForInStep.done (some none,lo,hi)))→(∀ lo hi,G (none,lo,hi)=pure (some hi)) →
      ∀ lo hi:Nat,lo≤hi→hi≤n→AllB left key arr base lo→NoneB left key arr base n hi→wpS (model prog w) A E s (forIn [0:n] (none,lo,hi) F >>= G) Q st:=by
    intro F G hF hG lo hi hlh hhn ha hb
    refine wpS_bind (wpS_mono (wpS_forRange (I:=fun x c st'=>st'=st∧∃ lo hi,c=(none,lo,hi)∧lo≤hi∧hi≤n∧hi-lo≤n-x∧AllB left key arr base lo∧NoneB left key arr base n hi)
      (Q:=fun c st'=>st'=st∧∃ k,c=(none,k,k)∧k≤n∧AllB left key arr base k∧NoneB left key arr base n k) ?step ?fin ⟨rfl,lo,hi,rfl,hlh,hhn,by omega,ha,hb⟩) ?post)
    case post =>
      rintro c st' ⟨rfl,k,rfl,h1,h2,h3⟩
      rw [hG];exact wpS_pure (h k ⟨h1,h2,h3⟩)
    case fin =>
      rintro c st' ⟨rfl,lo,hi,rfl,h1,h2,h3,h4,h5⟩
      have:lo=hi:=by omega
      subst this
      exact ⟨rfl,lo,rfl,h2,h4,h5⟩
    case step =>
      rintro x c st' _ hx ⟨rfl,lo,hi,rfl,h1,h2,h3,h4,h5⟩
      rw [hF]
      by_cases hge:lo ≥ hi
      · rw [if_pos hge]
        have:lo=hi:=by omega
        subst this
        exact wpS_pure ⟨rfl,lo,rfl,h2,h4,h5⟩
      · rw [if_neg hge]
        generalize hm:lo+(hi-lo) / 2=m
        have hmn:m<n:=by omega
        obtain ⟨xm,em,km⟩:=r.at hmn
        refine wpS_bind (wpS_bey hB hk km em ?_)
        by_cases hb:Bey left key xm
        · simp only [hb,decide_true,if_true]
          exact wpS_pure ⟨rfl,m+1,hi,rfl,by omega,h2,by omega,r.allB hmn em hb,h5⟩
        · simp only [hb,decide_false,Bool.false_eq_true,if_false]
          exact wpS_pure ⟨rfl,lo,m,rfl,by omega,by omega,by omega,h4,r.noneB hmn em hb⟩
  refine wpS_bind (wpS_bey hB hk kh eh ?_)
  by_cases hb:Bey left key xh
  · simp only [hb,decide_true,if_true]
    refine wpS_bind (wpS_mono (wpS_forRange (I:=fun x c st'=>st'=st∧∃ la of,c=(none,la,of)∧la<of∧x+1≤of∧hint+la<n∧AllB left key arr base (hint+la+1))
      (Q:=fun c st'=>st'=st∧∃ la of,c=(none,la,of)∧la<of∧hint+la<n∧AllB left key arr base (hint+la+1)∧(of<n-hint→NoneB left key arr base n (hint+of))) ?step ?fin ⟨rfl,0,1,rfl,by omega,by omega,by omega,r.allB hh eh hb⟩) ?post)
    case step =>
      rintro x c st' _ hx ⟨rfl,la,of,rfl,h1,h0,h2,h3⟩
      dsimp only
      by_cases hge:of ≥ n-hint
      · rw [if_pos hge]
        exact wpS_pure ⟨rfl,la,of,rfl,h1,h2,h3,fun z=>by omega⟩
      · rw [if_neg hge]
        have hmn:hint+of<n:=by omega
        obtain ⟨xm,em,km⟩:=r.at hmn
        refine wpS_bind (wpS_bey hB hk km em ?_)
        by_cases hb:Bey left key xm
        · simp only [hb,decide_true,Bool.not_true,Bool.false_eq_true,if_false]
          exact wpS_pure ⟨rfl,of,2 * of+1,rfl,by omega,by omega,hmn,r.allB hmn em hb⟩
        · simp only [hb,decide_false,Bool.not_false,if_true]
          exact wpS_pure ⟨rfl,la,of,rfl,h1,h2,h3,fun _=>r.noneB hmn em hb⟩
    case fin =>
      rintro c st' ⟨rfl,la,of,rfl,h1,h0,h2,h3⟩
      exact ⟨rfl,la,of,rfl,h1,h2,h3,fun z=>by omega⟩
    case post =>
      rintro c st' ⟨rfl,la,of,rfl,h1,h2,h3,h4⟩
      dsimp only
      refine search _ _ (fun _ _ _=>by dsimp only;split;rfl;congr 1;funext o;cases o <;> rfl) (fun _ _=>rfl) (hint+la+1) (hint+min of (n-hint)) (by omega) (by omega) h3 ?_
      by_cases hlt:of<n-hint
      · rw [Nat.min_eq_left (by omega)];exact h4 hlt
      · rw [Nat.min_eq_right (by omega)]
        intro i x a1 a2;omega
  · simp only [hb,decide_false,Bool.false_eq_true,if_false]
    refine wpS_bind (wpS_mono (wpS_forRange (I:=fun x c st'=>st'=st∧∃ la of,c=(none,la,of)∧la<of∧x+1≤of∧la≤hint∧NoneB left key arr base n (hint-la))
      (Q:=fun c st'=>st'=st∧∃ la of,c=(none,la,of)∧la<of∧la≤hint∧NoneB left key arr base n (hint-la)∧(of<hint+1→AllB left key arr base (hint-of+1))) ?step ?fin ⟨rfl,0,1,rfl,by omega,by omega,by omega,r.noneB hh eh hb⟩) ?post)
    case step =>
      rintro x c st' _ hx ⟨rfl,la,of,rfl,h1,h0,h2,h3⟩
      dsimp only
      by_cases hge:of ≥ hint+1
      · rw [if_pos hge]
        exact wpS_pure ⟨rfl,la,of,rfl,h1,h2,h3,fun z=>by omega⟩
      · rw [if_neg hge]
        have hmn:hint-of<n:=by omega
        obtain ⟨xm,em,km⟩:=r.at hmn
        refine wpS_bind (wpS_bey hB hk km em ?_)
        by_cases hb:Bey left key xm
        · simp only [hb,decide_true,if_true]
          exact wpS_pure ⟨rfl,la,of,rfl,h1,h2,h3,fun _=>r.allB hmn em hb⟩
        · simp only [hb,decide_false,Bool.false_eq_true,if_false]
          exact wpS_pure ⟨rfl,of,2 * of+1,rfl,by omega,by omega,by omega,r.noneB hmn em hb⟩
    case fin =>
      rintro c st' ⟨rfl,la,of,rfl,h1,h0,h2,h3⟩
      exact ⟨rfl,la,of,rfl,h1,h2,h3,fun z=>by omega⟩
    case post =>
      rintro c st' ⟨rfl,la,of,rfl,h1,h2,h3,h4⟩
      dsimp only
      refine search _ _ (fun _ _ _=>by dsimp only;split;rfl;congr 1;funext o;cases o <;> rfl) (fun _ _=>rfl) (hint+1-min of (hint+1)) (hint-la) (by omega) (by omega) ?_ h3
      by_cases hlt:of<hint+1
      · rw [Nat.min_eq_left (by omega),show hint+1-of=hint-of+1 by omega];exact h4 hlt
      · rw [Nat.min_eq_right (by omega)]
        intro i x a1 a2;omega
end
end OS
namespace OS
open PySem PyProof.Rows
variable [KO]
abbrev Up (l:List Keyed) : Prop:=l.Pairwise fun x y=>kn x≤kn y
abbrev Bel (l m:List Keyed) : Prop := ∀ x∈l,∀ y∈m,kn x≤kn y
structure MInv (A B out:List Keyed) (ia ib:Nat) : Prop where
  perm:out.Perm (A.take ia++B.take ib)
  srt:Up out
  ubA:Bel out (A.drop ia)
  ubB:Bel out (B.drop ib)
theorem MInv.swap {A B out:List Keyed}{ia ib:Nat} (h:MInv A B out ia ib) : MInv B A out ib ia:=⟨h.perm.trans List.perm_append_comm,h.srt,h.ubB,h.ubA⟩
def Merged (A B res:List Keyed) : Prop:=res.Perm (A++B)∧Up res
theorem drop_split (A:List Keyed) (i k:Nat) : A.drop i=(A.drop i).take k++A.drop (i+k):=by
  rw [← List.drop_drop,List.take_append_drop]
theorem MInv.pushAs {A B out:List Keyed}{ia ib:Nat} (h:MInv A B out ia ib) (sA:Up A) (k:Nat) (hb:Bel ((A.drop ia).take k) (B.drop ib)) : MInv A B (out++(A.drop ia).take k) (ia+k) ib:=by
  have e:=drop_split A ia k
  have sd:Up (A.drop ia):=sA.sublist (List.drop_sublist _ _)
  have sd':=sd
  rw [e] at sd'
  have sp:=List.pairwise_append.mp sd'
  refine ⟨?_,List.pairwise_append.mpr ⟨h.srt,sp.1,fun x hx y hy=>h.ubA x hx y (List.mem_of_mem_take hy)⟩,fun x hx y hy => ?_,fun x hx y hy => ?_⟩
  · rw [List.take_add]
    have h1:(out++(A.drop ia).take k).Perm ((A.take ia++B.take ib)++(A.drop ia).take k):=h.perm.append_right _
    refine h1.trans ?_
    rw [List.append_assoc,List.append_assoc]
    exact (List.perm_append_comm).append_left _
  · rcases List.mem_append.mp hx with hx | hx
    · exact h.ubA x hx y (by rw [e];exact List.mem_append_right _ hy)
    · exact sp.2.2 x hx y hy
  · rcases List.mem_append.mp hx with hx | hx
    · exact h.ubB x hx y hy
    · exact hb x hx y hy
theorem MInv.pushBs {A B out:List Keyed}{ia ib:Nat} (h:MInv A B out ia ib) (sB:Up B) (k:Nat) (hb:Bel ((B.drop ib).take k) (A.drop ia)) : MInv A B (out++(B.drop ib).take k) ia (ib+k) :=
  (h.swap.pushAs sB k hb).swap
theorem take_one {A:List Keyed}{i:Nat}{x:Keyed} (e:A[i]? = some x) : (A.drop i).take 1=[x]:=by
  have hi:=(List.getElem?_eq_some_iff.mp e).1
  rw [List.drop_eq_getElem_cons hi]
  simp [(List.getElem?_eq_some_iff.mp e).2]
theorem MInv.pushA {A B out:List Keyed}{ia ib:Nat}{x:Keyed} (h:MInv A B out ia ib) (sA:Up A) (e:A[ia]? = some x) (hb:∀ y∈B.drop ib,kn x≤kn y) : MInv A B (out ++ [x]) (ia+1) ib:=by
  have:=h.pushAs sA 1 (by rw [take_one e];intro z hz;rw [List.mem_singleton.mp hz];exact hb)
  rwa [take_one e] at this
theorem MInv.pushB {A B out:List Keyed}{ia ib:Nat}{x:Keyed} (h:MInv A B out ia ib) (sB:Up B) (e:B[ib]? = some x) (hb:∀ y∈A.drop ia,kn x≤kn y) : MInv A B (out ++ [x]) ia (ib+1) :=
  (h.swap.pushA sB e hb).swap
theorem MInv.done {A B out:List Keyed}{ia ib:Nat} (h:MInv A B out ia ib) (sA:Up A) (sB:Up B) (hb:Bel (A.drop ia) (B.drop ib)) : Merged A B (out++A.drop ia++B.drop ib):=by
  refine ⟨?_,?_⟩
  · have h1:(out++A.drop ia++B.drop ib).Perm ((A.take ia++B.take ib)++A.drop ia++B.drop ib):=(h.perm.append_right _).append_right _
    refine h1.trans ?_
    have h2:((A.take ia++B.take ib)++A.drop ia).Perm (A++B.take ib):=by
      rw [List.append_assoc]
      refine (List.perm_append_comm.append_left _).trans ?_
      rw [← List.append_assoc,List.take_append_drop]
    refine (h2.append_right _).trans ?_
    rw [List.append_assoc,List.take_append_drop]
  · refine List.pairwise_append.mpr ⟨List.pairwise_append.mpr ⟨h.srt,sA.sublist (List.drop_sublist _ _),h.ubA⟩,sB.sublist (List.drop_sublist _ _),fun x hx y hy => ?_⟩
    rcases List.mem_append.mp hx with hx | hx
    · exact h.ubB x hx y hy
    · exact hb x hx y hy
theorem Merged.swap {A B res:List Keyed} (h:Merged A B res) : Merged B A res:=⟨h.1.trans List.perm_append_comm,h.2⟩
theorem MInv.lastA {A B out:List Keyed}{ia ib:Nat} (h:MInv A B out ia ib) (sA:Up A) (sB:Up B) (hb:Bel (B.drop ib) (A.drop ia)) : Merged A B (out++B.drop ib++A.drop ia):=(h.swap.done sB sA hb).swap
theorem up_head {A:List Keyed}{i:Nat}{x:Keyed} (sA:Up A) (e:A[i]? = some x) : ∀ y∈A.drop i,kn x≤kn y:=by
  have hi:=(List.getElem?_eq_some_iff.mp e).1
  have hx:=(List.getElem?_eq_some_iff.mp e).2
  intro y hy
  have sd:Up (A.drop i):=sA.sublist (List.drop_sublist _ _)
  rw [List.drop_eq_getElem_cons hi] at sd hy
  rcases List.mem_cons.mp hy with z | z
  · rw [z,hx];exact Int.le_refl _
  · have:=(List.pairwise_cons.mp sd).1 y z
    rw [hx] at this;exact this
section
variable {prog:Program}{w:World}{A:Around}{E:Value→Shared→Prop}{s:Shared} [KL prog w A s]
def mergeLo':Array Keyed→Array Keyed→StateT SortSt Sem (Array Keyed):=sortPriv% PySem.Builtin.mergeLo
def setG (g:Nat) : StateT SortSt Sem Unit:=modify fun s=>SortSt.mk' (kindOf s) (arrOf s) (pendingOf s) g (failedOf s)
set_option maxHeartbeats 4000000 in
theorem mergeLo'_eq (a b:Array Keyed) : mergeLo' a b=(do
  rule "list.sort.merge-lo";let total:=a.size+b.size
  let done (out:Array Keyed) (ia ib:Nat):=out++a.extract ia a.size++b.extract ib b.size;let lastOfA (out:Array Keyed) (ia ib:Nat):=out++b.extract ib b.size++a.extract ia a.size
  let mut out:Array Keyed := #[← elem' b 0];let mut ia:=0;let mut ib:=1
  if ib == b.size then return done out ia ib
  if ia+1 == a.size then return lastOfA out ia ib
  let mut minGallop:=gallopOf (← get)
  for _ in [0:total] do
    let mut acount:=0;let mut bcount:=0
    for _ in [0:total] do
      let some bWins ← lt' (← elem' b ib) (← elem' a ia) | return done out ia ib
      if bWins=true then
        out:=out.push (← elem' b ib);ib:=ib+1;bcount:=bcount+1;acount:=0
        if ib == b.size then return done out ia ib
        if bcount ≥ minGallop then break
      else
        out:=out.push (← elem' a ia);ia:=ia+1;acount:=acount+1;bcount:=0
        if ia+1 == a.size then return lastOfA out ia ib
        if acount ≥ minGallop then break
    rule "list.sort.gallop";minGallop:=minGallop+1
    for _ in [0:total] do
      if minGallop > 1 then minGallop:=minGallop-1
      setG minGallop
      let some k ← gallop' false (← elem' b ib) a ia (a.size-ia) 0 | return done out ia ib
      acount:=k
      if k > 0 then
        out:=out++a.extract ia (ia+k);ia:=ia+k
        if ia+1 == a.size then return lastOfA out ia ib
        if ia == a.size then return done out ia ib
      out:=out.push (← elem' b ib);ib:=ib+1
      if ib == b.size then return done out ia ib
      let some k ← gallop' true (← elem' a ia) b ib (b.size-ib) 0 | return done out ia ib
      bcount:=k
      if k > 0 then
        out:=out++b.extract ib (ib+k);ib:=ib+k
        if ib == b.size then return done out ia ib
      out:=out.push (← elem' a ia);ia:=ia+1
      if ia+1 == a.size then return lastOfA out ia ib
      if acount<7 && bcount<7 then break
    minGallop:=minGallop+1;setG minGallop
  unsupported "internal:list.sort.merge-bound"):=rfl
theorem ext_all (a:Array Keyed) (i:Nat) : (a.extract i a.size).toList=a.toList.drop i:=by
  rw [Array.toList_extract,List.extract_eq_take_drop,List.take_of_length_le (by simp)]
theorem ext_cut (a:Array Keyed) (i k:Nat) : (a.extract i (i+k)).toList=(a.toList.drop i).take k:=by
  rw [Array.toList_extract,List.extract_eq_take_drop,Nat.add_sub_cancel_left]
theorem mem_cut {a:Array Keyed}{i k:Nat}{x:Keyed} (h:x∈(a.toList.drop i).take k) : ∃ j,j<k∧a[i+j]? = some x:=by
  obtain ⟨j,hj,e⟩:=List.getElem_of_mem h
  rw [List.length_take] at hj
  refine ⟨j,by omega,?_⟩
  have e2:((a.toList.drop i).take k)[j]? = some x:=by rw [List.getElem?_eq_getElem (by rw [List.length_take];exact hj),e]
  rw [List.getElem?_take_of_lt (by omega),List.getElem?_drop] at e2
  simpa using e2
theorem Run.up {a:Array Keyed} (r:Run a 0 a.size) : Up a.toList:=by
  refine List.pairwise_iff_getElem.mpr fun i j hi hj hij => ?_
  rw [Array.length_toList] at hi hj
  exact r.rise i j _ _ (by omega) hj (by simp [hi]) (by simp [hj])
theorem Run.suf {a:Array Keyed} (r:Run a 0 a.size) (i:Nat) (hi:i≤a.size) : Run a i (a.size-i) :=
  ⟨by omega,r.keys,fun j k x y hjk hk ex ey=>r.rise (i+j) (i+k) x y (by omega) (by omega) (by rw [Nat.zero_add];exact ex) (by rw [Nat.zero_add];exact ey)⟩
theorem Run.pre {a:Array Keyed} (r:Run a 0 a.size) (i:Nat) (hi:i≤a.size) : Run a 0 i :=
  ⟨by omega,r.keys,fun j k x y hjk hk ex ey=>r.rise j k x y hjk (by omega) ex ey⟩
theorem ls {a:Array Keyed}{i:Nat}{x:Keyed} (h:a[i]? = some x) : a.toList[i]? = some x:=by simpa using h
structure Kp (st st':SortSt) : Prop where
  sb:SB st'
  arr:arrOf st'=arrOf st
  pend:pendingOf st'=pendingOf st
theorem Kp.setG {st st':SortSt} (h:Kp st st') (g:Nat) : Kp st (SortSt.mk' (kindOf st') (arrOf st') (pendingOf st') g (failedOf st')):=⟨⟨h.sb.kind,h.sb.failed⟩,h.arr,h.pend⟩
theorem wpS_setG {st:SortSt}{g:Nat}{Q:Unit→SortSt→Prop} (h:Q () (SortSt.mk' (kindOf st) (arrOf st) (pendingOf st) g (failedOf st))) : wpS (model prog w) A E s (setG g) Q st:=by
  unfold setG;exact wpS_modify h
abbrev C7:=Option (Array Keyed) × Array Keyed × Nat × Nat × Nat × Nat × Nat
structure LoR (a b:Array Keyed) (st₀:SortSt) (c:Nat) (R:ForInStep C7→SortSt→Prop) : Prop where
  res:∀ res out ia ib mg ac bc st',Kp st₀ st'→Merged a.toList b.toList res.toList→R (.done (some res,out,ia,ib,mg,ac,bc)) st'
  brk:∀ out ia ib mg ac bc st',Kp st₀ st'→MInv a.toList b.toList out.toList ia ib→ia+1<a.size→ib<b.size→c<ia+ib→R (.done (none,out,ia,ib,mg,ac,bc)) st'
  go:∀ out ia ib mg ac bc st',Kp st₀ st'→MInv a.toList b.toList out.toList ia ib→ia+1<a.size→ib<b.size→c<ia+ib→R (.yield (none,out,ia,ib,mg,ac,bc)) st'
theorem bel_last {a b:Array Keyed} (h2:∀ z,a[a.size-1]? = some z→∀ y∈b,kn y<kn z) {i j:Nat} (hi:i+1=a.size) : Bel (b.toList.drop j) (a.toList.drop i):=by
  intro y hy z hz
  have hl:i<a.toList.length:=by rw [Array.length_toList];omega
  rw [List.drop_eq_getElem_cons hl,List.drop_eq_nil_of_le (by rw [Array.length_toList];omega)] at hz
  have hz':z=a.toList[i]:=by simpa using hz
  have e:a[a.size-1]? = some z:=by
    rw [hz',show a.size-1=i by omega];simp
  exact Int.le_of_lt (h2 z e y (by simpa using List.mem_of_mem_drop hy))
theorem lo_tail {a b:Array Keyed}{st₀ st':SortSt}{c:Nat}{R:ForInStep C7→SortSt→Prop} (G:LoR a b st₀ c R) (ra:Run a 0 a.size) (rb:Run b 0 b.size) (h2:∀ z,a[a.size-1]? = some z→∀ y∈b,kn y<kn z)
    {out:Array Keyed}{ia ib mg k k1:Nat} (hK:Kp st₀ st') (I:MInv a.toList b.toList out.toList ia ib) (hia:ia+1<a.size) (hib:ib<b.size) (hc:c≤ia+ib)
    (hx:∀ x,a[ia]? = some x→∀ y∈b.toList.drop ib,kn x≤kn y) :
    wpS (model prog w) A E s (do
      let x ← elem' a ia
      if (ia+1+1 == a.size)=true then pure (ForInStep.done (some (out.push x++b.extract ib b.size++a.extract (ia+1) a.size),out.push x,ia+1,ib,mg,k,k1))
      else if (decide (k<7) && decide (k1<7))=true then pure (ForInStep.done (none,out.push x,ia+1,ib,mg,k,k1)) else pure (ForInStep.yield (none,out.push x,ia+1,ib,mg,k,k1))) R st':=by
  obtain ⟨x,ex,kx⟩:=ra.at (i:=ia) (by omega)
  rw [Nat.zero_add] at ex
  refine wpS_bind (wpS_elem ex ?_)
  have I':=I.pushA ra.up (ls ex) (hx x ex)
  rw [← Array.toList_push] at I'
  by_cases hl:ia+1+1=a.size
  · rw [if_pos (by simpa using hl)]
    refine wpS_pure (G.res _ _ _ _ _ _ _ _ hK ?_)
    rw [Array.toList_append,Array.toList_append,ext_all,ext_all]
    exact I'.lastA ra.up rb.up (bel_last h2 hl)
  · rw [if_neg (by simpa using hl)]
    split
    · exact wpS_pure (G.brk _ _ _ _ _ _ _ hK I' (by omega) hib (by omega))
    · exact wpS_pure (G.go _ _ _ _ _ _ _ hK I' (by omega) hib (by omega))
theorem lo_mid {a b:Array Keyed}{st₀ st':SortSt}{c:Nat}{R:ForInStep C7→SortSt→Prop} (G:LoR a b st₀ c R) (ra:Run a 0 a.size) (rb:Run b 0 b.size) (h2:∀ z,a[a.size-1]? = some z→∀ y∈b,kn y<kn z)
    {out:Array Keyed}{ia ib mg k bc:Nat} (hK:Kp st₀ st') (I:MInv a.toList b.toList out.toList ia ib) (hia:ia+1<a.size) (hib:ib<b.size) (hc:c≤ia+ib)
    (hx:∀ x,b[ib]? = some x→∀ y∈a.toList.drop ia,kn x≤kn y) (F:Keyed→Option Nat→StateT SortSt Sem (ForInStep C7))
    (hF:∀ y k1,F y (some k1)=if k1 > 0 then if (ib+1+k1 == b.size)=true then pure (ForInStep.done (some (out.push y++b.extract (ib+1) (ib+1+k1)++a.extract ia a.size++b.extract (ib+1+k1) b.size),out.push y++b.extract (ib+1) (ib+1+k1),ia,ib+1+k1,mg,k,k1))
        else do
          let x ← elem' a ia
          if (ia+1+1 == a.size)=true then pure (ForInStep.done (some ((out.push y++b.extract (ib+1) (ib+1+k1)).push x++b.extract (ib+1+k1) b.size++a.extract (ia+1) a.size),(out.push y++b.extract (ib+1) (ib+1+k1)).push x,ia+1,ib+1+k1,mg,k,k1))
          else if (decide (k<7) && decide (k1<7))=true then pure (ForInStep.done (none,(out.push y++b.extract (ib+1) (ib+1+k1)).push x,ia+1,ib+1+k1,mg,k,k1)) else pure (ForInStep.yield (none,(out.push y++b.extract (ib+1) (ib+1+k1)).push x,ia+1,ib+1+k1,mg,k,k1))
      else do
          let x ← elem' a ia
          if (ia+1+1 == a.size)=true then pure (ForInStep.done (some ((out.push y).push x++b.extract (ib+1) b.size++a.extract (ia+1) a.size),(out.push y).push x,ia+1,ib+1,mg,k,k1))
          else if (decide (k<7) && decide (k1<7))=true then pure (ForInStep.done (none,(out.push y).push x,ia+1,ib+1,mg,k,k1)) else pure (ForInStep.yield (none,(out.push y).push x,ia+1,ib+1,mg,k,k1))) :
    wpS (model prog w) A E s (do
      let y ← elem' b ib
      if (ib+1 == b.size)=true then pure (ForInStep.done (some (out.push y++a.extract ia a.size++b.extract (ib+1) b.size),out.push y,ia,ib+1,mg,k,bc))
      else do
        let z ← elem' a ia
        let o ← gallop' true z b (ib+1) (b.size-(ib+1)) 0
        F y o) R st':=by
  obtain ⟨y,ey,ky⟩:=rb.at hib
  rw [Nat.zero_add] at ey
  refine wpS_bind (wpS_elem ey ?_)
  have I':=I.pushB rb.up (ls ey) (hx y ey)
  rw [← Array.toList_push] at I'
  by_cases hl:ib+1=b.size
  · rw [if_pos (by simpa using hl)]
    refine wpS_pure (G.res _ _ _ _ _ _ _ _ hK ?_)
    rw [Array.toList_append,Array.toList_append,ext_all,ext_all]
    refine I'.done ra.up rb.up ?_
    rw [List.drop_eq_nil_of_le (as:=b.toList) (by rw [Array.length_toList];omega)]
    intro _ _ _ z;simp at z
  · rw [if_neg (by simpa using hl)]
    obtain ⟨z,ez,kz⟩:=ra.at (i:=ia) (by omega)
    rw [Nat.zero_add] at ez
    refine wpS_bind (wpS_elem ez ?_)
    refine wpS_bind (wpS_gallop hK.sb kz (rb.suf (ib+1) (by omega)) (by omega) fun k1 hcut => ?_)
    rw [hF]
    obtain ⟨c1,c2,c3⟩:=hcut
    have hz:∀ x∈(b.toList.drop (ib+1)).take k1,kn x<kn z:=fun x hx=>by
      obtain ⟨j,hj,e⟩:=mem_cut hx
      exact c2 j x hj e
    have I2:=I'.pushBs rb.up k1 fun x hx v hv=>Int.le_trans (Int.le_of_lt (hz x hx)) (up_head ra.up (ls ez) v hv)
    have tl:∀ x,a[ia]? = some x→ib+1+k1<b.size→∀ v∈b.toList.drop (ib+1+k1),kn x≤kn v:=fun x ex hlt v hv=>by
      rw [ez] at ex
      obtain ⟨u,eu,ku⟩:=rb.at hlt
      rw [Nat.zero_add] at eu
      have h3 : ¬ kn u<kn z:=c3 k1 u (Nat.le_refl _) (by omega) eu
      have h4:=up_head rb.up (ls eu) v hv
      cases ex
      omega
    by_cases hk:k1 > 0
    · rw [if_pos hk]
      rw [← ext_cut,← Array.toList_append] at I2
      by_cases hl2:ib+1+k1=b.size
      · rw [if_pos (by simpa using hl2)]
        refine wpS_pure (G.res _ _ _ _ _ _ _ _ hK ?_)
        rw [Array.toList_append,Array.toList_append,ext_all,ext_all]
        refine I2.done ra.up rb.up ?_
        rw [List.drop_eq_nil_of_le (as:=b.toList) (by rw [Array.length_toList];omega)]
        intro _ _ _ z;simp at z
      · rw [if_neg (by simpa using hl2)]
        exact lo_tail G ra rb h2 hK I2 hia (by omega) (by omega) fun x ex=>tl x ex (by omega)
    · rw [if_neg hk]
      have hk0:k1=0:=by omega
      subst hk0
      exact lo_tail G ra rb h2 hK I' hia (by omega) (by omega) fun x ex=>tl x ex (by omega)
set_option maxHeartbeats 4000000 in
theorem wpS_mergeLo {a b:Array Keyed}{st:SortSt}{Q:Array Keyed→SortSt→Prop} (hB:SB st) (ra:Run a 0 a.size) (rb:Run b 0 b.size) (hb : 0<b.size) (ha : 0<a.size)
    (h1:∀ x y,b[0]? = some x→a[0]? = some y→kn x<kn y) (h2:∀ z,a[a.size-1]? = some z→∀ y∈b,kn y<kn z)
    (h:∀ res st',SB st'→arrOf st'=arrOf st→pendingOf st'=pendingOf st→Merged a.toList b.toList res.toList→Q res st') : wpS (model prog w) A E s (mergeLo' a b) Q st:=by
  rw [mergeLo'_eq]
  dsimp only
  refine wpS_bind (wpS_lift (wpAny_rule ⟨rfl,?_⟩))
  obtain ⟨b0,eb0,kb0⟩:=rb.at hb
  rw [Nat.zero_add] at eb0
  refine wpS_bind (wpS_elem eb0 ?_)
  have hA:=ra.up
  have hBu:=rb.up
  have hlB : 0<b.toList.length:=by rw [Array.length_toList];exact hb
  have I0:MInv a.toList b.toList (#[b0] : Array Keyed).toList 0 1:=by
    have e1:b.toList.take 1=[b0]:=by have:=take_one (ls eb0);rwa [List.drop_zero] at this
    refine ⟨by rw [List.take_zero,List.nil_append,e1],List.pairwise_singleton _ _,fun x hx y hy => ?_,fun x hx y hy => ?_⟩
    · obtain ⟨a0,ea0,_⟩:=ra.at ha
      rw [Nat.zero_add] at ea0
      have hx':x=b0:=by simpa using hx
      rw [hx']
      exact Int.le_trans (Int.le_of_lt (h1 b0 a0 eb0 ea0)) (up_head hA (ls ea0) y hy)
    · have hx':x=b0:=by simpa using hx
      rw [hx']
      refine up_head hBu (ls eb0) y ?_
      rw [List.drop_zero];exact List.mem_of_mem_drop hy
  have K0:Kp st st:=⟨hB,rfl,rfl⟩
  have dn:∀ {out:Array Keyed}{ia ib:Nat},MInv a.toList b.toList out.toList ia ib→ib=b.size→Merged a.toList b.toList (out++a.extract ia a.size++b.extract ib b.size).toList:=fun {out ia ib} I hl=>by
    rw [Array.toList_append,Array.toList_append,ext_all,ext_all]
    refine I.done hA hBu ?_
    rw [List.drop_eq_nil_of_le (as:=b.toList) (by rw [Array.length_toList];omega)]
    intro _ _ _ z;simp at z
  have la:∀ {out:Array Keyed}{ia ib:Nat},MInv a.toList b.toList out.toList ia ib→ia+1=a.size→Merged a.toList b.toList (out++b.extract ib b.size++a.extract ia a.size).toList:=fun {out ia ib} I hl=>by
    rw [Array.toList_append,Array.toList_append,ext_all,ext_all]
    exact I.lastA hA hBu (bel_last h2 hl)
  by_cases g1 : 1=b.size
  · rw [if_pos (by simpa using g1)]
    exact wpS_pure (h _ st hB rfl rfl (dn I0 g1))
  rw [if_neg (by simpa using g1)]
  by_cases g2 : 0+1=a.size
  · rw [if_pos (by simpa using g2)]
    exact wpS_pure (h _ st hB rfl rfl (la I0 g2))
  rw [if_neg (by simpa using g2)]
  refine wpS_bind (wpS_get ?_)
  refine wpS_bind (wpS_mono (wpS_forRange
    (I:=fun x c st' => ∃ out ia ib mg,c=(none,out,ia,ib,mg)∧Kp st st'∧MInv a.toList b.toList out.toList ia ib∧ia+1<a.size∧ib<b.size∧x+1≤ia+ib)
    (Q:=fun c st' => ∃ res out ia ib mg,c=(some res,out,ia,ib,mg)∧Kp st st'∧Merged a.toList b.toList res.toList) ?step ?fin ⟨#[b0],0,1,_,rfl,K0,I0,by omega,by omega,by omega⟩) ?post)
  case fin =>
    rintro c st' ⟨out,ia,ib,mg,rfl,_,_,h3,h4,h5⟩
    omega
  case post =>
    rintro c st' ⟨res,out,ia,ib,mg,rfl,hk,hm⟩
    exact wpS_pure (h res st' hk.sb hk.arr hk.pend hm)
  case step =>
    rintro x c st1 _ hxt ⟨out,ia,ib,mg,rfl,hk1,I1,h3,h4,h5⟩
    dsimp only
    refine wpS_bind (wpS_mono (wpS_forRange
      (I:=fun x1 c st' => ∃ out ia ib ac bc,c=(none,out,ia,ib,ac,bc)∧Kp st st'∧MInv a.toList b.toList out.toList ia ib∧ia+1<a.size∧ib<b.size∧x+1+x1≤ia+ib)
      (Q:=fun c st'=>(∃ res out ia ib ac bc,c=(some res,out,ia,ib,ac,bc)∧Kp st st'∧Merged a.toList b.toList res.toList) ∨
        ∃ out ia ib ac bc,c=(none,out,ia,ib,ac,bc)∧Kp st st'∧MInv a.toList b.toList out.toList ia ib∧ia+1<a.size∧ib<b.size∧x+2≤ia+ib) ?step1 ?fin1 ⟨out,ia,ib,0,0,rfl,hk1,I1,h3,h4,by omega⟩) ?post1)
    case fin1 =>
      rintro c st' ⟨out,ia,ib,ac,bc,rfl,h6,h7,h8,h9,h10⟩
      exact .inr ⟨out,ia,ib,ac,bc,rfl,h6,h7,h8,h9,by omega⟩
    case step1 =>
      rintro x1 c st2 _ hx1 ⟨out,ia,ib,ac,bc,rfl,hk2,I2,h8,h9,h10⟩
      dsimp only
      obtain ⟨y,ey,ky⟩:=rb.at h9
      obtain ⟨z,ez,kz⟩:=ra.at (i:=ia) (by omega)
      rw [Nat.zero_add] at ey ez
      refine wpS_bind (wpS_elem ey (wpS_bind (wpS_elem ez (wpS_bind (wpS_lt hk2.sb ky kz ?_)))))
      by_cases hw:kn y<kn z
      · simp only [hw,decide_true,if_true]
        refine wpS_bind (wpS_elem ey ?_)
        have I3:=I2.pushB hBu (ls ey) fun v hv=>Int.le_trans (Int.le_of_lt hw) (up_head hA (ls ez) v hv)
        rw [← Array.toList_push] at I3
        by_cases hl:ib+1=b.size
        · rw [if_pos (by simpa using hl)]
          exact wpS_pure (.inl ⟨_,_,_,_,_,_,rfl,hk2,dn I3 hl⟩)
        · rw [if_neg (by simpa using hl)]
          split
          · exact wpS_pure (.inr ⟨_,_,_,_,_,rfl,hk2,I3,h8,by omega,by omega⟩)
          · exact wpS_pure ⟨_,_,_,_,_,rfl,hk2,I3,h8,by omega,by omega⟩
      · simp only [hw,decide_false,Bool.false_eq_true,if_false]
        refine wpS_bind (wpS_elem ez ?_)
        have I3:=I2.pushA hA (ls ez) fun v hv=>Int.le_trans (Int.not_lt.mp hw) (up_head hBu (ls ey) v hv)
        rw [← Array.toList_push] at I3
        by_cases hl:ia+1+1=a.size
        · rw [if_pos (by simpa using hl)]
          exact wpS_pure (.inl ⟨_,_,_,_,_,_,rfl,hk2,la I3 hl⟩)
        · rw [if_neg (by simpa using hl)]
          split
          · exact wpS_pure (.inr ⟨_,_,_,_,_,rfl,hk2,I3,by omega,h9,by omega⟩)
          · exact wpS_pure ⟨_,_,_,_,_,rfl,hk2,I3,by omega,h9,by omega⟩
    case post1 =>
      rintro c st2 (⟨res,out,ia,ib,ac,bc,rfl,hk2,hm⟩ | ⟨out,ia,ib,ac,bc,rfl,hk2,I2,h8,h9,h10⟩)
      · exact wpS_pure ⟨_,_,_,_,_,rfl,hk2,hm⟩
      dsimp only
      refine wpS_bind (wpS_lift (wpAny_rule ⟨rfl,?_⟩))
      refine wpS_bind (wpS_mono (wpS_forRange
        (I:=fun x2 c st' => ∃ out ia ib mg ac bc,c=(none,out,ia,ib,mg,ac,bc)∧Kp st st'∧MInv a.toList b.toList out.toList ia ib∧ia+1<a.size∧ib<b.size∧x+2≤ia+ib)
        (Q:=fun c st'=>(∃ res out ia ib mg ac bc,c=(some res,out,ia,ib,mg,ac,bc)∧Kp st st'∧Merged a.toList b.toList res.toList) ∨
          ∃ out ia ib mg ac bc,c=(none,out,ia,ib,mg,ac,bc)∧Kp st st'∧MInv a.toList b.toList out.toList ia ib∧ia+1<a.size∧ib<b.size∧x+2≤ia+ib) ?step2 ?fin2 ⟨out,ia,ib,_,ac,bc,rfl,hk2,I2,h8,h9,by omega⟩) ?post2)
      case fin2 =>
        rintro c st' h'
        exact .inr h'
      case post2 =>
        rintro c st3 (⟨res,out,ia,ib,mg,ac,bc,rfl,hk3,hm⟩ | ⟨out,ia,ib,mg,ac,bc,rfl,hk3,I3,h11,h12,h13⟩)
        · exact wpS_pure ⟨_,_,_,_,_,rfl,hk3,hm⟩
        · exact wpS_bind (wpS_setG (wpS_pure ⟨_,_,_,_,rfl,hk3.setG _,I3,h11,h12,by omega⟩))
      case step2 =>
        rintro x2 c st3 _ hx2 ⟨out,ia,ib,mg,ac,bc,rfl,hk3,I3,h11,h12,h13⟩
        dsimp only
        obtain ⟨y,ey,ky⟩:=rb.at h12
        rw [Nat.zero_add] at ey
        have ylast:∀ z,a[a.size-1]? = some z→kn y<kn z:=fun z ez=>h2 z ez y (Array.mem_of_getElem? ey)
        by_cases hmg:mg > 1
        all_goals first | rw [if_pos hmg] | rw [if_neg hmg]
        all_goals
          refine wpS_bind (wpS_setG ?_)
          refine wpS_bind (wpS_elem ey ?_)
          refine wpS_bind (wpS_gallop (hk3.setG _).sb ky (ra.suf ia (by omega)) (by omega) fun k hcut => ?_)
          dsimp only
          obtain ⟨c1,c2,c3⟩:=hcut
          have hlt:ia+k<a.size:=by
            rcases Nat.lt_or_ge (ia+k) a.size with q | q
            · exact q
            · obtain ⟨z,ez,_⟩:=ra.at (i:=a.size-1) (by omega)
              rw [Nat.zero_add] at ez
              have q1:kn z≤kn y:=c2 (a.size-1-ia) z (by omega) (by rw [show ia+(a.size-1-ia)=a.size-1 by omega];exact ez)
              have:=ylast z ez
              omega
          have hy:∀ v∈a.toList.drop (ia+k),kn y≤kn v:=fun v hv=>by
            obtain ⟨u,eu,ku⟩:=ra.at hlt
            rw [Nat.zero_add] at eu
            have q1 : ¬ kn u≤kn y:=c3 k u (Nat.le_refl _) (by omega) eu
            have q2:=up_head hA (ls eu) v hv
            omega
          have I4:=I3.pushAs hA k fun u hu v hv=>by
            obtain ⟨j,hj,e⟩:=mem_cut hu
            have q1:kn u≤kn y:=c2 j u hj e
            exact Int.le_trans q1 (up_head hBu (ls ey) v hv)
          by_cases hk:k > 0
          · rw [if_pos hk]
            rw [← ext_cut,← Array.toList_append] at I4
            by_cases hl:ia+k+1=a.size
            · rw [if_pos (by simpa using hl)]
              exact wpS_pure (.inl ⟨_,_,_,_,_,_,_,rfl,hk3.setG _,la I4 hl⟩)
            · rw [if_neg (by simpa using hl),if_neg (by simp;omega)]
              refine lo_mid (c:=x+1) (st₀:=st) ⟨fun res out ia ib mg ac bc st' a1 a2 => .inl ⟨_,_,_,_,_,_,_,rfl,a1,a2⟩,fun out ia ib mg ac bc st' a1 a2 a3 a4 a5 => .inr ⟨_,_,_,_,_,_,rfl,a1,a2,a3,a4,by omega⟩,fun out ia ib mg ac bc st' a1 a2 a3 a4 a5=>⟨_,_,_,_,_,_,rfl,a1,a2,a3,a4,by omega⟩⟩ ra rb h2 (hk3.setG _) I4 (by omega) h12 (by omega) (fun u eu v hv=>by rw [ey] at eu;cases eu;exact hy v hv) _ (fun _ _=>rfl)
          · rw [if_neg hk]
            have hk0:k=0:=by omega
            subst hk0
            refine lo_mid (c:=x+1) (st₀:=st) ⟨fun res out ia ib mg ac bc st' a1 a2 => .inl ⟨_,_,_,_,_,_,_,rfl,a1,a2⟩,fun out ia ib mg ac bc st' a1 a2 a3 a4 a5 => .inr ⟨_,_,_,_,_,_,rfl,a1,a2,a3,a4,by omega⟩,fun out ia ib mg ac bc st' a1 a2 a3 a4 a5=>⟨_,_,_,_,_,_,rfl,a1,a2,a3,a4,by omega⟩⟩ ra rb h2 (hk3.setG _) I3 h11 h12 (by omega) (fun u eu v hv=>by rw [ey] at eu;cases eu;exact hy v hv) _ (fun _ _=>rfl)
end
end OS
namespace OS
open PySem PyProof.Rows
variable [KO]
structure NInv (A B o:List Keyed) (na nb:Nat) : Prop where
  perm:o.Perm (A.drop na++B.drop nb)
  srt:Up o
  lbA:Bel (A.take na) o
  lbB:Bel (B.take nb) o
theorem NInv.swap {A B o:List Keyed}{na nb:Nat} (h:NInv A B o na nb) : NInv B A o nb na:=⟨h.perm.trans List.perm_append_comm,h.srt,h.lbB,h.lbA⟩
theorem take_split (A:List Keyed) {i n:Nat} (h:i≤n) : A.take n=A.take i++(A.take n).drop i:=by
  have e:=List.take_append_drop i (A.take n)
  rw [List.take_take,Nat.min_eq_left h] at e
  exact e.symm
theorem NInv.pushAs {A B o:List Keyed}{na nb:Nat} (h:NInv A B o na nb) (sA:Up A) {i:Nat} (hi:i≤na) (hb:Bel (B.take nb) ((A.take na).drop i)) : NInv A B ((A.take na).drop i++o) i nb:=by
  have e:=take_split A hi
  have sd:Up (A.take na):=sA.sublist (List.take_sublist _ _)
  rw [e] at sd
  have sp:=List.pairwise_append.mp sd
  refine ⟨?_,List.pairwise_append.mpr ⟨sp.2.1,h.srt,fun x hx y hy=>h.lbA x (List.mem_of_mem_drop hx) y hy⟩,fun x hx y hy => ?_,fun x hx y hy => ?_⟩
  · have e2:A.drop i=(A.take na).drop i++A.drop na:=by
      have e3:A=A.take na++A.drop na:=(List.take_append_drop na A).symm
      by_cases hl:na≤A.length
      · have:i≤(A.take na).length:=by rw [List.length_take];omega
        conv=>lhs;rw [e3]
        rw [List.drop_append_of_le_length this]
      · rw [List.take_of_length_le (by omega),List.drop_eq_nil_of_le (as:=A) (i:=na) (by omega),List.append_nil]
    rw [e2,List.append_assoc]
    exact h.perm.append_left _
  · rcases List.mem_append.mp hy with hy | hy
    · exact sp.2.2 x hx y hy
    · exact h.lbA x (by rw [e];exact List.mem_append_left _ hx) y hy
  · rcases List.mem_append.mp hy with hy | hy
    · exact hb x hx y hy
    · exact h.lbB x hx y hy
theorem NInv.pushBs {A B o:List Keyed}{na nb:Nat} (h:NInv A B o na nb) (sB:Up B) {i:Nat} (hi:i≤nb) (hb:Bel (A.take na) ((B.take nb).drop i)) : NInv A B ((B.take nb).drop i++o) na i :=
  (h.swap.pushAs sB hi hb).swap
theorem cut_last {A:List Keyed}{n:Nat}{x:Keyed} (e:A[n]? = some x) : (A.take (n+1)).drop n=[x]:=by
  rw [List.take_add_one,e]
  have hn:=(List.getElem?_eq_some_iff.mp e).1
  rw [List.drop_append_of_le_length (by rw [List.length_take];omega),List.drop_eq_nil_of_le (by rw [List.length_take];omega)]
  rfl
theorem NInv.pushA {A B o:List Keyed}{na nb:Nat}{x:Keyed} (h:NInv A B o (na+1) nb) (sA:Up A) (e:A[na]? = some x) (hb:∀ y∈B.take nb,kn y≤kn x) : NInv A B (x :: o) na nb:=by
  have:=h.pushAs sA (i:=na) (by omega) (by rw [cut_last e];intro y hy z hz;rw [List.mem_singleton.mp hz];exact hb y hy)
  rwa [cut_last e] at this
theorem NInv.pushB {A B o:List Keyed}{na nb:Nat}{x:Keyed} (h:NInv A B o na (nb+1)) (sB:Up B) (e:B[nb]? = some x) (hb:∀ y∈A.take na,kn y≤kn x) : NInv A B (x :: o) na nb :=
  (h.swap.pushA sB e hb).swap
theorem NInv.done {A B o:List Keyed}{na nb:Nat} (h:NInv A B o na nb) (sA:Up A) (sB:Up B) (hb:Bel (A.take na) (B.take nb)) : Merged A B (A.take na++B.take nb++o):=by
  refine ⟨?_,?_⟩
  · refine (h.perm.append_left _).trans ?_
    have h2:(A.take na++B.take nb++(A.drop na++B.drop nb)).Perm (A.take na++(A.drop na++(B.take nb++B.drop nb))):=by
      rw [List.append_assoc]
      refine List.Perm.append_left _ ?_
      rw [← List.append_assoc,← List.append_assoc]
      exact List.perm_append_comm.append_right _
    refine h2.trans ?_
    rw [List.take_append_drop,← List.append_assoc,List.take_append_drop]
  · refine List.pairwise_append.mpr ⟨List.pairwise_append.mpr ⟨sA.sublist (List.take_sublist _ _),sB.sublist (List.take_sublist _ _),hb⟩,h.srt,fun x hx y hy => ?_⟩
    rcases List.mem_append.mp hx with hx | hx
    · exact h.lbA x hx y hy
    · exact h.lbB x hx y hy
theorem NInv.firstB {A B o:List Keyed}{na nb:Nat} (h:NInv A B o na nb) (sA:Up A) (sB:Up B) (hb:Bel (B.take nb) (A.take na)) : Merged A B (B.take nb++A.take na++o):=(h.swap.done sB sA hb).swap
theorem up_lastT {A:List Keyed}{n:Nat}{x:Keyed} (sA:Up A) (e:A[n]? = some x) : ∀ y∈A.take (n+1),kn y≤kn x:=by
  intro y hy
  have hn:=List.getElem?_eq_some_iff.mp e
  obtain ⟨j,hj,ey⟩:=List.getElem_of_mem hy
  rw [List.length_take] at hj
  have ey':A[j]'(by omega)=y:=by rw [← ey];simp
  by_cases h:j=n
  · subst h;rw [← ey',hn.2];exact Int.le_refl _
  · have:=List.pairwise_iff_getElem.mp sA j n (by omega) hn.1 (by omega)
    rw [ey',hn.2] at this;exact this
theorem ext_pre (a:Array Keyed) (n:Nat) : (a.extract 0 n).toList=a.toList.take n:=by
  rw [Array.toList_extract,List.extract_eq_take_drop,List.drop_zero,Nat.sub_zero]
theorem ext_mid (a:Array Keyed) {i n:Nat} : (a.extract i n).toList=(a.toList.take n).drop i:=by
  rw [Array.toList_extract,List.extract_eq_take_drop,List.drop_take]
theorem mem_mid {a:Array Keyed}{i n:Nat}{x:Keyed} (h:x∈(a.toList.take n).drop i) : ∃ j,i≤j∧j<n∧a[j]? = some x:=by
  obtain ⟨j,hj,e⟩:=List.getElem_of_mem h
  rw [List.length_drop,List.length_take] at hj
  refine ⟨i+j,by omega,by omega,?_⟩
  have e2:((a.toList.take n).drop i)[j]? = some x:=by rw [List.getElem?_eq_getElem (by rw [List.length_drop,List.length_take];exact hj),e]
  rw [List.getElem?_drop,List.getElem?_take_of_lt (by omega)] at e2
  simpa using e2
section
variable {prog:Program}{w:World}{A:Around}{E:Value→Shared→Prop}{s:Shared} [KL prog w A s]
def mergeHi':Array Keyed→Array Keyed→StateT SortSt Sem (Array Keyed):=sortPriv% PySem.Builtin.mergeHi
set_option maxHeartbeats 4000000 in
theorem mergeHi'_eq (a b:Array Keyed) : mergeHi' a b=(do
  rule "list.sort.merge-hi";let total:=a.size+b.size
  let done (out:Array Keyed) (na nb:Nat):=a.extract 0 na++b.extract 0 nb++out.reverse;let firstOfB (out:Array Keyed) (na nb:Nat):=b.extract 0 nb++a.extract 0 na++out.reverse
  let mut na:=a.size-1;let mut nb:=b.size;let mut out:Array Keyed := #[← elem' a na]
  if na == 0 then return done out na nb
  if nb == 1 then return firstOfB out na nb
  let mut minGallop:=gallopOf (← get)
  for _ in [0:total] do
    let mut acount:=0;let mut bcount:=0
    for _ in [0:total] do
      let some aWins ← lt' (← elem' b (nb-1)) (← elem' a (na-1)) | return done out na nb
      if aWins=true then
        na:=na-1;out:=out.push (← elem' a na);acount:=acount+1;bcount:=0
        if na == 0 then return done out na nb
        if acount ≥ minGallop then break
      else
        nb:=nb-1;out:=out.push (← elem' b nb);bcount:=bcount+1;acount:=0
        if nb == 1 then return firstOfB out na nb
        if bcount ≥ minGallop then break
    rule "list.sort.gallop";minGallop:=minGallop+1
    for _ in [0:total] do
      if minGallop > 1 then minGallop:=minGallop-1
      setG minGallop
      let some at_ ← gallop' false (← elem' b (nb-1)) a 0 na (na-1) | return done out na nb
      let k:=na-at_
      acount:=k
      if k > 0 then
        out:=out++(a.extract at_ na).reverse;na:=at_
        if na == 0 then return done out na nb
      nb:=nb-1;out:=out.push (← elem' b nb)
      if nb == 1 then return firstOfB out na nb
      let some at_ ← gallop' true (← elem' a (na-1)) b 0 nb (nb-1) | return done out na nb
      let k:=nb-at_
      bcount:=k
      if k > 0 then
        out:=out++(b.extract at_ nb).reverse;nb:=at_
        if nb == 1 then return firstOfB out na nb
        if nb == 0 then return done out na nb
      na:=na-1;out:=out.push (← elem' a na)
      if na == 0 then return done out na nb
      if acount<7 && bcount<7 then break
    minGallop:=minGallop+1;setG minGallop
  unsupported "internal:list.sort.merge-bound"):=rfl
abbrev D7:=Option (Array Keyed) × Nat × Nat × Array Keyed × Nat × Nat × Nat
structure HiR (a b:Array Keyed) (st₀:SortSt) (c:Nat) (R:ForInStep D7→SortSt→Prop) : Prop where
  res:∀ res out na nb mg ac bc st',Kp st₀ st'→Merged a.toList b.toList res.toList→R (.done (some res,na,nb,out,mg,ac,bc)) st'
  brk:∀ out na nb mg ac bc st',Kp st₀ st'→NInv a.toList b.toList out.toList.reverse na nb→1≤na→na≤a.size→2≤nb→nb≤b.size→c<a.size-na+(b.size-nb)→R (.done (none,na,nb,out,mg,ac,bc)) st'
  go:∀ out na nb mg ac bc st',Kp st₀ st'→NInv a.toList b.toList out.toList.reverse na nb→1≤na→na≤a.size→2≤nb→nb≤b.size→c<a.size-na+(b.size-nb)→R (.yield (none,na,nb,out,mg,ac,bc)) st'
theorem hi_res0 {a b out:Array Keyed}{na nb:Nat} (ra:Run a 0 a.size) (rb:Run b 0 b.size) (I:NInv a.toList b.toList out.toList.reverse na nb) (hl:na=0) : Merged a.toList b.toList (a.extract 0 na++b.extract 0 nb++out.reverse).toList:=by
  rw [Array.toList_append,Array.toList_append,ext_pre,ext_pre,Array.toList_reverse]
  refine I.done ra.up rb.up ?_
  rw [hl]
  intro x hx;simp at hx
theorem hi_res1 {a b out:Array Keyed}{na nb:Nat} (ra:Run a 0 a.size) (rb:Run b 0 b.size) (h1:∀ x y,b[0]? = some x→a[0]? = some y→kn x<kn y) (I:NInv a.toList b.toList out.toList.reverse na nb) (hl:nb=1) : Merged a.toList b.toList (b.extract 0 nb++a.extract 0 na++out.reverse).toList:=by
  rw [Array.toList_append,Array.toList_append,ext_pre,ext_pre,Array.toList_reverse]
  refine I.firstB ra.up rb.up fun x hx y hy => ?_
  rw [hl] at hx
  obtain ⟨j,_,hj,ex⟩:=mem_mid (i:=0) (by rw [List.drop_zero];exact hx)
  have hj0:j=0:=by omega
  subst hj0
  obtain ⟨i,_,hi,ey⟩:=mem_mid (i:=0) (by rw [List.drop_zero];exact hy)
  have hi':i<a.size:=by
    rcases Nat.lt_or_ge i a.size with q | q
    · exact q
    · rw [Array.getElem?_eq_none q] at ey;cases ey
  obtain ⟨a0,ea0,_⟩:=ra.at (i:=0) (by omega)
  have q1:=ra.rise 0 i a0 y (by omega) hi' ea0 (by rw [Nat.zero_add];exact ey)
  rw [Nat.zero_add] at ea0
  have q2:=h1 x a0 ex ea0
  omega
theorem hi_tail {a b:Array Keyed}{st₀ st':SortSt}{c:Nat}{R:ForInStep D7→SortSt→Prop} (G:HiR a b st₀ c R) (ra:Run a 0 a.size) (rb:Run b 0 b.size)
    {out:Array Keyed}{na nb mg k k1:Nat} (hK:Kp st₀ st') (I:NInv a.toList b.toList out.toList.reverse na nb) (hna : 1≤na) (hna2:na≤a.size) (hnb : 2≤nb) (hnb2:nb≤b.size) (hc:c≤a.size-na+(b.size-nb))
    (hx:∀ x,a[na-1]? = some x→∀ y∈b.toList.take nb,kn y≤kn x) :
    wpS (model prog w) A E s (do
      let x ← elem' a (na-1)
      if (na-1 == 0)=true then pure (ForInStep.done (some (a.extract 0 (na-1)++b.extract 0 nb++(out.push x).reverse),na-1,nb,out.push x,mg,k,k1))
      else if (decide (k<7) && decide (k1<7))=true then pure (ForInStep.done (none,na-1,nb,out.push x,mg,k,k1)) else pure (ForInStep.yield (none,na-1,nb,out.push x,mg,k,k1))) R st':=by
  obtain ⟨x,ex,kx⟩:=ra.at (i:=na-1) (by omega)
  rw [Nat.zero_add] at ex
  refine wpS_bind (wpS_elem ex ?_)
  have I':NInv a.toList b.toList (out.push x).toList.reverse (na-1) nb:=by
    have e:(out.push x).toList.reverse=x :: out.toList.reverse:=by simp
    rw [e]
    refine NInv.pushA (na:=na-1) ?_ ra.up (ls ex) (hx x ex)
    rw [show na-1+1=na by omega];exact I
  by_cases hl:na-1=0
  · rw [if_pos (by simpa using hl)]
    exact wpS_pure (G.res _ _ _ _ _ _ _ _ hK (hi_res0 ra rb I' hl))
  · rw [if_neg (by simpa using hl)]
    split
    · exact wpS_pure (G.brk _ _ _ _ _ _ _ hK I' (by omega) (by omega) hnb hnb2 (by omega))
    · exact wpS_pure (G.go _ _ _ _ _ _ _ hK I' (by omega) (by omega) hnb hnb2 (by omega))
theorem hi_mid {a b:Array Keyed}{st₀ st':SortSt}{c:Nat}{R:ForInStep D7→SortSt→Prop} (G:HiR a b st₀ c R) (ra:Run a 0 a.size) (rb:Run b 0 b.size) (h1:∀ x y,b[0]? = some x→a[0]? = some y→kn x<kn y)
    {out:Array Keyed}{na nb mg k bc:Nat} (hK:Kp st₀ st') (I:NInv a.toList b.toList out.toList.reverse na nb) (hna : 1≤na) (hna2:na≤a.size) (hnb : 2≤nb) (hnb2:nb≤b.size) (hc:c≤a.size-na+(b.size-nb))
    (hx:∀ x,b[nb-1]? = some x→∀ y∈a.toList.take na,kn y≤kn x) (F:Keyed→Option Nat→StateT SortSt Sem (ForInStep D7))
    (hF:∀ y t,F y (some t)=if nb-1-t > 0 then
        if (t == 1)=true then pure (ForInStep.done (some (b.extract 0 t++a.extract 0 na++(out.push y++(b.extract t (nb-1)).reverse).reverse),na,t,out.push y++(b.extract t (nb-1)).reverse,mg,k,nb-1-t))
        else if (t == 0)=true then pure (ForInStep.done (some (a.extract 0 na++b.extract 0 t++(out.push y++(b.extract t (nb-1)).reverse).reverse),na,t,out.push y++(b.extract t (nb-1)).reverse,mg,k,nb-1-t))
        else do
          let x ← elem' a (na-1)
          if (na-1 == 0)=true then pure (ForInStep.done (some (a.extract 0 (na-1)++b.extract 0 t++((out.push y++(b.extract t (nb-1)).reverse).push x).reverse),na-1,t,(out.push y++(b.extract t (nb-1)).reverse).push x,mg,k,nb-1-t))
          else if (decide (k<7) && decide (nb-1-t<7))=true then pure (ForInStep.done (none,na-1,t,(out.push y++(b.extract t (nb-1)).reverse).push x,mg,k,nb-1-t)) else pure (ForInStep.yield (none,na-1,t,(out.push y++(b.extract t (nb-1)).reverse).push x,mg,k,nb-1-t))
      else do
          let x ← elem' a (na-1)
          if (na-1 == 0)=true then pure (ForInStep.done (some (a.extract 0 (na-1)++b.extract 0 (nb-1)++((out.push y).push x).reverse),na-1,nb-1,(out.push y).push x,mg,k,nb-1-t))
          else if (decide (k<7) && decide (nb-1-t<7))=true then pure (ForInStep.done (none,na-1,nb-1,(out.push y).push x,mg,k,nb-1-t)) else pure (ForInStep.yield (none,na-1,nb-1,(out.push y).push x,mg,k,nb-1-t))) :
    wpS (model prog w) A E s (do
      let y ← elem' b (nb-1)
      if (nb-1 == 1)=true then pure (ForInStep.done (some (b.extract 0 (nb-1)++a.extract 0 na++(out.push y).reverse),na,nb-1,out.push y,mg,k,bc))
      else do
        let z ← elem' a (na-1)
        let o ← gallop' true z b 0 (nb-1) (nb-1-1)
        F y o) R st':=by
  obtain ⟨y,ey,ky⟩:=rb.at (i:=nb-1) (by omega)
  rw [Nat.zero_add] at ey
  refine wpS_bind (wpS_elem ey ?_)
  have I':NInv a.toList b.toList (out.push y).toList.reverse na (nb-1):=by
    have e:(out.push y).toList.reverse=y :: out.toList.reverse:=by simp
    rw [e]
    refine NInv.pushB (nb:=nb-1) ?_ rb.up (ls ey) (hx y ey)
    rw [show nb-1+1=nb by omega];exact I
  by_cases hl:nb-1=1
  · rw [if_pos (by simpa using hl)]
    exact wpS_pure (G.res _ _ _ _ _ _ _ _ hK (hi_res1 ra rb h1 I' hl))
  · rw [if_neg (by simpa using hl)]
    obtain ⟨z,ez,kz⟩:=ra.at (i:=na-1) (by omega)
    rw [Nat.zero_add] at ez
    refine wpS_bind (wpS_elem ez ?_)
    refine wpS_bind (wpS_gallop hK.sb kz (rb.pre (nb-1) (by omega)) (by omega) fun t hcut => ?_)
    rw [hF]
    obtain ⟨c1,c2,c3⟩:=hcut
    have ht1 : 1≤t:=by
      rcases Nat.lt_or_ge 0 t with q | q
      · exact q
      · obtain ⟨b0,eb0,_⟩:=rb.at (i:=0) (by omega)
        obtain ⟨a0,ea0,_⟩:=ra.at (i:=0) (by omega)
        have q1 : ¬ kn b0<kn z:=c3 0 b0 (by omega) (by omega) eb0
        have q2:=ra.rise 0 (na-1) a0 z (by omega) (by omega) ea0 (by rw [Nat.zero_add];exact ez)
        rw [Nat.zero_add] at eb0 ea0
        have q3:=h1 b0 a0 eb0 ea0
        omega
    have tz:∀ x,a[na-1]? = some x→∀ v∈b.toList.take t,kn v≤kn x:=fun x exx v hv=>by
      rw [ez] at exx
      obtain ⟨j,_,hj,ev⟩:=mem_mid (i:=0) (by rw [List.drop_zero];exact hv)
      have q1:kn v<kn z:=c2 j v hj (by rw [Nat.zero_add];exact ev)
      cases exx
      omega
    have I2:=I'.pushBs rb.up (i:=t) (by omega) fun x hx v hv=>by
      obtain ⟨j,hj1,hj2,ev⟩:=mem_mid hv
      have q1 : ¬ kn v<kn z:=c3 j v hj1 (by omega) (by rw [Nat.zero_add];exact ev)
      have q2:=up_lastT ra.up (ls ez) x (by rw [show na-1+1=na by omega];exact hx)
      omega
    by_cases hk:nb-1-t > 0
    · rw [if_pos hk]
      have e:(out.push y++(b.extract t (nb-1)).reverse).toList.reverse=(b.toList.take (nb-1)).drop t++(out.push y).toList.reverse:=by
        rw [Array.toList_append,List.reverse_append,Array.toList_reverse,List.reverse_reverse,ext_mid]
      rw [← e] at I2
      by_cases hl2:t=1
      · rw [if_pos (by simpa using hl2)]
        exact wpS_pure (G.res _ _ _ _ _ _ _ _ hK (hi_res1 ra rb h1 I2 hl2))
      · rw [if_neg (by simpa using hl2),if_neg (by simp;omega)]
        exact hi_tail G ra rb hK I2 hna hna2 (by omega) (by omega) (by omega) tz
    · rw [if_neg hk]
      have ht:t=nb-1:=by omega
      rw [ht] at tz ⊢
      exact hi_tail G ra rb hK I' hna hna2 (by omega) (by omega) (by omega) tz
set_option maxHeartbeats 4000000 in
theorem wpS_mergeHi {a b:Array Keyed}{st:SortSt}{Q:Array Keyed→SortSt→Prop} (hB:SB st) (ra:Run a 0 a.size) (rb:Run b 0 b.size) (hb : 0<b.size) (ha : 0<a.size)
    (h1:∀ x y,b[0]? = some x→a[0]? = some y→kn x<kn y) (h2:∀ z,a[a.size-1]? = some z→∀ y∈b,kn y<kn z)
    (h:∀ res st',SB st'→arrOf st'=arrOf st→pendingOf st'=pendingOf st→Merged a.toList b.toList res.toList→Q res st') : wpS (model prog w) A E s (mergeHi' a b) Q st:=by
  rw [mergeHi'_eq]
  dsimp only
  refine wpS_bind (wpS_lift (wpAny_rule ⟨rfl,?_⟩))
  obtain ⟨z,ez,kz⟩:=ra.at (i:=a.size-1) (by omega)
  rw [Nat.zero_add] at ez
  refine wpS_bind (wpS_elem ez ?_)
  have hA:=ra.up
  have hBu:=rb.up
  have I0:NInv a.toList b.toList (#[z] : Array Keyed).toList.reverse (a.size-1) b.size:=by
    have e1:a.toList.drop (a.size-1)=[z]:=by
      have:=take_one (ls ez)
      rwa [List.take_of_length_le (by rw [List.length_drop,Array.length_toList];omega)] at this
    have e2:b.toList.drop b.size=[]:=List.drop_eq_nil_of_le (by rw [Array.length_toList];omega)
    refine ⟨by rw [e1,e2];exact List.Perm.refl _,List.pairwise_singleton _ _,fun x hx y hy => ?_,fun x hx y hy => ?_⟩
    · have hy':y=z:=by simpa using hy
      rw [hy']
      refine up_lastT hA (ls ez) x ?_
      rw [show a.size-1+1=a.size by omega,List.take_of_length_le (by rw [Array.length_toList];omega)]
      exact List.mem_of_mem_take hx
    · have hy':y=z:=by simpa using hy
      rw [hy']
      exact Int.le_of_lt (h2 z ez x (by simpa using List.mem_of_mem_take hx))
  have K0:Kp st st:=⟨hB,rfl,rfl⟩
  by_cases g1:a.size-1=0
  · rw [if_pos (by simpa using g1)]
    exact wpS_pure (h _ st hB rfl rfl (hi_res0 ra rb I0 g1))
  rw [if_neg (by simpa using g1)]
  by_cases g2:b.size=1
  · rw [if_pos (by simpa using g2)]
    exact wpS_pure (h _ st hB rfl rfl (hi_res1 ra rb h1 I0 g2))
  rw [if_neg (by simpa using g2)]
  refine wpS_bind (wpS_get ?_)
  refine wpS_bind (wpS_mono (wpS_forRange
    (I:=fun x c st' => ∃ na nb out mg,c=(none,na,nb,out,mg)∧Kp st st'∧NInv a.toList b.toList out.toList.reverse na nb∧1≤na∧na≤a.size∧2≤nb∧nb≤b.size∧x+1≤a.size-na+(b.size-nb))
    (Q:=fun c st' => ∃ res na nb out mg,c=(some res,na,nb,out,mg)∧Kp st st'∧Merged a.toList b.toList res.toList) ?step ?fin ⟨a.size-1,b.size,#[z],_,rfl,K0,I0,by omega,by omega,by omega,by omega,by omega⟩) ?post)
  case fin =>
    rintro c st' ⟨na,nb,out,mg,rfl,_,_,h3,h4,h5,h6,h7⟩
    omega
  case post =>
    rintro c st' ⟨res,na,nb,out,mg,rfl,hk,hm⟩
    exact wpS_pure (h res st' hk.sb hk.arr hk.pend hm)
  case step =>
    rintro x c st1 _ hxt ⟨na,nb,out,mg,rfl,hk1,I1,h3,h4,h5,h6,h7⟩
    dsimp only
    refine wpS_bind (wpS_mono (wpS_forRange
      (I:=fun x1 c st' => ∃ na nb out ac bc,c=(none,na,nb,out,ac,bc)∧Kp st st'∧NInv a.toList b.toList out.toList.reverse na nb∧1≤na∧na≤a.size∧2≤nb∧nb≤b.size∧x+1+x1≤a.size-na+(b.size-nb))
      (Q:=fun c st'=>(∃ res na nb out ac bc,c=(some res,na,nb,out,ac,bc)∧Kp st st'∧Merged a.toList b.toList res.toList) ∨
        ∃ na nb out ac bc,c=(none,na,nb,out,ac,bc)∧Kp st st'∧NInv a.toList b.toList out.toList.reverse na nb∧1≤na∧na≤a.size∧2≤nb∧nb≤b.size∧x+2≤a.size-na+(b.size-nb)) ?step1 ?fin1 ⟨na,nb,out,0,0,rfl,hk1,I1,h3,h4,h5,h6,by omega⟩) ?post1)
    case fin1 =>
      rintro c st' ⟨na,nb,out,ac,bc,rfl,g3,g4,g5,g6,g7,g8,g9⟩
      exact .inr ⟨na,nb,out,ac,bc,rfl,g3,g4,g5,g6,g7,g8,by omega⟩
    case step1 =>
      rintro x1 c st2 _ hx1 ⟨na,nb,out,ac,bc,rfl,hk2,I2,g5,g6,g7,g8,g9⟩
      dsimp only
      obtain ⟨y,ey,ky⟩:=rb.at (i:=nb-1) (by omega)
      obtain ⟨v,ev,kv⟩:=ra.at (i:=na-1) (by omega)
      rw [Nat.zero_add] at ey ev
      refine wpS_bind (wpS_elem ey (wpS_bind (wpS_elem ev (wpS_bind (wpS_lt hk2.sb ky kv ?_)))))
      have uy:=up_lastT hBu (ls ey)
      have uv:=up_lastT hA (ls ev)
      rw [show nb-1+1=nb by omega] at uy
      rw [show na-1+1=na by omega] at uv
      by_cases hw:kn y<kn v
      · simp only [hw,decide_true,if_true]
        refine wpS_bind (wpS_elem ev ?_)
        have I3:NInv a.toList b.toList (out.push v).toList.reverse (na-1) nb:=by
          have e:(out.push v).toList.reverse=v :: out.toList.reverse:=by simp
          rw [e]
          refine NInv.pushA (na:=na-1) ?_ hA (ls ev) fun u hu=>by have:=uy u hu;omega
          rw [show na-1+1=na by omega];exact I2
        by_cases hl:na-1=0
        · rw [if_pos (by simpa using hl)]
          exact wpS_pure (.inl ⟨_,_,_,_,_,_,rfl,hk2,hi_res0 ra rb I3 hl⟩)
        · rw [if_neg (by simpa using hl)]
          split
          · exact wpS_pure (.inr ⟨_,_,_,_,_,rfl,hk2,I3,by omega,by omega,g7,g8,by omega⟩)
          · exact wpS_pure ⟨_,_,_,_,_,rfl,hk2,I3,by omega,by omega,g7,g8,by omega⟩
      · simp only [hw,decide_false,Bool.false_eq_true,if_false]
        refine wpS_bind (wpS_elem ey ?_)
        have I3:NInv a.toList b.toList (out.push y).toList.reverse na (nb-1):=by
          have e:(out.push y).toList.reverse=y :: out.toList.reverse:=by simp
          rw [e]
          refine NInv.pushB (nb:=nb-1) ?_ hBu (ls ey) fun u hu=>by have:=uv u hu;omega
          rw [show nb-1+1=nb by omega];exact I2
        by_cases hl:nb-1=1
        · rw [if_pos (by simpa using hl)]
          exact wpS_pure (.inl ⟨_,_,_,_,_,_,rfl,hk2,hi_res1 ra rb h1 I3 hl⟩)
        · rw [if_neg (by simpa using hl)]
          split
          · exact wpS_pure (.inr ⟨_,_,_,_,_,rfl,hk2,I3,by omega,by omega,by omega,by omega,by omega⟩)
          · exact wpS_pure ⟨_,_,_,_,_,rfl,hk2,I3,by omega,by omega,by omega,by omega,by omega⟩
    case post1 =>
      rintro c st2 (⟨res,na,nb,out,ac,bc,rfl,hk2,hm⟩ | ⟨na,nb,out,ac,bc,rfl,hk2,I2,g5,g6,g7,g8,g9⟩)
      · exact wpS_pure ⟨_,_,_,_,_,rfl,hk2,hm⟩
      dsimp only
      refine wpS_bind (wpS_lift (wpAny_rule ⟨rfl,?_⟩))
      refine wpS_bind (wpS_mono (wpS_forRange
        (I:=fun x2 c st' => ∃ na nb out mg ac bc,c=(none,na,nb,out,mg,ac,bc)∧Kp st st'∧NInv a.toList b.toList out.toList.reverse na nb∧1≤na∧na≤a.size∧2≤nb∧nb≤b.size∧x+2≤a.size-na+(b.size-nb))
        (Q:=fun c st'=>(∃ res na nb out mg ac bc,c=(some res,na,nb,out,mg,ac,bc)∧Kp st st'∧Merged a.toList b.toList res.toList) ∨
          ∃ na nb out mg ac bc,c=(none,na,nb,out,mg,ac,bc)∧Kp st st'∧NInv a.toList b.toList out.toList.reverse na nb∧1≤na∧na≤a.size∧2≤nb∧nb≤b.size∧x+2≤a.size-na+(b.size-nb)) ?step2 ?fin2 ⟨na,nb,out,_,ac,bc,rfl,hk2,I2,g5,g6,g7,g8,by omega⟩) ?post2)
      case fin2 =>
        rintro c st' h'
        exact .inr h'
      case post2 =>
        rintro c st3 (⟨res,na,nb,out,mg,ac,bc,rfl,hk3,hm⟩ | ⟨na,nb,out,mg,ac,bc,rfl,hk3,I3,p5,p6,p7,p8,p9⟩)
        · exact wpS_pure ⟨_,_,_,_,_,rfl,hk3,hm⟩
        · exact wpS_bind (wpS_setG (wpS_pure ⟨_,_,_,_,rfl,hk3.setG _,I3,p5,p6,p7,p8,by omega⟩))
      case step2 =>
        rintro x2 c st3 _ hx2 ⟨na,nb,out,mg,ac,bc,rfl,hk3,I3,p5,p6,p7,p8,p9⟩
        dsimp only
        obtain ⟨y,ey,ky⟩:=rb.at (i:=nb-1) (by omega)
        rw [Nat.zero_add] at ey
        have uy:=up_lastT hBu (ls ey)
        rw [show nb-1+1=nb by omega] at uy
        by_cases hmg:mg > 1
        all_goals first | rw [if_pos hmg] | rw [if_neg hmg]
        all_goals
          refine wpS_bind (wpS_setG ?_)
          refine wpS_bind (wpS_elem ey ?_)
          refine wpS_bind (wpS_gallop (hk3.setG _).sb ky (ra.pre na p6) (by omega) fun t hcut => ?_)
          dsimp only
          obtain ⟨c1,c2,c3⟩:=hcut
          have ty:∀ u,b[nb-1]? = some u→∀ v∈a.toList.take t,kn v≤kn u:=fun u eu v hv=>by
            rw [ey] at eu
            obtain ⟨j,_,hj,ev⟩:=mem_mid (i:=0) (by rw [List.drop_zero];exact hv)
            have q1:kn v≤kn y:=c2 j v hj (by rw [Nat.zero_add];exact ev)
            cases eu
            exact q1
          have I4:=I3.pushAs hA (i:=t) c1 fun u hu v hv=>by
            obtain ⟨j,hj1,hj2,ev⟩:=mem_mid hv
            have q1 : ¬ kn v≤kn y:=c3 j v hj1 hj2 (by rw [Nat.zero_add];exact ev)
            have q2:=uy u hu
            omega
          by_cases hk:na-t > 0
          · rw [if_pos hk]
            have e:(out++(a.extract t na).reverse).toList.reverse=(a.toList.take na).drop t++out.toList.reverse:=by
              rw [Array.toList_append,List.reverse_append,Array.toList_reverse,List.reverse_reverse,ext_mid]
            rw [← e] at I4
            by_cases hl:t=0
            · rw [if_pos (by simpa using hl)]
              exact wpS_pure (.inl ⟨_,_,_,_,_,_,_,rfl,hk3.setG _,hi_res0 ra rb I4 hl⟩)
            · rw [if_neg (by simpa using hl)]
              refine hi_mid (c:=x+1) (st₀:=st) ⟨fun res out na nb mg ac bc st' a1 a2 => .inl ⟨_,_,_,_,_,_,_,rfl,a1,a2⟩,fun out na nb mg ac bc st' a1 a2 a3 a4 a5 a6 a7 => .inr ⟨_,_,_,_,_,_,rfl,a1,a2,a3,a4,a5,a6,by omega⟩,fun out na nb mg ac bc st' a1 a2 a3 a4 a5 a6 a7=>⟨_,_,_,_,_,_,rfl,a1,a2,a3,a4,a5,a6,by omega⟩⟩ ra rb h1 (hk3.setG _) I4 (by omega) (by omega) p7 p8 (by omega) ty _ (fun _ _=>rfl)
          · rw [if_neg hk]
            have ht:t=na:=by omega
            rw [ht] at ty
            refine hi_mid (c:=x+1) (st₀:=st) ⟨fun res out na nb mg ac bc st' a1 a2 => .inl ⟨_,_,_,_,_,_,_,rfl,a1,a2⟩,fun out na nb mg ac bc st' a1 a2 a3 a4 a5 a6 a7 => .inr ⟨_,_,_,_,_,_,rfl,a1,a2,a3,a4,a5,a6,by omega⟩,fun out na nb mg ac bc st' a1 a2 a3 a4 a5 a6 a7=>⟨_,_,_,_,_,_,rfl,a1,a2,a3,a4,a5,a6,by omega⟩⟩ ra rb h1 (hk3.setG _) I3 p5 p6 p7 p8 (by omega) ty _ (fun _ _=>rfl)
end
end OS
namespace OS
open PySem PyProof.Rows
variable [KO]
def putAll (xs:Array Keyed) (m:List Keyed) (o:Nat) : Array Keyed:=m.zipIdx.foldl (fun a (p,j)=>a.setIfInBounds (o+j) p) xs
theorem putFrom:∀ (m:List Keyed) (n o:Nat) (xs:Array Keyed),o+n+m.length≤xs.size→((m.zipIdx n).foldl (fun a (p,j)=>a.setIfInBounds (o+j) p) xs).toList=xs.toList.take (o+n)++m++xs.toList.drop (o+n+m.length)
  | [],n,o,xs,_=>by
    show xs.toList=_
    rw [List.append_nil,List.length_nil,Nat.add_zero,List.take_append_drop]
  | p :: m,n,o,xs,h=>by
    rw [List.length_cons] at h
    rw [List.zipIdx_cons,List.foldl_cons]
    have ih:=putFrom m (n+1) o (xs.setIfInBounds (o+n) p) (by rw [Array.size_setIfInBounds];omega)
    refine ih.trans ?_
    have hl:o+n<xs.toList.length:=by rw [Array.length_toList];omega
    have e1:(xs.setIfInBounds (o+n) p).toList=xs.toList.set (o+n) p:=by simp
    rw [e1,show o+(n+1)=o+n+1 by omega,List.take_add_one,List.getElem?_set_self hl,List.take_set_of_le (by omega),List.drop_set_of_lt (by omega),List.length_cons,show o+n+1+m.length=o+n+(m.length+1) by omega]
    simp
theorem putAll_list {m:List Keyed}{o:Nat}{xs:Array Keyed} (h:o+m.length≤xs.size) : (putAll xs m o).toList=xs.toList.take o++m++xs.toList.drop (o+m.length):=by
  have:=putFrom m 0 o xs (by simpa using h)
  simpa [putAll] using this
theorem Run.rise' {xs:Array Keyed}{b n i j:Nat}{x y:Keyed} (r:Run xs b n) (h1:b≤i) (h2:i≤j) (h3:j<b+n) (ex:xs[i]? = some x) (ey:xs[j]? = some y) : kn x≤kn y :=
  r.rise (i-b) (j-b) x y (by omega) (by omega) (by rw [show b+(i-b)=i by omega];exact ex) (by rw [show b+(j-b)=j by omega];exact ey)
theorem run_of {xs:Array Keyed}{b n:Nat} (hs:b+n≤xs.size) (hk:∀ x∈xs,IsK x) (h:∀ i j x y,b≤i→i≤j→j<b+n→xs[i]? = some x→xs[j]? = some y→kn x≤kn y) : Run xs b n :=
  ⟨hs,hk,fun i j x y hij hj ex ey=>h (b+i) (b+j) x y (by omega) (by omega) (by omega) ex ey⟩
theorem run_join {xs:Array Keyed}{sa na nb:Nat} (ra:Run xs sa na) (rb:Run xs (sa+na) nb) (hna : 1≤na) (hnb : 1≤nb) (h:∀ x y,xs[sa+na-1]? = some x→xs[sa+na]? = some y→kn x≤kn y) : Run xs sa (na+nb):=by
  have hs:=rb.has
  refine run_of (by omega) ra.keys fun i j x y h1 h2 h3 ex ey => ?_
  by_cases hj:j<sa+na
  · exact ra.rise' h1 h2 hj ex ey
  · by_cases hi:sa+na≤i
    · exact rb.rise' hi h2 (by omega) ex ey
    · obtain ⟨z,ez,_⟩:=ra.at (i:=na-1) (by omega)
      obtain ⟨v,ev,_⟩:=rb.at (i:=0) (by omega)
      rw [Nat.add_zero] at ev
      rw [show sa+(na-1)=sa+na-1 by omega] at ez
      have q1:=ra.rise' h1 (show i≤sa+na-1 by omega) (by omega) ex ez
      have q2:=h z v ez ev
      have q3:=rb.rise' (Nat.le_refl _) (show sa+na≤j by omega) (by omega) ev ey
      omega
theorem ext_sub (a:Array Keyed) (i j:Nat) : (a.extract i j).toList=(a.toList.drop i).take (j-i):=by
  rw [Array.toList_extract,List.extract_eq_take_drop]
theorem run_ext {xs:Array Keyed}{b n i j:Nat} (r:Run xs b n) (h1:b≤i) (h2:i≤j) (h3:j≤b+n) : Run (xs.extract i j) 0 (xs.extract i j).size:=by
  have hs:=r.has
  have hz:(xs.extract i j).size=j-i:=by rw [Array.size_extract];omega
  have hg:∀ t,t<j-i→(xs.extract i j)[t]? = xs[i+t]? := fun t ht=>by rw [Array.getElem?_extract,if_pos (by omega)]
  refine run_of (by omega) (fun x hx => ?_) fun t u x y a1 a2 a3 ex ey => ?_
  · obtain ⟨t,ht,e⟩:=Array.getElem_of_mem hx
    have e2:=hg t (by omega)
    rw [Array.getElem?_eq_getElem ht,e] at e2
    exact r.keys x (Array.mem_of_getElem? e2.symm)
  · rw [hg t (by omega)] at ex
    rw [hg u (by omega)] at ey
    exact r.rise' (by omega) (show i+t≤i+u by omega) (by omega) ex ey
theorem merge_seg {xs:Array Keyed}{sa na nb k n2:Nat}{b0 z:Keyed}{M:List Keyed} (ra:Run xs sa na) (rb:Run xs (sa+na) nb) (hk:k<na) (hn : 1≤n2) (hn2:n2≤nb) (eb:xs[sa+na]? = some b0) (ez:xs[sa+na-1]? = some z)
    (c1:Cut false b0 xs sa na k) (c2:Cut true z xs (sa+na) nb n2) (hM:Merged (xs.extract (sa+k) (sa+na)).toList (xs.extract (sa+na) (sa+na+n2)).toList M) :
    (putAll xs M (sa+k)).toList.Perm xs.toList∧(∀ j,j<sa∨sa+na+nb≤j→(putAll xs M (sa+k))[j]? = xs[j]?)∧Run (putAll xs M (sa+k)) sa (na+nb):=by
  have hs:=rb.has
  rw [ext_sub,ext_sub] at hM
  have hxl:xs.toList.length=xs.size:=Array.length_toList
  have hml:M.length=na-k+n2:=by
    rw [hM.1.length_eq,List.length_append,List.length_take,List.length_take,List.length_drop,List.length_drop,hxl];omega
  have e:=putAll_list (m:=M) (o:=sa+k) (xs:=xs) (by omega)
  have emid:xs.toList=xs.toList.take (sa+k)++((xs.toList.drop (sa+k)).take (sa+na-(sa+k))++(xs.toList.drop (sa+na)).take (sa+na+n2-(sa+na)))++xs.toList.drop (sa+k+M.length):=by
    have d1:=drop_split xs.toList (sa+k) (sa+na-(sa+k))
    have d2:=drop_split xs.toList (sa+na) (sa+na+n2-(sa+na))
    rw [show sa+k+(sa+na-(sa+k))=sa+na by omega] at d1
    rw [show sa+na+(sa+na+n2-(sa+na))=sa+k+M.length by omega] at d2
    rw [List.append_assoc,List.append_assoc,← d2,← d1,List.take_append_drop]
  have hperm:(putAll xs M (sa+k)).toList.Perm xs.toList:=by
    rw [e]
    conv=>rhs;rw [emid]
    exact (hM.1.append_left _).append_right _
  have hsz:(putAll xs M (sa+k)).size=xs.size:=by
    have:=hperm.length_eq
    rwa [Array.length_toList,Array.length_toList] at this
  have hlt:(xs.toList.take (sa+k)).length=sa+k:=by rw [List.length_take];omega
  have out:∀ j,j<sa+k∨sa+na+n2≤j→(putAll xs M (sa+k))[j]? = xs[j]? := fun j hj=>by
    rw [← Array.getElem?_toList,← Array.getElem?_toList,e]
    rcases hj with hj | hj
    · rw [List.getElem?_append_left (by rw [List.length_append];omega),List.getElem?_append_left (by omega),List.getElem?_take_of_lt (by omega)]
    · rw [List.getElem?_append_right (by rw [List.length_append];omega),List.getElem?_drop,List.length_append,hlt]
      congr 1;omega
  have ins:∀ j x,sa+k≤j→j<sa+na+n2→(putAll xs M (sa+k))[j]? = some x→M[j-(sa+k)]? = some x:=fun j x h1 h2 ex=>by
    rw [← Array.getElem?_toList,e,List.getElem?_append_left (by rw [List.length_append];omega),List.getElem?_append_right (by omega),hlt] at ex
    exact ex
  have src:∀ x∈M,∃ t,sa+k≤t∧t<sa+na+n2∧xs[t]? = some x:=fun x hx=>by
    rcases List.mem_append.mp (hM.1.mem_iff.mp hx) with q | q
    · obtain ⟨t,ht,et⟩:=mem_cut q
      exact ⟨_,by omega,by omega,et⟩
    · obtain ⟨t,ht,et⟩:=mem_cut q
      exact ⟨_,by omega,by omega,et⟩
  refine ⟨hperm,fun j hj=>out j (by omega),run_of (by omega) (fun x hx=>ra.keys x ?_) fun i j x y h1 h2 h3 ex ey => ?_⟩
  · have:=hperm.mem_iff.mp (Array.mem_toList_iff.mpr hx)
    exact Array.mem_toList_iff.mp this
  obtain ⟨_,a1,a2⟩:=c1
  obtain ⟨_,d1,d2⟩:=c2
  have lowM:∀ i x y,sa≤i→i<sa+k→xs[i]? = some x→y∈M→kn x≤kn y:=fun i x y g1 g2 ex hy=>by
    obtain ⟨t,t1,t2,et⟩:=src y hy
    by_cases ht:t<sa+na
    · exact ra.rise' g1 (by omega) ht ex et
    · have q1:kn x≤kn b0:=a1 (i-sa) x (by omega) (by rw [show sa+(i-sa)=i by omega];exact ex)
      have q2:=rb.rise' (Nat.le_refl _) (show sa+na≤t by omega) (by omega) eb et
      omega
  have Mhigh:∀ j x y,sa+na+n2≤j→j<sa+na+nb→xs[j]? = some y→x∈M→kn x≤kn y:=fun j x y g1 g2 ey hx=>by
    obtain ⟨t,t1,t2,et⟩:=src x hx
    by_cases ht:t<sa+na
    · have q1 : ¬ kn y<kn z:=d2 (j-(sa+na)) y (by omega) (by omega) (by rw [show sa+na+(j-(sa+na))=j by omega];exact ey)
      have q2:=ra.rise' (by omega) (show t≤sa+na-1 by omega) (by omega) et ez
      omega
    · exact rb.rise' (by omega) (show t≤j by omega) g2 et ey
  by_cases hi:i<sa+k
  · rw [out i (.inl hi)] at ex
    by_cases hj:j<sa+k
    · rw [out j (.inl hj)] at ey
      exact ra.rise' h1 h2 (by omega) ex ey
    · by_cases hj2:j<sa+na+n2
      · exact lowM i x y h1 hi ex (List.mem_of_getElem? (ins j y (by omega) hj2 ey))
      · rw [out j (.inr (by omega))] at ey
        have q1:kn x≤kn b0:=a1 (i-sa) x (by omega) (by rw [show sa+(i-sa)=i by omega];exact ex)
        have q2:=rb.rise' (Nat.le_refl _) (show sa+na≤j by omega) (by omega) eb ey
        omega
  · by_cases hi2:i<sa+na+n2
    · have hx:=ins i x (by omega) hi2 ex
      by_cases hj2:j<sa+na+n2
      · have hy:=ins j y (by omega) hj2 ey
        by_cases hij:i=j
        · subst hij;rw [hx] at hy;cases hy;exact Int.le_refl _
        · obtain ⟨l1,e1⟩:=List.getElem?_eq_some_iff.mp hx
          obtain ⟨l2,e2⟩:=List.getElem?_eq_some_iff.mp hy
          have:=List.pairwise_iff_getElem.mp hM.2 _ _ l1 l2 (by omega)
          rwa [e1,e2] at this
      · rw [out j (.inr (by omega))] at ey
        exact Mhigh j x y (by omega) (by omega) ey (List.mem_of_getElem? hx)
    · rw [out i (.inr (by omega))] at ex
      rw [out j (.inr (by omega))] at ey
      exact rb.rise' (by omega) h2 (by omega) ex ey
section
variable {prog:Program}{w:World}{A:Around}{E:Value→Shared→Prop}{s:Shared} [KL prog w A s]
theorem wpS_set {σ : Type}{M:Model}{t st : σ}{Q:PUnit → σ → Prop} (h:Q ⟨⟩ t) : wpS M A E s (set t:StateT σ Sem PUnit) Q st:=by
  unfold wpS;rw [StateT.run_set];exact wpAny_pure ⟨rfl,h⟩
set_option maxHeartbeats 4000000 in
theorem mergeAt'_eq (i:Nat) : mergeAt' i=(do
  let s ← get
  let (some (sa,na,power),some (sb,nb,_)):=((pendingOf s)[i]?,(pendingOf s)[i+1]?) | unsupported "internal:list.sort.pending"
  set (SortSt.mk' (kindOf s) (arrOf s) (((pendingOf s).setIfInBounds i (sa,na+nb,power)).eraseIdxIfInBounds (i+1)) (gallopOf s) (failedOf s))
  let some k ← gallop' false (← elem' (arrOf s) sb) (arrOf s) sa na 0 | return false
  let (sa,na):=(sa+k,na-k)
  if na == 0 then return true
  let some nb ← gallop' true (← elem' (arrOf s) (sa+na-1)) (arrOf s) sb nb (nb-1) | return false
  if nb == 0 then return true
  let x:=(arrOf s).extract sa sb;let y:=(arrOf s).extract sb (sb+nb)
  let merged ← if na≤nb then mergeLo' x y else mergeHi' x y
  modify fun s=>setArr s (putAll (arrOf s) merged.toList sa)
  return (failedOf (← get)).isNone):=rfl
set_option maxHeartbeats 4000000 in
theorem wpS_mergeAt {st:SortSt}{i sa na sb nb p p':Nat}{pre post:List (Nat × Nat × Nat)}{Q:Bool→SortSt→Prop} (hB:SB st) (hp:(pendingOf st).toList=pre++(sa,na,p) :: (sb,nb,p') :: post) (hi:i=pre.length) (hsb:sb=sa+na)
    (ra:Run (arrOf st) sa na) (rb:Run (arrOf st) sb nb) (hna : 1≤na) (hnb : 1≤nb)
    (h:∀ st',SB st'→(pendingOf st').toList=pre++(sa,na+nb,p) :: post→(arrOf st').toList.Perm (arrOf st).toList→(∀ j,j<sa∨sb+nb≤j→(arrOf st')[j]? = (arrOf st)[j]?)→Run (arrOf st') sa (na+nb)→Q true st') :
    wpS (model prog w) A E s (mergeAt' i) Q st:=by
  rw [mergeAt'_eq]
  refine wpS_bind (wpS_get ?_)
  have g1:(pendingOf st)[i]? = some (sa,na,p):=by rw [← Array.getElem?_toList,hp,hi];simp
  have g2:(pendingOf st)[i+1]? = some (sb,nb,p'):=by rw [← Array.getElem?_toList,hp,hi];simp
  rw [g1,g2]
  dsimp only
  refine wpS_bind (wpS_set ?_)
  subst hsb
  generalize hst1:SortSt.mk' (kindOf st) (arrOf st) (((pendingOf st).setIfInBounds i (sa,na+nb,p)).eraseIdxIfInBounds (i+1)) (gallopOf st) (failedOf st)=st1
  have k1:SB st1:=by rw [← hst1];exact ⟨hB.kind,hB.failed⟩
  have k2:arrOf st1=arrOf st:=by rw [← hst1]
  have k3:(pendingOf st1).toList=pre++(sa,na+nb,p) :: post:=by
    rw [← hst1]
    show (((pendingOf st).setIfInBounds i (sa,na+nb,p)).eraseIdxIfInBounds (i+1)).toList=_
    rw [Array.toList_eraseIdxIfInBounds,Array.toList_setIfInBounds,hp,hi]
    rw [List.set_append_right _ _ (Nat.le_refl _),Nat.sub_self,List.set_cons_zero,List.eraseIdx_append_of_length_le (by omega),Nat.add_sub_cancel_left]
    rfl
  obtain ⟨b0,eb,kb⟩:=rb.at (i:=0) (by omega)
  rw [Nat.add_zero] at eb
  obtain ⟨z,ez,kz⟩:=ra.at (i:=na-1) (by omega)
  rw [show sa+(na-1)=sa+na-1 by omega] at ez
  refine wpS_bind (wpS_elem eb ?_)
  refine wpS_bind (wpS_gallop k1 kb ra (by omega) fun k hc1 => ?_)
  dsimp only
  have same:Run (arrOf st) sa (na+nb)→Q true st1:=fun hr=>h st1 k1 k3 (by rw [k2]) (fun j _=>by rw [k2]) (by rw [k2];exact hr)
  by_cases hz:na-k=0
  · rw [if_pos (by simpa using hz)]
    refine wpS_pure (same (run_join ra rb hna hnb fun x y ex ey => ?_))
    rw [eb] at ey
    cases ey
    exact hc1.2.1 (na-1) x (by omega) (by rw [show sa+(na-1)=sa+na-1 by omega];exact ex)
  rw [if_neg (by simpa using hz),show sa+k+(na-k)-1=sa+na-1 by omega]
  refine wpS_bind (wpS_elem ez ?_)
  refine wpS_bind (wpS_gallop k1 kz rb (by omega) fun n2 hc2 => ?_)
  dsimp only
  by_cases hz2:n2=0
  · rw [if_pos (by simpa using hz2)]
    refine wpS_pure (same (run_join ra rb hna hnb fun x y ex ey => ?_))
    rw [ez] at ex
    cases ex
    have : ¬ kn y<kn z:=hc2.2.2 0 y (by omega) (by omega) (by rw [Nat.add_zero];exact ey)
    omega
  rw [if_neg (by simpa using hz2)]
  have hn2:=hc2.1
  have hs:=rb.has
  have s1:((arrOf st).extract (sa+k) (sa+na)).size=na-k:=by rw [Array.size_extract];omega
  have s2:((arrOf st).extract (sa+na) (sa+na+n2)).size=n2:=by rw [Array.size_extract];omega
  have p1:∀ x y,((arrOf st).extract (sa+na) (sa+na+n2))[0]? = some x→((arrOf st).extract (sa+k) (sa+na))[0]? = some y→kn x<kn y:=fun x y ex ey=>by
    rw [Array.getElem?_extract,if_pos (by omega),Nat.add_zero] at ex ey
    rw [eb] at ex
    cases ex
    have : ¬ kn y≤kn b0:=hc1.2.2 k y (Nat.le_refl _) (by omega) ey
    omega
  have p2:∀ v,((arrOf st).extract (sa+k) (sa+na))[((arrOf st).extract (sa+k) (sa+na)).size-1]? = some v→∀ y∈(arrOf st).extract (sa+na) (sa+na+n2),kn y<kn v:=fun v ev y hy=>by
    rw [s1,Array.getElem?_extract,if_pos (by omega),show sa+k+(na-k-1)=sa+na-1 by omega,ez] at ev
    cases ev
    have hy':y∈((arrOf st).extract (sa+na) (sa+na+n2)).toList:=Array.mem_toList_iff.mpr hy
    rw [ext_sub,Nat.add_sub_cancel_left] at hy'
    obtain ⟨t,ht,et⟩:=mem_cut hy'
    exact hc2.2.1 t y ht et
  have fin:∀ (res:Array Keyed) (st2:SortSt),SB st2→arrOf st2=arrOf st1→pendingOf st2=pendingOf st1→Merged ((arrOf st).extract (sa+k) (sa+na)).toList ((arrOf st).extract (sa+na) (sa+na+n2)).toList res.toList →
      wpS (model prog w) A E s (do modify fun s=>setArr s (putAll (arrOf s) res.toList (sa+k));let d ← get;pure (failedOf d).isNone) Q st2:=fun res st2 q1 q2 q3 q4=>by
    refine wpS_bind (wpS_modify (wpS_bind (wpS_get (wpS_pure ?_))))
    have e:(failedOf (setArr st2 (putAll (arrOf st2) res.toList (sa+k)))).isNone=true:=by
      show (failedOf st2).isNone=true
      rw [q1.failed];rfl
    rw [e]
    obtain ⟨m1,m2,m3⟩:=merge_seg ra rb (by omega) (by omega) hn2 eb ez hc1 hc2 q4
    have ea:arrOf (setArr st2 (putAll (arrOf st2) res.toList (sa+k)))=putAll (arrOf st) res.toList (sa+k):=by
      show putAll (arrOf st2) res.toList (sa+k)=_
      rw [q2,k2]
    exact h _ ⟨q1.kind,q1.failed⟩ (by show (pendingOf st2).toList=_;rw [q3,k3]) (by rw [ea];exact m1) (by rw [ea];exact m2) (by rw [ea];exact m3)
  have r1:=run_ext ra (show sa≤sa+k by omega) (show sa+k≤sa+na by omega) (Nat.le_refl _)
  have r2:=run_ext rb (Nat.le_refl _) (show sa+na≤sa+na+n2 by omega) (by omega)
  by_cases hle:na-k≤n2
  · rw [if_pos hle]
    exact wpS_bind (wpS_mergeLo k1 r1 r2 (by omega) (by omega) p1 p2 fin)
  · rw [if_neg hle]
    exact wpS_bind (wpS_mergeHi k1 r1 r2 (by omega) (by omega) p1 p2 fin)
end
end OS
namespace OS
open PySem PyProof.Rows
variable [KO]
structure SL (a:Array Keyed) (pd:Array (Nat × Nat × Nat)) (lo:Nat) (st:SortSt) : Prop where
  sb:SB st
  perm:(arrOf st).Perm a
  same:∀ j,j<lo→(arrOf st)[j]? = a[j]?
  pend:pendingOf st=pd
theorem SL.size {a:Array Keyed}{pd:Array (Nat × Nat × Nat)}{lo:Nat}{st:SortSt} (h:SL a pd lo st) : (arrOf st).size=a.size:=h.perm.size_eq
theorem SL.setArr {a:Array Keyed}{pd:Array (Nat × Nat × Nat)}{lo:Nat}{st:SortSt} (h:SL a pd lo st) {xs:Array Keyed} (hp:xs.Perm (arrOf st)) (hs:∀ j,j<lo→xs[j]? = (arrOf st)[j]?) : SL a pd lo (setArr st xs) :=
  ⟨⟨h.sb.kind,h.sb.failed⟩,hp.trans h.perm,fun j hj=>(hs j hj).trans (h.same j hj),h.pend⟩
theorem SL.mir {a:Array Keyed}{pd:Array (Nat × Nat × Nat)}{lo:Nat}{st:SortSt} (h:SL a pd lo st) {i j:Nat} (hi:lo≤i) (hj:j≤a.size) : SL a pd lo (PyProof.Rows.setArr st (mirror (arrOf st) i j ((j-i) / 2))) :=
  h.setArr (mirror_perm _ _ _ _) fun t ht=>by rw [getElem?_mirror_all (by rw [h.size];exact hj),if_neg (by omega)]
def KI (xs:Array Keyed) (i:Nat) : Int:=match xs[i]? with
  | some p=>kn p
  | none=>0
theorem KI_congr {xs ys:Array Keyed}{i j:Nat} (h:xs[i]? = ys[j]?) : KI xs i=KI ys j:=by unfold KI;rw [h]
theorem KI_kn {xs:Array Keyed}{i:Nat}{x:Keyed} (e:xs[i]? = some x) : KI xs i=kn x:=by unfold KI;rw [e]
theorem KI_bubble {xs:Array Keyed}{src d:Nat} (hs:src<xs.size) (hd:d≤src) (k:Nat) : KI (bubble xs src d) k=if k=src-d then KI xs src else if src-d<k∧k≤src then KI xs (k-1) else KI xs k:=by
  have e:=getElem?_bubble hs d hd k
  split at e
  · rename_i h1;rw [if_pos h1];exact KI_congr e
  · rename_i h1;rw [if_neg h1]
    split at e
    · rename_i h2;rw [if_pos h2];exact KI_congr e
    · rename_i h2;rw [if_neg h2];exact KI_congr e
theorem KI_mirror {xs:Array Keyed}{i j:Nat} (hj:j≤xs.size) (k:Nat) : KI (mirror xs i j ((j-i) / 2)) k=if i≤k∧k<j then KI xs (i+j-1-k) else KI xs k:=by
  have e:=getElem?_mirror_all (i:=i) hj k
  split at e
  · rename_i h1;rw [if_pos h1];exact KI_congr e
  · rename_i h1;rw [if_neg h1];exact KI_congr e
theorem KI_mirror_equal {xs:Array Keyed}{i j:Nat} (hj:j≤xs.size) (q:∀ k,i≤k→k<j→KI xs k=KI xs (j-1)) (k:Nat) : KI (mirror xs i j ((j-i) / 2)) k=KI xs k:=by
  rw [KI_mirror hj]
  split
  · rw [q _ (by omega) (by omega),q k (by omega) (by omega)]
  · rfl
def Asc (xs:Array Keyed) (lo n:Nat) : Prop := ∀ i j,i≤j→j<n→KI xs (lo+i)≤KI xs (lo+j)
def Dsc (xs:Array Keyed) (lo n:Nat) : Prop := ∀ i j,i≤j→j<n→KI xs (lo+j)≤KI xs (lo+i)
abbrev C2:=Option (Option Nat) × Nat
abbrev C3:=Option (Option Nat) × Nat × Nat
def upF (lo:Nat) : Nat→C2→StateT SortSt Sem (ForInStep C2):=fun _ c=>ltAt' (lo+c.2) (lo+c.2-1) >>= fun o=>match o with
  | some b=>if b=true then pure (.done (none,c.2)) else pure (.yield (none,c.2+1))
  | none=>pure (.done (some none,c.2))
def endG (c:C2) : StateT SortSt Sem (Option Nat):=match c.1 with | some r=>pure r | none=>pure (some c.2)
def part3 (lo n m:Nat) : StateT SortSt Sem (Option Nat):=reverseSlice' lo (lo+n) >>= fun _=>forIn [n:m] ((none,n) : C2) (upF lo) >>= endG
def dnF (lo:Nat) : Nat→C3→StateT SortSt Sem (ForInStep C3):=fun _ c=>ltAt' (lo+c.2.1) (lo+c.2.1-1) >>= fun o=>match o with
  | some b=>if b=true then (if c.2.2 > 0 then reverseSlice' (lo+c.2.1-(c.2.2+1)) (lo+c.2.1) >>= fun _=>pure (.yield (none,c.2.1+1,0)) else pure (.yield (none,c.2.1+1,0)))
    else ltAt' (lo+c.2.1-1) (lo+c.2.1) >>= fun o=>match o with
      | some g=>if g=true then pure (.done (none,c.2.1,c.2.2)) else pure (.yield (none,c.2.1+1,c.2.2+1))
      | none=>pure (.done (some none,c.2.1,c.2.2))
  | none=>pure (.done (some none,c.2.1,c.2.2))
def endH (lo m:Nat) (c:C3) : StateT SortSt Sem (Option Nat):=match c.1 with
  | some r=>pure r
  | none=>if c.2.2 > 0 then reverseSlice' (lo+c.2.1-(c.2.2+1)) (lo+c.2.1) >>= fun _=>part3 lo c.2.1 m else part3 lo c.2.1 m
def part2 (lo n m:Nat) : StateT SortSt Sem (Option Nat):=liftM (rule "list.sort.descending-run") >>= fun _=>forIn [n+1:m] ((none,n+1,0) : C3) (dnF lo) >>= endH lo m
def endR (lo m:Nat) (c:C2) : StateT SortSt Sem (Option Nat):=match c.1 with
  | some r=>pure r
  | none=>if (c.2 == m)=true then pure (some c.2) else if c.2 > 1 then ltAt' lo (lo+c.2-1) >>= fun o=>match o with
        | some b=>if b=true then pure (some c.2) else reverseSlice' lo (lo+c.2) >>= fun _=>part2 lo c.2 m
        | none=>pure none
      else part2 lo c.2 m
section
variable {σ : Type} {α β : Type}
theorem bc {m:StateT σ Sem α}{f g : α → StateT σ Sem β} (h:∀ a,f a=g a) : (m >>= f)=(m >>= g):=by rw [show f=g from funext h]
theorem fc {γ : Type}{r:Std.Legacy.Range}{c : γ}{F F':Nat → γ → StateT σ Sem (ForInStep γ)}{G G' : γ → StateT σ Sem β} (h:∀ x c,F x c=F' x c) (h':∀ c,G c=G' c) : (forIn r c F >>= G)=(forIn r c F' >>= G'):=by
  rw [show F=F' from funext fun x=>funext fun c=>h x c,show G=G' from funext h']
end
set_option maxHeartbeats 4000000 in
theorem run1_eq (lo m:Nat) : countRun' lo m=(forIn [1:m] ((none,1) : C2) (upF lo) >>= endR lo m):=by
  rw [countRun'_eq]
  refine fc (fun x c => ?_) (fun c => ?_)
  · unfold upF
    refine bc fun o => ?_
    cases o <;> rfl
  · obtain ⟨r,n⟩:=c
    unfold endR
    cases r with
    | some r=>rfl
    | none =>
      dsimp only
      split
      · rfl
      · split
        · refine bc fun o => ?_
          cases o with
          | none=>rfl
          | some b =>
            dsimp only
            split
            · rfl
            · refine bc fun _ => ?_
              unfold part2
              refine bc fun _=>fc (fun x c => ?_) (fun c => ?_)
              · unfold dnF
                refine bc fun o => ?_
                cases o with
                | none=>rfl
                | some b =>
                  dsimp only
                  split
                  · rfl
                  · refine bc fun o => ?_
                    cases o <;> rfl
              · obtain ⟨r,k,q⟩:=c
                unfold endH
                cases r with
                | some r=>rfl
                | none =>
                  dsimp only
                  split
                  · refine bc fun _ => ?_
                    unfold part3
                    refine bc fun _=>fc (fun x c => ?_) (fun c => ?_)
                    · unfold upF
                      refine bc fun o => ?_
                      cases o <;> rfl
                    · obtain ⟨r,n⟩:=c
                      cases r <;> rfl
                  · unfold part3
                    refine bc fun _=>fc (fun x c => ?_) (fun c => ?_)
                    · unfold upF
                      refine bc fun o => ?_
                      cases o <;> rfl
                    · obtain ⟨r,n⟩:=c
                      cases r <;> rfl
        · unfold part2
          refine bc fun _=>fc (fun x c => ?_) (fun c => ?_)
          · unfold dnF
            refine bc fun o => ?_
            cases o with
            | none=>rfl
            | some b =>
              dsimp only
              split
              · rfl
              · refine bc fun o => ?_
                cases o <;> rfl
          · obtain ⟨r,k,q⟩:=c
            unfold endH
            cases r with
            | some r=>rfl
            | none =>
              dsimp only
              split
              · refine bc fun _ => ?_
                unfold part3
                refine bc fun _=>fc (fun x c => ?_) (fun c => ?_)
                · unfold upF
                  refine bc fun o => ?_
                  cases o <;> rfl
                · obtain ⟨r,n⟩:=c
                  cases r <;> rfl
              · unfold part3
                refine bc fun _=>fc (fun x c => ?_) (fun c => ?_)
                · unfold upF
                  refine bc fun o => ?_
                  cases o <;> rfl
                · obtain ⟨r,n⟩:=c
                  cases r <;> rfl
section
variable {prog:Program}{w:World}{A:Around}{E:Value→Shared→Prop}{s:Shared} [KL prog w A s] {a:Array Keyed}{pd:Array (Nat × Nat × Nat)}{lo:Nat}
theorem SL.at {st:SortSt} (h:SL a pd lo st) (hk:∀ x∈a,IsK x) {i:Nat} (hi:i<a.size) : ∃ x,(arrOf st)[i]? = some x∧IsK x∧KI (arrOf st) i=kn x:=by
  have hi':i<(arrOf st).size:=by rw [h.size];exact hi
  have hm:(arrOf st)[i]∈a.toList:=(Array.perm_iff_toList_perm.mp h.perm).mem_iff.mp (by simp)
  have e:=Array.getElem?_eq_getElem hi'
  exact ⟨_,e,hk _ (Array.mem_toList_iff.mp hm),KI_kn e⟩
theorem SL.lt {st:SortSt}{i j:Nat}{Q:Option Bool→SortSt→Prop} (h:SL a pd lo st) (hk:∀ x∈a,IsK x) (hi:i<a.size) (hj:j<a.size) (q:Q (some (decide (KI (arrOf st) i<KI (arrOf st) j))) st) : wpS (model prog w) A E s (ltAt' i j) Q st:=by
  obtain ⟨x,e1,k1,f1⟩:=h.at hk hi
  obtain ⟨y,e2,k2,f2⟩:=h.at hk hj
  rw [f1,f2] at q
  exact wpS_ltA h.sb e1 e2 k1 k2 q
theorem wpS_up {st:SortSt}{b m:Nat}{Q:C2→SortSt→Prop} (hL:SL a pd lo st) (hk:∀ x∈a,IsK x) (hm:lo+m≤a.size) (hb : 1≤b) (hbm:b≤m) (hs:Asc (arrOf st) lo b)
    (h:∀ n,b≤n→n≤m→Asc (arrOf st) lo n→(n=m∨KI (arrOf st) (lo+n)<KI (arrOf st) (lo+n-1))→Q (none,n) st) : wpS (model prog w) A E s (forIn [b:m] ((none,b) : C2) (upF lo)) Q st:=by
  refine wpS_forRange (I:=fun x c st'=>st'=st∧c=(none,x)∧Asc (arrOf st) lo x) ?step ?fin ⟨rfl,rfl,hs⟩
  case fin =>
    rintro c st' ⟨rfl,rfl,hs'⟩
    rw [show max b m=m by omega] at hs' ⊢
    exact h m hbm (Nat.le_refl _) hs' (.inl rfl)
  case step =>
    rintro x c st' hax hxn ⟨rfl,rfl,hs'⟩
    unfold upF
    dsimp only
    refine wpS_bind (hL.lt hk (by omega) (by omega) ?_)
    by_cases hless:KI (arrOf st') (lo+x)<KI (arrOf st') (lo+x-1)
    · simp only [hless,decide_true,if_true]
      exact wpS_pure (h x hax (by omega) hs' (.inr hless))
    · simp only [hless,decide_false,Bool.false_eq_true,if_false]
      refine wpS_pure ⟨rfl,rfl,fun i j hij hj => ?_⟩
      by_cases hjx:j<x
      · exact hs' i j hij hjx
      · by_cases hi':i=j
        · rw [hi'];exact Int.le_refl _
        · have q1:=hs' i (x-1) (by omega) (by omega)
          rw [show lo+(x-1)=lo+x-1 by omega] at q1
          rw [show j=x by omega];omega
theorem wpS_part3 {st:SortSt}{n m:Nat}{Q:Option Nat→SortSt→Prop} (hL:SL a pd lo st) (hk:∀ x∈a,IsK x) (hm:lo+m≤a.size) (hn : 1≤n) (hnm:n≤m) (hs:Dsc (arrOf st) lo n)
    (h:∀ k st',SL a pd lo st'→1≤k→k≤m→Asc (arrOf st') lo k→Q (some k) st') : wpS (model prog w) A E s (part3 lo n m) Q st:=by
  unfold part3
  have hsz:lo+n≤(arrOf st).size:=by rw [hL.size];omega
  have hL':=hL.mir (Nat.le_refl lo) (show lo+n≤a.size by omega)
  refine wpS_bind (wpS_reverse (wpS_bind (wpS_up hL' hk hm hn hnm (fun i j hij hj => ?_) fun k k1 k2 k3 _=>wpS_pure (h k _ hL' (by omega) k2 k3))))
  show KI (mirror (arrOf st) lo (lo+n) ((lo+n-lo) / 2)) (lo+i)≤KI (mirror (arrOf st) lo (lo+n) ((lo+n-lo) / 2)) (lo+j)
  rw [KI_mirror hsz,KI_mirror hsz,if_pos (by omega),if_pos (by omega),show lo+(lo+n)-1-(lo+i)=lo+(n-1-i) by omega,show lo+(lo+n)-1-(lo+j)=lo+(n-1-j) by omega]
  exact hs _ _ (by omega) (by omega)
theorem mir_eq {xs:Array Keyed}{n q:Nat} (hs:lo+n≤xs.size) (hq:q+1≤n) (he:∀ i,n-(q+1)≤i→i<n→KI xs (lo+i)=KI xs (lo+n-1)) (k:Nat) : KI (mirror xs (lo+n-(q+1)) (lo+n) ((lo+n-(lo+n-(q+1))) / 2)) k=KI xs k :=
  KI_mirror_equal hs (fun k h1 h2=>by have:=he (k-lo) (by omega) (by omega);rwa [show lo+(k-lo)=k by omega] at this) k
theorem wpS_dn {st:SortSt}{n m:Nat}{Q:C3→SortSt→Prop} (hL:SL a pd lo st) (hk:∀ x∈a,IsK x) (hm:lo+m≤a.size) (hn : 1≤n) (hnm:n≤m) (hs:Dsc (arrOf st) lo n)
    (h:∀ k q st',SL a pd lo st'→n≤k→k≤m→Dsc (arrOf st') lo k→q+1≤k→(∀ i,k-(q+1)≤i→i<k→KI (arrOf st') (lo+i)=KI (arrOf st') (lo+k-1))→Q (none,k,q) st') :
    wpS (model prog w) A E s (forIn [n:m] ((none,n,0) : C3) (dnF lo)) Q st:=by
  refine wpS_forRange (I:=fun x c st' => ∃ q,c=(none,x,q)∧SL a pd lo st'∧Dsc (arrOf st') lo x∧q+1≤x∧(∀ i,x-(q+1)≤i→i<x→KI (arrOf st') (lo+i)=KI (arrOf st') (lo+x-1))) ?step ?fin
    ⟨0,rfl,hL,hs,by omega,fun i h1 h2=>by congr 1;omega⟩
  case fin =>
    rintro c st' ⟨q,rfl,b1,b2,b3,b4⟩
    rw [show max n m=m by omega] at b2 b3 b4 ⊢
    exact h m q st' b1 hnm (Nat.le_refl _) b2 b3 b4
  case step =>
    rintro x c st' hax hxn ⟨q,rfl,b1,b2,b3,b4⟩
    unfold dnF
    dsimp only
    have hsz:lo+x≤(arrOf st').size:=by rw [b1.size];omega
    refine wpS_bind (b1.lt hk (by omega) (by omega) ?_)
    by_cases hless:KI (arrOf st') (lo+x)<KI (arrOf st') (lo+x-1)
    · simp only [hless,decide_true,if_true]
      have step1:∀ xs:Array Keyed,(∀ k,KI xs k=KI (arrOf st') k)→Dsc xs lo (x+1):=by
        intro xs hxs i j hij hj
        rw [hxs,hxs]
        by_cases hjx:j<x
        · exact b2 i j hij hjx
        · by_cases hi':i=j
          · rw [hi'];exact Int.le_refl _
          · have q1:=b2 i (x-1) (by omega) (by omega)
            rw [show lo+(x-1)=lo+x-1 by omega] at q1
            rw [show j=x by omega];omega
      by_cases hq:q > 0
      · rw [if_pos hq]
        exact wpS_bind (wpS_reverse (wpS_pure ⟨0,rfl,b1.mir (by omega) (by omega),step1 _ (mir_eq hsz b3 b4),by omega,fun i h1 h2=>by congr 1;omega⟩))
      · rw [if_neg hq]
        exact wpS_pure ⟨0,rfl,b1,step1 _ (fun _=>rfl),by omega,fun i h1 h2=>by congr 1;omega⟩
    · simp only [hless,decide_false,Bool.false_eq_true,if_false]
      refine wpS_bind (b1.lt hk (by omega) (by omega) ?_)
      by_cases hg:KI (arrOf st') (lo+x-1)<KI (arrOf st') (lo+x)
      · simp only [hg,decide_true,if_true]
        exact wpS_pure (h x q st' b1 hax (by omega) b2 b3 b4)
      · simp only [hg,decide_false,Bool.false_eq_true,if_false]
        have heq:KI (arrOf st') (lo+x)=KI (arrOf st') (lo+x-1):=by omega
        refine wpS_pure ⟨q+1,rfl,b1,fun i j hij hj => ?_,by omega,fun i h1 h2 => ?_⟩
        · by_cases hjx:j<x
          · exact b2 i j hij hjx
          · by_cases hi':i=j
            · rw [hi'];exact Int.le_refl _
            · have q1:=b2 i (x-1) (by omega) (by omega)
              rw [show lo+(x-1)=lo+x-1 by omega] at q1
              rw [show j=x by omega];omega
        · rw [show lo+(x+1)-1=lo+x by omega]
          by_cases hix:i=x
          · rw [hix]
          · rw [heq];exact b4 i (by omega) (by omega)
theorem wpS_part2 {st:SortSt}{n m:Nat}{Q:Option Nat→SortSt→Prop} (hL:SL a pd lo st) (hk:∀ x∈a,IsK x) (hm:lo+m≤a.size) (hnm:n+1≤m) (hs:Dsc (arrOf st) lo (n+1))
    (h:∀ k st',SL a pd lo st'→1≤k→k≤m→Asc (arrOf st') lo k→Q (some k) st') : wpS (model prog w) A E s (part2 lo n m) Q st:=by
  unfold part2
  refine wpS_bind (wpS_lift (wpAny_rule ⟨rfl,wpS_bind (wpS_dn hL hk hm (by omega) hnm hs fun k q st' b1 b2 b3 b4 b5 b6 => ?_)⟩))
  unfold endH
  dsimp only
  have hsz:lo+k≤(arrOf st').size:=by rw [b1.size];omega
  by_cases hq:q > 0
  · rw [if_pos hq]
    refine wpS_bind (wpS_reverse (wpS_part3 (b1.mir (by omega) (by omega)) hk hm (by omega) b3 (fun i j hij hj => ?_) h))
    show KI (mirror (arrOf st') _ _ _) _≤KI (mirror (arrOf st') _ _ _) _
    rw [mir_eq hsz b5 b6,mir_eq hsz b5 b6]
    exact b4 i j hij hj
  · rw [if_neg hq]
    exact wpS_part3 b1 hk hm (by omega) b3 b4 h
theorem wpS_run1 {st:SortSt}{m:Nat}{Q:Option Nat→SortSt→Prop} (hL:SL a pd lo st) (hk:∀ x∈a,IsK x) (hm:lo+m≤a.size) (hm1 : 1≤m)
    (h:∀ k st',SL a pd lo st'→1≤k→k≤m→Asc (arrOf st') lo k→Q (some k) st') : wpS (model prog w) A E s (countRun' lo m) Q st:=by
  rw [run1_eq]
  refine wpS_bind (wpS_up hL hk hm (Nat.le_refl 1) hm1 (fun i j hij hj=>by rw [show i=j by omega];exact Int.le_refl _) fun n n1 n2 hs hor => ?_)
  unfold endR
  dsimp only
  by_cases hnm:n=m
  · rw [if_pos (by simpa using hnm)]
    exact wpS_pure (h n st hL n1 n2 hs)
  · rw [if_neg (by simpa using hnm)]
    have hlt:=hor.resolve_left hnm
    have ext:∀ xs:Array Keyed,(∀ k,KI xs k=KI (arrOf st) k)→(∀ i,i<n→KI (arrOf st) (lo+i)=KI (arrOf st) (lo+n-1))→Dsc xs lo (n+1):=fun xs hxs hall i j hij hj=>by
      rw [hxs,hxs]
      by_cases hjn:j<n
      · rw [hall i (by omega),hall j hjn];exact Int.le_refl _
      · by_cases hi':i=j
        · rw [hi'];exact Int.le_refl _
        · rw [hall i (by omega),show j=n by omega];exact Int.le_of_lt hlt
    by_cases hg:n > 1
    · rw [if_pos hg]
      refine wpS_bind (hL.lt hk (by omega) (by omega) ?_)
      by_cases hr:KI (arrOf st) lo<KI (arrOf st) (lo+n-1)
      · simp only [hr,decide_true,if_true]
        exact wpS_pure (h n st hL n1 n2 hs)
      · simp only [hr,decide_false,Bool.false_eq_true,if_false]
        have hall:∀ i,i<n→KI (arrOf st) (lo+i)=KI (arrOf st) (lo+n-1):=fun i hi=>by
          have q1:=hs 0 i (by omega) hi
          have q2:=hs i (n-1) (by omega) (by omega)
          rw [Nat.add_zero] at q1
          rw [show lo+(n-1)=lo+n-1 by omega] at q2
          omega
        have hsz:lo+n≤(arrOf st).size:=by rw [hL.size];omega
        have hme:∀ k,KI (mirror (arrOf st) lo (lo+n) ((lo+n-lo) / 2)) k=KI (arrOf st) k:=KI_mirror_equal hsz fun k h1 h2=>by
          have:=hall (k-lo) (by omega)
          rwa [show lo+(k-lo)=k by omega] at this
        exact wpS_bind (wpS_reverse (wpS_part2 (hL.mir (Nat.le_refl lo) (by omega)) hk hm (by omega) (ext _ hme hall) h))
    · rw [if_neg hg]
      exact wpS_part2 hL hk hm (by omega) (ext _ (fun _=>rfl) fun i hi=>by rw [show i=0 by omega,show n=1 by omega];rfl) h
theorem wpS_bin {st:SortSt}{n ok:Nat}{Q:Bool→SortSt→Prop} (hL:SL a pd lo st) (hk:∀ x∈a,IsK x) (hn:lo+n≤a.size) (hok:ok≤n) (hs:Asc (arrOf st) lo ok)
    (h:∀ st',SL a pd lo st'→Asc (arrOf st') lo n→Q true st') : wpS (model prog w) A E s (binarySort' lo n ok) Q st:=by
  rw [binarySort'_eq]
  refine wpS_bind (wpS_mono (wpS_forRange (I:=fun k c st'=>c=(none,())∧SL a pd lo st'∧Asc (arrOf st') lo (min k n)) (Q:=fun c st'=>c=(none,())∧SL a pd lo st'∧Asc (arrOf st') lo n) ?step ?fin ?init) ?post)
  case post =>
    rintro c st' ⟨rfl,b1,b2⟩
    exact wpS_pure (h st' b1 b2)
  case init =>
    refine ⟨rfl,hL,fun i j hij hj => ?_⟩
    by_cases h1:ok=0
    · rw [show i=j by omega];exact Int.le_refl _
    · exact hs i j hij (by omega)
  case fin =>
    rintro c st' ⟨hc,b1,b2⟩
    rw [show min (max (max ok 1) n) n=n by omega] at b2
    exact ⟨hc,b1,b2⟩
  case step =>
    rintro k c st' hak hkn ⟨rfl,b1,b2⟩
    rw [show min k n=k by omega] at b2
    refine wpS_bind (wpS_mono (wpS_forRange (I:=fun x c st''=>st''=st'∧∃ l r,c=(none,l,r)∧l≤r∧r≤k∧r-l≤k-x∧(∀ i,i<l→KI (arrOf st') (lo+i)≤KI (arrOf st') (lo+k))∧(∀ i,r≤i→i<k→KI (arrOf st') (lo+k)<KI (arrOf st') (lo+i)))
      (Q:=fun c st''=>st''=st'∧∃ l r,c=(none,l,r)∧l≤k∧(∀ i,i<l→KI (arrOf st') (lo+i)≤KI (arrOf st') (lo+k))∧(∀ i,l≤i→i<k→KI (arrOf st') (lo+k)<KI (arrOf st') (lo+i))) ?istep ?ifin
      ⟨rfl,0,k,rfl,by omega,by omega,by omega,fun i hi=>by omega,fun i h1 h2=>by omega⟩) ?ipost)
    case ifin =>
      rintro c st'' ⟨rfl,l,r,rfl,d1,d2,d3,d4,d5⟩
      obtain rfl:l=r:=by omega
      exact ⟨rfl,l,l,rfl,d2,d4,d5⟩
    case istep =>
      rintro x c st'' _ hxk ⟨rfl,l,r,rfl,d1,d2,d3,d4,d5⟩
      dsimp only
      by_cases hge:l ≥ r
      · rw [if_pos hge]
        obtain rfl:l=r:=by omega
        exact wpS_pure ⟨rfl,l,l,rfl,d2,d4,d5⟩
      · rw [if_neg hge]
        refine wpS_bind (b1.lt hk (by omega) (by omega) ?_)
        by_cases hless:KI (arrOf st'') (lo+k)<KI (arrOf st'') (lo+(l+r) / 2)
        · simp only [hless,decide_true,if_true]
          exact wpS_pure ⟨rfl,l,(l+r) / 2,rfl,by omega,by omega,by omega,d4,fun i h1 h2=>Int.lt_of_lt_of_le hless (b2 _ _ h1 h2)⟩
        · simp only [hless,decide_false,Bool.false_eq_true,if_false]
          exact wpS_pure ⟨rfl,(l+r) / 2+1,r,rfl,by omega,by omega,by omega,fun i h1=>Int.le_trans (b2 i ((l+r) / 2) (by omega) (by omega)) (Int.not_lt.mp hless),d5⟩
    case ipost =>
      rintro c st'' ⟨rfl,l,r,rfl,d1,d4,d5⟩
      show wpS _ _ _ _ (do moveDown' (lo+k) (lo+l);pure (ForInStep.yield (none,()))) _ _
      rw [moveDown'_eq]
      have hks:lo+k<(arrOf st'').size:=by rw [b1.size];omega
      refine wpS_bind (wpS_modify (wpS_pure ⟨rfl,b1.setArr (bubble_perm _ _ _) (fun j hj => ?_),?_⟩))
      · rw [getElem?_bubble hks _ (by omega),if_neg (by omega),if_neg (by omega)]
      rw [show min (k+1) n=k+1 by omega]
      intro i j hij hj
      show KI (bubble (arrOf st'') (lo+k) (lo+k-(lo+l))) (lo+i)≤KI (bubble (arrOf st'') (lo+k) (lo+k-(lo+l))) (lo+j)
      rw [KI_bubble hks (by omega),KI_bubble hks (by omega),show lo+k-(lo+k-(lo+l))=lo+l by omega]
      have pr:∀ t,0<t→lo+t-1=lo+(t-1):=fun t ht=>by omega
      by_cases hi1:i=l
      · rw [if_pos (by omega)]
        by_cases hj1:j=l
        · rw [if_pos (by omega)];exact Int.le_refl _
        · rw [if_neg (by omega),if_pos (by omega),pr j (by omega)];exact Int.le_of_lt (d5 _ (by omega) (by omega))
      · rw [if_neg (by omega)]
        by_cases hil:l<i
        · rw [if_pos (by omega),if_neg (by omega),if_pos (by omega),pr i (by omega),pr j (by omega)];exact b2 _ _ (by omega) (by omega)
        · rw [if_neg (by omega)]
          by_cases hj1:j=l
          · rw [if_pos (by omega)];exact d4 _ (by omega)
          · rw [if_neg (by omega)]
            by_cases hjl:l<j
            · rw [if_pos (by omega),pr j (by omega)];exact b2 _ _ (by omega) (by omega)
            · rw [if_neg (by omega)];exact b2 _ _ (by omega) (by omega)
end
end OS
namespace OS
open PySem PyProof.Rows
variable [KO]
theorem ite_ix {c:Prop} [Decidable c] {n:Nat} (h : 2≤n) : (if c then n-2-1 else n-2)+1<n:=by split <;> omega
def tl (p:Array (Nat × Nat × Nat)) : List (Nat × Nat):=p.toList.map fun t=>(t.1,t.2.1)
def Tiles (xs:Array Keyed) : Nat→List (Nat × Nat)→Nat→Prop
  | b,[],e=>b=e
  | b,t :: r,e=>t.1=b∧1≤t.2∧Run xs b t.2∧Tiles xs (b+t.2) r e
theorem Tiles.le {xs:Array Keyed} : ∀ {l:List (Nat × Nat)}{b e:Nat},Tiles xs b l e→b+l.length≤e
  | [],b,e,h=>by have:b=e:=h;simp;omega
  | t :: r,b,e,h=>by
    have:=Tiles.le h.2.2.2
    have:=h.2.1
    rw [List.length_cons];omega
theorem Tiles.append {xs:Array Keyed} : ∀ {l r:List (Nat × Nat)}{b e:Nat},Tiles xs b (l++r) e↔∃ m,Tiles xs b l m∧Tiles xs m r e
  | [],r,b,e=>⟨fun h=>⟨b,rfl,h⟩,fun ⟨m,h1,h2⟩=>by have:b=m:=h1;rw [this];exact h2⟩
  | t :: l,r,b,e=>by
    constructor
    · intro h
      obtain ⟨m,h1,h2⟩:=Tiles.append.mp h.2.2.2
      exact ⟨m,⟨h.1,h.2.1,h.2.2.1,h1⟩,h2⟩
    · rintro ⟨m,h1,h2⟩
      exact ⟨h1.1,h1.2.1,h1.2.2.1,Tiles.append.mpr ⟨m,h1.2.2.2,h2⟩⟩
theorem Run.keep {xs ys:Array Keyed}{b n:Nat} (r:Run xs b n) (hs:ys.size=xs.size) (hk:∀ x∈ys,IsK x) (h:∀ j,b≤j→j<b+n→ys[j]? = xs[j]?) : Run ys b n:=by
  have:=r.has
  refine run_of (by omega) hk fun i j x y h1 h2 h3 ex ey => ?_
  rw [h i h1 (by omega)] at ex
  rw [h j (by omega) h3] at ey
  exact r.rise' h1 h2 h3 ex ey
theorem Tiles.keep {xs ys:Array Keyed} (hs:ys.size=xs.size) (hk:∀ x∈ys,IsK x) : ∀ {l:List (Nat × Nat)}{b e:Nat},Tiles xs b l e→(∀ j,b≤j→j<e→ys[j]? = xs[j]?)→Tiles ys b l e
  | [],_,_,h,_=>h
  | t :: r,b,e,h,q=>by
    have:=Tiles.le h.2.2.2
    exact ⟨h.1,h.2.1,h.2.2.1.keep hs hk fun j h1 h2=>q j h1 (by omega),Tiles.keep hs hk h.2.2.2 fun j h1 h2=>q j (by omega) h2⟩
section
variable {prog:Program}{w:World}{A:Around}{E:Value→Shared→Prop}{s:Shared} [KL prog w A s] {a₀:Array Keyed}
structure SM (a₀:Array Keyed) (lo:Nat) (st:SortSt) : Prop where
  sb:SB st
  perm:(arrOf st).Perm a₀
  tiles:Tiles (arrOf st) 0 (tl (pendingOf st)) lo
theorem SM.size {lo:Nat}{st:SortSt} (h:SM a₀ lo st) : (arrOf st).size=a₀.size:=h.perm.size_eq
theorem SM.keys {lo:Nat}{st:SortSt} (h:SM a₀ lo st) (hk:∀ x∈a₀,IsK x) : ∀ x∈arrOf st,IsK x:=fun x hx=>hk x (h.perm.mem_iff.mp hx)
theorem tl_len (p:Array (Nat × Nat × Nat)) : (tl p).length=p.size:=by unfold tl;simp
theorem SM.merge {lo i:Nat}{st:SortSt}{Q:Bool→SortSt→Prop} (h:SM a₀ lo st) (hk:∀ x∈a₀,IsK x) (hlo:lo≤a₀.size) (hi:i+1<(pendingOf st).size)
    (q:∀ st',SM a₀ lo st'→(pendingOf st').size+1=(pendingOf st).size→(∀ j,lo≤j→(arrOf st')[j]? = (arrOf st)[j]?)→Q true st') : wpS (model prog w) A E s (mergeAt' i) Q st:=by
  obtain ⟨⟨sa,na,p⟩,e1⟩ : ∃ t,(pendingOf st)[i]? = some t:=⟨(pendingOf st)[i],by simp⟩
  obtain ⟨⟨sb,nb,p'⟩,e2⟩ : ∃ t,(pendingOf st)[i+1]? = some t:=⟨(pendingOf st)[i+1],by simp [hi]⟩
  have el:(pendingOf st).toList=(pendingOf st).toList.take i++(sa,na,p) :: (sb,nb,p') :: (pendingOf st).toList.drop (i+2):=by
    have l1:i<(pendingOf st).toList.length:=by rw [Array.length_toList];omega
    have l2:i+1<(pendingOf st).toList.length:=by rw [Array.length_toList];omega
    have f1:(pendingOf st).toList[i]=(sa,na,p):=by
      have:=e1;rw [← Array.getElem?_toList,List.getElem?_eq_getElem l1] at this;exact Option.some.inj this
    have f2:(pendingOf st).toList[i+1]=(sb,nb,p'):=by
      have:=e2;rw [← Array.getElem?_toList,List.getElem?_eq_getElem l2] at this;exact Option.some.inj this
    have:=List.take_append_drop i (pendingOf st).toList
    rw [List.drop_eq_getElem_cons l1,List.drop_eq_getElem_cons l2,f1,f2] at this
    exact this.symm
  have hpl:((pendingOf st).toList.take i).length=i:=by rw [List.length_take,Array.length_toList];omega
  generalize (pendingOf st).toList.take i=pre at el hpl
  generalize (pendingOf st).toList.drop (i+2)=post at el
  have hT:=h.tiles
  unfold tl at hT
  rw [el,List.map_append,List.map_cons,List.map_cons] at hT
  obtain ⟨m,t1,t2⟩:=Tiles.append.mp hT
  obtain ⟨z1,z2,z3,z4,z5,z6,z7⟩:=t2
  dsimp only at z1 z2 z3 z4 z5 z6 z7
  subst z1
  refine wpS_mergeAt h.sb el hpl.symm z4 z3 (by rw [z4];exact z6) z2 z5 fun st' b1 b2 b3 b4 b5 => ?_
  have hs':(arrOf st').size=(arrOf st).size:=by have:=b3.length_eq;rwa [Array.length_toList,Array.length_toList] at this
  have hp':(arrOf st').Perm a₀:=(Array.perm_iff_toList_perm.mpr b3).trans h.perm
  have hk':∀ x∈arrOf st',IsK x:=fun x hx=>hk x (hp'.mem_iff.mp hx)
  have le1:=Tiles.le t1
  have le2:=Tiles.le z7
  refine q st' ⟨b1,hp',?_⟩ ?_ fun j hj=>b4 j (.inr (by omega))
  · unfold tl
    rw [b2,List.map_append,List.map_cons]
    refine Tiles.append.mpr ⟨sa,t1.keep hs' hk' fun j _ h2=>b4 j (.inl h2),rfl,by dsimp only;omega,b5,?_⟩
    dsimp only
    rw [show sa+(na+nb)=sa+na+nb by omega]
    exact z7.keep hs' hk' fun j h1 _=>b4 j (.inr (by omega))
  · have l1:=congrArg List.length el
    have l2:=congrArg List.length b2
    rw [List.length_append,List.length_cons,List.length_cons,Array.length_toList] at l1
    rw [List.length_append,List.length_cons,Array.length_toList] at l2
    omega
def SortedI (xs:Array Keyed) (k:Nat) : Prop := ∀ i j,i≤j→j<k→KI xs i≤KI xs j
theorem run_asc {xs:Array Keyed}{lo n:Nat} (hs:lo+n≤xs.size) (hk:∀ x∈xs,IsK x) (h:Asc xs lo n) : Run xs lo n :=
  ⟨hs,hk,fun i j x y hij hj ex ey=>by have:=h i j hij hj;rwa [KI_kn ex,KI_kn ey] at this⟩
theorem tl_push (p:Array (Nat × Nat × Nat)) (t:Nat × Nat × Nat) : tl (p.push t)=tl p ++ [(t.1,t.2.1)]:=by unfold tl;simp
theorem tl_mod (p:Array (Nat × Nat × Nat)) (i w:Nat) : tl (p.modify i fun x=>(x.fst,x.2.fst,w))=tl p:=by
  unfold tl
  rw [Array.toList_modify]
  generalize p.toList=l
  induction l generalizing i with
  | nil=>simp
  | cons t r ih =>
    cases i with
    | zero=>simp
    | succ i=>simpa using ih i
set_option maxHeartbeats 4000000 in
theorem wpS_runs {st:SortSt}{Q:Unit→SortSt→Prop} (hk:∀ x∈a₀,IsK x) (hB:SB st) (ha:(arrOf st).Perm a₀) (hp:pendingOf st = #[]) (h1 : 1≤a₀.size)
    (h:∀ st',(arrOf st').Perm a₀→failedOf st'=none→SortedI (arrOf st') a₀.size→Q () st') : wpS (model prog w) A E s sortRuns' Q st:=by
  rw [sortRuns'_eq]
  refine wpS_bind (wpS_get ?_)
  dsimp only
  have hsz:(arrOf st).size=a₀.size:=ha.size_eq
  simp only [hsz]
  generalize minRun' a₀.size a₀.size 0=mr
  refine wpS_bind (wpS_mono (wpS_forRange (I:=fun x c st' => ∃ lo,c=(none,lo)∧SM a₀ lo st'∧lo≤a₀.size∧(x≤lo∨lo=a₀.size))
    (Q:=fun c st'=>c=(none,a₀.size)∧SM a₀ a₀.size st') ?step ?fin ⟨0,rfl,⟨hB,ha,by rw [hp];rfl⟩,by omega,by omega⟩) ?post)
  case fin =>
    rintro c st' ⟨lo,rfl,M,h2,h3⟩
    have e:lo=a₀.size:=by omega
    rw [e] at M
    exact ⟨by rw [e],M⟩
  case post =>
    rintro c st1 ⟨rfl,M⟩
    dsimp only
    refine wpS_bind (wpS_mono (wpS_forRange (I:=fun x c st'=>c=(none,())∧SM a₀ a₀.size st'∧((pendingOf st').size≤1∨(pendingOf st').size+x≤a₀.size))
      (Q:=fun c st'=>c=(none,())∧SM a₀ a₀.size st'∧(pendingOf st').size≤1) ?step3 ?fin3 ⟨rfl,M,.inr ?init3⟩) ?post3)
    case init3 =>
      have:=Tiles.le M.tiles
      rw [tl_len] at this
      omega
    case fin3 =>
      rintro c st' ⟨rfl,M',h2⟩
      exact ⟨rfl,M',by omega⟩
    case step3 =>
      rintro x c st' _ hx ⟨rfl,M',h2⟩
      refine wpS_bind (wpS_get ?_)
      try dsimp only
      by_cases hle:(pendingOf st').size≤1
      · rw [if_pos hle]
        exact wpS_pure ⟨rfl,M',hle⟩
      · rw [if_neg hle]
        refine wpS_bind (M'.merge hk (Nat.le_refl _) (ite_ix (by omega)) fun st4 M4 h4 _ => ?_)
        simp only [Bool.not_true,Bool.false_eq_true,if_false]
        exact wpS_pure ⟨rfl,M4,by omega⟩
    case post3 =>
      rintro c st' ⟨rfl,M',h2⟩
      refine wpS_pure (h st' M'.perm M'.sb.failed ?_)
      have hT:=M'.tiles
      have hlen:=tl_len (pendingOf st')
      generalize tl (pendingOf st')=l at hT hlen
      match l,hT,hlen with
      | [],hT,_=>have : 0=a₀.size:=hT;omega
      | [t],hT,_ =>
        obtain ⟨z1,z2,z3,z4⟩:=hT
        have z5 : 0+t.2=a₀.size:=z4
        intro i j hij hj
        have hi':i<(arrOf st').size:=by rw [M'.size];omega
        have hj':j<(arrOf st').size:=by rw [M'.size];omega
        rw [KI_kn (Array.getElem?_eq_getElem hi'),KI_kn (Array.getElem?_eq_getElem hj')]
        exact z3.rise' (Nat.zero_le _) hij (by omega) (Array.getElem?_eq_getElem hi') (Array.getElem?_eq_getElem hj')
      | _ :: _ :: _,_,hlen=>rw [List.length_cons,List.length_cons] at hlen;omega
  case step =>
    rintro x c st1 _ hx ⟨lo,rfl,M1,h2,h3⟩
    dsimp only
    by_cases hge:lo ≥ a₀.size
    · rw [if_pos hge]
      have e:lo=a₀.size:=by omega
      rw [e] at M1 ⊢
      exact wpS_pure ⟨rfl,M1⟩
    rw [if_neg hge]
    have fin:∀ n,1≤n→lo+n≤a₀.size→∀ st',SM a₀ lo st'→Run (arrOf st') lo n→∃ l,((none,lo+n) : Option Unit × Nat)=(none,l)∧SM a₀ l (setPending st' ((pendingOf st').push (lo,n,0)))∧l≤a₀.size∧(x+1≤l∨l=a₀.size):=fun n hn1 hn2 st' M R =>
      ⟨lo+n,rfl,⟨⟨M.sb.kind,M.sb.failed⟩,M.perm,by
        show Tiles (arrOf st') 0 (tl ((pendingOf st').push (lo,n,0))) (lo+n)
        rw [tl_push]
        exact Tiles.append.mpr ⟨lo,M.tiles,rfl,hn1,R,rfl⟩⟩,hn2,by omega⟩
    have hs1:=M1.size
    refine wpS_bind (wpS_run1 (a:=arrOf st1) (pd:=pendingOf st1) (lo:=lo) ⟨M1.sb,Array.Perm.refl _,fun _ _=>rfl,rfl⟩ (M1.keys hk) (by omega) (by omega) fun n st2 L2 hn1 hnm As2 => ?_)
    dsimp only
    have hn2:lo+n≤a₀.size:=by omega
    by_cases hlt:n<mr
    · rw [if_pos hlt]
      refine wpS_bind (wpS_lift (wpAny_rule ⟨rfl,?_⟩))
      refine wpS_bind (wpS_bin L2 (M1.keys hk) (n:=min (a₀.size-lo) mr) (by omega) (by omega) As2 fun st2 L2 As2 => ?_)
      simp only [Bool.not_true,Bool.false_eq_true,if_false]
      have hn1 : 1≤min (a₀.size-lo) mr:=by omega
      have hn2:lo+min (a₀.size-lo) mr≤a₀.size:=by omega
      generalize min (a₀.size-lo) mr=n at As2 hn1 hn2
      have M2:SM a₀ lo st2:=⟨L2.sb,L2.perm.trans M1.perm,by
        rw [L2.pend]
        exact M1.tiles.keep L2.size (fun x hx=>hk x ((L2.perm.trans M1.perm).mem_iff.mp hx)) fun j _ hj=>L2.same j hj⟩
      have R2:Run (arrOf st2) lo n:=run_asc (by rw [M2.size];exact hn2) (M2.keys hk) As2
      refine wpS_bind (wpS_get ?_)
      cases hb:(pendingOf st2).back? with
      | none =>
        exact wpS_bind (wpS_modify (wpS_pure (fin n hn1 hn2 st2 M2 R2)))
      | some t =>
        obtain ⟨s1,n1,o1⟩:=t
        dsimp only
        refine wpS_bind (wpS_mono (wpS_forRange (I:=fun _ c st'=>c=(none,())∧SM a₀ lo st'∧Run (arrOf st') lo n) (Q:=fun c st'=>c=(none,())∧SM a₀ lo st'∧Run (arrOf st') lo n) ?_ (fun _ _ hh=>hh) ⟨rfl,M2,R2⟩) ?_)
        · rintro x c st3 _ _ ⟨rfl,M3,R3⟩
          refine wpS_bind (wpS_get ?_)
          try dsimp only
          by_cases hsz:(pendingOf st3).size > 1
          · rw [if_pos hsz]
            obtain ⟨⟨u1,u2,u3⟩,eu⟩ : ∃ t,(pendingOf st3)[(pendingOf st3).size-2]? = some t:=⟨(pendingOf st3)[(pendingOf st3).size-2],by simp⟩
            rw [eu]
            dsimp only
            split
            · exact wpS_pure ⟨rfl,M3,R3⟩
            · refine wpS_bind (M3.merge hk (by omega) (by omega) fun st4 M4 _ e4 => ?_)
              simp only [Bool.not_true,Bool.false_eq_true,if_false]
              exact wpS_pure ⟨rfl,M4,R3.keep (by rw [M4.size,M3.size]) (M4.keys hk) fun j h1 _=>e4 j h1⟩
          · rw [if_neg hsz]
            exact wpS_pure ⟨rfl,M3,R3⟩
        · rintro c st3 ⟨rfl,M3,R3⟩
          dsimp only
          refine wpS_bind (wpS_modify (wpS_bind (wpS_modify (wpS_pure ?_))))
          exact fin n hn1 hn2 _ ⟨⟨M3.sb.kind,M3.sb.failed⟩,M3.perm,by
            show Tiles (arrOf st3) 0 (tl ((pendingOf st3).modify _ _)) lo
            rw [tl_mod];exact M3.tiles⟩ R3
    · rw [if_neg hlt]
      have M2:SM a₀ lo st2:=⟨L2.sb,L2.perm.trans M1.perm,by
        rw [L2.pend]
        exact M1.tiles.keep L2.size (fun x hx=>hk x ((L2.perm.trans M1.perm).mem_iff.mp hx)) fun j _ hj=>L2.same j hj⟩
      have R2:Run (arrOf st2) lo n:=run_asc (by rw [M2.size];exact hn2) (M2.keys hk) As2
      refine wpS_bind (wpS_get ?_)
      cases hb:(pendingOf st2).back? with
      | none =>
        exact wpS_bind (wpS_modify (wpS_pure (fin n hn1 hn2 st2 M2 R2)))
      | some t =>
        obtain ⟨s1,n1,o1⟩:=t
        dsimp only
        refine wpS_bind (wpS_mono (wpS_forRange (I:=fun _ c st'=>c=(none,())∧SM a₀ lo st'∧Run (arrOf st') lo n) (Q:=fun c st'=>c=(none,())∧SM a₀ lo st'∧Run (arrOf st') lo n) ?_ (fun _ _ hh=>hh) ⟨rfl,M2,R2⟩) ?_)
        · rintro x c st3 _ _ ⟨rfl,M3,R3⟩
          refine wpS_bind (wpS_get ?_)
          try dsimp only
          by_cases hsz:(pendingOf st3).size > 1
          · rw [if_pos hsz]
            obtain ⟨⟨u1,u2,u3⟩,eu⟩ : ∃ t,(pendingOf st3)[(pendingOf st3).size-2]? = some t:=⟨(pendingOf st3)[(pendingOf st3).size-2],by simp⟩
            rw [eu]
            dsimp only
            split
            · exact wpS_pure ⟨rfl,M3,R3⟩
            · refine wpS_bind (M3.merge hk (by omega) (by omega) fun st4 M4 _ e4 => ?_)
              simp only [Bool.not_true,Bool.false_eq_true,if_false]
              exact wpS_pure ⟨rfl,M4,R3.keep (by rw [M4.size,M3.size]) (M4.keys hk) fun j h1 _=>e4 j h1⟩
          · rw [if_neg hsz]
            exact wpS_pure ⟨rfl,M3,R3⟩
        · rintro c st3 ⟨rfl,M3,R3⟩
          dsimp only
          refine wpS_bind (wpS_modify (wpS_bind (wpS_modify (wpS_pure ?_))))
          exact fin n hn1 hn2 _ ⟨⟨M3.sb.kind,M3.sb.failed⟩,M3.perm,by
            show Tiles (arrOf st3) 0 (tl ((pendingOf st3).modify _ _)) lo
            rw [tl_mod];exact M3.tiles⟩ R3
end
end OS
namespace OS
open PySem PyProof.Rows
def intKO:KO:=⟨numOf,fun v => ∃ n t,v = .int n t,oneType'⟩
section
variable {prog:Program}{w:World}{A:Around}{E:Value→Shared→Prop}{s:Shared}
theorem intKL : @KL intKO prog w A s:=@KL.mk intKO _ _ _ _ fun {E Q u v} h1 h2 q=>by
  obtain ⟨a,t,rfl⟩:=h1
  obtain ⟨b,r,rfl⟩:=h2
  show wpAny _ _ (keyLt' oneType' _ _) _ _ _
  rw [keyLt'_oneType]
  exact oneLt_int q
set_option maxHeartbeats 4000000 in
theorem sort_any {a:Addr}{vs:List Value}{ns:List Int}{n:Nat}{P:PySem.Fin→Shared→Prop} (ho:s.heap.get? a=some (seqObj "list" vs.toArray n)) (hI:IntsAre vs ns) (hz:vs.length≤sizeLine)
    (h:∀ (out:Array Value) (ns':List Int),IntsAre out.toList ns'→ns'.Perm ns→ns'.Pairwise (· ≤ ·)→P (.done (.ret .none)) { s with heap:=sortedHeap s.heap a vs out }) : wpAny (model prog w) A (Builtin.«list.sort» ⟨[.ref a],[]⟩) P E s:=by
  by_cases h64:vs.length<64
  · exact list_sort_tree ho hI h64 h
  rw [list_sort_plain]
  have ha:a<s.heap.objs.size:=Heap.lt_size ho
  refine wpAny_bind (listItems_at ho rfl (wpAny_bind (listUpdate_at ho rfl ?_ (by rw [List.size_toArray];exact hz) (Nat.zero_le _))))
  obtain ⟨e1,ho1⟩ : ∃ e1,(s.heap.update a (Obj.mapSeq fun _ => #[])).get? a=some (seqObj "list" #[] e1):=⟨_,get?_update_seq ho (fun _ => #[])⟩
  refine wpAny_bind (seqEpoch_at ho1 rfl (wpAny_bind (wpAny_newTuple (wpAny_bind (wpAny_newList (wpAny_holding ?_))))))
  have ho6:(((s.heap.update a (Obj.mapSeq fun _ => #[])).push (seqObj "tuple" vs.toArray 0)).push (seqObj "list" #[] 0)).get? a=some (seqObj "list" #[] e1):=by
    have l1:a≠((s.heap.update a (Obj.mapSeq fun _ => #[])).push (seqObj "tuple" vs.toArray 0)).objs.size:=by rw [size_push',Heap.size_update];exact Nat.ne_of_lt (Nat.lt_succ_of_lt ha)
    have l2:a≠(s.heap.update a (Obj.mapSeq fun _ => #[])).objs.size:=by rw [Heap.size_update];exact Nat.ne_of_lt ha
    rw [Heap.get?_push_ne _ _ _ l1,Heap.get?_push_ne _ _ _ l2];exact ho1
  show wpAny (model prog w) A _ P E { s with heap:=((s.heap.update a (Obj.mapSeq fun _ => #[])).push (seqObj "tuple" vs.toArray 0)).push (seqObj "list" #[] 0) }
  dsimp only
  have h2 : ¬ vs.toArray.size<2:=by rw [List.size_toArray];omega
  rw [if_neg h2,if_neg h2]
  obtain ⟨v1,v2,rest,rfl⟩ : ∃ v1 v2 rest,vs=v1 :: v2 :: rest:=by
    match vs,h64 with
    | [],h=>simp at h
    | [_],h=>simp at h
    | v1 :: v2 :: rest,_=>exact ⟨v1,v2,rest,rfl⟩
  rw [keyKind_ints hI]
  letI:=intKO
  haveI:KL prog w A ({ s with heap:=((s.heap.update a (Obj.mapSeq fun _ => #[])).push (seqObj "tuple" (v1 :: v2 :: rest).toArray 0)).push (seqObj "list" #[] 0) } : Shared):=intKL
  have hK:∀ x∈pairsOf (v1 :: v2 :: rest),IsK x:=fun x hx=>hI.intKeys x (Array.mem_toList_iff.mpr hx)
  refine wpAny_bind (wpAny_pure (wpAny_bind (wpAny_mono (wpS_runs (a₀:=pairsOf (v1 :: v2 :: rest)) (st:=SortSt.mk' oneType' ((v1 :: v2 :: rest).toArray.zip (v1 :: v2 :: rest).toArray) #[] 7 none)
    (Q:=fun _ st'=>(arrOf st').Perm (pairsOf (v1 :: v2 :: rest))∧failedOf st'=none∧SortedTo (arrOf st') (pairsOf (v1 :: v2 :: rest)).size) hK ⟨rfl,rfl⟩ (Array.Perm.refl _) rfl (by rw [pairsOf_size];omega) fun st' a1 a2 a3=>⟨a1,a2,a3⟩) ?_ fun _ _ e=>e)))
  rintro ⟨⟨⟩,st'⟩ s' ⟨rfl,hp,hf,hs⟩
  dsimp only
  have hfin:((arrOf st').map (·.2)).size≤sizeLine+1:=by rw [Array.size_map,hp.size_eq,pairsOf_size];omega
  refine wpAny_bind (seqEpoch_at ho6 rfl (wpAny_bind (listUpdate_at ho6 rfl ?_ (Nat.zero_le _) hfin)))
  rw [hf]
  simp only [bne_self_eq_false,Bool.false_eq_true,if_false]
  obtain ⟨ns',b1,b2,b3⟩:=sorted_out hI hp hs
  exact wpAny_pure (h _ ns' b1 b2 b3)
end
end OS
namespace L2
open PySem PySem.Spec PyProof.Rows
def Tups (H:Hp) : List Addr→List (Int × Int)→Prop:=Paired fun p t=>H p=some (.tup [.int t.1,.int t.2])
theorem Tups.length {H:Hp}{ps:List Addr}{l:List (Int × Int)} (h:Tups H ps l) : ps.length=l.length:=Paired.length h
theorem Tups.keep {H H':Hp}{ps:List Addr}{l:List (Int × Int)} (h:Tups H ps l) (k:∀ b xs,H b=some (.tup xs)→H' b=some (.tup xs)) : Tups H' ps l:=Paired.mapP h fun p t e=>k p _ e
theorem Tups.at:∀ {H:Hp}{ps:List Addr}{l:List (Int × Int)}{i:Nat}{t:Int × Int},Tups H ps l→l[i]? = some t→∃ p,ps[i]? = some p∧H p=some (.tup [.int t.1,.int t.2])
  | _,_,_,_,_,.nil,e=>by simp at e
  | _,_,_,0,_,.cons r _,e=>by simp at e;subst e;exact ⟨_,rfl,r⟩
  | _,_,_,i+1,t,.cons _ q,e=>by
    obtain ⟨p,h1,h2⟩:=Tups.at (i:=i) (t:=t) q (by simpa using e)
    exact ⟨p,by simpa using h1,h2⟩
theorem Tups.at' {H:Hp}{ps:List Addr}{l:List (Int × Int)}{i:Nat}{p:Addr} (h:Tups H ps l) (e:ps[i]? = some p) : ∃ t,l[i]? = some t∧H p=some (.tup [.int t.1,.int t.2]):=by
  have hi:i<l.length:=by
    have:=(List.getElem?_eq_some_iff.mp e).1
    have:=h.length
    omega
  obtain ⟨q,h1,h2⟩:=h.at (i:=i) (t:=l[i]) (by simp [hi])
  rw [e] at h1
  cases h1
  exact ⟨l[i],by simp [hi],h2⟩
theorem Tups.append:∀ {H:Hp}{ps qs:List Addr}{l m:List (Int × Int)},Tups H ps l→Tups H qs m→Tups H (ps++qs) (l++m)
  | _,_,_,_,_,.nil,s=>s
  | _,_,_,_,_,.cons r t,s => .cons r (Tups.append t s)
theorem Tups.snoc {H:Hp}{ps:List Addr}{l:List (Int × Int)}{p:Addr}{t:Int × Int} (h:Tups H ps l) (e:H p=some (.tup [.int t.1,.int t.2])) : Tups H (ps ++ [p]) (l ++ [t]):=Tups.append h (.cons e .nil)
def TL (K:PySem.W.Frag) (H:Hp) (a:Addr) (l:List (Int × Int)) : Prop := ∃ ps:List Addr,SqL K H a (ps.map V.ref)∧Tups H ps l
def TLo (H:Hp) (a:Addr) (l:List (Int × Int)) : Prop := ∃ ps:List Addr,H a=some (.lst (ps.map V.ref))∧Tups H ps l
theorem TLo.tl {K:PySem.W.Frag}{H:Hp}{a:Addr}{l:List (Int × Int)} (h:TLo H a l) : TL K H a l:=let ⟨ps,h1,h2⟩:=h; ⟨ps,.of h1,h2⟩
theorem TLo.keep {H H':Hp}{a:Addr}{l:List (Int × Int)} (h:TLo H a l) (k:Same H H') : TLo H' a l:=let ⟨ps,h1,h2⟩:=h; ⟨ps,k _ _ h1,h2.keep fun b xs e=>k b _ e⟩
def SameX (p:Addr) (H H':Hp) : Prop := ∀ b o,H b=some o→b≠p→H' b=some o
theorem Same.upd {p:Addr}{H:Hp}{o:HO} (h:H p=none) : Same H (upd H p o):=fun c o' e=>by rw [upd_ne (ne_of_none e h)];exact e
section
variable {X:Cx}{pins:List (Addr × Obj)} {σ : St}{H:Hp}{s:Shared}
end
section
variable {X:Cx}
theorem call_sortedD (hc:X.calm=true) : CallR X (.builtin "sorted") (fun xs H Q => ∃ (a:Addr) (kvs:List (Key × V)) (ks:List Int),xs=[.ref a]∧H a=some (.dK kvs)∧kvs.map (·.1)=ks.map Sum.inl ∧
    ∀ (l:Addr) (ks':List Int),H l=none→ks'.Perm ks→ks'.Pairwise (· ≤ ·)→Q (.ref l) (upd H l (.lst (ks'.map V.int)))):=by
  intro pins s σ H xs us Q I r h
  obtain ⟨a,kvs,ks,rfl,hH,hks,q⟩:=h
  obtain ⟨u,rfl,ru⟩:=vals1 r
  cases (show u=Value.ref a from ru)
  obtain ⟨z,hd,vs,rel,dd⟩:=dk_of I.hok hH
  obtain ⟨ep,hat⟩:=dd.dictAt
  have hlen:vs.length=ks.length:=by
    have e1:=rel.length
    have e2:=congrArg List.length hks
    rw [List.length_map,List.length_map] at e2
    omega
  refine Calls.call_function_entry kind_sorted plain_sorted entry_sorted (args_sorted1 _) ?_
  unfold Builtin.«sorted»
  refine wpAny_bind (m:=checkCount "sorted" 1 1 _) (wpAny_pure ?_)
  refine wpAny_bind (PySem.W.kdu_collect (A:=X.A.in1) (PySem.W.kdl_dict (knd:=mixKind X.prog X.w) (kvs:=vs) (ep:=ep) hd) (I.ok.hd hc) hat (by rw [← rel.length];exact z) fun h' tk acc hk hacc => ?_)
  have hal:acc.toList.length=vs.length:=by rw [Array.length_toList];exact hacc.1
  have hkeys:vs.map (·.1)=ks.map Sum.inl:=rel.keys.symm.trans hks
  have hI:IntsAre acc.toList ks:=by
    refine intsAre_of ?_
    have hall:∀ (j:Nat) (v:Value),acc.toList[j]? = some v→∃ k,ks[j]? = some k∧∃ t,v=Value.int k t:=fun j v e=>by
      obtain ⟨k,x,hx,hik⟩:=hacc.2 j v (by rw [← Array.getElem?_toList];exact e)
      have e1:(vs.map (·.1))[j]? = some k:=by rw [List.getElem?_map,hx];rfl
      rw [hkeys,List.getElem?_map] at e1
      cases e2:ks[j]? with
      | none=>rw [e2] at e1;cases e1
      | some k' =>
        rw [e2] at e1
        have e3:Sum.inl k'=k:=Option.some.inj e1
        subst e3
        exact ⟨k',rfl,Value.isInt_shape hik⟩
    have go:∀ (zs:List Value) (ns:List Int),zs.length=ns.length→(∀ (j:Nat) (v:Value),zs[j]? = some v→∃ k,ns[j]? = some k∧∃ t,v=Value.int k t)→Vals (ns.map V.int) zs:=by
      intro zs
      induction zs with
      | nil=>intro ns hl _;cases ns with
        | nil=>exact .nil
        | cons _ _=>simp at hl
      | cons v r ih=>intro ns hl hv;cases ns with
        | nil=>simp at hl
        | cons n ns =>
          obtain ⟨k,e1,e2⟩:=hv 0 v rfl
          have e3:n=k:=by simpa using e1
          subst e3
          exact .cons e2 (ih ns (by simpa using hl) fun j w e=>by simpa using hv (j+1) w (by simpa using e))
    exact go acc.toList ks (by omega) hall
  refine wpAny_bind (wpAny_newList ?_ (by rw [hal,← rel.length];exact z))
  have hoL:(h'.push (seqObj "list" acc.toList.toArray 0)).get? h'.objs.size=some (seqObj "list" acc.toList.toArray 0):=Heap.get?_push_size _ rfl
  show wpAny _ _ _ _ _ { s with heap:=h'.push (seqObj "list" acc.toList.toArray 0),toks:=tk }
  refine wpAny_bind (wpAny_holding (wpAny_call_entry slot_list_sort ⟨_,hoL,rfl⟩ entry_list_sort (OS.sort_any hoL hI (by rw [hal,← rel.length];exact z) fun out ns' a1 a2 a3=>⟨_,rfl,?_⟩) (args_list_sort _)))
  have nD:s.heap.get? h'.objs.size=none:=by
    cases e:s.heap.get? h'.objs.size with
    | none=>rfl
    | some o=>exact absurd (Heap.lt_size (hk _ _ e)) (Nat.lt_irrefl _)
  have keep:∀ b o,s.heap.get? b=some o→(sortedHeap (h'.push (seqObj "list" acc.toList.toArray 0)) h'.objs.size acc.toList out).get? b=some o:=fun b o e=>by
    have hlt:=Heap.lt_size (hk _ _ e)
    rw [sortedHeap_old (Nat.ne_of_lt hlt) (by rw [size_push'];exact Nat.lt_succ_of_lt hlt)]
    exact Heap.get?_push_of_some _ (hk _ _ e)
  obtain ⟨ee,hat'⟩:=sortedHeap_at (out:=out) hoL
  have hH0:H h'.objs.size=none:=by
    cases e:H h'.objs.size with
    | none=>rfl
    | some o=>obtain ⟨ob,e'⟩:=(I.hok _ _ e).there;rw [nD] at e';cases e'
  have rv:Vals (ns'.map V.int) out.toList:=vals_ints a1
  have hnl:ns'.length=ks.length:=a2.length_eq
  exact wpAny_pure ⟨_,rfl,⟨.ref h'.objs.size,_,I.laidN (o := .lst (ns'.map V.int)) (t':=tk) keep nD ⟨by rw [List.length_map,hnl,← hlen,← rel.length];exact z,out.toList,ee,rv,by simpa using hat'⟩,rfl,q _ ns' hH0 a2 a3⟩⟩
end
end L2
namespace L2
open PySem PySem.Spec PyProof.Rows
theorem bits_of_weight:∀ (ns:List Int),PySem.W.WData.weightAll (ns.map PySem.W.WData.int)≤2^20→∀ n∈ns,Builtin.Int.intBits n≤2^20
  | [],_,_,h=>by simp at h
  | m :: r,hw,n,hn=>by
    have e:PySem.W.WData.weightAll ((m :: r).map PySem.W.WData.int)=PySem.W.WData.weight (.int m)+1+PySem.W.WData.weightAll (r.map PySem.W.WData.int):=rfl
    rw [e] at hw
    rcases List.mem_cons.mp hn with z | z
    · subst z
      have e2:PySem.W.WData.weight (.int n)=if n == 0 then 0 else n.natAbs.log2+1:=rfl
      rw [e2] at hw
      unfold Builtin.Int.intBits
      split at hw <;> split <;> simp_all <;> omega
    · exact bits_of_weight r (by omega) n z
theorem walk_ofB {l:PySem.W.OpenLaw}{n k:Nat}{q:Program}{loose:List Str}{XP:(Str→Option Value)→Heap→Prop}{YP:World→Heap→Prop}{d:DefRec}{K:Params→PySem.W.Frag}{CX:World→CXT}{sp:World→Sp}{x:Str}
    (hn:l.most=some n) (hn2:n≤sizeLine) (hdf:d.params.defaults=[]) (hr:Room k callerA)
    (hY:∀ (w:World) (h:Heap),YP w h→(K w.params).In h)
    (F:∀ (w:World) (mg:Str→Option Value) (fa:Addr) (h:Heap),(K w.params).In h→h.Ns mainGlobals mg→mg d.name=some (.ref fa) →
      ∃ fd:FuncData,(∀ (s:Shared) (u:Value),BindsTo s fd ⟨[u],[]⟩ [(x,u)]) ∧
        ∀ base:Heap,(K w.params).In base→base.Ns mainGlobals mg→FnOk l.prog w (K w.params) mg base (CX w) k fa fd [x] (sp w))
    (hsp:∀ (w:World) (H:Hp) (a:Addr) (ns:List Int),ns.length≤n→(∀ z∈ns,Builtin.Int.intBits z≤2^20)→Only H→SqL (K w.params) H a (ns.map V.int)→sp w [.ref a] H (fun v _=>v = .bl true) fun _ _ _=>False)
    (hCX:∀ (w:World) (H:Hp) (s:Shared) (e:Value) (s':Shared),CX w [] H s (fun _ _ _=>False) e s'→False) :
    PySem.W.WalkO q loose XP YP l.row.toRowW d [] (fun f vs=>PySem.call f vs):=by
  intro w s₀ s₁ mg mb G Y fa o pm cd doc dV kV ho hd hcd hD hmg hg args vals as hpre hlay hrd hwl hlo
  obtain rfl:dV = .none:=PySem.W.Dflts.none hD hdf
  obtain rfl:kV = .none:=PySem.W.Dflts.noKw hD
  obtain ⟨a,vs,ns,rfl,rfl,hobj,hints,hlen⟩:=Att.script_of hn hpre hwl
  have hbits:∀ z∈ns,Builtin.Int.intBits z≤2^20:=by
    have h1:(PySem.W.WData.list (ns.map PySem.W.WData.int)).layable=true:=List.all_eq_true.mp hlay _ (by simp)
    have h2:=of_decide_eq_true (Bool.and_eq_true_iff.mp h1).2
    exact bits_of_weight ns h2
  have KX:=hY w _ Y
  obtain ⟨fd,hb,hF⟩:=F w mg fa _ KX G.T.g hmg
  refine PySem.W.enter_call (codeAny_mono (law_call KX G.T.g G.T.b G.T.builtins G.T.nolimit hg hobj hints (Nat.le_trans hlen hn2) hr hF hb (fun H hO hS=>hsp w H a ns hlen hbits hO hS) fun H e s'=>hCX w H s₁ e s') fun r s' hq => ?_)
  obtain ⟨rfl,h2,h3,h4⟩:=hq
  exact ⟨.inl ⟨.bool true,.bool true,[],rfl,fun _=>rfl,.bool true,Att.post_true l _,fun _=>⟨List.Pairwise.nil,fun _ hm=>(nomatch hm)⟩⟩,h2,h3,h4⟩
def encP (p:Int × Int) : Key × V:=(Sum.inl p.1,V.int p.2)
theorem valV_enc (k:Int) : ∀ d:OF.Terms,valV (d.map encP) (Sum.inl k)=(OF.look d k).map V.int
  | []=>rfl
  | p :: r=>by
    rw [List.map_cons,OF.look]
    by_cases e:p.1=k
    · rw [valV_pos (show (encP p).1=Sum.inl k by simp [encP,e]),if_pos e];rfl
    · rw [valV_neg (show ¬ (encP p).1=Sum.inl k by simp [encP,e]),if_neg e]
      exact valV_enc k r
theorem putK_enc (d:OF.Terms) (k v:Int) : putK (d.map encP) (Sum.inl k:Key) (V.int v)=(OF.putI d k v).map encP:=by
  unfold putK OF.putI
  rw [valV_any,valV_enc,OF.look_any,Option.isSome_map]
  split
  · rw [List.map_map,List.map_map]
    congr 1
    funext p
    simp only [Function.comp,encP]
    by_cases e:p.1=k
    · simp [e]
    · simp [e]
  · rw [List.map_append];rfl
theorem keys_enc (d:OF.Terms) : (d.map encP).map (·.1)=(d.map (·.1)).map Sum.inl:=by
  rw [List.map_map,List.map_map];rfl
theorem push_tup {H:Hp}{a t:Addr}{ps:List Addr}{l:OF.Terms}{x y:Int} (ha:H a=some (.lst (ps.map V.ref))) (ht:Tups H ps l) (hn:H t=none) :
    TLo (upd (upd H t (.tup [.int x,.int y])) a (.lst (ps.map V.ref ++ [V.ref t]))) a (l ++ [(x,y)])∧∀ b o,H b=some o→b≠a→upd (upd H t (.tup [.int x,.int y])) a (.lst (ps.map V.ref ++ [V.ref t])) b=some o:=by
  have hta:t≠a:=(ne_of_none ha hn).symm
  refine ⟨⟨ps ++ [t],by rw [upd_same,List.map_append];rfl,Tups.snoc (ht.keep fun b xs e => ?_) (by rw [upd_ne hta,upd_same])⟩,fun b o e hb => ?_⟩
  · rw [upd_ne (ne_of e ha (by intro z;cases z)),upd_ne (ne_of_none e hn)];exact e
  · rw [upd_ne hb,upd_ne (ne_of_none e hn)];exact e
end L2
namespace OF
open PySem
theorem bitOr_pp {x y:Int} (hx : 0≤x) (hy : 0≤y) : Builtin.bitOr x y=((x.toNat ||| y.toNat:Nat) : Int):=by
  have n1 : ¬ 0≤Builtin.bitNot x:=by unfold Builtin.bitNot;omega
  have n2 : ¬ 0≤Builtin.bitNot y:=by unfold Builtin.bitNot;omega
  have e:∀ z:Int,Builtin.bitNot (Builtin.bitNot z)=z:=fun z=>by unfold Builtin.bitNot;omega
  unfold Builtin.bitOr
  rw [PyProof.Rows.bitAnd_nn n1 n2,e,e,e]
theorem add_pow_of_nobit {z i:Nat} (h:z / 2^i % 2=0) : z+2^i=z ||| 2^i:=by
  have hb:z % 2^i<2^i:=Nat.mod_lt _ (Nat.two_pow_pos i)
  have hz:z=2^(i+1) * (z / 2^(i+1))+z % 2^i:=by
    have h1:=Nat.div_add_mod z (2^(i+1))
    have h2:z % 2^(i+1)=z % 2^i+2^i * (z / 2^i % 2):=Nat.mod_pow_succ
    rw [h,Nat.mul_zero,Nat.add_zero] at h2
    omega
  generalize z / 2^(i+1)=a at hz
  generalize z % 2^i=b at hz hb
  have hp : 2^i+b<2^(i+1):=by rw [Nat.pow_succ];omega
  have hb':b<2^(i+1):=by omega
  have e1:z+2^i=2^(i+1) * a+(2^i+b):=by omega
  have e2 : 2^i+b=2^i ||| b:=by
    have:=Nat.two_pow_add_eq_or_of_lt hb 1
    rw [Nat.mul_one] at this;exact this
  rw [e1,hz,Nat.two_pow_add_eq_or_of_lt hp,Nat.two_pow_add_eq_or_of_lt hb',e2,Nat.or_assoc,Nat.or_comm b]
def orAll:List (Int × Int)→Nat→Nat
  | [],a=>a
  | t :: r,a=>orAll r (a ||| t.1.toNat)
theorem orAll_snoc:∀ (l:List (Int × Int)) (t:Int × Int) (a:Nat),orAll (l ++ [t]) a=orAll l a ||| t.1.toNat
  | [],_,_=>rfl
  | p :: r,t,a=>orAll_snoc r t _
def worthL (l:List (Int × Int)) (g:Int) : Int:=((l.filter fun t=>decide (Builtin.bitAnd t.1 g=t.1)).map (·.2)).sum
theorem worthL_snoc (l:List (Int × Int)) (t:Int × Int) (g:Int) : worthL (l ++ [t]) g=worthL l g+if Builtin.bitAnd t.1 g=t.1 then t.2 else 0:=by
  unfold worthL
  rw [List.filter_append,List.map_append,List.sum_append]
  by_cases h:Builtin.bitAnd t.1 g=t.1
  · rw [if_pos h];simp [h]
  · rw [if_neg h];simp [h]
end OF
namespace L2
open PySem PySem.Spec PyProof.Rows
theorem kit_same {K:PySem.W.Frag}{t:Value} : PySem.W.kitOne K t t=some true:=by
  unfold PySem.W.kitOne
  rw [beq_self_eq_true]
  rfl
theorem kit_int_bool {K:PySem.W.Frag} : PySem.W.kitOne K (.type "int") (.type "bool")=some false:=by
  unfold PySem.W.kitOne
  rw [if_neg (by decide +kernel)]
  show (if PySem.W.kitMeta "bool" = true then (fastBuiltinMro "int").map (·.contains (Value.type "bool")) else none)=some false
  decide +kernel
theorem iteN {c A B:Prop} [Decidable c] (h : ¬ c) (b:B) : if c then A else B:=by rw [if_neg h];exact b
theorem iteY {c A B:Prop} [Decidable c] (h:c) (a:A) : if c then A else B:=by rw [if_pos h];exact a
theorem CompSc.of {X:Cx}{scope:Scope}{N':List Str}{nT:Nat}{js:List Nat} (sc₀:Scope) (N₀:List Str) (h1:X.env.scope=sc₀) (h2:X.N=N₀) (hk:scope.kind = .function)
    (hall:(scope.names.all fun y=>y.2 != .cell && (y.2 != .local || scope.names.lookup y.1 == some .local) && (y.2 != .free || sc₀.names.lookup y.1 == some .cell))=true)
    (hlen:N'.length=nT+js.length) (hf:(js.map fun j=>N₀[j]?)=(N'.drop nT).map some) (hv:((N'.drop nT).all fun x=>scope.names.lookup x == some .free)=true) : CompSc X scope N' nT js:=by
  have hall':=List.all_eq_true.mp hall
  refine ⟨hk,fun y hy e => ?_,fun y hy e => ?_,hlen,fun k j x e1 e2 => ?_,fun y hy e => ?_,fun x hx => ?_⟩
  · have:=hall' y hy;rw [e] at this;simp at this
  · have:=hall' y hy;rw [e] at this;simp at this;exact this
  · have e3:(js.map fun j=>N₀[j]?)[k]? = some (N₀[j]?):=by rw [List.getElem?_map,e1];rfl
    rw [hf,List.getElem?_map,List.getElem?_drop,e2] at e3
    rw [h2]
    exact (Option.some.inj e3).symm
  · have:=hall' y hy;rw [e] at this;simp at this;rw [h1];exact this
  · have:=List.all_eq_true.mp hv x hx;simpa using this
end L2
namespace L2
open PySem PySem.Spec PyProof.Rows
section
variable {X:Cx}{e st:Expr}{te:TE}{to:TO}{p2 pos:Pos}
end
end L2
namespace OF
end OF
namespace L2
open PySem PySem.Spec PyProof.Rows
inductive D where
  | non | bl (b:Bool) | int (n:Int) | str (x:Str) | tup (ds:List D) | lst (ds:List D)
mutual
def Is (H:Hp) : V→D→Prop
  | v,.non=>v = .non
  | v,.bl b=>v = .bl b
  | v,.int n=>v = .int n
  | v,.str x=>v = .str x
  | v,.tup ds => ∃ a xs,v = .ref a∧H a=some (.tup xs)∧IsDs H xs ds
  | v,.lst ds => ∃ a xs,v = .ref a∧H a=some (.lst xs)∧IsDs H xs ds
def IsDs (H:Hp) : List V→List D→Prop
  | xs,[]=>xs=[]
  | xs,d :: ds => ∃ x r,xs=x :: r∧Is H x d∧IsDs H r ds
end
theorem IsDs.length {H:Hp} : ∀ {xs:List V}{ds:List D},IsDs H xs ds→xs.length=ds.length
  | xs,[],h=>by unfold IsDs at h;rw [h];rfl
  | xs,d :: ds,h=>by
    unfold IsDs at h
    obtain ⟨x,r,rfl,_,h2⟩:=h
    rw [List.length_cons,List.length_cons,IsDs.length h2]
theorem IsDs.at {H:Hp} : ∀ {xs:List V}{ds:List D}{i:Nat}{d:D},IsDs H xs ds→ds[i]? = some d→∃ x,xs[i]? = some x∧Is H x d
  | xs,[],i,d,h,e=>by simp at e
  | xs,d' :: ds,0,d,h,e=>by
    unfold IsDs at h
    obtain ⟨x,r,rfl,h1,h2⟩:=h
    have:d'=d:=by simpa using e
    subst this
    exact ⟨x,rfl,h1⟩
  | xs,d' :: ds,i+1,d,h,e=>by
    unfold IsDs at h
    obtain ⟨x,r,rfl,h1,h2⟩:=h
    obtain ⟨x',e1,e2⟩:=IsDs.at (i:=i) (d:=d) h2 (by simpa using e)
    exact ⟨x',by simpa using e1,e2⟩
def b2i (b:Bool) : Int:=if b then 1 else 0
mutual
def deq:D→D→Bool
  | .non,.non=>true
  | .bl a,.bl b=>a == b
  | .bl a,.int n=>b2i a == n
  | .int n,.bl a=>n == b2i a
  | .int n,.int m=>n == m
  | .str x,.str y=>x == y
  | .tup ds,.tup es=>deqL ds es
  | .lst ds,.lst es=>deqL ds es
  | _,_=>false
def deqL:List D→List D→Bool
  | [],[]=>true
  | d :: ds,e :: es=>deq d e && deqL ds es
  | _,_=>false
end
mutual
def dep:D→Nat
  | .tup ds=>depL ds+1
  | .lst ds=>depL ds+1
  | _=>0
def depL:List D→Nat
  | []=>0
  | d :: ds=>max (dep d) (depL ds)
end
theorem depL_mem:∀ {ds:List D}{j:Nat}{d:D},ds[j]? = some d→dep d≤depL ds
  | [],j,d,e=>by simp at e
  | d' :: ds,0,d,e=>by
    have:d'=d:=by simpa using e
    subst this
    unfold depL;omega
  | d' :: ds,j+1,d,e=>by
    have:=depL_mem (ds:=ds) (j:=j) (d:=d) (by simpa using e)
    rw [depL];omega
theorem deq_tup (ds es:List D) : deq (.tup ds) (.tup es)=deqL ds es:=rfl
theorem deq_lst (ds es:List D) : deq (.lst ds) (.lst es)=deqL ds es:=rfl
theorem deqL_cons (d e:D) (ds es:List D) : deqL (d :: ds) (e :: es)=(deq d e && deqL ds es):=rfl
def eqJ (ds es:List D) (j:Nat) : Bool:=match ds[j]?,es[j]? with
  | some d,some e=>deq d e
  | _,_=>false
theorem deqL_all:∀ (ds es:List D),deqL ds es=((List.range (min ds.length es.length)).all (eqJ ds es) && (ds.length == es.length))
  | [],[]=>rfl
  | [],e :: es=>by show false=_;simp
  | d :: ds,[]=>by show false=_;simp
  | d :: ds,e :: es=>by
    have ih:=deqL_all ds es
    rw [deqL_cons,ih,List.length_cons,List.length_cons,Nat.add_min_add_right,List.range_succ_eq_map,List.all_cons,List.all_map]
    have e1:eqJ (d :: ds) (e :: es) 0=deq d e:=rfl
    have e2:(eqJ (d :: ds) (e :: es)) ∘ Nat.succ=eqJ ds es:=by funext j;rfl
    rw [e1,e2,Bool.and_assoc]
    congr 2
    simp
theorem deqL_len {ds es:List D} (h:ds.length≠es.length) : deqL ds es=false:=by
  rw [deqL_all]
  have:(ds.length == es.length)=false:=by simpa using h
  rw [this,Bool.and_false]
mutual
theorem deq_self:∀ d:D,deq d d=true
  | .non=>rfl
  | .bl b=>by show (b == b)=true;simp
  | .int n=>by show (n == n)=true;simp
  | .str x=>by show (x == x)=true;simp
  | .tup ds=>deqL_self ds
  | .lst ds=>deqL_self ds
theorem deqL_self:∀ ds:List D,deqL ds ds=true
  | []=>rfl
  | d :: ds=>by rw [deqL_cons,deq_self d,deqL_self ds];rfl
end
mutual
theorem Is.inj {H:Hp} : ∀ {v:V}{d e:D},Is H v d→Is H v e→d=e
  | v,.non,e,h,h'=>by
    unfold Is at h;subst h
    cases e <;> unfold Is at h' <;> first | rfl | (cases h';done) | (obtain ⟨_,_,z,_⟩:=h';cases z)
  | v,.bl b,e,h,h'=>by
    unfold Is at h;subst h
    cases e <;> unfold Is at h' <;> first | (cases h';rfl) | (cases h';done) | (obtain ⟨_,_,z,_⟩:=h';cases z)
  | v,.int n,e,h,h'=>by
    unfold Is at h;subst h
    cases e <;> unfold Is at h' <;> first | (cases h';rfl) | (cases h';done) | (obtain ⟨_,_,z,_⟩:=h';cases z)
  | v,.str x,e,h,h'=>by
    unfold Is at h;subst h
    cases e <;> unfold Is at h' <;> first | (cases h';rfl) | (cases h';done) | (obtain ⟨_,_,z,_⟩:=h';cases z)
  | v,.tup ds,e,h,h'=>by
    unfold Is at h
    obtain ⟨a,xs,rfl,h1,h2⟩:=h
    cases e with
    | tup es =>
      unfold Is at h'
      obtain ⟨b,ys,z,g1,g2⟩:=h'
      cases z
      rw [h1] at g1
      cases g1
      rw [IsDs.inj h2 g2]
    | lst es =>
      unfold Is at h'
      obtain ⟨b,ys,z,g1,g2⟩:=h'
      cases z
      rw [h1] at g1
      cases g1
    | _=>unfold Is at h';cases h'
  | v,.lst ds,e,h,h'=>by
    unfold Is at h
    obtain ⟨a,xs,rfl,h1,h2⟩:=h
    cases e with
    | lst es =>
      unfold Is at h'
      obtain ⟨b,ys,z,g1,g2⟩:=h'
      cases z
      rw [h1] at g1
      cases g1
      rw [IsDs.inj h2 g2]
    | tup es =>
      unfold Is at h'
      obtain ⟨b,ys,z,g1,g2⟩:=h'
      cases z
      rw [h1] at g1
      cases g1
    | _=>unfold Is at h';cases h'
theorem IsDs.inj {H:Hp} : ∀ {xs:List V}{ds es:List D},IsDs H xs ds→IsDs H xs es→ds=es
  | xs,[],es,h,h'=>by
    unfold IsDs at h
    subst h
    cases es with
    | nil=>rfl
    | cons e es=>unfold IsDs at h';obtain ⟨_,_,z,_⟩:=h';cases z
  | xs,d :: ds,es,h,h'=>by
    unfold IsDs at h
    obtain ⟨x,r,rfl,h1,h2⟩:=h
    cases es with
    | nil=>unfold IsDs at h';cases h'
    | cons e es =>
      unfold IsDs at h'
      obtain ⟨x',r',z,g1,g2⟩:=h'
      cases z
      rw [Is.inj h1 g1,IsDs.inj h2 g2]
end
section
variable {X:Cx}{pins:List (Addr × Obj)} {σ : St}{H:Hp}{s:Shared}
structure CmpAt (A:Around) (s:Shared) (u w:Value) (b:Bool) : Prop where
  rc:SeqAt.RcAt A s u w b
  ne:SeqAt.RcNeAt A s u w (!b)
theorem its_at {xs:List V}{its:List Value}{ds:List D} (r:Vals xs its) (h:IsDs H xs ds) {j:Nat} (hj:j<its.toArray.size) : ∃ d x,ds[j]? = some d∧Is H x d∧RelV x its.toArray[j]:=by
  have hj':j<its.length:=by simpa using hj
  have l1:=r.length
  have l2:=h.length
  have ed:ds[j]? = some ds[j]:=by simp [show j<ds.length by omega]
  obtain ⟨x,ex,hx⟩:=h.at ed
  obtain ⟨u,eu,ru⟩:=r.get ex
  refine ⟨_,x,ed,hx,?_⟩
  rw [List.getElem?_eq_getElem hj'] at eu
  have:its.toArray[j]=u:=by simpa using Option.some.inj eu
  rw [this];exact ru
inductive Kd (s:Shared) (H:Hp) : Value→D→Prop where
  | none:Kd s H .none .non
  | bool (b:Bool) : Kd s H (.bool b) (.bl b)
  | int (n:Int) (t:Tok) : Kd s H (.int n t) (.int n)
  | str (x:Str) (t:Tok) : Kd s H (.str x t) (.str x)
  | tuple {a:Addr}{xs:List V}{its:List Value}{ds:List D} (h:H a=some (.tup xs)) (r:Vals xs its) (p:s.heap.IsTuple a its.toArray) (q:IsDs H xs ds) : Kd s H (.ref a) (.tup ds)
  | list {a:Addr}{xs:List V}{its:List Value}{ds:List D} (h:H a=some (.lst xs)) (r:Vals xs its) (p:s.heap.IsList a its.toArray) (q:IsDs H xs ds) : Kd s H (.ref a) (.lst ds)
theorem kd_of (I:Inv X pins σ H s) {v:V}{u:Value}{d:D} (h:Is H v d) (r:RelV v u) : Kd s H u d:=by
  cases d with
  | non=>unfold Is at h;subst h;cases (show u=Value.none from r);exact .none
  | bl b=>unfold Is at h;subst h;cases (show u=Value.bool b from r);exact .bool b
  | int n=>unfold Is at h;subst h;obtain ⟨t,e⟩:=(show ∃ t,u=Value.int n t from r);cases e;exact .int n t
  | str x=>unfold Is at h;subst h;obtain ⟨t,e⟩:=(show ∃ t,u=Value.str x t from r);cases e;exact .str x t
  | tup ds =>
    unfold Is at h
    obtain ⟨a,xs,rfl,h1,h2⟩:=h
    cases (show u=Value.ref a from r)
    obtain ⟨_,its,r1,t1⟩:=(show ObjOk X.prog X.w H s.heap a (.tup xs) from I.hok a _ h1)
    exact .tuple h1 r1 t1 h2
  | lst ds =>
    unfold Is at h
    obtain ⟨a,xs,rfl,h1,h2⟩:=h
    cases (show u=Value.ref a from r)
    obtain ⟨its,r1,p1,_⟩:=I.list (SqL.of (K:=X.K) h1)
    exact .list h1 r1 p1.isList h2
def Sc:D→Prop
  | .tup _=>False
  | .lst _=>False
  | _=>True
set_option maxHeartbeats 4000000 in
theorem scalD {A:Around}{u u':Value}{d e:D} (hu:A.units<cLine) (k1:Kd s H u d) (hs:Sc d) (k2:Kd s H u' e) : CmpAt A s u u' (deq d e)∧SeqAt.EqAt A s u u' (deq d e):=by
  cases k1 with
  | tuple=>exact hs.elim
  | list=>exact hs.elim
  | none  =>
    cases k2 with
    | none  => exact ⟨⟨.none_none ,.none_none ⟩,SeqAt.EqAt.same _⟩
    | bool c=>exact ⟨⟨.none_bool c,.none_bool c⟩,.none_bool c⟩
    | int k v=>exact ⟨⟨.none_int k v,.none_int k v⟩,.none_int k v⟩
    | str y v=>exact ⟨⟨.none_str y v,.none_str y v⟩,.none_str y v⟩
    | list h r p q=>exact ⟨⟨.none_list  p hu,.none_list  p hu⟩,.none_list  p hu⟩
    | tuple h r p q=>exact ⟨⟨.none_tuple  p hu,.none_tuple  p hu⟩,.none_tuple  p hu⟩
  | bool b =>
    cases k2 with
    | none  => exact ⟨⟨.bool_none b,.bool_none b⟩,.bool_none b⟩
    | bool c=>exact ⟨⟨.bool_bool b c,.bool_bool b c⟩,.bool_bool b c⟩
    | int k v=>exact ⟨⟨.bool_int b k v,.bool_int b k v⟩,.bool_int b k v⟩
    | str y v=>exact ⟨⟨.bool_str b y v,.bool_str b y v⟩,.bool_str b y v⟩
    | list h r p q=>exact ⟨⟨.bool_list b p hu,.bool_list b p hu⟩,.bool_list b p hu⟩
    | tuple h r p q=>exact ⟨⟨.bool_tuple b p hu,.bool_tuple b p hu⟩,.bool_tuple b p hu⟩
  | int m t =>
    cases k2 with
    | none  => exact ⟨⟨.int_none m t,.int_none m t⟩,.int_none m t⟩
    | bool c=>exact ⟨⟨.int_bool m t c,.int_bool m t c⟩,.int_bool m t c⟩
    | int k v=>exact ⟨⟨.int_int m t k v,.int_int m t k v⟩,.int_int m t k v⟩
    | str y v=>exact ⟨⟨.int_str m t y v,.int_str m t y v⟩,.int_str m t y v⟩
    | list h r p q=>exact ⟨⟨.int_list m t p hu,.int_list m t p hu⟩,.int_list m t p hu⟩
    | tuple h r p q=>exact ⟨⟨.int_tuple m t p hu,.int_tuple m t p hu⟩,.int_tuple m t p hu⟩
  | str x t =>
    cases k2 with
    | none  => exact ⟨⟨.str_none x t,.str_none x t⟩,.str_none x t⟩
    | bool c=>exact ⟨⟨.str_bool x t c,.str_bool x t c⟩,.str_bool x t c⟩
    | int k v=>exact ⟨⟨.str_int x t k v,.str_int x t k v⟩,.str_int x t k v⟩
    | str y v=>exact ⟨⟨.str_str x t y v,.str_str x t y v⟩,.str_str x t y v⟩
    | list h r p q=>exact ⟨⟨.str_list x t p hu,.str_list x t p hu⟩,.str_list x t p hu⟩
    | tuple h r p q=>exact ⟨⟨.str_tuple x t p hu,.str_tuple x t p hu⟩,.str_tuple x t p hu⟩
set_option maxHeartbeats 4000000 in
theorem cmp_at (I:Inv X pins σ H s) : ∀ (n:Nat) (d e:D) (A:Around) {u u':Value},dep d≤n→A.units+n<cLine→Kd s H u d→Kd s H u' e→CmpAt A s u u' (deq d e)∧SeqAt.EqAt A s u u' (deq d e):=by
  intro n
  induction n with
  | zero =>
    intro d e A u u' hd hu k1 k2
    cases k1 with
    | tuple=>unfold dep at hd;omega
    | list=>unfold dep at hd;omega
    | none=>exact scalD (by omega) .none trivial k2
    | bool b=>exact scalD (by omega) (.bool b) trivial k2
    | int m t=>exact scalD (by omega) (.int m t) trivial k2
    | str y t=>exact scalD (by omega) (.str y t) trivial k2
  | succ n ih =>
    intro d e A u u' hd hu k1 k2
    have hu0:A.units<cLine:=by omega
    have hu1:A.in1.units+n<cLine:=by show A.units+1+n<cLine;omega
    cases k1 with
    | @tuple a xs its ds h1 r1 p1 q1 =>
      cases k2 with
      | @tuple b ys its2 es h2 r2 p2 q2 =>
        have hdd:depL ds≤n:=by unfold dep at hd;omega
        have n1:its.length=ds.length:=by have:=r1.length;have:=q1.length;omega
        have n2:its2.length=es.length:=by have:=r2.length;have:=q2.length;omega
        have he:∀ j (g1:j<its.toArray.size) (g2:j<its2.toArray.size),SeqAt.EqAt A.in1 s its.toArray[j] its2.toArray[j] (eqJ ds es j):=fun j g1 g2=>by
          obtain ⟨d1,x1,e1,i1,v1⟩:=its_at r1 q1 g1
          obtain ⟨d2,x2,e2,i2,v2⟩:=its_at r2 q2 g2
          have e3:eqJ ds es j=deq d1 d2:=by unfold eqJ;rw [e1,e2]
          rw [e3]
          exact (ih d1 d2 A.in1 (Nat.le_trans (depL_mem e1) hdd) hu1 (kd_of I i1 v1) (kd_of I i2 v2)).2
        have ev:((List.range (min its.toArray.size its2.toArray.size)).all (eqJ ds es) && (its.toArray.size == its2.toArray.size))=deq (.tup ds) (.tup es):=by
          rw [List.size_toArray,List.size_toArray,n1,n2,deq_tup,deqL_all]
        have R1:=SeqAt.RcAt.tuples p1 p2 hu0 he
        have R2:=SeqAt.RcNeAt.tuples p1 p2 hu0 he
        rw [ev] at R1 R2
        refine ⟨⟨R1,R2⟩,?_⟩
        by_cases hab:a=b
        · subst hab
          rw [h1] at h2
          cases h2
          rw [IsDs.inj q1 q2,deq_self]
          exact SeqAt.EqAt.same _
        · exact SeqAt.EqAt.of_refs hab R1
      | @list b ys its2 es h2 r2 p2 q2=>exact ⟨⟨.tuple_list p1 p2 hu0,.tuple_list p1 p2 hu0⟩,.tuple_list p1 p2 hu0⟩
      | none=>exact ⟨⟨.tuple_none p1 hu0,.tuple_none p1 hu0⟩,.tuple_none p1 hu0⟩
      | bool b=>exact ⟨⟨.tuple_bool b p1 hu0,.tuple_bool b p1 hu0⟩,.tuple_bool b p1 hu0⟩
      | int m t=>exact ⟨⟨.tuple_int m t p1 hu0,.tuple_int m t p1 hu0⟩,.tuple_int m t p1 hu0⟩
      | str y t=>exact ⟨⟨.tuple_str y t p1 hu0,.tuple_str y t p1 hu0⟩,.tuple_str y t p1 hu0⟩
    | @list a xs its ds h1 r1 p1 q1 =>
      cases k2 with
      | @list b ys its2 es h2 r2 p2 q2 =>
        have hdd:depL ds≤n:=by unfold dep at hd;omega
        have n1:its.length=ds.length:=by have:=r1.length;have:=q1.length;omega
        have n2:its2.length=es.length:=by have:=r2.length;have:=q2.length;omega
        have R:CmpAt A s (.ref a) (.ref b) (deq (.lst ds) (.lst es)):=by
          by_cases hn:ds.length=es.length
          · have he:∀ j (g1:j<its.toArray.size) (g2:j<its2.toArray.size),SeqAt.EqAt A.in1 s its.toArray[j] its2.toArray[j] (eqJ ds es j):=fun j g1 g2=>by
              obtain ⟨d1,x1,e1,i1,v1⟩:=its_at r1 q1 g1
              obtain ⟨d2,x2,e2,i2,v2⟩:=its_at r2 q2 g2
              have e3:eqJ ds es j=deq d1 d2:=by unfold eqJ;rw [e1,e2]
              rw [e3]
              exact (ih d1 d2 A.in1 (Nat.le_trans (depL_mem e1) hdd) hu1 (kd_of I i1 v1) (kd_of I i2 v2)).2
            have hsz:its.toArray.size=its2.toArray.size:=by simp;omega
            have ev:(List.range its.toArray.size).all (eqJ ds es)=deq (.lst ds) (.lst es):=by
              rw [List.size_toArray,n1,deq_lst,deqL_all,hn,Nat.min_self];simp
            have R1:=SeqAt.RcAt.lists p1 p2 hsz hu0 he
            have R2:=SeqAt.RcNeAt.lists p1 p2 hsz hu0 he
            rw [ev] at R1 R2
            exact ⟨R1,R2⟩
          · have hsz:(its.toArray.size != its2.toArray.size)=true:=by simp;omega
            rw [deq_lst,deqL_len hn]
            exact ⟨SeqAt.RcAt.lists_lengths p1 p2 hsz hu0,SeqAt.RcNeAt.lists_lengths p1 p2 hsz hu0⟩
        refine ⟨R,?_⟩
        by_cases hab:a=b
        · subst hab
          rw [h1] at h2
          cases h2
          rw [IsDs.inj q1 q2,deq_self]
          exact SeqAt.EqAt.same _
        · exact SeqAt.EqAt.of_refs hab R.rc
      | @tuple b ys its2 es h2 r2 p2 q2=>exact ⟨⟨.list_tuple p1 p2 hu0,.list_tuple p1 p2 hu0⟩,.list_tuple p1 p2 hu0⟩
      | none=>exact ⟨⟨.list_none p1 hu0,.list_none p1 hu0⟩,.list_none p1 hu0⟩
      | bool b=>exact ⟨⟨.list_bool b p1 hu0,.list_bool b p1 hu0⟩,.list_bool b p1 hu0⟩
      | int m t=>exact ⟨⟨.list_int m t p1 hu0,.list_int m t p1 hu0⟩,.list_int m t p1 hu0⟩
      | str y t=>exact ⟨⟨.list_str y t p1 hu0,.list_str y t p1 hu0⟩,.list_str y t p1 hu0⟩
    | none=>exact scalD hu0 .none trivial k2
    | bool b=>exact scalD hu0 (.bool b) trivial k2
    | int m t=>exact scalD hu0 (.int m t) trivial k2
    | str y t=>exact scalD hu0 (.str y t) trivial k2
def rEqD (f:Bool→Bool) : R2:=fun x y H Q => ∃ d e,Is H x d∧Is H y e∧dep d≤60∧Q (.bl (f (deq d e))) H
theorem op_eqD (hu:X.A.units+60<cLine) : OpR X (compareOp .Eq) (rEqD id):=by
  intro pins s σ H x y v u Q I rx ry h
  obtain ⟨d,e,h1,h2,h3,q⟩:=h
  exact (cmp_at I 60 d e X.A h3 hu (kd_of I h1 rx) (kd_of I h2 ry)).1.rc _ _ _ _ ⟨.bl (deq d e),H,I,rfl,q⟩
theorem hu60 {A:Around}{k:Nat} (hr:Room k A) : A.units+60<cLine:=Nat.lt_of_le_of_lt (Nat.add_le_add_left (by decide : 60≤64) _) hr.units
end
end L2
namespace L2
open PySem PySem.Spec PyProof.Rows
section
variable {X:Cx}{st:Stmt}{sts:List Stmt}{t:TS}{e:Expr}{te:TE}
end
end L2
namespace L2
open PySem PySem.Spec PyProof.Rows
theorem ix_tupK {X:Cx} (K:PySem.W.Frag) (h:X.K=K) : IxR X (rIxT K):=by subst h;exact ix_tup
end L2
namespace My
open PySem L2 OF
theorem small6 {n:Nat} (h:n≤1000000) : n<sizeLine:=Nat.lt_of_le_of_lt h (by decide)
theorem mulL {a b:Int} (h1 : -(2^64)<a) (h2:a<2^64) : IntMulOk a b:=CMul.ok (.inl ⟨h1,h2⟩)
theorem mulR {a b:Int} (h1 : -(2^64)<b) (h2:b<2^64) : IntMulOk a b:=CMul.ok (.inr ⟨h1,h2⟩)
theorem shl_eq (m:Nat) : (1:Int) * 2^((m:Int)).toNat=2^m:=by rw [Int.one_mul,Int.toNat_natCast]
theorem cut_map (ns:List Int) (lo hi:Option Int) : ∃ ms:List Int,cutV (ns.map V.int) lo hi=ms.map V.int∧ms.length≤ns.length∧∀ m∈ms,m∈ns:=by
  refine ⟨(ns.drop (HT.sIx ns.length 0 lo)).take (HT.sIx ns.length ns.length hi-HT.sIx ns.length 0 lo),?_,?_,fun m h=>List.mem_of_mem_drop (List.mem_of_mem_take h)⟩
  · unfold cutV
    rw [List.length_map,← List.map_drop,← List.map_take]
  · rw [List.length_take,List.length_drop];exact Nat.le_trans (Nat.min_le_right _ _) (Nat.sub_le _ _)
theorem at_ref {ps:List Addr}{i:Nat}{y:V} (hi:(ps.map V.ref)[i]? = some y) : ∃ p,ps[i]? = some p∧y=V.ref p:=by
  rw [List.getElem?_map] at hi
  cases e:ps[i]? with
  | none=>rw [e] at hi;cases hi
  | some p=>rw [e] at hi;exact ⟨p,rfl,(Option.some.inj hi).symm⟩
theorem at_int {ns:List Int}{i:Nat}{y:V} (hi:(ns.map V.int)[i]? = some y) : ∃ n,ns[i]? = some n∧y=V.int n:=by
  rw [List.getElem?_map] at hi
  cases e:ns[i]? with
  | none=>rw [e] at hi;cases hi
  | some p=>rw [e] at hi;exact ⟨p,rfl,(Option.some.inj hi).symm⟩
def spForm (K:PySem.W.Frag) : Sp:=fun vs H Q _ => ∃ (a:Addr) (l:Terms),vs=[.ref a]∧TL K H a l∧l.length≤100000 ∧
  ∀ (b:Addr) (f:Terms) (H':Hp),H b=none→TLo H' b f→FormOf f l→f.length≤l.length→Same H H'→Q (.ref b) H'
def spWhole:Sp:=fun vs H Q _ => ∃ n:Int,vs=[.int n]∧Q (.bl true) H
def spFormFrom:Sp:=fun vs H Q _ => ∃ (d:Addr) (dd:Terms),vs=[.ref d]∧H d=some (.dK (dd.map encP))∧(dd.map (·.1)).Nodup∧dd.length≤100000 ∧
  ∀ (b:Addr) (ks:List Int) (H':Hp),H b=none→TLo H' b (formOf dd ks)→ks.Perm (dd.map (·.1))→ks.Pairwise (· ≤ ·)→Same H H'→Q (.ref b) H'
def spWorth (K:PySem.W.Frag) : Sp:=fun vs H Q _ => ∃ (a:Addr) (l:Terms) (g:Int),vs=[.ref a,.int g]∧TL K H a l∧l.length≤100000∧∀ H',Same H H'→Q (.int (worthL l g)) H'
def spLaw (K:PySem.W.Frag) : Sp:=fun vs H Q _ => ∃ (a:Addr) (ns:List Int),vs=[.ref a]∧SqL K H a (ns.map V.int)∧ns.length≤63∧(∀ n∈ns,Builtin.Int.intBits n≤2^20)∧∀ H',Q (.bl true) H'
def dT (t:Int × Int) : D := .tup [.int t.1,.int t.2]
def dF (l:Terms) : D := .lst (l.map dT)
theorem isL_tups {H:Hp} : ∀ {ps:List Addr}{l:Terms},Tups H ps l→IsDs H (ps.map V.ref) (l.map dT)
  | _,_,.nil=>by unfold IsDs;rfl
  | _,_,.cons (a:=p) (b:=t) r q=>by
    rw [List.map_cons,List.map_cons]
    unfold IsDs
    refine ⟨_,_,rfl,?_,isL_tups q⟩
    unfold dT Is
    refine ⟨p,_,rfl,r,?_⟩
    unfold IsDs
    refine ⟨_,_,rfl,(by unfold Is;rfl),?_⟩
    unfold IsDs
    refine ⟨_,_,rfl,(by unfold Is;rfl),?_⟩
    unfold IsDs
    rfl
theorem _root_.L2.TLo.is {H:Hp}{a:Addr}{l:Terms} (h:TLo H a l) : Is H (.ref a) (dF l):=by
  obtain ⟨ps,h1,h2⟩:=h
  unfold dF Is
  exact ⟨a,_,rfl,h1,isL_tups h2⟩
theorem dep_dT (t:Int × Int) : dep (dT t)=1:=rfl
theorem depL_dT:∀ l:Terms,depL (l.map dT)≤1
  | []=>Nat.zero_le _
  | t :: r=>by
    rw [List.map_cons,depL,dep_dT]
    have:=depL_dT r
    omega
theorem dep_dF (l:Terms) : dep (dF l)≤2:=by
  unfold dF;rw [dep];have:=depL_dT l;omega
theorem coef_mem:∀ {f:Terms},IsForm f→∀ t∈f,coef f t.1=t.2
  | [],_,t,h=>by simp at h
  | p :: r,hf,t,h=>by
    have h1:=List.pairwise_cons.mp hf.rise
    rcases List.mem_cons.mp h with e | e
    · rw [e];exact coef_head h1.1
    · have hr:IsForm r:=⟨h1.2,fun q hq=>hf.nz q (by simp [hq])⟩
      have:=coef_mem hr t e
      have h2:=h1.1 t e
      rw [coef,if_neg (by omega),this];omega
theorem _root_.L2.Same.write {HB H:Hp}{a:Addr}{o:HO} (h:Same HB H) (ha:HB a=none) : Same HB (upd H a o):=fun b u e=>by
  rw [upd_ne (ne_of_none e ha)];exact h b u e
theorem TLo.cat {H H':Hp}{a b c:Addr}{l m:Terms}{ps qs:List Addr} (h1:Tups H ps l) (h2:Tups H qs m) (s:Same H H') (hc:H' c=some (.lst (ps.map V.ref++qs.map V.ref))) : TLo H' c (l++m) :=
  ⟨ps++qs,by rw [hc,List.map_append],Tups.append (h1.keep fun b xs z=>s b _ z) (h2.keep fun b xs z=>s b _ z)⟩
theorem _root_.L2.TL.seq {K:PySem.W.Frag}{H:Hp}{a:Addr}{l:Terms} (h:TL K H a l) : ∃ xs,SqL K H a xs:=let ⟨ps,h1,_⟩:=h; ⟨_,h1⟩
theorem comp_pairs {K:PySem.W.Frag}{a:Addr}{l:Terms}{H:Hp}{te:TE}{R:List V→Hp→Addr→Prop} (f:Int × Int→Int × Int) (hT:TL K H a l) (hl:l.length≤1000000) (rest:List (Option V)) {σ : St} (hσ : σ = none :: none :: rest)
    (he:∀ t∈l,∀ (H2:Hp) (R:V→Hp→Prop),Same H H2→(∀ w,H2 w=none→R (.ref w) (upd H2 w (.tup [.int (f t).1,.int (f t).2])))→te (some (.int t.1) :: some (.int t.2) :: rest) H2 R)
    (q:∀ (D:Addr) (ys:List V) (H2:Hp),H D=none→TLo (upd H2 D (.lst ys)) D (l.map f)→Same H (upd H2 D (.lst ys))→R ys H2 D) :
    ∃ W:Nat→Nat→List V→St→Hp→Prop,(∃ m,W 0 m [] σ H)∧∀ i m ys σ H,W i m ys σ H →
      ((Itl K a).stop i H∧∀ D,H D=none→R ys H D) ∨
      ((Itl K a).go i H∧ys.length<sizeLine∧∃ N:List V→St→Hp→Prop,(∀ ys' σ' H',N ys' σ' H'→∃ m',m'<m∧W (i+1) m' ys' σ' H') ∧
        ∀ x H',(Itl K a).yld i H x H'→gTup K 2 (gCons (gName 0) (gCons (gName 1) gNil)) x σ H' fun σ2 H2=>tTrue σ2 H2 fun b H3=>if b=true then te σ2 H3 fun y H4=>N (ys ++ [y]) σ2 H4 else N ys σ2 H3):=by
  obtain ⟨ps,hS,hP⟩:=hT
  subst hσ
  refine comp_list (K:=K) (a:=a) (xs:=ps.map V.ref) (R:=R) (fun i ys σ H2 => ∃ (v0 v1:Option V) (qs:List Addr),σ = v0 :: v1 :: rest∧ys=qs.map V.ref∧Tups H2 qs ((l.take i).map f)∧Same H H2)
    ⟨none,none,[],rfl,rfl,.nil,Same.refl _⟩ (fun i ys σ H2 hi ⟨_,_,qs,_,e1,e2,e3⟩=>⟨e3.seq hS,by rw [e1,List.length_map,e2.length,List.length_map,List.length_take];omega⟩) (by rw [List.length_map,hP.length];exact Nat.le_of_lt (small6 hl)) ?_ ?_
  · rintro i z ys σ H2 hi ⟨v0,v1,qs,rfl,rfl,g2,g4⟩
    obtain ⟨p,hqi,rfl⟩:=at_ref hi
    obtain ⟨t,ht1,ht2⟩:=hP.at' hqi
    have htk:l.take (i+1)=l.take i ++ [t]:=by rw [List.take_add_one,ht1];rfl
    refine ⟨p,_,rfl,SqT.of (g4 _ _ ht2),rfl,_,_,rfl,_,_,rfl,rfl,?_⟩
    show te (some (.int t.1) :: some (.int t.2) :: rest) H2 _
    refine he t (List.mem_of_getElem? ht1) H2 _ g4 fun w hw => ?_
    have s14:Same H2 (upd H2 w (.tup [.int (f t).1,.int (f t).2])):=Same.upd hw
    refine ⟨_,_,qs ++ [w],rfl,(by rw [List.map_append];rfl),?_,g4.trans s14⟩
    rw [htk,List.map_append]
    exact Tups.snoc (g2.keep fun b xs z=>s14 b _ z) upd_same
  · rintro ys σ H2 ⟨v0,v1,qs,rfl,rfl,g2,g4⟩ w hw
    have hfull:l.take (ps.map V.ref).length=l:=by rw [List.length_map,hP.length,List.take_length]
    rw [hfull] at g2
    have s14:Same H2 (upd H2 w (.lst (qs.map V.ref))):=Same.upd hw
    exact q w _ _ (g4.free hw) ⟨qs,upd_same,g2.keep fun b xs z=>s14 b _ z⟩ (g4.trans s14)
theorem ne_of_none' {H:Hp}{a b:Addr}{o:HO} (h:H a=some o) (hb:H b=none) : b≠a:=(ne_of_none h hb).symm
end My
namespace OF
open PySem
def rowL (t:Int × Int) (m:Terms) : Terms:=m.map fun u=>(Builtin.bitOr t.1 u.1,t.2 * u.2)
def prodL (l m:Terms) : Terms:=l.flatMap fun t=>rowL t m
def lin (φ : Int→Int) : Terms→Int
  | []=>0
  | t :: r => φ t.1 * t.2+lin φ r
theorem lin_append (φ : Int→Int) : ∀ a b:Terms,lin φ (a++b)=lin φ a+lin φ b
  | [],b=>by simp [lin]
  | t :: r,b=>by rw [List.cons_append,lin,lin,lin_append φ r b];omega
theorem lin_split (φ : Int→Int) (k:Int) : ∀ l:Terms,lin φ l = φ k * coef l k+lin φ (l.filter fun t=>decide (t.1≠k))
  | []=>by simp [lin,coef]
  | t :: r=>by
    have ih:=lin_split φ k r
    rw [lin,coef,ih]
    by_cases h:t.1=k
    · rw [if_pos h,List.filter_cons_of_neg (by simp [h]),h,Int.mul_add];omega
    · rw [if_neg h,List.filter_cons_of_pos (by simp [h]),lin,Int.zero_add];omega
theorem coef_filter (k j:Int) : ∀ l:Terms,coef (l.filter fun t=>decide (t.1≠k)) j=if j=k then 0 else coef l j
  | []=>by simp [coef]
  | t :: r=>by
    have ih:=coef_filter k j r
    by_cases h:t.1=k
    · rw [List.filter_cons_of_neg (by simp [h]),ih,coef]
      by_cases hj:j=k
      · simp [hj]
      · rw [if_neg hj,if_neg hj,if_neg (by omega)];omega
    · rw [List.filter_cons_of_pos (by simp [h]),coef,coef,ih]
      by_cases hj:j=k
      · rw [if_pos hj,if_pos hj,if_neg (by omega)];rfl
      · rw [if_neg hj,if_neg hj]
theorem lin_zero (φ : Int→Int) : ∀ (n:Nat) (l:Terms),l.length≤n→(∀ k,coef l k=0)→lin φ l=0
  | _,[],_,_=>rfl
  | 0,t :: r,h,_=>by simp at h
  | n+1,t :: r,h,hc=>by
    rw [lin_split φ t.1,hc,Int.mul_zero,Int.zero_add]
    have e:((t :: r).filter fun u=>decide (u.1≠t.1))=r.filter fun u=>decide (u.1≠t.1):=List.filter_cons_of_neg (by simp)
    rw [e]
    refine lin_zero φ n _ ?_ fun k => ?_
    · have:=List.length_filter_le (fun u:Int × Int=>decide (u.1≠t.1)) r
      rw [List.length_cons] at h;omega
    · rw [← e,coef_filter]
      split
      · rfl
      · exact hc k
theorem lin_neg (φ : Int→Int) : ∀ l:Terms,lin φ (l.map fun p=>(p.1,-p.2)) = -lin φ l
  | []=>rfl
  | t :: r=>by
    rw [List.map_cons,lin,lin,lin_neg φ r]
    show φ t.1 * -t.2 + -lin φ r=_
    rw [Int.mul_neg];omega
theorem lin_congr (φ : Int→Int) {l m:Terms} (h:∀ k,coef l k=coef m k) : lin φ l=lin φ m:=by
  have:=lin_zero φ _ (l++m.map fun p=>(p.1,-p.2)) (Nat.le_refl _) fun k=>by rw [coef_append,coef_neg,h];omega
  rw [lin_append,lin_neg] at this
  omega
def phi (g k:Int) : Int:=if Builtin.bitAnd k g=k then 1 else 0
theorem worth_lin (g:Int) : ∀ l:Terms,worthL l g=lin (phi g) l
  | []=>rfl
  | t :: r=>by
    have ih:=worth_lin g r
    unfold worthL at ih ⊢
    rw [lin,← ih,phi]
    by_cases h:Builtin.bitAnd t.1 g=t.1
    · rw [if_pos h,List.filter_cons_of_pos (by simp [h]),List.map_cons,List.sum_cons,Int.one_mul]
    · rw [if_neg h,List.filter_cons_of_neg (by simp [h]),Int.zero_mul,Int.zero_add]
theorem worth_congr {l m:Terms} (g:Int) (h:∀ k,coef l k=coef m k) : worthL l g=worthL m g:=by rw [worth_lin,worth_lin,lin_congr _ h]
theorem lin_prod {φ : Int→Int} : ∀ (l m:Terms),(∀ t∈l,∀ u∈m,φ (Builtin.bitOr t.1 u.1) = φ t.1 * φ u.1)→lin φ (prodL l m)=lin φ l * lin φ m
  | [],m,_=>by simp [prodL,lin]
  | t :: l,m,h=>by
    have ih:=lin_prod l m fun t' ht' u hu=>h t' (by simp [ht']) u hu
    have e:prodL (t :: l) m=rowL t m++prodL l m:=by unfold prodL;rw [List.flatMap_cons]
    rw [e,lin_append,ih,lin,Int.add_mul]
    congr 1
    have hr:∀ m':Terms,(∀ u∈m',φ (Builtin.bitOr t.1 u.1) = φ t.1 * φ u.1)→lin φ (rowL t m') = φ t.1 * t.2 * lin φ m':=by
      intro m'
      induction m' with
      | nil=>intro _;simp [rowL,lin]
      | cons u r ihr =>
        intro hu
        have e2:rowL t (u :: r)=(Builtin.bitOr t.1 u.1,t.2 * u.2) :: rowL t r:=rfl
        rw [e2,lin,ihr fun v hv=>hu v (by simp [hv]),hu u (by simp),lin,Int.mul_add]
        congr 1
        show φ t.1 * φ u.1 * (t.2 * u.2)=_
        rw [Int.mul_assoc,Int.mul_assoc,Int.mul_left_comm (φ u.1)]
    exact hr m fun u hu=>h t (by simp) u hu
theorem nat_or_sub (a b g:Nat) : (a ||| b) &&& g=(a ||| b)↔a &&& g=a∧b &&& g=b:=by
  constructor
  · intro h
    constructor
    · apply Nat.eq_of_testBit_eq
      intro j
      have:=congrArg (fun x=>x.testBit j) h
      simp only [Nat.testBit_and,Nat.testBit_or] at this
      rw [Nat.testBit_and]
      revert this
      cases a.testBit j <;> cases b.testBit j <;> cases g.testBit j <;> simp
    · apply Nat.eq_of_testBit_eq
      intro j
      have:=congrArg (fun x=>x.testBit j) h
      simp only [Nat.testBit_and,Nat.testBit_or] at this
      rw [Nat.testBit_and]
      revert this
      cases a.testBit j <;> cases b.testBit j <;> cases g.testBit j <;> simp
  · rintro ⟨h1,h2⟩
    apply Nat.eq_of_testBit_eq
    intro j
    have e1:=congrArg (fun x=>x.testBit j) h1
    have e2:=congrArg (fun x=>x.testBit j) h2
    simp only [Nat.testBit_and] at e1 e2
    rw [Nat.testBit_and,Nat.testBit_or]
    revert e1 e2
    cases a.testBit j <;> cases b.testBit j <;> cases g.testBit j <;> simp
theorem bitAnd_nat (a b:Nat) : Builtin.bitAnd (a:Int) (b:Int)=((a &&& b:Nat) : Int):=by
  have:=PyProof.Rows.bitAnd_pp (x:=(a:Int)) (y:=(b:Int)) (Int.natCast_nonneg _) (Int.natCast_nonneg _)
  simpa using this
theorem bitOr_nat (a b:Nat) : Builtin.bitOr (a:Int) (b:Int)=((a ||| b:Nat) : Int):=by
  have:=bitOr_pp (x:=(a:Int)) (y:=(b:Int)) (Int.natCast_nonneg _) (Int.natCast_nonneg _)
  simpa using this
theorem phi_or {a b g:Int} (ha : 0≤a) (hb : 0≤b) (hg : 0≤g) : phi g (Builtin.bitOr a b)=phi g a * phi g b:=by
  obtain ⟨a,rfl⟩:=Int.eq_ofNat_of_zero_le ha
  obtain ⟨b,rfl⟩:=Int.eq_ofNat_of_zero_le hb
  obtain ⟨g,rfl⟩:=Int.eq_ofNat_of_zero_le hg
  unfold phi
  rw [bitOr_nat,bitAnd_nat,bitAnd_nat,bitAnd_nat]
  have h:=nat_or_sub a b g
  have c:∀ x:Nat,(((x &&& g:Nat) : Int)=(x:Int))↔x &&& g=x:=fun x=>by omega
  simp only [c]
  by_cases h1:a &&& g=a
  · by_cases h2:b &&& g=b
    · rw [if_pos (h.mpr ⟨h1,h2⟩),if_pos h1,if_pos h2];rfl
    · rw [if_neg (fun z=>h2 (h.mp z).2),if_neg h2,Int.mul_zero]
  · rw [if_neg (fun z=>h1 (h.mp z).1),if_neg h1,Int.zero_mul]
theorem coef_lin (l:Terms) (k:Int) : coef l k=lin (fun j=>if j=k then 1 else 0) l:=by
  induction l with
  | nil=>rfl
  | cons t r ih =>
    rw [coef,lin,ih]
    split <;> simp_all
theorem bitAnd_comm (a b:Int) : Builtin.bitAnd a b=Builtin.bitAnd b a:=by
  unfold Builtin.bitAnd
  by_cases h1 : 0≤a <;> by_cases h2 : 0≤b <;> simp [h1,h2,Nat.and_comm,Nat.or_comm]
theorem bitOr_comm (a b:Int) : Builtin.bitOr a b=Builtin.bitOr b a:=by unfold Builtin.bitOr;rw [bitAnd_comm]
end OF
namespace My
open PySem L2 OF
end My
namespace L2
open PySem PySem.Spec PyProof.Rows
theorem Inv.turnedT {X:Cx}{pins:List (Addr × Obj)} {σ : St}{H:Hp}{s:Shared}{h':Heap}{t':Nat}{e it T:Addr}{o:HO} (I:Inv X pins σ H s) (k:∀ b u,b≠e→b≠it→s.heap.get? b=some u→h'.get? b=some u)
    (fe:FpOk X pins H e) (fi:FpOk X pins H it) (hT:s.heap.objs.size≤T) (new:ObjOk X.prog X.w (upd H T o) h' T o) : Inv X pins σ (upd H T o) { s with heap:=h',toks:=t' }:=by
  have hn:H T=none:=I.hok.fresh hT
  have ne1:∀ b u,H b=some u→b≠e∧b≠it:=fun b u q=>⟨ne_of_none q fe.1,ne_of_none q fi.1⟩
  have nm:∀ b,b ∉ [e,it]→b≠e∧b≠it:=fun b hb=>⟨fun z=>hb (by simp [z]),fun z=>hb (by simp [z])⟩
  have lt:∀ b u,s.heap.get? b=some u→b≠T:=fun b u q=>Nat.ne_of_lt (Nat.lt_of_lt_of_le (Heap.lt_size q) hT)
  refine I.step (g':=s.gens) (d':=s.drawn) (ch:=[e,it]) (fun b hb => ?_) (fun b u _ _ hc q _=>k b u (nm b hc).1 (nm b hc).2 q) (fun b u _ _ hc q _=>⟨u.slots,k b u (nm b hc).1 (nm b hc).2 q⟩) (fun b u _ q n=>by rw [upd_ne (lt b u q)];exact n)
    (fun b u hc q=>⟨u,k b u (nm b hc).1 (nm b hc).2 q⟩) (fun b xs q=>by rw [upd_ne (ne_of_none q hn)];exact q) (fun b u xs q=>by rw [upd_ne (ne_of_none q hn)];exact q) (fun b ps q=>⟨#[],by rw [upd_ne (ne_of_none q hn),q];simp⟩) (fun m hm => ?_) (fun b u q => ?_) I.bare
  · rcases List.mem_cons.mp hb with z | z
    · subst z;exact ⟨fe.2.2.2.1,fe.2.1,fe.2.2.2.2.1,fe.2.2.2.2.2⟩
    · have z':b=it:=by simpa using z
      subst z';exact ⟨fi.2.2.2.1,fi.2.1,fi.2.2.2.2.1,fi.2.2.2.2.2⟩
  · obtain ⟨u,es,ep,ho,r⟩:=hm
    exact ⟨u,es,ep,k _ u (Ne.symm fe.2.1) (Ne.symm fi.2.1) ho,r⟩
  · by_cases hb:b=T
    · subst hb;rw [upd_same] at q;cases q;exact new
    · rw [upd_ne hb] at q
      refine (I.hok b u q).stay (fun c v hc z => ?_) (fun c z=>by rw [upd_ne (ne_of_none z hn)];exact z) fun c xs z=>by rw [upd_ne (ne_of_none z hn)];exact z
      rcases hc with w | w
      · rw [w] at z ⊢;exact k b v (ne1 b u q).1 (ne1 b u q).2 z
      · exact k c v (ne1 c _ w).1 (ne1 c _ w).2 z
def Ite (K:PySem.W.Frag) (a:Addr) : It :=
  ⟨fun i H => ∃ xs x,SqL K H a xs∧xs[i]? = some x,fun i H y H' => ∃ T x,H T=none∧y = .ref T∧H'=upd H T (.tup [.int (i:Nat),x])∧∀ xs,SqL K H a xs→xs[i]? = some x,fun i H => ∃ xs,SqL K H a xs∧xs.length≤i⟩
theorem turn_enum {P:Program}{w:World}{K:PySem.W.Frag}{elts:List Expr}{x1:Nat}{pos:Pos} (a e it:Addr) (hei:e≠it) : Turn P w K (.Tuple elts x1 pos) (Ite K a) [e,it] e (fun i h=>(∃ old,IsEnum h e it i old)∧h.IsListIter it a i) where
  mem:=by simp
  obj:=fun i h st b hb=>by
    obtain ⟨⟨old,he⟩,o,ho,c,d⟩:=st
    rcases List.mem_cons.mp hb with z | z
    · subst z;exact ⟨_,he,fun v z=>by cases z⟩
    · have z':b=it:=by simpa using z
      subst z';exact ⟨o,ho,fun v z=>by rw [d] at z;cases z⟩
  keep:=fun i h h' st k=>by
    obtain ⟨⟨old,he⟩,hit⟩:=st
    exact ⟨⟨old,k e (by simp) _ he⟩,hit.at fun o q=>k it (by simp) o q⟩
  item:=by
    intro X hP hw hK hc i pins s σ H E I hf st hg
    subst hP hw hK
    obtain ⟨⟨old,he⟩,hit⟩:=st
    obtain ⟨xs,x,hq,hx⟩:=hg
    obtain ⟨its,rv,p,hz⟩:=I.list hq
    obtain ⟨u,hu,ru⟩:=rv.get hx
    have fe:=hf e (by simp)
    have fi:=hf it (by simp)
    refine wpAny_pyNext_enum_item he hit p.isList (x:=u) (by simpa using hu) hei fun h1 ho hit1 hT hsz k1=>⟨_,rfl,?_⟩
    have helt:e<s.heap.objs.size:=Heap.lt_size he
    have hTe:s.heap.objs.size≠e:=Nat.ne_of_gt helt
    have hil:it<s.heap.objs.size:=by obtain ⟨o,q,_⟩:=hit;exact Heap.lt_size q
    refine wpAny_letOwnedTupleGo_enum ho fun h2 he2 sb => ?_
    have kk:∀ b v,b≠e→b≠it→s.heap.get? b=some v→h2.get? b=some v:=fun b v h1' h2' q=>(sb.2 b h1').trans (k1 b v h1' h2' q)
    have hT2:h2.get? s.heap.objs.size=some { cls := .type "tuple",data := .seq #[.int i s.toks,u] }:=(sb.2 _ hTe).trans hT
    refine ⟨.ref s.heap.objs.size,upd H s.heap.objs.size (.tup [.int (i:Nat),x]),I.turnedT (t':=s.toks+1) kk fe fi (Nat.le_refl _) ⟨by show 2≤sizeLine;decide,[.int i s.toks,u],.cons ⟨_,rfl⟩ (.cons ru .nil),?_⟩,rfl,⟨_,x,I.hok.fresh (Nat.le_refl _),rfl,rfl,fun ys hy=>by rw [I.list_inj hy hq];exact hx⟩,⟨⟨_,by simpa using he2⟩,?_⟩,fun b hb => ?_⟩
    · exact ⟨_,hT2,rfl,0,rfl⟩
    · exact hit1.at fun o q=>(sb.2 it hei.symm).trans q
    · rcases List.mem_cons.mp hb with z | z
      · subst z;rw [upd_ne (Ne.symm hTe)];exact fe.1
      · have z':b=it:=by simpa using z
        subst z';rw [upd_ne (Nat.ne_of_lt hil)];exact fi.1
  done:=by
    intro X hP hw hK hc i pins s σ H E I hf st hg
    subst hP hw hK
    obtain ⟨⟨old,he⟩,hit⟩:=st
    obtain ⟨xs,hq,hx⟩:=hg
    obtain ⟨its,rv,p,hz⟩:=I.list hq
    obtain ⟨f0,f1,f2,f3,f4,f5⟩:=hf it (by simp)
    have hl:=rv.length
    exact wpAny_pyNext_enum_end (I.ok.hd hc) he hit p.isList (by simp;omega) fun h' eb=>⟨rfl,I.turned (t':=s.toks) (fun b o hb q=>eb b o hb q) f0 f1 f3 f4 f5⟩
  self:=fun _ _ _ _ _ st h=>by
    obtain ⟨⟨old,he⟩,_⟩:=st
    exact wpAny_pyIter_enum he h
def iEnum (K:PySem.W.Frag) (ta:TA) : TI:=fun σ H R=>ta σ H fun vs H1 => ∃ a,vs=[.ref a]∧(∃ xs,SqL K H1 a xs)∧R (Ite K a) H1
theorem boot_enum:bootBuiltins "enumerate" = some (.type "enumerate"):=by decide +kernel
theorem pi_enum {X:Cx}{elts:List Expr}{x1:Nat}{p0 p pos:Pos}{a:Expr}{ta:TA} (hg:Gl X "enumerate") (hm:X.mg "enumerate" = none) (ha:PA X [a] ta) (hs:starEach [a] X.env=[(false,eval a X.env)]:=by rfl) :
    PI X (.Tuple elts x1 p0) (.Call (.Name "enumerate" p) [a] [] pos) (iEnum X.K ta):=by
  intro pins s σ H R I h
  refine Call_ (ld_blt I hg hm boot_enum (PyProof.Rows.callWith_type1 (thn (ha pos pins s σ H _ I h) fun us s1 ⟨vs,H1,I1,r1,q1⟩ => ?_) hs rfl))
  obtain ⟨b,rfl,⟨xs,hq⟩,q⟩:=q1
  obtain ⟨u,rfl,ru⟩:=vals1 r1
  cases (show u=Value.ref b from ru)
  obtain ⟨its,rv,p,hz⟩:=I1.list hq
  refine call_enumerate_list p.isList fun h' he hit hsz k=>wpAny_pyIter_enum he ?_
  have I2:Inv X pins σ H1 { s1 with heap:=h' }:=I1.kept (t':=s1.toks) k
  have hne:s1.heap.objs.size+1≠s1.heap.objs.size:=Nat.succ_ne_self _
  refine ⟨s1.heap.objs.size+1,[s1.heap.objs.size+1,s1.heap.objs.size],_,_,H1,rfl,I2,turn_enum b _ _ hne,⟨⟨_,he⟩,hit⟩,fun c hc => ?_,q⟩
  have fr:∀ c,s1.heap.objs.size≤c→FpOk X pins H1 c:=fun c hc=>I1.fpOk hc (I1.hok.fresh hc)
  rcases List.mem_cons.mp hc with z | z
  · subst z;exact fr _ (Nat.le_succ _)
  · have z':c=s1.heap.objs.size:=by simpa using z
    subst z';exact fr _ (Nat.le_refl _)
theorem comp_enum {K:PySem.W.Frag}{a:Addr}{xs:List V}{g:TG}{tc:TT}{te:TE} {σ : St}{H:Hp}{R:List V→Hp→Addr→Prop} (Pv:Nat→List V→St→Hp→Prop) (h0:Pv 0 [] σ H) (hl:∀ i ys σ H,i≤xs.length→Pv i ys σ H→SqL K H a xs∧ys.length≤i) (hz:xs.length≤sizeLine)
    (hs:∀ i x ys σ H T,xs[i]? = some x→Pv i ys σ H→H T=none→g (.ref T) σ (upd H T (.tup [.int (i:Nat),x])) fun σ2 H2=>tc σ2 H2 fun b H3=>if b=true then te σ2 H3 fun y H4=>Pv (i+1) (ys ++ [y]) σ2 H4 else Pv (i+1) ys σ2 H3)
    (hd:∀ ys σ H,Pv xs.length ys σ H→∀ D,H D=none→R ys H D) :
    ∃ W:Nat→Nat→List V→St→Hp→Prop,(∃ m,W 0 m [] σ H)∧∀ i m ys σ H,W i m ys σ H →
      ((Ite K a).stop i H∧∀ D,H D=none→R ys H D) ∨
      ((Ite K a).go i H∧ys.length<sizeLine∧∃ N:List V→St→Hp→Prop,(∀ ys' σ' H',N ys' σ' H'→∃ m',m'<m∧W (i+1) m' ys' σ' H') ∧
        ∀ x H',(Ite K a).yld i H x H'→g x σ H' fun σ2 H2=>tc σ2 H2 fun b H3=>if b=true then te σ2 H3 fun y H4=>N (ys ++ [y]) σ2 H4 else N ys σ2 H3):=by
  refine ⟨fun i m ys σ H=>m=xs.length-i∧i≤xs.length∧Pv i ys σ H,⟨xs.length,by simp,Nat.zero_le _,h0⟩,?_⟩
  rintro i m ys σ H ⟨rfl,hi,p⟩
  have q:=hl i ys σ H hi p
  by_cases hlt:i<xs.length
  · refine .inr ⟨⟨xs,xs[i],q.1,by simp [hlt]⟩,(by omega),Pv (i+1),fun ys' σ' H' p'=>⟨xs.length-(i+1),by omega,rfl,hlt,p'⟩,fun x H' y => ?_⟩
    obtain ⟨T,z,hT,rfl,rfl,y⟩:=y
    exact hs i z ys σ _ T (y xs q.1) p hT
  · have e:i=xs.length:=by omega
    subst e
    exact .inl ⟨⟨xs,q.1,Nat.le_refl _⟩,hd ys σ H p⟩
end L2
namespace L2
open PySem PySem.Spec PyProof.Rows
section
variable {prog:Program}{w:World}{A:Around}{E:Value→Shared→Prop}{s:Shared}{a:Addr}
end
section
variable {X:Cx}{pins:List (Addr × Obj)} {σ : St}{H:Hp}
end
end L2
namespace OF
open PySem
open Classical in
theorem and_two (b c e f:Nat) (he:e<2) (hf:f<2) : (2 * b+e) &&& (2 * c+f)=2 * (b &&& c)+e * f:=by
  apply Nat.eq_of_testBit_eq
  intro i
  have hef:e * f<2:=by
    have:e=0∨e=1:=by omega
    have:f=0∨f=1:=by omega
    rcases ‹e=0∨e=1› with rfl | rfl <;> rcases ‹f=0∨f=1› with rfl | rfl <;> decide
  cases i with
  | zero =>
    rw [Nat.testBit_and,Nat.testBit_zero,Nat.testBit_zero,Nat.testBit_zero,show (2 * b+e) % 2=e by omega,show (2 * c+f) % 2=f by omega,show (2 * (b &&& c)+e * f) % 2=e * f by omega]
    have:e=0∨e=1:=by omega
    have:f=0∨f=1:=by omega
    rcases ‹e=0∨e=1› with rfl | rfl <;> rcases ‹f=0∨f=1› with rfl | rfl <;> decide
  | succ i =>
    rw [Nat.testBit_and,Nat.testBit_succ,Nat.testBit_succ,Nat.testBit_succ,show (2 * b+e) / 2=b by omega,show (2 * c+f) / 2=c by omega,show (2 * (b &&& c)+e * f) / 2=b &&& c by omega,Nat.testBit_and]
theorem and_pow (i j:Nat) : i &&& 2^j=if i.testBit j then 2^j else 0:=by
  apply Nat.eq_of_testBit_eq
  intro k
  rw [Nat.testBit_and,Nat.testBit_two_pow]
  by_cases e:j=k
  · subst e
    cases h:i.testBit j <;> simp
  · cases h:i.testBit j <;> simp [e]
end OF
namespace My
open PySem L2 OF
theorem tt {σ : St}{H:Hp}{F G:Hp→Prop} (h:F H) : tTrue σ H fun b H3=>if b=true then F H3 else G H3:=by
  show (if true=true then F H else G H)
  rw [if_pos rfl];exact h
end My
namespace L2
open PySem OF
theorem worth_plus (f o:Terms) (g:Int) : worthL (f++o) g=worthL f g+worthL o g:=by rw [worth_lin,worth_lin,worth_lin,lin_append]
theorem worth_times {f o:Terms}{g:Int} (hf:∀ t∈f,0≤t.1) (ho:∀ t∈o,0≤t.1) (hg : 0≤g) : worthL (prodL f o) g=worthL f g * worthL o g:=by
  rw [worth_lin,worth_lin,worth_lin]
  exact lin_prod f o fun t ht u hu=>phi_or (hf t ht) (ho u hu) hg
end L2
set_option maxHeartbeats 1000000
namespace My
open PySem L2 OF
theorem phi_nat {g a:Nat} : phi (g:Int) (a:Int)=if a &&& g=a then 1 else 0:=by
  unfold phi;rw [bitAnd_nat]
  by_cases h:a &&& g=a
  · rw [if_pos h,if_pos (by rw [h])]
  · rw [if_neg h,if_neg (by intro z;exact h (by exact_mod_cast z))]
end My
set_option maxHeartbeats 1000000
namespace My
open PySem L2 OF
end My
set_option maxHeartbeats 1000000
namespace L2
open PySem PySem.Spec PyProof.Rows
section
variable {X:Cx}
def rBitLen:V→List V→Hp→VK→Prop:=fun x vs H Q => ∃ n:Int,x = .int n∧vs=[]∧Q (.int (Builtin.Int.intBits n)) H
theorem mt_bit_length:MtM X "int.bit_length" rBitLen:=by
  intro pins s σ H x xs v us Q I rx rv h
  obtain ⟨n,rfl,rfl,q⟩:=h
  obtain ⟨t,rfl⟩:=rx
  obtain rfl:=rv.zero
  exact call_int_bit_length ⟨.int _,H,I.tok _,⟨_,rfl⟩,q⟩
end
end L2
namespace My
open PySem L2 OF
theorem intBits_nat (n:Nat) : Builtin.Int.intBits (n:Int)=if n=0 then 0 else n.log2+1:=by
  unfold Builtin.Int.intBits
  by_cases h:n=0
  · subst h;rfl
  · rw [if_neg h,if_neg (by simp;omega)];rfl
theorem lt_intBits (n:Nat) : n<2^Builtin.Int.intBits (n:Int):=by
  rw [intBits_nat]
  by_cases h:n=0
  · subst h;decide
  · rw [if_neg h];exact Nat.lt_log2_self
theorem intBits_lt {n m:Nat} (h:n<2^m) : Builtin.Int.intBits (n:Int)≤m:=by
  rw [intBits_nat]
  by_cases h0:n=0
  · subst h0;simp
  · rw [if_neg h0]
    exact (Nat.log2_lt h0).mpr h
theorem orAll_bit:∀ (l:Terms) (s j:Nat),(orAll l s).testBit j=true↔s.testBit j=true∨∃ t∈l,t.1.toNat.testBit j=true
  | [],s,j=>by simp [orAll]
  | t :: l,s,j=>by
    rw [orAll,orAll_bit l,Nat.testBit_or,Bool.or_eq_true]
    constructor
    · rintro ((h | h) | ⟨u,h1,h2⟩)
      · exact .inl h
      · exact .inr ⟨t,List.mem_cons_self ..,h⟩
      · exact .inr ⟨u,List.mem_cons_of_mem _ h1,h2⟩
    · rintro (h | ⟨u,h1,h2⟩)
      · exact .inl (.inl h)
      · rcases List.mem_cons.mp h1 with z | z
        · subst z;exact .inl (.inr h2)
        · exact .inr ⟨u,z,h2⟩
theorem orAll_lt {l:Terms}{m:Nat} (h:∀ t∈l,0≤t.1∧t.1<2^m) : orAll l 0<2^m:=by
  refine Nat.lt_pow_two_of_testBit _ fun j hj => ?_
  cases e:(orAll l 0).testBit j
  · rfl
  · rcases (orAll_bit l 0 j).mp e with z | ⟨t,h1,h2⟩
    · simp at z
    · have:=h t h1
      have pw:((2:Int)^m)=((2^m:Nat) : Int):=by norm_cast
      have h3:t.1.toNat<2^j:=Nat.lt_of_lt_of_le (by omega:t.1.toNat<2^m) (Nat.pow_le_pow_right (by decide) hj)
      rw [Nat.testBit_lt_two_pow h3] at h2;cases h2
def lst (a:Nat) : List Nat:=(List.range (Builtin.Int.intBits (a:Int))).filter fun k=>a.testBit k
theorem mem_lst {a k:Nat} : k∈lst a↔a.testBit k=true:=by
  unfold lst
  rw [List.mem_filter,List.mem_range]
  constructor
  · exact fun h=>h.2
  · intro h
    refine ⟨?_,h⟩
    rcases Nat.lt_or_ge k (Builtin.Int.intBits (a:Int)) with z | z
    · exact z
    · have:=Nat.testBit_lt_two_pow (Nat.lt_of_lt_of_le (lt_intBits a) (Nat.pow_le_pow_right (by decide) z))
      rw [this] at h;cases h
end My
set_option maxHeartbeats 1000000
namespace L2
open PySem PySem.Spec PyProof.Rows
end L2
namespace L2
open PySem PySem.Spec PyProof.Rows
section
variable {prog:Program}{w:World}{A:Around}{E:Value→Shared→Prop}{s:Shared}
end
section
variable {X:Cx}{tg:Expr}
end
end L2
set_option maxHeartbeats 1000000
namespace L2
open PySem PySem.Spec PyProof.Rows
end L2
namespace My
open PySem L2 OF
end My
set_option maxHeartbeats 1000000
namespace L2
open PySem PySem.Spec PyProof.Rows
section
variable {X:Cx}{e st lo:Expr}{te:TE}{tl to:TO}{p2 pos:Pos}
end
end L2
namespace My
open PySem L2 OF
end My
set_option maxHeartbeats 1000000
namespace My
open PySem L2 OF
end My
set_option maxHeartbeats 1000000
namespace My
open PySem L2 OF
def restL (m:Int) (f:Terms) : Terms:=f.filter fun t=>decide (t.2 % m≠0)
theorem nat_sub_le {a g:Nat} (h:a &&& g=a) : a≤g:=by
  rw [← h];exact Nat.and_le_right
theorem phi_le {a g:Int} (ha : 0≤a) (hg : 0≤g) (h:g<a) : phi g a=0:=by
  obtain ⟨x,rfl⟩:=Int.eq_ofNat_of_zero_le ha
  obtain ⟨y,rfl⟩:=Int.eq_ofNat_of_zero_le hg
  rw [phi_nat,if_neg]
  intro z
  have:=nat_sub_le z
  omega
theorem phi_self {a:Int} (ha : 0≤a) : phi a a=1:=by
  obtain ⟨x,rfl⟩:=Int.eq_ofNat_of_zero_le ha
  rw [phi_nat,if_pos (Nat.and_self x)]
theorem lin_rest0 (m g:Int) : ∀ {l:Terms},(∀ t∈l,t.2 % m=0∨phi g t.1=0)→lin (phi g) l % m=0
  | [],_=>by simp [lin]
  | t :: l,h=>by
    have ih:=lin_rest0 m g (l:=l) fun t ht=>h t (List.mem_cons_of_mem _ ht)
    have h1:=h t (List.mem_cons_self ..)
    rw [lin,Int.add_emod,ih]
    rcases h1 with z | z
    · rw [Int.mul_emod,z];simp
    · rw [z];simp
theorem rest_mem {m:Int}{f:Terms}{t:Int × Int} (h:t∈f) (hn:t.2 % m≠0) : t∈restL m f:=List.mem_filter.mpr ⟨h,by simpa using hn⟩
theorem rest_first {m:Int}{f:Terms} (hf:IsForm f) (hk:∀ t∈f,0≤t.1) {t:Int × Int}{r:Terms} (h:restL m f=t :: r) :
    t∈f∧t.2 % m≠0∧(∀ u∈f,u.2 % m=0∨t.1≤u.1):=by
  have ht:t∈restL m f:=by rw [h];exact List.mem_cons_self ..
  obtain ⟨h1,h2⟩:=List.mem_filter.mp ht
  refine ⟨h1,by simpa using h2,fun u hu => ?_⟩
  by_cases hz:u.2 % m=0
  · exact .inl hz
  · right
    have hu':=rest_mem hu hz
    have hp:(restL m f).Pairwise fun a b=>a.1<b.1:=hf.rise.filter _
    rw [h] at hu' hp
    rcases List.mem_cons.mp hu' with z | z
    · rw [z];exact Int.le_refl _
    · exact Int.le_of_lt ((List.pairwise_cons.mp hp).1 u z)
theorem lin_pick {φ : Int→Int}{k c:Int} : ∀ {f:Terms},IsForm f→(k,c)∈f→lin φ f = φ k * c+lin φ (f.filter fun t=>decide (t.1≠k)):=by
  intro f hf hm
  have h1:=lin_split φ k f
  have h2:=coef_mem hf (k,c) hm
  rw [h1,h2]
theorem rest_at {m:Int}{f:Terms} (hf:IsForm f) (hk:∀ t∈f,0≤t.1) {t:Int × Int}{r:Terms} (h:restL m f=t :: r) : worthL f t.1 % m≠0:=by
  obtain ⟨h1,h2,h3⟩:=rest_first hf hk h
  rw [worth_lin,lin_pick (k:=t.1) (c:=t.2) hf h1,phi_self (hk t h1),Int.one_mul,Int.add_emod]
  rw [lin_rest0 m t.1 (l:=f.filter fun u=>decide (u.1≠t.1)) fun u hu => ?_]
  · rw [Int.add_zero,Int.emod_emod_of_dvd _ (Int.dvd_refl m)];exact h2
  · obtain ⟨hu1,hu2⟩:=List.mem_filter.mp hu
    have hne:u.1≠t.1:=by simpa using hu2
    rcases h3 u hu1 with z | z
    · exact .inl z
    · exact .inr (phi_le (hk u hu1) (hk t h1) (by omega))
theorem rest_zero {f:Terms} (hf:IsForm f) : restL 0 f=f:=by
  unfold restL
  refine List.filter_eq_self.mpr fun t ht => ?_
  have:=hf.nz t ht
  simp [this]
theorem form_zero {f:Terms} (hf:IsForm f) (hk:∀ t∈f,0≤t.1) (h:∀ t∈f,worthL f t.1=0) : f=[]:=by
  cases e:f with
  | nil=>rfl
  | cons t r =>
    have h1:=rest_at (m:=0) hf hk (t:=t) (r:=r) (by rw [rest_zero hf,e])
    rw [h t (by rw [e];exact List.mem_cons_self ..)] at h1
    simp at h1
end My
set_option maxHeartbeats 1000000
namespace My
open PySem L2 OF
end My
set_option maxHeartbeats 1000000
namespace My
open PySem L2 OF
end My
set_option maxHeartbeats 1000000
namespace L2
open PySem PySem.Spec PyProof.Rows
section
variable {prog:Program}{w:World}{A:Around}{E:Value→Shared→Prop}{s:Shared}
end
end L2
set_option maxHeartbeats 1000000
namespace My
open PySem L2 OF
end My
namespace My
open PySem L2 OF
def Wd (n:Int) : Prop:=Builtin.Int.intBits n≤2^21
theorem bits_mono {a b:Int} (h:a.natAbs≤b.natAbs) : Builtin.Int.intBits a≤Builtin.Int.intBits b:=by
  unfold Builtin.Int.intBits
  by_cases h0:a=0
  · subst h0;simp
  · have h1 : ¬ b=0:=by omega
    have e1:(a == 0)=false:=by simpa using h0
    have e2:(b == 0)=false:=by simpa using h1
    rw [e1,e2]
    have hx:a.natAbs≠0:=by omega
    have hy:b.natAbs≠0:=by omega
    have:=(Nat.le_log2 hy).mpr (Nat.le_trans (Nat.log2_self_le hx) h)
    simp only [Bool.false_eq_true,if_false]
    omega
theorem bits_lt {x:Int}{m:Nat} (hx:x.natAbs<2^m) : Builtin.Int.intBits x≤m:=by
  unfold Builtin.Int.intBits
  split
  · exact Nat.zero_le _
  · rename_i h0
    have h0':x.natAbs≠0:=by simpa using h0
    exact (Nat.log2_lt h0').mpr hx
theorem Wd.le {a b:Int} (hb:Wd b) (h:a.natAbs≤b.natAbs) : Wd a:=Nat.le_trans (bits_mono h) hb
theorem Wd.small {a:Int} (h:a.natAbs<2^250) : Wd a:=Nat.le_trans (bits_lt h) (by decide)
theorem Wd.div {a:Int} (b:Int) (h:Wd a) : Wd (a / b):=h.le (Int.natAbs_ediv_le_natAbs a b)
theorem Wd.mul {a b:Int} (h:Wd a) (hb:b.natAbs<2^250) : IntMulOk a b:=PyProof.Rows.mulOk_of_bits h (bits_lt hb) (by decide)
def spAt (K:PySem.W.Frag) : Sp:=fun vs H Q _ => ∃ (a:Addr) (ns:List Int) (k:Nat),vs=[.ref a,.int (k:Int)]∧SqL K H a (ns.map V.int)∧Q (.int (ns.getD k 0)) H
def spMix:Sp:=fun vs H Q _ => ∃ c k:Int,vs=[.int c,.int k] ∧ -(2^64)<k∧k<2^64∧∀ r,0≤r→r<2147483587→Q (.int r) H
def spFree (K:PySem.W.Frag) : Sp:=fun vs H Q _ => ∃ (a:Addr) (ns:List Int),vs=[.ref a]∧SqL K H a (ns.map V.int)∧∀ b,Q (.bl b) H
def spBig:Sp:=fun vs H Q _ => ∃ (c k:Int) (b:Bool),vs=[.int c,.int k,.bl b]∧Wd c ∧ -(2^63)<k∧k<2^63∧∀ r,Wd r→Q (.int r) H
def spOwn:Sp:=fun vs H Q _ => ∃ r:Int,vs=[.int r]∧Wd r∧∀ n:Int,-(2^200)<n→n<2^200→Q (.int n) H
theorem wd_getD {ns:List Int} (h:∀ n∈ns,Builtin.Int.intBits n≤2^20) (k:Nat) : Wd (ns.getD k 0):=by
  rw [List.getD_eq_getElem?_getD]
  cases e:ns[k]? with
  | none=>exact Nat.le_trans (show Builtin.Int.intBits 0≤0 by decide) (Nat.zero_le _)
  | some x=>exact Nat.le_trans (h x (List.mem_of_getElem? e)) (by decide)
theorem Wd.of {n:Int} (h:Builtin.Int.intBits n≤2^20) : Wd n:=Nat.le_trans h (by decide)
def flP (t:Int × Int) : Bool:=decide (t.1=0) || decide (t.2<0)
def floorL (l:Terms) : Int:=((l.filter flP).map (·.2)).sum
def spFloor (K:PySem.W.Frag) : Sp:=fun vs H Q _ => ∃ (a:Addr) (l:Terms),vs=[.ref a]∧TL K H a l∧l.length≤100000∧∀ H',Same H H'→Q (.int (floorL l)) H'
end My
set_option maxHeartbeats 1000000
namespace L2
open PySem PySem.Spec PyProof.Rows
section
variable {X:Cx}{e st lo hi:Expr}{te:TE}{tl th to:TO}{p2 pos:Pos}
def IsMin (m:Int) (ns:List Int) : Prop:=m∈ns∧∀ n∈ns,m≤n
theorem min_of {us:List Value}{ns:List Int}{xs:Array (Int × Tok)}{v:Value} (hi:IntsAre us ns) (hzs:us.toArray=intItems xs) (hne : 0<xs.size) (hP:(intItems xs)[argBest (fun i j=>decide (numAt xs i<numAt xs j)) (xs.size-1)]? = some v) :
    ∃ m t,v = .int m t∧IsMin m ns:=by
  obtain ⟨t,rfl⟩:=intItems_at hP
  refine ⟨_,t,rfl,?_,fun n hn => ?_⟩
  all_goals
    have hs:xs.toList.map (·.1)=ns:=by
      rw [← nums_intItems,← hzs]
      exact (show numsOf us.toArray.toList=ns from hi.numsOf)
    obtain ⟨b1,b2⟩:=argBest_lt (numAt xs) (xs.size-1)
    have hat:∀ j,j<xs.size→ns[j]? = some (numAt xs j):=fun j hj=>by
      rw [← hs,List.getElem?_map]
      unfold numAt
      rw [Array.getElem?_toList,Array.getElem?_eq_getElem hj];rfl
  · exact List.mem_of_getElem? (hat _ (by omega))
  · obtain ⟨j,hj⟩:=List.getElem?_of_mem hn
    have hjl:j<xs.size:=by
      have:=(List.getElem?_eq_some_iff.mp hj).1
      rw [← hs,List.length_map,Array.length_toList] at this;exact this
    rw [hat j hjl] at hj
    cases hj
    exact b2 j (by omega)
theorem call_minL (hc:X.calm=true) : CallR X (.builtin "min") (fun xs H Q => ∃ (a:Addr) (ns:List Int),xs=[.ref a]∧SqL X.K H a (ns.map V.int)∧0<ns.length∧∀ m,IsMin m ns→Q (.int m) H):=by
  intro pins s σ H xs us Q I r h
  obtain ⟨a,ns,rfl,hq,hne,q⟩:=h
  obtain ⟨u,rfl,ru⟩:=vals1 r
  cases (show u=Value.ref a from ru)
  obtain ⟨its,rv,p,hz⟩:=I.list hq
  have hi:=intsAre_of rv
  obtain ⟨zs,hzs⟩:=hi.allInts.items
  have hsz : 0<zs.size:=by
    have h1:=rv.length
    rw [List.length_map] at h1
    have h2:its.toArray.size=zs.size:=by rw [hzs];simp [intItems]
    rw [List.size_toArray] at h2
    omega
  refine min_intList (I.ok.hd hc) (hzs ▸ p.isList) hsz fun v h' tk hP hk => ?_
  obtain ⟨m,t,rfl,hm⟩:=min_of hi hzs hsz hP
  exact ⟨.int m,H,I.kept (t':=tk) hk,⟨t,rfl⟩,q m hm⟩
end
end L2
namespace L2
open PySem PySem.Spec PyProof.Rows
section
variable {X:Cx}
end
end L2
namespace L2
open PySem PySem.Spec PyProof.Rows
section
variable {X:Cx}{e st lo hi:Expr}{te:TE}{tl th to:TO}{p2 pos:Pos}
end
end L2
namespace My
open PySem L2 OF
def natL (ls:List Nat) : List V:=ls.map fun y:Nat=>V.int (y:Int)
theorem pow_cast (K:Nat) : ((2:Int)^K)=((2^K:Nat) : Int):=by norm_cast
theorem key_nat {x:Int} (h : 0≤x) : ((x.toNat:Nat) : Int)=x:=Int.toNat_of_nonneg h
theorem sum_bits:∀ {ls:List Nat},ls.Nodup→∀ j,((ls.map fun x=>2^x).sum).testBit j=decide (j∈ls)
  | [],_,j=>by simp
  | x :: r,h,j=>by
    rw [List.nodup_cons] at h
    have ih:=sum_bits h.2
    have h0:((r.map fun x=>2^x).sum) / 2^x % 2=0:=by
      have:=ih x
      rw [decide_eq_false h.1,Nat.testBit_eq_decide_div_mod_eq] at this
      have:=of_decide_eq_false this
      omega
    rw [List.map_cons,List.sum_cons,Nat.add_comm,add_pow_of_nobit h0,Nat.testBit_or,ih j,Nat.testBit_two_pow]
    by_cases e:x=j
    · subst e;simp
    · have e' : ¬ j=x:=fun z=>e z.symm
      by_cases e2:j∈r <;> simp [e,e',e2]
end My
namespace My
open PySem L2 OF
end My
namespace My
open PySem L2 OF
end My
set_option maxHeartbeats 4000000
namespace OS
open PySem PySem.W PyProof.Rows
section
variable {prog:Program}{w:World}{A:Around}{E:Value→Shared→Prop}{s:Shared}
theorem sort_small {a:Addr}{vs:List Value}{n:Nat}{P:PySem.Fin→Shared→Prop} (ho:s.heap.get? a=some (seqObj "list" vs.toArray n)) (h2:vs.length<2)
    (h:P (.done (.ret .none)) { s with heap:=sortedHeap s.heap a vs vs.toArray }) : wpAny (model prog w) A (Builtin.«list.sort» ⟨[.ref a],[]⟩) P E s:=by
  have ha:a<s.heap.objs.size:=Heap.lt_size ho
  obtain ⟨e1,ho1⟩ : ∃ e1,(s.heap.update a (Obj.mapSeq fun _=>(#[] : Array Value))).get? a=some (seqObj "list" #[] e1):=⟨_,get?_update_seq ho fun _ => #[]⟩
  rw [list_sort_plain]
  refine wpAny_bind (listItems_at ho rfl ?_)
  refine wpAny_bind (listUpdate_at ho rfl ?_ (by rw [List.size_toArray,sizeLine_eq];omega) (Nat.zero_le _))
  refine wpAny_bind (seqEpoch_at ho1 rfl ?_)
  refine wpAny_bind (wpAny_newTuple ?_ (by show vs.length≤_;rw [sizeLine_eq];omega))
  refine wpAny_bind (wpAny_newList ?_ (Nat.zero_le _))
  refine wpAny_holding ?_
  have ho6:(((s.heap.update a (Obj.mapSeq fun _ => #[])).push (seqObj "tuple" vs.toArray 0)).push (seqObj "list" #[] 0)).get? a=some (seqObj "list" #[] e1):=by
    have l1:a≠((s.heap.update a (Obj.mapSeq fun _ => #[])).push (seqObj "tuple" vs.toArray 0)).objs.size:=by rw [size_push',Heap.size_update];exact Nat.ne_of_lt (Nat.lt_succ_of_lt ha)
    have l2:a≠(s.heap.update a (Obj.mapSeq fun _ => #[])).objs.size:=by rw [Heap.size_update];exact Nat.ne_of_lt ha
    rw [Heap.get?_push_ne _ _ _ l1,Heap.get?_push_ne _ _ _ l2];exact ho1
  show wpAny (model prog w) A _ P E { s with heap:=((s.heap.update a (Obj.mapSeq fun _=>(#[] : Array Value))).push (seqObj "tuple" vs.toArray 0)).push (seqObj "list" #[] 0) }
  dsimp only
  have hn2:vs.toArray.size<2:=by rw [List.size_toArray];omega
  rw [if_pos hn2,if_pos hn2]
  refine wpAny_bind (wpAny_pure ?_)
  refine wpAny_bind (wpAny_pure ?_)
  have hout:((vs.toArray.zip vs.toArray).map (·.2))=vs.toArray:=by
    apply Array.toList_inj.mp
    rw [Array.toList_map,Array.toList_zip]
    exact List.map_snd_zip (Nat.le_refl _)
  dsimp only
  refine wpAny_bind (seqEpoch_at ho6 rfl ?_)
  refine wpAny_bind (listUpdate_at ho6 rfl ?_ (Nat.zero_le _) ?_)
  · rw [if_neg (by simp)]
    have e:(Array.map (fun x=>x.snd) (arrOf (SortSt.mk' general' (vs.toArray.zip vs.toArray) #[] 7 none)))=vs.toArray:=hout
    rw [e]
    exact wpAny_pure h
  · show (Array.map (fun x=>x.snd) (vs.toArray.zip vs.toArray)).size≤sizeLine+1
    rw [hout,List.size_toArray,sizeLine_eq];omega
end
end OS
namespace L2
open PySem PySem.Spec PyProof.Rows OS
section
variable {X:Cx}
end
end L2
namespace L2
open PySem PySem.Spec PyProof.Rows
end L2
namespace My
open PySem L2 OF
theorem paired_snoc {α β : Type}{R : α → β → Prop} : ∀ {a:List α}{m:List β}{x : α}{y : β},Paired R a m→R x y→Paired R (a ++ [x]) (m ++ [y])
  | _,_,_,_,.nil,h => .cons h .nil
  | _,_,_,_,.cons e r,h => .cons e (paired_snoc r h)
end My
namespace My
open PySem L2 OF
end My
set_option maxHeartbeats 4000000
namespace OS
open PySem PySem.W PyProof.Rows
section
variable {prog:Program}{w:World}{A:Around}{E:Value→Shared→Prop}{s:Shared}
def PrAt (h:Heap) (v:Value) : Prop := ∃ x o n a b t u,v = .ref x∧h.get? x=some o∧o.cls = .type "tuple" ∧ o.data = .seq #[.int a t,.int b u] n
theorem PrAt.keep {h h':Heap}{v:Value} (k:∀ x o,o.cls = .type "tuple" → h.get? x=some o→h'.get? x=some o) (q:PrAt h v) : PrAt h' v:=by
  obtain ⟨x,o,n,a,b,t,u,e1,e2,e3,e4⟩:=q
  exact ⟨x,o,n,a,b,t,u,e1,k _ _ e3 e2,e3,e4⟩
def PrM (h:Heap) (M:Nat) (v:Value) : Prop := ∃ x o n a b t u,v = .ref x∧h.get? x=some o∧o.cls = .type "tuple" ∧ o.data = .seq #[.int a t,.int b u] n ∧ -(M:Int)≤b∧b≤M
theorem prM_all {h:Heap} : ∀ {vs:List Value},(∀ v∈vs,PrAt h v)→∃ M,∀ v∈vs,PrM h M v
  | [],_=>⟨0,fun v h=>by cases h⟩
  | v :: vs,q=>by
    obtain ⟨x,o,n,a,b,t,u,e1,e2,e3,e4⟩:=q v (List.mem_cons_self ..)
    obtain ⟨M,hM⟩:=prM_all fun v hv=>q v (List.mem_cons_of_mem _ hv)
    refine ⟨M+b.natAbs,fun y hy => ?_⟩
    rcases List.mem_cons.mp hy with rfl | hy
    · exact ⟨x,o,n,a,b,t,u,e1,e2,e3,e4,by omega,by omega⟩
    · obtain ⟨x,o,n,a,b',t,u,e1,e2,e3,e4,e5,e6⟩:=hM y hy
      exact ⟨x,o,n,a,b',t,u,e1,e2,e3,e4,by omega,by omega⟩
def prNum (h:Heap) (M:Nat) : Value→Int
  | .ref x=>match h.get? x with
    | some o=>match o.data with
      | .seq xs _=>match xs.toList with
        | [.int a _,.int b _]=>a * (2 * M+1)+b
        | _=>0
      | _=>0
    | none=>0
  | _=>0
theorem prNum_at {h:Heap}{M:Nat}{x:Addr}{o:Obj}{n:Nat}{a b:Int}{t u:Tok} (e2:h.get? x=some o) (e4:o.data = .seq #[.int a t,.int b u] n) : prNum h M (.ref x)=a * (2 * M+1)+b:=by
  unfold prNum
  dsimp only
  rw [e2]
  dsimp only
  rw [e4]
theorem lex_num {M:Nat}{a b a' b':Int} (h1 : -(M:Int)≤b) (h2:b≤M) (h3 : -(M:Int)≤b') (h4:b'≤M) : a * (2 * M+1)+b<a' * (2 * M+1)+b'↔a<a'∨a=a'∧b<b':=by
  rcases Int.lt_trichotomy a a' with h | h | h
  · have:(a+1) * (2 * (M:Int)+1)≤a' * (2 * M+1):=Int.mul_le_mul_of_nonneg_right (by omega) (by omega)
    rw [Int.add_mul] at this
    exact ⟨fun _ => .inl h,fun _=>by omega⟩
  · subst h
    exact ⟨fun z => .inr ⟨rfl,by omega⟩,fun z=>by omega⟩
  · have:(a'+1) * (2 * (M:Int)+1)≤a * (2 * M+1):=Int.mul_le_mul_of_nonneg_right (by omega) (by omega)
    rw [Int.add_mul] at this
    exact ⟨fun z=>by omega,fun z=>by omega⟩
def prKO (h:Heap) (M:Nat) : KO:=⟨prNum h M,PrM h M,tuples' true⟩
theorem prKL {M:Nat} : @KL (prKO s.heap M) prog w A s:=@KL.mk (prKO s.heap M) _ _ _ _ fun {E Q u v} hu hv q=>by
  obtain ⟨x,o,n,a,b,t,r,rfl,e2,e3,e4,e5,e6⟩:=hu
  obtain ⟨y,o',n',a',b',t',r',rfl,f2,f3,f4,f5,f6⟩:=hv
  have q':Q (decide (prNum s.heap M (.ref x)<prNum s.heap M (.ref y))) s:=q
  rw [prNum_at e2 e4,prNum_at f2 f4,decide_eq_decide.mpr (lex_num e5 e6 f5 f6)] at q'
  refine kat_lt e2 e4 f2 f4 ?_
  show KatLex prog w A true _ Q [(Value.int a t,Value.int a' t'),(Value.int b r,Value.int b' r')] 0 s
  refine kat_cons (wpAny_eqBool_int ?_)
  refine kat_go (fun z=>kat_yes ?_) (fun z=>kat_no (oneLt_int ?_))
  · refine kat_cons (wpAny_eqBool_int ?_)
    refine kat_go (fun z2=>kat_yes (kat_nil ?_)) (fun z2=>kat_no (kat_one _ _ (PyProof.Rows.lt_int (show PySem.W.BoolBack Q (Value.bool _) s from ?_))))
    · have z':a=a':=by simpa using z
      have z2':b=b':=by simpa using z2
      rw [decide_eq_false (by omega)] at q'
      exact q'
    · have z':a=a':=by simpa using z
      rw [decide_eq_decide.mpr (show (a<a'∨a=a'∧b<b')↔b<b' from ⟨fun y=>by omega,fun y => .inr ⟨z',y⟩⟩)] at q'
      exact q'
  · have z':a≠a':=by simpa using z
    rw [decide_eq_decide.mpr (show (a<a'∨a=a'∧b<b')↔a<a' from ⟨fun y=>by omega,fun y => .inl y⟩)] at q'
    exact q'
theorem tups_two {h:Heap} : ∀ {vs:List Value},(∀ v∈vs,PrAt h v)→∃ fs,KatTups h vs fs∧fs.length=vs.length∧∀ f∈fs,∃ k t,f=Value.int k t
  | [],_=>⟨[],trivial,rfl,fun f h=>by cases h⟩
  | v :: vs,q=>by
    obtain ⟨x,o,n,a,b,t,u,rfl,e2,e3,e4⟩:=q v (List.mem_cons_self ..)
    obtain ⟨fs,h1,h2,h3⟩:=tups_two fun w hw=>q w (List.mem_cons_of_mem _ hw)
    refine ⟨.int a t :: fs,KatTups.cons e2 e3 e4 rfl h1,by rw [List.length_cons,List.length_cons,h2],fun f hf => ?_⟩
    rcases List.mem_cons.mp hf with rfl | hf
    · exact ⟨a,t,rfl⟩
    · exact h3 f hf
theorem sort_two {a:Addr}{vs:List Value}{n:Nat}{P:PySem.Fin→Shared→Prop} (ho:s.heap.get? a=some (seqObj "list" vs.toArray n)) (hP:∀ v∈vs,PrAt s.heap v) (h2 : 2≤vs.length) (hz:vs.length≤100000)
    (h:∀ out:List Value,out.Perm vs→P (.done (.ret .none)) { s with heap:=sortedHeap s.heap a vs out.toArray }) : wpAny (model prog w) A (Builtin.«list.sort» ⟨[.ref a],[]⟩) P E s:=by
  have ha:a<s.heap.objs.size:=Heap.lt_size ho
  obtain ⟨e1,ho1⟩ : ∃ e1,(s.heap.update a (Obj.mapSeq fun _=>(#[] : Array Value))).get? a=some (seqObj "list" #[] e1):=⟨_,get?_update_seq ho fun _ => #[]⟩
  rw [list_sort_plain]
  refine wpAny_bind (listItems_at ho rfl ?_)
  refine wpAny_bind (listUpdate_at ho rfl ?_ (by rw [List.size_toArray,sizeLine_eq];omega) (Nat.zero_le _))
  refine wpAny_bind (seqEpoch_at ho1 rfl ?_)
  refine wpAny_bind (wpAny_newTuple ?_ (by show vs.length≤_;rw [sizeLine_eq];omega))
  refine wpAny_bind (wpAny_newList ?_ (Nat.zero_le _))
  refine wpAny_holding ?_
  have ho6:(((s.heap.update a (Obj.mapSeq fun _ => #[])).push (seqObj "tuple" vs.toArray 0)).push (seqObj "list" #[] 0)).get? a=some (seqObj "list" #[] e1):=by
    have l1:a≠((s.heap.update a (Obj.mapSeq fun _ => #[])).push (seqObj "tuple" vs.toArray 0)).objs.size:=by rw [size_push',Heap.size_update];exact Nat.ne_of_lt (Nat.lt_succ_of_lt ha)
    have l2:a≠(s.heap.update a (Obj.mapSeq fun _ => #[])).objs.size:=by rw [Heap.size_update];exact Nat.ne_of_lt ha
    rw [Heap.get?_push_ne _ _ _ l1,Heap.get?_push_ne _ _ _ l2];exact ho1
  show wpAny (model prog w) A _ P E { s with heap:=((s.heap.update a (Obj.mapSeq fun _=>(#[] : Array Value))).push (seqObj "tuple" vs.toArray 0)).push (seqObj "list" #[] 0) }
  dsimp only
  have hn2 : ¬ vs.toArray.size<2:=by rw [List.size_toArray];omega
  rw [if_neg hn2,if_neg hn2]
  have hP':∀ v∈vs,PrAt (((s.heap.update a (Obj.mapSeq fun _=>(#[] : Array Value))).push (seqObj "tuple" vs.toArray 0)).push (seqObj "list" #[] 0)) v:=fun v hv=>(hP v hv).keep fun x o hc e=>by
    have hne:x≠a:=fun z=>by rw [z,ho] at e;cases e;exact absurd hc (by show ¬ Value.type "list" = Value.type "tuple";decide)
    refine Heap.get?_push_of_some _ (Heap.get?_push_of_some _ ?_)
    rw [Heap.get?_update_ne _ _ _ _ hne];exact e
  obtain ⟨fs,t1,t2,t3⟩:=tups_two hP'
  refine wpAny_bind (kat_kind (T := .type "int") (s:={ s with heap:=((s.heap.update a (Obj.mapSeq fun _=>(#[] : Array Value))).push (seqObj "tuple" vs.toArray 0)).push (seqObj "list" #[] 0) }) t1 (by omega) (fun v hv => ?_) rfl ?_)
  · obtain ⟨k,t,rfl⟩:=t3 v hv
    exact Looks.of_pure rfl
  generalize hS:({ s with heap:=((s.heap.update a (Obj.mapSeq fun _=>(#[] : Array Value))).push (seqObj "tuple" vs.toArray 0)).push (seqObj "list" #[] 0) } : Shared)=S6
  obtain ⟨M,hM⟩:=prM_all (show ∀ v∈vs,PrAt S6.heap v by rw [← hS];exact hP')
  letI:=prKO S6.heap M
  haveI:KL prog w A S6:=prKL
  have hK:∀ x∈pairsOf vs,IsK x:=fun x hx=>hM x.1 (by
    have hx':x∈vs.zip vs:=by simpa [pairsOf] using hx
    exact (List.of_mem_zip hx').1)
  refine wpAny_bind (wpAny_mono (wpS_runs (a₀:=pairsOf vs) (st:=SortSt.mk' (tuples' true) (vs.toArray.zip vs.toArray) #[] 7 none)
    (Q:=fun _ st'=>(arrOf st').Perm (pairsOf vs)∧failedOf st'=none) hK ⟨rfl,rfl⟩ (Array.Perm.refl _) rfl (by rw [pairsOf_size];omega) fun st' a1 a2 _=>⟨a1,a2⟩) ?_ fun _ _ e=>e)
  rintro ⟨⟨⟩,st'⟩ s' ⟨rfl,hp,hf⟩
  dsimp only
  have hperm:((arrOf st').map (·.2)).toList.Perm vs:=by
    have h1:=(Array.perm_iff_toList_perm.mp hp).map (·.2)
    rw [Array.toList_map]
    refine h1.trans (List.Perm.of_eq ?_)
    show ((vs.toArray.zip vs.toArray).toList).map (·.2)=vs
    rw [Array.toList_zip]
    exact List.map_snd_zip (Nat.le_refl _)
  have hlen:=hperm.length_eq
  rw [Array.length_toList] at hlen
  subst hS
  refine wpAny_bind (seqEpoch_at ho6 rfl ?_)
  refine wpAny_bind (listUpdate_at ho6 rfl ?_ (Nat.zero_le _) (by rw [hlen,sizeLine_eq];omega))
  rw [hf]
  simp only [bne_self_eq_false,Bool.false_eq_true,if_false]
  exact wpAny_pure (h _ hperm)
end
end OS
namespace OF
theorem pow_two_succ (j:Nat) : 2^(j+1)=2^j+2^j:=by rw [Nat.pow_succ];omega
theorem bit_out {j s i:Nat} (h:s<2^j) (hi:j≤i) : s.testBit i=false:=Nat.testBit_lt_two_pow (Nat.lt_of_lt_of_le h (Nat.pow_le_pow_right (by decide) hi))
open Classical in
def subw (r:Terms) (g:Nat) : Int:=((r.filter fun t=>decide (t.1.toNat &&& g=t.1.toNat)).map (·.2)).sum
theorem sub_bits (a g:Nat) : a &&& g=a↔∀ i,a.testBit i=true→g.testBit i=true:=by
  constructor
  · intro h i hi
    have:=congrArg (fun x=>x.testBit i) h
    rw [Nat.testBit_and] at this
    rw [hi] at this
    simpa using this
  · intro h
    refine Nat.eq_of_testBit_eq fun i => ?_
    rw [Nat.testBit_and]
    cases e:a.testBit i
    · rfl
    · rw [h i e];rfl
theorem flat_len {α β : Type}{g : α → List β}{n:Nat} : ∀ {l:List α},(∀ x∈l,(g x).length=n)→(l.flatMap g).length=l.length * n
  | [],_=>by simp
  | x :: l,h=>by
    rw [List.flatMap_cons,List.length_append,h x (List.mem_cons_self ..),flat_len fun y hy=>h y (List.mem_cons_of_mem _ hy),List.length_cons,Nat.succ_mul]
    omega
theorem look_of_mem:∀ {d:Terms},(d.map (·.1)).Nodup→∀ {t:Int × Int},t∈d→look d t.1=some t.2
  | [],_,t,h=>by cases h
  | p :: d,hn,t,h=>by
    rw [List.map_cons,List.nodup_cons] at hn
    rcases List.mem_cons.mp h with rfl | y
    · unfold look;rw [if_pos rfl]
    · have hne : ¬ p.1=t.1:=fun z=>hn.1 (by rw [z];exact List.mem_map.mpr ⟨t,y,rfl⟩)
      unfold look;rw [if_neg hne];exact look_of_mem hn.2 y
end OF
namespace L2
open PySem PySem.Spec PyProof.Rows
section
variable {X:Cx}
theorem vals_intz:∀ {zs:List Value}{ns:List Int},zs.length=ns.length→(∀ (j:Nat) (v:Value),zs[j]? = some v→∃ k,ns[j]? = some k∧∃ t,v=Value.int k t)→Vals (ns.map V.int) zs
  | [],[],_,_ => .nil
  | [],_ :: _,h,_=>by cases h
  | _ :: _,[],h,_=>by cases h
  | v :: zs,n :: ns,hl,h=>by
    obtain ⟨k,e,t,rfl⟩:=h 0 v rfl
    cases (show n=k from Option.some.inj e)
    exact .cons ⟨t,rfl⟩ (vals_intz (Nat.succ.inj hl) fun j w e=>h (j+1) w e)
theorem call_listD (hc:X.calm=true) : CallR X (.type "list") (fun xs H Q => ∃ (a:Addr) (d:OF.Terms),xs=[.ref a]∧H a=some (.dK (d.map encP))∧∀ l,H l=none→Q (.ref l) (upd H l (.lst ((d.map (·.1)).map V.int)))):=by
  intro pins s σ H xs us Q I r h
  obtain ⟨a,d,rfl,hH,q⟩:=h
  obtain ⟨u,rfl,ru⟩:=vals1 r
  cases (show u=Value.ref a from ru)
  obtain ⟨z,hd,vs,rel,dd⟩:=dk_of I.hok hH
  obtain ⟨ep,hat⟩:=dd.dictAt
  have hkeys:vs.map (·.1)=(d.map (·.1)).map Sum.inl:=by rw [← rel.keys];exact keys_enc d
  have hlen:vs.length=d.length:=by
    have:=congrArg List.length hkeys
    simpa using this
  refine PySem.W.kdl_call (PySem.W.kdl_dict (knd:=mixKind X.prog X.w) (kvs:=vs) (ep:=ep) hd) (I.ok.hd hc) hat (by rw [← rel.length];exact z) fun h' tk acc c' kp hnew hacc => ?_
  have hv:Vals ((d.map (·.1)).map V.int) acc.toList:=by
    refine vals_intz (by rw [Array.length_toList,hacc.1,hlen,List.length_map]) fun j v e => ?_
    obtain ⟨k,x,hx,hik⟩:=hacc.2 j v (by rw [← Array.getElem?_toList];exact e)
    have e1:(vs.map (·.1))[j]? = some k:=by rw [List.getElem?_map,hx];rfl
    rw [hkeys,List.getElem?_map] at e1
    cases e2:(d.map (·.1))[j]? with
    | none=>rw [e2] at e1;cases e1
    | some k' =>
      rw [e2] at e1
      have e3:Sum.inl k'=k:=Option.some.inj e1
      subst e3
      exact ⟨k',rfl,Value.isInt_shape hik⟩
  refine ⟨.ref s.heap.objs.size,_,I.laid (a:=s.heap.objs.size) (o := .lst ((d.map (·.1)).map V.int)) (t':=tk) kp (Nat.le_refl _) ⟨?_,acc.toList,c',hv,by rw [Array.toArray_toList];exact hnew⟩,rfl,q _ (I.hok.fresh (Nat.le_refl _))⟩
  rw [List.length_map,List.length_map,← hlen,← rel.length];exact z
end
end L2
namespace L2
open PySem PySem.Spec PyProof.Rows
end L2
namespace My
open PySem L2 OF
theorem at_nat {l:List Nat}{i:Nat}{y:V} (h:(natL l)[i]? = some y) : ∃ x,l[i]? = some x∧y=V.int (x:Int):=by
  unfold natL at h
  rw [List.getElem?_map] at h
  cases e:l[i]? with
  | none=>rw [e] at h;cases h
  | some x=>rw [e] at h;exact ⟨x,rfl,(Option.some.inj h).symm⟩
theorem natL_len (l:List Nat) : (natL l).length=l.length:=by unfold natL;rw [List.length_map]
theorem natL_app (l m:List Nat) : natL (l++m)=natL l++natL m:=by unfold natL;rw [List.map_append]
theorem worth_subw {r:Terms} (h:∀ t∈r,0≤t.1) (g:Nat) : worthL r (g:Int)=subw r g:=by
  unfold worthL subw
  congr 2
  refine List.filter_congr fun t ht => ?_
  have e:=key_nat (h t ht)
  have e2:Builtin.bitAnd t.1 (g:Int)=((t.1.toNat &&& g:Nat) : Int):=by rw [← bitAnd_nat,e]
  by_cases y:t.1.toNat &&& g=t.1.toNat
  · rw [decide_eq_true y,decide_eq_true (by rw [e2,y,e])]
  · rw [decide_eq_false y,decide_eq_false fun z=>y (by rw [e2] at z;omega)]
end My
set_option maxHeartbeats 4000000
namespace OS
open PySem PySem.W PyProof.Rows
section
variable {prog:Program}{w:World}{A:Around}{E:Value→Shared→Prop}{s:Shared}
def RawAt (h:Heap) (d:Addr) (es:Array DictEntry) (ep:Nat) : Prop := ∃ o,h.get? d=some o∧o.ExactDict∧o.data = .dict es ep
theorem RawAt.keep {h h':Heap}{d:Addr}{es:Array DictEntry}{ep:Nat} (q:RawAt h d es ep) (k:∀ o,h.get? d=some o→h'.get? d=some o) : RawAt h' d es ep:=let ⟨o,e,r⟩:=q; ⟨o,k o e,r⟩
theorem RawAt.type {d:Addr}{es:Array DictEntry}{ep:Nat} (q:RawAt s.heap d es ep) : s.TypeIs (.ref d) "dict" := let ⟨o,e,r,_⟩:=q; ⟨o,e,r.1⟩
theorem raw_iter {d:Addr}{es:Array DictEntry}{ep:Nat}{Q:Value→Shared→Prop} (hd:(d == sysModules)=false) (hm:RawAt s.heap d es ep)
    (hQ:Q (.ref s.heap.objs.size) { s with heap:=s.heap.push { cls := .type "dict_keyiterator",data := .fields #[.ref d,.int 0 0,.int es.size 0,.int ep 0] } }) : wpAny (model prog w) A (pyIter (.ref d)) Q E s:=by
  have hT:=hm.type
  obtain ⟨o,ho,hc,hdat⟩:=hm
  refine wpAny_pyIter_slot hT F.slot_dict_iter (wpAny_call_entry F.slot_dict_iter hT F.entry_dict_iter (wpAny_bind ?_) (F.args_dict_iter_1 _))
  unfold Builtin.Dict.dictSlotNone
  refine wpAny_bind (wpAny_notOrdered_dict hT (wpAny_pure ?_))
  show wpAny _ _ (Builtin.Dict.showsAll d >>= _) _ _ s
  unfold Builtin.Dict.showsAll
  rw [if_neg (by rw [hd];exact Bool.false_ne_true)]
  refine wpAny_bind (wpAny_pure (wpAny_bind (wpAny_dictEntries ho hdat (wpAny_bind (wpAny_dictEpoch ho hdat ?_)))))
  exact wpAny_bind (wpAny_newObj_type (wpAny_pure ⟨_,rfl, "dict_keyiterator",_,⟨_,Heap.get?_push_size _ rfl,rfl⟩,F.slot_dict_keyiterator_next.lookup,hQ⟩))
theorem raw_look {it d:Addr}{i ep:Nat}{es:Array DictEntry}{Q:Option Value→Shared→Prop} (hit:s.heap.IsKeyIter it d i es.size ep) (hm:RawAt s.heap d es ep)
    (item:∀ e,es[i]? = some e→∀ h',h'.IsKeyIter it d (i+1) es.size ep→Heap.SameBut it s.heap h'→Q (some e.key) { s with heap:=h' })
    (fin:es.size≤i→A.handled=none∧∀ h',Heap.ExtBut it s.heap h'→Q none { s with heap:=h' }) : wpAny (model prog w) A (pyNext (.ref it)) Q E s:=by
  obtain ⟨o,ho,hc,hd⟩:=id hit
  obtain ⟨od,hod,hcd,hdd⟩:=hm
  unfold pyNext
  refine wpAny_bind (wpAny_attempt (wpAny_callSpecial?_slot (name:=Str.ofString "__next__") hit.typeIs F.slot_dict_keyiterator_next (wpAny_call_entry F.slot_dict_keyiterator_next hit.typeIs F.entry_dict_keyiterator_next (wpAny_bind (wpAny_pure (wpAny_bind (wpAny_bind ?_)))) (F.args_dict_keyiterator_next_1 _))))
  first | refine wpAny_bind (wpAny_typeNameOfWhole_keyiter hit.typeIs (wpAny_pure ?_)) | refine wpAny_bind (wpAny_typeNameOf_keyiter hit.typeIs (wpAny_pure ?_))
  refine wpAny_bind (wpAny_fieldsOf ho hd ?_)
  simp only [show Builtin.Dict_items.ownsTuple "dict_keyiterator" = false by decide,Bool.false_eq_true,if_false]
  show wpAny _ _ (if (Value.ref d == Value.none)=true then _ else _) _ _ s
  rw [if_neg (show ¬ ((Value.ref d == Value.none)=true) from Bool.false_ne_true)]
  refine wpAny_bind (wpAny_pure (wpAny_bind (wpAny_dictEntries hod hdd ?_)))
  rw [if_neg (by simp)]
  refine wpAny_bind (wpAny_pure (wpAny_bind (wpAny_dictEpoch hod hdd ?_)))
  rw [if_neg (by simp)]
  refine wpAny_pure ?_
  rcases Nat.lt_or_ge i es.size with hlt | hge
  · simp only [show ¬ ((i:Int)<0) from by omega,if_false,Int.toNat_natCast,Array.getElem?_eq_getElem hlt]
    refine wpAny_bind ?_
    first | refine wpAny_bind (wpAny_typeNameOfWhole_keyiter hit.typeIs (wpAny_pure ?_)) | refine wpAny_bind (wpAny_typeNameOf_keyiter hit.typeIs (wpAny_pure ?_))
    refine wpAny_bind (wpAny_isOneOf_keyiter hit.typeIs ?_)
    show wpAny _ _ (setField (.ref it) 1 (rawInt ((i:Int)+1)) >>= _) _ _ s
    refine wpAny_bind (wpAny_setField ho hd (by simp) ?_)
    have hit':(s.heap.update it (Obj.mapFields (·.setIfInBounds 1 (rawInt ((i:Int)+1))))).IsKeyIter it d (i+1) es.size ep :=
      ⟨_,Heap.get?_update_self _ ho (Obj.isFreed_of_fields (Obj.data_mapFields hd _)),(Obj.cls_mapFields ..).trans hc,by rw [Obj.data_mapFields hd];simp [rawInt]⟩
    refine wpAny_bind (wpAny_holding (wpAny_bind (wpAny_isOneOf_keyiter (s:={ s with heap:=s.heap.update it (Obj.mapFields (·.setIfInBounds 1 (rawInt ((i:Int)+1)))) }) hit'.typeIs ?_)))
    show wpAny _ _ (pure es[i].key) _ _ _
    exact wpAny_pure (wpAny_pure ⟨_,rfl,wpAny_pure (item _ (Array.getElem?_eq_getElem hlt) _ hit' (Heap.SameBut.update ..))⟩)
  · obtain ⟨hh,fin⟩:=fin hge
    simp only [show ¬ ((i:Int)<0) from by omega,if_false,Int.toNat_natCast,Array.getElem?_eq_none hge]
    refine wpAny_bind ?_
    first | refine wpAny_bind (wpAny_typeNameOfWhole_keyiter hit.typeIs (wpAny_pure ?_)) | refine wpAny_bind (wpAny_typeNameOf_keyiter hit.typeIs (wpAny_pure ?_))
    show wpAny _ _ (setField (.ref it) 0 .none >>= _) _ _ s
    refine wpAny_bind (wpAny_setField ho hd (by simp) ?_)
    show wpAny _ _ (newExc (.type "StopIteration") [] >>= _) _ _ _
    refine wpAny_bind ?_
    simp only [newExc,newTuple]
    refine wpAny_bind (wpAny_newObj_type ?_ (by size_fits))
    refine wpAny_bind (m:=firstArgMember _ _) (wpAny_of_eq (a:=Value.none) (by first | rfl | (simp only [firstArgMember];rfl)) (wpAny_newObj_type ?_ (by size_fits)))
    simp only [raiseNew]
    refine wpAny_bind (wpAny_handled ?_)
    rw [show A.in1.handled=none from hh]
    refine wpAny_bind (wpAny_pure (wpAny_throw ?_))
    refine wpAny_bind (wpAny_isInstance (T := "StopIteration") (b:=true) ⟨_,Heap.get?_push_size _ rfl,rfl⟩ isSubtype_stop ?_)
    exact wpAny_pure (fin _ (((Heap.SameBut.update ..).extBut.push _).push _))
theorem walks_raw (hh:A.handled=none) (I d:Addr) (hne:d≠I) (es:Array DictEntry) (ep:Nat) :
    Walks prog w A I [I,d] [I] es.size (fun i v => ∃ e,es[i]? = some e∧v=e.key) (fun i h=>h.IsKeyIter I d i es.size ep∧RawAt h d es ep) where
  sub:=fun b hb=>by rw [List.mem_singleton.mp hb];exact List.mem_cons_self ..
  frame:=fun _ _ _ st hk=>⟨st.1.at fun o e=>hk I (by simp) o e,st.2.keep fun o e=>hk d (by simp) o e⟩
  item:=fun i s Q E hi st hQ=>raw_look st.1 st.2 (fun e he h' k' sb=>hQ _ h' s.toks ⟨e,he,rfl⟩ ⟨k',st.2.keep fun o z=>(sb.2 d hne).trans z⟩ fun b o hb z=>sb.extBut b o (fun y=>hb (by simp [y])) z) fun hge=>absurd hi (by omega)
  done:=fun s Q E st hQ=>raw_look st.1 st.2 (fun e he=>absurd (Array.getElem?_eq_some_iff.mp he).1 (Nat.lt_irrefl _)) fun _=>⟨hh,fun h' eb=>hQ h' s.toks fun b o hb z=>eb b o (fun y=>hb (by simp [y])) z⟩
  self:=fun _ _ _ _ st hQ=>wpAny_pyIter_keyiter st.1 hQ
theorem raw_src {d:Addr}{es:Array DictEntry}{ep:Nat} (lo:(d == sysModules)=false) : KdlSrc prog w "dict" d d es.size (fun i v => ∃ e,es[i]? = some e∧v=e.key) (fun h=>RawAt h d es ep) where
  type:=fun _ hm=>hm.type
  there:=fun _ hm=>let ⟨_,e,_⟩:=hm; ⟨Heap.lt_size e,Heap.lt_size e⟩
  keep:=fun _ _ hm hk=>hm.keep fun o e=>hk d (.inl rfl) o e
  notList:=by decide
  notTuple:=by decide
  hint:=fun _ _ _ _ hm hq=>kdl_hint_dict hm.type hq
  iter:=fun _ _ hh hm=>⟨_,_,(fun _ _ hq=>raw_iter lo hm hq),walks_raw hh _ d (let ⟨_,e,_⟩:=hm; Nat.ne_of_lt (Heap.lt_size e)) es ep,⟨⟨_,Heap.get?_push_size _ rfl,rfl,rfl⟩,hm.keep fun o e=>Heap.get?_push_of_some _ e⟩⟩
end
end OS
namespace OF
abbrev Caps:=List ((Nat × Nat) × Int)
def lookP:Caps→Nat × Nat→Option Int
  | [],_=>none
  | p :: r,k=>if p.1=k then some p.2 else lookP r k
def getP (d:Caps) (k:Nat × Nat) : Int:=(lookP d k).getD 0
def putP (d:Caps) (k:Nat × Nat) (v:Int) : Caps:=if (d.any fun p=>decide (p.1=k))=true then d.map (fun p=>if p.1=k then (p.1,v) else p) else d ++ [(k,v)]
def onP (k:Nat × Nat) (g:Nat) : Prop:=k.1 &&& g=k.1∧k.2 &&& g=0
instance (k:Nat × Nat) (g:Nat) : Decidable (onP k g):=inferInstanceAs (Decidable (_∧_))
def oneP (k:Nat × Nat) (g:Nat) : Int:=if onP k g then 1 else 0
def wP (d:Caps) (g:Nat) : Int:=(d.map fun p=>p.2 * oneP p.1 g).sum
theorem lookP_any (k:Nat × Nat) : ∀ d:Caps,(d.any fun p=>decide (p.1=k))=(lookP d k).isSome
  | []=>rfl
  | p :: r=>by
    rw [List.any_cons,lookP_any k r]
    show _=(if p.1=k then some p.2 else lookP r k).isSome
    by_cases h:p.1=k
    · rw [if_pos h,decide_eq_true h];rfl
    · rw [if_neg h,decide_eq_false h];rfl
theorem lookP_none {d:Caps}{k:Nat × Nat} : lookP d k=none↔k ∉ d.map (·.1):=by
  induction d with
  | nil=>simp [lookP]
  | cons p r ih =>
    unfold lookP
    by_cases h:p.1=k
    · simp [h]
    · rw [if_neg h,ih,List.map_cons,List.mem_cons]
      exact ⟨fun y z=>z.elim (fun e=>h e.symm) y,fun y z=>y (.inr z)⟩
theorem lookP_mem {d:Caps}{k:Nat × Nat}{v:Int} (h:lookP d k=some v) : (k,v)∈d:=by
  induction d with
  | nil=>cases h
  | cons p r ih =>
    unfold lookP at h
    by_cases y:p.1=k
    · rw [if_pos y] at h
      cases h
      rw [← y];exact List.mem_cons_self ..
    · rw [if_neg y] at h;exact List.mem_cons_of_mem _ (ih h)
theorem lookP_of {d:Caps} (hn:(d.map (·.1)).Nodup) {k:Nat × Nat}{v:Int} (h:(k,v)∈d) : lookP d k=some v:=by
  induction d with
  | nil=>cases h
  | cons p r ih =>
    rw [List.map_cons,List.nodup_cons] at hn
    unfold lookP
    rcases List.mem_cons.mp h with rfl | y
    · rw [if_pos rfl]
    · rw [if_neg fun z=>hn.1 (by rw [z];exact List.mem_map.mpr ⟨_,y,rfl⟩)];exact ih hn.2 y
theorem lookP_map {k j:Nat × Nat}{v:Int} : ∀ d:Caps,lookP (d.map fun p=>if p.1=k then (p.1,v) else p) j=(lookP d j).map fun x=>if j=k then v else x
  | []=>rfl
  | p :: r=>by
    rw [List.map_cons]
    unfold lookP
    by_cases h:p.1=k
    · rw [if_pos h]
      by_cases y:p.1=j
      · rw [if_pos y,if_pos y];simp [← y,h]
      · rw [if_neg y,if_neg y];exact lookP_map r
    · rw [if_neg h]
      by_cases y:p.1=j
      · rw [if_pos y,if_pos y]
        show some p.2=some (if j=k then v else p.2)
        rw [if_neg fun z=>h (y.trans z)]
      · rw [if_neg y,if_neg y];exact lookP_map r
theorem lookP_snoc {k j:Nat × Nat}{v:Int} : ∀ {d:Caps},lookP d k=none→lookP (d ++ [(k,v)]) j=if j=k then some v else lookP d j
  | [],_=>by
    show lookP [(k,v)] j=_
    unfold lookP
    by_cases y:k=j
    · rw [if_pos y,if_pos y.symm]
    · rw [if_neg y,if_neg fun z=>y z.symm];rfl
  | p :: r,h=>by
    unfold lookP at h
    by_cases z:p.1=k
    · rw [if_pos z] at h;cases h
    · rw [if_neg z] at h
      rw [List.cons_append]
      unfold lookP
      by_cases y:p.1=j
      · rw [if_pos y,if_pos y,if_neg fun w=>z (y.trans w)]
      · rw [if_neg y,if_neg y];exact lookP_snoc h
theorem lookP_put (d:Caps) (k j:Nat × Nat) (v:Int) : lookP (putP d k v) j=if j=k then some v else lookP d j:=by
  unfold putP
  rw [lookP_any]
  cases e:lookP d k with
  | none=>rw [if_neg (by simp)];exact lookP_snoc e
  | some x =>
    rw [if_pos (show (some x).isSome=true from rfl),lookP_map]
    by_cases y:j=k
    · rw [if_pos y,y,e];simp
    · rw [if_neg y]
      cases lookP d j <;> simp [y]
theorem getP_put (d:Caps) (k j:Nat × Nat) (v:Int) : getP (putP d k v) j=if j=k then v else getP d j:=by
  unfold getP
  rw [lookP_put]
  by_cases y:j=k
  · rw [if_pos y,if_pos y];rfl
  · rw [if_neg y,if_neg y]
theorem keysP_put (d:Caps) (k:Nat × Nat) (v:Int) : (putP d k v).map (·.1)=if k∈d.map (·.1) then d.map (·.1) else d.map (·.1) ++ [k]:=by
  unfold putP
  rw [lookP_any]
  cases e:lookP d k with
  | none=>rw [if_neg (by simp),if_neg (lookP_none.mp e),List.map_append];rfl
  | some x =>
    rw [if_pos (show (some x).isSome=true from rfl),if_pos (by
      apply Classical.byContradiction
      intro z
      rw [lookP_none.mpr z] at e;cases e),List.map_map]
    refine List.map_congr_left fun p _ => ?_
    show (if p.1=k then (p.1,v) else p).1=p.1
    split <;> rfl
theorem nodupP_put {d:Caps} (h:(d.map (·.1)).Nodup) (k:Nat × Nat) (v:Int) : ((putP d k v).map (·.1)).Nodup:=by
  rw [keysP_put]
  by_cases y:k∈d.map (·.1)
  · rw [if_pos y];exact h
  · rw [if_neg y,List.nodup_append]
    exact ⟨h,List.pairwise_singleton _ _,fun a ha b hb z=>y (by rw [← List.mem_singleton.mp hb,← z];exact ha)⟩
theorem lenP_put (d:Caps) (k:Nat × Nat) (v:Int) : (putP d k v).length≤d.length+1:=by
  unfold putP
  split
  · rw [List.length_map];omega
  · rw [List.length_append];exact Nat.le_refl _
theorem wP_map {k:Nat × Nat}{v:Int} (g:Nat) : ∀ {d:Caps},(d.map (·.1)).Nodup→∀ {x:Int},(k,x)∈d→wP (d.map fun p=>if p.1=k then (p.1,v) else p) g=wP d g+(v-x) * oneP k g
  | [],_,x,h=>by cases h
  | p :: r,hn,x,h=>by
    rw [List.map_cons,List.nodup_cons] at hn
    unfold wP
    rw [List.map_cons,List.map_cons,List.sum_cons,List.map_cons,List.sum_cons]
    rcases List.mem_cons.mp h with rfl | y
    · have e:(r.map fun p=>if p.1=k then (p.1,v) else p)=r:=by
        conv=>rhs;rw [← List.map_id r]
        refine List.map_congr_left fun q hq => ?_
        rw [if_neg fun z=>hn.1 (by rw [← z];exact List.mem_map.mpr ⟨q,hq,rfl⟩)];rfl
      rw [e,if_pos rfl]
      show v * oneP k g+_=x * oneP k g+_+(v-x) * oneP k g
      rw [Int.sub_mul];omega
    · have hne : ¬ p.1=k:=fun z=>hn.1 (by rw [z];exact List.mem_map.mpr ⟨(k,x),y,rfl⟩)
      rw [if_neg hne]
      have:=wP_map (v:=v) g hn.2 y
      unfold wP at this
      rw [this];omega
theorem wP_put {d:Caps} (hn:(d.map (·.1)).Nodup) (k:Nat × Nat) (v:Int) (g:Nat) : wP (putP d k v) g=wP d g+(v-getP d k) * oneP k g:=by
  unfold putP getP
  rw [lookP_any]
  cases e:lookP d k with
  | none =>
    rw [if_neg (by simp)]
    unfold wP
    rw [List.map_append,List.sum_append]
    simp
  | some x=>rw [if_pos (show (some x).isSome=true from rfl)];exact wP_map g hn (lookP_mem e)
def ChainTo:Nat→List (Nat × Nat)→Nat→Prop
  | t,[],m=>t=m
  | t,e :: r,m=>e.2=t∧ChainTo e.1 r m
theorem ChainTo.snoc:∀ {l:List (Nat × Nat)}{t m m':Nat},ChainTo t l m→ChainTo t (l ++ [(m',m)]) m'
  | [],t,m,m',h=>⟨h.symm,rfl⟩
  | e :: r,t,m,m',h=>⟨h.1,ChainTo.snoc h.2⟩
def btP (x g:Nat) : Int:=if x &&& g=x then 1 else 0
def Single (x:Nat) : Prop := ∃ k,x=2^k
theorem single_ne {x:Nat} (h:Single x) : x≠0:=by obtain ⟨k,rfl⟩:=h;exact Nat.ne_of_gt (Nat.two_pow_pos k)
theorem single_bit {x:Nat} (h:Single x) (g:Nat) : (x &&& g=x∧¬ x &&& g=0)∨(x &&& g=0∧¬ x &&& g=x):=by
  have hx:=single_ne h
  obtain ⟨k,rfl⟩:=h
  cases e:g.testBit k
  · have z : 2^k &&& g=0:=Nat.eq_of_testBit_eq fun i=>by
      rw [Nat.testBit_and,Nat.testBit_two_pow,Nat.zero_testBit]
      by_cases y:k=i
      · subst y;rw [e];simp
      · simp [y]
    exact .inr ⟨z,fun w=>hx (w.symm.trans z)⟩
  · have z : 2^k &&& g=2^k:=Nat.eq_of_testBit_eq fun i=>by
      rw [Nat.testBit_and,Nat.testBit_two_pow]
      by_cases y:k=i
      · subst y;rw [e];simp
      · simp [y]
    exact .inl ⟨z,fun w=>hx (z.symm.trans w)⟩
def moved (e:Nat × Nat) (g:Nat) : Int := - oneP e g+if e.1≠0∧e.2≠0 then oneP (e.2,e.1) g else 0
theorem moved_inner {m t:Nat} (hm:Single m) (ht:Single t) (g:Nat) : moved (m,t) g=btP t g-btP m g:=by
  unfold moved oneP onP btP
  rw [if_pos ⟨single_ne hm,single_ne ht⟩]
  have m0:=single_ne hm
  have t0:=single_ne ht
  rcases single_bit hm g with ⟨a,b⟩ | ⟨a,b⟩ <;> rcases single_bit ht g with ⟨c,d⟩ | ⟨c,d⟩ <;> simp [a,c,m0,t0,m0.symm,t0.symm]
theorem moved_last {m:Nat} (hm:Single m) (g:Nat) : moved (m,0) g = - btP m g:=by
  unfold moved oneP onP btP
  rw [if_neg (fun z=>z.2 rfl)]
  have m0:=single_ne hm
  rcases single_bit hm g with ⟨a,b⟩ | ⟨a,b⟩ <;> simp [a,m0,m0.symm]
theorem moved_first {t:Nat} (ht:Single t) (g:Nat) : moved (0,t) g=btP t g-1:=by
  unfold moved oneP onP btP
  rw [if_neg (fun z=>z.1 rfl)]
  have m0:=single_ne ht
  rcases single_bit ht g with ⟨a,b⟩ | ⟨a,b⟩ <;> simp [a,m0,m0.symm]
theorem moved_way:∀ {l:List (Nat × Nat)}{t:Nat} (g:Nat),Single t→ChainTo t l 0→(∀ e∈l,Single e.2∧(e.1=0∨Single e.1))→(∀ e∈l.dropLast,e.1≠0)→(l.map fun e=>moved e g).sum=btP t g-1
  | [],t,g,ht,h,_,_=>absurd h (single_ne ht)
  | [e],t,g,ht,h,hs,_=>by
    obtain ⟨h1,h2⟩:=h
    have h2':e.1=0:=h2
    obtain ⟨m,t'⟩:=e
    cases h1
    cases h2'
    rw [List.map_cons,List.sum_cons]
    simp [moved_first ht]
  | e :: f :: r,t,g,ht,h,hs,hd=>by
    obtain ⟨h1,h2⟩:=h
    have hne:e.1≠0:=hd e (by rw [List.dropLast_cons₂];exact List.mem_cons_self ..)
    have hsm:Single e.1:=(hs e (List.mem_cons_self ..)).2.resolve_left hne
    obtain ⟨m,t'⟩:=e
    cases h1
    rw [List.map_cons,List.sum_cons,moved_way g hsm h2 (fun x hx=>hs x (List.mem_cons_of_mem _ hx)) (fun x hx=>hd x (by rw [List.dropLast_cons₂];exact List.mem_cons_of_mem _ hx))]
    rw [moved_inner hsm ht]
    omega
theorem moved_all {l:List (Nat × Nat)}{x:Nat} (g:Nat) (hx:Single x) (h:ChainTo x l 0) (hs:∀ e∈l,Single e.2∧(e.1=0∨Single e.1)) (hd:∀ e∈l.dropLast,e.1≠0) : (((x,0) :: l).map fun e=>moved e g).sum = -1:=by
  rw [List.map_cons,List.sum_cons,moved_way g hx h hs hd,moved_last hx]
  omega
def pushOne (d:Caps) (e:Nat × Nat) (n:Int) : Caps:=if e.1≠0∧e.2≠0 then putP (putP d e (getP d e-n)) (e.2,e.1) (getP (putP d e (getP d e-n)) (e.2,e.1)+n) else putP d e (getP d e-n)
theorem pushOne_w {d:Caps} (hn:(d.map (·.1)).Nodup) (e:Nat × Nat) (n:Int) (g:Nat) : wP (pushOne d e n) g=wP d g+n * moved e g:=by
  unfold pushOne moved
  by_cases h:e.1≠0∧e.2≠0
  · rw [if_pos h,if_pos h,wP_put (nodupP_put hn _ _),wP_put hn,Int.mul_add]
    have e1:getP d e-n-getP d e = -n:=by omega
    have e2:∀ x:Int,x+n-x=n:=fun x=>by omega
    rw [e1,e2,Int.neg_mul,Int.mul_neg];omega
  · rw [if_neg h,if_neg h,wP_put hn]
    have e1:getP d e-n-getP d e = -n:=by omega
    rw [e1,Int.neg_mul,Int.add_zero,Int.mul_neg]
theorem pushOne_get {d:Caps} (e k:Nat × Nat) (n:Int) (hn : 0≤n) (hk:k≠e) : getP d k≤getP (pushOne d e n) k:=by
  unfold pushOne
  by_cases h:e.1≠0∧e.2≠0
  · rw [if_pos h,getP_put]
    by_cases y:k=(e.2,e.1)
    · rw [if_pos y,← y,getP_put,if_neg hk];omega
    · rw [if_neg y,getP_put,if_neg hk];exact Int.le_refl _
  · rw [if_neg h,getP_put,if_neg hk];exact Int.le_refl _
theorem pushOne_nodup {d:Caps} (h:(d.map (·.1)).Nodup) (e:Nat × Nat) (n:Int) : ((pushOne d e n).map (·.1)).Nodup:=by
  unfold pushOne
  split
  · exact nodupP_put (nodupP_put h _ _) _ _
  · exact nodupP_put h _ _
theorem keysP_sub {d:Caps}{k:Nat × Nat}{v:Int}{j:Nat × Nat} (h:j∈(putP d k v).map (·.1)) : j∈d.map (·.1)∨j=k:=by
  rw [keysP_put] at h
  split at h
  · exact .inl h
  · exact (List.mem_append.mp h).imp id fun y=>List.mem_singleton.mp y
theorem pushOne_keys {d:Caps}{e j:Nat × Nat}{n:Int} (h:j∈(pushOne d e n).map (·.1)) : j∈d.map (·.1)∨j=e∨(j=(e.2,e.1)∧e.1≠0∧e.2≠0):=by
  unfold pushOne at h
  split at h
  · rename_i hc
    rcases keysP_sub h with y | y
    · rcases keysP_sub y with z | z
      · exact .inl z
      · exact .inr (.inl z)
    · exact .inr (.inr ⟨y,hc⟩)
  · rcases keysP_sub h with y | y
    · exact .inl y
    · exact .inr (.inl y)
theorem getP_pos_mem {d:Caps}{k:Nat × Nat} (h:getP d k≠0) : k∈d.map (·.1):=by
  apply Classical.byContradiction
  intro z
  apply h
  unfold getP
  rw [lookP_none.mpr z];rfl
theorem wP_nonneg {d:Caps} (h:∀ p∈d,0≤p.2) (g:Nat) : 0≤wP d g:=by
  unfold wP
  induction d with
  | nil=>exact Int.le_refl _
  | cons p r ih =>
    rw [List.map_cons,List.sum_cons]
    have h1:=ih fun q hq=>h q (List.mem_cons_of_mem _ hq)
    have h2 : 0≤p.2 * oneP p.1 g:=Int.mul_nonneg (h p (List.mem_cons_self ..)) (by unfold oneP;split <;> omega)
    omega
theorem wP_zero {d:Caps}{g:Nat} (h:∀ p∈d,0<p.2→¬ onP p.1 g) (h0:∀ p∈d,0≤p.2) : wP d g=0:=by
  unfold wP
  induction d with
  | nil=>rfl
  | cons p r ih =>
    rw [List.map_cons,List.sum_cons,ih (fun q hq=>h q (List.mem_cons_of_mem _ hq)) fun q hq=>h0 q (List.mem_cons_of_mem _ hq)]
    have h1:=h0 p (List.mem_cons_self ..)
    rcases Int.lt_or_eq_of_le h1 with y | y
    · unfold oneP
      rw [if_neg (h p (List.mem_cons_self ..) y),Int.mul_zero];rfl
    · rw [← y,Int.zero_mul];rfl
def Tree (d:Caps) (bits:List Nat) : List (Nat × Nat)→List (Nat × Nat)→Prop
  | _,[]=>True
  | pre,e :: r=>e.1∈bits∧0<getP d (e.2,e.1)∧(e.2=0∨e.2∈pre.map (·.1))∧Tree d bits (pre ++ [e]) r
theorem Tree.snoc {d:Caps}{bits:List Nat}{x y:Nat} : ∀ {r pre:List (Nat × Nat)},Tree d bits pre r→x∈bits→0<getP d (y,x)→(y=0∨y∈(pre++r).map (·.1))→Tree d bits pre (r ++ [(x,y)])
  | [],pre,_,hx,hg,hy=>⟨hx,hg,by rwa [List.append_nil] at hy,trivial⟩
  | e :: r,pre,h,hx,hg,hy=>⟨h.1,h.2.1,h.2.2.1,Tree.snoc h.2.2.2 hx hg (by rwa [List.append_assoc])⟩
theorem Tree.at {d:Caps}{bits:List Nat}{x y:Nat} : ∀ {r1 r2 pre:List (Nat × Nat)},Tree d bits pre (r1++(x,y) :: r2)→x∈bits∧0<getP d (y,x)∧(y=0∨y∈(pre++r1).map (·.1))
  | [],r2,pre,h=>⟨h.1,h.2.1,by rw [List.append_nil];exact h.2.2.1⟩
  | e :: r1,r2,pre,h=>by
    have:=Tree.at (r1:=r1) h.2.2.2
    rwa [List.append_assoc] at this
def Opened (d:Caps) (bits:List Nat) (A:List (Nat × Nat)) (y:Nat) : Prop := ∀ x∈bits,0<getP d (y,x)→x∈A.map (·.1)
theorem Opened.more {d:Caps}{bits:List Nat}{A:List (Nat × Nat)}{y:Nat} (h:Opened d bits A y) (e:Nat × Nat) : Opened d bits (A ++ [e]) y:=fun x hx hg=>by rw [List.map_append];exact List.mem_append_left _ (h x hx hg)
structure Net (bits:List Nat) (d:Caps) : Prop where
  nodup:(d.map (·.1)).Nodup
  nonneg:∀ p∈d,0≤p.2
  keys:∀ k∈d.map (·.1),(k.1=0∧k.2∈bits)∨(k.2=0∧k.1∈bits)∨(k.1∈bits∧k.2∈bits∧k.1≠k.2)
theorem getP_nonneg {d:Caps} (h:∀ p∈d,0≤p.2) (k:Nat × Nat) : 0≤getP d k:=by
  unfold getP
  cases e:lookP d k with
  | none=>exact Int.le_refl _
  | some v=>exact h _ (lookP_mem e)
theorem nonneg_get {d:Caps} (hn:(d.map (·.1)).Nodup) (h:∀ k∈d.map (·.1),0≤getP d k) : ∀ p∈d,0≤p.2:=fun p hp=>by
  have:=h p.1 (List.mem_map.mpr ⟨p,hp,rfl⟩)
  unfold getP at this
  rw [lookP_of hn (k:=p.1) (v:=p.2) hp] at this
  exact this
theorem Net.push {bits:List Nat}{d:Caps} (h:Net bits d) (h0 : 0 ∉ bits) {e:Nat × Nat}{n:Int} (hn : 0≤n) (he:n≤getP d e) (hm:e∈d.map (·.1)) : Net bits (pushOne d e n):=by
  have hnd:=pushOne_nodup h.nodup e n
  refine ⟨hnd,nonneg_get hnd fun k hk => ?_,fun k hk => ?_⟩
  · by_cases y:k=e
    · subst y
      unfold pushOne
      split
      · rename_i hc
        rw [getP_put]
        have hne : ¬ k=(k.2,k.1):=fun z=>by
          have e1:k.1=k.2:=congrArg Prod.fst z
          rcases h.keys k hm with a | a | a
          · exact hc.1 a.1
          · exact hc.2 a.1
          · exact a.2.2 e1
        rw [if_neg hne,getP_put,if_pos rfl];omega
      · rw [getP_put,if_pos rfl];omega
    · exact Int.le_trans (getP_nonneg h.nonneg k) (pushOne_get e k n hn y)
  · rcases pushOne_keys hk with y | y | ⟨y,z1,z2⟩
    · exact h.keys k y
    · rw [y];exact h.keys e hm
    · rw [y]
      rcases h.keys e hm with a | a | a
      · exact absurd a.1 z1
      · exact absurd a.1 z2
      · exact .inr (.inr ⟨a.2.1,a.1,a.2.2.symm⟩)
theorem cut_zero {bits:List Nat}{d:Caps}{A:List (Nat × Nat)}{g:Nat} (N:Net bits d) (hb:∀ x∈bits,Single x) (h0:Opened d bits A 0) (hA:∀ x∈A.map (·.1),Opened d bits A x) (hend:∀ x∈A.map (·.1),getP d (x,0)≤0)
    (hg:∀ x∈bits,(x &&& g=x↔x∈A.map (·.1))) : wP d g=0:=by
  refine wP_zero (fun p hp hpos hon => ?_) N.nonneg
  have hget:getP d p.1=p.2:=by unfold getP;rw [lookP_of N.nodup (k:=p.1) (v:=p.2) hp];rfl
  obtain ⟨⟨s,t⟩,n⟩:=p
  obtain ⟨o1,o2⟩:=hon
  have o1':s &&& g=s:=o1
  have o2':t &&& g=0:=o2
  have hget':getP d (s,t)=n:=hget
  have hpos' : 0<n:=hpos
  have out:∀ x∈bits,x &&& g=0→x ∉ A.map (·.1):=fun x hx e z=>by
    have:=(hg x hx).mpr z
    exact single_ne (hb x hx) (this.symm.trans e)
  rcases N.keys (s,t) (List.mem_map.mpr ⟨_,hp,rfl⟩) with ⟨a,b⟩ | ⟨a,b⟩ | ⟨a,b,_⟩
  · have a':s=0:=a
    subst a'
    exact out t b o2' (h0 t b (by rw [hget'];exact hpos'))
  · have a':t=0:=a
    subst a'
    have:=hend s ((hg s b).mp o1')
    rw [hget'] at this;omega
  · exact out t b o2' (hA s ((hg s a).mp o1') t b (by rw [hget'];exact hpos'))
end OF
set_option maxHeartbeats 1000000
namespace OS
theorem perm_unmap {α β : Type}{f : α → β}{l l':List β} (h:l.Perm l') : ∀ {m:List α},l'=m.map f→∃ m':List α,m'.Perm m∧l=m'.map f:=by
  induction h with
  | nil =>
    intro m e
    cases m with
    | nil=>exact ⟨[],.nil,rfl⟩
    | cons a m=>cases e
  | cons x h ih =>
    intro m e
    cases m with
    | nil=>cases e
    | cons a m =>
      rw [List.map_cons] at e
      injection e with e1 e2
      obtain ⟨m',p,e3⟩:=ih e2
      exact ⟨a :: m',p.cons a,by rw [List.map_cons,e1,e3]⟩
  | swap x y l =>
    intro m e
    match m,e with
    | [],e=>cases e
    | [a],e=>cases e
    | a :: b :: m,e =>
      rw [List.map_cons,List.map_cons] at e
      injection e with e1 e2
      injection e2 with e2 e3
      exact ⟨b :: a :: m,List.Perm.swap a b m,by rw [List.map_cons,List.map_cons,e1,e2,e3]⟩
  | trans h1 h2 ih1 ih2 =>
    intro m e
    obtain ⟨m2,p2,e2⟩:=ih2 e
    obtain ⟨m1,p1,e1⟩:=ih1 e2
    exact ⟨m1,p1.trans p2,e1⟩
end OS
namespace L2
open PySem PySem.Spec PyProof.Rows OS
def encQ (p:(Nat × Nat) × Int) : List Key × V:=([Sum.inl (p.1.1:Int),Sum.inl (p.1.2:Int)],V.int p.2)
theorem keyQ {a b:Nat × Nat} : ([Sum.inl (a.1:Int),Sum.inl (a.2:Int)] : List Key)=[Sum.inl (b.1:Int),Sum.inl (b.2:Int)]↔a=b:=by
  constructor
  · intro h
    injection h with h1 h2
    injection h2 with h2 h3
    injection h1 with h1
    injection h2 with h2
    exact Prod.ext (Int.ofNat.inj h1) (Int.ofNat.inj h2)
  · intro h;rw [h]
theorem valV_encQ (k:Nat × Nat) : ∀ d:OF.Caps,valV (d.map encQ) [Sum.inl (k.1:Int),Sum.inl (k.2:Int)]=(OF.lookP d k).map V.int
  | []=>rfl
  | p :: r=>by
    have ih:=valV_encQ k r
    rw [List.map_cons]
    unfold valV at ih ⊢
    unfold OF.lookP
    rw [List.find?_cons]
    by_cases h:p.1=k
    · have e:decide ((encQ p).1=[Sum.inl (k.1:Int),Sum.inl (k.2:Int)])=true:=decide_eq_true (keyQ.mpr h)
      rw [if_pos h,e];rfl
    · have e:decide ((encQ p).1=[Sum.inl (k.1:Int),Sum.inl (k.2:Int)])=false:=decide_eq_false fun z=>h (keyQ.mp z)
      rw [if_neg h,e];exact ih
theorem putK_encQ (d:OF.Caps) (k:Nat × Nat) (v:Int) : putK (d.map encQ) ([Sum.inl (k.1:Int),Sum.inl (k.2:Int)] : List Key) (V.int v)=(OF.putP d k v).map encQ:=by
  unfold putK OF.putP
  have e:((d.map encQ).any fun kv=>decide (kv.1=([Sum.inl (k.1:Int),Sum.inl (k.2:Int)] : List Key)))=d.any fun p=>decide (p.1=k):=by
    rw [List.any_map]
    congr 1
    funext p
    exact decide_eq_decide.mpr keyQ
  rw [e]
  by_cases h:(d.any fun p=>decide (p.1=k))=true
  · rw [if_pos h,if_pos h,List.map_map,List.map_map]
    refine List.map_congr_left fun p _ => ?_
    show (if (encQ p).1=_ then ((encQ p).1,V.int v) else encQ p)=encQ (if p.1=k then (p.1,v) else p)
    by_cases y:p.1=k
    · rw [if_pos (show (encQ p).1=([Sum.inl (k.1:Int),Sum.inl (k.2:Int)] : List Key) from keyQ.mpr y),if_pos y];rfl
    · rw [if_neg (show ¬ (encQ p).1=([Sum.inl (k.1:Int),Sum.inl (k.2:Int)] : List Key) from fun z=>y (keyQ.mp z)),if_neg y]
  · rw [if_neg h,if_neg h,List.map_append];rfl
theorem qget {H:Hp}{a b:Addr}{d:OF.Caps}{k:Nat × Nat} (h:H a=some (.dT (d.map encQ))) (hb:H b=some (.tup [.int (k.1:Int),.int (k.2:Int)])) : DGet H a (.ref b) ((OF.lookP d k).map V.int):=by
  rw [← valV_encQ]
  exact DGet.t h hb
theorem qput {H:Hp}{a b:Addr}{d:OF.Caps}{k:Nat × Nat}{v:Int} (h:H a=some (.dT (d.map encQ))) (hb:H b=some (.tup [.int (k.1:Int),.int (k.2:Int)])) (hl:d.length<sizeLine) : DPut H a (.ref b) (.int v) (upd H a (.dT ((OF.putP d k v).map encQ))):=by
  rw [← putK_encQ]
  exact DPut.t h hb (by rw [List.length_map];exact hl)
section
variable {X:Cx}
def decQ:List Key→Nat × Nat
  | [Sum.inl a,Sum.inl b]=>(a.toNat,b.toNat)
  | _=>(0,0)
theorem kt_keys {H:Hp}{c:OF.Caps} : ∀ {xs:List (List Key × Addr × Value)},KT H (c.map encQ) xs→xs.map (fun x=>decQ x.1)=c.map (·.1)∧∀ x∈xs,H x.2.1=some (.tup [.int ((decQ x.1).1:Int),.int ((decQ x.1).2:Int)]):=by
  induction c with
  | nil=>intro xs h;cases h;exact ⟨rfl,fun x h=>by cases h⟩
  | cons p c ih =>
    intro xs h
    cases h with
    | cons h r =>
      rename_i x xs
      obtain ⟨h1,h2,_⟩:=h
      obtain ⟨i1,i2⟩:=ih r
      have e:decQ x.1=p.1:=by rw [← h1];show ((p.1.1:Int).toNat,(p.1.2:Int).toNat)=p.1;rw [Int.toNat_natCast,Int.toNat_natCast]
      refine ⟨by rw [List.map_cons,List.map_cons,i1,e],fun y hy => ?_⟩
      rcases List.mem_cons.mp hy with rfl | z
      · rw [e];exact h2
      · exact i2 y z
theorem call_sortedT (hc:X.calm=true) : CallR X (.builtin "sorted") (fun xs H Q => ∃ (a:Addr) (c:OF.Caps),xs=[.ref a]∧H a=some (.dT (c.map encQ))∧c.length≤100000 ∧
    ∀ (l:Addr) (ps:List Addr) (ks:List (Nat × Nat)),H l=none→ks.Perm (c.map (·.1))→Paired (fun p k=>H p=some (.tup [.int (k.1:Int),.int (k.2:Int)])) ps ks→Q (.ref l) (upd H l (.lst (ps.map V.ref)))):=by
  intro pins s σ H xs us Q I r h
  obtain ⟨a,c,rfl,hH,h64,q⟩:=h
  obtain ⟨u,rfl,ru⟩:=vals1 r
  cases (show u=Value.ref a from ru)
  obtain ⟨z,hd,ents,rel,o,es,ep,ho,hx,hdat,hes,_⟩:=(show ObjOk X.prog X.w H s.heap a (.dT (c.map encQ)) from I.hok a _ hH)
  obtain ⟨hkeys,htups⟩:=kt_keys (show KT H (c.map encQ) ents from rel)
  have hlen:ents.length=c.length:=by have:=congrArg List.length hkeys;simpa using this
  have hesz:es.size=ents.length:=by have:=congrArg List.length hes;simpa using this
  refine Calls.call_function_entry kind_sorted plain_sorted entry_sorted (args_sorted1 _) ?_
  unfold Builtin.«sorted»
  refine wpAny_bind (m:=checkCount "sorted" 1 1 _) (wpAny_pure ?_)
  refine wpAny_bind (PySem.W.kdu_collect (A:=X.A.in1) (raw_src (es:=es) (ep:=ep) hd) (I.ok.hd hc) ⟨o,ho,hx,hdat⟩ (by rw [hesz,hlen,sizeLine_eq];omega) fun h' tk acc hk hacc => ?_)
  have hvals:acc.toList=ents.map fun x=>Value.ref x.2.1:=by
    refine List.ext_getElem? fun j => ?_
    rw [Array.getElem?_toList]
    cases e:acc[j]? with
    | none =>
      have hge:acc.size≤j:=by simpa using e
      rw [List.getElem?_eq_none (by rw [List.length_map];rw [hacc.1,hesz] at hge;exact hge)]
    | some v =>
      obtain ⟨en,he,rfl⟩:=hacc.2 j v e
      rw [← Array.getElem?_toList,hes,List.getElem?_map] at he
      rw [List.getElem?_map]
      cases e2:ents[j]? with
      | none=>rw [e2] at he;cases he
      | some x=>rw [e2] at he;cases he;rfl
  have hal:acc.toList.length=c.length:=by rw [hvals,List.length_map,hlen]
  have htwo:∀ v∈acc.toList,PrAt h' v:=fun v hv=>by
    rw [hvals] at hv
    obtain ⟨x,hx,rfl⟩:=List.mem_map.mp hv
    obtain ⟨us,rv,⟨ot,ht,htc,nt,htd⟩,_⟩:=I.tuple (SqT.of (htups x hx))
    obtain ⟨u1,u2,rfl,⟨t1,rfl⟩,⟨t2,rfl⟩⟩:=vals2 rv
    exact ⟨x.2.1,ot,nt,_,_,t1,t2,rfl,hk _ _ ht,htc,htd⟩
  refine wpAny_bind (wpAny_newList ?_ (by rw [hal,sizeLine_eq];omega))
  have hoL:(h'.push (seqObj "list" acc.toList.toArray 0)).get? h'.objs.size=some (seqObj "list" acc.toList.toArray 0):=Heap.get?_push_size _ rfl
  show wpAny _ _ _ _ _ { s with heap:=h'.push (seqObj "list" acc.toList.toArray 0),toks:=tk }
  have nD:s.heap.get? h'.objs.size=none:=by
    cases e:s.heap.get? h'.objs.size with
    | none=>rfl
    | some o=>exact absurd (Heap.lt_size (hk _ _ e)) (Nat.lt_irrefl _)
  have hH0:H h'.objs.size=none:=by
    cases e:H h'.objs.size with
    | none=>rfl
    | some o=>obtain ⟨ob,e'⟩:=(I.hok _ _ e).there;rw [nD] at e';cases e'
  have fin:∀ out:List Value,out.Perm acc.toList→EP X pins σ Q (.ref h'.objs.size) { s with heap:=sortedHeap (h'.push (seqObj "list" acc.toList.toArray 0)) h'.objs.size acc.toList out.toArray,toks:=tk }:=fun out hp=>by
    obtain ⟨ents',hp',rfl⟩:=perm_unmap hp hvals
    have keep:∀ b o,s.heap.get? b=some o→(sortedHeap (h'.push (seqObj "list" acc.toList.toArray 0)) h'.objs.size acc.toList (ents'.map fun x=>Value.ref x.2.1).toArray).get? b=some o:=fun b o e=>by
      have hlt:=Heap.lt_size (hk _ _ e)
      rw [sortedHeap_old (Nat.ne_of_lt hlt) (by rw [size_push'];exact Nat.lt_succ_of_lt hlt)]
      exact Heap.get?_push_of_some _ (hk _ _ e)
    obtain ⟨ee,hat'⟩:=sortedHeap_at (out:=(ents'.map fun x=>Value.ref x.2.1).toArray) hoL
    have hl':ents'.length=c.length:=by rw [hp'.length_eq,hlen]
    have rv:Vals ((ents'.map fun x=>x.2.1).map V.ref) (ents'.map fun x=>Value.ref x.2.1):=by
      clear hp hp' keep hat' hl'
      induction ents' with
      | nil=>exact .nil
      | cons x r ih=>exact .cons rfl ih
    have hpd:Paired (fun p k=>H p=some (.tup [.int (k.1:Int),.int (k.2:Int)])) (ents'.map fun x=>x.2.1) (ents'.map fun x=>decQ x.1):=by
      have hall:∀ x∈ents',H x.2.1=some (.tup [.int ((decQ x.1).1:Int),.int ((decQ x.1).2:Int)]):=fun x hx=>htups x (hp'.mem_iff.mp hx)
      clear hp hp' keep hat' hl' rv
      induction ents' with
      | nil=>exact .nil
      | cons x r ih=>exact .cons (hall x (List.mem_cons_self ..)) (ih fun y hy=>hall y (List.mem_cons_of_mem _ hy))
    refine ⟨.ref h'.objs.size,_,I.laidN (o := .lst ((ents'.map fun x=>x.2.1).map V.ref)) (t':=tk) keep nD ⟨by rw [List.length_map,List.length_map,hl',sizeLine_eq];omega,_,ee,rv,by simpa using hat'⟩,rfl,q _ _ _ hH0 ?_ hpd⟩
    rw [← hkeys];exact hp'.map _
  refine wpAny_bind (wpAny_holding (wpAny_call_entry slot_list_sort ⟨_,hoL,rfl⟩ entry_list_sort ?body (args_list_sort _)))
  case body =>
    by_cases h2 : 2≤acc.toList.length
    · exact sort_two (s:={ s with heap:=h'.push (seqObj "list" acc.toList.toArray 0),toks:=tk }) hoL (fun v hv=>(htwo v hv).keep fun x o _ e=>Heap.get?_push_of_some _ e) h2 (by omega) fun out hp=>⟨_,rfl,wpAny_pure ⟨_,rfl,fin out hp⟩⟩
    · exact sort_small (s:={ s with heap:=h'.push (seqObj "list" acc.toList.toArray 0),toks:=tk }) hoL (by omega) ⟨_,rfl,wpAny_pure ⟨_,rfl,fin _ (List.Perm.refl _)⟩⟩
theorem Inv.freeze {pins:List (Addr × Obj)} {σ : St}{H:Hp}{s:Shared}{a:Addr}{l:OF.Terms}{o:Obj} (I:Inv X pins σ H s) (h:H a=some (.dK (l.map encP))) (ho:s.heap.get? a=some o) : Inv X pins σ (upd H a (.frz o (.dK (l.map encP)))) s :=
  I.write (h':=s.heap) (t':=s.toks) (x:=a) (e:=a) (by rw [h];exact trivial) (.inl rfl) (fun _ _ _ e=>e) ⟨o,ho⟩ ⟨ho,I.hok a _ h⟩
def Itd (a:Addr) (o:Obj) (l:OF.Terms) : It :=
  ⟨fun i H=>H a=some (.frz o (.dK (l.map encP)))∧i<l.length,fun i H x H'=>H'=H∧∃ t,l[i]? = some t∧x = .int t.1,fun i H=>H a=some (.frz o (.dK (l.map encP)))∧l.length≤i⟩
theorem dk_entries {pins:List (Addr × Obj)} {σ : St}{H:Hp}{s:Shared}{a:Addr}{l:OF.Terms}{o:Obj}{es:Array DictEntry}{ep:Nat} (I:Inv X pins σ H s) (h:H a=some (.frz o (.dK (l.map encP)))) (hd:o.data = .dict es ep) :
    s.heap.get? a=some o∧o.ExactDict∧es.size=l.length∧∀ (i:Nat) (e:DictEntry),es[i]? = some e→∃ t k,l[i]? = some t∧e.key=Value.int t.1 k:=by
  obtain ⟨ho,z,hs,vs,rel,o',es',ep',ho',hx',hd',hk',hp',hn'⟩:=(show ObjOk X.prog X.w H s.heap a (.frz o (.dK (l.map encP))) from I.hok a _ h)
  rw [ho] at ho'
  cases ho'
  rw [hd] at hd'
  injection hd' with e1 e2
  subst e1
  have hlen:vs.length=l.length:=by rw [← rel.length,List.length_map]
  have hsz:es.size=l.length:=by rw [← hlen,← hp'.length];simp
  refine ⟨ho,hx',hsz,fun i e he => ?_⟩
  have hi:i<l.length:=by rw [← hsz];exact (Array.getElem?_eq_some_iff.mp he).1
  have hkeys:vs.map (·.1)=(l.map (·.1)).map Sum.inl:=by rw [← rel.keys];exact keys_enc l
  have hv:vs[i]? = some (vs[i]'(by omega)):=List.getElem?_eq_getElem (by omega)
  have hik:=(hp'.get? (i:=i) (e:=e) (k:=(vs[i]'(by omega)).1) (v:=(vs[i]'(by omega)).2) (by rw [Array.getElem?_toList];exact he) hv).1
  have e1:(vs.map (·.1))[i]? = some (vs[i]'(by omega)).1:=by rw [List.getElem?_map,hv];rfl
  rw [hkeys,List.getElem?_map,List.getElem?_map,List.getElem?_eq_getElem hi] at e1
  have e2:Sum.inl (l[i]).1=(vs[i]'(by omega)).1:=Option.some.inj e1
  rw [← e2] at hik
  obtain ⟨t,et⟩:=Value.isInt_shape hik
  exact ⟨l[i],t,List.getElem?_eq_getElem hi,et⟩
theorem turn_dict {P:Program}{w:World}{K:PySem.W.Frag}{tg:Expr} (a it:Addr) (o:Obj) (l:OF.Terms) (es:Array DictEntry) (ep:Nat) (hd:o.data = .dict es ep) (hai:a≠it) :
    Turn P w K tg (Itd a o l) [it] it (fun i h=>h.IsKeyIter it a i es.size ep) where
  mem:=List.mem_singleton.mpr rfl
  obj:=fun i h st b hb=>by
    obtain ⟨o,e,c,d⟩:=st
    rw [List.mem_singleton.mp hb]
    exact ⟨o,e,fun v z=>by rw [d] at z;cases z⟩
  keep:=fun i h h' st k=>st.at (k it (List.mem_singleton.mpr rfl))
  item:=by
    intro X hP hw hK hc i pins s σ H E I hf st hg
    subst hP hw hK
    obtain ⟨h1,h2,h3,h4⟩:=dk_entries I hg.1 hd
    have fo:=hf it (List.mem_singleton.mpr rfl)
    have hi:i<l.length:=hg.2
    refine raw_look st ⟨o,h1,h2,hd⟩ (fun e he h' st' sb => ?_) fun hge=>absurd hi (by omega)
    obtain ⟨t,k,ht,ek⟩:=h4 i e he
    have J:Inv X pins σ H { s with heap:=h' }:=I.turned (t':=s.toks) (fun b o hb z=>(sb.2 b hb).trans z) fo.1 fo.2.1 fo.2.2.2.1 fo.2.2.2.2.1 fo.2.2.2.2.2
    have st2:=st'
    obtain ⟨oi,z1,z2,z3⟩:=st'
    exact ⟨e.key,rfl,go_of (s:={ s with heap:=h' }) z1 z2 z3 (by decide) ⟨.int t.1,H,J,⟨k,ek⟩,⟨rfl,t,ht,rfl⟩,st2,fun b hb=>(hf b hb).1⟩⟩
  done:=by
    intro X hP hw hK hc i pins s σ H E I hf st hg
    subst hP hw hK
    obtain ⟨h1,h2,h3,h4⟩:=dk_entries I hg.1 hd
    have fo:=hf it (List.mem_singleton.mpr rfl)
    have hi:l.length≤i:=hg.2
    exact raw_look st ⟨o,h1,h2,hd⟩ (fun e he=>absurd (Array.getElem?_eq_some_iff.mp he).1 (by omega)) fun _=>⟨I.ok.hd hc,fun h' eb=>⟨rfl,I.turned (t':=s.toks) (fun b o hb z=>eb b o hb z) fo.1 fo.2.1 fo.2.2.2.1 fo.2.2.2.2.1 fo.2.2.2.2.2⟩⟩
  self:=fun _ _ _ _ _ st h=>wpAny_pyIter_keyiter st h
def iDict (td:TE) : TI:=fun σ H R=>td σ H fun x H1 => ∃ (a:Addr) (l:OF.Terms),x = .ref a∧H1 a=some (.dK (l.map encP))∧∀ o,R (Itd a o l) (upd H1 a (.frz o (.dK (l.map encP))))
theorem pi_dictF {tg d:Expr}{td:TE} (hd:PE X d td) : PI X tg d (iDict td):=by
  intro pins s σ H R I h
  refine thn (hd pins s σ H _ I h) fun v s1 ⟨x,H1,I1,r1,a,l,ex,hH,q⟩ => ?_
  subst ex
  cases r1
  obtain ⟨z,hs,vs,rel,o,es,ep,ho,hx,hdat,hk,hp,hn⟩:=(show ObjOk X.prog X.w H1 s1.heap a (.dK (l.map encP)) from I1.hok a _ hH)
  have I2:=I1.freeze hH ho
  refine raw_iter hs ⟨o,ho,hx,hdat⟩ ?_
  refine ⟨s1.heap.objs.size,[s1.heap.objs.size],_,_,_,rfl,I2.kept (t':=s1.toks) fun b o e=>Heap.get?_push_of_some _ e,turn_dict a _ o l es ep hdat (Nat.ne_of_lt (Heap.lt_size ho)),⟨_,Heap.get?_push_size _ rfl,rfl,rfl⟩,fun b hb => ?_,q o⟩
  rw [List.mem_singleton.mp hb]
  exact I2.fpOk (Nat.le_refl _) (I2.hok.fresh (Nat.le_refl _))
theorem for_dict {a:Addr}{o:Obj}{l:OF.Terms}{g:TG}{tb:TS}{D:Ends} {σ : St}{H:Hp} (Pv:Nat→St→Hp→Prop) (h0:Pv 0 σ H) (hl:∀ i σ H,i≤l.length→Pv i σ H→H a=some (.frz o (.dK (l.map encP))))
    (hs:∀ i t σ H,l[i]? = some t→Pv i σ H→g (.int t.1) σ H fun σ2 H2=>tb { D with nx:=Pv (i+1),ct:=Pv (i+1),bk:=D.nx } σ2 H2) (hd:∀ σ H,Pv l.length σ H→D.nx σ H) :
    ∃ W:Nat→Nat→St→Hp→Prop,(∃ m,W 0 m σ H)∧∀ i m σ H,W i m σ H →
      ((Itd a o l).stop i H∧D.nx σ H)∨((Itd a o l).go i H∧∃ N:St→Hp→Prop,(∀ σ' H',N σ' H'→∃ m',m'<m∧W (i+1) m' σ' H')∧∀ x H',(Itd a o l).yld i H x H'→g x σ H' fun σ2 H2=>tb { D with nx:=N,ct:=N,bk:=D.nx } σ2 H2):=by
  refine ⟨fun i m σ H=>m=l.length-i∧i≤l.length∧Pv i σ H,⟨l.length,by simp,Nat.zero_le _,h0⟩,fun i m σ H ⟨em,hi,p⟩ => ?_⟩
  subst em
  have q:=hl i σ H hi p
  rcases Nat.lt_or_ge i l.length with hlt | hge
  · refine .inr ⟨⟨q,hlt⟩,Pv (i+1),fun σ' H' p'=>⟨l.length-(i+1),by omega,rfl,hlt,p'⟩,fun x H' y => ?_⟩
    obtain ⟨e,t,ht,ex⟩:=y
    rw [e,ex]
    exact hs i t σ H ht p
  · have e:i=l.length:=Nat.le_antisymm hi hge
    rw [e] at p
    exact .inl ⟨⟨q,hge⟩,hd σ H p⟩
end
end L2
namespace My
open PySem L2 OF
def lowB (n:Nat) : Nat:=if h:n=0 then 0 else if n % 2=1 then 0 else lowB (n / 2)+1
termination_by n
decreasing_by omega
theorem low_even {b:Nat} (h:b≠0) : lowB (2 * b)=lowB b+1:=by
  rw [lowB,dif_neg (by omega),if_neg (by omega),show 2 * b / 2=b by omega]
theorem low_odd (b:Nat) : lowB (2 * b+1)=0:=by
  rw [lowB,dif_neg (by omega),if_pos (by omega)]
theorem and_pred (n:Nat) : n≠0→n=(n &&& (n-1))+2^lowB n∧n.testBit (lowB n)=true∧∀ i,i<lowB n→n.testBit i=false:=by
  induction n using Nat.strongRecOn with
  | _ n ih =>
    intro h
    rcases Nat.mod_two_eq_zero_or_one n with z | z
    · obtain ⟨b,rfl⟩ : ∃ b,n=2 * b:=⟨n / 2,by omega⟩
      have hb:b≠0:=by omega
      obtain ⟨h1,h2,h3⟩:=ih b (by omega) hb
      have e : 2 * b &&& (2 * b-1)=2 * (b &&& (b-1)):=by
        have:=and_two b (b-1) 0 1 (by decide) (by decide)
        rw [show 2 * (b-1)+1=2 * b-1 by omega] at this
        simpa using this
      rw [low_even hb,e,Nat.pow_succ]
      refine ⟨(show ∀ a x y:Nat,a=x+y→2 * a=2 * x+y * 2 by omega) _ _ _ h1,?_,fun i hi => ?_⟩
      · rw [Nat.testBit_succ,show 2 * b / 2=b by omega];exact h2
      · cases i with
        | zero=>rw [Nat.testBit_zero];simp
        | succ i=>rw [Nat.testBit_succ,show 2 * b / 2=b by omega];exact h3 i (by omega)
    · obtain ⟨b,rfl⟩ : ∃ b,n=2 * b+1:=⟨n / 2,by omega⟩
      have e:(2 * b+1) &&& (2 * b+1-1)=2 * b:=by
        have:=and_two b b 1 0 (by decide) (by decide)
        simpa using this
      rw [low_odd,e]
      refine ⟨by simp,?_,fun i hi=>absurd hi (Nat.not_lt_zero _)⟩
      rw [Nat.testBit_zero];simp
def partsN (T:Nat) : Nat→Terms
  | 0=>[(0,1)]
  | k+1=>if T.testBit k=true then partsN T k++(partsN T k).map fun p=>(p.1+2^k,0-p.2) else partsN T k
theorem parts_skip {T k:Nat} : ∀ {m:Nat},k≤m→(∀ i,k≤i→i<m→T.testBit i=false)→partsN T m=partsN T k
  | 0,h,_=>by rw [Nat.le_zero.mp h]
  | m+1,h,hb=>by
    rcases Nat.lt_or_ge m k with z | z
    · rw [show k=m+1 by omega]
    · rw [partsN,if_neg (by rw [hb m z (by omega)];decide)]
      exact parts_skip z fun i h1 h2=>hb i h1 (by omega)
theorem parts_rng {T:Nat} : ∀ {k:Nat},∀ p∈partsN T k,0≤p.1∧p.1<2^k∧(p.2=1∨p.2 = -1)
  | 0,p,h=>by
    have:p=(0,1):=by simpa [partsN] using h
    subst this;exact ⟨by decide,by decide,.inl rfl⟩
  | k+1,p,h=>by
    have hp:=Nat.two_pow_pos k
    have pw:=pow_cast k
    have e:((2:Int)^(k+1))=2^k * 2:=Int.pow_succ ..
    rw [partsN] at h
    split at h
    · rcases List.mem_append.mp h with z | z
      · obtain ⟨a,b,c⟩:=parts_rng p z
        exact ⟨a,by omega,c⟩
      · obtain ⟨w,hw,rfl⟩:=List.mem_map.mp z
        obtain ⟨a,b,c⟩:=parts_rng w hw
        refine ⟨by show 0≤w.1+2^k;omega,by show w.1+2^k<_;omega,?_⟩
        show 0-w.2=1∨0-w.2 = -1
        omega
    · obtain ⟨a,b,c⟩:=parts_rng p h
      exact ⟨a,by omega,c⟩
theorem parts_len {T b:Nat} (h:∀ i,T.testBit i=true→i<6∨i=b) : ∀ k,(partsN T k).length≤2^(min k 6) * (if b<k then 2 else 1)
  | 0=>by simp [partsN]
  | k+1=>by
    have ih:=parts_len h k
    have p0:=Nat.two_pow_pos (min k 6)
    have m1 : 2^(min k 6)≤2^(min (k+1) 6):=Nat.pow_le_pow_right (by decide) (by omega)
    rw [partsN]
    split
    · rename_i hb
      rw [List.length_append,List.length_map]
      rcases h k hb with z | z
      · have e:min (k+1) 6=min k 6+1:=by omega
        rw [e,Nat.pow_succ]
        by_cases h1:b<k
        · rw [if_pos h1] at ih;rw [if_pos (by omega)];omega
        · rw [if_neg h1] at ih
          by_cases h2:b<k+1
          · rw [if_pos h2];omega
          · rw [if_neg h2];omega
      · subst z
        rw [if_neg (Nat.lt_irrefl _)] at ih
        rw [if_pos (by omega)]
        omega
    · by_cases h1:b<k
      · rw [if_pos h1] at ih;rw [if_pos (by omega)];omega
      · rw [if_neg h1] at ih
        by_cases h2:b<k+1
        · rw [if_pos h2];omega
        · rw [if_neg h2];omega
def mapS (S n:Int) (l:Terms) : Terms:=l.map fun p=>(Builtin.bitOr S p.1,n * p.2)
theorem or_add {S p:Int}{j:Nat} (hS : 0≤S) (hp : 0≤p) (hj:p<2^j) : Builtin.bitOr S (p+2^j)=Builtin.bitOr (Builtin.bitOr S p) (2^j):=by
  have h1:p.toNat<2^j:=by have:=pow_cast j;omega
  have h2:p.toNat / 2^j % 2=0:=by rw [Nat.div_eq_of_lt h1]
  have e1:p+2^j=((p.toNat ||| 2^j:Nat) : Int):=by
    rw [← add_pow_of_nobit h2,pow_cast,← key_nat hp];norm_cast
  rw [e1,← key_nat hS,← key_nat hp,bitOr_nat,bitOr_nat,pow_cast,bitOr_nat,Nat.or_assoc,Int.toNat_natCast]
abbrev T3:=Int × Int × Int
def Trs (H:Hp) : List Addr→List T3→Prop:=Paired fun p t=>H p=some (.tup [.int t.1,.int t.2.1,.int t.2.2])
def T3o (H:Hp) (a:Addr) (l:List T3) : Prop := ∃ ps,H a=some (.lst (ps.map V.ref))∧Trs H ps l
theorem Trs.length {H:Hp}{ps:List Addr}{l:List T3} (h:Trs H ps l) : ps.length=l.length:=Paired.length h
theorem Trs.at':∀ {H:Hp}{ps:List Addr}{l:List T3}{i:Nat}{p:Addr},Trs H ps l→ps[i]? = some p→∃ t,l[i]? = some t∧H p=some (.tup [.int t.1,.int t.2.1,.int t.2.2])
  | _,_,_,_,_,.nil,e=>by simp at e
  | _,_,_,0,p,.cons (b:=t) r q,e=>by
    rw [List.getElem?_cons_zero] at e
    cases e
    exact ⟨t,rfl,r⟩
  | _,_,_,i+1,p,.cons r q,e=>by
    obtain ⟨t,h1,h2⟩:=Trs.at' (i:=i) q (by simpa using e)
    exact ⟨t,by simpa using h1,h2⟩
def openL (t:T3) : Terms:=mapS t.2.1 t.1 (partsN t.2.2.toNat 62)
def allL (n:Int) (l:List T3) : Terms:=(0,n) :: l.flatMap openL
def Nice (t:T3) : Prop:=t.2.2<2^62∧∃ b,∀ i,t.2.2.toNat.testBit i=true→i<6∨i=b
theorem open_len {t:T3} (h:Nice t) : (openL t).length≤128:=by
  obtain ⟨_,b,hb⟩:=h
  unfold openL mapS
  rw [List.length_map]
  have:=parts_len hb 62
  have e : 2^(min 62 6)=64:=by decide
  rw [e] at this
  split at this <;> omega
theorem all_len {n:Int} : ∀ {l:List T3},(∀ t∈l,Nice t)→(allL n l).length≤1+128 * l.length
  | [],_=>by simp [allL]
  | t :: r,h=>by
    have ih:=all_len (n:=n) (l:=r) fun u hu=>h u (by simp [hu])
    have h1:=open_len (h t (by simp))
    unfold allL at *
    rw [List.flatMap_cons,List.length_cons,List.length_append]
    rw [List.length_cons] at ih
    rw [List.length_cons];omega
theorem lt64 {T:Nat} (h:T<64) {i:Nat} (hi:T.testBit i=true) : i<6:=by
  rcases Nat.lt_or_ge i 6 with z | z
  · exact z
  · have:T.testBit i=false:=Nat.testBit_lt_two_pow (Nat.lt_of_lt_of_le h (Nat.pow_le_pow_right (by decide) z : 2^6≤2^i))
    rw [this] at hi;cases hi
theorem nice_of {t:T3} (h:t.2.2<64) : Nice t:=⟨by omega,0,fun i hi => .inl (lt64 (by omega) hi)⟩
end My
set_option maxHeartbeats 1000000
namespace My
open PySem L2 OF
def lowV (n:Nat) : Nat:=n-(n &&& (n-1))
theorem lowV_pos {n:Nat} (h:n≠0) : lowV n=2^lowB n:=by
  have h1:=(and_pred n h).1
  have hp:=Nat.two_pow_pos (lowB n)
  unfold lowV
  generalize 2^lowB n=p at h1 hp ⊢
  omega
theorem bits_two {i j k:Nat} (h:i<j) : (2^i+2^j).testBit k=true↔k=i∨k=j:=by
  have hlt : 2^i<2^j:=Nat.pow_lt_pow_right (by decide) h
  rw [show 2^i+2^j=2^j * 1+2^i by omega,Nat.testBit_two_pow_mul_add 1 hlt]
  by_cases y:k<j
  · rw [if_pos y,Nat.testBit_two_pow]
    exact ⟨fun z => .inl (of_decide_eq_true z).symm,fun z=>decide_eq_true (z.elim Eq.symm fun w=>by omega)⟩
  · rw [if_neg y,Nat.testBit_one_eq_true_iff_self_eq_zero]
    exact ⟨fun z => .inr (by omega),fun z=>z.elim (fun w=>by omega) fun w=>by omega⟩
theorem lowB_of {n i:Nat} (hn:n≠0) (h1:n.testBit i=true) (h2:∀ k,n.testBit k=true→i≤k) : lowB n=i:=by
  obtain ⟨_,a,b⟩:=and_pred n hn
  have h3:=h2 _ a
  rcases Nat.eq_or_lt_of_le h3 with e | e
  · exact e.symm
  · rw [b i e] at h1;cases h1
theorem low_one (i:Nat) : lowV (2^i)=2^i:=by
  have hp:=Nat.two_pow_pos i
  rw [lowV_pos (by omega),lowB_of (i:=i) (by omega) (Nat.testBit_two_pow_self) fun k hk=>by rw [Nat.testBit_two_pow] at hk;exact Nat.le_of_eq (of_decide_eq_true hk)]
theorem low_two {i j:Nat} (h:i<j) : lowV (2^i+2^j)=2^i:=by
  have hp:=Nat.two_pow_pos i
  have hne : 2^i+2^j≠0:=Nat.ne_of_gt (Nat.add_pos_left hp _)
  rw [lowV_pos hne,lowB_of (i:=i) hne ((bits_two h).mpr (.inl rfl)) fun k hk=>by rcases (bits_two h).mp hk with e | e <;> omega]
def PairOk (t:Int × Int) : Prop:=t.1=0∨(∃ i:Nat,t.1=((2^i:Nat) : Int))∨∃ i j:Nat,i<j∧t.1=((2^i+2^j:Nat) : Int)∧t.2<0
theorem PairOk.nonneg {t:Int × Int} (h:PairOk t) : 0≤t.1:=by
  rcases h with e | ⟨i,e⟩ | ⟨i,j,_,e,_⟩
  · rw [e];exact Int.le_refl _
  · rw [e];exact Int.natCast_nonneg _
  · rw [e];exact Int.natCast_nonneg _
def halves (t:Int × Int) : Nat × Nat:=(lowV t.1.toNat,t.1.toNat-lowV t.1.toNat)
def isTwo (t:Int × Int) : Prop:=t.1.toNat≠lowV t.1.toNat
instance (t:Int × Int) : Decidable (isTwo t):=inferInstanceAs (Decidable (_≠_))
theorem PairOk.two {t:Int × Int} (h:PairOk t) (h2:isTwo t) : ∃ i j:Nat,i<j∧t.1=((2^i+2^j:Nat) : Int)∧t.2<0∧halves t=(2^i,2^j):=by
  rcases h with e | ⟨i,e⟩ | ⟨i,j,hij,e,hn⟩
  · exact absurd (by rw [e];rfl) h2
  · exact absurd (by rw [e,Int.toNat_natCast,low_one]) h2
  · refine ⟨i,j,hij,e,hn,?_⟩
    unfold halves
    rw [e,Int.toNat_natCast,low_two hij]
    simp
def sumB (l:Terms) (g:Nat) : Int:=(l.map fun t=>t.2 * btP t.1.toNat g).sum
theorem worth_sumB {l:Terms} (h:∀ t∈l,0≤t.1) (g:Nat) : worthL l (g:Int)=sumB l g:=by
  rw [worth_subw h]
  unfold subw sumB
  clear h
  induction l with
  | nil=>rfl
  | cons t r ih =>
    rw [List.filter_cons,List.map_cons,List.sum_cons,← ih]
    unfold btP
    by_cases y:t.1.toNat &&& g=t.1.toNat
    · rw [if_pos (by simpa using y),if_pos y,Int.mul_one];rfl
    · rw [if_neg (by simpa using y),if_neg y,Int.mul_zero,Int.zero_add]
def pairW (l:Terms) (g:Nat) : Int:=(l.map fun t=>if isTwo t then -t.2 * oneP (halves t) g else 0).sum
def singP (t:Int × Int) (g:Nat) : Int:=(if t.1≠0∧0<t.2 then t.2 * oneP (t.1.toNat,0) g else 0)+if t.1≠0∧t.2<0 then -t.2 * oneP (0,t.1.toNat) g else 0
def singW (l:Terms) (g:Nat) : Int:=(l.map fun t=>singP t g).sum
theorem oneP_l (x g:Nat) : oneP (x,0) g=btP x g:=by unfold oneP onP btP;simp
theorem oneP_r {x:Nat} (h:Single x) (g:Nat) : oneP (0,x) g=1-btP x g:=by
  have h0:=single_ne h
  unfold oneP onP btP
  rcases single_bit h g with ⟨a,b⟩ | ⟨a,b⟩ <;> simp [a,h0,h0.symm]
theorem oneP_two {x y:Nat} (h:Single x) (h':Single y) (g:Nat) : oneP (x,y) g=btP x g * (1-btP y g):=by
  have h0:=single_ne h
  have h1:=single_ne h'
  unfold oneP onP btP
  rcases single_bit h g with ⟨a,b⟩ | ⟨a,b⟩ <;> rcases single_bit h' g with ⟨c,d⟩ | ⟨c,d⟩ <;> simp [a,c,h0,h0.symm,h1,h1.symm]
theorem and_two {i j g:Nat} (h:i<j) : btP (2^i+2^j) g=btP (2^i) g-oneP (2^i,2^j) g:=by
  have e:(2^i+2^j) &&& g=2^i+2^j↔2^i &&& g=2^i∧2^j &&& g=2^j:=by
    rw [sub_bits,sub_bits,sub_bits]
    constructor
    · intro z
      exact ⟨fun k hk=>z k ((bits_two h).mpr (.inl (by rw [Nat.testBit_two_pow] at hk;exact (of_decide_eq_true hk).symm))),fun k hk=>z k ((bits_two h).mpr (.inr (by rw [Nat.testBit_two_pow] at hk;exact (of_decide_eq_true hk).symm)))⟩
    · intro z k hk
      rcases (bits_two h).mp hk with rfl | rfl
      · exact z.1 _ Nat.testBit_two_pow_self
      · exact z.2 _ Nat.testBit_two_pow_self
  rw [oneP_two ⟨i,rfl⟩ ⟨j,rfl⟩]
  have b1:btP (2^i) g=0∨btP (2^i) g=1:=by unfold btP;split <;> simp
  by_cases a : 2^i &&& g=2^i
  · have e1:btP (2^i) g=1:=if_pos a
    by_cases b : 2^j &&& g=2^j
    · have e2:btP (2^j) g=1:=if_pos b
      have e3:btP (2^i+2^j) g=1:=if_pos (e.mpr ⟨a,b⟩)
      rw [e1,e2,e3];rfl
    · have e2:btP (2^j) g=0:=if_neg b
      have e3:btP (2^i+2^j) g=0:=if_neg fun z=>b (e.mp z).2
      rw [e1,e2,e3];rfl
  · have e1:btP (2^i) g=0:=if_neg a
    have e3:btP (2^i+2^j) g=0:=if_neg fun z=>a (e.mp z).1
    rw [e1,e3,Int.zero_mul];rfl
theorem sum_low {l:Terms} (h:∀ t∈l,PairOk t) (g:Nat) : sumB l g=sumB (l.map fun t=>((lowV t.1.toNat:Int),t.2)) g+pairW l g:=by
  unfold sumB pairW
  induction l with
  | nil=>rfl
  | cons t r ih =>
    rw [List.map_cons,List.sum_cons,ih fun u hu=>h u (List.mem_cons_of_mem _ hu),List.map_cons,List.map_cons,List.sum_cons,List.map_cons,List.sum_cons]
    have ht:=h t (List.mem_cons_self ..)
    have:t.2 * btP t.1.toNat g=t.2 * btP ((lowV t.1.toNat:Int)).toNat g+if isTwo t then -t.2 * oneP (halves t) g else 0:=by
      rw [Int.toNat_natCast]
      by_cases y:isTwo t
      · obtain ⟨i,j,hij,e,_,e2⟩:=ht.two y
        rw [if_pos y,e2]
        have e3:lowV t.1.toNat=2^i:=congrArg Prod.fst e2
        rw [e3,e,Int.toNat_natCast,and_two hij,Int.mul_sub,Int.neg_mul];omega
      · have e3:t.1.toNat=lowV t.1.toNat:=Classical.byContradiction fun z=>y z
        rw [if_neg y,← e3,Int.add_zero]
    dsimp only
    omega
theorem sing_one {t:Int × Int} (h0:t.2≠0) (h:t.1=0∨∃ i:Nat,t.1=((2^i:Nat) : Int)) (g:Nat) : t.2 * btP t.1.toNat g=(if flP t=true then t.2 else 0)+singP t g:=by
  unfold singP flP
  rcases h with e | ⟨i,e⟩
  · rw [e]
    have:btP (0:Int).toNat g=1:=by unfold btP;rw [if_pos (by simp)]
    rw [this];simp
  · have p1:=Nat.two_pow_pos i
    have e0 : ¬ t.1=0:=by rw [e];exact fun z=>Nat.ne_of_gt p1 (Int.ofNat.inj z)
    have et:t.1.toNat=2^i:=by rw [e,Int.toNat_natCast]
    rw [et,oneP_l,oneP_r ⟨i,rfl⟩]
    rcases Int.lt_or_gt_of_ne h0 with y | y
    · rw [if_pos (by simp [y]),if_neg (fun z=>absurd z.2 (by omega)),if_pos ⟨e0,y⟩,Int.mul_sub,Int.mul_one,Int.neg_mul];omega
    · have y' : ¬ t.2<0:=by omega
      rw [if_neg (by simp [e0,y']),if_pos ⟨e0,y⟩,if_neg (fun z=>y' z.2)];omega
theorem sum_sing {l:Terms} (h0:∀ t∈l,t.2≠0) (h:∀ t∈l,t.1=0∨∃ i:Nat,t.1=((2^i:Nat) : Int)) (g:Nat) : sumB l g=floorL l+singW l g:=by
  unfold sumB singW floorL
  induction l with
  | nil=>rfl
  | cons t r ih =>
    rw [List.map_cons,List.sum_cons,ih (fun u hu=>h0 u (List.mem_cons_of_mem _ hu)) fun u hu=>h u (List.mem_cons_of_mem _ hu),sing_one (h0 t (List.mem_cons_self ..)) (h t (List.mem_cons_self ..)),List.map_cons,List.sum_cons,List.filter_cons]
    by_cases y:flP t=true
    · rw [if_pos y,if_pos y,List.map_cons,List.sum_cons];omega
    · rw [if_neg y,if_neg y];omega
theorem pull_worth {f sg:Terms} (h:∀ t∈f,PairOk t) (hs:FormOf sg (f.map fun t=>((lowV t.1.toNat:Int),t.2))) (g:Nat) : worthL f (g:Int)=floorL sg+(pairW f g+singW sg g):=by
  have hsrc:∀ t∈sg,t.1=0∨∃ i:Nat,t.1=((2^i:Nat) : Int):=fun t ht=>by
    obtain ⟨u,hu,e⟩:=List.mem_map.mp (hs.src t ht)
    obtain ⟨v,hv,rfl⟩:=List.mem_map.mp hu
    rw [← e]
    show ((lowV v.1.toNat:Nat) : Int)=0∨_
    by_cases z:v.1.toNat=0
    · left;rw [z];rfl
    · right;exact ⟨lowB v.1.toNat,by show ((lowV v.1.toNat:Nat) : Int)=_;rw [lowV_pos z]⟩
  rw [worth_sumB (fun t ht=>(h t ht).nonneg),sum_low h]
  have e:sumB (f.map fun t=>((lowV t.1.toNat:Int),t.2)) g=sumB sg g:=by
    rw [← worth_sumB (l:=f.map fun t=>((lowV t.1.toNat:Int),t.2)) (fun t ht=>by obtain ⟨v,_,rfl⟩:=List.mem_map.mp ht;exact Int.natCast_nonneg _),← worth_sumB (fun t ht=>(hsrc t ht).elim (fun e=>by rw [e];exact Int.le_refl _) fun ⟨i,e⟩=>by rw [e];exact Int.natCast_nonneg _)]
    exact (worth_congr _ hs.val).symm
  rw [e,sum_sing hs.nz hsrc]
  omega
def castP (l:List (Nat × Nat)) : Terms:=l.map fun p=>((p.1:Int),(p.2:Int))
theorem castP_keys (l:List (Nat × Nat)) : (castP l).map (·.1)=(l.map (·.1)).map fun x:Nat=>(x:Int):=by unfold castP;rw [List.map_map,List.map_map];rfl
theorem look_cast {x:Nat} : ∀ {l:List (Nat × Nat)},(l.map (·.1)).Nodup→∀ {y:Nat},(x,y)∈l→look (castP l) (x:Int)=some (y:Int):=fun {l} hn y h=>by
  have hn2:((castP l).map (·.1)).Nodup:=by
    rw [castP_keys,List.Nodup,List.pairwise_map]
    exact hn.imp fun {a b} hab z=>hab (by omega)
  exact look_of_mem hn2 (t:=((x:Int),(y:Int))) (List.mem_map.mpr ⟨(x,y),h,rfl⟩)
theorem look_cast_none {x:Nat}{l:List (Nat × Nat)} (h:x ∉ l.map (·.1)) : look (castP l) (x:Int)=none:=by
  cases e:look (castP l) (x:Int) with
  | none=>rfl
  | some v =>
    exfalso
    have:=look_mem.mp (show look (castP l) (x:Int)≠none by rw [e];exact fun z=>nomatch z)
    rw [castP_keys] at this
    obtain ⟨y,hy,e2⟩:=List.mem_map.mp this
    exact h (by rw [← Int.ofNat.inj e2];exact hy)
theorem put_cast {x y:Nat}{l:List (Nat × Nat)} (h:x ∉ l.map (·.1)) : putI (castP l) (x:Int) (y:Int)=castP (l ++ [(x,y)]):=by
  unfold putI
  rw [look_any,look_cast_none h]
  unfold castP
  rw [List.map_append];rfl
theorem cget_in {H:Hp}{a:Addr}{l:List (Nat × Nat)}{x y:Nat} (h:Rd H a (.dK ((castP l).map encP))) (hn:(l.map (·.1)).Nodup) (hx:(x,y)∈l) : DGet H a (.int (x:Int)) (some (.int (y:Int))) :=
  .inl ⟨_,Sum.inl (x:Int),h,rfl,by rw [valV_enc,look_cast hn hx];rfl⟩
theorem cget_out {H:Hp}{a:Addr}{l:List (Nat × Nat)}{x:Nat} (h:Rd H a (.dK ((castP l).map encP))) (hx:x ∉ l.map (·.1)) : DGet H a (.int (x:Int)) none :=
  .inl ⟨_,Sum.inl (x:Int),h,rfl,by rw [valV_enc,look_cast_none hx];rfl⟩
theorem qget0 {H:Hp}{a b:Addr}{d:Caps}{k:Nat × Nat} (h:H a=some (.dT (d.map encQ))) (hb:H b=some (.tup [.int (k.1:Int),.int (k.2:Int)])) : ∃ o,DGet H a (.ref b) o∧o.getD (.int 0) = .int (getP d k):=by
  refine ⟨_,qget h hb,?_⟩
  unfold getP
  cases lookP d k <;> rfl
theorem qget1 {H:Hp}{a b:Addr}{d:Caps}{k:Nat × Nat} (h:H a=some (.dT (d.map encQ))) (hb:H b=some (.tup [.int (k.1:Int),.int (k.2:Int)])) (hk:k∈d.map (·.1)) : DGet H a (.ref b) (some (.int (getP d k))):=by
  have:=qget h hb
  unfold getP
  cases e:lookP d k with
  | none=>exact absurd hk (lookP_none.mp e)
  | some v=>rw [e] at this;exact this
def Prs (H:Hp) (a:Addr) (l:List (Nat × Nat)) : Prop := ∃ ps:List Addr,H a=some (.lst (ps.map V.ref))∧Paired (fun p (k:Nat × Nat)=>H p=some (.tup [.int (k.1:Int),.int (k.2:Int)])) ps l
theorem Prs.keep {H H':Hp}{a:Addr}{l:List (Nat × Nat)} (h:Prs H a l) (k:Same H H') : Prs H' a l:=let ⟨ps,h1,h2⟩:=h; ⟨ps,k _ _ h1,Paired.mapP h2 fun _ _ e=>k _ _ e⟩
theorem same_reached {c:Caps}{bits:List Nat}{l:List (Nat × Nat)} (h0:Opened c bits l 0) (hA:∀ x∈l.map (·.1),Opened c bits l x) : ∀ {r pre:List (Nat × Nat)},Tree c bits pre r→(∀ x∈pre.map (·.1),x∈l.map (·.1))→∀ x∈(pre++r).map (·.1),x∈l.map (·.1)
  | [],pre,_,hp=>by rw [List.append_nil];exact hp
  | e :: r,pre,h,hp=>by
    obtain ⟨a1,a2,a3,a4⟩:=h
    have he:e.1∈l.map (·.1):=a3.elim (fun z=>h0 e.1 a1 (by rw [← z];exact a2)) fun z=>hA e.2 (hp _ z) e.1 a1 a2
    have:=same_reached h0 hA a4 fun x hx=>by
      rw [List.map_append] at hx
      rcases List.mem_append.mp hx with y | y
      · exact hp x y
      · rw [List.mem_singleton.mp y];exact he
    rwa [List.append_assoc] at this
theorem nodup_le {α : Type} [DecidableEq α] : ∀ {l B:List α},l.Nodup→(∀ x∈l,x∈B)→l.length≤B.length
  | [],_,_,_=>Nat.zero_le _
  | a :: r,B,hn,hs=>by
    have h1:=List.nodup_cons.mp hn
    have ha:=hs a (List.mem_cons_self ..)
    have h2:=nodup_le (l:=r) (B:=B.erase a) h1.2 fun x hx=>(List.mem_erase_of_ne (fun z:x=a=>h1.1 (z ▸ hx))).mpr (hs x (List.mem_cons_of_mem _ hx))
    have h3:=List.length_erase_of_mem ha
    have h4 : 0<B.length:=List.length_pos_of_mem ha
    rw [List.length_cons]
    omega
theorem Net.len {bits:List Nat}{c:Caps} (N:Net bits c) (h0 : 0 ∉ bits) (hb:bits.length≤16) : c.length≤288:=by
  have h:=nodup_le (l:=(0,0) :: c.map (·.1)) (B:=(0 :: bits).flatMap fun a=>(0 :: bits).map fun b=>(a,b)) (List.nodup_cons.mpr ⟨fun z=>by
    rcases N.keys _ z with ⟨_,b⟩ | ⟨_,b⟩ | ⟨_,_,b⟩
    · exact h0 b
    · exact h0 b
    · exact b rfl,N.nodup⟩) fun x hx=>by
    have hm:(x.1=0∨x.1∈bits)∧(x.2=0∨x.2∈bits):=by
      rcases List.mem_cons.mp hx with rfl | y
      · exact ⟨.inl rfl,.inl rfl⟩
      · rcases N.keys x y with ⟨a,b⟩ | ⟨a,b⟩ | ⟨a,b,_⟩
        · exact ⟨.inl a,.inr b⟩
        · exact ⟨.inr b,.inl a⟩
        · exact ⟨.inr a,.inr b⟩
    refine List.mem_flatMap.mpr ⟨x.1,hm.1.elim (fun e=>by rw [e];exact List.mem_cons_self ..) (List.mem_cons_of_mem _),List.mem_map.mpr ⟨x.2,hm.2.elim (fun e=>by rw [e];exact List.mem_cons_self ..) (List.mem_cons_of_mem _),rfl⟩⟩
  rw [List.length_cons,List.length_map,flat_len (n:=(0 :: bits).length) fun _ _=>List.length_map ..,List.length_cons] at h
  have:(bits.length+1) * (bits.length+1)≤17 * 17:=Nat.mul_le_mul (by omega) (by omega)
  omega
end My
set_option maxHeartbeats 4000000
namespace OS
open PySem PySem.W PyProof.Rows
section
variable {prog:Program}{w:World}{A:Around}{E:Value→Shared→Prop}{s:Shared}
end
section
variable {prog:Program}{w:World}{A:Around}{R:Result→Shared→Prop}{I:Addr}{fp wr:List Addr}{n N:Nat}{P:Nat→Value→Prop}{St:Nat→Heap→Prop}{val:Nat→Int × Int}
end
section
variable {prog:Program}{w:World}{A:Around}{E:Value→Shared→Prop}{s:Shared}
end
end OS
namespace L2
open PySem PySem.Spec PyProof.Rows OF
section
variable {X:Cx}
end
end L2
namespace L2
open PySem PySem.Spec PyProof.Rows
section
variable {X:Cx}
end
end L2
namespace My
open PySem L2 OF
end My
namespace My
open PySem L2 OF
end My
namespace L2
open PySem PySem.Spec PyProof.Rows
section
variable {X:Cx}
end
end L2
namespace My
open PySem L2 OF
end My
namespace My
open PySem L2 OF
theorem dict_ex:∀ (r l d:Terms),DictOf d l→∃ d',DictOf d' (l++r)
  | [],l,d,h=>⟨d,by rw [List.append_nil];exact h⟩
  | p :: r,l,d,h=>by
    have:=dict_ex r (l ++ [p]) _ (h.snoc p)
    rw [List.append_assoc] at this
    exact this
theorem form_ex (l:Terms) : ∃ f,FormOf f l:=by
  obtain ⟨d,hd⟩:=dict_ex l [] [] dictOf_nil
  refine ⟨_,formOf_ok (ks:=(d.map (·.1)).mergeSort fun a b=>decide (a≤b)) hd (List.mergeSort_perm _ _) ?_⟩
  have:=List.pairwise_mergeSort (le:=fun a b:Int=>decide (a≤b)) (fun a b c h1 h2=>by simp at *;omega) (fun a b=>by simp;omega) (d.map (·.1))
  exact this.imp fun h=>by simpa using h
end My
namespace L2
open PySem PySem.Spec PyProof.Rows
section
variable {X:Cx}
end
end L2
namespace My
open PySem L2 OF
theorem worth_inj {f g:Terms} (hf:IsForm f) (hg:IsForm g) (h0:∀ t∈f,0≤t.1) (h1:∀ t∈g,0≤t.1) (h:∀ n:Nat,worthL f (n:Int)=worthL g (n:Int)) : f=g:=by
  obtain ⟨d,hd⟩:=form_ex (f++g.map fun t=>(t.1,-t.2))
  have dk:∀ t∈d,0≤t.1:=fun t ht=>by
    obtain ⟨u,hu,e⟩:=List.mem_map.mp (hd.src t ht)
    rcases List.mem_append.mp hu with z | z
    · rw [← e];exact h0 u z
    · obtain ⟨w,hw,rfl⟩:=List.mem_map.mp z
      rw [← e];exact h1 w hw
  have neg:∀ (φ : Int→Int) (l:Terms),lin φ (l.map fun t=>(t.1,-t.2)) = - lin φ l:=fun φ l=>by
    induction l with
    | nil=>rfl
    | cons t r ih =>
      rw [List.map_cons,lin,lin,ih]
      show φ t.1 * -t.2+_=_
      rw [Int.mul_neg];omega
  have wd:∀ n:Nat,worthL d (n:Int)=0:=fun n=>by
    rw [worth_congr _ hd.val,worth_plus,worth_lin _ (g.map _),neg,← worth_lin,h n];omega
  have e:=form_zero hd.toIsForm dk fun t ht=>by rw [← key_nat (dk t ht)];exact wd _
  subst e
  refine form_ext hf hg fun k => ?_
  have:=hd.val k
  rw [coef_append,coef_lin (g.map _),neg,← coef_lin] at this
  have e0:coef [] k=0:=rfl
  omega
theorem worth_one {S n:Int}{g:Int} : worthL [(S,n)] g=if Builtin.bitAnd S g=S then n else 0:=by
  have:=worthL_snoc [] (S,n) g
  have e0:worthL [] g=0:=rfl
  rw [List.nil_append,e0,Int.zero_add] at this
  exact this
theorem mapS_row (S n:Int) (l:Terms) : mapS S n l=prodL [(S,n)] l:=by
  unfold mapS prodL
  rw [List.flatMap_cons,List.flatMap_nil,List.append_nil];rfl
def noneB (T k g:Nat) : Prop := ∀ i,i<k→T.testBit i=true→g.testBit i=false
theorem parts_worth {T:Nat} (g:Nat) : ∀ k:Nat,(noneB T k g→worthL (partsN T k) (g:Int)=1)∧(¬ noneB T k g→worthL (partsN T k) (g:Int)=0)
  | 0=>⟨fun _=>by
      show worthL [(0,1)] (g:Int)=1
      rw [worth_one,if_pos (by have:=bitAnd_nat 0 g;simpa using this)],fun h=>absurd (fun i hi=>absurd hi (Nat.not_lt_zero _)) h⟩
  | k+1=>by
    have ih:=parts_worth (T:=T) g k
    rw [partsN]
    split
    · rename_i hb
      have e:((partsN T k).map fun p=>(p.1+2^k,0-p.2))=mapS (2^k) (-1) (partsN T k):=by
        unfold mapS
        refine List.map_congr_left fun p hp => ?_
        obtain ⟨h1,h2,_⟩:=parts_rng p hp
        have e1:=or_add (S:=0) (p:=p.1) (j:=k) (Int.le_refl _) h1 h2
        have e0:∀ x:Int,0≤x→Builtin.bitOr 0 x=x:=fun x hx=>by
          have:=bitOr_nat 0 x.toNat
          rw [key_nat hx] at this
          simpa [key_nat hx] using this
        have hp0:(0:Int)≤2^k:=by rw [pow_cast];exact Int.natCast_nonneg _
        rw [e0 _ (by omega),e0 _ h1,bitOr_comm] at e1
        rw [e1]
        show (_,0-p.2)=(_,-1 * p.2)
        congr 1;omega
      have hp0:(0:Int)≤2^k:=by rw [pow_cast];exact Int.natCast_nonneg _
      rw [e, worth_plus, mapS_row, worth_times (fun t ht => by have : t = (2 ^ k, -1) := by simpa using ht
                                                               rw [this]; exact hp0) (fun t ht => (parts_rng t ht).1) (Int.natCast_nonneg _), worth_one]
      have eb:(Builtin.bitAnd (2^k) (g:Int)=2^k)↔g.testBit k=true:=by
        rw [pow_cast,bitAnd_nat,Nat.and_comm,and_pow]
        have:=Nat.two_pow_pos k
        split
        · simp_all
        · rename_i z
          exact ⟨fun w=>by have:=Int.ofNat.inj w;omega,fun w=>absurd w z⟩
      cases hg:g.testBit k with
      | true =>
        rw [if_pos (eb.mpr hg)]
        refine ⟨fun h=>absurd (h k (Nat.lt_succ_self k) hb) (by rw [hg];decide),fun _=>by omega⟩
      | false =>
        rw [if_neg (fun z=>by have:=eb.mp z;rw [hg] at this;cases this),Int.zero_mul,Int.add_zero]
        refine ⟨fun h=>ih.1 fun i hi=>h i (by omega),fun h=>ih.2 fun z=>h fun i hi hT => ?_⟩
        rcases Nat.lt_or_ge i k with y | y
        · exact z i y hT
        · rw [show i=k by omega];exact hg
    · rename_i hb
      refine ⟨fun h=>ih.1 fun i hi=>h i (by omega),fun h=>ih.2 fun z=>h fun i hi hT => ?_⟩
      rcases Nat.lt_or_ge i k with y | y
      · exact z i y hT
      · rw [show i=k by omega] at hT;exact absurd hT hb
def toT3 (p:Int × (Nat × Nat)) : T3:=(p.1,(p.2.1:Int),(p.2.2:Int))
theorem open_worth {p:Int × (Nat × Nat)} (hT:p.2.2<2^62) (g:Nat) : worthL (openL (toT3 p)) (g:Int)=p.1 * oneP p.2 g:=by
  show worthL (mapS (p.2.1:Int) p.1 (partsN ((p.2.2:Int)).toNat 62)) (g:Int)=_
  rw [Int.toNat_natCast, mapS_row, worth_times (fun t ht => by have : t = ((p.2.1 : Int), p.1) := by simpa using ht
                                                               rw [this]; exact Int.natCast_nonneg _) (fun t ht => (parts_rng t ht).1) (Int.natCast_nonneg _), worth_one, bitAnd_nat]
  have hw:=parts_worth (T:=p.2.2) g 62
  have hn:noneB p.2.2 62 g↔p.2.2 &&& g=0:=by
    constructor
    · intro h
      refine Nat.eq_of_testBit_eq fun i => ?_
      rw [Nat.testBit_and,Nat.zero_testBit]
      rcases Nat.lt_or_ge i 62 with y | y
      · cases e:p.2.2.testBit i
        · rfl
        · rw [h i y e];rfl
      · rw [Nat.testBit_lt_two_pow (Nat.lt_of_lt_of_le hT (Nat.pow_le_pow_right (by decide) y))];rfl
    · intro h i hi hb
      have:=congrArg (fun x=>x.testBit i) h
      rw [Nat.testBit_and,Nat.zero_testBit,hb,Bool.true_and] at this
      exact this
  unfold oneP
  by_cases h1:p.2.1 &&& g=p.2.1
  · rw [if_pos (by rw [h1])]
    by_cases h2:p.2.2 &&& g=0
    · rw [if_pos (show onP p.2 g from ⟨h1,h2⟩),hw.1 (hn.mpr h2)]
    · rw [if_neg (show ¬ onP p.2 g from fun z=>h2 z.2),hw.2 (fun z=>h2 (hn.mp z))]
  · rw [if_neg (fun z=>h1 (by exact_mod_cast z)),if_neg (show ¬ onP p.2 g from fun z=>h1 z.1),Int.zero_mul,Int.mul_zero]
theorem all_worth {n:Int} (g:Nat) : ∀ {l:List (Int × (Nat × Nat))},(∀ p∈l,p.2.2<2^62)→worthL (allL n (l.map toT3)) (g:Int)=n+(l.map fun p=>p.1 * oneP p.2 g).sum
  | [],_=>by
    show worthL [(0,n)] (g:Int)=n+0
    rw [worth_one,if_pos (by have:=bitAnd_nat 0 g;simpa using this)];omega
  | p :: r,h=>by
    have ih:=all_worth (n:=n) g (l:=r) fun q hq=>h q (List.mem_cons_of_mem _ hq)
    have hp:=open_worth (h p (List.mem_cons_self ..)) g
    unfold allL at ih ⊢
    rw [worth_lin] at ih hp ⊢
    rw [List.map_cons,List.flatMap_cons,lin,lin_append,List.map_cons,List.sum_cons]
    rw [lin] at ih
    omega
theorem all_key {n:Int}{l:List (Int × (Nat × Nat))} : ∀ t∈allL n (l.map toT3),0≤t.1:=fun t ht=>by
  unfold allL at ht
  rcases List.mem_cons.mp ht with z | z
  · rw [z];exact Int.le_refl _
  · obtain ⟨u,hu,hw⟩:=List.mem_flatMap.mp z
    obtain ⟨p,hp,rfl⟩:=List.mem_map.mp hu
    obtain ⟨v,hv,rfl⟩:=List.mem_map.mp hw
    have h1:=(parts_rng v hv).1
    show 0≤Builtin.bitOr ((p.2.1:Nat) : Int) v.1
    rw [← key_nat h1,bitOr_nat];exact Int.natCast_nonneg _
theorem told_form {f d:Terms}{n:Int}{l:List (Int × (Nat × Nat))} (hf:IsForm f) (h0:∀ t∈f,0≤t.1) (hl:∀ p∈l,p.2.2<2^62) (hd:FormOf d (allL n (l.map toT3))) : d=f↔∀ g:Nat,n+(l.map fun p=>p.1 * oneP p.2 g).sum=worthL f (g:Int):=by
  have dk:∀ t∈d,0≤t.1:=fun t ht=>by
    obtain ⟨u,hu,e⟩:=List.mem_map.mp (hd.src t ht)
    rw [← e];exact all_key u hu
  have hw:∀ g:Nat,worthL d (g:Int)=n+(l.map fun p=>p.1 * oneP p.2 g).sum:=fun g=>by rw [worth_congr _ hd.val,all_worth g hl]
  exact ⟨fun e g=>by rw [← hw g,e],fun h=>worth_inj hd.toIsForm hf dk h0 fun g=>by rw [hw g,h g]⟩
end My
namespace OH
open PySem PySem.W PyProof.Rows
def runT (tb:String→Option Builtin) (p:Program) (w:World) (n₀:Nat) (ann:Option Value) : Nat→SharedT→Thread→Option SharedT
  | 0,_,_=>none
  | n+1,s,t=>match through t with
    | true=>some s
    | false=>match stepOk n₀ ann t with
      | false=>none
      | true=>match stepT (denote tb) p w s t with
        | some x=>runT tb p w n₀ ann n x.1 x.2
        | none=>none
theorem runT_abs {tb:String→Option Builtin}{p:Program}{w:World}{n₀:Nat}{ann:Option Value}{n:Nat} : ∀ {s r:SharedT}{t:Thread},runT tb p w n₀ ann n s t=some r→topRun tb p w n₀ ann n s.abs t=some r.abs:=by
  induction n with
  | zero=>intro s r t h;cases h
  | succ n ih =>
    intro s r t h
    unfold runT at h
    unfold topRun
    cases a:through t with
    | true=>rw [a] at h;cases h;rfl
    | false =>
      rw [a] at h
      cases b:stepOk n₀ ann t with
      | false=>rw [b] at h;cases h
      | true =>
        rw [b] at h
        cases c:stepT (denote tb) p w s t with
        | none=>rw [c] at h;cases h
        | some x=>rw [c] at h;rw [stepT_spec c];exact ih h
noncomputable def runF (p:Program) (w:World) (n₀:Nat) (ann:Option Value) : Nat→SharedT→Thread→Option SharedT
  | 0,_,_=>none
  | n+1,s,t=>match through t with
    | true=>some s
    | false=>match PySem.W.Fast.tw6613529449190102663 n₀ ann t with
      | false=>none
      | true=>match PySem.W.Fast.tw10156331382660048174 (PySem.W.Fast.tw11892475500146522536 PySem.W.Fast.tw14364793385576792824) p w s t with
        | some x=>runF p w n₀ ann n x.1 x.2
        | none=>none
theorem runF_eq {p:Program}{w:World}{n₀:Nat}{ann:Option Value}{n:Nat} : ∀ {s:SharedT}{t:Thread},runF p w n₀ ann n s t=runT treeTable p w n₀ ann n s t:=by
  induction n with
  | zero=>intro s t;rfl
  | succ n ih =>
    intro s t
    unfold runF runT
    rw [← PySem.W.Fast.te6613529449190102663,← PySem.W.Fast.te10156331382660048174,← PySem.W.Fast.te11892475500146522536,← PySem.W.Fast.te14364793385576792824]
    cases through t <;> cases stepOk n₀ ann t <;> try rfl
    cases stepT (denote treeTable) p w s t with
    | none=>rfl
    | some x=>exact ih
noncomputable def bootT (P:Params) : BT :=
  .node (boot_o_0 P)
    (.node (boot_o_1 P) (.node (boot_o_3 P) (.node (boot_o_7 P) .nil .nil) .nil) (.node (boot_o_5 P) (.node (boot_o_9 P) .nil .nil) .nil))
    (.node (boot_o_2 P) (.node (boot_o_4 P) (.node (boot_o_8 P) .nil .nil) .nil) (.node (boot_o_6 P) (.node (boot_o_10 P) .nil .nil) .nil))
theorem boot_is (P:Params) : boot_heap P=absHeap (bootT P) 11 (boot_heap P).life:=by kernel_rfl
theorem boot_size (w:World) : ((boot_heap w.params).isNs mainGlobals,(boot_heap w.params).objs.size,(boot_heap w.params).nsMap mainGlobals "__annotations__")=(true,11,some (.ref 6)):=by kernel_rfl
noncomputable abbrev bootS (P:Params) (os:OsState) : SharedT:=⟨bootT P,11,(boot_heap P).life,#[],boot_drawn,boot_toks,os⟩
theorem left {p q:Program}{loose:List Str}{Xt:Shared→Bool} {α : Type}{Yf:Shared → α}{Ya:World → α}{N:Nat}
    (e:opening p=plainProg p.main.scope.names) (hN:Nat.ble 600 N=true) (f:∀ s,fenceModules? p s=some s)
    (run:∀ w:World,(fun os=>(runF p w 11 (some (.ref 6)) N (bootS w.params os) (topStub p)).map fun s =>
        (staticsOk (importedModules p.main.body) (boot_heap w.params) s.abs.heap && namesBound p s.abs.heap && gensDone s.abs && laidKept (boot_heap w.params) s.abs.heap,
          PySem.W.Fast.tw4187177175401517315 q loose (importedModules p.main.body) Xt true s.abs,Yf s.abs))=fun _=>some (true,openGood q loose,Ya w)) : LeftO p q loose Xt Yf Ya N:=fun w=>by
  obtain ⟨⟨h,gs,d,k,os⟩,x,x'⟩:=Option.map_eq_some_iff.mp (boot_open e hN f w)
  obtain ⟨rfl,rfl,rfl,rfl⟩ : h=boot_heap w.params∧gs=Array.mk []∧d=boot_drawn∧k=boot_toks:=by simpa using x'
  obtain ⟨z1,z2,z3⟩ : _∧_∧_:=by simpa only [Prod.mk.injEq] using boot_size w
  obtain ⟨s,r,l⟩:=Option.map_eq_some_iff.mp (congrFun (run w) os)
  rw [← PySem.W.Fast.te4187177175401517315] at l
  obtain ⟨l1,l2,l3⟩ : _∧_∧_:=by simpa only [Prod.mk.injEq] using l
  have t:=runT_abs (runF_eq.symm.trans r)
  have b:(bootS w.params os).abs=⟨boot_heap w.params,Array.mk [],boot_drawn,boot_toks,os⟩:=by
    show (⟨absHeap (bootT w.params) 11 (boot_heap w.params).life,_,_,_,_⟩ : Shared)=_
    rw [← boot_is]
  rw [b] at t
  have y:topFrom treeTable p w N ⟨boot_heap w.params,Array.mk [],boot_drawn,boot_toks,os⟩=some s.abs:=by
    unfold topFrom
    dsimp only
    rw [z1,z2,z3,t]
    show (match staticsOk (importedModules p.main.body) (boot_heap w.params) s.abs.heap && namesBound p s.abs.heap && gensDone s.abs && laidKept (boot_heap w.params) s.abs.heap with | true=>_ | false=>_)=_
    rw [l1]
  unfold openEnds
  rw [x]
  show (topFrom treeTable p w N _).map _=_
  rw [y]
  exact congrArg some (Prod.ext l2 l3)
end OH
set_option maxHeartbeats 4000000
namespace My
open PySem L2 OF
def hdS:List Stmt→Stmt
  | x :: _=>x
  | [] => .Pass ⟨0,0,0,0⟩
def tlS:List Stmt→List Stmt
  | _ :: r=>r
  | []=>[]
def bd0 : List Stmt := PySem.Challenge.pw_onceform_k61_products_told.main.body
def bd1:List Stmt:=tlS bd0
def bd2:List Stmt:=tlS bd1
def bd3:List Stmt:=tlS bd2
def bd4:List Stmt:=tlS bd3
def bd5:List Stmt:=tlS bd4
def bd6:List Stmt:=tlS bd5
def bd7:List Stmt:=tlS bd6
def bd8:List Stmt:=tlS bd7
def bd9:List Stmt:=tlS bd8
def bd10:List Stmt:=tlS bd9
def bd11:List Stmt:=tlS bd10
def bd12:List Stmt:=tlS bd11
def bd13:List Stmt:=tlS bd12
def bd14:List Stmt:=tlS bd13
def bd15:List Stmt:=tlS bd14
def bd16:List Stmt:=tlS bd15
def bd17:List Stmt:=tlS bd16
def bd18:List Stmt:=tlS bd17
def bd19:List Stmt:=tlS bd18
def bd20:List Stmt:=tlS bd19
def bd21:List Stmt:=tlS bd20
def bd22:List Stmt:=tlS bd21
def bd23:List Stmt:=tlS bd22
def bd24:List Stmt:=tlS bd23
def bd25:List Stmt:=tlS bd24
def bd26:List Stmt:=tlS bd25
def bd27:List Stmt:=tlS bd26
def bd28:List Stmt:=tlS bd27
def bd29:List Stmt:=tlS bd28
def bd30:List Stmt:=tlS bd29
def bd31:List Stmt:=tlS bd30
def bd32:List Stmt:=tlS bd31
def bd33:List Stmt:=tlS bd32
def bd34:List Stmt:=tlS bd33
def bd35:List Stmt:=tlS bd34
def bd36:List Stmt:=tlS bd35
def bd37:List Stmt:=tlS bd36
def bd38:List Stmt:=tlS bd37
abbrev s_doubled:Stmt:=hdS bd1
abbrev s_bits_of:Stmt:=hdS bd2
abbrev s_listed:Stmt:=hdS bd3
abbrev s_lowest:Stmt:=hdS bd4
abbrev s_form_from:Stmt:=hdS bd9
abbrev s_made:Stmt:=hdS bd10
abbrev s_unknowns:Stmt:=hdS bd11
abbrev s_floor:Stmt:=hdS bd13
abbrev s_pulled:Stmt:=hdS bd15
abbrev s_pulls:Stmt:=hdS bd16
abbrev s_without_pairs:Stmt:=hdS bd17
abbrev s_first_products:Stmt:=hdS bd18
abbrev s_reached:Stmt:=hdS bd19
abbrev s_open_way:Stmt:=hdS bd20
abbrev s_way_to:Stmt:=hdS bd21
abbrev s_push:Stmt:=hdS bd22
abbrev s_law_whole:Stmt:=hdS bd24
abbrev s_law_at:Stmt:=hdS bd25
abbrev s_law_mixed:Stmt:=hdS bd26
abbrev s_law_free:Stmt:=hdS bd27
abbrev s_law_big:Stmt:=hdS bd28
abbrev s_law_own:Stmt:=hdS bd29
abbrev s_law_made:Stmt:=hdS bd30
abbrev s_law_worth:Stmt:=hdS bd32
abbrev s_law_pull:Stmt:=hdS bd33
abbrev s_law_products_at:Stmt:=hdS bd34
abbrev s_law_products:Stmt:=hdS bd35
abbrev s_law_parts:Stmt:=hdS bd36
abbrev s_law_form_of:Stmt:=hdS bd37
abbrev s_law:Stmt:=hdS bd38
set_option genInjectivity false
set_option genSizeOf false
structure Def (K:PySem.W.Frag) (mg:Str→Option Value) (x:Str) (st:Stmt) (ps:List Str) (f:Addr) (fd:FuncData) : Prop where
  F:Fun K x x st f fd
  m:mg x=some (.ref f)
  b:Binds K fd ps []
structure Txt (K:PySem.W.Frag) (mg:Str→Option Value) where
  a_law_at:Addr
  fd_law_at:FuncData
  d_law_at:Def K mg "_law_at" s_law_at ["_law_script", "_law_k"] a_law_at fd_law_at
  a_law_free:Addr
  fd_law_free:FuncData
  d_law_free:Def K mg "_law_free" s_law_free ["_law_script"] a_law_free fd_law_free
  a_law_made:Addr
  fd_law_made:FuncData
  d_law_made:Def K mg "_law_made" s_law_made ["_law_some"] a_law_made fd_law_made
  a_law_mixed:Addr
  fd_law_mixed:FuncData
  d_law_mixed:Def K mg "_law_mixed" s_law_mixed ["_law_cell", "_law_k"] a_law_mixed fd_law_mixed
  a_law_big:Addr
  fd_law_big:FuncData
  d_law_big:Def K mg "_law_big" s_law_big ["_law_cell", "_law_k", "_law_free_here"] a_law_big fd_law_big
  a_law_own:Addr
  fd_law_own:FuncData
  d_law_own:Def K mg "_law_own" s_law_own ["_law_rest"] a_law_own fd_law_own
  a_law_pull:Addr
  fd_law_pull:FuncData
  d_law_pull:Def K mg "_law_pull" s_law_pull ["_law_script", "_law_many"] a_law_pull fd_law_pull
  a_form_from:Addr
  fd_form_from:FuncData
  d_form_from:Def K mg "form_from" s_form_from ["numbers"] a_form_from fd_form_from
  a_made:Addr
  fd_made:FuncData
  d_made:Def K mg "made" s_made ["some"] a_made fd_made
  a_lowest:Addr
  fd_lowest:FuncData
  d_lowest:Def K mg "lowest" s_lowest ["members"] a_lowest fd_lowest
  a_without_pairs:Addr
  fd_without_pairs:FuncData
  d_without_pairs:Def K mg "without_pairs" s_without_pairs ["form"] a_without_pairs fd_without_pairs
  a_floor:Addr
  fd_floor:FuncData
  d_floor:Def K mg "floor" s_floor ["form"] a_floor fd_floor
  a_first_products:Addr
  fd_first_products:FuncData
  d_first_products:Def K mg "first_products" s_first_products ["form", "singles"] a_first_products fd_first_products
  a_reached:Addr
  fd_reached:FuncData
  d_reached:Def K mg "reached" s_reached ["products", "bits"] a_reached fd_reached
  a_way_to:Addr
  fd_way_to:FuncData
  d_way_to:Def K mg "way_to" s_way_to ["bit", "ahead"] a_way_to fd_way_to
  a_open_way:Addr
  fd_open_way:FuncData
  d_open_way:Def K mg "open_way" s_open_way ["products", "bits"] a_open_way fd_open_way
  a_bits_of:Addr
  fd_bits_of:FuncData
  d_bits_of:Def K mg "bits_of" s_bits_of ["given", "many"] a_bits_of fd_bits_of
  a_listed:Addr
  fd_listed:FuncData
  d_listed:Def K mg "listed" s_listed ["members"] a_listed fd_listed
  a_pulls:Addr
  fd_pulls:FuncData
  d_pulls:Def K mg "pulls" s_pulls ["form"] a_pulls fd_pulls
  a_doubled:Addr
  fd_doubled:FuncData
  d_doubled:Def K mg "doubled" s_doubled ["many"] a_doubled fd_doubled
  a_push:Addr
  fd_push:FuncData
  d_push:Def K mg "push" s_push ["products", "way", "amount"] a_push fd_push
  a_unknowns:Addr
  fd_unknowns:FuncData
  d_unknowns:Def K mg "unknowns" s_unknowns ["form"] a_unknowns fd_unknowns
  a_pulled:Addr
  fd_pulled:FuncData
  d_pulled:Def K mg "pulled" s_pulled ["form"] a_pulled fd_pulled
  a_law_products_at:Addr
  fd_law_products_at:FuncData
  d_law_products_at:Def K mg "_law_products_at" s_law_products_at ["_law_products_here", "_law_given"] a_law_products_at fd_law_products_at
  a_law_parts:Addr
  fd_law_parts:FuncData
  d_law_parts:Def K mg "_law_parts" s_law_parts ["_law_one"] a_law_parts fd_law_parts
  a_law_form_of:Addr
  fd_law_form_of:FuncData
  d_law_form_of:Def K mg "_law_form_of" s_law_form_of ["_law_number", "_law_products_here"] a_law_form_of fd_law_form_of
  a_law_whole:Addr
  fd_law_whole:FuncData
  d_law_whole:Def K mg "_law_whole" s_law_whole ["_law_found"] a_law_whole fd_law_whole
  a_law_products:Addr
  fd_law_products:FuncData
  d_law_products:Def K mg "_law_products" s_law_products ["_law_found", "_law_many"] a_law_products fd_law_products
  a_law_worth:Addr
  fd_law_worth:FuncData
  d_law_worth:Def K mg "_law_worth" s_law_worth ["_law_form_here", "_law_given"] a_law_worth fd_law_worth
  n_abs:mg "abs" = none
  n_bool:mg "bool" = none
  n_enumerate:mg "enumerate" = none
  n_int:mg "int" = none
  n_isinstance:mg "isinstance" = none
  n_len:mg "len" = none
  n_list:mg "list" = none
  n_min:mg "min" = none
  n_range:mg "range" = none
  n_sorted:mg "sorted" = none
  n_sum:mg "sum" = none
  n_tuple:mg "tuple" = none
set_option genInjectivity true
set_option genSizeOf true
theorem ps_dead {X:Cx}{st:Stmt} : PS X st (fun _ _ _=>False):=fun _ _ _ _ _ _ h=>h.elim
seal L2.PS L2.PSs L2.PE L2.PT L2.PA L2.PI L2.PG L2.PW L2.PO L2.PTs
section
variable {P:Program}{w:World}{K:PySem.W.Frag}{mg:Str→Option Value}{base:Heap}
theorem sc_law_at:FnScope ["_law_script", "_law_k"] ["_law_script", "_law_k"] (defScope s_law_at):=⟨rfl,rfl,rfl,by decide +kernel,rfl,by decide +kernel,by decide +kernel⟩
theorem ok_law_at (T:Txt K mg) : FnOk P w K mg base CX0 1 T.a_law_at T.fd_law_at ["_law_script", "_law_k"] (spAt K):=by
  refine T.d_law_at.F.ok sc_law_at (fun vs H Q E h => ?_) (fun cdv A outer s H vs Q E hr h => ?_)
  · obtain ⟨a,ns,k,rfl,hS,q⟩:=h;rfl
  · obtain ⟨a,ns,k,rfl,hS,q⟩:=h
    have hu:=hu_of hr
    refine ⟨_,(pss_cons (ps_if (pt_cmpR op_lt (pv 1) (pe_callB call_len_seq (by rfl) T.n_len PySem.boot_len (pa_cons (pv 0) pa_nil)) (nomark _)) (pss_one (ps_ret (pe_ix ix_list (pv 0) (pv 1) (fun _ _=>rfl)))) pss_nil)
      (pss_one (ps_ret pe_int))),?_⟩
    refine ⟨_,rfl,_,rfl,a,_,rfl,.inl hS,_,_,rfl,rfl,_,rfl,?_⟩
    refine ite2 (fun h1 => ?_) (fun h1 => ?_)
    · have h1':k<ns.length:=by have:=of_decide_eq_true h1;rw [List.length_map] at this;omega
      refine ⟨_,rfl,_,rfl,a,_,_,_,rfl,rfl,hS,atI_nat (j:=k) (v:=V.int (ns.getD k 0)) ?_,q⟩
      rw [List.getElem?_map,List.getElem?_eq_getElem h1',List.getD_eq_getElem?_getD,List.getElem?_eq_getElem h1'];rfl
    · have h1':ns.length≤k:=by
        by_cases z:ns.length≤k
        · exact z
        · exact absurd (decide_eq_true (by rw [List.length_map];omega)) h1
      rw [List.getD_eq_getElem?_getD,List.getElem?_eq_none h1'] at q
      exact q
theorem sc_law_free:FnScope ["_law_script"] ["_law_script"] (defScope s_law_free):=⟨rfl,rfl,rfl,by decide +kernel,rfl,by decide +kernel,by decide +kernel⟩
theorem ok_law_free (T:Txt K mg) : FnOk P w K mg base CX0 2 T.a_law_free T.fd_law_free ["_law_script"] (spFree K):=by
  refine T.d_law_free.F.ok sc_law_free (fun vs H Q E h => ?_) (fun cdv A outer s H vs Q E hr h => ?_)
  · obtain ⟨a,ns,rfl,hS,q⟩:=h;rfl
  · obtain ⟨a,ns,rfl,hS,q⟩:=h
    have hu:=hu_of hr
    refine ⟨_,(pss_one (ps_ret (pe_cmpR op_eq (pe_op op_mod (pe_op op_fdivG (pe_call (ok_law_at (P:=P) (w:=w) (base:=base) T) hr (by rfl) T.d_law_at.m T.d_law_at.F.kp T.d_law_at.b .nil pass0 (pa_cons (pv 0) (pa_cons pe_int pa_nil))) pe_int) pe_int) pe_int (nomark _)))),?_⟩
    exact ⟨_,rfl,a,ns,0,rfl,hS,_,_,rfl,rfl,divG_of (by decide) (by decide),_,_,rfl,rfl,(by show (0:Int)<2;decide),rfl,q _⟩
theorem sc_law_made:FnScope ["_law_some", "_law_numbers", "_law_one", "_law_number"] ["_law_some"] (defScope s_law_made):=⟨rfl,rfl,rfl,by decide +kernel,rfl,by decide +kernel,by decide +kernel⟩
theorem nd_law_made_1:(["_law_one", "_law_numbers"] : List Str).Nodup:=by decide +kernel
theorem ok_law_made (T:Txt K mg) : FnOk P w K mg base CX0 1 T.a_law_made T.fd_law_made ["_law_some"] (spForm K):=by
  refine T.d_law_made.F.ok sc_law_made (fun vs H Q E h => ?_) (fun cdv A outer s H vs Q E hr h => ?_)
  · obtain ⟨a,l,rfl,⟨ps,hS,hT⟩,hlen,q⟩:=h;rfl
  · obtain ⟨a,l,rfl,⟨ps,hS,hT⟩,hlen,q⟩:=h
    have hu:=hu_of hr
    refine ⟨_,(pss_cons (ps_set (i:=1) sc_law_made.nd rfl (Or.inr rfl) pe_dnewK)
      (pss_cons (ps_for PassesOwn.never rfl (pi_list (pv 0)) (pg_tup (n:=2) rfl (pgs_cons (pg_name (i:=2) sc_law_made.nd rfl (Or.inl rfl)) (pgs_cons (pg_name (i:=3) sc_law_made.nd rfl (Or.inl rfl)) pgs_nil)))
        (pss_one (ps_dput hu (pv 1) (pv 2) (pe_op op_add (pe_dget2 hu (pv 1) (pv 2) pe_int ⟨rfl,rfl,rfl,rfl⟩) (pv 3)) rfl)))
      (pss_one (ps_ret (pe_comp (g:=(gName 0)) ["_law_one", "_law_numbers"] 1 [1] rfl (by exact CompSc.of (defScope s_law_made) ["_law_some", "_law_numbers", "_law_one", "_law_number"] rfl rfl rfl (by decide +kernel) rfl (by decide +kernel) (by decide +kernel)) (pi_list (pe_callB (call_sortedD rfl) (by rfl) T.n_sorted PyProof.Rows.boot_sorted (pa_cons (pv 1) pa_nil)))
        (fun cl C s₀ H₀ fp=>(pg_name (i:=0) nd_law_made_1 rfl (Or.inl rfl) (Or.inr rfl))) (fun cl C s₀ H₀ fp=>(pts_one (pt_cmpR op_ne (pe_dget hu (pv 1) (pv 0) (fun _ _=>rfl)) pe_int (nomark _)))) (fun cl C s₀ H₀ fp=>(pe_tup (pa_cons (pv 0) (pa_cons (pe_dget hu (pv 1) (pv 0) (fun _ _=>rfl)) pa_nil))))))))),?_⟩
    intro d hd
    have s0:Same H (upd H d (.dK [])):=Same.upd hd
    refine ⟨_,rfl,a,rfl,⟨_,s0.seq hS⟩,?_⟩
    refine for_list (K:=K) (a:=a) (xs:=ps.map V.ref) (fun i σ H2 => ∃ (dd:Terms) (v2 v3:Option V),σ = [some (.ref a),some (.ref d),v2,v3]∧H2=upd H d (.dK (dd.map encP))∧DictOf dd (l.take i))
      ⟨[],none,none,rfl,rfl,dictOf_nil⟩ (fun i σ H2 _ ⟨_,_,_,_,e,_⟩=>by rw [e];exact (Same.upd hd).seq hS) ?_ ?_
    · rintro i y σ H2 hi ⟨dd,v2,v3,rfl,rfl,hdd⟩
      obtain ⟨p,hpi,rfl⟩:=at_ref hi
      obtain ⟨t,ht1,ht2⟩:=hT.at' hpi
      have htk:l.take (i+1)=l.take i ++ [t]:=by rw [List.take_add_one,ht1];rfl
      have hil:i<l.length:=(List.getElem?_eq_some_iff.mp ht1).1
      have hdl:dd.length≤i:=Nat.le_trans hdd.len (by rw [List.length_take];omega)
      have hdd2:=hdd.snoc t
      rw [← htk] at hdd2
      refine ⟨p,_,rfl,SqT.of ((Same.upd hd) _ _ ht2),rfl,_,_,rfl,_,_,rfl,rfl,?_⟩
      refine ⟨_,rfl,d,rfl,.inl ⟨_,.inl upd_same⟩,_,rfl,_,DGet.k (k:=Sum.inl t.1) upd_same,?_⟩
      rw [valV_enc]
      have eg:((look dd t.1).map V.int).getD (V.int 0)=V.int (getI dd t.1):=by
        unfold getI
        cases look dd t.1 <;> rfl
      rw [eg]
      refine ⟨_,rfl,_,_,rfl,rfl,_,rfl,_,rfl,d,_,rfl,DPut.k (k:=Sum.inl t.1) upd_same ?_,putI dd t.1 (getI dd t.1+t.2),_,_,rfl,?_,hdd2⟩
      · rw [List.length_map];exact small6 (by omega)
      · rw [upd_upd,putK_enc]
    · rintro σ H2 ⟨dd,v2,v3,rfl,rfl,hdd⟩
      have hl0:l.take (ps.map V.ref).length=l:=by rw [List.length_map,hT.length,List.take_length]
      rw [hl0] at hdd
      have hddl:dd.length≤100000:=Nat.le_trans hdd.len hlen
      have hd0:upd H d (.dK (dd.map encP)) d=some (.dK (dd.map encP)):=upd_same
      have s1:Same H (upd H d (.dK (dd.map encP))):=Same.upd hd
      generalize upd H d (.dK (dd.map encP))=H1 at hd0 s1
      refine ⟨_,rfl,d,_,dd.map (·.1),rfl,hd0,keys_enc dd,fun e ks he hperm hsort => ?_⟩
      have hed:d≠e:=ne_of_none hd0 he
      refine ⟨e,rfl,⟨_,SqL.of upd_same⟩,?_⟩
      have hkl:ks.length≤100000:=by have:=hperm.length_eq;rw [List.length_map] at this;omega
      refine comp_list (K:=K) (a:=e) (xs:=ks.map V.int) (fun i ys σ H2 => ∃ (v0:Option V) (qs:List Addr),σ = [v0,some (.ref d)]∧ys=qs.map V.ref∧Tups H2 qs (formOf dd (ks.take i))∧H2 d=some (.dK (dd.map encP))∧H2 e=some (.lst (ks.map V.int))∧Same H1 H2)
        ⟨none,[],rfl,rfl,.nil,(by rw [upd_ne hed];exact hd0),upd_same,Same.upd he⟩ (fun i ys σ H2 hi ⟨_,qs,_,e1,e2,_,e4,_⟩=>⟨SqL.of e4,by
          rw [e1,List.length_map,e2.length]
          have:=formOf_length dd (ks.take i)
          rw [List.length_take] at this;omega⟩) (by rw [List.length_map];exact Nat.le_of_lt (small6 (by omega))) ?_ ?_
      · rintro i y ys σ H2 hi ⟨v0,qs,rfl,rfl,g2,g3,g4,g5⟩
        obtain ⟨k,hki,rfl⟩:=at_int hi
        have hkm:k∈dd.map (·.1):=hperm.mem_iff.mp (List.mem_of_getElem? hki)
        obtain ⟨v,hv⟩ : ∃ v,look dd k=some v:=by
          cases e:look dd k with
          | none=>exact absurd e (look_mem.mpr hkm)
          | some v=>exact ⟨v,rfl⟩
        have hgv:getI dd k=v:=by unfold getI;rw [hv];rfl
        have htk:ks.take (i+1)=ks.take i ++ [k]:=by rw [List.take_add_one,hki];rfl
        have hget:∀ {H3:Hp},H3 d=some (.dK (dd.map encP))→DGet H3 d (.int k) (some (.int v)):=fun {H3} z=>by
          have:=DGet.k (k:=Sum.inl k) z
          rw [valV_enc,hv] at this
          exact this
        refine ⟨_,rfl,_,rfl,d,_,rfl,hget g3,rfl,_,rfl,?_⟩
        by_cases hv0:v=0
        · subst hv0
          refine iteNS rfl ⟨_,qs,rfl,rfl,?_,g3,g4,g5⟩
          have:formOf dd (ks.take (i+1))=formOf dd (ks.take i):=by
            rw [htk];unfold formOf;rw [List.filter_append,List.map_append];simp [hgv]
          rw [this];exact g2
        · have hne : ¬ (V.int v=V.int 0):=fun z=>hv0 (by injection z)
          rw [decide_eq_false hne]
          refine iteT ?_
          refine ⟨_,rfl,_,rfl,_,rfl,d,_,rfl,hget g3,(by show 2≤sizeLine;decide),fun t ht => ?_⟩
          have s3:Same H2 (upd H2 t (.tup [.int k,.int v])):=Same.upd ht
          refine ⟨_,qs ++ [t],rfl,(by rw [List.map_append];rfl),?_,s3 _ _ g3,s3 _ _ g4,g5.trans s3⟩
          have:formOf dd (ks.take (i+1))=formOf dd (ks.take i) ++ [(k,v)]:=by
            rw [htk];unfold formOf;rw [List.filter_append,List.map_append];simp [hgv,hv0]
          rw [this]
          exact Tups.snoc (g2.keep fun b xs z=>s3 b _ z) upd_same
      · rintro ys σ H2 ⟨v0,qs,rfl,rfl,g2,g3,g4,g5⟩ D hD
        rw [List.length_map,List.take_length] at g2
        have s3:Same H2 (upd H2 D (.lst (qs.map V.ref))):=Same.upd hD
        refine q D (formOf dd ks) _ ((s1.trans g5).free hD) ⟨qs,upd_same,g2.keep fun b xs z=>s3 b _ z⟩ (formOf_ok hdd hperm hsort) ?_ (s1.trans (g5.trans s3))
        have h1:=formOf_length dd ks
        have h2:=hperm.length_eq;rw [List.length_map] at h2;have h3:=hdd.len
        omega
theorem sc_law_mixed:FnScope ["_law_cell", "_law_k", "_law_number"] ["_law_cell", "_law_k"] (defScope s_law_mixed):=⟨rfl,rfl,rfl,by decide +kernel,rfl,by decide +kernel,by decide +kernel⟩
theorem ok_law_mixed (T:Txt K mg) : FnOk P w K mg base CX0 1 T.a_law_mixed T.fd_law_mixed ["_law_cell", "_law_k"] spMix:=by
  refine T.d_law_mixed.F.ok sc_law_mixed (fun vs H Q E h => ?_) (fun cdv A outer s H vs Q E hr h => ?_)
  · obtain ⟨c,k,rfl,k1,k2,q⟩:=h;rfl
  · obtain ⟨c,k,rfl,k1,k2,q⟩:=h
    have hu:=hu_of hr
    refine ⟨_,(pss_cons (ps_set (i:=2) sc_law_mixed.nd rfl (Or.inl rfl) (pe_op op_mod (pe_op op_add (pe_op op_add (pe_op op_mulO (pv 0) pe_int) (pe_op op_mulO (pe_op op_mulO pe_int (pv 1)) (pv 1))) (pv 1)) pe_int))
      (pss_cons (ps_set (i:=2) sc_law_mixed.nd rfl (Or.inl rfl) (pe_op op_mod (pe_op op_mulO (pv 2) (pv 2)) pe_int))
      (pss_one (ps_ret (pe_op op_mod (pe_op op_mulO (pv 2) pe_int) pe_int))))),?_⟩
    refine ⟨_,rfl,_,_,rfl,rfl,mulR (by decide) (by decide),_,rfl,_,_,rfl,rfl,mulL (by decide) (by decide),_,rfl,_,_,rfl,rfl,mulR k1 k2,_,_,rfl,rfl,_,rfl,_,_,rfl,rfl,_,_,rfl,rfl,(by show (0:Int)<2147483647;decide),?_⟩
    generalize hz:(c * 1103515245+7919 * k * k+k) % 2147483647=z
    have z1 : 0≤z:=by rw [← hz];exact Int.emod_nonneg _ (by decide)
    have z2:z<2147483647:=by rw [← hz];exact Int.emod_lt_of_pos _ (by decide)
    refine ⟨_,rfl,_,rfl,_,_,rfl,rfl,mulL (by omega) (by omega),_,_,rfl,rfl,(by show (0:Int)<2147483629;decide),?_⟩
    refine ⟨_,rfl,_,_,rfl,rfl,mulR (by decide) (by decide),_,_,rfl,rfl,(by show (0:Int)<2147483587;decide),?_⟩
    exact q _ (Int.emod_nonneg _ (by decide)) (Int.emod_lt_of_pos _ (by decide))
theorem sc_law_big:FnScope ["_law_cell", "_law_k", "_law_free_here", "_law_number"] ["_law_cell", "_law_k", "_law_free_here"] (defScope s_law_big):=⟨rfl,rfl,rfl,by decide +kernel,rfl,by decide +kernel,by decide +kernel⟩
theorem ok_law_big (T:Txt K mg) : FnOk P w K mg base CX0 2 T.a_law_big T.fd_law_big ["_law_cell", "_law_k", "_law_free_here"] spBig:=by
  refine T.d_law_big.F.ok sc_law_big (fun vs H Q E h => ?_) (fun cdv A outer s H vs Q E hr h => ?_)
  · obtain ⟨c,k,b,rfl,hc,k1,k2,q⟩:=h;rfl
  · obtain ⟨c,k,b,rfl,hc,k1,k2,q⟩:=h
    have hu:=hu_of hr
    refine ⟨_,(pss_cons (ps_if (pt_val (pv 2) (fun _=>rfl)) (pss_one (ps_ret (pv 0))) pss_nil)
      (pss_cons (ps_set (i:=3) sc_law_big.nd rfl (Or.inl rfl) (pe_op op_add (pe_op op_mulO (pe_call (ok_law_mixed (P:=P) (w:=w) (base:=base) T) hr (by rfl) T.d_law_mixed.m T.d_law_mixed.F.kp T.d_law_mixed.b .nil pass0 (pa_cons (pv 0) (pa_cons (pv 1) pa_nil))) pe_int) (pe_call (ok_law_mixed (P:=P) (w:=w) (base:=base) T) hr (by rfl) T.d_law_mixed.m T.d_law_mixed.F.kp T.d_law_mixed.b .nil pass0 (pa_cons (pv 0) (pa_cons (pe_op op_add (pv 1) pe_int) pa_nil)))))
      (pss_one (ps_ret (pe_op op_add (pe_op op_mulO (pv 3) pe_int) (pe_call (ok_law_mixed (P:=P) (w:=w) (base:=base) T) hr (by rfl) T.d_law_mixed.m T.d_law_mixed.F.kp T.d_law_mixed.b .nil pass0 (pa_cons (pv 0) (pa_cons (pe_op op_add (pv 1) pe_int) pa_nil)))))))),?_⟩
    refine ⟨_,rfl,_,rfl,?_⟩
    cases b with
    | true=>exact iteT ⟨_,rfl,q c hc⟩
    | false =>
      refine iteF ?_
      refine ⟨_,rfl,_,rfl,c,k,rfl,by omega,by omega,fun r r1 r2=>⟨_,_,rfl,rfl,mulR (by decide) (by decide),_,rfl,_,rfl,_,_,rfl,rfl,c,k+90,rfl,by omega,by omega,fun r' r1' r2'=>⟨_,_,rfl,rfl,?_⟩⟩⟩
      refine ⟨_,rfl,_,_,rfl,rfl,mulR (by decide) (by decide),_,rfl,_,rfl,_,_,rfl,rfl,c,k+200,rfl,by omega,by omega,fun r3 r13 r23=>⟨_,_,rfl,rfl,?_⟩⟩
      exact q _ (Wd.small (by omega))
theorem sc_law_own:FnScope ["_law_rest"] ["_law_rest"] (defScope s_law_own):=⟨rfl,rfl,rfl,by decide +kernel,rfl,by decide +kernel,by decide +kernel⟩
theorem ok_law_own (T:Txt K mg) : FnOk P w K mg base CX0 1 T.a_law_own T.fd_law_own ["_law_rest"] spOwn:=by
  refine T.d_law_own.F.ok sc_law_own (fun vs H Q E h => ?_) (fun cdv A outer s H vs Q E hr h => ?_)
  · obtain ⟨r,rfl,hr0,q⟩:=h;rfl
  · obtain ⟨r,rfl,hr0,q⟩:=h
    have hu:=hu_of hr
    refine ⟨_,(pss_cons (ps_if (pt_cmpR op_eq (pe_op op_mod (pv 0) pe_int) pe_int (nomark _)) (pss_one (ps_ret (pe_op op_sub (pe_op op_mod (pe_op op_mulO (pe_op op_fdivG (pv 0) pe_int) (pe_op op_add (pe_op op_pow pe_int pe_int) pe_int)) (pe_op op_add (pe_op op_mulO pe_int (pe_op op_pow pe_int pe_int)) pe_int)) (pe_op op_pow pe_int pe_int)))) pss_nil)
      (pss_one (ps_ret (pe_op op_sub (pe_op op_mod (pe_op op_fdivG (pv 0) pe_int) pe_int) pe_int)))),?_⟩
    have e58:(10:Int)^(58:Int).toNat=10000000000000000000000000000000000000000000000000000000000:=by decide
    refine ⟨_,rfl,_,_,rfl,rfl,(by show (0:Int)<4;decide),rfl,_,rfl,?_⟩
    refine ite2 (fun _ => ?_) (fun _ => ?_)
    · refine ⟨_,rfl,_,_,rfl,rfl,divG_of (by decide) (by decide),_,_,rfl,rfl,⟨by decide,by decide,by decide⟩,_,_,rfl,rfl,_,_,rfl,rfl,(hr0.div 4).mul (by decide),_,_,rfl,rfl,⟨by decide,by decide,by decide⟩,_,_,rfl,rfl,mulL (by decide) (by decide),_,_,rfl,rfl,_,_,rfl,rfl,(by show (0:Int)<2 * 10^(58:Int).toNat+1;decide),_,_,rfl,rfl,⟨by decide,by decide,by decide⟩,_,_,rfl,rfl,?_⟩
      have g1:=Int.emod_nonneg (r / 4 * (10^(50:Int).toNat+151)) (show (2 * 10^(58:Int).toNat+1:Int)≠0 by decide)
      have g2:=Int.emod_lt_of_pos (r / 4 * (10^(50:Int).toNat+151)) (show (0:Int)<(2 * 10^(58:Int).toNat+1:Int) by decide)
      refine q _ ?_ ?_
      · generalize r / 4 * (10^(50:Int).toNat+151) % (2 * 10^(58:Int).toNat+1)=z at g1 g2 ⊢
        rw [e58] at g2 ⊢;omega
      · generalize r / 4 * (10^(50:Int).toNat+151) % (2 * 10^(58:Int).toNat+1)=z at g1 g2 ⊢
        rw [e58] at g2 ⊢;omega
    · refine ⟨_,rfl,_,_,rfl,rfl,divG_of (by decide) (by decide),_,_,rfl,rfl,(by show (0:Int)<19;decide),_,_,rfl,rfl,q _ ?_ ?_⟩
      · omega
      · omega
def PairD (t:Int × Int) : Prop:=t.1=0∨(∃ i:Nat,t.1=((2^i:Nat) : Int))∨∃ i j:Nat,i<j∧t.1=((2^i+2^j:Nat) : Int)∧t.2≤0
def spLawPull (K:PySem.W.Frag) : Sp:=fun vs H Q _ => ∃ (a:Addr) (ns:List Int) (m:Nat),vs=[.ref a,.int (m:Int)]∧SqL K H a (ns.map V.int)∧ns.length≤63∧(∀ n∈ns,Builtin.Int.intBits n≤2^20)∧1≤m∧m≤16 ∧
  ∀ (b:Addr) (f:Terms) (H':Hp),H b=none→TLo H' b f→IsForm f→(∀ t∈f,PairOk t)→(∀ t∈f,t.1<2^m)→f.length≤100→Same H H'→Q (.ref b) H'
theorem coef_nonpos {k:Int} : ∀ {l:Terms},(∀ t∈l,t.1=k→t.2≤0)→coef l k≤0
  | [],_=>Int.le_refl _
  | t :: r,h=>by
    have h1:=coef_nonpos (l:=r) fun u hu=>h u (List.mem_cons_of_mem _ hu)
    show (if t.1=k then t.2 else 0)+coef r k≤0
    by_cases y:t.1=k
    · rw [if_pos y];have:=h t (List.mem_cons_self ..) y;omega
    · rw [if_neg y];omega
theorem pow_ne_two {k i j:Nat} (h:i<j) : 2^k≠2^i+2^j:=fun e=>by
  have h1:(2^k).testBit i=true:=by rw [e];exact (bits_two h).mpr (.inl rfl)
  have h2:(2^k).testBit j=true:=by rw [e];exact (bits_two h).mpr (.inr rfl)
  rw [Nat.testBit_two_pow] at h1 h2
  have:=of_decide_eq_true h1
  have:=of_decide_eq_true h2
  omega
theorem pairs_ok {f l:Terms} (hF:FormOf f l) (h:∀ t∈l,PairD t) : ∀ t∈f,PairOk t:=fun t ht=>by
  obtain ⟨u,hu,e⟩:=List.mem_map.mp (hF.src t ht)
  rcases h u hu with z | ⟨i,z⟩ | ⟨i,j,hij,z,_⟩
  · exact .inl (by rw [← e];exact z)
  · exact .inr (.inl ⟨i,by rw [← e];exact z⟩)
  · refine .inr (.inr ⟨i,j,hij,by rw [← e];exact z,?_⟩)
    have h1:=coef_mem hF.toIsForm t ht
    rw [hF.val] at h1
    have h2:coef l t.1≤0:=coef_nonpos fun v hv ev=>by
      have ez:v.1=((2^i+2^j:Nat) : Int):=by rw [ev,← e];exact z
      rcases h v hv with y | ⟨k,y⟩ | ⟨i',j',_,y,w⟩
      · rw [y] at ez
        exact absurd (Int.ofNat.inj ez) (Nat.ne_of_lt (Nat.add_pos_left (Nat.two_pow_pos i) _))
      · rw [y] at ez
        exact absurd (Int.ofNat.inj ez) (pow_ne_two hij)
      · exact w
    have h3:=hF.nz t ht
    omega
theorem sc_law_pull:FnScope ["_law_script", "_law_many", "_law_free_here", "_law_some", "_law_cells", "_law_j", "_law_number", "_law_k", "_law_other", "_law_own_here"] ["_law_script", "_law_many"] (defScope s_law_pull):=⟨rfl,rfl,rfl,by decide +kernel,rfl,by decide +kernel,by decide +kernel⟩
theorem ok_law_pull (T:Txt K mg) : FnOk P w K mg base CX0 3 T.a_law_pull T.fd_law_pull ["_law_script", "_law_many"] (spLawPull K):=by
  refine T.d_law_pull.F.ok sc_law_pull (fun vs H Q E h => ?_) (fun cdv A outer s H vs Q E hr h => ?_)
  · obtain ⟨a,ns,m,rfl,hS,hlen,hbits,hm1,hm2,q⟩:=h;rfl
  · obtain ⟨a,ns,m,rfl,hS,hlen,hbits,hm1,hm2,q⟩:=h
    have hu:=hu_of hr
    refine ⟨_,(pss_cons (ps_set (i:=2) sc_law_pull.nd rfl (Or.inl rfl) (pe_call (ok_law_free (P:=P) (w:=w) (base:=base) T) hr (by rfl) T.d_law_free.m T.d_law_free.F.kp T.d_law_free.b .nil pass0 (pa_cons (pv 0) pa_nil)))
      (pss_cons (ps_set (i:=3) sc_law_pull.nd rfl (Or.inl rfl) (pe_lst (pa_cons (pe_tup (pa_cons pe_int (pa_cons (pe_call (ok_law_own (P:=P) (w:=w) (base:=base) T) (hr.mono (by decide)) (by rfl) T.d_law_own.m T.d_law_own.F.kp T.d_law_own.b .nil pass0 (pa_cons (pe_call (ok_law_big (P:=P) (w:=w) (base:=base) T) hr (by rfl) T.d_law_big.m T.d_law_big.F.kp T.d_law_big.b .nil pass0 (pa_cons (pe_call (ok_law_at (P:=P) (w:=w) (base:=base) T) (hr.mono (by decide)) (by rfl) T.d_law_at.m T.d_law_at.F.kp T.d_law_at.b .nil pass0 (pa_cons (pv 0) (pa_cons pe_int pa_nil))) (pa_cons pe_int (pa_cons (pv 2) pa_nil)))) pa_nil)) pa_nil))) pa_nil)))
      (pss_cons (ps_set (i:=4) sc_law_pull.nd rfl (Or.inl rfl) (pe_slice sl_list (pv 0) (po_some pe_int) (po_some pe_int)))
      (pss_cons (ps_for PassesOwn.never rfl (pi_range1 rfl T.n_range (pa_cons (pe_callB call_len_seq (by rfl) T.n_len PySem.boot_len (pa_cons (pv 4) pa_nil)) pa_nil)) (pg_name (i:=5) sc_law_pull.nd rfl (Or.inl rfl))
        (pss_cons (ps_set (i:=6) sc_law_pull.nd rfl (Or.inl rfl) (pe_call (ok_law_big (P:=P) (w:=w) (base:=base) T) hr (by rfl) T.d_law_big.m T.d_law_big.F.kp T.d_law_big.b .nil pass0 (pa_cons (pe_ix ix_list (pv 4) (pv 5) (fun _ _=>rfl)) (pa_cons (pe_op op_add (pv 5) pe_int) (pa_cons (pv 2) pa_nil)))))
      (pss_cons (ps_set (i:=7) sc_law_pull.nd rfl (Or.inl rfl) (pe_op op_mod (pe_op op_fdivG (pv 6) pe_int) (pv 1)))
      (pss_cons (ps_set (i:=8) sc_law_pull.nd rfl (Or.inl rfl) (pe_op op_mod (pe_op op_fdivG (pv 6) (pe_op op_mulO pe_int (pv 1))) (pv 1)))
      (pss_cons (ps_set (i:=9) sc_law_pull.nd rfl (Or.inl rfl) (pe_call (ok_law_own (P:=P) (w:=w) (base:=base) T) (hr.mono (by decide)) (by rfl) T.d_law_own.m T.d_law_own.F.kp T.d_law_own.b .nil pass0 (pa_cons (pe_op op_fdivG (pv 6) (pe_op op_mulO (pe_op op_mulO pe_int (pv 1)) (pv 1))) pa_nil)))
      (pss_one (ps_if (PW.pt (pw_or (pt_cmpR op_eq (pe_op op_mod (pv 6) pe_int) pe_int (nomark _)) (pw_or1 (pt_cmpR op_eq (pv 7) (pv 8) (nomark _))))) (pss_one (ps_expr (pe_bm PySem.F.plainAttrs_list PySem.F.slot_list_append PySem.F.type_list_append mt_append (pv 3) (pa_cons (pe_tup (pa_cons (pe_op op_shl pe_int (pv 7)) (pa_cons (pv 9) pa_nil))) pa_nil)))) (pss_one (ps_expr (pe_bm PySem.F.plainAttrs_list PySem.F.slot_list_append PySem.F.type_list_append mt_append (pv 3) (pa_cons (pe_tup (pa_cons (pe_op op_add (pe_op op_shl pe_int (pv 7)) (pe_op op_shl pe_int (pv 8))) (pa_cons (pe_op op_sub pe_int (pe_callB call_abs (by rfl) T.n_abs PyProof.Rows.boot_abs (pa_cons (pv 9) pa_nil))) pa_nil))) pa_nil)))))))))))
      (pss_one (ps_ret (pe_call (ok_law_made (P:=P) (w:=w) (base:=base) T) (hr.mono (by decide)) (by rfl) T.d_law_made.m T.d_law_made.F.kp T.d_law_made.b .nil pass0 (pa_cons (pv 3) pa_nil)))))))),?_⟩
    have hmi:(0:Int)<(m:Int):=by omega
    refine ⟨_,rfl,a,ns,rfl,hS,fun fb => ?_⟩
    refine ⟨_,rfl,a,ns,1,rfl,hS,_,rfl,_,2,fb,rfl,wd_getD hbits 1,by decide,by decide,fun r hr=>⟨r,rfl,hr,fun n n1 n2=>⟨(by show 2≤sizeLine;decide),fun t ht=>⟨(by show 1≤sizeLine;decide),fun c hc => ?_⟩⟩⟩⟩
    have s1:Same H (upd H t (.tup [.int 0,.int n])):=Same.upd ht
    have s2:Same (upd H t (.tup [.int 0,.int n])) (upd (upd H t (.tup [.int 0,.int n])) c (.lst [.ref t])):=Same.upd hc
    have hc0:H c=none:=s1.free hc
    have hT0:TLo (upd (upd H t (.tup [.int 0,.int n])) c (.lst [.ref t])) c [(0,n)]:=⟨[t],upd_same,.cons (s2 _ _ upd_same) .nil⟩
    have s12:=s1.trans s2
    generalize upd (upd H t (.tup [.int 0,.int n])) c (.lst [.ref t])=H1 at hT0 s12 ⊢
    refine ⟨_,rfl,_,rfl,_,rfl,a,_,rfl,s12.seq hS,fun d hd => ?_⟩
    obtain ⟨ms,ems,hml,hmm⟩:=cut_map ns (some 2) (some 63)
    have s3:Same H1 (upd H1 d (.lst (cutV (ns.map V.int) (some 2) (some 63)))):=Same.upd hd
    have w3:upd H1 d (.lst (cutV (ns.map V.int) (some 2) (some 63))) d=some (.lst (ms.map V.int)):=by rw [upd_same,ems]
    have hdc:d≠c:=ne_of_none' hT0.choose_spec.1 hd
    have hT3:=hT0.keep s3
    have S3:=s12.trans s3
    have hd0:H d=none:=s12.free hd
    generalize upd H1 d (.lst (cutV (ns.map V.int) (some 2) (some 63)))=H3 at w3 hT3 S3 ⊢
    refine ⟨_,rfl,d,_,rfl,.inl (SqL.of w3),((ms.map V.int).length:Int),rfl,by omega,by rw [List.length_map];omega,?_⟩
    refine for_range (n:=(ms.map V.int).length) (fun i σ G => ∃ (l:Terms) (v5 v6 v7 v8 v9:Option V),σ = [some (.ref a),some (.int (m:Int)),some (.bl fb),some (.ref c),some (.ref d),v5,v6,v7,v8,v9]∧TLo G c l∧l.length=i+1∧(∀ t∈l,PairD t)∧(∀ t∈l,t.1<2^m)∧G d=some (.lst (ms.map V.int))∧Same H G)
      ⟨[(0,n)],none,none,none,none,none,rfl,hT3,rfl,(fun t ht=>by rw [List.mem_singleton.mp ht];exact .inl rfl),(fun t ht=>by rw [List.mem_singleton.mp ht];exact Int.pow_pos (by decide)),w3,S3⟩ ?_ ?_
    · rintro i σ G hi ⟨l,v5,v6,v7,v8,v9,rfl,g1,g2,g3,g4,g5,sG⟩
      rw [List.length_map] at hi
      obtain ⟨x,hx⟩ : ∃ x,ms[i]? = some x:=⟨_,List.getElem?_eq_getElem hi⟩
      have e0:(0:Int)+(i:Int)=(i:Int):=Int.zero_add _
      have hwx:Wd x:=Wd.of (hbits x (hmm x (List.mem_of_getElem? hx)))
      refine ⟨_,rfl,_,rfl,d,_,_,_,rfl,rfl,SqL.of g5,(by rw [e0];exact atI_nat (by rw [List.getElem?_map,hx];rfl)),_,rfl,_,_,rfl,rfl,_,rfl,x,_,fb,rfl,hwx,by omega,by omega,fun r hr' => ?_⟩
      have k1:=Int.emod_nonneg (r / 3) (show (m:Int)≠0 by omega)
      have k2:=Int.emod_lt_of_pos (r / 3) hmi
      obtain ⟨kN,hkN⟩ : ∃ kN:Nat,r / 3 % (m:Int)=(kN:Int):=⟨_,(Int.toNat_of_nonneg k1).symm⟩
      have o1:=Int.emod_nonneg (r / (3 * (m:Int))) (show (m:Int)≠0 by omega)
      have o2:=Int.emod_lt_of_pos (r / (3 * (m:Int))) hmi
      obtain ⟨oN,hoN⟩ : ∃ oN:Nat,r / (3 * (m:Int)) % (m:Int)=(oN:Int):=⟨_,(Int.toNat_of_nonneg o1).symm⟩
      have hmm2:(m:Int) * (m:Int)≤16 * 16:=by
        have:=Nat.mul_le_mul hm2 hm2
        have e:(m:Int) * (m:Int)=((m * m:Nat) : Int):=by norm_cast
        rw [e];omega
      have hmm3 : 0<(m:Int) * (m:Int):=Int.mul_pos hmi hmi
      have e3 : 3 * (m:Int) * (m:Int)=3 * ((m:Int) * (m:Int)):=Int.mul_assoc _ _ _
      refine ⟨_,rfl,_,_,rfl,rfl,divG_of (by decide) (by decide),_,rfl,_,_,rfl,rfl,hmi,?_⟩
      refine ⟨_,rfl,_,rfl,_,_,rfl,rfl,mulL (by decide) (by decide),_,_,rfl,rfl,divG_of (by omega) (by omega),_,rfl,_,_,rfl,rfl,hmi,?_⟩
      refine ⟨_,rfl,_,rfl,_,_,rfl,rfl,mulL (by decide) (by decide),_,rfl,_,_,rfl,rfl,mulL (by omega) (by omega),_,_,rfl,rfl,divG_of (by rw [e3];omega) (by rw [e3];omega),_,rfl,hr'.div _,fun o _ _ => ?_⟩
      dsimp only
      rw [hkN,hoN]
      have hkm:kN<m:=by omega
      have hom:oN<m:=by omega
      have ek:(1:Int) * 2^((kN:Int)).toNat=((2^kN:Nat) : Int):=by rw [shl_eq,pow_cast]
      have eo:(1:Int) * 2^((oN:Int)).toNat=((2^oN:Nat) : Int):=by rw [shl_eq,pow_cast]
      have pw:((2:Int)^m)=((2^m:Nat) : Int):=by norm_cast
      have hk2 : 2^kN<2^m:=Nat.pow_lt_pow_right (by decide) hkm
      obtain ⟨ps,p1,p2⟩:=id g1
      have hpl:=p2.length
      have fin:∀ (x:Int) (y:Int) (t:Addr),G t=none→PairD (x,y)→x<2^m→∀ v5 v6 v7 v8 v9:Option V,∃ (l':Terms) (w5 w6 w7 w8 w9:Option V),[some (.ref a),some (.int (m:Int)),some (.bl fb),some (.ref c),some (.ref d),v5,v6,v7,v8,v9]=[some (V.ref a),some (.int (m:Int)),some (.bl fb),some (.ref c),some (.ref d),w5,w6,w7,w8,w9]∧TLo (upd (upd G t (.tup [.int x,.int y])) c (.lst (ps.map V.ref ++ [.ref t]))) c l'∧l'.length=i+1+1∧(∀ t∈l',PairD t)∧(∀ t∈l',t.1<2^m)∧upd (upd G t (.tup [.int x,.int y])) c (.lst (ps.map V.ref ++ [.ref t])) d=some (.lst (ms.map V.int))∧Same H (upd (upd G t (.tup [.int x,.int y])) c (.lst (ps.map V.ref ++ [.ref t]))):=fun x y t ht hp hx v5 v6 v7 v8 v9=>by
        obtain ⟨z1,z3⟩:=push_tup (x:=x) (y:=y) p1 p2 ht
        refine ⟨l ++ [(x,y)],v5,v6,v7,v8,v9,rfl,z1,by rw [List.length_append,g2];rfl,fun u hu => ?_,fun u hu => ?_,z3 d _ g5 hdc,fun b' ob e=>z3 b' ob (sG b' ob e) (ne_of_none e hc0)⟩
        · rcases List.mem_append.mp hu with w | w
          · exact g3 u w
          · rw [List.mem_singleton.mp w];exact hp
        · rcases List.mem_append.mp hu with w | w
          · exact g4 u w
          · rw [List.mem_singleton.mp w];exact hx
      have hlen1:(ps.map V.ref).length<sizeLine:=by rw [List.length_map,hpl,g2];exact small6 (by omega)
      have hkp:((2^kN:Nat) : Int)<2^m:=by rw [pw];exact Int.ofNat_lt.mpr hk2
      have ho2 : 2^oN<2^m:=Nat.pow_lt_pow_right (by decide) hom
      have two:kN≠oN→PairD (((2^kN:Nat) : Int)+((2^oN:Nat) : Int),0-(if o<0 then -o else o))∧((2^kN:Nat) : Int)+((2^oN:Nat) : Int)<2^m:=fun hne=>by
        have hcast:((2^kN:Nat) : Int)+((2^oN:Nat) : Int)=((2^kN+2^oN:Nat) : Int):=by norm_cast
        have hle:(0:Int)-(if o<0 then -o else o)≤0:=by split <;> omega
        rw [hcast]
        rcases Nat.lt_or_gt_of_ne hne with y | y
        · refine ⟨.inr (.inr ⟨kN,oN,y,rfl,hle⟩),?_⟩
          rw [pw]
          refine Int.ofNat_lt.mpr ?_
          have h1 : 2^kN<2^oN:=Nat.pow_lt_pow_right (by decide) y
          have h2 : 2^(oN+1)≤2^m:=Nat.pow_le_pow_right (by decide) hom
          rw [pow_two_succ] at h2
          omega
        · refine ⟨.inr (.inr ⟨oN,kN,y,by rw [Nat.add_comm],hle⟩),?_⟩
          rw [pw]
          refine Int.ofNat_lt.mpr ?_
          have h1 : 2^oN<2^kN:=Nat.pow_lt_pow_right (by decide) y
          have h2 : 2^(kN+1)≤2^m:=Nat.pow_le_pow_right (by decide) hkm
          rw [pow_two_succ] at h2
          omega
      refine ⟨_,rfl,_,_,rfl,rfl,(by show (0:Int)<3;decide),rfl,_,rfl,?_⟩
      refine ite2 (fun h1=>iteT ?_) (fun h1 => ?_)
      · refine ⟨_,rfl,.inl ⟨rfl,_,SqL.of p1⟩,_,rfl,_,_,rfl,rfl,⟨Int.natCast_nonneg _,by omega,by decide⟩,_,rfl,(by show 2≤sizeLine;decide),fun t ht => ?_⟩
        dsimp only
        rw [ek]
        exact ⟨c,_,_,rfl,rfl,(by rw [upd_ne (ne_of_none p1 ht)];exact p1),hlen1,fin _ _ t ht (.inr (.inl ⟨kN,rfl⟩)) hkp _ _ _ _ _⟩
      · refine ⟨_,rfl,_,rfl,rfl,_,rfl,?_⟩
        refine ite2 (fun h2 => ?_) (fun h2 => ?_)
        · refine ⟨_,rfl,.inl ⟨rfl,_,SqL.of p1⟩,_,rfl,_,_,rfl,rfl,⟨Int.natCast_nonneg _,by omega,by decide⟩,_,rfl,(by show 2≤sizeLine;decide),fun t ht => ?_⟩
          dsimp only
          rw [ek]
          exact ⟨c,_,_,rfl,rfl,(by rw [upd_ne (ne_of_none p1 ht)];exact p1),hlen1,fin _ _ t ht (.inr (.inl ⟨kN,rfl⟩)) hkp _ _ _ _ _⟩
        · have hne:kN≠oN:=fun z=>h2 (by rw [z];simp)
          refine ⟨_,rfl,.inl ⟨rfl,_,SqL.of p1⟩,_,rfl,_,_,rfl,rfl,⟨Int.natCast_nonneg _,by omega,by decide⟩,_,rfl,_,_,rfl,rfl,⟨Int.natCast_nonneg _,by omega,by decide⟩,_,_,rfl,rfl,_,rfl,_,rfl,_,_,rfl,rfl,(by show 2≤sizeLine;decide),fun t ht => ?_⟩
          dsimp only
          rw [ek,eo]
          exact ⟨c,_,_,rfl,rfl,(by rw [upd_ne (ne_of_none p1 ht)];exact p1),hlen1,fin _ _ t ht (two hne).1 (two hne).2 _ _ _ _ _⟩
    · rintro σ G ⟨l,v5,v6,v7,v8,v9,rfl,g1,g2,g3,g4,g5,sG⟩
      rw [List.length_map] at g2
      refine ⟨_,rfl,c,l,rfl,g1.tl,by omega,fun b f H5 hb hT5 hF5 hl5 s5 => ?_⟩
      refine q b f H5 (sG.free hb) hT5 hF5.toIsForm (pairs_ok hF5 g3) (fun t ht => ?_) (by omega) (sG.trans s5)
      obtain ⟨u,hu,e⟩:=List.mem_map.mp (hF5.src t ht)
      rw [← e];exact g4 u hu
theorem sc_form_from:FnScope ["numbers"] ["numbers"] (defScope s_form_from):=⟨rfl,rfl,rfl,by decide +kernel,rfl,by decide +kernel,by decide +kernel⟩
theorem nd_form_from_1:(["members", "numbers"] : List Str).Nodup:=by decide +kernel
theorem ok_form_from (T:Txt K mg) : FnOk P w K mg base CX0 1 T.a_form_from T.fd_form_from ["numbers"] spFormFrom:=by
  refine T.d_form_from.F.ok sc_form_from (fun vs H Q E h => ?_) (fun cdv A outer s H vs Q E hr h => ?_)
  · obtain ⟨d,dd,rfl,hd,hnd,hlen,q⟩:=h;rfl
  · obtain ⟨d,dd,rfl,hd,hnd,hlen,q⟩:=h
    have hu:=hu_of hr
    refine ⟨_,(pss_one (ps_ret (pe_comp (g:=(gName 0)) ["members", "numbers"] 1 [0] rfl (by exact CompSc.of (defScope s_form_from) ["numbers"] rfl rfl rfl (by decide +kernel) rfl (by decide +kernel) (by decide +kernel)) (pi_list (pe_callB (call_sortedD rfl) (by rfl) T.n_sorted PyProof.Rows.boot_sorted (pa_cons (pv 0) pa_nil)))
        (fun cl C s₀ H₀ fp=>(pg_name (i:=0) nd_form_from_1 rfl (Or.inl rfl) (Or.inr rfl))) (fun cl C s₀ H₀ fp=>(pts_one (pt_cmpR op_ne (pe_dget hu (pv 1) (pv 0) (fun _ _=>rfl)) pe_int (nomark _)))) (fun cl C s₀ H₀ fp=>(pe_tup (pa_cons (pv 0) (pa_cons (pe_dget hu (pv 1) (pv 0) (fun _ _=>rfl)) pa_nil))))))),?_⟩
    refine ⟨_,rfl,d,_,dd.map (·.1),rfl,hd,keys_enc dd,fun e ks he hperm hsort => ?_⟩
    have hed:d≠e:=ne_of_none hd he
    refine ⟨e,rfl,⟨_,SqL.of upd_same⟩,?_⟩
    have hkl:ks.length≤100000:=by have:=hperm.length_eq;rw [List.length_map] at this;omega
    refine comp_list (K:=K) (a:=e) (xs:=ks.map V.int) (fun i ys σ H2 => ∃ (v0:Option V) (qs:List Addr),σ = [v0,some (.ref d)]∧ys=qs.map V.ref∧Tups H2 qs (formOf dd (ks.take i))∧H2 d=some (.dK (dd.map encP))∧H2 e=some (.lst (ks.map V.int))∧Same H H2)
      ⟨none,[],rfl,rfl,.nil,(by rw [upd_ne hed];exact hd),upd_same,Same.upd he⟩ (fun i ys σ H2 hi ⟨_,qs,_,e1,e2,_,e4,_⟩=>⟨SqL.of e4,by
        rw [e1,List.length_map,e2.length]
        have:=formOf_length dd (ks.take i)
        rw [List.length_take] at this;omega⟩) (by rw [List.length_map];exact Nat.le_of_lt (small6 (by omega))) ?_ ?_
    · rintro i y ys σ H2 hi ⟨v0,qs,rfl,rfl,g2,g3,g4,g5⟩
      obtain ⟨k,hki,rfl⟩:=at_int hi
      have hkm:k∈dd.map (·.1):=hperm.mem_iff.mp (List.mem_of_getElem? hki)
      obtain ⟨v,hv⟩ : ∃ v,look dd k=some v:=by
        cases e:look dd k with
        | none=>exact absurd e (look_mem.mpr hkm)
        | some v=>exact ⟨v,rfl⟩
      have hgv:getI dd k=v:=by unfold getI;rw [hv];rfl
      have htk:ks.take (i+1)=ks.take i ++ [k]:=by rw [List.take_add_one,hki];rfl
      have hget:∀ {H3:Hp},H3 d=some (.dK (dd.map encP))→DGet H3 d (.int k) (some (.int v)):=fun {H3} z=>by
        have:=DGet.k (k:=Sum.inl k) z
        rw [valV_enc,hv] at this
        exact this
      refine ⟨_,rfl,_,rfl,d,_,rfl,hget g3,rfl,_,rfl,?_⟩
      by_cases hv0:v=0
      · subst hv0
        refine iteNS rfl ⟨_,qs,rfl,rfl,?_,g3,g4,g5⟩
        have:formOf dd (ks.take (i+1))=formOf dd (ks.take i):=by
          rw [htk];unfold formOf;rw [List.filter_append,List.map_append];simp [hgv]
        rw [this];exact g2
      · have hne : ¬ (V.int v=V.int 0):=fun z=>hv0 (by injection z)
        rw [decide_eq_false hne]
        refine iteT ?_
        refine ⟨_,rfl,_,rfl,_,rfl,d,_,rfl,hget g3,(by show 2≤sizeLine;decide),fun t ht => ?_⟩
        have s3:Same H2 (upd H2 t (.tup [.int k,.int v])):=Same.upd ht
        refine ⟨_,qs ++ [t],rfl,(by rw [List.map_append];rfl),?_,s3 _ _ g3,s3 _ _ g4,g5.trans s3⟩
        have:formOf dd (ks.take (i+1))=formOf dd (ks.take i) ++ [(k,v)]:=by
          rw [htk];unfold formOf;rw [List.filter_append,List.map_append];simp [hgv,hv0]
        rw [this]
        exact Tups.snoc (g2.keep fun b xs z=>s3 b _ z) upd_same
    · rintro ys σ H2 ⟨v0,qs,rfl,rfl,g2,g3,g4,g5⟩ D hD
      rw [List.length_map,List.take_length] at g2
      have s3:Same H2 (upd H2 D (.lst (qs.map V.ref))):=Same.upd hD
      exact q D ks _ (g5.free hD) ⟨qs,upd_same,g2.keep fun b xs z=>s3 b _ z⟩ hperm hsort (g5.trans s3)
theorem sc_made:FnScope ["some", "numbers", "members", "number"] ["some"] (defScope s_made):=⟨rfl,rfl,rfl,by decide +kernel,rfl,by decide +kernel,by decide +kernel⟩
theorem ok_made (T:Txt K mg) : FnOk P w K mg base CX0 2 T.a_made T.fd_made ["some"] (spForm K):=by
  refine T.d_made.F.ok sc_made (fun vs H Q E h => ?_) (fun cdv A outer s H vs Q E hr h => ?_)
  · obtain ⟨a,l,rfl,⟨ps,hS,hT⟩,hlen,q⟩:=h;rfl
  · obtain ⟨a,l,rfl,⟨ps,hS,hT⟩,hlen,q⟩:=h
    have hu:=hu_of hr
    refine ⟨_,(pss_cons (ps_set (i:=1) sc_made.nd rfl (Or.inl rfl) pe_dnewK)
      (pss_cons (ps_for PassesOwn.never rfl (pi_list (pv 0)) (pg_tup (n:=2) rfl (pgs_cons (pg_name (i:=2) sc_made.nd rfl (Or.inl rfl)) (pgs_cons (pg_name (i:=3) sc_made.nd rfl (Or.inl rfl)) pgs_nil)))
        (pss_one (ps_dput hu (pv 1) (pv 2) (pe_op op_add (pe_dget2 hu (pv 1) (pv 2) pe_int ⟨rfl,rfl,rfl,rfl⟩) (pv 3)) rfl)))
      (pss_one (ps_ret (pe_call (ok_form_from (P:=P) (w:=w) (base:=base) T) hr (by rfl) T.d_form_from.m T.d_form_from.F.kp T.d_form_from.b .nil pass0 (pa_cons (pv 1) pa_nil)))))),?_⟩
    intro d hd
    have s0:Same H (upd H d (.dK [])):=Same.upd hd
    refine ⟨_,rfl,a,rfl,⟨_,s0.seq hS⟩,?_⟩
    refine for_list (K:=K) (a:=a) (xs:=ps.map V.ref) (fun i σ H2 => ∃ (dd:Terms) (v2 v3:Option V),σ = [some (.ref a),some (.ref d),v2,v3]∧H2=upd H d (.dK (dd.map encP))∧DictOf dd (l.take i))
      ⟨[],none,none,rfl,rfl,dictOf_nil⟩ (fun i σ H2 _ ⟨_,_,_,_,e,_⟩=>by rw [e];exact (Same.upd hd).seq hS) ?_ ?_
    · rintro i y σ H2 hi ⟨dd,v2,v3,rfl,rfl,hdd⟩
      obtain ⟨p,hpi,rfl⟩:=at_ref hi
      obtain ⟨t,ht1,ht2⟩:=hT.at' hpi
      have htk:l.take (i+1)=l.take i ++ [t]:=by rw [List.take_add_one,ht1];rfl
      have hil:i<l.length:=(List.getElem?_eq_some_iff.mp ht1).1
      have hdl:dd.length≤i:=Nat.le_trans hdd.len (by rw [List.length_take];omega)
      have hdd2:=hdd.snoc t
      rw [← htk] at hdd2
      refine ⟨p,_,rfl,SqT.of ((Same.upd hd) _ _ ht2),rfl,_,_,rfl,_,_,rfl,rfl,?_⟩
      refine ⟨_,rfl,d,rfl,.inl ⟨_,.inl upd_same⟩,_,rfl,_,DGet.k (k:=Sum.inl t.1) upd_same,?_⟩
      rw [valV_enc]
      have eg:((look dd t.1).map V.int).getD (V.int 0)=V.int (getI dd t.1):=by
        unfold getI
        cases look dd t.1 <;> rfl
      rw [eg]
      refine ⟨_,rfl,_,_,rfl,rfl,_,rfl,_,rfl,d,_,rfl,DPut.k (k:=Sum.inl t.1) upd_same ?_,putI dd t.1 (getI dd t.1+t.2),_,_,rfl,?_,hdd2⟩
      · rw [List.length_map];exact small6 (by omega)
      · rw [upd_upd,putK_enc]
    · rintro σ H2 ⟨dd,v2,v3,rfl,rfl,hdd⟩
      have hl0:l.take (ps.map V.ref).length=l:=by rw [List.length_map,hT.length,List.take_length]
      rw [hl0] at hdd
      refine ⟨_,rfl,d,dd,rfl,upd_same,hdd.nd,Nat.le_trans hdd.len hlen,fun b ks H3 hb hT3 hperm hsort s3 => ?_⟩
      have hbd:b≠d:=by intro z;subst z;rw [upd_same] at hb;cases hb
      have hHb:H b=none:=by have:=hb;rw [upd_ne hbd] at this;exact this
      refine q b (formOf dd ks) H3 hHb hT3 (formOf_ok hdd hperm hsort) ?_ ((Same.upd hd).trans s3)
      have h1:=formOf_length dd ks
      have h2:=hperm.length_eq;rw [List.length_map] at h2;have h3:=hdd.len
      omega
def spLow0:Sp:=fun vs H Q _ => ∃ n:Nat,vs=[.int (n:Int)]∧Q (.int ((lowV n:Nat) : Int)) H
theorem sc_lowest:FnScope ["members"] ["members"] (defScope s_lowest):=⟨rfl,rfl,rfl,by decide +kernel,rfl,by decide +kernel,by decide +kernel⟩
theorem ok_lowest (T:Txt K mg) : FnOk P w K mg base CX0 1 T.a_lowest T.fd_lowest ["members"] spLow0:=by
  refine T.d_lowest.F.ok sc_lowest (fun vs H Q E h => ?_) (fun cdv A outer s H vs Q E hr h => ?_)
  · obtain ⟨n,rfl,q⟩:=h;rfl
  · obtain ⟨n,rfl,q⟩:=h
    have hu:=hu_of hr
    refine ⟨_,(pss_one (ps_ret (pe_op op_sub (pv 0) (pe_op op_and (pv 0) (pe_op op_sub (pv 0) pe_int))))),?_⟩
    refine ⟨_,rfl,_,rfl,_,rfl,_,_,rfl,rfl,_,_,rfl,rfl,_,_,rfl,rfl,?_⟩
    have e:(n:Int)-Builtin.bitAnd (n:Int) ((n:Int)-1)=((lowV n:Nat) : Int):=by
      by_cases z:n=0
      · subst z;decide
      · have h1:n &&& (n-1)≤n:=Nat.and_le_left
        rw [show (n:Int)-1=((n-1:Nat) : Int) by omega,bitAnd_nat]
        unfold lowV
        omega
    show Q (.int ((n:Int)-Builtin.bitAnd (n:Int) ((n:Int)-1))) H
    rw [e];exact q
def spWithout (K:PySem.W.Frag) : Sp:=fun vs H Q _ => ∃ (a:Addr) (f:Terms),vs=[.ref a]∧TLo H a f∧(∀ t∈f,0≤t.1)∧f.length≤100000∧∀ (b:Addr) (sg:Terms) (H':Hp),H b=none→TLo H' b sg→FormOf sg (f.map fun t=>((lowV t.1.toNat:Int),t.2))→sg.length≤f.length→Same H H'→Q (.ref b) H'
theorem sc_without_pairs:FnScope ["form"] ["form"] (defScope s_without_pairs):=⟨rfl,rfl,rfl,by decide +kernel,rfl,by decide +kernel,by decide +kernel⟩
theorem nd_without_pairs_1:(["members", "number"] : List Str).Nodup:=by decide +kernel
theorem ok_without_pairs (T:Txt K mg) : FnOk P w K mg base CX0 3 T.a_without_pairs T.fd_without_pairs ["form"] (spWithout K):=by
  refine T.d_without_pairs.F.ok sc_without_pairs (fun vs H Q E h => ?_) (fun cdv A outer s H vs Q E hr h => ?_)
  · obtain ⟨a,f,rfl,hT,hk,hln,q⟩:=h;rfl
  · obtain ⟨a,f,rfl,hT,hk,hln,q⟩:=h
    have hu:=hu_of hr
    refine ⟨_,(pss_one (ps_ret (pe_call (ok_made (P:=P) (w:=w) (base:=base) T) hr (by rfl) T.d_made.m T.d_made.F.kp T.d_made.b .nil pass0 (pa_cons (pe_comp (g:=(gTup K 2 (gCons (gName 0) (gCons (gName 1) gNil)))) ["members", "number"] 2 [] rfl (by exact CompSc.of (defScope s_without_pairs) ["form"] rfl rfl rfl (by decide +kernel) rfl (by decide +kernel) (by decide +kernel)) (pi_list (pv 0))
        (fun cl C s₀ H₀ fp=>(pg_tup (n:=2) rfl (pgs_cons (pg_name (i:=0) nd_without_pairs_1 rfl (Or.inl rfl) (Or.inr rfl)) (pgs_cons (pg_name (i:=1) nd_without_pairs_1 rfl (Or.inl rfl) (Or.inr rfl)) pgs_nil)))) (fun cl C s₀ H₀ fp=>pts_nil) (fun cl C s₀ H₀ fp=>(pe_tup (pa_cons (pe_call (ok_lowest (P:=P) (w:=w) (base:=base) T) (hr.mono (by decide)) (by rfl) T.d_lowest.m T.d_lowest.F.kp T.d_lowest.b .nil pass0 (pa_cons (pv 0) pa_nil)) (pa_cons (pv 1) pa_nil))))) pa_nil)))),?_⟩
    obtain ⟨ps,h1,h2⟩:=hT
    have hpl:=h2.length
    refine ⟨_,rfl,a,rfl,⟨_,SqL.of h1⟩,?_⟩
    refine comp_list (K:=K) (a:=a) (xs:=ps.map V.ref) (fun i ys σ G => ∃ (v0 v1:Option V) (qs:List Addr),σ = [v0,v1]∧ys=qs.map V.ref∧Tups G qs ((f.take i).map fun t=>((lowV t.1.toNat:Int),t.2))∧Same H G)
      ⟨none,none,[],rfl,rfl,.nil,Same.refl _⟩ (fun i ys σ G hi ⟨_,_,qs,_,e1,e2,e3⟩=>⟨SqL.of (e3 _ _ h1),by rw [e1,List.length_map,e2.length,List.length_map,List.length_take];omega⟩) (by rw [List.length_map];exact Nat.le_of_lt (small6 (by omega))) ?_ ?_
    · rintro i y ys σ G hi ⟨v0,v1,qs,rfl,rfl,g1,sG⟩
      obtain ⟨p,hpi,rfl⟩:=at_ref hi
      obtain ⟨t,ht1,ht2⟩:=h2.at' hpi
      have h0:=hk t (List.mem_of_getElem? ht1)
      refine ⟨p,_,rfl,SqT.of (sG _ _ ht2),rfl,_,_,rfl,_,_,rfl,rfl,?_⟩
      refine tt ?_
      refine ⟨_,rfl,t.1.toNat,congrArg (fun z=>[V.int z]) (key_nat h0).symm,_,rfl,(by show 2≤sizeLine;decide),fun d hd => ?_⟩
      have b1:Same G (upd G d (.tup [.int ((lowV t.1.toNat:Nat) : Int),.int t.2])):=Same.upd hd
      refine ⟨_,_,qs ++ [d],rfl,(by rw [List.map_append];rfl),?_,sG.trans b1⟩
      rw [List.take_add_one,ht1,List.map_append]
      exact Tups.snoc (g1.keep fun b xs z=>b1 _ _ z) upd_same
    · rintro ys σ G ⟨v0,v1,qs,rfl,rfl,g1,sG⟩ D hD
      rw [List.length_map,hpl,List.take_length] at g1
      have s3:Same G (upd G D (.lst (qs.map V.ref))):=Same.upd hD
      refine ⟨D,_,rfl,TLo.tl ⟨qs,upd_same,g1.keep fun b xs z=>s3 _ _ z⟩,by rw [List.length_map];exact hln,fun b sg H2 hb hT2 hF2 hl2 s4 => ?_⟩
      rw [List.length_map] at hl2
      exact q b sg H2 ((sG.trans s3).free hb) hT2 hF2 hl2 ((sG.trans s3).trans s4)
theorem sc_floor:FnScope ["form"] ["form"] (defScope s_floor):=⟨rfl,rfl,rfl,by decide +kernel,rfl,by decide +kernel,by decide +kernel⟩
theorem nd_floor_2:(["members", "number"] : List Str).Nodup:=by decide +kernel
theorem ok_floor (T:Txt K mg) : FnOk P w K mg base CX0 1 T.a_floor T.fd_floor ["form"] (spFloor K):=by
  refine T.d_floor.F.ok sc_floor (fun vs H Q E h => ?_) (fun cdv A outer s H vs Q E hr h => ?_)
  · obtain ⟨a,l,rfl,⟨ps,hS,hT⟩,hlen,q⟩:=h;rfl
  · obtain ⟨a,l,rfl,⟨ps,hS,hT⟩,hlen,q⟩:=h
    have hu:=hu_of hr
    refine ⟨_,(pss_one (ps_ret (pe_callB (call_sumL rfl) (by rfl) T.n_sum PyProof.Rows.boot_sum (pa_cons (pe_comp (g:=(gTup K 2 (gCons (gName 0) (gCons (gName 1) gNil)))) ["members", "number"] 2 [] rfl (by exact CompSc.of (defScope s_floor) ["form"] rfl rfl rfl (by decide +kernel) rfl (by decide +kernel) (by decide +kernel)) (pi_list (pv 0))
        (fun cl C s₀ H₀ fp=>(pg_tup (n:=2) rfl (pgs_cons (pg_name (i:=0) nd_floor_2 rfl (Or.inl rfl) (Or.inr rfl)) (pgs_cons (pg_name (i:=1) nd_floor_2 rfl (Or.inl rfl) (Or.inr rfl)) pgs_nil)))) (fun cl C s₀ H₀ fp=>(pts_one (PW.pt (pw_or (pt_cmpR op_eq (pv 0) pe_int (nomark _)) (pw_or1 (pt_cmpR op_lt (pv 1) pe_int (nomark _))))))) (fun cl C s₀ H₀ fp=>(pv 1))) pa_nil)))),?_⟩
    refine ⟨_,rfl,a,rfl,⟨_,hS⟩,?_⟩
    refine comp_list (K:=K) (a:=a) (xs:=ps.map V.ref) (fun i ys σ H2 => ∃ (v0 v1:Option V),σ = [v0,v1]∧H2=H∧ys=(((l.take i).filter flP).map (·.2)).map V.int)
      ⟨none,none,rfl,rfl,rfl⟩ (fun i ys σ H2 hi ⟨_,_,_,e,e2⟩=>⟨by rw [e];exact hS,by
        rw [e2,List.length_map,List.length_map]
        exact Nat.le_trans (List.length_filter_le _ _) (by rw [List.length_take];omega)⟩) (by rw [List.length_map,hT.length];exact Nat.le_of_lt (small6 (by omega))) ?_ ?_
    · rintro i y ys σ H2 hi ⟨v0,v1,rfl,rfl,rfl⟩
      obtain ⟨p,hpi,rfl⟩:=at_ref hi
      obtain ⟨t,ht1,ht2⟩:=hT.at' hpi
      have htk:l.take (i+1)=l.take i ++ [t]:=by rw [List.take_add_one,ht1];rfl
      refine ⟨p,_,rfl,SqT.of ht2,rfl,_,_,rfl,_,_,rfl,rfl,?_⟩
      refine ⟨_,rfl,rfl,_,rfl,?_⟩
      refine ite2 (fun h1 => ?_) (fun h1 => ?_)
      · have h1':t.1=0:=by have:=of_decide_eq_true h1;injection this
        have hp:flP t=true:=by unfold flP;simp [h1']
        refine iteT ⟨_,rfl,_,_,rfl,rfl,?_⟩
        rw [htk,List.filter_append,List.map_append,List.map_append];simp [hp]
      · have h1' : ¬ t.1=0:=fun z=>h1 (decide_eq_true (congrArg V.int z))
        refine ⟨_,rfl,_,_,rfl,rfl,_,rfl,?_⟩
        refine ite2 (fun h2 => ?_) (fun h2 => ?_)
        · have hp:flP t=true:=by unfold flP;simp [of_decide_eq_true h2]
          refine ⟨_,rfl,_,_,rfl,rfl,?_⟩
          rw [htk,List.filter_append,List.map_append,List.map_append];simp [hp]
        · have hp:flP t=false:=by
            unfold flP
            have h2' : ¬ t.2<0:=fun z=>h2 (decide_eq_true z)
            simp [h1',h2']
          refine ⟨_,_,rfl,rfl,?_⟩
          rw [htk,List.filter_append,List.map_append,List.map_append];simp [hp]
    · rintro ys σ H2 ⟨v0,v1,rfl,rfl,rfl⟩ D hD
      refine ⟨D,_,rfl,SqL.of upd_same,?_⟩
      have:=q _ (Same.upd (o := .lst ((((l.take (ps.map V.ref).length).filter flP).map (·.2)).map V.int)) hD)
      rw [List.length_map,hT.length,List.take_length] at this ⊢
      exact this
def spFirstP (K:PySem.W.Frag) : Sp:=fun vs H Q _ => ∃ (a b:Addr) (f sg:Terms),vs=[.ref a,.ref b]∧TLo H a f∧TLo H b sg∧IsForm f∧(∀ t∈f,PairOk t)∧f.length≤100000∧IsForm sg∧(∀ t∈sg,t.1=0∨∃ i:Nat,t.1=((2^i:Nat) : Int))∧sg.length≤100000 ∧
  ∀ (D:Addr) (c:Caps) (H':Hp),H D=none→H' D=some (.dT (c.map encQ))→(c.map (·.1)).Nodup→(∀ p∈c,0≤p.2)→(∀ k∈c.map (·.1),(∃ t∈f,isTwo t∧k=halves t)∨∃ t∈sg,t.1≠0∧(k=(t.1.toNat,0)∨k=(0,t.1.toNat)))→(∀ g,wP c g=pairW f g+singW sg g)→Same H H'→Q (.ref D) H'
theorem halves_inj {t u:Int × Int} (ht:PairOk t) (hu:PairOk u) (h1:isTwo t) (h2:isTwo u) (e:halves t=halves u) : t.1=u.1:=by
  obtain ⟨i,j,_,e1,_,e2⟩:=ht.two h1
  obtain ⟨i',j',_,e3,_,e4⟩:=hu.two h2
  rw [e2,e4] at e
  have h1 : 2^i=2^i':=congrArg Prod.fst e
  have h2 : 2^j=2^j':=congrArg Prod.snd e
  rw [e1,e3,h1,h2]
theorem put_zero {c:Caps} (hn:(c.map (·.1)).Nodup) {k:Nat × Nat} (hk:k ∉ c.map (·.1)) (v:Int) (g:Nat) : wP (putP c k v) g=wP c g+v * oneP k g:=by
  rw [wP_put hn]
  have:getP c k=0:=by unfold getP;rw [lookP_none.mpr hk];rfl
  rw [this,Int.sub_zero]
theorem put_nonneg {c:Caps} (h:∀ p∈c,0≤p.2) {k:Nat × Nat}{v:Int} (hv : 0≤v) : ∀ p∈putP c k v,0≤p.2:=fun p hp=>by
  unfold putP at hp
  split at hp
  · obtain ⟨u,hu,rfl⟩:=List.mem_map.mp hp
    split
    · exact hv
    · exact h u hu
  · rcases List.mem_append.mp hp with y | y
    · exact h p y
    · rw [List.mem_singleton.mp y];exact hv
theorem sc_first_products:FnScope ["form", "singles", "products", "members", "number", "low", "bit"] ["form", "singles"] (defScope s_first_products):=⟨rfl,rfl,rfl,by decide +kernel,rfl,by decide +kernel,by decide +kernel⟩
theorem ok_first_products (T:Txt K mg) : FnOk P w K mg base CX0 2 T.a_first_products T.fd_first_products ["form", "singles"] (spFirstP K):=by
  refine T.d_first_products.F.ok sc_first_products (fun vs H Q E h => ?_) (fun cdv A outer s H vs Q E hr h => ?_)
  · obtain ⟨a,b,f,sg,rfl,hTa,hTb,hf,hok,hln,hsg,hso,hsl,q⟩:=h;rfl
  · obtain ⟨a,b,f,sg,rfl,hTa,hTb,hf,hok,hln,hsg,hso,hsl,q⟩:=h
    have hu:=hu_of hr
    refine ⟨_,(pss_cons (ps_set (i:=2) sc_first_products.nd rfl (Or.inl rfl) pe_dnewT)
      (pss_cons (ps_for PassesOwn.never rfl (pi_list (pv 0)) (pg_tup (n:=2) rfl (pgs_cons (pg_name (i:=3) sc_first_products.nd rfl (Or.inl rfl)) (pgs_cons (pg_name (i:=4) sc_first_products.nd rfl (Or.inl rfl)) pgs_nil)))
        (pss_cons (ps_set (i:=5) sc_first_products.nd rfl (Or.inl rfl) (pe_call (ok_lowest (P:=P) (w:=w) (base:=base) T) hr (by rfl) T.d_lowest.m T.d_lowest.F.kp T.d_lowest.b .nil pass0 (pa_cons (pv 3) pa_nil)))
      (pss_one (ps_if (pt_cmpR op_ne (pv 3) (pv 5) (nomark _)) (pss_one (ps_dput hu (pv 2) (pe_tup (pa_cons (pv 5) (pa_cons (pe_op op_sub (pv 3) (pv 5)) pa_nil))) (pe_un un_neg (pv 4)) rfl)) pss_nil))))
      (pss_cons (ps_for PassesOwn.never rfl (pi_list (pv 1)) (pg_tup (n:=2) rfl (pgs_cons (pg_name (i:=6) sc_first_products.nd rfl (Or.inl rfl)) (pgs_cons (pg_name (i:=4) sc_first_products.nd rfl (Or.inl rfl)) pgs_nil)))
        (pss_cons (ps_if (PW.pt (pw_and (pt_cmpR op_ne (pv 6) pe_int (nomark _)) (pw_and1 (pt_cmpR op_gt (pv 4) pe_int (nomark _))))) (pss_one (ps_dput hu (pv 2) (pe_tup (pa_cons (pv 6) (pa_cons pe_int pa_nil))) (pv 4) rfl)) pss_nil)
      (pss_one (ps_if (PW.pt (pw_and (pt_cmpR op_ne (pv 6) pe_int (nomark _)) (pw_and1 (pt_cmpR op_lt (pv 4) pe_int (nomark _))))) (pss_one (ps_dput hu (pv 2) (pe_tup (pa_cons pe_int (pa_cons (pv 6) pa_nil))) (pe_un un_neg (pv 4)) rfl)) pss_nil))))
      (pss_one (ps_ret (pv 2)))))),?_⟩
    obtain ⟨pa,ha1,ha2⟩:=hTa
    obtain ⟨pb,hb1,hb2⟩:=hTb
    have hal:=ha2.length
    have hbl:=hb2.length
    intro D hD
    have s0:Same H (upd H D (.dT [])):=Same.upd hD
    refine ⟨_,rfl,a,rfl,⟨_,SqL.of (s0 _ _ ha1)⟩,?_⟩
    refine for_list (K:=K) (a:=a) (xs:=pa.map V.ref) (fun i σ G => ∃ (c:Caps) (v3 v4 v5 v6:Option V),σ = [some (.ref a),some (.ref b),some (.ref D),v3,v4,v5,v6]∧G D=some (.dT (c.map encQ))∧c.length≤i∧(c.map (·.1)).Nodup∧(∀ p∈c,0≤p.2)∧(∀ k∈c.map (·.1),∃ t∈f.take i,isTwo t∧k=halves t)∧(∀ g,wP c g=pairW (f.take i) g)∧Same H G)
      ⟨[],none,none,none,none,rfl,upd_same,Nat.le_refl _,List.nodup_nil,(fun p hp=>by cases hp),(fun k hk=>by cases hk),(fun g=>rfl),s0⟩ (fun i σ G _ ⟨_,_,_,_,_,_,_,_,_,_,_,_,e⟩=>SqL.of (e _ _ ha1)) ?_ ?_
    · rintro i y σ G hi ⟨c,v3,v4,v5,v6,rfl,g1,g2,g3,g4,g5,g6,sG⟩
      obtain ⟨p,hpi,rfl⟩:=at_ref hi
      obtain ⟨t,ht1,ht2⟩:=ha2.at' hpi
      have htm:=List.mem_of_getElem? ht1
      have hpo:=hok t htm
      have h0:=hpo.nonneg
      obtain ⟨hil,hte⟩:=List.getElem?_eq_some_iff.mp ht1
      have htk:f.take (i+1)=f.take i ++ [t]:=by rw [List.take_add_one,ht1];rfl
      have hpw:∀ g,pairW (f.take (i+1)) g=pairW (f.take i) g+if isTwo t then -t.2 * oneP (halves t) g else 0:=fun g=>by
        rw [htk];unfold pairW;rw [List.map_append,List.sum_append];simp
      refine ⟨p,_,rfl,SqT.of (sG _ _ ht2),rfl,_,_,rfl,_,_,rfl,rfl,?_⟩
      refine ⟨_,rfl,t.1.toNat,congrArg (fun z=>[V.int z]) (key_nat h0).symm,?_⟩
      refine ⟨_,rfl,_,rfl,rfl,_,rfl,?_⟩
      show if (!decide (V.int t.1=V.int ((lowV t.1.toNat:Nat) : Int)))=true then _ else _
      by_cases h2:isTwo t
      · have hne : ¬ t.1=((lowV t.1.toNat:Nat) : Int):=fun z=>h2 (by have:=congrArg Int.toNat z;rwa [Int.toNat_natCast] at this)
        refine iteY (by simp [hne]) ?_
        obtain ⟨x,j,hxj,e1,hneg,e2⟩:=hpo.two h2
        have el:lowV t.1.toNat≤t.1.toNat:=Nat.sub_le _ _
        have ed:t.1-((lowV t.1.toNat:Nat) : Int)=(((halves t).2:Nat) : Int):=by
          show _=((t.1.toNat-lowV t.1.toNat:Nat) : Int)
          have:=key_nat h0
          omega
        refine ⟨_,rfl,_,rfl,_,rfl,_,rfl,_,rfl,_,rfl,_,_,rfl,rfl,(by show 2≤sizeLine;decide),fun d hd => ?_⟩
        have b1:Same G (upd G d (.tup [.int ((lowV t.1.toNat:Nat) : Int),.int (t.1-((lowV t.1.toNat:Nat) : Int))])):=Same.upd hd
        have w1:upd G d (.tup [.int ((lowV t.1.toNat:Nat) : Int),.int (t.1-((lowV t.1.toNat:Nat) : Int))]) d=some (.tup [.int ((halves t).1:Int),.int ((halves t).2:Int)]):=by rw [upd_same,ed];rfl
        generalize upd G d (.tup [.int ((lowV t.1.toNat:Nat) : Int),.int (t.1-((lowV t.1.toNat:Nat) : Int))])=G1 at b1 w1 ⊢
        have hnk:halves t ∉ c.map (·.1):=fun z=>by
          obtain ⟨u,hu,hu2,e⟩:=g5 _ z
          have huf:=List.mem_of_mem_take hu
          have:=halves_inj hpo (hok u huf) h2 hu2 e
          obtain ⟨j',hj',ej⟩:=List.mem_iff_getElem.mp hu
          rw [List.length_take] at hj'
          rw [List.getElem_take] at ej
          have:=List.pairwise_iff_getElem.mp hf.rise j' i (by omega) hil (by omega)
          rw [ej,hte] at this
          omega
        refine ⟨D,_,rfl,qput (k:=halves t) (v := -t.2) (b1 _ _ g1) w1 (small6 (by omega)),?_⟩
        refine ⟨putP c (halves t) (-t.2),_,_,_,_,rfl,upd_same,Nat.le_trans (lenP_put ..) (by omega),nodupP_put g3 _ _,put_nonneg g4 (by omega),fun k hk => ?_,fun g => ?_,(sG.trans b1).write hD⟩
        · rcases keysP_sub hk with y | y
          · obtain ⟨u,hu,r⟩:=g5 k y
            exact ⟨u,by rw [htk];exact List.mem_append_left _ hu,r⟩
          · exact ⟨t,by rw [htk];exact List.mem_append_right _ (List.mem_singleton.mpr rfl),h2,y⟩
        · rw [put_zero g3 hnk,g6,hpw,if_pos h2]
      · have he:t.1=((lowV t.1.toNat:Nat) : Int):=by
          have e3:t.1.toNat=lowV t.1.toNat:=Classical.byContradiction fun z=>h2 z
          rw [← e3,key_nat h0]
        refine iteN (by rw [← he];simp) ?_
        refine ⟨c,_,_,_,_,rfl,g1,by omega,g3,g4,fun k hk => ?_,fun g=>by rw [g6,hpw,if_neg h2,Int.add_zero],sG⟩
        obtain ⟨u,hu,r⟩:=g5 k hk
        exact ⟨u,by rw [htk];exact List.mem_append_left _ hu,r⟩
    · rintro σ G ⟨c,v3,v4,v5,v6,rfl,g1,g2,g3,g4,g5,g6,sG⟩
      rw [List.length_map,hal,List.take_length] at g5 g6
      rw [List.length_map,hal] at g2
      have hnt:∀ k∈c.map (·.1),k.1≠0∧k.2≠0:=fun k hk=>by
        obtain ⟨t,ht,h2,e⟩:=g5 k hk
        obtain ⟨i,j,_,_,_,e2⟩:=(hok t ht).two h2
        rw [e,e2]
        exact ⟨Nat.ne_of_gt (Nat.two_pow_pos i),Nat.ne_of_gt (Nat.two_pow_pos j)⟩
      refine ⟨_,rfl,b,rfl,⟨_,SqL.of (sG _ _ hb1)⟩,?_⟩
      refine for_list (K:=K) (a:=b) (xs:=pb.map V.ref) (fun i σ G2 => ∃ (c2:Caps) (v3 v4 v5 v6:Option V),σ = [some (.ref a),some (.ref b),some (.ref D),v3,v4,v5,v6]∧G2 D=some (.dT (c2.map encQ))∧c2.length≤c.length+i∧(c2.map (·.1)).Nodup∧(∀ p∈c2,0≤p.2)∧(∀ k∈c2.map (·.1),k∈c.map (·.1)∨∃ t∈sg.take i,t.1≠0∧(k=(t.1.toNat,0)∨k=(0,t.1.toNat)))∧(∀ g,wP c2 g=pairW f g+singW (sg.take i) g)∧Same H G2)
        ⟨c,_,_,_,_,rfl,g1,Nat.le_refl _,g3,g4,(fun k hk => .inl hk),(fun g=>by rw [g6];show _=_+0;rw [Int.add_zero]),sG⟩ (fun i σ G2 _ ⟨_,_,_,_,_,_,_,_,_,_,_,_,e⟩=>SqL.of (e _ _ hb1)) ?_ ?_
      · rintro i y σ G2 hi ⟨c2,v3,v4,v5,v6,rfl,k1,k2,k3,k4,k5,k6,sG2⟩
        obtain ⟨p,hpi,rfl⟩:=at_ref hi
        obtain ⟨t,ht1,ht2⟩:=hb2.at' hpi
        have htm:=List.mem_of_getElem? ht1
        have hn0:=hsg.nz t htm
        have h0 : 0≤t.1:=(hso t htm).elim (fun e=>by rw [e];exact Int.le_refl _) fun ⟨i,e⟩=>by rw [e];exact Int.natCast_nonneg _
        obtain ⟨hil,hte⟩:=List.getElem?_eq_some_iff.mp ht1
        have hsl2:pb.length≤100000:=by omega
        have htk:sg.take (i+1)=sg.take i ++ [t]:=by rw [List.take_add_one,ht1];rfl
        have hpw:∀ g,singW (sg.take (i+1)) g=singW (sg.take i) g+singP t g:=fun g=>by
          rw [htk];unfold singW;rw [List.map_append,List.sum_append];simp
        have hold:∀ k,(k∈c.map (·.1)∨∃ t∈sg.take i,t.1≠0∧(k=(t.1.toNat,0)∨k=(0,t.1.toNat)))→(k∈c.map (·.1)∨∃ t∈sg.take (i+1),t.1≠0∧(k=(t.1.toNat,0)∨k=(0,t.1.toNat))):=fun k h=>h.imp id fun ⟨u,hu,r⟩=>⟨u,by rw [htk];exact List.mem_append_left _ hu,r⟩
        have hnew:∀ k,(k=(t.1.toNat,0)∨k=(0,t.1.toNat))→t.1≠0→k ∉ c2.map (·.1):=fun k hk hz z=>by
          rcases k5 k z with y | ⟨u,hu,hu0,hu1⟩
          · rcases hk with e | e
            · exact (hnt k y).2 (by rw [e])
            · exact (hnt k y).1 (by rw [e])
          · have huf:=List.mem_of_mem_take hu
            have hu2 : 0≤u.1:=(hso u huf).elim (fun e=>by rw [e];exact Int.le_refl _) fun ⟨i,e⟩=>by rw [e];exact Int.natCast_nonneg _
            have e3:t.1.toNat=u.1.toNat:=by
              rcases hk with e | e <;> rcases hu1 with e' | e' <;> rw [e] at e'
              · exact congrArg Prod.fst e'
              · have h1:t.1.toNat=0:=congrArg Prod.fst e'
                omega
              · have h1:t.1.toNat=0:=congrArg Prod.snd e'
                omega
              · exact congrArg Prod.snd e'
            obtain ⟨j',hj',ej⟩:=List.mem_iff_getElem.mp hu
            rw [List.length_take] at hj'
            rw [List.getElem_take] at ej
            have:=List.pairwise_iff_getElem.mp hsg.rise j' i (by omega) hil (by omega)
            rw [ej,hte] at this
            omega
        refine ⟨p,_,rfl,SqT.of (sG2 _ _ ht2),rfl,_,_,rfl,_,_,rfl,rfl,?_⟩
        by_cases hz:t.1=0
        · refine ⟨_,rfl,rfl,_,rfl,?_⟩
          refine iteN (by show ¬ (!decide (V.int t.1=V.int 0))=true;rw [hz];simp) (iteF ?_)
          refine ⟨_,rfl,rfl,_,rfl,?_⟩
          refine iteN (by show ¬ (!decide (V.int t.1=V.int 0))=true;rw [hz];simp) (iteF ?_)
          refine ⟨c2,_,_,_,_,rfl,k1,by omega,k3,k4,fun k hk=>hold k (k5 k hk),fun g => ?_,sG2⟩
          rw [k6,hpw];unfold singP;rw [if_neg fun z=>z.1 hz,if_neg fun z=>z.1 hz];omega
        · have hzd:(!decide (V.int t.1=V.int 0))=true:=by simp [hz]
          refine ⟨_,rfl,rfl,_,rfl,iteY hzd ?_⟩
          refine ⟨_,rfl,_,_,rfl,rfl,_,rfl,?_⟩
          rcases Int.lt_or_gt_of_ne hn0 with hng | hps
          · refine iteN (by intro z;have:=of_decide_eq_true z;omega) ?_
            refine ⟨_,rfl,rfl,_,rfl,iteY hzd ?_⟩
            refine ⟨_,rfl,_,_,rfl,rfl,_,rfl,iteY (decide_eq_true hng) ?_⟩
            refine ⟨_,rfl,_,rfl,_,rfl,_,rfl,(by show 2≤sizeLine;decide),fun d hd => ?_⟩
            have b1:Same G2 (upd G2 d (.tup [.int 0,.int t.1])):=Same.upd hd
            have w1:upd G2 d (.tup [.int 0,.int t.1]) d=some (.tup [.int (((0,t.1.toNat) : Nat × Nat).1:Int),.int (((0,t.1.toNat) : Nat × Nat).2:Int)]):=by rw [upd_same];show _=some (HO.tup [.int 0,.int (t.1.toNat:Int)]);rw [key_nat h0]
            generalize upd G2 d (.tup [.int 0,.int t.1])=G3 at b1 w1 ⊢
            refine ⟨D,_,rfl,qput (k:=(0,t.1.toNat)) (v := -t.2) (b1 _ _ k1) w1 (small6 (by omega)),?_⟩
            refine ⟨putP c2 (0,t.1.toNat) (-t.2),_,_,_,_,rfl,upd_same,Nat.le_trans (lenP_put ..) (by omega),nodupP_put k3 _ _,put_nonneg k4 (by omega),fun k hk => ?_,fun g => ?_,(sG2.trans b1).write hD⟩
            · rcases keysP_sub hk with y | y
              · exact hold k (k5 k y)
              · exact .inr ⟨t,by rw [htk];exact List.mem_append_right _ (List.mem_singleton.mpr rfl),hz,.inr y⟩
            · rw [put_zero k3 (hnew _ (.inr rfl) hz),k6,hpw];unfold singP;rw [if_neg fun z=>absurd z.2 (by omega),if_pos ⟨hz,hng⟩];omega
          · refine iteY (decide_eq_true hps) ?_
            refine ⟨_,rfl,_,rfl,_,rfl,(by show 2≤sizeLine;decide),fun d hd => ?_⟩
            have b1:Same G2 (upd G2 d (.tup [.int t.1,.int 0])):=Same.upd hd
            have w1:upd G2 d (.tup [.int t.1,.int 0]) d=some (.tup [.int (((t.1.toNat,0) : Nat × Nat).1:Int),.int (((t.1.toNat,0) : Nat × Nat).2:Int)]):=by rw [upd_same];show _=some (HO.tup [.int (t.1.toNat:Int),.int 0]);rw [key_nat h0]
            generalize upd G2 d (.tup [.int t.1,.int 0])=G3 at b1 w1 ⊢
            refine ⟨D,_,rfl,qput (k:=(t.1.toNat,0)) (v:=t.2) (b1 _ _ k1) w1 (small6 (by omega)),?_⟩
            refine ⟨_,rfl,rfl,_,rfl,iteY hzd ?_⟩
            refine ⟨_,rfl,_,_,rfl,rfl,_,rfl,iteN (by intro z;have:=of_decide_eq_true z;omega) ?_⟩
            refine ⟨putP c2 (t.1.toNat,0) t.2,_,_,_,_,rfl,upd_same,Nat.le_trans (lenP_put ..) (by omega),nodupP_put k3 _ _,put_nonneg k4 (by omega),fun k hk => ?_,fun g => ?_,(sG2.trans b1).write hD⟩
            · rcases keysP_sub hk with y | y
              · exact hold k (k5 k y)
              · exact .inr ⟨t,by rw [htk];exact List.mem_append_right _ (List.mem_singleton.mpr rfl),hz,.inl y⟩
            · rw [put_zero k3 (hnew _ (.inl rfl) hz),k6,hpw];unfold singP;rw [if_pos ⟨hz,hps⟩,if_neg fun z=>absurd z.2 (by omega)];omega
      · rintro σ G2 ⟨c2,v3,v4,v5,v6,rfl,k1,k2,k3,k4,k5,k6,sG2⟩
        rw [List.length_map,hbl,List.take_length] at k5 k6
        exact ⟨_,rfl,q D c2 G2 hD k1 k3 k4 (fun k hk=>(k5 k hk).imp (g5 k) id) k6 sG2⟩
def spReached (K:PySem.W.Frag) : Sp:=fun vs H Q _ => ∃ (a b:Addr) (c:Caps) (bits:List Nat),vs=[.ref a,.ref b]∧H a=some (.dT (c.map encQ))∧H b=some (.lst (natL bits))∧bits.length≤1000∧0 ∉ bits ∧
  ∀ (D:Addr) (l:List (Nat × Nat)) (H':Hp),H D=none→H' D=some (.dK ((castP l).map encP))→(l.map (·.1)).Nodup→Tree c bits [] l→Opened c bits l 0→(∀ x∈l.map (·.1),Opened c bits l x)→Same H H'→Q (.ref D) H'
theorem Tree.sub {c:Caps}{bits:List Nat} : ∀ {r pre:List (Nat × Nat)},Tree c bits pre r→∀ x∈r.map (·.1),x∈bits
  | [],_,_,x,h=>by cases h
  | e :: r,pre,h,x,hx=>by
    rw [List.map_cons] at hx
    rcases List.mem_cons.mp hx with rfl | y
    · exact h.1
    · exact Tree.sub h.2.2.2 x y
theorem sc_reached:FnScope ["products", "bits", "ahead", "row", "after", "bit", "other"] ["products", "bits"] (defScope s_reached):=⟨rfl,rfl,rfl,by decide +kernel,rfl,by decide +kernel,by decide +kernel⟩
theorem ok_reached (T:Txt K mg) : FnOk P w K mg base CX0 1 T.a_reached T.fd_reached ["products", "bits"] (spReached K):=by
  refine T.d_reached.F.ok sc_reached (fun vs H Q E h => ?_) (fun cdv A outer s H vs Q E hr h => ?_)
  · obtain ⟨a,b,c,bits,rfl,ha,hb,hbl,hb0,q⟩:=h;rfl
  · obtain ⟨a,b,c,bits,rfl,ha,hb,hbl,hb0,q⟩:=h
    have hu:=hu_of hr
    refine ⟨_,(pss_cons (ps_set (i:=2) sc_reached.nd rfl (Or.inl rfl) pe_dnewK)
      (pss_cons (ps_set (i:=3) sc_reached.nd rfl (Or.inl rfl) (pe_lst (pa_cons pe_int pa_nil)))
      (pss_cons (ps_while PassesOwn.never (pt_truth (pv 3) (fun _=>rfl)) (pss_cons (ps_set (i:=4) sc_reached.nd rfl (Or.inl rfl) (pe_lst pa_nil))
      (pss_cons (ps_for PassesOwn.never rfl (pi_list (pv 3)) (pg_name (i:=5) sc_reached.nd rfl (Or.inl rfl))
        (pss_one (ps_for PassesOwn.never rfl (pi_list (pv 1)) (pg_name (i:=6) sc_reached.nd rfl (Or.inl rfl))
        (pss_one (ps_if (PW.pt (pw_and (pt_cmp (pc_dnotin hu (pv 6) (pv 2))) (pw_and1 (pt_cmpR op_gt (pe_dget2 hu (pv 0) (pe_tup (pa_cons (pv 5) (pa_cons (pv 6) pa_nil))) pe_int ⟨rfl,rfl,rfl,rfl⟩) pe_int (nomark _))))) (pss_cons (ps_dput hu (pv 2) (pv 6) (pv 5) rfl)
      (pss_one (ps_expr (pe_bm PySem.F.plainAttrs_list PySem.F.slot_list_append PySem.F.type_list_append mt_append (pv 4) (pa_cons (pv 6) pa_nil))))) pss_nil)))))
      (pss_one (ps_set (i:=3) sc_reached.nd rfl (Or.inl rfl) (pv 4))))))
      (pss_one (ps_ret (pv 2)))))),?_⟩
    intro D hD
    have s0:Same H (upd H D (.dK [])):=Same.upd hD
    have d0:upd H D (.dK []) D=some (.dK ((castP []).map encP)):=upd_same
    generalize upd H D (.dK [])=H0 at s0 d0 ⊢
    refine ⟨by show 1≤sizeLine;decide,fun R0 hR0 => ?_⟩
    have s1:Same H0 (upd H0 R0 (.lst [.int 0])):=Same.upd hR0
    refine ⟨fun m σ G => ∃ (l:List (Nat × Nat)) (row:List Nat) (R:Addr) (v4 v5 v6:Option V),σ = [some (.ref a),some (.ref b),some (.ref D),some (.ref R),v4,v5,v6]∧G D=some (.dK ((castP l).map encP))∧G R=some (.lst (natL row))∧(l.map (·.1)).Nodup∧Tree c bits [] l∧(∀ y,(y=0∨y∈l.map (·.1))→y∈row∨Opened c bits l y)∧(∀ y∈row,y=0∨y∈l.map (·.1))∧Same H G∧m=2 * (bits.length-l.length)+(if row=[] then 0 else 1),
      ⟨_,[],[0],R0,none,none,none,rfl,s1 _ _ d0,upd_same,List.nodup_nil,trivial,(fun y hy => .inl (by rcases hy with e | e;exact List.mem_singleton.mpr e;cases e)),(fun y hy => .inl (List.mem_singleton.mp hy)),s0.trans s1,rfl⟩,?_⟩
    rintro m σ G ⟨l,row,R,v4,v5,v6,rfl,g1,g2,g3,g4,g5,g6,sG,hm⟩
    refine ⟨_,rfl,_,.inl ⟨_,SqL.of g2,rfl⟩,?_⟩
    have hlb:l.length≤bits.length:=by
      have:=nodup_le g3 fun x hx=>Tree.sub g4 x hx
      rwa [List.length_map] at this
    by_cases hne:row=[]
    · refine iteN (by rw [hne];decide) ?_
      subst hne
      have ho:∀ y,(y=0∨y∈l.map (·.1))→Opened c bits l y:=fun y hy=>(g5 y hy).resolve_left (by simp)
      exact ⟨_,rfl,q D l G hD g1 g3 g4 (ho 0 (.inl rfl)) (fun x hx=>ho x (.inr hx)) sG⟩
    refine iteY (by
      have:natL row≠[]:=fun z=>hne (List.map_eq_nil_iff.mp z)
      simpa using this) ?_
    rw [if_neg hne] at hm
    refine ⟨_,fun σ' G' z=>z,?_⟩
    refine ⟨Nat.zero_le _,fun F hF => ?_⟩
    have s2:Same G (upd G F (.lst [])):=Same.upd hF
    have f2:upd G F (.lst []) F=some (.lst (natL [])):=upd_same
    have hFD:F≠D:=ne_of_none' g1 hF
    have hFR:F≠R:=ne_of_none' g2 hF
    have hRD:R≠D:=fun z=>by rw [z,g1] at g2;cases g2
    have hF0:H F=none:=sG.free hF
    have g1':=s2 _ _ g1
    have g2':=s2 _ _ g2
    have sG':=sG.trans s2
    generalize upd G F (.lst [])=G0 at f2 g1' g2' sG' ⊢
    refine ⟨_,rfl,R,rfl,⟨_,SqL.of g2'⟩,?_⟩
    refine for_list (K:=K) (a:=R) (xs:=natL row) (fun i σ G2 => ∃ (l2:List (Nat × Nat)) (af:List Nat) (v5 v6:Option V),σ = [some (.ref a),some (.ref b),some (.ref D),some (.ref R),some (.ref F),v5,v6]∧G2 D=some (.dK ((castP l2).map encP))∧G2 F=some (.lst (natL af))∧G2 R=some (.lst (natL row))∧(l2.map (·.1)).Nodup∧Tree c bits [] l2∧l2.length=l.length+af.length∧(∀ y∈l.map (·.1),y∈l2.map (·.1))∧(∀ y∈af,y∈l2.map (·.1))∧(∀ y,(y=0∨y∈l2.map (·.1))→y∈af∨y∈row.drop i∨Opened c bits l2 y)∧Same H G2)
      ⟨l,[],_,_,rfl,g1',f2,g2',g3,g4,rfl,(fun y h=>h),(fun y h=>by cases h),(fun y hy => .inr (g5 y hy)),sG'⟩ (fun i σ G2 _ ⟨_,_,_,_,_,_,_,e,_⟩=>SqL.of e) ?_ ?_
    · rintro i y0 σ G2 hi ⟨l2,af,v5,v6,rfl,k1,k2,k3,k4,k5,k6,k7,k8,k9,sG2⟩
      obtain ⟨x0,hx0,rfl⟩:=at_nat hi
      have hx0m:=List.mem_of_getElem? hx0
      have hdr:row.drop i=x0 :: row.drop (i+1):=by
        obtain ⟨h1,h2⟩:=List.getElem?_eq_some_iff.mp hx0
        rw [List.drop_eq_getElem_cons h1,h2]
      have hx0k:=g6 x0 hx0m
      refine ⟨_,rfl,b,rfl,⟨_,SqL.of (sG2 _ _ hb)⟩,?_⟩
      refine for_list (K:=K) (a:=b) (xs:=natL bits) (fun j σ G3 => ∃ (l3:List (Nat × Nat)) (af:List Nat) (v6:Option V),σ = [some (.ref a),some (.ref b),some (.ref D),some (.ref R),some (.ref F),some (.int (x0:Int)),v6]∧G3 D=some (.dK ((castP l3).map encP))∧G3 F=some (.lst (natL af))∧G3 R=some (.lst (natL row))∧(l3.map (·.1)).Nodup∧Tree c bits [] l3∧l3.length=l.length+af.length∧(∀ y∈l.map (·.1),y∈l3.map (·.1))∧(∀ y∈af,y∈l3.map (·.1))∧(∀ y,(y=0∨y∈l3.map (·.1))→y∈af∨y∈row.drop i∨Opened c bits l3 y)∧(∀ x∈bits.take j,0<getP c (x0,x)→x∈l3.map (·.1))∧Same H G3)
        ⟨l2,af,_,rfl,k1,k2,k3,k4,k5,k6,k7,k8,k9,(fun x hx=>by cases hx),sG2⟩ (fun j σ G3 _ ⟨_,_,_,_,_,_,_,_,_,_,_,_,_,_,e⟩=>SqL.of (e _ _ hb)) ?_ ?_
      · rintro j y1 σ G3 hj ⟨l3,af,v6,rfl,n1,n2,n3,n4,n5,n6,n7,n8,n9,n10,sG3⟩
        obtain ⟨x,hx,rfl⟩:=at_nat hj
        have hxm:=List.mem_of_getElem? hx
        have htk:bits.take (j+1)=bits.take j ++ [x]:=by rw [List.take_add_one,hx];rfl
        have hl3:l3.length≤bits.length:=by
          have:=nodup_le n4 fun z hz=>Tree.sub n5 z hz
          rwa [List.length_map] at this
        by_cases hin:x∈l3.map (·.1)
        · obtain ⟨e,he,rfl⟩:=List.mem_map.mp hin
          refine ⟨_,rfl,_,rfl,D,some (.int (e.2:Int)),rfl,cget_in (.inl n1) n4 (show (e.1,e.2)∈l3 from he),_,rfl,iteN (by simp) (iteF ?_)⟩
          refine ⟨l3,af,_,rfl,n1,n2,n3,n4,n5,n6,n7,n8,n9,fun z hz hg => ?_,sG3⟩
          rw [htk] at hz
          rcases List.mem_append.mp hz with y | y
          · exact n10 z y hg
          · rw [List.mem_singleton.mp y];exact hin
        · refine ⟨_,rfl,_,rfl,D,none,rfl,cget_out (.inl n1) hin,_,rfl,iteY (by decide) ?_⟩
          refine ⟨_,rfl,a,rfl,.inr ⟨_,.inl (sG3 _ _ ha)⟩,_,rfl,_,rfl,(by show 2≤sizeLine;decide),fun d hd => ?_⟩
          have b1:Same G3 (upd G3 d (.tup [.int (x0:Int),.int (x:Int)])):=Same.upd hd
          have w1:upd G3 d (.tup [.int (x0:Int),.int (x:Int)]) d=some (.tup [.int (((x0,x) : Nat × Nat).1:Int),.int (((x0,x) : Nat × Nat).2:Int)]):=upd_same
          generalize upd G3 d (.tup [.int (x0:Int),.int (x:Int)])=G4 at b1 w1 ⊢
          obtain ⟨o,ho,eo⟩:=qget0 (b1 _ _ (sG3 _ _ ha)) w1
          refine ⟨o,ho,?_⟩
          rw [eo]
          refine ⟨_,_,rfl,rfl,_,rfl,?_⟩
          refine ite2 (fun hg => ?_) (fun hg => ?_)
          · have hg' : 0<getP c (x0,x):=of_decide_eq_true hg
            refine ⟨_,rfl,_,rfl,_,rfl,D,_,rfl,DPut.k (k:=Sum.inl (x:Int)) (b1 _ _ n1) (by rw [List.length_map];unfold castP;rw [List.length_map];exact small6 (by omega)),?_⟩
            have e1:putK ((castP l3).map encP) (Sum.inl (x:Int) : Key) (V.int (x0:Int))=(castP (l3 ++ [(x,x0)])).map encP:=by rw [putK_enc,put_cast hin]
            rw [e1]
            have w2:upd G4 D (.dK ((castP (l3 ++ [(x,x0)])).map encP)) D=some (.dK ((castP (l3 ++ [(x,x0)])).map encP)):=upd_same
            have w3:upd G4 D (.dK ((castP (l3 ++ [(x,x0)])).map encP)) F=some (.lst (natL af)):=by rw [upd_ne hFD];exact b1 _ _ n2
            have w4:upd G4 D (.dK ((castP (l3 ++ [(x,x0)])).map encP)) R=some (.lst (natL row)):=by rw [upd_ne hRD];exact b1 _ _ n3
            have sG4:=(sG3.trans b1).write (o := .dK ((castP (l3 ++ [(x,x0)])).map encP)) hD
            generalize upd G4 D (.dK ((castP (l3 ++ [(x,x0)])).map encP))=G5 at w2 w3 w4 sG4 ⊢
            refine ⟨_,rfl,.inl ⟨rfl,_,SqL.of w3⟩,_,rfl,F,_,_,rfl,rfl,w3,(by rw [natL_len];exact small6 (by omega)),?_⟩
            have hk2:∀ z,z∈(l3 ++ [(x,x0)]).map (·.1)↔z∈l3.map (·.1)∨z=x:=fun z=>by rw [List.map_append,List.mem_append];exact or_congr Iff.rfl List.mem_singleton
            refine ⟨l3 ++ [(x,x0)],af ++ [x],_,rfl,(by rw [upd_ne hFD.symm];exact w2),(by rw [upd_same,natL_app];rfl),(by rw [upd_ne hFR.symm];exact w4),?_,?_,?_,fun z hz=>(hk2 z).mpr (.inl (n7 z hz)),fun z hz => ?_,fun z hz => ?_,fun z hz hgz => ?_,sG4.write hF0⟩
            · rw [List.map_append,List.nodup_append]
              exact ⟨n4,List.pairwise_singleton _ _,fun u hu v hv w=>hin (by have hv':v=x:=List.mem_singleton.mp hv;rw [← hv',← w];exact hu)⟩
            · refine Tree.snoc n5 hxm hg' ?_
              rcases hx0k with e | e
              · exact .inl e
              · exact .inr (by rw [List.nil_append];exact n7 x0 e)
            · rw [List.length_append,List.length_append,n6,Nat.add_assoc];rfl
            · rcases List.mem_append.mp hz with y | y
              · exact (hk2 z).mpr (.inl (n8 z y))
              · exact (hk2 z).mpr (.inr (List.mem_singleton.mp y))
            · rcases hz with e | e
              · rcases n9 z (.inl e) with y | y | y
                · exact .inl (List.mem_append_left _ y)
                · exact .inr (.inl y)
                · exact .inr (.inr (y.more _))
              · rcases (hk2 z).mp e with e | e
                · rcases n9 z (.inr e) with y | y | y
                  · exact .inl (List.mem_append_left _ y)
                  · exact .inr (.inl y)
                  · exact .inr (.inr (y.more _))
                · exact .inl (List.mem_append_right _ (List.mem_singleton.mpr e))
            · rw [htk] at hz
              rcases List.mem_append.mp hz with y | y
              · exact (hk2 z).mpr (.inl (n10 z y hgz))
              · exact (hk2 z).mpr (.inr (List.mem_singleton.mp y))
          · refine ⟨l3,af,_,rfl,b1 _ _ n1,b1 _ _ n2,b1 _ _ n3,n4,n5,n6,n7,n8,n9,fun z hz hgz => ?_,sG3.trans b1⟩
            rw [htk] at hz
            rcases List.mem_append.mp hz with y | y
            · exact n10 z y hgz
            · rw [List.mem_singleton.mp y] at hgz
              exact absurd (decide_eq_true hgz) hg
      · rintro σ G3 ⟨l3,af,v6,rfl,n1,n2,n3,n4,n5,n6,n7,n8,n9,n10,sG3⟩
        rw [natL_len,List.take_length] at n10
        refine ⟨l3,af,_,_,rfl,n1,n2,n3,n4,n5,n6,n7,n8,fun y hy => ?_,sG3⟩
        rcases n9 y hy with z | z | z
        · exact .inl z
        · rw [hdr] at z
          rcases List.mem_cons.mp z with e | e
          · rw [e];exact .inr (.inr n10)
          · exact .inr (.inl e)
        · exact .inr (.inr z)
    · rintro σ G2 ⟨l2,af,v5,v6,rfl,k1,k2,k3,k4,k5,k6,k7,k8,k9,sG2⟩
      rw [natL_len] at k9
      have hl2:l2.length≤bits.length:=by
        have:=nodup_le k4 fun z hz=>Tree.sub k5 z hz
        rwa [List.length_map] at this
      refine ⟨_,rfl,2 * (bits.length-l2.length)+(if af=[] then 0 else 1),?_,l2,af,F,_,_,_,rfl,k1,k2,k4,k5,fun y hy => ?_,fun y hy => .inr (k8 y hy),sG2,rfl⟩
      · rw [hm]
        by_cases e:af=[]
        · rw [if_pos e]
          have:af.length=0:=by rw [e];rfl
          omega
        · rw [if_neg e]
          have:af.length≠0:=fun z=>e (List.eq_nil_of_length_eq_zero z)
          omega
      · rcases k9 y hy with z | z | z
        · exact .inl z
        · rw [List.drop_eq_nil_of_le (Nat.le_refl _)] at z;cases z
        · exact .inr z
structure Way (c:Caps) (bits:List Nat) (w:List (Nat × Nat)) : Prop where
  ends:∃ x r,w=(x,0) :: r∧x∈bits∧ChainTo x r 0∧(∀ e∈r,e.2∈bits∧(e.1=0∨e.1∈bits)∧0<getP c e)∧(∀ e∈r.dropLast,e.1≠0)
  once:(w.map (·.2)).Nodup
def spWayTo (K:PySem.W.Frag) : Sp:=fun vs H Q _ => ∃ (x:Nat) (a:Addr) (c:Caps) (bits:List Nat) (l:List (Nat × Nat)),vs=[.int (x:Int),.ref a]∧Rd H a (.dK ((castP l).map encP))∧(l.map (·.1)).Nodup∧Tree c bits [] l∧l.length≤1000∧x∈l.map (·.1)∧0 ∉ bits∧x∈bits ∧
  ∀ (D:Addr) (w:List (Nat × Nat)) (H':Hp),H D=none→Prs H' D w→Way c bits w→w.head? = some (x,0)→Same H H'→Q (.ref D) H'
theorem _root_.L2.Same.rd {H H':Hp}{a:Addr}{u:HO} (k:Same H H') (h:Rd H a u) : Rd H' a u:=h.imp (fun e=>k _ _ e) fun ⟨o,e⟩=>⟨o,k _ _ e⟩
theorem split_at {l:List (Nat × Nat)}{x:Nat} (h:x∈l.map (·.1)) : ∃ l1 y l2,l=l1++(x,y) :: l2:=by
  obtain ⟨e,he,rfl⟩:=List.mem_map.mp h
  obtain ⟨s,t,e2⟩:=List.append_of_mem he
  exact ⟨s,e.2,t,e2⟩
theorem sc_way_to:FnScope ["bit", "ahead", "way"] ["bit", "ahead"] (defScope s_way_to):=⟨rfl,rfl,rfl,by decide +kernel,rfl,by decide +kernel,by decide +kernel⟩
theorem ok_way_to (T:Txt K mg) : FnOk P w K mg base CX0 1 T.a_way_to T.fd_way_to ["bit", "ahead"] (spWayTo K):=by
  refine T.d_way_to.F.ok sc_way_to (fun vs H Q E h => ?_) (fun cdv A outer s H vs Q E hr h => ?_)
  · obtain ⟨x0,a,c,bits,l,rfl,ha,hn,ht,hln,hx0,hb0,hb1,q⟩:=h;rfl
  · obtain ⟨x0,a,c,bits,l,rfl,ha,hn,ht,hln,hx0,hb0,hb1,q⟩:=h
    have hu:=hu_of hr
    refine ⟨_,(pss_cons (ps_set (i:=2) sc_way_to.nd rfl (Or.inl rfl) (pe_lst (pa_cons (pe_tup (pa_cons (pv 0) (pa_cons pe_int pa_nil))) pa_nil)))
      (pss_cons (ps_while PassesOwn.never (pt_cmpR op_ne (pv 0) pe_int (nomark _)) (pss_cons (ps_expr (pe_bm PySem.F.plainAttrs_list PySem.F.slot_list_append PySem.F.type_list_append mt_append (pv 2) (pa_cons (pe_tup (pa_cons (pe_dget hu (pv 1) (pv 0) (fun _ _=>rfl)) (pa_cons (pv 0) pa_nil))) pa_nil)))
      (pss_one (ps_set (i:=0) sc_way_to.nd rfl (Or.inl rfl) (pe_dget hu (pv 1) (pv 0) (fun _ _=>rfl))))))
      (pss_one (ps_ret (pv 2))))),?_⟩
    refine ⟨_,rfl,(by show 2≤sizeLine;decide),fun t0 ht0=>⟨(by show 1≤sizeLine;decide),fun D hD => ?_⟩⟩
    have s0:Same H (upd H t0 (.tup [.int (x0:Int),.int 0])):=Same.upd ht0
    have s1:Same (upd H t0 (.tup [.int (x0:Int),.int 0])) (upd (upd H t0 (.tup [.int (x0:Int),.int 0])) D (.lst [.ref t0])):=Same.upd hD
    have hD0:H D=none:=s0.free hD
    have p0:Prs (upd (upd H t0 (.tup [.int (x0:Int),.int 0])) D (.lst [.ref t0])) D [(x0,0)]:=⟨[t0],upd_same,.cons (s1 _ _ upd_same) .nil⟩
    have s01:=s0.trans s1
    generalize upd (upd H t0 (.tup [.int (x0:Int),.int 0])) D (.lst [.ref t0])=H0 at p0 s01 ⊢
    have hx00:x0≠0:=fun z=>hb0 (by rw [← z];exact hb1)
    obtain ⟨i1,y0,i2,ei⟩:=split_at hx0
    refine ⟨fun m σ G => ∃ (x:Nat) (r:List (Nat × Nat)),σ = [some (.int (x:Int)),some (.ref a),some (.ref D)]∧Prs G D ((x0,0) :: r)∧ChainTo x0 r x∧(∀ e∈r,e.2∈bits∧0<getP c e)∧(∀ e∈r.dropLast,e.1≠0∧e.1∈bits)∧(∀ e∈r,e.1=0→x=0)∧(∀ e∈r,e.1=0∨e.1∈bits)∧(((x0,0) :: r).map (·.2)).Nodup∧r.length≤l.length∧Same H G ∧
        ((x=0∧m=0)∨∃ l1 y l2,l=l1++(x,y) :: l2∧m=l1.length+1∧(∀ t∈((x0,0) :: r).map (·.2),t=0∨t∈l2.map (·.1))∧r.length+l1.length+1≤l.length),
      ⟨i1.length+1,x0,[],rfl,p0,rfl,(fun e he=>by cases he),(fun e he=>by cases he),(fun e he=>by cases he),(fun e he=>by cases he),List.pairwise_singleton _ _,Nat.zero_le _,s01,.inr ⟨i1,y0,i2,ei,rfl,(fun t h => .inl (List.mem_singleton.mp h)),by rw [ei,List.length_append,List.length_cons];show 0+i1.length+1≤_;omega⟩⟩,?_⟩
    rintro m σ G ⟨x,r,rfl,g1,g2,g3,g4,g4b,g4c,g5,g6,sG,g7⟩
    refine ⟨_,rfl,rfl,_,rfl,?_⟩
    show if (!decide (V.int (x:Int)=V.int 0))=true then _ else _
    rcases g7 with ⟨rfl,rfl⟩ | ⟨l1,y,l2,e1,rfl,e3,e4⟩
    · refine iteN (by simp) ?_
      exact ⟨_,rfl,q D _ G hD0 g1 ⟨⟨x0,r,rfl,hb1,g2,fun e he=>⟨(g3 e he).1,g4c e he,(g3 e he).2⟩,fun e he=>(g4 e he).1⟩,g5⟩ rfl sG⟩
    · have hxm:(x,y)∈l:=by rw [e1];exact List.mem_append_right _ (List.mem_cons_self ..)
      obtain ⟨a1,a2,a3⟩:=Tree.at (by rw [← e1];exact ht:Tree c bits [] (l1++(x,y) :: l2))
      rw [List.nil_append] at a3
      have hx0':x≠0:=fun z=>hb0 (by rw [← z];exact a1)
      refine iteY (by simp;omega) ?_
      refine ⟨_,fun σ' G' z=>z,?_⟩
      obtain ⟨ps,p1,p2⟩:=id g1
      have hpl:ps.length=r.length+1:=Paired.length p2
      have hdg:=cget_in (sG.rd ha) hn hxm
      refine ⟨_,rfl,.inl ⟨rfl,_,SqL.of p1⟩,_,rfl,_,rfl,a,_,rfl,hdg,_,rfl,(by show 2≤sizeLine;decide),fun d hd => ?_⟩
      have b1:Same G (upd G d (.tup [.int (y:Int),.int (x:Int)])):=Same.upd hd
      have w1:upd G d (.tup [.int (y:Int),.int (x:Int)]) d=some (.tup [.int (y:Int),.int (x:Int)]):=upd_same
      generalize upd G d (.tup [.int (y:Int),.int (x:Int)])=G1 at b1 w1 ⊢
      have p1':=b1 _ _ p1
      refine ⟨D,_,_,rfl,rfl,p1',(by rw [List.length_map,hpl];exact small6 (by omega)),?_⟩
      have sG1:=(sG.trans b1).write (o := .lst (ps.map V.ref ++ [.ref d])) hD0
      have gP:Prs (upd G1 D (.lst (ps.map V.ref ++ [.ref d]))) D ((x0,0) :: (r ++ [(y,x)])):=by
        refine ⟨ps ++ [d],by rw [upd_same,List.map_append];rfl,?_⟩
        have h1:Paired (fun p (k:Nat × Nat)=>G1 p=some (.tup [.int (k.1:Int),.int (k.2:Int)])) (ps ++ [d]) (((x0,0) :: r) ++ [(y,x)]):=paired_snoc (Paired.mapP p2 fun _ _ e=>b1 _ _ e) w1
        exact Paired.mapP h1 fun p k e=>by rw [upd_ne (ne_of e p1' (by intro w;cases w))];exact e
      generalize upd G1 D (.lst (ps.map V.ref ++ [.ref d]))=G2 at sG1 gP ⊢
      have hdg2:=cget_in (sG1.rd ha) hn hxm
      refine ⟨_,rfl,_,rfl,a,_,rfl,hdg2,?_⟩
      have hnd:(l.map (·.1)).Nodup:=hn
      rw [e1,List.map_append,List.map_cons,List.nodup_append,List.nodup_cons] at hnd
      have hxn:∀ t∈((x0,0) :: r).map (·.2),t≠x:=fun t ht z=>by
        rcases e3 t ht with e | e
        · exact hx0' (by rw [← z];exact e)
        · exact hnd.2.1.1 (by rw [← z];exact e)
      have hnz:∀ e∈r,e.1≠0:=fun e he z=>hx0' (g4b e he z)
      have common:(∀ e∈r ++ [(y,x)],e.2∈bits∧0<getP c e)∧(∀ e∈(r ++ [(y,x)]).dropLast,e.1≠0∧e.1∈bits)∧(((x0,0) :: (r ++ [(y,x)])).map (·.2)).Nodup:=by
        refine ⟨fun e he => ?_,fun e he => ?_,?_⟩
        · rcases List.mem_append.mp he with z | z
          · exact g3 e z
          · rw [List.mem_singleton.mp z];exact ⟨a1,a2⟩
        · rw [List.dropLast_concat] at he
          exact ⟨hnz e he,(g4c e he).resolve_left (hnz e he)⟩
        · show ((((x0,0) :: r) ++ [(y,x)]).map (·.2)).Nodup
          rw [List.map_append,List.nodup_append]
          exact ⟨g5,List.pairwise_singleton _ _,fun u hu v hv z=>hxn u hu (by rw [z];exact List.mem_singleton.mp hv)⟩
      have hyb:y=0∨y∈bits:=a3.imp id fun z=>Tree.sub ht y (by rw [e1,List.map_append];exact List.mem_append_left _ z)
      have hc:∀ e∈r ++ [(y,x)],e.1=0∨e.1∈bits:=fun e he=>by
        rcases List.mem_append.mp he with z | z
        · exact g4c e z
        · rw [List.mem_singleton.mp z];exact hyb
      have hlr:r.length+1≤l.length:=by omega
      rcases a3 with e | e
      · subst e
        refine ⟨0,Nat.succ_pos _,0,r ++ [(0,x)],rfl,gP,ChainTo.snoc g2,common.1,common.2.1,(fun _ _ _=>rfl),hc,common.2.2,by rw [List.length_append];exact hlr,sG1,.inl ⟨rfl,rfl⟩⟩
      · obtain ⟨j1,z,j2,ej⟩:=split_at e
        have hy0:y≠0:=fun w=>hb0 (by rw [← w];exact hyb.resolve_left (fun v=>by
          have:y∈bits:=Tree.sub ht y (by rw [e1,List.map_append];exact List.mem_append_left _ e)
          exact hb0 (by rw [← v];exact this)))
        refine ⟨j1.length+1,by rw [ej,List.length_append,List.length_cons];omega,y,r ++ [(y,x)],rfl,gP,ChainTo.snoc g2,common.1,common.2.1,fun e' he' hz => ?_,hc,common.2.2,by rw [List.length_append];exact hlr,sG1,.inr ⟨j1,z,j2++(x,y) :: l2,by rw [e1,ej,List.append_assoc];rfl,rfl,fun t htm => ?_,?_⟩⟩
        · rcases List.mem_append.mp he' with w | w
          · exact absurd hz (hnz e' w)
          · rw [List.mem_singleton.mp w] at hz;exact absurd hz hy0
        · have htm':t∈((((x0,0) :: r) ++ [(y,x)]).map (·.2)):=htm
          rw [List.map_append] at htm'
          rcases List.mem_append.mp htm' with w | w
          · exact (e3 t w).imp id fun v=>by rw [List.map_append,List.map_cons];exact List.mem_append_right _ (List.mem_cons_of_mem _ v)
          · right;rw [List.map_append,List.map_cons,List.mem_singleton.mp w];exact List.mem_append_right _ (List.mem_cons_self ..)
        · have hl1:=congrArg List.length ej
          rw [List.length_append,List.length_cons] at hl1
          rw [List.length_append,List.length_singleton]
          omega
def spOpenWay (K:PySem.W.Frag) : Sp:=fun vs H Q _ => ∃ (a b:Addr) (c:Caps) (bits:List Nat),vs=[.ref a,.ref b]∧H a=some (.dT (c.map encQ))∧H b=some (.lst (natL bits))∧bits.length≤1000∧0 ∉ bits ∧
  ∀ (D:Addr) (H':Hp),H D=none→((H' D=some (.lst [])∧∃ l:List (Nat × Nat),Opened c bits l 0∧(∀ x∈l.map (·.1),Opened c bits l x)∧∀ x∈l.map (·.1),getP c (x,0)≤0)∨∃ w,Prs H' D w∧Way c bits w∧∀ e∈w,0<getP c e)→Same H H'→Q (.ref D) H'
theorem sc_open_way:FnScope ["products", "bits", "ahead", "bit"] ["products", "bits"] (defScope s_open_way):=⟨rfl,rfl,rfl,by decide +kernel,rfl,by decide +kernel,by decide +kernel⟩
theorem ok_open_way (T:Txt K mg) : FnOk P w K mg base CX0 2 T.a_open_way T.fd_open_way ["products", "bits"] (spOpenWay K):=by
  refine T.d_open_way.F.ok sc_open_way (fun vs H Q E h => ?_) (fun cdv A outer s H vs Q E hr h => ?_)
  · obtain ⟨a,b,c,bits,rfl,ha,hb,hbl,hb0,q⟩:=h;rfl
  · obtain ⟨a,b,c,bits,rfl,ha,hb,hbl,hb0,q⟩:=h
    have hu:=hu_of hr
    refine ⟨_,(pss_cons (ps_set (i:=2) sc_open_way.nd rfl (Or.inl rfl) (pe_call (ok_reached (P:=P) (w:=w) (base:=base) T) hr (by rfl) T.d_reached.m T.d_reached.F.kp T.d_reached.b .nil pass0 (pa_cons (pv 0) (pa_cons (pv 1) pa_nil))))
      (pss_cons (ps_for PassesOwn.never rfl (pi_dictF (pv 2)) (pg_name (i:=3) sc_open_way.nd rfl (Or.inl rfl))
        (pss_one (ps_if (pt_cmpR op_gt (pe_dget2 hu (pv 0) (pe_tup (pa_cons (pv 3) (pa_cons pe_int pa_nil))) pe_int ⟨rfl,rfl,rfl,rfl⟩) pe_int (nomark _)) (pss_one (ps_ret (pe_call (ok_way_to (P:=P) (w:=w) (base:=base) T) hr (by rfl) T.d_way_to.m T.d_way_to.F.kp T.d_way_to.b .nil pass0 (pa_cons (pv 3) (pa_cons (pv 2) pa_nil))))) pss_nil)))
      (pss_one (ps_ret (pe_lst pa_nil))))),?_⟩
    refine ⟨_,rfl,_,rfl,a,b,c,bits,rfl,ha,hb,hbl,hb0,fun A l H1 hA hA1 hn ht h0 hop s1 => ?_⟩
    have hlb:l.length≤bits.length:=by
      have:=nodup_le hn fun x hx=>Tree.sub ht x hx
      rwa [List.length_map] at this
    refine ⟨_,rfl,A,castP l,rfl,hA1,fun o => ?_⟩
    have w0:upd H1 A (.frz o (.dK ((castP l).map encP))) A=some (.frz o (.dK ((castP l).map encP))):=upd_same
    have s2:Same H (upd H1 A (.frz o (.dK ((castP l).map encP)))):=s1.write hA
    generalize upd H1 A (.frz o (.dK ((castP l).map encP)))=H2 at w0 s2 ⊢
    refine for_dict (a:=A) (o:=o) (l:=castP l) (fun i σ G => ∃ v3:Option V,σ = [some (.ref a),some (.ref b),some (.ref A),v3]∧(∀ e∈l.take i,getP c (e.1,0)≤0)∧Same H2 G)
      ⟨none,rfl,(fun e he=>by cases he),Same.refl _⟩ (fun i σ G _ ⟨_,_,_,e⟩=>e _ _ w0) ?_ ?_
    · rintro i t σ G hi ⟨v3,rfl,g1,sG⟩
      obtain ⟨e,he,rfl⟩ : ∃ e,l[i]? = some e∧t=((e.1:Int),(e.2:Int)):=by
        unfold castP at hi
        rw [List.getElem?_map] at hi
        cases e:l[i]? with
        | none=>rw [e] at hi;cases hi
        | some x=>rw [e] at hi;exact ⟨x,rfl,(Option.some.inj hi).symm⟩
      have hem:e.1∈l.map (·.1):=List.mem_map.mpr ⟨e,List.mem_of_getElem? he,rfl⟩
      refine ⟨_,rfl,a,rfl,.inr ⟨_,.inl (sG _ _ (s2 _ _ ha))⟩,_,rfl,(by show 2≤sizeLine;decide),fun d hd => ?_⟩
      have b1:Same G (upd G d (.tup [.int (e.1:Int),.int 0])):=Same.upd hd
      have w1:upd G d (.tup [.int (e.1:Int),.int 0]) d=some (.tup [.int (((e.1,0) : Nat × Nat).1:Int),.int (((e.1,0) : Nat × Nat).2:Int)]):=upd_same
      generalize upd G d (.tup [.int (e.1:Int),.int 0])=G1 at b1 w1 ⊢
      have S1:=sG.trans b1
      obtain ⟨o',ho,eo⟩:=qget0 (S1 _ _ (s2 _ _ ha)) w1
      refine ⟨o',ho,?_⟩
      rw [eo]
      refine ⟨_,_,rfl,rfl,_,rfl,?_⟩
      refine ite2 (fun hg => ?_) (fun hg => ?_)
      · have hg' : 0<getP c (e.1,0):=of_decide_eq_true hg
        refine ⟨_,rfl,_,rfl,e.1,A,c,bits,l,rfl,.inr ⟨o,S1 _ _ w0⟩,hn,ht,by omega,hem,hb0,Tree.sub ht _ hem,fun D w H3 hD hP hW hh s3 => ?_⟩
        refine q D H3 ((s2.trans S1).free hD) (.inr ⟨w,hP,hW,fun e' he' => ?_⟩) ((s2.trans S1).trans s3)
        obtain ⟨x,r,ew,_,_,hr,_⟩:=hW.ends
        subst ew
        have ex:x=e.1:=by
          have:=Option.some.inj hh
          exact congrArg Prod.fst this
        rcases List.mem_cons.mp he' with z | z
        · rw [z,ex];exact hg'
        · exact (hr e' z).2.2
      · refine ⟨_,rfl,fun e' he' => ?_,S1⟩
        rw [List.take_add_one,he] at he'
        rcases List.mem_append.mp he' with z | z
        · exact g1 e' z
        · have ee:e'=e:=by simpa using z
          rw [ee]
          rcases (by omega:getP c (e.1,0)≤0∨0<getP c (e.1,0)) with y | y
          · exact y
          · exact absurd (decide_eq_true y) hg
    · rintro σ G ⟨v3,rfl,g1,sG⟩
      have el:(castP l).length=l.length:=by unfold castP;rw [List.length_map]
      rw [el,List.take_length] at g1
      refine ⟨Nat.zero_le _,fun D hD => ?_⟩
      exact q D _ ((s2.trans sG).free hD) (.inl ⟨upd_same,l,h0,hop,fun x hx=>by obtain ⟨e,he,rfl⟩:=List.mem_map.mp hx;exact g1 e he⟩) ((s2.trans sG).trans (Same.upd hD))
def spBits:Sp:=fun vs H Q _ => ∃ (g m:Nat),vs=[.int (g:Int),.int (m:Int)]∧m≤100000 ∧
  ∀ (D:Addr) (H':Hp),H D=none→H' D=some (.lst (((List.range m).map fun i:Nat=>((g / 2^i % 2:Nat) : Int)).map V.int))→Same H H'→Q (.ref D) H'
theorem sc_bits_of:FnScope ["given", "many", "bits", "k"] ["given", "many"] (defScope s_bits_of):=⟨rfl,rfl,rfl,by decide +kernel,rfl,by decide +kernel,by decide +kernel⟩
theorem ok_bits_of (T:Txt K mg) : FnOk P w K mg base CX0 1 T.a_bits_of T.fd_bits_of ["given", "many"] spBits:=by
  refine T.d_bits_of.F.ok sc_bits_of (fun vs H Q E h => ?_) (fun cdv A outer s H vs Q E hr h => ?_)
  · obtain ⟨g,m,rfl,hm,q⟩:=h;rfl
  · obtain ⟨g,m,rfl,hm,q⟩:=h
    have hu:=hu_of hr
    refine ⟨_,(pss_cons (ps_set (i:=2) sc_bits_of.nd rfl (Or.inl rfl) (pe_lst pa_nil))
      (pss_cons (ps_for PassesOwn.never rfl (pi_range1 rfl T.n_range (pa_cons (pv 1) pa_nil)) (pg_name (i:=3) sc_bits_of.nd rfl (Or.inl rfl))
        (pss_cons (ps_expr (pe_bm PySem.F.plainAttrs_list PySem.F.slot_list_append PySem.F.type_list_append mt_append (pv 2) (pa_cons (pe_op op_mod (pv 0) pe_int) pa_nil)))
      (pss_one (ps_set (i:=0) sc_bits_of.nd rfl (Or.inl rfl) (pe_op op_fdivG (pv 0) pe_int)))))
      (pss_one (ps_ret (pv 2))))),?_⟩
    refine ⟨Nat.zero_le _,fun D hD => ?_⟩
    refine ⟨_,rfl,(m:Int),rfl,by omega,by omega,for_range (n:=m) (fun i σ H2 => ∃ v3:Option V,σ = [some (.int ((g / 2^i:Nat) : Int)),some (.int (m:Int)),some (.ref D),v3]∧H2=upd H D (.lst (((List.range i).map fun i:Nat=>((g / 2^i % 2:Nat) : Int)).map V.int))) ⟨none,?_,rfl⟩ ?_ ?_⟩
    · rw [Nat.pow_zero,Nat.div_one];rfl
    · rintro i σ H2 hi ⟨v3,rfl,rfl⟩
      refine ⟨_,rfl,.inl ⟨rfl,_,SqL.of upd_same⟩,_,rfl,_,_,rfl,rfl,(by show (0:Int)<2;decide),D,_,_,rfl,rfl,upd_same,(by rw [List.length_map,List.length_map,List.length_range];exact small6 (by omega)),?_⟩
      refine ⟨_,rfl,_,_,rfl,rfl,⟨by decide,by decide⟩,some (.int (0+(i:Int))),?_,?_⟩
      · show [some (V.int (((g / 2^i:Nat) : Int) / 2)),_,_,_]=_
        rw [show ((g / 2^i:Nat) : Int) / 2=((g / 2^(i+1) : Nat) : Int) by rw [Nat.pow_succ,← Nat.div_div_eq_div_mul];norm_cast]
      · rw [upd_upd,List.range_succ,List.map_append,List.map_append];rfl
    · rintro σ H2 ⟨v3,rfl,rfl⟩
      exact ⟨_,rfl,q D _ hD upd_same (Same.upd hD)⟩
def spListed (K:PySem.W.Frag) : Sp:=fun vs H Q _ => ∃ (a:Nat),vs=[.int (a:Int)]∧a<2^1000 ∧
  ∀ (D:Addr) (H':Hp),H D=none→H' D=some (.lst (((lst a).map fun k:Nat=>(k:Int)).map V.int))→Same H H'→Q (.ref D) H'
theorem sc_listed:FnScope ["members"] ["members"] (defScope s_listed):=⟨rfl,rfl,rfl,by decide +kernel,rfl,by decide +kernel,by decide +kernel⟩
theorem nd_listed_1:(["k", "bit"] : List Str).Nodup:=by decide +kernel
theorem ok_listed (T:Txt K mg) : FnOk P w K mg base CX0 2 T.a_listed T.fd_listed ["members"] (spListed K):=by
  refine T.d_listed.F.ok sc_listed (fun vs H Q E h => ?_) (fun cdv A outer s H vs Q E hr h => ?_)
  · obtain ⟨a,rfl,ha,q⟩:=h;rfl
  · obtain ⟨a,rfl,ha,q⟩:=h
    have hu:=hu_of hr
    refine ⟨_,(pss_one (ps_ret (pe_comp (g:=(gTup K 2 (gCons (gName 0) (gCons (gName 1) gNil)))) ["k", "bit"] 2 [] rfl (by exact CompSc.of (defScope s_listed) ["members"] rfl rfl rfl (by decide +kernel) rfl (by decide +kernel) (by decide +kernel)) (pi_enum rfl T.n_enumerate (pa_cons (pe_call (ok_bits_of (P:=P) (w:=w) (base:=base) T) hr (by rfl) T.d_bits_of.m T.d_bits_of.F.kp T.d_bits_of.b .nil pass0 (pa_cons (pv 0) (pa_cons (pe_bm0 PySem.F.plainAttrs_int PyProof.Rows.slot_int_bit_length PyProof.Rows.type_int_bit_length mt_bit_length (pv 0)) pa_nil))) pa_nil))
        (fun cl C s₀ H₀ fp=>(pg_tup (n:=2) rfl (pgs_cons (pg_name (i:=0) nd_listed_1 rfl (Or.inl rfl) (Or.inr rfl)) (pgs_cons (pg_name (i:=1) nd_listed_1 rfl (Or.inl rfl) (Or.inr rfl)) pgs_nil)))) (fun cl C s₀ H₀ fp=>(pts_one (pt_cmpR op_eq (pv 1) pe_int (nomark _)))) (fun cl C s₀ H₀ fp=>(pv 0))))),?_⟩
    have hb:=intBits_lt ha
    refine ⟨_,rfl,_,rfl,rfl,_,rfl,rfl,a,Builtin.Int.intBits (a:Int),rfl,by omega,fun b H1 hbn hb1 s1 => ?_⟩
    refine ⟨b,rfl,⟨_,SqL.of hb1⟩,?_⟩
    refine comp_enum (K:=K) (a:=b) (xs:=((List.range (Builtin.Int.intBits (a:Int))).map fun i:Nat=>((a / 2^i % 2:Nat) : Int)).map V.int) (fun i ys σ H2 => ∃ v0 v1:Option V,σ = [v0,v1]∧ys=(((List.range i).filter fun k=>a.testBit k).map fun k:Nat=>(k:Int)).map V.int∧Same H1 H2)
      ⟨none,none,rfl,rfl,Same.refl _⟩ (fun i ys σ H2 hi ⟨_,_,_,e1,e2⟩=>⟨SqL.of (e2 _ _ hb1),by
        rw [e1,List.length_map,List.length_map];exact Nat.le_trans (List.length_filter_le _ _) (by rw [List.length_range];exact Nat.le_refl _)⟩) (by rw [List.length_map,List.length_map,List.length_range];exact Nat.le_of_lt (small6 (by omega))) ?_ ?_
    · rintro i x ys σ H2 W hi ⟨v0,v1,rfl,rfl,s2⟩ hW
      obtain ⟨n,hn,rfl⟩:=at_int hi
      rw [List.getElem?_map] at hn
      have hil:i<Builtin.Int.intBits (a:Int):=by
        rcases Nat.lt_or_ge i (Builtin.Int.intBits (a:Int)) with z | z
        · exact z
        · rw [List.getElem?_eq_none (by rw [List.length_range];exact z)] at hn;cases hn
      rw [List.getElem?_range hil] at hn
      have hn':((a / 2^i % 2:Nat) : Int)=n:=Option.some.inj hn
      have s3:Same H2 (upd H2 W (.tup [.int (i:Nat),.int n])):=Same.upd hW
      refine ⟨W,_,rfl,SqT.of upd_same,rfl,_,_,rfl,_,_,rfl,rfl,?_⟩
      refine ⟨_,rfl,rfl,_,rfl,?_⟩
      have hbit:=Nat.testBit_eq_decide_div_mod_eq (x:=a) (i:=i)
      by_cases h1:a / 2^i % 2=1
      · have hb1:a.testBit i=true:=by rw [hbit];exact decide_eq_true h1
        refine iteY (by rw [← hn',h1];decide) ?_
        refine ⟨_,rfl,_,_,rfl,?_,s2.trans s3⟩
        rw [List.range_succ,List.filter_append,List.map_append,List.map_append]
        simp [hb1]
      · have hb1:a.testBit i=false:=by rw [hbit];exact decide_eq_false h1
        have h0:a / 2^i % 2=0:=by have:=Nat.mod_lt (a / 2^i) (by decide : 2 > 0);omega
        refine iteN (by rw [← hn',h0];decide) ⟨_,_,rfl,?_,s2.trans s3⟩
        rw [List.range_succ,List.filter_append,List.map_append,List.map_append]
        simp [hb1]
    · rintro ys σ H2 ⟨v0,v1,rfl,rfl,s2⟩ D hD
      refine q D _ (s1.free (s2.free hD)) ?_ (s1.trans (s2.trans (Same.upd hD)))
      rw [upd_same,List.length_map,List.length_map,List.length_range];rfl
def spPulls (K:PySem.W.Frag) : Sp:=fun vs H Q _ => ∃ (a:Addr) (f:Terms),vs=[.ref a]∧TLo H a f∧(∀ t∈f,PairOk t)∧(∀ t∈f,t.1<2^100)∧f.length≤100000∧∀ H',Same H H'→Q (.bl true) H'
theorem lst_nodup (n:Nat) : (lst n).Nodup:=List.nodup_range.filter _
theorem lst_few {t:Int × Int} (h:PairOk t) : (lst t.1.toNat).length≤2∧((lst t.1.toNat).length=2→t.2<0):=by
  rcases h with e | ⟨i,e⟩ | ⟨i,j,hij,e,hn⟩
  · rw [e];exact ⟨by decide,fun z=>absurd z (by decide)⟩
  · have h1:=nodup_le (l:=lst t.1.toNat) (B:=[i]) (lst_nodup _) fun k hk=>by
      rw [mem_lst,e,Int.toNat_natCast,Nat.testBit_two_pow] at hk
      exact List.mem_singleton.mpr (of_decide_eq_true hk).symm
    have h2:(lst t.1.toNat).length≤1:=h1
    exact ⟨by omega,fun z=>by omega⟩
  · have h1:=nodup_le (l:=lst t.1.toNat) (B:=[i,j]) (lst_nodup _) fun k hk=>by
      rw [mem_lst,e,Int.toNat_natCast] at hk
      rcases (bits_two hij).mp hk with z | z <;> rw [z] <;> simp
    exact ⟨h1,fun _=>hn⟩
theorem nat_lt {x:Int}{n:Nat} (h0 : 0≤x) (h:x<2^n) : x.toNat<2^n:=by
  have pw:((2:Int)^n)=((2^n:Nat) : Int):=by norm_cast
  rw [pw] at h
  omega
theorem sc_pulls:FnScope ["form", "members", "number", "many"] ["form"] (defScope s_pulls):=⟨rfl,rfl,rfl,by decide +kernel,rfl,by decide +kernel,by decide +kernel⟩
theorem ok_pulls (T:Txt K mg) : FnOk P w K mg base CX0 3 T.a_pulls T.fd_pulls ["form"] (spPulls K):=by
  refine T.d_pulls.F.ok sc_pulls (fun vs H Q E h => ?_) (fun cdv A outer s H vs Q E hr h => ?_)
  · obtain ⟨a,f,rfl,hT,hok,hkb,hln,q⟩:=h;rfl
  · obtain ⟨a,f,rfl,hT,hok,hkb,hln,q⟩:=h
    have hu:=hu_of hr
    refine ⟨_,(pss_cons (ps_for PassesOwn.never rfl (pi_list (pv 0)) (pg_tup (n:=2) rfl (pgs_cons (pg_name (i:=1) sc_pulls.nd rfl (Or.inl rfl)) (pgs_cons (pg_name (i:=2) sc_pulls.nd rfl (Or.inl rfl)) pgs_nil)))
        (pss_cons (ps_set (i:=3) sc_pulls.nd rfl (Or.inl rfl) (pe_callB call_len_seq (by rfl) T.n_len PySem.boot_len (pa_cons (pe_call (ok_listed (P:=P) (w:=w) (base:=base) T) hr (by rfl) T.d_listed.m T.d_listed.F.kp T.d_listed.b .nil pass0 (pa_cons (pv 1) pa_nil)) pa_nil)))
      (pss_one (ps_if (PW.pt (pw_or (pt_cmpR op_gt (pv 3) pe_int (nomark _)) (pw_or1 (PW.pt (pw_and (pt_cmpR op_eq (pv 3) pe_int (nomark _)) (pw_and1 (pt_cmpR op_gt (pv 2) pe_int (nomark _)))))))) (pss_one (ps_ret pe_bl)) pss_nil))))
      (pss_one (ps_ret pe_bl))),?_⟩
    obtain ⟨ps,h1,h2⟩:=hT
    have hpl:=h2.length
    refine ⟨_,rfl,a,rfl,⟨_,SqL.of h1⟩,?_⟩
    refine for_list (K:=K) (a:=a) (xs:=ps.map V.ref) (fun i σ G => ∃ v1 v2 v3:Option V,σ = [some (.ref a),v1,v2,v3]∧Same H G)
      ⟨none,none,none,rfl,Same.refl _⟩ (fun i σ G _ ⟨_,_,_,_,e⟩=>SqL.of (e _ _ h1)) ?_ ?_
    · rintro i y σ G hi ⟨v1,v2,v3,rfl,sG⟩
      obtain ⟨p,hpi,rfl⟩:=at_ref hi
      obtain ⟨t,ht1,ht2⟩:=h2.at' hpi
      have htm:=List.mem_of_getElem? ht1
      have h0:=(hok t htm).nonneg
      obtain ⟨f1,f2⟩:=lst_few (hok t htm)
      refine ⟨p,_,rfl,SqT.of (sG _ _ ht2),rfl,_,_,rfl,_,_,rfl,rfl,?_⟩
      refine ⟨_,rfl,t.1.toNat,congrArg (fun z=>[V.int z]) (key_nat h0).symm,Nat.lt_of_lt_of_le (nat_lt h0 (hkb t htm)) (Nat.pow_le_pow_right (by decide) (by decide)),fun D H1 hD hD1 s1 => ?_⟩
      refine ⟨D,_,rfl,.inl (SqL.of hD1),?_⟩
      rw [List.length_map,List.length_map]
      refine ⟨_,rfl,_,_,rfl,rfl,_,rfl,iteN (by intro z;have:=of_decide_eq_true z;omega) ?_⟩
      refine ⟨_,rfl,rfl,_,rfl,?_⟩
      refine ite2 (fun hq => ?_) (fun hq => ?_)
      · have hq':(lst t.1.toNat).length=2:=by
          have:(((lst t.1.toNat).length:Nat) : Int)=2:=by simpa using hq
          omega
        refine ⟨_,rfl,_,_,rfl,rfl,_,rfl,iteN (by intro z;have:=of_decide_eq_true z;have:=f2 hq';omega) ?_⟩
        exact ⟨_,_,_,rfl,sG.trans s1⟩
      · exact iteF ⟨_,_,_,rfl,sG.trans s1⟩
    · rintro σ G ⟨v1,v2,v3,rfl,sG⟩
      exact q G sG
def spDoubled:Sp:=fun vs H Q _ => ∃ m:Nat,vs=[.int (m:Int)]∧m≤100∧Q (.int (2^m)) H
theorem sc_doubled:FnScope ["many", "size", "turn"] ["many"] (defScope s_doubled):=⟨rfl,rfl,rfl,by decide +kernel,rfl,by decide +kernel,by decide +kernel⟩
theorem ok_doubled (T:Txt K mg) : FnOk P w K mg base CX0 1 T.a_doubled T.fd_doubled ["many"] spDoubled:=by
  refine T.d_doubled.F.ok sc_doubled (fun vs H Q E h => ?_) (fun cdv A outer s H vs Q E hr h => ?_)
  · obtain ⟨m,rfl,hm,q⟩:=h;rfl
  · obtain ⟨m,rfl,hm,q⟩:=h
    have hu:=hu_of hr
    refine ⟨_,(pss_cons (ps_set (i:=1) sc_doubled.nd rfl (Or.inl rfl) pe_int)
      (pss_cons (ps_for PassesOwn.never rfl (pi_range1 rfl T.n_range (pa_cons (pv 0) pa_nil)) (pg_name (i:=2) sc_doubled.nd rfl (Or.inl rfl))
        (pss_one (ps_set (i:=1) sc_doubled.nd rfl (Or.inl rfl) (pe_op op_mulO (pv 1) pe_int))))
      (pss_one (ps_ret (pv 1))))),?_⟩
    refine ⟨_,rfl,(m:Int),rfl,by omega,by omega,for_range (n:=m) (fun i σ H2 => ∃ v2:Option V,σ = [some (.int (m:Int)),some (.int (2^i)),v2]∧H2=H) ⟨none,rfl,rfl⟩ ?_ ?_⟩
    · rintro i σ H2 hi ⟨v2,rfl,rfl⟩
      refine ⟨_,rfl,_,_,rfl,rfl,mulR (by decide) (by decide),some (.int (0+(i:Int))),?_,rfl⟩
      rw [Int.pow_succ];rfl
    · rintro σ H2 ⟨v2,rfl,rfl⟩
      exact ⟨_,rfl,q⟩
def spPush (K:PySem.W.Frag) : Sp:=fun vs H Q _ => ∃ (a b:Addr) (c:Caps) (bits:List Nat) (w:List (Nat × Nat)) (n:Int),vs=[.ref a,.ref b,.int n]∧H a=some (.dT (c.map encQ))∧Prs H b w∧Net bits c∧0 ∉ bits∧0<n∧(∀ e∈w,n≤getP c e)∧(w.map (·.2)).Nodup∧w.length≤1000∧(∀ c',Net bits c'→c'.length≤100000) ∧
  ∀ (c':Caps) (H':Hp),H' a=some (.dT (c'.map encQ))→Net bits c'→(∀ g,wP c' g=wP c g+n * (w.map fun e=>moved e g).sum)→SameX a H H'→Q .non H'
theorem sc_push:FnScope ["products", "way", "amount", "members", "turned"] ["products", "way", "amount"] (defScope s_push):=⟨rfl,rfl,rfl,by decide +kernel,rfl,by decide +kernel,by decide +kernel⟩
theorem ok_push (T:Txt K mg) : FnOk P w K mg base CX0 1 T.a_push T.fd_push ["products", "way", "amount"] (spPush K):=by
  refine T.d_push.F.ok sc_push (fun vs H Q E h => ?_) (fun cdv A outer s H vs Q E hr h => ?_)
  · obtain ⟨a,b,c,bits,w',n,rfl,ha,hP,hN,hb0,hn0,hall,hnd,hwl,hcl,q⟩:=h;rfl
  · obtain ⟨a,b,c,bits,w',n,rfl,ha,hP,hN,hb0,hn0,hall,hnd,hwl,hcl,q⟩:=h
    have hu:=hu_of hr
    refine ⟨_,(pss_one (ps_for PassesOwn.never rfl (pi_list (pv 1)) (pg_tup (n:=2) rfl (pgs_cons (pg_name (i:=3) sc_push.nd rfl (Or.inl rfl)) (pgs_cons (pg_name (i:=4) sc_push.nd rfl (Or.inl rfl)) pgs_nil)))
        (pss_cons (ps_dput hu (pv 0) (pe_tup (pa_cons (pv 3) (pa_cons (pv 4) pa_nil))) (pe_op op_sub (pe_dget hu (pv 0) (pe_tup (pa_cons (pv 3) (pa_cons (pv 4) pa_nil))) (fun _ _=>rfl)) (pv 2)) rfl)
      (pss_one (ps_if (PW.pt (pw_and (pt_cmpR op_ne (pv 3) pe_int (nomark _)) (pw_and1 (pt_cmpR op_ne (pv 4) pe_int (nomark _))))) (pss_one (ps_dput hu (pv 0) (pe_tup (pa_cons (pv 4) (pa_cons (pv 3) pa_nil))) (pe_op op_add (pe_dget2 hu (pv 0) (pe_tup (pa_cons (pv 4) (pa_cons (pv 3) pa_nil))) pe_int ⟨rfl,rfl,rfl,rfl⟩) (pv 2)) rfl)) pss_nil))))),?_⟩
    obtain ⟨ps,p1,p2⟩:=id hP
    have hpl:ps.length=w'.length:=Paired.length p2
    have hab:b≠a:=fun z=>by rw [z,ha] at p1;cases p1
    refine ⟨_,rfl,b,rfl,⟨_,SqL.of p1⟩,?_⟩
    refine for_list (K:=K) (a:=b) (xs:=ps.map V.ref) (fun i σ G => ∃ (c2:Caps) (v3 v4:Option V),σ = [some (.ref a),some (.ref b),some (.int n),v3,v4]∧G a=some (.dT (c2.map encQ))∧Net bits c2∧(∀ e∈w'.drop i,n≤getP c2 e)∧(∀ g,wP c2 g=wP c g+n * ((w'.take i).map fun e=>moved e g).sum)∧SameX a H G)
      ⟨c,none,none,rfl,ha,hN,hall,(fun g=>by show _=_+n * 0;rw [Int.mul_zero,Int.add_zero]),fun b o e _=>e⟩ (fun i σ G _ ⟨_,_,_,_,_,_,_,_,e⟩=>SqL.of (e _ _ p1 hab)) ?_ ?_
    · rintro i y σ G hi ⟨c2,v3,v4,rfl,g1,g2,g3,g4,sG⟩
      obtain ⟨p,hpi,rfl⟩:=at_ref hi
      obtain ⟨hil,hpe⟩:=List.getElem?_eq_some_iff.mp hpi
      obtain ⟨e,he1,he2⟩ : ∃ e,w'[i]? = some e∧H p=some (.tup [.int (e.1:Int),.int (e.2:Int)]):=by
        have:∀ {ps:List Addr}{w:List (Nat × Nat)}{i:Nat}{p:Addr},Paired (fun p (k:Nat × Nat)=>H p=some (.tup [.int (k.1:Int),.int (k.2:Int)])) ps w→ps[i]? = some p→∃ e,w[i]? = some e∧H p=some (.tup [.int (e.1:Int),.int (e.2:Int)]):=by
          intro ps w i p h
          induction h generalizing i with
          | nil=>intro z;cases z
          | cons e r ih =>
            intro z
            cases i with
            | zero=>cases z;exact ⟨_,rfl,e⟩
            | succ i=>exact ih z
        exact this p2 hpi
      have hta:∀ {G:Hp},G a=some (.dT (c2.map encQ))→∀ xs,G a≠some (.tup xs):=fun h xs z=>by rw [h] at z;cases z
      have hpa:p≠a:=fun z=>by rw [z,ha] at he2;cases he2
      obtain ⟨hil2,hee⟩:=List.getElem?_eq_some_iff.mp he1
      have hdr:w'.drop i=e :: w'.drop (i+1):=by rw [List.drop_eq_getElem_cons hil2,hee]
      have hge:n≤getP c2 e:=g3 e (by rw [hdr];exact List.mem_cons_self ..)
      have hem:e∈c2.map (·.1):=getP_pos_mem (by omega)
      have hlen:=hcl c2 g2
      have hN2:=g2.push hb0 (by omega) hge hem
      refine ⟨p,_,rfl,SqT.of (sG _ _ he2 hpa),rfl,_,_,rfl,_,_,rfl,rfl,?_⟩
      refine ⟨_,rfl,_,rfl,_,rfl,(by show 2≤sizeLine;decide),fun t1 ht1 => ?_⟩
      have b1:Same G (upd G t1 (.tup [.int (e.1:Int),.int (e.2:Int)])):=Same.upd ht1
      have w1:upd G t1 (.tup [.int (e.1:Int),.int (e.2:Int)]) t1=some (.tup [.int (e.1:Int),.int (e.2:Int)]):=upd_same
      generalize upd G t1 (.tup [.int (e.1:Int),.int (e.2:Int)])=G1 at b1 w1 ⊢
      refine ⟨a,_,rfl,qget1 (b1 _ _ g1) w1 hem,_,rfl,_,_,rfl,rfl,_,rfl,_,rfl,_,rfl,(by show 2≤sizeLine;decide),fun t2 ht2 => ?_⟩
      have b2:Same G1 (upd G1 t2 (.tup [.int (e.1:Int),.int (e.2:Int)])):=Same.upd ht2
      have w2:upd G1 t2 (.tup [.int (e.1:Int),.int (e.2:Int)]) t2=some (.tup [.int (e.1:Int),.int (e.2:Int)]):=upd_same
      generalize upd G1 t2 (.tup [.int (e.1:Int),.int (e.2:Int)])=G2 at b2 w2 ⊢
      refine ⟨a,_,rfl,qput (k:=e) (v:=getP c2 e-n) (b2 _ _ (b1 _ _ g1)) w2 (small6 (by omega)),?_⟩
      have w3:upd G2 a (.dT ((putP c2 e (getP c2 e-n)).map encQ)) a=some (.dT ((putP c2 e (getP c2 e-n)).map encQ)):=upd_same
      have x3:SameX a H (upd G2 a (.dT ((putP c2 e (getP c2 e-n)).map encQ))):=fun b' o' e' hne=>by rw [upd_ne hne];exact b2 _ _ (b1 _ _ (sG b' o' e' hne))
      generalize upd G2 a (.dT ((putP c2 e (getP c2 e-n)).map encQ))=G3 at w3 x3 ⊢
      have hl3:=lenP_put c2 e (getP c2 e-n)
      have fin:∀ G4:Hp,G4 a=some (.dT ((pushOne c2 e n).map encQ))→SameX a H G4→∃ (c2':Caps) (v3 v4:Option V),[some (.ref a),some (.ref b),some (.int n),some (.int (e.1:Int)),some (.int (e.2:Int))]=[some (V.ref a),some (.ref b),some (.int n),v3,v4]∧G4 a=some (.dT (c2'.map encQ))∧Net bits c2'∧(∀ e∈w'.drop (i+1),n≤getP c2' e)∧(∀ g,wP c2' g=wP c g+n * ((w'.take (i+1)).map fun e=>moved e g).sum)∧SameX a H G4:=fun G4 h4 x4=>by
        refine ⟨pushOne c2 e n,_,_,rfl,h4,hN2,fun e' he' => ?_,fun g => ?_,x4⟩
        · have hne:e'≠e:=fun z=>by
            have h5:(w'.map (·.2)).Nodup:=hnd
            have h6:w'.map (·.2)=(w'.take i).map (·.2)++(e :: w'.drop (i+1)).map (·.2):=by rw [← List.map_append,← hdr,List.take_append_drop]
            rw [h6,List.nodup_append,List.map_cons,List.nodup_cons] at h5
            exact h5.2.1.1 (List.mem_map.mpr ⟨e',he',by rw [z]⟩)
          exact Int.le_trans (g3 e' (by rw [hdr];exact List.mem_cons_of_mem _ he')) (pushOne_get e e' n (by omega) hne)
        · rw [pushOne_w g2.nodup,g4,List.take_add_one,he1,List.map_append,List.sum_append,Int.mul_add]
          simp
          omega
      refine ⟨_,rfl,rfl,_,rfl,?_⟩
      show if (!decide (V.int (e.1:Int)=V.int 0))=true then _ else _
      by_cases h1:e.1=0
      · refine iteN (by rw [h1];simp) (iteF ?_)
        exact fin G3 (by rw [w3];unfold pushOne;rw [if_neg fun z=>z.1 h1]) x3
      · refine iteY (by simp;omega) ?_
        refine ⟨_,rfl,rfl,_,rfl,?_⟩
        show if (!decide (V.int (e.2:Int)=V.int 0))=true then _ else _
        by_cases h2:e.2=0
        · refine iteN (by rw [h2];simp) ?_
          exact fin G3 (by rw [w3];unfold pushOne;rw [if_neg fun z=>z.2 h2]) x3
        · refine iteY (by simp;omega) ?_
          refine ⟨_,rfl,a,rfl,.inr ⟨_,.inl w3⟩,_,rfl,_,rfl,(by show 2≤sizeLine;decide),fun t3 ht3 => ?_⟩
          have b3:Same G3 (upd G3 t3 (.tup [.int (e.2:Int),.int (e.1:Int)])):=Same.upd ht3
          have w4:upd G3 t3 (.tup [.int (e.2:Int),.int (e.1:Int)]) t3=some (.tup [.int (((e.2,e.1) : Nat × Nat).1:Int),.int (((e.2,e.1) : Nat × Nat).2:Int)]):=upd_same
          generalize upd G3 t3 (.tup [.int (e.2:Int),.int (e.1:Int)])=G4 at b3 w4 ⊢
          obtain ⟨o',ho,eo⟩:=qget0 (b3 _ _ w3) w4
          refine ⟨o',ho,?_⟩
          rw [eo]
          refine ⟨_,rfl,_,_,rfl,rfl,_,rfl,_,rfl,_,rfl,(by show 2≤sizeLine;decide),fun t4 ht4 => ?_⟩
          have b4:Same G4 (upd G4 t4 (.tup [.int (e.2:Int),.int (e.1:Int)])):=Same.upd ht4
          have w5:upd G4 t4 (.tup [.int (e.2:Int),.int (e.1:Int)]) t4=some (.tup [.int (((e.2,e.1) : Nat × Nat).1:Int),.int (((e.2,e.1) : Nat × Nat).2:Int)]):=upd_same
          generalize upd G4 t4 (.tup [.int (e.2:Int),.int (e.1:Int)])=G5 at b4 w5 ⊢
          refine ⟨a,_,rfl,qput (k:=(e.2,e.1)) (v:=getP (putP c2 e (getP c2 e-n)) (e.2,e.1)+n) (b4 _ _ (b3 _ _ w3)) w5 (small6 (by omega)),?_⟩
          refine fin _ ?_ fun b' o' e' hne=>by rw [upd_ne hne];exact b4 _ _ (b3 _ _ (x3 b' o' e' hne))
          rw [upd_same];unfold pushOne;rw [if_pos ⟨h1,h2⟩]
    · rintro σ G ⟨c2,v3,v4,rfl,g1,g2,g3,g4,sG⟩
      rw [List.length_map,hpl,List.take_length] at g4
      exact q c2 G g1 g2 g4 sG
def spUnk (K:PySem.W.Frag) : Sp:=fun vs H Q _ => ∃ (a:Addr) (l:Terms),vs=[.ref a]∧TL K H a l∧(∀ t∈l,0≤t.1)∧Q (.int (orAll l 0:Nat)) H
theorem sc_unknowns:FnScope ["form", "together", "members", "number"] ["form"] (defScope s_unknowns):=⟨rfl,rfl,rfl,by decide +kernel,rfl,by decide +kernel,by decide +kernel⟩
theorem ok_unknowns (T:Txt K mg) : FnOk P w K mg base CX0 1 T.a_unknowns T.fd_unknowns ["form"] (spUnk K):=by
  refine T.d_unknowns.F.ok sc_unknowns (fun vs H Q E h => ?_) (fun cdv A outer s H vs Q E hr h => ?_)
  · obtain ⟨a,l,rfl,⟨ps,hS,hT⟩,h0,q⟩:=h;rfl
  · obtain ⟨a,l,rfl,⟨ps,hS,hT⟩,h0,q⟩:=h
    have hu:=hu_of hr
    refine ⟨_,(pss_cons (ps_set (i:=1) sc_unknowns.nd rfl (Or.inl rfl) pe_int)
      (pss_cons (ps_for PassesOwn.never rfl (pi_list (pv 0)) (pg_tup (n:=2) rfl (pgs_cons (pg_name (i:=2) sc_unknowns.nd rfl (Or.inl rfl)) (pgs_cons (pg_name (i:=3) sc_unknowns.nd rfl (Or.inl rfl)) pgs_nil)))
        (pss_one (ps_set (i:=1) sc_unknowns.nd rfl (Or.inl rfl) (pe_op op_or (pv 1) (pv 2)))))
      (pss_one (ps_ret (pv 1))))),?_⟩
    refine ⟨_,rfl,a,rfl,⟨_,hS⟩,?_⟩
    refine for_list (K:=K) (a:=a) (xs:=ps.map V.ref) (fun i σ H2 => ∃ (v2 v3:Option V),σ = [some (.ref a),some (.int (orAll (l.take i) 0:Nat)),v2,v3]∧H2=H)
      ⟨none,none,rfl,rfl⟩ (fun i σ H2 _ ⟨_,_,_,e⟩=>by rw [e];exact hS) ?_ ?_
    · rintro i y σ H2 hi ⟨v2,v3,rfl,rfl⟩
      obtain ⟨p,hpi,rfl⟩:=at_ref hi
      obtain ⟨t,ht1,ht2⟩:=hT.at' hpi
      have htm:=List.mem_of_getElem? ht1
      have htk:l.take (i+1)=l.take i ++ [t]:=by rw [List.take_add_one,ht1];rfl
      have e:((t.1.toNat:Nat) : Int)=t.1:=Int.toNat_of_nonneg (h0 t htm)
      refine ⟨p,_,rfl,SqT.of ht2,rfl,_,_,rfl,_,_,rfl,rfl,?_⟩
      refine ⟨_,rfl,_,rfl,_,_,rfl,rfl,some (.int t.1),some (.int t.2),?_,rfl⟩
      rw [htk,orAll_snoc]
      show [some (.ref a),some (V.int (Builtin.bitOr ((orAll (l.take i) 0:Nat) : Int) t.1)),_,_]=_
      rw [← e,bitOr_nat,e]
    · rintro σ H2 ⟨v2,v3,rfl,rfl⟩
      refine ⟨_,rfl,?_⟩
      rw [List.length_map,hT.length,List.take_length]
      exact q
def Trp (H:Hp) (a:Addr) (l:List (Int × (Nat × Nat))) : Prop := ∃ ps:List Addr,H a=some (.lst (ps.map V.ref))∧Paired (fun p (x:Int × (Nat × Nat))=>H p=some (.tup [.int x.1,.int (x.2.1:Int),.int (x.2.2:Int)])) ps l
def bitsF (f:Terms) : List Nat:=(lst (orAll f 0)).map fun k=>2^k
def KeyOk (bits:List Nat) (k:Nat × Nat) : Prop:=(k.1=0∧k.2∈bits)∨(k.2=0∧k.1∈bits)∨(k.1∈bits∧k.2∈bits∧k.1≠k.2)
def spPulled (K:PySem.W.Frag) : Sp:=fun vs H Q _ => ∃ (a:Addr) (f:Terms),vs=[.ref a]∧TLo H a f∧IsForm f∧(∀ t∈f,PairOk t)∧(∀ t∈f,t.1<2^100)∧f.length≤1000∧(lst (orAll f 0)).length≤16 ∧
  ∀ (t D:Addr) (num:Int) (g:Nat) (pr:List (Int × (Nat × Nat))) (H':Hp),H' t=some (.tup [.int num,.int (g:Int),.ref D])→Trp H' D pr→pr.length≤288→(∀ p∈pr,0<p.1∧KeyOk (bitsF f) p.2)→(∀ g':Nat,num+(pr.map fun p=>p.1 * oneP p.2 g').sum=worthL f (g':Int))→worthL f (g:Int)=num→(∀ j,g.testBit j=true→(orAll f 0).testBit j=true)→Same H H'→Q (.ref t) H'
theorem bitsF_mem {f:Terms}{x:Nat} : x∈bitsF f↔∃ k,(orAll f 0).testBit k=true∧x=2^k:=by
  unfold bitsF
  rw [List.mem_map]
  exact ⟨fun ⟨k,h,e⟩=>⟨k,mem_lst.mp h,e.symm⟩,fun ⟨k,h,e⟩=>⟨k,mem_lst.mpr h,e.symm⟩⟩
theorem bits_in {f:Terms}{t:Int × Int} (ht:t∈f) {i:Nat} (h:t.1.toNat.testBit i=true) : 2^i∈bitsF f:=bitsF_mem.mpr ⟨i,(orAll_bit f 0 i).mpr (.inr ⟨t,ht,h⟩),rfl⟩
theorem first_net {f sg:Terms}{c:Caps} (hok:∀ t∈f,PairOk t) (hs:FormOf sg (f.map fun t=>((lowV t.1.toNat:Int),t.2))) (h1:(c.map (·.1)).Nodup) (h2:∀ p∈c,0≤p.2)
    (h3:∀ k∈c.map (·.1),(∃ t∈f,isTwo t∧k=halves t)∨∃ t∈sg,t.1≠0∧(k=(t.1.toNat,0)∨k=(0,t.1.toNat))) : Net (bitsF f) c:=by
  refine ⟨h1,h2,fun k hk => ?_⟩
  rcases h3 k hk with ⟨t,ht,h4,e⟩ | ⟨t,ht,h4,e⟩
  · obtain ⟨i,j,hij,e1,_,e2⟩:=(hok t ht).two h4
    right;right
    rw [e,e2]
    have eb:t.1.toNat=2^i+2^j:=by rw [e1,Int.toNat_natCast]
    exact ⟨bits_in ht (by rw [eb];exact (bits_two hij).mpr (.inl rfl)),bits_in ht (by rw [eb];exact (bits_two hij).mpr (.inr rfl)),Nat.ne_of_lt (Nat.pow_lt_pow_right (by decide) hij)⟩
  · obtain ⟨u,hu,e1⟩:=List.mem_map.mp (hs.src t ht)
    obtain ⟨v,hv,rfl⟩:=List.mem_map.mp hu
    have e2:((lowV v.1.toNat:Nat) : Int)=t.1:=e1
    have hv0:v.1.toNat≠0:=fun z=>h4 (by rw [← e2,z];rfl)
    have e3:t.1.toNat=2^lowB v.1.toNat:=by rw [← e2,Int.toNat_natCast,lowV_pos hv0]
    have hm:t.1.toNat∈bitsF f:=by rw [e3];exact bits_in hv (and_pred _ hv0).2.1
    rcases e with e | e
    · right;left;rw [e];exact ⟨rfl,hm⟩
    · left;rw [e];exact ⟨rfl,hm⟩
theorem perm_sum {l l':List Int} (h:l.Perm l') : l.sum=l'.sum:=by
  induction h with
  | nil=>rfl
  | cons x _ ih=>rw [List.sum_cons,List.sum_cons,ih]
  | swap x y l=>rw [List.sum_cons,List.sum_cons,List.sum_cons,List.sum_cons];omega
  | trans _ _ h1 h2=>rw [h1,h2]
theorem pow_list {P:Nat→Prop} : ∀ {l:List Nat},(∀ x∈l,∃ k,P k∧x=2^k)→∃ ks:List Nat,l=ks.map (fun k=>2^k)∧∀ k∈ks,P k
  | [],_=>⟨[],rfl,fun k h=>by cases h⟩
  | x :: l,h=>by
    obtain ⟨k,hk,e⟩:=h x (List.mem_cons_self ..)
    obtain ⟨ks,e2,h2⟩:=pow_list fun y hy=>h y (List.mem_cons_of_mem _ hy)
    refine ⟨k :: ks,by rw [List.map_cons,e,e2],fun j hj => ?_⟩
    rcases List.mem_cons.mp hj with rfl | y
    · exact hk
    · exact h2 j y
theorem pow_inj {i j:Nat} (h : 2^i=2^j) : i=j:=by
  rcases Nat.lt_trichotomy i j with y | y | y
  · exact absurd h (Nat.ne_of_lt (Nat.pow_lt_pow_right (by decide) y))
  · exact y
  · exact absurd h.symm (Nat.ne_of_lt (Nat.pow_lt_pow_right (by decide) y))
theorem cast_sum:∀ l:List Nat,(l.map fun x:Nat=>(x:Int)).sum=((l.sum:Nat) : Int)
  | []=>rfl
  | x :: l=>by rw [List.map_cons,List.sum_cons,List.sum_cons,cast_sum l];norm_cast
theorem SameX.same {H G G':Hp}{p:Addr} (h:Same H G) (k:SameX p G G') (hp:H p=none) : Same H G':=fun b o e=>k b o (h b o e) fun z=>by rw [z,hp] at e;cases e
theorem sum_filter_caps {c:Caps} (hn:∀ p∈c,0≤p.2) (hd:(c.map (·.1)).Nodup) {ks:List (Nat × Nat)} (hp:ks.Perm (c.map (·.1))) (g:Nat) :
    (((ks.filter fun k=>decide (0<getP c k)).map fun k=>(getP c k,k)).map fun p:Int × (Nat × Nat)=>p.1 * oneP p.2 g).sum=wP c g:=by
  have h1:∀ l:List (Nat × Nat),(∀ k∈l,0≤getP c k)→(((l.filter fun k=>decide (0<getP c k)).map fun k=>(getP c k,k)).map fun p:Int × (Nat × Nat)=>p.1 * oneP p.2 g).sum=(l.map fun k=>getP c k * oneP k g).sum:=fun l=>by
    induction l with
    | nil=>intro _;rfl
    | cons k l ih =>
      intro hl
      rw [List.filter_cons,List.map_cons,List.sum_cons,← ih fun x hx=>hl x (List.mem_cons_of_mem _ hx)]
      have:=hl k (List.mem_cons_self ..)
      by_cases y : 0<getP c k
      · rw [if_pos (decide_eq_true y),List.map_cons,List.map_cons,List.sum_cons]
      · have e:getP c k=0:=by omega
        rw [if_neg (by simpa using y),e,Int.zero_mul,Int.zero_add]
  rw [h1 ks fun k _=>getP_nonneg hn k]
  have h2:(ks.map fun k=>getP c k * oneP k g).Perm ((c.map (·.1)).map fun k=>getP c k * oneP k g):=hp.map _
  rw [perm_sum h2]
  unfold wP
  rw [List.map_map]
  congr 1
  refine List.map_congr_left fun p hp => ?_
  show getP c p.1 * oneP p.1 g=p.2 * oneP p.1 g
  unfold getP
  rw [lookP_of hd (k:=p.1) (v:=p.2) hp];rfl
theorem sc_pulled:FnScope ["form", "bits", "singles", "number", "products", "way", "amount", "given"] ["form"] (defScope s_pulled):=⟨rfl,rfl,rfl,by decide +kernel,rfl,by decide +kernel,by decide +kernel⟩
theorem nd_pulled_1:(["k"] : List Str).Nodup:=by decide +kernel
theorem nd_pulled_3:(["step", "products"] : List Str).Nodup:=by decide +kernel
theorem nd_pulled_5:(["step", "products"] : List Str).Nodup:=by decide +kernel
theorem ok_pulled (T:Txt K mg) : FnOk P w K mg base CX0 4 T.a_pulled T.fd_pulled ["form"] (spPulled K):=by
  refine T.d_pulled.F.ok sc_pulled (fun vs H Q E h => ?_) (fun cdv A outer s H vs Q E hr h => ?_)
  · obtain ⟨a,f,rfl,hT,hf,hok,hkb,hln,h7,q⟩:=h;rfl
  · obtain ⟨a,f,rfl,hT,hf,hok,hkb,hln,h7,q⟩:=h
    have hu:=hu_of hr
    refine ⟨_,(pss_cons (ps_if (pt_not (pt_val (pe_call (ok_pulls (P:=P) (w:=w) (base:=base) T) hr (by rfl) T.d_pulls.m T.d_pulls.F.kp T.d_pulls.b .nil pass0 (pa_cons (pv 0) pa_nil)) (fun _=>rfl))) (pss_one ps_dead) pss_nil)
      (pss_cons (ps_setC (i:=1) (g:=(gName 0)) ["k"] 1 [] sc_pulled.nd rfl (Or.inl rfl) rfl (by exact CompSc.of (defScope s_pulled) ["form", "bits", "singles", "number", "products", "way", "amount", "given"] rfl rfl rfl (by decide +kernel) rfl (by decide +kernel) (by decide +kernel)) (pi_list (pe_call (ok_listed (P:=P) (w:=w) (base:=base) T) (hr.mono (by decide)) (by rfl) T.d_listed.m T.d_listed.F.kp T.d_listed.b .nil pass0 (pa_cons (pe_call (ok_unknowns (P:=P) (w:=w) (base:=base) T) (hr.mono (by decide)) (by rfl) T.d_unknowns.m T.d_unknowns.F.kp T.d_unknowns.b .nil pass0 (pa_cons (pv 0) pa_nil)) pa_nil)))
        (fun cl C s₀ H₀ fp=>(pg_name (i:=0) nd_pulled_1 rfl (Or.inl rfl) (Or.inr rfl))) (fun cl C s₀ H₀ fp=>pts_nil) (fun cl C s₀ H₀ fp=>(pe_call (ok_doubled (P:=P) (w:=w) (base:=base) T) (hr.mono (by decide)) (by rfl) T.d_doubled.m T.d_doubled.F.kp T.d_doubled.b .nil pass0 (pa_cons (pv 0) pa_nil))))
      (pss_cons (ps_set (i:=2) sc_pulled.nd rfl (Or.inl rfl) (pe_call (ok_without_pairs (P:=P) (w:=w) (base:=base) T) hr (by rfl) T.d_without_pairs.m T.d_without_pairs.F.kp T.d_without_pairs.b .nil pass0 (pa_cons (pv 0) pa_nil)))
      (pss_cons (ps_set (i:=3) sc_pulled.nd rfl (Or.inl rfl) (pe_call (ok_floor (P:=P) (w:=w) (base:=base) T) (hr.mono (by decide)) (by rfl) T.d_floor.m T.d_floor.F.kp T.d_floor.b .nil pass0 (pa_cons (pv 2) pa_nil)))
      (pss_cons (ps_set (i:=4) sc_pulled.nd rfl (Or.inr rfl) (pe_call (ok_first_products (P:=P) (w:=w) (base:=base) T) (hr.mono (by decide)) (by rfl) T.d_first_products.m T.d_first_products.F.kp T.d_first_products.b .nil pass0 (pa_cons (pv 0) (pa_cons (pv 2) pa_nil))))
      (pss_cons (ps_set (i:=5) sc_pulled.nd rfl (Or.inl rfl) (pe_call (ok_open_way (P:=P) (w:=w) (base:=base) T) (hr.mono (by decide)) (by rfl) T.d_open_way.m T.d_open_way.F.kp T.d_open_way.b .nil pass0 (pa_cons (pv 4) (pa_cons (pv 1) pa_nil))))
      (pss_cons (ps_while PassesOwn.never (pt_truth (pv 5) (fun _=>rfl)) (pss_cons (ps_set (i:=6) sc_pulled.nd rfl (Or.inl rfl) (pe_callB (call_minL rfl) (by rfl) T.n_min PyProof.Rows.boot_min (pa_cons (pe_comp (g:=(gName 0)) ["step", "products"] 1 [4] rfl (by exact CompSc.of (defScope s_pulled) ["form", "bits", "singles", "number", "products", "way", "amount", "given"] rfl rfl rfl (by decide +kernel) rfl (by decide +kernel) (by decide +kernel)) (pi_list (pv 5))
        (fun cl C s₀ H₀ fp=>(pg_name (i:=0) nd_pulled_3 rfl (Or.inl rfl) (Or.inr rfl))) (fun cl C s₀ H₀ fp=>pts_nil) (fun cl C s₀ H₀ fp=>(pe_dget hu (pv 1) (pv 0) (fun _ _=>rfl)))) pa_nil)))
      (pss_cons (ps_expr (pe_call (ok_push (P:=P) (w:=w) (base:=base) T) (hr.mono (by decide)) (by rfl) T.d_push.m T.d_push.F.kp T.d_push.b .nil pass0 (pa_cons (pv 4) (pa_cons (pv 5) (pa_cons (pv 6) pa_nil)))))
      (pss_cons (ps_set (i:=3) sc_pulled.nd rfl (Or.inl rfl) (pe_op op_add (pv 3) (pv 6)))
      (pss_one (ps_set (i:=5) sc_pulled.nd rfl (Or.inl rfl) (pe_call (ok_open_way (P:=P) (w:=w) (base:=base) T) (hr.mono (by decide)) (by rfl) T.d_open_way.m T.d_open_way.F.kp T.d_open_way.b .nil pass0 (pa_cons (pv 4) (pa_cons (pv 1) pa_nil)))))))))
      (pss_cons (ps_set (i:=7) sc_pulled.nd rfl (Or.inl rfl) (pe_callB (call_sumL rfl) (by rfl) T.n_sum PyProof.Rows.boot_sum (pa_cons (pe_callTy (call_listD rfl) rfl T.n_list PyProof.Rows.boot_list (pa_cons (pe_call (ok_reached (P:=P) (w:=w) (base:=base) T) (hr.mono (by decide)) (by rfl) T.d_reached.m T.d_reached.F.kp T.d_reached.b .nil pass0 (pa_cons (pv 4) (pa_cons (pv 1) pa_nil))) pa_nil)) pa_nil)))
      (pss_one (ps_ret (pe_tup (pa_cons (pv 3) (pa_cons (pv 7) (pa_cons (pe_comp (g:=(gName 0)) ["step", "products"] 1 [4] rfl (by exact CompSc.of (defScope s_pulled) ["form", "bits", "singles", "number", "products", "way", "amount", "given"] rfl rfl rfl (by decide +kernel) rfl (by decide +kernel) (by decide +kernel)) (pi_list (pe_callB (call_sortedT rfl) (by rfl) T.n_sorted PyProof.Rows.boot_sorted (pa_cons (pv 4) pa_nil)))
        (fun cl C s₀ H₀ fp=>(pg_name (i:=0) nd_pulled_5 rfl (Or.inl rfl) (Or.inr rfl))) (fun cl C s₀ H₀ fp=>(pts_one (pt_cmpR op_gt (pe_dget hu (pv 1) (pv 0) (fun _ _=>rfl)) pe_int (nomark _)))) (fun cl C s₀ H₀ fp=>(pe_tup (pa_cons (pe_dget hu (pv 1) (pv 0) (fun _ _=>rfl)) (pa_cons (pe_ix (ix_tupK K rfl) (pv 0) pe_int (fun _ _=>rfl)) (pa_cons (pe_ix (ix_tupK K rfl) (pv 0) pe_int (fun _ _=>rfl)) pa_nil)))))) pa_nil)))))))))))))),?_⟩
    have hU:orAll f 0<2^100:=orAll_lt fun t ht=>⟨(hok t ht).nonneg,hkb t ht⟩
    have hf0:∀ t∈f,0≤t.1:=fun t ht=>(hok t ht).nonneg
    refine ⟨_,rfl,a,f,rfl,hT,hok,hkb,by omega,fun H1 s1 => ?_⟩
    refine ⟨true,rfl,iteF ?_⟩
    refine ⟨_,rfl,a,f,rfl,(hT.keep s1).tl,hf0,orAll f 0,rfl,Nat.lt_of_lt_of_le hU (Nat.pow_le_pow_right (by decide) (by decide)),fun D1 H2 hD1 hD1' s2 => ?_⟩
    refine ⟨D1,rfl,⟨_,SqL.of hD1'⟩,?_⟩
    have hl100:∀ k∈lst (orAll f 0),k<100:=fun k hk=>by
      rcases Nat.lt_or_ge k 100 with y | y
      · exact y
      · have:=bit_out hU y
        rw [mem_lst.mp hk] at this;cases this
    refine comp_list (K:=K) (a:=D1) (xs:=((lst (orAll f 0)).map fun k:Nat=>(k:Int)).map V.int) (fun i ys σ G => ∃ v0:Option V,σ = [v0]∧ys=natL (((lst (orAll f 0)).take i).map fun k=>2^k)∧G=H2)
      ⟨none,rfl,rfl,rfl⟩ (fun i ys σ G hi ⟨_,_,e1,e2⟩=>⟨by rw [e2];exact SqL.of hD1',by rw [e1,natL_len,List.length_map,List.length_take];omega⟩) (by rw [List.length_map,List.length_map];exact Nat.le_of_lt (small6 (by omega))) ?_ ?_
    · rintro i y ys σ G hi ⟨v0,rfl,rfl,rfl⟩
      obtain ⟨k,hk,rfl⟩ : ∃ k,(lst (orAll f 0))[i]? = some k∧y=V.int (k:Int):=by
        rw [List.getElem?_map,List.getElem?_map] at hi
        cases e:(lst (orAll f 0))[i]? with
        | none=>rw [e] at hi;cases hi
        | some x=>rw [e] at hi;exact ⟨x,rfl,(Option.some.inj hi).symm⟩
      have hk1:=hl100 k (List.mem_of_getElem? hk)
      unfold gName
      refine tt ?_
      refine ⟨_,rfl,k,rfl,by omega,some (.int (k:Int)),rfl,?_,rfl⟩
      rw [List.take_add_one,hk,List.map_append,natL_app,pow_cast];rfl
    rintro ys σ G ⟨v0,rfl,rfl,rfl⟩ B hB
    have eB:natL (((lst (orAll f 0)).take (((lst (orAll f 0)).map fun k:Nat=>(k:Int)).map V.int).length).map fun k=>2^k)=natL (bitsF f):=by
      rw [List.length_map,List.length_map,List.take_length];rfl
    rw [eB]
    have s3:Same G (upd G B (.lst (natL (bitsF f)))):=Same.upd hB
    have wB:upd G B (.lst (natL (bitsF f))) B=some (.lst (natL (bitsF f))):=upd_same
    have hB0:H B=none:=(s1.trans s2).free hB
    have S3:=s1.trans (s2.trans s3)
    generalize upd G B (.lst (natL (bitsF f)))=H3 at wB S3 ⊢
    refine ⟨_,rfl,a,f,rfl,hT.keep S3,hf0,by omega,fun b sg H4 hb hTs hFs hls s4 => ?_⟩
    have S4:=S3.trans s4
    refine ⟨_,rfl,b,sg,rfl,hTs.tl,by omega,fun H5 s5 => ?_⟩
    have S5:=S4.trans s5
    have hsrc:∀ t∈sg,t.1=0∨∃ i:Nat,t.1=((2^i:Nat) : Int):=fun t ht=>by
      obtain ⟨u,hu,e⟩:=List.mem_map.mp (hFs.src t ht)
      obtain ⟨v,hv,rfl⟩:=List.mem_map.mp hu
      rw [← e]
      show ((lowV v.1.toNat:Nat) : Int)=0∨_
      by_cases z:v.1.toNat=0
      · left;rw [z];rfl
      · right;exact ⟨lowB v.1.toNat,by show ((lowV v.1.toNat:Nat) : Int)=_;rw [lowV_pos z]⟩
    refine ⟨_,rfl,_,rfl,a,b,f,sg,rfl,hT.keep S5,hTs.keep s5,hf,hok,by omega,hFs.toIsForm,hsrc,by omega,fun Pd c0 H6 hPd hP6 hn6 hnn6 hk6 hw6 s6 => ?_⟩
    have S6:=S5.trans s6
    have hPd0:H Pd=none:=S5.free hPd
    have N6:=first_net hok hFs hn6 hnn6 hk6
    have hb0 : 0 ∉ bitsF f:=fun z=>by obtain ⟨k,_,e⟩:=bitsF_mem.mp z;exact Nat.ne_of_lt (Nat.two_pow_pos k) e
    have hbS:∀ x∈bitsF f,Single x:=fun x hx=>by obtain ⟨k,_,e⟩:=bitsF_mem.mp hx;exact ⟨k,e⟩
    have hbl:(bitsF f).length≤16:=by unfold bitsF;rw [List.length_map];exact h7
    have hval:∀ g:Nat,floorL sg+wP c0 g=worthL f (g:Int):=fun g=>by rw [hw6,pull_worth hok hFs]
    have hPB:B≠Pd:=ne_of_none (s5 _ _ (s4 _ _ wB)) hPd
    have wB6:=s6 _ _ (s5 _ _ (s4 _ _ wB))
    refine ⟨_,rfl,_,rfl,Pd,B,c0,bitsF f,rfl,hP6,wB6,by omega,hb0,fun Wd H7 hWd hst s7 => ?_⟩
    refine ⟨fun m σ G => ∃ (c:Caps) (num:Int) (Wd:Addr) (v6 v7:Option V),σ = [some (.ref a),some (.ref B),some (.ref b),some (.int num),some (.ref Pd),some (.ref Wd),v6,v7]∧G Pd=some (.dT (c.map encQ))∧Net (bitsF f) c∧(∀ g:Nat,num+wP c g=worthL f (g:Int))∧m=(worthL f ((0:Nat) : Int)-num).toNat∧G B=some (.lst (natL (bitsF f)))∧Wd≠Pd∧Same H G ∧
        ((G Wd=some (.lst [])∧∃ l:List (Nat × Nat),Opened c (bitsF f) l 0∧(∀ x∈l.map (·.1),Opened c (bitsF f) l x)∧∀ x∈l.map (·.1),getP c (x,0)≤0)∨∃ w,Prs G Wd w∧Way c (bitsF f) w∧∀ e∈w,0<getP c e),
      ⟨_,c0,floorL sg,Wd,none,none,rfl,s7 _ _ hP6,N6,hval,rfl,s7 _ _ wB6,ne_of_none' hP6 hWd,S6.trans s7,hst⟩,?_⟩
    rintro m σ G ⟨c,num,Wd,v6,v7,rfl,g1,g2,g3,hm,gB,gWP,sG,hst⟩
    have hc64:=Net.len g2 hb0 hbl
    rcases hst with ⟨e0,l,ho1,ho2,ho3⟩ | ⟨w',hP,hWay,hpos⟩
    · refine ⟨_,rfl,_,.inl ⟨_,SqL.of e0,rfl⟩,iteN (by decide) ?_⟩
      refine ⟨_,rfl,_,rfl,Pd,B,c,bitsF f,rfl,g1,gB,by omega,hb0,fun A l2 H8 hA hA8 hn8 ht8 hp1 hp2 s8=>⟨A,castP l2,rfl,hA8,fun L hL=>⟨L,_,rfl,SqL.of upd_same,?_⟩⟩⟩
      have s9:Same H8 (upd H8 L (.lst (((castP l2).map (·.1)).map V.int))):=Same.upd hL
      have S9:=sG.trans (s8.trans s9)
      have g1':=s9 _ _ (s8 _ _ g1)
      generalize upd H8 L (.lst (((castP l2).map (·.1)).map V.int))=H9 at s9 S9 g1' ⊢
      obtain ⟨ks,ek,hks⟩:=pow_list (P:=fun k=>(orAll f 0).testBit k=true) (l:=l2.map (·.1)) fun x hx=>bitsF_mem.mp (Tree.sub ht8 x hx)
      have hkn:ks.Nodup:=by
        have h1:=hn8
        rw [ek,List.Nodup,List.pairwise_map] at h1
        exact h1.imp fun {a b} h z=>h (by rw [z])
      have hsb:=sum_bits hkn
      have esum:((castP l2).map (·.1)).sum=(((ks.map fun k=>2^k).sum:Nat) : Int):=by rw [castP_keys,cast_sum,ek]
      rw [esum]
      generalize (ks.map fun k=>2^k).sum=gN at hsb
      have hzero:wP c gN=0:=by
        refine cut_zero g2 hbS hp1 hp2 (fun x hx=>ho3 x (same_reached ho1 ho2 ht8 (fun y hy=>by cases hy) x hx)) fun x hx => ?_
        obtain ⟨k,_,rfl⟩:=bitsF_mem.mp hx
        rw [sub_bits,ek]
        constructor
        · intro h
          have:=h k Nat.testBit_two_pow_self
          rw [hsb] at this
          exact List.mem_map.mpr ⟨k,of_decide_eq_true this,rfl⟩
        · intro h i hi
          rw [Nat.testBit_two_pow] at hi
          have e1:k=i:=of_decide_eq_true hi
          obtain ⟨k',hk',e2⟩:=List.mem_map.mp h
          rw [hsb]
          exact decide_eq_true (by rw [← e1,← pow_inj e2];exact hk')
      refine ⟨_,rfl,_,rfl,_,rfl,Pd,c,rfl,g1',(by omega),fun S ps kl hS hperm hpd => ?_⟩
      have s10:Same H9 (upd H9 S (.lst (ps.map V.ref))):=Same.upd hS
      have wS:upd H9 S (.lst (ps.map V.ref)) S=some (.lst (ps.map V.ref)):=upd_same
      have g1s:=s10 _ _ g1'
      have hpd':=Paired.mapP hpd fun p k e=>s10 _ _ e
      have S10:=S9.trans s10
      generalize upd H9 S (.lst (ps.map V.ref))=H10 at wS g1s hpd' S10 ⊢
      have hpl:ps.length=kl.length:=Paired.length hpd'
      have hkl:kl.length=c.length:=by rw [hperm.length_eq,List.length_map]
      refine ⟨S,rfl,⟨_,SqL.of wS⟩,?_⟩
      refine comp_list (K:=K) (a:=S) (xs:=ps.map V.ref) (fun i ys σ G2 => ∃ (v0:Option V) (qs:List Addr),σ = [v0,some (.ref Pd)]∧ys=qs.map V.ref∧Paired (fun p (x:Int × (Nat × Nat))=>G2 p=some (.tup [.int x.1,.int (x.2.1:Int),.int (x.2.2:Int)])) qs (((kl.take i).filter fun k=>decide (0<getP c k)).map fun k=>(getP c k,k))∧Same H10 G2)
        ⟨none,[],rfl,rfl,.nil,Same.refl _⟩ (fun i ys σ G2 hi ⟨_,qs,_,e1,e2,e3⟩=>⟨SqL.of (e3 _ _ wS),by rw [e1,List.length_map,Paired.length e2,List.length_map];exact Nat.le_trans (List.length_filter_le _ _) (by rw [List.length_take];omega)⟩) (by rw [List.length_map];exact Nat.le_of_lt (small6 (by omega))) ?_ ?_
      · rintro i y ys σ G2 hi ⟨v0,qs,rfl,rfl,k1,sG2⟩
        obtain ⟨p,hpi,rfl⟩:=at_ref hi
        obtain ⟨e,he1,he2⟩ : ∃ e,kl[i]? = some e∧H10 p=some (.tup [.int (e.1:Int),.int (e.2:Int)]):=by
          have:∀ {ps:List Addr}{w:List (Nat × Nat)}{i:Nat}{p:Addr},Paired (fun p (k:Nat × Nat)=>H10 p=some (.tup [.int (k.1:Int),.int (k.2:Int)])) ps w→ps[i]? = some p→∃ e,w[i]? = some e∧H10 p=some (.tup [.int (e.1:Int),.int (e.2:Int)]):=by
            intro ps w i p h
            induction h generalizing i with
            | nil=>intro z;cases z
            | cons e r ih =>
              intro z
              cases i with
              | zero=>cases z;exact ⟨_,rfl,e⟩
              | succ i=>exact ih z
          exact this hpd' hpi
        have hem:e∈c.map (·.1):=hperm.mem_iff.mp (List.mem_of_getElem? he1)
        have htk:kl.take (i+1)=kl.take i ++ [e]:=by rw [List.take_add_one,he1];rfl
        unfold gName
        refine ⟨_,rfl,_,rfl,Pd,_,rfl,qget1 (sG2 _ _ g1s) (sG2 _ _ he2) hem,_,_,rfl,rfl,_,rfl,?_⟩
        refine ite2 (fun hg => ?_) (fun hg => ?_)
        · have hg' : 0<getP c e:=of_decide_eq_true hg
          refine ⟨_,rfl,_,rfl,Pd,_,rfl,qget1 (sG2 _ _ g1s) (sG2 _ _ he2) hem,_,rfl,p,_,_,_,rfl,rfl,SqT.of (sG2 _ _ he2),rfl,_,rfl,p,_,_,_,rfl,rfl,SqT.of (sG2 _ _ he2),rfl,(by show 3≤sizeLine;decide),fun d hd => ?_⟩
          have b1:Same G2 (upd G2 d (.tup [.int (getP c e),.int (e.1:Int),.int (e.2:Int)])):=Same.upd hd
          refine ⟨_,qs ++ [d],rfl,(by rw [List.map_append];rfl),?_,sG2.trans b1⟩
          rw [htk,List.filter_append,List.filter_cons,if_pos (decide_eq_true hg'),List.map_append]
          exact paired_snoc (Paired.mapP k1 fun _ _ e=>b1 _ _ e) upd_same
        · refine ⟨_,qs,rfl,rfl,?_,sG2⟩
          rw [htk,List.filter_append,List.filter_cons,if_neg hg]
          simpa using k1
      · rintro ys σ G2 ⟨v0,qs,rfl,rfl,k1,sG2⟩ D hD
        rw [List.length_map,hpl,List.take_length] at k1
        have s11:Same G2 (upd G2 D (.lst (qs.map V.ref))):=Same.upd hD
        have k2:=Paired.mapP k1 fun _ _ e=>s11 _ _ e
        have wD:upd G2 D (.lst (qs.map V.ref)) D=some (.lst (qs.map V.ref)):=upd_same
        have S11:=S10.trans (sG2.trans s11)
        generalize upd G2 D (.lst (qs.map V.ref))=H11 at k2 wD S11 ⊢
        refine ⟨(by show 3≤sizeLine;decide),fun t ht => ?_⟩
        have s12:Same H11 (upd H11 t (.tup [.int num,.int (gN:Int),.ref D])):=Same.upd ht
        refine q t D num gN _ _ upd_same ⟨qs,s12 _ _ wD,Paired.mapP k2 fun _ _ e=>s12 _ _ e⟩ (by rw [List.length_map];exact Nat.le_trans (List.length_filter_le _ _) (by omega)) (fun p hp => ?_) (fun g' => ?_) ?_ (fun j hj => ?_) (S11.trans s12)
        · obtain ⟨k,hk,rfl⟩:=List.mem_map.mp hp
          obtain ⟨h1,h2⟩:=List.mem_filter.mp hk
          exact ⟨of_decide_eq_true h2,g2.keys k (hperm.mem_iff.mp h1)⟩
        · rw [sum_filter_caps g2.nonneg g2.nodup hperm,g3]
        · rw [← g3,hzero,Int.add_zero]
        · rw [hsb] at hj;exact hks j (of_decide_eq_true hj)
    · obtain ⟨x,r,ew,hx,hch,hr,hdl⟩:=hWay.ends
      obtain ⟨ps,p1,p2⟩:=id hP
      have hpl:ps.length=w'.length:=Paired.length p2
      have hwpos : 0<w'.length:=by rw [ew];exact Nat.succ_pos _
      have hw8:w'.length≤17:=by
        have:=nodup_le (B:=0 :: bitsF f) hWay.once fun y hy=>by
          rw [ew] at hy
          rcases List.mem_cons.mp hy with z | z
          · rw [z];exact List.mem_cons_self ..
          · obtain ⟨e,he,rfl⟩:=List.mem_map.mp z
            exact List.mem_cons_of_mem _ (hr e he).1
        rw [List.length_map,List.length_cons] at this
        omega
      refine ⟨_,rfl,_,.inl ⟨_,SqL.of p1,rfl⟩,iteY (by
        have:ps≠[]:=fun z=>by rw [z] at hpl;simp at hpl;omega
        simpa using this) ?_⟩
      refine ⟨_,fun σ' G' z=>z,?_⟩
      refine ⟨_,rfl,Wd,rfl,⟨_,SqL.of p1⟩,?_⟩
      refine comp_list (K:=K) (a:=Wd) (xs:=ps.map V.ref) (fun i ys σ G2 => ∃ v0:Option V,σ = [v0,some (.ref Pd)]∧ys=((w'.take i).map fun e=>getP c e).map V.int∧G2=G)
        ⟨none,rfl,rfl,rfl⟩ (fun i ys σ G2 hi ⟨_,_,e1,e2⟩=>⟨by rw [e2];exact SqL.of p1,by rw [e1,List.length_map,List.length_map,List.length_take];omega⟩) (by rw [List.length_map];exact Nat.le_of_lt (small6 (by omega))) ?_ ?_
      · rintro i y ys σ G2 hi ⟨v0,rfl,rfl,rfl⟩
        obtain ⟨p,hpi,rfl⟩:=at_ref hi
        obtain ⟨e,he1,he2⟩ : ∃ e,w'[i]? = some e∧G2 p=some (.tup [.int (e.1:Int),.int (e.2:Int)]):=by
          have:∀ {ps:List Addr}{w:List (Nat × Nat)}{i:Nat}{p:Addr},Paired (fun p (k:Nat × Nat)=>G2 p=some (.tup [.int (k.1:Int),.int (k.2:Int)])) ps w→ps[i]? = some p→∃ e,w[i]? = some e∧G2 p=some (.tup [.int (e.1:Int),.int (e.2:Int)]):=by
            intro ps w i p h
            induction h generalizing i with
            | nil=>intro z;cases z
            | cons e r ih =>
              intro z
              cases i with
              | zero=>cases z;exact ⟨_,rfl,e⟩
              | succ i=>exact ih z
          exact this p2 hpi
        have hem:e∈c.map (·.1):=getP_pos_mem (by have:=hpos e (List.mem_of_getElem? he1);omega)
        unfold gName
        refine tt ?_
        refine ⟨_,rfl,_,rfl,Pd,_,rfl,qget1 g1 he2 hem,_,rfl,?_,rfl⟩
        rw [List.take_add_one,he1,List.map_append,List.map_append];rfl
      rintro ys σ G2 ⟨v0,rfl,rfl,rfl⟩ L hL
      have eL:(w'.take (ps.map V.ref).length)=w':=by rw [List.length_map,hpl,List.take_length]
      rw [eL]
      have s8:Same G2 (upd G2 L (.lst ((w'.map fun e=>getP c e).map V.int))):=Same.upd hL
      refine ⟨L,_,rfl,SqL.of upd_same,by rw [List.length_map];exact hwpos,fun n hmin => ?_⟩
      have g1':=s8 _ _ g1
      have gB':=s8 _ _ gB
      have hP':=hP.keep s8
      have sG':=sG.trans s8
      generalize upd G2 L (.lst ((w'.map fun e=>getP c e).map V.int))=G3 at g1' gB' hP' sG' ⊢
      have hn0 : 0<n:=by
        obtain ⟨e,he,e2⟩:=List.mem_map.mp hmin.1
        rw [← e2];exact hpos e he
      have hall:∀ e∈w',n≤getP c e:=fun e he=>hmin.2 _ (List.mem_map.mpr ⟨e,he,rfl⟩)
      refine ⟨_,rfl,_,rfl,_,rfl,Pd,Wd,c,bitsF f,w',n,rfl,g1',hP',g2,hb0,hn0,hall,hWay.once,by omega,(fun c' h=>by have:=Net.len h hb0 hbl;omega),fun c' G4 hc' hN' hw' sx => ?_⟩
      have hmv:∀ g,wP c' g=wP c g-n:=fun g=>by
        rw [hw' g,ew,moved_all g (hbS x hx) hch (fun e he=>⟨hbS _ (hr e he).1,(hr e he).2.1.imp id (hbS _)⟩) hdl];omega
      have sG4:=SameX.same sG' sx hPd0
      have gB4:=sx _ _ gB' hPB
      refine ⟨_,rfl,_,rfl,_,_,rfl,rfl,?_⟩
      refine ⟨_,rfl,_,rfl,Pd,B,c',bitsF f,rfl,hc',gB4,by omega,hb0,fun Wd2 H9 hWd2 hst2 s9 => ?_⟩
      have h0:=hmv 0
      have h1:=wP_nonneg hN'.nonneg 0
      have h2:=g3 0
      refine ⟨(worthL f ((0:Nat) : Int)-(num+n)).toNat,by rw [hm];omega,c',num+n,Wd2,_,_,rfl,s9 _ _ hc',hN',fun g=>by rw [hmv,← g3];omega,rfl,s9 _ _ gB4,ne_of_none' hc' hWd2,sG4.trans s9,hst2⟩
theorem paired_at {α β : Type}{R : α → β → Prop} : ∀ {l:List α}{m:List β}{i:Nat}{a : α},Paired R l m→l[i]? = some a→∃ b,m[i]? = some b∧R a b
  | _,_,_,_,.nil,h=>by cases h
  | _,_,0,_,.cons e r,h=>by cases h;exact ⟨_,rfl,e⟩
  | _,_,i+1,_,.cons e r,h=>paired_at (i:=i) r h
def spPAt (K:PySem.W.Frag) : Sp:=fun vs H Q _ => ∃ (D:Addr) (pr:List (Int × (Nat × Nat))) (g:Nat),vs=[.ref D,.int (g:Int)]∧Trp H D pr∧Q (.int (pr.map fun p=>p.1 * oneP p.2 g).sum) H
theorem sc_law_products_at:FnScope ["_law_products_here", "_law_given", "_law_total", "_law_number", "_law_one", "_law_turned"] ["_law_products_here", "_law_given"] (defScope s_law_products_at):=⟨rfl,rfl,rfl,by decide +kernel,rfl,by decide +kernel,by decide +kernel⟩
theorem ok_law_products_at (T:Txt K mg) : FnOk P w K mg base CX0 1 T.a_law_products_at T.fd_law_products_at ["_law_products_here", "_law_given"] (spPAt K):=by
  refine T.d_law_products_at.F.ok sc_law_products_at (fun vs H Q E h => ?_) (fun cdv A outer s H vs Q E hr h => ?_)
  · obtain ⟨D,pr,g,rfl,hT,q⟩:=h;rfl
  · obtain ⟨D,pr,g,rfl,hT,q⟩:=h
    have hu:=hu_of hr
    refine ⟨_,(pss_cons (ps_set (i:=2) sc_law_products_at.nd rfl (Or.inl rfl) pe_int)
      (pss_cons (ps_for PassesOwn.never rfl (pi_list (pv 0)) (pg_tup (n:=3) rfl (pgs_cons (pg_name (i:=3) sc_law_products_at.nd rfl (Or.inl rfl)) (pgs_cons (pg_name (i:=4) sc_law_products_at.nd rfl (Or.inl rfl)) (pgs_cons (pg_name (i:=5) sc_law_products_at.nd rfl (Or.inl rfl)) pgs_nil))))
        (pss_one (ps_if (PW.pt (pw_and (pt_cmpR op_eq (pe_op op_and (pv 4) (pv 1)) (pv 4) (nomark _)) (pw_and1 (pt_cmpR op_eq (pe_op op_and (pv 5) (pv 1)) pe_int (nomark _))))) (pss_one (ps_set (i:=2) sc_law_products_at.nd rfl (Or.inl rfl) (pe_op op_add (pv 2) (pv 3)))) pss_nil)))
      (pss_one (ps_ret (pv 2))))),?_⟩
    obtain ⟨ps,hD1,hD2⟩:=hT
    have hpl:=hD2.length
    refine ⟨_,rfl,D,rfl,⟨_,SqL.of hD1⟩,?_⟩
    refine for_list (K:=K) (a:=D) (xs:=ps.map V.ref) (fun i σ G => ∃ v7 v8 v9:Option V,σ = [some (.ref D),some (.int (g:Int)),some (.int ((pr.take i).map fun p=>p.1 * oneP p.2 g).sum),v7,v8,v9]∧G=H)
      ⟨none,none,none,rfl,rfl⟩ (fun i σ G _ ⟨_,_,_,_,e⟩=>by rw [e];exact SqL.of hD1) ?_ ?_
    · rintro i y σ G hi ⟨v7,v8,v9,rfl,rfl⟩
      obtain ⟨p,hpi,rfl⟩:=at_ref hi
      obtain ⟨x,hx1,hx2⟩:=paired_at hD2 hpi
      refine ⟨p,_,rfl,SqT.of hx2,rfl,_,_,rfl,_,_,rfl,_,_,rfl,rfl,?_⟩
      have es:((pr.take (i+1)).map fun p=>p.1 * oneP p.2 g).sum=((pr.take i).map fun p=>p.1 * oneP p.2 g).sum+x.1 * oneP x.2 g:=by
        rw [List.take_add_one,hx1,List.map_append,List.sum_append];simp
      refine ⟨_,rfl,_,rfl,_,_,rfl,rfl,_,rfl,rfl,_,rfl,ite2 (fun h1 => ?_) (fun h1 => ?_)⟩
      · have a1:x.2.1 &&& g=x.2.1:=by
          have w:V.int (Builtin.bitAnd ((x.2.1:Nat) : Int) (g:Int))=V.int ((x.2.1:Nat) : Int):=of_decide_eq_true h1
          rw [bitAnd_nat] at w
          exact_mod_cast (V.int.inj w)
        refine ⟨_,rfl,_,rfl,_,_,rfl,rfl,rfl,_,rfl,ite2 (fun h2 => ?_) (fun h2 => ?_)⟩
        · have a2:x.2.2 &&& g=0:=by
            have w:V.int (Builtin.bitAnd ((x.2.2:Nat) : Int) (g:Int))=V.int 0:=of_decide_eq_true h2
            rw [bitAnd_nat] at w
            exact_mod_cast (V.int.inj w)
          have e1:oneP x.2 g=1:=if_pos (show onP x.2 g from ⟨a1,a2⟩)
          rw [e1,Int.mul_one] at es
          refine ⟨_,rfl,_,rfl,_,_,rfl,rfl,some (.int x.1),some (.int (x.2.1:Int)),some (.int (x.2.2:Int)),?_,rfl⟩
          rw [es];rfl
        · have e1:oneP x.2 g=0:=if_neg (show ¬ onP x.2 g from fun z=>h2 (decide_eq_true (by
            show V.int (Builtin.bitAnd ((x.2.2:Nat) : Int) (g:Int))=V.int 0
            rw [bitAnd_nat,z.2];rfl)))
          rw [e1,Int.mul_zero,Int.add_zero] at es
          refine ⟨some (.int x.1),some (.int (x.2.1:Int)),some (.int (x.2.2:Int)),?_,rfl⟩
          rw [es];rfl
      · have e1:oneP x.2 g=0:=if_neg (show ¬ onP x.2 g from fun z=>h1 (decide_eq_true (by
          show V.int (Builtin.bitAnd ((x.2.1:Nat) : Int) (g:Int))=V.int ((x.2.1:Nat) : Int)
          rw [bitAnd_nat,z.1])))
        rw [e1,Int.mul_zero,Int.add_zero] at es
        refine ⟨some (.int x.1),some (.int (x.2.1:Int)),some (.int (x.2.2:Int)),?_,rfl⟩
        rw [es];rfl
    · rintro σ G ⟨v7,v8,v9,rfl,rfl⟩
      rw [List.length_map,hpl,List.take_length]
      exact ⟨_,rfl,q⟩
def spParts (K:PySem.W.Frag) : Sp:=fun vs H Q _ => ∃ (T b:Nat),vs=[.int (T:Int)]∧T<2^16∧(∀ i,T.testBit i=true→i<6∨i=b) ∧
  ∀ (c:Addr) (H':Hp),H c=none→TLo H' c (partsN T 62)→Same H H'→Q (.ref c) H'
theorem sc_law_parts:FnScope ["_law_one", "_law_found", "_law_k"] ["_law_one"] (defScope s_law_parts):=⟨rfl,rfl,rfl,by decide +kernel,rfl,by decide +kernel,by decide +kernel⟩
theorem nd_law_parts_1:(["_law_part", "_law_sign", "_law_k"] : List Str).Nodup:=by decide +kernel
theorem ok_law_parts (T:Txt K mg) : FnOk P w K mg base CX0 1 T.a_law_parts T.fd_law_parts ["_law_one"] (spParts K):=by
  refine T.d_law_parts.F.ok sc_law_parts (fun vs H Q E h => ?_) (fun cdv A outer s H vs Q E hr h => ?_)
  · obtain ⟨tn,b,rfl,h16,hb,q⟩:=h;rfl
  · obtain ⟨tn,b,rfl,h16,hb,q⟩:=h
    have hu:=hu_of hr
    refine ⟨_,(pss_cons (ps_set (i:=1) sc_law_parts.nd rfl (Or.inl rfl) (pe_lst (pa_cons (pe_tup (pa_cons pe_int (pa_cons pe_int pa_nil))) pa_nil)))
      (pss_cons (ps_for PassesOwn.never rfl (pi_range1 rfl T.n_range (pa_cons pe_int pa_nil)) (pg_name (i:=2) sc_law_parts.nd rfl (Or.inr rfl))
        (pss_one (ps_if (pt_cmpR op_eq (pe_op op_mod (pe_op op_fdivG (pv 0) (pe_op op_shl pe_int (pv 2))) pe_int) pe_int (nomark _)) (pss_one (ps_set (i:=1) sc_law_parts.nd rfl (Or.inl rfl) (pe_op op_cat (pv 1) (pe_comp (g:=(gTup K 2 (gCons (gName 0) (gCons (gName 1) gNil)))) ["_law_part", "_law_sign", "_law_k"] 2 [2] rfl (by exact CompSc.of (defScope s_law_parts) ["_law_one", "_law_found", "_law_k"] rfl rfl rfl (by decide +kernel) rfl (by decide +kernel) (by decide +kernel)) (pi_list (pv 1))
        (fun cl C s₀ H₀ fp=>(pg_tup (n:=2) rfl (pgs_cons (pg_name (i:=0) nd_law_parts_1 rfl (Or.inl rfl) (Or.inr rfl)) (pgs_cons (pg_name (i:=1) nd_law_parts_1 rfl (Or.inl rfl) (Or.inr rfl)) pgs_nil)))) (fun cl C s₀ H₀ fp=>pts_nil) (fun cl C s₀ H₀ fp=>(pe_tup (pa_cons (pe_op op_add (pv 0) (pe_op op_shl pe_int (pv 2))) (pa_cons (pe_op op_sub pe_int (pv 1)) pa_nil)))))))) pss_nil)))
      (pss_one (ps_ret (pv 1))))),?_⟩
    refine ⟨(by show 2≤sizeLine;decide),fun t1 ht1=>⟨(by show 1≤sizeLine;decide),fun e1 he1 => ?_⟩⟩
    have b1:Same H (upd H t1 (.tup [.int 0,.int 1])):=Same.upd ht1
    have b2:Same (upd H t1 (.tup [.int 0,.int 1])) (upd (upd H t1 (.tup [.int 0,.int 1])) e1 (.lst [.ref t1])):=Same.upd he1
    have eT:TLo (upd (upd H t1 (.tup [.int 0,.int 1])) e1 (.lst [.ref t1])) e1 [(0,1)]:=⟨[t1],upd_same,.cons (b2 _ _ upd_same) .nil⟩
    have s1:=b1.trans b2
    have he:H e1=none:=b1.free he1
    generalize upd (upd H t1 (.tup [.int 0,.int 1])) e1 (.lst [.ref t1])=H1 at eT s1
    refine ⟨16,rfl,by decide,by decide,for_range (n:=16) (fun i σ H2 => ∃ (e:Addr) (v2:Option V),σ = [some (.int (tn:Int)),some (.ref e),v2]∧TLo H2 e (partsN tn i)∧H e=none∧Same H H2) ⟨e1,none,rfl,eT,he,s1⟩ ?_ ?_⟩
    · rintro i σ H2 hi ⟨e,v2,rfl,hTe,hen,s2⟩
      have e0:(0:Int)+(i:Int)=(i:Int):=Int.zero_add _
      have e1':(1:Int) * 2^((0+(i:Int))).toNat=2^i:=by rw [e0,shl_eq]
      have pw:=pow_cast i
      have hpp:=Nat.two_pow_pos i
      have hlt:(2:Nat)^i<2^16:=Nat.pow_lt_pow_right (by decide) hi
      have hl:(partsN tn i).length≤128:=by
        have:=parts_len hb i
        have e : 2^(min i 6)≤2^6:=Nat.pow_le_pow_right (by decide) (by omega)
        split at this <;> omega
      refine ⟨_,rfl,_,rfl,_,_,rfl,rfl,⟨by omega,by omega,by decide⟩,_,_,rfl,rfl,(by rw [e1',pw];exact divG_of (by omega) (by omega)),_,_,rfl,rfl,(by show (0:Int)<2;decide),rfl,_,rfl,?_⟩
      have eb:(tn:Int) / (1 * 2^((0+(i:Int))).toNat) % 2=if tn.testBit i=true then 1 else 0:=by
        rw [e1',pw,Nat.testBit_eq_decide_div_mod_eq]
        have:((tn:Int) / ((2^i:Nat) : Int) % 2)=((tn / 2^i % 2:Nat) : Int):=by norm_cast
        rw [this]
        by_cases z:tn / 2^i % 2=1
        · simp [z]
        · have:tn / 2^i % 2=0:=by omega
          simp [this]
      show if decide (V.int ((tn:Int) / (1 * 2^((0+(i:Int))).toNat) % 2)=V.int 1)=true then _ else _
      rw [eb]
      by_cases hT:tn.testBit i=true
      · rw [if_pos hT]
        refine iteY (by decide) ?_
        refine ⟨_,rfl,_,rfl,e,rfl,hTe.tl.seq,?_⟩
        refine comp_pairs (fun u=>(u.1+2^i,0-u.2)) hTe.tl (by omega) [some (.int (0+(i:Int)))] rfl (fun u hu H3 R s3 kk => ?_) fun D ys H3 hD hT3 s3 => ?_
        · refine ⟨_,rfl,_,rfl,_,_,rfl,rfl,⟨by omega,by omega,by decide⟩,_,_,rfl,rfl,_,rfl,_,_,rfl,rfl,(by show 2≤sizeLine;decide),?_⟩
          rw [e1'];exact kk
        · generalize upd H3 D (.lst ys)=H3 at hT3 s3
          obtain ⟨es,he1',he2'⟩:=hTe.keep s3
          obtain ⟨ds,hd1',hd2'⟩:=id hT3
          have n1:=he2'.length
          have n2:=hd2'.length
          rw [List.length_map] at n2
          refine ⟨e,D,_,_,rfl,rfl,he1',hd1',(by rw [List.length_map,List.length_map];exact Nat.le_of_lt (small6 (by omega))),fun c hc => ?_⟩
          have s4:Same H3 (upd H3 c (.lst (es.map V.ref++ds.map V.ref))):=Same.upd hc
          have hTc:=TLo.cat (a:=e) (b:=D) he2' hd2' s4 upd_same
          exact ⟨c,_,rfl,(by rw [partsN,if_pos hT];exact hTc),(s2.trans s3).free hc,s2.trans (s3.trans s4)⟩
      · rw [if_neg hT]
        exact iteN (by decide) ⟨e,_,rfl,(by rw [partsN,if_neg hT];exact hTe),hen,s2⟩
    · rintro σ H2 ⟨e,v2,rfl,hTe,hen,s2⟩
      exact ⟨_,rfl,q e H2 hen (by rw [parts_skip (show 16≤62 by decide) fun i h1 _=>bit_out h16 h1];exact hTe) s2⟩
def spFormOf3 (K:PySem.W.Frag) : Sp:=fun vs H Q _ => ∃ (b:Addr) (l:List T3) (n:Int),vs=[.int n,.ref b]∧T3o H b l∧(∀ t∈l,Nice t)∧(∀ t∈l,0≤t.2.1∧0≤t.2.2)∧l.length≤288∧(∀ t∈l,t.2.2<2^16) ∧
  ∀ (c:Addr) (f:Terms) (H':Hp),H c=none→TLo H' c f→FormOf f (allL n l)→f.length≤40000→Same H H'→Q (.ref c) H'
theorem sc_law_form_of:FnScope ["_law_number", "_law_products_here", "_law_some", "_law_own_here", "_law_one", "_law_turned"] ["_law_number", "_law_products_here"] (defScope s_law_form_of):=⟨rfl,rfl,rfl,by decide +kernel,rfl,by decide +kernel,by decide +kernel⟩
theorem nd_law_form_of_1:(["_law_part", "_law_sign", "_law_one", "_law_own_here"] : List Str).Nodup:=by decide +kernel
theorem ok_law_form_of (T:Txt K mg) : FnOk P w K mg base CX0 2 T.a_law_form_of T.fd_law_form_of ["_law_number", "_law_products_here"] (spFormOf3 K):=by
  refine T.d_law_form_of.F.ok sc_law_form_of (fun vs H Q E h => ?_) (fun cdv A outer s H vs Q E hr h => ?_)
  · obtain ⟨b,l,n,rfl,hTb,hni,h0,hl,h16,q⟩:=h;rfl
  · obtain ⟨b,l,n,rfl,hTb,hni,h0,hl,h16,q⟩:=h
    have hu:=hu_of hr
    refine ⟨_,(pss_cons (ps_set (i:=2) sc_law_form_of.nd rfl (Or.inl rfl) (pe_lst (pa_cons (pe_tup (pa_cons pe_int (pa_cons (pv 0) pa_nil))) pa_nil)))
      (pss_cons (ps_for PassesOwn.never rfl (pi_list (pv 1)) (pg_tup (n:=3) rfl (pgs_cons (pg_name (i:=3) sc_law_form_of.nd rfl (Or.inr rfl)) (pgs_cons (pg_name (i:=4) sc_law_form_of.nd rfl (Or.inr rfl)) (pgs_cons (pg_name (i:=5) sc_law_form_of.nd rfl (Or.inl rfl)) pgs_nil))))
        (pss_one (ps_set (i:=2) sc_law_form_of.nd rfl (Or.inl rfl) (pe_op op_cat (pv 2) (pe_comp (g:=(gTup K 2 (gCons (gName 0) (gCons (gName 1) gNil)))) ["_law_part", "_law_sign", "_law_one", "_law_own_here"] 2 [4,3] rfl (by exact CompSc.of (defScope s_law_form_of) ["_law_number", "_law_products_here", "_law_some", "_law_own_here", "_law_one", "_law_turned"] rfl rfl rfl (by decide +kernel) rfl (by decide +kernel) (by decide +kernel)) (pi_list (pe_call (ok_law_parts (P:=P) (w:=w) (base:=base) T) hr (by rfl) T.d_law_parts.m T.d_law_parts.F.kp T.d_law_parts.b .nil pass0 (pa_cons (pv 5) pa_nil)))
        (fun cl C s₀ H₀ fp=>(pg_tup (n:=2) rfl (pgs_cons (pg_name (i:=0) nd_law_form_of_1 rfl (Or.inl rfl) (Or.inr rfl)) (pgs_cons (pg_name (i:=1) nd_law_form_of_1 rfl (Or.inl rfl) (Or.inr rfl)) pgs_nil)))) (fun cl C s₀ H₀ fp=>pts_nil) (fun cl C s₀ H₀ fp=>(pe_tup (pa_cons (pe_op op_or (pv 2) (pv 0)) (pa_cons (pe_op op_mulO (pv 3) (pv 1)) pa_nil)))))))))
      (pss_one (ps_ret (pe_call (ok_law_made (P:=P) (w:=w) (base:=base) T) hr (by rfl) T.d_law_made.m T.d_law_made.F.kp T.d_law_made.b .nil pass0 (pa_cons (pv 2) pa_nil)))))),?_⟩
    obtain ⟨ps,hb,hP⟩:=id hTb
    have hpl:=hP.length
    refine ⟨_,rfl,(by show 2≤sizeLine;decide),fun t1 ht1=>⟨(by show 1≤sizeLine;decide),fun e1 he1 => ?_⟩⟩
    have b1:Same H (upd H t1 (.tup [.int 0,.int n])):=Same.upd ht1
    have b2:Same (upd H t1 (.tup [.int 0,.int n])) (upd (upd H t1 (.tup [.int 0,.int n])) e1 (.lst [.ref t1])):=Same.upd he1
    have eT:TLo (upd (upd H t1 (.tup [.int 0,.int n])) e1 (.lst [.ref t1])) e1 [(0,n)]:=⟨[t1],upd_same,.cons (b2 _ _ upd_same) .nil⟩
    have s2:=b1.trans b2
    generalize upd (upd H t1 (.tup [.int 0,.int n])) e1 (.lst [.ref t1])=H3 at eT s2
    refine ⟨_,rfl,b,rfl,⟨_,SqL.of (s2 _ _ hb)⟩,?_⟩
    refine for_list (K:=K) (a:=b) (xs:=ps.map V.ref) (fun i σ H4 => ∃ (e:Addr) (v3 v4 v5:Option V),σ = [some (.int n),some (.ref b),some (.ref e),v3,v4,v5]∧TLo H4 e (allL n (l.take i))∧Same H H4)
      ⟨e1,none,none,none,rfl,eT,s2⟩ (fun i σ H4 _ ⟨_,_,_,_,_,_,e⟩=>SqL.of (e _ _ hb)) ?_ ?_
    · rintro i y σ H4 hi ⟨e,v3,v4,v5,rfl,hT4,s4⟩
      obtain ⟨p,hpi,rfl⟩:=at_ref hi
      obtain ⟨t,ht1,ht2⟩:=hP.at' hpi
      have htm:=List.mem_of_getElem? ht1
      obtain ⟨z1,z2⟩:=h0 t htm
      obtain ⟨_,b',hb'⟩:=hni t htm
      refine ⟨p,_,rfl,SqT.of (s4 _ _ ht2),rfl,_,_,rfl,_,_,rfl,_,_,rfl,rfl,?_⟩
      refine ⟨_,rfl,_,rfl,t.2.2.toNat,b',(by rw [key_nat z2];rfl),(by have:=h16 t htm;omega),hb',fun c H5 hc hT5 s5 => ?_⟩
      have n4:=open_len (hni t htm)
      have n5:(partsN t.2.2.toNat 62).length≤128:=by unfold openL mapS at n4;rw [List.length_map] at n4;exact n4
      refine ⟨c,rfl,hT5.tl.seq,?_⟩
      refine comp_pairs (fun u=>(Builtin.bitOr t.2.1 u.1,t.1 * u.2)) hT5.tl (by omega) [some (.int t.2.1),some (.int t.1)] rfl (fun u hu H6 R s6 kk => ?_) fun D ys H6 hD hT6 s6 => ?_
      · have hs:=(parts_rng u hu).2.2
        exact ⟨_,rfl,_,rfl,_,_,rfl,rfl,_,rfl,_,rfl,_,_,rfl,rfl,mulR (by omega) (by omega),(by show 2≤sizeLine;decide),kk⟩
      · generalize upd H6 D (.lst ys)=H6 at hT6 s6
        obtain ⟨es,he1',he2'⟩:=(hT4.keep s5).keep s6
        obtain ⟨ds,hd1',hd2'⟩:=id hT6
        have n1:=he2'.length
        have n2:=hd2'.length
        have n3:=all_len (n:=n) (l:=l.take i) fun u hu=>hni u (List.mem_of_mem_take hu)
        rw [List.length_take] at n3
        rw [List.length_map] at n2
        refine ⟨e,D,_,_,rfl,rfl,he1',hd1',(by rw [List.length_map,List.length_map];exact Nat.le_of_lt (small6 (by omega))),fun c2 hc2 => ?_⟩
        have s7:Same H6 (upd H6 c2 (.lst (es.map V.ref++ds.map V.ref))):=Same.upd hc2
        have hTc:=TLo.cat (a:=e) (b:=D) he2' hd2' s7 upd_same
        have e2:allL n (l.take (i+1))=allL n (l.take i)++openL t:=by
          unfold allL
          rw [List.take_add_one,ht1,List.flatMap_append]
          show _=((0,n) :: (l.take i).flatMap openL)++openL t
          simp
        exact ⟨c2,_,_,_,rfl,(by rw [e2];exact hTc),s4.trans (s5.trans (s6.trans s7))⟩
    · rintro σ H4 ⟨e,v3,v4,v5,rfl,hT4,s4⟩
      have hl0:l.take (ps.map V.ref).length=l:=by rw [List.length_map,hpl,List.take_length]
      rw [hl0] at hT4
      have n3:=all_len (n:=n) (l:=l) hni
      refine ⟨_,rfl,e,allL n l,rfl,hT4.tl,by omega,fun c f H5 hc hT5 hF5 hl5 s5 => ?_⟩
      exact q c f H5 (s4.free hc) hT5 hF5 (by omega) (s4.trans s5)
theorem sc_law_whole:FnScope ["_law_found"] ["_law_found"] (defScope s_law_whole):=⟨rfl,rfl,rfl,by decide +kernel,rfl,by decide +kernel,by decide +kernel⟩
theorem ok_law_whole (T:Txt K mg) : FnOk P w K mg base CX0 1 T.a_law_whole T.fd_law_whole ["_law_found"] spWhole:=by
  refine T.d_law_whole.F.ok sc_law_whole (fun vs H Q E h => ?_) (fun cdv A outer s H vs Q E hr h => ?_)
  · obtain ⟨n,rfl,q⟩:=h;rfl
  · obtain ⟨n,rfl,q⟩:=h
    have hu:=hu_of hr
    refine ⟨_,(pss_one (ps_ret (pe_and (pe_callB call_isinstance (by rfl) T.n_isinstance PyProof.Rows.boot_isinstance (pa_cons (pv 0) (pa_cons (pe_bltn (v := .ty "int") (by rfl) T.n_int PyProof.Rows.boot_int rfl) pa_nil))) (pe_one (pe_not (pe_callB call_isinstance (by rfl) T.n_isinstance PyProof.Rows.boot_isinstance (pa_cons (pv 0) (pa_cons (pe_bltn (v := .ty "bool") (by rfl) T.n_bool PyProof.Rows.boot_bool rfl) pa_nil)))))))),?_⟩
    refine ⟨_,rfl,_,_,_,true,rfl,.int _,kit_same,true,rfl,iteT ?_⟩
    exact ⟨_,rfl,_,_,_,false,rfl,.int _,kit_int_bool,false,rfl,q⟩
def spLawProds (K:PySem.W.Frag) : Sp:=fun vs H Q _ => ∃ (a:Addr) (pr:List (Int × (Nat × Nat))) (bits:List Nat) (m:Nat),vs=[.ref a,.int (m:Int)]∧Trp H a pr∧(∀ p∈pr,0<p.1∧KeyOk bits p.2)∧(∀ x∈bits,∃ k,k<m∧x=2^k)∧m≤16∧pr.length≤1000∧∀ H',Same H H'→Q (.bl true) H'
theorem key_facts {bits:List Nat}{m:Nat}{k:Nat × Nat} (h:KeyOk bits k) (hb:∀ x∈bits,∃ j,j<m∧x=2^j) : k.1 &&& k.2=0∧k.1 ||| k.2<2^m∧∃ i j,∀ n,(k.1 ||| k.2).testBit n=true→n=i∨n=j:=by
  obtain ⟨s,t⟩:=k
  rcases h with ⟨e,h2⟩ | ⟨e,h2⟩ | ⟨h1,h2,hne⟩
  · have e':s=0:=e
    subst e'
    obtain ⟨j,hj,e2⟩:=hb t h2
    have e2':t=2^j:=e2
    subst e2'
    refine ⟨by simp,by show 0 ||| 2^j<_;rw [Nat.zero_or];exact Nat.pow_lt_pow_right (by decide) hj,j,j,fun n hn => ?_⟩
    have hn':(0 ||| 2^j).testBit n=true:=hn
    rw [Nat.zero_or,Nat.testBit_two_pow] at hn'
    exact .inl (of_decide_eq_true hn').symm
  · have e':t=0:=e
    subst e'
    obtain ⟨j,hj,e2⟩:=hb s h2
    have e2':s=2^j:=e2
    subst e2'
    refine ⟨by simp,by show 2^j ||| 0<_;rw [Nat.or_zero];exact Nat.pow_lt_pow_right (by decide) hj,j,j,fun n hn => ?_⟩
    have hn':(2^j ||| 0).testBit n=true:=hn
    rw [Nat.or_zero,Nat.testBit_two_pow] at hn'
    exact .inl (of_decide_eq_true hn').symm
  · obtain ⟨i,hi,e1⟩:=hb s h1
    obtain ⟨j,hj,e2⟩:=hb t h2
    have e1':s=2^i:=e1
    have e2':t=2^j:=e2
    subst e1' e2'
    have hij:i≠j:=fun z=>hne (by show 2^i=2^j;rw [z])
    refine ⟨Nat.eq_of_testBit_eq fun n => ?_,Nat.or_lt_two_pow (Nat.pow_lt_pow_right (by decide) hi) (Nat.pow_lt_pow_right (by decide) hj),i,j,fun n hn => ?_⟩
    · show (2^i &&& 2^j).testBit n=_
      rw [Nat.testBit_and,Nat.testBit_two_pow,Nat.testBit_two_pow,Nat.zero_testBit]
      by_cases y:i=n
      · have : ¬ j=n:=fun z=>hij (y.trans z.symm)
        simp [this]
      · simp [y]
    · have hn':(2^i ||| 2^j).testBit n=true:=hn
      rw [Nat.testBit_or,Nat.testBit_two_pow,Nat.testBit_two_pow,Bool.or_eq_true] at hn'
      exact hn'.imp (fun z=>(of_decide_eq_true z).symm) fun z=>(of_decide_eq_true z).symm
theorem sc_law_products:FnScope ["_law_found", "_law_many", "_law_part", "_law_number", "_law_both"] ["_law_found", "_law_many"] (defScope s_law_products):=⟨rfl,rfl,rfl,by decide +kernel,rfl,by decide +kernel,by decide +kernel⟩
theorem nd_law_products_2:(["_law_k", "_law_both"] : List Str).Nodup:=by decide +kernel
theorem ok_law_products (T:Txt K mg) : FnOk P w K mg base CX0 2 T.a_law_products T.fd_law_products ["_law_found", "_law_many"] (spLawProds K):=by
  refine T.d_law_products.F.ok sc_law_products (fun vs H Q E h => ?_) (fun cdv A outer s H vs Q E hr h => ?_)
  · obtain ⟨a,pr,bits,m,rfl,hT,hpr,hb,hm,hln,q⟩:=h;rfl
  · obtain ⟨a,pr,bits,m,rfl,hT,hpr,hb,hm,hln,q⟩:=h
    have hu:=hu_of hr
    refine ⟨_,(pss_cons (ps_if (pt_not (pt_val (pe_callB call_isinstance (by rfl) T.n_isinstance PyProof.Rows.boot_isinstance (pa_cons (pv 0) (pa_cons (pe_bltn (v := .ty "list") (by rfl) T.n_list PyProof.Rows.boot_list rfl) pa_nil))) (fun _=>rfl))) (pss_one (ps_ret pe_bl)) pss_nil)
      (pss_cons (ps_for PassesOwn.never rfl (pi_list (pv 0)) (pg_name (i:=2) sc_law_products.nd rfl (Or.inl rfl))
        (pss_cons (ps_if (PW.pt (pw_or (pt_not (pt_val (pe_callB call_isinstance (by rfl) T.n_isinstance PyProof.Rows.boot_isinstance (pa_cons (pv 2) (pa_cons (pe_bltn (v := .ty "tuple") (by rfl) T.n_tuple PyProof.Rows.boot_tuple rfl) pa_nil))) (fun _=>rfl))) (pw_or1 (pt_cmpR op_ne (pe_callB call_len_seq (by rfl) T.n_len PySem.boot_len (pa_cons (pv 2) pa_nil)) pe_int (nomark _))))) (pss_one (ps_ret pe_bl)) pss_nil)
      (pss_cons (ps_for PassesOwn.never rfl (pi_tup (pv 2)) (pg_name (i:=3) sc_law_products.nd rfl (Or.inl rfl))
        (pss_one (ps_if (PW.pt (pw_or (pt_not (pt_val (pe_call (ok_law_whole (P:=P) (w:=w) (base:=base) T) hr (by rfl) T.d_law_whole.m T.d_law_whole.F.kp T.d_law_whole.b .nil pass0 (pa_cons (pv 3) pa_nil)) (fun _=>rfl))) (pw_or1 (pt_cmpR op_lt (pv 3) pe_int (nomark _))))) (pss_one (ps_ret pe_bl)) pss_nil)))
      (pss_cons (ps_set (i:=4) sc_law_products.nd rfl (Or.inr rfl) (pe_op op_or (pe_ix ix_tup (pv 2) pe_int (fun _ _=>rfl)) (pe_ix ix_tup (pv 2) pe_int (fun _ _=>rfl))))
      (pss_cons (ps_if (PW.pt (pw_or (pt_cmpR op_eq (pe_ix ix_tup (pv 2) pe_int (fun _ _=>rfl)) pe_int (nomark _)) (pw_or (pt_cmpR op_ne (pe_op op_and (pe_ix ix_tup (pv 2) pe_int (fun _ _=>rfl)) (pe_ix ix_tup (pv 2) pe_int (fun _ _=>rfl))) pe_int (nomark _)) (pw_or1 (pt_cmpR op_ge (pv 4) (pe_op op_shl pe_int (pv 1)) (nomark _)))))) (pss_one (ps_ret pe_bl)) pss_nil)
      (pss_one (ps_if (pt_cmpR op_gt (pe_callB call_len_seq (by rfl) T.n_len PySem.boot_len (pa_cons (pe_comp (g:=(gName 0)) ["_law_k", "_law_both"] 1 [4] rfl (by exact CompSc.of (defScope s_law_products) ["_law_found", "_law_many", "_law_part", "_law_number", "_law_both"] rfl rfl rfl (by decide +kernel) rfl (by decide +kernel) (by decide +kernel)) (pi_range1 rfl T.n_range (pa_cons (pv 1) pa_nil))
        (fun cl C s₀ H₀ fp=>(pg_name (i:=0) nd_law_products_2 rfl (Or.inl rfl) (Or.inr rfl))) (fun cl C s₀ H₀ fp=>(pts_one (pt_cmpR op_eq (pe_op op_mod (pe_op op_fdivG (pv 1) (pe_op op_shl pe_int (pv 0))) pe_int) pe_int (nomark _)))) (fun cl C s₀ H₀ fp=>(pv 0))) pa_nil)) pe_int (nomark _)) (pss_one (ps_ret pe_bl)) pss_nil)))))))
      (pss_one (ps_ret pe_bl)))),?_⟩
    obtain ⟨ps,h1,h2⟩:=id hT
    have hpl:ps.length=pr.length:=Paired.length h2
    refine ⟨_,rfl,_,_,_,true,rfl,.lst h1,kit_same,true,rfl,iteF ?_⟩
    refine ⟨_,rfl,a,rfl,⟨_,SqL.of h1⟩,?_⟩
    refine for_list (K:=K) (a:=a) (xs:=ps.map V.ref) (fun i σ G => ∃ v2 v3 v4:Option V,σ = [some (.ref a),some (.int (m:Int)),v2,v3,v4]∧Same H G)
      ⟨none,none,none,rfl,Same.refl _⟩ (fun i σ G _ ⟨_,_,_,_,e⟩=>SqL.of (e _ _ h1)) ?_ ?_
    · rintro i y σ G hi ⟨v2,v3,v4,rfl,sG⟩
      obtain ⟨p,hpi,rfl⟩:=at_ref hi
      obtain ⟨x,hx1,hx2⟩:=paired_at h2 hpi
      obtain ⟨hp1,hk⟩:=hpr x (List.mem_of_getElem? hx1)
      obtain ⟨f1,f2,i1,i2,f3⟩:=key_facts hk hb
      have hp:=sG _ _ hx2
      refine ⟨_,rfl,_,_,_,true,rfl,.tup hp,kit_same,true,rfl,iteF ?_⟩
      refine ⟨_,rfl,p,_,rfl,.inr (SqT.of hp),rfl,_,rfl,iteNS rfl ?_⟩
      refine ⟨_,rfl,p,rfl,⟨_,SqT.of hp⟩,?_⟩
      refine for_tup (K:=K) (a:=p) (xs:=[.int x.1,.int (x.2.1:Int),.int (x.2.2:Int)]) (fun j σ G2 => ∃ v3 v4:Option V,σ = [some (.ref a),some (.int (m:Int)),some (.ref p),v3,v4]∧G2=G)
        ⟨_,_,rfl,rfl⟩ (fun _ _ _ _ ⟨_,_,_,e⟩=>by rw [e];exact SqT.of hp) ?_ ?_
      · rintro j y σ G2 hj ⟨v3,v4,rfl,rfl⟩
        obtain ⟨z,rfl,hz0⟩ : ∃ z:Int,y = .int z∧0≤z:=by
          match j,hj with
          | 0,hj=>cases hj;exact ⟨_,rfl,by omega⟩
          | 1,hj=>cases hj;exact ⟨_,rfl,Int.natCast_nonneg _⟩
          | 2,hj=>cases hj;exact ⟨_,rfl,Int.natCast_nonneg _⟩
        refine ⟨_,rfl,_,rfl,true,rfl,iteF ?_⟩
        refine ⟨_,rfl,_,_,rfl,rfl,_,rfl,iteN (by intro w;have:=of_decide_eq_true w;omega) ?_⟩
        exact ⟨_,_,rfl,rfl⟩
      · rintro σ G2 ⟨v3,v4,rfl,rfl⟩
        have hmx:(2:Nat)^m≤2^16:=Nat.pow_le_pow_right (by decide) hm
        have eor:Builtin.bitOr (x.2.1:Int) (x.2.2:Int)=((x.2.1 ||| x.2.2:Nat) : Int):=bitOr_nat _ _
        have e1:(1:Int) * 2^((m:Int)).toNat=((2^m:Nat) : Int):=by rw [shl_eq,pow_cast]
        refine ⟨_,rfl,p,_,_,_,rfl,rfl,SqT.of hp,rfl,_,rfl,p,_,_,_,rfl,rfl,SqT.of hp,rfl,_,_,rfl,rfl,?_⟩
        dsimp only
        rw [eor]
        refine ⟨_,rfl,p,_,_,_,rfl,rfl,SqT.of hp,rfl,rfl,_,rfl,iteN (by intro w;exact absurd (show x.1=0 by simpa using w) (by omega)) ?_⟩
        refine ⟨_,rfl,p,_,_,_,rfl,rfl,SqT.of hp,rfl,_,rfl,p,_,_,_,rfl,rfl,SqT.of hp,rfl,_,_,rfl,rfl,rfl,_,rfl,iteN (by show ¬ (!decide (V.int (Builtin.bitAnd (x.2.1:Int) (x.2.2:Int))=V.int 0))=true;rw [bitAnd_nat,f1];simp) ?_⟩
        refine ⟨_,rfl,_,rfl,_,_,rfl,rfl,⟨Int.natCast_nonneg _,by omega,by decide⟩,_,_,rfl,rfl,_,rfl,iteN (by
          intro w
          have w':((1:Int) * 2^((m:Int)).toNat)≤((x.2.1 ||| x.2.2:Nat) : Int):=of_decide_eq_true w
          rw [e1] at w'
          have:=Int.ofNat_le.mp w'
          omega) ?_⟩
        refine ⟨_,rfl,(m:Int),rfl,by omega,by omega,?_⟩
        generalize x.2.1 ||| x.2.2=bo at f2 f3
        refine comp_range (lo:=0) (n:=((m:Nat) : Int).toNat) (fun i' ys σ G5 => ∃ v0:Option V,σ = [v0,some (.int (bo:Int))]∧ys.length=((List.range i').filter fun k=>bo.testBit k).length∧G5=G2)
          ⟨none,rfl,rfl,rfl⟩ (fun i' ys σ G5 ⟨_,_,e,_⟩=>by rw [e];exact Nat.le_trans (List.length_filter_le _ _) (by simp)) (by rw [Int.toNat_natCast];exact Nat.le_of_lt (small6 (by omega))) ?_ ?_
        · rintro i' ys σ G5 hi' ⟨v0,rfl,hy,rfl⟩
          rw [Int.toNat_natCast] at hi'
          unfold gName
          have e0:(1:Int) * 2^((0+(i':Int))).toNat=((2^i':Nat) : Int):=by rw [Int.zero_add,shl_eq,pow_cast]
          have hlt:(2:Nat)^i'≤2^16:=Nat.pow_le_pow_right (by decide) (by omega)
          have hpp:=Nat.two_pow_pos i'
          refine ⟨_,rfl,_,rfl,_,_,rfl,rfl,⟨by omega,by omega,by decide⟩,_,_,rfl,rfl,(by rw [e0];exact divG_of (by omega) (by omega)),_,_,rfl,rfl,(by show (0:Int)<2;decide),rfl,_,rfl,?_⟩
          have eb:(bo:Int) / (1 * 2^((0+(i':Int))).toNat) % 2=if bo.testBit i'=true then 1 else 0:=by
            rw [e0,Nat.testBit_eq_decide_div_mod_eq]
            have:((bo:Int) / ((2^i':Nat) : Int) % 2)=((bo / 2^i' % 2:Nat) : Int):=by norm_cast
            rw [this]
            by_cases y:bo / 2^i' % 2=1
            · simp [y]
            · have:bo / 2^i' % 2=0:=by omega
              simp [this]
          show if decide (V.int ((bo:Int) / (1 * 2^((0+(i':Int))).toNat) % 2)=V.int 1)=true then _ else _
          rw [eb]
          have hsp:∀ c:Bool,bo.testBit i'=c→((List.range (i'+1)).filter fun k=>bo.testBit k).length=((List.range i').filter fun k=>bo.testBit k).length+(if c=true then 1 else 0):=fun c hc=>by
            rw [List.range_succ,List.filter_append,List.length_append]
            congr 1
            cases c <;> simp [hc]
          cases hc:bo.testBit i'
          · refine iteN (by decide) ⟨_,rfl,?_,rfl⟩
            rw [hsp false hc,hy];rfl
          · refine iteY (by decide) ⟨_,rfl,_,rfl,?_,rfl⟩
            rw [List.length_append,hsp true hc,hy];rfl
        · rintro ys σ G5 ⟨v0,rfl,hy,rfl⟩ E hE
          rw [Int.toNat_natCast] at hy
          have hle:ys.length≤2:=by
            rw [hy]
            exact nodup_le (B:=[i1,i2]) (List.nodup_range.filter _) fun k hk=>by
              rcases f3 k (List.mem_filter.mp hk).2 with z | z <;> rw [z] <;> simp
          refine ⟨E,_,rfl,.inl (SqL.of upd_same),_,_,rfl,rfl,_,rfl,iteN (by intro w;have:=of_decide_eq_true w;omega) ?_⟩
          exact ⟨_,_,_,rfl,sG.trans (Same.upd hE)⟩
    · rintro σ G ⟨v2,v3,v4,rfl,sG⟩
      exact q G sG
theorem sc_law_worth:FnScope ["_law_form_here", "_law_given"] ["_law_form_here", "_law_given"] (defScope s_law_worth):=⟨rfl,rfl,rfl,by decide +kernel,rfl,by decide +kernel,by decide +kernel⟩
theorem nd_law_worth_2:(["_law_one", "_law_number", "_law_given"] : List Str).Nodup:=by decide +kernel
theorem ok_law_worth (T:Txt K mg) : FnOk P w K mg base CX0 1 T.a_law_worth T.fd_law_worth ["_law_form_here", "_law_given"] (spWorth K):=by
  refine T.d_law_worth.F.ok sc_law_worth (fun vs H Q E h => ?_) (fun cdv A outer s H vs Q E hr h => ?_)
  · obtain ⟨a,l,g,rfl,⟨ps,hS,hT⟩,hlen,q⟩:=h;rfl
  · obtain ⟨a,l,g,rfl,⟨ps,hS,hT⟩,hlen,q⟩:=h
    have hu:=hu_of hr
    refine ⟨_,(pss_one (ps_ret (pe_callB (call_sumL rfl) (by rfl) T.n_sum PyProof.Rows.boot_sum (pa_cons (pe_comp (g:=(gTup K 2 (gCons (gName 0) (gCons (gName 1) gNil)))) ["_law_one", "_law_number", "_law_given"] 2 [1] rfl (by exact CompSc.of (defScope s_law_worth) ["_law_form_here", "_law_given"] rfl rfl rfl (by decide +kernel) rfl (by decide +kernel) (by decide +kernel)) (pi_list (pv 0))
        (fun cl C s₀ H₀ fp=>(pg_tup (n:=2) rfl (pgs_cons (pg_name (i:=0) nd_law_worth_2 rfl (Or.inl rfl) (Or.inr rfl)) (pgs_cons (pg_name (i:=1) nd_law_worth_2 rfl (Or.inl rfl) (Or.inr rfl)) pgs_nil)))) (fun cl C s₀ H₀ fp=>(pts_one (pt_cmpR op_eq (pe_op op_and (pv 0) (pv 2)) (pv 0) (nomark _)))) (fun cl C s₀ H₀ fp=>(pv 1))) pa_nil)))),?_⟩
    refine ⟨_,rfl,a,rfl,⟨_,hS⟩,?_⟩
    refine comp_list (K:=K) (a:=a) (xs:=ps.map V.ref) (fun i ys σ H2 => ∃ (v0 v1:Option V),σ = [v0,v1,some (.int g)]∧H2=H∧ys=(((l.take i).filter fun t=>decide (Builtin.bitAnd t.1 g=t.1)).map (·.2)).map V.int)
      ⟨none,none,rfl,rfl,rfl⟩ (fun i ys σ H2 hi ⟨_,_,_,e,e2⟩=>⟨by rw [e];exact hS,by
        rw [e2,List.length_map,List.length_map]
        exact Nat.le_trans (List.length_filter_le _ _) (by rw [List.length_take];omega)⟩) (by rw [List.length_map,hT.length];exact Nat.le_of_lt (small6 (by omega))) ?_ ?_
    · rintro i y ys σ H2 hi ⟨v0,v1,rfl,rfl,rfl⟩
      obtain ⟨p,hpi,rfl⟩:=at_ref hi
      obtain ⟨t,ht1,ht2⟩:=hT.at' hpi
      have htk:l.take (i+1)=l.take i ++ [t]:=by rw [List.take_add_one,ht1];rfl
      refine ⟨p,_,rfl,SqT.of ht2,rfl,_,_,rfl,_,_,rfl,rfl,?_⟩
      refine ⟨_,rfl,_,rfl,_,_,rfl,rfl,_,rfl,rfl,_,rfl,?_⟩
      refine ite2 (fun h1 => ?_) (fun h1 => ?_)
      · have h1':Builtin.bitAnd t.1 g=t.1:=by have:=of_decide_eq_true h1;injection this
        refine ⟨_,rfl,_,_,rfl,rfl,?_⟩
        rw [htk,List.filter_append,List.map_append,List.map_append]
        simp [h1']
      · have h1' : ¬ Builtin.bitAnd t.1 g=t.1:=fun z=>h1 (decide_eq_true (congrArg V.int z))
        refine ⟨_,_,rfl,rfl,?_⟩
        rw [htk,List.filter_append,List.map_append,List.map_append]
        simp [h1']
    · rintro ys σ H2 ⟨v0,v1,rfl,rfl,rfl⟩ D hD
      refine ⟨D,_,rfl,SqL.of upd_same,?_⟩
      have:=q _ (Same.upd (o := .lst ((((l.take (ps.map V.ref).length).filter fun t=>decide (Builtin.bitAnd t.1 g=t.1)).map (·.2)).map V.int)) hD)
      rw [List.length_map,hT.length,List.take_length] at this ⊢
      exact this
end
end My
set_option maxHeartbeats 4000000
namespace My
open PySem L2 OF
seal L2.PS L2.PSs L2.PE L2.PT L2.PA L2.PI L2.PG L2.PW L2.PO L2.PTs
section
variable {P:Program}{w:World}{K:PySem.W.Frag}{mg:Str→Option Value}{base:Heap}
theorem sc_law:FnScope ["_law_script", "_law_many", "_law_form_here", "_law_found", "_law_places", "_law_given"] ["_law_script"] (defScope s_law):=⟨rfl,rfl,rfl,by decide +kernel,rfl,by decide +kernel,by decide +kernel⟩
theorem nd_law_1:(["_law_k"] : List Str).Nodup:=by decide +kernel
theorem nd_law_2:(["_law_k", "_law_many", "_law_script"] : List Str).Nodup:=by decide +kernel
theorem ok_law {f:Addr}{fd:FuncData} (F:Fun K "law" "law" s_law f fd) (T:Txt K mg) : FnOk P w K mg base CX0 5 f fd ["_law_script"] (spLaw K):=by
  refine F.ok sc_law (fun vs H Q E h => ?_) (fun cdv A outer s H vs Q E hr h => ?_)
  · obtain ⟨a,ns,rfl,hS,hlen,hbits,k⟩:=h;rfl
  · obtain ⟨a,ns,rfl,hS,hlen,hbits,k⟩:=h
    have hu:=hu_of hr
    refine ⟨_,(pss_cons (ps_set (i:=1) sc_law.nd rfl (Or.inr rfl) (pe_op op_add pe_int (pe_op op_mod (pe_call (ok_law_at (P:=P) (w:=w) (base:=base) T) (hr.mono (by decide)) (by rfl) T.d_law_at.m T.d_law_at.F.kp T.d_law_at.b .nil pass0 (pa_cons (pv 0) (pa_cons pe_int pa_nil))) pe_int)))
      (pss_cons (ps_set (i:=2) sc_law.nd rfl (Or.inl rfl) (pe_call (ok_law_pull (P:=P) (w:=w) (base:=base) T) (hr.mono (by decide)) (by rfl) T.d_law_pull.m T.d_law_pull.F.kp T.d_law_pull.b .nil pass0 (pa_cons (pv 0) (pa_cons (pv 1) pa_nil))))
      (pss_cons (ps_set (i:=3) sc_law.nd rfl (Or.inl rfl) (pe_call (ok_pulled (P:=P) (w:=w) (base:=base) T) hr (by rfl) T.d_pulled.m T.d_pulled.F.kp T.d_pulled.b .nil pass0 (pa_cons (pe_callTy call_list_of rfl T.n_list PyProof.Rows.boot_list (pa_cons (pv 2) pa_nil)) pa_nil)))
      (pss_cons (ps_if (PW.pt (pw_or (pt_not (pt_val (pe_callB call_isinstance (by rfl) T.n_isinstance PyProof.Rows.boot_isinstance (pa_cons (pv 3) (pa_cons (pe_bltn (v := .ty "tuple") (by rfl) T.n_tuple PyProof.Rows.boot_tuple rfl) pa_nil))) (fun _=>rfl))) (pw_or (pt_cmpR op_ne (pe_callB call_len_seq (by rfl) T.n_len PySem.boot_len (pa_cons (pv 3) pa_nil)) pe_int (nomark _)) (pw_or (pt_not (pt_val (pe_call (ok_law_whole (P:=P) (w:=w) (base:=base) T) (hr.mono (by decide)) (by rfl) T.d_law_whole.m T.d_law_whole.F.kp T.d_law_whole.b .nil pass0 (pa_cons (pe_ix ix_tup (pv 3) pe_int (fun _ _=>rfl)) pa_nil)) (fun _=>rfl))) (pw_or1 (pt_not (pt_val (pe_call (ok_law_whole (P:=P) (w:=w) (base:=base) T) (hr.mono (by decide)) (by rfl) T.d_law_whole.m T.d_law_whole.F.kp T.d_law_whole.b .nil pass0 (pa_cons (pe_ix ix_tup (pv 3) pe_int (fun _ _=>rfl)) pa_nil)) (fun _=>rfl)))))))) (pss_one (ps_ret pe_bl)) pss_nil)
      (pss_cons (ps_if (PW.pt (pw_or (pt_not (pt_val (pe_call (ok_law_products (P:=P) (w:=w) (base:=base) T) (hr.mono (by decide)) (by rfl) T.d_law_products.m T.d_law_products.F.kp T.d_law_products.b .nil pass0 (pa_cons (pe_ix ix_tup (pv 3) pe_int (fun _ _=>rfl)) (pa_cons (pv 1) pa_nil))) (fun _=>rfl))) (pw_or (pt_cmpR op_lt (pe_ix ix_tup (pv 3) pe_int (fun _ _=>rfl)) pe_int (nomark _)) (pw_or1 (pt_cmpR op_ge (pe_ix ix_tup (pv 3) pe_int (fun _ _=>rfl)) (pe_op op_shl pe_int (pv 1)) (nomark _)))))) (pss_one (ps_ret pe_bl)) pss_nil)
      (pss_cons (ps_if (pt_cmpR op_ne (pe_call (ok_law_products_at (P:=P) (w:=w) (base:=base) T) (hr.mono (by decide)) (by rfl) T.d_law_products_at.m T.d_law_products_at.F.kp T.d_law_products_at.b .nil pass0 (pa_cons (pe_ix ix_tup (pv 3) pe_int (fun _ _=>rfl)) (pa_cons (pe_ix ix_tup (pv 3) pe_int (fun _ _=>rfl)) pa_nil))) pe_int (nomark _)) (pss_one (ps_ret pe_bl)) pss_nil)
      (pss_cons (ps_set (i:=4) sc_law.nd rfl (Or.inl rfl) (pe_op op_cat (pe_lst (pa_cons (pe_ix ix_tup (pv 3) pe_int (fun _ _=>rfl)) (pa_cons pe_int (pa_cons (pe_op op_sub (pe_op op_shl pe_int (pv 1)) pe_int) pa_nil)))) (pe_comp (g:=(gName 0)) ["_law_k"] 1 [] rfl (by exact CompSc.of (defScope s_law) ["_law_script", "_law_many", "_law_form_here", "_law_found", "_law_places", "_law_given"] rfl rfl rfl (by decide +kernel) rfl (by decide +kernel) (by decide +kernel)) (pi_range1 rfl T.n_range (pa_cons (pv 1) pa_nil))
        (fun cl C s₀ H₀ fp=>(pg_name (i:=0) nd_law_1 rfl (Or.inl rfl) (Or.inr rfl))) (fun cl C s₀ H₀ fp=>pts_nil) (fun cl C s₀ H₀ fp=>(pe_op op_shl pe_int (pv 0))))))
      (pss_cons (ps_set (i:=4) sc_law.nd rfl (Or.inl rfl) (pe_op op_cat (pv 4) (pe_comp (g:=(gName 0)) ["_law_k", "_law_many", "_law_script"] 1 [1,0] rfl (by exact CompSc.of (defScope s_law) ["_law_script", "_law_many", "_law_form_here", "_law_found", "_law_places", "_law_given"] rfl rfl rfl (by decide +kernel) rfl (by decide +kernel) (by decide +kernel)) (pi_range1 rfl T.n_range (pa_cons pe_int pa_nil))
        (fun cl C s₀ H₀ fp=>(pg_name (i:=0) nd_law_2 rfl (Or.inl rfl) (Or.inr rfl))) (fun cl C s₀ H₀ fp=>pts_nil) (fun cl C s₀ H₀ fp=>(pe_op op_mod (pe_call (ok_law_mixed (P:=P) (w:=w) (base:=base) T) (hr.mono (by decide)) (by rfl) T.d_law_mixed.m T.d_law_mixed.F.kp T.d_law_mixed.b .nil pass0 (pa_cons (pe_call (ok_law_at (P:=P) (w:=w) (base:=base) T) (hr.mono (by decide)) (by rfl) T.d_law_at.m T.d_law_at.F.kp T.d_law_at.b .nil pass0 (pa_cons (pv 2) (pa_cons (pv 0) pa_nil))) (pa_cons (pe_op op_add (pv 0) pe_int) pa_nil))) (pe_op op_shl pe_int (pv 1)))))))
      (pss_cons (ps_for PassesOwn.never rfl (pi_list (pv 4)) (pg_name (i:=5) sc_law.nd rfl (Or.inl rfl))
        (pss_one (ps_if (pt_cmpR op_ne (pe_op op_add (pe_ix ix_tup (pv 3) pe_int (fun _ _=>rfl)) (pe_call (ok_law_products_at (P:=P) (w:=w) (base:=base) T) (hr.mono (by decide)) (by rfl) T.d_law_products_at.m T.d_law_products_at.F.kp T.d_law_products_at.b .nil pass0 (pa_cons (pe_ix ix_tup (pv 3) pe_int (fun _ _=>rfl)) (pa_cons (pv 5) pa_nil)))) (pe_call (ok_law_worth (P:=P) (w:=w) (base:=base) T) (hr.mono (by decide)) (by rfl) T.d_law_worth.m T.d_law_worth.F.kp T.d_law_worth.b .nil pass0 (pa_cons (pv 2) (pa_cons (pv 5) pa_nil))) (nomark _)) (pss_one (ps_ret pe_bl)) pss_nil)))
      (pss_one (ps_ret (pe_cmpR (op_eqD (hu60 hr)) (pe_call (ok_law_form_of (P:=P) (w:=w) (base:=base) T) (hr.mono (by decide)) (by rfl) T.d_law_form_of.m T.d_law_form_of.F.kp T.d_law_form_of.b .nil pass0 (pa_cons (pe_ix ix_tup (pv 3) pe_int (fun _ _=>rfl)) (pa_cons (pe_ix ix_tup (pv 3) pe_int (fun _ _=>rfl)) pa_nil))) (pv 2) (nomark _))))))))))))),?_⟩
    have g1:=Int.emod_nonneg (ns.getD 0 0) (show (16:Int)≠0 by decide)
    have g2:=Int.emod_lt_of_pos (ns.getD 0 0) (show (0:Int)<16 by decide)
    obtain ⟨m,hm⟩ : ∃ m:Nat,1+ns.getD 0 0 % 16=(m:Int):=⟨_,(Int.toNat_of_nonneg (by omega)).symm⟩
    have hm1 : 1≤m:=by omega
    have hm7:m≤16:=by omega
    refine ⟨_,rfl,a,ns,0,rfl,hS,_,_,rfl,rfl,(by show (0:Int)<16;decide),_,_,rfl,rfl,?_⟩
    dsimp only
    rw [hm]
    refine ⟨_,rfl,_,rfl,a,ns,m,rfl,hS,hlen,hbits,hm1,by omega,fun b f H1 hb hT hf hok hkm hfl s1 => ?_⟩
    have hf0:∀ t∈f,0≤t.1:=fun t ht=>(hok t ht).nonneg
    have hU:orAll f 0<2^m:=orAll_lt fun t ht=>⟨hf0 t ht,hkm t ht⟩
    have hbit:∀ j,(orAll f 0).testBit j=true→j<m:=fun j hj=>by
      rcases Nat.lt_or_ge j m with y | y
      · exact y
      · rw [bit_out hU y] at hj;cases hj
    have h7:(lst (orAll f 0)).length≤16:=by
      have:=nodup_le (B:=List.range m) (lst_nodup (orAll f 0)) fun j hj=>List.mem_range.mpr (hbit j (mem_lst.mp hj))
      rw [List.length_range] at this
      omega
    obtain ⟨fs,hfb,hft⟩:=id hT
    have hfsl:=hft.length
    refine ⟨_,rfl,b,_,rfl,.inl (SqL.of hfb),fun h hh => ?_⟩
    have s2:Same H1 (upd H1 h (.lst (fs.map V.ref))):=Same.upd hh
    have hT2:TLo (upd H1 h (.lst (fs.map V.ref))) h f:=⟨fs,upd_same,hft.keep fun b xs z=>s2 b _ z⟩
    have bT2:=hT.keep s2
    have S2:=s1.trans s2
    generalize upd H1 h (.lst (fs.map V.ref))=H2 at hT2 bT2 S2 ⊢
    refine ⟨h,f,rfl,hT2,hf,hok,(fun t ht=>Int.lt_of_lt_of_le (hkm t ht) (by
      have h1:(2:Nat)^m≤2^100:=Nat.pow_le_pow_right (by decide) (by omega)
      have e1:((2:Int)^m)=((2^m:Nat) : Int):=by norm_cast
      have e2:((2:Int)^100)=((2^100:Nat) : Int):=by norm_cast
      rw [e1,e2];exact Int.ofNat_le.mpr h1)),by omega,h7,fun t D num g pr H3 ht hTr hprl hpr hsum hg hgU s3 => ?_⟩
    have bT3:=bT2.keep s3
    have S3:=S2.trans s3
    have hglt:g<2^m:=by
      apply Nat.lt_pow_two_of_testBit
      intro j hj
      cases e:g.testBit j
      · rfl
      · have:=hbit j (hgU j e);omega
    have hbl:∀ x∈bitsF f,∃ j,j<m∧x=2^j:=fun x hx=>by
      obtain ⟨j,hj,e⟩:=bitsF_mem.mp hx
      exact ⟨j,hbit j hj,e⟩
    have hsing:∀ p∈pr,p.2.2=0∨∃ j,j<m∧p.2.2=2^j:=fun p hp=>by
      rcases (hpr p hp).2 with ⟨_,e2⟩ | ⟨e1,_⟩ | ⟨_,e2,_⟩
      · exact .inr (hbl _ e2)
      · exact .inl e1
      · exact .inr (hbl _ e2)
    have h16:∀ p∈pr,p.2.2<2^16:=fun p hp=>by
      rcases hsing p hp with e | ⟨j,hj,e⟩
      · rw [e];decide
      · rw [e];exact Nat.pow_lt_pow_right (by decide) (by omega)
    have h62:∀ p∈pr,p.2.2<2^62:=fun p hp=>Nat.lt_trans (h16 p hp) (by decide)
    have hnice:∀ u∈pr.map toT3,Nice u:=fun u hu=>by
      obtain ⟨p,hp,rfl⟩:=List.mem_map.mp hu
      have h6:=h62 p hp
      rcases hsing p hp with e | ⟨j,hj,e⟩
      · exact nice_of (by show ((p.2.2:Nat) : Int)<64;rw [e];decide)
      · refine ⟨by show ((p.2.2:Nat) : Int)<2^62;omega,j,fun i hi => .inr ?_⟩
        have hi':(((p.2.2:Nat) : Int).toNat).testBit i=true:=hi
        rw [Int.toNat_natCast,e,Nat.testBit_two_pow] at hi'
        exact (of_decide_eq_true hi').symm
    have toT:∀ G,Same H3 G→T3o G D (pr.map toT3):=fun G sG=>by
      obtain ⟨ps,h1,h2⟩:=hTr
      refine ⟨ps,sG _ _ h1,?_⟩
      clear hsum hpr hprl h62 h1 hsing h16 hnice
      induction h2 with
      | nil=>exact .nil
      | cons r q ih=>exact .cons (sG _ _ r) ih
    have hTr':∀ G,Same H3 G→Trp G D pr:=fun G sG=>let ⟨ps,h1,h2⟩:=hTr; ⟨ps,sG _ _ h1,Paired.mapP h2 fun _ _ e=>sG _ _ e⟩
    have e1:(1:Int) * 2^((m:Int)).toNat=((2^m:Nat) : Int):=by rw [shl_eq,pow_cast]
    have hmx:(2:Nat)^m≤2^16:=Nat.pow_le_pow_right (by decide) hm7
    have hmp:=Nat.two_pow_pos m
    refine ⟨_,rfl,_,_,_,true,rfl,.tup ht,kit_same,true,rfl,iteF ?_⟩
    refine ⟨_,rfl,t,_,rfl,.inr (SqT.of ht),rfl,_,rfl,iteNS rfl ?_⟩
    refine ⟨_,rfl,t,_,_,_,rfl,rfl,SqT.of ht,rfl,_,rfl,true,rfl,iteF ?_⟩
    refine ⟨_,rfl,t,_,_,_,rfl,rfl,SqT.of ht,rfl,_,rfl,true,rfl,iteF ?_⟩
    refine ⟨_,rfl,t,_,_,_,rfl,rfl,SqT.of ht,rfl,_,rfl,D,pr,bitsF f,m,rfl,hTr,hpr,hbl,by omega,by omega,fun H4 s4=>⟨true,rfl,iteF ?_⟩⟩
    have ht4:=s4 _ _ ht
    refine ⟨_,rfl,t,_,_,_,rfl,rfl,SqT.of ht4,rfl,_,_,rfl,rfl,_,rfl,iteN (by intro w;have:=of_decide_eq_true w;omega) ?_⟩
    refine ⟨_,rfl,t,_,_,_,rfl,rfl,SqT.of ht4,rfl,_,rfl,_,_,rfl,rfl,⟨Int.natCast_nonneg _,by omega,by decide⟩,_,_,rfl,rfl,_,rfl,iteN (by
      intro w
      have w':((1:Int) * 2^((m:Int)).toNat)≤(g:Int):=of_decide_eq_true w
      rw [e1] at w'
      have:=Int.ofNat_le.mp w'
      omega) ?_⟩
    refine ⟨_,rfl,t,_,_,_,rfl,rfl,SqT.of ht4,rfl,_,rfl,t,_,_,_,rfl,rfl,SqT.of ht4,rfl,D,pr,g,rfl,hTr' H4 s4,?_⟩
    have hz0:(pr.map fun p=>p.1 * oneP p.2 g).sum=0:=by have:=hsum g;omega
    rw [hz0]
    refine ⟨rfl,_,rfl,iteN (by simp) ?_⟩
    refine ⟨_,rfl,t,_,_,_,rfl,rfl,SqT.of ht4,rfl,_,rfl,_,_,rfl,rfl,⟨Int.natCast_nonneg _,by omega,by decide⟩,_,_,rfl,rfl,(by show 3≤sizeLine;decide),fun c hc => ?_⟩
    have e2:(1:Int) * 2^((m:Int)).toNat-1=((2^m-1:Nat) : Int):=by rw [e1];omega
    have s5:Same H4 (upd H4 c (.lst [.int (g:Int),.int 0,.int (1 * 2^((m:Int)).toNat-1)])):=Same.upd hc
    have wc:upd H4 c (.lst [.int (g:Int),.int 0,.int (1 * 2^((m:Int)).toNat-1)]) c=some (.lst (natL [g,0,2^m-1])):=by rw [upd_same,e2];rfl
    have S5:=s4.trans s5
    generalize upd H4 c (.lst [.int (g:Int),.int 0,.int (1 * 2^((m:Int)).toNat-1)])=H5 at wc S5 ⊢
    refine ⟨_,rfl,(m:Int),rfl,by omega,by omega,?_⟩
    refine comp_range (lo:=0) (n:=((m:Nat) : Int).toNat) (fun i ys σ G => ∃ v0:Option V,σ = [v0]∧(∃ gs:List Nat,ys=natL gs∧gs.length=i∧∀ x∈gs,x<2^m)∧G=H5)
      ⟨none,rfl,⟨[],rfl,rfl,fun x h=>by cases h⟩,rfl⟩ (fun i ys σ G ⟨_,_,⟨gs,e,e',_⟩,_⟩=>by rw [e,natL_len,e'];exact Nat.le_refl _) (by rw [Int.toNat_natCast];exact Nat.le_of_lt (small6 (by omega))) ?_ ?_
    · rintro i ys σ G hi ⟨v0,rfl,⟨gs,rfl,hgl,hgx⟩,rfl⟩
      rw [Int.toNat_natCast] at hi
      unfold gName
      refine tt ?_
      refine ⟨_,rfl,_,_,rfl,rfl,⟨by omega,by omega,by decide⟩,_,rfl,⟨gs ++ [2^i],?_,by rw [List.length_append,hgl];rfl,fun x hx => ?_⟩,rfl⟩
      · have e0:(1:Int) * 2^((0+(i:Int))).toNat=((2^i:Nat) : Int):=by rw [Int.zero_add,shl_eq,pow_cast]
        show natL gs ++ [V.int (1 * 2^((0+(i:Int))).toNat)]=_
        rw [natL_app,e0];rfl
      · rcases List.mem_append.mp hx with z | z
        · exact hgx x z
        · rw [List.mem_singleton.mp z];exact Nat.pow_lt_pow_right (by decide) hi
    rintro ys σ G ⟨v0,rfl,⟨gs,rfl,hgl,hgx⟩,rfl⟩ W hW
    rw [Int.toNat_natCast] at hgl
    have s6:Same G (upd G W (.lst (natL gs))):=Same.upd hW
    have hcW:c≠W:=ne_of_none wc hW
    refine ⟨c,W,_,_,rfl,rfl,s6 _ _ wc,upd_same,(by rw [natL_len,natL_len,hgl];exact Nat.le_of_lt (small6 (by show 3+m≤1000000;omega))),fun d hd => ?_⟩
    have s7:Same (upd G W (.lst (natL gs))) (upd (upd G W (.lst (natL gs))) d (.lst (natL [g,0,2^m-1]++natL gs))):=Same.upd hd
    have wd:upd (upd G W (.lst (natL gs))) d (.lst (natL [g,0,2^m-1]++natL gs)) d=some (.lst (natL ([g,0,2^m-1]++gs))):=by rw [upd_same,natL_app]
    have S7:=S5.trans (s6.trans s7)
    generalize upd (upd G W (.lst (natL gs))) d (.lst (natL [g,0,2^m-1]++natL gs))=H7 at wd S7 ⊢
    have hgx2:∀ x∈[g,0,2^m-1]++gs,x<2^m:=fun x hx=>by
      rcases List.mem_append.mp hx with z | z
      · rcases List.mem_cons.mp z with z | z
        · rw [z];exact hglt
        · rcases List.mem_cons.mp z with z | z
          · rw [z];exact hmp
          · rw [List.mem_singleton.mp z];omega
      · exact hgx x z
    have hgl2:([g,0,2^m-1]++gs).length≤19:=by rw [List.length_append,hgl];show 3+m≤19;omega
    generalize [g,0,2^m-1]++gs=gs2 at wd hgx2 hgl2
    have S7a:=S3.trans S7
    refine ⟨_,rfl,(30:Int),rfl,by omega,by omega,?_⟩
    refine comp_range (lo:=0) (n:=30) (fun i ys σ G => ∃ v0:Option V,σ = [v0,some (.int (m:Int)),some (.ref a)]∧(∃ gs:List Nat,ys=natL gs∧gs.length=i∧∀ x∈gs,x<2^m)∧G=H7)
      ⟨none,rfl,⟨[],rfl,rfl,fun x h=>by cases h⟩,rfl⟩ (fun i ys σ G ⟨_,_,⟨gs,e,e',_⟩,_⟩=>by rw [e,natL_len,e'];exact Nat.le_refl _) (by show 30≤sizeLine;decide) ?_ ?_
    · rintro i ys σ G hi ⟨v0,rfl,⟨hs,rfl,hhl,hhx⟩,rfl⟩
      unfold gName
      refine tt ?_
      refine ⟨_,rfl,_,rfl,a,ns,i,(by rw [Int.zero_add];rfl),S7a.seq hS,_,rfl,_,_,rfl,rfl,ns.getD i 0,0+(i:Int)+70,rfl,by omega,by omega,fun r r1 r2 => ?_⟩
      refine ⟨_,rfl,_,_,rfl,rfl,⟨Int.natCast_nonneg _,by omega,by decide⟩,_,_,rfl,rfl,(by rw [e1];omega),?_⟩
      rw [e1]
      have q1:=Int.emod_nonneg r (show ((2^m:Nat) : Int)≠0 by omega)
      have q2:=Int.emod_lt_of_pos r (show (0:Int)<((2^m:Nat) : Int) by omega)
      obtain ⟨z,hz⟩ : ∃ z:Nat,r % ((2^m:Nat) : Int)=(z:Int):=⟨_,(Int.toNat_of_nonneg q1).symm⟩
      dsimp only
      rw [hz] at q2 ⊢
      refine ⟨_,rfl,⟨hs ++ [z],by rw [natL_app];rfl,by rw [List.length_append,hhl];rfl,fun x hx => ?_⟩,rfl⟩
      rcases List.mem_append.mp hx with y | y
      · exact hhx x y
      · rw [List.mem_singleton.mp y];omega
    rintro ys σ G2 ⟨v0,rfl,⟨hs,rfl,hhl,hhx⟩,rfl⟩ W2 hW2
    have s8:Same G2 (upd G2 W2 (.lst (natL hs))):=Same.upd hW2
    refine ⟨d,W2,_,_,rfl,rfl,s8 _ _ wd,upd_same,(by rw [natL_len,natL_len,hhl];exact Nat.le_of_lt (small6 (by omega))),fun e he => ?_⟩
    have s9:Same (upd G2 W2 (.lst (natL hs))) (upd (upd G2 W2 (.lst (natL hs))) e (.lst (natL gs2++natL hs))):=Same.upd he
    have we:upd (upd G2 W2 (.lst (natL hs))) e (.lst (natL gs2++natL hs)) e=some (.lst (natL (gs2++hs))):=by rw [upd_same,natL_app]
    have S9:=S7.trans (s8.trans s9)
    generalize upd (upd G2 W2 (.lst (natL hs))) e (.lst (natL gs2++natL hs))=H9 at we S9 ⊢
    have hgx3:∀ x∈gs2++hs,x<2^m:=fun x hx=>(List.mem_append.mp hx).elim (hgx2 x) (hhx x)
    generalize gs2++hs=gs3 at we hgx3
    have ht9:=S9 _ _ ht
    refine ⟨_,rfl,e,rfl,⟨_,SqL.of we⟩,?_⟩
    refine for_list (K:=K) (a:=e) (xs:=natL gs3) (fun i σ G => ∃ v5:Option V,σ = [some (.ref a),some (.int (m:Int)),some (.ref b),some (.ref t),some (.ref e),v5]∧Same H9 G)
      ⟨none,rfl,Same.refl _⟩ (fun i σ G _ ⟨_,_,e⟩=>SqL.of (e _ _ we)) ?_ ?_
    · rintro i y σ G hi ⟨v5,rfl,sG⟩
      obtain ⟨x,rfl⟩ : ∃ x:Nat,y=V.int (x:Int):=by
        unfold natL at hi
        rw [List.getElem?_map] at hi
        cases ex:gs3[i]? with
        | none=>rw [ex] at hi;cases hi
        | some x=>rw [ex] at hi;exact ⟨x,(Option.some.inj hi).symm⟩
      have htG:=sG _ _ ht9
      have SG:=S9.trans sG
      refine ⟨_,rfl,t,_,_,_,rfl,rfl,SqT.of htG,rfl,_,rfl,t,_,_,_,rfl,rfl,SqT.of htG,rfl,_,rfl,D,pr,x,rfl,hTr' G SG,_,_,rfl,rfl,?_⟩
      refine ⟨_,rfl,_,rfl,b,f,(x:Int),rfl,(bT3.keep SG).tl,by omega,fun G2 sG2 => ?_⟩
      refine ⟨rfl,_,rfl,iteN (by show ¬ (!decide (V.int (num+(pr.map fun p=>p.1 * oneP p.2 x).sum)=V.int (worthL f (x:Int))))=true;rw [hsum x];simp) ⟨_,rfl,sG.trans sG2⟩⟩
    · rintro σ G ⟨v5,rfl,sG⟩
      have htG:=sG _ _ ht9
      have SG:=S9.trans sG
      refine ⟨_,rfl,t,_,_,_,rfl,rfl,SqT.of htG,rfl,_,rfl,t,_,_,_,rfl,rfl,SqT.of htG,rfl,D,pr.map toT3,num,rfl,toT G SG,hnice,(fun u hu => ?_),by rw [List.length_map];exact hprl,(fun u hu => ?_),fun z d' H10 hz hTz hFz hlz s10 => ?_⟩
      · obtain ⟨p,hp,rfl⟩:=List.mem_map.mp hu
        exact ⟨Int.natCast_nonneg _,Int.natCast_nonneg _⟩
      · obtain ⟨p,hp,rfl⟩:=List.mem_map.mp hu
        have:=h16 p hp
        show ((p.2.2:Nat) : Int)<2^16
        omega
      have ed:=(told_form hf hf0 h62 hFz).mpr hsum
      have hdep:dep (dF d')≤60:=Nat.le_trans (dep_dF d') (by decide)
      refine ⟨_,rfl,dF d',dF f,hTz.is,((bT3.keep SG).keep s10).is,hdep,?_⟩
      rw [ed,deq_self]
      exact k _
end
theorem us1 {fd:FuncData}{ps:List Str} (h:∀ x0,bindArgs fd ⟨[x0],[]⟩=pure (ps.zip [x0])) (us:List Value) (hl:us.length=1) : bindArgs fd ⟨us,[]⟩=pure (ps.zip us):=by
  cases us with
  | nil=>cases hl
  | cons x0 us =>
  replace hl:=Nat.succ.inj hl
  cases List.eq_nil_of_length_eq_zero hl
  exact h x0
theorem us2 {fd:FuncData}{ps:List Str} (h:∀ x0 x1,bindArgs fd ⟨[x0,x1],[]⟩=pure (ps.zip [x0,x1])) (us:List Value) (hl:us.length=2) : bindArgs fd ⟨us,[]⟩=pure (ps.zip us):=by
  cases us with
  | nil=>cases hl
  | cons x0 us =>
  replace hl:=Nat.succ.inj hl
  cases us with
  | nil=>cases hl
  | cons x1 us =>
  replace hl:=Nat.succ.inj hl
  cases List.eq_nil_of_length_eq_zero hl
  exact h x0 x1
theorem us3 {fd:FuncData}{ps:List Str} (h:∀ x0 x1 x2,bindArgs fd ⟨[x0,x1,x2],[]⟩=pure (ps.zip [x0,x1,x2])) (us:List Value) (hl:us.length=3) : bindArgs fd ⟨us,[]⟩=pure (ps.zip us):=by
  cases us with
  | nil=>cases hl
  | cons x0 us =>
  replace hl:=Nat.succ.inj hl
  cases us with
  | nil=>cases hl
  | cons x1 us =>
  replace hl:=Nat.succ.inj hl
  cases us with
  | nil=>cases hl
  | cons x2 us =>
  replace hl:=Nat.succ.inj hl
  cases List.eq_nil_of_length_eq_zero hl
  exact h x0 x1 x2
def defPos (s:Stmt) : Pos:=match s with
  | .FunctionDef _ _ _ _ _ _ _ _ _ p=>p
  | _=>⟨0,0,0,0⟩
theorem all_mk {l:PySem.W.OpenLaw}{w:World}{K:PySem.W.Frag}{h:Heap}{mg:Str→Option Value}{fa fL f0 f1 f2 f3 f4 f5 f6 f7 f8 f9 f10 f11 f12 f13 f14 f15 f16 f17 f18 f19 f20 f21 f22 f23 f24 f25 f26 f27 f28:Addr} (X:K.In h) (G:h.Ns mainGlobals mg) (hfa:mg "law" = some (.ref fa))
    {odL anL od0 an0 od1 an1 od2 an2 od3 an3 od4 an4 od5 an5 od6 an6 od7 an7 od8 an8 od9 an9 od10 an10 od11 an11 od12 an12 od13 an13 od14 an14 od15 an15 od16 an16 od17 an17 od18 an18 od19 an19 od20 an20 od21 an21 od22 an22 od23 an23 od24 an24 od25 an25 od26 an26 od27 an27 od28 an28:Option Addr}{slL sl0 sl1 sl2 sl3 sl4 sl5 sl6 sl7 sl8 sl9 sl10 sl11 sl12 sl13 sl14 sl15 sl16 sl17 sl18 sl19 sl20 sl21 sl22 sl23 sl24 sl25 sl26 sl27 sl28:Array (Option Value)}{ocL kVL dcL pmL cdL ctL oc0 kV0 dc0 pm0 cd0 ct0 oc1 kV1 dc1 pm1 cd1 ct1 oc2 kV2 dc2 pm2 cd2 ct2 oc3 kV3 dc3 pm3 cd3 ct3 oc4 kV4 dc4 pm4 cd4 ct4 oc5 kV5 dc5 pm5 cd5 ct5 oc6 kV6 dc6 pm6 cd6 ct6 oc7 kV7 dc7 pm7 cd7 ct7 oc8 kV8 dc8 pm8 cd8 ct8 oc9 kV9 dc9 pm9 cd9 ct9 oc10 kV10 dc10 pm10 cd10 ct10 oc11 kV11 dc11 pm11 cd11 ct11 oc12 kV12 dc12 pm12 cd12 ct12 oc13 kV13 dc13 pm13 cd13 ct13 oc14 kV14 dc14 pm14 cd14 ct14 oc15 kV15 dc15 pm15 cd15 ct15 oc16 kV16 dc16 pm16 cd16 ct16 oc17 kV17 dc17 pm17 cd17 ct17 oc18 kV18 dc18 pm18 cd18 ct18 oc19 kV19 dc19 pm19 cd19 ct19 oc20 kV20 dc20 pm20 cd20 ct20 oc21 kV21 dc21 pm21 cd21 ct21 oc22 kV22 dc22 pm22 cd22 ct22 oc23 kV23 dc23 pm23 cd23 ct23 oc24 kV24 dc24 pm24 cd24 ct24 oc25 kV25 dc25 pm25 cd25 ct25 oc26 kV26 dc26 pm26 cd26 ct26 oc27 kV27 dc27 pm27 cd27 ct27 oc28 kV28 dc28 pm28 cd28 ct28:Value}
    (a0:PySem.W.nsIn K mainGlobals "_law_at" = some (some (.ref f0))) (l0:K.lookup f0=some ⟨oc0,od0,.func (PySem.W.fnOf "_law_at" "_law_at" (defArgs s_law_at) (defBody s_law_at) (defScope s_law_at) .none kV0 dc0 pm0 an0 cd0 ct0),sl0⟩) (c0:PySem.W.codeIn K cd0 "_law_at" = true) (k0:PySem.W.keepIn K (.ref f0)=true)
    (a1:PySem.W.nsIn K mainGlobals "_law_free" = some (some (.ref f1))) (l1:K.lookup f1=some ⟨oc1,od1,.func (PySem.W.fnOf "_law_free" "_law_free" (defArgs s_law_free) (defBody s_law_free) (defScope s_law_free) .none kV1 dc1 pm1 an1 cd1 ct1),sl1⟩) (c1:PySem.W.codeIn K cd1 "_law_free" = true) (k1:PySem.W.keepIn K (.ref f1)=true)
    (a2:PySem.W.nsIn K mainGlobals "_law_made" = some (some (.ref f2))) (l2:K.lookup f2=some ⟨oc2,od2,.func (PySem.W.fnOf "_law_made" "_law_made" (defArgs s_law_made) (defBody s_law_made) (defScope s_law_made) .none kV2 dc2 pm2 an2 cd2 ct2),sl2⟩) (c2:PySem.W.codeIn K cd2 "_law_made" = true) (k2:PySem.W.keepIn K (.ref f2)=true)
    (a3:PySem.W.nsIn K mainGlobals "_law_mixed" = some (some (.ref f3))) (l3:K.lookup f3=some ⟨oc3,od3,.func (PySem.W.fnOf "_law_mixed" "_law_mixed" (defArgs s_law_mixed) (defBody s_law_mixed) (defScope s_law_mixed) .none kV3 dc3 pm3 an3 cd3 ct3),sl3⟩) (c3:PySem.W.codeIn K cd3 "_law_mixed" = true) (k3:PySem.W.keepIn K (.ref f3)=true)
    (a4:PySem.W.nsIn K mainGlobals "_law_big" = some (some (.ref f4))) (l4:K.lookup f4=some ⟨oc4,od4,.func (PySem.W.fnOf "_law_big" "_law_big" (defArgs s_law_big) (defBody s_law_big) (defScope s_law_big) .none kV4 dc4 pm4 an4 cd4 ct4),sl4⟩) (c4:PySem.W.codeIn K cd4 "_law_big" = true) (k4:PySem.W.keepIn K (.ref f4)=true)
    (a5:PySem.W.nsIn K mainGlobals "_law_own" = some (some (.ref f5))) (l5:K.lookup f5=some ⟨oc5,od5,.func (PySem.W.fnOf "_law_own" "_law_own" (defArgs s_law_own) (defBody s_law_own) (defScope s_law_own) .none kV5 dc5 pm5 an5 cd5 ct5),sl5⟩) (c5:PySem.W.codeIn K cd5 "_law_own" = true) (k5:PySem.W.keepIn K (.ref f5)=true)
    (a6:PySem.W.nsIn K mainGlobals "_law_pull" = some (some (.ref f6))) (l6:K.lookup f6=some ⟨oc6,od6,.func (PySem.W.fnOf "_law_pull" "_law_pull" (defArgs s_law_pull) (defBody s_law_pull) (defScope s_law_pull) .none kV6 dc6 pm6 an6 cd6 ct6),sl6⟩) (c6:PySem.W.codeIn K cd6 "_law_pull" = true) (k6:PySem.W.keepIn K (.ref f6)=true)
    (a7:PySem.W.nsIn K mainGlobals "form_from" = some (some (.ref f7))) (l7:K.lookup f7=some ⟨oc7,od7,.func (PySem.W.fnOf "form_from" "form_from" (defArgs s_form_from) (defBody s_form_from) (defScope s_form_from) .none kV7 dc7 pm7 an7 cd7 ct7),sl7⟩) (c7:PySem.W.codeIn K cd7 "form_from" = true) (k7:PySem.W.keepIn K (.ref f7)=true)
    (a8:PySem.W.nsIn K mainGlobals "made" = some (some (.ref f8))) (l8:K.lookup f8=some ⟨oc8,od8,.func (PySem.W.fnOf "made" "made" (defArgs s_made) (defBody s_made) (defScope s_made) .none kV8 dc8 pm8 an8 cd8 ct8),sl8⟩) (c8:PySem.W.codeIn K cd8 "made" = true) (k8:PySem.W.keepIn K (.ref f8)=true)
    (a9:PySem.W.nsIn K mainGlobals "lowest" = some (some (.ref f9))) (l9:K.lookup f9=some ⟨oc9,od9,.func (PySem.W.fnOf "lowest" "lowest" (defArgs s_lowest) (defBody s_lowest) (defScope s_lowest) .none kV9 dc9 pm9 an9 cd9 ct9),sl9⟩) (c9:PySem.W.codeIn K cd9 "lowest" = true) (k9:PySem.W.keepIn K (.ref f9)=true)
    (a10:PySem.W.nsIn K mainGlobals "without_pairs" = some (some (.ref f10))) (l10:K.lookup f10=some ⟨oc10,od10,.func (PySem.W.fnOf "without_pairs" "without_pairs" (defArgs s_without_pairs) (defBody s_without_pairs) (defScope s_without_pairs) .none kV10 dc10 pm10 an10 cd10 ct10),sl10⟩) (c10:PySem.W.codeIn K cd10 "without_pairs" = true) (k10:PySem.W.keepIn K (.ref f10)=true)
    (a11:PySem.W.nsIn K mainGlobals "floor" = some (some (.ref f11))) (l11:K.lookup f11=some ⟨oc11,od11,.func (PySem.W.fnOf "floor" "floor" (defArgs s_floor) (defBody s_floor) (defScope s_floor) .none kV11 dc11 pm11 an11 cd11 ct11),sl11⟩) (c11:PySem.W.codeIn K cd11 "floor" = true) (k11:PySem.W.keepIn K (.ref f11)=true)
    (a12:PySem.W.nsIn K mainGlobals "first_products" = some (some (.ref f12))) (l12:K.lookup f12=some ⟨oc12,od12,.func (PySem.W.fnOf "first_products" "first_products" (defArgs s_first_products) (defBody s_first_products) (defScope s_first_products) .none kV12 dc12 pm12 an12 cd12 ct12),sl12⟩) (c12:PySem.W.codeIn K cd12 "first_products" = true) (k12:PySem.W.keepIn K (.ref f12)=true)
    (a13:PySem.W.nsIn K mainGlobals "reached" = some (some (.ref f13))) (l13:K.lookup f13=some ⟨oc13,od13,.func (PySem.W.fnOf "reached" "reached" (defArgs s_reached) (defBody s_reached) (defScope s_reached) .none kV13 dc13 pm13 an13 cd13 ct13),sl13⟩) (c13:PySem.W.codeIn K cd13 "reached" = true) (k13:PySem.W.keepIn K (.ref f13)=true)
    (a14:PySem.W.nsIn K mainGlobals "way_to" = some (some (.ref f14))) (l14:K.lookup f14=some ⟨oc14,od14,.func (PySem.W.fnOf "way_to" "way_to" (defArgs s_way_to) (defBody s_way_to) (defScope s_way_to) .none kV14 dc14 pm14 an14 cd14 ct14),sl14⟩) (c14:PySem.W.codeIn K cd14 "way_to" = true) (k14:PySem.W.keepIn K (.ref f14)=true)
    (a15:PySem.W.nsIn K mainGlobals "open_way" = some (some (.ref f15))) (l15:K.lookup f15=some ⟨oc15,od15,.func (PySem.W.fnOf "open_way" "open_way" (defArgs s_open_way) (defBody s_open_way) (defScope s_open_way) .none kV15 dc15 pm15 an15 cd15 ct15),sl15⟩) (c15:PySem.W.codeIn K cd15 "open_way" = true) (k15:PySem.W.keepIn K (.ref f15)=true)
    (a16:PySem.W.nsIn K mainGlobals "bits_of" = some (some (.ref f16))) (l16:K.lookup f16=some ⟨oc16,od16,.func (PySem.W.fnOf "bits_of" "bits_of" (defArgs s_bits_of) (defBody s_bits_of) (defScope s_bits_of) .none kV16 dc16 pm16 an16 cd16 ct16),sl16⟩) (c16:PySem.W.codeIn K cd16 "bits_of" = true) (k16:PySem.W.keepIn K (.ref f16)=true)
    (a17:PySem.W.nsIn K mainGlobals "listed" = some (some (.ref f17))) (l17:K.lookup f17=some ⟨oc17,od17,.func (PySem.W.fnOf "listed" "listed" (defArgs s_listed) (defBody s_listed) (defScope s_listed) .none kV17 dc17 pm17 an17 cd17 ct17),sl17⟩) (c17:PySem.W.codeIn K cd17 "listed" = true) (k17:PySem.W.keepIn K (.ref f17)=true)
    (a18:PySem.W.nsIn K mainGlobals "pulls" = some (some (.ref f18))) (l18:K.lookup f18=some ⟨oc18,od18,.func (PySem.W.fnOf "pulls" "pulls" (defArgs s_pulls) (defBody s_pulls) (defScope s_pulls) .none kV18 dc18 pm18 an18 cd18 ct18),sl18⟩) (c18:PySem.W.codeIn K cd18 "pulls" = true) (k18:PySem.W.keepIn K (.ref f18)=true)
    (a19:PySem.W.nsIn K mainGlobals "doubled" = some (some (.ref f19))) (l19:K.lookup f19=some ⟨oc19,od19,.func (PySem.W.fnOf "doubled" "doubled" (defArgs s_doubled) (defBody s_doubled) (defScope s_doubled) .none kV19 dc19 pm19 an19 cd19 ct19),sl19⟩) (c19:PySem.W.codeIn K cd19 "doubled" = true) (k19:PySem.W.keepIn K (.ref f19)=true)
    (a20:PySem.W.nsIn K mainGlobals "push" = some (some (.ref f20))) (l20:K.lookup f20=some ⟨oc20,od20,.func (PySem.W.fnOf "push" "push" (defArgs s_push) (defBody s_push) (defScope s_push) .none kV20 dc20 pm20 an20 cd20 ct20),sl20⟩) (c20:PySem.W.codeIn K cd20 "push" = true) (k20:PySem.W.keepIn K (.ref f20)=true)
    (a21:PySem.W.nsIn K mainGlobals "unknowns" = some (some (.ref f21))) (l21:K.lookup f21=some ⟨oc21,od21,.func (PySem.W.fnOf "unknowns" "unknowns" (defArgs s_unknowns) (defBody s_unknowns) (defScope s_unknowns) .none kV21 dc21 pm21 an21 cd21 ct21),sl21⟩) (c21:PySem.W.codeIn K cd21 "unknowns" = true) (k21:PySem.W.keepIn K (.ref f21)=true)
    (a22:PySem.W.nsIn K mainGlobals "pulled" = some (some (.ref f22))) (l22:K.lookup f22=some ⟨oc22,od22,.func (PySem.W.fnOf "pulled" "pulled" (defArgs s_pulled) (defBody s_pulled) (defScope s_pulled) .none kV22 dc22 pm22 an22 cd22 ct22),sl22⟩) (c22:PySem.W.codeIn K cd22 "pulled" = true) (k22:PySem.W.keepIn K (.ref f22)=true)
    (a23:PySem.W.nsIn K mainGlobals "_law_products_at" = some (some (.ref f23))) (l23:K.lookup f23=some ⟨oc23,od23,.func (PySem.W.fnOf "_law_products_at" "_law_products_at" (defArgs s_law_products_at) (defBody s_law_products_at) (defScope s_law_products_at) .none kV23 dc23 pm23 an23 cd23 ct23),sl23⟩) (c23:PySem.W.codeIn K cd23 "_law_products_at" = true) (k23:PySem.W.keepIn K (.ref f23)=true)
    (a24:PySem.W.nsIn K mainGlobals "_law_parts" = some (some (.ref f24))) (l24:K.lookup f24=some ⟨oc24,od24,.func (PySem.W.fnOf "_law_parts" "_law_parts" (defArgs s_law_parts) (defBody s_law_parts) (defScope s_law_parts) .none kV24 dc24 pm24 an24 cd24 ct24),sl24⟩) (c24:PySem.W.codeIn K cd24 "_law_parts" = true) (k24:PySem.W.keepIn K (.ref f24)=true)
    (a25:PySem.W.nsIn K mainGlobals "_law_form_of" = some (some (.ref f25))) (l25:K.lookup f25=some ⟨oc25,od25,.func (PySem.W.fnOf "_law_form_of" "_law_form_of" (defArgs s_law_form_of) (defBody s_law_form_of) (defScope s_law_form_of) .none kV25 dc25 pm25 an25 cd25 ct25),sl25⟩) (c25:PySem.W.codeIn K cd25 "_law_form_of" = true) (k25:PySem.W.keepIn K (.ref f25)=true)
    (a26:PySem.W.nsIn K mainGlobals "_law_whole" = some (some (.ref f26))) (l26:K.lookup f26=some ⟨oc26,od26,.func (PySem.W.fnOf "_law_whole" "_law_whole" (defArgs s_law_whole) (defBody s_law_whole) (defScope s_law_whole) .none kV26 dc26 pm26 an26 cd26 ct26),sl26⟩) (c26:PySem.W.codeIn K cd26 "_law_whole" = true) (k26:PySem.W.keepIn K (.ref f26)=true)
    (a27:PySem.W.nsIn K mainGlobals "_law_products" = some (some (.ref f27))) (l27:K.lookup f27=some ⟨oc27,od27,.func (PySem.W.fnOf "_law_products" "_law_products" (defArgs s_law_products) (defBody s_law_products) (defScope s_law_products) .none kV27 dc27 pm27 an27 cd27 ct27),sl27⟩) (c27:PySem.W.codeIn K cd27 "_law_products" = true) (k27:PySem.W.keepIn K (.ref f27)=true)
    (a28:PySem.W.nsIn K mainGlobals "_law_worth" = some (some (.ref f28))) (l28:K.lookup f28=some ⟨oc28,od28,.func (PySem.W.fnOf "_law_worth" "_law_worth" (defArgs s_law_worth) (defBody s_law_worth) (defScope s_law_worth) .none kV28 dc28 pm28 an28 cd28 ct28),sl28⟩) (c28:PySem.W.codeIn K cd28 "_law_worth" = true) (k28:PySem.W.keepIn K (.ref f28)=true)
    (aL:PySem.W.nsIn K mainGlobals "law" = some (some (.ref fL))) (lL:K.lookup fL=some ⟨ocL,odL,.func (PySem.W.fnOf "law" "law" (defArgs s_law) (defBody s_law) (defScope s_law) .none kVL dcL pmL anL cdL ctL),slL⟩) (cL:PySem.W.codeIn K cdL "law" = true) (kL:PySem.W.keepIn K (.ref fL)=true)
    (z_abs:PySem.W.nsIn K mainGlobals "abs" = some none)
    (z_bool:PySem.W.nsIn K mainGlobals "bool" = some none)
    (z_enumerate:PySem.W.nsIn K mainGlobals "enumerate" = some none)
    (z_int:PySem.W.nsIn K mainGlobals "int" = some none)
    (z_isinstance:PySem.W.nsIn K mainGlobals "isinstance" = some none)
    (z_len:PySem.W.nsIn K mainGlobals "len" = some none)
    (z_list:PySem.W.nsIn K mainGlobals "list" = some none)
    (z_min:PySem.W.nsIn K mainGlobals "min" = some none)
    (z_range:PySem.W.nsIn K mainGlobals "range" = some none)
    (z_sorted:PySem.W.nsIn K mainGlobals "sorted" = some none)
    (z_sum:PySem.W.nsIn K mainGlobals "sum" = some none)
    (z_tuple:PySem.W.nsIn K mainGlobals "tuple" = some none) :
    ∃ fd:FuncData,(∀ (s:Shared) (v:Value),BindsTo s fd ⟨[v],[]⟩ [("_law_script",v)])∧∀ base:Heap,K.In base→base.Ns mainGlobals mg→FnOk l.prog w K mg base CX0 5 fa fd ["_law_script"] (spLaw K):=by
  have e:=hfa.symm.trans (PySem.W.mg_of X G aL)
  cases e
  have F0:=fun_mk (st:=s_law_at) l0 c0 k0
  have F1:=fun_mk (st:=s_law_free) l1 c1 k1
  have F2:=fun_mk (st:=s_law_made) l2 c2 k2
  have F3:=fun_mk (st:=s_law_mixed) l3 c3 k3
  have F4:=fun_mk (st:=s_law_big) l4 c4 k4
  have F5:=fun_mk (st:=s_law_own) l5 c5 k5
  have F6:=fun_mk (st:=s_law_pull) l6 c6 k6
  have F7:=fun_mk (st:=s_form_from) l7 c7 k7
  have F8:=fun_mk (st:=s_made) l8 c8 k8
  have F9:=fun_mk (st:=s_lowest) l9 c9 k9
  have F10:=fun_mk (st:=s_without_pairs) l10 c10 k10
  have F11:=fun_mk (st:=s_floor) l11 c11 k11
  have F12:=fun_mk (st:=s_first_products) l12 c12 k12
  have F13:=fun_mk (st:=s_reached) l13 c13 k13
  have F14:=fun_mk (st:=s_way_to) l14 c14 k14
  have F15:=fun_mk (st:=s_open_way) l15 c15 k15
  have F16:=fun_mk (st:=s_bits_of) l16 c16 k16
  have F17:=fun_mk (st:=s_listed) l17 c17 k17
  have F18:=fun_mk (st:=s_pulls) l18 c18 k18
  have F19:=fun_mk (st:=s_doubled) l19 c19 k19
  have F20:=fun_mk (st:=s_push) l20 c20 k20
  have F21:=fun_mk (st:=s_unknowns) l21 c21 k21
  have F22:=fun_mk (st:=s_pulled) l22 c22 k22
  have F23:=fun_mk (st:=s_law_products_at) l23 c23 k23
  have F24:=fun_mk (st:=s_law_parts) l24 c24 k24
  have F25:=fun_mk (st:=s_law_form_of) l25 c25 k25
  have F26:=fun_mk (st:=s_law_whole) l26 c26 k26
  have F27:=fun_mk (st:=s_law_products) l27 c27 k27
  have F28:=fun_mk (st:=s_law_worth) l28 c28 k28
  have T:Txt K mg:={
    a_law_at:=f0,fd_law_at:=_,d_law_at:=⟨F0,PySem.W.mg_of X G a0,F0.binds fun _ _ _ _ _ _ us hl=>us2 (fun _ _=>rfl) us hl⟩
    a_law_free:=f1,fd_law_free:=_,d_law_free:=⟨F1,PySem.W.mg_of X G a1,F1.binds fun _ _ _ _ _ _ us hl=>us1 (fun _=>rfl) us hl⟩
    a_law_made:=f2,fd_law_made:=_,d_law_made:=⟨F2,PySem.W.mg_of X G a2,F2.binds fun _ _ _ _ _ _ us hl=>us1 (fun _=>rfl) us hl⟩
    a_law_mixed:=f3,fd_law_mixed:=_,d_law_mixed:=⟨F3,PySem.W.mg_of X G a3,F3.binds fun _ _ _ _ _ _ us hl=>us2 (fun _ _=>rfl) us hl⟩
    a_law_big:=f4,fd_law_big:=_,d_law_big:=⟨F4,PySem.W.mg_of X G a4,F4.binds fun _ _ _ _ _ _ us hl=>us3 (fun _ _ _=>rfl) us hl⟩
    a_law_own:=f5,fd_law_own:=_,d_law_own:=⟨F5,PySem.W.mg_of X G a5,F5.binds fun _ _ _ _ _ _ us hl=>us1 (fun _=>rfl) us hl⟩
    a_law_pull:=f6,fd_law_pull:=_,d_law_pull:=⟨F6,PySem.W.mg_of X G a6,F6.binds fun _ _ _ _ _ _ us hl=>us2 (fun _ _=>rfl) us hl⟩
    a_form_from:=f7,fd_form_from:=_,d_form_from:=⟨F7,PySem.W.mg_of X G a7,F7.binds fun _ _ _ _ _ _ us hl=>us1 (fun _=>rfl) us hl⟩
    a_made:=f8,fd_made:=_,d_made:=⟨F8,PySem.W.mg_of X G a8,F8.binds fun _ _ _ _ _ _ us hl=>us1 (fun _=>rfl) us hl⟩
    a_lowest:=f9,fd_lowest:=_,d_lowest:=⟨F9,PySem.W.mg_of X G a9,F9.binds fun _ _ _ _ _ _ us hl=>us1 (fun _=>rfl) us hl⟩
    a_without_pairs:=f10,fd_without_pairs:=_,d_without_pairs:=⟨F10,PySem.W.mg_of X G a10,F10.binds fun _ _ _ _ _ _ us hl=>us1 (fun _=>rfl) us hl⟩
    a_floor:=f11,fd_floor:=_,d_floor:=⟨F11,PySem.W.mg_of X G a11,F11.binds fun _ _ _ _ _ _ us hl=>us1 (fun _=>rfl) us hl⟩
    a_first_products:=f12,fd_first_products:=_,d_first_products:=⟨F12,PySem.W.mg_of X G a12,F12.binds fun _ _ _ _ _ _ us hl=>us2 (fun _ _=>rfl) us hl⟩
    a_reached:=f13,fd_reached:=_,d_reached:=⟨F13,PySem.W.mg_of X G a13,F13.binds fun _ _ _ _ _ _ us hl=>us2 (fun _ _=>rfl) us hl⟩
    a_way_to:=f14,fd_way_to:=_,d_way_to:=⟨F14,PySem.W.mg_of X G a14,F14.binds fun _ _ _ _ _ _ us hl=>us2 (fun _ _=>rfl) us hl⟩
    a_open_way:=f15,fd_open_way:=_,d_open_way:=⟨F15,PySem.W.mg_of X G a15,F15.binds fun _ _ _ _ _ _ us hl=>us2 (fun _ _=>rfl) us hl⟩
    a_bits_of:=f16,fd_bits_of:=_,d_bits_of:=⟨F16,PySem.W.mg_of X G a16,F16.binds fun _ _ _ _ _ _ us hl=>us2 (fun _ _=>rfl) us hl⟩
    a_listed:=f17,fd_listed:=_,d_listed:=⟨F17,PySem.W.mg_of X G a17,F17.binds fun _ _ _ _ _ _ us hl=>us1 (fun _=>rfl) us hl⟩
    a_pulls:=f18,fd_pulls:=_,d_pulls:=⟨F18,PySem.W.mg_of X G a18,F18.binds fun _ _ _ _ _ _ us hl=>us1 (fun _=>rfl) us hl⟩
    a_doubled:=f19,fd_doubled:=_,d_doubled:=⟨F19,PySem.W.mg_of X G a19,F19.binds fun _ _ _ _ _ _ us hl=>us1 (fun _=>rfl) us hl⟩
    a_push:=f20,fd_push:=_,d_push:=⟨F20,PySem.W.mg_of X G a20,F20.binds fun _ _ _ _ _ _ us hl=>us3 (fun _ _ _=>rfl) us hl⟩
    a_unknowns:=f21,fd_unknowns:=_,d_unknowns:=⟨F21,PySem.W.mg_of X G a21,F21.binds fun _ _ _ _ _ _ us hl=>us1 (fun _=>rfl) us hl⟩
    a_pulled:=f22,fd_pulled:=_,d_pulled:=⟨F22,PySem.W.mg_of X G a22,F22.binds fun _ _ _ _ _ _ us hl=>us1 (fun _=>rfl) us hl⟩
    a_law_products_at:=f23,fd_law_products_at:=_,d_law_products_at:=⟨F23,PySem.W.mg_of X G a23,F23.binds fun _ _ _ _ _ _ us hl=>us2 (fun _ _=>rfl) us hl⟩
    a_law_parts:=f24,fd_law_parts:=_,d_law_parts:=⟨F24,PySem.W.mg_of X G a24,F24.binds fun _ _ _ _ _ _ us hl=>us1 (fun _=>rfl) us hl⟩
    a_law_form_of:=f25,fd_law_form_of:=_,d_law_form_of:=⟨F25,PySem.W.mg_of X G a25,F25.binds fun _ _ _ _ _ _ us hl=>us2 (fun _ _=>rfl) us hl⟩
    a_law_whole:=f26,fd_law_whole:=_,d_law_whole:=⟨F26,PySem.W.mg_of X G a26,F26.binds fun _ _ _ _ _ _ us hl=>us1 (fun _=>rfl) us hl⟩
    a_law_products:=f27,fd_law_products:=_,d_law_products:=⟨F27,PySem.W.mg_of X G a27,F27.binds fun _ _ _ _ _ _ us hl=>us2 (fun _ _=>rfl) us hl⟩
    a_law_worth:=f28,fd_law_worth:=_,d_law_worth:=⟨F28,PySem.W.mg_of X G a28,F28.binds fun _ _ _ _ _ _ us hl=>us2 (fun _ _=>rfl) us hl⟩
    n_abs:=PySem.W.mg_none_of X G z_abs
    n_bool:=PySem.W.mg_none_of X G z_bool
    n_enumerate:=PySem.W.mg_none_of X G z_enumerate
    n_int:=PySem.W.mg_none_of X G z_int
    n_isinstance:=PySem.W.mg_none_of X G z_isinstance
    n_len:=PySem.W.mg_none_of X G z_len
    n_list:=PySem.W.mg_none_of X G z_list
    n_min:=PySem.W.mg_none_of X G z_min
    n_range:=PySem.W.mg_none_of X G z_range
    n_sorted:=PySem.W.mg_none_of X G z_sorted
    n_sum:=PySem.W.mg_none_of X G z_sum
    n_tuple:=PySem.W.mg_none_of X G z_tuple
  }
  have FL:=fun_mk (st:=s_law) lL cL kL
  exact ⟨PySem.W.fnOf "law" "law" (defArgs s_law) (defBody s_law) (defScope s_law) .none kVL dcL pmL anL cdL ctL,fun s v => .of_eq rfl,fun base _ _=>ok_law FL T⟩
noncomputable def K (P:Params) : PySem.W.Frag :=
  (nat_lit 3,⟨.type "dict",none,.dict #[⟨PyData.keyHash P "__name__",.str "__name__" 165,.str "law_onceform_k61_products_told" 373⟩,⟨PyData.keyHash P "__doc__",.str "__doc__" 166,.none⟩,⟨PyData.keyHash P "__package__",.str "__package__" 167,.none⟩,⟨PyData.keyHash P "__loader__",.str "__loader__" 168,.builtin "__main__.__loader__#opaque"⟩,⟨PyData.keyHash P "__spec__",.str "__spec__" 169,.none⟩,⟨PyData.keyHash P "__annotations__",.str "__annotations__" 170,.ref 6⟩,⟨PyData.keyHash P "__builtins__",.str "__builtins__" 171,.ref 4⟩,⟨PyData.keyHash P "__file__",.str "__file__" 173,.str "/claim/cut.py" 172⟩,⟨PyData.keyHash P "__cached__",.str "__cached__" 174,.none⟩,⟨PyData.keyHash P "doubled",.str "doubled" 197,.ref 21⟩,⟨PyData.keyHash P "bits_of",.str "bits_of" 207,.ref 28⟩,⟨PyData.keyHash P "listed",.str "listed" 213,.ref 33⟩,⟨PyData.keyHash P "lowest",.str "lowest" 220,.ref 40⟩,⟨PyData.keyHash P "FormError",.str "FormError" 240,.ref 50⟩,⟨PyData.keyHash P "NoPull",.str "NoPull" 256,.ref 63⟩,⟨PyData.keyHash P "form_from",.str "form_from" 264,.ref 70⟩,⟨PyData.keyHash P "made",.str "made" 274,.ref 77⟩,⟨PyData.keyHash P "unknowns",.str "unknowns" 284,.ref 84⟩,⟨PyData.keyHash P "floor",.str "floor" 292,.ref 89⟩,⟨PyData.keyHash P "pulled",.str "pulled" 300,.ref 94⟩,⟨PyData.keyHash P "pulls",.str "pulls" 310,.ref 101⟩,⟨PyData.keyHash P "without_pairs",.str "without_pairs" 316,.ref 106⟩,⟨PyData.keyHash P "first_products",.str "first_products" 329,.ref 113⟩,⟨PyData.keyHash P "reached",.str "reached" 342,.ref 120⟩,⟨PyData.keyHash P "open_way",.str "open_way" 352,.ref 127⟩,⟨PyData.keyHash P "way_to",.str "way_to" 361,.ref 134⟩,⟨PyData.keyHash P "push",.str "push" 372,.ref 141⟩,⟨PyData.keyHash P "_law_whole",.str "_law_whole" 381,.ref 148⟩,⟨PyData.keyHash P "_law_at",.str "_law_at" 389,.ref 155⟩,⟨PyData.keyHash P "_law_mixed",.str "_law_mixed" 398,.ref 162⟩,⟨PyData.keyHash P "_law_free",.str "_law_free" 405,.ref 169⟩,⟨PyData.keyHash P "_law_big",.str "_law_big" 415,.ref 176⟩,⟨PyData.keyHash P "_law_own",.str "_law_own" 422,.ref 183⟩,⟨PyData.keyHash P "_law_made",.str "_law_made" 428,.ref 188⟩,⟨PyData.keyHash P "_law_form",.str "_law_form" 441,.ref 195⟩,⟨PyData.keyHash P "_law_worth",.str "_law_worth" 447,.ref 200⟩,⟨PyData.keyHash P "_law_pull",.str "_law_pull" 463,.ref 207⟩,⟨PyData.keyHash P "_law_products_at",.str "_law_products_at" 475,.ref 214⟩,⟨PyData.keyHash P "_law_products",.str "_law_products" 481,.ref 219⟩,⟨PyData.keyHash P "_law_parts",.str "_law_parts" 487,.ref 224⟩,⟨PyData.keyHash P "_law_form_of",.str "_law_form_of" 493,.ref 229⟩,⟨PyData.keyHash P "law",.str "law" 499,.ref 234⟩] 42,#[]⟩) ::
  (nat_lit 20,⟨.type "code",none,.fields #[.str "doubled" 189,.str "doubled" 190,.str "/claim/cut.py" 191,.int 2 0,.int 1 0,.int 0 0,.int 0 0,.int 3 0,.ref 15,.bool true,.int 181 0,.ref 16,.none,.ref 17,.ref 18,.ref 19,.int 195 0,.int 2 0,.str "/claim/cut.py" 196],#[]⟩) ::
  (nat_lit 21,⟨.type "function",none,.func (PySem.W.fnOf "doubled" "doubled" (defArgs s_doubled) (defBody s_doubled) (defScope s_doubled) .none .none .none (.str "onceform.bits" 187) none (.ref 20) .none),#[]⟩) ::
  (nat_lit 27,⟨.type "code",none,.fields #[.str "bits_of" 198,.str "bits_of" 199,.str "/claim/cut.py" 200,.int 7 0,.int 2 0,.int 0 0,.int 0 0,.int 3 0,.ref 22,.bool true,.int 181 0,.ref 23,.none,.ref 24,.ref 25,.ref 26,.int 205 0,.int 7 0,.str "/claim/cut.py" 206],#[]⟩) ::
  (nat_lit 28,⟨.type "function",none,.func (PySem.W.fnOf "bits_of" "bits_of" (defArgs s_bits_of) (defBody s_bits_of) (defScope s_bits_of) .none .none .none (.str "onceform.bits" 187) none (.ref 27) .none),#[]⟩) ::
  (nat_lit 32,⟨.type "code",none,.fields #[.str "listed" 208,.str "listed" 209,.str "/claim/cut.py" 210,.int 13 0,.int 1 0,.int 0 0,.int 0 0,.int 3 0,.ref 29,.bool true,.int 181 0,.ref 30,.none,.none,.none,.ref 31,.int 211 0,.int 13 0,.str "/claim/cut.py" 212],#[]⟩) ::
  (nat_lit 33,⟨.type "function",none,.func (PySem.W.fnOf "listed" "listed" (defArgs s_listed) (defBody s_listed) (defScope s_listed) .none .none .none (.str "onceform.bits" 187) none (.ref 32) .none),#[]⟩) ::
  (nat_lit 39,⟨.type "code",none,.fields #[.str "lowest" 214,.str "lowest" 215,.str "/claim/cut.py" 216,.int 15 0,.int 1 0,.int 0 0,.int 0 0,.int 3 0,.ref 34,.bool true,.int 181 0,.ref 35,.none,.ref 36,.ref 37,.ref 38,.int 218 0,.int 15 0,.str "/claim/cut.py" 219],#[]⟩) ::
  (nat_lit 40,⟨.type "function",none,.func (PySem.W.fnOf "lowest" "lowest" (defArgs s_lowest) (defBody s_lowest) (defScope s_lowest) .none .none .none (.str "onceform.bits" 187) none (.ref 39) .none),#[]⟩) ::
  (nat_lit 69,⟨.type "code",none,.fields #[.str "form_from" 259,.str "form_from" 260,.str "/claim/cut.py" 261,.int 23 0,.int 1 0,.int 0 0,.int 0 0,.int 3 0,.ref 66,.bool true,.int 181 0,.ref 67,.none,.none,.none,.ref 68,.int 262 0,.int 23 0,.str "/claim/cut.py" 263],#[]⟩) ::
  (nat_lit 70,⟨.type "function",none,.func (PySem.W.fnOf "form_from" "form_from" (defArgs s_form_from) (defBody s_form_from) (defScope s_form_from) .none .none .none (.str "onceform.forms" 257) none (.ref 69) .none),#[]⟩) ::
  (nat_lit 76,⟨.type "code",none,.fields #[.str "made" 265,.str "made" 266,.str "/claim/cut.py" 267,.int 25 0,.int 1 0,.int 0 0,.int 0 0,.int 3 0,.ref 71,.bool true,.int 181 0,.ref 72,.none,.ref 73,.ref 74,.ref 75,.int 272 0,.int 25 0,.str "/claim/cut.py" 273],#[]⟩) ::
  (nat_lit 77,⟨.type "function",none,.func (PySem.W.fnOf "made" "made" (defArgs s_made) (defBody s_made) (defScope s_made) .none .none .none (.str "onceform.forms" 257) none (.ref 76) .none),#[]⟩) ::
  (nat_lit 83,⟨.type "code",none,.fields #[.str "unknowns" 275,.str "unknowns" 276,.str "/claim/cut.py" 277,.int 30 0,.int 1 0,.int 0 0,.int 0 0,.int 3 0,.ref 78,.bool true,.int 181 0,.ref 79,.none,.ref 80,.ref 81,.ref 82,.int 282 0,.int 30 0,.str "/claim/cut.py" 283],#[]⟩) ::
  (nat_lit 84,⟨.type "function",none,.func (PySem.W.fnOf "unknowns" "unknowns" (defArgs s_unknowns) (defBody s_unknowns) (defScope s_unknowns) .none .none .none (.str "onceform.forms" 257) none (.ref 83) .none),#[]⟩) ::
  (nat_lit 88,⟨.type "code",none,.fields #[.str "floor" 287,.str "floor" 288,.str "/claim/cut.py" 289,.int 36 0,.int 1 0,.int 0 0,.int 0 0,.int 3 0,.ref 85,.bool true,.int 181 0,.ref 86,.none,.none,.none,.ref 87,.int 290 0,.int 36 0,.str "/claim/cut.py" 291],#[]⟩) ::
  (nat_lit 89,⟨.type "function",none,.func (PySem.W.fnOf "floor" "floor" (defArgs s_floor) (defBody s_floor) (defScope s_floor) .none .none .none (.str "onceform.least" 285) none (.ref 88) .none),#[]⟩) ::
  (nat_lit 93,⟨.type "code",none,.fields #[.str "pulled" 295,.str "pulled" 296,.str "/claim/cut.py" 297,.int 39 0,.int 1 0,.int 0 0,.int 0 0,.int 3 0,.ref 90,.bool true,.int 181 0,.ref 91,.none,.none,.none,.ref 92,.int 298 0,.int 39 0,.str "/claim/cut.py" 299],#[]⟩) ::
  (nat_lit 94,⟨.type "function",none,.func (PySem.W.fnOf "pulled" "pulled" (defArgs s_pulled) (defBody s_pulled) (defScope s_pulled) .none .none .none (.str "onceform.pulls" 293) none (.ref 93) .none),#[]⟩) ::
  (nat_lit 100,⟨.type "code",none,.fields #[.str "pulls" 301,.str "pulls" 302,.str "/claim/cut.py" 303,.int 54 0,.int 1 0,.int 0 0,.int 0 0,.int 3 0,.ref 95,.bool true,.int 181 0,.ref 96,.none,.ref 97,.ref 98,.ref 99,.int 308 0,.int 54 0,.str "/claim/cut.py" 309],#[]⟩) ::
  (nat_lit 101,⟨.type "function",none,.func (PySem.W.fnOf "pulls" "pulls" (defArgs s_pulls) (defBody s_pulls) (defScope s_pulls) .none .none .none (.str "onceform.pulls" 293) none (.ref 100) .none),#[]⟩) ::
  (nat_lit 105,⟨.type "code",none,.fields #[.str "without_pairs" 311,.str "without_pairs" 312,.str "/claim/cut.py" 313,.int 60 0,.int 1 0,.int 0 0,.int 0 0,.int 3 0,.ref 102,.bool true,.int 181 0,.ref 103,.none,.none,.none,.ref 104,.int 314 0,.int 60 0,.str "/claim/cut.py" 315],#[]⟩) ::
  (nat_lit 106,⟨.type "function",none,.func (PySem.W.fnOf "without_pairs" "without_pairs" (defArgs s_without_pairs) (defBody s_without_pairs) (defScope s_without_pairs) .none .none .none (.str "onceform.pulls" 293) none (.ref 105) .none),#[]⟩) ::
  (nat_lit 112,⟨.type "code",none,.fields #[.str "first_products" 317,.str "first_products" 318,.str "/claim/cut.py" 319,.int 62 0,.int 2 0,.int 0 0,.int 0 0,.int 3 0,.ref 107,.bool true,.int 181 0,.ref 108,.none,.ref 109,.ref 110,.ref 111,.int 327 0,.int 62 0,.str "/claim/cut.py" 328],#[]⟩) ::
  (nat_lit 113,⟨.type "function",none,.func (PySem.W.fnOf "first_products" "first_products" (defArgs s_first_products) (defBody s_first_products) (defScope s_first_products) .none .none .none (.str "onceform.pulls" 293) none (.ref 112) .none),#[]⟩) ::
  (nat_lit 119,⟨.type "code",none,.fields #[.str "reached" 330,.str "reached" 331,.str "/claim/cut.py" 332,.int 74 0,.int 2 0,.int 0 0,.int 0 0,.int 3 0,.ref 114,.bool true,.int 181 0,.ref 115,.none,.ref 116,.ref 117,.ref 118,.int 340 0,.int 74 0,.str "/claim/cut.py" 341],#[]⟩) ::
  (nat_lit 120,⟨.type "function",none,.func (PySem.W.fnOf "reached" "reached" (defArgs s_reached) (defBody s_reached) (defScope s_reached) .none .none .none (.str "onceform.pulls" 293) none (.ref 119) .none),#[]⟩) ::
  (nat_lit 126,⟨.type "code",none,.fields #[.str "open_way" 343,.str "open_way" 344,.str "/claim/cut.py" 345,.int 86 0,.int 2 0,.int 0 0,.int 0 0,.int 3 0,.ref 121,.bool true,.int 181 0,.ref 122,.none,.ref 123,.ref 124,.ref 125,.int 350 0,.int 86 0,.str "/claim/cut.py" 351],#[]⟩) ::
  (nat_lit 127,⟨.type "function",none,.func (PySem.W.fnOf "open_way" "open_way" (defArgs s_open_way) (defBody s_open_way) (defScope s_open_way) .none .none .none (.str "onceform.pulls" 293) none (.ref 126) .none),#[]⟩) ::
  (nat_lit 133,⟨.type "code",none,.fields #[.str "way_to" 353,.str "way_to" 354,.str "/claim/cut.py" 355,.int 92 0,.int 2 0,.int 0 0,.int 0 0,.int 3 0,.ref 128,.bool true,.int 181 0,.ref 129,.none,.ref 130,.ref 131,.ref 132,.int 359 0,.int 92 0,.str "/claim/cut.py" 360],#[]⟩) ::
  (nat_lit 134,⟨.type "function",none,.func (PySem.W.fnOf "way_to" "way_to" (defArgs s_way_to) (defBody s_way_to) (defScope s_way_to) .none .none .none (.str "onceform.pulls" 293) none (.ref 133) .none),#[]⟩) ::
  (nat_lit 140,⟨.type "code",none,.fields #[.str "push" 362,.str "push" 363,.str "/claim/cut.py" 364,.int 98 0,.int 3 0,.int 0 0,.int 0 0,.int 3 0,.ref 135,.bool true,.int 181 0,.ref 136,.none,.ref 137,.ref 138,.ref 139,.int 370 0,.int 98 0,.str "/claim/cut.py" 371],#[]⟩) ::
  (nat_lit 141,⟨.type "function",none,.func (PySem.W.fnOf "push" "push" (defArgs s_push) (defBody s_push) (defScope s_push) .none .none .none (.str "onceform.pulls" 293) none (.ref 140) .none),#[]⟩) ::
  (nat_lit 147,⟨.type "code",none,.fields #[.str "_law_whole" 375,.str "_law_whole" 376,.str "/claim/cut.py" 377,.int 104 0,.int 1 0,.int 0 0,.int 0 0,.int 3 0,.ref 142,.bool true,.int 181 0,.ref 143,.none,.ref 144,.ref 145,.ref 146,.int 379 0,.int 104 0,.str "/claim/cut.py" 380],#[]⟩) ::
  (nat_lit 148,⟨.type "function",none,.func (PySem.W.fnOf "_law_whole" "_law_whole" (defArgs s_law_whole) (defBody s_law_whole) (defScope s_law_whole) .none .none .none (.str "law_onceform_k61_products_told" 373) none (.ref 147) .none),#[]⟩) ::
  (nat_lit 154,⟨.type "code",none,.fields #[.str "_law_at" 382,.str "_law_at" 383,.str "/claim/cut.py" 384,.int 106 0,.int 2 0,.int 0 0,.int 0 0,.int 3 0,.ref 149,.bool true,.int 181 0,.ref 150,.none,.ref 151,.ref 152,.ref 153,.int 387 0,.int 106 0,.str "/claim/cut.py" 388],#[]⟩) ::
  (nat_lit 155,⟨.type "function",none,.func (PySem.W.fnOf "_law_at" "_law_at" (defArgs s_law_at) (defBody s_law_at) (defScope s_law_at) .none .none .none (.str "law_onceform_k61_products_told" 373) none (.ref 154) .none),#[]⟩) ::
  (nat_lit 161,⟨.type "code",none,.fields #[.str "_law_mixed" 390,.str "_law_mixed" 391,.str "/claim/cut.py" 392,.int 110 0,.int 2 0,.int 0 0,.int 0 0,.int 3 0,.ref 156,.bool true,.int 181 0,.ref 157,.none,.ref 158,.ref 159,.ref 160,.int 396 0,.int 110 0,.str "/claim/cut.py" 397],#[]⟩) ::
  (nat_lit 162,⟨.type "function",none,.func (PySem.W.fnOf "_law_mixed" "_law_mixed" (defArgs s_law_mixed) (defBody s_law_mixed) (defScope s_law_mixed) .none .none .none (.str "law_onceform_k61_products_told" 373) none (.ref 161) .none),#[]⟩) ::
  (nat_lit 168,⟨.type "code",none,.fields #[.str "_law_free" 399,.str "_law_free" 400,.str "/claim/cut.py" 401,.int 114 0,.int 1 0,.int 0 0,.int 0 0,.int 3 0,.ref 163,.bool true,.int 181 0,.ref 164,.none,.ref 165,.ref 166,.ref 167,.int 403 0,.int 114 0,.str "/claim/cut.py" 404],#[]⟩) ::
  (nat_lit 169,⟨.type "function",none,.func (PySem.W.fnOf "_law_free" "_law_free" (defArgs s_law_free) (defBody s_law_free) (defScope s_law_free) .none .none .none (.str "law_onceform_k61_products_told" 373) none (.ref 168) .none),#[]⟩) ::
  (nat_lit 175,⟨.type "code",none,.fields #[.str "_law_big" 406,.str "_law_big" 407,.str "/claim/cut.py" 408,.int 116 0,.int 3 0,.int 0 0,.int 0 0,.int 3 0,.ref 170,.bool true,.int 181 0,.ref 171,.none,.ref 172,.ref 173,.ref 174,.int 413 0,.int 116 0,.str "/claim/cut.py" 414],#[]⟩) ::
  (nat_lit 176,⟨.type "function",none,.func (PySem.W.fnOf "_law_big" "_law_big" (defArgs s_law_big) (defBody s_law_big) (defScope s_law_big) .none .none .none (.str "law_onceform_k61_products_told" 373) none (.ref 175) .none),#[]⟩) ::
  (nat_lit 182,⟨.type "code",none,.fields #[.str "_law_own" 416,.str "_law_own" 417,.str "/claim/cut.py" 418,.int 121 0,.int 1 0,.int 0 0,.int 0 0,.int 3 0,.ref 177,.bool true,.int 181 0,.ref 178,.none,.ref 179,.ref 180,.ref 181,.int 420 0,.int 121 0,.str "/claim/cut.py" 421],#[]⟩) ::
  (nat_lit 183,⟨.type "function",none,.func (PySem.W.fnOf "_law_own" "_law_own" (defArgs s_law_own) (defBody s_law_own) (defScope s_law_own) .none .none .none (.str "law_onceform_k61_products_told" 373) none (.ref 182) .none),#[]⟩) ::
  (nat_lit 187,⟨.type "code",none,.fields #[.str "_law_made" 423,.str "_law_made" 424,.str "/claim/cut.py" 425,.int 125 0,.int 1 0,.int 0 0,.int 0 0,.int 3 0,.ref 184,.bool true,.int 181 0,.ref 185,.none,.none,.none,.ref 186,.int 426 0,.int 125 0,.str "/claim/cut.py" 427],#[]⟩) ::
  (nat_lit 188,⟨.type "function",none,.func (PySem.W.fnOf "_law_made" "_law_made" (defArgs s_law_made) (defBody s_law_made) (defScope s_law_made) .none .none .none (.str "law_onceform_k61_products_told" 373) none (.ref 187) .none),#[]⟩) ::
  (nat_lit 199,⟨.type "code",none,.fields #[.str "_law_worth" 442,.str "_law_worth" 443,.str "/claim/cut.py" 444,.int 136 0,.int 2 0,.int 0 0,.int 0 0,.int 3 0,.ref 196,.bool true,.int 181 0,.ref 197,.none,.none,.none,.ref 198,.int 445 0,.int 136 0,.str "/claim/cut.py" 446],#[]⟩) ::
  (nat_lit 200,⟨.type "function",none,.func (PySem.W.fnOf "_law_worth" "_law_worth" (defArgs s_law_worth) (defBody s_law_worth) (defScope s_law_worth) .none .none .none (.str "law_onceform_k61_products_told" 373) none (.ref 199) .none),#[]⟩) ::
  (nat_lit 206,⟨.type "code",none,.fields #[.str "_law_pull" 448,.str "_law_pull" 449,.str "/claim/cut.py" 450,.int 138 0,.int 2 0,.int 0 0,.int 0 0,.int 3 0,.ref 201,.bool true,.int 181 0,.ref 202,.none,.ref 203,.ref 204,.ref 205,.int 461 0,.int 138 0,.str "/claim/cut.py" 462],#[]⟩) ::
  (nat_lit 207,⟨.type "function",none,.func (PySem.W.fnOf "_law_pull" "_law_pull" (defArgs s_law_pull) (defBody s_law_pull) (defScope s_law_pull) .none .none .none (.str "law_onceform_k61_products_told" 373) none (.ref 206) .none),#[]⟩) ::
  (nat_lit 213,⟨.type "code",none,.fields #[.str "_law_products_at" 464,.str "_law_products_at" 465,.str "/claim/cut.py" 466,.int 152 0,.int 2 0,.int 0 0,.int 0 0,.int 3 0,.ref 208,.bool true,.int 181 0,.ref 209,.none,.ref 210,.ref 211,.ref 212,.int 473 0,.int 152 0,.str "/claim/cut.py" 474],#[]⟩) ::
  (nat_lit 214,⟨.type "function",none,.func (PySem.W.fnOf "_law_products_at" "_law_products_at" (defArgs s_law_products_at) (defBody s_law_products_at) (defScope s_law_products_at) .none .none .none (.str "law_onceform_k61_products_told" 373) none (.ref 213) .none),#[]⟩) ::
  (nat_lit 218,⟨.type "code",none,.fields #[.str "_law_products" 476,.str "_law_products" 477,.str "/claim/cut.py" 478,.int 158 0,.int 2 0,.int 0 0,.int 0 0,.int 3 0,.ref 215,.bool true,.int 181 0,.ref 216,.none,.none,.none,.ref 217,.int 479 0,.int 158 0,.str "/claim/cut.py" 480],#[]⟩) ::
  (nat_lit 219,⟨.type "function",none,.func (PySem.W.fnOf "_law_products" "_law_products" (defArgs s_law_products) (defBody s_law_products) (defScope s_law_products) .none .none .none (.str "law_onceform_k61_products_told" 373) none (.ref 218) .none),#[]⟩) ::
  (nat_lit 223,⟨.type "code",none,.fields #[.str "_law_parts" 482,.str "_law_parts" 483,.str "/claim/cut.py" 484,.int 173 0,.int 1 0,.int 0 0,.int 0 0,.int 3 0,.ref 220,.bool true,.int 181 0,.ref 221,.none,.none,.none,.ref 222,.int 485 0,.int 173 0,.str "/claim/cut.py" 486],#[]⟩) ::
  (nat_lit 224,⟨.type "function",none,.func (PySem.W.fnOf "_law_parts" "_law_parts" (defArgs s_law_parts) (defBody s_law_parts) (defScope s_law_parts) .none .none .none (.str "law_onceform_k61_products_told" 373) none (.ref 223) .none),#[]⟩) ::
  (nat_lit 228,⟨.type "code",none,.fields #[.str "_law_form_of" 488,.str "_law_form_of" 489,.str "/claim/cut.py" 490,.int 179 0,.int 2 0,.int 0 0,.int 0 0,.int 3 0,.ref 225,.bool true,.int 181 0,.ref 226,.none,.none,.none,.ref 227,.int 491 0,.int 179 0,.str "/claim/cut.py" 492],#[]⟩) ::
  (nat_lit 229,⟨.type "function",none,.func (PySem.W.fnOf "_law_form_of" "_law_form_of" (defArgs s_law_form_of) (defBody s_law_form_of) (defScope s_law_form_of) .none .none .none (.str "law_onceform_k61_products_told" 373) none (.ref 228) .none),#[]⟩) ::
  (nat_lit 233,⟨.type "code",none,.fields #[.str "law" 494,.str "law" 495,.str "/claim/cut.py" 496,.int 184 0,.int 1 0,.int 0 0,.int 0 0,.int 3 0,.ref 230,.bool true,.int 181 0,.ref 231,.none,.none,.none,.ref 232,.int 497 0,.int 184 0,.str "/claim/cut.py" 498],#[]⟩) ::
  (nat_lit 234,⟨.type "function",none,.func (PySem.W.fnOf "law" "law" (defArgs s_law) (defBody s_law) (defScope s_law) .none .none .none (.str "law_onceform_k61_products_told" 373) none (.ref 233) .none),#[]⟩) ::
  []
noncomputable abbrev Q : Program := PySem.W.view PySem.Challenge.rw_onceform_k61_products_told.row.toRowW.prog [1, 2, 3, 4, 6, 7, 9, 10, 11, 13, 15, 16, 17, 18, 19, 20, 21, 22, 24, 25, 26, 27, 28, 29, 30, 31, 32, 33, 34, 35, 36, 37, 38]
theorem as_is (P:Params) : [3,20,21,27,28,32,33,39,40,69,70,76,77,83,84,88,89,93,94,100,101,105,106,112,113,119,120,126,127,133,134,140,141,147,148,154,155,161,162,168,169,175,176,182,183,187,188,199,200,206,207,213,214,218,219,223,224,228,229,233,234]=(K P).map (·.1):=by kernel_rfl
noncomputable abbrev Hk:PySem.W.Hook:=PySem.W.kHook K [3,20,21,27,28,32,33,39,40,69,70,76,77,83,84,88,89,93,94,100,101,105,106,112,113,119,120,126,127,133,134,140,141,147,148,154,155,161,162,168,169,175,176,182,183,187,188,199,200,206,207,213,214,218,219,223,224,228,229,233,234] as_is
noncomputable abbrev Xq : Shared → Bool := fun s => PySem.W.xlAt Q [] s && PySem.W.recOk (PySem.W.RowW.records PySem.Challenge.rw_onceform_k61_products_told.row.toRowW) s
set_option maxHeartbeats 0 in
theorem left : PySem.W.LeftO PySem.Challenge.rw_onceform_k61_products_told.row.toRowW.prog Q [] Xq Hk.obs Hk.val 2886 := OH.left (by kernel_rfl) (by decide) (fun s => by kernel_rfl) (fun w => by kernel_rfl)
set_option maxHeartbeats 0 in
theorem said : PySem.Challenge.rw_onceform_k61_products_told.wellSaid = true := (congrFun PySem.W.Fast.te9446332074065402090 _).trans (by kernel_rfl)
theorem walk {l:PySem.W.OpenLaw}{q:Program}{loose:List Str}{XP:(Str→Option Value)→Heap→Prop}{YP:World→Heap→Prop}{d:DefRec}{K:Params→PySem.W.Frag} (hn:l.most=some 63) (hdf:d.params.defaults=[])
    (hY:∀ (w:World) (h:Heap),YP w h→(K w.params).In h)
    (F:∀ (w:World) (mg:Str→Option Value) (fa:Addr) (h:Heap),(K w.params).In h→h.Ns mainGlobals mg→mg d.name=some (.ref fa) →
      ∃ fd:FuncData,(∀ (s:Shared) (u:Value),BindsTo s fd ⟨[u],[]⟩ [("_law_script",u)])∧∀ base:Heap,(K w.params).In base→base.Ns mainGlobals mg→FnOk l.prog w (K w.params) mg base CX0 5 fa fd ["_law_script"] (spLaw (K w.params))) :
    PySem.W.WalkO q loose XP YP l.row.toRowW d [] (fun f vs=>PySem.call f vs) :=
  L2.walk_ofB (n:=63) (k:=5) (x := "_law_script") (CX:=fun _=>CX0) (sp:=fun w=>spLaw (K w.params)) hn (by decide) hdf ⟨rfl,by decide,by decide⟩ hY F (fun _ _ a ns hl hb _ hS=>⟨a,ns,rfl,hS,hl,hb,fun _=>rfl⟩) fun _ _ _ _ _ z=>z
end My
open PySem PySem.W PyProof.Rows
set_option maxRecDepth 100000 in
set_option maxHeartbeats 0 in
theorem PySem.Challenge.cw_onceform_k61_products_told_holds : PySem.Challenge.rw_onceform_k61_products_told.Holds := by
  w_on
  refine PySem.W.holds_law My.said fun said => ?_
  refine PySem.W.holds_open (q:=My.Q) (loose:=[]) (Xt:=My.Xq) (XP:=PySem.W.XL My.Q []) (Yf:=My.Hk.obs) (Ya:=My.Hk.val) (YP:=PySem.W.InK My.K) (N:=2886) (d:=⟨"law",L2.defArgs My.s_law,L2.defBody My.s_law,L2.defScope My.s_law,My.defPos My.s_law⟩) (kwd:=[]) My.left My.Hk.of My.Hk.keeps
    (fun s e=>PySem.W.xl_of s (Bool.and_eq_true_iff.mp e).1) PySem.W.XL.keeps (by kernel_rfl) (by kernel_rfl) (by kernel_rfl) (fun s e=>PySem.W.recFacts_of (Bool.and_eq_true_iff.mp e).2) (by kernel_rfl) said (by decide +kernel) ⟨rfl,rfl,rfl,rfl,rfl,by decide +kernel⟩ ?hw ?hc
  case hw=>w_witness2
  k_fill
  refine My.walk (K := My.K) (l := PySem.Challenge.rw_onceform_k61_products_told) rfl rfl (fun w h Y => Y) ?F
  case F =>
    intro w mg fa h KX G hmg
    refine' My.all_mk KX G hmg ?a0 ?l0 ?c0 ?k0 ?a1 ?l1 ?c1 ?k1 ?a2 ?l2 ?c2 ?k2 ?a3 ?l3 ?c3 ?k3 ?a4 ?l4 ?c4 ?k4 ?a5 ?l5 ?c5 ?k5 ?a6 ?l6 ?c6 ?k6 ?a7 ?l7 ?c7 ?k7 ?a8 ?l8 ?c8 ?k8 ?a9 ?l9 ?c9 ?k9 ?a10 ?l10 ?c10 ?k10 ?a11 ?l11 ?c11 ?k11 ?a12 ?l12 ?c12 ?k12 ?a13 ?l13 ?c13 ?k13 ?a14 ?l14 ?c14 ?k14 ?a15 ?l15 ?c15 ?k15 ?a16 ?l16 ?c16 ?k16 ?a17 ?l17 ?c17 ?k17 ?a18 ?l18 ?c18 ?k18 ?a19 ?l19 ?c19 ?k19 ?a20 ?l20 ?c20 ?k20 ?a21 ?l21 ?c21 ?k21 ?a22 ?l22 ?c22 ?k22 ?a23 ?l23 ?c23 ?k23 ?a24 ?l24 ?c24 ?k24 ?a25 ?l25 ?c25 ?k25 ?a26 ?l26 ?c26 ?k26 ?a27 ?l27 ?c27 ?k27 ?a28 ?l28 ?c28 ?k28 ?aL ?lL ?cL ?kL ?z_abs ?z_bool ?z_enumerate ?z_int ?z_isinstance ?z_len ?z_list ?z_min ?z_range ?z_sorted ?z_sum ?z_tuple
    (case a0=>k_is)
    (case l0=>k_is)
    (case c0=>k_is)
    (case k0=>k_is)
    (case a1=>k_is)
    (case l1=>k_is)
    (case c1=>k_is)
    (case k1=>k_is)
    (case a2=>k_is)
    (case l2=>k_is)
    (case c2=>k_is)
    (case k2=>k_is)
    (case a3=>k_is)
    (case l3=>k_is)
    (case c3=>k_is)
    (case k3=>k_is)
    (case a4=>k_is)
    (case l4=>k_is)
    (case c4=>k_is)
    (case k4=>k_is)
    (case a5=>k_is)
    (case l5=>k_is)
    (case c5=>k_is)
    (case k5=>k_is)
    (case a6=>k_is)
    (case l6=>k_is)
    (case c6=>k_is)
    (case k6=>k_is)
    (case a7=>k_is)
    (case l7=>k_is)
    (case c7=>k_is)
    (case k7=>k_is)
    (case a8=>k_is)
    (case l8=>k_is)
    (case c8=>k_is)
    (case k8=>k_is)
    (case a9=>k_is)
    (case l9=>k_is)
    (case c9=>k_is)
    (case k9=>k_is)
    (case a10=>k_is)
    (case l10=>k_is)
    (case c10=>k_is)
    (case k10=>k_is)
    (case a11=>k_is)
    (case l11=>k_is)
    (case c11=>k_is)
    (case k11=>k_is)
    (case a12=>k_is)
    (case l12=>k_is)
    (case c12=>k_is)
    (case k12=>k_is)
    (case a13=>k_is)
    (case l13=>k_is)
    (case c13=>k_is)
    (case k13=>k_is)
    (case a14=>k_is)
    (case l14=>k_is)
    (case c14=>k_is)
    (case k14=>k_is)
    (case a15=>k_is)
    (case l15=>k_is)
    (case c15=>k_is)
    (case k15=>k_is)
    (case a16=>k_is)
    (case l16=>k_is)
    (case c16=>k_is)
    (case k16=>k_is)
    (case a17=>k_is)
    (case l17=>k_is)
    (case c17=>k_is)
    (case k17=>k_is)
    (case a18=>k_is)
    (case l18=>k_is)
    (case c18=>k_is)
    (case k18=>k_is)
    (case a19=>k_is)
    (case l19=>k_is)
    (case c19=>k_is)
    (case k19=>k_is)
    (case a20=>k_is)
    (case l20=>k_is)
    (case c20=>k_is)
    (case k20=>k_is)
    (case a21=>k_is)
    (case l21=>k_is)
    (case c21=>k_is)
    (case k21=>k_is)
    (case a22=>k_is)
    (case l22=>k_is)
    (case c22=>k_is)
    (case k22=>k_is)
    (case a23=>k_is)
    (case l23=>k_is)
    (case c23=>k_is)
    (case k23=>k_is)
    (case a24=>k_is)
    (case l24=>k_is)
    (case c24=>k_is)
    (case k24=>k_is)
    (case a25=>k_is)
    (case l25=>k_is)
    (case c25=>k_is)
    (case k25=>k_is)
    (case a26=>k_is)
    (case l26=>k_is)
    (case c26=>k_is)
    (case k26=>k_is)
    (case a27=>k_is)
    (case l27=>k_is)
    (case c27=>k_is)
    (case k27=>k_is)
    (case a28=>k_is)
    (case l28=>k_is)
    (case c28=>k_is)
    (case k28=>k_is)
    (case aL=>k_is)
    (case lL=>k_is)
    (case cL=>k_is)
    (case kL=>k_is)
    (case z_abs=>k_is)
    (case z_bool=>k_is)
    (case z_enumerate=>k_is)
    (case z_int=>k_is)
    (case z_isinstance=>k_is)
    (case z_len=>k_is)
    (case z_list=>k_is)
    (case z_min=>k_is)
    (case z_range=>k_is)
    (case z_sorted=>k_is)
    (case z_sum=>k_is)
    (case z_tuple=>k_is)
#print axioms PySem.Challenge.cw_onceform_k61_products_told_holds
