import PyProof.Rows.All
import Wide.All
import OpenK.AllK
import Wide.FinOn
import Lean
import PyProof.EqAt
import PyProof.EqKinds
import PyProof.TupleCall
import PyProof.NeKinds
import PyProof.WalksEnum
import PyProof.EnumMake
import PyProof.AttrMissHeap
import KE.KDictOf
import PyProof.ListNew
import PyProof.ZipIter
import PyProof.Rows.ZipGen
import KE.KIntText
import PyProof.StrLawsTight
import KE.KRevIter
import KE.KDictList
import KE.KEqDict
import PyProof.DictCopy
import KE.KSortTup
import PySem.Challenge.RW_onceform_k27_texts_read
set_option Elab.async false
set_option linter.all false
set_option maxRecDepth 100000
set_option maxHeartbeats 4000000
namespace L2
open PySem PySem.Spec PyProof.Rows

/-- a key: an int or a str -/
abbrev Key := Sum Int Str
def keyIs : Key → Value → Bool
  | .inl k, v => Value.isInt k v
  | .inr x, v => Value.isStrOf x v
def keyH (w : World) : Key → Int
  | .inl k => hashInt k
  | .inr x => hashStr w x
theorem keyIs_shape : ∀ {k : Key} {v : Value}, keyIs k v = true → (∃ i t, k = Sum.inl i ∧ v = Value.int i t) ∨ (∃ x t, k = Sum.inr x ∧ v = Value.str x t)
  | .inl i, v, h => by
    obtain ⟨t, e⟩ := Value.isInt_shape (k := i) (v := v) h
    exact .inl ⟨i, t, rfl, e⟩
  | .inr x, v, h => by
    obtain ⟨t, e⟩ := Value.isStrOf_shape (x := x) (v := v) h
    exact .inr ⟨x, t, rfl, e⟩
theorem key_ll (a b : Int) : decide ((Sum.inl a : Key) = Sum.inl b) = (a == b) := by
  by_cases e : a = b
  · subst e; simp
  · have h : ¬ (Sum.inl a : Key) = Sum.inl b := fun q => e (Sum.inl.inj q)
    rw [decide_eq_false h]
    exact (beq_eq_false_iff_ne.mpr e).symm
theorem key_rr (a b : Str) : decide ((Sum.inr a : Key) = Sum.inr b) = decide (a = b) := by
  by_cases e : a = b
  · subst e; simp
  · have h : ¬ (Sum.inr a : Key) = Sum.inr b := fun q => e (Sum.inr.inj q)
    rw [decide_eq_false h, decide_eq_false e]
theorem key_lr (a : Int) (b : Str) : decide ((Sum.inl a : Key) = Sum.inr b) = false := decide_eq_false (fun q => nomatch q)
theorem key_rl (a : Str) (b : Int) : decide ((Sum.inr a : Key) = Sum.inl b) = false := decide_eq_false (fun q => nomatch q)

def mixKind (prog : Program) (w : World) : PySem.KeyKind prog w Key where
  is := keyIs
  hash := keyH w
  inj := fun v a b ha hb => by
    rcases keyIs_shape ha with ⟨i, t, rfl, rfl⟩ | ⟨x, t, rfl, rfl⟩
    · rcases keyIs_shape hb with ⟨j, u, rfl, e⟩ | ⟨y, u, rfl, e⟩
      · injection e with e1 _; rw [e1]
      · exact nomatch e
    · rcases keyIs_shape hb with ⟨j, u, rfl, e⟩ | ⟨y, u, rfl, e⟩
      · exact nomatch e
      · injection e with e1 _; rw [e1]
  byValue := fun k v h => by
    rcases keyIs_shape h with ⟨i, t, rfl, rfl⟩ | ⟨x, t, rfl, rfl⟩ <;> rfl
  pyHash := fun hv h => by
    rcases keyIs_shape hv with ⟨i, t, rfl, rfl⟩ | ⟨x, t, rfl, rfl⟩
    · exact wpAny_pyHash_int h
    · exact wpAny_pyHash_str h
  eqBool := fun hu hv h => by
    rcases keyIs_shape hu with ⟨i, t, rfl, rfl⟩ | ⟨x, t, rfl, rfl⟩
    · rcases keyIs_shape hv with ⟨j, u, rfl, rfl⟩ | ⟨y, u, rfl, rfl⟩
      · rw [key_ll] at h; exact wpAny_eqBool_int h
      · rw [key_lr] at h; exact SeqAt.EqAt.int_str i t y u _ _ _ _ h
    · rcases keyIs_shape hv with ⟨j, u, rfl, rfl⟩ | ⟨y, u, rfl, rfl⟩
      · rw [key_rl] at h; exact SeqAt.EqAt.str_int x t j u _ _ _ _ h
      · rw [key_rr] at h; exact wpAny_eqBool_str h
  «strs» := fun k x t v h => by
    rcases keyIs_shape h with ⟨i, u, rfl, e⟩ | ⟨y, u, rfl, e⟩
    · exact nomatch e
    · injection e with e1 _
      subst e1
      cases v <;> rfl

end L2

namespace L2
open PySem PySem.Spec PyProof.Rows

/-- a value, without the heap -/
inductive V where
  | non | bl (b : Bool) | int (i : Int) | str (x : Str) | byt (b : Array UInt8) | flt (b : UInt64) | ref (a : Addr) | ty (n : String)
  deriving DecidableEq

def RelV : V → Value → Prop
  | .non, u => u = Value.none
  | .bl b, u => u = Value.bool b
  | .int i, u => ∃ t, u = Value.int i t
  | .str x, u => ∃ t, u = Value.str x t
  | .byt b, u => ∃ t, u = Value.bytes b t
  | .flt b, u => ∃ t, u = Value.float b t
  | .ref a, u => u = Value.ref a
  | .ty n, u => u = Value.type n

abbrev Vals : List V → List Value → Prop := Paired RelV
theorem Vals.length {xs : List V} {us : List Value} (r : Vals xs us) : xs.length = us.length := Paired.length r
theorem Vals.get : ∀ {xs : List V} {us : List Value} {i : Nat} {x : V}, Vals xs us → xs[i]? = some x → ∃ u, us[i]? = some u ∧ RelV x u
  | _, _, _, _, .nil, e => by simp at e
  | _, _, 0, _, .cons r _, e => by simp at e; subst e; exact ⟨_, rfl, r⟩
  | _, _, i + 1, x, .cons _ t, e => by
    obtain ⟨u, h1, h2⟩ := Vals.get (i := i) (x := x) t (by simpa using e)
    exact ⟨u, by simpa using h1, h2⟩
theorem Vals.append : ∀ {xs ys : List V} {us ws : List Value}, Vals xs us → Vals ys ws → Vals (xs ++ ys) (us ++ ws)
  | _, _, _, _, .nil, s => s
  | _, _, _, _, .cons r t, s => .cons r (Vals.append t s)
theorem Vals.take : ∀ {xs : List V} {us : List Value} (n : Nat), Vals xs us → Vals (xs.take n) (us.take n)
  | _, _, 0, _ => .nil
  | _, _, _ + 1, .nil => .nil
  | _, _, n + 1, .cons r t => .cons r (Vals.take n t)
theorem Vals.drop : ∀ {xs : List V} {us : List Value} (n : Nat), Vals xs us → Vals (xs.drop n) (us.drop n)
  | _, _, 0, r => r
  | _, _, _ + 1, .nil => .nil
  | _, _, n + 1, .cons _ t => Vals.drop n t

def RelO : Option V → Option Value → Prop
  | some v, some u => RelV v u
  | none, none => True
  | _, _ => False
def KV {κ : Type} : List (κ × V) → List (κ × Value) → Prop := Paired fun (p : κ × V) (q : κ × Value) => p.1 = q.1 ∧ RelV p.2 q.2

/-- a key of a dict (00_mix): an int or a text -/
def kV : Key → V
  | .inl i => .int i
  | .inr x => .str x

/-- what stands at a tracked address -/
inductive HO where
  /-- a list -/
  | lst (xs : List V)
  /-- a tuple (never changes) -/
  | tup (xs : List V)
  /-- a dict whose keys are ints and texts; one whose keys are tuples of ints and texts (the empty one is both) -/
  | dK (kvs : List (Key × V)) | dT (kvs : List (List Key × V))
  /-- a set of ints: its members, its size -/
  | set (S : Int → Bool) (n : Nat)
  /-- an instance of the class at C, its dict at dx, its attributes -/
  | ins (C dx : Addr) (fs : List (Str × V))
  /-- the dict of the instance at x -/
  | own (x : Addr)
  /-- the dict of an exception -/
  | xd (fs : List (Str × V))
  /-- a bound method, f of x -/
  | met (f x : Addr)
  /-- a range object lo, lo + 1, .. below hi -/
  | rng (lo hi : Int)
  /-- a thing that is known to the object (the script; a dict while a loop walks it): read, never written while it is so -/
  | frz (o : Obj) (u : HO)
  /-- a code object's table -/
  | tbl (ps : Array Value)
  /-- any other thing, by what is true of its one object (a def of one's own: SetO a S n := HO.ext fun h => ..) -/
  | ext (φ : Heap → Prop)

abbrev Hp := Addr → Option HO
def upd (H : Hp) (a : Addr) (o : HO) : Hp := fun b => if b = a then some o else H b
theorem upd_same {H : Hp} {a : Addr} {o : HO} : upd H a o a = some o := by unfold upd; rw [if_pos rfl]
theorem upd_ne {H : Hp} {a b : Addr} {o : HO} (h : b ≠ a) : upd H a o b = H b := by unfold upd; rw [if_neg h]
theorem ne_of_none {H : Hp} {a b : Addr} {o : HO} (h : H a = some o) (h' : H b = none) : a ≠ b := by
  intro e; subst e; rw [h] at h'; cases h'

section
variable (P : Program) (w : World)
def ObjOk (H : Hp) (h : Heap) (a : Addr) : HO → Prop
  | .lst xs => xs.length ≤ sizeLine ∧ ∃ (its : List Value) (n : Nat), Vals xs its ∧ h.get? a = some { cls := .type "list", data := .seq its.toArray n }
  | .tup xs => xs.length ≤ sizeLine ∧ ∃ its : List Value, Vals xs its ∧ IsTup h a its.toArray
  | .dK kvs => kvs.length ≤ sizeLine ∧ (a == sysModules) = false ∧ ∃ vs, KV kvs vs ∧ h.DictOf (mixKind P w) a vs
  | .dT kvs => kvs.length ≤ sizeLine ∧ (a == sysModules) = false ∧ ∃ xs : List (List Key × Addr × Value),
      Paired (fun (p : List Key × V) (q : List Key × Addr × Value) => p.1 = q.1 ∧ H q.2.1 = some (.tup (p.1.map kV)) ∧ RelV p.2 q.2.2) kvs xs ∧
      ∃ o es ep, h.get? a = some o ∧ o.ExactDict ∧ o.data = .dict es ep ∧ es.toList = xs.map (entryOfKey (tupleKind (mixKind P w))) ∧ (xs.map (·.1)).Nodup
  | .set S n => h.SetOf (intKind P w) a S n
  | .ins C dx fs => H dx = some (.own a) ∧ fs.length ≤ 1000 ∧ dx ≠ a ∧ h.get? a = some (PySem.W.instObj C dx) ∧
      ∃ mA, h.Ns1 dx mA ∧ (∀ f, RelO (fs.lookup f) (mA f)) ∧ PySem.Within mA (fs.map (·.1))
  | .own _ => ∃ o, h.get? a = some o
  | .xd fs => ∃ mA, h.Ns1 a mA ∧ ∀ f, RelO (fs.lookup f) (mA f)
  | .rng lo hi => ∃ t u v, h.get? a = some { cls := .type "range", data := .fields #[.int lo t, .int hi u, .int 1 v] }
  | .frz o u => h.get? a = some o ∧ ObjOk H h a u
  | .tbl ps => h.get? a = some { cls := .none, data := .fields ps }
  | .met f x => h.get? a = some (PySem.W.methodObj (.ref f) (.ref x))
  | .ext φ => φ h ∧ (∃ o, h.get? a = some o) ∧ ∀ h1 h2 : Heap, φ h1 → (∀ o, h1.get? a = some o → h2.get? a = some o) → φ h2
/-- the abstract heap is held -/
def HOk (H : Hp) (h : Heap) : Prop := ∀ a o, H a = some o → ObjOk P w H h a o
end

section
variable {P : Program} {w : World} {H H' : Hp} {h h' : Heap} {a : Addr} {o : HO}
theorem ObjOk.lt (x : ObjOk P w H h a o) : a < h.objs.size := by
  cases o with
  | lst xs => obtain ⟨_, _, _, _, e⟩ := x; exact Heap.lt_size e
  | tup xs => obtain ⟨_, _, _, p⟩ := x; exact p.lt
  | dK kvs => obtain ⟨_, _, _, _, o, _, _, e, _⟩ := x; exact Heap.lt_size e
  | dT kvs => obtain ⟨_, _, _, _, o, _, _, e, _⟩ := x; exact Heap.lt_size e
  | set S n => obtain ⟨o, _, _, _, e, _⟩ := x; exact Heap.lt_size e
  | ins C dx fs => obtain ⟨_, _, _, e, _⟩ := x; exact Heap.lt_size e
  | own y => obtain ⟨_, e⟩ := x; exact Heap.lt_size e
  | xd fs => obtain ⟨_, ⟨_, _, _, e, _⟩, _⟩ := x; exact Heap.lt_size e
  | rng lo hi => obtain ⟨_, _, _, e⟩ := x; exact Heap.lt_size e
  | frz ob u => obtain ⟨e, _⟩ := x; exact Heap.lt_size e
  | tbl ps => exact Heap.lt_size (show h.get? a = some _ from x)
  | met f y => exact Heap.lt_size (show h.get? a = some _ from x)
  | ext φ => obtain ⟨_, ⟨_, e⟩, _⟩ := x; exact Heap.lt_size e
theorem Paired.mapP {α β : Type} {F G : α → β → Prop} : ∀ {l₁ : List α} {l₂ : List β}, Paired F l₁ l₂ → (∀ a b, F a b → G a b) → Paired G l₁ l₂
  | _, _, .nil, _ => .nil
  | _, _, .cons r t, f => .cons (f _ _ r) (Paired.mapP t f)
/-- what an object's description leans on: its own object, its own dict, the tuples -/
theorem ObjOk.stay (x : ObjOk P w H h a o) (k : ∀ b u, (b = a ∨ H b = some (.own a)) → h.get? b = some u → h'.get? b = some u)
    (ho : ∀ b, H b = some (.own a) → H' b = some (.own a)) (ht : ∀ b xs, H b = some (.tup xs) → H' b = some (.tup xs)) : ObjOk P w H' h' a o := by
  induction o with
  | lst xs => obtain ⟨z, its, n, r, e⟩ := x; exact ⟨z, its, n, r, k _ _ (.inl rfl) e⟩
  | tup xs => obtain ⟨z, its, r, ob, e, c⟩ := x; exact ⟨z, its, r, ob, k _ _ (.inl rfl) e, c⟩
  | dK kvs => obtain ⟨z, y, vs, r, ob, es, ep, e, c⟩ := x; exact ⟨z, y, vs, r, ob, es, ep, k _ _ (.inl rfl) e, c⟩
  | dT kvs =>
    obtain ⟨z, y, xs, r, ob, es, ep, e, c⟩ := x
    exact ⟨z, y, xs, Paired.mapP r fun p q z => ⟨z.1, ht _ _ z.2.1, z.2.2⟩, ob, es, ep, k _ _ (.inl rfl) e, c⟩
  | set S n => obtain ⟨ob, es, ep, t, e, c⟩ := x; exact ⟨ob, es, ep, t, k _ _ (.inl rfl) e, c⟩
  | ins C dx fs =>
    obtain ⟨d, z, ne, e, mA, ⟨od, es, ep, e2, c⟩, r⟩ := x
    exact ⟨ho _ d, z, ne, k _ _ (.inl rfl) e, mA, ⟨od, es, ep, k _ _ (.inr d) e2, c⟩, r⟩
  | own y => obtain ⟨ob, e⟩ := x; exact ⟨ob, k _ _ (.inl rfl) e⟩
  | xd fs => obtain ⟨mA, ⟨od, es, ep, e, c⟩, r⟩ := x; exact ⟨mA, ⟨od, es, ep, k _ _ (.inl rfl) e, c⟩, r⟩
  | rng lo hi => obtain ⟨t, u, v, e⟩ := x; exact ⟨t, u, v, k _ _ (.inl rfl) e⟩
  | frz ob u ih => obtain ⟨e, q⟩ := x; exact ⟨k _ _ (.inl rfl) e, ih q⟩
  | tbl ps =>
    have e : h.get? a = some { cls := .none, data := .fields ps } := x
    show h'.get? a = some { cls := .none, data := .fields ps }
    exact k a _ (.inl rfl) e
  | met f y =>
    have e : h.get? a = some (PySem.W.methodObj (.ref f) (.ref y)) := x
    show h'.get? a = some (PySem.W.methodObj (.ref f) (.ref y))
    exact k a _ (.inl rfl) e
  | ext φ => obtain ⟨p, ⟨o, e⟩, st⟩ := x; exact ⟨st _ _ p fun o q => k _ _ (.inl rfl) q, ⟨o, k _ _ (.inl rfl) e⟩, st⟩
theorem HOk.lt (x : HOk P w H h) (e : H a = some o) : a < h.objs.size := (x a o e).lt
theorem HOk.fresh (x : HOk P w H h) (e : h.objs.size ≤ a) : H a = none := by
  cases q : H a with
  | none => rfl
  | some u => exact absurd (Nat.lt_of_lt_of_le (x.lt q) e) (Nat.lt_irrefl _)
/-- every object of the heap is kept -/
theorem HOk.kept (x : HOk P w H h) (k : ∀ b u, h.get? b = some u → h'.get? b = some u) : HOk P w H h' := fun a o e =>
  (x a o e).stay (fun b u _ q => k b u q) (fun _ q => q) fun _ _ q => q
/-- a new object is laid and tracked -/
theorem HOk.laid (x : HOk P w H h) (k : ∀ b u, h.get? b = some u → h'.get? b = some u) (hp : h.objs.size ≤ a) (new : ObjOk P w (upd H a o) h' a o) : HOk P w (upd H a o) h' := fun b u e => by
  have hn := x.fresh hp
  by_cases hb : b = a
  · subst hb; rw [upd_same] at e; cases e; exact new
  · rw [upd_ne hb] at e
    exact (x b u e).stay (fun c v _ q => k c v q) (fun c q => by rw [upd_ne (ne_of_none q hn)]; exact q) fun c xs q => by rw [upd_ne (ne_of_none q hn)]; exact q
end

/-- what may be read as u: it is u, or a known u -/
def Rd (H : Hp) (a : Addr) (u : HO) : Prop := H a = some u ∨ ∃ o, H a = some (.frz o u)
theorem Rd.ok {P : Program} {w : World} {H : Hp} {h : Heap} {a : Addr} {u : HO} (r : Rd H a u) (x : HOk P w H h) : ObjOk P w H h a u := by
  rcases r with r | ⟨o, r⟩
  · exact x a u r
  · obtain ⟨_, q⟩ := x a _ r
    exact q
/-- what may be written -/
def Mut : Option HO → Prop
  | some (.lst _) => True
  | some (.dK _) => True
  | some (.dT _) => True
  | some (.set _ _) => True
  | some (.ins _ _ _) => True
  | some (.ext _) => True
  | _ => False
section
variable {P : Program} {w : World} {H : Hp} {h h' : Heap} {x e : Addr} {o' : HO}
/-- the object at e is changed: x itself, or the dict of the instance x -/
theorem HOk.write (ok : HOk P w H h) (mu : Mut (H x)) (he : e = x ∨ H e = some (.own x)) (k : ∀ b u, b ≠ e → h.get? b = some u → h'.get? b = some u) (heo : ∃ u, h'.get? e = some u)
    (new : ObjOk P w (upd H x o') h' x o') : HOk P w (upd H x o') h' := fun b u q => by
  have nown : ∀ c y, H c = some (.own y) → c ≠ x := fun c y r z => by subst z; rw [r] at mu; exact mu
  have ntup : ∀ c xs, H c = some (.tup xs) → c ≠ x := fun c xs r z => by subst z; rw [r] at mu; exact mu
  by_cases hb : b = x
  · subst hb; rw [upd_same] at q; cases q; exact new
  · rw [upd_ne hb] at q
    by_cases hbe : b = e
    · have q' : H b = some (.own x) := by
        rcases he with z | z
        · exact absurd (hbe.trans z) hb
        · rw [hbe]; exact z
      rw [q] at q'; cases q'
      obtain ⟨v, hv⟩ := heo
      exact ⟨v, by rw [hbe]; exact hv⟩
    · refine (ok b u q).stay (fun c v hc r => k c v ?_ r) (fun c r => by rw [upd_ne (nown c b r)]; exact r) fun c xs r => by rw [upd_ne (ntup c xs r)]; exact r
      rcases hc with rfl | hc
      · exact hbe
      · rintro rfl
        rcases he with z | z
        · exact nown c b hc z
        · rw [hc] at z; cases z; exact hb rfl
end

/-! ### kept unless tracked; of the frames at fs (the callers') the slots may change (an exception that passes writes there); of the records at ex (iterators) nothing is said -/
structure Un (fs ex : List Addr) (H H' : Hp) (h h' : Heap) : Prop where
  keep : ∀ b o, h.get? b = some o → H b = none → b ∉ fs → b ∉ ex → h'.get? b = some o
  slot : ∀ b o, h.get? b = some o → H b = none → b ∈ fs → b ∉ ex → ∃ sl, h'.get? b = some { o with slots := sl }
  free : ∀ b o, h.get? b = some o → H b = none → b ∉ ex → H' b = none
  there : ∀ b o, h.get? b = some o → b ∉ ex → ∃ o', h'.get? b = some o'
  tups : ∀ b xs, H b = some (.tup xs) → H' b = some (.tup xs)
  frzs : ∀ b o u, H b = some (.frz o u) → H' b = some (.frz o u)
  tbls : ∀ b ps, H b = some (.tbl ps) → ∃ more, H' b = some (.tbl (ps ++ more))
section
variable {fs fs' ex ex' : List Addr} {H H1 H2 : Hp} {h h1 h2 h' : Heap} {a x e : Addr} {o : HO}
theorem Un.any (u : Un fs ex H H1 h h1) {b : Addr} {ob : Obj} (q : h.get? b = some ob) (n : H b = none) (hx : b ∉ ex) : ∃ sl, h1.get? b = some { ob with slots := sl } := by
  by_cases hb : b ∈ fs
  · exact u.slot b ob q n hb hx
  · exact ⟨ob.slots, u.keep b ob q n hb hx⟩
theorem Un.kept (k : ∀ b u, h.get? b = some u → h'.get? b = some u) : Un fs ex H H h h' :=
  ⟨fun b ob q _ _ _ => k b ob q, fun b ob q _ _ _ => ⟨ob.slots, k b ob q⟩, fun _ _ _ n _ => n, fun b ob q _ => ⟨ob, k b ob q⟩, fun _ _ q => q, fun _ _ _ q => q, fun _ ps q => ⟨#[], by rw [q]; simp⟩⟩
theorem Un.refl : Un fs ex H H h h := Un.kept fun _ _ q => q
theorem Un.laid (k : ∀ b u, h.get? b = some u → h'.get? b = some u) (hp : h.objs.size ≤ a) (hn : H a = none) : Un fs ex H (upd H a o) h h' where
  keep := fun b u q _ _ _ => k b u q
  slot := fun b u q _ _ _ => ⟨u.slots, k b u q⟩
  free := fun b u q n _ => by rw [upd_ne (Nat.ne_of_lt (Nat.lt_of_lt_of_le (Heap.lt_size q) hp))]; exact n
  there := fun b u q _ => ⟨u, k b u q⟩
  tups := fun b xs q => by rw [upd_ne (ne_of_none q hn)]; exact q
  frzs := fun b u xs q => by rw [upd_ne (ne_of_none q hn)]; exact q
  tbls := fun b ps q => ⟨#[], by rw [upd_ne (ne_of_none q hn), q]; simp⟩
theorem Un.write (mu : Mut (H x)) (he : e = x ∨ H e = some (.own x)) (k : ∀ b u, b ≠ e → h.get? b = some u → h'.get? b = some u) (heo : ∃ u, h'.get? e = some u) : Un fs ex H (upd H x o) h h' := by
  have hx : ∀ b, H b = none → b ≠ x := fun b n z => by subst z; rw [n] at mu; exact mu
  have hb : ∀ b, H b = none → b ≠ e := fun b n z => by
    subst z
    rcases he with r | r
    · exact hx b n r
    · rw [n] at r; cases r
  have hm : ∀ b u, H b = some u → ¬ Mut (some u) → b ≠ x := fun b u q nm z => by subst z; rw [q] at mu; exact nm mu
  refine ⟨fun b u q n _ _ => k b u (hb b n) q, fun b u q n _ _ => ⟨u.slots, k b u (hb b n) q⟩, fun b u q n _ => by rw [upd_ne (hx b n)]; exact n, fun b u q _ => ?_,
    fun b xs q => by rw [upd_ne (hm b _ q fun z => z)]; exact q, fun b u xs q => by rw [upd_ne (hm b _ q fun z => z)]; exact q, fun b ps q => ⟨#[], by rw [upd_ne (hm b _ q fun z => z), q]; simp⟩⟩
  by_cases hbe : b = e
  · subst hbe; exact heo
  · exact ⟨u, k b u hbe q⟩
end

/-! ### the heap without what is tracked -/
def trk (h : Heap) (H : Hp) : List Addr := (List.range h.objs.size).filter fun a => (H a).isSome
def hidT (h : Heap) (H : Hp) : Heap := PySem.W.hideAll h (trk h H)
theorem hidT_size (h : Heap) (H : Hp) : (hidT h H).objs.size = h.objs.size := PySem.W.hideAll_size _ _
theorem hidT_get {h : Heap} {H : Hp} {b : Addr} {o : Obj} (e : h.get? b = some o) (n : H b = none) : (hidT h H).get? b = some o :=
  PySem.W.hideAll_get _ e fun hm => by
    have q : (H b).isSome = true := (List.mem_filter.mp hm).2
    rw [n] at q; simp at q
theorem of_hidT {h : Heap} {H : Hp} {b : Addr} {o : Obj} (e : (hidT h H).get? b = some o) : h.get? b = some o ∧ H b = none := by
  have e' : h.get? b = some o := PySem.W.of_hideAll (trk h H) e
  refine ⟨e', ?_⟩
  cases q : H b with
  | none => rfl
  | some x =>
    have hm : b ∈ trk h H := List.mem_filter.mpr ⟨List.mem_range.mpr (Heap.lt_size e'), by simp [q]⟩
    have z : (hidT h H).get? b = none := PySem.W.hideAll_none (trk h H) hm
    rw [z] at e; cases e

/-! ### OpenK's ledger, filled with every new object but one -/
end L2

namespace L2
open PySem PySem.Spec PyProof.Rows

/-- the module's facts, over the base: the heap at the law's entry without what is tracked there -/
structure Mod (K : PySem.W.Frag) (mg : Str → Option Value) (base : Heap) : Prop where
  kin : K.In base
  glob : base.Ns mainGlobals mg
  blt : ∃ mb, base.Ns builtinsNs mb ∧ ∀ x : Str, x ≠ "__name__" → mb x = bootBuiltins x
  nolimit : base.NoLimit

/-- the context: a def's body (or a comprehension's block) running. base: fixed through the whole law; s₀, H₀: the entry; outer: the frames whose slots others may change (a def's callers); stack: all frames that run;
   ex: iterators that were made ahead of the entry and are walked here (a comprehension's); fn: the names whose cells were made at the entry (a def: all; a comprehension's block: its own); calm: not within an except suite; pn: pins that every state bears; xe: what is wanted of an exception that leaves the code -/
structure Cx where
  prog : Program
  w : World
  K : PySem.W.Frag
  mg : Str → Option Value
  base : Heap
  A : Around
  N : List Str
  s₀ : Shared
  H₀ : Hp
  env : Env
  outer : List Env
  stack : List Env
  ex : List Addr
  fn : Str → Bool
  calm : Bool
  pn : List (Addr × Obj)
  xe : Value → Shared → Prop
/-- the callers' frames -/
def frs (l : List Env) : List Addr := l.filterMap (·.frame)
abbrev Cx.fs (X : Cx) : List Addr := frs X.outer

def Vis (sc : Scope) (x : Str) : Prop := sc.names.lookup x = some .local ∨ sc.names.lookup x = some .cell ∨ sc.names.lookup x = some .free
def Loc (sc : Scope) (x : Str) : Prop := sc.names.lookup x = some .local ∨ sc.names.lookup x = some .cell
def Look (env : Env) (h : Heap) (m : Str → Option Value) (x : Str) (u : Value) : Prop :=
  (env.kindOf x = some .local ∧ m x = some u) ∨ ((env.kindOf x = some .cell ∨ env.kindOf x = some .free) ∧ ∃ c, env.cells.lookup x = some c ∧ h.IsCell c (some u))

structure Cx.Ok (X : Cx) : Prop where
  mod : Mod X.K X.mg X.base
  kind : X.env.scope.kind = .function
  glob : X.env.globals = mainGlobals
  blt : X.env.builtins = builtinsNs
  above : X.s₀.heap.objs.size ≤ X.env.locals
  inj : ∀ x y c, X.env.cells.lookup x = some c → X.env.cells.lookup y = some c → x = y
  has : ∀ x, (X.env.kindOf x = some .cell ∨ X.env.kindOf x = some .free) → ∃ c, X.env.cells.lookup x = some c
  cab : ∀ x c, X.fn x = true → X.env.cells.lookup x = some c → X.s₀.heap.objs.size ≤ c
  hd : X.calm = true → X.A.handled = none
  frames : X.A.frames = some X.stack
  stk : X.stack = X.outer ∨ (X.stack = X.env :: X.outer ∧ X.env.frame = some X.env.locals)
  exf : ∀ b ∈ X.ex, b ≠ X.env.locals ∧ ∀ x c, X.env.cells.lookup x = some c → c ≠ b
  bs : ∀ b o, X.base.get? b = some o → X.s₀.heap.get? b = some o ∧ X.H₀ b = none
  bsz : X.base.objs.size ≤ X.s₀.heap.objs.size
  noex : ∀ b o, X.base.get? b = some o → b ∉ X.ex
  exfs : ∀ b ∈ X.ex, b ∉ X.fs
  funs : X.s₀.heap.FunFrames X.base X.outer
  frf : ∀ b ∈ X.fs, X.H₀ b = none

structure Inv (X : Cx) (pins : List (Addr × Obj)) (σ : List (Option V)) (H : Hp) (s : Shared) : Prop where
  ok : X.Ok
  os : s.os = X.s₀.os
  bare : AllBare s.gens
  base : Un X.fs X.ex X.H₀ H X.s₀.heap s.heap
  loc : ∃ m, s.heap.Ns X.env.locals m ∧ ∀ (i : Nat) (x : Str) (v : V), X.N[i]? = some x → σ[i]? = some (some v) → Vis X.env.scope x → ∃ u, RelV v u ∧ Look X.env s.heap m x u
  cell : ∀ x c, X.env.cells.lookup x = some c → ∃ v, s.heap.IsCell c v
  free : H X.env.locals = none
  freeC : ∀ x c, X.env.cells.lookup x = some c → H c = none
  pin : ∀ p ∈ X.pn ++ pins, s.heap.get? p.1 = some p.2 ∧ H p.1 = none ∧ p.1 ≠ X.env.locals ∧ p.1 ∉ X.fs ∧ ∀ v, p.2.data ≠ .cell v
  hok : HOk X.prog X.w H s.heap
  len : σ.length = X.N.length

section
variable {X : Cx} {pins : List (Addr × Obj)} {σ : List (Option V)} {H H' : Hp} {s : Shared} {h' : Heap}

theorem Cx.Ok.nofr (ok : X.Ok) {b : Addr} {o : Obj} (e : X.base.get? b = some o) : b ∉ X.fs := fun hb => by
  have := (ok.funs.mem hb).1
  rw [e] at this; cases this
theorem Inv.bs (I : Inv X pins σ H s) : ∀ b o, X.base.get? b = some o → s.heap.get? b = some o ∧ H b = none := fun b o e =>
  ⟨I.base.keep b o (I.ok.bs b o e).1 (I.ok.bs b o e).2 (I.ok.nofr e) (I.ok.noex b o e), I.base.free b o (I.ok.bs b o e).1 (I.ok.bs b o e).2 (I.ok.noex b o e)⟩
theorem Inv.bk (I : Inv X pins σ H s) : ∀ b o, X.base.get? b = some o → s.heap.get? b = some o := fun b o e => (I.bs b o e).1
theorem Inv.mod (I : Inv X pins σ H s) : Mod X.K X.mg X.base := I.ok.mod
theorem Inv.kIn (I : Inv X pins σ H s) : X.K.In s.heap := I.ok.mod.kin.keeps I.bk
theorem Inv.lt (I : Inv X pins σ H s) : X.env.locals < s.heap.objs.size := let ⟨_, hn, _⟩ := I.loc; hn.lt
theorem Inv.sz (I : Inv X pins σ H s) : X.s₀.heap.objs.size ≤ s.heap.objs.size := Nat.le_trans I.ok.above (Nat.le_of_lt I.lt)
theorem Inv.nofs (I : Inv X pins σ H s) {a : Addr} (h : s.heap.objs.size ≤ a) : a ∉ X.fs := fun hb => by
  obtain ⟨_, o, ho, _⟩ := I.ok.funs.mem hb
  exact absurd (Nat.lt_of_lt_of_le (Heap.lt_size ho) (Nat.le_trans I.sz h)) (Nat.lt_irrefl _)
theorem Inv.cne (I : Inv X pins σ H s) : ∀ x c, X.env.cells.lookup x = some c → c ≠ X.env.locals := fun x c e z => by
  obtain ⟨v, o, ho, hd⟩ := I.cell x c e
  obtain ⟨m, ⟨o', es, ep, ho', hd', _⟩, _⟩ := I.loc
  rw [z, ho'] at ho; cases ho; rw [hd'] at hd; cases hd
theorem Inv.funs (I : Inv X pins σ H s) : s.heap.FunFrames X.base X.outer := by
  have all : ∀ (l : List Env), (∀ b ∈ frs l, b ∈ X.fs) → X.s₀.heap.FunFrames X.base l → s.heap.FunFrames X.base l := by
    intro l
    induction l with
    | nil => intro _ _; trivial
    | cons env r ih =>
      intro hs hl
      obtain ⟨hk, ⟨L, o, hf, hn, ho, hd⟩, hr⟩ := hl
      have hL : L ∈ X.fs := hs L (by unfold frs; rw [List.filterMap_cons, hf]; exact List.mem_cons_self)
      obtain ⟨sl, e⟩ := I.base.slot L o ho (I.ok.frf L hL) hL fun z => I.ok.exfs L z hL
      exact ⟨hk, ⟨L, _, hf, hn, e, hd⟩, ih (fun b hb => hs b (by unfold frs; rw [List.filterMap_cons, hf]; exact List.mem_cons_of_mem _ hb)) hr⟩
  exact all X.outer (fun _ hb => hb) I.ok.funs

/-- the frames that run, for a call -/
theorem Inv.stack (I : Inv X pins σ H s) : s.heap.FunFrames X.base X.stack := by
  rcases I.ok.stk with e | ⟨e, hf⟩
  · rw [e]; exact I.funs
  · rw [e]
    obtain ⟨m, hn, _⟩ := I.loc
    refine .cons (by rw [I.ok.kind]; decide) hf hn ?_ I.funs
    exact Heap.get?_none_of_le (Nat.le_trans I.ok.bsz I.ok.above)
theorem Inv.stkSub (I : Inv X pins σ H s) : ∀ b ∈ frs X.stack, b ∈ X.env.locals :: X.fs := fun b hb => by
  rcases I.ok.stk with e | ⟨e, hf⟩
  · rw [e] at hb; exact List.mem_cons_of_mem _ hb
  · rw [e] at hb
    unfold frs at hb
    rw [List.filterMap_cons, hf] at hb
    exact hb
theorem Inv.stkFree (I : Inv X pins σ H s) : ∀ b ∈ frs X.stack, H b = none := fun b hb => by
  rcases List.mem_cons.mp (I.stkSub b hb) with e | hb
  · rw [e]; exact I.free
  · obtain ⟨_, o, ho, _⟩ := I.ok.funs.mem hb
    exact I.base.free b o ho (I.ok.frf b hb) fun z => I.ok.exfs b z hb

/-- THE STEP: the untracked objects but the frame and the records at ch are kept (the callers' frames up to slots), the frame's map is kept, the new abstract heap is held -/
theorem Inv.step {g' : Array GenState} {t' : Nat} {d' : Drawn} {ch : List Addr} (I : Inv X pins σ H s)
    (hch : ∀ b ∈ ch, (b ∈ X.ex ∨ X.s₀.heap.objs.size ≤ b) ∧ b ≠ X.env.locals ∧ (∀ x c, X.env.cells.lookup x = some c → c ≠ b) ∧ ∀ p ∈ X.pn ++ pins, p.1 ≠ b)
    (keep : ∀ b o, b ≠ X.env.locals → b ∉ X.fs → b ∉ ch → s.heap.get? b = some o → H b = none → h'.get? b = some o)
    (slot : ∀ b o, b ≠ X.env.locals → b ∈ X.fs → b ∉ ch → s.heap.get? b = some o → H b = none → ∃ sl, h'.get? b = some { o with slots := sl }) (free : ∀ b o, b ∉ ch → s.heap.get? b = some o → H b = none → H' b = none)
    (there : ∀ b o, b ∉ ch → s.heap.get? b = some o → ∃ o', h'.get? b = some o')
    (tups : ∀ b xs, H b = some (.tup xs) → H' b = some (.tup xs)) (frzs : ∀ b o u, H b = some (.frz o u) → H' b = some (.frz o u)) (tbls : ∀ b ps, H b = some (.tbl ps) → ∃ more, H' b = some (.tbl (ps ++ more)))
    (ns : ∀ m, s.heap.Ns X.env.locals m → h'.Ns X.env.locals m) (hok : HOk X.prog X.w H' h') (hg : AllBare g') :
    Inv X pins σ H' { s with heap := h', gens := g', drawn := d', toks := t' } := by
  have neL : ∀ b o, X.s₀.heap.get? b = some o → b ≠ X.env.locals := fun b o e => Nat.ne_of_lt (Nat.lt_of_lt_of_le (Heap.lt_size e) I.ok.above)
  have neC : ∀ b o, X.s₀.heap.get? b = some o → b ∉ X.ex → b ∉ ch := fun b o e hx hb => by
    rcases (hch b hb).1 with z | z
    · exact hx z
    · exact absurd (Nat.lt_of_lt_of_le (Heap.lt_size e) z) (Nat.lt_irrefl _)
  have cellK : ∀ x c, X.env.cells.lookup x = some c → ∀ v, s.heap.IsCell c v → h'.IsCell c v := fun x c e v ⟨o, ho, hd⟩ => by
    have nch : c ∉ ch := fun z => (hch c z).2.2.1 x c e rfl
    by_cases hc : c ∈ X.fs
    · obtain ⟨sl, q⟩ := slot c o (I.cne x c e) hc nch ho (I.freeC x c e)
      exact ⟨_, q, hd⟩
    · exact ⟨o, keep c o (I.cne x c e) hc nch ho (I.freeC x c e), hd⟩
  refine ⟨I.ok, I.os, hg, ⟨fun b o e n hb hx => ?_, fun b o e n hb hx => ?_, fun b o e n hx => ?_, fun b o e hx => ?_, fun b xs e => tups b xs (I.base.tups b xs e), fun b o xs e => frzs b o xs (I.base.frzs b o xs e), fun b ps e => ?_⟩, ?_, fun x c e => ?_, ?_, fun x c e => ?_, fun p hp => ?_, hok, I.len⟩
  · exact keep b o (neL b o e) hb (neC b o e hx) (I.base.keep b o e n hb hx) (I.base.free b o e n hx)
  · obtain ⟨sl, e1⟩ := I.base.slot b o e n hb hx
    obtain ⟨sl', e2⟩ := slot b _ (neL b o e) hb (neC b o e hx) e1 (I.base.free b o e n hx)
    exact ⟨sl', e2⟩
  · obtain ⟨o', e1⟩ := I.base.there b o e hx
    exact free b o' (neC b o e hx) e1 (I.base.free b o e n hx)
  · obtain ⟨o', e1⟩ := I.base.there b o e hx
    exact there b o' (neC b o e hx) e1
  · obtain ⟨m1, e1⟩ := I.base.tbls b ps e
    obtain ⟨m2, e2⟩ := tbls b _ e1
    exact ⟨m1 ++ m2, by rw [e2, Array.append_assoc]⟩
  · obtain ⟨m, hn, hl⟩ := I.loc
    refine ⟨m, ns m hn, fun i x v e1 e2 e3 => ?_⟩
    obtain ⟨u, r, l⟩ := hl i x v e1 e2 e3
    refine ⟨u, r, ?_⟩
    rcases l with l | ⟨k, c, e, z⟩
    · exact .inl l
    · exact .inr ⟨k, c, e, cellK x c e _ z⟩
  · obtain ⟨v, z⟩ := I.cell x c e
    exact ⟨v, cellK x c e v z⟩
  · obtain ⟨m, ⟨o, _, _, ho, _⟩, _⟩ := I.loc
    exact free _ o (fun z => (hch _ z).2.1 rfl) ho I.free
  · obtain ⟨v, o, ho, hd⟩ := I.cell x c e
    exact free c o (fun z => (hch c z).2.2.1 x c e rfl) ho (I.freeC x c e)
  · obtain ⟨e, n, ne, nf, d⟩ := I.pin p hp
    have nch : p.1 ∉ ch := fun z => (hch p.1 z).2.2.2 p hp rfl
    exact ⟨keep p.1 p.2 ne nf nch e n, free p.1 p.2 nch e n, ne, nf, d⟩
/-- .. where the frame's own object is kept too -/
theorem Inv.un {t' : Nat} (I : Inv X pins σ H s) (u : Un X.fs [] H H' s.heap h') (hok : HOk X.prog X.w H' h') : Inv X pins σ H' { s with heap := h', toks := t' } := by
  obtain ⟨m, ⟨o, es, ep, ho, r⟩, _⟩ := id I.loc
  obtain ⟨sl, hL⟩ := u.any ho I.free (by simp)
  exact I.step (g' := s.gens) (d' := s.drawn) (ch := []) (fun _ z => nomatch z) (fun b o _ hb _ e n => u.keep b o e n hb (by simp)) (fun b o _ hb _ e n => u.slot b o e n hb (by simp)) (fun b o _ e n => u.free b o e n (by simp)) (fun b o _ e => u.there b o e (by simp)) u.tups u.frzs u.tbls (fun m' hm => by
    obtain ⟨o', es', ep', ho', r'⟩ := hm
    rw [ho] at ho'; cases ho'
    exact ⟨_, es', ep', hL, r'⟩) hok I.bare
/-- behind a call (or a comprehension's block): the slots of this frame may have changed too, the records at ch may have turned -/
theorem Inv.call {g' : Array GenState} {t' : Nat} {d' : Drawn} {ch : List Addr} (I : Inv X pins σ H s) (u : Un (frs X.stack) ch H H' s.heap h') (hok : HOk X.prog X.w H' h') (hg : AllBare g')
    (hch : ∀ b ∈ ch, (b ∈ X.ex ∨ X.s₀.heap.objs.size ≤ b) ∧ b ≠ X.env.locals ∧ (∀ x c, X.env.cells.lookup x = some c → c ≠ b) ∧ ∀ p ∈ X.pn ++ pins, p.1 ≠ b) :
    Inv X pins σ H' { s with heap := h', gens := g', drawn := d', toks := t' } := by
  obtain ⟨m, ⟨o, es, ep, ho, r⟩, _⟩ := id I.loc
  obtain ⟨sl, hL⟩ := u.any ho I.free fun z => (hch _ z).2.1 rfl
  exact I.step (ch := ch) hch (fun b o hL hb hc e n => u.keep b o e n (fun z => (List.mem_cons.mp (I.stkSub b z)).elim hL hb) hc) (fun b o _ _ hc e n => u.any e n hc) (fun b o hc e n => u.free b o e n hc) (fun b o hc e => u.there b o e hc) u.tups u.frzs u.tbls (fun m' hm => by
    obtain ⟨o', es', ep', ho', r'⟩ := hm
    rw [ho] at ho'; cases ho'
    exact ⟨_, es', ep', hL, r'⟩) hok hg
/-- an untracked record of ours (an iterator) has turned -/
theorem Inv.turned {t' : Nat} {it : Addr} (I : Inv X pins σ H s) (k : ∀ b o, b ≠ it → s.heap.get? b = some o → h'.get? b = some o) (hn : H it = none) (hL : it ≠ X.env.locals)
    (h1 : it ∈ X.ex ∨ X.s₀.heap.objs.size ≤ it) (h2 : ∀ x c, X.env.cells.lookup x = some c → c ≠ it) (h3 : ∀ p ∈ X.pn ++ pins, p.1 ≠ it) : Inv X pins σ H { s with heap := h', toks := t' } := by
  have nit : ∀ b u, H b = some u → b ≠ it := fun b u e z => by rw [z, hn] at e; cases e
  refine I.step (g' := s.gens) (d' := s.drawn) (ch := [it]) (fun b hb => ?_) (fun b o _ _ hc e _ => k b o (fun z => hc (by simp [z])) e) (fun b o _ _ hc e _ => ⟨o.slots, k b o (fun z => hc (by simp [z])) e⟩) (fun _ _ _ _ n => n)
    (fun b o hc e => ⟨o, k b o (fun z => hc (by simp [z])) e⟩) (fun _ _ e => e) (fun _ _ _ e => e) (fun b ps e => ⟨#[], by rw [e]; simp⟩) (fun m hm => ?_) (fun b u e => ?_) I.bare
  · have e : b = it := by simpa using hb
    subst e
    exact ⟨h1, hL, h2, h3⟩
  · obtain ⟨o, es, ep, ho, r⟩ := hm
    exact ⟨o, es, ep, k _ o (Ne.symm hL) ho, r⟩
  · refine (I.hok b u e).stay (fun c v hc q => k c v ?_ q) (fun _ q => q) fun _ _ q => q
    rcases hc with z | z
    · rw [z]; exact nit b u e
    · exact nit c _ z
theorem Inv.tok (I : Inv X pins σ H s) (t : Nat) : Inv X pins σ H { s with toks := t } := I.un (h' := s.heap) (t' := t) Un.refl I.hok
/-- all objects kept -/
theorem Inv.kept {t' : Nat} (I : Inv X pins σ H s) (k : ∀ b u, s.heap.get? b = some u → h'.get? b = some u) : Inv X pins σ H { s with heap := h', toks := t' } := I.un (Un.kept k) (I.hok.kept k)
/-- a new object laid and tracked -/
theorem Inv.laid {a : Addr} {o : HO} {t' : Nat} (I : Inv X pins σ H s) (k : ∀ b u, s.heap.get? b = some u → h'.get? b = some u) (hp : s.heap.objs.size ≤ a) (new : ObjOk X.prog X.w (upd H a o) h' a o) :
    Inv X pins σ (upd H a o) { s with heap := h', toks := t' } := I.un (Un.laid k hp (I.hok.fresh hp)) (I.hok.laid k hp new)
/-- an object written -/
theorem Inv.write {x e : Addr} {o : HO} {t' : Nat} (I : Inv X pins σ H s) (mu : Mut (H x)) (he : e = x ∨ H e = some (.own x)) (k : ∀ b u, b ≠ e → s.heap.get? b = some u → h'.get? b = some u) (heo : ∃ u, h'.get? e = some u)
    (new : ObjOk X.prog X.w (upd H x o) h' x o) : Inv X pins σ (upd H x o) { s with heap := h', toks := t' } := I.un (Un.write mu he k heo) (I.hok.write mu he k heo new)
theorem Inv.pins_of {pins' : List (Addr × Obj)} (I : Inv X pins σ H s) (h : ∀ p ∈ pins', s.heap.get? p.1 = some p.2 ∧ H p.1 = none ∧ p.1 ≠ X.env.locals ∧ p.1 ∉ X.fs ∧ ∀ v, p.2.data ≠ .cell v) : Inv X pins' σ H s :=
  ⟨I.ok, I.os, I.bare, I.base, I.loc, I.cell, I.free, I.freeC, fun p hp => (List.mem_append.mp hp).elim (fun z => I.pin p (List.mem_append_left _ z)) (h p), I.hok, I.len⟩

theorem nodup_ix {N : List Str} (hN : N.Nodup) {i j : Nat} {x : Str} (a : N[i]? = some x) (b : N[j]? = some x) : i = j := by
  obtain ⟨h1, e1⟩ := List.getElem?_eq_some_iff.mp a
  obtain ⟨h2, e2⟩ := List.getElem?_eq_some_iff.mp b
  exact (List.getElem_inj hN).mp (e1.trans e2.symm)

/-- a name is stored; what changed -/
theorem store_ok2 {M : Model} {A : Around} {E : Value → Shared → Prop} {i : Nat} {x : Str} {v : V} {u : Value} {Q : Unit → Shared → Prop} (I : Inv X pins σ H s) (hN : X.N.Nodup) (hi : X.N[i]? = some x) (hx : Loc X.env.scope x) (r : RelV v u)
    (h : ∀ s', Inv X pins (σ.set i (some v)) H s' → (∃ a, Heap.SameBut a s.heap s'.heap ∧ (a = X.env.locals ∨ X.env.cells.lookup x = some a)) → Q () s') (hf : X.fn x = true ∨ X.env.scope.names.lookup x = some .local := by first | exact .inl rfl | exact .inr rfl | assumption) : wpAny M A (storeName X.env x u) Q E s := by
  obtain ⟨m, hn, hl⟩ := id I.loc
  have hcls : (X.env.scope.kind == .class || (X.env.scope.kind == .module && X.env.locals != X.env.globals)) = false := by rw [I.ok.kind]; rfl
  have hiσ : i < σ.length := by rw [I.len]; exact (List.getElem?_eq_some_iff.mp hi).1
  have cne := I.cne
  have tracked : ∀ {a : Addr} {h' : Heap}, (∃ o, s.heap.get? a = some o ∧ H a = none) → Heap.SameBut a s.heap h' → HOk X.prog X.w H h' := fun {a h'} ha hs b ob e => by
    obtain ⟨_, _, hfree⟩ := ha
    refine (I.hok b ob e).stay (fun c w' hc q => (hs.2 c ?_).trans q) (fun _ q => q) fun _ _ q => q
    rintro rfl
    rcases hc with rfl | hc
    · rw [hfree] at e; cases e
    · rw [hfree] at hc; cases hc
  rcases hx with hk | hk
  · refine wpAny_storeName_local hk hn (fun h' hn' hs => ?_) hcls
    obtain ⟨oL, _, _, hoL, _⟩ := id hn
    refine h _ ⟨I.ok, I.os, I.bare, ⟨fun b o e n hb hx => ?_, fun b o e n hb hx => ?_, I.base.free, fun b o e hx => ?_, I.base.tups, I.base.frzs, I.base.tbls⟩, ⟨_, hn', fun j y v' e1 e2 e3 => ?_⟩, fun y c e => ?_, I.free, I.freeC, fun p hp => ?_, tracked ⟨oL, hoL, I.free⟩ hs, by simpa using I.len⟩ ⟨_, hs, .inl rfl⟩
    · exact (hs.2 b (Nat.ne_of_lt (Nat.lt_of_lt_of_le (Heap.lt_size e) I.ok.above))).trans (I.base.keep b o e n hb hx)
    · obtain ⟨sl, e1⟩ := I.base.slot b o e n hb hx
      exact ⟨sl, (hs.2 b (Nat.ne_of_lt (Nat.lt_of_lt_of_le (Heap.lt_size e) I.ok.above))).trans e1⟩
    · obtain ⟨o', e1⟩ := I.base.there b o e hx
      exact ⟨o', (hs.2 b (Nat.ne_of_lt (Nat.lt_of_lt_of_le (Heap.lt_size e) I.ok.above))).trans e1⟩
    · by_cases hj : j = i
      · subst hj
        rw [hi] at e1; cases e1
        rw [List.getElem?_set_self hiσ] at e2
        cases e2
        exact ⟨u, r, .inl ⟨hk, by simp⟩⟩
      · rw [List.getElem?_set_ne (Ne.symm hj)] at e2
        obtain ⟨u', r', q⟩ := hl j y v' e1 e2 e3
        refine ⟨u', r', ?_⟩
        rcases q with ⟨k, e⟩ | ⟨k, c, e, z⟩
        · refine .inl ⟨k, ?_⟩
          have : y ≠ x := fun e => hj (nodup_ix hN e1 (e ▸ hi))
          simp [this, e]
        · exact .inr ⟨k, c, e, z.sameBut hs (cne y c e)⟩
    · obtain ⟨w', z⟩ := I.cell y c e
      exact ⟨w', z.sameBut hs (cne y c e)⟩
    · obtain ⟨e, n, ne, nf, d⟩ := I.pin p hp
      exact ⟨(hs.2 p.1 ne).trans e, n, ne, nf, d⟩
  · have hfn : X.fn x = true := by
      rcases hf with z | z
      · exact z
      · rw [z] at hk; cases hk
    obtain ⟨c, hc⟩ := I.ok.has x (.inl hk)
    obtain ⟨w', z⟩ := I.cell x c hc
    refine wpAny_storeName_cell I.ok.kind hk hc z (fun h' hc' hs => ?_)
    obtain ⟨oc, hoc, hocd⟩ := id z
    refine h { s with heap := h' } ⟨I.ok, I.os, I.bare, ⟨fun b o e n hb hx => ?_, fun b o e n hb hx => ?_, I.base.free, fun b o e hx => ?_, I.base.tups, I.base.frzs, I.base.tbls⟩, ⟨m, hn.sameBut hs (Ne.symm (cne x c hc)), fun j y v' e1 e2 e3 => ?_⟩, fun y c' e => ?_, I.free, I.freeC, fun p hp => ?_, tracked ⟨oc, hoc, I.freeC x c hc⟩ hs, by simpa using I.len⟩ ⟨c, hs, .inr hc⟩
    · exact (hs.2 b (Nat.ne_of_lt (Nat.lt_of_lt_of_le (Heap.lt_size e) (I.ok.cab x c hfn hc)))).trans (I.base.keep b o e n hb hx)
    · obtain ⟨sl, e1⟩ := I.base.slot b o e n hb hx
      exact ⟨sl, (hs.2 b (Nat.ne_of_lt (Nat.lt_of_lt_of_le (Heap.lt_size e) (I.ok.cab x c hfn hc)))).trans e1⟩
    · obtain ⟨o', e1⟩ := I.base.there b o e hx
      exact ⟨o', (hs.2 b (Nat.ne_of_lt (Nat.lt_of_lt_of_le (Heap.lt_size e) (I.ok.cab x c hfn hc)))).trans e1⟩
    · by_cases hj : j = i
      · subst hj
        rw [hi] at e1; cases e1
        rw [List.getElem?_set_self hiσ] at e2
        cases e2
        exact ⟨u, r, .inr ⟨.inl hk, c, hc, hc'⟩⟩
      · rw [List.getElem?_set_ne (Ne.symm hj)] at e2
        obtain ⟨u', r', q⟩ := hl j y v' e1 e2 e3
        refine ⟨u', r', ?_⟩
        rcases q with q | ⟨k, c', e, z'⟩
        · exact .inl q
        · refine .inr ⟨k, c', e, z'.sameBut hs ?_⟩
          rintro rfl
          exact hj (nodup_ix hN e1 (I.ok.inj _ _ _ e hc ▸ hi))
    · by_cases hcc : c' = c
      · subst hcc; exact ⟨_, hc'⟩
      · obtain ⟨w2, z2⟩ := I.cell y c' e
        exact ⟨w2, z2.sameBut hs hcc⟩
    · obtain ⟨e, n, ne, nf, d⟩ := I.pin p hp
      refine ⟨(hs.2 p.1 ?_).trans e, n, ne, nf, d⟩
      intro q
      rw [q, hoc] at e
      have q' : oc = p.2 := Option.some.inj e
      exact d w' (by rw [← q']; exact hocd)
theorem store_ok {M : Model} {A : Around} {E : Value → Shared → Prop} {i : Nat} {x : Str} {v : V} {u : Value} {Q : Unit → Shared → Prop} (I : Inv X pins σ H s) (hN : X.N.Nodup) (hi : X.N[i]? = some x) (hx : Loc X.env.scope x) (r : RelV v u)
    (h : ∀ s', Inv X pins (σ.set i (some v)) H s' → Q () s') (hf : X.fn x = true ∨ X.env.scope.names.lookup x = some .local := by first | exact .inl rfl | exact .inr rfl | assumption) : wpAny M A (storeName X.env x u) Q E s :=
  store_ok2 I hN hi hx r (fun s' I' _ => h s' I') hf
/-- behind a call or a block, the state as it is -/
theorem Inv.call' {s' : Shared} {ch : List Addr} (I : Inv X pins σ H s) (ho : s'.os = s.os) (u : Un (frs X.stack) ch H H' s.heap s'.heap) (hok : HOk X.prog X.w H' s'.heap) (hg : AllBare s'.gens)
    (hch : ∀ b ∈ ch, (b ∈ X.ex ∨ X.s₀.heap.objs.size ≤ b) ∧ b ≠ X.env.locals ∧ (∀ x c, X.env.cells.lookup x = some c → c ≠ b) ∧ ∀ p ∈ X.pn ++ pins, p.1 ≠ b) : Inv X pins σ H' s' := by
  obtain ⟨h', g', d', t', o'⟩ := s'
  have e : o' = s.os := ho
  subst e
  exact I.call (g' := g') (t' := t') (d' := d') u hok hg hch
end

/-! ### the judgements -/
/-- an exception: its class, its own dict's address (where it has one), the abstract heap behind it -/
abbrev XK := Value → Option Addr → Hp → Prop
abbrev St := List (Option V)
abbrev VK := V → Hp → Prop
/-- an expression's reading; a test's; an argument list's -/
abbrev TE := St → Hp → VK → Prop
abbrev TT := St → Hp → (Bool → Hp → Prop) → Prop
abbrev TA := St → Hp → (List V → Hp → Prop) → Prop
/-- what is wanted behind a statement -/
structure Ends where
  nx : St → Hp → Prop
  rt : VK
  bk : St → Hp → Prop := fun _ _ => False
  ct : St → Hp → Prop := fun _ _ => False
abbrev TS := Ends → St → Hp → Prop

def EP (X : Cx) (pins : List (Addr × Obj)) (σ : St) (Q : VK) (u : Value) (s' : Shared) : Prop := ∃ v H', Inv X pins σ H' s' ∧ RelV v u ∧ Q v H'
def TP (X : Cx) (pins : List (Addr × Obj)) (σ : St) (Q : Bool → Hp → Prop) (b : Bool) (s' : Shared) : Prop := ∃ H', Inv X pins σ H' s' ∧ Q b H'
def AP (X : Cx) (pins : List (Addr × Obj)) (σ : St) (Q : List V → Hp → Prop) (us : List Value) (s' : Shared) : Prop := ∃ vs H', Inv X pins σ H' s' ∧ Vals vs us ∧ Q vs H'
def SP (X : Cx) (pins : List (Addr × Obj)) (D : Ends) (f : Flow) (s' : Shared) : Prop :=
  match f with
  | .next => ∃ σ' H', Inv X pins σ' H' s' ∧ D.nx σ' H'
  | .brk => ∃ σ' H', Inv X pins σ' H' s' ∧ D.bk σ' H'
  | .cont => ∃ σ' H', Inv X pins σ' H' s' ∧ D.ct σ' H'
  | .ret u => ∃ v σ' H', Inv X pins σ' H' s' ∧ RelV v u ∧ D.rt v H'

def PE (X : Cx) (e : Expr) (t : TE) : Prop :=
  ∀ (pins : List (Addr × Obj)) (s : Shared) (σ : St) (H : Hp) (Q : VK), Inv X pins σ H s → t σ H Q → wpAny (model X.prog X.w) X.A (eval e X.env) (EP X pins σ Q) X.xe s
def PT (X : Cx) (e : Expr) (t : TT) : Prop :=
  ∀ (pins : List (Addr × Obj)) (s : Shared) (σ : St) (H : Hp) (Q : Bool → Hp → Prop), Inv X pins σ H s → t σ H Q → wpAny (model X.prog X.w) X.A (isTrue e X.env (eval e X.env)) (TP X pins σ Q) X.xe s
/-- a test whatever its 'whole' is (and, or) -/
def PW (X : Cx) (e : Expr) (t : TT) : Prop :=
  ∀ (whole : Sem Value) (pins : List (Addr × Obj)) (s : Shared) (σ : St) (H : Hp) (Q : Bool → Hp → Prop), Inv X pins σ H s → t σ H Q → wpAny (model X.prog X.w) X.A (isTrue e X.env whole) (TP X pins σ Q) X.xe s
theorem PW.pt {X : Cx} {e : Expr} {t : TT} (h : PW X e t) : PT X e t := h _
/-- an argument list (no star), from the left -/
def PA (X : Cx) (es : List Expr) (t : TA) : Prop :=
  ∀ (pos : Pos) (pins : List (Addr × Obj)) (s : Shared) (σ : St) (H : Hp) (Q : List V → Hp → Prop), Inv X pins σ H s → t σ H Q → wpAny (model X.prog X.w) X.A (spliced (backTo pos (starEach es X.env))) (AP X pins σ Q) X.xe s
def PS (X : Cx) (st : Stmt) (t : TS) : Prop :=
  ∀ (pins : List (Addr × Obj)) (s : Shared) (σ : St) (H : Hp) (D : Ends), Inv X pins σ H s → t D σ H → wpAny (model X.prog X.w) X.A (exec st X.env) (SP X pins D) X.xe s
def PSs (X : Cx) (st : List Stmt) (t : TS) : Prop :=
  ∀ (pins : List (Addr × Obj)) (s : Shared) (σ : St) (H : Hp) (D : Ends), Inv X pins σ H s → t D σ H → wpAny (model X.prog X.w) X.A (execs st X.env) (SP X pins D) X.xe s
/-- weaken the end -/
theorem thn {α : Type} {t : Sem α} {Q Q' : α → Shared → Prop} {M : Model} {A : Around} {E : Value → Shared → Prop} {s : Shared} (h : wpAny M A t Q E s) (hQ : ∀ a s, Q a s → Q' a s) : wpAny M A t Q' E s := wpAny_mono h hQ fun _ _ x => x
end L2

namespace L2
open PySem PySem.Spec PyProof.Rows
section
variable {X : Cx}


/-! ### names and constants -/
def tVar (i : Nat) : TE := fun σ H Q => ∃ v, σ[i]? = some (some v) ∧ Q v H
def tC (v : V) : TE := fun _ H Q => Q v H
theorem pe_var {i : Nat} {x : Str} {pos : Pos} (hN : X.N[i]? = some x) (hv : Vis X.env.scope x) (hd : (x == ("__debug__" : Str)) = false := by decide) (hcd : (x == ("__classdict__" : Str)) = false := by decide) : PE X (.Name x pos) (tVar i) := by
  intro pins s σ H Q I h
  obtain ⟨v, e, h⟩ := h
  obtain ⟨m, hn, hl⟩ := I.loc
  obtain ⟨u, r, l⟩ := hl i x v hN e hv
  have fin : EP X pins σ Q u s := ⟨v, H, I, r, h⟩
  rcases l with ⟨hk, hm⟩ | ⟨hk, c, hc, hcell⟩
  · exact wpAny_Name (wpAny_loadName_local I.ok.kind hk hn hm fin) hd
  · rcases hk with hk | hk
    · exact wpAny_Name (wpAny_loadName_cell I.ok.kind hk hc hcell fin) hd
    · exact wpAny_Name (wpAny_loadName_free I.ok.kind hk hc hcell fin hcd) hd
theorem pe_int {i j pos} : PE X (.Constant (.int i) j pos) (tC (.int i)) := fun _ _ _ H _ I h => wpAny_Constant_int ⟨.int i, H, I.tok _, ⟨_, rfl⟩, h⟩
theorem pe_bl {b j pos} : PE X (.Constant (.bool b) j pos) (tC (.bl b)) := fun _ _ _ H _ I h => Constant_bool ⟨.bl b, H, I, rfl, h⟩
theorem pe_non {j pos} : PE X (.Constant .none j pos) (tC .non) := fun _ _ _ H _ I h => Constant_none ⟨.non, H, I, rfl, h⟩
theorem pe_str {x j pos} : PE X (.Constant (.str x) j pos) (tC (.str x)) := fun _ _ _ H _ I h => Calls.Constant_str ⟨.str x, H, I.tok _, ⟨_, rfl⟩, h⟩

/-- a global name of the def -/
def Gl (X : Cx) (x : Str) : Prop := X.env.kindOf x = some .globalImplicit
theorem ld_glob {E : Value → Shared → Prop} {pins : List (Addr × Obj)} {s : Shared} {σ : St} {H : Hp} {x : Str} {u : Value} {pos : Pos} {Q : Value → Shared → Prop} (I : Inv X pins σ H s) (hg : Gl X x) (hm : X.mg x = some u) (h : Q u s)
    (hd : (x == ("__debug__" : Str)) = false := by decide) : wpAny (model X.prog X.w) X.A (eval (.Name x pos) X.env) Q E s :=
  Calls.Name_function_global I.ok.kind hg (Calls.loadGlobal_global (by rw [I.ok.glob]; exact I.mod.glob.keeps I.bk) hm h) hd
theorem ld_blt {E : Value → Shared → Prop} {pins : List (Addr × Obj)} {s : Shared} {σ : St} {H : Hp} {x : Str} {u : Value} {pos : Pos} {Q : Value → Shared → Prop} (I : Inv X pins σ H s) (hg : Gl X x) (hm : X.mg x = none) (hv : bootBuiltins x = some u) (h : Q u s)
    (hn : x ≠ "__name__" := by decide) (hd : (x == ("__debug__" : Str)) = false := by decide) : wpAny (model X.prog X.w) X.A (eval (.Name x pos) X.env) Q E s := by
  obtain ⟨mb, h1, h2⟩ := I.mod.blt
  exact Calls.Name_function_global I.ok.kind hg (Calls.loadGlobal_builtin (by rw [I.ok.glob]; exact I.mod.glob.keeps I.bk) hm (by rw [I.ok.blt]; exact h1.keeps I.bk) ((h2 x hn).trans hv) h) hd
/-- a module's constant, a class, a function, as a value -/
theorem pe_glob {x : Str} {v : V} {u : Value} {pos : Pos} (hg : Gl X x) (hm : X.mg x = some u) (r : RelV v u) (hd : (x == ("__debug__" : Str)) = false := by decide) : PE X (.Name x pos) (tC v) :=
  fun _ _ _ H _ I h => ld_glob I hg hm ⟨v, H, I, r, h⟩ hd
theorem pe_bltn {x : Str} {v : V} {u : Value} {pos : Pos} (hg : Gl X x) (hm : X.mg x = none) (hv : bootBuiltins x = some u) (r : RelV v u) (hn : x ≠ "__name__" := by decide) (hd : (x == ("__debug__" : Str)) = false := by decide) : PE X (.Name x pos) (tC v) :=
  fun _ _ _ H _ I h => ld_blt I hg hm hv ⟨v, H, I, r, h⟩ hn hd

/-! ### arithmetic -/
variable {a b : Expr} {ta tb : TE} {pos : Pos}

/-! ### comparisons -/
/-- a comparison as a value, as a test -/
def tB (t : TE) : TT := fun σ H Q => t σ H fun x H1 => ∃ c, x = .bl c ∧ Q c H1
/-- an expression whose value is a bool, as a test -/
theorem pt_val {e : Expr} {t : TE} (h : PE X e t) (he : ∀ whole, isTrue e X.env whole = (do let v ← whole; standAt e.pos; holding [v] (truthy v)) := by intro _; rfl) : PT X e (tB t) := by
  intro pins s σ H Q I hw
  refine isTrue_plain (thn (h pins s σ H _ I hw) fun v s1 ⟨x, H1, I1, r1, q1⟩ => ?_) (he _)
  obtain ⟨d, rfl, q⟩ := q1
  cases r1
  exact wpAny_truthy_bool ⟨H1, I1, q⟩

/-! ### and, or, not -/
variable {tA tB' : TT} {rest : List Expr}
def tAnd (t u : TT) : TT := fun σ H Q => t σ H fun c H1 => if c = true then u σ H1 Q else Q false H1
def tOr (t u : TT) : TT := fun σ H Q => t σ H fun c H1 => if c = true then Q true H1 else u σ H1 Q
def tNot (t : TT) : TT := fun σ H Q => t σ H fun c H1 => Q (!c) H1
theorem pw_and1 (ha : PT X a tA) : PW X (.BoolOp .And [a] pos) tA := by
  intro wh pins s σ H Q I h
  refine isTrue_and (thn (ha pins s σ H Q I h) fun c s1 e => ?_)
  cases c with
  | true => exact isTrue_and_nil e
  | false => exact e
theorem pw_or1 (ha : PT X a tA) : PW X (.BoolOp .Or [a] pos) tA := by
  intro wh pins s σ H Q I h
  refine isTrue_or (thn (ha pins s σ H Q I h) fun c s1 e => ?_)
  cases c with
  | false => exact isTrue_or_nil e
  | true => exact e
theorem pw_and (ha : PT X a tA) (hb : PW X (.BoolOp .And (b :: rest) pos) tB') : PW X (.BoolOp .And (a :: b :: rest) pos) (tAnd tA tB') := by
  intro wh pins s σ H Q I h
  refine isTrue_and (thn (ha pins s σ H _ I h) fun c s1 ⟨H1, I1, q1⟩ => ?_)
  cases c with
  | true => exact hb wh pins s1 σ H1 Q I1 q1
  | false => exact ⟨H1, I1, q1⟩
theorem pw_or (ha : PT X a tA) (hb : PW X (.BoolOp .Or (b :: rest) pos) tB') : PW X (.BoolOp .Or (a :: b :: rest) pos) (tOr tA tB') := by
  intro wh pins s σ H Q I h
  refine isTrue_or (thn (ha pins s σ H _ I h) fun c s1 ⟨H1, I1, q1⟩ => ?_)
  cases c with
  | true => exact ⟨H1, I1, q1⟩
  | false => exact hb wh pins s1 σ H1 Q I1 q1
theorem pt_not (ha : PT X a tA) : PT X (.UnaryOp .Not a pos) (tNot tA) := by
  intro pins s σ H Q I h
  exact isTrue_not (ha pins s σ H (fun c H1 => Q (!c) H1) I h)
/-- .. as values (bools) -/
def tAndV (ta tb : TE) : TE := fun σ H Q => ta σ H fun x H1 => ∃ c, x = .bl c ∧ if c = true then tb σ H1 Q else Q (.bl false) H1
theorem pe_one {op} {t : TE} (h : PE X a t) : PE X (.BoolOp op [a] pos) t := fun pins s σ H Q I hw => BoolOp_one (h pins s σ H Q I hw)
theorem pe_and (ha : PE X a ta) (hb : PE X (.BoolOp .And (b :: rest) pos) tb) : PE X (.BoolOp .And (a :: b :: rest) pos) (tAndV ta tb) := by
  intro pins s σ H Q I h
  refine BoolOp_and (thn (ha pins s σ H _ I h) fun v s1 ⟨x, H1, I1, r1, q1⟩ => ?_)
  obtain ⟨c, rfl, q1⟩ := q1
  cases r1
  refine wpAny_truthy_bool ?_
  cases c with
  | true => exact hb pins s1 σ H1 Q I1 q1
  | false => exact ⟨.bl false, H1, I1, rfl, q1⟩
end
end L2

namespace L2
open PySem PySem.Spec PyProof.Rows

/-! ### a list, a tuple that is read: tracked, frozen, or an object of the module -/
def SqL (K : PySem.W.Frag) (H : Hp) (a : Addr) (xs : List V) : Prop :=
  Rd H a (.lst xs) ∨
    ∃ (o : Obj) (its : Array Value) (n : Nat), K.lookup a = some o ∧ o.cls = .type "list" ∧ o.dict = none ∧ o.data = .seq its n ∧ its.size ≤ sizeLine ∧ Vals xs its.toList
def SqT (K : PySem.W.Frag) (H : Hp) (a : Addr) (xs : List V) : Prop :=
  Rd H a (.tup xs) ∨
    ∃ (o : Obj) (its : Array Value) (n : Nat), K.lookup a = some o ∧ o.cls = .type "tuple" ∧ o.data = .seq its n ∧ its.size ≤ sizeLine ∧ Vals xs its.toList
def absV : Value → Option V
  | .none => some .non
  | .bool b => some (.bl b)
  | .int i _ => some (.int i)
  | .str x _ => some (.str x)
  | .bytes b _ => some (.byt b)
  | .float b _ => some (.flt b)
  | .ref a => some (.ref a)
  | .type n => some (.ty n)
  | _ => none
theorem RelV.abs {x : V} {u : Value} (r : RelV x u) : absV u = some x := by
  cases x with
  | non => cases r; rfl
  | bl _ => cases r; rfl
  | int _ => obtain ⟨t, rfl⟩ := r; rfl
  | str _ => obtain ⟨t, rfl⟩ := r; rfl
  | byt _ => obtain ⟨t, rfl⟩ := r; rfl
  | flt _ => obtain ⟨t, rfl⟩ := r; rfl
  | ref _ => cases r; rfl
  | ty _ => cases r; rfl
theorem RelV.inj {x y : V} {u : Value} (r : RelV x u) (q : RelV y u) : x = y := Option.some.inj (r.abs.symm.trans q.abs)
theorem Vals.inj {xs ys : List V} {us : List Value} (h : Vals xs us) (h' : Vals ys us) : xs = ys := by
  induction h generalizing ys with
  | nil => cases h'; rfl
  | cons r t ih => cases h' with | cons r' t' => rw [r.inj r', ih t']
section
variable {X : Cx} {pins : List (Addr × Obj)} {σ : St} {H : Hp} {s : Shared} {a : Addr} {xs ys : List V}
theorem SqL.of {K : PySem.W.Frag} (h : H a = some (.lst xs)) : SqL K H a xs := .inl (.inl h)
theorem SqT.of {K : PySem.W.Frag} (h : H a = some (.tup xs)) : SqT K H a xs := .inl (.inl h)
theorem Inv.list (I : Inv X pins σ H s) (h : SqL X.K H a xs) : ∃ its : List Value, Vals xs its ∧ PlainL s.heap a its.toArray ∧ xs.length ≤ sizeLine := by
  rcases h with h | ⟨o, its, n, hk, hc, hd, hs, hz, r⟩
  · obtain ⟨z, its, n, r, e⟩ := h.ok I.hok
    exact ⟨its, r, ⟨_, n, e, rfl, rfl, rfl⟩, z⟩
  · refine ⟨its.toList, r, ⟨o, n, I.kIn a o hk, hc, hd, by simpa using hs⟩, ?_⟩
    have e := r.length
    simp only [Array.length_toList] at e
    omega
theorem Inv.tuple (I : Inv X pins σ H s) (h : SqT X.K H a xs) : ∃ its : List Value, Vals xs its ∧ IsTup s.heap a its.toArray ∧ xs.length ≤ sizeLine := by
  rcases h with h | ⟨o, its, n, hk, hc, hs, hz, r⟩
  · obtain ⟨z, its, r, p⟩ := h.ok I.hok
    exact ⟨its, r, p, z⟩
  · refine ⟨its.toList, r, ⟨o, I.kIn a o hk, hc, n, by simpa using hs⟩, ?_⟩
    have e := r.length
    simp only [Array.length_toList] at e
    omega
theorem Inv.list_inj (I : Inv X pins σ H s) (h : SqL X.K H a xs) (h' : SqL X.K H a ys) : xs = ys := by
  obtain ⟨its, r, ⟨o, n, e, _, _, d⟩, _⟩ := I.list h
  obtain ⟨its', r', ⟨o', n', e', _, _, d'⟩, _⟩ := I.list h'
  rw [e] at e'; cases e'
  rw [d] at d'
  injection d' with d1 _
  have : its = its' := by simpa using congrArg Array.toList d1
  subst this
  exact r.inj r'
theorem Inv.tuple_inj (I : Inv X pins σ H s) (h : SqT X.K H a xs) (h' : SqT X.K H a ys) : xs = ys := by
  obtain ⟨its, r, ⟨o, e, _, n, d⟩, _⟩ := I.tuple h
  obtain ⟨its', r', ⟨o', e', _, n', d'⟩, _⟩ := I.tuple h'
  rw [e] at e'; cases e'
  rw [d] at d'
  injection d' with d1 _
  have : its = its' := by simpa using congrArg Array.toList d1
  subst this
  exact r.inj r'
end

/-! ### another wish about exceptions -/
abbrev Cx.wish (X : Cx) (E : Value → Shared → Prop) : Cx := { X with xe := E }
/-- no exception leaves -/
abbrev Cx.nox (X : Cx) : Cx := X.wish fun _ _ => False
theorem Cx.Ok.wish {X : Cx} (ok : X.Ok) (E : Value → Shared → Prop) : (X.wish E).Ok :=
  ⟨ok.mod, ok.kind, ok.glob, ok.blt, ok.above, ok.inj, ok.has, ok.cab, ok.hd, ok.frames, ok.stk, ok.exf, ok.bs, ok.bsz, ok.noex, ok.exfs, ok.funs, ok.frf⟩
theorem Cx.Ok.unwish {X : Cx} {E : Value → Shared → Prop} (ok : (X.wish E).Ok) : X.Ok :=
  ⟨ok.mod, ok.kind, ok.glob, ok.blt, ok.above, ok.inj, ok.has, ok.cab, ok.hd, ok.frames, ok.stk, ok.exf, ok.bs, ok.bsz, ok.noex, ok.exfs, ok.funs, ok.frf⟩
section
variable {X : Cx} {pins : List (Addr × Obj)} {σ : St} {H : Hp} {s : Shared} {E : Value → Shared → Prop}
theorem Inv.wish (I : Inv X pins σ H s) (E : Value → Shared → Prop) : Inv (X.wish E) pins σ H s := ⟨I.ok.wish E, I.os, I.bare, I.base, I.loc, I.cell, I.free, I.freeC, I.pin, I.hok, I.len⟩
theorem Inv.unwish (I : Inv (X.wish E) pins σ H s) : Inv X pins σ H s := ⟨I.ok.unwish, I.os, I.bare, I.base, I.loc, I.cell, I.free, I.freeC, I.pin, I.hok, I.len⟩
theorem SP.unwish {D : Ends} {f : Flow} {s' : Shared} (h : SP (X.wish E) pins D f s') : SP X pins D f s' := by
  cases f with
  | next => obtain ⟨σ', H', I, q⟩ := h; exact ⟨σ', H', I.unwish, q⟩
  | brk => obtain ⟨σ', H', I, q⟩ := h; exact ⟨σ', H', I.unwish, q⟩
  | cont => obtain ⟨σ', H', I, q⟩ := h; exact ⟨σ', H', I.unwish, q⟩
  | ret u => obtain ⟨v, σ', H', I, r, q⟩ := h; exact ⟨v, σ', H', I.unwish, r, q⟩
theorem PSs.nox {st : List Stmt} {t : TS} (h : PSs X.nox st t) : PSs X st t := fun pins s σ H D I hw =>
  wpAny_mono (h pins s σ H D (I.wish _) hw) (fun _ _ q => q.unwish) fun _ _ z => False.elim z
end

/-! ### blocks and small statements -/
section
variable {X : Cx} {st : Stmt} {rest : List Stmt} {t u : TS} {e : Expr} {te : TE} {pos : Pos}
def tNext : TS := fun D σ H => D.nx σ H
def tSeq (t u : TS) : TS := fun D σ H => t { D with nx := u D } σ H
theorem pss_nil : PSs X [] tNext := fun _ _ σ H _ I h => wpAny_execs_nil ⟨σ, H, I, h⟩
theorem pss_cons (h1 : PS X st t) (h2 : PSs X rest u) : PSs X (st :: rest) (tSeq t u) := by
  intro pins s σ H D I h
  refine wpAny_execs_cons (thn (h1 pins s σ H { D with nx := u D } I h) fun f s1 q => ?_)
  cases f with
  | next =>
    obtain ⟨σ', H', I', q⟩ := q
    exact h2 pins s1 σ' H' D I' q
  | ret v => exact q
  | brk => exact q
  | cont => exact q
theorem pss_one (h1 : PS X st t) : PSs X [st] t := by
  intro pins s σ H D I h
  refine wpAny_execs_cons (thn (h1 pins s σ H D I h) fun f s1 q => ?_)
  cases f with
  | next => exact wpAny_execs_nil q
  | ret v => exact q
  | brk => exact q
  | cont => exact q
/-- in a def's body nothing is shown -/
theorem Inv.quiet {pins : List (Addr × Obj)} {σ : St} {H : Hp} {s : Shared} (I : Inv X pins σ H s) : interactive X.env = false := by simp [interactive, I.ok.kind]
/-- an expression whose value is dropped -/
def tDrop (te : TE) : TS := fun D σ H => te σ H fun _ H1 => D.nx σ H1
theorem ps_expr (he : PE X e te) (hs : swapsWith e none pos.line X.env = pure false := by rfl) : PS X (.Expr e pos) (tDrop te) := by
  intro pins s σ H D I h
  exact wpAny_Expr_any (thn (he pins s σ H _ I h) fun v s1 ⟨x, H1, I1, r1, q1⟩ => ⟨σ, H1, I1, q1⟩) I.quiet hs
def tRet (te : TE) : TS := fun D σ H => te σ H D.rt
theorem ps_ret (he : PE X e te) : PS X (.Return (some e) pos) (tRet te) := by
  intro pins s σ H D I h
  exact wpAny_Return_some (thn (he pins s σ H _ I h) fun v s1 ⟨x, H1, I1, r1, q1⟩ => ⟨x, σ, H1, I1, r1, q1⟩)
def tIfS (c : TT) (t u : TS) : TS := fun D σ H => c σ H fun b H1 => if b = true then t D σ H1 else u D σ H1
theorem ps_if {c : Expr} {a b : List Stmt} {tc : TT} (hc : PT X c tc) (ha : PSs X a t) (hb : PSs X b u) : PS X (.If c a b pos) (tIfS tc t u) := by
  intro pins s σ H D I h
  refine wpAny_If (thn (hc pins s σ H _ I h) fun d s1 ⟨H1, I1, q1⟩ => ?_)
  cases d with
  | true => exact ha pins s1 σ H1 D I1 q1
  | false => exact hb pins s1 σ H1 D I1 q1
end

/-! ### targets -/
abbrev TG := V → St → Hp → (St → Hp → Prop) → Prop
abbrev TGs := List V → St → Hp → (St → Hp → Prop) → Prop
def PG (X : Cx) (target : Expr) (t : TG) : Prop :=
  ∀ (pins : List (Addr × Obj)) (s : Shared) (σ : St) (H : Hp) (v : V) (u : Value) (Q : St → Hp → Prop), Inv X pins σ H s → RelV v u → t v σ H Q →
    wpAny (model X.prog X.w) X.A (assign target X.env u) (fun _ s' => ∃ σ' H', Inv X pins σ' H' s' ∧ Q σ' H') X.xe s
/-- several targets, one after another -/
def PGs (X : Cx) (ts : List Expr) (t : TGs) : Prop :=
  ∀ (pins : List (Addr × Obj)) (s : Shared) (σ : St) (H : Hp) (vs : List V) (us : List Value) (Q : St → Hp → Prop), Inv X pins σ H s → Vals vs us → t vs σ H Q →
    wpAny (model X.prog X.w) X.A (assignInOrder ((assignEach ts X.env).map (·.2)) us) (fun _ s' => ∃ σ' H', Inv X pins σ' H' s' ∧ Q σ' H') X.xe s
section
variable {X : Cx} {pos : Pos}
def gName (i : Nat) : TG := fun v σ H Q => Q (σ.set i (some v)) H
theorem pg_name {i : Nat} {x : Str} (hN : X.N.Nodup) (hi : X.N[i]? = some x) (hx : Loc X.env.scope x) (hf : X.fn x = true ∨ X.env.scope.names.lookup x = some .local := by first | exact .inl rfl | exact .inr rfl | assumption) : PG X (.Name x pos) (gName i) := by
  intro pins s σ H v u Q I r h
  exact wpAny_assign_Name (store_ok I hN hi hx r (fun s' I' => ⟨_, H, I', h⟩) hf)
def gNil : TGs := fun vs σ H Q => vs = [] ∧ Q σ H
def gCons (t : TG) (u : TGs) : TGs := fun vs σ H Q => ∃ v r, vs = v :: r ∧ t v σ H fun σ' H' => u r σ' H' Q
theorem pgs_nil : PGs X [] gNil := by
  intro pins s σ H vs us Q I r h
  obtain ⟨e, h⟩ := h
  subst e
  cases r
  exact assignInOrder_nil ⟨σ, H, I, h⟩
theorem pgs_cons {e : Expr} {es : List Expr} {t : TG} {u : TGs} (h1 : PG X e t) (h2 : PGs X es u)
    (hs : (assignEach (e :: es) X.env).map (·.2) = assign e X.env :: (assignEach es X.env).map (·.2) := by rfl) : PGs X (e :: es) (gCons t u) := by
  intro pins s σ H vs us Q I r h
  obtain ⟨v, vr, e1, h⟩ := h
  subst e1
  cases r with
  | cons r rr =>
    rw [hs]
    refine assignInOrder_cons (thn (h1 pins s σ H _ _ _ I r h) fun _ s1 ⟨σ1, H1, I1, q1⟩ => ?_)
    exact h2 pins s1 σ1 H1 _ _ Q I1 rr q1
/-- (a, b, ..) = a tuple of that length -/
def gTup (K : PySem.W.Frag) (n : Nat) (t : TGs) : TG := fun v σ H Q => ∃ a xs, v = .ref a ∧ SqT K H a xs ∧ xs.length = n ∧ t xs σ H Q
theorem pg_tup {es : List Expr} {k : Nat} {t : TGs} {n : Nat} (hc : X.calm = true) (h : PGs X es t)
    (hn : (assignEach es X.env).length = n := by rfl) (hst : (assignEach es X.env).findIdx? (·.1) = none := by rfl) : PG X (.Tuple es k pos) (gTup X.K n t) := by
  intro pins s σ H v u Q I r hw
  obtain ⟨a, xs, e1, hq, hl, hw⟩ := hw
  subst e1
  cases r
  obtain ⟨its, rv, ht, hz⟩ := I.tuple hq
  refine assign_Tuple_tuple (I.ok.hd hc) ht (by simp [hn, ← hl, rv.length]) hst fun h' hx => ?_
  have I1 : Inv X pins σ H { s with heap := h' } := I.kept (t' := s.toks) fun b o e => hx b o (Nat.ne_of_lt (Heap.lt_size e)) e
  exact h pins _ σ H xs _ Q I1 (by simpa using rv) hw
/-- target = value -/
def tAsg (te : TE) (g : TG) : TS := fun D σ H => te σ H fun x H1 => g x σ H1 D.nx
theorem ps_asg {tg e : Expr} {te : TE} {g : TG} (he : PE X e te) (hg : PG X tg g) (hs : swapsWithSole [tg] e pos.line X.env = pure false := by rfl) (hw : swappedStores [tg] e X.env = pure none := by rfl)
    (h1 : (assignEach [tg] X.env).map (·.2) = [assign tg X.env] := by rfl) : PS X (.Assign [tg] e pos) (tAsg te g) := by
  intro pins s σ H D I h
  refine wpAny_Assign_stores (thn (he pins s σ H _ I h) fun v s1 ⟨x, H1, I1, r1, q1⟩ => ?_) hs hw
  rw [h1]
  exact thn (hg pins s1 σ H1 x v _ I1 r1 q1) fun _ s2 q => q
/-- name = value -/
theorem ps_set {i : Nat} {x : Str} {e : Expr} {te : TE} {pos' : Pos} (hN : X.N.Nodup) (hi : X.N[i]? = some x) (hx : Loc X.env.scope x) (he : PE X e te) (hs : swapsWith e (some (.Name x pos')) pos.line X.env = pure false := by rfl) (hf : X.fn x = true ∨ X.env.scope.names.lookup x = some .local := by first | exact .inl rfl | exact .inr rfl | assumption) :
    PS X (.Assign [.Name x pos'] e pos) (tAsg te (gName i)) := by
  intro pins s σ H D I h
  refine wpAny_Assign_Name (thn (he pins s σ H _ I h) fun v s1 ⟨y, H1, I1, r1, q1⟩ => ?_) hs
  exact store_ok I1 hN hi hx r1 (fun s2 I2 => ⟨_, H1, I2, q1⟩) hf
end

/-! ### while -/
section
variable {X : Cx} {pos : Pos}
/-- the invariant W with its measure -/
def tWhile (c : TT) (tb : TS) : TS := fun D σ H => ∃ W : Nat → St → Hp → Prop, (∃ m, W m σ H) ∧ ∀ m σ H, W m σ H →
  c σ H fun b H1 => if b = true then ∃ N : St → Hp → Prop, (∀ σ' H', N σ' H' → ∃ m', m' < m ∧ W m' σ' H') ∧ tb { D with nx := N, ct := N, bk := D.nx } σ H1 else D.nx σ H1
theorem ps_while {c : Expr} {body : List Stmt} {tc : TT} {tb : TS} (hp : PassesOwn (model X.prog X.w) X.A X.env X.xe) (hc : PT X c tc) (hb : PSs X body tb) : PS X (.While c body [] pos) (tWhile tc tb) := by
  intro pins s σ H D I h
  obtain ⟨W, ⟨m0, w0⟩, turn⟩ := h
  refine wpAny_While (codeAny_whileLoop (fun n s' => ∃ σ' H', Inv X pins σ' H' s' ∧ W n σ' H') ?_ m0 ⟨σ, H, I, w0⟩)
  rintro n s1 ⟨σ1, H1, I1, w1⟩
  refine wpAny_passesOwn hp (thn (hc pins s1 σ1 H1 _ I1 (turn n σ1 H1 w1)) fun b s2 ⟨H2, I2, q2⟩ => ?_)
  cases b with
  | true =>
    obtain ⟨N, hN, q2⟩ := q2
    rw [if_pos rfl]
    refine wpAny_passesOwn hp (thn (hb pins s2 σ1 H2 _ I2 q2) fun f s3 q3 => ?_)
    cases f with
    | next =>
      obtain ⟨σ3, H3, I3, n3⟩ := q3
      obtain ⟨m', hm, w3⟩ := hN σ3 H3 n3
      exact ⟨m', hm, σ3, H3, I3, w3⟩
    | cont =>
      obtain ⟨σ3, H3, I3, n3⟩ := q3
      obtain ⟨m', hm, w3⟩ := hN σ3 H3 n3
      exact ⟨m', hm, σ3, H3, I3, w3⟩
    | brk => exact q3
    | ret v => exact q3
  | false =>
    rw [if_neg Bool.false_ne_true]
    exact wpAny_execs_nil ⟨σ1, H2, I2, q2⟩
end

/-! ### what a loop or a comprehension walks -/
/-- at turn i: it yields x (the heap may grow), or it stops -/
structure It where
  go : Nat → Hp → Prop
  yld : Nat → Hp → V → Hp → Prop
  stop : Nat → Hp → Prop
/-- the iterator's own objects may turn: they are not the frame's, not pinned, younger than the entry (or a comprehension's own) -/
def FpOk (X : Cx) (pins : List (Addr × Obj)) (H : Hp) (b : Addr) : Prop :=
  H b = none ∧ b ≠ X.env.locals ∧ b ∉ X.fs ∧ (b ∈ X.ex ∨ X.s₀.heap.objs.size ≤ b) ∧ (∀ x c, X.env.cells.lookup x = some c → c ≠ b) ∧ ∀ p ∈ X.pn ++ pins, p.1 ≠ b
theorem Inv.fpOk {X : Cx} {pins : List (Addr × Obj)} {σ : St} {H H' : Hp} {s : Shared} {b : Addr} (I : Inv X pins σ H s) (hb : s.heap.objs.size ≤ b) (hn : H' b = none) : FpOk X pins H' b := by
  refine ⟨hn, Nat.ne_of_gt (Nat.lt_of_lt_of_le I.lt hb), I.nofs hb, .inr (Nat.le_trans I.sz hb), fun x c e z => ?_, fun p hp z => ?_⟩
  · obtain ⟨v, q⟩ := I.cell x c e
    exact absurd (Nat.lt_of_lt_of_le q.lt (by rw [z]; exact hb)) (Nat.lt_irrefl _)
  · exact absurd (Nat.lt_of_lt_of_le (Heap.lt_size (I.pin p hp).1) (by rw [z]; exact hb)) (Nat.lt_irrefl _)
structure Turn (P : Program) (w : World) (K : PySem.W.Frag) (tg : Expr) (J : It) (fp : List Addr) (it : Addr) (tn : Nat → Heap → Prop) : Prop where
  mem : it ∈ fp
  obj : ∀ i h, tn i h → ∀ b ∈ fp, ∃ o, h.get? b = some o ∧ ∀ v, o.data ≠ .cell v
  keep : ∀ i h h', tn i h → (∀ b ∈ fp, ∀ o, h.get? b = some o → h'.get? b = some o) → tn i h'
  item : ∀ (X : Cx), X.prog = P → X.w = w → X.K = K → X.calm = true → ∀ (i : Nat) (pins : List (Addr × Obj)) (s : Shared) (σ : St) (H : Hp) (E : Value → Shared → Prop), Inv X pins σ H s → (∀ b ∈ fp, FpOk X pins H b) → tn i s.heap → J.go i H →
    wpAny (model P w) X.A (pyNext (.ref it)) (fun r s1 => ∃ u, r = some u ∧
      wpAny (model P w) X.A (letOwnedTupleGo tg (.ref it) u) (fun _ s2 => ∃ x H', Inv X pins σ H' s2 ∧ RelV x u ∧ J.yld i H x H' ∧ tn (i + 1) s2.heap ∧ ∀ b ∈ fp, H' b = none) E s1) E s
  done : ∀ (X : Cx), X.prog = P → X.w = w → X.K = K → X.calm = true → ∀ (i : Nat) (pins : List (Addr × Obj)) (s : Shared) (σ : St) (H : Hp) (E : Value → Shared → Prop), Inv X pins σ H s → (∀ b ∈ fp, FpOk X pins H b) → tn i s.heap → J.stop i H →
    wpAny (model P w) X.A (pyNext (.ref it)) (fun r s1 => r = none ∧ Inv X pins σ H s1) E s
  self : ∀ (A : Around) (i : Nat) (s : Shared) (Q : Value → Shared → Prop) (E : Value → Shared → Prop), tn i s.heap → Q (.ref it) s → wpAny (model P w) A (pyIter (.ref it)) Q E s
abbrev TI := St → Hp → (It → Hp → Prop) → Prop
/-- an iterator has come -/
def PIE (X : Cx) (pins : List (Addr × Obj)) (σ : St) (tg : Expr) (R : It → Hp → Prop) (itv : Value) (s2 : Shared) : Prop :=
  ∃ (it : Addr) (fp : List Addr) (tn : Nat → Heap → Prop) (J : It) (H' : Hp), itv = .ref it ∧ Inv X pins σ H' s2 ∧ Turn X.prog X.w X.K tg J fp it tn ∧ tn 0 s2.heap ∧ (∀ b ∈ fp, FpOk X pins H' b) ∧ R J H'
def PI (X : Cx) (tg iter : Expr) (wi : TI) : Prop :=
  ∀ (pins : List (Addr × Obj)) (s : Shared) (σ : St) (H : Hp) (R : It → Hp → Prop), Inv X pins σ H s → wi σ H R →
    wpAny (model X.prog X.w) X.A (eval iter X.env) (fun v s1 => wpAny (model X.prog X.w) X.A (pyIter v) (PIE X pins σ tg R) X.xe s1) X.xe s

/-- the step ahead of the store is nothing for an iterator that keeps no tuple -/
theorem go_of {M : Model} {A : Around} {E : Value → Shared → Prop} {s : Shared} {tg : Expr} {it : Addr} {u : Value} {o : Obj} {n : String} {vs : Array Value} {Q : Unit → Shared → Prop} (ho : s.heap.get? it = some o) (hc : o.cls = .type n) (hd : o.data = .fields vs)
    (hn : ["enumerate", "zip", "dict_itemiterator", "dict_reverseitemiterator", "odict_iterator", "itertools.zip_longest", "itertools.pairwise"].contains n = false) (hQ : Q () s) : wpAny M A (letOwnedTupleGo tg (.ref it) u) Q E s := by
  unfold letOwnedTupleGo
  cases tg <;> first
    | exact wpAny_pure hQ
    | (cases u <;> first
        | exact wpAny_pure hQ
        | (refine wpAny_bind (wpAny_load ho ?_)
           rw [hc, hd]
           show wpAny M A (if (["enumerate", "zip", "dict_itemiterator", "dict_reverseitemiterator", "odict_iterator", "itertools.zip_longest", "itertools.pairwise"].contains n && vs[0]? == some (rawInt _)) = true then _ else _) Q E s
           rw [if_neg (by intro h; rw [hn, Bool.false_and] at h; cases h)]
           exact wpAny_pure hQ))

/-- the list at a, as it stands at each turn (a loop may append to it) -/
def Itl (K : PySem.W.Frag) (a : Addr) : It :=
  ⟨fun i H => ∃ xs x, SqL K H a xs ∧ xs[i]? = some x, fun i H x H' => H' = H ∧ ∀ xs, SqL K H a xs → xs[i]? = some x, fun i H => ∃ xs, SqL K H a xs ∧ xs.length ≤ i⟩
def Itt (K : PySem.W.Frag) (a : Addr) : It :=
  ⟨fun i H => ∃ xs x, SqT K H a xs ∧ xs[i]? = some x, fun i H x H' => H' = H ∧ ∀ xs, SqT K H a xs → xs[i]? = some x, fun i H => ∃ xs, SqT K H a xs ∧ xs.length ≤ i⟩
/-- lo, lo + 1, .. (n of them) -/
def Itr (lo : Int) (n : Nat) : It := ⟨fun i _ => i < n, fun i H x H' => H' = H ∧ x = .int (lo + i), fun i _ => n ≤ i⟩
theorem turn_list {P : Program} {w : World} {K : PySem.W.Frag} {tg : Expr} (a it : Addr) : Turn P w K tg (Itl K a) [it] it (fun i h => h.IsListIter it a i) where
  mem := by simp
  obj := fun i h st b hb => by
    have e : b = it := by simpa using hb
    subst e
    obtain ⟨o, e, c, d⟩ := st
    exact ⟨o, e, fun v z => by rw [d] at z; cases z⟩
  keep := fun i h h' st k => st.at fun o e => k it (by simp) o e
  item := by
    intro X hP hw hK hc i pins s σ H E I hf st hg
    subst hP hw hK
    obtain ⟨xs, x, hq, hx⟩ := hg
    obtain ⟨its, rv, p, hz⟩ := I.list hq
    obtain ⟨u, hu, ru⟩ := rv.get hx
    obtain ⟨f0, f1, f2, f3, f4, f5⟩ := hf it (by simp)
    refine wpAny_pyNext_list_item st p.isList (x := u) (by simpa using hu) fun h' st' sb => ?_
    have I1 : Inv X pins σ H { s with heap := h' } := I.turned (t' := s.toks) (fun b o hb e => (sb.2 b hb).trans e) f0 f1 f3 f4 f5
    obtain ⟨o, e, c, d⟩ := id st'
    exact ⟨u, rfl, go_of (s := { s with heap := h' }) e c d (by decide) ⟨x, H, I1, ru, ⟨rfl, fun ys hy => by rw [I.list_inj hy hq]; exact hx⟩, st', fun b hb => (hf b hb).1⟩⟩
  done := by
    intro X hP hw hK hc i pins s σ H E I hf st hg
    subst hP hw hK
    obtain ⟨xs, hq, hx⟩ := hg
    obtain ⟨its, rv, p, hz⟩ := I.list hq
    obtain ⟨f0, f1, f2, f3, f4, f5⟩ := hf it (by simp)
    have hl := rv.length
    exact wpAny_pyNext_list_end (I.ok.hd hc) st p.isList (by simp; omega) fun h' eb => ⟨rfl, I.turned (t' := s.toks) (fun b o hb e => eb b o hb e) f0 f1 f3 f4 f5⟩
  self := fun _ _ _ _ _ st h => wpAny_pyIter_listiter st h
theorem turn_tuple {P : Program} {w : World} {K : PySem.W.Frag} {tg : Expr} (a it : Addr) : Turn P w K tg (Itt K a) [it] it (fun i h => h.IsTupleIter it a i) where
  mem := by simp
  obj := fun i h st b hb => by
    have e : b = it := by simpa using hb
    subst e
    obtain ⟨o, e, c, d⟩ := st
    exact ⟨o, e, fun v z => by rw [d] at z; cases z⟩
  keep := fun i h h' st k => st.at fun o e => k it (by simp) o e
  item := by
    intro X hP hw hK hc i pins s σ H E I hf st hg
    subst hP hw hK
    obtain ⟨xs, x, hq, hx⟩ := hg
    obtain ⟨its, rv, p, hz⟩ := I.tuple hq
    obtain ⟨u, hu, ru⟩ := rv.get hx
    obtain ⟨f0, f1, f2, f3, f4, f5⟩ := hf it (by simp)
    refine wpAny_pyNext_tuple_item st (show s.heap.IsTuple a its.toArray from p) (x := u) (by simpa using hu) fun h' st' sb => ?_
    have I1 : Inv X pins σ H { s with heap := h' } := I.turned (t' := s.toks) (fun b o hb e => (sb.2 b hb).trans e) f0 f1 f3 f4 f5
    obtain ⟨o, e, c, d⟩ := id st'
    exact ⟨u, rfl, go_of (s := { s with heap := h' }) e c d (by decide) ⟨x, H, I1, ru, ⟨rfl, fun ys hy => by rw [I.tuple_inj hy hq]; exact hx⟩, st', fun b hb => (hf b hb).1⟩⟩
  done := by
    intro X hP hw hK hc i pins s σ H E I hf st hg
    subst hP hw hK
    obtain ⟨xs, hq, hx⟩ := hg
    obtain ⟨its, rv, p, hz⟩ := I.tuple hq
    obtain ⟨f0, f1, f2, f3, f4, f5⟩ := hf it (by simp)
    have hl := rv.length
    exact wpAny_pyNext_tuple_end (I.ok.hd hc) st (show s.heap.IsTuple a its.toArray from p) (by simp; omega) fun h' eb => ⟨rfl, I.turned (t' := s.toks) (fun b o hb e => eb b o hb e) f0 f1 f3 f4 f5⟩
  self := fun _ _ _ _ _ st h => wpAny_pyIter_tupleiter st h
theorem turn_range {P : Program} {w : World} {K : PySem.W.Frag} {tg : Expr} (it : Addr) (lo : Int) (n : Nat) : Turn P w K tg (Itr lo n) [it] it (fun i h => IsRangeIter h it (lo + (i : Nat) * 1) ((n : Int) - (i : Nat)) 1) where
  mem := by simp
  obj := fun i h st b hb => by
    have e : b = it := by simpa using hb
    subst e
    exact ⟨_, st, fun v z => by
      have z' : Data.fields _ = Data.cell v := z
      cases z'⟩
  keep := fun i h h' st k => k it (by simp) _ st
  item := by
    intro X hP hw hK hc i pins s σ H E I hf st hg
    subst hP hw hK
    obtain ⟨f0, f1, f2, f3, f4, f5⟩ := hf it (by simp)
    have W := Walks.range (prog := X.prog) (w := X.w) (I.ok.hd hc) it lo 1 n
    refine W.item i s _ _ hg st fun v h' tk hv st' kk => ?_
    obtain ⟨t, rfl⟩ := hv
    have I1 : Inv X pins σ H { s with heap := h', toks := tk } := I.turned (fun b o hb e => kk b o (by simpa using hb) e) f0 f1 f3 f4 f5
    refine ⟨_, rfl, go_of (s := { s with heap := h', toks := tk }) (n := "range_iterator") st' rfl rfl (by decide) ⟨.int (lo + i), H, I1, ⟨t, ?_⟩, ⟨rfl, rfl⟩, st', fun b hb => (hf b hb).1⟩⟩
    rw [Int.mul_one]
  done := by
    intro X hP hw hK hc i pins s σ H E I hf st hg
    subst hP hw hK
    obtain ⟨f0, f1, f2, f3, f4, f5⟩ := hf it (by simp)
    exact wpAny_pyNext_range_end (I.ok.hd hc) st (by have : n ≤ i := hg; omega) fun h' eb => ⟨rfl, I.turned (t' := s.toks) (fun b o hb e => eb b o hb e) f0 f1 f3 f4 f5⟩
  self := fun _ _ _ _ _ st h => wpAny_pyIter_rangeiter st h
end L2

namespace L2
open PySem PySem.Spec PyProof.Rows
section
variable {X : Cx} {tg : Expr}
def iList (K : PySem.W.Frag) (tl : TE) : TI := fun σ H R => tl σ H fun x H1 => ∃ a, x = .ref a ∧ (∃ xs, SqL K H1 a xs) ∧ R (Itl K a) H1
def iTup (K : PySem.W.Frag) (tl : TE) : TI := fun σ H R => tl σ H fun x H1 => ∃ a, x = .ref a ∧ (∃ xs, SqT K H1 a xs) ∧ R (Itt K a) H1
theorem pi_list {l : Expr} {tl : TE} (hl : PE X l tl) : PI X tg l (iList X.K tl) := by
  intro pins s σ H R I h
  refine thn (hl pins s σ H _ I h) fun v s1 ⟨x, H1, I1, r1, q1⟩ => ?_
  obtain ⟨a, e, ⟨xs, hq⟩, q⟩ := q1
  subst e
  cases r1
  obtain ⟨its, rv, p, hz⟩ := I1.list hq
  refine wpAny_pyIter_list p.isList ?_
  refine ⟨s1.heap.objs.size, [s1.heap.objs.size], _, _, H1, rfl, I1.kept (t' := s1.toks) fun b o e => Heap.get?_push_of_some _ e, turn_list a _, ⟨_, Heap.get?_push_size _ rfl, rfl, rfl⟩, fun b hb => ?_, q⟩
  have e : b = s1.heap.objs.size := by simpa using hb
  subst e
  exact I1.fpOk (Nat.le_refl _) (I1.hok.fresh (Nat.le_refl _))
theorem pi_tup {l : Expr} {tl : TE} (hl : PE X l tl) : PI X tg l (iTup X.K tl) := by
  intro pins s σ H R I h
  refine thn (hl pins s σ H _ I h) fun v s1 ⟨x, H1, I1, r1, q1⟩ => ?_
  obtain ⟨a, e, ⟨xs, hq⟩, q⟩ := q1
  subst e
  cases r1
  obtain ⟨its, rv, p, hz⟩ := I1.tuple hq
  refine wpAny_pyIter_tuple (show s1.heap.IsTuple a its.toArray from p) ?_
  refine ⟨s1.heap.objs.size, [s1.heap.objs.size], _, _, H1, rfl, I1.kept (t' := s1.toks) fun b o e => Heap.get?_push_of_some _ e, turn_tuple a _, ⟨_, Heap.get?_push_size _ rfl, rfl, rfl⟩, fun b hb => ?_, q⟩
  have e : b = s1.heap.objs.size := by simpa using hb
  subst e
  exact I1.fpOk (Nat.le_refl _) (I1.hok.fresh (Nat.le_refl _))
/-- a range object just made, walked -/
theorem range_it {pins : List (Addr × Obj)} {σ : St} {H : Hp} {s : Shared} {R : It → Hp → Prop} {E : Value → Shared → Prop} {lo hi : Int} {t u v : Tok} {tk : Nat} (I : Inv X pins σ H s) (h1 : -(2 ^ 62) ≤ lo) (h2 : lo < 2 ^ 62) (h3 : -(2 ^ 62) ≤ hi) (h4 : hi < 2 ^ 62)
    (q : R (Itr lo (hi - lo).toNat) H) : wpAny (model X.prog X.w) X.A (pyIter (.ref s.heap.objs.size)) (PIE X pins σ tg R) E { s with heap := s.heap.push { cls := .type "range", data := .fields #[.int lo t, .int hi u, .int 1 v] }, toks := tk } := by
  refine wpAny_pyIter_range (IsRange.new ..) (small_one h1 h2 h3 h4) ?_
  have I1 : Inv X pins σ H { s with heap := s.heap.push { cls := .type "range", data := .fields #[.int lo t, .int hi u, .int 1 v] }, toks := tk } := I.kept fun b o e => Heap.get?_push_of_some _ e
  refine ⟨(s.heap.push { cls := .type "range", data := .fields #[.int lo t, .int hi u, .int 1 v] }).objs.size, [(s.heap.push { cls := .type "range", data := .fields #[.int lo t, .int hi u, .int 1 v] }).objs.size], _, _, H, rfl,
    I1.kept (t' := tk) fun b o e => Heap.get?_push_of_some _ e, turn_range _ lo (hi - lo).toNat, ?_, fun b hb => ?_, q⟩
  · have e1 : lo + ((0 : Nat) : Int) * 1 = lo := by simp
    have e2 : (((hi - lo).toNat : Nat) : Int) - ((0 : Nat) : Int) = Builtin.Range.rangeSize lo hi 1 := by rw [rangeSize_one]; split <;> omega
    show IsRangeIter _ _ (lo + ((0 : Nat) : Int) * 1) ((((hi - lo).toNat : Nat) : Int) - ((0 : Nat) : Int)) 1
    rw [e1, e2]
    exact Heap.get?_push_size _ rfl
  · have e : b = (s.heap.push { cls := .type "range", data := .fields #[.int lo t, .int hi u, .int 1 v] }).objs.size := by simpa using hb
    subst e
    exact I1.fpOk (Nat.le_refl _) (I1.hok.fresh (Nat.le_refl _))
def iRng1 (ta : TA) : TI := fun σ H R => ta σ H fun vs H1 => ∃ j : Int, vs = [.int j] ∧ -(2 ^ 62) ≤ j ∧ j < 2 ^ 62 ∧ R (Itr 0 j.toNat) H1
theorem pi_range1 {a : Expr} {ta : TA} {p pos : Pos} (hg : Gl X "range") (hm : X.mg "range" = none) (ha : PA X [a] ta) (hs : starEach [a] X.env = [(false, eval a X.env)] := by rfl) : PI X tg (.Call (.Name "range" p) [a] [] pos) (iRng1 ta) := by
  intro pins s σ H R I h
  refine Call_ (ld_blt I hg hm boot_range (PyProof.Rows.callWith_type1 (thn (ha pos pins s σ H _ I h) fun us s1 ⟨vs, H1, I1, r1, q1⟩ => ?_) hs rfl))
  obtain ⟨j, e, q1, q2, q⟩ := q1
  subst e
  cases r1 with
  | cons r rr =>
    cases rr
    obtain ⟨t, rfl⟩ := r
    exact call_range_1 (range_it I1 (by omega) (by omega) q1 q2 (by simpa using q))

/-! ### for -/
/-- W: the invariant by the turn and a measure; N: what the body is to reach -/
def tFor (wi : TI) (g : TG) (tb : TS) : TS := fun D σ H => wi σ H fun J H1 => ∃ W : Nat → Nat → St → Hp → Prop, (∃ m, W 0 m σ H1) ∧ ∀ i m σ H, W i m σ H →
  (J.stop i H ∧ D.nx σ H) ∨ (J.go i H ∧ ∃ N : St → Hp → Prop, (∀ σ' H', N σ' H' → ∃ m', m' < m ∧ W (i + 1) m' σ' H') ∧ ∀ x H', J.yld i H x H' → g x σ H' fun σ2 H2 => tb { D with nx := N, ct := N, bk := D.nx } σ2 H2)
/-- the records at fp as they stand -/
def pinsAt (fp : List Addr) (h : Heap) : List (Addr × Obj) := fp.filterMap fun b => (h.get? b).map fun o => (b, o)
theorem mem_pinsAt {fp : List Addr} {h : Heap} {b : Addr} {o : Obj} (hb : b ∈ fp) (e : h.get? b = some o) : (b, o) ∈ pinsAt fp h := List.mem_filterMap.mpr ⟨b, hb, by rw [e]; rfl⟩
theorem of_pinsAt {fp : List Addr} {h : Heap} {p : Addr × Obj} (hp : p ∈ pinsAt fp h) : p.1 ∈ fp ∧ h.get? p.1 = some p.2 := by
  obtain ⟨b, hb, e⟩ := List.mem_filterMap.mp hp
  cases q : h.get? b with
  | none => rw [q] at e; cases e
  | some o =>
    rw [q] at e
    have e' : (b, o) = p := Option.some.inj e
    subst e'
    exact ⟨hb, q⟩
theorem Inv.pinned {pins : List (Addr × Obj)} {σ : St} {H : Hp} {s : Shared} {fp : List Addr} (I : Inv X pins σ H s) (hf : ∀ b ∈ fp, FpOk X pins H b) (ho : ∀ b ∈ fp, ∃ o, s.heap.get? b = some o ∧ ∀ v, o.data ≠ .cell v) : Inv X (pins ++ pinsAt fp s.heap) σ H s :=
  I.pins_of fun p hp => (List.mem_append.mp hp).elim (fun z => I.pin p (List.mem_append_right _ z)) fun z => by
    obtain ⟨hb, e⟩ := of_pinsAt z
    obtain ⟨f0, f1, f2, _⟩ := hf p.1 hb
    obtain ⟨o, e', d⟩ := ho p.1 hb
    rw [e] at e'; cases e'
    exact ⟨e, f0, f1, f2, d⟩
theorem Inv.unpinned {pins pl : List (Addr × Obj)} {σ : St} {H : Hp} {s : Shared} (I : Inv X (pins ++ pl) σ H s) : Inv X pins σ H s := I.pins_of fun p hp => I.pin p (List.mem_append_right _ (List.mem_append_left _ hp))
theorem ps_for {iter : Expr} {body : List Stmt} {wi : TI} {g : TG} {tb : TS} {pos : Pos} (hp : PassesOwn (model X.prog X.w) X.A X.env X.xe) (hc : X.calm = true) (hi : PI X tg iter wi) (hg : PG X tg g) (hb : PSs X body tb)
    (hs : ∀ x, foldedSetIterable iter X.env x = pure x := by intro _; rfl) : PS X (.For tg iter body [] pos) (tFor wi g tb) := by
  intro pins s σ H D I h
  refine wpAny_For (thn (hi pins s σ H _ I h) fun v s1 h1 => thn h1 fun itv s2 h2 => ?_) hs
  obtain ⟨it, fp, tn, J, H2, e, I2, T, st2, f2, W, ⟨m0, w0⟩, turn⟩ := h2
  subst e
  -- what stays true of the iterator's objects through the loop
  have stat : ∀ {H' : Hp}, (∀ b ∈ fp, H' b = none) → ∀ b ∈ fp, FpOk X pins H' b := fun hn b hb => ⟨hn b hb, (f2 b hb).2⟩
  refine codeAny_forLoop_any (fun n s' => ∃ i σ' H', Inv X pins σ' H' s' ∧ tn i s'.heap ∧ (∀ b ∈ fp, H' b = none) ∧ W i n σ' H') ?_ m0 ⟨0, σ, H2, I2, st2, fun b hb => (f2 b hb).1, w0⟩
  rintro n s3 ⟨i, σ3, H3, I3, st3, fr3, w3⟩
  rcases turn i n σ3 H3 w3 with ⟨stop, qn⟩ | ⟨go, N, hN, step⟩
  · refine wpAny_passesOwn hp (thn (T.done X rfl rfl rfl hc i pins s3 σ3 H3 X.xe I3 (stat fr3) st3 stop) fun r s4 ⟨hr, I4⟩ => ?_)
    subst hr
    exact wpAny_execs_nil ⟨σ3, H3, I4, qn⟩
  · refine wpAny_passesOwn hp (thn (T.item X rfl rfl rfl hc i pins s3 σ3 H3 X.xe I3 (stat fr3) st3 go) fun r s4 ⟨u, hr, h4⟩ => ?_)
    subst hr
    refine wpAny_passesOwn hp (thn h4 fun _ s5 ⟨x, H5, I5, r5, y5, st5, fr5⟩ => ?_)
    have I5' := I5.pinned (stat fr5) (T.obj _ _ st5)
    refine wpAny_passesOwn hp (thn (hg _ s5 σ3 H5 x u _ I5' r5 (step x H5 y5)) fun _ s6 ⟨σ6, H6, I6, q6⟩ => ?_)
    refine wpAny_passesOwn hp (thn (hb _ s6 σ6 H6 _ I6 q6) fun f s7 q7 => ?_)
    have again : ∀ {σ7 : St} {H7 : Hp}, Inv X (pins ++ pinsAt fp s5.heap) σ7 H7 s7 → N σ7 H7 → ∃ m, m < n ∧ ∃ i σ' H', Inv X pins σ' H' s7 ∧ tn i s7.heap ∧ (∀ b ∈ fp, H' b = none) ∧ W i m σ' H' := fun {σ7 H7} I7 n7 => by
      obtain ⟨m', hm, w7⟩ := hN σ7 H7 n7
      refine ⟨m', hm, i + 1, σ7, H7, I7.unpinned, T.keep _ _ _ st5 fun b hb o e => (I7.pin (b, o) (List.mem_append_right _ (List.mem_append_right _ (mem_pinsAt hb e)))).1, fun b hb => ?_, w7⟩
      obtain ⟨o, e, d⟩ := T.obj _ _ st5 b hb
      exact (I7.pin (b, o) (List.mem_append_right _ (List.mem_append_right _ (mem_pinsAt hb e)))).2.1
    cases f with
    | next => obtain ⟨σ7, H7, I7, n7⟩ := q7; exact again I7 n7
    | cont => obtain ⟨σ7, H7, I7, n7⟩ := q7; exact again I7 n7
    | brk => obtain ⟨σ7, H7, I7, q7⟩ := q7; exact ⟨σ7, H7, I7.unpinned, q7⟩
    | ret v => obtain ⟨x7, σ7, H7, I7, r7, q7⟩ := q7; exact ⟨x7, σ7, H7, I7.unpinned, r7, q7⟩
end

/-! ### the forms one uses -/
/-- over a list that the body leaves as it is -/
theorem for_list {K : PySem.W.Frag} {a : Addr} {xs : List V} {g : TG} {tb : TS} {D : Ends} {σ : St} {H : Hp} (Pv : Nat → St → Hp → Prop) (h0 : Pv 0 σ H) (hl : ∀ i σ H, i ≤ xs.length → Pv i σ H → SqL K H a xs)
    (hs : ∀ i x σ H, xs[i]? = some x → Pv i σ H → g x σ H fun σ2 H2 => tb { D with nx := Pv (i + 1), ct := Pv (i + 1), bk := D.nx } σ2 H2) (hd : ∀ σ H, Pv xs.length σ H → D.nx σ H) :
    ∃ W : Nat → Nat → St → Hp → Prop, (∃ m, W 0 m σ H) ∧ ∀ i m σ H, W i m σ H →
      ((Itl K a).stop i H ∧ D.nx σ H) ∨ ((Itl K a).go i H ∧ ∃ N : St → Hp → Prop, (∀ σ' H', N σ' H' → ∃ m', m' < m ∧ W (i + 1) m' σ' H') ∧ ∀ x H', (Itl K a).yld i H x H' → g x σ H' fun σ2 H2 => tb { D with nx := N, ct := N, bk := D.nx } σ2 H2) := by
  refine ⟨fun i m σ H => m = xs.length - i ∧ i ≤ xs.length ∧ Pv i σ H, ⟨xs.length, by simp, Nat.zero_le _, h0⟩, ?_⟩
  rintro i m σ H ⟨rfl, hi, p⟩
  have q := hl i σ H hi p
  by_cases hlt : i < xs.length
  · refine .inr ⟨⟨xs, xs[i], q, by simp [hlt]⟩, Pv (i + 1), fun σ' H' p' => ⟨xs.length - (i + 1), by omega, rfl, hlt, p'⟩, fun x H' y => ?_⟩
    obtain ⟨e, y⟩ := y
    subst e
    exact hs i x σ _ (y xs q) p
  · have e : i = xs.length := by omega
    subst e
    exact .inl ⟨⟨xs, q, Nat.le_refl _⟩, hd σ H p⟩
theorem for_tup {K : PySem.W.Frag} {a : Addr} {xs : List V} {g : TG} {tb : TS} {D : Ends} {σ : St} {H : Hp} (Pv : Nat → St → Hp → Prop) (h0 : Pv 0 σ H) (hl : ∀ i σ H, i ≤ xs.length → Pv i σ H → SqT K H a xs)
    (hs : ∀ i x σ H, xs[i]? = some x → Pv i σ H → g x σ H fun σ2 H2 => tb { D with nx := Pv (i + 1), ct := Pv (i + 1), bk := D.nx } σ2 H2) (hd : ∀ σ H, Pv xs.length σ H → D.nx σ H) :
    ∃ W : Nat → Nat → St → Hp → Prop, (∃ m, W 0 m σ H) ∧ ∀ i m σ H, W i m σ H →
      ((Itt K a).stop i H ∧ D.nx σ H) ∨ ((Itt K a).go i H ∧ ∃ N : St → Hp → Prop, (∀ σ' H', N σ' H' → ∃ m', m' < m ∧ W (i + 1) m' σ' H') ∧ ∀ x H', (Itt K a).yld i H x H' → g x σ H' fun σ2 H2 => tb { D with nx := N, ct := N, bk := D.nx } σ2 H2) := by
  refine ⟨fun i m σ H => m = xs.length - i ∧ i ≤ xs.length ∧ Pv i σ H, ⟨xs.length, by simp, Nat.zero_le _, h0⟩, ?_⟩
  rintro i m σ H ⟨rfl, hi, p⟩
  have q := hl i σ H hi p
  by_cases hlt : i < xs.length
  · refine .inr ⟨⟨xs, xs[i], q, by simp [hlt]⟩, Pv (i + 1), fun σ' H' p' => ⟨xs.length - (i + 1), by omega, rfl, hlt, p'⟩, fun x H' y => ?_⟩
    obtain ⟨e, y⟩ := y
    subst e
    exact hs i x σ _ (y xs q) p
  · have e : i = xs.length := by omega
    subst e
    exact .inl ⟨⟨xs, q, Nat.le_refl _⟩, hd σ H p⟩
theorem for_range {lo : Int} {n : Nat} {g : TG} {tb : TS} {D : Ends} {σ : St} {H : Hp} (Pv : Nat → St → Hp → Prop) (h0 : Pv 0 σ H)
    (hs : ∀ i σ H, i < n → Pv i σ H → g (.int (lo + i)) σ H fun σ2 H2 => tb { D with nx := Pv (i + 1), ct := Pv (i + 1), bk := D.nx } σ2 H2) (hd : ∀ σ H, Pv n σ H → D.nx σ H) :
    ∃ W : Nat → Nat → St → Hp → Prop, (∃ m, W 0 m σ H) ∧ ∀ i m σ H, W i m σ H →
      ((Itr lo n).stop i H ∧ D.nx σ H) ∨ ((Itr lo n).go i H ∧ ∃ N : St → Hp → Prop, (∀ σ' H', N σ' H' → ∃ m', m' < m ∧ W (i + 1) m' σ' H') ∧ ∀ x H', (Itr lo n).yld i H x H' → g x σ H' fun σ2 H2 => tb { D with nx := N, ct := N, bk := D.nx } σ2 H2) := by
  refine ⟨fun i m σ H => m = n - i ∧ i ≤ n ∧ Pv i σ H, ⟨n, by simp, Nat.zero_le _, h0⟩, ?_⟩
  rintro i m σ H ⟨rfl, hi, p⟩
  by_cases hlt : i < n
  · refine .inr ⟨hlt, Pv (i + 1), fun σ' H' p' => ⟨n - (i + 1), by omega, rfl, hlt, p'⟩, fun x H' y => ?_⟩
    obtain ⟨e, y⟩ := y
    subst e y
    exact hs i σ _ hlt p
  · have e : i = n := by omega
    subst e
    exact .inl ⟨Nat.le_refl _, hd σ H p⟩
end L2

namespace L2
open PySem PySem.Spec PyProof.Rows

abbrev R2 := V → V → Hp → VK → Prop
/-- a two-place operation on values: f is binaryOp op, inplaceOp op or compareOp op -/
def OpR (X : Cx) (f : Value → Value → Sem Value) (r : R2) : Prop :=
  ∀ (pins : List (Addr × Obj)) (s : Shared) (σ : St) (H : Hp) (x y : V) (v u : Value) (Q : VK), Inv X pins σ H s → RelV x v → RelV y u → r x y H Q →
    wpAny (model X.prog X.w) X.A (f v u) (EP X pins σ Q) X.xe s
/-- a one-place operation -/
def UnR (X : Cx) (f : Value → Sem Value) (r : V → Hp → VK → Prop) : Prop :=
  ∀ (pins : List (Addr × Obj)) (s : Shared) (σ : St) (H : Hp) (x : V) (v : Value) (Q : VK), Inv X pins σ H s → RelV x v → r x H Q →
    wpAny (model X.prog X.w) X.A (f v) (EP X pins σ Q) X.xe s
/-- a call of a value that is known (a builtin, a type) with values -/
def CallR (X : Cx) (f : Value) (r : List V → Hp → VK → Prop) : Prop :=
  ∀ (pins : List (Addr × Obj)) (s : Shared) (σ : St) (H : Hp) (xs : List V) (us : List Value) (Q : VK), Inv X pins σ H s → Vals xs us → r xs H Q →
    wpAny (model X.prog X.w) X.A (call f us) (EP X pins σ Q) X.xe s
/-- a value's truth -/
def TruR (X : Cx) (r : V → Hp → (Bool → Hp → Prop) → Prop) : Prop :=
  ∀ (pins : List (Addr × Obj)) (s : Shared) (σ : St) (H : Hp) (x : V) (v : Value) (Q : Bool → Hp → Prop), Inv X pins σ H s → RelV x v → r x H Q →
    wpAny (model X.prog X.w) X.A (truthy v) (TP X pins σ Q) X.xe s

def tOp (r : R2) (ta tb : TE) : TE := fun σ H Q => ta σ H fun x H1 => tb σ H1 fun y H2 => r x y H2 Q
def tUn (r : V → Hp → VK → Prop) (ta : TE) : TE := fun σ H Q => ta σ H fun x H1 => r x H1 Q
/-- ints in, under C, and a value out -/
def rI (C : Int → Int → Prop) (g : Int → Int → V) : R2 := fun x y H Q => ∃ i j, x = .int i ∧ y = .int j ∧ C i j ∧ Q (g i j) H
def rI0 (g : Int → Int → V) : R2 := fun x y H Q => ∃ i j, x = .int i ∧ y = .int j ∧ Q (g i j) H
def rU (g : Int → V) : V → Hp → VK → Prop := fun x H Q => ∃ i, x = .int i ∧ Q (g i) H

section
variable {X : Cx} {a b c : Expr} {ta tb tc : TE} {pos : Pos}

theorem binT (ha : PE X a ta) (hb : PE X b tb) {pins : List (Addr × Obj)} {s : Shared} {σ : St} {H : Hp} {R : V → V → Hp → Prop} (I : Inv X pins σ H s)
    (h : ta σ H fun x H1 => tb σ H1 fun y H2 => R x y H2) {Q : Value → Shared → Prop} {f : Value → Value → Sem Value}
    (hf : ∀ v u s2 x y H2, Inv X pins σ H2 s2 → RelV x v → RelV y u → R x y H2 → wpAny (model X.prog X.w) X.A (f v u) Q X.xe s2) :
    wpAny (model X.prog X.w) X.A (eval a X.env) (fun v s₁ => wpAny (model X.prog X.w) X.A (eval b X.env) (fun u s₂ => wpAny (model X.prog X.w) X.A (f v u) Q X.xe s₂) X.xe s₁) X.xe s := by
  refine thn (ha pins s σ H _ I h) fun v s1 ⟨x, H1, I1, r1, q1⟩ => ?_
  refine thn (hb pins s1 σ H1 _ I1 q1) fun u s2 ⟨y, H2, I2, r2, q2⟩ => ?_
  exact hf v u s2 x y H2 I2 r1 r2 q2

theorem pe_op {op : Operator} {r : R2} (ho : OpR X (binaryOp op) r) (ha : PE X a ta) (hb : PE X b tb) : PE X (.BinOp a op b pos) (tOp r ta tb) := by
  intro pins s σ H Q I h
  exact wpAny_BinOp (binT ha hb I h fun v u s2 x y H2 I2 rx ry q => ho pins s2 σ H2 x y v u Q I2 rx ry q)
theorem pe_un {op : UnaryOp} {r : V → Hp → VK → Prop} (ho : UnR X (unaryOp op) r) (ha : PE X a ta) : PE X (.UnaryOp op a pos) (tUn r ta) := by
  intro pins s σ H Q I h
  exact UnaryOp_ (thn (ha pins s σ H _ I h) fun v s1 ⟨x, H1, I1, r1, q1⟩ => ho pins s1 σ H1 x v Q I1 r1 q1)

/-! ### ints -/
theorem opI {f : Value → Value → Sem Value} {C : Int → Int → Prop} {g : Int → Int → Int}
    (rule : ∀ (i j : Int) (t u : Tok) (s : Shared) (Q : Value → Shared → Prop) (E : Value → Shared → Prop), C i j → Q (.int (g i j) s.toks) { s with toks := s.toks + 1 } → wpAny (model X.prog X.w) X.A (f (.int i t) (.int j u)) Q E s) :
    OpR X f (rI C fun i j => .int (g i j)) := by
  intro pins s σ H x y v u Q I rx ry h
  obtain ⟨i, j, rfl, rfl, hc, q⟩ := h
  obtain ⟨t, rfl⟩ := rx
  obtain ⟨t', rfl⟩ := ry
  exact rule i j t t' s _ _ hc ⟨.int (g i j), H, I.tok _, ⟨_, rfl⟩, q⟩
theorem opI0 {f : Value → Value → Sem Value} {g : Int → Int → Int}
    (rule : ∀ (i j : Int) (t u : Tok) (s : Shared) (Q : Value → Shared → Prop) (E : Value → Shared → Prop), Q (.int (g i j) s.toks) { s with toks := s.toks + 1 } → wpAny (model X.prog X.w) X.A (f (.int i t) (.int j u)) Q E s) :
    OpR X f (rI0 fun i j => .int (g i j)) := by
  intro pins s σ H x y v u Q I rx ry h
  obtain ⟨i, j, rfl, rfl, q⟩ := h
  obtain ⟨t, rfl⟩ := rx
  obtain ⟨t', rfl⟩ := ry
  exact rule i j t t' s _ _ ⟨.int (g i j), H, I.tok _, ⟨_, rfl⟩, q⟩
theorem opB0 {f : Value → Value → Sem Value} {g : Int → Int → Bool}
    (rule : ∀ (i j : Int) (t u : Tok) (s : Shared) (Q : Value → Shared → Prop) (E : Value → Shared → Prop), Q (.bool (g i j)) s → wpAny (model X.prog X.w) X.A (f (.int i t) (.int j u)) Q E s) :
    OpR X f (rI0 fun i j => .bl (g i j)) := by
  intro pins s σ H x y v u Q I rx ry h
  obtain ⟨i, j, rfl, rfl, q⟩ := h
  obtain ⟨t, rfl⟩ := rx
  obtain ⟨t', rfl⟩ := ry
  exact rule i j t t' s _ _ ⟨.bl (g i j), H, I, rfl, q⟩

def CPow (i j : Int) : Prop := 0 ≤ j ∧ j ≤ 1000000 ∧ i.natAbs < 2 ^ 64
def CMul (i j : Int) : Prop := (-(2 ^ 64) < i ∧ i < 2 ^ 64) ∨ (-(2 ^ 64) < j ∧ j < 2 ^ 64)
theorem CMul.ok {i j : Int} (h : CMul i j) : IntMulOk i j := by
  rcases h with ⟨h1, h2⟩ | ⟨h1, h2⟩
  · exact .of_left (intBits_le_64 h1 h2)
  · exact .of_right (intBits_le_64 h1 h2)

theorem op_add : OpR X (binaryOp .Add) (rI0 fun i j => .int (i + j)) := opI0 fun _ _ _ _ _ _ _ q => add_int q
theorem op_sub : OpR X (binaryOp .Sub) (rI0 fun i j => .int (i - j)) := opI0 fun _ _ _ _ _ _ _ q => sub_int q
/-- % by a positive divisor of any size -/
theorem op_mod : OpR X (binaryOp .Mod) (rI (fun _ j => 0 < j) fun i j => .int (i % j)) := opI fun i j _ _ _ _ _ hc q => by
  have h1 : (0 : Int) < j := hc
  exact mod_int' (by omega) (by rw [Int.fmod_eq_emod_of_nonneg i (by omega)]; exact q)
theorem op_pow : OpR X (binaryOp .Pow) (rI CPow fun i j => .int (i ^ j.toNat)) := opI fun _ _ _ _ _ _ _ hc q => pow_int_small hc.1 hc.2.1 hc.2.2 q


theorem unI {f : Value → Sem Value} {g : Int → Int}
    (rule : ∀ (i : Int) (t : Tok) (s : Shared) (Q : Value → Shared → Prop) (E : Value → Shared → Prop), Q (.int (g i) s.toks) { s with toks := s.toks + 1 } → wpAny (model X.prog X.w) X.A (f (.int i t)) Q E s) :
    UnR X f (rU fun i => .int (g i)) := by
  intro pins s σ H x v Q I rx h
  obtain ⟨i, rfl, q⟩ := h
  obtain ⟨t, rfl⟩ := rx
  exact rule i t s _ _ ⟨.int (g i), H, I.tok _, ⟨_, rfl⟩, q⟩
theorem un_neg : UnR X (unaryOp .USub) (rU fun i => .int (-i)) := unI fun _ _ _ _ _ q => neg_int q

/-! ### bools among ints: n += (a < b) -/
end

/-! ### comparisons -/
/-- the scalars that == tells apart as data does -/
def scal : V → V → Bool
  | .non, .non => true | .non, .int _ => true | .int _, .non => true | .non, .bl _ => true | .bl _, .non => true | .non, .str _ => true | .str _, .non => true
  | .int _, .int _ => true | .bl _, .bl _ => true | .str _, .str _ => true | .byt _, .byt _ => true
  | .int _, .str _ => true | .str _, .int _ => true | .bl _, .str _ => true | .str _, .bl _ => true
  | _, _ => false
def rEq : R2 := fun x y H Q => scal x y = true ∧ Q (.bl (decide (x = y))) H
def rNe : R2 := fun x y H Q => scal x y = true ∧ Q (.bl (!decide (x = y))) H

theorem dec_int {i j : Int} : decide (V.int i = V.int j) = (i == j) := by
  rw [Bool.eq_iff_iff]
  simp
theorem dec_bl {i j : Bool} : decide (V.bl i = V.bl j) = (i == j) := by
  rw [Bool.eq_iff_iff]
  simp
theorem dec_str {i j : Str} : decide (V.str i = V.str j) = (i == j) := by
  rw [Bool.eq_iff_iff]
  simp
theorem dec_byt {i j : Array UInt8} : decide (V.byt i = V.byt j) = (i.toList == j.toList) := by
  rw [Bool.eq_iff_iff]
  cases i
  cases j
  simp

section
variable {X : Cx} {a b c : Expr} {ta tb tc : TE} {pos : Pos}
theorem fin_bl {pins : List (Addr × Obj)} {σ : St} {H : Hp} {s : Shared} {Q : VK} {k k' : Bool} (I : Inv X pins σ H s) (q : Q (.bl k) H) (e : k = k') : EP X pins σ Q (.bool k') s := by
  subst e
  exact ⟨.bl k, H, I, rfl, q⟩
theorem op_eq : OpR X (compareOp .Eq) rEq := by
  intro pins s σ H x y v u Q I rx ry h
  obtain ⟨hs, q⟩ := h
  cases x with
  | non =>
    cases rx
    cases y with
    | non => cases ry; exact PySem.EqNone.eq_none_none (fin_bl I q (by simp))
    | bl j => cases ry; exact PySem.EqNone.eq_none_bool (fin_bl I q (by simp))
    | int j => obtain ⟨t', rfl⟩ := ry; exact PySem.EqNone.eq_none_int (fin_bl I q (by simp))
    | str j => obtain ⟨t', rfl⟩ := ry; exact PySem.EqNone.eq_none_str (fin_bl I q (by simp))
    | _ => exact absurd (show false = true from hs) Bool.false_ne_true
  | bl i =>
    cases rx
    cases y with
    | non => cases ry; exact PySem.EqNone.eq_bool_none (fin_bl I q (by simp))
    | bl j => cases ry; exact eq_bool (fin_bl I q dec_bl)
    | str j => obtain ⟨t', rfl⟩ := ry; exact PySem.EqMixed.eq_bool_str (fin_bl I q (by simp))
    | _ => exact absurd (show false = true from hs) Bool.false_ne_true
  | int i =>
    obtain ⟨t, rfl⟩ := rx
    cases y with
    | non => cases ry; exact PySem.EqNone.eq_int_none (fin_bl I q (by simp))
    | int j => obtain ⟨t', rfl⟩ := ry; exact eq_int (fin_bl I q dec_int)
    | str j => obtain ⟨t', rfl⟩ := ry; exact PySem.EqMixed.eq_int_str (fin_bl I q (by simp))
    | _ => exact absurd (show false = true from hs) Bool.false_ne_true
  | str i =>
    obtain ⟨t, rfl⟩ := rx
    cases y with
    | non => cases ry; exact PySem.EqNone.eq_str_none (fin_bl I q (by simp))
    | bl j => cases ry; exact PySem.EqMixed.eq_str_bool (fin_bl I q (by simp))
    | int j => obtain ⟨t', rfl⟩ := ry; exact PySem.EqMixed.eq_str_int (fin_bl I q (by simp))
    | str j => obtain ⟨t', rfl⟩ := ry; exact eq_str (fin_bl I q dec_str)
    | _ => exact absurd (show false = true from hs) Bool.false_ne_true
  | byt i =>
    obtain ⟨t, rfl⟩ := rx
    cases y with
    | byt j => obtain ⟨t', rfl⟩ := ry; exact PySem.W.eq_bytes (fin_bl I q dec_byt)
    | _ => exact absurd (show false = true from hs) Bool.false_ne_true
  | _ => cases y <;> exact absurd (show false = true from hs) Bool.false_ne_true
theorem op_ne : OpR X (compareOp .NotEq) rNe := by
  intro pins s σ H x y v u Q I rx ry h
  obtain ⟨hs, q⟩ := h
  cases x with
  | non =>
    cases rx
    cases y with
    | non => cases ry; exact PySem.EqNone.ne_none_none (fin_bl I q (by simp))
    | bl j => cases ry; exact PySem.EqNone.ne_none_bool (fin_bl I q (by simp))
    | int j => obtain ⟨t', rfl⟩ := ry; exact PySem.EqNone.ne_none_int (fin_bl I q (by simp))
    | str j => obtain ⟨t', rfl⟩ := ry; exact PySem.EqNone.ne_none_str (fin_bl I q (by simp))
    | _ => exact absurd (show false = true from hs) Bool.false_ne_true
  | bl i =>
    cases rx
    cases y with
    | non => cases ry; exact PySem.EqNone.ne_bool_none (fin_bl I q (by simp))
    | bl j => cases ry; exact ne_bool (fin_bl I q (congrArg not dec_bl))
    | str j => obtain ⟨t', rfl⟩ := ry; exact PySem.EqMixed.ne_bool_str (fin_bl I q (by simp))
    | _ => exact absurd (show false = true from hs) Bool.false_ne_true
  | int i =>
    obtain ⟨t, rfl⟩ := rx
    cases y with
    | non => cases ry; exact PySem.EqNone.ne_int_none (fin_bl I q (by simp))
    | int j => obtain ⟨t', rfl⟩ := ry; exact ne_int (fin_bl I q (congrArg not dec_int))
    | str j => obtain ⟨t', rfl⟩ := ry; exact PySem.EqMixed.ne_int_str (fin_bl I q (by simp))
    | _ => exact absurd (show false = true from hs) Bool.false_ne_true
  | str i =>
    obtain ⟨t, rfl⟩ := rx
    cases y with
    | non => cases ry; exact PySem.EqNone.ne_str_none (fin_bl I q (by simp))
    | bl j => cases ry; exact PySem.EqMixed.ne_str_bool (fin_bl I q (by simp))
    | int j => obtain ⟨t', rfl⟩ := ry; exact PySem.EqMixed.ne_str_int (fin_bl I q (by simp))
    | str j => obtain ⟨t', rfl⟩ := ry; exact ne_str (fin_bl I q (congrArg not dec_str))
    | _ => exact absurd (show false = true from hs) Bool.false_ne_true
  | byt i =>
    obtain ⟨t, rfl⟩ := rx
    cases y with
    | byt j => obtain ⟨t', rfl⟩ := ry; exact PySem.W.ne_bytes (fin_bl I q (congrArg not dec_byt))
    | _ => exact absurd (show false = true from hs) Bool.false_ne_true
  | _ => cases y <;> exact absurd (show false = true from hs) Bool.false_ne_true

theorem op_lt : OpR X (compareOp .Lt) (rI0 fun i j => .bl (decide (i < j))) := opB0 fun _ _ _ _ _ _ _ q => lt_int q
theorem op_gt : OpR X (compareOp .Gt) (rI0 fun i j => .bl (decide (j < i))) := opB0 fun _ _ _ _ _ _ _ q => gt_int q
theorem op_ge : OpR X (compareOp .GtE) (rI0 fun i j => .bl (decide (j ≤ i))) := opB0 fun _ _ _ _ _ _ _ q => ge_int q
/-- the one string within the other -/
theorem op_in_str : OpR X (compareOp .In) (fun x y H Q => ∃ i j, x = .str i ∧ y = .str j ∧ Q (.bl (!(Builtin.Str.occurrences j i 0 j.length 1).isEmpty)) H) := by
  intro pins s σ H x y v u Q I rx ry h
  obtain ⟨i, j, rfl, rfl, q⟩ := h
  obtain ⟨t, rfl⟩ := rx
  obtain ⟨t', rfl⟩ := ry
  exact in_str (fin_bl I q rfl)

/-- is None, is not None: the right side a value none -/
theorem op_isN : OpR X (compareOp .Is) (fun x y H Q => y = .non ∧ Q (.bl (decide (x = .non))) H) := by
  intro pins s σ H x y v u Q I rx ry h
  obtain ⟨rfl, q⟩ := h
  cases ry
  refine is_none_gen (fin_bl I q ?_)
  cases x <;> first
    | (cases rx; rfl)
    | (obtain ⟨t, rfl⟩ := rx; rfl)
theorem op_notN : OpR X (compareOp .IsNot) (fun x y H Q => y = .non ∧ Q (.bl (!decide (x = .non))) H) := by
  intro pins s σ H x y v u Q I rx ry h
  obtain ⟨rfl, q⟩ := h
  cases ry
  refine isnot_none_gen (fin_bl I q ?_)
  cases x <;> first
    | (cases rx; rfl)
    | (obtain ⟨t, rfl⟩ := rx; rfl)



theorem nomark (b : Expr) {op : CmpOp} (h : op ≠ .In := by decide) (h2 : op ≠ .NotIn := by decide) : behindInMarks op b = false := by
  have e1 : (op == CmpOp.In) = false := by cases op <;> first | rfl | exact absurd rfl h
  have e2 : (op == CmpOp.NotIn) = false := by cases op <;> first | rfl | exact absurd rfl h2
  cases b with
  | Set elts k pos => show (k == 0 && (op == CmpOp.In || op == CmpOp.NotIn) && _) = false; rw [e1, e2, Bool.or_false, Bool.and_false, Bool.false_and]
  | _ => rfl
/-- a comparison as a value; hm: nomark b, or (for in, not in) by with_unfolding_all rfl -/
theorem pe_cmpR {op : CmpOp} {r : R2} (ho : OpR X (compareOp op) r) (ha : PE X a ta) (hb : PE X b tb) (hm : behindInMarks op b = false) : PE X (.Compare a [op] [b] pos) (tOp r ta tb) := by
  intro pins s σ H Q I h
  exact wpAny_Compare1 (binT ha hb I h fun v u s2 x y H2 I2 rx ry q => ho pins s2 σ H2 x y v u Q I2 rx ry q) hm
/-- a reading of a value as a test -/
def tTest (t : TE) : TT := fun σ H Q => t σ H fun x H' => ∃ k, x = .bl k ∧ Q k H'
theorem pt_cmpR {op : CmpOp} {r : R2} (ho : OpR X (compareOp op) r) (ha : PE X a ta) (hb : PE X b tb) (hm : behindInMarks op b = false) : PT X (.Compare a [op] [b] pos) (tTest (tOp r ta tb)) := by
  intro pins s σ H Q I h
  refine wpAny_isTrue_Compare1 (thn (ha pins s σ H _ I h) fun v s1 ⟨x, H1, I1, r1, q1⟩ => thn (hb pins s1 σ H1 _ I1 q1) fun u s2 ⟨y, H2, I2, r2, q2⟩ =>
    thn (ho pins s2 σ H2 x y v u _ I2 r1 r2 q2) fun c s3 ⟨z, H3, I3, r3, k, e, q3⟩ => ?_) hm
  subst e
  cases r3
  exact wpAny_truthy_bool ⟨H3, I3, q3⟩

/-! ### truth -/
/-- a value's truth by the abstract heap -/
def TruV (K : PySem.W.Frag) (x : V) (H : Hp) (k : Bool) : Prop :=
  match x with
  | .non => k = false
  | .bl b => k = b
  | .int i => k = (i != 0)
  | .str y => y.length ≤ sizeLine ∧ k = ((y.length : Int) != 0)
  | .byt y => y.size ≤ sizeLine ∧ k = ((y.size : Int) != 0)
  | .ref p => (∃ xs, SqL K H p xs ∧ k = !xs.isEmpty) ∨ (∃ xs, SqT K H p xs ∧ k = !xs.isEmpty) ∨ ∃ kvs, H p = some (.dK kvs) ∧ k = !kvs.isEmpty
  | _ => False
theorem isEmpty_kv {κ : Type} {kvs : List (κ × V)} {vs : List (κ × Value)} (r : KV kvs vs) : (!vs.isEmpty) = !kvs.isEmpty := by
  cases r <;> rfl
theorem isEmpty_of {xs : List V} {its : List Value} (r : Vals xs its) : (!its.toArray.isEmpty) = !xs.isEmpty := by
  cases r <;> simp
theorem line63 : (sizeLine : Nat) < 2 ^ 63 := by rw [sizeLine_eq]; decide
theorem tru_ok : TruR X (fun x H Q => ∃ k, TruV X.K x H k ∧ Q k H) := by
  intro pins s σ H x v Q I rx h
  obtain ⟨k, e, q⟩ := h
  have hl := line63
  have hs : sizeLine = 16777216 := sizeLine_eq
  cases x with
  | non =>
    cases rx
    have e' : k = false := e
    subst e'
    exact truthy_none ⟨H, I, q⟩
  | bl b =>
    cases rx
    have e' : k = b := e
    subst e'
    exact wpAny_truthy_bool ⟨H, I, q⟩
  | int i =>
    obtain ⟨t, rfl⟩ := rx
    have e' : k = (i != 0) := e
    subst e'
    exact PySem.P.truthy_int ⟨H, I, q⟩
  | str y =>
    obtain ⟨t, rfl⟩ := rx
    obtain ⟨hy, e'⟩ : y.length ≤ sizeLine ∧ k = ((y.length : Int) != 0) := e
    subst e'
    exact PySem.P.truthy_str (by omega) ⟨H, I.tok _, q⟩
  | byt y =>
    obtain ⟨t, rfl⟩ := rx
    obtain ⟨hy, e'⟩ : y.size ≤ sizeLine ∧ k = ((y.size : Int) != 0) := e
    subst e'
    exact PySem.W.truthy_bytes (by omega) ⟨H, I.tok _, q⟩
  | ref p =>
    cases rx
    have e' : (∃ xs, SqL X.K H p xs ∧ k = !xs.isEmpty) ∨ (∃ xs, SqT X.K H p xs ∧ k = !xs.isEmpty) ∨ ∃ kvs, H p = some (.dK kvs) ∧ k = !kvs.isEmpty := e
    rcases e' with ⟨xs, hx, e'⟩ | ⟨xs, hx, e'⟩ | ⟨kvs, hx, e'⟩
    · subst e'
      obtain ⟨its, r, pl, hz⟩ := I.list hx
      have hlen := r.length
      exact wpAny_truthy_list pl.isList (by simp only [List.size_toArray]; omega) ⟨H, I.tok _, by rw [isEmpty_of r]; exact q⟩
    · subst e'
      obtain ⟨its, r, pl, hz⟩ := I.tuple hx
      have hlen := r.length
      exact truthy_tuple pl (by simp only [List.size_toArray]; omega) ⟨H, I.tok _, by rw [isEmpty_of r]; exact q⟩
    · subst e'
      obtain ⟨hz, hS, vs, r, m⟩ : kvs.length ≤ sizeLine ∧ (p == sysModules) = false ∧ ∃ vs, KV kvs vs ∧ s.heap.DictOf (mixKind X.prog X.w) p vs := I.hok p _ hx
      have hlen : kvs.length = vs.length := Paired.length r
      exact wpAny_truthy_dict hS m (by omega) ⟨H, I.tok _, by rw [isEmpty_kv r]; exact q⟩
  | _ => exact (show False from e).elim
/-- any expression whose test is its value's truth (a name, a call, a subscript, a field ..: he by fun _ => rfl) -/
theorem pt_truth (ha : PE X a ta) (he : ∀ whole, isTrue a X.env whole = (do let v ← whole; standAt a.pos; holding [v] (truthy v))) :
    PT X a (fun σ H Q => ta σ H fun x H' => ∃ k, TruV X.K x H' k ∧ Q k H') := by
  intro pins s σ H Q I h
  exact isTrue_plain (thn (ha pins s σ H _ I h) fun v s1 ⟨x, H1, I1, r1, q1⟩ => tru_ok pins s1 σ H1 x v Q I1 r1 q1) (he _)

/-! ### strs and bytes -/
theorem op_add_str : OpR X (binaryOp .Add) (fun x y H Q => ∃ i j, x = .str i ∧ y = .str j ∧ i.length + j.length ≤ sizeLine ∧ Q (.str (i ++ j)) H) := by
  intro pins s σ H x y v u Q I rx ry h
  obtain ⟨i, j, rfl, rfl, hz, q⟩ := h
  obtain ⟨t, rfl⟩ := rx
  obtain ⟨t', rfl⟩ := ry
  exact add_str (fun t' tk => ⟨.str (i ++ j), H, I.tok _, ⟨_, rfl⟩, q⟩) hz


/-! ### scalar builtins, by CallR -/
theorem vals1 {x : V} {us : List Value} (r : Vals [x] us) : ∃ u, us = [u] ∧ RelV x u := by
  cases r with
  | cons r1 r2 => cases r2; exact ⟨_, rfl, r1⟩
theorem vals2 {x y : V} {us : List Value} (r : Vals [x, y] us) : ∃ u w', us = [u, w'] ∧ RelV x u ∧ RelV y w' := by
  cases r with
  | cons r1 r2 =>
    cases r2 with
    | cons r3 r4 => cases r4; exact ⟨_, _, rfl, r1, r3⟩
theorem call_int1 : CallR X (.type "int") (fun xs H Q => (∃ i, xs = [.int i] ∧ Q (.int i) H) ∨ ∃ k, xs = [.bl k] ∧ Q (.int (if k then 1 else 0)) H) := by
  intro pins s σ H xs us Q I r h
  rcases h with ⟨i, rfl, q⟩ | ⟨k, rfl, q⟩
  · obtain ⟨u, rfl, t, rfl⟩ := vals1 r
    exact call_int_int ⟨.int i, H, I, ⟨_, rfl⟩, q⟩
  · obtain ⟨u, rfl, r1⟩ := vals1 r
    cases r1
    exact call_int_bool ⟨.int (if k then 1 else 0), H, I.tok _, ⟨_, rfl⟩, q⟩
theorem call_str_int : CallR X (.type "str") (fun xs H Q => ∃ i, xs = [.int i] ∧ i.natAbs.log2 < 1920 ∧ Q (.str (toString i)) H) := by
  intro pins s σ H xs us Q I r h
  obtain ⟨i, rfl, hz, q⟩ := h
  obtain ⟨u, rfl, t, rfl⟩ := vals1 r
  exact PySem.P.str_of_int hz ⟨.str _, H, I.tok _, ⟨_, rfl⟩, q⟩
end
end L2

namespace L2
open PySem PySem.Spec PyProof.Rows

/-! ### an instance, its attributes a map -/



section
variable {prog : Program} {w : World} {A : Around} {E : Value → Shared → Prop} {s : Shared} {K : PySem.W.Frag} {x dx C f : Addr} {mA : Str → Option Value} {name : Str} {v : Value}





end

/-! ### the attributes as a list of pairs -/


section
variable {P : Program} {w : World} {H H' : Hp} {h h' : Heap} {a C dx : Addr} {fs fs' : List (Str × V)}
end

/-! ### what of the text a class must have -/

section
variable {X : Cx} {pins : List (Addr × Obj)} {σ : St} {H : Hp} {s : Shared} {a C dx : Addr} {fs : List (Str × V)} {f : Str} {v : V} {A : Around} {E : Value → Shared → Prop}






end

/-! ### readings and rules -/

section
variable {X : Cx} {o e value : Expr} {f : Str} {pos pos' tpos : Pos} {ta tv : TE}

end

/-! ### isinstance -/
section
variable {X : Cx} {pins : List (Addr × Obj)} {σ : St} {H : Hp} {s : Shared} {A : Around} {E : Value → Shared → Prop} {Q : Value → Shared → Prop} {c : Value} {b : Bool}
end
end L2

namespace L2
open PySem PySem.Spec PyProof.Rows

/-! ### room -/
structure Room (k : Nat) (A : Around) : Prop where
  hd : A.handled = none
  dp : A.depth + 3 * k + 5 < recursionLimit
  un : A.units + 16 * k + 200 < cLine
theorem Room.mono {j k : Nat} {A : Around} (r : Room k A) (h : j ≤ k) : Room j A := ⟨r.hd, by have := r.dp; omega, by have := r.un; omega⟩
theorem Room.deeper {k : Nat} {A : Around} (r : Room (k + 1) A) (env : Env) : Room k (A.deeper env) :=
  ⟨r.hd, by have := r.dp; show A.depth + 1 + 3 * k + 5 < _; omega, by have := r.un; show A.units + 3 + 16 * k + 200 < _; omega⟩
theorem Room.depth {k : Nat} {A : Around} (r : Room k A) : A.depth < recursionLimit := by have := r.dp; omega
theorem Room.units {k : Nat} {A : Around} (r : Room k A) : A.units + 64 < cLine := by have := r.un; omega

/-! ### argument lists and displays -/
def tNil : TA := fun _ H Q => Q [] H
def tCons (ta : TE) (tr : TA) : TA := fun σ H Q => ta σ H fun x H1 => tr σ H1 fun xs H2 => Q (x :: xs) H2
section
variable {X : Cx} {e : Expr} {es : List Expr} {te : TE} {t : TA} {pos : Pos}
theorem pa_nil : PA X [] tNil := fun _ _ _ _ H Q I h => Calls.spliced_nil ⟨[], H, I, .nil, h⟩
theorem pa_cons (ha : PE X e te) (hr : PA X es t) (hs : starEach (e :: es) X.env = (false, eval e X.env) :: starEach es X.env := by rfl) : PA X (e :: es) (tCons te t) := by
  intro pos pins s σ H Q I h
  rw [hs]
  show wpAny _ _ (spliced ((false, eval e X.env) :: backTo pos (starEach es X.env))) _ _ s
  refine Calls.spliced_cons (thn (ha pins s σ H _ I h) fun u s1 ⟨x, H1, I1, r1, q1⟩ => ?_)
  exact thn (hr pos pins s1 σ H1 _ I1 q1) fun us s2 ⟨xs, H2, I2, r2, q2⟩ => ⟨x :: xs, H2, I2, .cons r1 r2, q2⟩

/-- a tuple, a list of written items -/
def tTup (t : TA) : TE := fun σ H Q => t σ H fun xs H1 => xs.length ≤ sizeLine ∧ ∀ p, H1 p = none → Q (.ref p) (upd H1 p (.tup xs))
def tLst (t : TA) : TE := fun σ H Q => t σ H fun xs H1 => xs.length ≤ sizeLine ∧ ∀ p, H1 p = none → Q (.ref p) (upd H1 p (.lst xs))
theorem pe_tup {x1} (h : PA X es t) : PE X (.Tuple es x1 pos) (tTup t) := by
  intro pins s σ H Q I hq
  refine wpAny_Tuple_spliced (thn (h pos pins s σ H _ I hq) fun us s1 ⟨xs, H1, I1, r, z, q⟩ => ⟨by rw [← r.length]; exact z, ?_⟩)
  have hf : H1 s1.heap.objs.size = none := I1.hok.fresh (Nat.le_refl _)
  refine ⟨.ref s1.heap.objs.size, upd H1 s1.heap.objs.size (.tup xs), I1.laid (t' := s1.toks) (fun b u e => Heap.get?_push_of_some _ e) (Nat.le_refl _) ?_, rfl, q _ hf⟩
  exact ⟨z, us, r, ⟨_, Heap.get?_push_size _ rfl, rfl, _, rfl⟩⟩
theorem pe_lst (h : PA X es t) : PE X (.List es pos) (tLst t) := by
  intro pins s σ H Q I hq
  refine wpAny_List_spliced (thn (h pos pins s σ H _ I hq) fun us s1 ⟨xs, H1, I1, r, z, q⟩ => ⟨by rw [← r.length]; exact z, ?_⟩)
  have hf : H1 s1.heap.objs.size = none := I1.hok.fresh (Nat.le_refl _)
  refine ⟨.ref s1.heap.objs.size, upd H1 s1.heap.objs.size (.lst xs), I1.laid (t' := s1.toks) (fun b u e => Heap.get?_push_of_some _ e) (Nat.le_refl _) ?_, rfl, q _ hf⟩
  exact ⟨z, us, 0, r, Heap.get?_push_size _ rfl⟩
end

/-! ### what a def promises -/
/-- a def's promise: the bound arguments in the parameters' order, the heap, the wanted end, the wanted exception -/
abbrev Sp := List V → Hp → VK → XK → Prop
/-- how an exception lies behind a call (file 08 gives it): the callers' frames, abstract heap and state ahead of the call, the wish, the exception, the state -/
abbrev CXT := List Env → Hp → Shared → XK → Value → Shared → Prop

/-- the state at a call -/
structure Env0 (P : Program) (w : World) (K : PySem.W.Frag) (mg : Str → Option Value) (base : Heap) (A : Around) (outer : List Env) (s : Shared) (H : Hp) : Prop where
  frames : A.frames = some outer
  mod : Mod K mg base
  bs : ∀ b o, base.get? b = some o → s.heap.get? b = some o ∧ H b = none
  bsz : base.objs.size ≤ s.heap.objs.size
  funs : s.heap.FunFrames base outer
  frf : ∀ b ∈ frs outer, H b = none
  hok : HOk P w H s.heap
  bare : AllBare s.gens
/-- a call's end -/
def CE (outer : List Env) (P : Program) (w : World) (H : Hp) (s : Shared) (Q : VK) (u : Value) (s' : Shared) : Prop :=
  ∃ v H', s'.os = s.os ∧ AllBare s'.gens ∧ Un (frs outer) [] H H' s.heap s'.heap ∧ HOk P w H' s'.heap ∧ RelV v u ∧ Q v H'
def CR (CX : CXT) (outer : List Env) (P : Program) (w : World) (H : Hp) (s : Shared) (Q : VK) (E : XK) (r : Result) (s' : Shared) : Prop :=
  match r with
  | .ok (.ret u) => CE outer P w H s Q u s'
  | .ok _ => False
  | .error e => CX outer H s E e s'
structure FnOk (P : Program) (w : World) (K : PySem.W.Frag) (mg : Str → Option Value) (base : Heap) (CX : CXT) (k : Nat) (f : Addr) (fd : FuncData) (ps : List Str) (sp : Sp) : Prop where
  len : ∀ vs H Q E, sp vs H Q E → vs.length = ps.length
  run : ∀ (A : Around) (outer : List Env) (s : Shared) (H : Hp) (args : Args) (us : List Value) (vs : List V) (Q : VK) (E : XK), Room k A → Env0 P w K mg base A outer s H → BindsTo s fd args (ps.zip us) → Vals vs us → sp vs H Q E →
    codeAny (model P w) A (.call (.ref f) args) (CR CX outer P w H s Q E) s


section
variable {X : Cx} {pins : List (Addr × Obj)} {σ : St} {H : Hp} {s s' : Shared}
/-- from a body: what a callee wants -/
theorem Inv.env0 (I : Inv X pins σ H s) : Env0 X.prog X.w X.K X.mg X.base X.A X.stack s H :=
  ⟨I.ok.frames, I.ok.mod, I.bs, Nat.le_trans I.ok.bsz I.sz, I.stack, I.stkFree, I.hok, I.bare⟩
/-- behind a call -/
theorem Inv.after {Q : VK} {u : Value} (I : Inv X pins σ H s) (h : CE X.stack X.prog X.w H s Q u s') : EP X pins σ Q u s' := by
  obtain ⟨v, H', os, bare, un, hok, r, q⟩ := h
  obtain ⟨hh, g, d, t, os'⟩ := s'
  obtain rfl : os' = s.os := os
  exact ⟨v, H', I.call (h' := hh) (g' := g) (d' := d) (t' := t) (ch := []) un hok bare (fun b z => absurd z (by simp)), r, q⟩
end

/-! ### calls -/
/-- f(..): the written arguments, then the defaults dvs; E: what is wanted of an exception -/
def tCall (sp : Sp) (dvs : List V) (E : XK) (t : TA) : TE := fun σ H Q => t σ H fun vs H1 => sp (vs ++ dvs) H1 Q E

/-- how the parameters are bound: us the positional arguments, kw the keywords' values by name, ds the defaults that fill up -/
def Binds (K : PySem.W.Frag) (fd : FuncData) (ps : List Str) (ds : List Value) : Prop :=
  ∀ (s : Shared) (us : List Value), K.In s.heap → (us ++ ds).length = ps.length → BindsTo s fd ⟨us, []⟩ (ps.zip (us ++ ds))
/-- every parameter is given -/
theorem Binds.all {K : PySem.W.Frag} {fd : FuncData} {ps : List Str} (h : ∀ us : List Value, us.length = ps.length → bindArgs fd ⟨us, []⟩ = pure (ps.zip us)) : Binds K fd ps [] := fun s us _ hl => by
  rw [List.append_nil] at hl ⊢
  exact .of_eq (h us hl)

/-- an exception of a callee reaches what this body wants of exceptions -/
def Passes (CX : CXT) (X : Cx) (E : XK) : Prop := ∀ (pins : List (Addr × Obj)) (σ : St) (H : Hp) (s : Shared) (e : Value) (s' : Shared), Inv X pins σ H s → CX X.stack H s E e s' → X.xe e s'

section
variable {X : Cx} {CX : CXT} {k : Nat} {f C : Addr} {fd : FuncData} {ps : List Str} {sp : Sp} {dvs : List V} {ds : List Value} {E : XK} {x m : Str} {p pos apos : Pos} {e o : Expr} {es : List Expr} {ta : TE} {t : TA}

/-- the callee runs -/
theorem run_fn {pins : List (Addr × Obj)} {σ : St} {H : Hp} {s : Shared} {Q : VK} {us : List Value} {vs : List V} (F : FnOk X.prog X.w X.K X.mg X.base CX k f fd ps sp) (hr : Room k X.A) (hb : Binds X.K fd ps ds) (hd : Vals dvs ds) (hx : Passes CX X E)
    (I : Inv X pins σ H s) (r : Vals vs us) (h : sp (vs ++ dvs) H Q E) : wpAny (model X.prog X.w) X.A (call (.ref f) us) (EP X pins σ Q) X.xe s := by
  have r2 : Vals (vs ++ dvs) (us ++ ds) := r.append hd
  have hl : (us ++ ds).length = ps.length := by rw [← r2.length]; exact F.len _ _ _ _ h
  refine wpAny_call (codeAny_mono (F.run X.A X.stack s H ⟨us, []⟩ (us ++ ds) (vs ++ dvs) Q E hr I.env0 (hb s us I.kIn hl) r2 h) fun r s' hq => ?_)
  cases r with
  | error e => exact hx pins σ H s e s' I hq
  | ok fl =>
    cases fl with
    | ret u => exact I.after hq
    | next => exact False.elim hq
    | brk => exact False.elim hq
    | cont => exact False.elim hq

theorem pe_call (F : FnOk X.prog X.w X.K X.mg X.base CX k f fd ps sp) (hr : Room k X.A) (hg : Gl X x) (hm : X.mg x = some (.ref f)) (hk : PySem.W.keepIn X.K (.ref f) = true) (hb : Binds X.K fd ps ds) (hd : Vals dvs ds) (hx : Passes CX X E)
    (ha : PA X (e :: es) t) (hdb : (x == ("__debug__" : Str)) = false := by decide) (he : starEach (e :: es) X.env = (false, eval e X.env) :: starEach es X.env := by rfl) (hpl : (backTo pos (starEach es X.env)).any (·.1) = false := by rfl) :
    PE X (.Call (.Name x p) (e :: es) [] pos) (tCall sp dvs E t) := by
  intro pins s σ H Q I h
  refine wpAny_Call_Name_kw (ld_glob I hg hm ?_ hdb)
  refine PySem.W.callWith_K (h₀ := X.base) I.ok.mod.kin hk (thn (ha pos pins s σ H _ I h) fun us s1 ⟨vs, H1, I1, r, q⟩ => ⟨I1.kIn, ?_⟩) he hpl
  exact run_fn F hr hb hd hx I1 r q



end

/-! ### keywords -/
section
variable {X : Cx} {CX : CXT} {k : Nat} {f C : Addr} {fd : FuncData} {ps ks : List Str} {sp : Sp} {E : XK} {x m : Str} {p pos apos kpos : Pos} {e o : Expr} {es : List Expr} {kws : List Keyword} {te ta : TE} {t tk : TA} {nm : Option Str}

variable {g : List Value → List Value → List Value} {gV : List V → List V → List V}
end

/-! ### a def's body keeps its promise -/
/-- names: the parameters first -/
structure FnScope (N P : List Str) (sc : Scope) : Prop where
  kind : sc.kind = .function
  co : sc.isCoroutine = false
  gen : sc.isGenerator = false
  nd : N.Nodup
  pre : N.take P.length = P
  par : ∀ x ∈ P, sc.names.lookup x = some .local ∨ sc.names.lookup x = some .cell
  nofree : ∀ y ∈ sc.names, y.2 ≠ .free

theorem bindL_out {kindOf : Str → Option NameKind} {x : Str} : ∀ {binds : List (Str × Value)} {m : Str → Option Value}, (∀ v, (x, v) ∉ binds) → bindL kindOf binds m x = m x
  | [], _, _ => rfl
  | (n, v) :: r, m, h => by
    unfold bindL
    rw [bindL_out fun w hw => h w (List.mem_cons_of_mem _ hw)]
    split
    · have : x ≠ n := by rintro rfl; exact h v List.mem_cons_self
      simp [this]
    · rfl
theorem bindC_out {kindOf : Str → Option NameKind} {x : Str} : ∀ {binds : List (Str × Value)} {m : Str → Option Value}, (∀ v, (x, v) ∉ binds) → bindC kindOf binds m x = m x
  | [], _, _ => rfl
  | (n, v) :: r, m, h => by
    unfold bindC
    rw [bindC_out fun w hw => h w (List.mem_cons_of_mem _ hw)]
    split
    · rfl
    · have : x ≠ n := by rintro rfl; exact h v List.mem_cons_self
      simp [this]
theorem bindL_get {kindOf : Str → Option NameKind} {x : Str} {v : Value} : ∀ {P : List Str} {vs : List Value} {i : Nat} {m : Str → Option Value}, P.Nodup → P[i]? = some x → vs[i]? = some v → kindOf x = some .local →
    bindL kindOf (P.zip vs) m x = some v
  | [], _, _, _, _, h, _, _ => by simp at h
  | _ :: _, [], _, _, _, _, h, _ => by simp at h
  | p :: P, w :: vs, 0, m, nd, h1, h2, hk => by
    simp at h1 h2; subst h1; subst h2
    show bindL kindOf ((p, w) :: P.zip vs) m p = _
    unfold bindL
    rw [bindL_out fun v hv => (List.nodup_cons.mp nd).1 (List.of_mem_zip hv).1, if_pos hk]
    simp
  | p :: P, w :: vs, i + 1, m, nd, h1, h2, hk => by
    show bindL kindOf ((p, w) :: P.zip vs) m x = _
    unfold bindL
    exact bindL_get (i := i) (List.nodup_cons.mp nd).2 (by simpa using h1) (by simpa using h2) hk
theorem bindC_get {kindOf : Str → Option NameKind} {x : Str} {v : Value} : ∀ {P : List Str} {vs : List Value} {i : Nat} {m : Str → Option Value}, P.Nodup → P[i]? = some x → vs[i]? = some v → kindOf x ≠ some .local →
    bindC kindOf (P.zip vs) m x = some v
  | [], _, _, _, _, h, _, _ => by simp at h
  | _ :: _, [], _, _, _, _, h, _ => by simp at h
  | p :: P, w :: vs, 0, m, nd, h1, h2, hk => by
    simp at h1 h2; subst h1; subst h2
    show bindC kindOf ((p, w) :: P.zip vs) m p = _
    unfold bindC
    rw [bindC_out fun v hv => (List.nodup_cons.mp nd).1 (List.of_mem_zip hv).1, if_neg hk]
    simp
  | p :: P, w :: vs, i + 1, m, nd, h1, h2, hk => by
    show bindC kindOf ((p, w) :: P.zip vs) m x = _
    unfold bindC
    exact bindC_get (i := i) (List.nodup_cons.mp nd).2 (by simpa using h1) (by simpa using h2) hk

/-- the names' values at the entry -/
def start (N : List Str) (vs : List V) : St := vs.map some ++ List.replicate (N.length - vs.length) none

/-- the context of a def's body, at its entry; an exception leaves the frame, then lies as CX says -/
def cxOf (CX : CXT) (P : Program) (w : World) (K : PySem.W.Frag) (mg : Str → Option Value) (base : Heap) (N : List Str) (qual : Str) (scope : Scope) (f : Addr) (cd : Value) (A : Around) (outer : List Env) (s : Shared) (H : Hp) (E : XK) : Cx where
  prog := P
  w := w
  K := K
  mg := mg
  base := base
  A := A.deeper (envOfC qual scope s.heap.objs.size f cd)
  N := N
  s₀ := s
  H₀ := H
  env := envOfC qual scope s.heap.objs.size f cd
  outer := outer
  stack := envOfC qual scope s.heap.objs.size f cd :: outer
  ex := []
  calm := true
  fn := fun _ => true
  pn := []
  xe := fun e s' => wpAny (model P w) (A.deeper (envOfC qual scope s.heap.objs.size f cd)) (leaving (envOfC qual scope s.heap.objs.size f cd) e) (fun _ s'' => CX outer H s E e s'') (fun e' s'' => CX outer H s E e' s'') s'

theorem cell_has {sc : Scope} {n : Nat} {x : Str} (h : sc.names.lookup x = some .cell) : ∃ c, (cellsFrom n sc.names []).lookup x = some c := by
  have q := PySem.W.cellsFrom_some sc.names n [] (.inl h)
  exact Option.isSome_iff_exists.mp q

theorem inv_start {CX : CXT} {P : Program} {w : World} {K : PySem.W.Frag} {mg : Str → Option Value} {base : Heap} {N ps : List Str} {qual : Str} {scope : Scope} {f : Addr} {cd : Value} {A : Around} {outer : List Env} {s s1 : Shared} {H : Hp} {E : XK} {us : List Value} {vs : List V}
    (S : FnScope N ps scope) (hd : A.handled = none) (e0 : Env0 P w K mg base A outer s H) (hl : vs.length = ps.length) (r : Vals vs us)
    (x : InCallC s s.heap.objs.size (bindL (envOfC qual scope s.heap.objs.size f cd).kindOf (ps.zip us) fun _ => none) (cellsFrom (s.heap.objs.size + 1) scope.names []) (bindC (envOfC qual scope s.heap.objs.size f cd).kindOf (ps.zip us) fun _ => none) s1) :
    Inv (cxOf CX P w K mg base N qual scope f cd A outer s H E) [] (start N vs) H s1 := by
  have hpl : ps.length ≤ N.length := by have := congrArg List.length S.pre; rw [List.length_take] at this; omega
  obtain ⟨h1, tk, rfl, hk⟩ := x.done
  have noA : ∀ b : Addr, b ∉ (cxOf CX P w K mg base N qual scope f cd A outer s H E).ex := fun b z => absurd (show b ∈ ([] : List Addr) from z) (by simp)
  refine ⟨⟨e0.mod, S.kind, rfl, rfl, Nat.le_refl _, fun y z c h1 h2 => ?_, fun y hy => ?_, fun y c _ h => ?_, fun _ => hd, Around.frames_deeper e0.frames, .inr ⟨rfl, rfl⟩, fun b z => absurd z (noA b), e0.bs, e0.bsz, fun b _ _ => noA b, fun b z => absurd z (noA b), e0.funs, e0.frf⟩,
    rfl, e0.bare, Un.kept hk, ⟨_, x.toInCall.ns, fun i y v h1 h2 h3 => ?_⟩, fun y c h => ⟨_, x.cell y c h⟩, e0.hok.fresh (Nat.le_refl _), fun y c h => ?_, fun p hp => absurd (show p ∈ ([] : List (Addr × Obj)) from hp) (by simp), e0.hok.kept hk, ?_⟩
  · exact name_of_addr x.apart (PySem.mem_of_lookup h1) (PySem.mem_of_lookup h2)
  · have hy : scope.names.lookup y = some .cell ∨ scope.names.lookup y = some .free := hy
    rcases hy with hy | hy
    · exact cell_has hy
    · exact absurd rfl (S.nofree _ (PySem.mem_of_lookup hy))
  · exact Nat.le_of_lt (x.above y c (PySem.mem_of_lookup h))
  · have hi : i < vs.length := by
      unfold start at h2
      by_cases hi : i < vs.length
      · exact hi
      · rw [List.getElem?_append_right (by simpa using hi)] at h2
        rw [List.getElem?_replicate] at h2
        split at h2 <;> cases h2
    have ha : vs[i]? = some v := by
      unfold start at h2
      rw [List.getElem?_append_left (by simpa using hi), List.getElem?_map] at h2
      cases e : vs[i]? with
      | none => rw [e] at h2; cases h2
      | some a => rw [e] at h2; cases h2; rfl
    obtain ⟨u, hu, rv⟩ := r.get ha
    have hp : ps[i]? = some y := by
      rw [← S.pre, List.getElem?_take_of_lt (by omega)]; exact h1
    have ndP : ps.Nodup := by rw [← S.pre]; exact S.nd.sublist (List.take_sublist _ _)
    refine ⟨u, rv, ?_⟩
    rcases S.par y (List.mem_of_getElem? hp) with k | k
    · exact .inl ⟨k, bindL_get ndP hp hu k⟩
    · obtain ⟨c, e⟩ := cell_has (n := s.heap.objs.size + 1) k
      refine .inr ⟨.inl k, c, e, ?_⟩
      have q := x.cell y c e
      rw [bindC_get ndP hp hu (by show scope.names.lookup y ≠ _; rw [k]; decide)] at q
      exact q
  · exact e0.hok.fresh (Nat.le_of_lt (x.above y c (PySem.mem_of_lookup h)))
  · unfold start
    show _ = N.length
    rw [List.length_append, List.length_map, List.length_replicate]
    omega

/-- THE RULE: a def (or a method) of the text, by its body. The body's reading t is chosen for each entry; it is run at the parameters' values -/
theorem fn_of {CX : CXT} {P : Program} {w : World} {K : PySem.W.Frag} {mg : Str → Option Value} {base : Heap} {k : Nat} {f : Addr} {name qual : Str} {params : Arguments} {body : List Stmt} {scope : Scope} {dV kV doc pm cdv ct oc : Value} {an od : Option Addr}
    {osl : Array (Option Value)} {N ps : List Str} {sp : Sp} (lk : K.lookup f = some ⟨oc, od, .func (PySem.W.fnOf name qual params body scope dV kV doc pm an cdv ct), osl⟩) (hcd : PySem.W.codeIn K cdv qual = true) (S : FnScope N ps scope)
    (len : ∀ vs H Q E, sp vs H Q E → vs.length = ps.length)
    (hbody : ∀ (A : Around) (outer : List Env) (s : Shared) (H : Hp) (vs : List V) (Q : VK) (E : XK), Room k (A.deeper (envOfC qual scope s.heap.objs.size f cdv)) → sp vs H Q E →
      ∃ t, PSs (cxOf CX P w K mg base N qual scope f cdv A outer s H E) body t ∧ t { nx := fun _ H' => Q .non H', rt := Q } (start N vs) H) :
    FnOk P w K mg base CX (k + 1) f (PySem.W.fnOf name qual params body scope dV kV doc pm an cdv ct) ps sp := by
  refine ⟨len, fun A outer s H args us vs Q E hr e0 hb r hsp => ?_⟩
  have hl := len _ _ _ _ hsp
  have KX : K.In s.heap := e0.mod.kin.keeps fun b o e => (e0.bs b o e).1
  have lim : s.heap.NoLimit := e0.mod.nolimit.keeps fun b o e => (e0.bs b o e).1
  have hkind : ∀ y ∈ ps.zip us, scope.names.lookup y.1 = some .local ∨ (scope.names.lookup y.1 = some .cell ∧ ((cellsFrom (s.heap.objs.size + 1) scope.names []).lookup y.1).isSome = true) := fun ⟨n, v⟩ hy => by
    rcases S.par n (List.of_mem_zip hy).1 with q | q
    · exact .inl q
    · exact .inr ⟨q, PySem.W.cellsFrom_some _ _ _ (.inl q)⟩
  refine codeAny_call_function hr.depth (KX _ _ lk) rfl S.co S.gen rfl (PySem.W.codeRec_of KX hcd) (hb _ _ _ _ ?_)
  refine wpAny_newFunctionEnv_cells S.kind hkind fun env he s1 x => ?_
  subst he
  refine ⟨lim.keeps x.toInCall.keep, codeAny_func ?_⟩
  obtain ⟨t, ht, hq⟩ := hbody A outer s H vs Q E (hr.deeper _) hsp
  have I : Inv (cxOf CX P w K mg base N qual scope f cdv A outer s H E) [] (start N vs) H s1 := inv_start S hr.hd e0 hl r x
  refine wpAny_mono (ht [] s1 (start N vs) H _ I hq) (fun fl s' hs => ?_) fun e s' hs => hs
  have fin : ∀ {σ' : St} {H' : Hp} {v : V} {u : Value}, Inv (cxOf CX P w K mg base N qual scope f cdv A outer s H E) [] σ' H' s' → RelV v u → Q v H' → CE outer P w H s Q u s' :=
    fun {σ' H' v u} J rv q => ⟨v, H', J.os, J.bare, J.base, J.hok, rv, q⟩
  cases fl with
  | ret u =>
    obtain ⟨v, σ', H', J, rv, q⟩ := hs
    exact fin J rv q
  | next =>
    obtain ⟨σ', H', J, q⟩ := hs
    exact fin (v := V.non) (u := Value.none) J rfl q
  | brk =>
    obtain ⟨_, _, _, q⟩ := hs
    exact False.elim q
  | cont =>
    obtain ⟨_, _, _, q⟩ := hs
    exact False.elim q
end L2

namespace L2
open PySem PySem.Spec PyProof.Rows
section
variable {X : Cx} {x : Str} {p pos : Pos} {e : Expr} {es : List Expr} {t : TA} {id T : String} {r : List V → Hp → VK → Prop}

def tCB (r : List V → Hp → VK → Prop) (t : TA) : TE := fun σ H Q => t σ H fun vs H1 => r vs H1 Q
/-- f(e, ..), f a built-in function -/
theorem pe_callB (hc : CallR X (.builtin id) r) (hg : Gl X x) (hm : X.mg x = none) (hv : bootBuiltins x = some (.builtin id)) (ha : PA X (e :: es) t) (hn : x ≠ "__name__" := by decide) (hdb : (x == ("__debug__" : Str)) = false := by decide)
    (he : starEach (e :: es) X.env = (false, eval e X.env) :: starEach es X.env := by rfl) (hpl : (backTo pos (starEach es X.env)).any (·.1) = false := by rfl) : PE X (.Call (.Name x p) (e :: es) [] pos) (tCB r t) := by
  intro pins s σ H Q I h
  refine wpAny_Call_Name_kw (ld_blt I hg hm hv ?_ hn hdb)
  exact PyProof.Rows.callWith_builtin1 (thn (ha pos pins s σ H _ I h) fun us s1 ⟨vs, H1, I1, r1, q1⟩ => hc pins s1 σ H1 vs us Q I1 r1 q1) he hpl
/-- T(e, ..), T a built-in type -/
theorem pe_callTy (hc : CallR X (.type T) r) (hg : Gl X x) (hm : X.mg x = none) (hv : bootBuiltins x = some (.type T)) (ha : PA X (e :: es) t) (hn : x ≠ "__name__" := by decide) (hdb : (x == ("__debug__" : Str)) = false := by decide)
    (he : starEach (e :: es) X.env = (false, eval e X.env) :: starEach es X.env := by rfl) (hpl : (backTo pos (starEach es X.env)).any (·.1) = false := by rfl) : PE X (.Call (.Name x p) (e :: es) [] pos) (tCB r t) := by
  intro pins s σ H Q I h
  refine wpAny_Call_Name_kw (ld_blt I hg hm hv ?_ hn hdb)
  exact PyProof.Rows.callWith_type1 (thn (ha pos pins s σ H _ I h) fun us s1 ⟨vs, H1, I1, r1, q1⟩ => hc pins s1 σ H1 vs us Q I1 r1 q1) he hpl
end
end L2

namespace HT
open PySem PyProof.Rows



section
open PySem.SeqAt
open PySem.AutoSeq1 (wpAny_loadPart')
open PySem.MeetsSeq PySem.MeetsSeq2 PySem.MeetsSeq3

end

section
variable {prog : Program} {w : World} {A : Around} {E : Value → Shared → Prop} {s : Shared}


/-- t + u, t not empty -/
theorem cat_tup {t b : Addr} {vs ws : List Value} {Q : Value → Shared → Prop} (ht : IsTup s.heap t vs.toArray) (hb : IsTup s.heap b ws.toArray) (hv : vs ≠ [])
    (h1 : ws = [] → Q (.ref t) s) (h2 : ws ≠ [] → Q (.ref s.heap.objs.size) { s with heap := s.heap.push { cls := .type "tuple", data := .seq (vs ++ ws).toArray } })
    (hsz : vs.length + ws.length ≤ sizeLine) : wpAny (model prog w) A (binaryOp .Add (.ref t) (.ref b)) Q E s := by
  obtain ⟨⟨cls, dd, data, sl⟩, ho, hc, n, hd⟩ := id ht
  obtain ⟨⟨cls2, dd2, data2, sl2⟩, ho2, hc2, n2, hd2⟩ := id hb
  simp only at hc hd hc2 hd2
  subst hc hd hc2 hd2
  have e : vs.toArray ++ ws.toArray = (vs ++ ws).toArray := by simp
  by_cases hw : ws = []
  · exact concat_meets ⟨_, ho, rfl⟩ ⟨_, ho2, rfl⟩ noFill_tuple_add seq_tuple_add PySem.F.slot_tuple_add PySem.F.entry_tuple_add (PySem.F.args_tuple_add_2 _ _)
      (tuple_addW1 t b vs.toArray ws.toArray n n2 dd dd2 sl sl2 (by simpa using hv) (by simp [hw])) ⟨ho, ho2, h1 hw⟩
  · refine concat_meets ⟨_, ho, rfl⟩ ⟨_, ho2, rfl⟩ noFill_tuple_add seq_tuple_add PySem.F.slot_tuple_add PySem.F.entry_tuple_add (PySem.F.args_tuple_add_2 _ _)
      (tuple_addW2 t b vs.toArray ws.toArray n n2 dd dd2 sl sl2 (by simpa using hv) (by simpa using hw) (by rw [List.size_toArray, List.size_toArray]; exact hsz)) ⟨ho, ho2, ?_⟩
    rw [e]
    exact h2 hw

/-! ### t[a:b], not the whole -/
/-- a slice's bound as a place among n (d where it is left out) -/
def sIx (n d : Nat) : Option Int → Nat
  | none => d
  | some v => if v < 0 then (v + (n : Int)).toNat else min v.toNat n
theorem sIx_none (n d : Nat) : sIx n d none = d := rfl
theorem sIx_nat (n d k : Nat) : sIx n d (some (k : Int)) = min k n := by
  show (if (k : Int) < 0 then ((k : Int) + (n : Int)).toNat else min (k : Int).toNat n) = min k n
  rw [if_neg (by omega), Int.toNat_natCast]

end
end HT

namespace L2
open PySem PySem.Spec PyProof.Rows

/-! ### the parts of a slice -/
abbrev TO := St → Hp → (Option Int → Hp → Prop) → Prop
/-- a slice's part (left out, or an int) -/
def PO (X : Cx) (e : Option Expr) (t : TO) : Prop :=
  ∀ (pins : List (Addr × Obj)) (s : Shared) (σ : St) (H : Hp) (Q : Option Int → Hp → Prop), Inv X pins σ H s → t σ H Q →
    wpAny (model X.prog X.w) X.A (evalPart e X.env) (fun u s' => ∃ o H', Inv X pins σ H' s' ∧ IsPart u o ∧ Q o H') X.xe s
def tNoPart : TO := fun _ H Q => Q none H
def tPart (t : TE) : TO := fun σ H Q => t σ H fun x H1 => ∃ i, x = .int i ∧ Q (some i) H1


section
variable {X : Cx} {e : Expr} {te : TE} {lo hi : Option Expr} {tl th : TO} {pos p2 : Pos}

theorem po_none : PO X none tNoPart := by
  intro pins s σ H Q I h
  rw [evalPart_none]
  exact wpAny_pure ⟨none, H, I, .none, h⟩
theorem po_some (h : PE X e te) : PO X (some e) (tPart te) := by
  intro pins s σ H Q I hw
  rw [evalPart_some]
  refine thn (h pins s σ H _ I hw) fun u s1 ⟨x, H1, I1, r1, q1⟩ => ?_
  obtain ⟨i, rfl, q⟩ := q1
  obtain ⟨t, rfl⟩ := r1
  exact ⟨some i, H1, I1, .int i t, q⟩

/-- what a slice of a value is, by values: the slice object stands at sl -/
def SlR (X : Cx) (r : V → Option Int → Option Int → Hp → VK → Prop) : Prop :=
  ∀ (pins : List (Addr × Obj)) (s : Shared) (σ : St) (H : Hp) (x : V) (v vl vu : Value) (lo hi : Option Int) (sl : Addr) (Q : VK), Inv X pins σ H s → RelV x v → s.heap.IsSliceOf sl vl vu .none → IsPart vl lo → IsPart vu hi → r x lo hi H Q →
    ∃ T id, typeLookup (.type T) "__getitem__" = pure (some (.builtin id)) ∧ s.TypeIs v T ∧ wpAny (model X.prog X.w) X.A (getItem v (.ref sl)) (EP X pins σ Q) X.xe s
def tSl (r : V → Option Int → Option Int → Hp → VK → Prop) (te : TE) (tl th : TO) : TE := fun σ H Q => te σ H fun x H1 => tl σ H1 fun l H2 => th σ H2 fun u H3 => r x l u H3 Q
/-- a[lo:hi], any a -/
theorem pe_slice {r : V → Option Int → Option Int → Hp → VK → Prop} (hr : SlR X r) (he : PE X e te) (hl : PO X lo tl) (hu : PO X hi th) : PE X (.Subscript e (.Slice lo hi none p2) pos) (tSl r te tl th) := by
  intro pins s σ H Q I h
  refine Subscript_ (thn (he pins s σ H _ I h) fun v s1 ⟨x, H1, I1, r1, q1⟩ => ?_)
  refine wpAny_Slice (thn (hl pins s1 σ H1 _ I1 q1) fun vl s2 ⟨l, H2, I2, pl, q2⟩ => thn (hu pins s2 σ H2 _ I2 q2) fun vu s3 ⟨u, H3, I3, pu, q3⟩ => ?_)
  rw [evalPart_none]
  refine wpAny_pure ?_
  have I4 : Inv X pins σ H3 { s3 with heap := s3.heap.push { cls := .type "slice", data := .fields #[vl, vu, .none] } } := I3.kept (t' := s3.toks) fun b ob q => Heap.get?_push_of_some _ q
  obtain ⟨T, id, hT, ht, hg⟩ := hr pins { s3 with heap := s3.heap.push { cls := .type "slice", data := .fields #[vl, vu, .none] } } σ H3 x v vl vu l u s3.heap.objs.size Q I4 r1 (Heap.IsSliceOf.new ..) pl pu q3
  show wpAny (model X.prog X.w) X.A (subscriptTail e (.Slice lo hi none p2) v (.ref s3.heap.objs.size)) (EP X pins σ Q) X.xe { s3 with heap := s3.heap.push { cls := .type "slice", data := .fields #[vl, vu, .none] } }
  exact tail_any (ops := [.ref s3.heap.objs.size, v]) ht hT hg (by with_unfolding_all rfl)

/-- the items of xs[lo:hi] -/
def cutV (xs : List V) (lo hi : Option Int) : List V := (xs.drop (HT.sIx xs.length 0 lo)).take (HT.sIx xs.length xs.length hi - HT.sIx xs.length 0 lo)
theorem cutV_length (xs : List V) (lo hi : Option Int) : (cutV xs lo hi).length ≤ xs.length := by
  unfold cutV
  rw [List.length_take, List.length_drop]
  exact Nat.le_trans (Nat.min_le_right _ _) (Nat.sub_le _ _)

/-! ### t < u, t + u -/
/-- t + u, t not empty: u empty gives t itself -/
def rCatT (K : PySem.W.Frag) : R2 := fun x y H Q => ∃ a b xs ys, x = .ref a ∧ y = .ref b ∧ SqT K H a xs ∧ SqT K H b ys ∧ xs ≠ [] ∧ xs.length + ys.length ≤ sizeLine ∧
  (ys = [] → Q (.ref a) H) ∧ (ys ≠ [] → ∀ p, H p = none → Q (.ref p) (upd H p (.tup (xs ++ ys))))
theorem Vals.nil_iff {xs : List V} {us : List Value} (r : Vals xs us) : us = [] ↔ xs = [] := by
  cases r with
  | nil => simp
  | cons _ _ => simp
theorem op_catT : OpR X (binaryOp .Add) (rCatT X.K) := by
  intro pins s σ H x y v u Q I rx ry h
  obtain ⟨a, b, xs, ys, rfl, rfl, ha, hb, hx, hz, q1, q2⟩ := h
  cases rx
  cases ry
  obtain ⟨its, r1, p1, _⟩ := I.tuple ha
  obtain ⟨its2, r2, p2, _⟩ := I.tuple hb
  refine HT.cat_tup p1 p2 (fun z => hx (r1.nil_iff.mp z)) (fun z => ⟨.ref a, H, I, rfl, q1 (r2.nil_iff.mp z)⟩) (fun z => ?_) (by rw [← r1.length, ← r2.length]; exact hz)
  refine ⟨.ref s.heap.objs.size, _, I.laid (t' := s.toks) (o := .tup (xs ++ ys)) (fun b ob q => Heap.get?_push_of_some _ q) (Nat.le_refl _) ?_, rfl, q2 (fun w => z (r2.nil_iff.mpr w)) _ (I.hok.fresh (Nat.le_refl _))⟩
  exact ⟨by rw [List.length_append]; exact hz, _, r1.append r2, IsTup.new _ _⟩
end
end L2

namespace L2
open PySem PySem.Spec PyProof.Rows

/-! ### places -/
/-- the place that an index of any sign means -/
def ixN (n : Nat) (i : Int) : Option Nat := if 0 ≤ i then (if i < n then some i.toNat else none) else if -(n : Int) ≤ i then some (i + n).toNat else none
def atI {α : Type} (xs : List α) (i : Int) : Option α := (ixN xs.length i).bind fun j => xs[j]?
theorem ixN_seq {n : Nat} {i : Int} {j : Nat} (h : ixN n i = some j) : seqIndex? i n = some j ∧ j < n ∧ -(n : Int) ≤ i ∧ i < n := by
  unfold ixN at h
  by_cases h0 : 0 ≤ i
  · rw [if_pos h0] at h
    by_cases h1 : i < n
    · rw [if_pos h1] at h
      have e : i.toNat = j := Option.some.inj h
      exact ⟨by rw [seqIndex_of h0 h1, e], by omega, by omega, h1⟩
    · rw [if_neg h1] at h; cases h
  · rw [if_neg h0] at h
    by_cases h1 : -(n : Int) ≤ i
    · rw [if_pos h1] at h
      have e : (i + n).toNat = j := Option.some.inj h
      exact ⟨by rw [seqIndex_neg (by omega) h1, e], by omega, h1, by omega⟩
    · rw [if_neg h1] at h; cases h
theorem atI_get {α : Type} {xs : List α} {i : Int} {v : α} (h : atI xs i = some v) : ∃ j, seqIndex? i xs.length = some j ∧ xs[j]? = some v ∧ j < xs.length ∧ -(xs.length : Int) ≤ i ∧ i < xs.length := by
  unfold atI at h
  cases e : ixN xs.length i with
  | none => rw [e] at h; cases h
  | some j =>
    rw [e] at h
    obtain ⟨h1, h2, h3, h4⟩ := ixN_seq e
    exact ⟨j, h1, h, h2, h3, h4⟩
theorem atI_nat {α : Type} {xs : List α} {j : Nat} {v : α} (h : xs[j]? = some v) : atI xs (j : Int) = some v := by
  have hj : j < xs.length := (List.getElem?_eq_some_iff.mp h).1
  have e : ixN xs.length (j : Int) = some j := by
    unfold ixN
    rw [if_pos (by omega), if_pos (by omega)]; simp
  unfold atI; rw [e]; exact h

/-! ### what may be subscripted -/
/-- what stands as an index of a plain subscript -/
def PlainIx (b : Expr) : Prop := ∀ o i, subscripted b false o i = operate [o, i] (getItem o i)
/-- a subscript by values -/
def IxR (X : Cx) (r : R2) : Prop :=
  ∀ (value slice : Expr) (pins : List (Addr × Obj)) (s : Shared) (σ : St) (H : Hp) (x y : V) (v u : Value) (Q : VK), Inv X pins σ H s → RelV x v → RelV y u → r x y H Q →
    subscripted slice false v u = operate [v, u] (getItem v u) → wpAny (model X.prog X.w) X.A (subscriptTail value slice v u) (EP X pins σ Q) X.xe s
/-- a call of a builtin's method by values: the receiver, the arguments -/
def MtR (X : Cx) (id : String) (r : V → List V → Hp → VK → Prop) : Prop :=
  ∀ (pins : List (Addr × Obj)) (s : Shared) (σ : St) (H : Hp) (x : V) (xs : List V) (v : Value) (us : List Value) (Q : VK), Inv X pins σ H s → RelV x v → Vals xs us → r x xs H Q →
    wpAny (model X.prog X.w) X.A (call (.builtin id) (v :: us)) (EP X pins σ Q) X.xe s
section
variable {X : Cx} {a b : Expr} {ta tb : TE} {pos : Pos}
/-- a[b] -/
theorem pe_ix {r : R2} (hr : IxR X r) (ha : PE X a ta) (hb : PE X b tb) (hs : PlainIx b) : PE X (.Subscript a b pos) (tOp r ta tb) := by
  intro pins s σ H Q I h
  exact Subscript_ (binT ha hb I h fun v u s2 x y H2 I2 rx ry q => hr a b pins s2 σ H2 x y v u Q I2 rx ry q (hs _ _))

def rIxL (K : PySem.W.Frag) : R2 := fun x y H Q => ∃ p xs i v, x = .ref p ∧ y = .int i ∧ SqL K H p xs ∧ atI xs i = some v ∧ Q v H
def rIxT (K : PySem.W.Frag) : R2 := fun x y H Q => ∃ p xs i v, x = .ref p ∧ y = .int i ∧ SqT K H p xs ∧ atI xs i = some v ∧ Q v H
def rIxS : R2 := fun x y H Q => ∃ z i c, x = .str z ∧ y = .int i ∧ z.length ≤ sizeLine ∧ atI z.cps.toList i = some c ∧ Q (.str ⟨#[c]⟩) H
theorem ix_list : IxR X (rIxL X.K) := by
  intro value slice pins s σ H x y v u Q I rx ry h hs
  obtain ⟨p, xs, i, z, rfl, rfl, hq, he, q⟩ := h
  cases rx
  obtain ⟨t, rfl⟩ := ry
  obtain ⟨its, r, pl, hz⟩ := I.list hq
  obtain ⟨j, h1, h2, h3, h4, h5⟩ := atI_get he
  obtain ⟨w, ew, rw'⟩ := r.get h2
  have hl := r.length
  have hn := line63
  have fin : EP X pins σ Q w s := ⟨z, H, I, rw', q⟩
  by_cases h0 : 0 ≤ i
  · have hj : i.toNat = j := by
      rw [seqIndex_of h0 h5] at h1
      exact Option.some.inj h1
    exact item_listR pl.isList h0 (by omega) (by rw [hj]; simpa using ew) fin hs
  · have hj : (i + (its.toArray.size : Int)).toNat = j := by
      rw [seqIndex_neg (by omega) h4] at h1
      rw [List.size_toArray, ← hl]
      exact Option.some.inj h1
    exact subscriptTail_builtinR (x := w) pl.isList.typeIs slot_list_getitem.lookup
      (wpAny_getItem_list_neg (Q := fun r s' => r = w ∧ EP X pins σ Q r s') pl.isList (by omega) (by rw [List.size_toArray] <;> omega) (by omega) (by rw [hj]; simpa using ew) ⟨rfl, fin⟩) hs
theorem ix_tup : IxR X (rIxT X.K) := by
  intro value slice pins s σ H x y v u Q I rx ry h hs
  obtain ⟨p, xs, i, z, rfl, rfl, hq, he, q⟩ := h
  cases rx
  obtain ⟨t, rfl⟩ := ry
  obtain ⟨its, r, pl, hz⟩ := I.tuple hq
  obtain ⟨j, h1, h2, h3, h4, h5⟩ := atI_get he
  obtain ⟨w, ew, rw'⟩ := r.get h2
  have hl := r.length
  have hn := line63
  have fin : EP X pins σ Q w s := ⟨z, H, I, rw', q⟩
  exact subscriptTail_builtinR (x := w) pl.typeIs slot_tuple_getitem.lookup
    (getItem_tuple (j := j) (Q := fun r s' => r = w ∧ EP X pins σ Q r s') pl (by omega) (by omega) (by rw [List.size_toArray, ← hl]; exact h1) (by simpa using ew) ⟨rfl, fin⟩) hs
theorem ix_str : IxR X rIxS := by
  intro value slice pins s σ H x y v u Q I rx ry h hs
  obtain ⟨z, i, c, rfl, rfl, hz, he, q⟩ := h
  obtain ⟨t, rfl⟩ := rx
  obtain ⟨t', rfl⟩ := ry
  obtain ⟨j, h1, h2, h3, h4, h5⟩ := atI_get he
  have hl : z.cps.toList.length = z.length := by simp [Str.length]
  rw [hl] at h1 h4 h5
  have hn := line63
  exact tail_any (typeIs_str s z t) slot_str_getitem.lookup (getItem_str (c := c) (by
    have e1 : decide (i < -(2 ^ 63 : Int)) = false := decide_eq_false (by omega)
    have e2 : decide (i ≥ 2 ^ 63) = false := decide_eq_false (by omega)
    rw [e1, e2, Bool.or_false]) (by rw [h1]; simpa using h2) ⟨.str ⟨#[c]⟩, H, I.tok _, ⟨_, rfl⟩, q⟩) hs

/-! ### xs[i] = v, any sign -/

/-! ### slices -/
theorem sb_neg {i : Int} {n : Nat} (h : i < 0) : max 0 (min (i + (n : Int)) n) = (((i + n).toNat : Nat) : Int) := by
  rw [Int.min_eq_left (by omega), Int.ofNat_toNat, Int.max_comm]
theorem sb_pos {i : Int} {n : Nat} (h : ¬ i < 0) : max 0 (min i (n : Int)) = ((min i.toNat n : Nat) : Int) := by
  obtain ⟨k, rfl⟩ := Int.eq_ofNat_of_zero_le (Int.not_lt.mp h)
  rw [Int.toNat_natCast]
  rcases Nat.le_total k n with h | h
  · rw [Nat.min_eq_left h, Int.min_eq_left (Int.ofNat_le.mpr h), Int.max_eq_right (Int.natCast_nonneg _)]
  · rw [Nat.min_eq_right h, Int.min_eq_right (Int.ofNat_le.mpr h), Int.max_eq_right (Int.natCast_nonneg _)]
theorem slice_bounds (lo hi : Option Int) (n : Nat) : (sliceBounds lo hi none n).1 = ((HT.sIx n 0 lo : Nat) : Int) ∧ (sliceBounds lo hi none n).2.1 = ((HT.sIx n n hi : Nat) : Int) ∧ (sliceBounds lo hi none n).2.2 = 1 := by
  refine ⟨?_, ?_, rfl⟩
  · cases lo with
    | none => simp [sliceBounds, HT.sIx]
    | some i =>
      simp only [sliceBounds, HT.sIx, Option.getD_none, show (1 : Int) > 0 by decide, if_true]
      by_cases h : i < 0
      · simp only [h, if_true]; exact sb_neg h
      · simp only [h, if_false]; exact sb_pos h
  · cases hi with
    | none => simp [sliceBounds, HT.sIx]
    | some i =>
      simp only [sliceBounds, HT.sIx, Option.getD_none, show (1 : Int) > 0 by decide, if_true]
      by_cases h : i < 0
      · simp only [h, if_true]; exact sb_neg h
      · simp only [h, if_false]; exact sb_pos h
theorem slicePick_cut (its : List Value) (lo hi : Option Int) : slicePick its.toArray lo hi none = ((its.drop (HT.sIx its.length 0 lo)).take (HT.sIx its.length its.length hi - HT.sIx its.length 0 lo)).toArray := by
  obtain ⟨h1, h2, h3⟩ := slice_bounds lo hi its.toArray.size
  unfold slicePick
  rw [h1, h2, h3]
  simp only [sliceRange_one, pick_run, List.size_toArray] <;> rfl
/-- xs[lo:hi] of a list: a new list -/
def rSlL (K : PySem.W.Frag) : V → Option Int → Option Int → Hp → VK → Prop := fun x lo hi H Q => ∃ a xs, x = .ref a ∧ SqL K H a xs ∧ ∀ p, H p = none → Q (.ref p) (upd H p (.lst (cutV xs lo hi)))
theorem sl_list : SlR X (rSlL X.K) := by
  intro pins s σ H x v vl vu lo hi sl Q I rx hs pl pu h
  obtain ⟨a, xs, rfl, hx, q⟩ := h
  cases rx
  obtain ⟨its, r, ht, hz⟩ := I.list hx
  have hlen := r.length
  refine ⟨"list", _, slot_list_getitem.lookup, ht.isList.typeIs, ?_⟩
  refine wpAny_getItem_list_slice ht.isList hs pl pu .none (by simp) ?_ (by rw [List.size_toArray] <;> omega)
  rw [slicePick_cut, ← hlen]
  refine ⟨.ref s.heap.objs.size, _, I.laid (t' := s.toks) (o := .lst (cutV xs lo hi)) (fun b ob q => Heap.get?_push_of_some _ q) (Nat.le_refl _) ?_, rfl, q _ (I.hok.fresh (Nat.le_refl _))⟩
  exact ⟨Nat.le_trans (cutV_length xs lo hi) hz, _, 0, (r.drop (HT.sIx xs.length 0 lo)).take (HT.sIx xs.length xs.length hi - HT.sIx xs.length 0 lo), Heap.get?_push_size _ rfl⟩

/-! ### in, not in: flat items -/
def flatV : V → Bool
  | .non => true
  | .bl _ => true
  | .int _ => true
  | .str _ => true
  | _ => false
/-- == of flat values -/
def eqV : V → V → Bool
  | .non, .non => true
  | .bl a, .bl b => a == b
  | .bl a, .int b => (if a then 1 else 0) == b
  | .int a, .bl b => a == (if b then 1 else 0)
  | .int a, .int b => a == b
  | .str a, .str b => a == b
  | _, _ => false
theorem eqAt_V {A : Around} {s : Shared} {y x : V} {u v : Value} (ry : RelV y u) (rx : RelV x v) (fy : flatV y = true) (fx : flatV x = true) : SeqAt.EqAt A s u v (eqV y x) := by
  cases y with
  | non =>
    cases ry
    cases x with
    | non => cases rx; exact SeqAt.EqAt.same _
    | bl b => cases rx; exact SeqAt.EqAt.none_bool b
    | int b => obtain ⟨t, rfl⟩ := rx; exact SeqAt.EqAt.none_int b t
    | str b => obtain ⟨t, rfl⟩ := rx; exact SeqAt.EqAt.none_str b t
    | _ => exact absurd (show false = true from fx) Bool.false_ne_true
  | bl a =>
    cases ry
    cases x with
    | non => cases rx; exact SeqAt.EqAt.bool_none a
    | bl b => cases rx; exact SeqAt.EqAt.bool_bool a b
    | int b => obtain ⟨t, rfl⟩ := rx; exact SeqAt.EqAt.bool_int a b t
    | str b => obtain ⟨t, rfl⟩ := rx; exact SeqAt.EqAt.bool_str a b t
    | _ => exact absurd (show false = true from fx) Bool.false_ne_true
  | int a =>
    obtain ⟨t', rfl⟩ := ry
    cases x with
    | non => cases rx; exact SeqAt.EqAt.int_none a t'
    | bl b => cases rx; exact SeqAt.EqAt.int_bool a t' b
    | int b => obtain ⟨t, rfl⟩ := rx; exact SeqAt.EqAt.int_int a t' b t
    | str b => obtain ⟨t, rfl⟩ := rx; exact SeqAt.EqAt.int_str a t' b t
    | _ => exact absurd (show false = true from fx) Bool.false_ne_true
  | str a =>
    obtain ⟨t', rfl⟩ := ry
    cases x with
    | non => cases rx; exact SeqAt.EqAt.str_none a t'
    | bl b => cases rx; exact SeqAt.EqAt.str_bool a t' b
    | int b => obtain ⟨t, rfl⟩ := rx; exact SeqAt.EqAt.str_int a t' b t
    | str b => obtain ⟨t, rfl⟩ := rx; exact SeqAt.EqAt.str_str a t' b t
    | _ => exact absurd (show false = true from fx) Bool.false_ne_true
  | _ => exact absurd (show false = true from fy) Bool.false_ne_true
/-- the items' answers, read off the values (a value's own answer does not lean on its token) -/
def eqU (x : V) (u : Value) : Bool := match u with
  | .none => eqV .non x
  | .bool b => eqV (.bl b) x
  | .int i _ => eqV (.int i) x
  | .str z _ => eqV (.str z) x
  | _ => false
theorem eqU_of {x y : V} {u : Value} (r : RelV y u) (f : flatV y = true) : eqU x u = eqV y x := by
  cases y with
  | non => cases r; rfl
  | bl b => cases r; rfl
  | int i => obtain ⟨t, rfl⟩ := r; rfl
  | str z => obtain ⟨t, rfl⟩ := r; rfl
  | _ => exact absurd (show false = true from f) Bool.false_ne_true
theorem any_eqU {x : V} : ∀ {xs : List V} {us : List Value}, Vals xs us → xs.all flatV = true → us.any (eqU x) = xs.any fun y => eqV y x
  | _, _, .nil, _ => rfl
  | y :: xs, u :: us, .cons r t, f => by
    rw [List.all_cons, Bool.and_eq_true] at f
    rw [List.any_cons, List.any_cons, eqU_of r f.1, any_eqU t f.2]
theorem mem_eqAt {A : Around} {s : Shared} {x : V} {v : Value} (rx : RelV x v) (fx : flatV x = true) : ∀ {xs : List V} {us : List Value}, Vals xs us → xs.all flatV = true → ∀ u ∈ us, SeqAt.EqAt A s u v (eqU x u)
  | _, _, .nil, _ => fun u hu => by cases hu
  | y :: xs, u :: us, .cons r t, f => fun u' hu => by
    rw [List.all_cons, Bool.and_eq_true] at f
    rcases List.mem_cons.mp hu with rfl | hu
    · rw [eqU_of r f.1]; exact eqAt_V r rx f.1 fx
    · exact mem_eqAt rx fx t f.2 u' hu
def inV (x : V) (xs : List V) : Bool := xs.any fun y => eqV y x
/-- x in a list or tuple of flat items -/
def rIn (K : PySem.W.Frag) (neg : Bool) : R2 := fun x y H Q => ∃ p xs, y = .ref p ∧ (SqL K H p xs ∨ SqT K H p xs) ∧ flatV x = true ∧ xs.all flatV = true ∧ Q (.bl (if neg then !inV x xs else inV x xs)) H
theorem op_in_seq : OpR X (compareOp .In) (rIn X.K false) := by
  intro pins s σ H x y v u Q I rx ry h
  obtain ⟨p, xs, rfl, hq, fx, fs, q⟩ := h
  cases ry
  rcases hq with hq | hq
  · obtain ⟨its, r, pl, hz⟩ := I.list hq
    refine SeqAt.in_listAt (eqU x) pl.isList (fun w hw => mem_eqAt rx fx r fs w (by simpa using hw)) ⟨.bl _, H, I, rfl, ?_⟩
    rw [show its.toArray.any (eqU x) = its.any (eqU x) by simp, any_eqU r fs]
    exact q
  · obtain ⟨its, r, pl, hz⟩ := I.tuple hq
    refine SeqAt.in_tupleAt (eqU x) pl (fun w hw => mem_eqAt rx fx r fs w (by simpa using hw)) ⟨.bl _, H, I, rfl, ?_⟩
    rw [show its.toArray.any (eqU x) = its.any (eqU x) by simp, any_eqU r fs]
    exact q
theorem op_notIn_seq : OpR X (compareOp .NotIn) (rIn X.K true) := by
  intro pins s σ H x y v u Q I rx ry h
  obtain ⟨p, xs, rfl, hq, fx, fs, q⟩ := h
  cases ry
  rcases hq with hq | hq
  · obtain ⟨its, r, pl, hz⟩ := I.list hq
    refine SeqAt.notIn_listAt (eqU x) pl.isList (fun w hw => mem_eqAt rx fx r fs w (by simpa using hw)) ⟨.bl _, H, I, rfl, ?_⟩
    rw [show its.toArray.any (eqU x) = its.any (eqU x) by simp, any_eqU r fs]
    exact q
  · obtain ⟨its, r, pl, hz⟩ := I.tuple hq
    refine SeqAt.notIn_tupleAt (eqU x) pl (fun w hw => mem_eqAt rx fx r fs w (by simpa using hw)) ⟨.bl _, H, I, rfl, ?_⟩
    rw [show its.toArray.any (eqU x) = its.any (eqU x) by simp, any_eqU r fs]
    exact q

/-! ### len, list(x), tuple(x) of any list or tuple that is read -/
theorem call_len_seq : CallR X (.builtin "len") (fun xs H Q => ∃ p ys, xs = [.ref p] ∧ (SqL X.K H p ys ∨ SqT X.K H p ys) ∧ Q (.int ys.length) H) := by
  intro pins s σ H xs us Q I r h
  obtain ⟨p, ys, rfl, hq, q⟩ := h
  obtain ⟨u, rfl, rx⟩ := vals1 r
  cases rx
  have hn := line63
  rcases hq with hq | hq
  · obtain ⟨its, r', pl, hz⟩ := I.list hq
    have hlen := r'.length
    exact Calls.call_len_list pl.isList (by simp only [List.size_toArray] <;> omega) ⟨.int ys.length, H, I.tok _, ⟨s.toks + 1, by rw [List.size_toArray, hlen]⟩, q⟩
  · obtain ⟨its, r', pl, hz⟩ := I.tuple hq
    have hlen := r'.length
    exact len_tuple pl (by simp only [List.size_toArray] <;> omega) ⟨.int ys.length, H, I.tok _, ⟨s.toks + 1, by rw [List.size_toArray, hlen]⟩, q⟩
theorem call_len_str : CallR X (.builtin "len") (fun xs H Q => ∃ z, xs = [.str z] ∧ z.length ≤ sizeLine ∧ Q (.int z.length) H) := by
  intro pins s σ H xs us Q I r h
  obtain ⟨z, rfl, hz, q⟩ := h
  obtain ⟨u, rfl, t, rfl⟩ := vals1 r
  have hn := line63
  exact len_str (by omega) ⟨.int z.length, H, I.tok _, ⟨_, rfl⟩, q⟩

/-! ### the call of a builtin's method: o.m(..) -/
/-- the value is of that builtin type -/
def tyV (K : PySem.W.Frag) (T : String) (x : V) (H : Hp) : Prop := match x with
  | .str _ => T = "str"
  | .int _ => T = "int"
  | .ref p => (T = "list" ∧ ∃ xs, SqL K H p xs) ∨ (T = "tuple" ∧ ∃ o, K.lookup p = some o ∧ o.cls = .type "tuple" ∧ o.dict = none) ∨
      (T = "dict" ∧ ((∃ kvs, H p = some (.dK kvs)) ∨ ∃ kvs, H p = some (.dT kvs))) ∨ (T = "set" ∧ ∃ S n, H p = some (.set S n))
  | _ => False
theorem tyV_is {pins : List (Addr × Obj)} {σ : St} {H : Hp} {s : Shared} {T : String} {x : V} {v : Value} (I : Inv X pins σ H s) (r : RelV x v) (ty : tyV X.K T x H) :
    s.TypeIs v T ∧ ∀ a, v = .ref a → ∃ ob, s.heap.get? a = some ob ∧ ob.dict = none := by
  cases x with
  | str z =>
    obtain ⟨t, rfl⟩ := r
    cases (show T = "str" from ty)
    exact ⟨typeIs_str s z t, fun _ e => nomatch e⟩
  | int i =>
    obtain ⟨t, rfl⟩ := r
    cases (show T = "int" from ty)
    exact ⟨typeIs_int s i t, fun _ e => nomatch e⟩
  | ref p =>
    cases r
    rcases ty with ⟨rfl, xs, hq⟩ | ⟨rfl, o, hk, hc, hd⟩ | ⟨rfl, hk⟩ | ⟨rfl, S, n, hk⟩
    · obtain ⟨its, _, pl, _⟩ := I.list hq
      refine ⟨pl.isList.typeIs, fun a e => ?_⟩
      cases e
      obtain ⟨o, n, e, c, hd, _⟩ := pl
      exact ⟨o, e, hd⟩
    · refine ⟨⟨o, I.kIn p o hk, hc⟩, fun a e => ?_⟩
      cases e
      exact ⟨o, I.kIn _ o hk, hd⟩
    · have z : ∃ o, s.heap.get? p = some o ∧ o.ExactDict := by
        rcases hk with ⟨kvs, hk⟩ | ⟨kvs, hk⟩
        · obtain ⟨_, _, _, _, o, _, _, e, ex, _⟩ := I.hok p _ hk
          exact ⟨o, e, ex⟩
        · obtain ⟨_, _, _, _, o, _, _, e, ex, _⟩ := I.hok p _ hk
          exact ⟨o, e, ex⟩
      obtain ⟨o, e, ex⟩ := z
      refine ⟨⟨o, e, ex.1⟩, fun a e2 => ?_⟩
      cases e2
      exact ⟨o, e, ex.2.1⟩
    · obtain ⟨o, _, _, _, e, ex, _⟩ := I.hok p _ hk
      refine ⟨⟨o, e, ex.1⟩, fun a e2 => ?_⟩
      cases e2
      exact ⟨o, e, ex.2.1⟩
  | _ => exact False.elim ty
def tBM0 (K : PySem.W.Frag) (T : String) (r : V → List V → Hp → VK → Prop) (to : TE) : TE := fun σ H Q => to σ H fun x H1 => tyV K T x H1 ∧ r x [] H1 Q
def tBM (K : PySem.W.Frag) (T : String) (r : V → List V → Hp → VK → Prop) (to : TE) (t : TA) : TE := fun σ H Q => to σ H fun x H1 => tyV K T x H1 ∧ t σ H1 fun xs H2 => r x xs H2 Q
variable {o e : Expr} {es : List Expr} {to : TE} {t : TA} {name : Str} {apos cpos : Pos} {T id : String} {r : V → List V → Hp → VK → Prop}
theorem pe_bm0 (pa : PlainAttrs T) (slot : Slot T name id) (hty : typeOf (.builtin id) = pure (.type "method_descriptor")) (hm : MtR X id r) (ho : PE X o to)
    (hbase : attributeBase o name X.env (eval o X.env) = eval o X.env := by rfl) (hline : (apos.endLine == cpos.line) = true := by rfl) : PE X (.Call (.Attribute o name apos) [] [] cpos) (tBM0 X.K T r to) := by
  intro pins s σ H Q I h
  refine wpAny_Call_method0_late hbase hline (thn (ho pins s σ H _ I h) fun v s1 ⟨x, H1, I1, r1, ty, q1⟩ => ?_)
  obtain ⟨h1, h2⟩ := tyV_is I1 r1 ty
  exact ⟨T, id, pa, slot, hty, h1, h2, Calls.callWith_builtin rfl (PySem.evalArgs_none (hm pins s1 σ H1 x [] v [] Q I1 r1 .nil q1))⟩
theorem pe_bm (pa : PlainAttrs T) (slot : Slot T name id) (hty : typeOf (.builtin id) = pure (.type "method_descriptor")) (hm : MtR X id r) (ho : PE X o to) (ha : PA X (e :: es) t)
    (hbase : attributeBase o name X.env (eval o X.env) = eval o X.env := by rfl)
    (hfew : ((backTo cpos (starEach (e :: es) X.env)).all (fun x => !x.1) && (backToKw cpos (keywordEach [] X.env)).all (fun x => x.1.isSome)
      && decide ((e :: es).length + ([] : List Keyword).length + (if ([] : List Keyword).isEmpty then 0 else 1) < 30)) = true := by rfl)
    (hline : (apos.endLine == cpos.line) = true := by rfl) (hs : starEach (e :: es) X.env = (false, eval e X.env) :: starEach es X.env := by rfl) (hplain : (backTo cpos (starEach es X.env)).any (·.1) = false := by rfl) :
    PE X (.Call (.Attribute o name apos) (e :: es) [] cpos) (tBM X.K T r to t) := by
  intro pins s σ H Q I h
  refine wpAny_Call_method_late hbase hfew hline rfl (thn (ho pins s σ H _ I h) fun v s1 ⟨x, H1, I1, r1, ty, q1⟩ => ?_)
  obtain ⟨h1, h2⟩ := tyV_is I1 r1 ty
  refine ⟨T, id, pa, slot, hty, h1, h2, ?_⟩
  have hA := ha cpos pins s1 σ H1 _ I1 q1
  rw [hs] at hA ⊢
  refine Calls.callWith_builtin (by show (false || (backTo cpos (starEach es X.env)).any (·.1)) = false; rw [hplain] <;> rfl) (Calls.evalArgs_plain ?_)
  exact thn hA fun us s2 ⟨vs, H2, I2, r2, q2⟩ => hm pins s2 σ H2 x vs v us Q I2 r1 r2 q2
/- xs.append(e), list.index on a module's tuple .. are MtR facts of 06m -/
end
end L2

namespace L2
open PySem PySem.Spec PyProof.Rows

def MtM (X : Cx) (id : String) (r : V → List V → Hp → VK → Prop) : Prop :=
  ∀ (pins : List (Addr × Obj)) (s : Shared) (σ : St) (H : Hp) (x : V) (xs : List V) (v : Value) (us : List Value) (Q : VK), Inv X pins σ H s → RelV x v → Vals xs us → r x xs H Q →
    wpAny (model X.prog X.w) X.A (call (.builtin id) (v :: us)) (EP X pins σ Q) X.xe s

/-! ### lists of values -/
theorem Vals.one {x : V} {us : List Value} (h : Vals [x] us) : ∃ u, us = [u] ∧ RelV x u := by
  cases h with | cons r t => cases t; exact ⟨_, rfl, r⟩
theorem Vals.two {x y : V} {us : List Value} (h : Vals [x, y] us) : ∃ u v, us = [u, v] ∧ RelV x u ∧ RelV y v := by
  cases h with | cons r t => cases t with | cons q t => cases t; exact ⟨_, _, rfl, r, q⟩
theorem Vals.zero : ∀ {us : List Value}, Vals [] us → us = []
  | _, .nil => rfl
theorem Vals.dropLast {xs : List V} {us : List Value} (h : Vals xs us) : Vals xs.dropLast us.dropLast := by
  induction h with
  | nil => exact .nil
  | cons r t ih =>
    cases t with
    | nil => exact .nil
    | cons q t' => exact .cons r ih
theorem erase_last {α : Type} (l : List α) : l.eraseIdx (l.length - 1) = l.dropLast := by
  induction l with
  | nil => rfl
  | cons a r ih =>
    cases r with
    | nil => rfl
    | cons b r =>
      have e : (a :: b :: r).length - 1 = ((b :: r).length - 1) + 1 := by
        have h1 : (a :: b :: r).length = r.length + 2 := rfl
        have h2 : (b :: r).length = r.length + 1 := rfl
        omega
      rw [e, List.eraseIdx_cons_succ, ih]
      all_goals rfl

section
variable {X : Cx} {pins : List (Addr × Obj)} {σ : St} {H : Hp} {s : Shared} {l b : Addr} {xs ys zs : List V}

/-! ### the two steps: a tracked list is rewritten, a new list is laid -/
theorem Inv.lset {its its' : List Value} {n : Nat} {f : Array Value → Array Value} {t' : Nat} (I : Inv X pins σ H s) (hH : H l = some (.lst xs))
    (e : s.heap.get? l = some { cls := .type "list", data := .seq its.toArray n }) (hf : f its.toArray = its'.toArray) (hv : Vals ys its') (hz : ys.length ≤ sizeLine) :
    Inv X pins σ (upd H l (.lst ys)) { s with heap := s.heap.update l (Obj.mapSeq f), toks := t' } := by
  have q := PySem.IsL.update e f
  rw [hf] at q
  refine I.write (x := l) (e := l) (by rw [hH]; exact trivial) (.inl rfl) (fun b' u hb hu => (Heap.get?_update_other s.heap (Obj.mapSeq f) (Ne.symm hb)).trans hu) ⟨_, q⟩ ?_
  exact ⟨hz, its', _, hv, q⟩
theorem Inv.lnew {its : List Value} {t' : Nat} (I : Inv X pins σ H s) (hv : Vals ys its) (hz : ys.length ≤ sizeLine) :
    Inv X pins σ (upd H s.heap.objs.size (.lst ys)) { s with heap := s.heap.push { cls := .type "list", data := .seq its.toArray }, toks := t' } :=
  I.laid (fun _ _ q => Heap.get?_push_of_some _ q) (Nat.le_refl _) ⟨hz, its, 0, hv, Heap.get?_push_size _ rfl⟩
theorem Inv.fresh (I : Inv X pins σ H s) : H s.heap.objs.size = none := I.hok.fresh (Nat.le_refl _)
theorem Inv.lstM (I : Inv X pins σ H s) (hH : H l = some (.lst xs)) : xs.length ≤ sizeLine ∧ ∃ (its : List Value) (n : Nat), Vals xs its ∧ xs.length = its.length ∧ s.heap.get? l = some { cls := .type "list", data := .seq its.toArray n } := by
  obtain ⟨z, its, n, r, e⟩ := I.hok l _ hH
  exact ⟨z, its, n, r, r.length, e⟩

end

section
variable {X : Cx}

/-! ### methods -/
def rAppend : V → List V → Hp → VK → Prop := fun x vs H Q => ∃ l xs y, x = .ref l ∧ vs = [y] ∧ H l = some (.lst xs) ∧ xs.length < sizeLine ∧ Q .non (upd H l (.lst (xs ++ [y])))
theorem mt_append : MtM X "list.append" rAppend := by
  intro pins s σ H x vs v us Q I rx rv h
  obtain ⟨l, xs, y, rfl, rfl, hH, hz, q⟩ := h
  cases rx
  obtain ⟨u, rfl, ru⟩ := rv.one
  obtain ⟨z, its, n, r, hl, e⟩ := I.lstM hH
  refine call_meets F.slot_list_append ⟨_, e, rfl⟩ F.entry_list_append (F.args_list_append_2 _ _) (PySem.list_append l its.toArray n u (by rw [List.size_toArray]; omega)) ⟨e, ?_⟩
  refine ⟨.non, _, I.lset (its' := its ++ [u]) hH e (by simp) (r.append (.cons ru .nil)) ?_, rfl, q⟩
  rw [List.length_append, List.length_singleton]
  omega


def rPop : V → List V → Hp → VK → Prop := fun x vs H Q => ∃ l xs y, x = .ref l ∧ vs = [] ∧ H l = some (.lst xs) ∧ xs[xs.length - 1]? = some y ∧ Q y (upd H l (.lst xs.dropLast))
theorem mt_pop : MtM X "list.pop" rPop := by
  intro pins s σ H x vs v us Q I rx rv h
  obtain ⟨l, xs, y, rfl, rfl, hH, hy, q⟩ := h
  cases rx
  have hus := rv.zero
  subst hus
  obtain ⟨z, its, n, r, hl, e⟩ := I.lstM hH
  obtain ⟨u, hu, ru⟩ := r.get hy
  have hy' : its.toArray[its.toArray.size - 1]? = some u := by
    show its.toArray[its.length - 1]? = some u
    rw [← Array.getElem?_toList, ← hl]
    exact hu
  refine call_meets F.slot_list_pop ⟨_, e, rfl⟩ F.entry_list_pop (F.args_list_pop_1 _) (MeetsSeq.list_pop_last l its.toArray n u hy' (by rw [List.size_toArray]; omega)) ⟨e, ?_⟩
  refine ⟨y, _, I.lset (its' := its.dropLast) hH e ?_ r.dropLast ?_, ru, q⟩
  · show its.toArray.eraseIdxIfInBounds (its.toArray.size - 1) = its.dropLast.toArray
    rw [List.size_toArray, List.eraseIdxIfInBounds_toArray, erase_last]
  · rw [List.length_dropLast]
    omega




/-! ### list + list, list += list, list * int -/
def rCat : R2 := fun x y H Q => ∃ l b xs zs, x = .ref l ∧ y = .ref b ∧ H l = some (.lst xs) ∧ H b = some (.lst zs) ∧ xs.length + zs.length ≤ sizeLine ∧ ∀ p, H p = none → Q (.ref p) (upd H p (.lst (xs ++ zs)))
theorem op_cat : OpR X (binaryOp .Add) rCat := by
  intro pins s σ H x y v u Q I rx ry h
  obtain ⟨l, b, xs, zs, rfl, rfl, hH, hB, hz, q⟩ := h
  cases rx
  cases ry
  obtain ⟨z, its, n, r, hl, e⟩ := I.lstM hH
  obtain ⟨z2, its2, n2, r2, hl2, e2⟩ := I.lstM hB
  refine PySem.P.add_list e e2 ?_ (by rw [List.size_toArray, List.size_toArray]; omega)
  have ea : its.toArray ++ its2.toArray = (its ++ its2).toArray := by simp
  rw [ea]
  exact ⟨.ref _, _, I.lnew (t' := s.toks) (r.append r2) (by rw [List.length_append]; omega), rfl, q _ I.fresh⟩

/-! ### del xs[i] -/
end

/-! ### xs[a:b] = ys -/
section
variable {prog : Program} {w : World} {A : Around} {E : Value → Shared → Prop} {s : Shared}
end

section
variable {X : Cx}
end
end L2

namespace L2
open PySem PySem.Spec PyProof.Rows

/-! ### lists of pairs as tables -/
section
variable {κ : Type} [DecidableEq κ]



end


/-! ### a tracked dict, its keys ints and texts or tuples of these -/


section
variable {P : Program} {w : World} {H : Hp} {h : Heap} {a : Addr}
end



section
variable {X : Cx} {pins : List (Addr × Obj)} {σ : St} {H : Hp} {s : Shared} {a : Addr} {y v : V} {u r : Value} {o : Option V} {A : Around} {E : Value → Shared → Prop}


end

section
variable {X : Cx} {pins : List (Addr × Obj)} {σ : St} {H : Hp} {s : Shared} {a : Addr} {kvs : List (Key × V)} {k : Key} {u : Value} {A : Around} {E : Value → Shared → Prop}
end


/-! ### readings and rules -/



section
variable {X : Cx} {o i e value : Expr} {pos pos' tpos : Pos} {td ty tv : TE}
end


/-! ### displays -/
section
variable {X : Cx} {pos : Pos}
end




/-! ### methods -/


section
variable {X : Cx} {pins : List (Addr × Obj)} {σ : St} {H : Hp} {s : Shared} {a : Addr} {y d : V} {u r : Value} {o : Option V} {A : Around} {E : Value → Shared → Prop}
end

section
variable {X : Cx} {o e f : Expr} {apos cpos : Pos} {td ty tx : TE}
end

/-! ### dict(d): a copy -/
section
variable {X : Cx} {pins : List (Addr × Obj)} {σ : St} {H : Hp} {s : Shared} {a : Addr} {kvs : List (Key × V)} {A : Around} {E : Value → Shared → Prop}
end


section
variable {X : Cx} {pins : List (Addr × Obj)} {σ : St} {H : Hp} {s : Shared} {a : Addr} {y : V} {u : Value} {A : Around} {E : Value → Shared → Prop}
end
end L2

namespace Att
open PySem PySem.W PySem.Calls PyProof.Rows

/-! ### the script -/
theorem ints_of_wellAll {P : Params} {h : Heap} : ∀ (ns : List Int) (vs : List Value), WellAll P h vs (ns.map WData.int) → IntsAre vs ns := by
  intro ns
  induction ns with
  | nil =>
    intro vs w
    rw [List.map_nil] at w
    cases w
    exact .nil
  | cons n ns ih =>
    intro vs w
    rw [List.map_cons] at w
    cases w with
    | cons a b =>
      cases a
      exact .cons _ _ (ih _ b)

theorem script_of {l : OpenLaw} {n : Nat} (hn : l.most = some n) {P : Params} {h : Heap} {args : List WData} {vals : List Value}
    (hpre : l.row.toRowW.claim.pre args = true) (hwl : WellAll P h vals args) :
    ∃ a vs ns, vals = [Value.ref a] ∧ args = [WData.list (ns.map WData.int)] ∧ h.get? a = some { cls := .type "list", data := .seq vs.toArray } ∧ IntsAre vs ns ∧ ns.length ≤ n := by
  have hsh : WShape.hasAll [] args [.list .int] = true := (pre_splitW hpre).1
  have hc : l.pre.holds [] { args := args } = true := (pre_splitW hpre).2
  obtain ⟨d, r, rfl, h1, h2⟩ := hasAllW_cons hsh
  obtain rfl := hasAllW_nil h2
  obtain ⟨xs, rfl, h3⟩ := hasW_list h1
  obtain ⟨ns, rfl⟩ := items_int h3
  have hlen : ns.length ≤ n := by
    unfold OpenLaw.pre at hc
    have h4 : (WTm.not (.lt (.lit (.int (n : Int))) (.len (.arg 0)))).holds [] { args := [.list (ns.map .int)] } = true := by
      have h4 := (holds_andW hc).1
      rw [hn] at h4
      exact h4
    have h5 := condW_of h4 (w_not (w_lt w_lit (w_len_list (w_arg rfl))))
    rw [List.length_map] at h5
    refine Nat.le_of_not_lt fun q => ?_
    have q' : (n : Int) < ((ns.length : Nat) : Int) := by omega
    first
      | (rw [decide_eq_true q'] at h5; exact absurd h5 (by decide))
      | (simp at h5; omega)
  cases hwl with
  | cons w1 w2 =>
    cases w2
    cases w1 with
    | list ho hall => exact ⟨_, _, ns, rfl, rfl, ho, ints_of_wellAll ns _ hall, hlen⟩

theorem post_true (l : OpenLaw) (args : List WData) : l.row.toRowW.claim.post args (.bool true) args = true :=
  postW_of (r := l.row.toRowW) (X := (true == true))
    (show WShape.has [] (.bool true) .bool = true by first | rfl | decide | simp [WShape.has, WShape.arms, WShape.armsAll])
    (show (WTm.eq .res (.lit (.bool true))).value [] { args := args, res := some (.bool true), after := args } = some (.bool (true == true)) from w_eq_bool (w_res rfl) w_lit) rfl

/-! ### the attachment: holds_open's last premise (the goal 'hc' behind k_head) from a wpAny of the law's body -/



/-! ### rules over ANY heap (no ledger) from facts about the written part K: the library's own take a ledger (News) for what they write -/
section
variable {prog : Program} {w : World} {A : Around} {E : Value → Shared → Prop} {s : Shared} {K : Frag}





/-! the whole heap as the ledger: makes every rule that writes through a ledger a rule over any heap -/

end
end Att

namespace L2
open PySem PySem.Spec PyProof.Rows

theorem vals_ints : ∀ {vs : List Value} {ns : List Int}, IntsAre vs ns → Vals (ns.map V.int) vs
  | _, _, .nil => .nil
  | _, _, .cons n t h => .cons ⟨t, rfl⟩ (vals_ints h)

/-- nothing is tracked but the script, known to the object (or it is an object of the module) -/
def Only (H : Hp) : Prop := ∀ b, H b = none ∨ ∃ o xs, H b = some (.frz o (.lst xs))

/-- THE HEAD: the law's promise, at the heap behind the top. F, the promise of the law's def, may use that base is part of the heap (so K.In base, base.Ns mainGlobals mg stand in Mod) -/
theorem law_call {P : Program} {w : World} {K : PySem.W.Frag} {mg mb : Str → Option Value} {CX : CXT} {k : Nat} {fa a : Addr} {fd : FuncData} {x : Str} {sp : Sp} {s₁ : Shared} {vs : List Value} {ns : List Int}
    (KX : K.In s₁.heap) (hns : s₁.heap.Ns mainGlobals mg) (hb : s₁.heap.Ns builtinsNs mb) (hbb : ∀ x : Str, x ≠ "__name__" → mb x = bootBuiltins x) (hlim : s₁.heap.NoLimit) (hg : s₁.gens = #[])
    (ha : s₁.heap.get? a = some { cls := .type "list", data := .seq vs.toArray }) (hi : IntsAre vs ns) (hl : ns.length ≤ sizeLine) (hr : Room k callerA)
    (F : ∀ base : Heap, K.In base → base.Ns mainGlobals mg → FnOk P w K mg base CX k fa fd [x] sp) (hbind : ∀ (s : Shared) (u : Value), BindsTo s fd ⟨[u], []⟩ [(x, u)])
    (hsp : ∀ H : Hp, Only H → SqL K H a (ns.map V.int) → sp [.ref a] H (fun v _ => v = .bl true) fun _ _ _ => False)
    (hCX : ∀ H e s', CX [] H s₁ (fun _ _ _ => False) e s' → False) :
    codeAny (model P w) callerA (.call (.ref fa) ⟨[.ref a], []⟩) (fun r s' => r = .ok (.ret (.bool true)) ∧ OldK s₁.heap s'.heap ∧ s'.os = s₁.os ∧ AllBare s'.gens) s₁ := by
  have rv := vals_ints hi
  have lenV := hi.length
  -- from an abstract heap in which nothing but the script may be tracked
  have core : ∀ H : Hp, Only H → SqL K H a (ns.map V.int) → HOk P w H s₁.heap → (∀ b, H b ≠ none → b = a) → (H a ≠ none → K.lookup a = none) →
      codeAny (model P w) callerA (.call (.ref fa) ⟨[.ref a], []⟩) (fun r s' => r = .ok (.ret (.bool true)) ∧ OldK s₁.heap s'.heap ∧ s'.os = s₁.os ∧ AllBare s'.gens) s₁ := by
    intro H hO hS hok hA hK
    have base_of : ∀ {b : Addr} {o : Obj}, s₁.heap.get? b = some o → H b = none → (hidT s₁.heap H).get? b = some o := fun e n => hidT_get e n
    have noA : ∀ {b : Addr} {o : Obj} {es : Array DictEntry} {ep : Nat}, s₁.heap.get? b = some o → o.data = .dict es ep → H b = none := fun {b o es ep} e d => by
      cases q : H b with
      | none => rfl
      | some u =>
        have e' : b = a := hA b (by rw [q]; simp)
        subst e'
        rw [ha] at e; cases e
        have d' : Data.seq vs.toArray _ = Data.dict es ep := d
        cases d'
    have nsK : ∀ {b : Addr} {m : Str → Option Value}, s₁.heap.Ns b m → (hidT s₁.heap H).Ns b m := fun {b m} ⟨o, es, ep, e, d, r⟩ => ⟨o, es, ep, base_of e (noA e d), d, r⟩
    have hKb : K.In (hidT s₁.heap H) := fun b o e => base_of (KX b o e) (by
      cases q : H b with
      | none => rfl
      | some u =>
        have e' : b = a := hA b (by rw [q]; simp)
        subst e'
        rw [hK (by rw [q]; simp)] at e; cases e)
    have hM : Mod K mg (hidT s₁.heap H) := ⟨hKb, nsK hns, ⟨mb, nsK hb, hbb⟩, let ⟨mc, h1, h2⟩ := hlim; ⟨mc, nsK h1, h2⟩⟩
    have e0 : Env0 P w K mg (hidT s₁.heap H) callerA [] s₁ H := ⟨rfl, hM, fun b o e => of_hidT e, Nat.le_of_eq (hidT_size _ _), trivial, fun b hb => absurd (show b ∈ ([] : List Addr) from hb) (by simp), hok, .of_eq hg⟩
    refine codeAny_mono ((F _ hKb (nsK hns)).run callerA [] s₁ H ⟨[.ref a], []⟩ [.ref a] [.ref a] _ _ hr e0 (hbind s₁ (.ref a)) (.cons rfl .nil) (hsp H hO hS)) fun r s' h => ?_
    cases r with
    | error e => exact (hCX H e s' h).elim
    | ok fl =>
      cases fl with
      | next => exact False.elim h
      | brk => exact False.elim h
      | cont => exact False.elim h
      | ret u =>
        obtain ⟨v, H', os, bare, un, hok', r', q⟩ := h
        have q' : v = .bl true := q
        subst q'
        obtain rfl : u = Value.bool true := r'
        refine ⟨rfl, OldK.of_keep fun b o e => ?_, os, bare⟩
        cases q : H b with
        | none => exact un.keep b o e q (by intro z; exact absurd (show b ∈ ([] : List Addr) from z) (by simp)) (by simp)
        | some u =>
          rcases hO b with z | ⟨ob, xs, z⟩
          · rw [q] at z; cases z
          · have z2 := un.frzs b ob _ z
            obtain ⟨e1, _⟩ := hok b _ z
            obtain ⟨e2, _⟩ := hok' b _ z2
            rw [e] at e1; cases e1
            exact e2
  cases hk : K.lookup a with
  | some o =>
    -- the script is one of the module's own objects
    have e := KX a o hk
    rw [ha] at e
    cases e
    refine core (fun _ => none) (fun _ => .inl rfl) (.inr ⟨_, vs.toArray, _, hk, rfl, rfl, rfl, by rw [List.size_toArray, lenV]; exact hl, by simpa using rv⟩) (fun b u z => by have z' : (none : Option HO) = some u := z; cases z') (fun b z => absurd rfl z) fun z => absurd rfl z
  | none =>
    refine core (fun b => if b = a then some (.frz { cls := .type "list", data := .seq vs.toArray } (.lst (ns.map V.int))) else none) (fun b => ?_) (.inl (.inr ⟨{ cls := .type "list", data := .seq vs.toArray }, if_pos rfl⟩)) (fun b u z => ?_) (fun b z => ?_) fun _ => hk
    · by_cases hb : b = a
      · exact .inr ⟨_, _, if_pos hb⟩
      · exact .inl (if_neg hb)
    · by_cases hb : b = a
      · have z' := (if_pos hb).symm.trans z
        cases z'
        subst hb
        exact ⟨ha, by rw [List.length_map]; exact hl, vs, _, rv, ha⟩
      · have z' := (if_neg hb).symm.trans z
        cases z'
    · by_cases hb : b = a
      · exact hb
      · exact absurd (if_neg hb) z
end L2

namespace L2
open PySem PySem.Spec PyProof.Rows


end L2

/- THE LAST THEOREM (shape; LID, My.* are yours):
   My.Adr: a structure of the addresses that your layer names (classes, functions); My.Txt K t: a structure (Prop) of the equations over K;
   My.txt_mk : {K} {implicit addresses ..} (e1 : nsIn K mainGlobals "law" = some (some (.ref f))) (e2 : K.lookup f = some ⟨oc, od, .func (fnOf "law" "law" params body scope dV kV doc pm an cdv ct), sl⟩) (e3 : codeIn K cdv "law" = true) .. : ∃ t, My.Txt K t

set_option maxRecDepth 100000 in
set_option maxHeartbeats 0 in
theorem PySem.Challenge.cw_LID_holds : PySem.Challenge.rw_LID.Holds := by
  w_on; o_law; k_head; (case hw => w_witness2)
  k_fill
  refine L2.walk_of (l := PySem.Challenge.rw_LID) (n := 63) (k := 40) (x := "script") (CX := fun w => ..) (sp := fun _ => My.sp_law) rfl (by decide) rfl ⟨rfl, by decide, by decide⟩ (fun w h Y => PySem.W.kIn_of Y) ?F ?S ?C
  case F =>
    intro w mg fa h KX G hmg
    have T : ∃ t, My.Txt (L2.KOf KX) t := by
      dsimp only [L2.KOf]                          -- K must stand as «<heap const> w.params» for k_is
      refine' My.txt_mk ?e1 ?e2 ?e3 ..
      (case e1 => PySem.W.k_is)                    -- in the order: a name -> its address -> its object -> its parts
      (case e2 => PySem.W.k_is)
      ..
    obtain ⟨t, T⟩ := T
    have e0 := hmg.symm.trans (PySem.W.mg_of KX G T.law)
    cases e0                                       -- fa is the law's own address
    exact ⟨_, fun s u => .of_eq rfl, fun base kb nb => My.law_fn T kb nb⟩     -- if «.of_eq rfl» comes too early: refine' ⟨_, ?b, fun base kb nb => My.law_fn T kb nb⟩; exact fun s u => .of_eq rfl
  case S => exact fun w H a ns hl hO hS => ..
  case C => exact ..
(the tactic k_is has no namespace: write k_is) -/

/-! SHORT WORDS over the layer: a def of the text, its body, what a loop and a test want. -/
namespace L2
open PySem PySem.Spec PyProof.Rows

/-! ### the text by places -/
def defArgs (s : Stmt) : Arguments := match s with
  | .FunctionDef _ a _ _ _ _ _ _ _ _ => a
  | _ => { posonlyargs := [], args := [], vararg := none, kwonlyargs := [], kw_defaults := [], kwarg := none, defaults := [] }
def defBody (s : Stmt) : List Stmt := match s with
  | .FunctionDef _ _ b _ _ _ _ _ _ _ => b
  | _ => []
def defScope (s : Stmt) : Scope := match s with
  | .FunctionDef _ _ _ _ _ _ sc _ _ _ => sc
  | _ => { kind := .function, names := [], isGenerator := false, isCoroutine := false }

/-! ### no exception leaves a def -/
abbrev CX0 : CXT := fun _ _ _ _ _ _ => False
abbrev E0 : XK := fun _ _ _ => False
theorem pass0 {X : Cx} : Passes CX0 X E0 := fun _ _ _ _ _ _ _ h => h.elim

/-! ### a def (or method) of the text as it stands behind the top -/
structure Fun (K : PySem.W.Frag) (x qual : Str) (st : Stmt) (f : Addr) (fd : FuncData) : Prop where
  ex : ∃ (oc : Value) (od : Option Addr) (kV doc pm : Value) (an : Option Addr) (cdv ct : Value) (osl : Array (Option Value)),
    fd = PySem.W.fnOf x qual (defArgs st) (defBody st) (defScope st) .none kV doc pm an cdv ct ∧ K.lookup f = some ⟨oc, od, .func fd, osl⟩ ∧ PySem.W.codeIn K cdv qual = true
  kp : PySem.W.keepIn K (.ref f) = true
section
variable {P : Program} {w : World} {K : PySem.W.Frag} {mg : Str → Option Value} {base : Heap}
/-- THE RULE for a def: its body as a term of rules, and the reading of that term -/
theorem Fun.ok {x qual : Str} {st : Stmt} {f : Addr} {fd : FuncData} {N ps : List Str} {k : Nat} {sp : Sp} (F : Fun K x qual st f fd) (S : FnScope N ps (defScope st)) (len : ∀ vs H Q E, sp vs H Q E → vs.length = ps.length)
    (hbody : ∀ (cdv : Value) (A : Around) (outer : List Env) (s : Shared) (H : Hp) (vs : List V) (Q : VK) (E : XK), Room k (A.deeper (envOfC qual (defScope st) s.heap.objs.size f cdv)) → sp vs H Q E →
      ∃ t, PSs (cxOf CX0 P w K mg base N qual (defScope st) f cdv A outer s H E).nox (defBody st) t ∧ t { nx := fun _ H' => Q .non H', rt := Q } (start N vs) H) : FnOk P w K mg base CX0 (k + 1) f fd ps sp := by
  obtain ⟨oc, od, kV, doc, pm, an, cdv, ct, osl, rfl, lk, hcd⟩ := F.ex
  refine fn_of lk hcd S len fun A outer s H vs Q E hr hsp => ?_
  obtain ⟨t, h, q⟩ := hbody cdv A outer s H vs Q E hr hsp
  exact ⟨t, h.nox, q⟩
/-- how its arguments bind (no defaults): h is «fun _ _ _ _ _ _ us hl => match us, hl with | [_, _], _ => rfl», one _ a parameter -/
theorem Fun.binds {x qual : Str} {st : Stmt} {f : Addr} {fd : FuncData} {ps : List Str} (F : Fun K x qual st f fd)
    (h : ∀ (kV doc pm : Value) (an : Option Addr) (cdv ct : Value) (us : List Value), us.length = ps.length → bindArgs (PySem.W.fnOf x qual (defArgs st) (defBody st) (defScope st) .none kV doc pm an cdv ct) ⟨us, []⟩ = pure (ps.zip us)) : Binds K fd ps [] := by
  obtain ⟨oc, od, kV, doc, pm, an, cdv, ct, osl, rfl, lk, hcd⟩ := F.ex
  exact .all (h kV doc pm an cdv ct)
theorem fun_mk {x qual : Str} {st : Stmt} {f : Addr} {oc : Value} {od an : Option Addr} {osl : Array (Option Value)} {kV doc pm cdv ct : Value} (l : K.lookup f = some ⟨oc, od, .func (PySem.W.fnOf x qual (defArgs st) (defBody st) (defScope st) .none kV doc pm an cdv ct), osl⟩)
    (c : PySem.W.codeIn K cdv qual = true) (k : PySem.W.keepIn K (.ref f) = true) : Fun K x qual st f (PySem.W.fnOf x qual (defArgs st) (defBody st) (defScope st) .none kV doc pm an cdv ct) := ⟨⟨oc, od, kV, doc, pm, an, cdv, ct, osl, rfl, l, c⟩, k⟩
end
theorem hu_of {A : Around} {k : Nat} (hr : Room k A) : A.units + 1 < cLine := Nat.lt_of_le_of_lt (Nat.add_le_add_left (by decide : 1 ≤ 64) _) hr.units

/-! ### expressions in short: the name that stands in the i-th slot -/
section
variable {X : Cx}
theorem pv (i : Nat) {x : Str} {pos : Pos} (hN : X.N[i]? = some x := by rfl) (hv : Vis X.env.scope x := by first | exact Or.inl rfl | exact Or.inr (Or.inl rfl) | exact Or.inr (Or.inr rfl)) (hd : (x == ("__debug__" : Str)) = false := by decide)
    (hcd : (x == ("__classdict__" : Str)) = false := by decide) : PE X (.Name x pos) (tVar i) := pe_var hN hv hd hcd
end

/-! ### tests -/
theorem iteF {A B : Prop} (h : B) : if false = true then A else B := by
  rw [if_neg Bool.false_ne_true]
  exact h
theorem iteT {A B : Prop} (h : A) : if true = true then A else B := by
  rw [if_pos rfl]
  exact h
theorem ite2 {c A B : Prop} [Decidable c] (h1 : c → A) (h2 : ¬ c → B) : if c then A else B := by
  by_cases h : c
  · rw [if_pos h]
    exact h1 h
  · rw [if_neg h]
    exact h2 h

/-! ### heaps -/
/-- all that was tracked is as it was -/
def Same (H H' : Hp) : Prop := ∀ b o, H b = some o → H' b = some o
theorem Same.refl (H : Hp) : Same H H := fun _ _ h => h
theorem Same.trans {H H1 H2 : Hp} (a : Same H H1) (b : Same H1 H2) : Same H H2 := fun c o h => b c o (a c o h)

end L2


namespace L2
open PySem PySem.Spec PyProof.Rows
section
variable {X : Cx}
end
/-! ### a dict's pairs: keys that differ -/
section
variable {κ : Type} [DecidableEq κ]
end
end L2


namespace OF
/-! a dict of ints by ints -/
/-! what the loop over a list leaves: the dict of all sums -/
/-! is it a form -/
end OF

namespace L2
open PySem PySem.Spec PyProof.Rows
section
variable {X : Cx}
/-! ### ints of any size -/
def CDivG (i j : Int) : Prop := 0 < j ∧ j.natAbs.log2 < 9000
theorem op_fdivG : OpR X (binaryOp .FloorDiv) (rI CDivG fun i j => .int (i / j)) := opI fun i j _ _ _ _ _ hc q => by
  have h1 : (0 : Int) < j := hc.1
  have e : i.fdiv j = i / j := Int.fdiv_eq_ediv_of_nonneg i (Int.le_of_lt h1)
  exact floordiv_int (Int.ne_of_gt h1) (by rw [e]; exact q) (.inl (PyProof.noPylong_of_log2 hc.2))
theorem op_mulO : OpR X (binaryOp .Mult) (rI IntMulOk fun i j => .int (i * j)) := opI fun _ _ _ _ _ _ _ hc q => mul_int q hc
theorem divG_of {j : Int} (h1 : 0 < j) (h2 : j < 2 ^ 250) : 0 < j ∧ j.natAbs.log2 < 9000 := by
  refine ⟨h1, ?_⟩
  have h3 : j.natAbs < 2 ^ 250 := by
    have e : (j.natAbs : Int) = j := by omega
    have : ((j.natAbs : Nat) : Int) < ((2 ^ 250 : Nat) : Int) := by rw [e]; (have q : ((2 ^ 250 : Nat) : Int) = (2 : Int) ^ 250 := by norm_cast); rw [q]; exact h2
    exact Int.ofNat_lt.mp this
  have h4 : j.natAbs ≠ 0 := by omega
  have := (Nat.log2_lt h4).mpr h3
  omega
/-! ### isinstance(x, T) -/
/-! ### sum of a list of ints -/
/-! ### list.insert(i, x) -/
end
end L2

namespace L2
open PySem PySem.Spec PyProof.Rows
theorem ObjOk.there {P : Program} {w : World} {H : Hp} {h : Heap} {a : Addr} {o : HO} (x : ObjOk P w H h a o) : ∃ ob, h.get? a = some ob := by
  cases o with
  | lst xs => obtain ⟨_, _, _, _, e⟩ := x; exact ⟨_, e⟩
  | tup xs => obtain ⟨_, _, _, o, e, _⟩ := x; exact ⟨_, e⟩
  | dK kvs => obtain ⟨_, _, _, _, o, _, _, e, _⟩ := x; exact ⟨_, e⟩
  | dT kvs => obtain ⟨_, _, _, _, o, _, _, e, _⟩ := x; exact ⟨_, e⟩
  | set S n => obtain ⟨o, _, _, _, e, _⟩ := x; exact ⟨_, e⟩
  | ins C dx fs => obtain ⟨_, _, _, e, _⟩ := x; exact ⟨_, e⟩
  | own y => exact x
  | xd fs => obtain ⟨_, ⟨_, _, _, e, _⟩, _⟩ := x; exact ⟨_, e⟩
  | rng lo hi => obtain ⟨_, _, _, e⟩ := x; exact ⟨_, e⟩
  | frz ob u => obtain ⟨e, _⟩ := x; exact ⟨_, e⟩
  | tbl ps => exact ⟨_, x⟩
  | met f y => exact ⟨_, x⟩
  | ext φ => obtain ⟨_, e, _⟩ := x; exact e
section
variable {prog : Program} {w : World} {A : Around} {R : Result → Shared → Prop} {s : Shared}
end
end L2

namespace OS
open PySem PyProof.Rows
/-- what a sort asks of its keys: a number of each, what is a key, the kind of sort -/
class KO where
  num : Value → Int
  ok : Value → Prop
  kind : SortKind
/-- the sort's question goes by the numbers -/
class KL [KO] (prog : Program) (w : World) (A : Around) (s : Shared) : Prop where
  lt : ∀ {E : Value → Shared → Prop} {Q : Bool → Shared → Prop} {u v : Value}, KO.ok u → KO.ok v → Q (decide (KO.num u < KO.num v)) s → wpAny (model prog w) A (keyLt' KO.kind u v) Q E s
variable [KO]
section
variable {prog : Program} {w : World} {A : Around} {E : Value → Shared → Prop} {s : Shared} [KL prog w A s]
end
end OS

namespace OS
open PySem PyProof.Rows
variable [KO]
section
variable {prog : Program} {w : World} {A : Around} {E : Value → Shared → Prop} {s : Shared} [KL prog w A s]
end
end OS

namespace OS
open PySem PyProof.Rows
variable [KO]
section
variable {prog : Program} {w : World} {A : Around} {E : Value → Shared → Prop} {s : Shared} [KL prog w A s]
end
end OS

namespace OS
open PySem PyProof.Rows
variable [KO]
section
variable {prog : Program} {w : World} {A : Around} {E : Value → Shared → Prop} {s : Shared} [KL prog w A s]
end
end OS

namespace OS
open PySem PyProof.Rows
variable [KO]
section
variable {σ : Type} {α β : Type}
end
section
variable {prog : Program} {w : World} {A : Around} {E : Value → Shared → Prop} {s : Shared} [KL prog w A s] {a : Array Keyed} {pd : Array (Nat × Nat × Nat)} {lo : Nat}
end
end OS

namespace OS
open PySem PyProof.Rows
variable [KO]
section
variable {prog : Program} {w : World} {A : Around} {E : Value → Shared → Prop} {s : Shared} [KL prog w A s] {a₀ : Array Keyed}
end
end OS

namespace OS
open PySem PyProof.Rows
section
variable {prog : Program} {w : World} {A : Around} {E : Value → Shared → Prop} {s : Shared}
end
end OS

namespace L2
open PySem PySem.Spec PyProof.Rows
/-! ### lists of tuples of two ints -/
theorem Same.upd {p : Addr} {H : Hp} {o : HO} (h : H p = none) : Same H (upd H p o) := fun c o' e => by rw [upd_ne (ne_of_none e h)]; exact e
/-! ### == and != -/
section
variable {X : Cx} {pins : List (Addr × Obj)} {σ : St} {H : Hp} {s : Shared}
end
section
variable {X : Cx}
/-! ### sorted(d), d a dict of ints -/
end
end L2

namespace L2
open PySem PySem.Spec PyProof.Rows
theorem bits_of_weight : ∀ (ns : List Int), PySem.W.WData.weightAll (ns.map PySem.W.WData.int) ≤ 2 ^ 20 → ∀ n ∈ ns, Builtin.Int.intBits n ≤ 2 ^ 20
  | [], _, _, h => by simp at h
  | m :: r, hw, n, hn => by
    have e : PySem.W.WData.weightAll ((m :: r).map PySem.W.WData.int) = PySem.W.WData.weight (.int m) + 1 + PySem.W.WData.weightAll (r.map PySem.W.WData.int) := rfl
    rw [e] at hw
    rcases List.mem_cons.mp hn with z | z
    · subst z
      have e2 : PySem.W.WData.weight (.int n) = if n == 0 then 0 else n.natAbs.log2 + 1 := rfl
      rw [e2] at hw
      unfold Builtin.Int.intBits
      split at hw <;> split <;> simp_all <;> omega
    · exact bits_of_weight r (by omega) n z
/-- as walk_of, and the script's ints have at most 2 ^ 20 bits -/
theorem walk_ofB {l : PySem.W.OpenLaw} {n k : Nat} {q : Program} {loose : List Str} {XP : (Str → Option Value) → Heap → Prop} {YP : World → Heap → Prop} {d : DefRec} {K : Params → PySem.W.Frag} {CX : World → CXT} {sp : World → Sp} {x : Str}
    (hn : l.most = some n) (hn2 : n ≤ sizeLine) (hdf : d.params.defaults = []) (hr : Room k callerA)
    (hY : ∀ (w : World) (h : Heap), YP w h → (K w.params).In h)
    (F : ∀ (w : World) (mg : Str → Option Value) (fa : Addr) (h : Heap), (K w.params).In h → h.Ns mainGlobals mg → mg d.name = some (.ref fa) →
      ∃ fd : FuncData, (∀ (s : Shared) (u : Value), BindsTo s fd ⟨[u], []⟩ [(x, u)]) ∧
        ∀ base : Heap, (K w.params).In base → base.Ns mainGlobals mg → FnOk l.prog w (K w.params) mg base (CX w) k fa fd [x] (sp w))
    (hsp : ∀ (w : World) (H : Hp) (a : Addr) (ns : List Int), ns.length ≤ n → (∀ z ∈ ns, Builtin.Int.intBits z ≤ 2 ^ 20) → Only H → SqL (K w.params) H a (ns.map V.int) → sp w [.ref a] H (fun v _ => v = .bl true) fun _ _ _ => False)
    (hCX : ∀ (w : World) (H : Hp) (s : Shared) (e : Value) (s' : Shared), CX w [] H s (fun _ _ _ => False) e s' → False) :
    PySem.W.WalkO q loose XP YP l.row.toRowW d [] (fun f vs => PySem.call f vs) := by
  intro w s₀ s₁ mg mb G Y fa o pm cd doc dV kV ho hd hcd hD hmg hg args vals as hpre hlay hrd hwl hlo
  obtain rfl : dV = .none := PySem.W.Dflts.none hD hdf
  obtain rfl : kV = .none := PySem.W.Dflts.noKw hD
  obtain ⟨a, vs, ns, rfl, rfl, hobj, hints, hlen⟩ := Att.script_of hn hpre hwl
  have hbits : ∀ z ∈ ns, Builtin.Int.intBits z ≤ 2 ^ 20 := by
    have h1 : (PySem.W.WData.list (ns.map PySem.W.WData.int)).layable = true := List.all_eq_true.mp hlay _ (by simp)
    have h2 := of_decide_eq_true (Bool.and_eq_true_iff.mp h1).2
    exact bits_of_weight ns h2
  have KX := hY w _ Y
  obtain ⟨fd, hb, hF⟩ := F w mg fa _ KX G.T.g hmg
  refine PySem.W.enter_call (codeAny_mono (law_call KX G.T.g G.T.b G.T.builtins G.T.nolimit hg hobj hints (Nat.le_trans hlen hn2) hr hF hb (fun H hO hS => hsp w H a ns hlen hbits hO hS) fun H e s' => hCX w H s₁ e s') fun r s' hq => ?_)
  obtain ⟨rfl, h2, h3, h4⟩ := hq
  exact ⟨.inl ⟨.bool true, .bool true, [], rfl, fun _ => rfl, .bool true, Att.post_true l _, fun _ => ⟨List.Pairwise.nil, fun _ hm => (nomatch hm)⟩⟩, h2, h3, h4⟩
/-! ### a dict of ints -/
/-! ### a tuple put to the end of a list -/
end L2

namespace OF
open PySem
end OF
namespace L2
open PySem PySem.Spec PyProof.Rows
theorem iteN {c A B : Prop} [Decidable c] (h : ¬ c) (b : B) : if c then A else B := by rw [if_neg h]; exact b
theorem iteY {c A B : Prop} [Decidable c] (h : c) (a : A) : if c then A else B := by rw [if_pos h]; exact a
end L2

namespace L2
open PySem PySem.Spec PyProof.Rows
section
variable {X : Cx} {e st : Expr} {te : TE} {to : TO} {p2 pos : Pos}
end
end L2
namespace OF
theorem nodup_sub_len : ∀ {l B : List Int}, l.Nodup → (∀ x ∈ l, x ∈ B) → l.length ≤ B.length
  | [], _, _, _ => Nat.zero_le _
  | a :: r, B, hn, hs => by
    have h1 := List.nodup_cons.mp hn
    have ha := hs a (by simp)
    have h2 : r.length ≤ (B.erase a).length := nodup_sub_len h1.2 fun x hx => by
      have hne : x ≠ a := fun z => h1.1 (z ▸ hx)
      exact (List.mem_erase_of_ne hne).mpr (hs x (by simp [hx]))
    have h3 := List.length_erase_of_mem ha
    have h4 : 0 < B.length := List.length_pos_of_mem ha
    rw [List.length_cons]
    omega
end OF

namespace L2
open PySem PySem.Spec PyProof.Rows
/-- data: what a value is, its parts told -/
inductive D where
  | non | bl (b : Bool) | int (n : Int) | str (x : Str) | tup (ds : List D) | lst (ds : List D)
mutual
def Is (H : Hp) : V → D → Prop
  | v, .non => v = .non
  | v, .bl b => v = .bl b
  | v, .int n => v = .int n
  | v, .str x => v = .str x
  | v, .tup ds => ∃ a xs, v = .ref a ∧ H a = some (.tup xs) ∧ IsDs H xs ds
  | v, .lst ds => ∃ a xs, v = .ref a ∧ H a = some (.lst xs) ∧ IsDs H xs ds
def IsDs (H : Hp) : List V → List D → Prop
  | xs, [] => xs = []
  | xs, d :: ds => ∃ x r, xs = x :: r ∧ Is H x d ∧ IsDs H r ds
end
mutual
theorem Is.keep {H H' : Hp} (k : Same H H') : ∀ {v : V} {d : D}, Is H v d → Is H' v d
  | v, .non, h => by unfold Is at *; exact h
  | v, .bl _, h => by unfold Is at *; exact h
  | v, .int _, h => by unfold Is at *; exact h
  | v, .str _, h => by unfold Is at *; exact h
  | v, .tup ds, h => by
    unfold Is at *
    obtain ⟨a, xs, e, h1, h2⟩ := h
    exact ⟨a, xs, e, k _ _ h1, IsDs.keep k h2⟩
  | v, .lst ds, h => by
    unfold Is at *
    obtain ⟨a, xs, e, h1, h2⟩ := h
    exact ⟨a, xs, e, k _ _ h1, IsDs.keep k h2⟩
theorem IsDs.keep {H H' : Hp} (k : Same H H') : ∀ {xs : List V} {ds : List D}, IsDs H xs ds → IsDs H' xs ds
  | xs, [], h => by unfold IsDs at *; exact h
  | xs, d :: ds, h => by
    unfold IsDs at *
    obtain ⟨x, r, e, h1, h2⟩ := h
    exact ⟨x, r, e, Is.keep k h1, IsDs.keep k h2⟩
end
theorem IsDs.length {H : Hp} : ∀ {xs : List V} {ds : List D}, IsDs H xs ds → xs.length = ds.length
  | xs, [], h => by unfold IsDs at h; rw [h]; rfl
  | xs, d :: ds, h => by
    unfold IsDs at h
    obtain ⟨x, r, rfl, _, h2⟩ := h
    rw [List.length_cons, List.length_cons, IsDs.length h2]
theorem IsDs.at {H : Hp} : ∀ {xs : List V} {ds : List D} {i : Nat} {d : D}, IsDs H xs ds → ds[i]? = some d → ∃ x, xs[i]? = some x ∧ Is H x d
  | xs, [], i, d, h, e => by simp at e
  | xs, d' :: ds, 0, d, h, e => by
    unfold IsDs at h
    obtain ⟨x, r, rfl, h1, h2⟩ := h
    have : d' = d := by simpa using e
    subst this
    exact ⟨x, rfl, h1⟩
  | xs, d' :: ds, i + 1, d, h, e => by
    unfold IsDs at h
    obtain ⟨x, r, rfl, h1, h2⟩ := h
    obtain ⟨x', e1, e2⟩ := IsDs.at (i := i) (d := d) h2 (by simpa using e)
    exact ⟨x', by simpa using e1, e2⟩
/-- Python's == -/
def b2i (b : Bool) : Int := if b then 1 else 0
mutual
def deq : D → D → Bool
  | .non, .non => true
  | .bl a, .bl b => a == b
  | .bl a, .int n => b2i a == n
  | .int n, .bl a => n == b2i a
  | .int n, .int m => n == m
  | .str x, .str y => x == y
  | .tup ds, .tup es => deqL ds es
  | .lst ds, .lst es => deqL ds es
  | _, _ => false
def deqL : List D → List D → Bool
  | [], [] => true
  | d :: ds, e :: es => deq d e && deqL ds es
  | _, _ => false
end
mutual
def dep : D → Nat
  | .tup ds => depL ds + 1
  | .lst ds => depL ds + 1
  | _ => 0
def depL : List D → Nat
  | [] => 0
  | d :: ds => max (dep d) (depL ds)
end
theorem depL_mem : ∀ {ds : List D} {j : Nat} {d : D}, ds[j]? = some d → dep d ≤ depL ds
  | [], j, d, e => by simp at e
  | d' :: ds, 0, d, e => by
    have : d' = d := by simpa using e
    subst this
    unfold depL; omega
  | d' :: ds, j + 1, d, e => by
    have := depL_mem (ds := ds) (j := j) (d := d) (by simpa using e)
    rw [depL]; omega
theorem deq_tup (ds es : List D) : deq (.tup ds) (.tup es) = deqL ds es := rfl
theorem deq_lst (ds es : List D) : deq (.lst ds) (.lst es) = deqL ds es := rfl
theorem deqL_cons (d e : D) (ds es : List D) : deqL (d :: ds) (e :: es) = (deq d e && deqL ds es) := rfl
def eqJ (ds es : List D) (j : Nat) : Bool := match ds[j]?, es[j]? with
  | some d, some e => deq d e
  | _, _ => false
theorem deqL_all : ∀ (ds es : List D), deqL ds es = ((List.range (min ds.length es.length)).all (eqJ ds es) && (ds.length == es.length))
  | [], [] => rfl
  | [], e :: es => by show false = _; simp
  | d :: ds, [] => by show false = _; simp
  | d :: ds, e :: es => by
    have ih := deqL_all ds es
    rw [deqL_cons, ih, List.length_cons, List.length_cons, Nat.add_min_add_right, List.range_succ_eq_map, List.all_cons, List.all_map]
    have e1 : eqJ (d :: ds) (e :: es) 0 = deq d e := rfl
    have e2 : (eqJ (d :: ds) (e :: es)) ∘ Nat.succ = eqJ ds es := by funext j; rfl
    rw [e1, e2, Bool.and_assoc]
    congr 2
    simp
theorem deqL_len {ds es : List D} (h : ds.length ≠ es.length) : deqL ds es = false := by
  rw [deqL_all]
  have : (ds.length == es.length) = false := by simpa using h
  rw [this, Bool.and_false]
mutual
theorem deq_self : ∀ d : D, deq d d = true
  | .non => rfl
  | .bl b => by show (b == b) = true; simp
  | .int n => by show (n == n) = true; simp
  | .str x => by show (x == x) = true; simp
  | .tup ds => deqL_self ds
  | .lst ds => deqL_self ds
theorem deqL_self : ∀ ds : List D, deqL ds ds = true
  | [] => rfl
  | d :: ds => by rw [deqL_cons, deq_self d, deqL_self ds]; rfl
end
mutual
theorem Is.inj {H : Hp} : ∀ {v : V} {d e : D}, Is H v d → Is H v e → d = e
  | v, .non, e, h, h' => by
    unfold Is at h; subst h
    cases e <;> unfold Is at h' <;> first | rfl | (cases h'; done) | (obtain ⟨_, _, z, _⟩ := h'; cases z)
  | v, .bl b, e, h, h' => by
    unfold Is at h; subst h
    cases e <;> unfold Is at h' <;> first | (cases h'; rfl) | (cases h'; done) | (obtain ⟨_, _, z, _⟩ := h'; cases z)
  | v, .int n, e, h, h' => by
    unfold Is at h; subst h
    cases e <;> unfold Is at h' <;> first | (cases h'; rfl) | (cases h'; done) | (obtain ⟨_, _, z, _⟩ := h'; cases z)
  | v, .str x, e, h, h' => by
    unfold Is at h; subst h
    cases e <;> unfold Is at h' <;> first | (cases h'; rfl) | (cases h'; done) | (obtain ⟨_, _, z, _⟩ := h'; cases z)
  | v, .tup ds, e, h, h' => by
    unfold Is at h
    obtain ⟨a, xs, rfl, h1, h2⟩ := h
    cases e with
    | tup es =>
      unfold Is at h'
      obtain ⟨b, ys, z, g1, g2⟩ := h'
      cases z
      rw [h1] at g1
      cases g1
      rw [IsDs.inj h2 g2]
    | lst es =>
      unfold Is at h'
      obtain ⟨b, ys, z, g1, g2⟩ := h'
      cases z
      rw [h1] at g1
      cases g1
    | _ => unfold Is at h'; cases h'
  | v, .lst ds, e, h, h' => by
    unfold Is at h
    obtain ⟨a, xs, rfl, h1, h2⟩ := h
    cases e with
    | lst es =>
      unfold Is at h'
      obtain ⟨b, ys, z, g1, g2⟩ := h'
      cases z
      rw [h1] at g1
      cases g1
      rw [IsDs.inj h2 g2]
    | tup es =>
      unfold Is at h'
      obtain ⟨b, ys, z, g1, g2⟩ := h'
      cases z
      rw [h1] at g1
      cases g1
    | _ => unfold Is at h'; cases h'
theorem IsDs.inj {H : Hp} : ∀ {xs : List V} {ds es : List D}, IsDs H xs ds → IsDs H xs es → ds = es
  | xs, [], es, h, h' => by
    unfold IsDs at h
    subst h
    cases es with
    | nil => rfl
    | cons e es => unfold IsDs at h'; obtain ⟨_, _, z, _⟩ := h'; cases z
  | xs, d :: ds, es, h, h' => by
    unfold IsDs at h
    obtain ⟨x, r, rfl, h1, h2⟩ := h
    cases es with
    | nil => unfold IsDs at h'; cases h'
    | cons e es =>
      unfold IsDs at h'
      obtain ⟨x', r', z, g1, g2⟩ := h'
      cases z
      rw [Is.inj h1 g1, IsDs.inj h2 g2]
end
section
variable {X : Cx} {pins : List (Addr × Obj)} {σ : St} {H : Hp} {s : Shared}
structure CmpAt (A : Around) (s : Shared) (u w : Value) (b : Bool) : Prop where
  rc : SeqAt.RcAt A s u w b
  ne : SeqAt.RcNeAt A s u w (!b)
theorem its_at {xs : List V} {its : List Value} {ds : List D} (r : Vals xs its) (h : IsDs H xs ds) {j : Nat} (hj : j < its.toArray.size) : ∃ d x, ds[j]? = some d ∧ Is H x d ∧ RelV x its.toArray[j] := by
  have hj' : j < its.length := by simpa using hj
  have l1 := r.length
  have l2 := h.length
  have ed : ds[j]? = some ds[j] := by simp [show j < ds.length by omega]
  obtain ⟨x, ex, hx⟩ := h.at ed
  obtain ⟨u, eu, ru⟩ := r.get ex
  refine ⟨_, x, ed, hx, ?_⟩
  rw [List.getElem?_eq_getElem hj'] at eu
  have : its.toArray[j] = u := by simpa using Option.some.inj eu
  rw [this]; exact ru
inductive Kd (s : Shared) (H : Hp) : Value → D → Prop where
  | none : Kd s H .none .non
  | bool (b : Bool) : Kd s H (.bool b) (.bl b)
  | int (n : Int) (t : Tok) : Kd s H (.int n t) (.int n)
  | str (x : Str) (t : Tok) : Kd s H (.str x t) (.str x)
  | tuple {a : Addr} {xs : List V} {its : List Value} {ds : List D} (h : H a = some (.tup xs)) (r : Vals xs its) (p : s.heap.IsTuple a its.toArray) (q : IsDs H xs ds) : Kd s H (.ref a) (.tup ds)
  | list {a : Addr} {xs : List V} {its : List Value} {ds : List D} (h : H a = some (.lst xs)) (r : Vals xs its) (p : s.heap.IsList a its.toArray) (q : IsDs H xs ds) : Kd s H (.ref a) (.lst ds)
theorem kd_of (I : Inv X pins σ H s) {v : V} {u : Value} {d : D} (h : Is H v d) (r : RelV v u) : Kd s H u d := by
  cases d with
  | non => unfold Is at h; subst h; cases (show u = Value.none from r); exact .none
  | bl b => unfold Is at h; subst h; cases (show u = Value.bool b from r); exact .bool b
  | int n => unfold Is at h; subst h; obtain ⟨t, e⟩ := (show ∃ t, u = Value.int n t from r); cases e; exact .int n t
  | str x => unfold Is at h; subst h; obtain ⟨t, e⟩ := (show ∃ t, u = Value.str x t from r); cases e; exact .str x t
  | tup ds =>
    unfold Is at h
    obtain ⟨a, xs, rfl, h1, h2⟩ := h
    cases (show u = Value.ref a from r)
    obtain ⟨_, its, r1, t1⟩ := (show ObjOk X.prog X.w H s.heap a (.tup xs) from I.hok a _ h1)
    exact .tuple h1 r1 t1 h2
  | lst ds =>
    unfold Is at h
    obtain ⟨a, xs, rfl, h1, h2⟩ := h
    cases (show u = Value.ref a from r)
    obtain ⟨its, r1, p1, _⟩ := I.list (SqL.of (K := X.K) h1)
    exact .list h1 r1 p1.isList h2
def Sc : D → Prop
  | .tup _ => False
  | .lst _ => False
  | _ => True
set_option maxHeartbeats 4000000 in
theorem scalD {A : Around} {u u' : Value} {d e : D} (hu : A.units < cLine) (k1 : Kd s H u d) (hs : Sc d) (k2 : Kd s H u' e) : CmpAt A s u u' (deq d e) ∧ SeqAt.EqAt A s u u' (deq d e) := by
  cases k1 with
  | tuple => exact hs.elim
  | list => exact hs.elim
  | none  =>
    cases k2 with
    | none  => exact ⟨⟨.none_none , .none_none ⟩, SeqAt.EqAt.same _⟩
    | bool c => exact ⟨⟨.none_bool c, .none_bool c⟩, .none_bool c⟩
    | int k v => exact ⟨⟨.none_int k v, .none_int k v⟩, .none_int k v⟩
    | str y v => exact ⟨⟨.none_str y v, .none_str y v⟩, .none_str y v⟩
    | list h r p q => exact ⟨⟨.none_list  p hu, .none_list  p hu⟩, .none_list  p hu⟩
    | tuple h r p q => exact ⟨⟨.none_tuple  p hu, .none_tuple  p hu⟩, .none_tuple  p hu⟩
  | bool b =>
    cases k2 with
    | none  => exact ⟨⟨.bool_none b, .bool_none b⟩, .bool_none b⟩
    | bool c => exact ⟨⟨.bool_bool b c, .bool_bool b c⟩, .bool_bool b c⟩
    | int k v => exact ⟨⟨.bool_int b k v, .bool_int b k v⟩, .bool_int b k v⟩
    | str y v => exact ⟨⟨.bool_str b y v, .bool_str b y v⟩, .bool_str b y v⟩
    | list h r p q => exact ⟨⟨.bool_list b p hu, .bool_list b p hu⟩, .bool_list b p hu⟩
    | tuple h r p q => exact ⟨⟨.bool_tuple b p hu, .bool_tuple b p hu⟩, .bool_tuple b p hu⟩
  | int m t =>
    cases k2 with
    | none  => exact ⟨⟨.int_none m t, .int_none m t⟩, .int_none m t⟩
    | bool c => exact ⟨⟨.int_bool m t c, .int_bool m t c⟩, .int_bool m t c⟩
    | int k v => exact ⟨⟨.int_int m t k v, .int_int m t k v⟩, .int_int m t k v⟩
    | str y v => exact ⟨⟨.int_str m t y v, .int_str m t y v⟩, .int_str m t y v⟩
    | list h r p q => exact ⟨⟨.int_list m t p hu, .int_list m t p hu⟩, .int_list m t p hu⟩
    | tuple h r p q => exact ⟨⟨.int_tuple m t p hu, .int_tuple m t p hu⟩, .int_tuple m t p hu⟩
  | str x t =>
    cases k2 with
    | none  => exact ⟨⟨.str_none x t, .str_none x t⟩, .str_none x t⟩
    | bool c => exact ⟨⟨.str_bool x t c, .str_bool x t c⟩, .str_bool x t c⟩
    | int k v => exact ⟨⟨.str_int x t k v, .str_int x t k v⟩, .str_int x t k v⟩
    | str y v => exact ⟨⟨.str_str x t y v, .str_str x t y v⟩, .str_str x t y v⟩
    | list h r p q => exact ⟨⟨.str_list x t p hu, .str_list x t p hu⟩, .str_list x t p hu⟩
    | tuple h r p q => exact ⟨⟨.str_tuple x t p hu, .str_tuple x t p hu⟩, .str_tuple x t p hu⟩
set_option maxHeartbeats 4000000 in
theorem cmp_at (I : Inv X pins σ H s) : ∀ (n : Nat) (d e : D) (A : Around) {u u' : Value}, dep d ≤ n → A.units + n < cLine → Kd s H u d → Kd s H u' e → CmpAt A s u u' (deq d e) ∧ SeqAt.EqAt A s u u' (deq d e) := by
  intro n
  induction n with
  | zero => 
    intro d e A u u' hd hu k1 k2
    cases k1 with
    | tuple => unfold dep at hd; omega
    | list => unfold dep at hd; omega
    | none => exact scalD (by omega) .none trivial k2
    | bool b => exact scalD (by omega) (.bool b) trivial k2
    | int m t => exact scalD (by omega) (.int m t) trivial k2
    | str y t => exact scalD (by omega) (.str y t) trivial k2
  | succ n ih =>
    intro d e A u u' hd hu k1 k2
    have hu0 : A.units < cLine := by omega
    have hu1 : A.in1.units + n < cLine := by show A.units + 1 + n < cLine; omega
    cases k1 with
    | @tuple a xs its ds h1 r1 p1 q1 =>
      cases k2 with
      | @tuple b ys its2 es h2 r2 p2 q2 =>
        have hdd : depL ds ≤ n := by unfold dep at hd; omega
        have n1 : its.length = ds.length := by have := r1.length; have := q1.length; omega
        have n2 : its2.length = es.length := by have := r2.length; have := q2.length; omega
        have he : ∀ j (g1 : j < its.toArray.size) (g2 : j < its2.toArray.size), SeqAt.EqAt A.in1 s its.toArray[j] its2.toArray[j] (eqJ ds es j) := fun j g1 g2 => by
          obtain ⟨d1, x1, e1, i1, v1⟩ := its_at r1 q1 g1
          obtain ⟨d2, x2, e2, i2, v2⟩ := its_at r2 q2 g2
          have e3 : eqJ ds es j = deq d1 d2 := by unfold eqJ; rw [e1, e2]
          rw [e3]
          exact (ih d1 d2 A.in1 (Nat.le_trans (depL_mem e1) hdd) hu1 (kd_of I i1 v1) (kd_of I i2 v2)).2
        have ev : ((List.range (min its.toArray.size its2.toArray.size)).all (eqJ ds es) && (its.toArray.size == its2.toArray.size)) = deq (.tup ds) (.tup es) := by
          rw [List.size_toArray, List.size_toArray, n1, n2, deq_tup, deqL_all]
        have R1 := SeqAt.RcAt.tuples p1 p2 hu0 he
        have R2 := SeqAt.RcNeAt.tuples p1 p2 hu0 he
        rw [ev] at R1 R2
        refine ⟨⟨R1, R2⟩, ?_⟩
        by_cases hab : a = b
        · subst hab
          rw [h1] at h2
          cases h2
          rw [IsDs.inj q1 q2, deq_self]
          exact SeqAt.EqAt.same _
        · exact SeqAt.EqAt.of_refs hab R1
      | @list b ys its2 es h2 r2 p2 q2 => exact ⟨⟨.tuple_list p1 p2 hu0, .tuple_list p1 p2 hu0⟩, .tuple_list p1 p2 hu0⟩
      | none => exact ⟨⟨.tuple_none p1 hu0, .tuple_none p1 hu0⟩, .tuple_none p1 hu0⟩
      | bool b => exact ⟨⟨.tuple_bool b p1 hu0, .tuple_bool b p1 hu0⟩, .tuple_bool b p1 hu0⟩
      | int m t => exact ⟨⟨.tuple_int m t p1 hu0, .tuple_int m t p1 hu0⟩, .tuple_int m t p1 hu0⟩
      | str y t => exact ⟨⟨.tuple_str y t p1 hu0, .tuple_str y t p1 hu0⟩, .tuple_str y t p1 hu0⟩
    | @list a xs its ds h1 r1 p1 q1 =>
      cases k2 with
      | @list b ys its2 es h2 r2 p2 q2 =>
        have hdd : depL ds ≤ n := by unfold dep at hd; omega
        have n1 : its.length = ds.length := by have := r1.length; have := q1.length; omega
        have n2 : its2.length = es.length := by have := r2.length; have := q2.length; omega
        have R : CmpAt A s (.ref a) (.ref b) (deq (.lst ds) (.lst es)) := by
          by_cases hn : ds.length = es.length
          · have he : ∀ j (g1 : j < its.toArray.size) (g2 : j < its2.toArray.size), SeqAt.EqAt A.in1 s its.toArray[j] its2.toArray[j] (eqJ ds es j) := fun j g1 g2 => by
              obtain ⟨d1, x1, e1, i1, v1⟩ := its_at r1 q1 g1
              obtain ⟨d2, x2, e2, i2, v2⟩ := its_at r2 q2 g2
              have e3 : eqJ ds es j = deq d1 d2 := by unfold eqJ; rw [e1, e2]
              rw [e3]
              exact (ih d1 d2 A.in1 (Nat.le_trans (depL_mem e1) hdd) hu1 (kd_of I i1 v1) (kd_of I i2 v2)).2
            have hsz : its.toArray.size = its2.toArray.size := by simp; omega
            have ev : (List.range its.toArray.size).all (eqJ ds es) = deq (.lst ds) (.lst es) := by
              rw [List.size_toArray, n1, deq_lst, deqL_all, hn, Nat.min_self]; simp
            have R1 := SeqAt.RcAt.lists p1 p2 hsz hu0 he
            have R2 := SeqAt.RcNeAt.lists p1 p2 hsz hu0 he
            rw [ev] at R1 R2
            exact ⟨R1, R2⟩
          · have hsz : (its.toArray.size != its2.toArray.size) = true := by simp; omega
            rw [deq_lst, deqL_len hn]
            exact ⟨SeqAt.RcAt.lists_lengths p1 p2 hsz hu0, SeqAt.RcNeAt.lists_lengths p1 p2 hsz hu0⟩
        refine ⟨R, ?_⟩
        by_cases hab : a = b
        · subst hab
          rw [h1] at h2
          cases h2
          rw [IsDs.inj q1 q2, deq_self]
          exact SeqAt.EqAt.same _
        · exact SeqAt.EqAt.of_refs hab R.rc
      | @tuple b ys its2 es h2 r2 p2 q2 => exact ⟨⟨.list_tuple p1 p2 hu0, .list_tuple p1 p2 hu0⟩, .list_tuple p1 p2 hu0⟩
      | none => exact ⟨⟨.list_none p1 hu0, .list_none p1 hu0⟩, .list_none p1 hu0⟩
      | bool b => exact ⟨⟨.list_bool b p1 hu0, .list_bool b p1 hu0⟩, .list_bool b p1 hu0⟩
      | int m t => exact ⟨⟨.list_int m t p1 hu0, .list_int m t p1 hu0⟩, .list_int m t p1 hu0⟩
      | str y t => exact ⟨⟨.list_str y t p1 hu0, .list_str y t p1 hu0⟩, .list_str y t p1 hu0⟩
    | none => exact scalD hu0 .none trivial k2
    | bool b => exact scalD hu0 (.bool b) trivial k2
    | int m t => exact scalD hu0 (.int m t) trivial k2
    | str y t => exact scalD hu0 (.str y t) trivial k2
/-- two data compared -/
def rEqD (f : Bool → Bool) : R2 := fun x y H Q => ∃ d e, Is H x d ∧ Is H y e ∧ dep d ≤ 60 ∧ Q (.bl (f (deq d e))) H
theorem op_eqD (hu : X.A.units + 60 < cLine) : OpR X (compareOp .Eq) (rEqD id) := by
  intro pins s σ H x y v u Q I rx ry h
  obtain ⟨d, e, h1, h2, h3, q⟩ := h
  exact (cmp_at I 60 d e X.A h3 hu (kd_of I h1 rx) (kd_of I h2 ry)).1.rc _ _ _ _ ⟨.bl (deq d e), H, I, rfl, q⟩
theorem hu60 {A : Around} {k : Nat} (hr : Room k A) : A.units + 60 < cLine := Nat.lt_of_le_of_lt (Nat.add_le_add_left (by decide : 60 ≤ 64) _) hr.units
end
end L2

namespace L2
open PySem PySem.Spec PyProof.Rows
section
variable {X : Cx} {st : Stmt} {sts : List Stmt} {t : TS} {e : Expr} {te : TE}
/-- a statement by what holds behind it -/
def tCut (t : TS) : TS := fun D σ H => ∃ M : St → Hp → Prop, t { D with nx := M } σ H ∧ ∀ σ' H', M σ' H' → D.nx σ' H'
theorem ps_cut (h : PS X st t) : PS X st (tCut t) := by
  rintro pins s σ H D I ⟨M, q, w⟩
  refine thn (h pins s σ H { D with nx := M } I q) fun r s' z => ?_
  cases r with
  | next => obtain ⟨σ', H', I', m⟩ := z; exact ⟨σ', H', I', w _ _ m⟩
  | _ => exact z
end
end L2
namespace L2
open PySem PySem.Spec PyProof.Rows
/-! ### many written ints at once -/
/-! ### rules that name the fragment itself, for blocks within blocks -/
end L2
namespace My
open PySem L2 OF
theorem small6 {n : Nat} (h : n ≤ 1000000) : n < sizeLine := Nat.lt_of_le_of_lt h (by decide)
theorem mulL {a b : Int} (h1 : -(2 ^ 64) < a) (h2 : a < 2 ^ 64) : IntMulOk a b := CMul.ok (.inl ⟨h1, h2⟩)
theorem mulR {a b : Int} (h1 : -(2 ^ 64) < b) (h2 : b < 2 ^ 64) : IntMulOk a b := CMul.ok (.inr ⟨h1, h2⟩)
/-! ### what the law's helpers promise -/
theorem at_int {ns : List Int} {i : Nat} {y : V} (hi : (ns.map V.int)[i]? = some y) : ∃ n, ns[i]? = some n ∧ y = V.int n := by
  rw [List.getElem?_map] at hi
  cases e : ns[i]? with
  | none => rw [e] at hi; cases hi
  | some p => rw [e] at hi; exact ⟨p, rfl, (Option.some.inj hi).symm⟩
def spLaw (K : PySem.W.Frag) : Sp := fun vs H Q _ => ∃ (a : Addr) (ns : List Int), vs = [.ref a] ∧ SqL K H a (ns.map V.int) ∧ ns.length ≤ 63 ∧ (∀ n ∈ ns, Builtin.Int.intBits n ≤ 2 ^ 20) ∧ ∀ H', Q (.bl true) H'
/-! ### forms as data -/
/-! ### the size of numbers -/
/-! ### heaps -/
theorem _root_.L2.Same.write {HB H : Hp} {a : Addr} {o : HO} (h : Same HB H) (ha : HB a = none) : Same HB (upd H a o) := fun b u e => by
  rw [upd_ne (ne_of_none e ha)]; exact h b u e
end My

namespace OF
open PySem
/-! sums over a list of tuples, by a weight of the sets -/
end OF
namespace My
open PySem L2 OF
end My

namespace L2
open PySem PySem.Spec PyProof.Rows
end L2

namespace L2
open PySem PySem.Spec PyProof.Rows
section
variable {prog : Program} {w : World} {A : Around} {E : Value → Shared → Prop} {s : Shared} {a : Addr}
end
section
variable {X : Cx} {pins : List (Addr × Obj)} {σ : St} {H : Hp}
end
end L2

namespace OF
open PySem
/-! ### one unknown of a table -/
/-! ### all unknowns below m -/
open Classical in
/-! ### lists -/
/-! ### a dict of pairs that has each key once -/
/-! ### how many have all of a set -/
end OF
namespace My
open PySem L2 OF
end My

namespace L2
open PySem OF
/-! ### forms of tables -/
end L2

set_option maxHeartbeats 1000000
namespace My
open PySem L2 OF
/-! ### one unknown gets a bit -/
end My

set_option maxHeartbeats 1000000
namespace My
open PySem L2 OF
/-! ### how many unknowns a set lacks -/
end My

set_option maxHeartbeats 1000000
namespace L2
open PySem PySem.Spec PyProof.Rows
section
variable {X : Cx}
end
end L2
namespace My
open PySem L2 OF
/-! ### unknowns that get new numbers -/
end My

set_option maxHeartbeats 1000000
namespace L2
open PySem PySem.Spec PyProof.Rows
end L2

namespace L2
open PySem PySem.Spec PyProof.Rows
section
variable {prog : Program} {w : World} {A : Around} {E : Value → Shared → Prop} {s : Shared}
end
section
variable {X : Cx} {tg : Expr}
end
end L2

set_option maxHeartbeats 1000000
namespace L2
open PySem PySem.Spec PyProof.Rows
end L2
namespace My
open PySem L2 OF
/-! ### rows of gates -/
def wd : Nat → Str
  | 0 => "and"
  | 1 => "or"
  | _ => "xor"
end My

set_option maxHeartbeats 1000000
namespace L2
open PySem PySem.Spec PyProof.Rows
section
variable {X : Cx} {e st lo : Expr} {te : TE} {tl to : TO} {p2 pos : Pos}
end
end L2
namespace My
open PySem L2 OF
/-! ### the transform by halves -/
end My

set_option maxHeartbeats 1000000
namespace My
open PySem L2 OF
/-! ### a yes-no form in the place of an unknown -/
end My

set_option maxHeartbeats 1000000
namespace My
open PySem L2 OF
/-! ### where two forms part -/
end My

set_option maxHeartbeats 1000000
namespace My
open PySem L2 OF
/-! ### forms by their worths; forms with their unknowns gone up -/
end My

set_option maxHeartbeats 1000000
namespace My
open PySem L2 OF
/-! ### lists of forms -/
/-! ### words said of forms -/
/-! ### a row's wire put away -/
/-! ### the bits of all wires -/
end My

set_option maxHeartbeats 1000000
namespace L2
open PySem PySem.Spec PyProof.Rows
section
variable {prog : Program} {w : World} {A : Around} {E : Value → Shared → Prop} {s : Shared}
end
end L2

set_option maxHeartbeats 1000000
namespace My
open PySem L2 OF
/-! ### yes-no forms of few unknowns -/
end My

namespace My
open PySem L2 OF
/-! ### numbers that are not too wide, and what the drawing helpers promise -/
def spMix : Sp := fun vs H Q _ => ∃ c k : Int, vs = [.int c, .int k] ∧ -(2 ^ 64) < k ∧ k < 2 ^ 64 ∧ ∀ r, 0 ≤ r → r < 2147483587 → Q (.int r) H
end My

set_option maxHeartbeats 1000000
namespace L2
open PySem PySem.Spec PyProof.Rows
section
variable {X : Cx} {e st lo hi : Expr} {te : TE} {tl th to : TO} {p2 pos : Pos}
/-! ### xs[lo:hi:st], by what its items are -/
/-! ### min of a list or a tuple of ints, all of a list of bools -/
end
end L2
namespace L2
open PySem PySem.Spec PyProof.Rows
section
variable {X : Cx}
/-! ### sorted of a short list of ints -/
end
end L2
namespace L2
open PySem PySem.Spec PyProof.Rows
section
variable {X : Cx} {e st lo hi : Expr} {te : TE} {tl th to : TO} {p2 pos : Pos}
/-! ### list(range(n)) -/
end
end L2

namespace My
open PySem L2 OF
def natL (ls : List Nat) : List V := ls.map fun y : Nat => V.int (y : Int)
/-! ### trees -/
/-! ### forms put together by one bit -/
theorem inV_mem {x : Nat} {ls : List Nat} : inV (.int (x : Int)) (ls.map fun y : Nat => V.int (y : Int)) = decide (x ∈ ls) := by
  unfold inV
  rw [Bool.eq_iff_iff, List.any_eq_true, decide_eq_true_iff]
  constructor
  · rintro ⟨y, hy, e⟩
    obtain ⟨z, hz, rfl⟩ := List.mem_map.mp hy
    have : (z : Int) = (x : Int) := by simpa [eqV] using e
    have : z = x := by omega
    rw [← this]; exact hz
  · intro h
    exact ⟨_, List.mem_map.mpr ⟨x, h, rfl⟩, by simp [eqV]⟩
theorem flat_ints (ls : List Nat) : (ls.map fun y : Nat => V.int (y : Int)).all flatV = true := by
  rw [List.all_eq_true]
  intro y hy
  obtain ⟨z, _, rfl⟩ := List.mem_map.mp hy
  rfl
end My

namespace My
open PySem L2 OF
/-! ### floors of forms -/
/-! ### what a paper shows -/
end My

namespace My
open PySem L2 OF
/-! ### statements -/
inductive Sm where
  | bit (k : Nat) | fix (b : Int) | no (s : Sm) | two (w : Nat) (s t : Sm)
def Sm.d : Sm → D
  | .bit k => .tup [.str "bit", .int (k : Int)]
  | .fix b => .tup [.str "fix", .int b]
  | .no s => .tup [.str "not", s.d]
  | .two w s t => .tup [.str (wd w), s.d, t.d]
def Sm.dp : Sm → Nat
  | .bit _ => 0
  | .fix _ => 0
  | .no s => s.dp + 1
  | .two _ s t => max s.dp t.dp + 1
def Sm.ok (P : Nat → Prop) : Sm → Prop
  | .bit k => P k
  | .fix b => b = 0 ∨ b = 1
  | .no s => s.ok P
  | .two w s t => w < 3 ∧ s.ok P ∧ t.ok P
theorem Sm.ok.imp {P R : Nat → Prop} (f : ∀ k, P k → R k) : ∀ {s : Sm}, s.ok P → s.ok R
  | .bit k, h => f k h
  | .fix _, h => h
  | .no s, h => Sm.ok.imp (s := s) f h
  | .two w s t, h => ⟨h.1, Sm.ok.imp f h.2.1, Sm.ok.imp f h.2.2⟩
theorem is_tup2 {H : Hp} {v : V} {d e : D} : Is H v (.tup [d, e]) → ∃ p x y, v = .ref p ∧ H p = some (.tup [x, y]) ∧ Is H x d ∧ Is H y e := fun h => by
  unfold Is at h
  obtain ⟨p, xs, rfl, h1, h2⟩ := h
  unfold IsDs at h2
  obtain ⟨x0, r0, rfl, h3, h4⟩ := h2
  unfold IsDs at h4
  obtain ⟨x1, r1, rfl, h5, h6⟩ := h4
  unfold IsDs at h6
  subst h6
  exact ⟨p, x0, x1, rfl, h1, h3, h5⟩
theorem is_tup3 {H : Hp} {v : V} {d e f : D} : Is H v (.tup [d, e, f]) → ∃ p x y z, v = .ref p ∧ H p = some (.tup [x, y, z]) ∧ Is H x d ∧ Is H y e ∧ Is H z f := fun h => by
  unfold Is at h
  obtain ⟨p, xs, rfl, h1, h2⟩ := h
  unfold IsDs at h2
  obtain ⟨x0, r0, rfl, h3, h4⟩ := h2
  unfold IsDs at h4
  obtain ⟨x1, r1, rfl, h5, h6⟩ := h4
  unfold IsDs at h6
  obtain ⟨x2, r2, rfl, h7, h8⟩ := h6
  unfold IsDs at h8
  subst h8
  exact ⟨p, x0, x1, x2, rfl, h1, h3, h5, h7⟩
theorem mk_tup2 {H : Hp} {p : Addr} {x y : V} {d e : D} (h : H p = some (.tup [x, y])) (h1 : Is H x d) (h2 : Is H y e) : Is H (.ref p) (.tup [d, e]) := by
  unfold Is
  refine ⟨p, _, rfl, h, ?_⟩
  unfold IsDs
  refine ⟨_, _, rfl, h1, ?_⟩
  unfold IsDs
  refine ⟨_, _, rfl, h2, ?_⟩
  unfold IsDs
  rfl
theorem mk_tup3 {H : Hp} {p : Addr} {x y z : V} {d e f : D} (h : H p = some (.tup [x, y, z])) (h1 : Is H x d) (h2 : Is H y e) (h3 : Is H z f) : Is H (.ref p) (.tup [d, e, f]) := by
  unfold Is
  refine ⟨p, _, rfl, h, ?_⟩
  unfold IsDs
  refine ⟨_, _, rfl, h1, ?_⟩
  unfold IsDs
  refine ⟨_, _, rfl, h2, ?_⟩
  unfold IsDs
  refine ⟨_, _, rfl, h3, ?_⟩
  unfold IsDs
  rfl
theorem is_str {H : Hp} {v : V} {x : Str} : Is H v (.str x) ↔ v = .str x := by unfold Is; exact Iff.rfl
theorem is_int {H : Hp} {v : V} {x : Int} : Is H v (.int x) ↔ v = .int x := by unfold Is; exact Iff.rfl
theorem sm_bit {H : Hp} {v : V} {k : Nat} (h : Is H v (Sm.bit k).d) : ∃ p, v = .ref p ∧ H p = some (.tup [.str "bit", .int (k : Int)]) := by
  obtain ⟨p, x, y, rfl, h1, h2, h3⟩ := is_tup2 h
  rw [is_str] at h2
  rw [is_int] at h3
  subst h2 h3
  exact ⟨p, rfl, h1⟩
theorem sm_fix {H : Hp} {v : V} {b : Int} (h : Is H v (Sm.fix b).d) : ∃ p, v = .ref p ∧ H p = some (.tup [.str "fix", .int b]) := by
  obtain ⟨p, x, y, rfl, h1, h2, h3⟩ := is_tup2 h
  rw [is_str] at h2
  rw [is_int] at h3
  subst h2 h3
  exact ⟨p, rfl, h1⟩
theorem sm_no {H : Hp} {v : V} {s : Sm} (h : Is H v (Sm.no s).d) : ∃ p x, v = .ref p ∧ H p = some (.tup [.str "not", x]) ∧ Is H x s.d := by
  obtain ⟨p, x, y, rfl, h1, h2, h3⟩ := is_tup2 h
  rw [is_str] at h2
  subst h2
  exact ⟨p, y, rfl, h1, h3⟩
theorem sm_two {H : Hp} {v : V} {w : Nat} {s t : Sm} (h : Is H v (Sm.two w s t).d) : ∃ p x y, v = .ref p ∧ H p = some (.tup [.str (wd w), x, y]) ∧ Is H x s.d ∧ Is H y t.d := by
  obtain ⟨p, x, y, z, rfl, h1, h2, h3, h4⟩ := is_tup3 h
  rw [is_str] at h2
  subst h2
  exact ⟨p, y, z, rfl, h1, h3, h4⟩
theorem sm_keepX {H H' : Hp} (k : ∀ p xs, H p = some (.tup xs) → H' p = some (.tup xs)) : ∀ {s : Sm} {v : V}, Is H v s.d → Is H' v s.d
  | .bit j, v, h => by obtain ⟨p, rfl, h1⟩ := sm_bit h; exact mk_tup2 (k _ _ h1) (is_str.mpr rfl) (is_int.mpr rfl)
  | .fix j, v, h => by obtain ⟨p, rfl, h1⟩ := sm_fix h; exact mk_tup2 (k _ _ h1) (is_str.mpr rfl) (is_int.mpr rfl)
  | .no s, v, h => by obtain ⟨p, x, rfl, h1, h2⟩ := sm_no h; exact mk_tup2 (k _ _ h1) (is_str.mpr rfl) (sm_keepX k h2)
  | .two w s t, v, h => by obtain ⟨p, x, y, rfl, h1, h2, h3⟩ := sm_two h; exact mk_tup3 (k _ _ h1) (is_str.mpr rfl) (sm_keepX k h2) (sm_keepX k h3)
theorem sm_keepU {H : Hp} {l : Addr} {xs : List V} {o : HO} {s : Sm} {v : V} (h : Is H v s.d) (hl : H l = some (.lst xs)) : Is (upd H l o) v s.d := sm_keepX (fun p ys e => by
  have hne : p ≠ l := fun z => by rw [z, hl] at e; cases e
  rw [upd_ne hne]; exact e) h
/-! ### forms of few letters -/
/-- five steps on, by sixteen -/
theorem free_five {ls : List Nat} {x : Nat} (h : ls.length < 16) : ∃ m, (x + 5 * m) % 16 ∉ ls := by
  by_cases z : ∃ m, (x + 5 * m) % 16 ∉ ls
  · exact z
  · exfalso
    have hall : ∀ m, (x + 5 * m) % 16 ∈ ls := fun m => Classical.byContradiction fun w => z ⟨m, w⟩
    have hsub : ∀ y ∈ List.range 16, y ∈ ls := fun y hy => by
      have hy' := List.mem_range.mp hy
      have h1 := hall (13 * (y + 15 * x))
      have e : (x + 5 * (13 * (y + 15 * x))) % 16 = y := by omega
      rw [e] at h1; exact h1
    have := nodup_sub_len (l := (List.range 16).map fun y : Nat => (y : Int)) (B := ls.map fun y : Nat => (y : Int)) (List.nodup_range.map (fun y : Nat => (y : Int)) (fun a b h z => h (Int.ofNat.inj z))) fun x hx => by
      obtain ⟨y, hy, rfl⟩ := List.mem_map.mp hx
      exact List.mem_map.mpr ⟨y, hsub y hy, rfl⟩
    rw [List.length_map, List.length_map, List.length_range] at this
    omega
theorem wd_ne {w : Nat} : (wd w ≠ "bit") ∧ (wd w ≠ "fix") ∧ (wd w ≠ "not") := by
  match w with
  | 0 => decide
  | 1 => decide
  | n + 2 => show ("xor" : Str) ≠ "bit" ∧ ("xor" : Str) ≠ "fix" ∧ ("xor" : Str) ≠ "not"; decide
/-! ### a stack of statements -/
theorem words_at {j : Nat} (h : j < 3) : atI [V.str "and", V.str "or", V.str "xor"] (j : Int) = some (V.str (wd j)) := by
  obtain rfl | rfl | rfl : j = 0 ∨ j = 1 ∨ j = 2 := by omega
  · rfl
  · rfl
  · rfl
end My

set_option maxHeartbeats 4000000
namespace OS
open PySem PySem.W PyProof.Rows
section
variable {prog : Program} {w : World} {A : Around} {E : Value → Shared → Prop} {s : Shared}
end
end OS
namespace L2
open PySem PySem.Spec PyProof.Rows OS
section
variable {X : Cx}
/-! ### sorted of a list of pairs that rises -/
end
end L2

namespace L2
open PySem PySem.Spec PyProof.Rows
/-! ### reversed of a list that stays -/
/-! ### a list is made longer by a tuple's items -/
end L2
namespace My
open PySem L2 OF
/-! ### a statement's parts, from the last one on -/
theorem paired_snoc {α β : Type} {R : α → β → Prop} : ∀ {a : List α} {m : List β} {x : α} {y : β}, Paired R a m → R x y → Paired R (a ++ [x]) (m ++ [y])
  | _, _, _, _, .nil, h => .cons h .nil
  | _, _, _, _, .cons e r, h => .cons e (paired_snoc r h)
end My
namespace My
open PySem L2 OF
end My

set_option maxHeartbeats 4000000
namespace OS
open PySem PySem.W PyProof.Rows
section
variable {prog : Program} {w : World} {A : Around} {E : Value → Shared → Prop} {s : Shared}
end
end OS

namespace OF
/-! ### numbers by sets of j unknowns: how many are not 0, worths by the noughts, few noughts -/
open Classical in
/-! ### the sets of few unknowns -/
/-! ### a form within a block of GIVENs -/
/-! ### the blocks that wait -/
/-! ### a dict of worths by GIVENs -/
end OF

namespace L2
open PySem PySem.Spec PyProof.Rows
section
variable {X : Cx}
/-! ### dict(d), d.copy(), list(d), d != d of a like one -/
end
end L2
namespace L2
open PySem PySem.Spec PyProof.Rows
end L2
namespace My
open PySem L2 OF
end My

set_option maxHeartbeats 4000000
namespace OS
open PySem PySem.W PyProof.Rows
section
variable {prog : Program} {w : World} {A : Around} {E : Value → Shared → Prop} {s : Shared}
/-! ### the keys of a dict, whatever they are -/
end
end OS

namespace OF
/-! ### products by SET and TURNED -/
/-! ### a way, from its end on -/
/-! ### one step of a push -/
/-! ### what is reached -/
end OF

set_option maxHeartbeats 1000000
namespace OS
end OS
namespace L2
open PySem PySem.Spec PyProof.Rows OS
section
variable {X : Cx}
/-! ### the keys of a dict of ints, walked; the dict stays as it is from then on -/
end
end L2

namespace My
open PySem L2 OF
/-! ### products -/
/-! ### lists of threes -/
end My

set_option maxHeartbeats 1000000
namespace My
open PySem L2 OF
/-! ### the least unknown of a set -/
/-! ### worths as sums -/
/-! ### what is reached, as a dict -/
end My

set_option maxHeartbeats 4000000
namespace OS
open PySem PySem.W PyProof.Rows
section
variable {prog : Program} {w : World} {A : Around} {E : Value → Shared → Prop} {s : Shared}
end
section
variable {prog : Program} {w : World} {A : Around} {R : Result → Shared → Prop} {I : Addr} {fp wr : List Addr} {n N : Nat} {P : Nat → Value → Prop} {St : Nat → Heap → Prop} {val : Nat → Int × Int}
end
section
variable {prog : Program} {w : World} {A : Around} {E : Value → Shared → Prop} {s : Shared}
end
end OS
namespace L2
open PySem PySem.Spec PyProof.Rows OF
section
variable {X : Cx}
end
end L2

namespace L2
open PySem PySem.Spec PyProof.Rows
section
variable {X : Cx}
/-! ### list.index of an int -/
end
end L2

namespace My
open PySem L2 OF
/-! ### papers for least worths -/
/-! ### weights -/
end My
namespace My
open PySem L2 OF
end My

namespace L2
open PySem PySem.Spec PyProof.Rows
section
variable {X : Cx}
end
end L2
namespace My
open PySem L2 OF
end My
namespace My
open PySem L2 OF
end My

namespace L2
open PySem PySem.Spec PyProof.Rows
section
variable {X : Cx}
end
end L2
namespace My
open PySem L2 OF
end My

namespace L2
open PySem PySem.Spec PyProof.Rows
section
variable {X : Cx}
/-! ### sorted(d), d a dict of fewer than 64 ints -/
end
end L2
namespace My
open PySem L2 OF
end My

set_option maxHeartbeats 1000000
namespace L2
open PySem PySem.Spec PyProof.Rows
section
variable {X : Cx} {tg : Expr}
/-! ### methods of texts -/
theorem mt_find : MtM X "str.find" (fun x vs H Q => ∃ i j, x = .str i ∧ vs = [.str j] ∧ Q (.int (Txt.find i j)) H) := by
  intro pins s σ H x xs v us Q I rx rv h
  obtain ⟨i, j, rfl, rfl, q⟩ := h
  obtain ⟨t, rfl⟩ := rx
  obtain ⟨u, rfl, ⟨t2, rfl⟩⟩ := rv.one
  exact SC.find ⟨.int _, H, I.tok _, ⟨_, rfl⟩, q⟩
/-! ### text[lo:hi] -/
theorem sl_str : SlR X (fun x lo hi H Q => ∃ z, x = .str z ∧ z.length ≤ sizeLine ∧ Q (.str (Txt.slice z lo hi)) H) := by
  intro pins s σ H x v vl vu lo hi sl Q I rx hs pl pu h
  obtain ⟨z, rfl, hz, q⟩ := h
  obtain ⟨t, rfl⟩ := rx
  have part : ∀ {v : Value} {o : Option Int}, IsPart v o → ∃ l : Option (Int × Tok), v = partValue l ∧ l.map (·.1) = o := fun p => by
    cases p with
    | none => exact ⟨none, rfl, rfl⟩
    | int i t => exact ⟨some (i, t), rfl, rfl⟩
  obtain ⟨l, rfl, rfl⟩ := part pl
  obtain ⟨u, rfl, rfl⟩ := part pu
  refine ⟨"str", _, F.slot_str_getitem.lookup, typeIs_str _ _ _, ?_⟩
  exact wpAny_getItem_str_slice (l := l) (u := u) (st := none) hs rfl (post_val_or_str ⟨Nat.le_trans (Txt.slice_le z _ _) hz, fun t' k => ⟨.str _, H, I.tok _, ⟨_, rfl⟩, q⟩⟩)
/-! ### int(text) -/
theorem call_int_str : CallR X (.type "int") (fun xs H Q => ∃ x n, xs = [.str x] ∧ intText? x = some n ∧ x.length ≤ 640 ∧ Q (.int n) H) := by
  intro pins s σ H xs us Q I r h
  obtain ⟨x, n, rfl, hn, hl, q⟩ := h
  obtain ⟨u, rfl, ⟨t, rfl⟩⟩ := vals1 r
  exact PySem.W.KIN.call_text hn hl ⟨.int n, H, I.tok _, ⟨_, rfl⟩, q⟩
/-! ### a for over a text -/
end
end L2

set_option maxHeartbeats 1000000
namespace My
open PySem L2 OF
/-! ### texts as lists of signs -/
def S (l : List Nat) : Str := ⟨l.toArray⟩
theorem S_list (l : List Nat) : (S l).cps.toList = l := rfl
theorem S_len (l : List Nat) : (S l).length = l.length := rfl
theorem S_eq {x : Str} {l : List Nat} (h : x.cps.toList = l) : x = S l := by subst h; rfl
theorem S_inj {a b : List Nat} (h : S a = S b) : a = b := congrArg (fun x : Str => x.cps.toList) h
theorem S_cat (a b : List Nat) : S a ++ S b = S (a ++ b) := S_eq (by
  show (a.toArray ++ b.toArray).toList = _
  rw [Array.toList_append])
/-! ### figures -/
def digs (n : Nat) : List Nat := (Nat.toDigits 10 n).map Char.toNat
theorem str_num (n : Nat) : Str.ofString (toString ((n : Nat) : Int)) = S (digs n) := S_eq (PySem.W.KIN.signs_num n)
/-! ### letters -/
/-! ### a tuple's text, a form's text -/
end My
namespace My
open PySem L2 OF
theorem lit_e : ("" : Str) = S [] := by decide +kernel
theorem lit_0 : ("0" : Str) = S [48] := by decide +kernel
theorem lit_1 : ("1" : Str) = S [49] := by decide +kernel
theorem lit_sp : (" " : Str) = S [32] := by decide +kernel
def LET : List Nat := [97, 98, 99, 100, 101, 102, 103, 104, 105, 106, 107, 108, 109, 110, 111, 112]
theorem lit_let : ("abcdefghijklmnop" : Str) = S LET := by decide +kernel
theorem let_at : ∀ k : Nat, k < 16 → LET[k]? = some (97 + k) := by decide
theorem find_let : ∀ k : Nat, k < 16 → Txt.find (S LET) (S [97 + k]) = (k : Int) := by decide +kernel
theorem int_fig : ∀ d : Nat, d < 10 → intText? (S [48 + d]) = some (d : Int) := by decide +kernel
end My
namespace My
open PySem L2 OF
end My
namespace L2
open PySem PySem.Spec PyProof.Rows
end L2
namespace My
open PySem L2 OF
end My
namespace My
open PySem L2 OF
end My

set_option maxHeartbeats 4000000
namespace L2
open PySem PySem.Spec PyProof.Rows
/-! ### an exception of the text's own classes: made, leaving a def, caught -/
theorem HOk.gone {P : Program} {w : World} {H : Hp} {h : Heap} {a : Addr} (x : HOk P w H h) (e : h.get? a = none) : H a = none := by
  cases q : H a with
  | none => rfl
  | some o => obtain ⟨ob, z⟩ := (x a o q).there; rw [e] at z; cases z

/-- in flight: the exception, its traceback's entry, its class -/
def Fly (h : Heap) (a T : Addr) (C : Value) : Prop :=
  ∃ oe vs oT ts a0, h.get? a = some oe ∧ (oe.cls = C ∧ vs[0]? = some a0) ∧ oe.data = .fields vs ∧ vs[1]? = some (.ref T) ∧ T ≠ a ∧ h.get? T = some oT ∧ oT.data = .fields ts ∧ ts[3]? = some .none
/-- how an exception lies behind a call -/
def CXe (P : Program) (w : World) : CXT := fun outer H s E e s' => ∃ (a T : Addr) (C : Value) (H' : Hp), e = .ref a ∧ s'.os = s.os ∧ AllBare s'.gens ∧ Un (frs outer) [] H H' s.heap s'.heap ∧ HOk P w H' s'.heap ∧
  s.heap.get? a = none ∧ s.heap.get? T = none ∧ H' a = none ∧ H' T = none ∧ Fly s'.heap a T C ∧ E C none H'

section
variable {X : Cx} {pins : List (Addr × Obj)} {σ : St} {H : Hp} {s : Shared}
theorem frs_cons {env : Env} {l : List Env} {L : Addr} (h : env.frame = some L) : frs (env :: l) = L :: frs l := by
  unfold frs; rw [List.filterMap_cons, h]
/-- a def's own context: one frame more than its callers, no iterators from outside -/
structure Own (X : Cx) : Prop where
  stk : X.stack = X.env :: X.outer
  fr : X.env.frame = some X.env.locals
  ex : X.ex = []
/-- what an exception and its entry are, ahead of a step that may turn them -/
def Apart (X : Cx) (H : Hp) (h : Heap) (xs : List Addr) : Prop := ∀ b ∈ xs, X.s₀.heap.get? b = none ∧ H b = none ∧ ∃ o vs, h.get? b = some o ∧ o.data = .fields vs
/-- a step that kept all but the frames' slots and xs -/
theorem Inv.over (O : Own X) (J : Inv X pins σ H s) {xs : List Addr} (hxs : Apart X H s.heap xs) {h3 : Heap} (st : (PySem.W.hideAll s.heap (frs X.stack ++ xs)).StaysIn h3) (ups : ∀ b o, b ∈ frs X.stack → s.heap.get? b = some o → ∃ sl, h3.get? b = some { o with slots := sl }) :
    HOk X.prog X.w H h3 ∧ Un (frs X.stack) xs H H s.heap h3 := by
  have stays : ∀ b o, s.heap.get? b = some o → b ∉ frs X.stack → b ∉ xs → h3.get? b = some o := fun b o e h1 h2 => st b o (PySem.W.hideAll_get _ e fun z => (List.mem_append.mp z).elim h1 h2)
  have trk : ∀ b o, H b = some o → b ∉ frs X.stack ∧ b ∉ xs := fun b o e => ⟨fun z => (by rw [J.stkFree b z] at e; cases e), fun z => (by rw [(hxs b z).2.1] at e; cases e)⟩
  refine ⟨fun b o e => (J.hok b o e).stay (fun c u hc q => ?_) (fun _ q => q) fun _ _ q => q, fun b o e n hb hx => stays b o e hb hx, fun b o e n hb hx => ups b o hb e, fun _ _ _ n _ => n, fun b o e hx => ?_, fun _ _ q => q, fun _ _ _ q => q, fun _ ps q => ⟨#[], by rw [q]; simp⟩⟩
  · have hc' : ∃ o', H c = some o' := by
      rcases hc with rfl | hc
      · exact ⟨_, e⟩
      · exact ⟨_, hc⟩
    obtain ⟨o', e'⟩ := hc'
    obtain ⟨h1, h2⟩ := trk c o' e'
    exact stays c u q h1 h2
  · by_cases hb : b ∈ frs X.stack
    · obtain ⟨sl, z⟩ := ups b o hb e; exact ⟨_, z⟩
    · exact ⟨o, stays b o e hb hx⟩
/-- behind the frame's leaving -/
theorem landed (O : Own X) (J : Inv X pins σ H s) {xs : List Addr} (hxs : Apart X H s.heap xs) {a : Addr} {C a0 : Value} {h3 : Heap}
    (ups : ∀ b o, b ∈ frs X.stack → s.heap.get? b = some o → ∃ sl, h3.get? b = some { o with slots := sl }) (fl : Heap.FlyingW (PySem.W.hideAll s.heap (frs X.stack ++ xs)) X.outer a C a0 h3) (ha : s.heap.get? a = none ∨ a ∈ xs) {E : XK} (hE : E C none H) :
    CXe X.prog X.w X.outer X.H₀ X.s₀ E (.ref a) { s with heap := h3 } := by
  obtain ⟨st, hn, hfun, oe, vs, T, oT, ts, he, hc, hd, h1, hnT, hTa, hT, hdT, h3'⟩ := fl
  have fresh : ∀ b, s.heap.get? b = none → X.s₀.heap.get? b = none := fun b e => by
    cases q : X.s₀.heap.get? b with
    | none => rfl
    | some o => obtain ⟨o', z⟩ := J.base.there b o q (by rw [O.ex]; simp); rw [e] at z; cases z
  have hfrs : frs X.stack = X.env.locals :: X.fs := by rw [O.stk, frs_cons O.fr]
  obtain ⟨hok, un⟩ := Inv.over O J hxs st ups
  have young : ∀ b o, X.s₀.heap.get? b = some o → b ∉ xs := fun b o e z => by rw [(hxs b z).1] at e; cases e
  have old : ∀ b o, X.s₀.heap.get? b = some o → b ≠ X.env.locals := fun b o e => Nat.ne_of_lt (Nat.lt_of_lt_of_le (Heap.lt_size e) J.ok.above)
  have nx : ∀ b : Addr, b ∉ X.ex := fun b => by rw [O.ex]; simp
  have hT2 : s.heap.get? T = none ∨ T ∈ xs := by
    by_cases hx : T ∈ xs
    · exact .inr hx
    · refine .inl ?_
      cases q : s.heap.get? T with
      | none => rfl
      | some o =>
        by_cases hf : T ∈ frs X.stack
        · obtain ⟨_, o2, ho2, hnf⟩ := J.stack.mem hf
          obtain ⟨sl, z⟩ := ups T o2 hf ho2
          rw [hT] at z; cases z
          exact absurd hdT (hnf ts)
        · have := PySem.W.hideAll_get (frs X.stack ++ xs) q fun z => (List.mem_append.mp z).elim hf hx
          rw [hnT] at this; cases this
  have both : ∀ b, (s.heap.get? b = none ∨ b ∈ xs) → X.s₀.heap.get? b = none ∧ H b = none := fun b hb => by
    rcases hb with e | e
    · exact ⟨fresh b e, J.hok.gone e⟩
    · exact ⟨(hxs b e).1, (hxs b e).2.1⟩
  refine ⟨a, T, C, H, rfl, J.os, J.bare, ⟨fun b o e n hb hx => ?_, fun b o e n hb hx => ?_, fun b o e n _ => J.base.free b o e n (nx b), fun b o e hx => ?_, J.base.tups, J.base.frzs, J.base.tbls⟩, hok, (both a ha).1, (both T hT2).1, (both a ha).2, (both T hT2).2, ⟨oe, vs, oT, ts, a0, he, hc, hd, h1, hTa, hT, hdT, h3'⟩, hE⟩
  · have e1 := J.base.keep b o e n hb (nx b)
    exact un.keep b o e1 (J.base.free b o e n (nx b)) (by rw [hfrs]; exact fun z => (List.mem_cons.mp z).elim (old b o e) hb) (young b o e)
  · obtain ⟨sl, e1⟩ := J.base.slot b o e n hb (nx b)
    obtain ⟨sl', e2⟩ := un.slot b _ e1 (J.base.free b o e n (nx b)) (by rw [hfrs]; exact List.mem_cons_of_mem _ hb) (young b o e)
    exact ⟨sl', e2⟩
  · obtain ⟨o1, e1⟩ := J.base.there b o e (nx b)
    exact un.there b o1 e1 (young b o e)
/-- raise: the new exception leaves the frame -/
theorem leave_made (O : Own X) (J : Inv X pins σ H s) {h' : Heap} {a : Addr} {C : Value} {vs : List Value} (hx : Heap.MadeExcOf s.heap h' a C vs) {E : XK} (hE : E C none H) {E' : Value → Shared → Prop} :
    wpAny (model X.prog X.w) X.A (leaving X.env (.ref a)) (fun _ s'' => CXe X.prog X.w X.outer X.H₀ X.s₀ E (.ref a) s'') E' { s with heap := h' } := by
  have hfr : X.A.frames = some (X.env :: X.outer) := by rw [← O.stk]; exact J.ok.frames
  have hl : s.heap.FunFrames (PySem.W.hideAll s.heap (frs X.stack ++ [])) (X.env :: X.outer) := by
    rw [← O.stk]
    exact PySem.W.funFrames_hide J.stack fun env he b hb => List.mem_append_left _ (List.mem_filterMap.mpr ⟨env, he, hb⟩)
  refine wpAny_leaves_madeW (base := PySem.W.hideAll s.heap (frs X.stack ++ [])) (h := s.heap) (s := { s with heap := h' }) hfr O.fr (fun b o e => PySem.W.of_hideAll _ e) hl hx fun h3 t fl _ _ ups => ?_
  exact landed O J (xs := []) (fun b hb => by cases hb) (fun b o hb e => ups b o (hx.keeps b o e) (by
    obtain ⟨_, o2, ho2, hnf⟩ := J.stack.mem hb
    rw [e] at ho2; cases ho2; exact hnf)) fl (.inl hx.new) hE
/-- the state behind a call that an exception left -/
theorem behind (J : Inv X pins σ H s) {E : XK} {e : Value} {s' : Shared} (h : CXe X.prog X.w X.stack H s E e s') :
    ∃ (a T : Addr) (C : Value) (H' : Hp), e = .ref a ∧ Inv X pins σ H' s' ∧ s.heap.get? a = none ∧ s.heap.get? T = none ∧ H' a = none ∧ H' T = none ∧ Fly s'.heap a T C ∧ E C none H' := by
  obtain ⟨a, T, C, H', rfl, ho, hg, un, hok, h1, h2, h3, h4, h5, h6⟩ := h
  exact ⟨a, T, C, H', rfl, J.call' ho un hok hg (fun b hb => by cases hb), h1, h2, h3, h4, h5, h6⟩
theorem fly_apart (O : Own X) (J : Inv X pins σ H s) {s1 : Shared} {H1 : Hp} {a T : Addr} {C : Value} (h1 : s.heap.get? a = none) (h2 : s.heap.get? T = none) (h3 : H1 a = none) (h4 : H1 T = none) (h5 : Fly s1.heap a T C) : Apart X H1 s1.heap [a, T] := by
  obtain ⟨oe, vs, oT, ts, a0, he, hc, hd, _, _, hT, hdT, _⟩ := h5
  have fresh : ∀ b, s.heap.get? b = none → X.s₀.heap.get? b = none := fun b e => by
    cases q : X.s₀.heap.get? b with
    | none => rfl
    | some o => obtain ⟨o', z⟩ := J.base.there b o q (by rw [O.ex]; simp); rw [e] at z; cases z
  intro b hb
  rcases List.mem_cons.mp hb with rfl | hb
  · exact ⟨fresh _ h1, h3, oe, vs, he, hd⟩
  · have e : b = T := by simpa using hb
    subst e
    exact ⟨fresh _ h2, h4, oT, ts, hT, hdT⟩
theorem flying (J : Inv X pins σ H s) {a T : Addr} {C : Value} (h5 : Fly s.heap a T C) : ∃ a0, Heap.FlyingW (PySem.W.hideAll s.heap (frs X.stack ++ [a, T])) X.stack a C a0 s.heap := by
  obtain ⟨oe, vs, oT, ts, a0, he, hc, hd, hv1, hne, hT, hdT, h3⟩ := h5
  have m1 : a ∈ frs X.stack ++ [a, T] := List.mem_append_right _ (by simp)
  have m2 : T ∈ frs X.stack ++ [a, T] := List.mem_append_right _ (by simp)
  exact ⟨a0, fun b o e => PySem.W.of_hideAll _ e, PySem.W.hideAll_none _ m1, PySem.W.funFrames_hide J.stack fun env he b hb => List.mem_append_left _ (List.mem_filterMap.mpr ⟨env, he, hb⟩), oe, vs, T, oT, ts, he, hc, hd, hv1, PySem.W.hideAll_none _ m2, hne, hT, hdT, h3⟩
theorem ups_of (J : Inv X pins σ H s) {h3 : Heap} (ups : s.heap.UpToSlots h3) : ∀ b o, b ∈ frs X.stack → s.heap.get? b = some o → ∃ sl, h3.get? b = some { o with slots := sl } := fun b o hb e => ups b o e (by
  obtain ⟨_, o2, ho2, hnf⟩ := J.stack.mem hb
  rw [e] at ho2; cases ho2; exact hnf)
/-- an exception of a callee leaves this frame too -/
theorem leave_on (O : Own X) (J : Inv X pins σ H s) {E : XK} {e : Value} {s' : Shared} (h : CXe X.prog X.w X.stack H s E e s') {E' : Value → Shared → Prop} :
    wpAny (model X.prog X.w) X.A (leaving X.env e) (fun _ s'' => CXe X.prog X.w X.outer X.H₀ X.s₀ E e s'') E' s' := by
  obtain ⟨a, T, C, H', rfl, J', h1, h2, h3, h4, h5, h6⟩ := behind J h
  have ap := fly_apart O J h1 h2 h3 h4 h5
  obtain ⟨a0, fl⟩ := flying J' h5
  have hfr : X.A.frames = some (X.env :: X.outer) := by rw [← O.stk]; exact J.ok.frames
  have fl2 := fl
  rw [show X.stack = X.env :: X.outer from O.stk] at fl
  refine wpAny_leaves_onW (a0 := a0) (base := PySem.W.hideAll s'.heap (frs (X.env :: X.outer) ++ [a, T])) hfr O.fr fl fun h3' fl3 ups => ?_
  rw [← O.stk] at fl3
  exact landed O J' ap (ups_of J' ups) fl3 (.inr (by simp)) h6
end
end L2

set_option maxHeartbeats 4000000
namespace L2
open PySem PySem.Spec PyProof.Rows
/-! ### the text's own exception classes, as the fragment shows them -/
def qNames : List Str := ["__init__", "__getattribute__", "__getattr__", "__class__"]
abbrev vB : List Value := [.type "ValueError", .type "Exception", .type "BaseException", .type "object"]
/-- what stands behind a class in its mro: own classes that hide nothing, then ValueError's -/
inductive Tl (h : Heap) : List Value → Prop
  | base : Tl h vB
  | own {D : Addr} {o : Obj} {c : ClassData} {m : Str → Option Value} {l : List Value} (e : h.get? D = some o) (k : o.data = .cls c) (n : h.Ns c.ns m) (q : ∀ x ∈ qNames, m x = none) (r : Tl h l) : Tl h (.ref D :: l)
theorem Tl.toOwn {h : Heap} {l : List Value} (T : Tl h l) : OwnTail h vB l := by
  induction T with
  | base => exact .base
  | @own D o c m l e k n q r ih =>
    obtain ⟨c0, dd, dt, sl⟩ := o
    obtain rfl : dt = .cls c := k
    exact .own e n (q _ (by decide)) ih
/-- the class at C, whose mro is C and then bm -/
structure ExC (C : Addr) (bm : List Value) (h : Heap) : Prop where
  ex : ∃ (nm q : Str) (N : Addr) (bs : List Value) (hd : Bool) (sn : List Str) (sub : List Value) (ab : Bool) (col : Option Bool) (dd : Option Addr) (k0 k1 k2 k3 k5 : Option Value) (m : Str → Option Value),
    h.get? C = some (excClassObj nm q C N bs bm hd sn sub ab col dd k0 k1 k2 k3 k5 "ValueError.__new__") ∧ h.Ns N m ∧ (∀ x ∈ qNames, m x = none) ∧ Tl h bm
def qIn (K : PySem.W.Frag) (N : Addr) : Bool := PySem.W.nsOkIn K N && qNames.all fun x => PySem.W.nsIn K N x == some none
def tlIn (K : PySem.W.Frag) : List Value → Bool
  | [] => false
  | v :: l => (v :: l) == vB || match v with
    | .ref D => (match K.lookup D with
      | some o => (match o.data with
        | .cls c => qIn K c.ns && tlIn K l
        | _ => false)
      | none => false)
    | _ => false
def exIn (K : PySem.W.Frag) (C : Addr) (bm : List Value) : Bool := match K.lookup C with
  | some ⟨.type "type", _, .cls c, ⟨[_, _, _, _, some (.builtin n), _]⟩⟩ => c.mro == .ref C :: bm && n == "ValueError.__new__" && !c.hasDel && tlIn K bm && qIn K c.ns
  | _ => false
theorem qIn_of {K : PySem.W.Frag} {h : Heap} {N : Addr} (X : K.In h) (e : qIn K N = true) : h.Ns N (h.nsMap N) ∧ ∀ x ∈ qNames, h.nsMap N x = none := by
  unfold qIn at e
  obtain ⟨a, b⟩ := Bool.and_eq_true_iff.mp e
  exact ⟨.of_isNs (PySem.W.isNs_of_in X a), fun x hx => PySem.W.nsMap_none_of_in X a (beq_iff_eq.mp (List.all_eq_true.mp b x hx))⟩
theorem tlIn_of {K : PySem.W.Frag} {h : Heap} (X : K.In h) : ∀ {l : List Value}, tlIn K l = true → Tl h l
  | [], e => by cases e
  | v :: l, e => by
    unfold tlIn at e
    rcases Bool.or_eq_true_iff.mp e with z | z
    · rw [beq_iff_eq.mp z]; exact .base
    · split at z
      · split at z
        · rename_i o ho
          split at z
          · rename_i c hc
            obtain ⟨z1, z2⟩ := Bool.and_eq_true_iff.mp z
            obtain ⟨y1, y2⟩ := qIn_of X z1
            exact .own (X _ _ ho) hc y1 y2 (tlIn_of X z2)
          · cases z
        · cases z
      · cases z
theorem exIn_of {K : PySem.W.Frag} {h : Heap} {C : Addr} {bm : List Value} (X : K.In h) (e : exIn K C bm = true) : ExC C bm h := by
  unfold exIn at e
  split at e
  · rename_i dd c k0 k1 k2 k3 n k5 ho
    simp only [Bool.and_eq_true, beq_iff_eq, Bool.not_eq_true'] at e
    obtain ⟨⟨⟨⟨e1, e2⟩, e3⟩, e4⟩, e5⟩ := e
    obtain ⟨nm, bs, mro, ns, qn, hd, sn, sub, ab, col, del⟩ := c
    dsimp only at e1 e3 e5
    subst e1 e2 e3
    obtain ⟨y1, y2⟩ := qIn_of X e5
    exact ⟨nm, qn, ns, bs, hd, sn, sub, ab, col, dd, k0, k1, k2, k3, k5, _, X _ _ ho, y1, y2, tlIn_of X e4⟩
  · cases e
section
variable {M : Model} {A : Around} {E : Value → Shared → Prop} {h : Heap} {g : Array GenState} {d : Drawn} {t : Nat} {os : OsState} {C a : Addr} {bm : List Value} {o : Obj} {prog : Program} {w : World}
theorem Tl.along {l : List Value} {n : Str} {y : Option Value} {Q : Option Value → Shared → Prop} (T : Tl h l) (hn : n ∈ qNames) (hr : lookupAlong vB n = pure y) (hq : Q y ⟨h, g, d, t, os⟩) : wpAny M A (lookupAlong l n) Q E ⟨h, g, d, t, os⟩ := by
  induction T with
  | base => rw [hr]; exact wpAny_pure hq
  | @own D ob c m l e k ns q r ih =>
    obtain ⟨c0, dd, dt, sl⟩ := ob
    obtain rfl : dt = .cls c := k
    rw [lookupAlong_cons]
    exact wpAny_bind (wpAny_classOwn_cls e ns (by rw [q n hn]; exact ih))
theorem ExC.look (Z : ExC C bm h) {n : Str} {y : Option Value} {Q : Option Value → Shared → Prop} (hn : n ∈ qNames) (hB : typeLookup (.type "ValueError") n = pure y) (hq : Q y ⟨h, g, d, t, os⟩) : wpAny M A (typeLookup (.ref C) n) Q E ⟨h, g, d, t, os⟩ := by
  obtain ⟨nm, q, N, bs, hd, sn, sub, ab, col, dd, k0, k1, k2, k3, k5, m, hC, hN, hm, T⟩ := Z.ex
  have hr : lookupAlong vB n = pure y := by rw [typeLookup_eq, PySem.F.excBase_ValueError.mroIs] at hB; exact hB
  rw [typeLookup_eq]
  refine wpAny_bind (wpAny_mroOf_exc hC ?_)
  rw [lookupAlong_cons]
  exact wpAny_bind (wpAny_classOwn_exc hC hN (by rw [hm n hn]; exact T.along hn hr hq))
theorem ExC.sub (Z : ExC C bm h) {c : Value} {Q : Bool → Shared → Prop} (hq : Q ((Value.ref C :: bm).contains c) ⟨h, g, d, t, os⟩) : wpAny M A (isSubtype (.ref C) c) Q E ⟨h, g, d, t, os⟩ := by
  obtain ⟨nm, q, N, bs, hd, sn, sub, ab, col, dd, k0, k1, k2, k3, k5, m, hC, _⟩ := Z.ex
  exact wpAny_isSubtype_exc hC hq
theorem ExC.has (Z : ExC C bm h) {T : String} {b : Bool} (hb : vB.contains (.type T) = b) : (Value.ref C :: bm).contains (.type T) = b := by
  obtain ⟨nm, q, N, bs, hd, sn, sub, ab, col, dd, k0, k1, k2, k3, k5, m, hC, hN, hm, T⟩ := Z.ex
  rw [List.contains_cons, T.toOwn.hasType hb]; rfl
theorem lk_VE_class : typeLookup (.type "ValueError") "__class__" = pure (some (.builtin "object.__class__")) := by rw [typeLookup_type, builtinLookup_eq_fast]; kernel_rfl
/-- e.__class__ -/
theorem cls_get (Z : ExC C bm h) (hx : h.get? a = some o) (hc : o.cls = .ref C) {R : Result → Shared → Prop} (hq : R (.ok (.ret (.ref C))) ⟨h, g, d, t, os⟩) :
    codeAny (model prog w) A (.call (.builtin "getset_descriptor.__get__") ⟨[.builtin "object.__class__", .ref a, .ref C], []⟩) R ⟨h, g, d, t, os⟩ := by
  have z1 : (⟨h, g, d, t, os⟩ : Shared).TypeIs (.builtin "object.__class__") "getset_descriptor" := F.typeOf_object_class
  have z2 : (Value.ref C :: bm).contains (.type (".".intercalate ("object.__class__".cutAt '.').dropLast)) = true := by rw [F.owner_object_class]; exact Z.has (by decide +kernel)
  refine codeAny_call_builtin F.slot_gs_get.plain F.entry_gs_get (F.slot_gs_get.check _ _ _ _ _ _ _ _ z1 (F.args_gs_get _ _ _) ?_)
  repeat (any_goals (first | assumption | (with_reducible refine wpAny_loadPart_at hx ?_; rw [hc]) | (with_reducible refine ExC.sub Z ?_; rw [z2]) | wp_step))
  refine ⟨Code.quiet_builtin _ (by decide +kernel), codeAny_builtin F.entry_object_class ?_⟩
  repeat (any_goals (first | assumption | (with_reducible refine wpAny_loadPart_at hx ?_; rw [hc]) | wp_step))
theorem cls_entry (Z : ExC C bm h) (hx : h.get? a = some o) (hc : o.cls = .ref C) {tk : Tok} {Q : Fin → Shared → Prop} (hq : Q (.done (.ret (.ref C))) ⟨h, g, d, t, os⟩) :
    wpAny (model prog w) A (Builtin.«object.__getattribute__» ⟨[.ref a, .str "__class__" tk], []⟩) Q E ⟨h, g, d, t, os⟩ := by
  have z1 : (⟨h, g, d, t, os⟩ : Shared).TypeIs (.builtin "object.__class__") "getset_descriptor" := F.typeOf_object_class
  have y5 := F.typeOf_object_class
  have y6 := F.slot_gs_get.lookup
  have y7 := F.slot_gs_set.lookup
  have zn : ("__class__" : Str) ∈ qNames := by decide
  repeat (any_goals (first | assumption | (with_reducible refine wpAny_loadPart_at hx ?_; rw [hc]) | with_reducible refine ExC.look Z zn lk_VE_class ?_ | wp_step))
  refine cls_get Z hx hc ?_
  repeat (any_goals (first | assumption | wp_step))
theorem cls_check (Z : ExC C bm h) (hx : h.get? a = some o) (hc : o.cls = .ref C) {nv : Value} {Q : Unit → Shared → Prop} (hq : Q () ⟨h, g, d, t, os⟩) : wpAny M A (checkBuiltinCall "BaseException.__getattribute__" ⟨[.ref a, nv], []⟩) Q E ⟨h, g, d, t, os⟩ := by
  have e1 : builtinKind "BaseException.__getattribute__" = some .slot := by decide +kernel
  have e2 : splitId "BaseException.__getattribute__" = some ("BaseException", "__getattribute__") := by decide +kernel
  have e3 : (Value.ref C :: bm).contains (.type "BaseException") = true := Z.has (by decide +kernel)
  have ha := F.args_bexc_ga (.ref a) nv
  simp only [checkBuiltinCall, e1, e2]
  refine wpAny_bind ?_
  unfold isInstance
  repeat (first | (with_reducible refine wpAny_loadPart_at hx ?_; rw [hc]) | (with_reducible refine ExC.sub Z ?_; rw [e3]) | wp_step)
  exact hq
theorem cls_by (Z : ExC C bm h) (hx : h.get? a = some o) (hc : o.cls = .ref C) {tk : Tok} {fill expr : Bool} {Q : Value → Shared → Prop} (hq : Q (.ref C) ⟨h, g, d, t, os⟩) :
    wpAny (model prog w) A (getAttrBy (.ref a) (.str "__class__" tk) fill expr) Q E ⟨h, g, d, t, os⟩ := by
  have FB := PySem.F.attrBase_ValueError
  have y3 := FB.ga.bind (.ref a)
  have x0 : (expr && onTheHeap (Value.builtin "BaseException.__getattribute__")) = false := by cases expr <;> rfl
  have x2 : (Value.builtin "BaseException.__getattribute__" == Value.builtin "object.__getattribute__") = false := by decide +kernel
  have x1 : (onTheHeap (Value.ref C) && Value.builtin "BaseException.__getattribute__" == Value.builtin "object.__getattribute__") = false := by rw [x2]; rfl
  have n1 : ("__getattribute__" : Str) ∈ qNames := by decide
  have n2 : ("__getattr__" : Str) ∈ qNames := by decide
  repeat (any_goals (first | assumption | (with_reducible refine wpAny_loadPart_at hx ?_; rw [hc]) | with_reducible refine ExC.look Z n1 FB.ga.lookup ?_ | with_reducible refine ExC.look Z n2 FB.noGetattr ?_ | wp_step))
  refine codeAny_call_builtin FB.ga.plain F.entry_bexc_ga (cls_check Z hx hc (cls_entry Z hx hc ?_))
  repeat (any_goals (first | assumption | wp_step))
theorem cls_attr (Z : ExC C bm h) (hx : h.get? a = some o) (hc : o.cls = .ref C) {Q : Option Value → Shared → Prop} (hq : Q (some (.ref C)) ⟨h, g, d, t + 1, os⟩) : wpAny (model prog w) A (getAttr? (.ref a) "__class__") Q E ⟨h, g, d, t, os⟩ := by
  unfold getAttr? getAttrBy?
  repeat (any_goals (first | assumption | with_reducible apply cls_by Z hx hc | wp_step))
/-- an exception of the class at C -/
def IsExc (a C : Addr) (h : Heap) : Prop := ∃ o, h.get? a = some o ∧ o.cls = .ref C
theorem kitx_exc {K : PySem.W.Frag} (e : exIn K C bm = true) : PySem.W.KitX K (.ref a) (.ref C) (IsExc a C) where
  ty := fun M h _ ⟨o, h1, h2⟩ => h2 ▸ (PySem.W.Looks.ld h1).andThen .now
  it := fun M h X _ => by
    obtain ⟨nm, q, N, bs, hd, sn, sub, ab, col, dd, k0, k1, k2, k3, k5, m, hC, _⟩ := (exIn_of X e).ex
    intro A' Q' E' s' k q
    unfold isType loadHead
    exact wpAny_bind (wpAny_loadPart (k _ _ hC) (wpAny_pure q))
  ne := fun h tp dd its n sl X htp => by
    obtain ⟨nm, q, N, bs, hd, sn, sub, ab, col, dd', k0, k1, k2, k3, k5, m, hC, _⟩ := (exIn_of X e).ex
    refine Bool.eq_false_iff.mpr fun z => ?_
    have z' : C = tp := Value.ref.inj (beq_iff_eq.mp z)
    subst z'
    have y : Value.type "type" = Value.type "tuple" := congrArg (fun o : Option Obj => match o with | some o => o.cls | none => .none) (hC.symm.trans htp)
    exact absurd y (by decide)
  ca := fun {prog w A E Q s} X p k => by
    obtain ⟨h, g, d, t, os⟩ := s
    obtain ⟨o, h1, h2⟩ := p
    exact cls_attr (exIn_of X e) h1 h2 k
end
/-- what is tracked of a caught exception -/
abbrev excO (a C : Addr) : HO := .ext (IsExc a C)
section
variable {X : Cx}
/-- isinstance(e, c) of a caught exception -/
theorem call_isinstanceE : CallR X (.builtin "isinstance") (fun xs H Q => ∃ (a C : Addr) (bm : List Value) (b : Bool), H a = some (excO a C) ∧ exIn X.K C bm = true ∧
    ((∃ D, xs = [.ref a, .ref D] ∧ PySem.W.kitOne X.K (.ref C) (.ref D) = some b) ∨ ∃ n, xs = [.ref a, .ty n] ∧ PySem.W.kitOne X.K (.ref C) (.type n) = some b) ∧ Q (.bl b) H) := by
  intro pins s σ H xs us Q I r h
  obtain ⟨a, C, bm, b, hH, he, hk, q⟩ := h
  obtain ⟨p, _, _⟩ := (show ObjOk X.prog X.w H s.heap a (excO a C) from I.hok a _ hH)
  rcases hk with ⟨D, rfl, hk⟩ | ⟨n, rfl, hk⟩
  · obtain ⟨u, w', rfl, ru, rw'⟩ := vals2 r
    cases (show u = Value.ref a from ru)
    cases (show w' = Value.ref D from rw')
    exact PySem.W.kia_one (kitx_exc he) I.kIn p hk (fun z => nomatch z) fun tk => ⟨.bl b, H, I.tok _, rfl, q⟩
  · obtain ⟨u, w', rfl, ru, rw'⟩ := vals2 r
    cases (show u = Value.ref a from ru)
    cases (show w' = Value.type n from rw')
    exact PySem.W.kia_one (kitx_exc he) I.kIn p hk (fun z => nomatch z) fun tk => ⟨.bl b, H, I.tok _, rfl, q⟩
end
theorem boot_VE : bootBuiltins "ValueError" = some (.type "ValueError") := by kernel_rfl
end L2

set_option maxHeartbeats 4000000
namespace L2
open PySem PySem.Spec PyProof.Rows
/-! ### a def that may raise -/
/-- an exception that leaves the code leaves the def with E -/
structure Lets (X : Cx) (E : XK) : Prop where
  own : Own X
  xe : ∀ e s', wpAny (model X.prog X.w) X.A (leaving X.env e) (fun _ s'' => CXe X.prog X.w X.outer X.H₀ X.s₀ E e s'') (fun _ _ => False) s' → X.xe e s'
section
variable {P : Program} {w : World} {K : PySem.W.Frag} {mg : Str → Option Value} {base : Heap}
theorem own_def {CX : CXT} {N : List Str} {qual : Str} {scope : Scope} {f : Addr} {cd : Value} {A : Around} {outer : List Env} {s : Shared} {H : Hp} {E : XK} : Own (cxOf CX P w K mg base N qual scope f cd A outer s H E) := ⟨rfl, rfl, rfl⟩
theorem own_nox {X : Cx} (O : Own X) : Own X.nox := ⟨O.stk, O.fr, O.ex⟩
theorem lets_def {N : List Str} {qual : Str} {scope : Scope} {f : Addr} {cd : Value} {A : Around} {outer : List Env} {s : Shared} {H : Hp} {E : XK} : Lets (cxOf (CXe P w) P w K mg base N qual scope f cd A outer s H E) E :=
  ⟨own_def, fun _ _ h => wpAny_mono h (fun _ _ z => z) fun _ _ z => False.elim z⟩
theorem Fun.okE {x qual : Str} {st : Stmt} {f : Addr} {fd : FuncData} {N ps : List Str} {k : Nat} {sp : Sp} (F : Fun K x qual st f fd) (S : FnScope N ps (defScope st)) (len : ∀ vs H Q E, sp vs H Q E → vs.length = ps.length)
    (hb : ∀ (cdv : Value) (A : Around) (outer : List Env) (s : Shared) (H : Hp) (vs : List V) (Q : VK) (E : XK), Room k (A.deeper (envOfC qual (defScope st) s.heap.objs.size f cdv)) → sp vs H Q E →
      ∃ t, PSs (cxOf (CXe P w) P w K mg base N qual (defScope st) f cdv A outer s H E) (defBody st) t ∧ t { nx := fun _ H' => Q .non H', rt := Q } (start N vs) H) : FnOk P w K mg base (CXe P w) (k + 1) f fd ps sp := by
  obtain ⟨oc, od, kV, doc, pm, an, cdv, ct, osl, rfl, lk, hcd⟩ := F.ex
  exact fn_of lk hcd S len fun A outer s H vs Q E hr hsp => hb cdv A outer s H vs Q E hr hsp
end
section
variable {X : Cx} {E : XK}
theorem passE (L : Lets X E) : Passes (CXe X.prog X.w) X E := fun _ _ _ _ _ _ I h => L.xe _ _ (leave_on L.own I h)
def tRaise (C : Addr) (E : XK) : TS := fun _ _ H => E (.ref C) none H
/-- raise C('..') -/
theorem ps_raise {x : Str} {C : Addr} {bm : List Value} {np cpos pos cp : Pos} {msg : Str} {j} (L : Lets X E) (hc : X.calm = true) (hg : Gl X x) (hm : X.mg x = some (.ref C)) (ex : exIn X.K C bm = true) (hd : (x == ("__debug__" : Str)) = false := by decide) :
    PS X (.Raise (some (.Call (.Name x np) [.Constant (.str msg) j cp] [] cpos)) none pos) (tRaise C E) := by
  intro pins s σ H D I h
  obtain ⟨nm, q, N, bs, hdd, sn, sub, ab, col, dd, k0, k1, k2, k3, k5, m, hC, hN, hq, T⟩ := (exIn_of I.ok.mod.kin ex).ex
  have hb : bm.contains (.type "BaseException") = true := T.toOwn.hasType (by decide +kernel)
  refine wpAny_Raise_call_subT (C := C) (nm := nm) (q := q) (N := N) (bs := bs) (bm := bm) (hdct := hdd) (sn := sn) (sub := sub) (ab := ab) (col := col) (dd := dd) (k0 := k0) (k1 := k1) (k2 := k2) (k3 := k3) (k5 := k5)
    PySem.F.excBase_ValueError (mN := m) hb (I.ok.hd hc) rfl (hq _ (by decide)) (ld_glob I hg hm ⟨rfl, ?_⟩ hd)
  have ha : PA X [.Constant (.str msg) j cp] (tCons (tC (.str msg)) tNil) := pa_cons pe_str pa_nil
  refine Calls.evalArgs_plain (wpAny_mono (ha cpos pins s σ H (fun vs H1 => vs = [.str msg] ∧ H1 = H) I ⟨rfl, rfl⟩) (fun us s1 h1 => ?_) fun _ _ z => z)
  obtain ⟨vs, H1, I1, rv, rfl, rfl⟩ := h1
  have rl := rv.length
  refine ⟨rfl, ?_, I1.bk _ _ hC, hN.keeps I1.bk, T.toOwn.keeps I1.bk, fun h' e hx => L.xe _ _ (leave_made L.own I1 hx h)⟩
  show us.length ≤ sizeLine
  rw [← rl]; show 1 ≤ sizeLine; decide
end
theorem PS.nox {X : Cx} {st : Stmt} {t : TS} (h : PS X.nox st t) : PS X st t := fun pins s σ H D I hw =>
  wpAny_mono (h pins s σ H D (I.wish _) hw) (fun _ _ q => q.unwish) fun _ _ z => False.elim z
/-! ### try: f(..) except C as e: c = e -/
section
variable {X : Cx} {pins : List (Addr × Obj)} {σ : St} {H : Hp} {s : Shared}
/-- apart from the frame, its cells and what is pinned -/
def Away (X : Cx) (pins : List (Addr × Obj)) (xs : List Addr) : Prop := ∀ b ∈ xs, b ≠ X.env.locals ∧ ∀ p ∈ X.pn ++ pins, p.1 ≠ b
/-- a step that turned the frames' slots and xs alone -/
theorem Inv.turn (O : Own X) (nc : ∀ x, X.env.cells.lookup x = none) (J : Inv X pins σ H s) {xs : List Addr} (hxs : Apart X H s.heap xs) (aw : Away X pins xs) {h3 : Heap} (st : (PySem.W.hideAll s.heap (frs X.stack ++ xs)).StaysIn h3)
    (ups : ∀ b o, b ∈ frs X.stack → s.heap.get? b = some o → ∃ sl, h3.get? b = some { o with slots := sl }) {t' : Nat} : Inv X pins σ H { s with heap := h3, toks := t' } := by
  obtain ⟨hok, un⟩ := Inv.over O J hxs st ups
  have hfrs : frs X.stack = X.env.locals :: X.fs := by rw [O.stk, frs_cons O.fr]
  have young : ∀ b o, X.s₀.heap.get? b = some o → b ∉ xs := fun b o e z => by rw [(hxs b z).1] at e; cases e
  have old : ∀ b o, X.s₀.heap.get? b = some o → b ≠ X.env.locals := fun b o e => Nat.ne_of_lt (Nat.lt_of_lt_of_le (Heap.lt_size e) J.ok.above)
  have nx : ∀ b : Addr, b ∉ X.ex := fun b => by rw [O.ex]; simp
  refine ⟨J.ok, J.os, J.bare, ⟨fun b o e n hb hx => ?_, fun b o e n hb hx => ?_, J.base.free, fun b o e hx => ?_, J.base.tups, J.base.frzs, J.base.tbls⟩, ?_, fun x c e => (by rw [nc x] at e; cases e), J.free, J.freeC, fun p hp => ?_, hok, J.len⟩
  · have e1 := J.base.keep b o e n hb (nx b)
    exact un.keep b o e1 (J.base.free b o e n (nx b)) (by rw [hfrs]; exact fun z => (List.mem_cons.mp z).elim (old b o e) hb) (young b o e)
  · obtain ⟨sl, e1⟩ := J.base.slot b o e n hb (nx b)
    obtain ⟨sl', e2⟩ := un.slot b _ e1 (J.base.free b o e n (nx b)) (by rw [hfrs]; exact List.mem_cons_of_mem _ hb) (young b o e)
    exact ⟨sl', e2⟩
  · obtain ⟨o1, e1⟩ := J.base.there b o e (nx b)
    exact un.there b o1 e1 (young b o e)
  · obtain ⟨m, ⟨o, es, ep, ho, hd, r⟩, hl⟩ := J.loc
    obtain ⟨sl, e⟩ := ups X.env.locals o (by rw [hfrs]; exact List.mem_cons_self) ho
    refine ⟨m, ⟨_, es, ep, e, hd, r⟩, fun i x v h1 h2 h3 => ?_⟩
    obtain ⟨u, ru, z⟩ := hl i x v h1 h2 h3
    refine ⟨u, ru, ?_⟩
    rcases z with z | ⟨_, c, z, _⟩
    · exact .inl z
    · rw [nc x] at z; cases z
  · obtain ⟨e, n, ne, nf, d⟩ := J.pin p hp
    have hx : p.1 ∉ xs := fun z => (aw p.1 z).2 p hp rfl
    exact ⟨un.keep p.1 p.2 e n (by rw [hfrs]; exact fun z => (List.mem_cons.mp z).elim ne nf) hx, n, ne, nf, d⟩
/-- a thing that lies there is taken up -/
theorem Inv.takeUp (O : Own X) (nc : ∀ x, X.env.cells.lookup x = none) (J : Inv X pins σ H s) {a : Addr} {o : HO} (hn : H a = none) (h0 : X.s₀.heap.get? a = none) (aw : Away X pins [a]) (ho : ObjOk X.prog X.w (upd H a o) s.heap a o) : Inv X pins σ (upd H a o) s := by
  have ne : ∀ b u, H b = some u → b ≠ a := fun b u e z => by rw [z, hn] at e; cases e
  refine ⟨J.ok, J.os, J.bare, ⟨J.base.keep, J.base.slot, fun b ob e n hx => ?_, J.base.there, fun b xs q => ?_, fun b ob u q => ?_, fun b ps q => ?_⟩, J.loc, J.cell, ?_, fun x c e => (by rw [nc x] at e; cases e), fun p hp => ?_, fun b u e => ?_, J.len⟩
  · rw [upd_ne (fun z => by rw [z, h0] at e; cases e)]; exact J.base.free b ob e n hx
  · have := J.base.tups b xs q; rw [upd_ne (ne b _ this)]; exact this
  · have := J.base.frzs b ob u q; rw [upd_ne (ne b _ this)]; exact this
  · obtain ⟨more, this⟩ := J.base.tbls b ps q
    exact ⟨more, by rw [upd_ne (ne b _ this)]; exact this⟩
  · rw [upd_ne (Ne.symm (aw a (by simp)).1)]; exact J.free
  · obtain ⟨e, n, h1, h2, h3⟩ := J.pin p hp
    exact ⟨e, by rw [upd_ne ((aw a (by simp)).2 p hp)]; exact n, h1, h2, h3⟩
  · by_cases hb : b = a
    · subst hb; rw [upd_same] at e; cases e; exact ho
    · rw [upd_ne hb] at e
      exact (J.hok b u e).stay (fun _ _ _ q => q) (fun c q => by rw [upd_ne (ne c _ q)]; exact q) fun c xs q => by rw [upd_ne (ne c _ q)]; exact q
/-- a name is unbound -/
theorem Inv.unbound (nc : ∀ x, X.env.cells.lookup x = none) (J : Inv X pins σ H s) (hN : X.N.Nodup) {i : Nat} {n : Str} (hi : X.N[i]? = some n) {m : Str → Option Value} (hm : ∀ (j : Nat) (x : Str) (v : V), X.N[j]? = some x → σ[j]? = some (some v) → Vis X.env.scope x → ∃ u, RelV v u ∧ Look X.env s.heap m x u)
    {h' : Heap} {u : Option Value} (hn : h'.Ns X.env.locals (fun x => if x = n then u else m x)) (hs : Heap.SameBut X.env.locals s.heap h') : Inv X pins (σ.set i none) H { s with heap := h' } := by
  have old : ∀ b o, X.s₀.heap.get? b = some o → b ≠ X.env.locals := fun b o e => Nat.ne_of_lt (Nat.lt_of_lt_of_le (Heap.lt_size e) J.ok.above)
  refine ⟨J.ok, J.os, J.bare, ⟨fun b o e q hb hx => (hs.2 b (old b o e)).trans (J.base.keep b o e q hb hx), fun b o e q hb hx => ?_, J.base.free, fun b o e hx => ?_, J.base.tups, J.base.frzs, J.base.tbls⟩, ⟨_, hn, fun j x v h1 h2 h3 => ?_⟩, fun x c e => (by rw [nc x] at e; cases e), J.free, J.freeC, fun p hp => ?_, fun b ob e => ?_, by rw [List.length_set]; exact J.len⟩
  · obtain ⟨sl, z⟩ := J.base.slot b o e q hb hx
    exact ⟨sl, (hs.2 b (old b o e)).trans z⟩
  · obtain ⟨o', z⟩ := J.base.there b o e hx
    exact ⟨o', (hs.2 b (old b o e)).trans z⟩
  · by_cases hj : j = i
    · subst hj
      by_cases hl : j < σ.length
      · rw [List.getElem?_set_self hl] at h2; cases h2
      · rw [List.getElem?_eq_none (by rw [List.length_set]; omega)] at h2; cases h2
    · rw [List.getElem?_set_ne (Ne.symm hj)] at h2
      obtain ⟨u', ru, z⟩ := hm j x v h1 h2 h3
      have hx : x ≠ n := fun e => hj (nodup_ix hN h1 (e ▸ hi))
      refine ⟨u', ru, ?_⟩
      rcases z with ⟨k, z⟩ | ⟨_, c, z, _⟩
      · exact .inl ⟨k, by show (if x = n then u else m x) = _; rw [if_neg hx]; exact z⟩
      · rw [nc x] at z; cases z
  · obtain ⟨e, q, h1, h2, h3⟩ := J.pin p hp
    exact ⟨(hs.2 p.1 h1).trans e, q, h1, h2, h3⟩
  · refine (J.hok b ob e).stay (fun c v hc q => (hs.2 c ?_).trans q) (fun _ q => q) fun _ _ q => q
    intro z
    rcases hc with rfl | hc
    · rw [z, J.free] at e; cases e
    · rw [z, J.free] at hc; cases hc
/-- e is of a class below B -/
theorem matches_up {M : Model} {A : Around} {E : Value → Shared → Prop} {h : Heap} {g : Array GenState} {d : Drawn} {t : Nat} {os : OsState} {a B C : Addr} {bm bmB : List Value} {o : Obj} {Q : Bool → Shared → Prop} (Z : ExC C bm h) (ZB : ExC B bmB h)
    (hx : h.get? a = some o) (hc : o.cls = .ref C) (hb : (Value.ref C :: bm).contains (.ref B) = true) (hq : Q true ⟨h, g, d, t, os⟩) : wpAny M A (excMatches (.ref a) (.ref B)) Q E ⟨h, g, d, t, os⟩ := by
  have e1 : (Value.ref B :: bmB).contains (.type "BaseException") = true := ZB.has (by decide +kernel)
  have e2 := tc_notTuple
  obtain ⟨nm, q, N, bs, hd, sn, sub, ab, col, dd, k0, k1, k2, k3, k5, m, hB, _⟩ := ZB.ex
  unfold excMatches
  repeat (first | (with_reducible refine wpAny_loadPart_at hx ?_; rw [hc]) | with_reducible refine wpAny_loadPart_at hB ?_ | (with_reducible refine ExC.sub ZB ?_; rw [e1]) | (with_reducible refine ExC.sub Z ?_; rw [hb]) | wp_step)
  exact hq
/-- the same body, within an except suite -/
abbrev Cx.held (X : Cx) (a : Addr) : Cx := { X with A := X.A.mark (some (.ref a)), calm := false, xe := fun _ _ => False }
theorem Inv.held (I : Inv X pins σ H s) (a : Addr) : Inv (X.held a) pins σ H s :=
  ⟨⟨I.ok.mod, I.ok.kind, I.ok.glob, I.ok.blt, I.ok.above, I.ok.inj, I.ok.has, I.ok.cab, (fun z => by cases z), I.ok.frames, I.ok.stk, I.ok.exf, I.ok.bs, I.ok.bsz, I.ok.noex, I.ok.exfs, I.ok.funs, I.ok.frf⟩, I.os, I.bare, I.base, I.loc, I.cell, I.free, I.freeC, I.pin, I.hok, I.len⟩
theorem Inv.unheld {a : Addr} (O : X.Ok) (I : Inv (X.held a) pins σ H s) : Inv X pins σ H s := ⟨O, I.os, I.bare, I.base, I.loc, I.cell, I.free, I.freeC, I.pin, I.hok, I.len⟩
/-- what lies behind a call that an exception left -/
def XP (X : Cx) (pins : List (Addr × Obj)) (σ : St) (E : XK) (e : Value) (s' : Shared) : Prop :=
  ∃ (a T : Addr) (C : Value) (H' : Hp), e = .ref a ∧ Inv X pins σ H' s' ∧ Apart X H' s'.heap [a, T] ∧ Away X pins [a, T] ∧ Fly s'.heap a T C ∧ E C none H'
theorem XP.of (O : Own X) (J : Inv X pins σ H s) {E : XK} {e : Value} {s' : Shared} (h : CXe X.prog X.w X.stack H s E e s') : XP X pins σ E e s' := by
  obtain ⟨a, T, C, H', rfl, J', h1, h2, h3, h4, h5, h6⟩ := behind J h
  refine ⟨a, T, C, H', rfl, J', fly_apart O J h1 h2 h3 h4 h5, fun b hb => ?_, h5, h6⟩
  have hb' : s.heap.get? b = none := by
    rcases List.mem_cons.mp hb with rfl | hb
    · exact h1
    · have e : b = T := by simpa using hb
      rw [e]; exact h2
  refine ⟨fun z => ?_, fun p hp z => ?_⟩
  · obtain ⟨m, ⟨o, es, ep, ho, _⟩, _⟩ := J.loc
    rw [← z, hb'] at ho; cases ho
  · obtain ⟨e, _⟩ := J.pin p hp
    rw [z, hb'] at e; cases e
/-- except B as n: y = n -/
theorem caught {B : Addr} {bmB : List Value} {x n y : Str} {i j : Nat} {np py pn pa hp : Pos} (O : Own X) (nc : ∀ x, X.env.cells.lookup x = none) (hN : X.N.Nodup) (hi : X.N[i]? = some n) (hj : X.N[j]? = some y) (hij : i ≠ j)
    (hn : X.env.scope.names.lookup n = some .local) (hy : X.env.scope.names.lookup y = some .local) (hg : Gl X x) (hm : X.mg x = some (.ref B)) (eB : exIn X.K B bmB = true) (hd : (x == ("__debug__" : Str)) = false) (hd2 : (n == ("__debug__" : Str)) = false) (hd3 : (n == ("__classdict__" : Str)) = false)
    (hsw : swapsWith (.Name n pn) (some (.Name y py)) pa.line X.env = pure false) {E : XK} {D : Ends} {e : Value}
    (hE : ∀ C H', E C none H' → ∃ (c : Addr) (bm : List Value), C = .ref c ∧ exIn X.K c bm = true ∧ (Value.ref c :: bm).contains (.ref B) = true ∧ ∀ a, H' a = none → D.nx ((σ.set j (some (.ref a))).set i none) (upd H' a (excO a c))) (h : XP X pins σ E e s) :
    wpAny (model X.prog X.w) X.A (noteFrame e X.env) (fun _ s₂ => wpAny (model X.prog X.w) X.A (setFlight e none) (fun _ s₃ =>
      wpAny (model X.prog X.w) X.A (handleBy e X.env [.ExceptHandler (some (.Name x np)) (some n) [.Assign [.Name y py] (.Name n pn) pa] hp]) (SP X pins D) X.xe s₃) X.xe s₂) X.xe s := by
  obtain ⟨a, T, C, H, rfl, J, ap, aw, fly, hEc⟩ := h
  obtain ⟨c, bm, rfl, ec, hbc, hnx⟩ := hE C H hEc
  obtain ⟨a0, fl⟩ := flying J fly
  have fl' := fl
  rw [show X.stack = X.env :: X.outer from O.stk] at fl'
  have hfr : X.A.frames = some (X.env :: X.outer) := by rw [← O.stk]; exact J.ok.frames
  refine wpAny_looks_onW (a0 := a0) hfr O.fr fl' fun h4 held4 sm4 => ?_
  refine wpAny_landsW held4 fun h5 fl5 sm5 => ?_
  have sm := sm4.trans sm5
  rw [← O.stk] at fl5
  have J5 : Inv X pins σ H { s with heap := h5 } := Inv.turn O nc J ap aw fl5.1 (ups_of J sm) (t' := s.toks)
  refine wpAny_handleBy_cons (codeAny_handlers_test (ld_glob (X := X.held a) (J5.held a) hg hm ?_ hd)) (by intro q; cases q)
  obtain ⟨ob, hob, hobc⟩ := fl5.there
  refine matches_up (exIn_of J5.kIn ec) (exIn_of J5.kIn eB) hob hobc hbc (codeAny_handlers_suite_as ?_)
  refine lands_againW fl5 fun h6 fl6 sm6 => ?_
  have J6 : Inv X pins σ H { s with heap := h6 } := Inv.turn O nc J ap aw fl6.1 (ups_of J (sm.trans sm6)) (t' := s.toks)
  obtain ⟨ob6, hob6, hobc6⟩ := fl6.there
  have aw1 : Away X pins [a] := fun b hb => aw b (by have e : b = a := by simpa using hb
                                                     rw [e]; simp)
  have Ja : Inv X pins σ (upd H a (excO a c)) { s with heap := h6 } := Inv.takeUp O nc J6 (ap a (by simp)).2.1 (ap a (by simp)).1 aw1 ⟨⟨ob6, hob6, hobc6⟩, ⟨ob6, hob6⟩, fun h1 h2 ⟨o, z1, z2⟩ k => ⟨o, k o z1, z2⟩⟩
  refine store_ok (X := X.held a) (Ja.held a) hN hi (.inl hn) (v := .ref a) rfl (fun s7 J7 => ?_) (.inr hn)
  have hσ : i < σ.length := by rw [J.len]; exact (List.getElem?_eq_some_iff.mp hi).1
  have hσj : j < σ.length := by rw [J.len]; exact (List.getElem?_eq_some_iff.mp hj).1
  have suite : PSs (X.held a) [.Assign [.Name y py] (.Name n pn) pa] (tAsg (tVar i) (gName j)) := pss_one (ps_set (X := X.held a) hN hj (.inl hy) (pe_var hi (.inl hn) hd2 hd3) hsw (.inr hy))
  refine wpAny_mono (suite pins s7 _ _ { nx := fun σ' H' => σ' = (σ.set i (some (.ref a))).set j (some (.ref a)) ∧ H' = upd H a (excO a c), rt := fun _ _ => False } J7 ⟨.ref a, by rw [List.getElem?_set_self hσ], rfl, rfl⟩) (fun f s8 h8 => ?_) fun _ _ z => False.elim z
  cases f with
  | next =>
    obtain ⟨σ8, H8, J8, rfl, rfl⟩ := h8
    have J8' := Inv.unheld J.ok J8
    refine wpAny_bind (wpAny_bindName (store_ok J8' hN hi (.inl hn) (v := .non) rfl (fun s9 J9 => ?_) (.inr hn)))
    unfold unbindBehindTheSuite
    refine wpAny_onRaise ?_
    obtain ⟨m, hns, hl⟩ := id J9.loc
    have hat : (((σ.set i (some (.ref a))).set j (some (.ref a))).set i (some V.non))[i]? = some (some .non) := by rw [List.getElem?_set_self (by rw [List.length_set, List.length_set]; exact hσ)]
    obtain ⟨u, _, z⟩ := hl i n .non hi hat (.inl hn)
    have hmn : m n = some u := by
      rcases z with ⟨_, z⟩ | ⟨_, c', z, _⟩
      · exact z
      · rw [nc n] at z; cases z
    refine wpAny_unbindName_local hn hns hmn (by rw [J.ok.kind]; rfl) fun h' u' hn' hs' => ?_
    have J10 := Inv.unbound nc J9 hN hi hl hn' hs'
    refine ⟨_, _, J10, ?_⟩
    have e : ((((σ.set i (some (.ref a))).set j (some (.ref a))).set i (some V.non)).set i none) = (σ.set j (some (.ref a))).set i none := by
      rw [List.set_set, List.set_comm _ _ hij, List.set_set]
    rw [e]
    exact hnx a (ap a (by simp)).2.1
  | ret v => obtain ⟨_, _, _, _, _, z⟩ := h8; exact False.elim z
  | brk => obtain ⟨_, _, _, z⟩ := h8; exact False.elim z
  | cont => obtain ⟨_, _, _, z⟩ := h8; exact False.elim z
/-- f(..) that may raise: both ways out, at the names' values ahead of it -/
theorem call_x {k : Nat} {f : Addr} {fd : FuncData} {ps : List Str} {sp : Sp} {x : Str} {p pos : Pos} {e : Expr} {es : List Expr} {t : TA} (O : Own X) (F : FnOk X.prog X.w X.K X.mg X.base (CXe X.prog X.w) k f fd ps sp) (hr : Room k X.A) (hg : Gl X x) (hm : X.mg x = some (.ref f)) (hk : PySem.W.keepIn X.K (.ref f) = true)
    (hb : Binds X.K fd ps []) (ha : PA X.nox (e :: es) t) (hdb : (x == ("__debug__" : Str)) = false) (he : starEach (e :: es) X.env = (false, eval e X.env) :: starEach es X.env) (hpl : (backTo pos (starEach es X.env)).any (·.1) = false)
    {Q : VK} {E : XK} (I : Inv X pins σ H s) (h : t σ H fun vs H1 => sp vs H1 Q E) : wpAny (model X.prog X.w) X.A (eval (.Call (.Name x p) (e :: es) [] pos) X.env) (EP X pins σ Q) (XP X pins σ E) s := by
  refine wpAny_Call_Name_kw (ld_glob I hg hm ?_ hdb)
  refine PySem.W.callWith_K (h₀ := X.base) I.ok.mod.kin hk (wpAny_mono (ha pos pins s σ H _ (I.wish _) h) (fun us s1 ⟨vs, H1, I1, r, q⟩ => ⟨I1.kIn, ?_⟩) fun _ _ z => False.elim z) he hpl
  have J := I1.unwish
  have hl : us.length = ps.length := by rw [← r.length]; exact F.len _ _ _ _ q
  have hb' : BindsTo s1 fd ⟨us, []⟩ (ps.zip us) := by
    have := hb s1 us J.kIn (by rw [List.append_nil]; exact hl)
    rw [List.append_nil] at this; exact this
  refine wpAny_call (codeAny_mono (F.run X.A X.stack s1 H1 ⟨us, []⟩ us vs Q E hr J.env0 hb' r q) fun r s' hq => ?_)
  cases r with
  | error e => exact XP.of O J hq
  | ok fl =>
    cases fl with
    | ret u => exact J.after hq
    | next => exact False.elim hq
    | brk => exact False.elim hq
    | cont => exact False.elim hq
/-- what the handler's end wants of the caught one -/
def Hand (K : PySem.W.Frag) (B : Addr) (i j : Nat) (D : Ends) (σ : St) : XK := fun C _ H' => ∃ (c : Addr) (bm : List Value), C = .ref c ∧ exIn K c bm = true ∧ (Value.ref c :: bm).contains (.ref B) = true ∧ ∀ a, H' a = none → D.nx ((σ.set j (some (.ref a))).set i none) (upd H' a (excO a c))
def tTryA (K : PySem.W.Frag) (B : Addr) (i j l : Nat) (sp : Sp) (t : TA) : TS := fun D σ H => t σ H fun vs H1 => sp vs H1 (fun v H2 => D.nx (σ.set l (some v)) H2) (Hand K B i j D σ)
theorem ps_tryA {k : Nat} {f : Addr} {fd : FuncData} {ps : List Str} {sp : Sp} {g : Str} {p cpos ep pos : Pos} {e : Expr} {es : List Expr} {t : TA} {B : Addr} {bmB : List Value} {x n y v : Str} {i j l : Nat} {np py pn pa hp pv : Pos}
    (O : Own X) (F : FnOk X.prog X.w X.K X.mg X.base (CXe X.prog X.w) k f fd ps sp) (hr : Room k X.A) (hm : X.mg g = some (.ref f)) (hk : PySem.W.keepIn X.K (.ref f) = true) (hb : Binds X.K fd ps []) (ha : PA X.nox (e :: es) t)
    (hN : X.N.Nodup) (hi : X.N[i]? = some n) (hj : X.N[j]? = some y) (hl : X.N[l]? = some v) (hij : i ≠ j) (hmB : X.mg x = some (.ref B)) (eB : exIn X.K B bmB = true)
    (nc : ∀ x, X.env.cells.lookup x = none := by exact fun _ => rfl) (hn : X.env.scope.names.lookup n = some .local := by rfl) (hy : X.env.scope.names.lookup y = some .local := by rfl) (hv : X.env.scope.names.lookup v = some .local := by rfl) (hg : Gl X g := by rfl) (hgB : Gl X x := by rfl) (hdb : (g == ("__debug__" : Str)) = false := by decide) (hd : (x == ("__debug__" : Str)) = false := by decide)
    (hd2 : (n == ("__debug__" : Str)) = false := by decide) (hd3 : (n == ("__classdict__" : Str)) = false := by decide) (hsw : swapsWith (.Name n pn) (some (.Name y py)) pa.line X.env = pure false := by rfl) (hs : swapsWith (.Call (.Name g p) (e :: es) [] cpos) (some (.Name v pv)) ep.line X.env = pure false := by rfl)
    (he : starEach (e :: es) X.env = (false, eval e X.env) :: starEach es X.env := by rfl) (hpl : (backTo cpos (starEach es X.env)).any (·.1) = false := by rfl) :
    PS X (.Try [.Assign [.Name v pv] (.Call (.Name g p) (e :: es) [] cpos) ep] [.ExceptHandler (some (.Name x np)) (some n) [.Assign [.Name y py] (.Name n pn) pa] hp] [] [] pos) (tTryA X.K B i j l sp t) := by
  intro pins s σ H D I h
  refine wpAny_Try_except (wpAny_execs_cons (wpAny_Assign_Name (wpAny_mono (call_x O F hr hg hm hk hb ha hdb he hpl I h) (fun u s1 ⟨v', H1, I1, r, q⟩ => ?_) fun e' s1 z => ?_) hs))
  · exact store_ok I1 hN hl (.inl hv) r (fun s2 I2 => wpAny_execs_nil (wpAny_execs_nil ⟨_, H1, I2, q⟩)) (.inr hv)
  · exact caught O nc hN hi hj hij hn hy hgB hmB eB hd hd2 hd3 hsw (fun C H' z => z) z
end
end L2

set_option maxHeartbeats 4000000
namespace L2
open PySem PySem.Spec PyProof.Rows
/-! ### a list comprehension whose element may raise -/
section
variable {X : Cx} {pins : List (Addr × Obj)} {σ : St} {H : Hp} {s : Shared}

end
section
variable {prog : Program} {w : World} {A : Around} {R : Result → Shared → Prop} {s : Shared}
end
section
variable {X : Cx} {E : XK} {N' : List Str} {scope : Scope}
end
end L2

set_option maxHeartbeats 1000000
namespace L2
open PySem PySem.Spec PyProof.Rows
section
variable {X : Cx}
theorem from_nat (n k : Nat) : fromIndex n (k : Int) = k := by
  unfold fromIndex
  rw [if_neg (by omega), Int.max_eq_right (Int.natCast_nonneg _), Int.toNat_natCast]
theorem mt_startswith2 : MtM X "str.startswith" (fun x vs H Q => ∃ (i j : Str) (k : Nat), x = .str i ∧ vs = [.str j, .int (k : Int)] ∧ Q (.bl (decide (k + j.length ≤ i.length) && Builtin.Str.subAt i j k)) H) := by
  intro pins s σ H x xs v us Q I rx rv h
  obtain ⟨i, j, k, rfl, rfl, q⟩ := h
  obtain ⟨t, rfl⟩ := rx
  obtain ⟨u, u', rfl, ⟨t2, rfl⟩, ⟨t3, rfl⟩⟩ := rv.two
  have g := gives_str_startswith_from i j (k : Int) t t2 t3
  rw [from_nat] at g
  exact call_gives F.slot_str_startswith (typeIs_str _ _ _) F.entry_str_startswith (F.args_str_startswith_3 _ _ _) g ⟨.bl _, H, I, rfl, q⟩
theorem mt_strip0 : MtM X "str.strip" (fun x vs H Q => ∃ i, x = .str i ∧ vs = [] ∧ i.length ≤ sizeLine ∧ Q (.str (Txt.strip i)) H) := by
  intro pins s σ H x xs v us Q I rx rv h
  obtain ⟨i, rfl, rfl, hz, q⟩ := h
  obtain ⟨t, rfl⟩ := rx
  obtain rfl := rv.zero
  exact SC.strip (fun t' k => ⟨.str _, H, I.tok _, ⟨_, rfl⟩, q⟩) hz
end
end L2
namespace My
open PySem L2 OF
/-! ### the texts of statements -/
def wdL (w : Nat) : List Nat := if w = 0 then [97, 110, 100] else if w = 1 then [111, 114] else [120, 111, 114]
def isJ : Sm → Bool
  | .two _ _ _ => true
  | _ => false
/-- which token a text begins with -/
def fstTok (l : List Nat) : List Nat :=
  if [110, 111, 116, 32] <+: l then [110, 111, 116, 32] else if [32, 97, 110, 100, 32] <+: l then [32, 97, 110, 100, 32] else if [32, 111, 114, 32] <+: l then [32, 111, 114, 32] else if [32, 120, 111, 114, 32] <+: l then [32, 120, 111, 114, 32] else l.take 1
/-- a row of tokens that is cut as it was put together -/
def Cuts : List (List Nat) → List Nat → Prop
  | [], _ => True
  | t :: ts, r => t ≠ [] ∧ fstTok (t ++ (ts.flatten ++ r)) = t ∧ Cuts ts r
theorem fst_not (r : List Nat) : fstTok ([110, 111, 116, 32] ++ r) = [110, 111, 116, 32] := if_pos (List.prefix_append _ _)
theorem fst_jn {w : Nat} (hw : w < 3) (r : List Nat) : fstTok (([32] ++ wdL w ++ [32]) ++ r) = [32] ++ wdL w ++ [32] := by
  rcases (show w = 0 ∨ w = 1 ∨ w = 2 by omega) with rfl | rfl | rfl
  · rfl
  · rfl
  · rfl
def txtS : Sm → List Nat
  | .bit k => [97 + k]
  | .fix b => digs b.natAbs
  | .no s => [110, 111, 116, 32] ++ (if isJ s then [40] ++ txtS s ++ [41] else txtS s)
  | .two w s t => (if isJ s then [40] ++ txtS s ++ [41] else txtS s) ++ [32] ++ wdL w ++ [32] ++ (if isJ t then [40] ++ txtS t ++ [41] else txtS t)
def partS (s : Sm) : List Nat := if isJ s then [40] ++ txtS s ++ [41] else txtS s
theorem part_le (s : Sm) : (partS s).length ≤ (txtS s).length + 2 := by unfold partS; split <;> simp <;> omega
theorem txt_le (s : Sm) : (txtS s).length ≤ (partS s).length := by
  unfold partS
  split
  · simp; omega
  · exact Nat.le_refl _
theorem lit_and : ("and" : Str) = S [97, 110, 100] := by decide +kernel
theorem lit_or : ("or" : Str) = S [111, 114] := by decide +kernel
theorem lit_xor : ("xor" : Str) = S [120, 111, 114] := by decide +kernel
theorem lit_not : ("not " : Str) = S [110, 111, 116, 32] := by decide +kernel
theorem lit_op : ("(" : Str) = S [40] := by decide +kernel
theorem lit_cl : (")" : Str) = S [41] := by decide +kernel
theorem wd_S {w : Nat} (h : w < 3) : wd w = S (wdL w) := by
  rcases (show w = 0 ∨ w = 1 ∨ w = 2 by omega) with rfl | rfl | rfl
  · exact lit_and
  · exact lit_or
  · exact lit_xor
theorem wd_le (w : Nat) : (wdL w).length ≤ 3 := by unfold wdL; split <;> (try split) <;> simp
theorem wd_neV {w : Nat} (h : w < 3) : decide (V.str (wd w) = V.str "bit") = false ∧ decide (V.str (wd w) = V.str "fix") = false ∧ decide (V.str (wd w) = V.str "not") = false := by
  rcases (show w = 0 ∨ w = 1 ∨ w = 2 by omega) with rfl | rfl | rfl <;> decide
theorem txt_no (s : Sm) : txtS (.no s) = [110, 111, 116, 32] ++ partS s := by unfold partS; rw [txtS]
theorem txt_two (w : Nat) (s t : Sm) : txtS (.two w s t) = partS s ++ [32] ++ wdL w ++ [32] ++ partS t := by unfold partS; rw [txtS]
theorem wd_inV {w : Nat} (h : w < 3) : inV (V.str (wd w)) [V.str "and", V.str "or", V.str "xor"] = true := by
  rcases (show w = 0 ∨ w = 1 ∨ w = 2 by omega) with rfl | rfl | rfl <;> decide
theorem few_bits1 {n : Nat} (h : n ≤ 1) : (n : Int).natAbs.log2 < 1920 := by
  rcases (show n = 0 ∨ n = 1 by omega) with rfl | rfl <;> decide
theorem size4 {n : Nat} (h : n ≤ 40000) : n ≤ sizeLine := Nat.le_trans h (by decide)
end My
namespace My
open PySem L2 OF
theorem starts_at (l t : List Nat) (k : Nat) (h : k ≤ l.length) : (decide (k + (S t).length ≤ (S l).length) && Builtin.Str.subAt (S l) (S t) k) = decide (t <+: l.drop k) := by
  rw [StrLaws.subAt_eq, S_list, S_list, S_len, S_len]
  by_cases z : t <+: l.drop k
  · rw [decide_eq_true z]
    obtain ⟨r, hr⟩ := z
    have hl : t.length ≤ (l.drop k).length := by rw [← hr, List.length_append]; omega
    rw [List.length_drop] at hl
    rw [decide_eq_true (by omega), Bool.true_and, ← hr, List.take_left]
    simp
  · rw [decide_eq_false z]
    have : ((l.drop k).take t.length == t) = false := by
      refine beq_eq_false_iff_ne.mpr fun y => z ⟨(l.drop k).drop t.length, ?_⟩
      conv => lhs; rw [← y]
      have e : ((l.drop k).take t.length).length = t.length := by rw [y]
      rw [e]
      exact List.take_append_drop _ _
    rw [this, Bool.and_false]
theorem lit_sand : (" and " : Str) = S [32, 97, 110, 100, 32] := by decide +kernel
theorem lit_sor : (" or " : Str) = S [32, 111, 114, 32] := by decide +kernel
theorem lit_sxor : (" xor " : Str) = S [32, 120, 111, 114, 32] := by decide +kernel
def spcd : List (List Nat) := [[110, 111, 116, 32], [32, 97, 110, 100, 32], [32, 111, 114, 32], [32, 120, 111, 114, 32]]
theorem spcd_V : [V.str "not ", V.str " and ", V.str " or ", V.str " xor "] = spcd.map fun t => V.str (S t) := by
  rw [lit_not, lit_sand, lit_sor, lit_sxor]; rfl
theorem fst_found {l t : List Nat} {i : Nat} (ht : spcd[i]? = some t) (hb : ∀ j t', j < i → spcd[j]? = some t' → ¬ t' <+: l) (h : t <+: l) : fstTok l = t := by
  unfold fstTok
  match i, ht with
  | 0, ht => cases ht; exact if_pos h
  | 1, ht => cases ht; rw [if_neg (hb 0 _ (by decide) rfl)]; exact if_pos h
  | 2, ht => cases ht; rw [if_neg (hb 0 _ (by decide) rfl), if_neg (hb 1 _ (by decide) rfl)]; exact if_pos h
  | 3, ht => cases ht; rw [if_neg (hb 0 _ (by decide) rfl), if_neg (hb 1 _ (by decide) rfl), if_neg (hb 2 _ (by decide) rfl)]; exact if_pos h
  | i + 4, ht => simp [spcd] at ht
theorem fst_none {l : List Nat} (hb : ∀ j t', j < 4 → spcd[j]? = some t' → ¬ t' <+: l) : fstTok l = l.take 1 := by
  unfold fstTok
  rw [if_neg (hb 0 _ (by decide) rfl), if_neg (hb 1 _ (by decide) rfl), if_neg (hb 2 _ (by decide) rfl), if_neg (hb 3 _ (by decide) rfl)]
theorem cuts_at : ∀ {ts : List (List Nat)} {r : List Nat} {i : Nat} {t : List Nat}, Cuts ts r → ts[i]? = some t → t ≠ [] ∧ fstTok ((ts.drop i).flatten ++ r) = t
  | [], _, _, _, _, e => by simp at e
  | u :: ts, r, 0, t, h, e => by
    have : u = t := by simpa using e
    subst this
    refine ⟨h.1, ?_⟩
    rw [List.drop_zero, List.flatten_cons, List.append_assoc]; exact h.2.1
  | u :: ts, r, i + 1, t, h, e => by
    rw [List.drop_succ_cons]
    exact cuts_at h.2.2 (by simpa using e)
theorem flat_drop : ∀ (ts : List (List Nat)) (i : Nat), ts.flatten.drop (ts.take i).flatten.length = (ts.drop i).flatten
  | [], i => by simp
  | t :: ts, 0 => rfl
  | t :: ts, i + 1 => by
    rw [List.take_succ_cons, List.flatten_cons, List.flatten_cons, List.length_append, List.drop_succ_cons, ← flat_drop ts i, ← List.drop_drop, List.drop_left]
theorem cuts_len : ∀ {ts : List (List Nat)} {r : List Nat}, Cuts ts r → ts.length ≤ ts.flatten.length
  | [], _, _ => Nat.le_refl _
  | t :: ts, r, h => by
    have h1 := cuts_len h.2.2
    have h2 : 0 < t.length := List.length_pos_iff.mpr h.1
    rw [List.flatten_cons, List.length_append, List.length_cons]; omega
theorem wd_inA : ∀ w : Nat, inV (V.str (wd w)) [V.str "and", V.str "or", V.str "xor"] = true
  | 0 => by decide
  | 1 => by decide
  | _ + 2 => by show inV (V.str "xor") _ = true; decide
end My

set_option maxHeartbeats 1000000
namespace My
open PySem L2 OF
/-! ### the reader's stack -/
inductive Itm where
  | nt | op | jn (w : Nat) (s : Sm)
def Itm.d : Itm → D
  | .nt => .tup [.str "not"]
  | .op => .tup [.str "("]
  | .jn w s => .tup [.str (wd w), s.d]
def noK : Nat → Sm → Sm
  | 0, s => s
  | k + 1, s => noK k (.no s)
/-- the last one is none of these -/
def NotLast (p : Itm → Prop) (its : List Itm) : Prop := ∀ it, its.getLast? = some it → ¬ p it
def isNt : Itm → Prop
  | .nt => True
  | _ => False
def isJn : Itm → Prop
  | .jn _ _ => True
  | _ => False
abbrev Mst := Option Sm × List Itm
inductive Step : Mst → List Nat → Mst → Prop
  | no (its : List Itm) : Step (none, its) [110, 111, 116, 32] (none, its ++ [.nt])
  | op (its : List Itm) : Step (none, its) [40] (none, its ++ [.op])
  | bit (its : List Itm) (k j : Nat) (h : NotLast isNt its) (hj : j < 16) : Step (none, its ++ List.replicate k .nt) [97 + j] (some (noK k (.bit j)), its)
  | fix (its : List Itm) (k : Nat) (b : Int) (h : NotLast isNt its) (hb : b = 0 ∨ b = 1) : Step (none, its ++ List.replicate k .nt) [48 + b.toNat] (some (noK k (.fix b)), its)
  | jn (its : List Itm) (s : Sm) (w : Nat) (h : NotLast isJn its) (hw : w < 3) : Step (some s, its) ([32] ++ wdL w ++ [32]) (none, its ++ [.jn w s])
  | cl (its : List Itm) (k w : Nat) (s t : Sm) (h : NotLast isNt its) (hw : w < 3) : Step (some t, its ++ List.replicate k .nt ++ [.op, .jn w s]) [41] (some (noK k (.two w s t)), its)
theorem last_app (its : List Itm) (it : Itm) : (its ++ [it]).getLast? = some it := by simp
theorem notLast_app {p : Itm → Prop} {its : List Itm} {it : Itm} (h : ¬ p it) : NotLast p (its ++ [it]) := fun x hx => by
  rw [last_app] at hx; cases hx; exact h
theorem nts_succ (its : List Itm) (k : Nat) : its ++ List.replicate k Itm.nt ++ [.nt] = its ++ List.replicate (k + 1) .nt := by
  rw [List.append_assoc, ← List.replicate_succ']
/-! ### the stack in the heap -/
def ItmAt (H : Hp) (v : V) (it : Itm) : Prop := Is H v it.d
def Stks (H : Hp) (b : Addr) (its : List Itm) : Prop := ∃ xs : List V, H b = some (.lst xs) ∧ Paired (ItmAt H) xs its
theorem is_tup1 {H : Hp} {v : V} {d : D} (h : Is H v (.tup [d])) : ∃ p x, v = .ref p ∧ H p = some (.tup [x]) ∧ Is H x d := by
  unfold Is at h
  obtain ⟨p, xs, rfl, h1, h2⟩ := h
  unfold IsDs at h2
  obtain ⟨x, r, rfl, h3, h4⟩ := h2
  unfold IsDs at h4
  subst h4
  exact ⟨p, x, rfl, h1, h3⟩
theorem mk_tup1 {H : Hp} {p : Addr} {x : V} {d : D} (h : H p = some (.tup [x])) (h1 : Is H x d) : Is H (.ref p) (.tup [d]) := by
  unfold Is
  refine ⟨p, _, rfl, h, ?_⟩
  unfold IsDs
  refine ⟨_, _, rfl, h1, ?_⟩
  unfold IsDs
  rfl
theorem itm_nt {H : Hp} {v : V} (h : ItmAt H v .nt) : ∃ p, v = .ref p ∧ H p = some (.tup [.str "not"]) := by
  obtain ⟨p, x, rfl, h1, h2⟩ := is_tup1 (show Is H v (.tup [.str "not"]) from h)
  rw [is_str] at h2
  subst h2
  exact ⟨p, rfl, h1⟩
theorem itm_op {H : Hp} {v : V} (h : ItmAt H v .op) : ∃ p, v = .ref p ∧ H p = some (.tup [.str "("]) := by
  obtain ⟨p, x, rfl, h1, h2⟩ := is_tup1 (show Is H v (.tup [.str "("]) from h)
  rw [is_str] at h2
  subst h2
  exact ⟨p, rfl, h1⟩
theorem itm_jn {H : Hp} {v : V} {w : Nat} {s : Sm} (h : ItmAt H v (.jn w s)) : ∃ p x, v = .ref p ∧ H p = some (.tup [.str (wd w), x]) ∧ Is H x s.d := by
  obtain ⟨p, x, y, rfl, h1, h2, h3⟩ := is_tup2 (show Is H v (.tup [.str (wd w), s.d]) from h)
  rw [is_str] at h2
  subst h2
  exact ⟨p, y, rfl, h1, h3⟩
theorem itm_keep {H H' : Hp} (k : ∀ p xs, H p = some (.tup xs) → H' p = some (.tup xs)) : ∀ {it : Itm} {v : V}, ItmAt H v it → ItmAt H' v it
  | .nt, v, h => by obtain ⟨p, rfl, h1⟩ := itm_nt h; exact mk_tup1 (k _ _ h1) (is_str.mpr rfl)
  | .op, v, h => by obtain ⟨p, rfl, h1⟩ := itm_op h; exact mk_tup1 (k _ _ h1) (is_str.mpr rfl)
  | .jn w s, v, h => by obtain ⟨p, x, rfl, h1, h2⟩ := itm_jn h; exact mk_tup2 (k _ _ h1) (is_str.mpr rfl) (sm_keepX k h2)
/-- all but the list at b stays -/
def SameB (b : Addr) (H H' : Hp) : Prop := ∀ p o, p ≠ b → H p = some o → H' p = some o
theorem SameB.refl (b : Addr) (H : Hp) : SameB b H H := fun _ _ _ e => e
theorem SameB.trans {b : Addr} {H H' H'' : Hp} (h : SameB b H H') (h' : SameB b H' H'') : SameB b H H'' := fun p o n e => h' p o n (h p o n e)
theorem SameB.of {b : Addr} {H H' : Hp} (h : Same H H') : SameB b H H' := fun p o _ e => h p o e
theorem SameB.upd {b : Addr} {H : Hp} {o : HO} : SameB b H (L2.upd H b o) := fun p o' n e => by rw [upd_ne n]; exact e
/-- tuples stay where the list at b is written -/
theorem SameB.tups {b : Addr} {H H' : Hp} {ys : List V} (h : SameB b H H') (hb : H b = some (.lst ys)) : ∀ p xs, H p = some (.tup xs) → H' p = some (.tup xs) := fun p xs e => h p _ (fun z => by rw [z, hb] at e; cases e) e
end My
namespace My
open PySem L2 OF
theorem atI_last {α : Type} (xs : List α) (y : α) : atI (xs ++ [y]) (-1) = some y := by
  have e : ixN (xs ++ [y]).length (-1) = some xs.length := by
    unfold ixN
    rw [List.length_append]
    simp
    omega
  unfold atI
  rw [e]
  simp
theorem paired_last {α β : Type} {R : α → β → Prop} : ∀ {zs : List α} {its : List β} {it : β}, Paired R zs (its ++ [it]) → ∃ xs y, zs = xs ++ [y] ∧ Paired R xs its ∧ R y it
  | _, [], it, h => by
    cases h with
    | cons r q => cases q; exact ⟨[], _, rfl, .nil, r⟩
  | _, i :: its, it, h => by
    cases h with
    | cons r q =>
      obtain ⟨xs, y, e, p, r'⟩ := paired_last q
      exact ⟨_ :: xs, y, by rw [e]; rfl, .cons r p, r'⟩
theorem Stks.last {H : Hp} {b : Addr} {its : List Itm} {it : Itm} (h : Stks H b (its ++ [it])) : ∃ xs y, H b = some (.lst (xs ++ [y])) ∧ Paired (ItmAt H) xs its ∧ ItmAt H y it := by
  obtain ⟨zs, h1, h2⟩ := h
  obtain ⟨xs, y, rfl, p, r⟩ := paired_last h2
  exact ⟨xs, y, h1, p, r⟩
theorem paired_keep {H H' : Hp} (k : ∀ p xs, H p = some (.tup xs) → H' p = some (.tup xs)) {xs : List V} {its : List Itm} (h : Paired (ItmAt H) xs its) : Paired (ItmAt H') xs its := Paired.mapP h fun _ _ e => itm_keep k e
theorem Stks.nil {H : Hp} {b : Addr} (h : Stks H b []) : H b = some (.lst []) := by
  obtain ⟨xs, h1, h2⟩ := h
  cases h2; exact h1
theorem snoc_cases {α : Type} (l : List α) : l = [] ∨ ∃ r x, l = r ++ [x] := by
  rcases List.eq_nil_or_concat l with h | ⟨r, x, h⟩
  · exact .inl h
  · exact .inr ⟨r, x, by rw [h, List.concat_eq_append]⟩
theorem Stks.keep {H H' : Hp} {b : Addr} {its : List Itm} (h : Stks H b its) (s : Same H H') : Stks H' b its := by
  obtain ⟨xs, h1, h2⟩ := h
  exact ⟨xs, s _ _ h1, paired_keep (fun p ys e => s p _ e) h2⟩
end My
namespace My
open PySem L2 OF
theorem step_len {a b : Mst} {t : List Nat} (h : Step a t b) : b.2.length ≤ a.2.length + 1 := by
  cases h <;> simp <;> omega
theorem SameB.same {b : Addr} {H H' H'' : Hp} (h : Same H H') (k : SameB b H' H'') (hb : H b = none) : Same H H'' := fun p o e => k p o (fun z => by rw [z, hb] at e; cases e) (h p o e)
end My
namespace My
open PySem L2 OF
theorem sm_ref {H : Hp} {v : V} : ∀ {s : Sm}, Is H v s.d → v ≠ .non
  | .bit _, h => by obtain ⟨p, rfl, _⟩ := sm_bit h; exact fun z => nomatch z
  | .fix _, h => by obtain ⟨p, rfl, _⟩ := sm_fix h; exact fun z => nomatch z
  | .no _, h => by obtain ⟨p, x, rfl, _⟩ := sm_no h; exact fun z => nomatch z
  | .two _ _ _, h => by obtain ⟨p, x, y, rfl, _⟩ := sm_two h; exact fun z => nomatch z
end My

set_option maxHeartbeats 1000000
namespace L2
open PySem PySem.Spec PyProof.Rows
theorem mt_sindex {X : Cx} : MtM X "str.index" (fun x vs H Q => ∃ i j, x = .str i ∧ vs = [.str j] ∧ 0 ≤ Txt.find i j ∧ Q (.int (Txt.find i j)) H) := by
  intro pins s σ H x xs v us Q I rx rv h
  obtain ⟨i, j, rfl, rfl, h0, q⟩ := h
  obtain ⟨t, rfl⟩ := rx
  obtain ⟨u, rfl, ⟨t2, rfl⟩⟩ := rv.one
  cases e : Builtin.Str.occurrences i j 0 i.length 1 with
  | nil => unfold Txt.find at h0; rw [e] at h0; exact absurd h0 (by decide)
  | cons k r =>
    have ef : Txt.find i j = (k : Int) := by unfold Txt.find; rw [e]
    rw [ef] at q
    exact SC.index e ⟨.int _, H, I.tok _, ⟨_, rfl⟩, q⟩
end L2
namespace My
open PySem L2 OF
/-! ### texts of forms, any texts -/
def idxL (c : Nat) : Int := if 97 ≤ c ∧ c < 113 then (c : Int) - 97 else -1
theorem find_any : ∀ c : Nat, c < 128 → Txt.find (S LET) (S [c]) = idxL c := by decide +kernel
theorem str_S (x : Str) : x = S x.cps.toList := rfl
end My

set_option maxHeartbeats 1000000
namespace My
open PySem L2 OF
/-! ### the law's own reader -/
def NOT : List Nat := [110, 111, 116, 32]
def jW (w : Nat) : List Nat := [32] ++ wdL w ++ [32]
/-- which signs begin no part -/
def NoPart (l : List Nat) : Prop := ∀ c r, l = c :: r → c ≠ 40 ∧ c ≠ 48 ∧ c ≠ 49 ∧ ¬ (97 ≤ c ∧ c < 113)
inductive Rd : Bool → List Nat → Option Sm → List Nat → Prop
  | no {l r : List Nat} {o : Option Sm} : Rd false l o r → Rd false (NOT ++ l) (o.map .no) r
  | opN {l r : List Nat} : Rd true l none r → Rd false (40 :: l) none r
  | opC {l r : List Nat} {s : Sm} : Rd true l (some s) r → ¬ [41] <+: r → Rd false (40 :: l) none r
  | opY {l r : List Nat} {s : Sm} : Rd true l (some s) (41 :: r) → Rd false (40 :: l) (some s) r
  | fix {l : List Nat} {b : Int} : (b = 0 ∨ b = 1) → Rd false ((48 + b.toNat) :: l) (some (.fix b)) l
  | bit {l : List Nat} {j : Nat} : j < 16 → ¬ NOT <+: (97 + j) :: l → Rd false ((97 + j) :: l) (some (.bit j)) l
  | non {l : List Nat} : ¬ NOT <+: l → NoPart l → Rd false l none l
  | allN {l r : List Nat} : Rd false l none r → Rd true l none r
  | allJ {l r r' : List Nat} {s : Sm} {w : Nat} {o : Option Sm} : Rd false l (some s) (jW w ++ r) → w < 3 → Rd false r o r' → Rd true l (o.map (.two w s)) r'
  | allE {l r : List Nat} {s : Sm} : Rd false l (some s) r → (∀ w, w < 3 → ¬ jW w <+: r) → Rd true l (some s) r
theorem Rd.len {b : Bool} {l r : List Nat} {o : Option Sm} (h : Rd b l o r) : r.length ≤ l.length := by
  induction h with
  | no _ ih => rw [List.length_append]; omega
  | opN _ ih => rw [List.length_cons]; omega
  | opC _ _ ih => rw [List.length_cons]; omega
  | opY _ ih => rw [List.length_cons] at *; omega
  | fix _ => rw [List.length_cons]; omega
  | bit _ _ => rw [List.length_cons]; omega
  | non _ _ => exact Nat.le_refl _
  | allN _ ih => exact ih
  | allJ _ _ _ ih1 ih2 => rw [List.length_append] at ih1; omega
  | allE _ _ ih => exact ih
theorem jW_len (w : Nat) : 4 ≤ (jW w).length := by
  unfold jW wdL
  split <;> (try split) <;> simp
/-- how deep what was read is -/
theorem Rd.dp {b : Bool} {l r : List Nat} {o : Option Sm} (h : Rd b l o r) : ∀ s, o = some s → 4 * s.dp + r.length ≤ l.length := by
  induction h with
  | @no l r o _ ih =>
    intro s e
    cases o with
    | none => cases e
    | some t =>
      cases e
      have := ih t rfl
      show 4 * (t.dp + 1) + _ ≤ _
      rw [List.length_append]
      show _ ≤ 4 + _
      omega
  | opN _ ih => intro s e; cases e
  | opC _ _ ih => intro s e; cases e
  | opY _ ih =>
    intro s e
    have := ih s e
    rw [List.length_cons] at *; omega
  | fix _ => intro s e; cases e; show 4 * 0 + _ ≤ _; rw [List.length_cons]; omega
  | bit _ _ => intro s e; cases e; show 4 * 0 + _ ≤ _; rw [List.length_cons]; omega
  | non _ _ => intro s e; cases e
  | allN _ ih => intro s e; cases e
  | @allJ l r r' t w o h1 _ h2 ih1 ih2 =>
    intro s e
    cases o with
    | none => cases e
    | some u =>
      cases e
      have a1 := ih1 t rfl
      have a2 := ih2 u rfl
      have a3 := jW_len w
      have a4 := h2.len
      rw [List.length_append] at a1
      show 4 * (max t.dp u.dp + 1) + _ ≤ _
      omega
  | allE _ _ ih => exact ih
/-! ### each text is cut into tokens -/
theorem fst_pre (l : List Nat) : ∃ r, l = fstTok l ++ r := by
  unfold fstTok
  split
  · rename_i h; exact ⟨_, h.choose_spec.symm⟩
  split
  · rename_i h; exact ⟨_, h.choose_spec.symm⟩
  split
  · rename_i h; exact ⟨_, h.choose_spec.symm⟩
  split
  · rename_i h; exact ⟨_, h.choose_spec.symm⟩
  exact ⟨_, (List.take_append_drop 1 l).symm⟩
theorem fst_ne {l : List Nat} (h : l ≠ []) : fstTok l ≠ [] := by
  unfold fstTok
  split
  · simp
  split
  · simp
  split
  · simp
  split
  · simp
  cases l with
  | nil => exact absurd rfl h
  | cons a r => simp
theorem cuts_ex : ∀ (n : Nat) (l : List Nat), l.length ≤ n → ∃ ts : List (List Nat), ts.flatten = l ∧ Cuts ts []
  | n, [], _ => ⟨[], rfl, trivial⟩
  | 0, _ :: _, h => absurd h (Nat.not_succ_le_zero _)
  | n + 1, c :: l, h => by
    obtain ⟨r, hr⟩ := fst_pre (c :: l)
    have hn := fst_ne (l := c :: l) (by simp)
    have hp := List.length_pos_iff.mpr hn
    have hl := congrArg List.length hr
    rw [List.length_append] at hl
    obtain ⟨ts, h1, h2⟩ := cuts_ex n r (by rw [List.length_cons] at h hl; omega)
    refine ⟨fstTok (c :: l) :: ts, by rw [List.flatten_cons, h1]; exact hr.symm, hn, ?_, h2⟩
    rw [h1, List.append_nil]
    exact congrArg fstTok hr.symm
/-- a text's tokens begin with the text's first token -/
theorem cuts_cons {ts : List (List Nat)} {l : List Nat} (h : Cuts ts []) (e : ts.flatten = l) (hl : l ≠ []) : ∃ us, ts = fstTok l :: us ∧ Cuts us [] ∧ fstTok l ++ us.flatten = l := by
  cases ts with
  | nil => exact absurd e.symm hl
  | cons t us =>
    obtain ⟨h1, h2, h3⟩ := h
    rw [List.append_nil] at h2
    have e' : t ++ us.flatten = l := by rw [← e, List.flatten_cons]
    rw [e'] at h2
    rw [h2]
    exact ⟨us, rfl, h3, e'⟩
theorem cuts_nil {ts : List (List Nat)} (h : Cuts ts []) (e : ts.flatten = []) : ts = [] := by
  cases ts with
  | nil => rfl
  | cons t us =>
    rw [List.flatten_cons] at e
    exact absurd (List.append_eq_nil_iff.mp e).1 h.1
/-! ### the program's own reader, at any token -/
inductive StepX : Mst → List Nat → Mst → Prop
  | of {a b : Mst} {t : List Nat} : Step a t b → StepX a t b
  | cl0 (its : List Itm) (k : Nat) (t : Sm) (h : NotLast isNt its) : StepX (some t, its ++ List.replicate k .nt ++ [.op]) [41] (some (noK k t), its)
inductive Bad : Mst → List Nat → Prop
  | jn (its : List Itm) (w : Nat) (hw : w < 3) : Bad (none, its) (jW w)
  | frm (its : List Itm) (c : Nat) (hc : c < 128) (h : c ≠ 40 ∧ c ≠ 48 ∧ c ≠ 49 ∧ ¬ (97 ≤ c ∧ c < 113)) : Bad (none, its) [c]
  | jj (its : List Itm) (w w' : Nat) (s a : Sm) (hw : w < 3) : Bad (some s, its ++ [.jn w' a]) (jW w)
  | not (its : List Itm) (s : Sm) : Bad (some s, its) NOT
  | sgn (its : List Itm) (s : Sm) (c : Nat) (hc : c < 128) (h : c ≠ 41) : Bad (some s, its) [c]
  | cl (s : Sm) : Bad (some s, []) [41]
  | cl1 (s a : Sm) (w : Nat) : Bad (some s, [.jn w a]) [41]
inductive Out : Mst → List (List Nat) → Option Sm → Prop
  | non (its : List Itm) : Out (none, its) [] none
  | one (s : Sm) : Out (some s, []) [] (some s)
  | two (s a : Sm) (w : Nat) : Out (some s, [.jn w a]) [] (some (.two w a s))
  | op (its : List Itm) (s : Sm) : Out (some s, its ++ [.op]) [] none
  | opj (its : List Itm) (s a : Sm) (w : Nat) : Out (some s, its ++ [.op] ++ [.jn w a]) [] none
  | bad {st : Mst} {t : List Nat} {ts : List (List Nat)} : Bad st t → Out st (t :: ts) none
  | step {st st' : Mst} {t : List Nat} {ts : List (List Nat)} {x : Option Sm} : StepX st t st' → Out st' ts x → Out st (t :: ts) x
theorem stepX_len {a b : Mst} {t : List Nat} (h : StepX a t b) : b.2.length ≤ a.2.length + 1 := by
  cases h with
  | of h => exact step_len h
  | cl0 its k t h => simp; omega
theorem not_ofNO {c : Nat} {l : List Nat} (h : c ≠ 110) : ¬ NOT <+: c :: l := fun z => by
  obtain ⟨t, ht⟩ := z
  have := congrArg List.head? ht
  simp [NOT] at this
  exact h this.symm
theorem not_ofJ {c w : Nat} {l : List Nat} (h : c ≠ 32) : ¬ jW w <+: c :: l := fun z => by
  obtain ⟨t, ht⟩ := z
  have := congrArg List.head? ht
  simp [jW] at this
  exact h this.symm
theorem fst_cases (c : Nat) (r : List Nat) : (fstTok (c :: r) = NOT ∧ NOT <+: c :: r) ∨ (∃ w, w < 3 ∧ fstTok (c :: r) = jW w ∧ jW w <+: c :: r) ∨ fstTok (c :: r) = [c] := by
  unfold fstTok
  split
  · rename_i h; exact .inl ⟨rfl, h⟩
  split
  · rename_i h; exact .inr (.inl ⟨0, by decide, rfl, h⟩)
  split
  · rename_i h; exact .inr (.inl ⟨1, by decide, rfl, h⟩)
  split
  · rename_i h; exact .inr (.inl ⟨2, by decide, rfl, h⟩)
  exact .inr (.inr rfl)
theorem fst_sgl {c : Nat} {r : List Nat} (h : c ≠ 32) (hn : ¬ NOT <+: c :: r) : fstTok (c :: r) = [c] := by
  rcases fst_cases c r with ⟨_, z⟩ | ⟨w, _, _, z⟩ | z
  · exact absurd z hn
  · exact absurd z (not_ofJ h)
  · exact z
theorem fst_jW {w : Nat} (hw : w < 3) (r : List Nat) : fstTok (jW w ++ r) = jW w := fst_jn hw r
def Run : Bool → List Nat → Option Sm → List Nat → Prop
  | false, l, some s, r => ∀ ts, Cuts ts [] → ts.flatten = l → ∃ us, Cuts us [] ∧ us.flatten = r ∧ ∀ its k, NotLast isNt its → ∀ x, Out (some (noK k s), its) us x → Out (none, its ++ List.replicate k .nt) ts x
  | false, l, none, r => ∀ ts, Cuts ts [] → ts.flatten = l → ∀ its k, NotLast isNt its → Out (none, its ++ List.replicate k .nt) ts none
  | true, l, some s, r => ∀ ts, Cuts ts [] → ts.flatten = l → ∃ us, Cuts us [] ∧ us.flatten = r ∧ ∀ its, NotLast isNt its → NotLast isJn its → ∃ e its', ((its' = its ∧ e = s ∧ ∀ w, w < 3 → ¬ jW w <+: r) ∨ ∃ w a, w < 3 ∧ its' = its ++ [.jn w a] ∧ s = .two w a e) ∧ ∀ x, Out (some e, its') us x → Out (none, its) ts x
  | true, l, none, r => ∀ ts, Cuts ts [] → ts.flatten = l → ∀ its, NotLast isNt its → NotLast isJn its → Out (none, its) ts none
theorem nl_op {p : Itm → Prop} (h : ¬ p .op) (its : List Itm) : NotLast p (its ++ [.op]) := notLast_app h
theorem Rd.run {b : Bool} {l r : List Nat} {o : Option Sm} (h : Rd b l o r) : (∀ c ∈ l, c < 128) → Run b l o r ∧ ∀ c ∈ r, c < 128 := by
  induction h with
  | @no l r o _ ih =>
    intro ha
    obtain ⟨h1, h2⟩ := ih fun c hc => ha c (List.mem_append_right _ hc)
    refine ⟨?_, h2⟩
    have hd : ∀ ts : List (List Nat), Cuts ts [] → ts.flatten = NOT ++ l → ∃ us, ts = NOT :: us ∧ Cuts us [] ∧ us.flatten = l := fun ts hc he => by
      obtain ⟨us, e1, e2, e3⟩ := cuts_cons hc he (by simp [NOT])
      rw [show fstTok (NOT ++ l) = NOT from fst_not l] at e1 e3
      exact ⟨us, e1, e2, List.append_cancel_left e3⟩
    cases o with
    | none =>
      intro ts hc he its k hn
      obtain ⟨us, rfl, e2, e3⟩ := hd ts hc he
      refine .step (.of (.no _)) ?_
      rw [nts_succ]
      exact h1 us e2 e3 its (k + 1) hn
    | some s =>
      intro ts hc he
      obtain ⟨us, rfl, e2, e3⟩ := hd ts hc he
      obtain ⟨vs, f1, f2, f3⟩ := h1 us e2 e3
      refine ⟨vs, f1, f2, fun its k hn x hx => .step (.of (.no _)) ?_⟩
      rw [nts_succ]
      exact f3 its (k + 1) hn x hx
  | @opN l r _ ih =>
    intro ha
    obtain ⟨h1, h2⟩ := ih fun c hc => ha c (List.mem_cons_of_mem _ hc)
    refine ⟨fun ts hc he its k hn => ?_, h2⟩
    obtain ⟨us, e1, e2, e3⟩ := cuts_cons hc he (by simp)
    rw [fst_sgl (by decide) (not_ofNO (by decide))] at e1 e3
    subst e1
    refine .step (.of (.op _)) ?_
    exact h1 us e2 (List.cons.inj e3).2 _ (nl_op (fun z => nomatch z) _) (nl_op (fun z => nomatch z) _)
  | @opC l r s _ hr ih =>
    intro ha
    obtain ⟨h1, h2⟩ := ih fun c hc => ha c (List.mem_cons_of_mem _ hc)
    refine ⟨fun ts hc he its k hn => ?_, h2⟩
    obtain ⟨us, e1, e2, e3⟩ := cuts_cons hc he (by simp)
    rw [fst_sgl (by decide) (not_ofNO (by decide))] at e1 e3
    subst e1
    refine .step (.of (.op _)) ?_
    obtain ⟨vs, f1, f2, f3⟩ := h1 us e2 (List.cons.inj e3).2
    obtain ⟨e, its', g1, g2⟩ := f3 _ (nl_op (fun z => nomatch z) (its ++ List.replicate k .nt)) (nl_op (fun z => nomatch z) _)
    refine g2 _ ?_
    cases r with
    | nil =>
      rw [cuts_nil f1 f2]
      rcases g1 with ⟨rfl, _⟩ | ⟨w, a, hw, rfl, _⟩
      · exact .op _ _
      · exact .opj _ _ _ _
    | cons c r' =>
      obtain ⟨ws, k1, _, _⟩ := cuts_cons f1 f2 (by simp)
      rw [k1]
      refine .bad ?_
      rcases fst_cases c r' with ⟨z, _⟩ | ⟨w, hw, z, z2⟩ | z
      · rw [z]; exact .not _ _
      · rw [z]
        rcases g1 with ⟨rfl, _, y⟩ | ⟨w, a, hw', rfl, _⟩
        · exact absurd z2 (y w hw)
        · exact .jj _ _ _ _ _ hw
      · rw [z]
        exact .sgn _ _ _ (h2 c (by simp)) (fun y => hr (by rw [y]; exact ⟨r', rfl⟩))
  | @opY l r s _ ih =>
    intro ha
    obtain ⟨h1, h2⟩ := ih fun c hc => ha c (List.mem_cons_of_mem _ hc)
    refine ⟨fun ts hc he => ?_, fun c hc => h2 c (List.mem_cons_of_mem _ hc)⟩
    obtain ⟨us, e1, e2, e3⟩ := cuts_cons hc he (by simp)
    rw [fst_sgl (by decide) (not_ofNO (by decide))] at e1 e3
    subst e1
    obtain ⟨vs, f1, f2, f3⟩ := h1 us e2 (List.cons.inj e3).2
    obtain ⟨ws, k1, k2, k3⟩ := cuts_cons f1 f2 (by simp)
    rw [fst_sgl (by decide) (not_ofNO (by decide))] at k1 k3
    refine ⟨ws, k2, (List.cons.inj k3).2, fun its k hn x hx => .step (.of (.op _)) ?_⟩
    obtain ⟨e, its', g1, g2⟩ := f3 _ (nl_op (fun z => nomatch z) (its ++ List.replicate k .nt)) (nl_op (fun z => nomatch z) _)
    refine g2 _ ?_
    rw [k1]
    rcases g1 with ⟨rfl, rfl, _⟩ | ⟨w, a, hw, rfl, rfl⟩
    · exact .step (.cl0 its k _ hn) hx
    · rw [List.append_assoc (its ++ List.replicate k Itm.nt) [Itm.op] [Itm.jn w a]]
      exact .step (.of (.cl its k w a e hn hw)) hx
  | @fix l b hb =>
    intro ha
    refine ⟨fun ts hc he => ?_, fun c hc => ha c (List.mem_cons_of_mem _ hc)⟩
    obtain ⟨us, e1, e2, e3⟩ := cuts_cons hc he (by simp)
    rw [fst_sgl (by omega) (not_ofNO (by omega))] at e1 e3
    subst e1
    exact ⟨us, e2, (List.cons.inj e3).2, fun its k hn x hx => .step (.of (.fix its k b hn hb)) hx⟩
  | @bit l j hj hn0 =>
    intro ha
    refine ⟨fun ts hc he => ?_, fun c hc => ha c (List.mem_cons_of_mem _ hc)⟩
    obtain ⟨us, e1, e2, e3⟩ := cuts_cons hc he (by simp)
    rw [fst_sgl (by omega) hn0] at e1 e3
    subst e1
    exact ⟨us, e2, (List.cons.inj e3).2, fun its k hn x hx => .step (.of (.bit its k j hn hj)) hx⟩
  | @non l hn0 hp =>
    intro ha
    refine ⟨fun ts hc he its k hn => ?_, ha⟩
    cases l with
    | nil => rw [cuts_nil hc he]; exact .non _
    | cons c r =>
      obtain ⟨us, e1, e2, e3⟩ := cuts_cons hc he (by simp)
      rw [e1]
      refine .bad ?_
      rcases fst_cases c r with ⟨_, z⟩ | ⟨w, hw, z, _⟩ | z
      · exact absurd z hn0
      · rw [z]; exact .jn _ _ hw
      · rw [z]; exact .frm _ _ (ha c (by simp)) (hp c r rfl)
  | @allN l r _ ih =>
    intro ha
    obtain ⟨h1, h2⟩ := ih ha
    refine ⟨fun ts hc he its hn _ => ?_, h2⟩
    have := h1 ts hc he its 0 hn
    rwa [List.replicate_zero, List.append_nil] at this
  | @allJ l r r' s w o _ hw _ ih1 ih2 =>
    intro ha
    obtain ⟨h1, h2⟩ := ih1 ha
    obtain ⟨h3, h4⟩ := ih2 fun c hc => h2 c (List.mem_append_right _ hc)
    refine ⟨?_, h4⟩
    have hd : ∀ ts : List (List Nat), Cuts ts [] → ts.flatten = l → ∃ us, Cuts us [] ∧ us.flatten = r ∧ ∀ its, NotLast isNt its → NotLast isJn its → ∀ x, Out (none, its ++ [.jn w s]) us x → Out (none, its) ts x := fun ts hc he => by
      obtain ⟨us, f1, f2, f3⟩ := h1 ts hc he
      obtain ⟨ws, k1, k2, k3⟩ := cuts_cons f1 f2 (by simp [jW])
      rw [fst_jW hw] at k1 k3
      refine ⟨ws, k2, List.append_cancel_left k3, fun its hn hj x hx => ?_⟩
      have := f3 its 0 hn x
      rw [List.replicate_zero, List.append_nil] at this
      refine this ?_
      rw [k1]
      exact .step (.of (.jn its s w hj hw)) hx
    cases o with
    | none =>
      intro ts hc he its hn hj
      obtain ⟨us, f1, f2, f3⟩ := hd ts hc he
      refine f3 its hn hj none ?_
      have := h3 us f1 f2 (its ++ [.jn w s]) 0 (notLast_app (p := isNt) (it := .jn w s) (fun z => nomatch z))
      rwa [List.replicate_zero, List.append_nil] at this
    | some t =>
      intro ts hc he
      obtain ⟨us, f1, f2, f3⟩ := hd ts hc he
      obtain ⟨vs, g1, g2, g3⟩ := h3 us f1 f2
      refine ⟨vs, g1, g2, fun its hn hj => ⟨t, its ++ [.jn w s], .inr ⟨w, s, hw, rfl, rfl⟩, fun x hx => f3 its hn hj x ?_⟩⟩
      have := g3 (its ++ [.jn w s]) 0 (notLast_app (p := isNt) (it := .jn w s) (fun z => nomatch z)) x hx
      rwa [List.replicate_zero, List.append_nil] at this
  | @allE l r s _ hj0 ih =>
    intro ha
    obtain ⟨h1, h2⟩ := ih ha
    refine ⟨fun ts hc he => ?_, h2⟩
    obtain ⟨us, f1, f2, f3⟩ := h1 ts hc he
    refine ⟨us, f1, f2, fun its hn _ => ⟨s, its, .inl ⟨rfl, rfl, hj0⟩, fun x hx => ?_⟩⟩
    have := f3 its 0 hn x hx
    rwa [List.replicate_zero, List.append_nil] at this
/-- the two readers say the same -/
theorem Rd.out {l r : List Nat} {o : Option Sm} (h : Rd true l o r) (ha : ∀ c ∈ l, c < 128) : ∃ ts, Cuts ts [] ∧ ts.flatten = l ∧ Out (none, []) ts (if r = [] then o else none) := by
  obtain ⟨ts, he, hc⟩ := cuts_ex l.length l (Nat.le_refl _)
  refine ⟨ts, hc, he, ?_⟩
  have hn : ∀ p, NotLast p ([] : List Itm) := fun p it z => by simp at z
  obtain ⟨h1, h2⟩ := h.run ha
  cases o with
  | none =>
    have := h1 ts hc he [] (hn _) (hn _)
    rwa [show (if r = [] then (none : Option Sm) else none) = none by split <;> rfl]
  | some s =>
    obtain ⟨us, f1, f2, f3⟩ := h1 ts hc he
    obtain ⟨e, its', g1, g2⟩ := f3 [] (hn _) (hn _)
    refine g2 _ ?_
    cases r with
    | nil =>
      rw [cuts_nil f1 f2, if_pos rfl]
      rcases g1 with ⟨rfl, rfl, _⟩ | ⟨w, a, hw, rfl, rfl⟩
      · exact .one _
      · exact .two _ _ _
    | cons c r' =>
      rw [if_neg (by simp)]
      obtain ⟨ws, k1, _, _⟩ := cuts_cons f1 f2 (by simp)
      rw [k1]
      refine .bad ?_
      rcases fst_cases c r' with ⟨z, _⟩ | ⟨w, hw, z, z2⟩ | z
      · rw [z]; exact .not _ _
      · rw [z]
        rcases g1 with ⟨rfl, _, y⟩ | ⟨w, a, hw', rfl, _⟩
        · exact absurd z2 (y w hw)
        · exact .jj _ _ _ _ _ hw
      · rw [z]
        by_cases hc41 : c = 41
        · rw [hc41]
          rcases g1 with ⟨rfl, _, _⟩ | ⟨w, a, hw', rfl, _⟩
          · exact .cl _
          · exact .cl1 _ _ _
        · exact .sgn _ _ _ (h2 c (by simp)) hc41
def PtA (H : Hp) (v : V) : Option Sm → Prop
  | none => v = .non
  | some s => Is H v s.d
/-! ### how long the texts of statements are -/
def nodes : Sm → Nat
  | .bit _ => 1
  | .fix _ => 1
  | .no s => nodes s + 1
  | .two _ s t => nodes s + nodes t + 1
theorem dp_nodes : ∀ s : Sm, s.dp + 1 ≤ nodes s
  | .bit _ => Nat.le_refl _
  | .fix _ => Nat.le_refl _
  | .no s => by have := dp_nodes s; show s.dp + 1 + 1 ≤ nodes s + 1; omega
  | .two _ s t => by have := dp_nodes s; have := dp_nodes t; show max s.dp t.dp + 1 + 1 ≤ nodes s + nodes t + 1; omega
theorem txt_nodes {p : Nat → Prop} : ∀ {s : Sm}, s.ok p → (txtS s).length ≤ 9 * nodes s
  | .bit _, _ => by show 1 ≤ 9 * 1; decide
  | .fix b, h => by
    have hb : b = 0 ∨ b = 1 := h
    rcases hb with rfl | rfl <;> decide
  | .no s, h => by
    have i1 := txt_nodes (s := s) h
    have := part_le s
    rw [txt_no, List.length_append]
    show 4 + _ ≤ 9 * (nodes s + 1)
    omega
  | .two w s t, h => by
    have i1 := txt_nodes (s := s) h.2.1
    have i2 := txt_nodes (s := t) h.2.2
    have := part_le s
    have := part_le t
    have := wd_le w
    rw [txt_two]
    simp only [List.length_append, List.length_cons, List.length_nil]
    show _ ≤ 9 * (nodes s + nodes t + 1)
    omega
theorem txt_128 : ∀ {s : Sm}, s.ok (fun k => k < 16) → (∀ c ∈ txtS s, c < 128) ∧ ∀ c ∈ partS s, c < 128
  | .bit k, h => by
    have hk : k < 16 := h
    have : ∀ c ∈ txtS (.bit k), c < 128 := fun c hc => by rw [List.mem_singleton.mp hc]; omega
    exact ⟨this, this⟩
  | .fix b, h => by
    have hb : b = 0 ∨ b = 1 := h
    rcases hb with rfl | rfl
    · exact ⟨by decide, by decide⟩
    · exact ⟨by decide, by decide⟩
  | .no s, h => by
    have ih := (txt_128 (s := s) h).2
    have : ∀ c ∈ txtS (.no s), c < 128 := fun c hc => by
      rw [txt_no] at hc
      rcases List.mem_append.mp hc with y | y
      · exact (show ∀ c ∈ [110, 111, 116, 32], c < 128 by decide) c y
      · exact ih c y
    exact ⟨this, this⟩
  | .two w s t, h => by
    have i1 := (txt_128 (s := s) h.2.1).2
    have i2 := (txt_128 (s := t) h.2.2).2
    have hw : ∀ c ∈ wdL w, c < 128 := by
      unfold wdL
      split
      · decide
      split
      · decide
      · decide
    have go : ∀ c ∈ txtS (.two w s t), c < 128 := fun c hc => by
      rw [txt_two] at hc
      simp only [List.mem_append] at hc
      rcases hc with (((y | y) | y) | y) | y
      · exact i1 c y
      · rw [List.mem_singleton.mp y]; decide
      · exact hw c y
      · rw [List.mem_singleton.mp y]; decide
      · exact i2 c y
    refine ⟨go, fun c hc => ?_⟩
    have hc' : c ∈ [40] ++ txtS (.two w s t) ++ [41] := hc
    simp only [List.mem_append] at hc'
    rcases hc' with (y | y) | y
    · rw [List.mem_singleton.mp y]; decide
    · exact go c y
    · rw [List.mem_singleton.mp y]; decide
/-! ### slices of texts -/
theorem slIx_min (a b n : Nat) : Builtin.Str.strSliceIndices (some (a : Int)) (some (b : Int)) 1 n = Builtin.Str.strSliceIndices (some ((min a n : Nat) : Int)) (some ((min b n : Nat) : Int)) 1 n := by
  have h : ∀ c : Nat, ¬ ((c : Int) < 0) := fun c => by omega
  have e : ∀ c : Nat, max (0 : Int) (min (c : Int) (n : Int)) = max 0 (min ((min c n : Nat) : Int) (n : Int)) := fun c => by omega
  simp only [Builtin.Str.strSliceIndices, h, if_false]
  rw [if_pos (show (1 : Int) > 0 by decide), if_pos (show (1 : Int) > 0 by decide), if_pos (show (1 : Int) > 0 by decide), if_pos (show (1 : Int) > 0 by decide), e a, e b]
theorem slice_nn (l : List Nat) {a b : Nat} (h : a ≤ b) : Txt.slice (S l) (some (a : Int)) (some (b : Int)) = S ((l.drop a).take (b - a)) := by
  have e : Txt.slice (S l) (some (a : Int)) (some (b : Int)) = StrLaws.sliceText (S l) (some ((min a l.length : Nat) : Int)) (some ((min b l.length : Nat) : Int)) := by
    show StrLaws.sliceText (S l) _ _ = _
    unfold StrLaws.sliceText
    rw [S_len, slIx_min a b]
  rw [e, StrLaws.sliceText_nat (S l) (show min a l.length ≤ min b l.length by omega) (by rw [S_len]; omega)]
  refine S_eq ?_
  show (l.drop (min a l.length)).take (min b l.length - min a l.length) = (l.drop a).take (b - a)
  by_cases h1 : a ≤ l.length
  · rw [Nat.min_eq_left h1]
    by_cases h2 : b ≤ l.length
    · rw [Nat.min_eq_left h2]
    · rw [Nat.min_eq_right (by omega), List.take_of_length_le (by rw [List.length_drop]; omega), List.take_of_length_le (by rw [List.length_drop]; omega)]
  · rw [Nat.min_eq_right (show l.length ≤ a by omega), Nat.min_eq_right (show l.length ≤ b by omega), List.drop_of_length_le (Nat.le_refl _), List.drop_of_length_le (show l.length ≤ a by omega)]
    simp
theorem slice_nf (l : List Nat) (a : Nat) : Txt.slice (S l) (some (a : Int)) none = S (l.drop a) := by
  have e : Txt.slice (S l) (some (a : Int)) none = Txt.slice (S l) (some (a : Int)) (some (l.length : Int)) := by
    show StrLaws.sliceText (S l) _ _ = StrLaws.sliceText (S l) _ _
    unfold StrLaws.sliceText
    rw [S_len, StrLaws.sliceIdx_none_hi]
  rw [e]
  by_cases h : a ≤ l.length
  · rw [slice_nn l h, List.take_of_length_le (by rw [List.length_drop]; omega)]
  · have e2 : Txt.slice (S l) (some (a : Int)) (some (l.length : Int)) = Txt.slice (S l) (some (l.length : Int)) (some (l.length : Int)) := by
      show StrLaws.sliceText (S l) _ _ = StrLaws.sliceText (S l) _ _
      unfold StrLaws.sliceText
      rw [S_len, slIx_min a l.length, Nat.min_eq_right (show l.length ≤ a by omega), Nat.min_self]
    rw [e2, slice_nn l (Nat.le_refl _), List.drop_of_length_le (show l.length ≤ a by omega)]
    simp
theorem slice_nt (l : List Nat) (a : Nat) : Txt.slice (S l) none (some (a : Int)) = S (l.take a) := by
  have e : Txt.slice (S l) none (some (a : Int)) = Txt.slice (S l) (some ((0 : Nat) : Int)) (some (a : Int)) := by
    show StrLaws.sliceText (S l) _ _ = StrLaws.sliceText (S l) _ _
    unfold StrLaws.sliceText
    rw [S_len, StrLaws.sliceIdx_none_lo]; rfl
  rw [e, slice_nn l (Nat.zero_le _)]
  rfl
/-- does a text go on with these signs -/
theorem passed_S (l m : List Nat) (a : Nat) : decide (V.str (Txt.slice (S l) (some (a : Int)) (some ((a : Int) + (m.length : Int)))) = V.str (S m)) = decide (m <+: l.drop a) := by
  have e : (a : Int) + (m.length : Int) = ((a + m.length : Nat) : Int) := by omega
  rw [e, slice_nn l (Nat.le_add_right _ _), Nat.add_sub_cancel_left]
  by_cases z : m <+: l.drop a
  · rw [decide_eq_true z]
    obtain ⟨r, hr⟩ := z
    rw [← hr, List.take_left, decide_eq_true rfl]
  · rw [decide_eq_false z]
    refine decide_eq_false fun y => z ?_
    injection y with y
    have := S_inj y
    exact ⟨(l.drop a).drop m.length, by conv => lhs; rw [← this]
                                        have e2 : ((l.drop a).take m.length).length = m.length := by rw [this]
                                        rw [e2, List.take_append_drop]⟩
theorem in_let : ∀ c : Nat, c < 128 → (!(Builtin.Str.occurrences (S LET) (S [c]) 0 (S LET).length 1).isEmpty) = decide (97 ≤ c ∧ c < 113) := by decide +kernel
theorem strip_sgn : ∀ c : Nat, c < 128 → inV (V.str (Txt.strip (S [c]))) [V.str "and", V.str "or", V.str "xor"] = false := by decide +kernel
theorem find_jW : ∀ w : Nat, w < 3 → Txt.find (S LET) (S (jW w)) = -1 := by decide +kernel
def spSh (K : PySem.W.Frag) (d : Nat) : Sp := fun vs H Q _ => ∃ (v : V) (s : Sm), vs = [v] ∧ Is H v s.d ∧ s.ok (fun k => k < 16) ∧ 2 * s.dp + 1 < d ∧ (txtS s).length ≤ 10000 ∧ ∀ H', Same H H' → Q (.str (S (txtS s))) H'
def spShP (K : PySem.W.Frag) (d : Nat) : Sp := fun vs H Q _ => ∃ (v : V) (s : Sm), vs = [v] ∧ Is H v s.d ∧ s.ok (fun k => k < 16) ∧ 2 * s.dp + 2 < d ∧ (txtS s).length ≤ 10000 ∧ ∀ H', Same H H' → Q (.str (S (partS s))) H'
/-! ### what the law's reader finds is one thing only -/
def rdF : Nat → Bool → List Nat → Option Sm × List Nat
  | 0, _, l => (none, l)
  | d + 1, false, l =>
    if NOT <+: l then ((rdF d false (l.drop 4)).1.map .no, (rdF d false (l.drop 4)).2)
    else match l with
      | [] => (none, [])
      | c :: r =>
        if c = 40 then (match rdF d true r with
          | (none, e) => (none, e)
          | (some s, 41 :: e) => (some s, e)
          | (some _, e) => (none, e))
        else if c = 48 then (some (.fix 0), r)
        else if c = 49 then (some (.fix 1), r)
        else if 97 ≤ c ∧ c < 113 then (some (.bit (c - 97)), r)
        else (none, c :: r)
  | d + 1, true, l => match rdF d false l with
    | (none, e) => (none, e)
    | (some s, e) =>
      if jW 0 <+: e then ((rdF d false (e.drop (jW 0).length)).1.map (.two 0 s), (rdF d false (e.drop (jW 0).length)).2)
      else if jW 1 <+: e then ((rdF d false (e.drop (jW 1).length)).1.map (.two 1 s), (rdF d false (e.drop (jW 1).length)).2)
      else if jW 2 <+: e then ((rdF d false (e.drop (jW 2).length)).1.map (.two 2 s), (rdF d false (e.drop (jW 2).length)).2)
      else (some s, e)
theorem jW_apart {w v : Nat} (hw : w < 3) (hv : v < 3) (h : w ≠ v) (r : List Nat) : ¬ jW w <+: jW v ++ r := fun z => by
  obtain ⟨t, ht⟩ := z
  have h2 := congrArg (fun l : List Nat => l[1]?) ht
  rcases (show w = 0 ∨ w = 1 ∨ w = 2 by omega) with rfl | rfl | rfl <;> rcases (show v = 0 ∨ v = 1 ∨ v = 2 by omega) with rfl | rfl | rfl <;> first | exact absurd rfl h | (simp [jW, wdL] at h2)
theorem tn0 : Bool.toNat false = 0 := rfl
theorem tn1 : Bool.toNat true = 1 := rfl
theorem Rd.rdF {b : Bool} {l r : List Nat} {o : Option Sm} (h : Rd b l o r) : ∀ d, 2 * l.length + b.toNat + 2 < d → rdF d b l = (o, r) := by
  induction h with
  | @no l r o _ ih =>
    intro d hd
    cases d with
    | zero => exact absurd hd (Nat.not_lt_zero _)
    | succ d =>
      have hl : (NOT ++ l).length = 4 + l.length := by rw [List.length_append]; rfl
      have e := ih d (by rw [hl, tn0] at hd; rw [tn0]; omega)
      unfold My.rdF
      rw [if_pos (List.prefix_append _ _), show (NOT ++ l).drop 4 = l from rfl, e]
  | @opN l r _ ih =>
    intro d hd
    cases d with
    | zero => exact absurd hd (Nat.not_lt_zero _)
    | succ d =>
      have e := ih d (by rw [List.length_cons] at hd; rw [tn0] at hd; rw [tn1]; omega)
      unfold My.rdF
      rw [if_neg (not_ofNO (by decide))]
      simp only [if_true, e]
  | @opC l r s _ hr ih =>
    intro d hd
    cases d with
    | zero => exact absurd hd (Nat.not_lt_zero _)
    | succ d =>
      have e := ih d (by rw [List.length_cons] at hd; rw [tn0] at hd; rw [tn1]; omega)
      unfold My.rdF
      rw [if_neg (not_ofNO (by decide))]
      simp only [if_true, e]
      cases r with
      | nil => rfl
      | cons c r =>
        have hc : c ≠ 41 := fun z => hr (by rw [z]; exact ⟨r, rfl⟩)
        split
        · rename_i z; cases z
        · rename_i z; cases z; exact absurd rfl hc
        · rename_i z; cases z; rfl
  | @opY l r s _ ih =>
    intro d hd
    cases d with
    | zero => exact absurd hd (Nat.not_lt_zero _)
    | succ d =>
      have e := ih d (by rw [List.length_cons] at hd; rw [tn0] at hd; rw [tn1]; omega)
      unfold My.rdF
      rw [if_neg (not_ofNO (by decide))]
      simp only [if_true, e]
  | @fix l b hb =>
    intro d hd
    cases d with
    | zero => exact absurd hd (Nat.not_lt_zero _)
    | succ d =>
      unfold My.rdF
      rcases hb with rfl | rfl
      · rw [if_neg (not_ofNO (by decide))]; rfl
      · rw [if_neg (not_ofNO (by decide))]; rfl
  | @bit l j hj hn0 =>
    intro d hd
    cases d with
    | zero => exact absurd hd (Nat.not_lt_zero _)
    | succ d =>
      unfold My.rdF
      rw [if_neg hn0]
      simp only
      rw [if_neg (by omega), if_neg (by omega), if_neg (by omega), if_pos (by omega), Nat.add_sub_cancel_left]
  | @non l hn0 hp =>
    intro d hd
    cases d with
    | zero => exact absurd hd (Nat.not_lt_zero _)
    | succ d =>
      unfold My.rdF
      rw [if_neg hn0]
      cases l with
      | nil => rfl
      | cons c r =>
        obtain ⟨p1, p2, p3, p4⟩ := hp c r rfl
        simp only
        rw [if_neg p1, if_neg p2, if_neg p3, if_neg p4]
  | @allN l r _ ih =>
    intro d hd
    cases d with
    | zero => exact absurd hd (Nat.not_lt_zero _)
    | succ d =>
      have e := ih d (by rw [tn1] at hd; rw [tn0]; omega)
      unfold My.rdF
      rw [e]
  | @allJ l r r' s w o h1 hw _ ih1 ih2 =>
    intro d hd
    cases d with
    | zero => exact absurd hd (Nat.not_lt_zero _)
    | succ d =>
      have hd' : 2 * l.length + 1 + 2 < d + 1 := hd
      have e1 := ih1 d (by rw [tn0]; omega)
      have hl := h1.len
      have hj := jW_len w
      rw [List.length_append] at hl
      have e2 := ih2 d (by rw [tn0]; omega)
      unfold My.rdF
      rw [e1]
      simp only
      have hdr : (jW w ++ r).drop (jW w).length = r := List.drop_left ..
      rcases (show w = 0 ∨ w = 1 ∨ w = 2 by omega) with rfl | rfl | rfl
      · rw [if_pos (List.prefix_append _ _), hdr, e2]
      · rw [if_neg (jW_apart (by decide) (by decide) (by decide) _), if_pos (List.prefix_append _ _), hdr, e2]
      · rw [if_neg (jW_apart (by decide) (by decide) (by decide) _), if_neg (jW_apart (by decide) (by decide) (by decide) _), if_pos (List.prefix_append _ _), hdr, e2]
  | @allE l r s _ hj0 ih =>
    intro d hd
    cases d with
    | zero => exact absurd hd (Nat.not_lt_zero _)
    | succ d =>
      have e := ih d (by rw [tn1] at hd; rw [tn0]; omega)
      unfold My.rdF
      rw [e]
      simp only
      rw [if_neg (hj0 0 (by decide)), if_neg (hj0 1 (by decide)), if_neg (hj0 2 (by decide))]
theorem Rd.det {b : Bool} {l r r' : List Nat} {o o' : Option Sm} (h : Rd b l o r) (h' : Rd b l o' r') : o = o' ∧ r = r' := by
  have e := (h.rdF _ (Nat.lt_succ_self _)).symm.trans (h'.rdF _ (Nat.lt_succ_self _))
  exact ⟨congrArg Prod.fst e, congrArg Prod.snd e⟩
theorem pre_drop {m l : List Nat} (h : m <+: l) : l = m ++ l.drop m.length := by
  obtain ⟨r, rfl⟩ := h
  rw [List.drop_left]
/-- the law's reader reads each text -/
theorem Rd.ex : ∀ (n : Nat) (l : List Nat), l.length ≤ n → (∃ o r, Rd false l o r) ∧ ∃ o r, Rd true l o r := by
  intro n
  induction n with
  | zero =>
    intro l hl
    cases List.eq_nil_of_length_eq_zero (Nat.le_zero.mp hl)
    have h : Rd false [] none [] := .non (fun z => by obtain ⟨t, ht⟩ := z; simp [NOT] at ht) (fun c r z => by cases z)
    exact ⟨⟨_, _, h⟩, _, _, .allN h⟩
  | succ n ih =>
    intro l hl
    have part : ∃ o r, Rd false l o r := by
      by_cases z1 : NOT <+: l
      · have e := pre_drop z1
        have hl' := congrArg List.length e
        rw [List.length_append] at hl'
        have h4 : NOT.length = 4 := rfl
        obtain ⟨⟨o, r, h⟩, _⟩ := ih (l.drop NOT.length) (by omega)
        exact ⟨_, _, by rw [e]; exact .no h⟩
      cases l with
      | nil => exact ⟨_, _, .non z1 (fun c r z => by cases z)⟩
      | cons c r =>
        rw [List.length_cons] at hl
        by_cases c1 : c = 40
        · subst c1
          obtain ⟨_, o, e, h⟩ := ih r (by omega)
          cases o with
          | none => exact ⟨_, _, .opN h⟩
          | some s =>
            by_cases z : [41] <+: e
            · have ee := pre_drop z
              rw [ee] at h
              exact ⟨_, _, .opY h⟩
            · exact ⟨_, _, .opC h z⟩
        by_cases c2 : c = 48
        · subst c2; exact ⟨_, _, .fix (b := 0) (.inl rfl)⟩
        by_cases c3 : c = 49
        · subst c3; exact ⟨_, _, .fix (b := 1) (.inr rfl)⟩
        by_cases c4 : 97 ≤ c ∧ c < 113
        · obtain ⟨j, rfl⟩ : ∃ j, c = 97 + j := ⟨c - 97, by omega⟩
          exact ⟨_, _, .bit (by omega) z1⟩
        · exact ⟨_, _, .non z1 (fun c' r' z => by cases z; exact ⟨c1, c2, c3, c4⟩)⟩
    refine ⟨part, ?_⟩
    obtain ⟨o, r, h⟩ := part
    cases o with
    | none => exact ⟨_, _, .allN h⟩
    | some s =>
      by_cases z : ∃ w, w < 3 ∧ jW w <+: r
      · obtain ⟨w, hw, hz⟩ := z
        have e := pre_drop hz
        have hl' := congrArg List.length e
        have h1 := h.len
        have h2 := jW_len w
        rw [List.length_append] at hl'
        obtain ⟨⟨o', r', h'⟩, _⟩ := ih (r.drop (jW w).length) (by omega)
        rw [e] at h
        exact ⟨_, _, .allJ h hw h'⟩
      · exact ⟨_, _, .allE h (fun w hw hz => z ⟨w, hw, hz⟩)⟩
theorem dep_sm : ∀ s : Sm, dep s.d ≤ s.dp + 1
  | .bit _ => Nat.le_refl _
  | .fix _ => Nat.le_refl _
  | .no s => by
    have h1 := dep_sm s
    show max 0 (max (dep s.d) 0) + 1 ≤ s.dp + 1 + 1
    omega
  | .two w s t => by
    have h1 := dep_sm s
    have h2 := dep_sm t
    show max 0 (max (dep s.d) (max (dep t.d) 0)) + 1 ≤ max s.dp t.dp + 1 + 1
    omega
end My

namespace OH
open PySem PySem.W PyProof.Rows
/-- the top's run over a tree of objects, to its end -/
def runT (tb : String → Option Builtin) (p : Program) (w : World) (n₀ : Nat) (ann : Option Value) : Nat → SharedT → Thread → Option SharedT
  | 0, _, _ => none
  | n + 1, s, t => match through t with
    | true => some s
    | false => match stepOk n₀ ann t with
      | false => none
      | true => match stepT (denote tb) p w s t with
        | some x => runT tb p w n₀ ann n x.1 x.2
        | none => none
theorem runT_abs {tb : String → Option Builtin} {p : Program} {w : World} {n₀ : Nat} {ann : Option Value} {n : Nat} : ∀ {s r : SharedT} {t : Thread}, runT tb p w n₀ ann n s t = some r → topRun tb p w n₀ ann n s.abs t = some r.abs := by
  induction n with
  | zero => intro s r t h; cases h
  | succ n ih =>
    intro s r t h
    unfold runT at h
    unfold topRun
    cases a : through t with
    | true => rw [a] at h; cases h; rfl
    | false =>
      rw [a] at h
      cases b : stepOk n₀ ann t with
      | false => rw [b] at h; cases h
      | true =>
        rw [b] at h
        cases c : stepT (denote tb) p w s t with
        | none => rw [c] at h; cases h
        | some x => rw [c] at h; rw [stepT_spec c]; exact ih h
/-- the same run by the library's quick twins -/
noncomputable def runF (p : Program) (w : World) (n₀ : Nat) (ann : Option Value) : Nat → SharedT → Thread → Option SharedT
  | 0, _, _ => none
  | n + 1, s, t => match through t with
    | true => some s
    | false => match PySem.W.Fast.tw6613529449190102663 n₀ ann t with
      | false => none
      | true => match PySem.W.Fast.tw10156331382660048174 (PySem.W.Fast.tw11892475500146522536 PySem.W.Fast.tw14364793385576792824) p w s t with
        | some x => runF p w n₀ ann n x.1 x.2
        | none => none
theorem runF_eq {p : Program} {w : World} {n₀ : Nat} {ann : Option Value} {n : Nat} : ∀ {s : SharedT} {t : Thread}, runF p w n₀ ann n s t = runT treeTable p w n₀ ann n s t := by
  induction n with
  | zero => intro s t; rfl
  | succ n ih =>
    intro s t
    unfold runF runT
    rw [← PySem.W.Fast.te6613529449190102663, ← PySem.W.Fast.te10156331382660048174, ← PySem.W.Fast.te11892475500146522536, ← PySem.W.Fast.te14364793385576792824]
    cases through t <;> cases stepOk n₀ ann t <;> try rfl
    cases stepT (denote treeTable) p w s t with
    | none => rfl
    | some x => exact ih
/-- what the opening leaves, as a tree -/
noncomputable def bootT (P : Params) : BT :=
  .node (boot_o_0 P)
    (.node (boot_o_1 P) (.node (boot_o_3 P) (.node (boot_o_7 P) .nil .nil) .nil) (.node (boot_o_5 P) (.node (boot_o_9 P) .nil .nil) .nil))
    (.node (boot_o_2 P) (.node (boot_o_4 P) (.node (boot_o_8 P) .nil .nil) .nil) (.node (boot_o_6 P) (.node (boot_o_10 P) .nil .nil) .nil))
theorem boot_is (P : Params) : boot_heap P = absHeap (bootT P) 11 (boot_heap P).life := by kernel_rfl
theorem boot_size (w : World) : ((boot_heap w.params).isNs mainGlobals, (boot_heap w.params).objs.size, (boot_heap w.params).nsMap mainGlobals "__annotations__") = (true, 11, some (.ref 6)) := by kernel_rfl
noncomputable abbrev bootS (P : Params) (os : OsState) : SharedT := ⟨bootT P, 11, (boot_heap P).life, #[], boot_drawn, boot_toks, os⟩
/-- the head: one run over the tree, by the quick twins, looked at at its end -/
theorem left {p q : Program} {loose : List Str} {Xt : Shared → Bool} {α : Type} {Yf : Shared → α} {Ya : World → α} {N : Nat}
    (e : opening p = plainProg p.main.scope.names) (hN : Nat.ble 600 N = true) (f : ∀ s, fenceModules? p s = some s)
    (run : ∀ w : World, (fun os => (runF p w 11 (some (.ref 6)) N (bootS w.params os) (topStub p)).map fun s =>
        (staticsOk (importedModules p.main.body) (boot_heap w.params) s.abs.heap && namesBound p s.abs.heap && gensDone s.abs && laidKept (boot_heap w.params) s.abs.heap,
          PySem.W.Fast.tw4187177175401517315 q loose (importedModules p.main.body) Xt true s.abs, Yf s.abs)) = fun _ => some (true, openGood q loose, Ya w)) : LeftO p q loose Xt Yf Ya N := fun w => by
  obtain ⟨⟨h, gs, d, k, os⟩, x, x'⟩ := Option.map_eq_some_iff.mp (boot_open e hN f w)
  obtain ⟨rfl, rfl, rfl, rfl⟩ : h = boot_heap w.params ∧ gs = Array.mk [] ∧ d = boot_drawn ∧ k = boot_toks := by simpa using x'
  obtain ⟨z1, z2, z3⟩ : _ ∧ _ ∧ _ := by simpa only [Prod.mk.injEq] using boot_size w
  obtain ⟨s, r, l⟩ := Option.map_eq_some_iff.mp (congrFun (run w) os)
  rw [← PySem.W.Fast.te4187177175401517315] at l
  obtain ⟨l1, l2, l3⟩ : _ ∧ _ ∧ _ := by simpa only [Prod.mk.injEq] using l
  have t := runT_abs (runF_eq.symm.trans r)
  have b : (bootS w.params os).abs = ⟨boot_heap w.params, Array.mk [], boot_drawn, boot_toks, os⟩ := by
    show (⟨absHeap (bootT w.params) 11 (boot_heap w.params).life, _, _, _, _⟩ : Shared) = _
    rw [← boot_is]
  rw [b] at t
  have y : topFrom treeTable p w N ⟨boot_heap w.params, Array.mk [], boot_drawn, boot_toks, os⟩ = some s.abs := by
    unfold topFrom
    dsimp only
    rw [z1, z2, z3, t]
    show (match staticsOk (importedModules p.main.body) (boot_heap w.params) s.abs.heap && namesBound p s.abs.heap && gensDone s.abs && laidKept (boot_heap w.params) s.abs.heap with | true => _ | false => _) = _
    rw [l1]
  unfold openEnds
  rw [x]
  show (topFrom treeTable p w N _).map _ = _
  rw [y]
  exact congrArg some (Prod.ext l2 l3)
end OH

set_option maxHeartbeats 4000000
namespace My
open PySem L2 OF
def hdS : List Stmt → Stmt
  | x :: _ => x
  | [] => .Pass ⟨0, 0, 0, 0⟩
def tlS : List Stmt → List Stmt
  | _ :: r => r
  | [] => []
def bd0 : List Stmt := PySem.Challenge.pw_onceform_k27_texts_read.main.body
def bd1 : List Stmt := tlS bd0
def bd2 : List Stmt := tlS bd1
def bd3 : List Stmt := tlS bd2
def bd4 : List Stmt := tlS bd3
def bd5 : List Stmt := tlS bd4
def bd6 : List Stmt := tlS bd5
def bd7 : List Stmt := tlS bd6
def bd8 : List Stmt := tlS bd7
def bd9 : List Stmt := tlS bd8
def bd10 : List Stmt := tlS bd9
def bd11 : List Stmt := tlS bd10
def bd12 : List Stmt := tlS bd11
def bd13 : List Stmt := tlS bd12
def bd14 : List Stmt := tlS bd13
def bd15 : List Stmt := tlS bd14
def bd16 : List Stmt := tlS bd15
def bd17 : List Stmt := tlS bd16
def bd18 : List Stmt := tlS bd17
def bd19 : List Stmt := tlS bd18
def bd20 : List Stmt := tlS bd19
def bd21 : List Stmt := tlS bd20
def bd22 : List Stmt := tlS bd21
def bd23 : List Stmt := tlS bd22
def bd24 : List Stmt := tlS bd23
def bd25 : List Stmt := tlS bd24
def bd26 : List Stmt := tlS bd25
def bd27 : List Stmt := tlS bd26
def bd28 : List Stmt := tlS bd27
def bd29 : List Stmt := tlS bd28
def bd30 : List Stmt := tlS bd29
def bd31 : List Stmt := tlS bd30
def bd32 : List Stmt := tlS bd31
def bd33 : List Stmt := tlS bd32
def bd34 : List Stmt := tlS bd33
def bd35 : List Stmt := tlS bd34
def bd36 : List Stmt := tlS bd35
def bd37 : List Stmt := tlS bd36
def bd38 : List Stmt := tlS bd37
abbrev s_read : Stmt := hdS bd13
abbrev s_tokens_of : Stmt := hdS bd14
abbrev s_token_at : Stmt := hdS bd15
abbrev s_part_from : Stmt := hdS bd16
abbrev s_part_after : Stmt := hdS bd17
abbrev s_with_nots : Stmt := hdS bd18
abbrev s_with_joining : Stmt := hdS bd19
abbrev s_law_mixed : Stmt := hdS bd22
abbrev s_law_stream : Stmt := hdS bd23
abbrev s_law_statement : Stmt := hdS bd24
abbrev s_law_letters : Stmt := hdS bd25
abbrev s_law_bracketed : Stmt := hdS bd28
abbrev s_law_text : Stmt := hdS bd29
abbrev s_law_loose : Stmt := hdS bd30
abbrev s_law_loose_part : Stmt := hdS bd31
abbrev s_law_bent : Stmt := hdS bd32
abbrev s_law_passed : Stmt := hdS bd33
abbrev s_law_part : Stmt := hdS bd34
abbrev s_law_all : Stmt := hdS bd35
abbrev s_law_due : Stmt := hdS bd36
abbrev s_law_holds : Stmt := hdS bd37
abbrev s_law : Stmt := hdS bd38
set_option genInjectivity false
set_option genSizeOf false
structure Def (K : PySem.W.Frag) (mg : Str → Option Value) (x : Str) (st : Stmt) (ps : List Str) (f : Addr) (fd : FuncData) : Prop where
  F : Fun K x x st f fd
  m : mg x = some (.ref f)
  b : Binds K fd ps []
structure Txt (K : PySem.W.Frag) (mg : Str → Option Value) where
  a_law_mixed : Addr
  fd_law_mixed : FuncData
  d_law_mixed : Def K mg "_law_mixed" s_law_mixed ["_law_cell", "_law_k"] a_law_mixed fd_law_mixed
  a_law_stream : Addr
  fd_law_stream : FuncData
  d_law_stream : Def K mg "_law_stream" s_law_stream ["_law_cell", "_law_k"] a_law_stream fd_law_stream
  a_law_statement : Addr
  fd_law_statement : FuncData
  d_law_statement : Def K mg "_law_statement" s_law_statement ["_law_numbers", "_law_letters_here"] a_law_statement fd_law_statement
  a_law_text : Addr
  fd_law_text : FuncData
  d_law_text : Def K mg "_law_text" s_law_text ["_law_statement_here"] a_law_text fd_law_text
  a_law_bracketed : Addr
  fd_law_bracketed : FuncData
  d_law_bracketed : Def K mg "_law_bracketed" s_law_bracketed ["_law_statement_here"] a_law_bracketed fd_law_bracketed
  a_law_letters : Addr
  fd_law_letters : FuncData
  d_law_letters : Def K mg "_law_letters" s_law_letters ["_law_number", "_law_many"] a_law_letters fd_law_letters
  a_law_loose : Addr
  fd_law_loose : FuncData
  d_law_loose : Def K mg "_law_loose" s_law_loose ["_law_statement_here", "_law_number"] a_law_loose fd_law_loose
  a_law_loose_part : Addr
  fd_law_loose_part : FuncData
  d_law_loose_part : Def K mg "_law_loose_part" s_law_loose_part ["_law_statement_here", "_law_number"] a_law_loose_part fd_law_loose_part
  a_law_passed : Addr
  fd_law_passed : FuncData
  d_law_passed : Def K mg "_law_passed" s_law_passed ["_law_text_here", "_law_at_here", "_law_some"] a_law_passed fd_law_passed
  a_law_all : Addr
  fd_law_all : FuncData
  d_law_all : Def K mg "_law_all" s_law_all ["_law_text_here", "_law_at_here"] a_law_all fd_law_all
  a_law_part : Addr
  fd_law_part : FuncData
  d_law_part : Def K mg "_law_part" s_law_part ["_law_text_here", "_law_at_here"] a_law_part fd_law_part
  a_law_due : Addr
  fd_law_due : FuncData
  d_law_due : Def K mg "_law_due" s_law_due ["_law_text_here"] a_law_due fd_law_due
  a_token_at : Addr
  fd_token_at : FuncData
  d_token_at : Def K mg "token_at" s_token_at ["text", "place"] a_token_at fd_token_at
  a_tokens_of : Addr
  fd_tokens_of : FuncData
  d_tokens_of : Def K mg "tokens_of" s_tokens_of ["text"] a_tokens_of fd_tokens_of
  a_with_joining : Addr
  fd_with_joining : FuncData
  d_with_joining : Def K mg "with_joining" s_with_joining ["part", "begun"] a_with_joining fd_with_joining
  a_with_nots : Addr
  fd_with_nots : FuncData
  d_with_nots : Def K mg "with_nots" s_with_nots ["part", "begun"] a_with_nots fd_with_nots
  a_part_from : Addr
  fd_part_from : FuncData
  d_part_from : Def K mg "part_from" s_part_from ["token", "begun"] a_part_from fd_part_from
  a_part_after : Addr
  fd_part_after : FuncData
  d_part_after : Def K mg "part_after" s_part_after ["token", "part", "begun"] a_part_after fd_part_after
  a_read : Addr
  fd_read : FuncData
  d_read : Def K mg "read" s_read ["text"] a_read fd_read
  a_law_holds : Addr
  fd_law_holds : FuncData
  d_law_holds : Def K mg "_law_holds" s_law_holds ["_law_text_here"] a_law_holds fd_law_holds
  a_law_bent : Addr
  fd_law_bent : FuncData
  d_law_bent : Def K mg "_law_bent" s_law_bent ["_law_text_here", "_law_xs"] a_law_bent fd_law_bent
  n_ValueError : mg "ValueError" = none
  n_int : mg "int" = none
  n_isinstance : mg "isinstance" = none
  n_len : mg "len" = none
  n_range : mg "range" = none
  n_str : mg "str" = none
  a_SPACED : Addr
  g_SPACED : mg "SPACED" = some (.ref a_SPACED)
  q_SPACED : ∀ H : Hp, SqT K H a_SPACED [.str "not ", .str " and ", .str " or ", .str " xor "]
  a_JOINING : Addr
  g_JOINING : mg "JOINING" = some (.ref a_JOINING)
  q_JOINING : ∀ H : Hp, SqT K H a_JOINING [.str "and", .str "or", .str "xor"]
  t_LETTERS : Tok
  g_LETTERS : mg "LETTERS" = some (.str "abcdefghijklmnop" t_LETTERS)
  a_NoStatement : Addr
  g_NoStatement : mg "NoStatement" = some (.ref a_NoStatement)
  a_FormError : Addr
  g_FormError : mg "FormError" = some (.ref a_FormError)
  a_NoForm : Addr
  g_NoForm : mg "NoForm" = some (.ref a_NoForm)
  a_NoLine : Addr
  g_NoLine : mg "NoLine" = some (.ref a_NoLine)
  a_NoName : Addr
  g_NoName : mg "NoName" = some (.ref a_NoName)
  a_NoPull : Addr
  g_NoPull : mg "NoPull" = some (.ref a_NoPull)
  a_NoYesNo : Addr
  g_NoYesNo : mg "NoYesNo" = some (.ref a_NoYesNo)
  a_TooMany : Addr
  g_TooMany : mg "TooMany" = some (.ref a_TooMany)
  x_NoStatement : exIn K a_NoStatement (.ref a_FormError :: vB) = true
  x_FormError : exIn K a_FormError vB = true
  x_NoForm : exIn K a_NoForm (.ref a_FormError :: vB) = true
  x_NoLine : exIn K a_NoLine (.ref a_FormError :: vB) = true
  x_NoName : exIn K a_NoName (.ref a_FormError :: vB) = true
  x_NoPull : exIn K a_NoPull (.ref a_FormError :: vB) = true
  x_NoYesNo : exIn K a_NoYesNo (.ref a_FormError :: vB) = true
  x_TooMany : exIn K a_TooMany (.ref a_FormError :: vB) = true
  i_NoStatement_NoStatement : PySem.W.kitOne K (.ref a_NoStatement) (.ref a_NoStatement) = some true
  i_NoStatement_FormError : PySem.W.kitOne K (.ref a_NoStatement) (.ref a_FormError) = some true
  i_NoStatement_NoForm : PySem.W.kitOne K (.ref a_NoStatement) (.ref a_NoForm) = some false
  i_NoStatement_NoLine : PySem.W.kitOne K (.ref a_NoStatement) (.ref a_NoLine) = some false
  i_NoStatement_NoName : PySem.W.kitOne K (.ref a_NoStatement) (.ref a_NoName) = some false
  i_NoStatement_NoPull : PySem.W.kitOne K (.ref a_NoStatement) (.ref a_NoPull) = some false
  i_NoStatement_NoYesNo : PySem.W.kitOne K (.ref a_NoStatement) (.ref a_NoYesNo) = some false
  i_NoStatement_TooMany : PySem.W.kitOne K (.ref a_NoStatement) (.ref a_TooMany) = some false
  v_NoStatement : PySem.W.kitOne K (.ref a_NoStatement) (.type "ValueError") = some true
set_option genInjectivity true
set_option genSizeOf true
seal L2.PS L2.PSs L2.PE L2.PT L2.PA L2.PI L2.PG L2.PW L2.PO
section
variable {P : Program} {w : World} {K : PySem.W.Frag} {mg : Str → Option Value} {base : Heap}
theorem sc_law_mixed : FnScope ["_law_cell", "_law_k", "_law_number"] ["_law_cell", "_law_k"] (defScope s_law_mixed) := ⟨rfl, rfl, rfl, by decide +kernel, rfl, by decide +kernel, by decide +kernel⟩
theorem ok_law_mixed (T : Txt K mg) : FnOk P w K mg base CX0 1 T.a_law_mixed T.fd_law_mixed ["_law_cell", "_law_k"] spMix := by
  refine T.d_law_mixed.F.ok sc_law_mixed (fun vs H Q E h => ?_) (fun cdv A outer s H vs Q E hr h => ?_)
  · obtain ⟨c, k, rfl, k1, k2, q⟩ := h; rfl
  · obtain ⟨c, k, rfl, k1, k2, q⟩ := h
    have hu := hu_of hr
    refine ⟨_, (pss_cons (ps_set (i := 2) sc_law_mixed.nd rfl (Or.inl rfl) (pe_op op_mod (pe_op op_add (pe_op op_add (pe_op op_mulO (pv 0) pe_int) (pe_op op_mulO (pe_op op_mulO pe_int (pv 1)) (pv 1))) (pv 1)) pe_int))
      (pss_cons (ps_set (i := 2) sc_law_mixed.nd rfl (Or.inl rfl) (pe_op op_mod (pe_op op_mulO (pv 2) (pv 2)) pe_int))
      (pss_one (ps_ret (pe_op op_mod (pe_op op_mulO (pv 2) pe_int) pe_int))))), ?_⟩
    refine ⟨_, rfl, _, _, rfl, rfl, mulR (by decide) (by decide), _, rfl, _, _, rfl, rfl, mulL (by decide) (by decide), _, rfl, _, _, rfl, rfl, mulR k1 k2, _, _, rfl, rfl, _, rfl, _, _, rfl, rfl, _, _, rfl, rfl, (by show (0 : Int) < 2147483647; decide), ?_⟩
    generalize hz : (c * 1103515245 + 7919 * k * k + k) % 2147483647 = z
    have z1 : 0 ≤ z := by rw [← hz]; exact Int.emod_nonneg _ (by decide)
    have z2 : z < 2147483647 := by rw [← hz]; exact Int.emod_lt_of_pos _ (by decide)
    refine ⟨_, rfl, _, rfl, _, _, rfl, rfl, mulL (by omega) (by omega), _, _, rfl, rfl, (by show (0 : Int) < 2147483629; decide), ?_⟩
    refine ⟨_, rfl, _, _, rfl, rfl, mulR (by decide) (by decide), _, _, rfl, rfl, (by show (0 : Int) < 2147483587; decide), ?_⟩
    exact q _ (Int.emod_nonneg _ (by decide)) (Int.emod_lt_of_pos _ (by decide))

def spStream9 (K : PySem.W.Frag) : Sp := fun vs H Q _ => ∃ cell k : Int, vs = [.int cell, .int k] ∧ (0 ≤ k ∧ k < 2 ^ 20) ∧ ∀ (D : Addr) (xs : List Int) (H' : Hp), H D = none → H' D = some (.lst (xs.map V.int)) → (xs.length = 12 ∧ ∀ x ∈ xs, 0 ≤ x) → Same H H' → Q (.ref D) H'
theorem sc_law_stream : FnScope ["_law_cell", "_law_k", "_law_found", "_law_left", "_law_j", "_law_number"] ["_law_cell", "_law_k"] (defScope s_law_stream) := ⟨rfl, rfl, rfl, by decide +kernel, rfl, by decide +kernel, by decide +kernel⟩
theorem ok_law_stream (T : Txt K mg) : FnOk P w K mg base CX0 2 T.a_law_stream T.fd_law_stream ["_law_cell", "_law_k"] (spStream9 K) := by
  refine T.d_law_stream.F.ok sc_law_stream (fun vs H Q E h => ?_) (fun cdv A outer s H vs Q E hr h => ?_)
  · obtain ⟨cell, k, rfl, hm, q⟩ := h; rfl
  · obtain ⟨cell, k, rfl, hm, q⟩ := h
    have hu := hu_of hr
    refine ⟨_, (pss_cons (ps_set (i := 2) sc_law_stream.nd rfl (Or.inl rfl) (pe_lst pa_nil))
      (pss_cons (ps_if (pt_cmpR op_ge (pv 0) (pe_op op_pow pe_int pe_int) (nomark _)) (pss_cons (ps_set (i := 3) sc_law_stream.nd rfl (Or.inl rfl) (pe_op op_sub (pv 0) (pe_op op_pow pe_int pe_int)))
      (pss_cons (ps_for PassesOwn.never rfl (pi_range1 rfl T.n_range (pa_cons pe_int pa_nil)) (pg_name (i := 4) sc_law_stream.nd rfl (Or.inl rfl))
        (pss_cons (ps_expr (pe_bm PySem.F.plainAttrs_list PySem.F.slot_list_append PySem.F.type_list_append mt_append (pv 2) (pa_cons (pe_op op_mod (pv 3) pe_int) pa_nil)))
      (pss_one (ps_set (i := 3) sc_law_stream.nd rfl (Or.inl rfl) (pe_op op_fdivG (pv 3) pe_int)))))
      (pss_one (ps_ret (pv 2))))) pss_nil)
      (pss_cons (ps_set (i := 5) sc_law_stream.nd rfl (Or.inl rfl) (pe_call (ok_law_mixed (P := P) (w := w) (base := base) T) hr (by rfl) T.d_law_mixed.m T.d_law_mixed.F.kp T.d_law_mixed.b .nil pass0 (pa_cons (pv 0) (pa_cons (pv 1) pa_nil))))
      (pss_cons (ps_for PassesOwn.never rfl (pi_range1 rfl T.n_range (pa_cons pe_int pa_nil)) (pg_name (i := 4) sc_law_stream.nd rfl (Or.inl rfl))
        (pss_cons (ps_set (i := 5) sc_law_stream.nd rfl (Or.inl rfl) (pe_op op_mod (pe_op op_add (pe_op op_add (pe_op op_mulO (pv 5) (pv 5)) (pe_op op_mulO pe_int (pv 4))) pe_int) pe_int))
      (pss_one (ps_expr (pe_bm PySem.F.plainAttrs_list PySem.F.slot_list_append PySem.F.type_list_append mt_append (pv 2) (pa_cons (pe_op op_fdivG (pe_op op_mod (pe_op op_mulO (pv 5) pe_int) pe_int) pe_int) pa_nil))))))
      (pss_one (ps_ret (pv 2))))))), ?_⟩
    refine ⟨Nat.zero_le _, fun D hD => ?_⟩
    have s0 : Same H (upd H D (.lst [])) := Same.upd hD
    have w0 : upd H D (.lst []) D = some (.lst ([].map V.int)) := upd_same
    generalize upd H D (.lst []) = H0 at s0 w0 ⊢
    refine ⟨_, rfl, _, _, rfl, rfl, ⟨by decide, by decide, by decide⟩, _, _, rfl, rfl, _, rfl, ite2 (fun z => ?_) (fun z => ?_)⟩
    · refine ⟨_, rfl, _, _, rfl, rfl, ⟨by decide, by decide, by decide⟩, _, _, rfl, rfl, ?_⟩
      refine ⟨12, rfl, by decide, by decide, ?_⟩
      refine for_range (n := (12 : Int).toNat) (fun i σ G => ∃ (v4 v5 : Option V) (le : Int) (xs : List Int), σ = [some (.int cell), some (.int k), some (.ref D), some (.int le), v4, v5] ∧ G D = some (.lst (xs.map V.int)) ∧ xs.length = i ∧ (∀ x ∈ xs, 0 ≤ x) ∧ Same H G)
        ⟨_, _, _, [], rfl, w0, rfl, (fun x h => by cases h), s0⟩ ?_ ?_
      · rintro i σ G hi ⟨v4, v5, le, xs, rfl, g1, g2, g3, g4⟩
        have hi' : i < 12 := hi
        refine ⟨_, rfl, .inl ⟨rfl, _, SqL.of g1⟩, _, rfl, _, _, rfl, rfl, (by show (0 : Int) < 134217728; decide), D, _, _, rfl, rfl, g1, (by rw [List.length_map, g2]; exact small6 (by omega)), ?_⟩
        refine ⟨_, rfl, _, _, rfl, rfl, divG_of (by decide) (by decide), _, _, _, xs ++ [le % 134217728], rfl, (by rw [upd_same, List.map_append]; rfl), by rw [List.length_append, g2]; rfl, fun x hx => ?_, g4.write hD⟩
        rcases List.mem_append.mp hx with y | y
        · exact g3 x y
        · rw [List.mem_singleton.mp y]; exact Int.emod_nonneg _ (by decide)
      · rintro σ G ⟨v4, v5, le, xs, rfl, g1, g2, g3, g4⟩
        exact ⟨_, rfl, q D xs G hD g1 ⟨g2, g3⟩ g4⟩
    refine ⟨_, rfl, _, rfl, cell, k, rfl, by omega, by omega, fun r0 r1 r2 => ?_⟩
    refine ⟨12, rfl, by decide, by decide, ?_⟩
    refine for_range (n := (12 : Int).toNat) (fun i σ G => ∃ (v3 v4 : Option V) (nu : Int) (xs : List Int), σ = [some (.int cell), some (.int k), some (.ref D), v3, v4, some (.int nu)] ∧ 0 ≤ nu ∧ nu < 2147483629 ∧ G D = some (.lst (xs.map V.int)) ∧ xs.length = i ∧ (∀ x ∈ xs, 0 ≤ x) ∧ Same H G)
      ⟨_, _, _, [], rfl, r1, by omega, w0, rfl, (fun x h => by cases h), s0⟩ ?_ ?_
    · rintro i σ G hi ⟨v3, v4, nu, xs, rfl, n1, n2, g1, g2, g3, g4⟩
      have hi' : i < 12 := hi
      refine ⟨_, rfl, _, rfl, _, _, rfl, rfl, mulR (by omega) (by omega), _, rfl, _, _, rfl, rfl, mulR (by omega) (by omega), _, _, rfl, rfl, _, _, rfl, rfl, _, _, rfl, rfl, (by show (0 : Int) < 2147483629; decide), ?_⟩
      dsimp only
      obtain ⟨nv, hnv⟩ : ∃ nv : Int, (nu * nu + 7 * (0 + (i : Int)) + 1) % 2147483629 = nv := ⟨_, rfl⟩
      have hn1 : 0 ≤ nv := by rw [← hnv]; exact Int.emod_nonneg _ (by decide)
      have hn2 : nv < 2147483629 := by rw [← hnv]; exact Int.emod_lt_of_pos _ (by decide)
      rw [hnv]
      refine ⟨_, rfl, .inl ⟨rfl, _, SqL.of g1⟩, _, rfl, _, _, rfl, rfl, mulR (by decide) (by decide), _, _, rfl, rfl, (by show (0 : Int) < 2147483587; decide), _, _, rfl, rfl, divG_of (by decide) (by decide), D, _, _, rfl, rfl, g1, (by rw [List.length_map, g2]; exact small6 (by omega)), ?_⟩
      refine ⟨_, _, nv, xs ++ [nv * 69621 % 2147483587 / 16], rfl, hn1, hn2, (by rw [upd_same, List.map_append]; rfl), by rw [List.length_append, g2]; rfl, fun x hx => ?_, g4.write hD⟩
      rcases List.mem_append.mp hx with y | y
      · exact g3 x y
      · rw [List.mem_singleton.mp y]
        exact Int.ediv_nonneg (Int.emod_nonneg _ (by decide)) (by decide)
    · rintro σ G ⟨v3, v4, nu, xs, rfl, n1, n2, g1, g2, g3, g4⟩
      exact ⟨_, rfl, q D xs G hD g1 ⟨g2, g3⟩ g4⟩

structure StW (ls : List Nat) (n : Nat) (G : Hp) (c : Addr) (xs : List V) : Prop where
  here : G c = some (.lst xs)
  all : ∃ ss : List Sm, Paired (fun x (s : Sm) => Is G x s.d ∧ s.ok (fun k => k ∈ ls)) xs ss ∧ (ss.map nodes).sum ≤ n
theorem StW.keep {ls : List Nat} {n : Nat} {G G' : Hp} {c : Addr} {xs : List V} (h : StW ls n G c xs) (k : Same G G') : StW ls n G' c xs := by
  obtain ⟨h1, ss, h2, h3⟩ := h
  exact ⟨k _ _ h1, ss, Paired.mapP h2 fun _ _ e => ⟨e.1.keep k, e.2⟩, h3⟩
theorem StW.pop {ls : List Nat} {n : Nat} {G : Hp} {c : Addr} {xs : List V} (h : StW ls n G c xs) (h0 : 0 < xs.length) : ∃ (y : V) (s : Sm), xs[xs.length - 1]? = some y ∧ Is (upd G c (.lst xs.dropLast)) y s.d ∧ s.ok (fun k => k ∈ ls) ∧ nodes s ≤ n ∧ StW ls (n - nodes s) (upd G c (.lst xs.dropLast)) c xs.dropLast := by
  obtain ⟨h1, ss, h2, h3⟩ := h
  rcases snoc_cases ss with rfl | ⟨r, s, rfl⟩
  · cases h2; exact absurd h0 (Nat.lt_irrefl _)
  · obtain ⟨xs', y, rfl, p, q⟩ := paired_last h2
    rw [List.map_append, List.sum_append] at h3
    have h3' : (r.map nodes).sum + (nodes s + 0) ≤ n := h3
    rw [List.dropLast_concat]
    exact ⟨y, s, by simp, sm_keepU q.1 h1, q.2, by omega, upd_same, r, Paired.mapP p fun _ _ e => ⟨sm_keepU e.1 h1, e.2⟩, by omega⟩
theorem StW.push {ls : List Nat} {n n' : Nat} {G : Hp} {c t : Addr} {xs zs : List V} {s : Sm} (h : StW ls n G c xs) (ht : G t = none) (hs : ∀ G' : Hp, (∀ p ys, G p = some (.tup ys) → G' p = some (.tup ys)) → G' t = some (.tup zs) → Is G' (.ref t) s.d) (hok : s.ok fun k => k ∈ ls) (hd : n + nodes s ≤ n') :
    upd G t (.tup zs) c = some (.lst xs) ∧ StW ls n' (upd (upd G t (.tup zs)) c (.lst (xs ++ [.ref t]))) c (xs ++ [.ref t]) := by
  obtain ⟨h1, ss, h2, h3⟩ := h
  have s1 : Same G (upd G t (.tup zs)) := Same.upd ht
  have k : ∀ p ys, G p = some (.tup ys) → upd (upd G t (.tup zs)) c (.lst (xs ++ [.ref t])) p = some (.tup ys) := fun p ys e => by
    have hne : p ≠ c := fun z => by rw [z, h1] at e; cases e
    rw [upd_ne hne]; exact s1 _ _ e
  have htc : t ≠ c := fun z => by rw [z, h1] at ht; cases ht
  refine ⟨s1 _ _ h1, upd_same, ss ++ [s], paired_snoc (Paired.mapP h2 fun _ _ e => ⟨sm_keepX k e.1, e.2⟩) ⟨hs _ k (by rw [upd_ne htc]; exact upd_same), hok⟩, ?_⟩
  rw [List.map_append, List.sum_append]
  show _ + (nodes s + 0) ≤ n'
  omega
def spStatW (K : PySem.W.Frag) : Sp := fun vs H Q _ => ∃ (a b : Addr) (ns : List Int) (ls : List Nat), vs = [.ref a, .ref b] ∧ H a = some (.lst (ns.map V.int)) ∧ H b = some (.lst (natL ls)) ∧ ns.length ≤ 6 ∧ 0 < ls.length ∧ ls.length ≤ 8 ∧
  ∀ (v : V) (s : Sm) (H' : Hp), Is H' v s.d → s.ok (fun k => k ∈ ls) → nodes s ≤ 11 → Same H H' → Q v H'
theorem sc_law_statement : FnScope ["_law_numbers", "_law_letters_here", "_law_stack", "_law_number", "_law_other", "_law_one"] ["_law_numbers", "_law_letters_here"] (defScope s_law_statement) := ⟨rfl, rfl, rfl, by decide +kernel, rfl, by decide +kernel, by decide +kernel⟩
theorem ok_law_statement (T : Txt K mg) : FnOk P w K mg base CX0 1 T.a_law_statement T.fd_law_statement ["_law_numbers", "_law_letters_here"] (spStatW K) := by
  refine T.d_law_statement.F.ok sc_law_statement (fun vs H Q E h => ?_) (fun cdv A outer s H vs Q E hr h => ?_)
  · obtain ⟨a, b, ns, ls, rfl, hS, hb, hns, hl0, hl8, q⟩ := h; rfl
  · obtain ⟨a, b, ns, ls, rfl, hS, hb, hns, hl0, hl8, q⟩ := h
    have hu := hu_of hr
    refine ⟨_, (pss_cons (ps_set (i := 2) sc_law_statement.nd rfl (Or.inl rfl) (pe_lst pa_nil))
      (pss_cons (ps_for PassesOwn.never rfl (pi_list (pv 0)) (pg_name (i := 3) sc_law_statement.nd rfl (Or.inl rfl))
        (pss_one (ps_if (PW.pt (pw_and (pt_cmpR op_eq (pe_op op_mod (pv 3) pe_int) pe_int (nomark _)) (pw_and1 (pt_cmpR op_gt (pe_callB call_len_seq (by rfl) T.n_len PySem.boot_len (pa_cons (pv 2) pa_nil)) pe_int (nomark _))))) (pss_one (ps_expr (pe_bm PySem.F.plainAttrs_list PySem.F.slot_list_append PySem.F.type_list_append mt_append (pv 2) (pa_cons (pe_tup (pa_cons pe_str (pa_cons (pe_bm0 PySem.F.plainAttrs_list PySem.F.slot_list_pop PySem.F.type_list_pop mt_pop (pv 2)) pa_nil))) pa_nil)))) (pss_one (ps_if (PW.pt (pw_and (pt_cmpR op_gt (pe_op op_mod (pv 3) pe_int) pe_int (nomark _)) (pw_and1 (pt_cmpR op_gt (pe_callB call_len_seq (by rfl) T.n_len PySem.boot_len (pa_cons (pv 2) pa_nil)) pe_int (nomark _))))) (pss_cons (ps_set (i := 4) sc_law_statement.nd rfl (Or.inl rfl) (pe_bm0 PySem.F.plainAttrs_list PySem.F.slot_list_pop PySem.F.type_list_pop mt_pop (pv 2)))
      (pss_cons (ps_set (i := 5) sc_law_statement.nd rfl (Or.inl rfl) (pe_bm0 PySem.F.plainAttrs_list PySem.F.slot_list_pop PySem.F.type_list_pop mt_pop (pv 2)))
      (pss_one (ps_expr (pe_bm PySem.F.plainAttrs_list PySem.F.slot_list_append PySem.F.type_list_append mt_append (pv 2) (pa_cons (pe_tup (pa_cons (pe_ix ix_list (pe_lst (pa_cons pe_str (pa_cons pe_str (pa_cons pe_str pa_nil)))) (pe_op op_mod (pe_op op_fdivG (pv 3) pe_int) pe_int) (fun _ _ => rfl)) (pa_cons (pv 5) (pa_cons (pv 4) pa_nil)))) pa_nil)))))) (pss_one (ps_if (pt_cmpR op_eq (pe_op op_mod (pv 3) pe_int) pe_int (nomark _)) (pss_one (ps_expr (pe_bm PySem.F.plainAttrs_list PySem.F.slot_list_append PySem.F.type_list_append mt_append (pv 2) (pa_cons (pe_tup (pa_cons pe_str (pa_cons (pe_op op_mod (pe_op op_fdivG (pv 3) pe_int) pe_int) pa_nil))) pa_nil)))) (pss_one (ps_expr (pe_bm PySem.F.plainAttrs_list PySem.F.slot_list_append PySem.F.type_list_append mt_append (pv 2) (pa_cons (pe_tup (pa_cons pe_str (pa_cons (pe_ix ix_list (pv 1) (pe_op op_mod (pe_op op_fdivG (pv 3) pe_int) (pe_callB call_len_seq (by rfl) T.n_len PySem.boot_len (pa_cons (pv 1) pa_nil))) (fun _ _ => rfl)) pa_nil))) pa_nil)))))))))))
      (pss_cons (ps_while PassesOwn.never (pt_cmpR op_gt (pe_callB call_len_seq (by rfl) T.n_len PySem.boot_len (pa_cons (pv 2) pa_nil)) pe_int (nomark _)) (pss_cons (ps_set (i := 4) sc_law_statement.nd rfl (Or.inl rfl) (pe_bm0 PySem.F.plainAttrs_list PySem.F.slot_list_pop PySem.F.type_list_pop mt_pop (pv 2)))
      (pss_cons (ps_set (i := 5) sc_law_statement.nd rfl (Or.inl rfl) (pe_bm0 PySem.F.plainAttrs_list PySem.F.slot_list_pop PySem.F.type_list_pop mt_pop (pv 2)))
      (pss_one (ps_expr (pe_bm PySem.F.plainAttrs_list PySem.F.slot_list_append PySem.F.type_list_append mt_append (pv 2) (pa_cons (pe_tup (pa_cons (pe_ix ix_list (pe_lst (pa_cons pe_str (pa_cons pe_str (pa_cons pe_str pa_nil)))) (pe_op op_mod (pe_callB call_len_seq (by rfl) T.n_len PySem.boot_len (pa_cons (pv 2) pa_nil)) pe_int) (fun _ _ => rfl)) (pa_cons (pv 5) (pa_cons (pv 4) pa_nil)))) pa_nil)))))))
      (pss_cons (ps_if (pt_cmpR op_eq (pe_callB call_len_seq (by rfl) T.n_len PySem.boot_len (pa_cons (pv 2) pa_nil)) pe_int (nomark _)) (pss_one (ps_ret (pe_tup (pa_cons pe_str (pa_cons pe_int pa_nil))))) pss_nil)
      (pss_one (ps_ret (pe_ix ix_list (pv 2) pe_int (fun _ _ => rfl)))))))), ?_⟩
    refine ⟨Nat.zero_le _, fun c hc => ?_⟩
    have s0 : Same H (upd H c (.lst [])) := Same.upd hc
    have k0 : StW ls 0 (upd H c (.lst [])) c [] := ⟨upd_same, [], .nil, Nat.le_refl _⟩
    generalize upd H c (.lst []) = H1 at s0 k0
    refine ⟨_, rfl, a, rfl, ⟨_, SqL.of (s0 _ _ hS)⟩, ?_⟩
    refine for_list (K := K) (a := a) (xs := ns.map V.int) (fun i σ G => ∃ (xs : List V) (v3 v4 v5 : Option V), σ = [some (.ref a), some (.ref b), some (.ref c), v3, v4, v5] ∧ StW ls i G c xs ∧ xs.length ≤ i ∧ Same H G)
      ⟨[], none, none, none, rfl, k0, Nat.le_refl _, s0⟩ (fun i σ G _ ⟨_, _, _, _, _, _, _, e⟩ => SqL.of (e _ _ hS)) ?_ ?_
    · rintro i y0 σ G hi ⟨xs, v3, v4, v5, rfl, hs, hxl, sG⟩
      obtain ⟨x, hxi, rfl⟩ := at_int hi
      have hi8 : i < ns.length := (List.getElem?_eq_some_iff.mp hxi).1
      refine ⟨_, rfl, _, _, rfl, rfl, (by show (0 : Int) < 7; decide), rfl, _, rfl, ?_⟩
      refine ite2 (fun h1 => ?_) (fun h1 => iteF ?_)
      · refine ⟨_, rfl, c, _, rfl, .inl (SqL.of hs.here), _, _, rfl, rfl, _, rfl, ?_⟩
        refine ite2 (fun h2 => ?_) (fun h2 => ?_)
        · have h0 : 0 < xs.length := by have := of_decide_eq_true h2; omega
          obtain ⟨y, s1, hy1, hy2, hy3, hy4, hk⟩ := hs.pop h0
          refine ⟨_, rfl, .inl ⟨rfl, _, SqL.of hs.here⟩, _, rfl, .inl ⟨rfl, _, SqL.of hs.here⟩, c, xs, y, rfl, rfl, hs.here, hy1, (by show 2 ≤ sizeLine; decide), fun t ht => ?_⟩
          have hl1 := List.length_dropLast (xs := xs)
          obtain ⟨p1, p2⟩ := hk.push (n' := i + 1) (zs := [.str "not", y]) (s := .no s1) ht (fun G' kk h3 => mk_tup2 h3 (is_str.mpr rfl) (sm_keepX kk hy2)) hy3 (by show _ + (nodes s1 + 1) ≤ i + 1; omega)
          exact ⟨c, _, _, rfl, rfl, p1, small6 (by omega), _, _, _, _, rfl, p2, (by rw [List.length_append]; show xs.dropLast.length + 1 ≤ i + 1; omega), ((sG.write hc).trans (Same.upd ht)).write hc⟩
        · refine ⟨_, rfl, _, _, rfl, rfl, (by show (0 : Int) < 7; decide), _, _, rfl, rfl, _, rfl, ?_⟩
          refine ite2 (fun h3 => ?_) (fun h3 => iteF ?_)
          · refine ⟨_, rfl, c, _, rfl, .inl (SqL.of hs.here), _, _, rfl, rfl, _, rfl, ?_⟩
            refine ite2 (fun h4 => ?_) (fun h4 => ?_)
            · have h0 : 1 < xs.length := by have := of_decide_eq_true h4; omega
              obtain ⟨y, s1, hy1, hy2, hy3, hy4, hk⟩ := hs.pop (by omega)
              refine ⟨_, rfl, .inl ⟨rfl, _, SqL.of hs.here⟩, c, xs, y, rfl, rfl, hs.here, hy1, ?_⟩
              have hl1 := List.length_dropLast (xs := xs)
              have sG1 := sG.write (o := .lst xs.dropLast) hc
              generalize upd G c (.lst xs.dropLast) = G1 at hy2 hk sG1
              obtain ⟨z, s2, hz1, hz2, hz3, hz4, hk2⟩ := hk.pop (by omega)
              refine ⟨_, rfl, .inl ⟨rfl, _, SqL.of hk.here⟩, c, xs.dropLast, z, rfl, rfl, hk.here, hz1, ?_⟩
              have hl2 := List.length_dropLast (xs := xs.dropLast)
              have sG2 := sG1.write (o := .lst xs.dropLast.dropLast) hc
              have hy2' : Is (upd G1 c (.lst xs.dropLast.dropLast)) y s1.d := sm_keepU hy2 hk.here
              generalize upd G1 c (.lst xs.dropLast.dropLast) = G2 at hy2' hz2 hk2 sG2
              have gj1 := Int.emod_nonneg (x / 7) (show (3 : Int) ≠ 0 by decide)
              have gj2 := Int.emod_lt_of_pos (x / 7) (show (0 : Int) < 3 by decide)
              obtain ⟨j, hj⟩ : ∃ j : Nat, x / 7 % 3 = (j : Int) := ⟨_, (Int.toNat_of_nonneg gj1).symm⟩
              have hj3 : j < 3 := by omega
              refine ⟨_, rfl, .inl ⟨rfl, _, SqL.of hk2.here⟩, (by show 3 ≤ sizeLine; decide), fun l hl => ?_⟩
              have sl : Same G2 (upd G2 l (.lst [.str "and", .str "or", .str "xor"])) := Same.upd hl
              have wl : upd G2 l (.lst [.str "and", .str "or", .str "xor"]) l = some (.lst [.str "and", .str "or", .str "xor"]) := upd_same
              generalize upd G2 l (.lst [.str "and", .str "or", .str "xor"]) = G3 at sl wl
              refine ⟨_, rfl, _, _, rfl, rfl, divG_of (by decide) (by decide), _, _, rfl, rfl, (by show (0 : Int) < 3; decide), l, _, _, V.str (wd j), rfl, rfl, SqL.of wl, (by rw [hj]; exact words_at hj3), _, rfl, _, rfl, (by show 3 ≤ sizeLine; decide), fun t ht => ?_⟩
              obtain ⟨p1, p2⟩ := (hk2.keep sl).push (n' := i + 1) (zs := [.str (wd j), z, y]) (s := .two j s2 s1) ht (fun G' kk h3 => mk_tup3 h3 (is_str.mpr rfl) (sm_keepX kk (hz2.keep sl)) (sm_keepX kk (hy2'.keep sl))) ⟨hj3, hz3, hy3⟩ (by show _ + (nodes s2 + nodes s1 + 1) ≤ i + 1; omega)
              exact ⟨c, _, _, rfl, rfl, p1, small6 (by omega), _, _, _, _, rfl, p2, (by rw [List.length_append]; show xs.dropLast.dropLast.length + 1 ≤ i + 1; omega), ((sG2.trans sl).trans (Same.upd ht)).write hc⟩
            · refine ⟨_, rfl, _, _, rfl, rfl, (by show (0 : Int) < 28; decide), rfl, _, rfl, ?_⟩
              refine ite2 (fun h5 => ?_) (fun h5 => ?_)
              · refine ⟨_, rfl, .inl ⟨rfl, _, SqL.of hs.here⟩, _, rfl, _, _, rfl, rfl, divG_of (by decide) (by decide), _, _, rfl, rfl, (by show (0 : Int) < 2; decide), (by show 2 ≤ sizeLine; decide), fun t ht => ?_⟩
                obtain ⟨p1, p2⟩ := hs.push (n' := i + 1) (zs := [.str "fix", .int (x / 28 % 2)]) (s := .fix (x / 28 % 2)) ht (fun G' kk h3 => mk_tup2 h3 (is_str.mpr rfl) (is_int.mpr rfl)) (by show x / 28 % 2 = 0 ∨ x / 28 % 2 = 1; omega) (Nat.le_refl _)
                exact ⟨c, _, _, rfl, rfl, p1, small6 (by omega), _, _, _, _, rfl, p2, (by rw [List.length_append]; show xs.length + 1 ≤ i + 1; omega), (sG.trans (Same.upd ht)).write hc⟩
              · have hbG := sG _ _ hb
                have hll : (natL ls).length = ls.length := by unfold natL; rw [List.length_map]
                have gk1 := Int.emod_nonneg (x / 7) (show ((natL ls).length : Int) ≠ 0 by omega)
                have gk2 := Int.emod_lt_of_pos (x / 7) (show (0 : Int) < ((natL ls).length : Int) by omega)
                obtain ⟨m, hm⟩ : ∃ m : Nat, x / 7 % ((natL ls).length : Int) = (m : Int) := ⟨_, (Int.toNat_of_nonneg gk1).symm⟩
                have hml : m < ls.length := by omega
                have hmk : (natL ls)[m]? = some (V.int ((ls[m] : Nat) : Int)) := by unfold natL; rw [List.getElem?_map, List.getElem?_eq_getElem hml]; rfl
                refine ⟨_, rfl, .inl ⟨rfl, _, SqL.of hs.here⟩, _, rfl, _, rfl, _, _, rfl, rfl, divG_of (by decide) (by decide), _, rfl, b, _, rfl, .inl (SqL.of hbG), _, _, rfl, rfl, (by omega), b, _, _, _, rfl, rfl, SqL.of hbG, (by rw [hm]; exact atI_nat hmk), (by show 2 ≤ sizeLine; decide), fun t ht => ?_⟩
                obtain ⟨p1, p2⟩ := hs.push (n' := i + 1) (zs := [.str "bit", .int ((ls[m] : Nat) : Int)]) (s := .bit ls[m]) ht (fun G' kk h3 => mk_tup2 h3 (is_str.mpr rfl) (is_int.mpr rfl)) (List.getElem_mem hml) (Nat.le_refl _)
                exact ⟨c, _, _, rfl, rfl, p1, small6 (by omega), _, _, _, _, rfl, p2, (by rw [List.length_append]; show xs.length + 1 ≤ i + 1; omega), (sG.trans (Same.upd ht)).write hc⟩
          · refine ⟨_, rfl, _, _, rfl, rfl, (by show (0 : Int) < 28; decide), rfl, _, rfl, ?_⟩
            refine ite2 (fun h5 => ?_) (fun h5 => ?_)
            · refine ⟨_, rfl, .inl ⟨rfl, _, SqL.of hs.here⟩, _, rfl, _, _, rfl, rfl, divG_of (by decide) (by decide), _, _, rfl, rfl, (by show (0 : Int) < 2; decide), (by show 2 ≤ sizeLine; decide), fun t ht => ?_⟩
              obtain ⟨p1, p2⟩ := hs.push (n' := i + 1) (zs := [.str "fix", .int (x / 28 % 2)]) (s := .fix (x / 28 % 2)) ht (fun G' kk h3 => mk_tup2 h3 (is_str.mpr rfl) (is_int.mpr rfl)) (by show x / 28 % 2 = 0 ∨ x / 28 % 2 = 1; omega) (Nat.le_refl _)
              exact ⟨c, _, _, rfl, rfl, p1, small6 (by omega), _, _, _, _, rfl, p2, (by rw [List.length_append]; show xs.length + 1 ≤ i + 1; omega), (sG.trans (Same.upd ht)).write hc⟩
            · have hbG := sG _ _ hb
              have hll : (natL ls).length = ls.length := by unfold natL; rw [List.length_map]
              have gk1 := Int.emod_nonneg (x / 7) (show ((natL ls).length : Int) ≠ 0 by omega)
              have gk2 := Int.emod_lt_of_pos (x / 7) (show (0 : Int) < ((natL ls).length : Int) by omega)
              obtain ⟨m, hm⟩ : ∃ m : Nat, x / 7 % ((natL ls).length : Int) = (m : Int) := ⟨_, (Int.toNat_of_nonneg gk1).symm⟩
              have hml : m < ls.length := by omega
              have hmk : (natL ls)[m]? = some (V.int ((ls[m] : Nat) : Int)) := by unfold natL; rw [List.getElem?_map, List.getElem?_eq_getElem hml]; rfl
              refine ⟨_, rfl, .inl ⟨rfl, _, SqL.of hs.here⟩, _, rfl, _, rfl, _, _, rfl, rfl, divG_of (by decide) (by decide), _, rfl, b, _, rfl, .inl (SqL.of hbG), _, _, rfl, rfl, (by omega), b, _, _, _, rfl, rfl, SqL.of hbG, (by rw [hm]; exact atI_nat hmk), (by show 2 ≤ sizeLine; decide), fun t ht => ?_⟩
              obtain ⟨p1, p2⟩ := hs.push (n' := i + 1) (zs := [.str "bit", .int ((ls[m] : Nat) : Int)]) (s := .bit ls[m]) ht (fun G' kk h3 => mk_tup2 h3 (is_str.mpr rfl) (is_int.mpr rfl)) (List.getElem_mem hml) (Nat.le_refl _)
              exact ⟨c, _, _, rfl, rfl, p1, small6 (by omega), _, _, _, _, rfl, p2, (by rw [List.length_append]; show xs.length + 1 ≤ i + 1; omega), (sG.trans (Same.upd ht)).write hc⟩
      · refine ⟨_, rfl, _, _, rfl, rfl, (by show (0 : Int) < 7; decide), _, _, rfl, rfl, _, rfl, ?_⟩
        refine ite2 (fun h3 => ?_) (fun h3 => iteF ?_)
        · refine ⟨_, rfl, c, _, rfl, .inl (SqL.of hs.here), _, _, rfl, rfl, _, rfl, ?_⟩
          refine ite2 (fun h4 => ?_) (fun h4 => ?_)
          · have h0 : 1 < xs.length := by have := of_decide_eq_true h4; omega
            obtain ⟨y, s1, hy1, hy2, hy3, hy4, hk⟩ := hs.pop (by omega)
            refine ⟨_, rfl, .inl ⟨rfl, _, SqL.of hs.here⟩, c, xs, y, rfl, rfl, hs.here, hy1, ?_⟩
            have hl1 := List.length_dropLast (xs := xs)
            have sG1 := sG.write (o := .lst xs.dropLast) hc
            generalize upd G c (.lst xs.dropLast) = G1 at hy2 hk sG1
            obtain ⟨z, s2, hz1, hz2, hz3, hz4, hk2⟩ := hk.pop (by omega)
            refine ⟨_, rfl, .inl ⟨rfl, _, SqL.of hk.here⟩, c, xs.dropLast, z, rfl, rfl, hk.here, hz1, ?_⟩
            have hl2 := List.length_dropLast (xs := xs.dropLast)
            have sG2 := sG1.write (o := .lst xs.dropLast.dropLast) hc
            have hy2' : Is (upd G1 c (.lst xs.dropLast.dropLast)) y s1.d := sm_keepU hy2 hk.here
            generalize upd G1 c (.lst xs.dropLast.dropLast) = G2 at hy2' hz2 hk2 sG2
            have gj1 := Int.emod_nonneg (x / 7) (show (3 : Int) ≠ 0 by decide)
            have gj2 := Int.emod_lt_of_pos (x / 7) (show (0 : Int) < 3 by decide)
            obtain ⟨j, hj⟩ : ∃ j : Nat, x / 7 % 3 = (j : Int) := ⟨_, (Int.toNat_of_nonneg gj1).symm⟩
            have hj3 : j < 3 := by omega
            refine ⟨_, rfl, .inl ⟨rfl, _, SqL.of hk2.here⟩, (by show 3 ≤ sizeLine; decide), fun l hl => ?_⟩
            have sl : Same G2 (upd G2 l (.lst [.str "and", .str "or", .str "xor"])) := Same.upd hl
            have wl : upd G2 l (.lst [.str "and", .str "or", .str "xor"]) l = some (.lst [.str "and", .str "or", .str "xor"]) := upd_same
            generalize upd G2 l (.lst [.str "and", .str "or", .str "xor"]) = G3 at sl wl
            refine ⟨_, rfl, _, _, rfl, rfl, divG_of (by decide) (by decide), _, _, rfl, rfl, (by show (0 : Int) < 3; decide), l, _, _, V.str (wd j), rfl, rfl, SqL.of wl, (by rw [hj]; exact words_at hj3), _, rfl, _, rfl, (by show 3 ≤ sizeLine; decide), fun t ht => ?_⟩
            obtain ⟨p1, p2⟩ := (hk2.keep sl).push (n' := i + 1) (zs := [.str (wd j), z, y]) (s := .two j s2 s1) ht (fun G' kk h3 => mk_tup3 h3 (is_str.mpr rfl) (sm_keepX kk (hz2.keep sl)) (sm_keepX kk (hy2'.keep sl))) ⟨hj3, hz3, hy3⟩ (by show _ + (nodes s2 + nodes s1 + 1) ≤ i + 1; omega)
            exact ⟨c, _, _, rfl, rfl, p1, small6 (by omega), _, _, _, _, rfl, p2, (by rw [List.length_append]; show xs.dropLast.dropLast.length + 1 ≤ i + 1; omega), ((sG2.trans sl).trans (Same.upd ht)).write hc⟩
          · refine ⟨_, rfl, _, _, rfl, rfl, (by show (0 : Int) < 28; decide), rfl, _, rfl, ?_⟩
            refine ite2 (fun h5 => ?_) (fun h5 => ?_)
            · refine ⟨_, rfl, .inl ⟨rfl, _, SqL.of hs.here⟩, _, rfl, _, _, rfl, rfl, divG_of (by decide) (by decide), _, _, rfl, rfl, (by show (0 : Int) < 2; decide), (by show 2 ≤ sizeLine; decide), fun t ht => ?_⟩
              obtain ⟨p1, p2⟩ := hs.push (n' := i + 1) (zs := [.str "fix", .int (x / 28 % 2)]) (s := .fix (x / 28 % 2)) ht (fun G' kk h3 => mk_tup2 h3 (is_str.mpr rfl) (is_int.mpr rfl)) (by show x / 28 % 2 = 0 ∨ x / 28 % 2 = 1; omega) (Nat.le_refl _)
              exact ⟨c, _, _, rfl, rfl, p1, small6 (by omega), _, _, _, _, rfl, p2, (by rw [List.length_append]; show xs.length + 1 ≤ i + 1; omega), (sG.trans (Same.upd ht)).write hc⟩
            · have hbG := sG _ _ hb
              have hll : (natL ls).length = ls.length := by unfold natL; rw [List.length_map]
              have gk1 := Int.emod_nonneg (x / 7) (show ((natL ls).length : Int) ≠ 0 by omega)
              have gk2 := Int.emod_lt_of_pos (x / 7) (show (0 : Int) < ((natL ls).length : Int) by omega)
              obtain ⟨m, hm⟩ : ∃ m : Nat, x / 7 % ((natL ls).length : Int) = (m : Int) := ⟨_, (Int.toNat_of_nonneg gk1).symm⟩
              have hml : m < ls.length := by omega
              have hmk : (natL ls)[m]? = some (V.int ((ls[m] : Nat) : Int)) := by unfold natL; rw [List.getElem?_map, List.getElem?_eq_getElem hml]; rfl
              refine ⟨_, rfl, .inl ⟨rfl, _, SqL.of hs.here⟩, _, rfl, _, rfl, _, _, rfl, rfl, divG_of (by decide) (by decide), _, rfl, b, _, rfl, .inl (SqL.of hbG), _, _, rfl, rfl, (by omega), b, _, _, _, rfl, rfl, SqL.of hbG, (by rw [hm]; exact atI_nat hmk), (by show 2 ≤ sizeLine; decide), fun t ht => ?_⟩
              obtain ⟨p1, p2⟩ := hs.push (n' := i + 1) (zs := [.str "bit", .int ((ls[m] : Nat) : Int)]) (s := .bit ls[m]) ht (fun G' kk h3 => mk_tup2 h3 (is_str.mpr rfl) (is_int.mpr rfl)) (List.getElem_mem hml) (Nat.le_refl _)
              exact ⟨c, _, _, rfl, rfl, p1, small6 (by omega), _, _, _, _, rfl, p2, (by rw [List.length_append]; show xs.length + 1 ≤ i + 1; omega), (sG.trans (Same.upd ht)).write hc⟩
        · refine ⟨_, rfl, _, _, rfl, rfl, (by show (0 : Int) < 28; decide), rfl, _, rfl, ?_⟩
          refine ite2 (fun h5 => ?_) (fun h5 => ?_)
          · refine ⟨_, rfl, .inl ⟨rfl, _, SqL.of hs.here⟩, _, rfl, _, _, rfl, rfl, divG_of (by decide) (by decide), _, _, rfl, rfl, (by show (0 : Int) < 2; decide), (by show 2 ≤ sizeLine; decide), fun t ht => ?_⟩
            obtain ⟨p1, p2⟩ := hs.push (n' := i + 1) (zs := [.str "fix", .int (x / 28 % 2)]) (s := .fix (x / 28 % 2)) ht (fun G' kk h3 => mk_tup2 h3 (is_str.mpr rfl) (is_int.mpr rfl)) (by show x / 28 % 2 = 0 ∨ x / 28 % 2 = 1; omega) (Nat.le_refl _)
            exact ⟨c, _, _, rfl, rfl, p1, small6 (by omega), _, _, _, _, rfl, p2, (by rw [List.length_append]; show xs.length + 1 ≤ i + 1; omega), (sG.trans (Same.upd ht)).write hc⟩
          · have hbG := sG _ _ hb
            have hll : (natL ls).length = ls.length := by unfold natL; rw [List.length_map]
            have gk1 := Int.emod_nonneg (x / 7) (show ((natL ls).length : Int) ≠ 0 by omega)
            have gk2 := Int.emod_lt_of_pos (x / 7) (show (0 : Int) < ((natL ls).length : Int) by omega)
            obtain ⟨m, hm⟩ : ∃ m : Nat, x / 7 % ((natL ls).length : Int) = (m : Int) := ⟨_, (Int.toNat_of_nonneg gk1).symm⟩
            have hml : m < ls.length := by omega
            have hmk : (natL ls)[m]? = some (V.int ((ls[m] : Nat) : Int)) := by unfold natL; rw [List.getElem?_map, List.getElem?_eq_getElem hml]; rfl
            refine ⟨_, rfl, .inl ⟨rfl, _, SqL.of hs.here⟩, _, rfl, _, rfl, _, _, rfl, rfl, divG_of (by decide) (by decide), _, rfl, b, _, rfl, .inl (SqL.of hbG), _, _, rfl, rfl, (by omega), b, _, _, _, rfl, rfl, SqL.of hbG, (by rw [hm]; exact atI_nat hmk), (by show 2 ≤ sizeLine; decide), fun t ht => ?_⟩
            obtain ⟨p1, p2⟩ := hs.push (n' := i + 1) (zs := [.str "bit", .int ((ls[m] : Nat) : Int)]) (s := .bit ls[m]) ht (fun G' kk h3 => mk_tup2 h3 (is_str.mpr rfl) (is_int.mpr rfl)) (List.getElem_mem hml) (Nat.le_refl _)
            exact ⟨c, _, _, rfl, rfl, p1, small6 (by omega), _, _, _, _, rfl, p2, (by rw [List.length_append]; show xs.length + 1 ≤ i + 1; omega), (sG.trans (Same.upd ht)).write hc⟩
    · rintro σ G ⟨xs, v3, v4, v5, rfl, hs, hxl, sG⟩
      rw [List.length_map] at hs hxl
      refine ⟨fun m σ G => ∃ (xs : List V) (v4 v5 : Option V), σ = [some (.ref a), some (.ref b), some (.ref c), v3, v4, v5] ∧ xs.length = m ∧ (∃ n, StW ls n G c xs ∧ n + xs.length ≤ 12) ∧ Same H G, ⟨_, xs, v4, v5, rfl, rfl, ⟨_, hs, by omega⟩, sG⟩, ?_⟩
      rintro m σ G ⟨xs, v4, v5, rfl, hm, ⟨n, hs, hn⟩, sG⟩
      refine ⟨_, rfl, c, _, rfl, .inl (SqL.of hs.here), _, _, rfl, rfl, _, rfl, ?_⟩
      refine ite2 (fun h4 => ?_) (fun h4 => ?_)
      · have h0 : 1 < xs.length := by have := of_decide_eq_true h4; omega
        refine ⟨fun σ' G' => ∃ (xs' : List V) (v4 v5 : Option V), σ' = [some (.ref a), some (.ref b), some (.ref c), v3, v4, v5] ∧ xs'.length + 1 = m ∧ (∃ n, StW ls n G' c xs' ∧ n + xs'.length ≤ 12) ∧ Same H G', fun σ' G' ⟨xs', v4', v5', z1, z2, z3, z4⟩ => ⟨xs'.length, by omega, xs', v4', v5', z1, rfl, z3, z4⟩, ?_⟩
        obtain ⟨y, s1, hy1, hy2, hy3, hy4, hk⟩ := hs.pop (by omega)
        refine ⟨_, rfl, .inl ⟨rfl, _, SqL.of hs.here⟩, c, xs, y, rfl, rfl, hs.here, hy1, ?_⟩
        have hl1 := List.length_dropLast (xs := xs)
        have sG1 := sG.write (o := .lst xs.dropLast) hc
        generalize upd G c (.lst xs.dropLast) = G1 at hy2 hk sG1
        obtain ⟨z, s2, hz1, hz2, hz3, hz4, hk2⟩ := hk.pop (by omega)
        refine ⟨_, rfl, .inl ⟨rfl, _, SqL.of hk.here⟩, c, xs.dropLast, z, rfl, rfl, hk.here, hz1, ?_⟩
        have hl2 := List.length_dropLast (xs := xs.dropLast)
        have sG2 := sG1.write (o := .lst xs.dropLast.dropLast) hc
        have hy2' : Is (upd G1 c (.lst xs.dropLast.dropLast)) y s1.d := sm_keepU hy2 hk.here
        generalize upd G1 c (.lst xs.dropLast.dropLast) = G2 at hy2' hz2 hk2 sG2
        refine ⟨_, rfl, .inl ⟨rfl, _, SqL.of hk2.here⟩, (by show 3 ≤ sizeLine; decide), fun l hl => ?_⟩
        have sl : Same G2 (upd G2 l (.lst [.str "and", .str "or", .str "xor"])) := Same.upd hl
        have wl : upd G2 l (.lst [.str "and", .str "or", .str "xor"]) l = some (.lst [.str "and", .str "or", .str "xor"]) := upd_same
        generalize upd G2 l (.lst [.str "and", .str "or", .str "xor"]) = G3 at sl wl
        have hc3 := (hk2.keep sl).here
        have ej : ((xs.dropLast.dropLast.length : Nat) : Int) % 3 = ((xs.dropLast.dropLast.length % 3 : Nat) : Int) := by norm_cast
        have hj3 := Nat.mod_lt xs.dropLast.dropLast.length (show 0 < 3 by decide)
        generalize hjj : xs.dropLast.dropLast.length % 3 = j at ej hj3
        refine ⟨_, rfl, c, _, rfl, .inl (SqL.of hc3), _, _, rfl, rfl, (by show (0 : Int) < 3; decide), l, _, _, V.str (wd j), rfl, rfl, SqL.of wl, (by rw [ej]; exact words_at hj3), _, rfl, _, rfl, (by show 3 ≤ sizeLine; decide), fun t ht => ?_⟩
        obtain ⟨p1, p2⟩ := (hk2.keep sl).push (n' := n + 1) (zs := [.str (wd j), z, y]) (s := .two j s2 s1) ht (fun G' kk h3 => mk_tup3 h3 (is_str.mpr rfl) (sm_keepX kk (hz2.keep sl)) (sm_keepX kk (hy2'.keep sl))) ⟨hj3, hz3, hy3⟩ (by show _ + (nodes s2 + nodes s1 + 1) ≤ n + 1; omega)
        have hlen : (xs.dropLast.dropLast ++ [V.ref t]).length = xs.length - 1 := by rw [List.length_append]; show xs.dropLast.dropLast.length + 1 = _; omega
        exact ⟨c, _, _, rfl, rfl, p1, small6 (by omega), _, _, _, rfl, by omega, ⟨n + 1, p2, by omega⟩, ((sG2.trans sl).trans (Same.upd ht)).write hc⟩
      · have h1 : ¬ 1 < xs.length := fun z => h4 (decide_eq_true (by omega))
        refine ⟨_, rfl, c, _, rfl, .inl (SqL.of hs.here), rfl, _, rfl, ?_⟩
        refine ite2 (fun h5 => ?_) (fun h5 => ?_)
        · refine ⟨(by show 2 ≤ sizeLine; decide), fun t ht => ?_⟩
          exact q (.ref t) (.fix 1) _ (mk_tup2 upd_same (is_str.mpr rfl) (is_int.mpr rfl)) (.inr rfl) (by decide) (sG.trans (Same.upd ht))
        · have h6 : 0 < xs.length := by
            rcases Nat.eq_zero_or_pos xs.length with z | z
            · exact absurd (decide_eq_true (by rw [z]; rfl)) h5
            · exact z
          obtain ⟨h7, ss, h8, h9⟩ := id hs
          have h10 : xs.length = 1 := by omega
          obtain ⟨x0, rfl⟩ := List.length_eq_one_iff.mp h10
          cases h8 with
          | @cons _ s1 _ ss' r r' =>
            cases r'
            have h11 : nodes s1 + 0 ≤ n := h9
            exact ⟨_, rfl, c, _, _, x0, rfl, rfl, SqL.of hs.here, rfl, q _ s1 G r.1 r.2 (by simp at hn; omega) sG⟩


theorem sc_law_bracketed : FnScope ["_law_statement_here"] ["_law_statement_here"] (defScope s_law_bracketed) := ⟨rfl, rfl, rfl, by decide +kernel, rfl, by decide +kernel, by decide +kernel⟩
theorem sc_law_text : FnScope ["_law_statement_here", "_law_one"] ["_law_statement_here"] (defScope s_law_text) := ⟨rfl, rfl, rfl, by decide +kernel, rfl, by decide +kernel, by decide +kernel⟩
theorem okr_law_bracketed (T : Txt K mg) (d : Nat) : FnOk P w K mg base CX0 (1 + d) T.a_law_bracketed T.fd_law_bracketed ["_law_statement_here"] ((spShP K) d) ∧ FnOk P w K mg base CX0 (1 + d) T.a_law_text T.fd_law_text ["_law_statement_here"] ((spSh K) d) := by
  induction d with
  | zero => exact ⟨T.d_law_bracketed.F.ok sc_law_bracketed (fun vs H Q E h => by obtain ⟨v, s0, rfl, hI, hok, hd, hlen, q⟩ := h; exact absurd hd (Nat.not_lt_zero _)) (fun cdv A outer s H vs Q E hr h => by obtain ⟨v, s0, rfl, hI, hok, hd, hlen, q⟩ := h; exact absurd hd (Nat.not_lt_zero _)), T.d_law_text.F.ok sc_law_text (fun vs H Q E h => by obtain ⟨v, s0, rfl, hI, hok, hd, hlen, q⟩ := h; exact absurd hd (Nat.not_lt_zero _)) (fun cdv A outer s H vs Q E hr h => by obtain ⟨v, s0, rfl, hI, hok, hd, hlen, q⟩ := h; exact absurd hd (Nat.not_lt_zero _))⟩
  | succ d ih =>
  refine ⟨?_, ?_⟩
  · refine T.d_law_bracketed.F.ok (k := 1 + d) sc_law_bracketed (fun vs H Q E h => ?_) (fun cdv A outer s H vs Q E hr h => ?_)
    · obtain ⟨v, s0, rfl, hI, hok, hd, hlen, q⟩ := h; rfl
    · obtain ⟨v, s0, rfl, hI, hok, hd, hlen, q⟩ := h
      have hu := hu_of hr
      refine ⟨_, (pss_cons (ps_if (pt_cmpR op_in_seq (pe_ix ix_tup (pv 0) pe_int (fun _ _ => rfl)) (pe_lst (pa_cons pe_str (pa_cons pe_str (pa_cons pe_str pa_nil)))) rfl) (pss_one (ps_ret (pe_op op_add_str (pe_op op_add_str pe_str (pe_call ih.2 hr (by rfl) T.d_law_text.m T.d_law_text.F.kp T.d_law_text.b .nil pass0 (pa_cons (pv 0) pa_nil))) pe_str))) pss_nil)
      (pss_one (ps_ret (pe_call ih.2 hr (by rfl) T.d_law_text.m T.d_law_text.F.kp T.d_law_text.b .nil pass0 (pa_cons (pv 0) pa_nil))))), ?_⟩
      cases s0 with
      | bit k =>
        obtain ⟨p, rfl, hp⟩ := sm_bit hI
        have e : partS (.bit k) = txtS (.bit k) := rfl
        rw [e] at q
        refine ⟨_, rfl, p, _, _, _, rfl, rfl, SqT.of hp, rfl, (by show 3 ≤ sizeLine; decide), fun l hl => ?_⟩
        have z1 : Same H (upd H l (.lst [.str "and", .str "or", .str "xor"])) := Same.upd hl
        refine ⟨l, _, rfl, .inl (SqL.of upd_same), rfl, rfl, _, rfl, iteN (by decide) ?_⟩
        exact ⟨_, rfl, .ref p, (.bit k), rfl, hI.keep z1, hok, by omega, hlen, fun H1 k1 => q H1 (z1.trans k1)⟩
      | fix c =>
        obtain ⟨p, rfl, hp⟩ := sm_fix hI
        have e : partS (.fix c) = txtS (.fix c) := rfl
        rw [e] at q
        refine ⟨_, rfl, p, _, _, _, rfl, rfl, SqT.of hp, rfl, (by show 3 ≤ sizeLine; decide), fun l hl => ?_⟩
        have z1 : Same H (upd H l (.lst [.str "and", .str "or", .str "xor"])) := Same.upd hl
        refine ⟨l, _, rfl, .inl (SqL.of upd_same), rfl, rfl, _, rfl, iteN (by decide) ?_⟩
        exact ⟨_, rfl, .ref p, (.fix c), rfl, hI.keep z1, hok, by omega, hlen, fun H1 k1 => q H1 (z1.trans k1)⟩
      | no s1 =>
        obtain ⟨p, x, rfl, hp, hx⟩ := sm_no hI
        have e : partS (.no s1) = txtS (.no s1) := rfl
        rw [e] at q
        refine ⟨_, rfl, p, _, _, _, rfl, rfl, SqT.of hp, rfl, (by show 3 ≤ sizeLine; decide), fun l hl => ?_⟩
        have z1 : Same H (upd H l (.lst [.str "and", .str "or", .str "xor"])) := Same.upd hl
        refine ⟨l, _, rfl, .inl (SqL.of upd_same), rfl, rfl, _, rfl, iteN (by decide) ?_⟩
        exact ⟨_, rfl, .ref p, (.no s1), rfl, hI.keep z1, hok, by omega, hlen, fun H1 k1 => q H1 (z1.trans k1)⟩
      | two w s1 s2 =>
        obtain ⟨p, x, y, rfl, hp, hx, hy⟩ := sm_two hI
        have e : partS (.two w s1 s2) = [40] ++ txtS (.two w s1 s2) ++ [41] := rfl
        rw [e] at q
        refine ⟨_, rfl, p, _, _, _, rfl, rfl, SqT.of hp, rfl, (by show 3 ≤ sizeLine; decide), fun l hl => ?_⟩
        have z1 : Same H (upd H l (.lst [.str "and", .str "or", .str "xor"])) := Same.upd hl
        refine ⟨l, _, rfl, .inl (SqL.of upd_same), rfl, rfl, _, rfl, iteY (wd_inV hok.1) ?_⟩
        refine ⟨_, rfl, .ref p, .two w s1 s2, rfl, hI.keep z1, hok, by omega, hlen, fun H1 k1 => ?_⟩
        refine ⟨_, _, rfl, rfl, (by rw [lit_op, S_len, S_len]; exact size4 (by simp; omega)), ?_⟩
        rw [lit_op, S_cat]
        refine ⟨_, _, rfl, rfl, (by rw [lit_cl, S_len, S_len]; exact size4 (by simp; omega)), ?_⟩
        rw [lit_cl, S_cat]
        exact q H1 (z1.trans k1)


  · refine T.d_law_text.F.ok (k := 1 + d) sc_law_text (fun vs H Q E h => ?_) (fun cdv A outer s H vs Q E hr h => ?_)
    · obtain ⟨v, s0, rfl, hI, hok, hd, hlen, q⟩ := h; rfl
    · obtain ⟨v, s0, rfl, hI, hok, hd, hlen, q⟩ := h
      have hu := hu_of hr
      refine ⟨_, (pss_cons (ps_if (pt_cmpR op_eq (pe_ix ix_tup (pv 0) pe_int (fun _ _ => rfl)) pe_str (nomark _)) (pss_one (ps_ret (pe_ix ix_str pe_str (pe_ix ix_tup (pv 0) pe_int (fun _ _ => rfl)) (fun _ _ => rfl)))) pss_nil)
      (pss_cons (ps_if (pt_cmpR op_eq (pe_ix ix_tup (pv 0) pe_int (fun _ _ => rfl)) pe_str (nomark _)) (pss_one (ps_ret (pe_callTy call_str_int rfl T.n_str PyProof.Rows.boot_str (pa_cons (pe_ix ix_tup (pv 0) pe_int (fun _ _ => rfl)) pa_nil)))) pss_nil)
      (pss_cons (ps_if (pt_cmpR op_eq (pe_ix ix_tup (pv 0) pe_int (fun _ _ => rfl)) pe_str (nomark _)) (pss_one (ps_ret (pe_op op_add_str pe_str (pe_call ih.1 hr (by rfl) T.d_law_bracketed.m T.d_law_bracketed.F.kp T.d_law_bracketed.b .nil pass0 (pa_cons (pe_ix ix_tup (pv 0) pe_int (fun _ _ => rfl)) pa_nil))))) pss_nil)
      (pss_cons (ps_set (i := 1) sc_law_text.nd rfl (Or.inl rfl) (pe_call ih.1 hr (by rfl) T.d_law_bracketed.m T.d_law_bracketed.F.kp T.d_law_bracketed.b .nil pass0 (pa_cons (pe_ix ix_tup (pv 0) pe_int (fun _ _ => rfl)) pa_nil)))
      (pss_one (ps_ret (pe_op op_add_str (pe_op op_add_str (pe_op op_add_str (pe_op op_add_str (pv 1) pe_str) (pe_ix ix_tup (pv 0) pe_int (fun _ _ => rfl))) pe_str) (pe_call ih.1 hr (by rfl) T.d_law_bracketed.m T.d_law_bracketed.F.kp T.d_law_bracketed.b .nil pass0 (pa_cons (pe_ix ix_tup (pv 0) pe_int (fun _ _ => rfl)) pa_nil))))))))), ?_⟩
      cases s0 with
      | bit k =>
        obtain ⟨p, rfl, hp⟩ := sm_bit hI
        have hk : k < 16 := hok
        refine ⟨_, rfl, p, _, _, _, rfl, rfl, SqT.of hp, rfl, rfl, _, rfl, iteY (by decide) ?_⟩
        refine ⟨_, rfl, p, _, _, _, rfl, rfl, SqT.of hp, rfl, _, _, _, rfl, rfl, (by rw [lit_let, S_len]; show 16 ≤ sizeLine; decide), (by rw [lit_let, S_list]; exact atI_nat (let_at k hk)), ?_⟩
        exact q H (Same.refl _)
      | fix c =>
        obtain ⟨p, rfl, hp⟩ := sm_fix hI
        have hc : c = 0 ∨ c = 1 := hok
        obtain ⟨n, rfl⟩ : ∃ n : Nat, c = (n : Int) := ⟨c.toNat, by omega⟩
        refine ⟨_, rfl, p, _, _, _, rfl, rfl, SqT.of hp, rfl, rfl, _, rfl, iteN (by decide) ?_⟩
        refine ⟨_, rfl, p, _, _, _, rfl, rfl, SqT.of hp, rfl, rfl, _, rfl, iteY (by decide) ?_⟩
        refine ⟨_, rfl, p, _, _, _, rfl, rfl, SqT.of hp, rfl, _, rfl, few_bits1 (by omega), ?_⟩
        rw [str_num]
        exact q H (Same.refl _)
      | no s1 =>
        obtain ⟨p, x, rfl, hp, hx⟩ := sm_no hI
        rw [txt_no] at hlen
        have hl1 : (partS s1).length ≤ 10000 := by rw [List.length_append] at hlen; omega
        have hl2 : (txtS s1).length ≤ 10000 := Nat.le_trans (txt_le s1) hl1
        refine ⟨_, rfl, p, _, _, _, rfl, rfl, SqT.of hp, rfl, rfl, _, rfl, iteN (by decide) ?_⟩
        refine ⟨_, rfl, p, _, _, _, rfl, rfl, SqT.of hp, rfl, rfl, _, rfl, iteN (by decide) ?_⟩
        refine ⟨_, rfl, p, _, _, _, rfl, rfl, SqT.of hp, rfl, rfl, _, rfl, iteY (by decide) ?_⟩
        refine ⟨_, rfl, p, _, _, _, rfl, rfl, SqT.of hp, rfl, x, s1, rfl, hx, hok, (by have : 2 * (s1.dp + 1) + 1 < d + 1 := hd; omega), hl2, fun H1 k1 => ?_⟩
        refine ⟨_, _, rfl, rfl, (by rw [lit_not, S_len, S_len]; exact size4 (by simp; omega)), ?_⟩
        rw [lit_not, S_cat, ← txt_no]
        exact q H1 k1
      | two w s1 s2 =>
        obtain ⟨p, x, y, rfl, hp, hx, hy⟩ := sm_two hI
        obtain ⟨hw3, ok1, ok2⟩ := hok
        obtain ⟨n1, n2, n3⟩ := wd_neV hw3
        rw [txt_two] at hlen
        have hwl := wd_le w
        have hl1 : (partS s1).length ≤ 10000 := by simp only [List.length_append] at hlen; omega
        have hl1' : (partS s2).length ≤ 10000 := by simp only [List.length_append] at hlen; omega
        have hl2 : (txtS s1).length ≤ 10000 := Nat.le_trans (txt_le s1) hl1
        have hl3 : (txtS s2).length ≤ 10000 := Nat.le_trans (txt_le s2) hl1'
        have hdd : 2 * (max s1.dp s2.dp + 1) + 1 < d + 1 := hd
        refine ⟨_, rfl, p, _, _, _, rfl, rfl, SqT.of hp, rfl, rfl, _, rfl, iteN (by rw [n1]; decide) ?_⟩
        refine ⟨_, rfl, p, _, _, _, rfl, rfl, SqT.of hp, rfl, rfl, _, rfl, iteN (by rw [n2]; decide) ?_⟩
        refine ⟨_, rfl, p, _, _, _, rfl, rfl, SqT.of hp, rfl, rfl, _, rfl, iteN (by rw [n3]; decide) ?_⟩
        refine ⟨_, rfl, p, _, _, _, rfl, rfl, SqT.of hp, rfl, x, s1, rfl, hx, ok1, by omega, hl2, fun H1 k1 => ?_⟩
        refine ⟨_, rfl, _, _, rfl, rfl, (by rw [lit_sp, S_len, S_len]; exact size4 (by simp; omega)), ?_⟩
        rw [lit_sp, S_cat]
        have hp1 := k1 _ _ hp
        rw [wd_S hw3] at hp1
        refine ⟨_, rfl, p, _, _, _, rfl, rfl, SqT.of hp1, rfl, _, _, rfl, rfl, (by rw [S_len, S_len]; exact size4 (by simp; omega)), ?_⟩
        rw [S_cat]
        refine ⟨_, _, rfl, rfl, (by rw [S_len, S_len]; exact size4 (by simp; omega)), ?_⟩
        rw [S_cat]
        refine ⟨_, rfl, p, _, _, _, rfl, rfl, SqT.of hp1, rfl, y, s2, rfl, hy.keep k1, ok2, by omega, hl3, fun H2 k2 => ?_⟩
        refine ⟨_, _, rfl, rfl, (by rw [S_len, S_len]; exact size4 (by simp; omega)), ?_⟩
        rw [S_cat, ← txt_two]
        exact q H2 (k1.trans k2)

theorem ok_law_text (T : Txt K mg) : FnOk P w K mg base CX0 101 T.a_law_text T.fd_law_text ["_law_statement_here"] ((spSh K) 100) := (okr_law_bracketed T 100).2
def spLetters (K : PySem.W.Frag) : Sp := fun vs H Q _ => ∃ (n : Int) (mo : Nat), vs = [.int n, .int (mo : Int)] ∧ mo ≤ 8 ∧
  ∀ (b : Addr) (ls : List Nat) (H' : Hp), H b = none → H' b = some (.lst (natL ls)) → ls.Nodup → (∀ x ∈ ls, x < 16) → ls.length = mo → Same H H' → Q (.ref b) H'
theorem sc_law_letters : FnScope ["_law_number", "_law_many", "_law_found", "_law_k", "_law_at_here"] ["_law_number", "_law_many"] (defScope s_law_letters) := ⟨rfl, rfl, rfl, by decide +kernel, rfl, by decide +kernel, by decide +kernel⟩
theorem ok_law_letters (T : Txt K mg) : FnOk P w K mg base CX0 1 T.a_law_letters T.fd_law_letters ["_law_number", "_law_many"] (spLetters K) := by
  refine T.d_law_letters.F.ok sc_law_letters (fun vs H Q E h => ?_) (fun cdv A outer s H vs Q E hr h => ?_)
  · obtain ⟨n, mo, rfl, hmo, q⟩ := h; rfl
  · obtain ⟨n, mo, rfl, hmo, q⟩ := h
    have hu := hu_of hr
    refine ⟨_, (pss_cons (ps_set (i := 2) sc_law_letters.nd rfl (Or.inl rfl) (pe_lst pa_nil))
      (pss_cons (ps_for PassesOwn.never rfl (pi_range1 rfl T.n_range (pa_cons (pv 1) pa_nil)) (pg_name (i := 3) sc_law_letters.nd rfl (Or.inl rfl))
        (pss_cons (ps_set (i := 4) sc_law_letters.nd rfl (Or.inl rfl) (pe_op op_mod (pe_op op_fdivG (pv 0) (pe_op op_add (pv 3) pe_int)) pe_int))
      (pss_cons (ps_while PassesOwn.never (pt_cmpR op_in_seq (pv 4) (pv 2) rfl) (pss_one (ps_set (i := 4) sc_law_letters.nd rfl (Or.inl rfl) (pe_op op_mod (pe_op op_add (pv 4) pe_int) pe_int))))
      (pss_one (ps_expr (pe_bm PySem.F.plainAttrs_list PySem.F.slot_list_append PySem.F.type_list_append mt_append (pv 2) (pa_cons (pv 4) pa_nil)))))))
      (pss_one (ps_ret (pv 2))))), ?_⟩
    refine ⟨Nat.zero_le _, fun c hc => ?_⟩
    have s0 : Same H (upd H c (.lst [])) := Same.upd hc
    refine ⟨_, rfl, (mo : Int), rfl, by omega, by omega, ?_⟩
    refine for_range (n := mo) (fun i σ H2 => ∃ (ls : List Nat) (v4 v5 : Option V), σ = [some (.int n), some (.int (mo : Int)), some (.ref c), v4, v5] ∧ H2 c = some (.lst (natL ls)) ∧ ls.length = i ∧ ls.Nodup ∧ (∀ x ∈ ls, x < 16) ∧ Same H H2)
      ⟨[], none, none, rfl, upd_same, rfl, List.nodup_nil, (fun x hx => by cases hx), s0⟩ ?_ ?_
    · rintro i σ H2 hi ⟨ls, v4, v5, rfl, h1, h2, h3, h4, h5⟩
      refine ⟨_, rfl, _, rfl, _, _, rfl, rfl, _, _, rfl, rfl, divG_of (by omega) (by omega), _, _, rfl, rfl, (by show (0 : Int) < 16; decide), ?_⟩
      have g1 := Int.emod_nonneg (n / (0 + (i : Int) + 1)) (show ((16 : Int)) ≠ 0 by omega)
      have g2 := Int.emod_lt_of_pos (n / (0 + (i : Int) + 1)) (show (0 : Int) < 16 by omega)
      obtain ⟨x0, hx0⟩ : ∃ x0 : Nat, n / (0 + (i : Int) + 1) % 16 = (x0 : Int) := ⟨_, (Int.toNat_of_nonneg g1).symm⟩
      rw [hx0] at g2
      dsimp only
      rw [hx0]
      obtain ⟨m0, hm0⟩ := free_five (ls := ls) (x := x0) (by omega)
      refine ⟨fun m σ H3 => ∃ x : Nat, σ = [some (.int n), some (.int (mo : Int)), some (.ref c), some (.int (0 + (i : Int))), some (.int (x : Int))] ∧ x < 16 ∧ (x + 5 * m) % 16 ∉ ls ∧ H3 = H2, ⟨m0, x0, rfl, by omega, hm0, rfl⟩, ?_⟩
      rintro m σ H3 ⟨x, rfl, hx, hm, rfl⟩
      refine ⟨_, rfl, _, rfl, c, _, rfl, .inl (SqL.of h1), rfl, flat_ints ls, _, rfl, ?_⟩
      show if (inV (.int (x : Int)) (natL ls)) = true then _ else _
      unfold natL
      rw [inV_mem]
      by_cases hin : x ∈ ls
      · refine iteY (by simpa using hin) ?_
        have hmp : m ≠ 0 := by
          intro z
          rw [z, Nat.mul_zero, Nat.add_zero, Nat.mod_eq_of_lt hx] at hm
          exact hm hin
        refine ⟨fun σ' H' => σ' = [some (.int n), some (.int (mo : Int)), some (.ref c), some (.int (0 + (i : Int))), some (.int (((x + 5) % 16 : Nat) : Int))] ∧ H' = H3, fun σ' H' ⟨e1, e2⟩ => ⟨m - 1, by omega, (x + 5) % 16, e1, Nat.mod_lt _ (by omega), ?_, e2⟩, ?_⟩
        · have e : ((x + 5) % 16 + 5 * (m - 1)) % 16 = (x + 5 * m) % 16 := by omega
          rw [e]; exact hm
        · refine ⟨_, rfl, _, _, rfl, rfl, _, _, rfl, rfl, (by show (0 : Int) < 16; decide), ?_, rfl⟩
          have e : ((((x + 5) % 16 : Nat)) : Int) = ((x : Int) + 5) % 16 := by norm_cast
          rw [e]; rfl
      · refine iteN (by simpa using hin) ?_
        refine ⟨_, rfl, .inl ⟨rfl, _, SqL.of h1⟩, _, rfl, c, _, _, rfl, rfl, h1, (by unfold natL; rw [List.length_map]; exact small6 (by omega)), ls ++ [x], _, _, rfl, (by rw [upd_same]; unfold natL; rw [List.map_append]; rfl), by simp [h2], ?_, ?_, h5.write hc⟩
        · rw [List.nodup_append]
          refine ⟨h3, by simp, fun a' ha' b' hb' z => ?_⟩
          have : b' = x := by simpa using hb'
          subst z this
          exact hin ha'
        · intro y hy
          rcases List.mem_append.mp hy with z | z
          · exact h4 y z
          · have : y = x := by simpa using z
            rw [this]; exact hx
    · rintro σ H2 ⟨ls, v4, v5, rfl, h1, h2, h3, h4, h5⟩
      exact ⟨_, rfl, q c ls H2 hc h1 h3 h4 h2 h5⟩

def spLoose (K : PySem.W.Frag) (d : Nat) : Sp := fun vs H Q _ => ∃ (v : V) (s : Sm) (n : Int), vs = [v, .int n] ∧ Is H v s.d ∧ s.ok (fun k => k < 16) ∧ 2 * s.dp + 1 < d ∧ nodes s ≤ 12 ∧ ∀ (m : List Nat) (H' : Hp), m.length ≤ 9 * nodes s → (n % 3 ≠ 0 → m.length + 2 ≤ 9 * nodes s) → (∀ c ∈ m, c < 128) → Same H H' → Q (.str (S m)) H'
def spLooseP (K : PySem.W.Frag) (d : Nat) : Sp := fun vs H Q _ => ∃ (v : V) (s : Sm) (n : Int), vs = [v, .int n] ∧ Is H v s.d ∧ s.ok (fun k => k < 16) ∧ 2 * s.dp + 2 < d ∧ nodes s ≤ 12 ∧ ∀ (m : List Nat) (H' : Hp), m.length ≤ 9 * nodes s → (∀ c ∈ m, c < 128) → Same H H' → Q (.str (S m)) H'
theorem mem_app3 {a b : List Nat} (h1 : ∀ c ∈ a, c < 128) (h2 : ∀ c ∈ b, c < 128) : ∀ c ∈ a ++ b, c < 128 := fun c hc => (List.mem_append.mp hc).elim (h1 c) (h2 c)
theorem sc_law_loose : FnScope ["_law_statement_here", "_law_number", "_law_text_here", "_law_one"] ["_law_statement_here", "_law_number"] (defScope s_law_loose) := ⟨rfl, rfl, rfl, by decide +kernel, rfl, by decide +kernel, by decide +kernel⟩
theorem sc_law_loose_part : FnScope ["_law_statement_here", "_law_number", "_law_text_here"] ["_law_statement_here", "_law_number"] (defScope s_law_loose_part) := ⟨rfl, rfl, rfl, by decide +kernel, rfl, by decide +kernel, by decide +kernel⟩
theorem okr_law_loose (T : Txt K mg) (d : Nat) : FnOk P w K mg base CX0 (102 + d) T.a_law_loose T.fd_law_loose ["_law_statement_here", "_law_number"] ((spLoose K) d) ∧ FnOk P w K mg base CX0 (102 + d) T.a_law_loose_part T.fd_law_loose_part ["_law_statement_here", "_law_number"] ((spLooseP K) d) := by
  induction d with
  | zero => exact ⟨T.d_law_loose.F.ok sc_law_loose (fun vs H Q E h => by obtain ⟨v, s0, n, rfl, hI, hok, hd, hlen, q⟩ := h; exact absurd hd (Nat.not_lt_zero _)) (fun cdv A outer s H vs Q E hr h => by obtain ⟨v, s0, n, rfl, hI, hok, hd, hlen, q⟩ := h; exact absurd hd (Nat.not_lt_zero _)), T.d_law_loose_part.F.ok sc_law_loose_part (fun vs H Q E h => by obtain ⟨v, s0, n, rfl, hI, hok, hd, hlen, q⟩ := h; exact absurd hd (Nat.not_lt_zero _)) (fun cdv A outer s H vs Q E hr h => by obtain ⟨v, s0, n, rfl, hI, hok, hd, hlen, q⟩ := h; exact absurd hd (Nat.not_lt_zero _))⟩
  | succ d ih =>
  refine ⟨?_, ?_⟩
  · refine T.d_law_loose.F.ok (k := 102 + d) sc_law_loose (fun vs H Q E h => ?_) (fun cdv A outer s H vs Q E hr h => ?_)
    · obtain ⟨v, s0, n, rfl, hI, hok, hd, hlen, q⟩ := h; rfl
    · obtain ⟨v, s0, n, rfl, hI, hok, hd, hlen, q⟩ := h
      have hu := hu_of hr
      refine ⟨_, (pss_cons (ps_cut (ps_if (PW.pt (pw_or (pt_cmpR op_eq (pe_ix ix_tup (pv 0) pe_int (fun _ _ => rfl)) pe_str (nomark _)) (pw_or1 (pt_cmpR op_eq (pe_ix ix_tup (pv 0) pe_int (fun _ _ => rfl)) pe_str (nomark _))))) (pss_one (ps_set (i := 2) sc_law_loose.nd rfl (Or.inl rfl) (pe_call (ok_law_text (P := P) (w := w) (base := base) T) (hr.mono (by omega)) (by rfl) T.d_law_text.m T.d_law_text.F.kp T.d_law_text.b .nil pass0 (pa_cons (pv 0) pa_nil)))) (pss_one (ps_if (pt_cmpR op_eq (pe_ix ix_tup (pv 0) pe_int (fun _ _ => rfl)) pe_str (nomark _)) (pss_one (ps_set (i := 2) sc_law_loose.nd rfl (Or.inl rfl) (pe_op op_add_str pe_str (pe_call ih.2 hr (by rfl) T.d_law_loose_part.m T.d_law_loose_part.F.kp T.d_law_loose_part.b .nil pass0 (pa_cons (pe_ix ix_tup (pv 0) pe_int (fun _ _ => rfl)) (pa_cons (pe_op op_fdivG (pv 1) pe_int) pa_nil)))))) (pss_cons (ps_set (i := 3) sc_law_loose.nd rfl (Or.inl rfl) (pe_call ih.2 hr (by rfl) T.d_law_loose_part.m T.d_law_loose_part.F.kp T.d_law_loose_part.b .nil pass0 (pa_cons (pe_ix ix_tup (pv 0) pe_int (fun _ _ => rfl)) (pa_cons (pe_op op_fdivG (pv 1) pe_int) pa_nil))))
      (pss_one (ps_set (i := 2) sc_law_loose.nd rfl (Or.inl rfl) (pe_op op_add_str (pe_op op_add_str (pe_op op_add_str (pe_op op_add_str (pv 3) pe_str) (pe_ix ix_tup (pv 0) pe_int (fun _ _ => rfl))) pe_str) (pe_call ih.2 hr (by rfl) T.d_law_loose_part.m T.d_law_loose_part.F.kp T.d_law_loose_part.b .nil pass0 (pa_cons (pe_ix ix_tup (pv 0) pe_int (fun _ _ => rfl)) (pa_cons (pe_op op_fdivG (pv 1) pe_int) pa_nil)))))))))))
      (pss_cons (ps_if (pt_cmpR op_eq (pe_op op_mod (pv 1) pe_int) pe_int (nomark _)) (pss_one (ps_ret (pe_op op_add_str (pe_op op_add_str pe_str (pv 2)) pe_str))) pss_nil)
      (pss_one (ps_ret (pv 2))))), ?_⟩
      refine ⟨fun σ' G' => ∃ (m : List Nat) (v3 : Option V), σ' = [some v, some (.int n), some (.str (S m)), v3] ∧ m.length + 2 ≤ 9 * nodes s0 ∧ (∀ c ∈ m, c < 128) ∧ Same H G', ?_, ?_⟩
      rotate_left
      · rintro σ' G' ⟨m, v3, rfl, m1, m2, s1⟩
        refine ⟨_, rfl, _, _, rfl, rfl, (by show (0 : Int) < 3; decide), rfl, _, rfl, ?_⟩
        refine ite2 (fun _ => ?_) (fun z => ?_)
        · refine ⟨_, rfl, _, _, rfl, rfl, (by rw [lit_op, S_len, S_len]; exact size4 (by simp; omega)), ?_⟩
          rw [lit_op, S_cat]
          refine ⟨_, _, rfl, rfl, (by rw [lit_cl, S_len, S_len]; exact size4 (by simp; omega)), ?_⟩
          rw [lit_cl, S_cat]
          refine q _ G' (by simp; omega) (fun y => absurd (decide_eq_true (by rename_i z; exact of_decide_eq_true z)) (fun _ => y (by rename_i z; have z' := of_decide_eq_true z; injection z'))) (mem_app3 (mem_app3 (by decide) m2) (by decide)) s1
        · exact ⟨_, rfl, q m G' (by omega) (fun _ => m1) m2 s1⟩
      cases s0 with
      | bit k =>
        obtain ⟨p, rfl, hp⟩ := sm_bit hI
        refine ⟨_, rfl, p, _, _, _, rfl, rfl, SqT.of hp, rfl, rfl, _, rfl, iteY (by decide) ?_⟩
        refine iteT ?_
        refine ⟨_, rfl, .ref p, .bit k, rfl, hI, hok, by show 2 * 0 + 1 < 100; decide, by show 1 ≤ 10000; decide, fun H1 k1 => ?_⟩
        exact ⟨_, _, rfl, by show 1 + 2 ≤ 9 * 1; decide, (txt_128 hok).1, k1⟩
      | fix c =>
        obtain ⟨p, rfl, hp⟩ := sm_fix hI
        have hb : c = 0 ∨ c = 1 := hok
        have hl1 : (txtS (.fix c)).length = 1 := by rcases hb with rfl | rfl <;> rfl
        refine ⟨_, rfl, p, _, _, _, rfl, rfl, SqT.of hp, rfl, rfl, _, rfl, iteN (by decide) ?_⟩
        refine ⟨_, rfl, p, _, _, _, rfl, rfl, SqT.of hp, rfl, rfl, _, rfl, ?_⟩
        rw [decide_eq_true rfl]
        refine iteT ?_
        refine ⟨_, rfl, .ref p, .fix c, rfl, hI, hok, by show 2 * 0 + 1 < 100; decide, by omega, fun H1 k1 => ?_⟩
        exact ⟨_, _, rfl, by rw [hl1]; show 1 + 2 ≤ 9 * 1; decide, (txt_128 hok).1, k1⟩
      | no s1 =>
        obtain ⟨p, x, rfl, hp, hx⟩ := sm_no hI
        have hd' : 2 * (s1.dp + 1) + 1 < d + 1 := hd
        have hn' : nodes s1 + 1 ≤ 12 := hlen
        refine ⟨_, rfl, p, _, _, _, rfl, rfl, SqT.of hp, rfl, rfl, _, rfl, iteN (by decide) ?_⟩
        refine ⟨_, rfl, p, _, _, _, rfl, rfl, SqT.of hp, rfl, rfl, _, rfl, iteN (by decide) ?_⟩
        refine ⟨_, rfl, p, _, _, _, rfl, rfl, SqT.of hp, rfl, rfl, _, rfl, iteY (by decide) ?_⟩
        refine ⟨_, rfl, p, _, _, _, rfl, rfl, SqT.of hp, rfl, _, rfl, _, _, rfl, rfl, divG_of (by decide) (by decide), x, s1, n / 2, rfl, hx, hok, by omega, by omega, fun m H1 m1 m2 k1 => ?_⟩
        refine ⟨_, _, rfl, rfl, (by rw [lit_not, S_len, S_len]; exact size4 (by simp; omega)), ?_⟩
        rw [lit_not, S_cat]
        exact ⟨_, _, rfl, by rw [List.length_append]; show 4 + m.length + 2 ≤ 9 * (nodes s1 + 1); omega, mem_app3 (by decide) m2, k1⟩
      | two w s1 s2 =>
        obtain ⟨p, x, y, rfl, hp, hx, hy⟩ := sm_two hI
        obtain ⟨hw3, ok1, ok2⟩ := hok
        obtain ⟨n1, n2, n3⟩ := wd_neV hw3
        have hwl := wd_le w
        have hd' : 2 * (max s1.dp s2.dp + 1) + 1 < d + 1 := hd
        have hn' : nodes s1 + nodes s2 + 1 ≤ 12 := hlen
        have hw128 : ∀ c ∈ wdL w, c < 128 := by
          rcases (show w = 0 ∨ w = 1 ∨ w = 2 by omega) with rfl | rfl | rfl <;> decide
        refine ⟨_, rfl, p, _, _, _, rfl, rfl, SqT.of hp, rfl, rfl, _, rfl, iteN (by rw [n1]; decide) ?_⟩
        refine ⟨_, rfl, p, _, _, _, rfl, rfl, SqT.of hp, rfl, rfl, _, rfl, iteN (by rw [n2]; decide) ?_⟩
        refine ⟨_, rfl, p, _, _, _, rfl, rfl, SqT.of hp, rfl, rfl, _, rfl, iteN (by rw [n3]; decide) ?_⟩
        refine ⟨_, rfl, p, _, _, _, rfl, rfl, SqT.of hp, rfl, _, rfl, _, _, rfl, rfl, divG_of (by decide) (by decide), x, s1, n / 2, rfl, hx, ok1, by omega, by omega, fun m H1 m1 m2 k1 => ?_⟩
        have hp1 := k1 _ _ hp
        rw [wd_S hw3] at hp1
        refine ⟨_, rfl, _, _, rfl, rfl, (by rw [lit_sp, S_len, S_len]; exact size4 (by simp; omega)), ?_⟩
        rw [lit_sp, S_cat]
        refine ⟨_, rfl, p, _, _, _, rfl, rfl, SqT.of hp1, rfl, _, _, rfl, rfl, (by rw [S_len, S_len]; exact size4 (by simp; omega)), ?_⟩
        rw [S_cat]
        refine ⟨_, _, rfl, rfl, (by rw [S_len, S_len]; exact size4 (by simp; omega)), ?_⟩
        rw [S_cat]
        refine ⟨_, rfl, p, _, _, _, rfl, rfl, SqT.of hp1, rfl, _, rfl, _, _, rfl, rfl, divG_of (by decide) (by decide), y, s2, n / 3, rfl, hy.keep k1, ok2, by omega, by omega, fun m' H2 m1' m2' k2 => ?_⟩
        refine ⟨_, _, rfl, rfl, (by rw [S_len, S_len]; exact size4 (by simp; omega)), ?_⟩
        rw [S_cat]
        exact ⟨_, _, rfl, by simp only [List.length_append, List.length_cons, List.length_nil]; show _ ≤ 9 * (nodes s1 + nodes s2 + 1); omega, mem_app3 (mem_app3 (mem_app3 (mem_app3 m2 (by decide)) hw128) (by decide)) m2', k1.trans k2⟩

  · refine T.d_law_loose_part.F.ok (k := 102 + d) sc_law_loose_part (fun vs H Q E h => ?_) (fun cdv A outer s H vs Q E hr h => ?_)
    · obtain ⟨v, s0, n, rfl, hI, hok, hd, hlen, q⟩ := h; rfl
    · obtain ⟨v, s0, n, rfl, hI, hok, hd, hlen, q⟩ := h
      have hu := hu_of hr
      refine ⟨_, (pss_cons (ps_set (i := 2) sc_law_loose_part.nd rfl (Or.inl rfl) (pe_call ih.1 hr (by rfl) T.d_law_loose.m T.d_law_loose.F.kp T.d_law_loose.b .nil pass0 (pa_cons (pv 0) (pa_cons (pv 1) pa_nil))))
      (pss_cons (ps_if (PW.pt (pw_and (pt_cmpR op_in_seq (pe_ix ix_tup (pv 0) pe_int (fun _ _ => rfl)) (pe_lst (pa_cons pe_str (pa_cons pe_str (pa_cons pe_str pa_nil)))) rfl) (pw_and1 (pt_cmpR op_gt (pe_op op_mod (pv 1) pe_int) pe_int (nomark _))))) (pss_one (ps_ret (pe_op op_add_str (pe_op op_add_str pe_str (pv 2)) pe_str))) pss_nil)
      (pss_one (ps_ret (pv 2))))), ?_⟩
      refine ⟨_, rfl, _, rfl, v, s0, n, rfl, hI, hok, by omega, hlen, fun m H1 m1 m2 m3 s1' => ?_⟩
      have hI1 := hI.keep s1'
      have fin : ∀ G : Hp, Same H1 G → (n % 3 ≠ 0 → m.length + 2 ≤ 9 * nodes s0) → Q (.str (S m)) G := fun G h _ => q m G m1 m3 (s1'.trans h)
      cases s0 with
      | bit k =>
        obtain ⟨p, rfl, hp⟩ := sm_bit hI1
        refine ⟨_, rfl, p, _, _, _, rfl, rfl, SqT.of hp, rfl, (by show 3 ≤ sizeLine; decide), fun l hl => ?_⟩
        have z1 : Same H1 (upd H1 l (.lst [.str "and", .str "or", .str "xor"])) := Same.upd hl
        refine ⟨l, _, rfl, .inl (SqL.of upd_same), rfl, rfl, _, rfl, iteN (by decide) ?_⟩
        refine iteF ?_
        exact ⟨_, rfl, fin _ z1 m2⟩
      | fix c =>
        obtain ⟨p, rfl, hp⟩ := sm_fix hI1
        refine ⟨_, rfl, p, _, _, _, rfl, rfl, SqT.of hp, rfl, (by show 3 ≤ sizeLine; decide), fun l hl => ?_⟩
        have z1 : Same H1 (upd H1 l (.lst [.str "and", .str "or", .str "xor"])) := Same.upd hl
        refine ⟨l, _, rfl, .inl (SqL.of upd_same), rfl, rfl, _, rfl, iteN (by decide) ?_⟩
        refine iteF ?_
        exact ⟨_, rfl, fin _ z1 m2⟩
      | no s1 =>
        obtain ⟨p, x, rfl, hp, hx⟩ := sm_no hI1
        refine ⟨_, rfl, p, _, _, _, rfl, rfl, SqT.of hp, rfl, (by show 3 ≤ sizeLine; decide), fun l hl => ?_⟩
        have z1 : Same H1 (upd H1 l (.lst [.str "and", .str "or", .str "xor"])) := Same.upd hl
        refine ⟨l, _, rfl, .inl (SqL.of upd_same), rfl, rfl, _, rfl, iteN (by decide) ?_⟩
        refine iteF ?_
        exact ⟨_, rfl, fin _ z1 m2⟩
      | two w s1 s2 =>
        obtain ⟨p, x, y, rfl, hp, hx, hy⟩ := sm_two hI1
        have hn' : nodes s1 + nodes s2 + 1 ≤ 12 := hlen
        have hne : nodes (.two w s1 s2) = nodes s1 + nodes s2 + 1 := rfl
        refine ⟨_, rfl, p, _, _, _, rfl, rfl, SqT.of hp, rfl, (by show 3 ≤ sizeLine; decide), fun l hl => ?_⟩
        have z1 : Same H1 (upd H1 l (.lst [.str "and", .str "or", .str "xor"])) := Same.upd hl
        refine ⟨l, _, rfl, .inl (SqL.of upd_same), rfl, rfl, _, rfl, iteY (wd_inV hok.1) ?_⟩
        refine ⟨_, rfl, _, _, rfl, rfl, (by show (0 : Int) < 3; decide), _, _, rfl, rfl, _, rfl, ?_⟩
        refine ite2 (fun z => ?_) (fun z => ?_)
        · have z' := of_decide_eq_true z
          have m2' := m2 (by omega)
          refine ⟨_, rfl, _, _, rfl, rfl, (by rw [lit_op, S_len, S_len]; exact size4 (by simp; omega)), ?_⟩
          rw [lit_op, S_cat]
          refine ⟨_, _, rfl, rfl, (by rw [lit_cl, S_len, S_len]; exact size4 (by simp; omega)), ?_⟩
          rw [lit_cl, S_cat]
          exact q _ _ (by simp; omega) (mem_app3 (mem_app3 (by decide) m3) (by decide)) (s1'.trans z1)
        · exact ⟨_, rfl, fin _ z1 m2⟩

theorem ok_law_loose (T : Txt K mg) : FnOk P w K mg base CX0 142 T.a_law_loose T.fd_law_loose ["_law_statement_here", "_law_number"] ((spLoose K) 40) := (okr_law_loose T 40).1
def spPassed (K : PySem.W.Frag) : Sp := fun vs H Q _ => ∃ (l m : List Nat) (a : Nat), vs = [.str (S l), .int (a : Int), .str (S m)] ∧ l.length ≤ 1000 ∧ m.length ≤ 100 ∧ Q (.bl (decide (m <+: l.drop a))) H
theorem sc_law_passed : FnScope ["_law_text_here", "_law_at_here", "_law_some"] ["_law_text_here", "_law_at_here", "_law_some"] (defScope s_law_passed) := ⟨rfl, rfl, rfl, by decide +kernel, rfl, by decide +kernel, by decide +kernel⟩
theorem ok_law_passed (T : Txt K mg) : FnOk P w K mg base CX0 1 T.a_law_passed T.fd_law_passed ["_law_text_here", "_law_at_here", "_law_some"] (spPassed K) := by
  refine T.d_law_passed.F.ok sc_law_passed (fun vs H Q E h => ?_) (fun cdv A outer s H vs Q E hr h => ?_)
  · obtain ⟨l, m, a, rfl, hl, hm, q⟩ := h; rfl
  · obtain ⟨l, m, a, rfl, hl, hm, q⟩ := h
    have hu := hu_of hr
    refine ⟨_, (pss_one (ps_ret (pe_cmpR op_eq (pe_slice sl_str (pv 0) (po_some (pv 1)) (po_some (pe_op op_add (pv 1) (pe_callB call_len_str (by rfl) T.n_len PySem.boot_len (pa_cons (pv 2) pa_nil))))) (pv 2) (nomark _)))), ?_⟩
    have hlz : (S l).length ≤ sizeLine := by rw [S_len]; exact Nat.le_trans hl (by decide)
    have hmz : (S m).length ≤ sizeLine := by rw [S_len]; exact Nat.le_trans hm (by decide)
    refine ⟨_, rfl, _, rfl, _, rfl, _, rfl, _, rfl, _, rfl, hmz, _, _, rfl, rfl, _, rfl, _, rfl, hlz, _, rfl, rfl, ?_⟩
    rw [S_len, passed_S]
    exact q

def spPart (K : PySem.W.Frag) (d : Nat) : Sp := fun vs H Q _ => ∃ (l : List Nat) (a : Nat), vs = [.str (S l), .int (a : Int)] ∧ a ≤ l.length ∧ (∀ c ∈ l, c < 128) ∧ l.length ≤ 110 ∧ 2 * (l.length - a) + 2 < d ∧ ∀ (o : Option Sm) (v : V) (p : Addr) (e : Nat) (H' : Hp), Rd false (l.drop a) o (l.drop e) → e ≤ l.length → PtA H' v o → H' p = some (.tup [v, .int (e : Int)]) → Same H H' → Q (.ref p) H'
def spAll (K : PySem.W.Frag) (d : Nat) : Sp := fun vs H Q _ => ∃ (l : List Nat) (a : Nat), vs = [.str (S l), .int (a : Int)] ∧ a ≤ l.length ∧ (∀ c ∈ l, c < 128) ∧ l.length ≤ 110 ∧ 2 * (l.length - a) + 3 < d ∧ ∀ (o : Option Sm) (v : V) (p : Addr) (e : Nat) (H' : Hp), Rd true (l.drop a) o (l.drop e) → e ≤ l.length → PtA H' v o → H' p = some (.tup [v, .int (e : Int)]) → Same H H' → Q (.ref p) H'
theorem drop_pre {l m : List Nat} {a : Nat} (h : m <+: l.drop a) (hm : m ≠ []) : a + m.length ≤ l.length ∧ l.drop a = m ++ l.drop (a + m.length) := by
  obtain ⟨r, hr⟩ := h
  have h1 := congrArg List.length hr
  rw [List.length_append, List.length_drop] at h1
  have h2 := List.length_pos_iff.mpr hm
  refine ⟨by omega, ?_⟩
  rw [← List.drop_drop, ← hr, List.drop_left]
theorem ptA_keep {H H' : Hp} {v : V} {o : Option Sm} (h : PtA H v o) (s : Same H H') : PtA H' v o := by
  cases o with
  | none => exact h
  | some t => exact (show Is H v t.d from h).keep s
theorem ptA_non {H : Hp} {v : V} {s : Sm} (h : PtA H v (some s)) : decide (v = .non) = false := decide_eq_false (sm_ref h)
theorem sc_law_part : FnScope ["_law_text_here", "_law_at_here", "_law_found", "_law_end", "_law_sign"] ["_law_text_here", "_law_at_here"] (defScope s_law_part) := ⟨rfl, rfl, rfl, by decide +kernel, rfl, by decide +kernel, by decide +kernel⟩
theorem sc_law_all : FnScope ["_law_text_here", "_law_at_here", "_law_one", "_law_end", "_law_word", "_law_other", "_law_last"] ["_law_text_here", "_law_at_here"] (defScope s_law_all) := ⟨rfl, rfl, rfl, by decide +kernel, rfl, by decide +kernel, by decide +kernel⟩
theorem okr_law_part (T : Txt K mg) (d : Nat) : FnOk P w K mg base CX0 (2 + d) T.a_law_part T.fd_law_part ["_law_text_here", "_law_at_here"] ((spPart K) d) ∧ FnOk P w K mg base CX0 (2 + d) T.a_law_all T.fd_law_all ["_law_text_here", "_law_at_here"] ((spAll K) d) := by
  induction d with
  | zero => exact ⟨T.d_law_part.F.ok sc_law_part (fun vs H Q E h => by obtain ⟨l, a, rfl, hal, hc, hl, hd, q⟩ := h; exact absurd hd (Nat.not_lt_zero _)) (fun cdv A outer s H vs Q E hr h => by obtain ⟨l, a, rfl, hal, hc, hl, hd, q⟩ := h; exact absurd hd (Nat.not_lt_zero _)), T.d_law_all.F.ok sc_law_all (fun vs H Q E h => by obtain ⟨l, a, rfl, hal, hc, hl, hd, q⟩ := h; exact absurd hd (Nat.not_lt_zero _)) (fun cdv A outer s H vs Q E hr h => by obtain ⟨l, a, rfl, hal, hc, hl, hd, q⟩ := h; exact absurd hd (Nat.not_lt_zero _))⟩
  | succ d ih =>
  refine ⟨?_, ?_⟩
  · refine T.d_law_part.F.ok (k := 2 + d) sc_law_part (fun vs H Q E h => ?_) (fun cdv A outer s H vs Q E hr h => ?_)
    · obtain ⟨l, a, rfl, hal, hc, hl, hd, q⟩ := h; rfl
    · obtain ⟨l, a, rfl, hal, hc, hl, hd, q⟩ := h
      have hu := hu_of hr
      refine ⟨_, (pss_cons (ps_if (pt_val (pe_call (ok_law_passed (P := P) (w := w) (base := base) T) (hr.mono (by omega)) (by rfl) T.d_law_passed.m T.d_law_passed.F.kp T.d_law_passed.b .nil pass0 (pa_cons (pv 0) (pa_cons (pv 1) (pa_cons pe_str pa_nil)))) (fun _ => rfl)) (pss_cons (ps_asg (pe_call ih.1 hr (by rfl) T.d_law_part.m T.d_law_part.F.kp T.d_law_part.b .nil pass0 (pa_cons (pv 0) (pa_cons (pe_op op_add (pv 1) pe_int) pa_nil))) (pg_tup (n := 2) rfl (pgs_cons (pg_name (i := 2) sc_law_part.nd rfl (Or.inl rfl)) (pgs_cons (pg_name (i := 3) sc_law_part.nd rfl (Or.inl rfl)) pgs_nil))))
      (pss_one (ps_ret (pe_tup (pa_cons (pe_ix ix_list (pe_lst (pa_cons pe_non (pa_cons (pe_tup (pa_cons pe_str (pa_cons (pv 2) pa_nil))) pa_nil))) (pe_callTy call_int1 rfl T.n_int PyProof.Rows.boot_int (pa_cons (pe_cmpR op_notN (pv 2) pe_non (nomark _)) pa_nil)) (fun _ _ => rfl)) (pa_cons (pv 3) pa_nil)))))) pss_nil)
      (pss_cons (ps_if (pt_val (pe_call (ok_law_passed (P := P) (w := w) (base := base) T) (hr.mono (by omega)) (by rfl) T.d_law_passed.m T.d_law_passed.F.kp T.d_law_passed.b .nil pass0 (pa_cons (pv 0) (pa_cons (pv 1) (pa_cons pe_str pa_nil)))) (fun _ => rfl)) (pss_cons (ps_asg (pe_call ih.2 hr (by rfl) T.d_law_all.m T.d_law_all.F.kp T.d_law_all.b .nil pass0 (pa_cons (pv 0) (pa_cons (pe_op op_add (pv 1) pe_int) pa_nil))) (pg_tup (n := 2) rfl (pgs_cons (pg_name (i := 2) sc_law_part.nd rfl (Or.inl rfl)) (pgs_cons (pg_name (i := 3) sc_law_part.nd rfl (Or.inl rfl)) pgs_nil))))
      (pss_cons (ps_if (PW.pt (pw_or (pt_cmpR op_isN (pv 2) pe_non (nomark _)) (pw_or1 (pt_not (pt_val (pe_call (ok_law_passed (P := P) (w := w) (base := base) T) (hr.mono (by omega)) (by rfl) T.d_law_passed.m T.d_law_passed.F.kp T.d_law_passed.b .nil pass0 (pa_cons (pv 0) (pa_cons (pv 3) (pa_cons pe_str pa_nil)))) (fun _ => rfl)))))) (pss_one (ps_ret (pe_tup (pa_cons pe_non (pa_cons (pv 3) pa_nil))))) pss_nil)
      (pss_one (ps_ret (pe_tup (pa_cons (pv 2) (pa_cons (pe_op op_add (pv 3) pe_int) pa_nil))))))) pss_nil)
      (pss_cons (ps_set (i := 4) sc_law_part.nd rfl (Or.inl rfl) (pe_slice sl_str (pv 0) (po_some (pv 1)) (po_some (pe_op op_add (pv 1) pe_int))))
      (pss_cons (ps_if (PW.pt (pw_or (pt_cmpR op_eq (pv 4) pe_str (nomark _)) (pw_or1 (pt_cmpR op_eq (pv 4) pe_str (nomark _))))) (pss_one (ps_ret (pe_tup (pa_cons (pe_tup (pa_cons pe_str (pa_cons (pe_callTy call_int_str rfl T.n_int PyProof.Rows.boot_int (pa_cons (pv 4) pa_nil)) pa_nil))) (pa_cons (pe_op op_add (pv 1) pe_int) pa_nil))))) pss_nil)
      (pss_cons (ps_if (PW.pt (pw_and (pt_cmpR op_ne (pv 4) pe_str (nomark _)) (pw_and1 (pt_cmpR op_in_str (pv 4) pe_str rfl)))) (pss_one (ps_ret (pe_tup (pa_cons (pe_tup (pa_cons pe_str (pa_cons (pe_bm PySem.F.plainAttrs_str PySem.F.slot_str_index PySem.F.type_str_index mt_sindex pe_str (pa_cons (pv 4) pa_nil)) pa_nil))) (pa_cons (pe_op op_add (pv 1) pe_int) pa_nil))))) pss_nil)
      (pss_one (ps_ret (pe_tup (pa_cons pe_non (pa_cons (pv 1) pa_nil)))))))))), ?_⟩
      have hl1 : l.length ≤ 1000 := by omega
      have hlz : (S l).length ≤ sizeLine := by rw [S_len]; exact Nat.le_trans hl1 (by decide)
      have fin : ∀ (o : Option Sm) (v : V) (e : Nat) (H1 : Hp), Rd false (l.drop a) o (l.drop e) → e ≤ l.length → PtA H1 v o → Same H H1 → ∀ p, H1 p = none → Q (.ref p) (upd H1 p (.tup [v, .int (e : Int)])) := fun o v e H1 h1 h2 h3 h4 p hp =>
        q o v p e _ h1 h2 (ptA_keep h3 (Same.upd hp)) upd_same (h4.trans (Same.upd hp))
      refine ⟨_, rfl, _, rfl, l, NOT, a, (by rw [lit_not]; rfl), hl1, by decide, _, rfl, ?_⟩
      by_cases z1 : NOT <+: l.drop a
      · refine iteY (decide_eq_true z1) ?_
        obtain ⟨z2, z3⟩ := drop_pre z1 (by decide)
        have z2' : a + 4 ≤ l.length := z2
        refine ⟨_, rfl, _, rfl, _, _, rfl, rfl, l, a + 4, (by rw [show ((a + 4 : Nat) : Int) = (a : Int) + 4 by omega]; rfl), z2', hc, hl, by omega, fun o v p e H1 hr he hv hp s1 => ?_⟩
        refine ⟨p, _, rfl, SqT.of hp, rfl, _, _, rfl, _, _, rfl, rfl, ?_⟩
        have hR : Rd false (l.drop a) (o.map .no) (l.drop e) := by rw [z3]; exact .no hr
        refine ⟨_, rfl, (by show 2 ≤ sizeLine; decide), fun t ht => ?_⟩
        have t1 : Same H1 (upd H1 t (.tup [.str "not", v])) := Same.upd ht
        have w1 : upd H1 t (.tup [.str "not", v]) t = some (.tup [.str "not", v]) := upd_same
        generalize upd H1 t (.tup [.str "not", v]) = H2 at t1 w1 ⊢
        refine ⟨(by show 2 ≤ sizeLine; decide), fun L hL => ?_⟩
        have t2 : Same H2 (upd H2 L (.lst [.non, .ref t])) := Same.upd hL
        have w2 : upd H2 L (.lst [.non, .ref t]) L = some (.lst [.non, .ref t]) := upd_same
        have w1' := t2 _ _ w1
        generalize upd H2 L (.lst [.non, .ref t]) = H3 at t2 w2 w1' ⊢
        have s3 := s1.trans (t1.trans t2)
        have hv3 := ptA_keep hv (t1.trans t2)
        cases o with
        | none =>
          cases (show v = .non from hv)
          refine ⟨_, rfl, rfl, .inr ⟨_, rfl, L, _, _, .non, rfl, rfl, SqL.of w2, rfl, ?_⟩⟩
          exact ⟨_, rfl, (by show 2 ≤ sizeLine; decide), fun p' hp' => fin none .non e H3 hR he rfl s3 p' hp'⟩
        | some s =>
          refine ⟨_, rfl, rfl, .inr ⟨_, rfl, L, _, _, .ref t, rfl, rfl, SqL.of w2, (by rw [ptA_non hv]; rfl), ?_⟩⟩
          exact ⟨_, rfl, (by show 2 ≤ sizeLine; decide), fun p' hp' => fin (some (.no s)) (.ref t) e H3 hR he (mk_tup2 w1' (is_str.mpr rfl) hv3) s3 p' hp'⟩
      refine iteN (fun y => z1 (of_decide_eq_true y)) ?_
      refine ⟨_, rfl, _, rfl, l, [40], a, (by rw [lit_op]; rfl), hl1, by decide, _, rfl, ?_⟩
      by_cases y1 : [40] <+: l.drop a
      · refine iteY (decide_eq_true y1) ?_
        obtain ⟨z2, z3⟩ := drop_pre y1 (by decide)
        have z2' : a + 1 ≤ l.length := z2
        have z3' : l.drop a = 40 :: l.drop (a + 1) := z3
        refine ⟨_, rfl, _, rfl, _, _, rfl, rfl, l, a + 1, (by rw [show ((a + 1 : Nat) : Int) = (a : Int) + 1 by omega]; rfl), z2', hc, hl, by omega, fun o v p e H1 hr he hv hp s1 => ?_⟩
        refine ⟨p, _, rfl, SqT.of hp, rfl, _, _, rfl, _, _, rfl, rfl, ?_⟩
        cases o with
        | none =>
          cases (show v = .non from hv)
          refine ⟨_, rfl, rfl, _, rfl, iteY (by decide) ?_⟩
          refine iteT ?_
          exact ⟨_, rfl, (by show 2 ≤ sizeLine; decide), fun p' hp' => fin none .non e H1 (by rw [z3']; exact .opN hr) he rfl s1 p' hp'⟩
        | some s =>
          refine ⟨_, rfl, rfl, _, rfl, iteN (by rw [ptA_non hv]; decide) ?_⟩
          refine ⟨_, rfl, _, rfl, l, [41], e, (by rw [lit_cl]; rfl), hl1, by decide, _, rfl, ?_⟩
          by_cases x1 : [41] <+: l.drop e
          · rw [decide_eq_true x1]
            refine iteF ?_
            obtain ⟨x2, x3⟩ := drop_pre x1 (by decide)
            have x2' : e + 1 ≤ l.length := x2
            have x3' : l.drop e = 41 :: l.drop (e + 1) := x3
            rw [x3'] at hr
            refine ⟨_, rfl, _, rfl, _, _, rfl, rfl, (by show 2 ≤ sizeLine; decide), fun p' hp' => ?_⟩
            have := fin (some s) v (e + 1) H1 (by rw [z3']; exact .opY hr) x2' hv s1 p' hp'
            rw [show ((e + 1 : Nat) : Int) = (e : Int) + 1 by omega] at this
            exact this
          · rw [decide_eq_false x1]
            refine iteT ?_
            exact ⟨_, rfl, (by show 2 ≤ sizeLine; decide), fun p' hp' => fin none .non e H1 (by rw [z3']; exact .opC hr x1) he rfl s1 p' hp'⟩
      refine iteN (fun y => y1 (of_decide_eq_true y)) ?_
      refine ⟨_, rfl, _, rfl, _, rfl, _, rfl, _, _, rfl, rfl, _, rfl, _, rfl, hlz, ?_⟩
      rw [show (a : Int) + 1 = ((a + 1 : Nat) : Int) by omega, slice_nn l (show a ≤ a + 1 by omega), Nat.add_sub_cancel_left]
      cases hld : l.drop a with
      | nil =>
        refine ⟨_, rfl, rfl, _, rfl, iteN (by rw [lit_0]; exact fun z => absurd z (by decide)) ?_⟩
        refine ⟨_, rfl, rfl, _, rfl, iteN (by rw [lit_1]; exact fun z => absurd z (by decide)) ?_⟩
        refine ⟨_, rfl, rfl, _, rfl, iteN (by rw [lit_e]; exact fun z => absurd z (by decide)) ?_⟩
        refine iteF ?_
        exact ⟨_, rfl, (by show 2 ≤ sizeLine; decide), fun p' hp' => fin none .non a H (by rw [hld] at z1 ⊢; exact .non z1 (fun c r z => by cases z)) hal rfl (Same.refl _) p' hp'⟩
      | cons c r =>
        have hlr : r = l.drop (a + 1) := by rw [← List.drop_drop, hld]; rfl
        have ha1 : a + 1 ≤ l.length := by
          have := congrArg List.length hld
          rw [List.length_drop, List.length_cons] at this
          omega
        have hc1 : c < 128 := hc c (List.mem_of_mem_drop (by rw [hld]; exact List.mem_cons_self ..))
        have sg : ∀ x : Nat, (V.str (S ([c] : List Nat)) = V.str (S [x])) ↔ c = x := fun x => ⟨fun z => by injection z with z; simpa using S_inj z, fun z => by rw [z]⟩
        by_cases h0 : c = 48
        · subst h0
          refine ⟨_, rfl, rfl, _, rfl, iteY (by rw [lit_0]; exact decide_eq_true rfl) ?_⟩
          refine iteT ?_
          refine ⟨_, rfl, _, _, rfl, int_fig 0 (by decide), (by show 1 ≤ 640; decide), (by show 2 ≤ sizeLine; decide), fun t ht => ?_⟩
          have c1 : Same H (upd H t (.tup [.str "fix", .int ((0 : Nat) : Int)])) := Same.upd ht
          refine ⟨_, rfl, _, _, rfl, rfl, (by show 2 ≤ sizeLine; decide), fun p' hp' => ?_⟩
          have := fin (some (.fix 0)) (.ref t) (a + 1) _ (by rw [hld, ← hlr]; exact .fix (.inl rfl)) ha1 (mk_tup2 upd_same (is_str.mpr rfl) (is_int.mpr rfl)) c1 p' hp'
          rw [show ((a + 1 : Nat) : Int) = (a : Int) + 1 by omega] at this
          exact this
        refine ⟨_, rfl, rfl, _, rfl, iteN (by rw [lit_0]; exact fun z => h0 ((sg 48).mp (of_decide_eq_true z))) ?_⟩
        by_cases h9 : c = 49
        · subst h9
          refine ⟨_, rfl, rfl, _, rfl, ?_⟩
          have e1 : decide (V.str (S (List.take 1 (49 :: r))) = V.str (Str.ofString "1")) = true := by rw [lit_1]; exact decide_eq_true rfl
          rw [e1]
          refine iteT ?_
          refine ⟨_, rfl, _, _, rfl, int_fig 1 (by decide), (by show 1 ≤ 640; decide), (by show 2 ≤ sizeLine; decide), fun t ht => ?_⟩
          have c1 : Same H (upd H t (.tup [.str "fix", .int ((1 : Nat) : Int)])) := Same.upd ht
          refine ⟨_, rfl, _, _, rfl, rfl, (by show 2 ≤ sizeLine; decide), fun p' hp' => ?_⟩
          have := fin (some (.fix 1)) (.ref t) (a + 1) _ (by rw [hld, ← hlr]; exact .fix (.inr rfl)) ha1 (mk_tup2 upd_same (is_str.mpr rfl) (is_int.mpr rfl)) c1 p' hp'
          rw [show ((a + 1 : Nat) : Int) = (a : Int) + 1 by omega] at this
          exact this
        refine ⟨_, rfl, rfl, _, rfl, iteN (by rw [lit_1]; exact fun z => h9 ((sg 49).mp (of_decide_eq_true z))) ?_⟩
        refine ⟨_, rfl, rfl, _, rfl, iteY (by rw [lit_e, decide_eq_false (fun z => by injection z with z; exact absurd (S_inj z) (by simp))]; rfl) ?_⟩
        refine ⟨_, rfl, _, _, rfl, rfl, _, rfl, ?_⟩
        rw [lit_let]
        have ein : (!(Builtin.Str.occurrences (S LET) (S (List.take 1 (c :: r))) 0 (S LET).length 1).isEmpty) = decide (97 ≤ c ∧ c < 113) := in_let c hc1
        rw [ein]
        by_cases hb : 97 ≤ c ∧ c < 113
        · rw [decide_eq_true hb]
          refine iteT ?_
          obtain ⟨j, rfl⟩ : ∃ j, c = 97 + j := ⟨c - 97, by omega⟩
          have hj : j < 16 := by omega
          have ef : Txt.find (S LET) (S (List.take 1 ((97 + j) :: r))) = (j : Int) := find_let j hj
          refine ⟨rfl, _, rfl, _, _, rfl, rfl, (by rw [ef]; omega), ?_⟩
          rw [ef]
          refine ⟨(by show 2 ≤ sizeLine; decide), fun t ht => ?_⟩
          have c1 : Same H (upd H t (.tup [.str "bit", .int (j : Int)])) := Same.upd ht
          refine ⟨_, rfl, _, _, rfl, rfl, (by show 2 ≤ sizeLine; decide), fun p' hp' => ?_⟩
          have := fin (some (.bit j)) (.ref t) (a + 1) _ (by rw [hld] at z1 ⊢; rw [← hlr]; exact .bit hj z1) ha1 (mk_tup2 upd_same (is_str.mpr rfl) (is_int.mpr rfl)) c1 p' hp'
          rw [show ((a + 1 : Nat) : Int) = (a : Int) + 1 by omega] at this
          exact this
        · rw [decide_eq_false hb]
          refine iteF ?_
          exact ⟨_, rfl, (by show 2 ≤ sizeLine; decide), fun p' hp' => fin none .non a H (by rw [hld] at z1 y1 ⊢; exact .non z1 (fun c' r' z => by cases z; exact ⟨fun y => y1 (by rw [y]; exact ⟨_, rfl⟩), h0, h9, hb⟩)) hal rfl (Same.refl _) p' hp'⟩

  · refine T.d_law_all.F.ok (k := 2 + d) sc_law_all (fun vs H Q E h => ?_) (fun cdv A outer s H vs Q E hr h => ?_)
    · obtain ⟨l, a, rfl, hal, hc, hl, hd, q⟩ := h; rfl
    · obtain ⟨l, a, rfl, hal, hc, hl, hd, q⟩ := h
      have hu := hu_of hr
      refine ⟨_, (pss_cons (ps_asg (pe_call ih.1 hr (by rfl) T.d_law_part.m T.d_law_part.F.kp T.d_law_part.b .nil pass0 (pa_cons (pv 0) (pa_cons (pv 1) pa_nil))) (pg_tup (n := 2) rfl (pgs_cons (pg_name (i := 2) sc_law_all.nd rfl (Or.inl rfl)) (pgs_cons (pg_name (i := 3) sc_law_all.nd rfl (Or.inl rfl)) pgs_nil))))
      (pss_cons (ps_if (pt_cmpR op_isN (pv 2) pe_non (nomark _)) (pss_one (ps_ret (pe_tup (pa_cons pe_non (pa_cons (pv 3) pa_nil))))) pss_nil)
      (pss_cons (ps_for PassesOwn.never rfl (pi_list (pe_lst (pa_cons pe_str (pa_cons pe_str (pa_cons pe_str pa_nil))))) (pg_name (i := 4) sc_law_all.nd rfl (Or.inl rfl))
        (pss_one (ps_if (pt_val (pe_call (ok_law_passed (P := P) (w := w) (base := base) T) (hr.mono (by omega)) (by rfl) T.d_law_passed.m T.d_law_passed.F.kp T.d_law_passed.b .nil pass0 (pa_cons (pv 0) (pa_cons (pv 3) (pa_cons (pe_op op_add_str (pe_op op_add_str pe_str (pv 4)) pe_str) pa_nil)))) (fun _ => rfl)) (pss_cons (ps_asg (pe_call ih.1 hr (by rfl) T.d_law_part.m T.d_law_part.F.kp T.d_law_part.b .nil pass0 (pa_cons (pv 0) (pa_cons (pe_op op_add (pe_op op_add (pv 3) (pe_callB call_len_str (by rfl) T.n_len PySem.boot_len (pa_cons (pv 4) pa_nil))) pe_int) pa_nil))) (pg_tup (n := 2) rfl (pgs_cons (pg_name (i := 5) sc_law_all.nd rfl (Or.inl rfl)) (pgs_cons (pg_name (i := 6) sc_law_all.nd rfl (Or.inl rfl)) pgs_nil))))
      (pss_one (ps_ret (pe_tup (pa_cons (pe_ix ix_list (pe_lst (pa_cons pe_non (pa_cons (pe_tup (pa_cons (pv 4) (pa_cons (pv 2) (pa_cons (pv 5) pa_nil)))) pa_nil))) (pe_callTy call_int1 rfl T.n_int PyProof.Rows.boot_int (pa_cons (pe_cmpR op_notN (pv 5) pe_non (nomark _)) pa_nil)) (fun _ _ => rfl)) (pa_cons (pv 6) pa_nil)))))) pss_nil)))
      (pss_one (ps_ret (pe_tup (pa_cons (pv 2) (pa_cons (pv 3) pa_nil)))))))), ?_⟩
      have hl1 : l.length ≤ 1000 := by omega
      have hlz : (S l).length ≤ sizeLine := by rw [S_len]; exact Nat.le_trans hl1 (by decide)
      have fin : ∀ (o : Option Sm) (v : V) (e : Nat) (H1 : Hp), Rd true (l.drop a) o (l.drop e) → e ≤ l.length → PtA H1 v o → Same H H1 → ∀ p, H1 p = none → Q (.ref p) (upd H1 p (.tup [v, .int (e : Int)])) := fun o v e H1 h1 h2 h3 h4 p hp =>
        q o v p e _ h1 h2 (ptA_keep h3 (Same.upd hp)) upd_same (h4.trans (Same.upd hp))
      refine ⟨_, rfl, _, rfl, l, a, rfl, hal, hc, hl, by omega, fun o v p e H1 hr he hv hp s1 => ?_⟩
      refine ⟨p, _, rfl, SqT.of hp, rfl, _, _, rfl, _, _, rfl, rfl, ?_⟩
      cases o with
      | none =>
        cases (show v = .non from hv)
        refine ⟨_, rfl, rfl, _, rfl, iteY (by decide) ?_⟩
        exact ⟨_, rfl, (by show 2 ≤ sizeLine; decide), fun p' hp' => fin none .non e H1 (.allN hr) he rfl s1 p' hp'⟩
      | some s =>
        refine ⟨_, rfl, rfl, _, rfl, iteN (by rw [ptA_non hv]; decide) ?_⟩
        refine ⟨(by show 3 ≤ sizeLine; decide), fun L hL => ⟨L, rfl, ⟨_, SqL.of upd_same⟩, ?_⟩⟩
        have t1 : Same H1 (upd H1 L (.lst [.str "and", .str "or", .str "xor"])) := Same.upd hL
        have w1 : upd H1 L (.lst [.str "and", .str "or", .str "xor"]) L = some (.lst [.str "and", .str "or", .str "xor"]) := upd_same
        generalize upd H1 L (.lst [.str "and", .str "or", .str "xor"]) = H2 at t1 w1 ⊢
        have s2 := s1.trans t1
        have hv2 := ptA_keep hv t1
        refine for_list (K := K) (a := L) (xs := [.str "and", .str "or", .str "xor"]) (fun i σ G => ∃ v4 v5 v6 : Option V, σ = [some (.str (S l)), some (.int (a : Int)), some v, some (.int (e : Int)), v4, v5, v6] ∧ (∀ w, w < i → ¬ jW w <+: l.drop e) ∧ G = H2)
          ⟨none, none, none, rfl, (fun w hw => absurd hw (Nat.not_lt_zero _)), rfl⟩ (fun i σ G _ ⟨_, _, _, _, _, e⟩ => by rw [e]; exact SqL.of w1) ?_ ?_
        · rintro i y σ G hi ⟨v4, v5, v6, rfl, hno, rfl⟩
          obtain ⟨hi3, rfl⟩ : i < 3 ∧ y = .str (wd i) := by
            have h3 : i < 3 := (List.getElem?_eq_some_iff.mp hi).1
            refine ⟨h3, ?_⟩
            rcases (show i = 0 ∨ i = 1 ∨ i = 2 by omega) with rfl | rfl | rfl
            · exact (Option.some.inj hi).symm
            · exact (Option.some.inj hi).symm
            · exact (Option.some.inj hi).symm
          have hwl := wd_le i
          have jl : (jW i).length = (wdL i).length + 2 := by unfold jW; simp
          have jn : jW i ≠ [] := by unfold jW; simp
          rw [wd_S hi3]
          unfold gName
          refine ⟨_, rfl, _, rfl, _, rfl, _, _, rfl, rfl, (by rw [lit_sp, S_len, S_len]; exact size4 (by simp; omega)), ?_⟩
          rw [lit_sp, S_cat]
          refine ⟨_, _, rfl, rfl, (by rw [S_len, S_len]; exact size4 (by simp; omega)), ?_⟩
          rw [S_cat]
          refine ⟨l, jW i, e, rfl, hl1, by omega, _, rfl, ?_⟩
          by_cases z : jW i <+: l.drop e
          · refine iteY (decide_eq_true z) ?_
            obtain ⟨z2, z3⟩ := drop_pre z jn
            have ee : ((e + (jW i).length : Nat) : Int) = (e : Int) + ((S (wdL i)).length : Int) + 2 := by rw [S_len, jl]; omega
            refine ⟨_, rfl, _, rfl, _, rfl, _, rfl, (by rw [S_len]; exact size4 (by omega)), _, _, rfl, rfl, _, _, rfl, rfl, l, e + (jW i).length, (by rw [ee]; rfl), z2, hc, hl, (by
              have := hr.len
              rw [List.length_drop, List.length_drop] at this
              omega), fun o' v' p' e' H3 hr' he' hv' hp' s3 => ?_⟩
            refine ⟨p', _, rfl, SqT.of hp', rfl, _, _, rfl, _, _, rfl, rfl, ?_⟩
            rw [z3] at hr
            have hR : Rd true (l.drop a) (o'.map (.two i s)) (l.drop e') := .allJ hr hi3 hr'
            have hv3 := ptA_keep hv2 s3
            refine ⟨_, rfl, _, rfl, _, rfl, (by show 3 ≤ sizeLine; decide), fun t ht => ?_⟩
            have u1 : Same H3 (upd H3 t (.tup [.str (S (wdL i)), v, v'])) := Same.upd ht
            have x1 : upd H3 t (.tup [.str (S (wdL i)), v, v']) t = some (.tup [.str (S (wdL i)), v, v']) := upd_same
            generalize upd H3 t (.tup [.str (S (wdL i)), v, v']) = H4 at u1 x1 ⊢
            refine ⟨(by show 2 ≤ sizeLine; decide), fun L2 hL2 => ?_⟩
            have u2 : Same H4 (upd H4 L2 (.lst [.non, .ref t])) := Same.upd hL2
            have x2 : upd H4 L2 (.lst [.non, .ref t]) L2 = some (.lst [.non, .ref t]) := upd_same
            have x1' := u2 _ _ x1
            generalize upd H4 L2 (.lst [.non, .ref t]) = H5 at u2 x2 x1' ⊢
            have s5 := s2.trans (s3.trans (u1.trans u2))
            have hv5 := ptA_keep hv3 (u1.trans u2)
            have hv5' := ptA_keep hv' (u1.trans u2)
            cases o' with
            | none =>
              cases (show v' = .non from hv')
              refine ⟨_, rfl, rfl, .inr ⟨_, rfl, L2, _, _, .non, rfl, rfl, SqL.of x2, rfl, ?_⟩⟩
              exact ⟨_, rfl, (by show 2 ≤ sizeLine; decide), fun p2 hp2 => fin none .non e' H5 hR he' rfl s5 p2 hp2⟩
            | some s' =>
              refine ⟨_, rfl, rfl, .inr ⟨_, rfl, L2, _, _, .ref t, rfl, rfl, SqL.of x2, (by rw [ptA_non hv']; rfl), ?_⟩⟩
              exact ⟨_, rfl, (by show 2 ≤ sizeLine; decide), fun p2 hp2 => fin (some (.two i s s')) (.ref t) e' H5 hR he' (mk_tup3 x1' (by rw [wd_S hi3]; exact is_str.mpr rfl) hv5 hv5') s5 p2 hp2⟩
          · refine iteN (fun y => z (of_decide_eq_true y)) ?_
            refine ⟨_, _, _, rfl, fun w hw => ?_, rfl⟩
            rcases Nat.lt_or_ge w i with h | h
            · exact hno w h
            · have : w = i := by omega
              rw [this]; exact z
        · rintro σ G ⟨v4, v5, v6, rfl, hno, rfl⟩
          exact ⟨_, rfl, _, rfl, (by show 2 ≤ sizeLine; decide), fun p' hp' => fin (some s) v e _ (.allE hr hno) he hv2 s2 p' hp'⟩

theorem ok_law_all (T : Txt K mg) : FnOk P w K mg base CX0 227 T.a_law_all T.fd_law_all ["_law_text_here", "_law_at_here"] ((spAll K) 225) := (okr_law_part T 225).2
def spDueS (K : PySem.W.Frag) : Sp := fun vs H Q _ => ∃ l : List Nat, vs = [.str (S l)] ∧ (∀ c ∈ l, c < 128) ∧ l.length ≤ 110 ∧ ∀ (o : Option Sm) (v : V) (r : List Nat) (H' : Hp), Rd true l o r → PtA H' v (if r = [] then o else none) → Same H H' → Q v H'
theorem sc_law_due : FnScope ["_law_text_here", "_law_found", "_law_end"] ["_law_text_here"] (defScope s_law_due) := ⟨rfl, rfl, rfl, by decide +kernel, rfl, by decide +kernel, by decide +kernel⟩
theorem ok_law_due (T : Txt K mg) : FnOk P w K mg base CX0 228 T.a_law_due T.fd_law_due ["_law_text_here"] (spDueS K) := by
  refine T.d_law_due.F.ok sc_law_due (fun vs H Q E h => ?_) (fun cdv A outer s H vs Q E hr h => ?_)
  · obtain ⟨l, rfl, hc, hl, q⟩ := h; rfl
  · obtain ⟨l, rfl, hc, hl, q⟩ := h
    have hu := hu_of hr
    refine ⟨_, (pss_cons (ps_asg (pe_call (ok_law_all (P := P) (w := w) (base := base) T) hr (by rfl) T.d_law_all.m T.d_law_all.F.kp T.d_law_all.b .nil pass0 (pa_cons (pv 0) (pa_cons pe_int pa_nil))) (pg_tup (n := 2) rfl (pgs_cons (pg_name (i := 1) sc_law_due.nd rfl (Or.inl rfl)) (pgs_cons (pg_name (i := 2) sc_law_due.nd rfl (Or.inl rfl)) pgs_nil))))
      (pss_cons (ps_if (pt_cmpR op_ne (pv 2) (pe_callB call_len_str (by rfl) T.n_len PySem.boot_len (pa_cons (pv 0) pa_nil)) (nomark _)) (pss_one (ps_ret pe_non)) pss_nil)
      (pss_one (ps_ret (pv 1))))), ?_⟩
    have hlz : (S l).length ≤ sizeLine := by rw [S_len]; exact Nat.le_trans hl (by decide)
    refine ⟨_, rfl, l, 0, rfl, Nat.zero_le _, hc, hl, by omega, fun o v p e H1 hr he hv hp s1 => ?_⟩
    refine ⟨p, _, rfl, SqT.of hp, rfl, _, _, rfl, _, _, rfl, rfl, ?_⟩
    rw [List.drop_zero] at hr
    refine ⟨_, rfl, _, rfl, _, rfl, hlz, rfl, _, rfl, ?_⟩
    by_cases z : e = l.length
    · refine iteN (by rw [S_len, z, decide_eq_true rfl]; decide) ?_
      exact ⟨_, rfl, q o v _ H1 hr (by rw [z, List.drop_length, if_pos rfl]; exact hv) s1⟩
    · refine iteY (by rw [S_len, decide_eq_false (fun y => z (by injection y with y; omega))]; rfl) ?_
      refine q o .non _ H1 hr ?_ s1
      rw [if_neg (fun y => z (by have := congrArg List.length y; rw [List.length_drop] at this; simp at this; omega))]
      rfl

def spTok (K : PySem.W.Frag) : Sp := fun vs H Q _ => ∃ (l : List Nat) (k : Nat), vs = [.str (S l), .int (k : Int)] ∧ k < l.length ∧ l.length ≤ 100000 ∧ Q (.str (S (fstTok (l.drop k)))) H
theorem sc_token_at : FnScope ["text", "place", "token"] ["text", "place"] (defScope s_token_at) := ⟨rfl, rfl, rfl, by decide +kernel, rfl, by decide +kernel, by decide +kernel⟩
theorem ok_token_at (T : Txt K mg) : FnOk P w K mg base CX0 1 T.a_token_at T.fd_token_at ["text", "place"] (spTok K) := by
  refine T.d_token_at.F.ok sc_token_at (fun vs H Q E h => ?_) (fun cdv A outer s H vs Q E hr h => ?_)
  · obtain ⟨l, k, rfl, hk, hl, q⟩ := h; rfl
  · obtain ⟨l, k, rfl, hk, hl, q⟩ := h
    have hu := hu_of hr
    refine ⟨_, (pss_cons (ps_for PassesOwn.never rfl (pi_tup (pe_glob (v := .ref T.a_SPACED) (by rfl) T.g_SPACED rfl)) (pg_name (i := 2) sc_token_at.nd rfl (Or.inl rfl))
        (pss_one (ps_if (pt_val (pe_bm PySem.F.plainAttrs_str PySem.F.slot_str_startswith PySem.F.type_str_startswith mt_startswith2 (pv 0) (pa_cons (pv 2) (pa_cons (pv 1) pa_nil))) (fun _ => rfl)) (pss_one (ps_ret (pv 2))) pss_nil)))
      (pss_one (ps_ret (pe_ix ix_str (pv 0) (pv 1) (fun _ _ => rfl))))), ?_⟩
    have hq : ∀ G : Hp, SqT K G T.a_SPACED (spcd.map fun t => V.str (S t)) := fun G => by rw [← spcd_V]; exact T.q_SPACED G
    refine ⟨T.a_SPACED, rfl, ⟨_, hq _⟩, ?_⟩
    refine for_tup (K := K) (a := T.a_SPACED) (xs := spcd.map fun t => V.str (S t)) (fun i σ G => ∃ v2 : Option V, σ = [some (.str (S l)), some (.int (k : Int)), v2] ∧ (∀ j t', j < i → spcd[j]? = some t' → ¬ t' <+: l.drop k) ∧ G = H)
      ⟨none, rfl, (fun j t' hj _ => absurd hj (Nat.not_lt_zero _)), rfl⟩ (fun i σ G _ _ => hq _) ?_ ?_
    · rintro i y σ G hi ⟨v2, rfl, hb, rfl⟩
      rw [List.getElem?_map] at hi
      obtain ⟨t, ht, rfl⟩ : ∃ t, spcd[i]? = some t ∧ V.str (S t) = y := by
        cases e : spcd[i]? with
        | none => rw [e] at hi; cases hi
        | some t => rw [e] at hi; exact ⟨t, rfl, Option.some.inj hi⟩
      unfold gName
      refine ⟨_, rfl, rfl, _, rfl, _, rfl, _, _, k, rfl, rfl, _, rfl, ?_⟩
      rw [starts_at l t k (Nat.le_of_lt hk)]
      by_cases z : t <+: l.drop k
      · refine iteY (decide_eq_true z) ?_
        refine ⟨_, rfl, ?_⟩
        rw [fst_found ht hb z] at q
        exact q
      · refine iteN (fun y => z (of_decide_eq_true y)) ?_
        refine ⟨_, rfl, fun j t' hj hj' => ?_, rfl⟩
        rcases Nat.lt_or_ge j i with w | w
        · exact hb j t' w hj'
        · have : j = i := by omega
          subst this
          rw [ht] at hj'; cases hj'; exact z
    · rintro σ G ⟨v2, rfl, hb, rfl⟩
      have e := fst_none hb
      obtain ⟨c, hc⟩ : ∃ c, l[k]? = some c := ⟨_, List.getElem?_eq_getElem hk⟩
      have e1 : (l.drop k).take 1 = [c] := by rw [List.take_one, List.head?_drop, hc]; rfl
      rw [e, e1] at q
      exact ⟨_, rfl, _, rfl, _, _, c, rfl, rfl, by rw [S_len]; exact Nat.le_of_lt (small6 (by omega)), by rw [S_list]; exact atI_nat hc, q⟩

def spToks (K : PySem.W.Frag) : Sp := fun vs H Q _ => ∃ ts : List (List Nat), vs = [.str (S ts.flatten)] ∧ Cuts ts [] ∧ ts.flatten.length ≤ 10000 ∧ ∀ (c : Addr) (H' : Hp), H c = none → H' c = some (.lst (ts.map fun t => V.str (S t))) → Same H H' → Q (.ref c) H'
theorem sc_tokens_of : FnScope ["text", "tokens", "place", "token"] ["text"] (defScope s_tokens_of) := ⟨rfl, rfl, rfl, by decide +kernel, rfl, by decide +kernel, by decide +kernel⟩
theorem ok_tokens_of (T : Txt K mg) : FnOk P w K mg base CX0 2 T.a_tokens_of T.fd_tokens_of ["text"] (spToks K) := by
  refine T.d_tokens_of.F.ok sc_tokens_of (fun vs H Q E h => ?_) (fun cdv A outer s H vs Q E hr h => ?_)
  · obtain ⟨ts, rfl, hc, hl, q⟩ := h; rfl
  · obtain ⟨ts, rfl, hc, hl, q⟩ := h
    have hu := hu_of hr
    refine ⟨_, (pss_cons (ps_set (i := 1) sc_tokens_of.nd rfl (Or.inl rfl) (pe_lst pa_nil))
      (pss_cons (ps_set (i := 2) sc_tokens_of.nd rfl (Or.inl rfl) pe_int)
      (pss_cons (ps_while PassesOwn.never (pt_cmpR op_lt (pv 2) (pe_callB call_len_str (by rfl) T.n_len PySem.boot_len (pa_cons (pv 0) pa_nil)) (nomark _)) (pss_cons (ps_set (i := 3) sc_tokens_of.nd rfl (Or.inl rfl) (pe_call (ok_token_at (P := P) (w := w) (base := base) T) hr (by rfl) T.d_token_at.m T.d_token_at.F.kp T.d_token_at.b .nil pass0 (pa_cons (pv 0) (pa_cons (pv 2) pa_nil))))
      (pss_cons (ps_expr (pe_bm PySem.F.plainAttrs_list PySem.F.slot_list_append PySem.F.type_list_append mt_append (pv 1) (pa_cons (pv 3) pa_nil)))
      (pss_one (ps_set (i := 2) sc_tokens_of.nd rfl (Or.inl rfl) (pe_op op_add (pv 2) (pe_callB call_len_str (by rfl) T.n_len PySem.boot_len (pa_cons (pv 3) pa_nil))))))))
      (pss_one (ps_ret (pv 1)))))), ?_⟩
    refine ⟨Nat.zero_le _, fun c hcn => ?_⟩
    have s0 : Same H (upd H c (.lst [])) := Same.upd hcn
    have hz : (S ts.flatten).length ≤ sizeLine := by rw [S_len]; exact size4 (by omega)
    refine ⟨fun m σ G => ∃ (i : Nat) (v3 : Option V), σ = [some (.str (S ts.flatten)), some (.ref c), some (.int (((ts.take i).flatten.length : Nat) : Int)), v3] ∧ i ≤ ts.length ∧ m = ts.length - i ∧ G c = some (.lst ((ts.take i).map fun t => V.str (S t))) ∧ Same H G, ⟨ts.length, 0, none, rfl, Nat.zero_le _, rfl, upd_same, s0⟩, ?_⟩
    rintro m σ G ⟨i, v3, rfl, hi, rfl, g1, sG⟩
    refine ⟨_, rfl, _, rfl, _, rfl, hz, _, _, rfl, rfl, _, rfl, ?_⟩
    by_cases z : i < ts.length
    · obtain ⟨t, ht⟩ : ∃ t, ts[i]? = some t := ⟨_, List.getElem?_eq_getElem z⟩
      obtain ⟨tn, tf⟩ := cuts_at hc ht
      rw [List.append_nil] at tf
      have htk : ts.take (i + 1) = ts.take i ++ [t] := by rw [List.take_add_one, ht]; rfl
      have hfl : (ts.take (i + 1)).flatten.length = (ts.take i).flatten.length + t.length := by rw [htk, List.flatten_append, List.length_append]; simp
      have htp : 0 < t.length := List.length_pos_iff.mpr tn
      have hle : (ts.take (i + 1)).flatten.length ≤ ts.flatten.length := by
        have := congrArg (fun x : List (List Nat) => x.flatten.length) (List.take_append_drop (i + 1) ts)
        simp only [List.flatten_append, List.length_append] at this
        omega
      refine iteY (by rw [S_len]; exact decide_eq_true (by omega)) ?_
      refine ⟨fun σ' G' => ∃ v3 : Option V, σ' = [some (.str (S ts.flatten)), some (.ref c), some (.int (((ts.take (i + 1)).flatten.length : Nat) : Int)), v3] ∧ G' c = some (.lst ((ts.take (i + 1)).map fun t => V.str (S t))) ∧ Same H G', fun σ' G' ⟨v3, e1, e2, e3⟩ => ⟨ts.length - (i + 1), by omega, i + 1, v3, e1, z, rfl, e2, e3⟩, ?_⟩
      refine ⟨_, rfl, _, rfl, ts.flatten, (ts.take i).flatten.length, rfl, by omega, by omega, ?_⟩
      rw [flat_drop, tf]
      refine ⟨_, rfl, .inl ⟨rfl, _, SqL.of g1⟩, _, rfl, c, _, _, rfl, rfl, g1, (by
        rw [List.length_map, List.length_take]
        have hn : ts.length ≤ ts.flatten.length := cuts_len hc
        exact small6 (by omega)), ?_⟩
      refine ⟨_, rfl, _, rfl, _, rfl, (by rw [S_len]; exact size4 (by omega)), _, _, rfl, rfl, ?_⟩
      refine ⟨some (.str (S t)), ?_, ?_, sG.write hcn⟩
      · have e : (((ts.take (i + 1)).flatten.length : Nat) : Int) = (((ts.take i).flatten.length : Nat) : Int) + ((S t).length : Int) := by rw [hfl, S_len]; omega
        rw [e]; rfl
      · rw [upd_same, htk, List.map_append]; rfl
    · have hi' : i = ts.length := by omega
      subst hi'
      rw [List.take_length] at g1 ⊢
      refine iteN (by rw [S_len]; simp) ?_
      exact ⟨_, rfl, q c G hcn g1 sG⟩


def joinI (t : Sm) (its : List Itm) : Sm × List Itm := match its.getLast? with
  | some (.jn w s) => (.two w s t, its.dropLast)
  | _ => (t, its)
theorem joinI_app (t : Sm) (r : List Itm) (it : Itm) : joinI t (r ++ [it]) = match it with | .jn w s => (.two w s t, r) | _ => (t, r ++ [it]) := by
  unfold joinI
  rw [last_app]
  cases it <;> simp
def spJoin (K : PySem.W.Frag) : Sp := fun vs H Q _ => ∃ (v : V) (s : Sm) (b : Addr) (its : List Itm), vs = [v, .ref b] ∧ Is H v s.d ∧ Stks H b its ∧ its.length ≤ 10000 ∧
  ∀ (v' : V) (H' : Hp), Is H' v' (joinI s its).1.d → Stks H' b (joinI s its).2 → SameB b H H' → Q v' H'
theorem sc_with_joining : FnScope ["part", "begun"] ["part", "begun"] (defScope s_with_joining) := ⟨rfl, rfl, rfl, by decide +kernel, rfl, by decide +kernel, by decide +kernel⟩
theorem ok_with_joining (T : Txt K mg) : FnOk P w K mg base CX0 1 T.a_with_joining T.fd_with_joining ["part", "begun"] (spJoin K) := by
  refine T.d_with_joining.F.ok sc_with_joining (fun vs H Q E h => ?_) (fun cdv A outer s H vs Q E hr h => ?_)
  · obtain ⟨v, s0, b, its, rfl, hI, hB, hl, q⟩ := h; rfl
  · obtain ⟨v, s0, b, its, rfl, hI, hB, hl, q⟩ := h
    have hu := hu_of hr
    refine ⟨_, (pss_cons (ps_if (PW.pt (pw_and (pt_truth (pv 1) (fun _ => rfl)) (pw_and1 (pt_cmpR op_in_seq (pe_ix ix_tup (pe_ix ix_list (pv 1) (pe_un un_neg pe_int) (fun _ _ => rfl)) pe_int (fun _ _ => rfl)) (pe_glob (v := .ref T.a_JOINING) (by rfl) T.g_JOINING rfl) rfl)))) (pss_one (ps_ret (pe_op op_catT (pe_bm0 PySem.F.plainAttrs_list PySem.F.slot_list_pop PySem.F.type_list_pop mt_pop (pv 1)) (pe_tup (pa_cons (pv 0) pa_nil))))) pss_nil)
      (pss_one (ps_ret (pv 0)))), ?_⟩
    rcases snoc_cases its with rfl | ⟨r, it, rfl⟩
    · refine ⟨_, rfl, false, .inl ⟨_, SqL.of hB.nil, rfl⟩, ?_⟩
      refine iteF ?_
      refine iteF ?_
      exact ⟨_, rfl, q v H hI hB (SameB.refl _ _)⟩
    · obtain ⟨xs, y, hb, hp, hy⟩ := hB.last
      rw [joinI_app] at q
      refine ⟨_, rfl, true, .inl ⟨_, SqL.of hb, by simp⟩, ?_⟩
      refine iteT ?_
      cases it with
      | nt =>
        obtain ⟨p, rfl, h1⟩ := itm_nt hy
        refine ⟨_, rfl, _, rfl, b, _, _, _, rfl, rfl, SqL.of hb, atI_last _ _, p, _, _, _, rfl, rfl, SqT.of h1, rfl, T.a_JOINING, _, rfl, .inr (T.q_JOINING _), rfl, rfl, _, rfl, iteN (by decide) ?_⟩
        exact ⟨_, rfl, q v H hI hB (SameB.refl _ _)⟩
      | op =>
        obtain ⟨p, rfl, h1⟩ := itm_op hy
        refine ⟨_, rfl, _, rfl, b, _, _, _, rfl, rfl, SqL.of hb, atI_last _ _, p, _, _, _, rfl, rfl, SqT.of h1, rfl, T.a_JOINING, _, rfl, .inr (T.q_JOINING _), rfl, rfl, _, rfl, iteN (by decide) ?_⟩
        exact ⟨_, rfl, q v H hI hB (SameB.refl _ _)⟩
      | jn w s2 =>
        obtain ⟨p, x, rfl, h1, h2⟩ := itm_jn hy
        refine ⟨_, rfl, _, rfl, b, _, _, _, rfl, rfl, SqL.of hb, atI_last _ _, p, _, _, _, rfl, rfl, SqT.of h1, rfl, T.a_JOINING, _, rfl, .inr (T.q_JOINING _), rfl, rfl, _, rfl, iteY (wd_inA w) ?_⟩
        refine ⟨_, rfl, .inl ⟨rfl, _, SqL.of hb⟩, b, _, .ref p, rfl, rfl, hb, (by simp), ?_⟩
        rw [List.dropLast_concat]
        have b1 : SameB b H (upd H b (.lst xs)) := SameB.upd
        refine ⟨_, rfl, (by show 1 ≤ sizeLine; decide), fun t ht => ?_⟩
        have hpb : p ≠ b := fun z => by rw [z, hb] at h1; cases h1
        have hp1 : upd H b (.lst xs) p = some (.tup [.str (wd w), x]) := by rw [upd_ne hpb]; exact h1
        have b2 : Same (upd H b (.lst xs)) (upd (upd H b (.lst xs)) t (.tup [v])) := Same.upd ht
        refine ⟨p, t, _, _, rfl, rfl, SqT.of (b2 _ _ hp1), SqT.of upd_same, by simp, (by show 3 ≤ sizeLine; decide), (fun z => by cases z), fun _ p' hp' => ?_⟩
        have b3 : Same (upd (upd H b (.lst xs)) t (.tup [v])) (upd (upd (upd H b (.lst xs)) t (.tup [v])) p' (.tup ([.str (wd w), x] ++ [v]))) := Same.upd hp'
        have sAll : SameB b H (upd (upd (upd H b (.lst xs)) t (.tup [v])) p' (.tup ([.str (wd w), x] ++ [v]))) := b1.trans (SameB.of (b2.trans b3))
        have kt := sAll.tups hb
        exact q (.ref p') _ (mk_tup3 upd_same (is_str.mpr rfl) (sm_keepX kt h2) (sm_keepX kt hI)) ⟨xs, (b2.trans b3) _ _ upd_same, paired_keep kt hp⟩ sAll


def spNots (K : PySem.W.Frag) : Sp := fun vs H Q _ => ∃ (v : V) (s : Sm) (b : Addr) (its : List Itm) (k : Nat), vs = [v, .ref b] ∧ Is H v s.d ∧ Stks H b (its ++ List.replicate k .nt) ∧ NotLast isNt its ∧ its.length + k ≤ 10000 ∧
  ∀ (v' : V) (H' : Hp), Is H' v' (noK k s).d → Stks H' b its → SameB b H H' → Q v' H'
theorem sc_with_nots : FnScope ["part", "begun"] ["part", "begun"] (defScope s_with_nots) := ⟨rfl, rfl, rfl, by decide +kernel, rfl, by decide +kernel, by decide +kernel⟩
theorem ok_with_nots (T : Txt K mg) : FnOk P w K mg base CX0 1 T.a_with_nots T.fd_with_nots ["part", "begun"] (spNots K) := by
  refine T.d_with_nots.F.ok sc_with_nots (fun vs H Q E h => ?_) (fun cdv A outer s H vs Q E hr h => ?_)
  · obtain ⟨v, s0, b, its, kk, rfl, hI, hB, hn, hl, q⟩ := h; rfl
  · obtain ⟨v, s0, b, its, kk, rfl, hI, hB, hn, hl, q⟩ := h
    have hu := hu_of hr
    refine ⟨_, (pss_cons (ps_while PassesOwn.never (PW.pt (pw_and (pt_truth (pv 1) (fun _ => rfl)) (pw_and1 (pt_cmpR op_eq (pe_ix ix_tup (pe_ix ix_list (pv 1) (pe_un un_neg pe_int) (fun _ _ => rfl)) pe_int (fun _ _ => rfl)) pe_str (nomark _))))) (pss_one (ps_set (i := 0) sc_with_nots.nd rfl (Or.inl rfl) (pe_op op_catT (pe_bm0 PySem.F.plainAttrs_list PySem.F.slot_list_pop PySem.F.type_list_pop mt_pop (pv 1)) (pe_tup (pa_cons (pv 0) pa_nil))))))
      (pss_one (ps_ret (pv 0)))), ?_⟩
    refine ⟨fun m σ G => ∃ (v1 : V) (s1 : Sm) (k : Nat), σ = [some v1, some (.ref b)] ∧ Is G v1 s1.d ∧ Stks G b (its ++ List.replicate k .nt) ∧ m = k ∧ noK k s1 = noK kk s0 ∧ k ≤ kk ∧ SameB b H G, ⟨kk, v, s0, kk, rfl, hI, hB, rfl, rfl, Nat.le_refl _, SameB.refl _ _⟩, ?_⟩
    rintro m σ G ⟨v1, s1, k, rfl, hI1, hB1, rfl, e, hk, sB⟩
    cases m with
    | zero =>
      rw [List.replicate_zero, List.append_nil] at hB1
      have fin : ∀ G', G' = G → Q v1 G' := fun G' z => by rw [z]; exact q v1 G (by rw [← e]; exact hI1) hB1 sB
      rcases snoc_cases its with rfl | ⟨r, it, rfl⟩
      · refine ⟨_, rfl, false, .inl ⟨_, SqL.of hB1.nil, rfl⟩, ?_⟩
        refine iteF ?_
        refine iteF ?_
        exact ⟨_, rfl, fin _ rfl⟩
      · obtain ⟨xs, y, hb, hp, hy⟩ := hB1.last
        have hne := hn it (last_app r it)
        refine ⟨_, rfl, true, .inl ⟨_, SqL.of hb, by simp⟩, ?_⟩
        refine iteT ?_
        cases it with
        | nt => exact absurd trivial hne
        | op =>
          obtain ⟨p, rfl, h1⟩ := itm_op hy
          refine ⟨_, rfl, _, rfl, b, _, _, _, rfl, rfl, SqL.of hb, atI_last _ _, p, _, _, _, rfl, rfl, SqT.of h1, rfl, rfl, _, rfl, ?_⟩
          refine iteN (by decide) ?_
          exact ⟨_, rfl, fin _ rfl⟩
        | jn w s2 =>
          obtain ⟨p, x, rfl, h1, h2⟩ := itm_jn hy
          refine ⟨_, rfl, _, rfl, b, _, _, _, rfl, rfl, SqL.of hb, atI_last _ _, p, _, _, _, rfl, rfl, SqT.of h1, rfl, rfl, _, rfl, ?_⟩
          refine iteN (fun z => wd_ne.2.2 (by have z' := of_decide_eq_true z; injection z')) ?_
          exact ⟨_, rfl, fin _ rfl⟩
    | succ k =>
      rw [← nts_succ] at hB1
      obtain ⟨xs, y, hb, hp, hy⟩ := hB1.last
      obtain ⟨p, rfl, h1⟩ := itm_nt hy
      have hlen : xs.length = its.length + k := by have := Paired.length hp; rw [List.length_append, List.length_replicate] at this; exact this
      refine ⟨_, rfl, true, .inl ⟨_, SqL.of hb, by simp⟩, ?_⟩
      refine iteT ?_
      refine ⟨_, rfl, _, rfl, b, _, _, _, rfl, rfl, SqL.of hb, atI_last _ _, p, _, _, _, rfl, rfl, SqT.of h1, rfl, rfl, _, rfl, ?_⟩
      refine iteY (by decide) ?_
      refine ⟨fun σ' G' => ∃ (v2 : V) (s2 : Sm), σ' = [some v2, some (.ref b)] ∧ Is G' v2 s2.d ∧ Stks G' b (its ++ List.replicate k .nt) ∧ noK k s2 = noK kk s0 ∧ SameB b H G', fun σ' G' ⟨v2, s2, e1, e2, e3, e4, e5⟩ => ⟨k, Nat.lt_succ_self k, v2, s2, k, e1, e2, e3, rfl, e4, by omega, e5⟩, ?_⟩
      refine ⟨_, rfl, .inl ⟨rfl, _, SqL.of hb⟩, b, _, .ref p, rfl, rfl, hb, (by simp), ?_⟩
      rw [List.dropLast_concat]
      have b1 : SameB b G (upd G b (.lst xs)) := SameB.upd
      refine ⟨_, rfl, (by show 1 ≤ sizeLine; decide), fun t ht => ?_⟩
      have hpb : p ≠ b := fun z => by rw [z, hb] at h1; cases h1
      have hp1 : upd G b (.lst xs) p = some (.tup [.str "not"]) := by rw [upd_ne hpb]; exact h1
      have b2 : Same (upd G b (.lst xs)) (upd (upd G b (.lst xs)) t (.tup [v1])) := Same.upd ht
      refine ⟨p, t, _, _, rfl, rfl, SqT.of (b2 _ _ hp1), SqT.of upd_same, by simp, (by show 2 ≤ sizeLine; decide), (fun z => by cases z), fun _ p' hp' => ?_⟩
      have b3 : Same (upd (upd G b (.lst xs)) t (.tup [v1])) (upd (upd (upd G b (.lst xs)) t (.tup [v1])) p' (.tup ([.str "not"] ++ [v1]))) := Same.upd hp'
      have sAll : SameB b G (upd (upd (upd G b (.lst xs)) t (.tup [v1])) p' (.tup ([.str "not"] ++ [v1]))) := b1.trans (SameB.of (b2.trans b3))
      have kt := sAll.tups hb
      exact ⟨.ref p', .no s1, rfl, mk_tup2 upd_same (is_str.mpr rfl) (sm_keepX kt hI1), ⟨xs, (b2.trans b3) _ _ upd_same, paired_keep kt hp⟩, e, sB.trans sAll⟩

def spFromX (K : PySem.W.Frag) (NS : Addr) : Sp := fun vs H Q E => ∃ (t : List Nat) (b : Addr) (its : List Itm), vs = [.str (S t), .ref b] ∧ Stks H b its ∧ its.length ≤ 9000 ∧ ((∃ st : Mst, StepX (none, its) t st ∧ ∀ (v' : V) (H' : Hp), PtA H' v' st.1 → Stks H' b st.2 → SameB b H H' → Q v' H') ∨ (Bad (none, its) t ∧ E (.ref NS) none H))
theorem strip_not : Txt.strip (S [110, 111, 116, 32]) = Str.ofString "not" := by decide +kernel
theorem strip_op : Txt.strip (S [40]) = Str.ofString "(" := by decide +kernel
theorem sc_part_from : FnScope ["token", "begun", "k"] ["token", "begun"] (defScope s_part_from) := ⟨rfl, rfl, rfl, by decide +kernel, rfl, by decide +kernel, by decide +kernel⟩
theorem ok_part_from (T : Txt K mg) : FnOk P w K mg base (CXe P w) 2 T.a_part_from T.fd_part_from ["token", "begun"] (spFromX K T.a_NoStatement) := by
  refine T.d_part_from.F.okE sc_part_from (fun vs H Q E h => ?_) (fun cdv A outer s H vs Q E hr h => ?_)
  · obtain ⟨t, b, its, rfl, hB, hl, hq⟩ := h; rfl
  · obtain ⟨t, b, its, rfl, hB, hl, hq⟩ := h
    have hu := hu_of hr
    refine ⟨_, (pss_cons (PS.nox (ps_if (PW.pt (pw_or (pt_cmpR op_eq (pv 0) pe_str (nomark _)) (pw_or1 (pt_cmpR op_eq (pv 0) pe_str (nomark _))))) (pss_cons (ps_expr (pe_bm PySem.F.plainAttrs_list PySem.F.slot_list_append PySem.F.type_list_append mt_append (pv 1) (pa_cons (pe_tup (pa_cons (pe_bm0 PySem.F.plainAttrs_str PySem.F.slot_str_strip PySem.F.type_str_strip mt_strip0 (pv 0)) pa_nil)) pa_nil)))
      (pss_one (ps_ret pe_non))) pss_nil))
      (pss_cons (PS.nox (ps_if (PW.pt (pw_or (pt_cmpR op_eq (pv 0) pe_str (nomark _)) (pw_or1 (pt_cmpR op_eq (pv 0) pe_str (nomark _))))) (pss_one (ps_ret (pe_call (ok_with_nots (P := P) (w := w) (base := base) T) hr (by rfl) T.d_with_nots.m T.d_with_nots.F.kp T.d_with_nots.b .nil pass0 (pa_cons (pe_tup (pa_cons pe_str (pa_cons (pe_callTy call_int_str rfl T.n_int PyProof.Rows.boot_int (pa_cons (pv 0) pa_nil)) pa_nil))) (pa_cons (pv 1) pa_nil))))) pss_nil))
      (pss_cons (PS.nox (ps_set (i := 2) sc_part_from.nd rfl (Or.inl rfl) (pe_bm PySem.F.plainAttrs_str PySem.F.slot_str_find PySem.F.type_str_find mt_find (pe_glob (v := .str "abcdefghijklmnop") (by rfl) T.g_LETTERS ⟨_, rfl⟩) (pa_cons (pv 0) pa_nil))))
      (pss_cons (ps_if (pt_cmpR op_lt (pv 2) pe_int (nomark _)) (pss_one (ps_raise lets_def rfl (by rfl) T.g_NoStatement T.x_NoStatement)) pss_nil)
      (pss_one (PS.nox (ps_ret (pe_call (ok_with_nots (P := P) (w := w) (base := base) T) hr (by rfl) T.d_with_nots.m T.d_with_nots.F.kp T.d_with_nots.b .nil pass0 (pa_cons (pe_tup (pa_cons pe_str (pa_cons (pv 2) pa_nil))) (pa_cons (pv 1) pa_nil)))))))))), ?_⟩
    have nb : ∀ {a c : List Nat}, a ≠ c → ¬ decide (V.str (S a) = V.str (S c)) = true := fun h z => h (by have := of_decide_eq_true z; injection this with this; exact S_inj this)
    rcases hq with ⟨st, hst0, q⟩ | ⟨hbad, e⟩
    rotate_left
    · obtain ⟨n1, n2, n3, n4, hf⟩ : t ≠ [110, 111, 116, 32] ∧ t ≠ [40] ∧ t ≠ [48] ∧ t ≠ [49] ∧ Txt.find (S LET) (S t) < 0 := by
        cases hbad with
        | jn its w hw =>
          have hf := find_jW w hw
          rcases (show w = 0 ∨ w = 1 ∨ w = 2 by omega) with rfl | rfl | rfl
          · exact ⟨by decide, by decide, by decide, by decide, by rw [hf]; decide⟩
          · exact ⟨by decide, by decide, by decide, by decide, by rw [hf]; decide⟩
          · exact ⟨by decide, by decide, by decide, by decide, by rw [hf]; decide⟩
        | frm its c hc h =>
          refine ⟨fun z => by simp at z, fun z => h.1 (by simpa using z), fun z => h.2.1 (by simpa using z), fun z => h.2.2.1 (by simpa using z), ?_⟩
          rw [find_any c hc]
          unfold idxL
          rw [if_neg h.2.2.2]
          decide
      refine ⟨_, rfl, rfl, _, rfl, iteN (by rw [lit_not]; exact nb n1) ?_⟩
      refine ⟨_, rfl, rfl, _, rfl, iteN (by rw [lit_op]; exact nb n2) ?_⟩
      refine ⟨_, rfl, rfl, _, rfl, iteN (by rw [lit_0]; exact nb n3) ?_⟩
      refine ⟨_, rfl, rfl, _, rfl, iteN (by rw [lit_1]; exact nb n4) ?_⟩
      refine ⟨rfl, _, rfl, _, _, rfl, rfl, ?_⟩
      rw [lit_let]
      refine ⟨_, rfl, _, _, rfl, rfl, _, rfl, iteY (decide_eq_true hf) ?_⟩
      exact e
    cases hst0 with
    | of hst =>
    cases hst with
    | no its =>
      obtain ⟨xs, h1, h2⟩ := hB
      refine ⟨_, rfl, rfl, _, rfl, iteY (by rw [lit_not]; exact decide_eq_true rfl) ?_⟩
      refine iteT ?_
      refine ⟨_, rfl, .inl ⟨rfl, _, SqL.of h1⟩, _, rfl, rfl, _, rfl, rfl, (by rw [S_len]; show 4 ≤ sizeLine; decide), ?_⟩
      rw [strip_not]
      refine ⟨(by show 1 ≤ sizeLine; decide), fun t' ht => ?_⟩
      have c1 : Same H (upd H t' (.tup [.str "not"])) := Same.upd ht
      refine ⟨b, _, _, rfl, rfl, c1 _ _ h1, (by rw [Paired.length h2]; exact small6 (by omega)), ?_⟩
      have c2 : SameB b H (upd (upd H t' (.tup [.str "not"])) b (.lst (xs ++ [.ref t']))) := (SameB.of c1).trans SameB.upd
      have kt := c2.tups h1
      have ntb : t' ≠ b := fun z => by rw [z, h1] at ht; cases ht
      exact q .non _ rfl ⟨xs ++ [.ref t'], upd_same, paired_snoc (paired_keep kt h2) (show Is _ _ (.tup [.str "not"]) from mk_tup1 (by rw [upd_ne ntb]; exact upd_same) (is_str.mpr rfl))⟩ c2
    | op its =>
      obtain ⟨xs, h1, h2⟩ := hB
      refine ⟨_, rfl, rfl, _, rfl, iteN (by rw [lit_not]; exact nb (by decide)) ?_⟩
      refine ⟨_, rfl, rfl, _, rfl, ?_⟩
      have e40 : decide (V.str (S [40]) = V.str (Str.ofString "(")) = true := by rw [lit_op]; exact decide_eq_true rfl
      rw [e40]
      refine iteT ?_
      refine ⟨_, rfl, .inl ⟨rfl, _, SqL.of h1⟩, _, rfl, rfl, _, rfl, rfl, (by rw [S_len]; show 1 ≤ sizeLine; decide), ?_⟩
      rw [strip_op]
      refine ⟨(by show 1 ≤ sizeLine; decide), fun t' ht => ?_⟩
      have c1 : Same H (upd H t' (.tup [.str "("])) := Same.upd ht
      refine ⟨b, _, _, rfl, rfl, c1 _ _ h1, (by rw [Paired.length h2]; exact small6 (by omega)), ?_⟩
      have c2 : SameB b H (upd (upd H t' (.tup [.str "("])) b (.lst (xs ++ [.ref t']))) := (SameB.of c1).trans SameB.upd
      have kt := c2.tups h1
      have ntb : t' ≠ b := fun z => by rw [z, h1] at ht; cases ht
      exact q .non _ rfl ⟨xs ++ [.ref t'], upd_same, paired_snoc (paired_keep kt h2) (show Is _ _ (.tup [.str "("]) from mk_tup1 (by rw [upd_ne ntb]; exact upd_same) (is_str.mpr rfl))⟩ c2
    | bit its k j hn hj =>
      refine ⟨_, rfl, rfl, _, rfl, iteN (by rw [lit_not]; exact nb (fun z => by simp at z)) ?_⟩
      refine ⟨_, rfl, rfl, _, rfl, iteN (by rw [lit_op]; exact nb (fun z => by simp at z; omega)) ?_⟩
      refine ⟨_, rfl, rfl, _, rfl, iteN (by rw [lit_0]; exact nb (fun z => by simp at z; omega)) ?_⟩
      refine ⟨_, rfl, rfl, _, rfl, iteN (by rw [lit_1]; exact nb (fun z => by simp at z; omega)) ?_⟩
      refine ⟨rfl, _, rfl, _, _, rfl, rfl, ?_⟩
      rw [lit_let, find_let j hj]
      refine ⟨_, rfl, _, _, rfl, rfl, _, rfl, iteN (by intro w; have := of_decide_eq_true w; omega) ?_⟩
      refine ⟨_, rfl, (by show 2 ≤ sizeLine; decide), fun t' ht => ?_⟩
      have c1 : Same H (upd H t' (.tup [.str "bit", .int (j : Int)])) := Same.upd ht
      exact ⟨_, rfl, .ref t', .bit j, b, its, k, rfl, mk_tup2 upd_same (is_str.mpr rfl) (is_int.mpr rfl), hB.keep c1, hn, by simp at hl; omega, fun v' H' i' s' b' => q v' H' i' s' ((SameB.of c1).trans b')⟩
    | fix its k c hn hc =>
      refine ⟨_, rfl, rfl, _, rfl, iteN (by rw [lit_not]; exact nb (fun z => by simp at z)) ?_⟩
      refine ⟨_, rfl, rfl, _, rfl, iteN (by rw [lit_op]; exact nb (fun z => by simp at z; omega)) ?_⟩
      rcases hc with rfl | rfl
      · refine ⟨_, rfl, rfl, _, rfl, iteY (by rw [lit_0]; exact decide_eq_true rfl) ?_⟩
        refine iteT ?_
        refine ⟨_, rfl, _, _, rfl, int_fig 0 (by decide), (by show 1 ≤ 640; decide), (by show 2 ≤ sizeLine; decide), fun t' ht => ?_⟩
        have c1 : Same H (upd H t' (.tup [.str "fix", .int ((0 : Nat) : Int)])) := Same.upd ht
        exact ⟨_, rfl, .ref t', .fix 0, b, its, k, rfl, mk_tup2 upd_same (is_str.mpr rfl) (is_int.mpr rfl), hB.keep c1, hn, by simp at hl; omega, fun v' H' i' s' b' => q v' H' i' s' ((SameB.of c1).trans b')⟩
      · refine ⟨_, rfl, rfl, _, rfl, iteN (by rw [lit_0]; exact nb (by decide)) ?_⟩
        refine ⟨_, rfl, rfl, _, rfl, ?_⟩
        have e1 : decide (V.str (S [48 + (1 : Int).toNat]) = V.str (Str.ofString "1")) = true := by rw [lit_1]; exact decide_eq_true rfl
        rw [e1]
        refine iteT ?_
        refine ⟨_, rfl, _, _, rfl, int_fig 1 (by decide), (by show 1 ≤ 640; decide), (by show 2 ≤ sizeLine; decide), fun t' ht => ?_⟩
        have c1 : Same H (upd H t' (.tup [.str "fix", .int ((1 : Nat) : Int)])) := Same.upd ht
        exact ⟨_, rfl, .ref t', .fix 1, b, its, k, rfl, mk_tup2 upd_same (is_str.mpr rfl) (is_int.mpr rfl), hB.keep c1, hn, by simp at hl; omega, fun v' H' i' s' b' => q v' H' i' s' ((SameB.of c1).trans b')⟩

theorem strip_jn {w : Nat} (h : w < 3) : Txt.strip (S ([32] ++ wdL w ++ [32])) = wd w := by
  rcases (show w = 0 ∨ w = 1 ∨ w = 2 by omega) with rfl | rfl | rfl <;> decide +kernel
theorem strip_cl : Txt.strip (S [41]) = Str.ofString ")" := by decide +kernel
def spAfterX (K : PySem.W.Frag) (NS : Addr) : Sp := fun vs H Q E => ∃ (t : List Nat) (v : V) (s : Sm) (b : Addr) (its : List Itm), vs = [.str (S t), v, .ref b] ∧ Is H v s.d ∧ Stks H b its ∧ its.length ≤ 9000 ∧ ((∃ st : Mst, StepX (some s, its) t st ∧
  ∀ (v' : V) (H' : Hp), PtA H' v' st.1 → Stks H' b st.2 → SameB b H H' → Q v' H') ∨ (Bad (some s, its) t ∧ ∀ H', SameB b H H' → E (.ref NS) none H'))
theorem sc_part_after : FnScope ["token", "part", "begun", "word"] ["token", "part", "begun"] (defScope s_part_after) := ⟨rfl, rfl, rfl, by decide +kernel, rfl, by decide +kernel, by decide +kernel⟩
theorem ok_part_after (T : Txt K mg) : FnOk P w K mg base (CXe P w) 2 T.a_part_after T.fd_part_after ["token", "part", "begun"] (spAfterX K T.a_NoStatement) := by
  refine T.d_part_after.F.okE sc_part_after (fun vs H Q E h => ?_) (fun cdv A outer s H vs Q E hr h => ?_)
  · obtain ⟨t, v, s0, b, its, rfl, hI, hB, hl, hq⟩ := h; rfl
  · obtain ⟨t, v, s0, b, its, rfl, hI, hB, hl, hq⟩ := h
    have hu := hu_of hr
    refine ⟨_, (pss_cons (PS.nox (ps_set (i := 3) sc_part_after.nd rfl (Or.inl rfl) (pe_bm0 PySem.F.plainAttrs_str PySem.F.slot_str_strip PySem.F.type_str_strip mt_strip0 (pv 0))))
      (pss_cons (ps_if (pt_cmpR op_in_seq (pv 3) (pe_glob (v := .ref T.a_JOINING) (by rfl) T.g_JOINING rfl) rfl) (pss_cons (ps_cut (ps_if (PW.pt (pw_and (pt_truth (pv 2) (fun _ => rfl)) (pw_and1 (pt_cmpR op_in_seq (pe_ix ix_tup (pe_ix ix_list (pv 2) (pe_un un_neg pe_int) (fun _ _ => rfl)) pe_int (fun _ _ => rfl)) (pe_glob (v := .ref T.a_JOINING) (by rfl) T.g_JOINING rfl) rfl)))) (pss_one (ps_raise lets_def rfl (by rfl) T.g_NoStatement T.x_NoStatement)) pss_nil))
      (pss_cons (PS.nox (ps_expr (pe_bm PySem.F.plainAttrs_list PySem.F.slot_list_append PySem.F.type_list_append mt_append (pv 2) (pa_cons (pe_tup (pa_cons (pv 3) (pa_cons (pv 1) pa_nil))) pa_nil))))
      (pss_one (PS.nox (ps_ret pe_non))))) pss_nil)
      (pss_cons (ps_if (pt_cmpR op_ne (pv 0) pe_str (nomark _)) (pss_one (ps_raise lets_def rfl (by rfl) T.g_NoStatement T.x_NoStatement)) pss_nil)
      (pss_cons (PS.nox (ps_set (i := 1) sc_part_after.nd rfl (Or.inl rfl) (pe_call (ok_with_joining (P := P) (w := w) (base := base) T) hr (by rfl) T.d_with_joining.m T.d_with_joining.F.kp T.d_with_joining.b .nil pass0 (pa_cons (pv 1) (pa_cons (pv 2) pa_nil)))))
      (pss_cons (ps_if (pt_not (pt_truth (pv 2) (fun _ => rfl))) (pss_one (ps_raise lets_def rfl (by rfl) T.g_NoStatement T.x_NoStatement)) pss_nil)
      (pss_cons (PS.nox (ps_expr (pe_bm0 PySem.F.plainAttrs_list PySem.F.slot_list_pop PySem.F.type_list_pop mt_pop (pv 2))))
      (pss_one (PS.nox (ps_ret (pe_call (ok_with_nots (P := P) (w := w) (base := base) T) hr (by rfl) T.d_with_nots.m T.d_with_nots.F.kp T.d_with_nots.b .nil pass0 (pa_cons (pv 1) (pa_cons (pv 2) pa_nil)))))))))))), ?_⟩
    have nb : ∀ {a c : List Nat}, a ≠ c → ¬ decide (V.str (S a) = V.str (S c)) = true := fun h z => h (by have := of_decide_eq_true z; injection this with this; exact S_inj this)
    rcases hq with ⟨st, hst0, q⟩ | ⟨hbad, e⟩
    rotate_left
    · cases hbad with
      | jj its w w' s a hw =>
        have hwl := wd_le w
        refine ⟨_, rfl, rfl, _, rfl, rfl, (by rw [S_len]; exact size4 (by unfold jW; simp; omega)), ?_⟩
        rw [show Txt.strip (S (jW w)) = wd w from strip_jn hw]
        refine ⟨_, rfl, T.a_JOINING, _, rfl, .inr (T.q_JOINING _), rfl, rfl, _, rfl, iteY (wd_inA w) ?_⟩
        refine ⟨fun _ _ => False, ?_, fun _ _ z => z.elim⟩
        obtain ⟨xs', y, hb, hp, hy⟩ := hB.last
        refine ⟨_, rfl, true, .inl ⟨_, SqL.of hb, by simp⟩, ?_⟩
        refine iteT ?_
        obtain ⟨p, x, rfl, h1, h2⟩ := itm_jn hy
        refine ⟨_, rfl, _, rfl, b, _, _, _, rfl, rfl, SqL.of hb, atI_last _ _, p, _, _, _, rfl, rfl, SqT.of h1, rfl, T.a_JOINING, _, rfl, .inr (T.q_JOINING _), rfl, rfl, _, rfl, iteY (wd_inA w') ?_⟩
        exact e H (SameB.refl _ _)
      | not its s =>
        refine ⟨_, rfl, rfl, _, rfl, rfl, (by rw [S_len]; show 4 ≤ sizeLine; decide), ?_⟩
        rw [show Txt.strip (S NOT) = Str.ofString "not" from strip_not]
        refine ⟨_, rfl, T.a_JOINING, _, rfl, .inr (T.q_JOINING _), rfl, rfl, _, rfl, iteN (by decide) ?_⟩
        refine ⟨_, rfl, rfl, _, rfl, iteY (by rw [lit_cl, decide_eq_false (fun z => by injection z with z; exact absurd (S_inj z) (by decide))]; rfl) ?_⟩
        exact e H (SameB.refl _ _)
      | sgn its s c hc h41 =>
        refine ⟨_, rfl, rfl, _, rfl, rfl, (by rw [S_len]; show 1 ≤ sizeLine; decide), ?_⟩
        refine ⟨_, rfl, T.a_JOINING, _, rfl, .inr (T.q_JOINING _), rfl, rfl, _, rfl, iteN (by rw [strip_sgn c hc]; decide) ?_⟩
        refine ⟨_, rfl, rfl, _, rfl, iteY (by rw [lit_cl, decide_eq_false (fun z => by injection z with z; exact h41 (by simpa using S_inj z))]; rfl) ?_⟩
        exact e H (SameB.refl _ _)
      | cl s =>
        refine ⟨_, rfl, rfl, _, rfl, rfl, (by rw [S_len]; show 1 ≤ sizeLine; decide), ?_⟩
        rw [strip_cl]
        refine ⟨_, rfl, T.a_JOINING, _, rfl, .inr (T.q_JOINING _), rfl, rfl, _, rfl, iteN (by decide) ?_⟩
        refine ⟨_, rfl, rfl, _, rfl, iteN (by rw [lit_cl, decide_eq_true rfl]; decide) ?_⟩
        refine ⟨_, rfl, _, rfl, v, s0, b, _, rfl, hI, hB, by simp, fun v1 H1 i1 st1 b1 => ?_⟩
        have st2 : Stks H1 b [] := st1
        refine ⟨_, rfl, false, .inl ⟨_, SqL.of st2.nil, rfl⟩, ?_⟩
        refine iteT ?_
        exact e H1 b1
      | cl1 s a w =>
        refine ⟨_, rfl, rfl, _, rfl, rfl, (by rw [S_len]; show 1 ≤ sizeLine; decide), ?_⟩
        rw [strip_cl]
        refine ⟨_, rfl, T.a_JOINING, _, rfl, .inr (T.q_JOINING _), rfl, rfl, _, rfl, iteN (by decide) ?_⟩
        refine ⟨_, rfl, rfl, _, rfl, iteN (by rw [lit_cl, decide_eq_true rfl]; decide) ?_⟩
        refine ⟨_, rfl, _, rfl, v, s0, b, _, rfl, hI, hB, by simp, fun v1 H1 i1 st1 b1 => ?_⟩
        have st2 : Stks H1 b [] := st1
        refine ⟨_, rfl, false, .inl ⟨_, SqL.of st2.nil, rfl⟩, ?_⟩
        refine iteT ?_
        exact e H1 b1
    cases hst0 with
    | cl0 its k t1 hn =>
      have ej : joinI s0 (its ++ List.replicate k .nt ++ [.op]) = (s0, its ++ List.replicate k .nt ++ [.op]) := joinI_app _ _ _
      refine ⟨_, rfl, rfl, _, rfl, rfl, (by rw [S_len]; show 1 ≤ sizeLine; decide), ?_⟩
      rw [strip_cl]
      refine ⟨_, rfl, T.a_JOINING, _, rfl, .inr (T.q_JOINING _), rfl, rfl, _, rfl, iteN (by decide) ?_⟩
      refine ⟨_, rfl, rfl, _, rfl, iteN (by rw [lit_cl, decide_eq_true rfl]; decide) ?_⟩
      refine ⟨_, rfl, _, rfl, v, s0, b, _, rfl, hI, hB, by simp at hl ⊢; omega, fun v1 H1 i1 st1 b1 => ?_⟩
      rw [ej] at i1 st1
      obtain ⟨xs, y, hb, hp, hy⟩ := st1.last
      refine ⟨_, rfl, true, .inl ⟨_, SqL.of hb, by simp⟩, ?_⟩
      refine iteF ?_
      refine ⟨_, rfl, .inl ⟨rfl, _, SqL.of hb⟩, b, _, y, rfl, rfl, hb, (by simp), ?_⟩
      rw [List.dropLast_concat]
      have c1 : SameB b H1 (upd H1 b (.lst xs)) := SameB.upd
      have kt := c1.tups hb
      exact ⟨_, rfl, _, rfl, v1, s0, b, its, k, rfl, sm_keepX kt i1, ⟨xs, upd_same, paired_keep kt hp⟩, hn, by simp at hl; omega, fun v' H' i' s' b' => q v' H' i' s' (b1.trans (c1.trans b'))⟩
    | of hst =>
    cases hst with
    | jn its s1 w hn hw =>
      obtain ⟨xs, h1, h2⟩ := id hB
      have hwl := wd_le w
      refine ⟨_, rfl, rfl, _, rfl, rfl, (by rw [S_len]; exact size4 (by simp; omega)), ?_⟩
      rw [strip_jn hw]
      refine ⟨_, rfl, T.a_JOINING, _, rfl, .inr (T.q_JOINING _), rfl, rfl, _, rfl, iteY (wd_inA w) ?_⟩
      refine ⟨fun σ' G' => σ' = [some (.str (S ([32] ++ wdL w ++ [32]))), some v, some (.ref b), some (.str (wd w))] ∧ G' = H, ?_, ?_⟩
      · rcases snoc_cases its with rfl | ⟨r, it, rfl⟩
        · refine ⟨_, rfl, false, .inl ⟨_, SqL.of hB.nil, rfl⟩, ?_⟩
          refine iteF ?_
          refine iteF ?_
          exact ⟨rfl, rfl⟩
        · obtain ⟨xs', y, hb, hp, hy⟩ := hB.last
          have hne := hn it (last_app r it)
          refine ⟨_, rfl, true, .inl ⟨_, SqL.of hb, by simp⟩, ?_⟩
          refine iteT ?_
          cases it with
          | jn w' s' => exact absurd trivial hne
          | nt =>
            obtain ⟨p, rfl, h3⟩ := itm_nt hy
            refine ⟨_, rfl, _, rfl, b, _, _, _, rfl, rfl, SqL.of hb, atI_last _ _, p, _, _, _, rfl, rfl, SqT.of h3, rfl, T.a_JOINING, _, rfl, .inr (T.q_JOINING _), rfl, rfl, _, rfl, iteN (by decide) ?_⟩
            exact ⟨rfl, rfl⟩
          | op =>
            obtain ⟨p, rfl, h3⟩ := itm_op hy
            refine ⟨_, rfl, _, rfl, b, _, _, _, rfl, rfl, SqL.of hb, atI_last _ _, p, _, _, _, rfl, rfl, SqT.of h3, rfl, T.a_JOINING, _, rfl, .inr (T.q_JOINING _), rfl, rfl, _, rfl, iteN (by decide) ?_⟩
            exact ⟨rfl, rfl⟩
      · rintro σ' G' ⟨rfl, rfl⟩
        refine ⟨_, rfl, .inl ⟨rfl, _, SqL.of h1⟩, _, rfl, _, rfl, (by show 2 ≤ sizeLine; decide), fun t' ht => ?_⟩
        have c1 : Same G' (upd G' t' (.tup [.str (wd w), v])) := Same.upd ht
        refine ⟨b, _, _, rfl, rfl, c1 _ _ h1, (by rw [Paired.length h2]; exact small6 (by omega)), ?_⟩
        have c2 : SameB b G' (upd (upd G' t' (.tup [.str (wd w), v])) b (.lst (xs ++ [.ref t']))) := (SameB.of c1).trans SameB.upd
        have kt := c2.tups h1
        have ntb : t' ≠ b := fun z => by rw [z, h1] at ht; cases ht
        exact q .non _ rfl ⟨xs ++ [.ref t'], upd_same, paired_snoc (paired_keep kt h2) (show Is _ _ (.tup [.str (wd w), s0.d]) from mk_tup2 (by rw [upd_ne ntb]; exact upd_same) (is_str.mpr rfl) (sm_keepX kt hI))⟩ c2
    | cl its k w s1 t1 hn hw =>
      have ej : joinI s0 (its ++ List.replicate k .nt ++ [.op, .jn w s1]) = (.two w s1 s0, its ++ List.replicate k .nt ++ [.op]) := by
        have : its ++ List.replicate k Itm.nt ++ [.op, .jn w s1] = (its ++ List.replicate k Itm.nt ++ [.op]) ++ [.jn w s1] := by simp
        rw [this, joinI_app]
      refine ⟨_, rfl, rfl, _, rfl, rfl, (by rw [S_len]; show 1 ≤ sizeLine; decide), ?_⟩
      rw [strip_cl]
      refine ⟨_, rfl, T.a_JOINING, _, rfl, .inr (T.q_JOINING _), rfl, rfl, _, rfl, iteN (by decide) ?_⟩
      refine ⟨_, rfl, rfl, _, rfl, iteN (by rw [lit_cl, decide_eq_true rfl]; decide) ?_⟩
      refine ⟨_, rfl, _, rfl, v, s0, b, _, rfl, hI, hB, by simp at hl ⊢; omega, fun v1 H1 i1 st1 b1 => ?_⟩
      rw [ej] at i1 st1
      obtain ⟨xs, y, hb, hp, hy⟩ := st1.last
      refine ⟨_, rfl, true, .inl ⟨_, SqL.of hb, by simp⟩, ?_⟩
      refine iteF ?_
      refine ⟨_, rfl, .inl ⟨rfl, _, SqL.of hb⟩, b, _, y, rfl, rfl, hb, (by simp), ?_⟩
      rw [List.dropLast_concat]
      have c1 : SameB b H1 (upd H1 b (.lst xs)) := SameB.upd
      have kt := c1.tups hb
      exact ⟨_, rfl, _, rfl, v1, .two w s1 s0, b, its, k, rfl, sm_keepX kt i1, ⟨xs, upd_same, paired_keep kt hp⟩, hn, by simp at hl; omega, fun v' H' i' s' b' => q v' H' i' s' (b1.trans (c1.trans b'))⟩

def spReadX (K : PySem.W.Frag) (NS : Addr) : Sp := fun vs H Q E => ∃ (ts : List (List Nat)) (x : Option Sm), vs = [.str (S ts.flatten)] ∧ Cuts ts [] ∧ ts.flatten.length ≤ 9000 ∧ Out (none, []) ts x ∧ (∀ (s : Sm) (v' : V) (H' : Hp), x = some s → Is H' v' s.d → Same H H' → Q v' H') ∧ (x = none → ∀ H', Same H H' → E (.ref NS) none H')
theorem sc_read : FnScope ["text", "begun", "part", "token"] ["text"] (defScope s_read) := ⟨rfl, rfl, rfl, by decide +kernel, rfl, by decide +kernel, by decide +kernel⟩
theorem ok_read (T : Txt K mg) : FnOk P w K mg base (CXe P w) 3 T.a_read T.fd_read ["text"] (spReadX K T.a_NoStatement) := by
  refine T.d_read.F.okE sc_read (fun vs H Q E h => ?_) (fun cdv A outer s H vs Q E hr h => ?_)
  · obtain ⟨ts, x, rfl, hcut, hl, hout, q, e⟩ := h; rfl
  · obtain ⟨ts, x, rfl, hcut, hl, hout, q, e⟩ := h
    have hu := hu_of hr
    refine ⟨_, (pss_cons (PS.nox (ps_set (i := 1) sc_read.nd rfl (Or.inl rfl) (pe_lst pa_nil)))
      (pss_cons (PS.nox (ps_set (i := 2) sc_read.nd rfl (Or.inl rfl) pe_non))
      (pss_cons (ps_for PassesOwn.leaving rfl (pi_list (pe_call (ok_tokens_of (P := P) (w := w) (base := base) T) hr (by rfl) T.d_tokens_of.m T.d_tokens_of.F.kp T.d_tokens_of.b .nil pass0 (pa_cons (pv 0) pa_nil))) (pg_name (i := 3) sc_read.nd rfl (Or.inl rfl))
        (pss_one (ps_if (pt_cmpR op_isN (pv 2) pe_non (nomark _)) (pss_one (ps_set (i := 2) sc_read.nd rfl (Or.inl rfl) (pe_call (ok_part_from (P := P) (w := w) (base := base) T) hr (by rfl) T.d_part_from.m T.d_part_from.F.kp T.d_part_from.b .nil (passE lets_def) (pa_cons (pv 3) (pa_cons (pv 1) pa_nil))))) (pss_one (ps_set (i := 2) sc_read.nd rfl (Or.inl rfl) (pe_call (ok_part_after (P := P) (w := w) (base := base) T) hr (by rfl) T.d_part_after.m T.d_part_after.F.kp T.d_part_after.b .nil (passE lets_def) (pa_cons (pv 3) (pa_cons (pv 2) (pa_cons (pv 1) pa_nil)))))))))
      (pss_cons (ps_if (pt_cmpR op_isN (pv 2) pe_non (nomark _)) (pss_one (ps_raise lets_def rfl (by rfl) T.g_NoStatement T.x_NoStatement)) pss_nil)
      (pss_cons (PS.nox (ps_set (i := 2) sc_read.nd rfl (Or.inl rfl) (pe_call (ok_with_joining (P := P) (w := w) (base := base) T) (hr.mono (by decide)) (by rfl) T.d_with_joining.m T.d_with_joining.F.kp T.d_with_joining.b .nil pass0 (pa_cons (pv 2) (pa_cons (pv 1) pa_nil)))))
      (pss_cons (ps_if (pt_truth (pv 1) (fun _ => rfl)) (pss_one (ps_raise lets_def rfl (by rfl) T.g_NoStatement T.x_NoStatement)) pss_nil)
      (pss_one (PS.nox (ps_ret (pv 2)))))))))), ?_⟩
    have htn : ts.length ≤ 9000 := by have := cuts_len hcut; omega
    refine ⟨Nat.zero_le _, fun b hb => ?_⟩
    have s1 : Same H (upd H b (.lst [])) := Same.upd hb
    refine ⟨_, rfl, ts, rfl, hcut, by omega, fun c H1 hc hc1 s2 => ?_⟩
    have hb1 : H1 b = some (.lst []) := s2 _ _ upd_same
    have ncb : c ≠ b := fun z => by rw [z, upd_same] at hc; cases hc
    refine ⟨c, rfl, ⟨_, SqL.of hc1⟩, ?_⟩
    refine for_list (K := K) (a := c) (xs := ts.map fun t => V.str (S t)) (fun i σ G => ∃ (v : V) (v3 : Option V) (st : Mst), σ = [some (.str (S ts.flatten)), some (.ref b), some v, v3] ∧ Out st (ts.drop i) x ∧ PtA G v st.1 ∧ Stks G b st.2 ∧ st.2.length ≤ i ∧ SameB b H1 G)
      ⟨.non, none, (none, []), rfl, by rw [List.drop_zero]; exact hout, rfl, ⟨[], hb1, .nil⟩, Nat.le_refl _, SameB.refl _ _⟩ (fun i σ G _ ⟨_, _, _, _, _, _, _, _, e⟩ => SqL.of (e _ _ ncb hc1)) ?_ ?_
    · rintro i y σ G hi ⟨v, v3, ⟨po, its⟩, rfl, g0, g1, g2, g3, g4⟩
      rw [List.getElem?_map] at hi
      obtain ⟨t, ht, rfl⟩ : ∃ t, ts[i]? = some t ∧ V.str (S t) = y := by
        cases e : ts[i]? with
        | none => rw [e] at hi; cases hi
        | some t => rw [e] at hi; exact ⟨t, rfl, Option.some.inj hi⟩
      have hil : i < ts.length := (List.getElem?_eq_some_iff.mp ht).1
      have ed : ts.drop i = t :: ts.drop (i + 1) := by
        rw [List.drop_eq_getElem_cons hil]
        congr 1
        exact (List.getElem?_eq_some_iff.mp ht).2
      rw [ed] at g0
      have g3' : its.length ≤ i := g3
      have hor : (∃ st', StepX (po, its) t st' ∧ Out st' (ts.drop (i + 1)) x) ∨ (Bad (po, its) t ∧ x = none) := by
        cases g0 with
        | bad h => exact .inr ⟨h, rfl⟩
        | step h h' => exact .inl ⟨_, h, h'⟩
      have hE : Bad (po, its) t ∧ x = none → ∀ G', SameB b G G' → E (.ref T.a_NoStatement) none G' := fun z G' h => e z.2 G' (SameB.same (s1.trans s2) (g4.trans h) hb)
      unfold gName
      cases po with
      | none =>
        cases (show v = .non from g1)
        refine ⟨_, rfl, rfl, _, rfl, iteY (by decide) ?_⟩
        refine ⟨_, rfl, _, rfl, t, b, its, rfl, g2, by omega, ?_⟩
        rcases hor with ⟨st', hs, ho⟩ | hz
        · have hsl := stepX_len hs
          exact .inl ⟨st', hs, fun v' G' p' s' b' => ⟨v', _, st', rfl, ho, p', s', Nat.le_trans hsl (Nat.succ_le_succ g3'), g4.trans b'⟩⟩
        · exact .inr ⟨hz.1, hE hz G (SameB.refl _ _)⟩
      | some s1' =>
        have hI : Is G v s1'.d := g1
        refine ⟨_, rfl, rfl, _, rfl, iteN (fun z => sm_ref hI (of_decide_eq_true z)) ?_⟩
        refine ⟨_, rfl, _, rfl, _, rfl, t, v, s1', b, its, rfl, hI, g2, by omega, ?_⟩
        rcases hor with ⟨st', hs, ho⟩ | hz
        · have hsl := stepX_len hs
          exact .inl ⟨st', hs, fun v' G' p' s' b' => ⟨v', _, st', rfl, ho, p', s', Nat.le_trans hsl (Nat.succ_le_succ g3'), g4.trans b'⟩⟩
        · exact .inr ⟨hz.1, hE hz⟩
    · rintro σ G ⟨v, v3, ⟨po, its⟩, rfl, g0, g1, g2, g3, g4⟩
      rw [List.length_map, List.drop_length] at g0
      rw [List.length_map] at g3
      have g3' : its.length ≤ ts.length := g3
      cases po with
      | none =>
        cases (show v = .non from g1)
        refine ⟨_, rfl, rfl, _, rfl, iteY (by decide) ?_⟩
        exact e (by cases g0; rfl) G (SameB.same (s1.trans s2) g4 hb)
      | some ee =>
        have hI : Is G v ee.d := g1
        refine ⟨_, rfl, rfl, _, rfl, iteN (fun z => sm_ref hI (of_decide_eq_true z)) ?_⟩
        refine ⟨_, rfl, _, rfl, v, ee, b, its, rfl, hI, g2, by omega, fun v1 H2 i1 st1 b1 => ?_⟩
        have sH := SameB.same (s1.trans s2) (g4.trans b1) hb
        cases g0 with
        | one s =>
          have st2 : Stks H2 b [] := st1
          refine ⟨_, rfl, false, .inl ⟨_, SqL.of st2.nil, rfl⟩, ?_⟩
          refine iteF ?_
          exact ⟨_, rfl, q _ v1 H2 rfl i1 sH⟩
        | two s a w =>
          have st2 : Stks H2 b [] := st1
          refine ⟨_, rfl, false, .inl ⟨_, SqL.of st2.nil, rfl⟩, ?_⟩
          refine iteF ?_
          exact ⟨_, rfl, q _ v1 H2 rfl i1 sH⟩
        | op its s =>
          rw [joinI_app] at st1
          obtain ⟨xs, y, hb', hp, hy⟩ := st1.last
          refine ⟨_, rfl, true, .inl ⟨_, SqL.of hb', by simp⟩, ?_⟩
          refine iteT ?_
          exact e rfl H2 sH
        | opj its s a w =>
          rw [joinI_app] at st1
          obtain ⟨xs, y, hb', hp, hy⟩ := st1.last
          refine ⟨_, rfl, true, .inl ⟨_, SqL.of hb', by simp⟩, ?_⟩
          refine iteT ?_
          exact e rfl H2 sH
def spHoldsS (K : PySem.W.Frag) : Sp := fun vs H Q _ => ∃ l : List Nat, vs = [.str (S l)] ∧ (∀ c ∈ l, c < 128) ∧ l.length ≤ 110 ∧ ∀ H', Same H H' → Q (.bl true) H'
theorem sc_law_holds : FnScope ["_law_text_here", "_law_caught", "_law_found", "e", "_law_due_here", "_law_sorts"] ["_law_text_here"] (defScope s_law_holds) := ⟨rfl, rfl, rfl, by decide +kernel, rfl, by decide +kernel, by decide +kernel⟩
theorem ok_law_holds (T : Txt K mg) : FnOk P w K mg base CX0 229 T.a_law_holds T.fd_law_holds ["_law_text_here"] (spHoldsS K) := by
  refine T.d_law_holds.F.ok sc_law_holds (fun vs H Q E h => ?_) (fun cdv A outer s H vs Q E hr h => ?_)
  · obtain ⟨l, rfl, ha, hl, q⟩ := h; rfl
  · obtain ⟨l, rfl, ha, hl, q⟩ := h
    have hu := hu_of hr
    refine ⟨_, (pss_cons (ps_set (i := 1) sc_law_holds.nd rfl (Or.inl rfl) pe_non)
      (pss_cons (ps_set (i := 2) sc_law_holds.nd rfl (Or.inl rfl) pe_non)
      (pss_cons (ps_tryA (i := 3) (j := 1) (l := 2) (own_nox own_def) (ok_read (P := P) (w := w) (base := base) T) (hr.mono (by decide)) T.d_read.m T.d_read.F.kp T.d_read.b (pa_cons (pv 0) pa_nil) sc_law_holds.nd rfl rfl rfl (by decide) T.g_FormError T.x_FormError)
      (pss_cons (ps_set (i := 4) sc_law_holds.nd rfl (Or.inl rfl) (pe_call (ok_law_due (P := P) (w := w) (base := base) T) hr (by rfl) T.d_law_due.m T.d_law_due.F.kp T.d_law_due.b .nil pass0 (pa_cons (pv 0) pa_nil)))
      (pss_cons (ps_if (pt_cmpR op_isN (pv 4) pe_non (nomark _)) (pss_cons (ps_set (i := 5) sc_law_holds.nd rfl (Or.inl rfl) (pe_lst (pa_cons (pe_callB call_isinstanceE (by rfl) T.n_isinstance PyProof.Rows.boot_isinstance (pa_cons (pv 1) (pa_cons (pe_glob (v := .ref T.a_NoForm) (by rfl) T.g_NoForm rfl) pa_nil))) (pa_cons (pe_callB call_isinstanceE (by rfl) T.n_isinstance PyProof.Rows.boot_isinstance (pa_cons (pv 1) (pa_cons (pe_glob (v := .ref T.a_NoLine) (by rfl) T.g_NoLine rfl) pa_nil))) (pa_cons (pe_callB call_isinstanceE (by rfl) T.n_isinstance PyProof.Rows.boot_isinstance (pa_cons (pv 1) (pa_cons (pe_glob (v := .ref T.a_NoName) (by rfl) T.g_NoName rfl) pa_nil))) pa_nil)))))
      (pss_cons (ps_set (i := 5) sc_law_holds.nd rfl (Or.inl rfl) (pe_op op_cat (pv 5) (pe_lst (pa_cons (pe_callB call_isinstanceE (by rfl) T.n_isinstance PyProof.Rows.boot_isinstance (pa_cons (pv 1) (pa_cons (pe_glob (v := .ref T.a_NoPull) (by rfl) T.g_NoPull rfl) pa_nil))) (pa_cons (pe_callB call_isinstanceE (by rfl) T.n_isinstance PyProof.Rows.boot_isinstance (pa_cons (pv 1) (pa_cons (pe_glob (v := .ref T.a_NoYesNo) (by rfl) T.g_NoYesNo rfl) pa_nil))) (pa_cons (pe_callB call_isinstanceE (by rfl) T.n_isinstance PyProof.Rows.boot_isinstance (pa_cons (pv 1) (pa_cons (pe_glob (v := .ref T.a_TooMany) (by rfl) T.g_TooMany rfl) pa_nil))) pa_nil))))))
      (pss_one (ps_ret (pe_and (pe_callB call_isinstanceE (by rfl) T.n_isinstance PyProof.Rows.boot_isinstance (pa_cons (pv 1) (pa_cons (pe_glob (v := .ref T.a_NoStatement) (by rfl) T.g_NoStatement rfl) pa_nil))) (pe_and (pe_callB call_isinstanceE (by rfl) T.n_isinstance PyProof.Rows.boot_isinstance (pa_cons (pv 1) (pa_cons (pe_bltn (v := .ty "ValueError") (by rfl) T.n_ValueError boot_VE rfl) pa_nil))) (pe_one (pe_cmpR op_notIn_seq pe_bl (pv 5) rfl)))))))) pss_nil)
      (pss_one (ps_ret (pe_and (pe_cmpR op_isN (pv 1) pe_non (nomark _)) (pe_one (pe_cmpR (op_eqD (hu60 hr)) (pv 2) (pv 4) (nomark _))))))))))), ?_⟩
    obtain ⟨_, o, r, hR⟩ := Rd.ex l.length l (Nat.le_refl _)
    obtain ⟨ts, hcut, hfl, hout⟩ := hR.out ha
    refine ⟨_, rfl, ts, _, (by rw [hfl]), hcut, by rw [hfl]; omega, hout, fun s v' H1 hx hI s1 => ?_, fun hx H1 s1 => ⟨T.a_NoStatement, _, rfl, T.x_NoStatement, by simp, fun e he => ?_⟩⟩
    · refine ⟨_, rfl, l, rfl, ha, hl, fun o' v2 r' H2 hR' hv2 s2 => ?_⟩
      obtain ⟨e1, e2⟩ := hR.det hR'
      rw [← e1, ← e2, hx] at hv2
      have ho : o = some s := by
        by_cases z : r = []
        · rw [if_pos z] at hx; exact hx
        · rw [if_neg z] at hx; cases hx
      have hdp := hR.dp s ho
      refine ⟨_, rfl, rfl, _, rfl, iteN (by rw [ptA_non hv2]; decide) ?_⟩
      refine ⟨_, rfl, rfl, _, rfl, iteY rfl ?_⟩
      refine ⟨_, rfl, _, rfl, s.d, s.d, hI.keep s2, hv2, Nat.le_trans (dep_sm s) (by omega), ?_⟩
      rw [deq_self]
      exact q _ (s1.trans s2)
    have sE : Same H1 (upd H1 e (excO e T.a_NoStatement)) := Same.upd he
    have hx0 : upd H1 e (excO e T.a_NoStatement) e = some (excO e T.a_NoStatement) := upd_same
    generalize upd H1 e (excO e T.a_NoStatement) = HE at sE hx0 ⊢
    refine ⟨_, rfl, l, rfl, ha, hl, fun o' v2 r' H2 hR' hv2 s2 => ?_⟩
    obtain ⟨e1, e2⟩ := hR.det hR'
    rw [← e1, ← e2, hx] at hv2
    cases (show v2 = .non from hv2)
    refine ⟨_, rfl, rfl, _, rfl, iteY (by simp) ?_⟩
    have hx := s2 _ _ hx0
    refine ⟨_, rfl, e, T.a_NoStatement, _, false, hx, T.x_NoStatement, .inl ⟨T.a_NoForm, rfl, T.i_NoStatement_NoForm⟩, ?_⟩
    refine ⟨_, rfl, e, T.a_NoStatement, _, false, hx, T.x_NoStatement, .inl ⟨T.a_NoLine, rfl, T.i_NoStatement_NoLine⟩, ?_⟩
    refine ⟨_, rfl, e, T.a_NoStatement, _, false, hx, T.x_NoStatement, .inl ⟨T.a_NoName, rfl, T.i_NoStatement_NoName⟩, ?_⟩
    refine ⟨by show 3 ≤ sizeLine; decide, fun l1 hl1 => ?_⟩
    have t2 : Same H2 (upd H2 l1 (.lst [.bl false, .bl false, .bl false])) := Same.upd hl1
    have hl1' : upd H2 l1 (.lst [.bl false, .bl false, .bl false]) l1 = some (.lst [.bl false, .bl false, .bl false]) := upd_same
    have hx2 := t2 _ _ hx
    generalize upd H2 l1 (.lst [.bl false, .bl false, .bl false]) = H3 at t2 hl1' hx2
    refine ⟨_, rfl, _, rfl, e, T.a_NoStatement, _, false, hx2, T.x_NoStatement, .inl ⟨T.a_NoPull, rfl, T.i_NoStatement_NoPull⟩, ?_⟩
    refine ⟨_, rfl, e, T.a_NoStatement, _, false, hx2, T.x_NoStatement, .inl ⟨T.a_NoYesNo, rfl, T.i_NoStatement_NoYesNo⟩, ?_⟩
    refine ⟨_, rfl, e, T.a_NoStatement, _, false, hx2, T.x_NoStatement, .inl ⟨T.a_TooMany, rfl, T.i_NoStatement_TooMany⟩, ?_⟩
    refine ⟨by show 3 ≤ sizeLine; decide, fun l2 hl2 => ?_⟩
    have t3 : Same H3 (upd H3 l2 (.lst [.bl false, .bl false, .bl false])) := Same.upd hl2
    have hl2' : upd H3 l2 (.lst [.bl false, .bl false, .bl false]) l2 = some (.lst [.bl false, .bl false, .bl false]) := upd_same
    have hx3 := t3 _ _ hx2
    have hl3 := t3 _ _ hl1'
    generalize upd H3 l2 (.lst [.bl false, .bl false, .bl false]) = H4 at t3 hl2' hx3 hl3
    refine ⟨l1, l2, _, _, rfl, rfl, hl3, hl2', (by show 6 ≤ sizeLine; decide), fun l3 hl3' => ?_⟩
    have t4 : Same H4 (upd H4 l3 (.lst ([.bl false, .bl false, .bl false] ++ [.bl false, .bl false, .bl false]))) := Same.upd hl3'
    have hl4 : upd H4 l3 (.lst ([.bl false, .bl false, .bl false] ++ [.bl false, .bl false, .bl false])) l3 = some (.lst [.bl false, .bl false, .bl false, .bl false, .bl false, .bl false]) := upd_same
    have hx4 := t4 _ _ hx3
    generalize upd H4 l3 (.lst ([.bl false, .bl false, .bl false] ++ [.bl false, .bl false, .bl false])) = H5 at t4 hl4 hx4
    refine ⟨_, rfl, e, T.a_NoStatement, _, true, hx4, T.x_NoStatement, .inl ⟨T.a_NoStatement, rfl, T.i_NoStatement_NoStatement⟩, true, rfl, iteY rfl ?_⟩
    refine ⟨_, rfl, e, T.a_NoStatement, _, true, hx4, T.x_NoStatement, .inr ⟨"ValueError", rfl, T.v_NoStatement⟩, true, rfl, iteY rfl ?_⟩
    exact ⟨_, rfl, l3, _, rfl, .inl (SqL.of hl4), rfl, rfl, q H5 (s1.trans (sE.trans (s2.trans (t2.trans (t3.trans t4)))))⟩

def spBentS (K : PySem.W.Frag) : Sp := fun vs H Q _ => ∃ (l : List Nat) (xa : Addr) (xs : List Int), vs = [.str (S l), .ref xa] ∧ (∀ c ∈ l, c < 128) ∧ l.length ≤ 99 ∧ H xa = some (.lst (xs.map V.int)) ∧ (xs.length = 12 ∧ ∀ x ∈ xs, 0 ≤ x) ∧ ∀ (m : List Nat) (H' : Hp), (∀ c ∈ m, c < 128) → m.length ≤ 110 → Same H H' → Q (.str (S m)) H'
theorem sc_law_bent : FnScope ["_law_text_here", "_law_xs", "_law_some", "_law_sign", "_law_at_here", "_law_way"] ["_law_text_here", "_law_xs"] (defScope s_law_bent) := ⟨rfl, rfl, rfl, by decide +kernel, rfl, by decide +kernel, by decide +kernel⟩
theorem ok_law_bent (T : Txt K mg) : FnOk P w K mg base CX0 1 T.a_law_bent T.fd_law_bent ["_law_text_here", "_law_xs"] (spBentS K) := by
  refine T.d_law_bent.F.ok sc_law_bent (fun vs H Q E h => ?_) (fun cdv A outer s H vs Q E hr h => ?_)
  · obtain ⟨l, xa, xs, rfl, ha, hl, hx, hxl, q⟩ := h; rfl
  · obtain ⟨l, xa, xs, rfl, ha, hl, hx, hxl, q⟩ := h
    have hu := hu_of hr
    refine ⟨_, (pss_cons (ps_set (i := 2) sc_law_bent.nd rfl (Or.inl rfl) pe_str)
      (pss_cons (ps_cut (ps_if (pt_cmpR op_eq (pe_op op_mod (pe_ix ix_list (pv 1) pe_int (fun _ _ => rfl)) pe_int) pe_int (nomark _)) (pss_one (ps_set (i := 2) sc_law_bent.nd rfl (Or.inl rfl) pe_str)) pss_nil))
      (pss_cons (ps_set (i := 3) sc_law_bent.nd rfl (Or.inl rfl) (pe_ix ix_str (pv 2) (pe_op op_mod (pe_ix ix_list (pv 1) pe_int (fun _ _ => rfl)) (pe_callB call_len_str (by rfl) T.n_len PySem.boot_len (pa_cons (pv 2) pa_nil))) (fun _ _ => rfl)))
      (pss_cons (ps_set (i := 4) sc_law_bent.nd rfl (Or.inl rfl) (pe_op op_mod (pe_ix ix_list (pv 1) pe_int (fun _ _ => rfl)) (pe_op op_add (pe_callB call_len_str (by rfl) T.n_len PySem.boot_len (pa_cons (pv 0) pa_nil)) pe_int)))
      (pss_cons (ps_set (i := 5) sc_law_bent.nd rfl (Or.inl rfl) (pe_op op_mod (pe_ix ix_list (pv 1) pe_int (fun _ _ => rfl)) pe_int))
      (pss_cons (ps_if (pt_cmpR op_eq (pv 5) pe_int (nomark _)) (pss_one (ps_ret (pe_op op_add_str (pe_slice sl_str (pv 0) po_none (po_some (pv 4))) (pe_slice sl_str (pv 0) (po_some (pe_op op_add (pv 4) pe_int)) po_none)))) pss_nil)
      (pss_cons (ps_if (pt_cmpR op_eq (pv 5) pe_int (nomark _)) (pss_one (ps_ret (pe_op op_add_str (pe_op op_add_str (pe_slice sl_str (pv 0) po_none (po_some (pv 4))) (pv 3)) (pe_slice sl_str (pv 0) (po_some (pe_op op_add (pv 4) pe_int)) po_none)))) pss_nil)
      (pss_cons (ps_if (pt_cmpR op_eq (pv 5) pe_int (nomark _)) (pss_one (ps_ret (pe_op op_add_str (pe_op op_add_str (pe_slice sl_str (pv 0) po_none (po_some (pv 4))) (pv 3)) (pe_slice sl_str (pv 0) (po_some (pv 4)) po_none)))) pss_nil)
      (pss_cons (ps_if (pt_cmpR op_eq (pv 5) pe_int (nomark _)) (pss_one (ps_ret (pe_op op_add_str (pv 0) (pe_ix ix_list (pe_lst (pa_cons pe_str (pa_cons pe_str (pa_cons pe_str (pa_cons pe_str (pa_cons pe_str (pa_cons pe_str pa_nil))))))) (pe_op op_mod (pe_ix ix_list (pv 1) pe_int (fun _ _ => rfl)) pe_int) (fun _ _ => rfl))))) pss_nil)
      (pss_one (ps_ret (pv 0)))))))))))), ?_⟩
    have has : ∀ k : Nat, k < 12 → ∃ x, atI (xs.map V.int) (k : Int) = some (V.int x) ∧ 0 ≤ x := fun k hk => by
      obtain ⟨x, hx'⟩ : ∃ x, xs[k]? = some x := ⟨_, List.getElem?_eq_getElem (by have := hxl.1; omega)⟩
      exact ⟨x, atI_nat (by rw [List.getElem?_map, hx']; rfl), hxl.2 x (List.mem_of_getElem? hx')⟩
    obtain ⟨x7, h7, n7⟩ := has 7 (by decide)
    obtain ⟨x8, h8, n8⟩ := has 8 (by decide)
    obtain ⟨x9, h9, n9⟩ := has 9 (by decide)
    obtain ⟨x10, h10, n10⟩ := has 10 (by decide)
    have hlz : (S l).length ≤ sizeLine := by rw [S_len]; exact Nat.le_trans hl (by decide)
    refine ⟨fun σ G => ∃ so : List Nat, σ = [some (.str (S l)), some (.ref xa), some (.str (S so)), none, none, none] ∧ (∀ c ∈ so, c < 128) ∧ 1 ≤ so.length ∧ so.length ≤ 100 ∧ G = H, ?_, ?_⟩
    · refine ⟨_, rfl, xa, _, _, V.int x9, rfl, rfl, SqL.of hx, h9, _, _, rfl, rfl, (by show (0 : Int) < 4; decide), rfl, _, rfl, ite2 (fun _ => ?_) (fun _ => ?_)⟩
      · exact ⟨_, rfl, by decide +kernel, by decide +kernel, by decide +kernel, rfl⟩
      · exact ⟨_, rfl, by decide +kernel, by decide +kernel, by decide +kernel, rfl⟩
    rintro σ G ⟨so, rfl, so1, so2, so3, rfl⟩
    have hsz : (S so).length ≤ sizeLine := by rw [S_len]; exact Nat.le_trans so3 (by decide)
    have hsl : 0 < ((S so).length : Int) := by rw [S_len]; omega
    obtain ⟨i10, hi10⟩ : ∃ i : Nat, x10 % ((S so).length : Int) = (i : Int) := ⟨_, (Int.toNat_of_nonneg (Int.emod_nonneg _ (by omega))).symm⟩
    have hi10' : i10 < so.length := by have := Int.emod_lt_of_pos x10 hsl; rw [hi10, S_len] at this; omega
    obtain ⟨sc, hsc⟩ : ∃ c, so[i10]? = some c := ⟨_, List.getElem?_eq_getElem hi10'⟩
    have hats : atI (S so).cps.toList (x10 % ((S so).length : Int)) = some sc := by rw [hi10, S_list]; exact atI_nat hsc
    have hsc' := so1 sc (List.mem_of_getElem? hsc)
    refine ⟨_, rfl, _, rfl, xa, _, _, V.int x10, rfl, rfl, SqL.of hx, h10, _, rfl, _, rfl, hsz, _, _, rfl, rfl, hsl, _, _, sc, rfl, rfl, hsz, hats, ?_⟩
    refine ⟨_, rfl, xa, _, _, V.int x8, rfl, rfl, SqL.of hx, h8, _, rfl, _, rfl, hlz, _, _, rfl, rfl, _, _, rfl, rfl, (by show (0 : Int) < ((S l).length : Int) + 1; omega), ?_⟩
    refine ⟨_, rfl, xa, _, _, V.int x7, rfl, rfl, SqL.of hx, h7, _, _, rfl, rfl, (by show (0 : Int) < 6; decide), ?_⟩
    have fin : ∀ m : List Nat, (∀ c ∈ m, c < 128) → m.length ≤ 110 → Q (.str (S m)) G := fun m h1 h2 => q m G h1 h2 (Same.refl _)
    have hz : ∀ {a : List Nat}, a.length ≤ 1000 → (S a).length ≤ 1000 := fun h => by rw [S_len]; exact h
    obtain ⟨at8, hat8⟩ : ∃ i : Nat, x8 % (((S l).length : Int) + 1) = (i : Int) := ⟨_, (Int.toNat_of_nonneg (Int.emod_nonneg _ (by omega))).symm⟩
    have hat8' : at8 ≤ l.length := by have := Int.emod_lt_of_pos x8 (show (0 : Int) < ((S l).length : Int) + 1 by omega); rw [hat8, S_len] at this; omega
    obtain ⟨m1, e1, l1, c1⟩ : ∃ m1, Txt.slice (S l) none (some (x8 % (((S l).length : Int) + 1))) = S m1 ∧ m1.length = at8 ∧ ∀ c ∈ m1, c ∈ l := ⟨l.take at8, by rw [hat8, slice_nt], by rw [List.length_take]; omega, fun c hc => List.mem_of_mem_take hc⟩
    obtain ⟨m2, e2, l2, c2⟩ : ∃ m2, Txt.slice (S l) (some (x8 % (((S l).length : Int) + 1) + 1)) none = S m2 ∧ m2.length = l.length - (at8 + 1) ∧ ∀ c ∈ m2, c ∈ l := ⟨l.drop (at8 + 1), by rw [hat8, show (at8 : Int) + 1 = ((at8 + 1 : Nat) : Int) by omega, slice_nf], by rw [List.length_drop], fun c hc => List.mem_of_mem_drop hc⟩
    obtain ⟨m3, e3, l3, c3⟩ : ∃ m3, Txt.slice (S l) (some (x8 % (((S l).length : Int) + 1))) none = S m3 ∧ m3.length = l.length - at8 ∧ ∀ c ∈ m3, c ∈ l := ⟨l.drop at8, by rw [hat8, slice_nf], by rw [List.length_drop], fun c hc => List.mem_of_mem_drop hc⟩
    have big : ∀ {a b : List Nat}, a.length + b.length ≤ 1000 → (S a).length + (S b).length ≤ sizeLine := fun {a b} h => by rw [S_len, S_len]; exact Nat.le_trans h (by decide)
    have a1 : ∀ c ∈ m1, c < 128 := fun c hc => ha c (c1 c hc)
    have a2 : ∀ c ∈ m2, c < 128 := fun c hc => ha c (c2 c hc)
    have a3 : ∀ c ∈ m3, c < 128 := fun c hc => ha c (c3 c hc)
    have app : ∀ {a b : List Nat}, (∀ c ∈ a, c < 128) → (∀ c ∈ b, c < 128) → ∀ c ∈ a ++ b, c < 128 := fun h1 h2 c hc => (List.mem_append.mp hc).elim (h1 c) (h2 c)
    have as : ∀ c ∈ [sc], c < 128 := fun c hc => by rw [List.mem_singleton.mp hc]; exact hsc'
    refine ⟨_, rfl, rfl, _, rfl, ite2 (fun _ => ?_) (fun _ => ?_)⟩
    · refine ⟨_, rfl, _, rfl, _, rfl, _, rfl, hlz, ?_⟩
      rw [e1]
      refine ⟨_, rfl, _, rfl, _, _, rfl, rfl, _, rfl, _, rfl, hlz, ?_⟩
      rw [e2]
      refine ⟨_, _, rfl, rfl, big (by omega), ?_⟩
      rw [S_cat]
      exact fin _ (app a1 a2) (by rw [List.length_append]; omega)
    refine ⟨_, rfl, rfl, _, rfl, ite2 (fun _ => ?_) (fun _ => ?_)⟩
    · refine ⟨_, rfl, _, rfl, _, rfl, _, rfl, hlz, ?_⟩
      rw [e1]
      refine ⟨_, rfl, _, _, rfl, rfl, big (b := [sc]) (by show _ + 1 ≤ _; omega), ?_⟩
      refine ⟨_, rfl, _, rfl, _, _, rfl, rfl, _, rfl, _, rfl, hlz, ?_⟩
      rw [e2]
      have ec : (S m1 ++ ({ cps := #[sc] } : Str)) = S (m1 ++ [sc]) := S_cat m1 [sc]
      rw [ec]
      refine ⟨_, _, rfl, rfl, big (by rw [List.length_append]; show _ + 1 + _ ≤ _; omega), ?_⟩
      rw [S_cat]
      exact fin _ (app (app a1 as) a2) (by rw [List.length_append, List.length_append]; show _ + 1 + _ ≤ _; omega)
    refine ⟨_, rfl, rfl, _, rfl, ite2 (fun _ => ?_) (fun _ => ?_)⟩
    · refine ⟨_, rfl, _, rfl, _, rfl, _, rfl, hlz, ?_⟩
      rw [e1]
      refine ⟨_, rfl, _, _, rfl, rfl, big (b := [sc]) (by show _ + 1 ≤ _; omega), ?_⟩
      refine ⟨_, rfl, _, rfl, _, rfl, _, rfl, hlz, ?_⟩
      rw [e3]
      have ec : (S m1 ++ ({ cps := #[sc] } : Str)) = S (m1 ++ [sc]) := S_cat m1 [sc]
      rw [ec]
      refine ⟨_, _, rfl, rfl, big (by rw [List.length_append]; show _ + 1 + _ ≤ _; omega), ?_⟩
      rw [S_cat]
      exact fin _ (app (app a1 as) a3) (by rw [List.length_append, List.length_append]; show _ + 1 + _ ≤ _; omega)
    refine ⟨_, rfl, rfl, _, rfl, ite2 (fun _ => ?_) (fun _ => ?_)⟩
    · refine ⟨_, rfl, (by show 6 ≤ sizeLine; decide), fun A hA => ?_⟩
      obtain ⟨y, hy, hy1, hy2⟩ : ∃ y : Str, atI [V.str (Str.ofString " and a"), V.str (Str.ofString " or"), V.str (Str.ofString " xor b or c"), V.str (Str.ofString " "), V.str (Str.ofString "not"), V.str (Str.ofString " not a")] (x10 % 6) = some (V.str y) ∧ (∀ c ∈ y.cps.toList, c < 128) ∧ y.cps.toList.length ≤ 11 := by
        obtain e | e | e | e | e | e : x10 % 6 = 0 ∨ x10 % 6 = 1 ∨ x10 % 6 = 2 ∨ x10 % 6 = 3 ∨ x10 % 6 = 4 ∨ x10 % 6 = 5 := by omega
        all_goals rw [e]; exact ⟨_, rfl, by decide +kernel, by decide +kernel⟩
      have t1 : Same G (upd G A (.lst [V.str (Str.ofString " and a"), V.str (Str.ofString " or"), V.str (Str.ofString " xor b or c"), V.str (Str.ofString " "), V.str (Str.ofString "not"), V.str (Str.ofString " not a")])) := Same.upd hA
      refine ⟨_, rfl, xa, _, _, V.int x10, rfl, rfl, SqL.of (t1 _ _ hx), h10, _, _, rfl, rfl, (by show (0 : Int) < 6; decide), A, _, _, V.str y, rfl, rfl, SqL.of upd_same, hy, ?_⟩
      rw [str_S y]
      refine ⟨_, _, rfl, rfl, big (by omega), ?_⟩
      rw [S_cat]
      exact q _ _ (app ha hy1) (by rw [List.length_append]; omega) t1
    exact ⟨_, rfl, fin l ha (by omega)⟩

end
end My

set_option maxHeartbeats 4000000
namespace My
open PySem L2 OF
seal L2.PS L2.PSs L2.PE L2.PT L2.PA L2.PI L2.PG L2.PW L2.PO
section
variable {P : Program} {w : World} {K : PySem.W.Frag} {mg : Str → Option Value} {base : Heap}
theorem sc_law : FnScope ["_law_script", "_law_cells", "_law_k", "_law_xs", "_law_statement_here", "_law_text_here"] ["_law_script"] (defScope s_law) := ⟨rfl, rfl, rfl, by decide +kernel, rfl, by decide +kernel, by decide +kernel⟩
theorem ok_law {f : Addr} {fd : FuncData} (F : Fun K "law" "law" s_law f fd) (T : Txt K mg) : FnOk P w K mg base CX0 230 f fd ["_law_script"] (spLaw K) := by
  refine F.ok sc_law (fun vs H Q E h => ?_) (fun cdv A outer s H vs Q E hr h => ?_)
  · obtain ⟨a, ns, rfl, hS, hlen, hbits, kq⟩ := h; rfl
  · obtain ⟨a, ns, rfl, hS, hlen, hbits, kq⟩ := h
    have hu := hu_of hr
    refine ⟨_, (pss_cons (ps_set (i := 1) sc_law.nd rfl (Or.inl rfl) (pe_op op_cat (pe_slice sl_list (pv 0) po_none (po_some pe_int)) (pe_lst (pa_cons pe_int pa_nil))))
      (pss_cons (ps_for PassesOwn.never rfl (pi_range1 rfl T.n_range (pa_cons (pe_callB call_len_seq (by rfl) T.n_len PySem.boot_len (pa_cons (pv 1) pa_nil)) pa_nil)) (pg_name (i := 2) sc_law.nd rfl (Or.inl rfl))
        (pss_cons (ps_set (i := 3) sc_law.nd rfl (Or.inl rfl) (pe_call (ok_law_stream (P := P) (w := w) (base := base) T) (hr.mono (by decide)) (by rfl) T.d_law_stream.m T.d_law_stream.F.kp T.d_law_stream.b .nil pass0 (pa_cons (pe_ix ix_list (pv 1) (pv 2) (fun _ _ => rfl)) (pa_cons (pv 2) pa_nil))))
      (pss_cons (ps_set (i := 4) sc_law.nd rfl (Or.inl rfl) (pe_call (ok_law_statement (P := P) (w := w) (base := base) T) (hr.mono (by decide)) (by rfl) T.d_law_statement.m T.d_law_statement.F.kp T.d_law_statement.b .nil pass0 (pa_cons (pe_slice sl_list (pv 3) po_none (po_some (pe_op op_mod (pe_ix ix_list (pv 3) pe_int (fun _ _ => rfl)) pe_int))) (pa_cons (pe_call (ok_law_letters (P := P) (w := w) (base := base) T) (hr.mono (by decide)) (by rfl) T.d_law_letters.m T.d_law_letters.F.kp T.d_law_letters.b .nil pass0 (pa_cons (pe_ix ix_list (pv 3) pe_int (fun _ _ => rfl)) (pa_cons (pe_op op_add pe_int (pe_op op_mod (pe_ix ix_list (pv 3) pe_int (fun _ _ => rfl)) pe_int)) pa_nil))) pa_nil))))
      (pss_cons (ps_set (i := 5) sc_law.nd rfl (Or.inl rfl) (pe_call (ok_law_text (P := P) (w := w) (base := base) T) (hr.mono (by decide)) (by rfl) T.d_law_text.m T.d_law_text.F.kp T.d_law_text.b .nil pass0 (pa_cons (pv 4) pa_nil)))
      (pss_cons (ps_cut (ps_if (pt_cmpR op_eq (pe_op op_mod (pe_ix ix_list (pv 3) pe_int (fun _ _ => rfl)) pe_int) pe_int (nomark _)) (pss_one (ps_set (i := 5) sc_law.nd rfl (Or.inl rfl) (pe_call (ok_law_loose (P := P) (w := w) (base := base) T) (hr.mono (by decide)) (by rfl) T.d_law_loose.m T.d_law_loose.F.kp T.d_law_loose.b .nil pass0 (pa_cons (pv 4) (pa_cons (pe_ix ix_list (pv 3) pe_int (fun _ _ => rfl)) pa_nil))))) pss_nil))
      (pss_one (ps_if (pt_not (pt_val (pe_call (ok_law_holds (P := P) (w := w) (base := base) T) hr (by rfl) T.d_law_holds.m T.d_law_holds.F.kp T.d_law_holds.b .nil pass0 (pa_cons (pe_call (ok_law_bent (P := P) (w := w) (base := base) T) (hr.mono (by decide)) (by rfl) T.d_law_bent.m T.d_law_bent.F.kp T.d_law_bent.b .nil pass0 (pa_cons (pv 5) (pa_cons (pv 3) pa_nil))) pa_nil)) (fun _ => rfl))) (pss_one (ps_ret pe_bl)) pss_nil)))))))
      (pss_one (ps_ret pe_bl)))), ?_⟩
    refine ⟨_, rfl, _, rfl, a, _, rfl, hS, fun c1 hc1 => ?_⟩
    obtain ⟨ms, hms, hml⟩ : ∃ ms : List Int, cutV (ns.map V.int) none (some 40) = ms.map V.int ∧ ms.length ≤ ns.length := by
      unfold cutV
      rw [← List.map_drop, ← List.map_take]
      exact ⟨_, rfl, by rw [List.length_take, List.length_drop]; omega⟩
    rw [hms]
    have t1 : Same H (upd H c1 (.lst (ms.map V.int))) := Same.upd hc1
    refine ⟨(by show 1 ≤ sizeLine; decide), fun z0 hz0 => ?_⟩
    have t2 : Same (upd H c1 (.lst (ms.map V.int))) (upd (upd H c1 (.lst (ms.map V.int))) z0 (.lst [.int 0])) := Same.upd hz0
    refine ⟨c1, z0, _, _, rfl, rfl, t2 _ _ upd_same, upd_same, (by rw [List.length_map]; exact Nat.le_of_lt (small6 (by show _ + 1 ≤ _; omega))), fun C hC => ?_⟩
    have t3 := t1.trans (t2.trans (Same.upd (o := .lst (ms.map V.int ++ [.int 0])) hC))
    have wC : upd (upd (upd H c1 (.lst (ms.map V.int))) z0 (.lst [.int 0])) C (.lst (ms.map V.int ++ [.int 0])) C = some (.lst ((ms ++ [0]).map V.int)) := by rw [upd_same, List.map_append]; rfl
    generalize upd (upd (upd H c1 (.lst (ms.map V.int))) z0 (.lst [.int 0])) C (.lst (ms.map V.int ++ [.int 0])) = H1 at t3 wC ⊢
    have hcl : (ms ++ [0]).length ≤ 64 := by rw [List.length_append]; show _ + 1 ≤ _; omega
    refine ⟨_, rfl, C, _, rfl, .inl (SqL.of wC), (((ms ++ [0]).map V.int).length : Int), rfl, by omega, by rw [List.length_map]; omega, ?_⟩
    refine for_range (n := ((ms ++ [0]).map V.int).length) (fun i σ G => ∃ v2 v3 v4 v5 : Option V, σ = [some (.ref a), some (.ref C), v2, v3, v4, v5] ∧ G C = some (.lst ((ms ++ [0]).map V.int)))
      ⟨_, _, _, _, rfl, wC⟩ ?_ ?_
    · rintro i σ G hi ⟨v2, v3, v4, v5, rfl, g1⟩
      rw [List.length_map] at hi
      obtain ⟨x, hx⟩ : ∃ x, (ms ++ [0])[i]? = some x := ⟨_, List.getElem?_eq_getElem hi⟩
      have hat : atI ((ms ++ [0]).map V.int) (0 + (i : Int)) = some (V.int x) := by rw [Int.zero_add]; exact atI_nat (by rw [List.getElem?_map, hx]; rfl)
      refine ⟨_, rfl, _, rfl, C, _, _, V.int x, rfl, rfl, SqL.of g1, hat, _, rfl, x, 0 + (i : Int), rfl, by omega, fun X xs H2 hX hXw hXo s2 => ?_⟩
      have has : ∀ k : Nat, k < 12 → ∃ y, atI (xs.map V.int) (k : Int) = some (V.int y) ∧ 0 ≤ y := fun k hk => by
        obtain ⟨y, hy⟩ : ∃ y, xs[k]? = some y := ⟨_, List.getElem?_eq_getElem (by have := hXo.1; omega)⟩
        exact ⟨y, atI_nat (by rw [List.getElem?_map, hy]; rfl), hXo.2 y (List.mem_of_getElem? hy)⟩
      obtain ⟨x0, h0, n0⟩ := has 0 (by decide)
      obtain ⟨x5, h5, n5⟩ := has 5 (by decide)
      obtain ⟨x6, h6, n6⟩ := has 6 (by decide)
      obtain ⟨x11, h11, n11⟩ := has 11 (by decide)
      have g2 := s2 _ _ g1
      refine ⟨_, rfl, _, rfl, X, _, _, V.int x0, rfl, rfl, SqL.of hXw, h0, _, _, rfl, rfl, (by show (0 : Int) < 7; decide), _, rfl, X, _, rfl, SqL.of hXw, fun c2 hc2 => ?_⟩
      obtain ⟨ms1, ec1, hc1', hc1''⟩ : ∃ ms1 : List Int, cutV (xs.map V.int) none (some (x0 % 7)) = ms1.map V.int ∧ ms1.length ≤ 6 ∧ True := by
        obtain ⟨k7, hk7⟩ : ∃ k : Nat, x0 % 7 = (k : Int) := ⟨_, (Int.toNat_of_nonneg (Int.emod_nonneg _ (by decide))).symm⟩
        have hk7' : k7 ≤ 6 := by omega
        unfold cutV
        rw [hk7, HT.sIx_none, HT.sIx_nat, List.drop_zero, ← List.map_take]
        exact ⟨_, rfl, by rw [List.length_take]; omega, trivial⟩
      rw [ec1]
      have u1 : Same H2 (upd H2 c2 (.lst (ms1.map V.int))) := Same.upd hc2
      have w1 : upd H2 c2 (.lst (ms1.map V.int)) c2 = some (.lst (ms1.map V.int)) := upd_same
      generalize upd H2 c2 (.lst (ms1.map V.int)) = H3 at u1 w1 ⊢
      have wX := u1 _ _ hXw
      obtain ⟨mo, hmo⟩ : ∃ mo : Nat, 1 + x6 % 4 = (mo : Int) := ⟨(1 + x6 % 4).toNat, by omega⟩
      refine ⟨_, rfl, X, _, _, V.int x6, rfl, rfl, SqL.of wX, h6, _, rfl, X, _, _, V.int x6, rfl, rfl, SqL.of wX, h6, _, _, rfl, rfl, (by show (0 : Int) < 4; decide), _, _, rfl, rfl, x6, mo, (by dsimp only; rw [hmo]; rfl), by omega, fun b ls H4 hb hL nd hlt hll s4 => ?_⟩
      refine ⟨c2, b, ms1, ls, rfl, s4 _ _ w1, hL, hc1', by omega, by omega, fun v s' H5 hI ok hnd s5 => ?_⟩
      have ok16 : s'.ok (fun k => k < 16) := Sm.ok.imp (fun k hk => hlt k hk) ok
      have hdp := dp_nodes s'
      have htx := txt_nodes ok
      have s35 := s4.trans s5
      refine ⟨_, rfl, v, s', rfl, hI, ok16, by omega, by omega, fun H6 s6 => ?_⟩
      have wX6 := (s35.trans s6) _ _ wX
      have g6 := (u1.trans (s35.trans s6)) _ _ g2
      refine ⟨fun σ' G' => ∃ m : List Nat, σ' = [some (.ref a), some (.ref C), some (.int (0 + (i : Int))), some (.ref X), some v, some (.str (S m))] ∧ (∀ c ∈ m, c < 128) ∧ m.length ≤ 99 ∧ Same H6 G', ?_, ?_⟩
      · refine ⟨_, rfl, X, _, _, V.int x11, rfl, rfl, SqL.of wX6, h11, _, _, rfl, rfl, (by show (0 : Int) < 2; decide), rfl, _, rfl, ite2 (fun _ => ?_) (fun _ => ?_)⟩
        · refine ⟨_, rfl, _, rfl, X, _, _, V.int x5, rfl, rfl, SqL.of wX6, h5, v, s', x5, rfl, hI.keep s6, ok16, by omega, by omega, fun m H7 m1 _ m3 s7 => ?_⟩
          exact ⟨m, rfl, m3, by omega, s7⟩
        · exact ⟨_, rfl, (txt_128 ok16).1, by omega, Same.refl _⟩
      · rintro σ' G' ⟨m, rfl, m1, m2, s7⟩
        refine ⟨_, rfl, _, rfl, m, X, xs, rfl, m1, m2, s7 _ _ wX6, hXo, fun m' H8 m1' m2' s8 => ?_⟩
        refine ⟨m', rfl, m1', m2', fun H9 s9 => ⟨true, rfl, iteF ⟨_, _, _, _, rfl, (s7.trans (s8.trans s9)) _ _ g6⟩⟩⟩
    · rintro σ G ⟨v2, v3, v4, v5, rfl, g1⟩
      exact kq _

end
theorem us1 {fd : FuncData} {ps : List Str} (h : ∀ x0, bindArgs fd ⟨[x0], []⟩ = pure (ps.zip [x0])) (us : List Value) (hl : us.length = 1) : bindArgs fd ⟨us, []⟩ = pure (ps.zip us) := by
  cases us with
  | nil => cases hl
  | cons x0 us =>
  replace hl := Nat.succ.inj hl
  cases List.eq_nil_of_length_eq_zero hl
  exact h x0
theorem us2 {fd : FuncData} {ps : List Str} (h : ∀ x0 x1, bindArgs fd ⟨[x0, x1], []⟩ = pure (ps.zip [x0, x1])) (us : List Value) (hl : us.length = 2) : bindArgs fd ⟨us, []⟩ = pure (ps.zip us) := by
  cases us with
  | nil => cases hl
  | cons x0 us =>
  replace hl := Nat.succ.inj hl
  cases us with
  | nil => cases hl
  | cons x1 us =>
  replace hl := Nat.succ.inj hl
  cases List.eq_nil_of_length_eq_zero hl
  exact h x0 x1
theorem us3 {fd : FuncData} {ps : List Str} (h : ∀ x0 x1 x2, bindArgs fd ⟨[x0, x1, x2], []⟩ = pure (ps.zip [x0, x1, x2])) (us : List Value) (hl : us.length = 3) : bindArgs fd ⟨us, []⟩ = pure (ps.zip us) := by
  cases us with
  | nil => cases hl
  | cons x0 us =>
  replace hl := Nat.succ.inj hl
  cases us with
  | nil => cases hl
  | cons x1 us =>
  replace hl := Nat.succ.inj hl
  cases us with
  | nil => cases hl
  | cons x2 us =>
  replace hl := Nat.succ.inj hl
  cases List.eq_nil_of_length_eq_zero hl
  exact h x0 x1 x2
def defPos (s : Stmt) : Pos := match s with
  | .FunctionDef _ _ _ _ _ _ _ _ _ p => p
  | _ => ⟨0, 0, 0, 0⟩
theorem all_mk {l : PySem.W.OpenLaw} {w : World} {K : PySem.W.Frag} {h : Heap} {mg : Str → Option Value} {fa fL f0 f1 f2 f3 f4 f5 f6 f7 f8 f9 f10 f11 f12 f13 f14 f15 f16 f17 f18 f19 f20 : Addr} (X : K.In h) (G : h.Ns mainGlobals mg) (hfa : mg "law" = some (.ref fa))
    {odL anL od0 an0 od1 an1 od2 an2 od3 an3 od4 an4 od5 an5 od6 an6 od7 an7 od8 an8 od9 an9 od10 an10 od11 an11 od12 an12 od13 an13 od14 an14 od15 an15 od16 an16 od17 an17 od18 an18 od19 an19 od20 an20 : Option Addr} {slL sl0 sl1 sl2 sl3 sl4 sl5 sl6 sl7 sl8 sl9 sl10 sl11 sl12 sl13 sl14 sl15 sl16 sl17 sl18 sl19 sl20 : Array (Option Value)} {ocL kVL dcL pmL cdL ctL oc0 kV0 dc0 pm0 cd0 ct0 oc1 kV1 dc1 pm1 cd1 ct1 oc2 kV2 dc2 pm2 cd2 ct2 oc3 kV3 dc3 pm3 cd3 ct3 oc4 kV4 dc4 pm4 cd4 ct4 oc5 kV5 dc5 pm5 cd5 ct5 oc6 kV6 dc6 pm6 cd6 ct6 oc7 kV7 dc7 pm7 cd7 ct7 oc8 kV8 dc8 pm8 cd8 ct8 oc9 kV9 dc9 pm9 cd9 ct9 oc10 kV10 dc10 pm10 cd10 ct10 oc11 kV11 dc11 pm11 cd11 ct11 oc12 kV12 dc12 pm12 cd12 ct12 oc13 kV13 dc13 pm13 cd13 ct13 oc14 kV14 dc14 pm14 cd14 ct14 oc15 kV15 dc15 pm15 cd15 ct15 oc16 kV16 dc16 pm16 cd16 ct16 oc17 kV17 dc17 pm17 cd17 ct17 oc18 kV18 dc18 pm18 cd18 ct18 oc19 kV19 dc19 pm19 cd19 ct19 oc20 kV20 dc20 pm20 cd20 ct20 : Value}
    (a0 : PySem.W.nsIn K mainGlobals "_law_mixed" = some (some (.ref f0))) (l0 : K.lookup f0 = some ⟨oc0, od0, .func (PySem.W.fnOf "_law_mixed" "_law_mixed" (defArgs s_law_mixed) (defBody s_law_mixed) (defScope s_law_mixed) .none kV0 dc0 pm0 an0 cd0 ct0), sl0⟩) (c0 : PySem.W.codeIn K cd0 "_law_mixed" = true) (k0 : PySem.W.keepIn K (.ref f0) = true)
    (a1 : PySem.W.nsIn K mainGlobals "_law_stream" = some (some (.ref f1))) (l1 : K.lookup f1 = some ⟨oc1, od1, .func (PySem.W.fnOf "_law_stream" "_law_stream" (defArgs s_law_stream) (defBody s_law_stream) (defScope s_law_stream) .none kV1 dc1 pm1 an1 cd1 ct1), sl1⟩) (c1 : PySem.W.codeIn K cd1 "_law_stream" = true) (k1 : PySem.W.keepIn K (.ref f1) = true)
    (a2 : PySem.W.nsIn K mainGlobals "_law_statement" = some (some (.ref f2))) (l2 : K.lookup f2 = some ⟨oc2, od2, .func (PySem.W.fnOf "_law_statement" "_law_statement" (defArgs s_law_statement) (defBody s_law_statement) (defScope s_law_statement) .none kV2 dc2 pm2 an2 cd2 ct2), sl2⟩) (c2 : PySem.W.codeIn K cd2 "_law_statement" = true) (k2 : PySem.W.keepIn K (.ref f2) = true)
    (a3 : PySem.W.nsIn K mainGlobals "_law_text" = some (some (.ref f3))) (l3 : K.lookup f3 = some ⟨oc3, od3, .func (PySem.W.fnOf "_law_text" "_law_text" (defArgs s_law_text) (defBody s_law_text) (defScope s_law_text) .none kV3 dc3 pm3 an3 cd3 ct3), sl3⟩) (c3 : PySem.W.codeIn K cd3 "_law_text" = true) (k3 : PySem.W.keepIn K (.ref f3) = true)
    (a4 : PySem.W.nsIn K mainGlobals "_law_bracketed" = some (some (.ref f4))) (l4 : K.lookup f4 = some ⟨oc4, od4, .func (PySem.W.fnOf "_law_bracketed" "_law_bracketed" (defArgs s_law_bracketed) (defBody s_law_bracketed) (defScope s_law_bracketed) .none kV4 dc4 pm4 an4 cd4 ct4), sl4⟩) (c4 : PySem.W.codeIn K cd4 "_law_bracketed" = true) (k4 : PySem.W.keepIn K (.ref f4) = true)
    (a5 : PySem.W.nsIn K mainGlobals "_law_letters" = some (some (.ref f5))) (l5 : K.lookup f5 = some ⟨oc5, od5, .func (PySem.W.fnOf "_law_letters" "_law_letters" (defArgs s_law_letters) (defBody s_law_letters) (defScope s_law_letters) .none kV5 dc5 pm5 an5 cd5 ct5), sl5⟩) (c5 : PySem.W.codeIn K cd5 "_law_letters" = true) (k5 : PySem.W.keepIn K (.ref f5) = true)
    (a6 : PySem.W.nsIn K mainGlobals "_law_loose" = some (some (.ref f6))) (l6 : K.lookup f6 = some ⟨oc6, od6, .func (PySem.W.fnOf "_law_loose" "_law_loose" (defArgs s_law_loose) (defBody s_law_loose) (defScope s_law_loose) .none kV6 dc6 pm6 an6 cd6 ct6), sl6⟩) (c6 : PySem.W.codeIn K cd6 "_law_loose" = true) (k6 : PySem.W.keepIn K (.ref f6) = true)
    (a7 : PySem.W.nsIn K mainGlobals "_law_loose_part" = some (some (.ref f7))) (l7 : K.lookup f7 = some ⟨oc7, od7, .func (PySem.W.fnOf "_law_loose_part" "_law_loose_part" (defArgs s_law_loose_part) (defBody s_law_loose_part) (defScope s_law_loose_part) .none kV7 dc7 pm7 an7 cd7 ct7), sl7⟩) (c7 : PySem.W.codeIn K cd7 "_law_loose_part" = true) (k7 : PySem.W.keepIn K (.ref f7) = true)
    (a8 : PySem.W.nsIn K mainGlobals "_law_passed" = some (some (.ref f8))) (l8 : K.lookup f8 = some ⟨oc8, od8, .func (PySem.W.fnOf "_law_passed" "_law_passed" (defArgs s_law_passed) (defBody s_law_passed) (defScope s_law_passed) .none kV8 dc8 pm8 an8 cd8 ct8), sl8⟩) (c8 : PySem.W.codeIn K cd8 "_law_passed" = true) (k8 : PySem.W.keepIn K (.ref f8) = true)
    (a9 : PySem.W.nsIn K mainGlobals "_law_all" = some (some (.ref f9))) (l9 : K.lookup f9 = some ⟨oc9, od9, .func (PySem.W.fnOf "_law_all" "_law_all" (defArgs s_law_all) (defBody s_law_all) (defScope s_law_all) .none kV9 dc9 pm9 an9 cd9 ct9), sl9⟩) (c9 : PySem.W.codeIn K cd9 "_law_all" = true) (k9 : PySem.W.keepIn K (.ref f9) = true)
    (a10 : PySem.W.nsIn K mainGlobals "_law_part" = some (some (.ref f10))) (l10 : K.lookup f10 = some ⟨oc10, od10, .func (PySem.W.fnOf "_law_part" "_law_part" (defArgs s_law_part) (defBody s_law_part) (defScope s_law_part) .none kV10 dc10 pm10 an10 cd10 ct10), sl10⟩) (c10 : PySem.W.codeIn K cd10 "_law_part" = true) (k10 : PySem.W.keepIn K (.ref f10) = true)
    (a11 : PySem.W.nsIn K mainGlobals "_law_due" = some (some (.ref f11))) (l11 : K.lookup f11 = some ⟨oc11, od11, .func (PySem.W.fnOf "_law_due" "_law_due" (defArgs s_law_due) (defBody s_law_due) (defScope s_law_due) .none kV11 dc11 pm11 an11 cd11 ct11), sl11⟩) (c11 : PySem.W.codeIn K cd11 "_law_due" = true) (k11 : PySem.W.keepIn K (.ref f11) = true)
    (a12 : PySem.W.nsIn K mainGlobals "token_at" = some (some (.ref f12))) (l12 : K.lookup f12 = some ⟨oc12, od12, .func (PySem.W.fnOf "token_at" "token_at" (defArgs s_token_at) (defBody s_token_at) (defScope s_token_at) .none kV12 dc12 pm12 an12 cd12 ct12), sl12⟩) (c12 : PySem.W.codeIn K cd12 "token_at" = true) (k12 : PySem.W.keepIn K (.ref f12) = true)
    (a13 : PySem.W.nsIn K mainGlobals "tokens_of" = some (some (.ref f13))) (l13 : K.lookup f13 = some ⟨oc13, od13, .func (PySem.W.fnOf "tokens_of" "tokens_of" (defArgs s_tokens_of) (defBody s_tokens_of) (defScope s_tokens_of) .none kV13 dc13 pm13 an13 cd13 ct13), sl13⟩) (c13 : PySem.W.codeIn K cd13 "tokens_of" = true) (k13 : PySem.W.keepIn K (.ref f13) = true)
    (a14 : PySem.W.nsIn K mainGlobals "with_joining" = some (some (.ref f14))) (l14 : K.lookup f14 = some ⟨oc14, od14, .func (PySem.W.fnOf "with_joining" "with_joining" (defArgs s_with_joining) (defBody s_with_joining) (defScope s_with_joining) .none kV14 dc14 pm14 an14 cd14 ct14), sl14⟩) (c14 : PySem.W.codeIn K cd14 "with_joining" = true) (k14 : PySem.W.keepIn K (.ref f14) = true)
    (a15 : PySem.W.nsIn K mainGlobals "with_nots" = some (some (.ref f15))) (l15 : K.lookup f15 = some ⟨oc15, od15, .func (PySem.W.fnOf "with_nots" "with_nots" (defArgs s_with_nots) (defBody s_with_nots) (defScope s_with_nots) .none kV15 dc15 pm15 an15 cd15 ct15), sl15⟩) (c15 : PySem.W.codeIn K cd15 "with_nots" = true) (k15 : PySem.W.keepIn K (.ref f15) = true)
    (a16 : PySem.W.nsIn K mainGlobals "part_from" = some (some (.ref f16))) (l16 : K.lookup f16 = some ⟨oc16, od16, .func (PySem.W.fnOf "part_from" "part_from" (defArgs s_part_from) (defBody s_part_from) (defScope s_part_from) .none kV16 dc16 pm16 an16 cd16 ct16), sl16⟩) (c16 : PySem.W.codeIn K cd16 "part_from" = true) (k16 : PySem.W.keepIn K (.ref f16) = true)
    (a17 : PySem.W.nsIn K mainGlobals "part_after" = some (some (.ref f17))) (l17 : K.lookup f17 = some ⟨oc17, od17, .func (PySem.W.fnOf "part_after" "part_after" (defArgs s_part_after) (defBody s_part_after) (defScope s_part_after) .none kV17 dc17 pm17 an17 cd17 ct17), sl17⟩) (c17 : PySem.W.codeIn K cd17 "part_after" = true) (k17 : PySem.W.keepIn K (.ref f17) = true)
    (a18 : PySem.W.nsIn K mainGlobals "read" = some (some (.ref f18))) (l18 : K.lookup f18 = some ⟨oc18, od18, .func (PySem.W.fnOf "read" "read" (defArgs s_read) (defBody s_read) (defScope s_read) .none kV18 dc18 pm18 an18 cd18 ct18), sl18⟩) (c18 : PySem.W.codeIn K cd18 "read" = true) (k18 : PySem.W.keepIn K (.ref f18) = true)
    (a19 : PySem.W.nsIn K mainGlobals "_law_holds" = some (some (.ref f19))) (l19 : K.lookup f19 = some ⟨oc19, od19, .func (PySem.W.fnOf "_law_holds" "_law_holds" (defArgs s_law_holds) (defBody s_law_holds) (defScope s_law_holds) .none kV19 dc19 pm19 an19 cd19 ct19), sl19⟩) (c19 : PySem.W.codeIn K cd19 "_law_holds" = true) (k19 : PySem.W.keepIn K (.ref f19) = true)
    (a20 : PySem.W.nsIn K mainGlobals "_law_bent" = some (some (.ref f20))) (l20 : K.lookup f20 = some ⟨oc20, od20, .func (PySem.W.fnOf "_law_bent" "_law_bent" (defArgs s_law_bent) (defBody s_law_bent) (defScope s_law_bent) .none kV20 dc20 pm20 an20 cd20 ct20), sl20⟩) (c20 : PySem.W.codeIn K cd20 "_law_bent" = true) (k20 : PySem.W.keepIn K (.ref f20) = true)
    (aL : PySem.W.nsIn K mainGlobals "law" = some (some (.ref fL))) (lL : K.lookup fL = some ⟨ocL, odL, .func (PySem.W.fnOf "law" "law" (defArgs s_law) (defBody s_law) (defScope s_law) .none kVL dcL pmL anL cdL ctL), slL⟩) (cL : PySem.W.codeIn K cdL "law" = true) (kL : PySem.W.keepIn K (.ref fL) = true)
    (z_ValueError : PySem.W.nsIn K mainGlobals "ValueError" = some none)
    (z_int : PySem.W.nsIn K mainGlobals "int" = some none)
    (z_isinstance : PySem.W.nsIn K mainGlobals "isinstance" = some none)
    (z_len : PySem.W.nsIn K mainGlobals "len" = some none)
    (z_range : PySem.W.nsIn K mainGlobals "range" = some none)
    (z_str : PySem.W.nsIn K mainGlobals "str" = some none)
    {ga_SPACED : Addr} {go_SPACED : Option Addr} {gn_SPACED : Nat} {gs_SPACED : Array (Option Value)} {gt0_SPACED gt1_SPACED gt2_SPACED gt3_SPACED : Tok}
    (g_SPACED : PySem.W.nsIn K mainGlobals "SPACED" = some (some (.ref ga_SPACED))) (h_SPACED : K.lookup ga_SPACED = some ⟨.type "tuple", go_SPACED, .seq #[.str "not " gt0_SPACED, .str " and " gt1_SPACED, .str " or " gt2_SPACED, .str " xor " gt3_SPACED] gn_SPACED, gs_SPACED⟩)
    {ga_JOINING : Addr} {go_JOINING : Option Addr} {gn_JOINING : Nat} {gs_JOINING : Array (Option Value)} {gt0_JOINING gt1_JOINING gt2_JOINING : Tok}
    (g_JOINING : PySem.W.nsIn K mainGlobals "JOINING" = some (some (.ref ga_JOINING))) (h_JOINING : K.lookup ga_JOINING = some ⟨.type "tuple", go_JOINING, .seq #[.str "and" gt0_JOINING, .str "or" gt1_JOINING, .str "xor" gt2_JOINING] gn_JOINING, gs_JOINING⟩)
    {tk_LETTERS : Tok} (g_LETTERS : PySem.W.nsIn K mainGlobals "LETTERS" = some (some (.str "abcdefghijklmnop" tk_LETTERS)))
    {ca_NoStatement : Addr} (g_NoStatement : PySem.W.nsIn K mainGlobals "NoStatement" = some (some (.ref ca_NoStatement)))
    {ca_FormError : Addr} (g_FormError : PySem.W.nsIn K mainGlobals "FormError" = some (some (.ref ca_FormError)))
    {ca_NoForm : Addr} (g_NoForm : PySem.W.nsIn K mainGlobals "NoForm" = some (some (.ref ca_NoForm)))
    {ca_NoLine : Addr} (g_NoLine : PySem.W.nsIn K mainGlobals "NoLine" = some (some (.ref ca_NoLine)))
    {ca_NoName : Addr} (g_NoName : PySem.W.nsIn K mainGlobals "NoName" = some (some (.ref ca_NoName)))
    {ca_NoPull : Addr} (g_NoPull : PySem.W.nsIn K mainGlobals "NoPull" = some (some (.ref ca_NoPull)))
    {ca_NoYesNo : Addr} (g_NoYesNo : PySem.W.nsIn K mainGlobals "NoYesNo" = some (some (.ref ca_NoYesNo)))
    {ca_TooMany : Addr} (g_TooMany : PySem.W.nsIn K mainGlobals "TooMany" = some (some (.ref ca_TooMany)))
    (x_NoStatement : exIn K ca_NoStatement (.ref ca_FormError :: vB) = true)
    (x_FormError : exIn K ca_FormError vB = true)
    (x_NoForm : exIn K ca_NoForm (.ref ca_FormError :: vB) = true)
    (x_NoLine : exIn K ca_NoLine (.ref ca_FormError :: vB) = true)
    (x_NoName : exIn K ca_NoName (.ref ca_FormError :: vB) = true)
    (x_NoPull : exIn K ca_NoPull (.ref ca_FormError :: vB) = true)
    (x_NoYesNo : exIn K ca_NoYesNo (.ref ca_FormError :: vB) = true)
    (x_TooMany : exIn K ca_TooMany (.ref ca_FormError :: vB) = true)
    (i_NoStatement_NoStatement : PySem.W.kitOne K (.ref ca_NoStatement) (.ref ca_NoStatement) = some true)
    (i_NoStatement_FormError : PySem.W.kitOne K (.ref ca_NoStatement) (.ref ca_FormError) = some true)
    (i_NoStatement_NoForm : PySem.W.kitOne K (.ref ca_NoStatement) (.ref ca_NoForm) = some false)
    (i_NoStatement_NoLine : PySem.W.kitOne K (.ref ca_NoStatement) (.ref ca_NoLine) = some false)
    (i_NoStatement_NoName : PySem.W.kitOne K (.ref ca_NoStatement) (.ref ca_NoName) = some false)
    (i_NoStatement_NoPull : PySem.W.kitOne K (.ref ca_NoStatement) (.ref ca_NoPull) = some false)
    (i_NoStatement_NoYesNo : PySem.W.kitOne K (.ref ca_NoStatement) (.ref ca_NoYesNo) = some false)
    (i_NoStatement_TooMany : PySem.W.kitOne K (.ref ca_NoStatement) (.ref ca_TooMany) = some false)
    (v_NoStatement : PySem.W.kitOne K (.ref ca_NoStatement) (.type "ValueError") = some true) :
    ∃ fd : FuncData, (∀ (s : Shared) (v : Value), BindsTo s fd ⟨[v], []⟩ [("_law_script", v)]) ∧ ∀ base : Heap, K.In base → base.Ns mainGlobals mg → FnOk l.prog w K mg base CX0 230 fa fd ["_law_script"] (spLaw K) := by
  have e := hfa.symm.trans (PySem.W.mg_of X G aL)
  cases e
  have F0 := fun_mk (st := s_law_mixed) l0 c0 k0
  have F1 := fun_mk (st := s_law_stream) l1 c1 k1
  have F2 := fun_mk (st := s_law_statement) l2 c2 k2
  have F3 := fun_mk (st := s_law_text) l3 c3 k3
  have F4 := fun_mk (st := s_law_bracketed) l4 c4 k4
  have F5 := fun_mk (st := s_law_letters) l5 c5 k5
  have F6 := fun_mk (st := s_law_loose) l6 c6 k6
  have F7 := fun_mk (st := s_law_loose_part) l7 c7 k7
  have F8 := fun_mk (st := s_law_passed) l8 c8 k8
  have F9 := fun_mk (st := s_law_all) l9 c9 k9
  have F10 := fun_mk (st := s_law_part) l10 c10 k10
  have F11 := fun_mk (st := s_law_due) l11 c11 k11
  have F12 := fun_mk (st := s_token_at) l12 c12 k12
  have F13 := fun_mk (st := s_tokens_of) l13 c13 k13
  have F14 := fun_mk (st := s_with_joining) l14 c14 k14
  have F15 := fun_mk (st := s_with_nots) l15 c15 k15
  have F16 := fun_mk (st := s_part_from) l16 c16 k16
  have F17 := fun_mk (st := s_part_after) l17 c17 k17
  have F18 := fun_mk (st := s_read) l18 c18 k18
  have F19 := fun_mk (st := s_law_holds) l19 c19 k19
  have F20 := fun_mk (st := s_law_bent) l20 c20 k20
  have T : Txt K mg := {
    a_law_mixed := f0, fd_law_mixed := _, d_law_mixed := ⟨F0, PySem.W.mg_of X G a0, F0.binds fun _ _ _ _ _ _ us hl => us2 (fun _ _ => rfl) us hl⟩
    a_law_stream := f1, fd_law_stream := _, d_law_stream := ⟨F1, PySem.W.mg_of X G a1, F1.binds fun _ _ _ _ _ _ us hl => us2 (fun _ _ => rfl) us hl⟩
    a_law_statement := f2, fd_law_statement := _, d_law_statement := ⟨F2, PySem.W.mg_of X G a2, F2.binds fun _ _ _ _ _ _ us hl => us2 (fun _ _ => rfl) us hl⟩
    a_law_text := f3, fd_law_text := _, d_law_text := ⟨F3, PySem.W.mg_of X G a3, F3.binds fun _ _ _ _ _ _ us hl => us1 (fun _ => rfl) us hl⟩
    a_law_bracketed := f4, fd_law_bracketed := _, d_law_bracketed := ⟨F4, PySem.W.mg_of X G a4, F4.binds fun _ _ _ _ _ _ us hl => us1 (fun _ => rfl) us hl⟩
    a_law_letters := f5, fd_law_letters := _, d_law_letters := ⟨F5, PySem.W.mg_of X G a5, F5.binds fun _ _ _ _ _ _ us hl => us2 (fun _ _ => rfl) us hl⟩
    a_law_loose := f6, fd_law_loose := _, d_law_loose := ⟨F6, PySem.W.mg_of X G a6, F6.binds fun _ _ _ _ _ _ us hl => us2 (fun _ _ => rfl) us hl⟩
    a_law_loose_part := f7, fd_law_loose_part := _, d_law_loose_part := ⟨F7, PySem.W.mg_of X G a7, F7.binds fun _ _ _ _ _ _ us hl => us2 (fun _ _ => rfl) us hl⟩
    a_law_passed := f8, fd_law_passed := _, d_law_passed := ⟨F8, PySem.W.mg_of X G a8, F8.binds fun _ _ _ _ _ _ us hl => us3 (fun _ _ _ => rfl) us hl⟩
    a_law_all := f9, fd_law_all := _, d_law_all := ⟨F9, PySem.W.mg_of X G a9, F9.binds fun _ _ _ _ _ _ us hl => us2 (fun _ _ => rfl) us hl⟩
    a_law_part := f10, fd_law_part := _, d_law_part := ⟨F10, PySem.W.mg_of X G a10, F10.binds fun _ _ _ _ _ _ us hl => us2 (fun _ _ => rfl) us hl⟩
    a_law_due := f11, fd_law_due := _, d_law_due := ⟨F11, PySem.W.mg_of X G a11, F11.binds fun _ _ _ _ _ _ us hl => us1 (fun _ => rfl) us hl⟩
    a_token_at := f12, fd_token_at := _, d_token_at := ⟨F12, PySem.W.mg_of X G a12, F12.binds fun _ _ _ _ _ _ us hl => us2 (fun _ _ => rfl) us hl⟩
    a_tokens_of := f13, fd_tokens_of := _, d_tokens_of := ⟨F13, PySem.W.mg_of X G a13, F13.binds fun _ _ _ _ _ _ us hl => us1 (fun _ => rfl) us hl⟩
    a_with_joining := f14, fd_with_joining := _, d_with_joining := ⟨F14, PySem.W.mg_of X G a14, F14.binds fun _ _ _ _ _ _ us hl => us2 (fun _ _ => rfl) us hl⟩
    a_with_nots := f15, fd_with_nots := _, d_with_nots := ⟨F15, PySem.W.mg_of X G a15, F15.binds fun _ _ _ _ _ _ us hl => us2 (fun _ _ => rfl) us hl⟩
    a_part_from := f16, fd_part_from := _, d_part_from := ⟨F16, PySem.W.mg_of X G a16, F16.binds fun _ _ _ _ _ _ us hl => us2 (fun _ _ => rfl) us hl⟩
    a_part_after := f17, fd_part_after := _, d_part_after := ⟨F17, PySem.W.mg_of X G a17, F17.binds fun _ _ _ _ _ _ us hl => us3 (fun _ _ _ => rfl) us hl⟩
    a_read := f18, fd_read := _, d_read := ⟨F18, PySem.W.mg_of X G a18, F18.binds fun _ _ _ _ _ _ us hl => us1 (fun _ => rfl) us hl⟩
    a_law_holds := f19, fd_law_holds := _, d_law_holds := ⟨F19, PySem.W.mg_of X G a19, F19.binds fun _ _ _ _ _ _ us hl => us1 (fun _ => rfl) us hl⟩
    a_law_bent := f20, fd_law_bent := _, d_law_bent := ⟨F20, PySem.W.mg_of X G a20, F20.binds fun _ _ _ _ _ _ us hl => us2 (fun _ _ => rfl) us hl⟩
    n_ValueError := PySem.W.mg_none_of X G z_ValueError
    n_int := PySem.W.mg_none_of X G z_int
    n_isinstance := PySem.W.mg_none_of X G z_isinstance
    n_len := PySem.W.mg_none_of X G z_len
    n_range := PySem.W.mg_none_of X G z_range
    n_str := PySem.W.mg_none_of X G z_str
    a_SPACED := ga_SPACED, g_SPACED := PySem.W.mg_of X G g_SPACED, q_SPACED := fun H => .inr ⟨_, _, _, h_SPACED, rfl, rfl, (by show 4 ≤ sizeLine; decide), (.cons ⟨_, rfl⟩ (.cons ⟨_, rfl⟩ (.cons ⟨_, rfl⟩ (.cons ⟨_, rfl⟩ .nil))))⟩
    a_JOINING := ga_JOINING, g_JOINING := PySem.W.mg_of X G g_JOINING, q_JOINING := fun H => .inr ⟨_, _, _, h_JOINING, rfl, rfl, (by show 3 ≤ sizeLine; decide), (.cons ⟨_, rfl⟩ (.cons ⟨_, rfl⟩ (.cons ⟨_, rfl⟩ .nil)))⟩
    t_LETTERS := tk_LETTERS, g_LETTERS := PySem.W.mg_of X G g_LETTERS
    a_NoStatement := ca_NoStatement, g_NoStatement := PySem.W.mg_of X G g_NoStatement, x_NoStatement := x_NoStatement
    a_FormError := ca_FormError, g_FormError := PySem.W.mg_of X G g_FormError, x_FormError := x_FormError
    a_NoForm := ca_NoForm, g_NoForm := PySem.W.mg_of X G g_NoForm, x_NoForm := x_NoForm
    a_NoLine := ca_NoLine, g_NoLine := PySem.W.mg_of X G g_NoLine, x_NoLine := x_NoLine
    a_NoName := ca_NoName, g_NoName := PySem.W.mg_of X G g_NoName, x_NoName := x_NoName
    a_NoPull := ca_NoPull, g_NoPull := PySem.W.mg_of X G g_NoPull, x_NoPull := x_NoPull
    a_NoYesNo := ca_NoYesNo, g_NoYesNo := PySem.W.mg_of X G g_NoYesNo, x_NoYesNo := x_NoYesNo
    a_TooMany := ca_TooMany, g_TooMany := PySem.W.mg_of X G g_TooMany, x_TooMany := x_TooMany
    i_NoStatement_NoStatement := i_NoStatement_NoStatement
    i_NoStatement_FormError := i_NoStatement_FormError
    i_NoStatement_NoForm := i_NoStatement_NoForm
    i_NoStatement_NoLine := i_NoStatement_NoLine
    i_NoStatement_NoName := i_NoStatement_NoName
    i_NoStatement_NoPull := i_NoStatement_NoPull
    i_NoStatement_NoYesNo := i_NoStatement_NoYesNo
    i_NoStatement_TooMany := i_NoStatement_TooMany
    v_NoStatement := v_NoStatement
  }
  have FL := fun_mk (st := s_law) lL cL kL
  exact ⟨PySem.W.fnOf "law" "law" (defArgs s_law) (defBody s_law) (defScope s_law) .none kVL dcL pmL anL cdL ctL, fun s v => .of_eq rfl, fun base _ _ => ok_law FL T⟩
noncomputable def K (P : Params) : PySem.W.Frag :=
  (nat_lit 3, ⟨.type "dict", none, .dict #[⟨PyData.keyHash P "__name__", .str "__name__" 165, .str "law_onceform_k27_texts_read" 396⟩, ⟨PyData.keyHash P "__doc__", .str "__doc__" 166, .none⟩, ⟨PyData.keyHash P "__package__", .str "__package__" 167, .none⟩, ⟨PyData.keyHash P "__loader__", .str "__loader__" 168, .builtin "__main__.__loader__#opaque"⟩, ⟨PyData.keyHash P "__spec__", .str "__spec__" 169, .none⟩, ⟨PyData.keyHash P "__annotations__", .str "__annotations__" 170, .ref 6⟩, ⟨PyData.keyHash P "__builtins__", .str "__builtins__" 171, .ref 4⟩, ⟨PyData.keyHash P "__file__", .str "__file__" 173, .str "/claim/cut.py" 172⟩, ⟨PyData.keyHash P "__cached__", .str "__cached__" 174, .none⟩, ⟨PyData.keyHash P "FormError", .str "FormError" 206, .ref 24⟩, ⟨PyData.keyHash P "NoStatement", .str "NoStatement" 222, .ref 37⟩, ⟨PyData.keyHash P "NoPull", .str "NoPull" 238, .ref 49⟩, ⟨PyData.keyHash P "NoForm", .str "NoForm" 254, .ref 61⟩, ⟨PyData.keyHash P "NoLine", .str "NoLine" 270, .ref 73⟩, ⟨PyData.keyHash P "NoName", .str "NoName" 286, .ref 85⟩, ⟨PyData.keyHash P "NoYesNo", .str "NoYesNo" 302, .ref 97⟩, ⟨PyData.keyHash P "TooMany", .str "TooMany" 318, .ref 109⟩, ⟨PyData.keyHash P "LETTERS", .str "LETTERS" 322, .str "abcdefghijklmnop" 321⟩, ⟨PyData.keyHash P "JOINING", .str "JOINING" 326, .ref 112⟩, ⟨PyData.keyHash P "SPACED", .str "SPACED" 331, .ref 113⟩, ⟨PyData.keyHash P "read", .str "read" 341, .ref 120⟩, ⟨PyData.keyHash P "tokens_of", .str "tokens_of" 351, .ref 127⟩, ⟨PyData.keyHash P "token_at", .str "token_at" 360, .ref 134⟩, ⟨PyData.keyHash P "part_from", .str "part_from" 369, .ref 141⟩, ⟨PyData.keyHash P "part_after", .str "part_after" 379, .ref 148⟩, ⟨PyData.keyHash P "with_nots", .str "with_nots" 387, .ref 155⟩, ⟨PyData.keyHash P "with_joining", .str "with_joining" 395, .ref 162⟩, ⟨PyData.keyHash P "_law_at", .str "_law_at" 405, .ref 169⟩, ⟨PyData.keyHash P "_law_mixed", .str "_law_mixed" 414, .ref 176⟩, ⟨PyData.keyHash P "_law_stream", .str "_law_stream" 426, .ref 183⟩, ⟨PyData.keyHash P "_law_statement", .str "_law_statement" 438, .ref 190⟩, ⟨PyData.keyHash P "_law_letters", .str "_law_letters" 449, .ref 197⟩, ⟨PyData.keyHash P "_law_holds_at", .str "_law_holds_at" 459, .ref 204⟩, ⟨PyData.keyHash P "_law_spread", .str "_law_spread" 465, .ref 209⟩, ⟨PyData.keyHash P "_law_bracketed", .str "_law_bracketed" 472, .ref 216⟩, ⟨PyData.keyHash P "_law_text", .str "_law_text" 480, .ref 223⟩, ⟨PyData.keyHash P "_law_loose", .str "_law_loose" 490, .ref 230⟩, ⟨PyData.keyHash P "_law_loose_part", .str "_law_loose_part" 499, .ref 237⟩, ⟨PyData.keyHash P "_law_bent", .str "_law_bent" 511, .ref 244⟩, ⟨PyData.keyHash P "_law_passed", .str "_law_passed" 520, .ref 251⟩, ⟨PyData.keyHash P "_law_part", .str "_law_part" 531, .ref 258⟩, ⟨PyData.keyHash P "_law_all", .str "_law_all" 544, .ref 265⟩, ⟨PyData.keyHash P "_law_due", .str "_law_due" 553, .ref 272⟩, ⟨PyData.keyHash P "_law_holds", .str "_law_holds" 565, .ref 279⟩, ⟨PyData.keyHash P "law", .str "law" 577, .ref 286⟩] 45, #[]⟩) ::
  (nat_lit 23, ⟨.type "dict", none, .dict #[⟨PyData.keyHash P "__module__", .str "__module__" 196, .str "onceform.errors" 187⟩, ⟨PyData.keyHash P "__firstlineno__", .str "__firstlineno__" 200, .int 2 199⟩, ⟨PyData.keyHash P "__static_attributes__", .str "__static_attributes__" 201, .ref 22⟩, ⟨PyData.keyHash P "__weakref__", .str "__weakref__" 203, .ref 25⟩, ⟨PyData.keyHash P "__doc__", .str "__doc__" 204, .none⟩] 3, #[]⟩) ::
  (nat_lit 24, ⟨.type "type", none, .cls ⟨"FormError", [.type "ValueError"], [.ref 24, .type "ValueError", .type "Exception", .type "BaseException", .type "object"], 23, "FormError", true, [], [.ref 37, .ref 49, .ref 61, .ref 73, .ref 85, .ref 97, .ref 109], false, none, false⟩, #[some (.ref 15), none, some (.str "FormError" 189), some (.str "FormError" 197), some (.builtin "ValueError.__new__"), some (.bool true)]⟩) ::
  (nat_lit 36, ⟨.type "dict", none, .dict #[⟨PyData.keyHash P "__module__", .str "__module__" 214, .str "onceform.errors" 187⟩, ⟨PyData.keyHash P "__firstlineno__", .str "__firstlineno__" 218, .int 4 217⟩, ⟨PyData.keyHash P "__static_attributes__", .str "__static_attributes__" 219, .ref 35⟩, ⟨PyData.keyHash P "__doc__", .str "__doc__" 220, .none⟩] 2, #[]⟩) ::
  (nat_lit 37, ⟨.type "type", none, .cls ⟨"NoStatement", [.ref 24], [.ref 37, .ref 24, .type "ValueError", .type "Exception", .type "BaseException", .type "object"], 36, "NoStatement", true, [], [], false, none, false⟩, #[some (.ref 28), none, some (.str "NoStatement" 207), some (.str "NoStatement" 215), some (.builtin "ValueError.__new__"), some (.bool true)]⟩) ::
  (nat_lit 48, ⟨.type "dict", none, .dict #[⟨PyData.keyHash P "__module__", .str "__module__" 230, .str "onceform.errors" 187⟩, ⟨PyData.keyHash P "__firstlineno__", .str "__firstlineno__" 234, .int 6 233⟩, ⟨PyData.keyHash P "__static_attributes__", .str "__static_attributes__" 235, .ref 47⟩, ⟨PyData.keyHash P "__doc__", .str "__doc__" 236, .none⟩] 2, #[]⟩) ::
  (nat_lit 49, ⟨.type "type", none, .cls ⟨"NoPull", [.ref 24], [.ref 49, .ref 24, .type "ValueError", .type "Exception", .type "BaseException", .type "object"], 48, "NoPull", true, [], [], false, none, false⟩, #[some (.ref 40), none, some (.str "NoPull" 223), some (.str "NoPull" 231), some (.builtin "ValueError.__new__"), some (.bool true)]⟩) ::
  (nat_lit 60, ⟨.type "dict", none, .dict #[⟨PyData.keyHash P "__module__", .str "__module__" 246, .str "onceform.errors" 187⟩, ⟨PyData.keyHash P "__firstlineno__", .str "__firstlineno__" 250, .int 8 249⟩, ⟨PyData.keyHash P "__static_attributes__", .str "__static_attributes__" 251, .ref 59⟩, ⟨PyData.keyHash P "__doc__", .str "__doc__" 252, .none⟩] 2, #[]⟩) ::
  (nat_lit 61, ⟨.type "type", none, .cls ⟨"NoForm", [.ref 24], [.ref 61, .ref 24, .type "ValueError", .type "Exception", .type "BaseException", .type "object"], 60, "NoForm", true, [], [], false, none, false⟩, #[some (.ref 52), none, some (.str "NoForm" 239), some (.str "NoForm" 247), some (.builtin "ValueError.__new__"), some (.bool true)]⟩) ::
  (nat_lit 72, ⟨.type "dict", none, .dict #[⟨PyData.keyHash P "__module__", .str "__module__" 262, .str "onceform.errors" 187⟩, ⟨PyData.keyHash P "__firstlineno__", .str "__firstlineno__" 266, .int 10 265⟩, ⟨PyData.keyHash P "__static_attributes__", .str "__static_attributes__" 267, .ref 71⟩, ⟨PyData.keyHash P "__doc__", .str "__doc__" 268, .none⟩] 2, #[]⟩) ::
  (nat_lit 73, ⟨.type "type", none, .cls ⟨"NoLine", [.ref 24], [.ref 73, .ref 24, .type "ValueError", .type "Exception", .type "BaseException", .type "object"], 72, "NoLine", true, [], [], false, none, false⟩, #[some (.ref 64), none, some (.str "NoLine" 255), some (.str "NoLine" 263), some (.builtin "ValueError.__new__"), some (.bool true)]⟩) ::
  (nat_lit 84, ⟨.type "dict", none, .dict #[⟨PyData.keyHash P "__module__", .str "__module__" 278, .str "onceform.errors" 187⟩, ⟨PyData.keyHash P "__firstlineno__", .str "__firstlineno__" 282, .int 12 281⟩, ⟨PyData.keyHash P "__static_attributes__", .str "__static_attributes__" 283, .ref 83⟩, ⟨PyData.keyHash P "__doc__", .str "__doc__" 284, .none⟩] 2, #[]⟩) ::
  (nat_lit 85, ⟨.type "type", none, .cls ⟨"NoName", [.ref 24], [.ref 85, .ref 24, .type "ValueError", .type "Exception", .type "BaseException", .type "object"], 84, "NoName", true, [], [], false, none, false⟩, #[some (.ref 76), none, some (.str "NoName" 271), some (.str "NoName" 279), some (.builtin "ValueError.__new__"), some (.bool true)]⟩) ::
  (nat_lit 96, ⟨.type "dict", none, .dict #[⟨PyData.keyHash P "__module__", .str "__module__" 294, .str "onceform.errors" 187⟩, ⟨PyData.keyHash P "__firstlineno__", .str "__firstlineno__" 298, .int 14 297⟩, ⟨PyData.keyHash P "__static_attributes__", .str "__static_attributes__" 299, .ref 95⟩, ⟨PyData.keyHash P "__doc__", .str "__doc__" 300, .none⟩] 2, #[]⟩) ::
  (nat_lit 97, ⟨.type "type", none, .cls ⟨"NoYesNo", [.ref 24], [.ref 97, .ref 24, .type "ValueError", .type "Exception", .type "BaseException", .type "object"], 96, "NoYesNo", true, [], [], false, none, false⟩, #[some (.ref 88), none, some (.str "NoYesNo" 287), some (.str "NoYesNo" 295), some (.builtin "ValueError.__new__"), some (.bool true)]⟩) ::
  (nat_lit 108, ⟨.type "dict", none, .dict #[⟨PyData.keyHash P "__module__", .str "__module__" 310, .str "onceform.errors" 187⟩, ⟨PyData.keyHash P "__firstlineno__", .str "__firstlineno__" 314, .int 16 313⟩, ⟨PyData.keyHash P "__static_attributes__", .str "__static_attributes__" 315, .ref 107⟩, ⟨PyData.keyHash P "__doc__", .str "__doc__" 316, .none⟩] 2, #[]⟩) ::
  (nat_lit 109, ⟨.type "type", none, .cls ⟨"TooMany", [.ref 24], [.ref 109, .ref 24, .type "ValueError", .type "Exception", .type "BaseException", .type "object"], 108, "TooMany", true, [], [], false, none, false⟩, #[some (.ref 100), none, some (.str "TooMany" 303), some (.str "TooMany" 311), some (.builtin "ValueError.__new__"), some (.bool true)]⟩) ::
  (nat_lit 112, ⟨.type "tuple", none, .seq #[.str "and" 323, .str "or" 324, .str "xor" 325] 0, #[]⟩) ::
  (nat_lit 113, ⟨.type "tuple", none, .seq #[.str "not " 327, .str " and " 328, .str " or " 329, .str " xor " 330] 0, #[]⟩) ::
  (nat_lit 119, ⟨.type "code", none, .fields #[.str "read" 332, .str "read" 333, .str "/claim/cut.py" 334, .int 22 0, .int 1 0, .int 0 0, .int 0 0, .int 3 0, .ref 114, .bool true, .int 181 0, .ref 115, .none, .ref 116, .ref 117, .ref 118, .int 339 0, .int 22 0, .str "/claim/cut.py" 340], #[]⟩) ::
  (nat_lit 120, ⟨.type "function", none, .func (PySem.W.fnOf "read" "read" (defArgs s_read) (defBody s_read) (defScope s_read) .none .none .none (.str "onceform.statements" 319) none (.ref 119) .none), #[]⟩) ::
  (nat_lit 126, ⟨.type "code", none, .fields #[.str "tokens_of" 342, .str "tokens_of" 343, .str "/claim/cut.py" 344, .int 36 0, .int 1 0, .int 0 0, .int 0 0, .int 3 0, .ref 121, .bool true, .int 181 0, .ref 122, .none, .ref 123, .ref 124, .ref 125, .int 349 0, .int 36 0, .str "/claim/cut.py" 350], #[]⟩) ::
  (nat_lit 127, ⟨.type "function", none, .func (PySem.W.fnOf "tokens_of" "tokens_of" (defArgs s_tokens_of) (defBody s_tokens_of) (defScope s_tokens_of) .none .none .none (.str "onceform.statements" 319) none (.ref 126) .none), #[]⟩) ::
  (nat_lit 133, ⟨.type "code", none, .fields #[.str "token_at" 352, .str "token_at" 353, .str "/claim/cut.py" 354, .int 44 0, .int 2 0, .int 0 0, .int 0 0, .int 3 0, .ref 128, .bool true, .int 181 0, .ref 129, .none, .ref 130, .ref 131, .ref 132, .int 358 0, .int 44 0, .str "/claim/cut.py" 359], #[]⟩) ::
  (nat_lit 134, ⟨.type "function", none, .func (PySem.W.fnOf "token_at" "token_at" (defArgs s_token_at) (defBody s_token_at) (defScope s_token_at) .none .none .none (.str "onceform.statements" 319) none (.ref 133) .none), #[]⟩) ::
  (nat_lit 140, ⟨.type "code", none, .fields #[.str "part_from" 361, .str "part_from" 362, .str "/claim/cut.py" 363, .int 49 0, .int 2 0, .int 0 0, .int 0 0, .int 3 0, .ref 135, .bool true, .int 181 0, .ref 136, .none, .ref 137, .ref 138, .ref 139, .int 367 0, .int 49 0, .str "/claim/cut.py" 368], #[]⟩) ::
  (nat_lit 141, ⟨.type "function", none, .func (PySem.W.fnOf "part_from" "part_from" (defArgs s_part_from) (defBody s_part_from) (defScope s_part_from) .none .none .none (.str "onceform.statements" 319) none (.ref 140) .none), #[]⟩) ::
  (nat_lit 147, ⟨.type "code", none, .fields #[.str "part_after" 370, .str "part_after" 371, .str "/claim/cut.py" 372, .int 59 0, .int 3 0, .int 0 0, .int 0 0, .int 3 0, .ref 142, .bool true, .int 181 0, .ref 143, .none, .ref 144, .ref 145, .ref 146, .int 377 0, .int 59 0, .str "/claim/cut.py" 378], #[]⟩) ::
  (nat_lit 148, ⟨.type "function", none, .func (PySem.W.fnOf "part_after" "part_after" (defArgs s_part_after) (defBody s_part_after) (defScope s_part_after) .none .none .none (.str "onceform.statements" 319) none (.ref 147) .none), #[]⟩) ::
  (nat_lit 154, ⟨.type "code", none, .fields #[.str "with_nots" 380, .str "with_nots" 381, .str "/claim/cut.py" 382, .int 73 0, .int 2 0, .int 0 0, .int 0 0, .int 3 0, .ref 149, .bool true, .int 181 0, .ref 150, .none, .ref 151, .ref 152, .ref 153, .int 385 0, .int 73 0, .str "/claim/cut.py" 386], #[]⟩) ::
  (nat_lit 155, ⟨.type "function", none, .func (PySem.W.fnOf "with_nots" "with_nots" (defArgs s_with_nots) (defBody s_with_nots) (defScope s_with_nots) .none .none .none (.str "onceform.statements" 319) none (.ref 154) .none), #[]⟩) ::
  (nat_lit 161, ⟨.type "code", none, .fields #[.str "with_joining" 388, .str "with_joining" 389, .str "/claim/cut.py" 390, .int 77 0, .int 2 0, .int 0 0, .int 0 0, .int 3 0, .ref 156, .bool true, .int 181 0, .ref 157, .none, .ref 158, .ref 159, .ref 160, .int 393 0, .int 77 0, .str "/claim/cut.py" 394], #[]⟩) ::
  (nat_lit 162, ⟨.type "function", none, .func (PySem.W.fnOf "with_joining" "with_joining" (defArgs s_with_joining) (defBody s_with_joining) (defScope s_with_joining) .none .none .none (.str "onceform.statements" 319) none (.ref 161) .none), #[]⟩) ::
  (nat_lit 175, ⟨.type "code", none, .fields #[.str "_law_mixed" 406, .str "_law_mixed" 407, .str "/claim/cut.py" 408, .int 86 0, .int 2 0, .int 0 0, .int 0 0, .int 3 0, .ref 170, .bool true, .int 181 0, .ref 171, .none, .ref 172, .ref 173, .ref 174, .int 412 0, .int 86 0, .str "/claim/cut.py" 413], #[]⟩) ::
  (nat_lit 176, ⟨.type "function", none, .func (PySem.W.fnOf "_law_mixed" "_law_mixed" (defArgs s_law_mixed) (defBody s_law_mixed) (defScope s_law_mixed) .none .none .none (.str "law_onceform_k27_texts_read" 396) none (.ref 175) .none), #[]⟩) ::
  (nat_lit 182, ⟨.type "code", none, .fields #[.str "_law_stream" 415, .str "_law_stream" 416, .str "/claim/cut.py" 417, .int 90 0, .int 2 0, .int 0 0, .int 0 0, .int 3 0, .ref 177, .bool true, .int 181 0, .ref 178, .none, .ref 179, .ref 180, .ref 181, .int 424 0, .int 90 0, .str "/claim/cut.py" 425], #[]⟩) ::
  (nat_lit 183, ⟨.type "function", none, .func (PySem.W.fnOf "_law_stream" "_law_stream" (defArgs s_law_stream) (defBody s_law_stream) (defScope s_law_stream) .none .none .none (.str "law_onceform_k27_texts_read" 396) none (.ref 182) .none), #[]⟩) ::
  (nat_lit 189, ⟨.type "code", none, .fields #[.str "_law_statement" 427, .str "_law_statement" 428, .str "/claim/cut.py" 429, .int 103 0, .int 2 0, .int 0 0, .int 0 0, .int 3 0, .ref 184, .bool true, .int 181 0, .ref 185, .none, .ref 186, .ref 187, .ref 188, .int 436 0, .int 103 0, .str "/claim/cut.py" 437], #[]⟩) ::
  (nat_lit 190, ⟨.type "function", none, .func (PySem.W.fnOf "_law_statement" "_law_statement" (defArgs s_law_statement) (defBody s_law_statement) (defScope s_law_statement) .none .none .none (.str "law_onceform_k27_texts_read" 396) none (.ref 189) .none), #[]⟩) ::
  (nat_lit 196, ⟨.type "code", none, .fields #[.str "_law_letters" 439, .str "_law_letters" 440, .str "/claim/cut.py" 441, .int 123 0, .int 2 0, .int 0 0, .int 0 0, .int 3 0, .ref 191, .bool true, .int 181 0, .ref 192, .none, .ref 193, .ref 194, .ref 195, .int 447 0, .int 123 0, .str "/claim/cut.py" 448], #[]⟩) ::
  (nat_lit 197, ⟨.type "function", none, .func (PySem.W.fnOf "_law_letters" "_law_letters" (defArgs s_law_letters) (defBody s_law_letters) (defScope s_law_letters) .none .none .none (.str "law_onceform_k27_texts_read" 396) none (.ref 196) .none), #[]⟩) ::
  (nat_lit 215, ⟨.type "code", none, .fields #[.str "_law_bracketed" 466, .str "_law_bracketed" 467, .str "/claim/cut.py" 468, .int 147 0, .int 1 0, .int 0 0, .int 0 0, .int 3 0, .ref 210, .bool true, .int 181 0, .ref 211, .none, .ref 212, .ref 213, .ref 214, .int 470 0, .int 147 0, .str "/claim/cut.py" 471], #[]⟩) ::
  (nat_lit 216, ⟨.type "function", none, .func (PySem.W.fnOf "_law_bracketed" "_law_bracketed" (defArgs s_law_bracketed) (defBody s_law_bracketed) (defScope s_law_bracketed) .none .none .none (.str "law_onceform_k27_texts_read" 396) none (.ref 215) .none), #[]⟩) ::
  (nat_lit 222, ⟨.type "code", none, .fields #[.str "_law_text" 473, .str "_law_text" 474, .str "/claim/cut.py" 475, .int 151 0, .int 1 0, .int 0 0, .int 0 0, .int 3 0, .ref 217, .bool true, .int 181 0, .ref 218, .none, .ref 219, .ref 220, .ref 221, .int 478 0, .int 151 0, .str "/claim/cut.py" 479], #[]⟩) ::
  (nat_lit 223, ⟨.type "function", none, .func (PySem.W.fnOf "_law_text" "_law_text" (defArgs s_law_text) (defBody s_law_text) (defScope s_law_text) .none .none .none (.str "law_onceform_k27_texts_read" 396) none (.ref 222) .none), #[]⟩) ::
  (nat_lit 229, ⟨.type "code", none, .fields #[.str "_law_loose" 481, .str "_law_loose" 482, .str "/claim/cut.py" 483, .int 160 0, .int 2 0, .int 0 0, .int 0 0, .int 3 0, .ref 224, .bool true, .int 181 0, .ref 225, .none, .ref 226, .ref 227, .ref 228, .int 488 0, .int 160 0, .str "/claim/cut.py" 489], #[]⟩) ::
  (nat_lit 230, ⟨.type "function", none, .func (PySem.W.fnOf "_law_loose" "_law_loose" (defArgs s_law_loose) (defBody s_law_loose) (defScope s_law_loose) .none .none .none (.str "law_onceform_k27_texts_read" 396) none (.ref 229) .none), #[]⟩) ::
  (nat_lit 236, ⟨.type "code", none, .fields #[.str "_law_loose_part" 491, .str "_law_loose_part" 492, .str "/claim/cut.py" 493, .int 171 0, .int 2 0, .int 0 0, .int 0 0, .int 3 0, .ref 231, .bool true, .int 181 0, .ref 232, .none, .ref 233, .ref 234, .ref 235, .int 497 0, .int 171 0, .str "/claim/cut.py" 498], #[]⟩) ::
  (nat_lit 237, ⟨.type "function", none, .func (PySem.W.fnOf "_law_loose_part" "_law_loose_part" (defArgs s_law_loose_part) (defBody s_law_loose_part) (defScope s_law_loose_part) .none .none .none (.str "law_onceform_k27_texts_read" 396) none (.ref 236) .none), #[]⟩) ::
  (nat_lit 243, ⟨.type "code", none, .fields #[.str "_law_bent" 500, .str "_law_bent" 501, .str "/claim/cut.py" 502, .int 176 0, .int 2 0, .int 0 0, .int 0 0, .int 3 0, .ref 238, .bool true, .int 181 0, .ref 239, .none, .ref 240, .ref 241, .ref 242, .int 509 0, .int 176 0, .str "/claim/cut.py" 510], #[]⟩) ::
  (nat_lit 244, ⟨.type "function", none, .func (PySem.W.fnOf "_law_bent" "_law_bent" (defArgs s_law_bent) (defBody s_law_bent) (defScope s_law_bent) .none .none .none (.str "law_onceform_k27_texts_read" 396) none (.ref 243) .none), #[]⟩) ::
  (nat_lit 250, ⟨.type "code", none, .fields #[.str "_law_passed" 512, .str "_law_passed" 513, .str "/claim/cut.py" 514, .int 192 0, .int 3 0, .int 0 0, .int 0 0, .int 3 0, .ref 245, .bool true, .int 181 0, .ref 246, .none, .ref 247, .ref 248, .ref 249, .int 518 0, .int 192 0, .str "/claim/cut.py" 519], #[]⟩) ::
  (nat_lit 251, ⟨.type "function", none, .func (PySem.W.fnOf "_law_passed" "_law_passed" (defArgs s_law_passed) (defBody s_law_passed) (defScope s_law_passed) .none .none .none (.str "law_onceform_k27_texts_read" 396) none (.ref 250) .none), #[]⟩) ::
  (nat_lit 257, ⟨.type "code", none, .fields #[.str "_law_part" 521, .str "_law_part" 522, .str "/claim/cut.py" 523, .int 194 0, .int 2 0, .int 0 0, .int 0 0, .int 3 0, .ref 252, .bool true, .int 181 0, .ref 253, .none, .ref 254, .ref 255, .ref 256, .int 529 0, .int 194 0, .str "/claim/cut.py" 530], #[]⟩) ::
  (nat_lit 258, ⟨.type "function", none, .func (PySem.W.fnOf "_law_part" "_law_part" (defArgs s_law_part) (defBody s_law_part) (defScope s_law_part) .none .none .none (.str "law_onceform_k27_texts_read" 396) none (.ref 257) .none), #[]⟩) ::
  (nat_lit 264, ⟨.type "code", none, .fields #[.str "_law_all" 532, .str "_law_all" 533, .str "/claim/cut.py" 534, .int 209 0, .int 2 0, .int 0 0, .int 0 0, .int 3 0, .ref 259, .bool true, .int 181 0, .ref 260, .none, .ref 261, .ref 262, .ref 263, .int 542 0, .int 209 0, .str "/claim/cut.py" 543], #[]⟩) ::
  (nat_lit 265, ⟨.type "function", none, .func (PySem.W.fnOf "_law_all" "_law_all" (defArgs s_law_all) (defBody s_law_all) (defScope s_law_all) .none .none .none (.str "law_onceform_k27_texts_read" 396) none (.ref 264) .none), #[]⟩) ::
  (nat_lit 271, ⟨.type "code", none, .fields #[.str "_law_due" 545, .str "_law_due" 546, .str "/claim/cut.py" 547, .int 218 0, .int 1 0, .int 0 0, .int 0 0, .int 3 0, .ref 266, .bool true, .int 181 0, .ref 267, .none, .ref 268, .ref 269, .ref 270, .int 551 0, .int 218 0, .str "/claim/cut.py" 552], #[]⟩) ::
  (nat_lit 272, ⟨.type "function", none, .func (PySem.W.fnOf "_law_due" "_law_due" (defArgs s_law_due) (defBody s_law_due) (defScope s_law_due) .none .none .none (.str "law_onceform_k27_texts_read" 396) none (.ref 271) .none), #[]⟩) ::
  (nat_lit 278, ⟨.type "code", none, .fields #[.str "_law_holds" 554, .str "_law_holds" 555, .str "/claim/cut.py" 556, .int 223 0, .int 1 0, .int 0 0, .int 0 0, .int 3 0, .ref 273, .bool true, .int 181 0, .ref 274, .none, .ref 275, .ref 276, .ref 277, .int 563 0, .int 223 0, .str "/claim/cut.py" 564], #[]⟩) ::
  (nat_lit 279, ⟨.type "function", none, .func (PySem.W.fnOf "_law_holds" "_law_holds" (defArgs s_law_holds) (defBody s_law_holds) (defScope s_law_holds) .none .none .none (.str "law_onceform_k27_texts_read" 396) none (.ref 278) .none), #[]⟩) ::
  (nat_lit 285, ⟨.type "code", none, .fields #[.str "law" 566, .str "law" 567, .str "/claim/cut.py" 568, .int 236 0, .int 1 0, .int 0 0, .int 0 0, .int 3 0, .ref 280, .bool true, .int 181 0, .ref 281, .none, .ref 282, .ref 283, .ref 284, .int 575 0, .int 236 0, .str "/claim/cut.py" 576], #[]⟩) ::
  (nat_lit 286, ⟨.type "function", none, .func (PySem.W.fnOf "law" "law" (defArgs s_law) (defBody s_law) (defScope s_law) .none .none .none (.str "law_onceform_k27_texts_read" 396) none (.ref 285) .none), #[]⟩) ::
  []
noncomputable abbrev Q : Program := PySem.W.view PySem.Challenge.rw_onceform_k27_texts_read.row.toRowW.prog [1, 2, 3, 4, 5, 6, 7, 8, 10, 11, 12, 13, 14, 15, 16, 17, 18, 19, 21, 22, 23, 24, 25, 26, 27, 28, 29, 30, 31, 32, 33, 34, 35, 36, 37, 38]
theorem as_is (P : Params) : [3, 23, 24, 36, 37, 48, 49, 60, 61, 72, 73, 84, 85, 96, 97, 108, 109, 112, 113, 119, 120, 126, 127, 133, 134, 140, 141, 147, 148, 154, 155, 161, 162, 175, 176, 182, 183, 189, 190, 196, 197, 215, 216, 222, 223, 229, 230, 236, 237, 243, 244, 250, 251, 257, 258, 264, 265, 271, 272, 278, 279, 285, 286] = (K P).map (·.1) := by kernel_rfl
noncomputable abbrev Hk : PySem.W.Hook := PySem.W.kHook K [3, 23, 24, 36, 37, 48, 49, 60, 61, 72, 73, 84, 85, 96, 97, 108, 109, 112, 113, 119, 120, 126, 127, 133, 134, 140, 141, 147, 148, 154, 155, 161, 162, 175, 176, 182, 183, 189, 190, 196, 197, 215, 216, 222, 223, 229, 230, 236, 237, 243, 244, 250, 251, 257, 258, 264, 265, 271, 272, 278, 279, 285, 286] as_is
noncomputable abbrev Xq : Shared → Bool := fun s => PySem.W.xlAt Q [] s && PySem.W.recOk (PySem.W.RowW.records PySem.Challenge.rw_onceform_k27_texts_read.row.toRowW) s
set_option maxHeartbeats 0 in
theorem left : PySem.W.LeftO PySem.Challenge.rw_onceform_k27_texts_read.row.toRowW.prog Q [] Xq Hk.obs Hk.val 5190 := OH.left (by kernel_rfl) (by decide) (fun s => by kernel_rfl) (fun w => by kernel_rfl)
set_option maxHeartbeats 0 in
theorem said : PySem.Challenge.rw_onceform_k27_texts_read.wellSaid = true := (congrFun PySem.W.Fast.te9446332074065402090 _).trans (by kernel_rfl)
theorem walk {l : PySem.W.OpenLaw} {q : Program} {loose : List Str} {XP : (Str → Option Value) → Heap → Prop} {YP : World → Heap → Prop} {d : DefRec} {K : Params → PySem.W.Frag} (hn : l.most = some 63) (hdf : d.params.defaults = [])
    (hY : ∀ (w : World) (h : Heap), YP w h → (K w.params).In h)
    (F : ∀ (w : World) (mg : Str → Option Value) (fa : Addr) (h : Heap), (K w.params).In h → h.Ns mainGlobals mg → mg d.name = some (.ref fa) →
      ∃ fd : FuncData, (∀ (s : Shared) (u : Value), BindsTo s fd ⟨[u], []⟩ [("_law_script", u)]) ∧ ∀ base : Heap, (K w.params).In base → base.Ns mainGlobals mg → FnOk l.prog w (K w.params) mg base CX0 230 fa fd ["_law_script"] (spLaw (K w.params))) :
    PySem.W.WalkO q loose XP YP l.row.toRowW d [] (fun f vs => PySem.call f vs) :=
  L2.walk_ofB (n := 63) (k := 230) (x := "_law_script") (CX := fun _ => CX0) (sp := fun w => spLaw (K w.params)) hn (by decide) hdf ⟨rfl, by decide, by decide⟩ hY F (fun _ _ a ns hl hb _ hS => ⟨a, ns, rfl, hS, hl, hb, fun _ => rfl⟩) fun _ _ _ _ _ z => z
end My
open PySem PySem.W PyProof.Rows
set_option maxRecDepth 100000 in
set_option maxHeartbeats 0 in
theorem PySem.Challenge.cw_onceform_k27_texts_read_holds : PySem.Challenge.rw_onceform_k27_texts_read.Holds := by
  w_on
  refine PySem.W.holds_law My.said fun said => ?_
  refine PySem.W.holds_open (q := My.Q) (loose := []) (Xt := My.Xq) (XP := PySem.W.XL My.Q []) (Yf := My.Hk.obs) (Ya := My.Hk.val) (YP := PySem.W.InK My.K) (N := 5190) (d := ⟨"law", L2.defArgs My.s_law, L2.defBody My.s_law, L2.defScope My.s_law, My.defPos My.s_law⟩) (kwd := []) My.left My.Hk.of My.Hk.keeps
    (fun s e => PySem.W.xl_of s (Bool.and_eq_true_iff.mp e).1) PySem.W.XL.keeps (by kernel_rfl) (by kernel_rfl) (by kernel_rfl) (fun s e => PySem.W.recFacts_of (Bool.and_eq_true_iff.mp e).2) (by kernel_rfl) said (by decide +kernel) ⟨rfl, rfl, rfl, rfl, rfl, by decide +kernel⟩ ?hw ?hc
  case hw => w_witness2
  k_fill
  refine My.walk (K := My.K) (l := PySem.Challenge.rw_onceform_k27_texts_read) rfl rfl (fun w h Y => Y) ?F
  case F =>
    intro w mg fa h KX G hmg
    refine' My.all_mk KX G hmg ?a0 ?l0 ?c0 ?k0 ?a1 ?l1 ?c1 ?k1 ?a2 ?l2 ?c2 ?k2 ?a3 ?l3 ?c3 ?k3 ?a4 ?l4 ?c4 ?k4 ?a5 ?l5 ?c5 ?k5 ?a6 ?l6 ?c6 ?k6 ?a7 ?l7 ?c7 ?k7 ?a8 ?l8 ?c8 ?k8 ?a9 ?l9 ?c9 ?k9 ?a10 ?l10 ?c10 ?k10 ?a11 ?l11 ?c11 ?k11 ?a12 ?l12 ?c12 ?k12 ?a13 ?l13 ?c13 ?k13 ?a14 ?l14 ?c14 ?k14 ?a15 ?l15 ?c15 ?k15 ?a16 ?l16 ?c16 ?k16 ?a17 ?l17 ?c17 ?k17 ?a18 ?l18 ?c18 ?k18 ?a19 ?l19 ?c19 ?k19 ?a20 ?l20 ?c20 ?k20 ?aL ?lL ?cL ?kL ?z_ValueError ?z_int ?z_isinstance ?z_len ?z_range ?z_str ?g_SPACED ?h_SPACED ?g_JOINING ?h_JOINING ?g_LETTERS ?g_NoStatement ?g_FormError ?g_NoForm ?g_NoLine ?g_NoName ?g_NoPull ?g_NoYesNo ?g_TooMany ?x_NoStatement ?x_FormError ?x_NoForm ?x_NoLine ?x_NoName ?x_NoPull ?x_NoYesNo ?x_TooMany ?i_NoStatement_NoStatement ?i_NoStatement_FormError ?i_NoStatement_NoForm ?i_NoStatement_NoLine ?i_NoStatement_NoName ?i_NoStatement_NoPull ?i_NoStatement_NoYesNo ?i_NoStatement_TooMany ?v_NoStatement
    (case a0 => k_is)
    (case l0 => k_is)
    (case c0 => k_is)
    (case k0 => k_is)
    (case a1 => k_is)
    (case l1 => k_is)
    (case c1 => k_is)
    (case k1 => k_is)
    (case a2 => k_is)
    (case l2 => k_is)
    (case c2 => k_is)
    (case k2 => k_is)
    (case a3 => k_is)
    (case l3 => k_is)
    (case c3 => k_is)
    (case k3 => k_is)
    (case a4 => k_is)
    (case l4 => k_is)
    (case c4 => k_is)
    (case k4 => k_is)
    (case a5 => k_is)
    (case l5 => k_is)
    (case c5 => k_is)
    (case k5 => k_is)
    (case a6 => k_is)
    (case l6 => k_is)
    (case c6 => k_is)
    (case k6 => k_is)
    (case a7 => k_is)
    (case l7 => k_is)
    (case c7 => k_is)
    (case k7 => k_is)
    (case a8 => k_is)
    (case l8 => k_is)
    (case c8 => k_is)
    (case k8 => k_is)
    (case a9 => k_is)
    (case l9 => k_is)
    (case c9 => k_is)
    (case k9 => k_is)
    (case a10 => k_is)
    (case l10 => k_is)
    (case c10 => k_is)
    (case k10 => k_is)
    (case a11 => k_is)
    (case l11 => k_is)
    (case c11 => k_is)
    (case k11 => k_is)
    (case a12 => k_is)
    (case l12 => k_is)
    (case c12 => k_is)
    (case k12 => k_is)
    (case a13 => k_is)
    (case l13 => k_is)
    (case c13 => k_is)
    (case k13 => k_is)
    (case a14 => k_is)
    (case l14 => k_is)
    (case c14 => k_is)
    (case k14 => k_is)
    (case a15 => k_is)
    (case l15 => k_is)
    (case c15 => k_is)
    (case k15 => k_is)
    (case a16 => k_is)
    (case l16 => k_is)
    (case c16 => k_is)
    (case k16 => k_is)
    (case a17 => k_is)
    (case l17 => k_is)
    (case c17 => k_is)
    (case k17 => k_is)
    (case a18 => k_is)
    (case l18 => k_is)
    (case c18 => k_is)
    (case k18 => k_is)
    (case a19 => k_is)
    (case l19 => k_is)
    (case c19 => k_is)
    (case k19 => k_is)
    (case a20 => k_is)
    (case l20 => k_is)
    (case c20 => k_is)
    (case k20 => k_is)
    (case aL => k_is)
    (case lL => k_is)
    (case cL => k_is)
    (case kL => k_is)
    (case z_ValueError => k_is)
    (case z_int => k_is)
    (case z_isinstance => k_is)
    (case z_len => k_is)
    (case z_range => k_is)
    (case z_str => k_is)
    (case g_SPACED => k_is)
    (case h_SPACED => k_is)
    (case g_JOINING => k_is)
    (case h_JOINING => k_is)
    (case g_LETTERS => k_is)
    (case g_NoStatement => k_is)
    (case g_FormError => k_is)
    (case g_NoForm => k_is)
    (case g_NoLine => k_is)
    (case g_NoName => k_is)
    (case g_NoPull => k_is)
    (case g_NoYesNo => k_is)
    (case g_TooMany => k_is)
    (case x_NoStatement => kernel_rfl)
    (case x_FormError => kernel_rfl)
    (case x_NoForm => kernel_rfl)
    (case x_NoLine => kernel_rfl)
    (case x_NoName => kernel_rfl)
    (case x_NoPull => kernel_rfl)
    (case x_NoYesNo => kernel_rfl)
    (case x_TooMany => kernel_rfl)
    (case i_NoStatement_NoStatement => kernel_rfl)
    (case i_NoStatement_FormError => kernel_rfl)
    (case i_NoStatement_NoForm => kernel_rfl)
    (case i_NoStatement_NoLine => kernel_rfl)
    (case i_NoStatement_NoName => kernel_rfl)
    (case i_NoStatement_NoPull => kernel_rfl)
    (case i_NoStatement_NoYesNo => kernel_rfl)
    (case i_NoStatement_TooMany => kernel_rfl)
    (case v_NoStatement => kernel_rfl)
#print axioms PySem.Challenge.cw_onceform_k27_texts_read_holds

