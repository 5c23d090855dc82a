import PyProof.Rows.All
import Wide.All
import OpenK.AllK
import Wide.FinOn
import Lean
import PyProof.EqAt
import PyProof.EqKinds
import PyProof.TupleCall
import PyProof.NeKinds
import PyProof.WalksEnum
import PyProof.EnumMake
import PyProof.AttrMissHeap
import KE.KDictOf
import PyProof.ListNew
import PyProof.ZipIter
import PyProof.Rows.ZipGen
import KE.KIntText
import PyProof.StrLawsTight
import KE.KRevIter
import KE.KDictList
import KE.KEqDict
import PyProof.DictCopy
import KE.KSortTup
import PySem.Challenge.RW_onceform_k80_forms_written
set_option Elab.async false
set_option linter.all false
set_option maxRecDepth 100000
set_option maxHeartbeats 4000000
namespace L2
open PySem PySem.Spec PyProof.Rows

/-- a key: an int or a str -/
abbrev Key := Sum Int Str
def keyIs : Key → Value → Bool
  | .inl k, v => Value.isInt k v
  | .inr x, v => Value.isStrOf x v
def keyH (w : World) : Key → Int
  | .inl k => hashInt k
  | .inr x => hashStr w x
theorem keyIs_shape : ∀ {k : Key} {v : Value}, keyIs k v = true → (∃ i t, k = Sum.inl i ∧ v = Value.int i t) ∨ (∃ x t, k = Sum.inr x ∧ v = Value.str x t)
  | .inl i, v, h => by
    obtain ⟨t, e⟩ := Value.isInt_shape (k := i) (v := v) h
    exact .inl ⟨i, t, rfl, e⟩
  | .inr x, v, h => by
    obtain ⟨t, e⟩ := Value.isStrOf_shape (x := x) (v := v) h
    exact .inr ⟨x, t, rfl, e⟩
theorem keyIs_int (i : Int) (t : Tok) : keyIs (.inl i) (.int i t) = true := by simp [keyIs, Value.isInt]
theorem keyIs_str (x : Str) (t : Tok) : keyIs (.inr x) (.str x t) = true := by simp [keyIs, Value.isStrOf]
theorem key_ll (a b : Int) : decide ((Sum.inl a : Key) = Sum.inl b) = (a == b) := by
  by_cases e : a = b
  · subst e; simp
  · have h : ¬ (Sum.inl a : Key) = Sum.inl b := fun q => e (Sum.inl.inj q)
    rw [decide_eq_false h]
    exact (beq_eq_false_iff_ne.mpr e).symm
theorem key_rr (a b : Str) : decide ((Sum.inr a : Key) = Sum.inr b) = decide (a = b) := by
  by_cases e : a = b
  · subst e; simp
  · have h : ¬ (Sum.inr a : Key) = Sum.inr b := fun q => e (Sum.inr.inj q)
    rw [decide_eq_false h, decide_eq_false e]
theorem key_lr (a : Int) (b : Str) : decide ((Sum.inl a : Key) = Sum.inr b) = false := decide_eq_false (fun q => nomatch q)
theorem key_rl (a : Str) (b : Int) : decide ((Sum.inr a : Key) = Sum.inl b) = false := decide_eq_false (fun q => nomatch q)

def mixKind (prog : Program) (w : World) : PySem.KeyKind prog w Key where
  is := keyIs
  hash := keyH w
  inj := fun v a b ha hb => by
    rcases keyIs_shape ha with ⟨i, t, rfl, rfl⟩ | ⟨x, t, rfl, rfl⟩
    · rcases keyIs_shape hb with ⟨j, u, rfl, e⟩ | ⟨y, u, rfl, e⟩
      · injection e with e1 _; rw [e1]
      · exact nomatch e
    · rcases keyIs_shape hb with ⟨j, u, rfl, e⟩ | ⟨y, u, rfl, e⟩
      · exact nomatch e
      · injection e with e1 _; rw [e1]
  byValue := fun k v h => by
    rcases keyIs_shape h with ⟨i, t, rfl, rfl⟩ | ⟨x, t, rfl, rfl⟩ <;> rfl
  pyHash := fun hv h => by
    rcases keyIs_shape hv with ⟨i, t, rfl, rfl⟩ | ⟨x, t, rfl, rfl⟩
    · exact wpAny_pyHash_int h
    · exact wpAny_pyHash_str h
  eqBool := fun hu hv h => by
    rcases keyIs_shape hu with ⟨i, t, rfl, rfl⟩ | ⟨x, t, rfl, rfl⟩
    · rcases keyIs_shape hv with ⟨j, u, rfl, rfl⟩ | ⟨y, u, rfl, rfl⟩
      · rw [key_ll] at h; exact wpAny_eqBool_int h
      · rw [key_lr] at h; exact SeqAt.EqAt.int_str i t y u _ _ _ _ h
    · rcases keyIs_shape hv with ⟨j, u, rfl, rfl⟩ | ⟨y, u, rfl, rfl⟩
      · rw [key_rl] at h; exact SeqAt.EqAt.str_int x t j u _ _ _ _ h
      · rw [key_rr] at h; exact wpAny_eqBool_str h
  «strs» := fun k x t v h => by
    rcases keyIs_shape h with ⟨i, u, rfl, e⟩ | ⟨y, u, rfl, e⟩
    · exact nomatch e
    · injection e with e1 _
      subst e1
      cases v <;> rfl

theorem mixKind_int (prog : Program) (w : World) (i : Int) (t : Tok) : (mixKind prog w).is (.inl i) (.int i t) = true := keyIs_int i t
theorem mixKind_str (prog : Program) (w : World) (x : Str) (t : Tok) : (mixKind prog w).is (.inr x) (.str x t) = true := keyIs_str x t
end L2

namespace L2
open PySem PySem.Spec PyProof.Rows

/-- a value, without the heap -/
inductive V where
  | non | bl (b : Bool) | int (i : Int) | str (x : Str) | byt (b : Array UInt8) | flt (b : UInt64) | ref (a : Addr) | ty (n : String)
  deriving DecidableEq

def RelV : V → Value → Prop
  | .non, u => u = Value.none
  | .bl b, u => u = Value.bool b
  | .int i, u => ∃ t, u = Value.int i t
  | .str x, u => ∃ t, u = Value.str x t
  | .byt b, u => ∃ t, u = Value.bytes b t
  | .flt b, u => ∃ t, u = Value.float b t
  | .ref a, u => u = Value.ref a
  | .ty n, u => u = Value.type n

abbrev Vals : List V → List Value → Prop := Paired RelV
theorem Vals.length {xs : List V} {us : List Value} (r : Vals xs us) : xs.length = us.length := Paired.length r
theorem Vals.get : ∀ {xs : List V} {us : List Value} {i : Nat} {x : V}, Vals xs us → xs[i]? = some x → ∃ u, us[i]? = some u ∧ RelV x u
  | _, _, _, _, .nil, e => by simp at e
  | _, _, 0, _, .cons r _, e => by simp at e; subst e; exact ⟨_, rfl, r⟩
  | _, _, i + 1, x, .cons _ t, e => by
    obtain ⟨u, h1, h2⟩ := Vals.get (i := i) (x := x) t (by simpa using e)
    exact ⟨u, by simpa using h1, h2⟩
theorem Vals.set {x : V} {u : Value} (r : RelV x u) : ∀ {xs : List V} {us : List Value} (i : Nat), Vals xs us → Vals (xs.set i x) (us.set i u)
  | _, _, _, .nil => .nil
  | _, _, 0, .cons _ t => .cons r t
  | _, _, i + 1, .cons q t => .cons q (Vals.set r i t)
theorem Vals.append : ∀ {xs ys : List V} {us ws : List Value}, Vals xs us → Vals ys ws → Vals (xs ++ ys) (us ++ ws)
  | _, _, _, _, .nil, s => s
  | _, _, _, _, .cons r t, s => .cons r (Vals.append t s)
theorem Vals.take : ∀ {xs : List V} {us : List Value} (n : Nat), Vals xs us → Vals (xs.take n) (us.take n)
  | _, _, 0, _ => .nil
  | _, _, _ + 1, .nil => .nil
  | _, _, n + 1, .cons r t => .cons r (Vals.take n t)
theorem Vals.drop : ∀ {xs : List V} {us : List Value} (n : Nat), Vals xs us → Vals (xs.drop n) (us.drop n)
  | _, _, 0, r => r
  | _, _, _ + 1, .nil => .nil
  | _, _, n + 1, .cons _ t => Vals.drop n t

def RelO : Option V → Option Value → Prop
  | some v, some u => RelV v u
  | none, none => True
  | _, _ => False
def KV {κ : Type} : List (κ × V) → List (κ × Value) → Prop := Paired fun (p : κ × V) (q : κ × Value) => p.1 = q.1 ∧ RelV p.2 q.2

/-- a key of a dict (00_mix): an int or a text -/
def kV : Key → V
  | .inl i => .int i
  | .inr x => .str x

/-- what stands at a tracked address -/
inductive HO where
  /-- a list -/
  | lst (xs : List V)
  /-- a tuple (never changes) -/
  | tup (xs : List V)
  /-- a dict whose keys are ints and texts; one whose keys are tuples of ints and texts (the empty one is both) -/
  | dK (kvs : List (Key × V)) | dT (kvs : List (List Key × V))
  /-- a set of ints: its members, its size -/
  | set (S : Int → Bool) (n : Nat)
  /-- an instance of the class at C, its dict at dx, its attributes -/
  | ins (C dx : Addr) (fs : List (Str × V))
  /-- the dict of the instance at x -/
  | own (x : Addr)
  /-- the dict of an exception -/
  | xd (fs : List (Str × V))
  /-- a bound method, f of x -/
  | met (f x : Addr)
  /-- a range object lo, lo + 1, .. below hi -/
  | rng (lo hi : Int)
  /-- a thing that is known to the object (the script; a dict while a loop walks it): read, never written while it is so -/
  | frz (o : Obj) (u : HO)
  /-- a code object's table -/
  | tbl (ps : Array Value)
  /-- any other thing, by what is true of its one object (a def of one's own: SetO a S n := HO.ext fun h => ..) -/
  | ext (φ : Heap → Prop)

abbrev Hp := Addr → Option HO
def upd (H : Hp) (a : Addr) (o : HO) : Hp := fun b => if b = a then some o else H b
theorem upd_same {H : Hp} {a : Addr} {o : HO} : upd H a o a = some o := by unfold upd; rw [if_pos rfl]
theorem upd_ne {H : Hp} {a b : Addr} {o : HO} (h : b ≠ a) : upd H a o b = H b := by unfold upd; rw [if_neg h]
theorem upd_upd {H : Hp} {a : Addr} {o u : HO} : upd (upd H a o) a u = upd H a u := by
  funext b; unfold upd; split <;> rfl
/-- two objects of different content stand apart -/
theorem ne_of {H : Hp} {a b : Addr} {o u : HO} (h : H a = some o) (h' : H b = some u) (d : o ≠ u) : a ≠ b := by
  intro e; subst e; rw [h] at h'; exact d (Option.some.inj h')
theorem ne_of_none {H : Hp} {a b : Addr} {o : HO} (h : H a = some o) (h' : H b = none) : a ≠ b := by
  intro e; subst e; rw [h] at h'; cases h'

section
variable (P : Program) (w : World)
def ObjOk (H : Hp) (h : Heap) (a : Addr) : HO → Prop
  | .lst xs => xs.length ≤ sizeLine ∧ ∃ (its : List Value) (n : Nat), Vals xs its ∧ h.get? a = some { cls := .type "list", data := .seq its.toArray n }
  | .tup xs => xs.length ≤ sizeLine ∧ ∃ its : List Value, Vals xs its ∧ IsTup h a its.toArray
  | .dK kvs => kvs.length ≤ sizeLine ∧ (a == sysModules) = false ∧ ∃ vs, KV kvs vs ∧ h.DictOf (mixKind P w) a vs
  | .dT kvs => kvs.length ≤ sizeLine ∧ (a == sysModules) = false ∧ ∃ xs : List (List Key × Addr × Value),
      Paired (fun (p : List Key × V) (q : List Key × Addr × Value) => p.1 = q.1 ∧ H q.2.1 = some (.tup (p.1.map kV)) ∧ RelV p.2 q.2.2) kvs xs ∧
      ∃ o es ep, h.get? a = some o ∧ o.ExactDict ∧ o.data = .dict es ep ∧ es.toList = xs.map (entryOfKey (tupleKind (mixKind P w))) ∧ (xs.map (·.1)).Nodup
  | .set S n => h.SetOf (intKind P w) a S n
  | .ins C dx fs => H dx = some (.own a) ∧ fs.length ≤ 1000 ∧ dx ≠ a ∧ h.get? a = some (PySem.W.instObj C dx) ∧
      ∃ mA, h.Ns1 dx mA ∧ (∀ f, RelO (fs.lookup f) (mA f)) ∧ PySem.Within mA (fs.map (·.1))
  | .own _ => ∃ o, h.get? a = some o
  | .xd fs => ∃ mA, h.Ns1 a mA ∧ ∀ f, RelO (fs.lookup f) (mA f)
  | .rng lo hi => ∃ t u v, h.get? a = some { cls := .type "range", data := .fields #[.int lo t, .int hi u, .int 1 v] }
  | .frz o u => h.get? a = some o ∧ ObjOk H h a u
  | .tbl ps => h.get? a = some { cls := .none, data := .fields ps }
  | .met f x => h.get? a = some (PySem.W.methodObj (.ref f) (.ref x))
  | .ext φ => φ h ∧ (∃ o, h.get? a = some o) ∧ ∀ h1 h2 : Heap, φ h1 → (∀ o, h1.get? a = some o → h2.get? a = some o) → φ h2
/-- the abstract heap is held -/
def HOk (H : Hp) (h : Heap) : Prop := ∀ a o, H a = some o → ObjOk P w H h a o
end

section
variable {P : Program} {w : World} {H H' : Hp} {h h' : Heap} {a : Addr} {o : HO}
theorem ObjOk.lt (x : ObjOk P w H h a o) : a < h.objs.size := by
  cases o with
  | lst xs => obtain ⟨_, _, _, _, e⟩ := x; exact Heap.lt_size e
  | tup xs => obtain ⟨_, _, _, p⟩ := x; exact p.lt
  | dK kvs => obtain ⟨_, _, _, _, o, _, _, e, _⟩ := x; exact Heap.lt_size e
  | dT kvs => obtain ⟨_, _, _, _, o, _, _, e, _⟩ := x; exact Heap.lt_size e
  | set S n => obtain ⟨o, _, _, _, e, _⟩ := x; exact Heap.lt_size e
  | ins C dx fs => obtain ⟨_, _, _, e, _⟩ := x; exact Heap.lt_size e
  | own y => obtain ⟨_, e⟩ := x; exact Heap.lt_size e
  | xd fs => obtain ⟨_, ⟨_, _, _, e, _⟩, _⟩ := x; exact Heap.lt_size e
  | rng lo hi => obtain ⟨_, _, _, e⟩ := x; exact Heap.lt_size e
  | frz ob u => obtain ⟨e, _⟩ := x; exact Heap.lt_size e
  | tbl ps => exact Heap.lt_size (show h.get? a = some _ from x)
  | met f y => exact Heap.lt_size (show h.get? a = some _ from x)
  | ext φ => obtain ⟨_, ⟨_, e⟩, _⟩ := x; exact Heap.lt_size e
theorem Paired.mapP {α β : Type} {F G : α → β → Prop} : ∀ {l₁ : List α} {l₂ : List β}, Paired F l₁ l₂ → (∀ a b, F a b → G a b) → Paired G l₁ l₂
  | _, _, .nil, _ => .nil
  | _, _, .cons r t, f => .cons (f _ _ r) (Paired.mapP t f)
/-- what an object's description leans on: its own object, its own dict, the tuples -/
theorem ObjOk.stay (x : ObjOk P w H h a o) (k : ∀ b u, (b = a ∨ H b = some (.own a)) → h.get? b = some u → h'.get? b = some u)
    (ho : ∀ b, H b = some (.own a) → H' b = some (.own a)) (ht : ∀ b xs, H b = some (.tup xs) → H' b = some (.tup xs)) : ObjOk P w H' h' a o := by
  induction o with
  | lst xs => obtain ⟨z, its, n, r, e⟩ := x; exact ⟨z, its, n, r, k _ _ (.inl rfl) e⟩
  | tup xs => obtain ⟨z, its, r, ob, e, c⟩ := x; exact ⟨z, its, r, ob, k _ _ (.inl rfl) e, c⟩
  | dK kvs => obtain ⟨z, y, vs, r, ob, es, ep, e, c⟩ := x; exact ⟨z, y, vs, r, ob, es, ep, k _ _ (.inl rfl) e, c⟩
  | dT kvs =>
    obtain ⟨z, y, xs, r, ob, es, ep, e, c⟩ := x
    exact ⟨z, y, xs, Paired.mapP r fun p q z => ⟨z.1, ht _ _ z.2.1, z.2.2⟩, ob, es, ep, k _ _ (.inl rfl) e, c⟩
  | set S n => obtain ⟨ob, es, ep, t, e, c⟩ := x; exact ⟨ob, es, ep, t, k _ _ (.inl rfl) e, c⟩
  | ins C dx fs =>
    obtain ⟨d, z, ne, e, mA, ⟨od, es, ep, e2, c⟩, r⟩ := x
    exact ⟨ho _ d, z, ne, k _ _ (.inl rfl) e, mA, ⟨od, es, ep, k _ _ (.inr d) e2, c⟩, r⟩
  | own y => obtain ⟨ob, e⟩ := x; exact ⟨ob, k _ _ (.inl rfl) e⟩
  | xd fs => obtain ⟨mA, ⟨od, es, ep, e, c⟩, r⟩ := x; exact ⟨mA, ⟨od, es, ep, k _ _ (.inl rfl) e, c⟩, r⟩
  | rng lo hi => obtain ⟨t, u, v, e⟩ := x; exact ⟨t, u, v, k _ _ (.inl rfl) e⟩
  | frz ob u ih => obtain ⟨e, q⟩ := x; exact ⟨k _ _ (.inl rfl) e, ih q⟩
  | tbl ps =>
    have e : h.get? a = some { cls := .none, data := .fields ps } := x
    show h'.get? a = some { cls := .none, data := .fields ps }
    exact k a _ (.inl rfl) e
  | met f y =>
    have e : h.get? a = some (PySem.W.methodObj (.ref f) (.ref y)) := x
    show h'.get? a = some (PySem.W.methodObj (.ref f) (.ref y))
    exact k a _ (.inl rfl) e
  | ext φ => obtain ⟨p, ⟨o, e⟩, st⟩ := x; exact ⟨st _ _ p fun o q => k _ _ (.inl rfl) q, ⟨o, k _ _ (.inl rfl) e⟩, st⟩
theorem HOk.lt (x : HOk P w H h) (e : H a = some o) : a < h.objs.size := (x a o e).lt
theorem HOk.fresh (x : HOk P w H h) (e : h.objs.size ≤ a) : H a = none := by
  cases q : H a with
  | none => rfl
  | some u => exact absurd (Nat.lt_of_lt_of_le (x.lt q) e) (Nat.lt_irrefl _)
/-- every object of the heap is kept -/
theorem HOk.kept (x : HOk P w H h) (k : ∀ b u, h.get? b = some u → h'.get? b = some u) : HOk P w H h' := fun a o e =>
  (x a o e).stay (fun b u _ q => k b u q) (fun _ q => q) fun _ _ q => q
/-- a new object is laid and tracked -/
theorem HOk.laid (x : HOk P w H h) (k : ∀ b u, h.get? b = some u → h'.get? b = some u) (hp : h.objs.size ≤ a) (new : ObjOk P w (upd H a o) h' a o) : HOk P w (upd H a o) h' := fun b u e => by
  have hn := x.fresh hp
  by_cases hb : b = a
  · subst hb; rw [upd_same] at e; cases e; exact new
  · rw [upd_ne hb] at e
    exact (x b u e).stay (fun c v _ q => k c v q) (fun c q => by rw [upd_ne (ne_of_none q hn)]; exact q) fun c xs q => by rw [upd_ne (ne_of_none q hn)]; exact q
end

/-- what may be read as u: it is u, or a known u -/
def Rd (H : Hp) (a : Addr) (u : HO) : Prop := H a = some u ∨ ∃ o, H a = some (.frz o u)
theorem Rd.ok {P : Program} {w : World} {H : Hp} {h : Heap} {a : Addr} {u : HO} (r : Rd H a u) (x : HOk P w H h) : ObjOk P w H h a u := by
  rcases r with r | ⟨o, r⟩
  · exact x a u r
  · obtain ⟨_, q⟩ := x a _ r
    exact q
/-- what may be written -/
def Mut : Option HO → Prop
  | some (.lst _) => True
  | some (.dK _) => True
  | some (.dT _) => True
  | some (.set _ _) => True
  | some (.ins _ _ _) => True
  | some (.ext _) => True
  | _ => False
section
variable {P : Program} {w : World} {H : Hp} {h h' : Heap} {x e : Addr} {o' : HO}
/-- the object at e is changed: x itself, or the dict of the instance x -/
theorem HOk.write (ok : HOk P w H h) (mu : Mut (H x)) (he : e = x ∨ H e = some (.own x)) (k : ∀ b u, b ≠ e → h.get? b = some u → h'.get? b = some u) (heo : ∃ u, h'.get? e = some u)
    (new : ObjOk P w (upd H x o') h' x o') : HOk P w (upd H x o') h' := fun b u q => by
  have nown : ∀ c y, H c = some (.own y) → c ≠ x := fun c y r z => by subst z; rw [r] at mu; exact mu
  have ntup : ∀ c xs, H c = some (.tup xs) → c ≠ x := fun c xs r z => by subst z; rw [r] at mu; exact mu
  by_cases hb : b = x
  · subst hb; rw [upd_same] at q; cases q; exact new
  · rw [upd_ne hb] at q
    by_cases hbe : b = e
    · have q' : H b = some (.own x) := by
        rcases he with z | z
        · exact absurd (hbe.trans z) hb
        · rw [hbe]; exact z
      rw [q] at q'; cases q'
      obtain ⟨v, hv⟩ := heo
      exact ⟨v, by rw [hbe]; exact hv⟩
    · refine (ok b u q).stay (fun c v hc r => k c v ?_ r) (fun c r => by rw [upd_ne (nown c b r)]; exact r) fun c xs r => by rw [upd_ne (ntup c xs r)]; exact r
      rcases hc with rfl | hc
      · exact hbe
      · rintro rfl
        rcases he with z | z
        · exact nown c b hc z
        · rw [hc] at z; cases z; exact hb rfl
end

/-! ### kept unless tracked; of the frames at fs (the callers') the slots may change (an exception that passes writes there); of the records at ex (iterators) nothing is said -/
structure Un (fs ex : List Addr) (H H' : Hp) (h h' : Heap) : Prop where
  keep : ∀ b o, h.get? b = some o → H b = none → b ∉ fs → b ∉ ex → h'.get? b = some o
  slot : ∀ b o, h.get? b = some o → H b = none → b ∈ fs → b ∉ ex → ∃ sl, h'.get? b = some { o with slots := sl }
  free : ∀ b o, h.get? b = some o → H b = none → b ∉ ex → H' b = none
  there : ∀ b o, h.get? b = some o → b ∉ ex → ∃ o', h'.get? b = some o'
  tups : ∀ b xs, H b = some (.tup xs) → H' b = some (.tup xs)
  frzs : ∀ b o u, H b = some (.frz o u) → H' b = some (.frz o u)
  tbls : ∀ b ps, H b = some (.tbl ps) → ∃ more, H' b = some (.tbl (ps ++ more))
section
variable {fs fs' ex ex' : List Addr} {H H1 H2 : Hp} {h h1 h2 h' : Heap} {a x e : Addr} {o : HO}
theorem Un.any (u : Un fs ex H H1 h h1) {b : Addr} {ob : Obj} (q : h.get? b = some ob) (n : H b = none) (hx : b ∉ ex) : ∃ sl, h1.get? b = some { ob with slots := sl } := by
  by_cases hb : b ∈ fs
  · exact u.slot b ob q n hb hx
  · exact ⟨ob.slots, u.keep b ob q n hb hx⟩
theorem Un.kept (k : ∀ b u, h.get? b = some u → h'.get? b = some u) : Un fs ex H H h h' :=
  ⟨fun b ob q _ _ _ => k b ob q, fun b ob q _ _ _ => ⟨ob.slots, k b ob q⟩, fun _ _ _ n _ => n, fun b ob q _ => ⟨ob, k b ob q⟩, fun _ _ q => q, fun _ _ _ q => q, fun _ ps q => ⟨#[], by rw [q]; simp⟩⟩
theorem Un.refl : Un fs ex H H h h := Un.kept fun _ _ q => q
theorem Un.laid (k : ∀ b u, h.get? b = some u → h'.get? b = some u) (hp : h.objs.size ≤ a) (hn : H a = none) : Un fs ex H (upd H a o) h h' where
  keep := fun b u q _ _ _ => k b u q
  slot := fun b u q _ _ _ => ⟨u.slots, k b u q⟩
  free := fun b u q n _ => by rw [upd_ne (Nat.ne_of_lt (Nat.lt_of_lt_of_le (Heap.lt_size q) hp))]; exact n
  there := fun b u q _ => ⟨u, k b u q⟩
  tups := fun b xs q => by rw [upd_ne (ne_of_none q hn)]; exact q
  frzs := fun b u xs q => by rw [upd_ne (ne_of_none q hn)]; exact q
  tbls := fun b ps q => ⟨#[], by rw [upd_ne (ne_of_none q hn), q]; simp⟩
theorem Un.write (mu : Mut (H x)) (he : e = x ∨ H e = some (.own x)) (k : ∀ b u, b ≠ e → h.get? b = some u → h'.get? b = some u) (heo : ∃ u, h'.get? e = some u) : Un fs ex H (upd H x o) h h' := by
  have hx : ∀ b, H b = none → b ≠ x := fun b n z => by subst z; rw [n] at mu; exact mu
  have hb : ∀ b, H b = none → b ≠ e := fun b n z => by
    subst z
    rcases he with r | r
    · exact hx b n r
    · rw [n] at r; cases r
  have hm : ∀ b u, H b = some u → ¬ Mut (some u) → b ≠ x := fun b u q nm z => by subst z; rw [q] at mu; exact nm mu
  refine ⟨fun b u q n _ _ => k b u (hb b n) q, fun b u q n _ _ => ⟨u.slots, k b u (hb b n) q⟩, fun b u q n _ => by rw [upd_ne (hx b n)]; exact n, fun b u q _ => ?_,
    fun b xs q => by rw [upd_ne (hm b _ q fun z => z)]; exact q, fun b u xs q => by rw [upd_ne (hm b _ q fun z => z)]; exact q, fun b ps q => ⟨#[], by rw [upd_ne (hm b _ q fun z => z), q]; simp⟩⟩
  by_cases hbe : b = e
  · subst hbe; exact heo
  · exact ⟨u, k b u hbe q⟩
end

/-! ### the heap without what is tracked -/
def trk (h : Heap) (H : Hp) : List Addr := (List.range h.objs.size).filter fun a => (H a).isSome
def hidT (h : Heap) (H : Hp) : Heap := PySem.W.hideAll h (trk h H)
theorem hidT_size (h : Heap) (H : Hp) : (hidT h H).objs.size = h.objs.size := PySem.W.hideAll_size _ _
theorem hidT_get {h : Heap} {H : Hp} {b : Addr} {o : Obj} (e : h.get? b = some o) (n : H b = none) : (hidT h H).get? b = some o :=
  PySem.W.hideAll_get _ e fun hm => by
    have q : (H b).isSome = true := (List.mem_filter.mp hm).2
    rw [n] at q; simp at q
theorem of_hidT {h : Heap} {H : Hp} {b : Addr} {o : Obj} (e : (hidT h H).get? b = some o) : h.get? b = some o ∧ H b = none := by
  have e' : h.get? b = some o := PySem.W.of_hideAll (trk h H) e
  refine ⟨e', ?_⟩
  cases q : H b with
  | none => rfl
  | some x =>
    have hm : b ∈ trk h H := List.mem_filter.mpr ⟨List.mem_range.mpr (Heap.lt_size e'), by simp [q]⟩
    have z : (hidT h H).get? b = none := PySem.W.hideAll_none (trk h H) hm
    rw [z] at e; cases e

/-! ### OpenK's ledger, filled with every new object but one -/
end L2

namespace L2
open PySem PySem.Spec PyProof.Rows

/-- the module's facts, over the base: the heap at the law's entry without what is tracked there -/
structure Mod (K : PySem.W.Frag) (mg : Str → Option Value) (base : Heap) : Prop where
  kin : K.In base
  glob : base.Ns mainGlobals mg
  blt : ∃ mb, base.Ns builtinsNs mb ∧ ∀ x : Str, x ≠ "__name__" → mb x = bootBuiltins x
  nolimit : base.NoLimit

/-- the context: a def's body (or a comprehension's block) running. base: fixed through the whole law; s₀, H₀: the entry; outer: the frames whose slots others may change (a def's callers); stack: all frames that run;
   ex: iterators that were made ahead of the entry and are walked here (a comprehension's); fn: the names whose cells were made at the entry (a def: all; a comprehension's block: its own); calm: not within an except suite; pn: pins that every state bears; xe: what is wanted of an exception that leaves the code -/
structure Cx where
  prog : Program
  w : World
  K : PySem.W.Frag
  mg : Str → Option Value
  base : Heap
  A : Around
  N : List Str
  s₀ : Shared
  H₀ : Hp
  env : Env
  outer : List Env
  stack : List Env
  ex : List Addr
  fn : Str → Bool
  calm : Bool
  pn : List (Addr × Obj)
  xe : Value → Shared → Prop
/-- the callers' frames -/
def frs (l : List Env) : List Addr := l.filterMap (·.frame)
abbrev Cx.fs (X : Cx) : List Addr := frs X.outer

def Vis (sc : Scope) (x : Str) : Prop := sc.names.lookup x = some .local ∨ sc.names.lookup x = some .cell ∨ sc.names.lookup x = some .free
def Loc (sc : Scope) (x : Str) : Prop := sc.names.lookup x = some .local ∨ sc.names.lookup x = some .cell
def Look (env : Env) (h : Heap) (m : Str → Option Value) (x : Str) (u : Value) : Prop :=
  (env.kindOf x = some .local ∧ m x = some u) ∨ ((env.kindOf x = some .cell ∨ env.kindOf x = some .free) ∧ ∃ c, env.cells.lookup x = some c ∧ h.IsCell c (some u))

structure Cx.Ok (X : Cx) : Prop where
  mod : Mod X.K X.mg X.base
  kind : X.env.scope.kind = .function
  glob : X.env.globals = mainGlobals
  blt : X.env.builtins = builtinsNs
  above : X.s₀.heap.objs.size ≤ X.env.locals
  inj : ∀ x y c, X.env.cells.lookup x = some c → X.env.cells.lookup y = some c → x = y
  has : ∀ x, (X.env.kindOf x = some .cell ∨ X.env.kindOf x = some .free) → ∃ c, X.env.cells.lookup x = some c
  cab : ∀ x c, X.fn x = true → X.env.cells.lookup x = some c → X.s₀.heap.objs.size ≤ c
  hd : X.calm = true → X.A.handled = none
  frames : X.A.frames = some X.stack
  stk : X.stack = X.outer ∨ (X.stack = X.env :: X.outer ∧ X.env.frame = some X.env.locals)
  exf : ∀ b ∈ X.ex, b ≠ X.env.locals ∧ ∀ x c, X.env.cells.lookup x = some c → c ≠ b
  bs : ∀ b o, X.base.get? b = some o → X.s₀.heap.get? b = some o ∧ X.H₀ b = none
  bsz : X.base.objs.size ≤ X.s₀.heap.objs.size
  noex : ∀ b o, X.base.get? b = some o → b ∉ X.ex
  exfs : ∀ b ∈ X.ex, b ∉ X.fs
  funs : X.s₀.heap.FunFrames X.base X.outer
  frf : ∀ b ∈ X.fs, X.H₀ b = none

structure Inv (X : Cx) (pins : List (Addr × Obj)) (σ : List (Option V)) (H : Hp) (s : Shared) : Prop where
  ok : X.Ok
  os : s.os = X.s₀.os
  bare : AllBare s.gens
  base : Un X.fs X.ex X.H₀ H X.s₀.heap s.heap
  loc : ∃ m, s.heap.Ns X.env.locals m ∧ ∀ (i : Nat) (x : Str) (v : V), X.N[i]? = some x → σ[i]? = some (some v) → Vis X.env.scope x → ∃ u, RelV v u ∧ Look X.env s.heap m x u
  cell : ∀ x c, X.env.cells.lookup x = some c → ∃ v, s.heap.IsCell c v
  free : H X.env.locals = none
  freeC : ∀ x c, X.env.cells.lookup x = some c → H c = none
  pin : ∀ p ∈ X.pn ++ pins, s.heap.get? p.1 = some p.2 ∧ H p.1 = none ∧ p.1 ≠ X.env.locals ∧ p.1 ∉ X.fs ∧ ∀ v, p.2.data ≠ .cell v
  hok : HOk X.prog X.w H s.heap
  len : σ.length = X.N.length

section
variable {X : Cx} {pins : List (Addr × Obj)} {σ : List (Option V)} {H H' : Hp} {s : Shared} {h' : Heap}

theorem Cx.Ok.nofr (ok : X.Ok) {b : Addr} {o : Obj} (e : X.base.get? b = some o) : b ∉ X.fs := fun hb => by
  have := (ok.funs.mem hb).1
  rw [e] at this; cases this
theorem Inv.bs (I : Inv X pins σ H s) : ∀ b o, X.base.get? b = some o → s.heap.get? b = some o ∧ H b = none := fun b o e =>
  ⟨I.base.keep b o (I.ok.bs b o e).1 (I.ok.bs b o e).2 (I.ok.nofr e) (I.ok.noex b o e), I.base.free b o (I.ok.bs b o e).1 (I.ok.bs b o e).2 (I.ok.noex b o e)⟩
theorem Inv.bk (I : Inv X pins σ H s) : ∀ b o, X.base.get? b = some o → s.heap.get? b = some o := fun b o e => (I.bs b o e).1
theorem Inv.mod (I : Inv X pins σ H s) : Mod X.K X.mg X.base := I.ok.mod
theorem Inv.kIn (I : Inv X pins σ H s) : X.K.In s.heap := I.ok.mod.kin.keeps I.bk
theorem Inv.lt (I : Inv X pins σ H s) : X.env.locals < s.heap.objs.size := let ⟨_, hn, _⟩ := I.loc; hn.lt
theorem Inv.sz (I : Inv X pins σ H s) : X.s₀.heap.objs.size ≤ s.heap.objs.size := Nat.le_trans I.ok.above (Nat.le_of_lt I.lt)
theorem Inv.nofs (I : Inv X pins σ H s) {a : Addr} (h : s.heap.objs.size ≤ a) : a ∉ X.fs := fun hb => by
  obtain ⟨_, o, ho, _⟩ := I.ok.funs.mem hb
  exact absurd (Nat.lt_of_lt_of_le (Heap.lt_size ho) (Nat.le_trans I.sz h)) (Nat.lt_irrefl _)
theorem Inv.cne (I : Inv X pins σ H s) : ∀ x c, X.env.cells.lookup x = some c → c ≠ X.env.locals := fun x c e z => by
  obtain ⟨v, o, ho, hd⟩ := I.cell x c e
  obtain ⟨m, ⟨o', es, ep, ho', hd', _⟩, _⟩ := I.loc
  rw [z, ho'] at ho; cases ho; rw [hd'] at hd; cases hd
theorem Inv.funs (I : Inv X pins σ H s) : s.heap.FunFrames X.base X.outer := by
  have all : ∀ (l : List Env), (∀ b ∈ frs l, b ∈ X.fs) → X.s₀.heap.FunFrames X.base l → s.heap.FunFrames X.base l := by
    intro l
    induction l with
    | nil => intro _ _; trivial
    | cons env r ih =>
      intro hs hl
      obtain ⟨hk, ⟨L, o, hf, hn, ho, hd⟩, hr⟩ := hl
      have hL : L ∈ X.fs := hs L (by unfold frs; rw [List.filterMap_cons, hf]; exact List.mem_cons_self)
      obtain ⟨sl, e⟩ := I.base.slot L o ho (I.ok.frf L hL) hL fun z => I.ok.exfs L z hL
      exact ⟨hk, ⟨L, _, hf, hn, e, hd⟩, ih (fun b hb => hs b (by unfold frs; rw [List.filterMap_cons, hf]; exact List.mem_cons_of_mem _ hb)) hr⟩
  exact all X.outer (fun _ hb => hb) I.ok.funs

/-- the frames that run, for a call -/
theorem Inv.stack (I : Inv X pins σ H s) : s.heap.FunFrames X.base X.stack := by
  rcases I.ok.stk with e | ⟨e, hf⟩
  · rw [e]; exact I.funs
  · rw [e]
    obtain ⟨m, hn, _⟩ := I.loc
    refine .cons (by rw [I.ok.kind]; decide) hf hn ?_ I.funs
    exact Heap.get?_none_of_le (Nat.le_trans I.ok.bsz I.ok.above)
theorem Inv.stkSub (I : Inv X pins σ H s) : ∀ b ∈ frs X.stack, b ∈ X.env.locals :: X.fs := fun b hb => by
  rcases I.ok.stk with e | ⟨e, hf⟩
  · rw [e] at hb; exact List.mem_cons_of_mem _ hb
  · rw [e] at hb
    unfold frs at hb
    rw [List.filterMap_cons, hf] at hb
    exact hb
theorem Inv.stkFree (I : Inv X pins σ H s) : ∀ b ∈ frs X.stack, H b = none := fun b hb => by
  rcases List.mem_cons.mp (I.stkSub b hb) with e | hb
  · rw [e]; exact I.free
  · obtain ⟨_, o, ho, _⟩ := I.ok.funs.mem hb
    exact I.base.free b o ho (I.ok.frf b hb) fun z => I.ok.exfs b z hb

/-- THE STEP: the untracked objects but the frame and the records at ch are kept (the callers' frames up to slots), the frame's map is kept, the new abstract heap is held -/
theorem Inv.step {g' : Array GenState} {t' : Nat} {d' : Drawn} {ch : List Addr} (I : Inv X pins σ H s)
    (hch : ∀ b ∈ ch, (b ∈ X.ex ∨ X.s₀.heap.objs.size ≤ b) ∧ b ≠ X.env.locals ∧ (∀ x c, X.env.cells.lookup x = some c → c ≠ b) ∧ ∀ p ∈ X.pn ++ pins, p.1 ≠ b)
    (keep : ∀ b o, b ≠ X.env.locals → b ∉ X.fs → b ∉ ch → s.heap.get? b = some o → H b = none → h'.get? b = some o)
    (slot : ∀ b o, b ≠ X.env.locals → b ∈ X.fs → b ∉ ch → s.heap.get? b = some o → H b = none → ∃ sl, h'.get? b = some { o with slots := sl }) (free : ∀ b o, b ∉ ch → s.heap.get? b = some o → H b = none → H' b = none)
    (there : ∀ b o, b ∉ ch → s.heap.get? b = some o → ∃ o', h'.get? b = some o')
    (tups : ∀ b xs, H b = some (.tup xs) → H' b = some (.tup xs)) (frzs : ∀ b o u, H b = some (.frz o u) → H' b = some (.frz o u)) (tbls : ∀ b ps, H b = some (.tbl ps) → ∃ more, H' b = some (.tbl (ps ++ more)))
    (ns : ∀ m, s.heap.Ns X.env.locals m → h'.Ns X.env.locals m) (hok : HOk X.prog X.w H' h') (hg : AllBare g') :
    Inv X pins σ H' { s with heap := h', gens := g', drawn := d', toks := t' } := by
  have neL : ∀ b o, X.s₀.heap.get? b = some o → b ≠ X.env.locals := fun b o e => Nat.ne_of_lt (Nat.lt_of_lt_of_le (Heap.lt_size e) I.ok.above)
  have neC : ∀ b o, X.s₀.heap.get? b = some o → b ∉ X.ex → b ∉ ch := fun b o e hx hb => by
    rcases (hch b hb).1 with z | z
    · exact hx z
    · exact absurd (Nat.lt_of_lt_of_le (Heap.lt_size e) z) (Nat.lt_irrefl _)
  have cellK : ∀ x c, X.env.cells.lookup x = some c → ∀ v, s.heap.IsCell c v → h'.IsCell c v := fun x c e v ⟨o, ho, hd⟩ => by
    have nch : c ∉ ch := fun z => (hch c z).2.2.1 x c e rfl
    by_cases hc : c ∈ X.fs
    · obtain ⟨sl, q⟩ := slot c o (I.cne x c e) hc nch ho (I.freeC x c e)
      exact ⟨_, q, hd⟩
    · exact ⟨o, keep c o (I.cne x c e) hc nch ho (I.freeC x c e), hd⟩
  refine ⟨I.ok, I.os, hg, ⟨fun b o e n hb hx => ?_, fun b o e n hb hx => ?_, fun b o e n hx => ?_, fun b o e hx => ?_, fun b xs e => tups b xs (I.base.tups b xs e), fun b o xs e => frzs b o xs (I.base.frzs b o xs e), fun b ps e => ?_⟩, ?_, fun x c e => ?_, ?_, fun x c e => ?_, fun p hp => ?_, hok, I.len⟩
  · exact keep b o (neL b o e) hb (neC b o e hx) (I.base.keep b o e n hb hx) (I.base.free b o e n hx)
  · obtain ⟨sl, e1⟩ := I.base.slot b o e n hb hx
    obtain ⟨sl', e2⟩ := slot b _ (neL b o e) hb (neC b o e hx) e1 (I.base.free b o e n hx)
    exact ⟨sl', e2⟩
  · obtain ⟨o', e1⟩ := I.base.there b o e hx
    exact free b o' (neC b o e hx) e1 (I.base.free b o e n hx)
  · obtain ⟨o', e1⟩ := I.base.there b o e hx
    exact there b o' (neC b o e hx) e1
  · obtain ⟨m1, e1⟩ := I.base.tbls b ps e
    obtain ⟨m2, e2⟩ := tbls b _ e1
    exact ⟨m1 ++ m2, by rw [e2, Array.append_assoc]⟩
  · obtain ⟨m, hn, hl⟩ := I.loc
    refine ⟨m, ns m hn, fun i x v e1 e2 e3 => ?_⟩
    obtain ⟨u, r, l⟩ := hl i x v e1 e2 e3
    refine ⟨u, r, ?_⟩
    rcases l with l | ⟨k, c, e, z⟩
    · exact .inl l
    · exact .inr ⟨k, c, e, cellK x c e _ z⟩
  · obtain ⟨v, z⟩ := I.cell x c e
    exact ⟨v, cellK x c e v z⟩
  · obtain ⟨m, ⟨o, _, _, ho, _⟩, _⟩ := I.loc
    exact free _ o (fun z => (hch _ z).2.1 rfl) ho I.free
  · obtain ⟨v, o, ho, hd⟩ := I.cell x c e
    exact free c o (fun z => (hch c z).2.2.1 x c e rfl) ho (I.freeC x c e)
  · obtain ⟨e, n, ne, nf, d⟩ := I.pin p hp
    have nch : p.1 ∉ ch := fun z => (hch p.1 z).2.2.2 p hp rfl
    exact ⟨keep p.1 p.2 ne nf nch e n, free p.1 p.2 nch e n, ne, nf, d⟩
/-- .. where the frame's own object is kept too -/
theorem Inv.un {t' : Nat} (I : Inv X pins σ H s) (u : Un X.fs [] H H' s.heap h') (hok : HOk X.prog X.w H' h') : Inv X pins σ H' { s with heap := h', toks := t' } := by
  obtain ⟨m, ⟨o, es, ep, ho, r⟩, _⟩ := id I.loc
  obtain ⟨sl, hL⟩ := u.any ho I.free (by simp)
  exact I.step (g' := s.gens) (d' := s.drawn) (ch := []) (fun _ z => nomatch z) (fun b o _ hb _ e n => u.keep b o e n hb (by simp)) (fun b o _ hb _ e n => u.slot b o e n hb (by simp)) (fun b o _ e n => u.free b o e n (by simp)) (fun b o _ e => u.there b o e (by simp)) u.tups u.frzs u.tbls (fun m' hm => by
    obtain ⟨o', es', ep', ho', r'⟩ := hm
    rw [ho] at ho'; cases ho'
    exact ⟨_, es', ep', hL, r'⟩) hok I.bare
/-- behind a call (or a comprehension's block): the slots of this frame may have changed too, the records at ch may have turned -/
theorem Inv.call {g' : Array GenState} {t' : Nat} {d' : Drawn} {ch : List Addr} (I : Inv X pins σ H s) (u : Un (frs X.stack) ch H H' s.heap h') (hok : HOk X.prog X.w H' h') (hg : AllBare g')
    (hch : ∀ b ∈ ch, (b ∈ X.ex ∨ X.s₀.heap.objs.size ≤ b) ∧ b ≠ X.env.locals ∧ (∀ x c, X.env.cells.lookup x = some c → c ≠ b) ∧ ∀ p ∈ X.pn ++ pins, p.1 ≠ b) :
    Inv X pins σ H' { s with heap := h', gens := g', drawn := d', toks := t' } := by
  obtain ⟨m, ⟨o, es, ep, ho, r⟩, _⟩ := id I.loc
  obtain ⟨sl, hL⟩ := u.any ho I.free fun z => (hch _ z).2.1 rfl
  exact I.step (ch := ch) hch (fun b o hL hb hc e n => u.keep b o e n (fun z => (List.mem_cons.mp (I.stkSub b z)).elim hL hb) hc) (fun b o _ _ hc e n => u.any e n hc) (fun b o hc e n => u.free b o e n hc) (fun b o hc e => u.there b o e hc) u.tups u.frzs u.tbls (fun m' hm => by
    obtain ⟨o', es', ep', ho', r'⟩ := hm
    rw [ho] at ho'; cases ho'
    exact ⟨_, es', ep', hL, r'⟩) hok hg
/-- an untracked record of ours (an iterator) has turned -/
theorem Inv.turned {t' : Nat} {it : Addr} (I : Inv X pins σ H s) (k : ∀ b o, b ≠ it → s.heap.get? b = some o → h'.get? b = some o) (hn : H it = none) (hL : it ≠ X.env.locals)
    (h1 : it ∈ X.ex ∨ X.s₀.heap.objs.size ≤ it) (h2 : ∀ x c, X.env.cells.lookup x = some c → c ≠ it) (h3 : ∀ p ∈ X.pn ++ pins, p.1 ≠ it) : Inv X pins σ H { s with heap := h', toks := t' } := by
  have nit : ∀ b u, H b = some u → b ≠ it := fun b u e z => by rw [z, hn] at e; cases e
  refine I.step (g' := s.gens) (d' := s.drawn) (ch := [it]) (fun b hb => ?_) (fun b o _ _ hc e _ => k b o (fun z => hc (by simp [z])) e) (fun b o _ _ hc e _ => ⟨o.slots, k b o (fun z => hc (by simp [z])) e⟩) (fun _ _ _ _ n => n)
    (fun b o hc e => ⟨o, k b o (fun z => hc (by simp [z])) e⟩) (fun _ _ e => e) (fun _ _ _ e => e) (fun b ps e => ⟨#[], by rw [e]; simp⟩) (fun m hm => ?_) (fun b u e => ?_) I.bare
  · have e : b = it := by simpa using hb
    subst e
    exact ⟨h1, hL, h2, h3⟩
  · obtain ⟨o, es, ep, ho, r⟩ := hm
    exact ⟨o, es, ep, k _ o (Ne.symm hL) ho, r⟩
  · refine (I.hok b u e).stay (fun c v hc q => k c v ?_ q) (fun _ q => q) fun _ _ q => q
    rcases hc with z | z
    · rw [z]; exact nit b u e
    · exact nit c _ z
theorem Inv.tok (I : Inv X pins σ H s) (t : Nat) : Inv X pins σ H { s with toks := t } := I.un (h' := s.heap) (t' := t) Un.refl I.hok
/-- all objects kept -/
theorem Inv.kept {t' : Nat} (I : Inv X pins σ H s) (k : ∀ b u, s.heap.get? b = some u → h'.get? b = some u) : Inv X pins σ H { s with heap := h', toks := t' } := I.un (Un.kept k) (I.hok.kept k)
/-- a new object laid and tracked -/
theorem Inv.laid {a : Addr} {o : HO} {t' : Nat} (I : Inv X pins σ H s) (k : ∀ b u, s.heap.get? b = some u → h'.get? b = some u) (hp : s.heap.objs.size ≤ a) (new : ObjOk X.prog X.w (upd H a o) h' a o) :
    Inv X pins σ (upd H a o) { s with heap := h', toks := t' } := I.un (Un.laid k hp (I.hok.fresh hp)) (I.hok.laid k hp new)
/-- an object written -/
theorem Inv.write {x e : Addr} {o : HO} {t' : Nat} (I : Inv X pins σ H s) (mu : Mut (H x)) (he : e = x ∨ H e = some (.own x)) (k : ∀ b u, b ≠ e → s.heap.get? b = some u → h'.get? b = some u) (heo : ∃ u, h'.get? e = some u)
    (new : ObjOk X.prog X.w (upd H x o) h' x o) : Inv X pins σ (upd H x o) { s with heap := h', toks := t' } := I.un (Un.write mu he k heo) (I.hok.write mu he k heo new)
theorem Inv.pins_of {pins' : List (Addr × Obj)} (I : Inv X pins σ H s) (h : ∀ p ∈ pins', s.heap.get? p.1 = some p.2 ∧ H p.1 = none ∧ p.1 ≠ X.env.locals ∧ p.1 ∉ X.fs ∧ ∀ v, p.2.data ≠ .cell v) : Inv X pins' σ H s :=
  ⟨I.ok, I.os, I.bare, I.base, I.loc, I.cell, I.free, I.freeC, fun p hp => (List.mem_append.mp hp).elim (fun z => I.pin p (List.mem_append_left _ z)) (h p), I.hok, I.len⟩

theorem nodup_ix {N : List Str} (hN : N.Nodup) {i j : Nat} {x : Str} (a : N[i]? = some x) (b : N[j]? = some x) : i = j := by
  obtain ⟨h1, e1⟩ := List.getElem?_eq_some_iff.mp a
  obtain ⟨h2, e2⟩ := List.getElem?_eq_some_iff.mp b
  exact (List.getElem_inj hN).mp (e1.trans e2.symm)

/-- a name is stored; what changed -/
theorem store_ok2 {M : Model} {A : Around} {E : Value → Shared → Prop} {i : Nat} {x : Str} {v : V} {u : Value} {Q : Unit → Shared → Prop} (I : Inv X pins σ H s) (hN : X.N.Nodup) (hi : X.N[i]? = some x) (hx : Loc X.env.scope x) (r : RelV v u)
    (h : ∀ s', Inv X pins (σ.set i (some v)) H s' → (∃ a, Heap.SameBut a s.heap s'.heap ∧ (a = X.env.locals ∨ X.env.cells.lookup x = some a)) → Q () s') (hf : X.fn x = true ∨ X.env.scope.names.lookup x = some .local := by first | exact .inl rfl | exact .inr rfl | assumption) : wpAny M A (storeName X.env x u) Q E s := by
  obtain ⟨m, hn, hl⟩ := id I.loc
  have hcls : (X.env.scope.kind == .class || (X.env.scope.kind == .module && X.env.locals != X.env.globals)) = false := by rw [I.ok.kind]; rfl
  have hiσ : i < σ.length := by rw [I.len]; exact (List.getElem?_eq_some_iff.mp hi).1
  have cne := I.cne
  have tracked : ∀ {a : Addr} {h' : Heap}, (∃ o, s.heap.get? a = some o ∧ H a = none) → Heap.SameBut a s.heap h' → HOk X.prog X.w H h' := fun {a h'} ha hs b ob e => by
    obtain ⟨_, _, hfree⟩ := ha
    refine (I.hok b ob e).stay (fun c w' hc q => (hs.2 c ?_).trans q) (fun _ q => q) fun _ _ q => q
    rintro rfl
    rcases hc with rfl | hc
    · rw [hfree] at e; cases e
    · rw [hfree] at hc; cases hc
  rcases hx with hk | hk
  · refine wpAny_storeName_local hk hn (fun h' hn' hs => ?_) hcls
    obtain ⟨oL, _, _, hoL, _⟩ := id hn
    refine h _ ⟨I.ok, I.os, I.bare, ⟨fun b o e n hb hx => ?_, fun b o e n hb hx => ?_, I.base.free, fun b o e hx => ?_, I.base.tups, I.base.frzs, I.base.tbls⟩, ⟨_, hn', fun j y v' e1 e2 e3 => ?_⟩, fun y c e => ?_, I.free, I.freeC, fun p hp => ?_, tracked ⟨oL, hoL, I.free⟩ hs, by simpa using I.len⟩ ⟨_, hs, .inl rfl⟩
    · exact (hs.2 b (Nat.ne_of_lt (Nat.lt_of_lt_of_le (Heap.lt_size e) I.ok.above))).trans (I.base.keep b o e n hb hx)
    · obtain ⟨sl, e1⟩ := I.base.slot b o e n hb hx
      exact ⟨sl, (hs.2 b (Nat.ne_of_lt (Nat.lt_of_lt_of_le (Heap.lt_size e) I.ok.above))).trans e1⟩
    · obtain ⟨o', e1⟩ := I.base.there b o e hx
      exact ⟨o', (hs.2 b (Nat.ne_of_lt (Nat.lt_of_lt_of_le (Heap.lt_size e) I.ok.above))).trans e1⟩
    · by_cases hj : j = i
      · subst hj
        rw [hi] at e1; cases e1
        rw [List.getElem?_set_self hiσ] at e2
        cases e2
        exact ⟨u, r, .inl ⟨hk, by simp⟩⟩
      · rw [List.getElem?_set_ne (Ne.symm hj)] at e2
        obtain ⟨u', r', q⟩ := hl j y v' e1 e2 e3
        refine ⟨u', r', ?_⟩
        rcases q with ⟨k, e⟩ | ⟨k, c, e, z⟩
        · refine .inl ⟨k, ?_⟩
          have : y ≠ x := fun e => hj (nodup_ix hN e1 (e ▸ hi))
          simp [this, e]
        · exact .inr ⟨k, c, e, z.sameBut hs (cne y c e)⟩
    · obtain ⟨w', z⟩ := I.cell y c e
      exact ⟨w', z.sameBut hs (cne y c e)⟩
    · obtain ⟨e, n, ne, nf, d⟩ := I.pin p hp
      exact ⟨(hs.2 p.1 ne).trans e, n, ne, nf, d⟩
  · have hfn : X.fn x = true := by
      rcases hf with z | z
      · exact z
      · rw [z] at hk; cases hk
    obtain ⟨c, hc⟩ := I.ok.has x (.inl hk)
    obtain ⟨w', z⟩ := I.cell x c hc
    refine wpAny_storeName_cell I.ok.kind hk hc z (fun h' hc' hs => ?_)
    obtain ⟨oc, hoc, hocd⟩ := id z
    refine h { s with heap := h' } ⟨I.ok, I.os, I.bare, ⟨fun b o e n hb hx => ?_, fun b o e n hb hx => ?_, I.base.free, fun b o e hx => ?_, I.base.tups, I.base.frzs, I.base.tbls⟩, ⟨m, hn.sameBut hs (Ne.symm (cne x c hc)), fun j y v' e1 e2 e3 => ?_⟩, fun y c' e => ?_, I.free, I.freeC, fun p hp => ?_, tracked ⟨oc, hoc, I.freeC x c hc⟩ hs, by simpa using I.len⟩ ⟨c, hs, .inr hc⟩
    · exact (hs.2 b (Nat.ne_of_lt (Nat.lt_of_lt_of_le (Heap.lt_size e) (I.ok.cab x c hfn hc)))).trans (I.base.keep b o e n hb hx)
    · obtain ⟨sl, e1⟩ := I.base.slot b o e n hb hx
      exact ⟨sl, (hs.2 b (Nat.ne_of_lt (Nat.lt_of_lt_of_le (Heap.lt_size e) (I.ok.cab x c hfn hc)))).trans e1⟩
    · obtain ⟨o', e1⟩ := I.base.there b o e hx
      exact ⟨o', (hs.2 b (Nat.ne_of_lt (Nat.lt_of_lt_of_le (Heap.lt_size e) (I.ok.cab x c hfn hc)))).trans e1⟩
    · by_cases hj : j = i
      · subst hj
        rw [hi] at e1; cases e1
        rw [List.getElem?_set_self hiσ] at e2
        cases e2
        exact ⟨u, r, .inr ⟨.inl hk, c, hc, hc'⟩⟩
      · rw [List.getElem?_set_ne (Ne.symm hj)] at e2
        obtain ⟨u', r', q⟩ := hl j y v' e1 e2 e3
        refine ⟨u', r', ?_⟩
        rcases q with q | ⟨k, c', e, z'⟩
        · exact .inl q
        · refine .inr ⟨k, c', e, z'.sameBut hs ?_⟩
          rintro rfl
          exact hj (nodup_ix hN e1 (I.ok.inj _ _ _ e hc ▸ hi))
    · by_cases hcc : c' = c
      · subst hcc; exact ⟨_, hc'⟩
      · obtain ⟨w2, z2⟩ := I.cell y c' e
        exact ⟨w2, z2.sameBut hs hcc⟩
    · obtain ⟨e, n, ne, nf, d⟩ := I.pin p hp
      refine ⟨(hs.2 p.1 ?_).trans e, n, ne, nf, d⟩
      intro q
      rw [q, hoc] at e
      have q' : oc = p.2 := Option.some.inj e
      exact d w' (by rw [← q']; exact hocd)
theorem store_ok {M : Model} {A : Around} {E : Value → Shared → Prop} {i : Nat} {x : Str} {v : V} {u : Value} {Q : Unit → Shared → Prop} (I : Inv X pins σ H s) (hN : X.N.Nodup) (hi : X.N[i]? = some x) (hx : Loc X.env.scope x) (r : RelV v u)
    (h : ∀ s', Inv X pins (σ.set i (some v)) H s' → Q () s') (hf : X.fn x = true ∨ X.env.scope.names.lookup x = some .local := by first | exact .inl rfl | exact .inr rfl | assumption) : wpAny M A (storeName X.env x u) Q E s :=
  store_ok2 I hN hi hx r (fun s' I' _ => h s' I') hf
/-- behind a call or a block, the state as it is -/
theorem Inv.call' {s' : Shared} {ch : List Addr} (I : Inv X pins σ H s) (ho : s'.os = s.os) (u : Un (frs X.stack) ch H H' s.heap s'.heap) (hok : HOk X.prog X.w H' s'.heap) (hg : AllBare s'.gens)
    (hch : ∀ b ∈ ch, (b ∈ X.ex ∨ X.s₀.heap.objs.size ≤ b) ∧ b ≠ X.env.locals ∧ (∀ x c, X.env.cells.lookup x = some c → c ≠ b) ∧ ∀ p ∈ X.pn ++ pins, p.1 ≠ b) : Inv X pins σ H' s' := by
  obtain ⟨h', g', d', t', o'⟩ := s'
  have e : o' = s.os := ho
  subst e
  exact I.call (g' := g') (t' := t') (d' := d') u hok hg hch
end

/-! ### the judgements -/
/-- an exception: its class, its own dict's address (where it has one), the abstract heap behind it -/
abbrev XK := Value → Option Addr → Hp → Prop
abbrev St := List (Option V)
abbrev VK := V → Hp → Prop
/-- an expression's reading; a test's; an argument list's -/
abbrev TE := St → Hp → VK → Prop
abbrev TT := St → Hp → (Bool → Hp → Prop) → Prop
abbrev TA := St → Hp → (List V → Hp → Prop) → Prop
/-- what is wanted behind a statement -/
structure Ends where
  nx : St → Hp → Prop
  rt : VK
  bk : St → Hp → Prop := fun _ _ => False
  ct : St → Hp → Prop := fun _ _ => False
abbrev TS := Ends → St → Hp → Prop

def EP (X : Cx) (pins : List (Addr × Obj)) (σ : St) (Q : VK) (u : Value) (s' : Shared) : Prop := ∃ v H', Inv X pins σ H' s' ∧ RelV v u ∧ Q v H'
def TP (X : Cx) (pins : List (Addr × Obj)) (σ : St) (Q : Bool → Hp → Prop) (b : Bool) (s' : Shared) : Prop := ∃ H', Inv X pins σ H' s' ∧ Q b H'
def AP (X : Cx) (pins : List (Addr × Obj)) (σ : St) (Q : List V → Hp → Prop) (us : List Value) (s' : Shared) : Prop := ∃ vs H', Inv X pins σ H' s' ∧ Vals vs us ∧ Q vs H'
def SP (X : Cx) (pins : List (Addr × Obj)) (D : Ends) (f : Flow) (s' : Shared) : Prop :=
  match f with
  | .next => ∃ σ' H', Inv X pins σ' H' s' ∧ D.nx σ' H'
  | .brk => ∃ σ' H', Inv X pins σ' H' s' ∧ D.bk σ' H'
  | .cont => ∃ σ' H', Inv X pins σ' H' s' ∧ D.ct σ' H'
  | .ret u => ∃ v σ' H', Inv X pins σ' H' s' ∧ RelV v u ∧ D.rt v H'

def PE (X : Cx) (e : Expr) (t : TE) : Prop :=
  ∀ (pins : List (Addr × Obj)) (s : Shared) (σ : St) (H : Hp) (Q : VK), Inv X pins σ H s → t σ H Q → wpAny (model X.prog X.w) X.A (eval e X.env) (EP X pins σ Q) X.xe s
def PT (X : Cx) (e : Expr) (t : TT) : Prop :=
  ∀ (pins : List (Addr × Obj)) (s : Shared) (σ : St) (H : Hp) (Q : Bool → Hp → Prop), Inv X pins σ H s → t σ H Q → wpAny (model X.prog X.w) X.A (isTrue e X.env (eval e X.env)) (TP X pins σ Q) X.xe s
/-- a test whatever its 'whole' is (and, or) -/
def PW (X : Cx) (e : Expr) (t : TT) : Prop :=
  ∀ (whole : Sem Value) (pins : List (Addr × Obj)) (s : Shared) (σ : St) (H : Hp) (Q : Bool → Hp → Prop), Inv X pins σ H s → t σ H Q → wpAny (model X.prog X.w) X.A (isTrue e X.env whole) (TP X pins σ Q) X.xe s
theorem PW.pt {X : Cx} {e : Expr} {t : TT} (h : PW X e t) : PT X e t := h _
/-- an argument list (no star), from the left -/
def PA (X : Cx) (es : List Expr) (t : TA) : Prop :=
  ∀ (pos : Pos) (pins : List (Addr × Obj)) (s : Shared) (σ : St) (H : Hp) (Q : List V → Hp → Prop), Inv X pins σ H s → t σ H Q → wpAny (model X.prog X.w) X.A (spliced (backTo pos (starEach es X.env))) (AP X pins σ Q) X.xe s
def PS (X : Cx) (st : Stmt) (t : TS) : Prop :=
  ∀ (pins : List (Addr × Obj)) (s : Shared) (σ : St) (H : Hp) (D : Ends), Inv X pins σ H s → t D σ H → wpAny (model X.prog X.w) X.A (exec st X.env) (SP X pins D) X.xe s
def PSs (X : Cx) (st : List Stmt) (t : TS) : Prop :=
  ∀ (pins : List (Addr × Obj)) (s : Shared) (σ : St) (H : Hp) (D : Ends), Inv X pins σ H s → t D σ H → wpAny (model X.prog X.w) X.A (execs st X.env) (SP X pins D) X.xe s
/-- weaken the end -/
theorem thn {α : Type} {t : Sem α} {Q Q' : α → Shared → Prop} {M : Model} {A : Around} {E : Value → Shared → Prop} {s : Shared} (h : wpAny M A t Q E s) (hQ : ∀ a s, Q a s → Q' a s) : wpAny M A t Q' E s := wpAny_mono h hQ fun _ _ x => x
end L2

namespace L2
open PySem PySem.Spec PyProof.Rows
section
variable {X : Cx}


/-! ### names and constants -/
def tVar (i : Nat) : TE := fun σ H Q => ∃ v, σ[i]? = some (some v) ∧ Q v H
def tC (v : V) : TE := fun _ H Q => Q v H
theorem pe_var {i : Nat} {x : Str} {pos : Pos} (hN : X.N[i]? = some x) (hv : Vis X.env.scope x) (hd : (x == ("__debug__" : Str)) = false := by decide) (hcd : (x == ("__classdict__" : Str)) = false := by decide) : PE X (.Name x pos) (tVar i) := by
  intro pins s σ H Q I h
  obtain ⟨v, e, h⟩ := h
  obtain ⟨m, hn, hl⟩ := I.loc
  obtain ⟨u, r, l⟩ := hl i x v hN e hv
  have fin : EP X pins σ Q u s := ⟨v, H, I, r, h⟩
  rcases l with ⟨hk, hm⟩ | ⟨hk, c, hc, hcell⟩
  · exact wpAny_Name (wpAny_loadName_local I.ok.kind hk hn hm fin) hd
  · rcases hk with hk | hk
    · exact wpAny_Name (wpAny_loadName_cell I.ok.kind hk hc hcell fin) hd
    · exact wpAny_Name (wpAny_loadName_free I.ok.kind hk hc hcell fin hcd) hd
theorem pe_int {i j pos} : PE X (.Constant (.int i) j pos) (tC (.int i)) := fun _ _ _ H _ I h => wpAny_Constant_int ⟨.int i, H, I.tok _, ⟨_, rfl⟩, h⟩
theorem pe_bl {b j pos} : PE X (.Constant (.bool b) j pos) (tC (.bl b)) := fun _ _ _ H _ I h => Constant_bool ⟨.bl b, H, I, rfl, h⟩
theorem pe_str {x j pos} : PE X (.Constant (.str x) j pos) (tC (.str x)) := fun _ _ _ H _ I h => Calls.Constant_str ⟨.str x, H, I.tok _, ⟨_, rfl⟩, h⟩

/-- a global name of the def -/
def Gl (X : Cx) (x : Str) : Prop := X.env.kindOf x = some .globalImplicit
theorem ld_glob {E : Value → Shared → Prop} {pins : List (Addr × Obj)} {s : Shared} {σ : St} {H : Hp} {x : Str} {u : Value} {pos : Pos} {Q : Value → Shared → Prop} (I : Inv X pins σ H s) (hg : Gl X x) (hm : X.mg x = some u) (h : Q u s)
    (hd : (x == ("__debug__" : Str)) = false := by decide) : wpAny (model X.prog X.w) X.A (eval (.Name x pos) X.env) Q E s :=
  Calls.Name_function_global I.ok.kind hg (Calls.loadGlobal_global (by rw [I.ok.glob]; exact I.mod.glob.keeps I.bk) hm h) hd
theorem ld_blt {E : Value → Shared → Prop} {pins : List (Addr × Obj)} {s : Shared} {σ : St} {H : Hp} {x : Str} {u : Value} {pos : Pos} {Q : Value → Shared → Prop} (I : Inv X pins σ H s) (hg : Gl X x) (hm : X.mg x = none) (hv : bootBuiltins x = some u) (h : Q u s)
    (hn : x ≠ "__name__" := by decide) (hd : (x == ("__debug__" : Str)) = false := by decide) : wpAny (model X.prog X.w) X.A (eval (.Name x pos) X.env) Q E s := by
  obtain ⟨mb, h1, h2⟩ := I.mod.blt
  exact Calls.Name_function_global I.ok.kind hg (Calls.loadGlobal_builtin (by rw [I.ok.glob]; exact I.mod.glob.keeps I.bk) hm (by rw [I.ok.blt]; exact h1.keeps I.bk) ((h2 x hn).trans hv) h) hd
/-- a module's constant, a class, a function, as a value -/
theorem pe_glob {x : Str} {v : V} {u : Value} {pos : Pos} (hg : Gl X x) (hm : X.mg x = some u) (r : RelV v u) (hd : (x == ("__debug__" : Str)) = false := by decide) : PE X (.Name x pos) (tC v) :=
  fun _ _ _ H _ I h => ld_glob I hg hm ⟨v, H, I, r, h⟩ hd
theorem pe_bltn {x : Str} {v : V} {u : Value} {pos : Pos} (hg : Gl X x) (hm : X.mg x = none) (hv : bootBuiltins x = some u) (r : RelV v u) (hn : x ≠ "__name__" := by decide) (hd : (x == ("__debug__" : Str)) = false := by decide) : PE X (.Name x pos) (tC v) :=
  fun _ _ _ H _ I h => ld_blt I hg hm hv ⟨v, H, I, r, h⟩ hn hd

/-! ### arithmetic -/
variable {a b : Expr} {ta tb : TE} {pos : Pos}

/-! ### comparisons -/
/-- a comparison as a value, as a test -/
def tB (t : TE) : TT := fun σ H Q => t σ H fun x H1 => ∃ c, x = .bl c ∧ Q c H1
/-- an expression whose value is a bool, as a test -/
theorem pt_val {e : Expr} {t : TE} (h : PE X e t) (he : ∀ whole, isTrue e X.env whole = (do let v ← whole; standAt e.pos; holding [v] (truthy v)) := by intro _; rfl) : PT X e (tB t) := by
  intro pins s σ H Q I hw
  refine isTrue_plain (thn (h pins s σ H _ I hw) fun v s1 ⟨x, H1, I1, r1, q1⟩ => ?_) (he _)
  obtain ⟨d, rfl, q⟩ := q1
  cases r1
  exact wpAny_truthy_bool ⟨H1, I1, q⟩

/-! ### and, or, not -/
variable {tA tB' : TT} {rest : List Expr}
def tAnd (t u : TT) : TT := fun σ H Q => t σ H fun c H1 => if c = true then u σ H1 Q else Q false H1
def tOr (t u : TT) : TT := fun σ H Q => t σ H fun c H1 => if c = true then Q true H1 else u σ H1 Q
def tNot (t : TT) : TT := fun σ H Q => t σ H fun c H1 => Q (!c) H1
theorem pw_and1 (ha : PT X a tA) : PW X (.BoolOp .And [a] pos) tA := by
  intro wh pins s σ H Q I h
  refine isTrue_and (thn (ha pins s σ H Q I h) fun c s1 e => ?_)
  cases c with
  | true => exact isTrue_and_nil e
  | false => exact e
theorem pw_or1 (ha : PT X a tA) : PW X (.BoolOp .Or [a] pos) tA := by
  intro wh pins s σ H Q I h
  refine isTrue_or (thn (ha pins s σ H Q I h) fun c s1 e => ?_)
  cases c with
  | false => exact isTrue_or_nil e
  | true => exact e
theorem pw_and (ha : PT X a tA) (hb : PW X (.BoolOp .And (b :: rest) pos) tB') : PW X (.BoolOp .And (a :: b :: rest) pos) (tAnd tA tB') := by
  intro wh pins s σ H Q I h
  refine isTrue_and (thn (ha pins s σ H _ I h) fun c s1 ⟨H1, I1, q1⟩ => ?_)
  cases c with
  | true => exact hb wh pins s1 σ H1 Q I1 q1
  | false => exact ⟨H1, I1, q1⟩
theorem pw_or (ha : PT X a tA) (hb : PW X (.BoolOp .Or (b :: rest) pos) tB') : PW X (.BoolOp .Or (a :: b :: rest) pos) (tOr tA tB') := by
  intro wh pins s σ H Q I h
  refine isTrue_or (thn (ha pins s σ H _ I h) fun c s1 ⟨H1, I1, q1⟩ => ?_)
  cases c with
  | true => exact ⟨H1, I1, q1⟩
  | false => exact hb wh pins s1 σ H1 Q I1 q1
theorem pt_not (ha : PT X a tA) : PT X (.UnaryOp .Not a pos) (tNot tA) := by
  intro pins s σ H Q I h
  exact isTrue_not (ha pins s σ H (fun c H1 => Q (!c) H1) I h)
/-- .. as values (bools) -/
def tAndV (ta tb : TE) : TE := fun σ H Q => ta σ H fun x H1 => ∃ c, x = .bl c ∧ if c = true then tb σ H1 Q else Q (.bl false) H1
def tNotV (ta : TE) : TE := fun σ H Q => ta σ H fun x H1 => ∃ c, x = .bl c ∧ Q (.bl (!c)) H1
theorem pe_one {op} {t : TE} (h : PE X a t) : PE X (.BoolOp op [a] pos) t := fun pins s σ H Q I hw => BoolOp_one (h pins s σ H Q I hw)
theorem pe_and (ha : PE X a ta) (hb : PE X (.BoolOp .And (b :: rest) pos) tb) : PE X (.BoolOp .And (a :: b :: rest) pos) (tAndV ta tb) := by
  intro pins s σ H Q I h
  refine BoolOp_and (thn (ha pins s σ H _ I h) fun v s1 ⟨x, H1, I1, r1, q1⟩ => ?_)
  obtain ⟨c, rfl, q1⟩ := q1
  cases r1
  refine wpAny_truthy_bool ?_
  cases c with
  | true => exact hb pins s1 σ H1 Q I1 q1
  | false => exact ⟨.bl false, H1, I1, rfl, q1⟩
theorem pe_not (ha : PE X a ta) : PE X (.UnaryOp .Not a pos) (tNotV ta) := by
  intro pins s σ H Q I h
  refine UnaryOp_ (thn (ha pins s σ H _ I h) fun v s1 ⟨x, H1, I1, r1, q1⟩ => ?_)
  obtain ⟨c, rfl, q1⟩ := q1
  cases r1
  exact not_of (wpAny_truthy_bool ⟨.bl (!c), H1, I1, rfl, q1⟩)
/-- a if t else b -/
def tIf (t : TT) (ta tb : TE) : TE := fun σ H Q => t σ H fun c H1 => if c = true then ta σ H1 Q else tb σ H1 Q
theorem pe_ifExp {c : Expr} (hc : PT X c tA) (ha : PE X a ta) (hb : PE X b tb) : PE X (.IfExp c a b pos) (tIf tA ta tb) := by
  intro pins s σ H Q I h
  refine wpAny_IfExp (thn (hc pins s σ H _ I h) fun d s1 ⟨H1, I1, q1⟩ => ?_)
  cases d with
  | true => exact ha pins s1 σ H1 Q I1 q1
  | false => exact hb pins s1 σ H1 Q I1 q1
end
end L2

namespace L2
open PySem PySem.Spec PyProof.Rows

/-! ### a list, a tuple that is read: tracked, frozen, or an object of the module -/
def SqL (K : PySem.W.Frag) (H : Hp) (a : Addr) (xs : List V) : Prop :=
  Rd H a (.lst xs) ∨
    ∃ (o : Obj) (its : Array Value) (n : Nat), K.lookup a = some o ∧ o.cls = .type "list" ∧ o.dict = none ∧ o.data = .seq its n ∧ its.size ≤ sizeLine ∧ Vals xs its.toList
def SqT (K : PySem.W.Frag) (H : Hp) (a : Addr) (xs : List V) : Prop :=
  Rd H a (.tup xs) ∨
    ∃ (o : Obj) (its : Array Value) (n : Nat), K.lookup a = some o ∧ o.cls = .type "tuple" ∧ o.data = .seq its n ∧ its.size ≤ sizeLine ∧ Vals xs its.toList
def absV : Value → Option V
  | .none => some .non
  | .bool b => some (.bl b)
  | .int i _ => some (.int i)
  | .str x _ => some (.str x)
  | .bytes b _ => some (.byt b)
  | .float b _ => some (.flt b)
  | .ref a => some (.ref a)
  | .type n => some (.ty n)
  | _ => none
theorem RelV.abs {x : V} {u : Value} (r : RelV x u) : absV u = some x := by
  cases x with
  | non => cases r; rfl
  | bl _ => cases r; rfl
  | int _ => obtain ⟨t, rfl⟩ := r; rfl
  | str _ => obtain ⟨t, rfl⟩ := r; rfl
  | byt _ => obtain ⟨t, rfl⟩ := r; rfl
  | flt _ => obtain ⟨t, rfl⟩ := r; rfl
  | ref _ => cases r; rfl
  | ty _ => cases r; rfl
theorem RelV.inj {x y : V} {u : Value} (r : RelV x u) (q : RelV y u) : x = y := Option.some.inj (r.abs.symm.trans q.abs)
theorem Vals.inj {xs ys : List V} {us : List Value} (h : Vals xs us) (h' : Vals ys us) : xs = ys := by
  induction h generalizing ys with
  | nil => cases h'; rfl
  | cons r t ih => cases h' with | cons r' t' => rw [r.inj r', ih t']
section
variable {X : Cx} {pins : List (Addr × Obj)} {σ : St} {H : Hp} {s : Shared} {a : Addr} {xs ys : List V}
theorem SqL.of {K : PySem.W.Frag} (h : H a = some (.lst xs)) : SqL K H a xs := .inl (.inl h)
theorem SqT.of {K : PySem.W.Frag} (h : H a = some (.tup xs)) : SqT K H a xs := .inl (.inl h)
theorem Inv.list (I : Inv X pins σ H s) (h : SqL X.K H a xs) : ∃ its : List Value, Vals xs its ∧ PlainL s.heap a its.toArray ∧ xs.length ≤ sizeLine := by
  rcases h with h | ⟨o, its, n, hk, hc, hd, hs, hz, r⟩
  · obtain ⟨z, its, n, r, e⟩ := h.ok I.hok
    exact ⟨its, r, ⟨_, n, e, rfl, rfl, rfl⟩, z⟩
  · refine ⟨its.toList, r, ⟨o, n, I.kIn a o hk, hc, hd, by simpa using hs⟩, ?_⟩
    have e := r.length
    simp only [Array.length_toList] at e
    omega
theorem Inv.tuple (I : Inv X pins σ H s) (h : SqT X.K H a xs) : ∃ its : List Value, Vals xs its ∧ IsTup s.heap a its.toArray ∧ xs.length ≤ sizeLine := by
  rcases h with h | ⟨o, its, n, hk, hc, hs, hz, r⟩
  · obtain ⟨z, its, r, p⟩ := h.ok I.hok
    exact ⟨its, r, p, z⟩
  · refine ⟨its.toList, r, ⟨o, I.kIn a o hk, hc, n, by simpa using hs⟩, ?_⟩
    have e := r.length
    simp only [Array.length_toList] at e
    omega
theorem Inv.list_inj (I : Inv X pins σ H s) (h : SqL X.K H a xs) (h' : SqL X.K H a ys) : xs = ys := by
  obtain ⟨its, r, ⟨o, n, e, _, _, d⟩, _⟩ := I.list h
  obtain ⟨its', r', ⟨o', n', e', _, _, d'⟩, _⟩ := I.list h'
  rw [e] at e'; cases e'
  rw [d] at d'
  injection d' with d1 _
  have : its = its' := by simpa using congrArg Array.toList d1
  subst this
  exact r.inj r'
end

/-! ### another wish about exceptions -/
abbrev Cx.wish (X : Cx) (E : Value → Shared → Prop) : Cx := { X with xe := E }
/-- no exception leaves -/
abbrev Cx.nox (X : Cx) : Cx := X.wish fun _ _ => False
theorem Cx.Ok.wish {X : Cx} (ok : X.Ok) (E : Value → Shared → Prop) : (X.wish E).Ok :=
  ⟨ok.mod, ok.kind, ok.glob, ok.blt, ok.above, ok.inj, ok.has, ok.cab, ok.hd, ok.frames, ok.stk, ok.exf, ok.bs, ok.bsz, ok.noex, ok.exfs, ok.funs, ok.frf⟩
theorem Cx.Ok.unwish {X : Cx} {E : Value → Shared → Prop} (ok : (X.wish E).Ok) : X.Ok :=
  ⟨ok.mod, ok.kind, ok.glob, ok.blt, ok.above, ok.inj, ok.has, ok.cab, ok.hd, ok.frames, ok.stk, ok.exf, ok.bs, ok.bsz, ok.noex, ok.exfs, ok.funs, ok.frf⟩
section
variable {X : Cx} {pins : List (Addr × Obj)} {σ : St} {H : Hp} {s : Shared} {E : Value → Shared → Prop}
theorem Inv.wish (I : Inv X pins σ H s) (E : Value → Shared → Prop) : Inv (X.wish E) pins σ H s := ⟨I.ok.wish E, I.os, I.bare, I.base, I.loc, I.cell, I.free, I.freeC, I.pin, I.hok, I.len⟩
theorem Inv.unwish (I : Inv (X.wish E) pins σ H s) : Inv X pins σ H s := ⟨I.ok.unwish, I.os, I.bare, I.base, I.loc, I.cell, I.free, I.freeC, I.pin, I.hok, I.len⟩
theorem SP.unwish {D : Ends} {f : Flow} {s' : Shared} (h : SP (X.wish E) pins D f s') : SP X pins D f s' := by
  cases f with
  | next => obtain ⟨σ', H', I, q⟩ := h; exact ⟨σ', H', I.unwish, q⟩
  | brk => obtain ⟨σ', H', I, q⟩ := h; exact ⟨σ', H', I.unwish, q⟩
  | cont => obtain ⟨σ', H', I, q⟩ := h; exact ⟨σ', H', I.unwish, q⟩
  | ret u => obtain ⟨v, σ', H', I, r, q⟩ := h; exact ⟨v, σ', H', I.unwish, r, q⟩
theorem PSs.nox {st : List Stmt} {t : TS} (h : PSs X.nox st t) : PSs X st t := fun pins s σ H D I hw =>
  wpAny_mono (h pins s σ H D (I.wish _) hw) (fun _ _ q => q.unwish) fun _ _ z => False.elim z
end

/-! ### blocks and small statements -/
section
variable {X : Cx} {st : Stmt} {rest : List Stmt} {t u : TS} {e : Expr} {te : TE} {pos : Pos}
def tNext : TS := fun D σ H => D.nx σ H
def tSeq (t u : TS) : TS := fun D σ H => t { D with nx := u D } σ H
theorem pss_nil : PSs X [] tNext := fun _ _ σ H _ I h => wpAny_execs_nil ⟨σ, H, I, h⟩
theorem pss_cons (h1 : PS X st t) (h2 : PSs X rest u) : PSs X (st :: rest) (tSeq t u) := by
  intro pins s σ H D I h
  refine wpAny_execs_cons (thn (h1 pins s σ H { D with nx := u D } I h) fun f s1 q => ?_)
  cases f with
  | next =>
    obtain ⟨σ', H', I', q⟩ := q
    exact h2 pins s1 σ' H' D I' q
  | ret v => exact q
  | brk => exact q
  | cont => exact q
theorem pss_one (h1 : PS X st t) : PSs X [st] t := by
  intro pins s σ H D I h
  refine wpAny_execs_cons (thn (h1 pins s σ H D I h) fun f s1 q => ?_)
  cases f with
  | next => exact wpAny_execs_nil q
  | ret v => exact q
  | brk => exact q
  | cont => exact q
/-- in a def's body nothing is shown -/
theorem Inv.quiet {pins : List (Addr × Obj)} {σ : St} {H : Hp} {s : Shared} (I : Inv X pins σ H s) : interactive X.env = false := by simp [interactive, I.ok.kind]
/-- an expression whose value is dropped -/
def tDrop (te : TE) : TS := fun D σ H => te σ H fun _ H1 => D.nx σ H1
theorem ps_expr (he : PE X e te) (hs : swapsWith e none pos.line X.env = pure false := by rfl) : PS X (.Expr e pos) (tDrop te) := by
  intro pins s σ H D I h
  exact wpAny_Expr_any (thn (he pins s σ H _ I h) fun v s1 ⟨x, H1, I1, r1, q1⟩ => ⟨σ, H1, I1, q1⟩) I.quiet hs
def tRet (te : TE) : TS := fun D σ H => te σ H D.rt
theorem ps_ret (he : PE X e te) : PS X (.Return (some e) pos) (tRet te) := by
  intro pins s σ H D I h
  exact wpAny_Return_some (thn (he pins s σ H _ I h) fun v s1 ⟨x, H1, I1, r1, q1⟩ => ⟨x, σ, H1, I1, r1, q1⟩)
def tIfS (c : TT) (t u : TS) : TS := fun D σ H => c σ H fun b H1 => if b = true then t D σ H1 else u D σ H1
theorem ps_if {c : Expr} {a b : List Stmt} {tc : TT} (hc : PT X c tc) (ha : PSs X a t) (hb : PSs X b u) : PS X (.If c a b pos) (tIfS tc t u) := by
  intro pins s σ H D I h
  refine wpAny_If (thn (hc pins s σ H _ I h) fun d s1 ⟨H1, I1, q1⟩ => ?_)
  cases d with
  | true => exact ha pins s1 σ H1 D I1 q1
  | false => exact hb pins s1 σ H1 D I1 q1
end

/-! ### targets -/
abbrev TG := V → St → Hp → (St → Hp → Prop) → Prop
abbrev TGs := List V → St → Hp → (St → Hp → Prop) → Prop
def PG (X : Cx) (target : Expr) (t : TG) : Prop :=
  ∀ (pins : List (Addr × Obj)) (s : Shared) (σ : St) (H : Hp) (v : V) (u : Value) (Q : St → Hp → Prop), Inv X pins σ H s → RelV v u → t v σ H Q →
    wpAny (model X.prog X.w) X.A (assign target X.env u) (fun _ s' => ∃ σ' H', Inv X pins σ' H' s' ∧ Q σ' H') X.xe s
/-- several targets, one after another -/
def PGs (X : Cx) (ts : List Expr) (t : TGs) : Prop :=
  ∀ (pins : List (Addr × Obj)) (s : Shared) (σ : St) (H : Hp) (vs : List V) (us : List Value) (Q : St → Hp → Prop), Inv X pins σ H s → Vals vs us → t vs σ H Q →
    wpAny (model X.prog X.w) X.A (assignInOrder ((assignEach ts X.env).map (·.2)) us) (fun _ s' => ∃ σ' H', Inv X pins σ' H' s' ∧ Q σ' H') X.xe s
/-- o[i] = v, by values -/
abbrev TSet := V → V → V → Hp → (Hp → Prop) → Prop
def PSet (X : Cx) (t : TSet) : Prop :=
  ∀ (pins : List (Addr × Obj)) (s : Shared) (σ : St) (H : Hp) (o i v : V) (ov iv u : Value) (Q : Hp → Prop), Inv X pins σ H s → RelV o ov → RelV i iv → RelV v u → t o i v H Q →
    wpAny (model X.prog X.w) X.A (setItem ov iv u) (fun _ s' => ∃ H', Inv X pins σ H' s' ∧ Q H') X.xe s
section
variable {X : Cx} {pos : Pos}
def gName (i : Nat) : TG := fun v σ H Q => Q (σ.set i (some v)) H
theorem pg_name {i : Nat} {x : Str} (hN : X.N.Nodup) (hi : X.N[i]? = some x) (hx : Loc X.env.scope x) (hf : X.fn x = true ∨ X.env.scope.names.lookup x = some .local := by first | exact .inl rfl | exact .inr rfl | assumption) : PG X (.Name x pos) (gName i) := by
  intro pins s σ H v u Q I r h
  exact wpAny_assign_Name (store_ok I hN hi hx r (fun s' I' => ⟨_, H, I', h⟩) hf)
def gNil : TGs := fun vs σ H Q => vs = [] ∧ Q σ H
def gCons (t : TG) (u : TGs) : TGs := fun vs σ H Q => ∃ v r, vs = v :: r ∧ t v σ H fun σ' H' => u r σ' H' Q
theorem pgs_nil : PGs X [] gNil := by
  intro pins s σ H vs us Q I r h
  obtain ⟨e, h⟩ := h
  subst e
  cases r
  exact assignInOrder_nil ⟨σ, H, I, h⟩
theorem pgs_cons {e : Expr} {es : List Expr} {t : TG} {u : TGs} (h1 : PG X e t) (h2 : PGs X es u)
    (hs : (assignEach (e :: es) X.env).map (·.2) = assign e X.env :: (assignEach es X.env).map (·.2) := by rfl) : PGs X (e :: es) (gCons t u) := by
  intro pins s σ H vs us Q I r h
  obtain ⟨v, vr, e1, h⟩ := h
  subst e1
  cases r with
  | cons r rr =>
    rw [hs]
    refine assignInOrder_cons (thn (h1 pins s σ H _ _ _ I r h) fun _ s1 ⟨σ1, H1, I1, q1⟩ => ?_)
    exact h2 pins s1 σ1 H1 _ _ Q I1 rr q1
/-- (a, b, ..) = a tuple of that length -/
def gTup (K : PySem.W.Frag) (n : Nat) (t : TGs) : TG := fun v σ H Q => ∃ a xs, v = .ref a ∧ SqT K H a xs ∧ xs.length = n ∧ t xs σ H Q
theorem pg_tup {es : List Expr} {k : Nat} {t : TGs} {n : Nat} (hc : X.calm = true) (h : PGs X es t)
    (hn : (assignEach es X.env).length = n := by rfl) (hst : (assignEach es X.env).findIdx? (·.1) = none := by rfl) : PG X (.Tuple es k pos) (gTup X.K n t) := by
  intro pins s σ H v u Q I r hw
  obtain ⟨a, xs, e1, hq, hl, hw⟩ := hw
  subst e1
  cases r
  obtain ⟨its, rv, ht, hz⟩ := I.tuple hq
  refine assign_Tuple_tuple (I.ok.hd hc) ht (by simp [hn, ← hl, rv.length]) hst fun h' hx => ?_
  have I1 : Inv X pins σ H { s with heap := h' } := I.kept (t' := s.toks) fun b o e => hx b o (Nat.ne_of_lt (Heap.lt_size e)) e
  exact h pins _ σ H xs _ Q I1 (by simpa using rv) hw
/-- o[i] = .. -/
def gSub (to ti : TE) (t : TSet) : TG := fun v σ H Q => to σ H fun o H1 => ti σ H1 fun i H2 => t o i v H2 fun H3 => Q σ H3
theorem pg_sub {o i : Expr} {to ti : TE} {t : TSet} (ho : PE X o to) (hi : PE X i ti) (hs : PSet X t)
    (ha : ∀ v, assign (.Subscript o i pos) X.env v = (do
      let ov ← holding [v] (eval o X.env)
      let iv ← holding [v, ov] (eval i X.env)
      standAt pos
      holding [v, ov, iv] (setItem ov iv v)
      release [v, ov, iv] []) := by intro _; rfl) : PG X (.Subscript o i pos) (gSub to ti t) := by
  intro pins s σ H v u Q I r h
  rw [ha]
  refine wpAny_bind (wpAny_holding (thn (ho pins s σ H _ I h) fun ov s1 ⟨x, H1, I1, r1, q1⟩ => ?_))
  refine wpAny_bind (wpAny_holding (thn (hi pins s1 σ H1 _ I1 q1) fun iv s2 ⟨y, H2, I2, r2, q2⟩ => ?_))
  refine wpAny_bind (wpAny_standAt (wpAny_bind (wpAny_holding (thn (hs pins s2 σ H2 x y v ov iv u _ I2 r1 r2 r q2) fun _ s3 ⟨H3, I3, q3⟩ => ?_))))
  exact wpAny_release ⟨σ, H3, I3, q3⟩
/-- target = value -/
def tAsg (te : TE) (g : TG) : TS := fun D σ H => te σ H fun x H1 => g x σ H1 D.nx
theorem ps_asg {tg e : Expr} {te : TE} {g : TG} (he : PE X e te) (hg : PG X tg g) (hs : swapsWithSole [tg] e pos.line X.env = pure false := by rfl) (hw : swappedStores [tg] e X.env = pure none := by rfl)
    (h1 : (assignEach [tg] X.env).map (·.2) = [assign tg X.env] := by rfl) : PS X (.Assign [tg] e pos) (tAsg te g) := by
  intro pins s σ H D I h
  refine wpAny_Assign_stores (thn (he pins s σ H _ I h) fun v s1 ⟨x, H1, I1, r1, q1⟩ => ?_) hs hw
  rw [h1]
  exact thn (hg pins s1 σ H1 x v _ I1 r1 q1) fun _ s2 q => q
/-- name = value -/
theorem ps_set {i : Nat} {x : Str} {e : Expr} {te : TE} {pos' : Pos} (hN : X.N.Nodup) (hi : X.N[i]? = some x) (hx : Loc X.env.scope x) (he : PE X e te) (hs : swapsWith e (some (.Name x pos')) pos.line X.env = pure false := by rfl) (hf : X.fn x = true ∨ X.env.scope.names.lookup x = some .local := by first | exact .inl rfl | exact .inr rfl | assumption) :
    PS X (.Assign [.Name x pos'] e pos) (tAsg te (gName i)) := by
  intro pins s σ H D I h
  refine wpAny_Assign_Name (thn (he pins s σ H _ I h) fun v s1 ⟨y, H1, I1, r1, q1⟩ => ?_) hs
  exact store_ok I1 hN hi hx r1 (fun s2 I2 => ⟨_, H1, I2, q1⟩) hf
end

/-! ### while -/
section
variable {X : Cx} {pos : Pos}
end

/-! ### what a loop or a comprehension walks -/
/-- at turn i: it yields x (the heap may grow), or it stops -/
structure It where
  go : Nat → Hp → Prop
  yld : Nat → Hp → V → Hp → Prop
  stop : Nat → Hp → Prop
/-- the iterator's own objects may turn: they are not the frame's, not pinned, younger than the entry (or a comprehension's own) -/
def FpOk (X : Cx) (pins : List (Addr × Obj)) (H : Hp) (b : Addr) : Prop :=
  H b = none ∧ b ≠ X.env.locals ∧ b ∉ X.fs ∧ (b ∈ X.ex ∨ X.s₀.heap.objs.size ≤ b) ∧ (∀ x c, X.env.cells.lookup x = some c → c ≠ b) ∧ ∀ p ∈ X.pn ++ pins, p.1 ≠ b
theorem Inv.fpOk {X : Cx} {pins : List (Addr × Obj)} {σ : St} {H H' : Hp} {s : Shared} {b : Addr} (I : Inv X pins σ H s) (hb : s.heap.objs.size ≤ b) (hn : H' b = none) : FpOk X pins H' b := by
  refine ⟨hn, Nat.ne_of_gt (Nat.lt_of_lt_of_le I.lt hb), I.nofs hb, .inr (Nat.le_trans I.sz hb), fun x c e z => ?_, fun p hp z => ?_⟩
  · obtain ⟨v, q⟩ := I.cell x c e
    exact absurd (Nat.lt_of_lt_of_le q.lt (by rw [z]; exact hb)) (Nat.lt_irrefl _)
  · exact absurd (Nat.lt_of_lt_of_le (Heap.lt_size (I.pin p hp).1) (by rw [z]; exact hb)) (Nat.lt_irrefl _)
structure Turn (P : Program) (w : World) (K : PySem.W.Frag) (tg : Expr) (J : It) (fp : List Addr) (it : Addr) (tn : Nat → Heap → Prop) : Prop where
  mem : it ∈ fp
  obj : ∀ i h, tn i h → ∀ b ∈ fp, ∃ o, h.get? b = some o ∧ ∀ v, o.data ≠ .cell v
  keep : ∀ i h h', tn i h → (∀ b ∈ fp, ∀ o, h.get? b = some o → h'.get? b = some o) → tn i h'
  item : ∀ (X : Cx), X.prog = P → X.w = w → X.K = K → X.calm = true → ∀ (i : Nat) (pins : List (Addr × Obj)) (s : Shared) (σ : St) (H : Hp) (E : Value → Shared → Prop), Inv X pins σ H s → (∀ b ∈ fp, FpOk X pins H b) → tn i s.heap → J.go i H →
    wpAny (model P w) X.A (pyNext (.ref it)) (fun r s1 => ∃ u, r = some u ∧
      wpAny (model P w) X.A (letOwnedTupleGo tg (.ref it) u) (fun _ s2 => ∃ x H', Inv X pins σ H' s2 ∧ RelV x u ∧ J.yld i H x H' ∧ tn (i + 1) s2.heap ∧ ∀ b ∈ fp, H' b = none) E s1) E s
  done : ∀ (X : Cx), X.prog = P → X.w = w → X.K = K → X.calm = true → ∀ (i : Nat) (pins : List (Addr × Obj)) (s : Shared) (σ : St) (H : Hp) (E : Value → Shared → Prop), Inv X pins σ H s → (∀ b ∈ fp, FpOk X pins H b) → tn i s.heap → J.stop i H →
    wpAny (model P w) X.A (pyNext (.ref it)) (fun r s1 => r = none ∧ Inv X pins σ H s1) E s
  self : ∀ (A : Around) (i : Nat) (s : Shared) (Q : Value → Shared → Prop) (E : Value → Shared → Prop), tn i s.heap → Q (.ref it) s → wpAny (model P w) A (pyIter (.ref it)) Q E s
abbrev TI := St → Hp → (It → Hp → Prop) → Prop
/-- an iterator has come -/
def PIE (X : Cx) (pins : List (Addr × Obj)) (σ : St) (tg : Expr) (R : It → Hp → Prop) (itv : Value) (s2 : Shared) : Prop :=
  ∃ (it : Addr) (fp : List Addr) (tn : Nat → Heap → Prop) (J : It) (H' : Hp), itv = .ref it ∧ Inv X pins σ H' s2 ∧ Turn X.prog X.w X.K tg J fp it tn ∧ tn 0 s2.heap ∧ (∀ b ∈ fp, FpOk X pins H' b) ∧ R J H'
def PI (X : Cx) (tg iter : Expr) (wi : TI) : Prop :=
  ∀ (pins : List (Addr × Obj)) (s : Shared) (σ : St) (H : Hp) (R : It → Hp → Prop), Inv X pins σ H s → wi σ H R →
    wpAny (model X.prog X.w) X.A (eval iter X.env) (fun v s1 => wpAny (model X.prog X.w) X.A (pyIter v) (PIE X pins σ tg R) X.xe s1) X.xe s

/-- the step ahead of the store is nothing for an iterator that keeps no tuple -/
theorem go_of {M : Model} {A : Around} {E : Value → Shared → Prop} {s : Shared} {tg : Expr} {it : Addr} {u : Value} {o : Obj} {n : String} {vs : Array Value} {Q : Unit → Shared → Prop} (ho : s.heap.get? it = some o) (hc : o.cls = .type n) (hd : o.data = .fields vs)
    (hn : ["enumerate", "zip", "dict_itemiterator", "dict_reverseitemiterator", "odict_iterator", "itertools.zip_longest", "itertools.pairwise"].contains n = false) (hQ : Q () s) : wpAny M A (letOwnedTupleGo tg (.ref it) u) Q E s := by
  unfold letOwnedTupleGo
  cases tg <;> first
    | exact wpAny_pure hQ
    | (cases u <;> first
        | exact wpAny_pure hQ
        | (refine wpAny_bind (wpAny_load ho ?_)
           rw [hc, hd]
           show wpAny M A (if (["enumerate", "zip", "dict_itemiterator", "dict_reverseitemiterator", "odict_iterator", "itertools.zip_longest", "itertools.pairwise"].contains n && vs[0]? == some (rawInt _)) = true then _ else _) Q E s
           rw [if_neg (by intro h; rw [hn, Bool.false_and] at h; cases h)]
           exact wpAny_pure hQ))

/-- the list at a, as it stands at each turn (a loop may append to it) -/
def Itl (K : PySem.W.Frag) (a : Addr) : It :=
  ⟨fun i H => ∃ xs x, SqL K H a xs ∧ xs[i]? = some x, fun i H x H' => H' = H ∧ ∀ xs, SqL K H a xs → xs[i]? = some x, fun i H => ∃ xs, SqL K H a xs ∧ xs.length ≤ i⟩
/-- lo, lo + 1, .. (n of them) -/
def Itr (lo : Int) (n : Nat) : It := ⟨fun i _ => i < n, fun i H x H' => H' = H ∧ x = .int (lo + i), fun i _ => n ≤ i⟩
theorem turn_list {P : Program} {w : World} {K : PySem.W.Frag} {tg : Expr} (a it : Addr) : Turn P w K tg (Itl K a) [it] it (fun i h => h.IsListIter it a i) where
  mem := by simp
  obj := fun i h st b hb => by
    have e : b = it := by simpa using hb
    subst e
    obtain ⟨o, e, c, d⟩ := st
    exact ⟨o, e, fun v z => by rw [d] at z; cases z⟩
  keep := fun i h h' st k => st.at fun o e => k it (by simp) o e
  item := by
    intro X hP hw hK hc i pins s σ H E I hf st hg
    subst hP hw hK
    obtain ⟨xs, x, hq, hx⟩ := hg
    obtain ⟨its, rv, p, hz⟩ := I.list hq
    obtain ⟨u, hu, ru⟩ := rv.get hx
    obtain ⟨f0, f1, f2, f3, f4, f5⟩ := hf it (by simp)
    refine wpAny_pyNext_list_item st p.isList (x := u) (by simpa using hu) fun h' st' sb => ?_
    have I1 : Inv X pins σ H { s with heap := h' } := I.turned (t' := s.toks) (fun b o hb e => (sb.2 b hb).trans e) f0 f1 f3 f4 f5
    obtain ⟨o, e, c, d⟩ := id st'
    exact ⟨u, rfl, go_of (s := { s with heap := h' }) e c d (by decide) ⟨x, H, I1, ru, ⟨rfl, fun ys hy => by rw [I.list_inj hy hq]; exact hx⟩, st', fun b hb => (hf b hb).1⟩⟩
  done := by
    intro X hP hw hK hc i pins s σ H E I hf st hg
    subst hP hw hK
    obtain ⟨xs, hq, hx⟩ := hg
    obtain ⟨its, rv, p, hz⟩ := I.list hq
    obtain ⟨f0, f1, f2, f3, f4, f5⟩ := hf it (by simp)
    have hl := rv.length
    exact wpAny_pyNext_list_end (I.ok.hd hc) st p.isList (by simp; omega) fun h' eb => ⟨rfl, I.turned (t' := s.toks) (fun b o hb e => eb b o hb e) f0 f1 f3 f4 f5⟩
  self := fun _ _ _ _ _ st h => wpAny_pyIter_listiter st h
theorem turn_range {P : Program} {w : World} {K : PySem.W.Frag} {tg : Expr} (it : Addr) (lo : Int) (n : Nat) : Turn P w K tg (Itr lo n) [it] it (fun i h => IsRangeIter h it (lo + (i : Nat) * 1) ((n : Int) - (i : Nat)) 1) where
  mem := by simp
  obj := fun i h st b hb => by
    have e : b = it := by simpa using hb
    subst e
    exact ⟨_, st, fun v z => by
      have z' : Data.fields _ = Data.cell v := z
      cases z'⟩
  keep := fun i h h' st k => k it (by simp) _ st
  item := by
    intro X hP hw hK hc i pins s σ H E I hf st hg
    subst hP hw hK
    obtain ⟨f0, f1, f2, f3, f4, f5⟩ := hf it (by simp)
    have W := Walks.range (prog := X.prog) (w := X.w) (I.ok.hd hc) it lo 1 n
    refine W.item i s _ _ hg st fun v h' tk hv st' kk => ?_
    obtain ⟨t, rfl⟩ := hv
    have I1 : Inv X pins σ H { s with heap := h', toks := tk } := I.turned (fun b o hb e => kk b o (by simpa using hb) e) f0 f1 f3 f4 f5
    refine ⟨_, rfl, go_of (s := { s with heap := h', toks := tk }) (n := "range_iterator") st' rfl rfl (by decide) ⟨.int (lo + i), H, I1, ⟨t, ?_⟩, ⟨rfl, rfl⟩, st', fun b hb => (hf b hb).1⟩⟩
    rw [Int.mul_one]
  done := by
    intro X hP hw hK hc i pins s σ H E I hf st hg
    subst hP hw hK
    obtain ⟨f0, f1, f2, f3, f4, f5⟩ := hf it (by simp)
    exact wpAny_pyNext_range_end (I.ok.hd hc) st (by have : n ≤ i := hg; omega) fun h' eb => ⟨rfl, I.turned (t' := s.toks) (fun b o hb e => eb b o hb e) f0 f1 f3 f4 f5⟩
  self := fun _ _ _ _ _ st h => wpAny_pyIter_rangeiter st h
end L2

namespace L2
open PySem PySem.Spec PyProof.Rows
section
variable {X : Cx} {tg : Expr}
def iList (K : PySem.W.Frag) (tl : TE) : TI := fun σ H R => tl σ H fun x H1 => ∃ a, x = .ref a ∧ (∃ xs, SqL K H1 a xs) ∧ R (Itl K a) H1
theorem pi_list {l : Expr} {tl : TE} (hl : PE X l tl) : PI X tg l (iList X.K tl) := by
  intro pins s σ H R I h
  refine thn (hl pins s σ H _ I h) fun v s1 ⟨x, H1, I1, r1, q1⟩ => ?_
  obtain ⟨a, e, ⟨xs, hq⟩, q⟩ := q1
  subst e
  cases r1
  obtain ⟨its, rv, p, hz⟩ := I1.list hq
  refine wpAny_pyIter_list p.isList ?_
  refine ⟨s1.heap.objs.size, [s1.heap.objs.size], _, _, H1, rfl, I1.kept (t' := s1.toks) fun b o e => Heap.get?_push_of_some _ e, turn_list a _, ⟨_, Heap.get?_push_size _ rfl, rfl, rfl⟩, fun b hb => ?_, q⟩
  have e : b = s1.heap.objs.size := by simpa using hb
  subst e
  exact I1.fpOk (Nat.le_refl _) (I1.hok.fresh (Nat.le_refl _))
/-- a range object just made, walked -/
theorem range_it {pins : List (Addr × Obj)} {σ : St} {H : Hp} {s : Shared} {R : It → Hp → Prop} {E : Value → Shared → Prop} {lo hi : Int} {t u v : Tok} {tk : Nat} (I : Inv X pins σ H s) (h1 : -(2 ^ 62) ≤ lo) (h2 : lo < 2 ^ 62) (h3 : -(2 ^ 62) ≤ hi) (h4 : hi < 2 ^ 62)
    (q : R (Itr lo (hi - lo).toNat) H) : wpAny (model X.prog X.w) X.A (pyIter (.ref s.heap.objs.size)) (PIE X pins σ tg R) E { s with heap := s.heap.push { cls := .type "range", data := .fields #[.int lo t, .int hi u, .int 1 v] }, toks := tk } := by
  refine wpAny_pyIter_range (IsRange.new ..) (small_one h1 h2 h3 h4) ?_
  have I1 : Inv X pins σ H { s with heap := s.heap.push { cls := .type "range", data := .fields #[.int lo t, .int hi u, .int 1 v] }, toks := tk } := I.kept fun b o e => Heap.get?_push_of_some _ e
  refine ⟨(s.heap.push { cls := .type "range", data := .fields #[.int lo t, .int hi u, .int 1 v] }).objs.size, [(s.heap.push { cls := .type "range", data := .fields #[.int lo t, .int hi u, .int 1 v] }).objs.size], _, _, H, rfl,
    I1.kept (t' := tk) fun b o e => Heap.get?_push_of_some _ e, turn_range _ lo (hi - lo).toNat, ?_, fun b hb => ?_, q⟩
  · have e1 : lo + ((0 : Nat) : Int) * 1 = lo := by simp
    have e2 : (((hi - lo).toNat : Nat) : Int) - ((0 : Nat) : Int) = Builtin.Range.rangeSize lo hi 1 := by rw [rangeSize_one]; split <;> omega
    show IsRangeIter _ _ (lo + ((0 : Nat) : Int) * 1) ((((hi - lo).toNat : Nat) : Int) - ((0 : Nat) : Int)) 1
    rw [e1, e2]
    exact Heap.get?_push_size _ rfl
  · have e : b = (s.heap.push { cls := .type "range", data := .fields #[.int lo t, .int hi u, .int 1 v] }).objs.size := by simpa using hb
    subst e
    exact I1.fpOk (Nat.le_refl _) (I1.hok.fresh (Nat.le_refl _))
def iRng1 (ta : TA) : TI := fun σ H R => ta σ H fun vs H1 => ∃ j : Int, vs = [.int j] ∧ -(2 ^ 62) ≤ j ∧ j < 2 ^ 62 ∧ R (Itr 0 j.toNat) H1
theorem pi_range1 {a : Expr} {ta : TA} {p pos : Pos} (hg : Gl X "range") (hm : X.mg "range" = none) (ha : PA X [a] ta) (hs : starEach [a] X.env = [(false, eval a X.env)] := by rfl) : PI X tg (.Call (.Name "range" p) [a] [] pos) (iRng1 ta) := by
  intro pins s σ H R I h
  refine Call_ (ld_blt I hg hm boot_range (PyProof.Rows.callWith_type1 (thn (ha pos pins s σ H _ I h) fun us s1 ⟨vs, H1, I1, r1, q1⟩ => ?_) hs rfl))
  obtain ⟨j, e, q1, q2, q⟩ := q1
  subst e
  cases r1 with
  | cons r rr =>
    cases rr
    obtain ⟨t, rfl⟩ := r
    exact call_range_1 (range_it I1 (by omega) (by omega) q1 q2 (by simpa using q))

/-! ### for -/
/-- W: the invariant by the turn and a measure; N: what the body is to reach -/
def tFor (wi : TI) (g : TG) (tb : TS) : TS := fun D σ H => wi σ H fun J H1 => ∃ W : Nat → Nat → St → Hp → Prop, (∃ m, W 0 m σ H1) ∧ ∀ i m σ H, W i m σ H →
  (J.stop i H ∧ D.nx σ H) ∨ (J.go i H ∧ ∃ N : St → Hp → Prop, (∀ σ' H', N σ' H' → ∃ m', m' < m ∧ W (i + 1) m' σ' H') ∧ ∀ x H', J.yld i H x H' → g x σ H' fun σ2 H2 => tb { D with nx := N, ct := N, bk := D.nx } σ2 H2)
/-- the records at fp as they stand -/
def pinsAt (fp : List Addr) (h : Heap) : List (Addr × Obj) := fp.filterMap fun b => (h.get? b).map fun o => (b, o)
theorem mem_pinsAt {fp : List Addr} {h : Heap} {b : Addr} {o : Obj} (hb : b ∈ fp) (e : h.get? b = some o) : (b, o) ∈ pinsAt fp h := List.mem_filterMap.mpr ⟨b, hb, by rw [e]; rfl⟩
theorem of_pinsAt {fp : List Addr} {h : Heap} {p : Addr × Obj} (hp : p ∈ pinsAt fp h) : p.1 ∈ fp ∧ h.get? p.1 = some p.2 := by
  obtain ⟨b, hb, e⟩ := List.mem_filterMap.mp hp
  cases q : h.get? b with
  | none => rw [q] at e; cases e
  | some o =>
    rw [q] at e
    have e' : (b, o) = p := Option.some.inj e
    subst e'
    exact ⟨hb, q⟩
theorem Inv.pinned {pins : List (Addr × Obj)} {σ : St} {H : Hp} {s : Shared} {fp : List Addr} (I : Inv X pins σ H s) (hf : ∀ b ∈ fp, FpOk X pins H b) (ho : ∀ b ∈ fp, ∃ o, s.heap.get? b = some o ∧ ∀ v, o.data ≠ .cell v) : Inv X (pins ++ pinsAt fp s.heap) σ H s :=
  I.pins_of fun p hp => (List.mem_append.mp hp).elim (fun z => I.pin p (List.mem_append_right _ z)) fun z => by
    obtain ⟨hb, e⟩ := of_pinsAt z
    obtain ⟨f0, f1, f2, _⟩ := hf p.1 hb
    obtain ⟨o, e', d⟩ := ho p.1 hb
    rw [e] at e'; cases e'
    exact ⟨e, f0, f1, f2, d⟩
theorem Inv.unpinned {pins pl : List (Addr × Obj)} {σ : St} {H : Hp} {s : Shared} (I : Inv X (pins ++ pl) σ H s) : Inv X pins σ H s := I.pins_of fun p hp => I.pin p (List.mem_append_right _ (List.mem_append_left _ hp))
theorem ps_for {iter : Expr} {body : List Stmt} {wi : TI} {g : TG} {tb : TS} {pos : Pos} (hp : PassesOwn (model X.prog X.w) X.A X.env X.xe) (hc : X.calm = true) (hi : PI X tg iter wi) (hg : PG X tg g) (hb : PSs X body tb)
    (hs : ∀ x, foldedSetIterable iter X.env x = pure x := by intro _; rfl) : PS X (.For tg iter body [] pos) (tFor wi g tb) := by
  intro pins s σ H D I h
  refine wpAny_For (thn (hi pins s σ H _ I h) fun v s1 h1 => thn h1 fun itv s2 h2 => ?_) hs
  obtain ⟨it, fp, tn, J, H2, e, I2, T, st2, f2, W, ⟨m0, w0⟩, turn⟩ := h2
  subst e
  -- what stays true of the iterator's objects through the loop
  have stat : ∀ {H' : Hp}, (∀ b ∈ fp, H' b = none) → ∀ b ∈ fp, FpOk X pins H' b := fun hn b hb => ⟨hn b hb, (f2 b hb).2⟩
  refine codeAny_forLoop_any (fun n s' => ∃ i σ' H', Inv X pins σ' H' s' ∧ tn i s'.heap ∧ (∀ b ∈ fp, H' b = none) ∧ W i n σ' H') ?_ m0 ⟨0, σ, H2, I2, st2, fun b hb => (f2 b hb).1, w0⟩
  rintro n s3 ⟨i, σ3, H3, I3, st3, fr3, w3⟩
  rcases turn i n σ3 H3 w3 with ⟨stop, qn⟩ | ⟨go, N, hN, step⟩
  · refine wpAny_passesOwn hp (thn (T.done X rfl rfl rfl hc i pins s3 σ3 H3 X.xe I3 (stat fr3) st3 stop) fun r s4 ⟨hr, I4⟩ => ?_)
    subst hr
    exact wpAny_execs_nil ⟨σ3, H3, I4, qn⟩
  · refine wpAny_passesOwn hp (thn (T.item X rfl rfl rfl hc i pins s3 σ3 H3 X.xe I3 (stat fr3) st3 go) fun r s4 ⟨u, hr, h4⟩ => ?_)
    subst hr
    refine wpAny_passesOwn hp (thn h4 fun _ s5 ⟨x, H5, I5, r5, y5, st5, fr5⟩ => ?_)
    have I5' := I5.pinned (stat fr5) (T.obj _ _ st5)
    refine wpAny_passesOwn hp (thn (hg _ s5 σ3 H5 x u _ I5' r5 (step x H5 y5)) fun _ s6 ⟨σ6, H6, I6, q6⟩ => ?_)
    refine wpAny_passesOwn hp (thn (hb _ s6 σ6 H6 _ I6 q6) fun f s7 q7 => ?_)
    have again : ∀ {σ7 : St} {H7 : Hp}, Inv X (pins ++ pinsAt fp s5.heap) σ7 H7 s7 → N σ7 H7 → ∃ m, m < n ∧ ∃ i σ' H', Inv X pins σ' H' s7 ∧ tn i s7.heap ∧ (∀ b ∈ fp, H' b = none) ∧ W i m σ' H' := fun {σ7 H7} I7 n7 => by
      obtain ⟨m', hm, w7⟩ := hN σ7 H7 n7
      refine ⟨m', hm, i + 1, σ7, H7, I7.unpinned, T.keep _ _ _ st5 fun b hb o e => (I7.pin (b, o) (List.mem_append_right _ (List.mem_append_right _ (mem_pinsAt hb e)))).1, fun b hb => ?_, w7⟩
      obtain ⟨o, e, d⟩ := T.obj _ _ st5 b hb
      exact (I7.pin (b, o) (List.mem_append_right _ (List.mem_append_right _ (mem_pinsAt hb e)))).2.1
    cases f with
    | next => obtain ⟨σ7, H7, I7, n7⟩ := q7; exact again I7 n7
    | cont => obtain ⟨σ7, H7, I7, n7⟩ := q7; exact again I7 n7
    | brk => obtain ⟨σ7, H7, I7, q7⟩ := q7; exact ⟨σ7, H7, I7.unpinned, q7⟩
    | ret v => obtain ⟨x7, σ7, H7, I7, r7, q7⟩ := q7; exact ⟨x7, σ7, H7, I7.unpinned, r7, q7⟩
end

/-! ### the forms one uses -/
/-- over a list that the body leaves as it is -/
theorem for_list {K : PySem.W.Frag} {a : Addr} {xs : List V} {g : TG} {tb : TS} {D : Ends} {σ : St} {H : Hp} (Pv : Nat → St → Hp → Prop) (h0 : Pv 0 σ H) (hl : ∀ i σ H, i ≤ xs.length → Pv i σ H → SqL K H a xs)
    (hs : ∀ i x σ H, xs[i]? = some x → Pv i σ H → g x σ H fun σ2 H2 => tb { D with nx := Pv (i + 1), ct := Pv (i + 1), bk := D.nx } σ2 H2) (hd : ∀ σ H, Pv xs.length σ H → D.nx σ H) :
    ∃ W : Nat → Nat → St → Hp → Prop, (∃ m, W 0 m σ H) ∧ ∀ i m σ H, W i m σ H →
      ((Itl K a).stop i H ∧ D.nx σ H) ∨ ((Itl K a).go i H ∧ ∃ N : St → Hp → Prop, (∀ σ' H', N σ' H' → ∃ m', m' < m ∧ W (i + 1) m' σ' H') ∧ ∀ x H', (Itl K a).yld i H x H' → g x σ H' fun σ2 H2 => tb { D with nx := N, ct := N, bk := D.nx } σ2 H2) := by
  refine ⟨fun i m σ H => m = xs.length - i ∧ i ≤ xs.length ∧ Pv i σ H, ⟨xs.length, by simp, Nat.zero_le _, h0⟩, ?_⟩
  rintro i m σ H ⟨rfl, hi, p⟩
  have q := hl i σ H hi p
  by_cases hlt : i < xs.length
  · refine .inr ⟨⟨xs, xs[i], q, by simp [hlt]⟩, Pv (i + 1), fun σ' H' p' => ⟨xs.length - (i + 1), by omega, rfl, hlt, p'⟩, fun x H' y => ?_⟩
    obtain ⟨e, y⟩ := y
    subst e
    exact hs i x σ _ (y xs q) p
  · have e : i = xs.length := by omega
    subst e
    exact .inl ⟨⟨xs, q, Nat.le_refl _⟩, hd σ H p⟩
theorem for_range {lo : Int} {n : Nat} {g : TG} {tb : TS} {D : Ends} {σ : St} {H : Hp} (Pv : Nat → St → Hp → Prop) (h0 : Pv 0 σ H)
    (hs : ∀ i σ H, i < n → Pv i σ H → g (.int (lo + i)) σ H fun σ2 H2 => tb { D with nx := Pv (i + 1), ct := Pv (i + 1), bk := D.nx } σ2 H2) (hd : ∀ σ H, Pv n σ H → D.nx σ H) :
    ∃ W : Nat → Nat → St → Hp → Prop, (∃ m, W 0 m σ H) ∧ ∀ i m σ H, W i m σ H →
      ((Itr lo n).stop i H ∧ D.nx σ H) ∨ ((Itr lo n).go i H ∧ ∃ N : St → Hp → Prop, (∀ σ' H', N σ' H' → ∃ m', m' < m ∧ W (i + 1) m' σ' H') ∧ ∀ x H', (Itr lo n).yld i H x H' → g x σ H' fun σ2 H2 => tb { D with nx := N, ct := N, bk := D.nx } σ2 H2) := by
  refine ⟨fun i m σ H => m = n - i ∧ i ≤ n ∧ Pv i σ H, ⟨n, by simp, Nat.zero_le _, h0⟩, ?_⟩
  rintro i m σ H ⟨rfl, hi, p⟩
  by_cases hlt : i < n
  · refine .inr ⟨hlt, Pv (i + 1), fun σ' H' p' => ⟨n - (i + 1), by omega, rfl, hlt, p'⟩, fun x H' y => ?_⟩
    obtain ⟨e, y⟩ := y
    subst e y
    exact hs i σ _ hlt p
  · have e : i = n := by omega
    subst e
    exact .inl ⟨Nat.le_refl _, hd σ H p⟩
end L2

namespace L2
open PySem PySem.Spec PyProof.Rows

abbrev R2 := V → V → Hp → VK → Prop
/-- a two-place operation on values: f is binaryOp op, inplaceOp op or compareOp op -/
def OpR (X : Cx) (f : Value → Value → Sem Value) (r : R2) : Prop :=
  ∀ (pins : List (Addr × Obj)) (s : Shared) (σ : St) (H : Hp) (x y : V) (v u : Value) (Q : VK), Inv X pins σ H s → RelV x v → RelV y u → r x y H Q →
    wpAny (model X.prog X.w) X.A (f v u) (EP X pins σ Q) X.xe s
/-- a one-place operation -/
def UnR (X : Cx) (f : Value → Sem Value) (r : V → Hp → VK → Prop) : Prop :=
  ∀ (pins : List (Addr × Obj)) (s : Shared) (σ : St) (H : Hp) (x : V) (v : Value) (Q : VK), Inv X pins σ H s → RelV x v → r x H Q →
    wpAny (model X.prog X.w) X.A (f v) (EP X pins σ Q) X.xe s
/-- a call of a value that is known (a builtin, a type) with values -/
def CallR (X : Cx) (f : Value) (r : List V → Hp → VK → Prop) : Prop :=
  ∀ (pins : List (Addr × Obj)) (s : Shared) (σ : St) (H : Hp) (xs : List V) (us : List Value) (Q : VK), Inv X pins σ H s → Vals xs us → r xs H Q →
    wpAny (model X.prog X.w) X.A (call f us) (EP X pins σ Q) X.xe s
/-- a value's truth -/
def TruR (X : Cx) (r : V → Hp → (Bool → Hp → Prop) → Prop) : Prop :=
  ∀ (pins : List (Addr × Obj)) (s : Shared) (σ : St) (H : Hp) (x : V) (v : Value) (Q : Bool → Hp → Prop), Inv X pins σ H s → RelV x v → r x H Q →
    wpAny (model X.prog X.w) X.A (truthy v) (TP X pins σ Q) X.xe s

def tOp (r : R2) (ta tb : TE) : TE := fun σ H Q => ta σ H fun x H1 => tb σ H1 fun y H2 => r x y H2 Q
def tUn (r : V → Hp → VK → Prop) (ta : TE) : TE := fun σ H Q => ta σ H fun x H1 => r x H1 Q
/-- ints in, under C, and a value out -/
def rI (C : Int → Int → Prop) (g : Int → Int → V) : R2 := fun x y H Q => ∃ i j, x = .int i ∧ y = .int j ∧ C i j ∧ Q (g i j) H
def rI0 (g : Int → Int → V) : R2 := fun x y H Q => ∃ i j, x = .int i ∧ y = .int j ∧ Q (g i j) H
def rU (g : Int → V) : V → Hp → VK → Prop := fun x H Q => ∃ i, x = .int i ∧ Q (g i) H

section
variable {X : Cx} {a b c : Expr} {ta tb tc : TE} {pos : Pos}

theorem binT (ha : PE X a ta) (hb : PE X b tb) {pins : List (Addr × Obj)} {s : Shared} {σ : St} {H : Hp} {R : V → V → Hp → Prop} (I : Inv X pins σ H s)
    (h : ta σ H fun x H1 => tb σ H1 fun y H2 => R x y H2) {Q : Value → Shared → Prop} {f : Value → Value → Sem Value}
    (hf : ∀ v u s2 x y H2, Inv X pins σ H2 s2 → RelV x v → RelV y u → R x y H2 → wpAny (model X.prog X.w) X.A (f v u) Q X.xe s2) :
    wpAny (model X.prog X.w) X.A (eval a X.env) (fun v s₁ => wpAny (model X.prog X.w) X.A (eval b X.env) (fun u s₂ => wpAny (model X.prog X.w) X.A (f v u) Q X.xe s₂) X.xe s₁) X.xe s := by
  refine thn (ha pins s σ H _ I h) fun v s1 ⟨x, H1, I1, r1, q1⟩ => ?_
  refine thn (hb pins s1 σ H1 _ I1 q1) fun u s2 ⟨y, H2, I2, r2, q2⟩ => ?_
  exact hf v u s2 x y H2 I2 r1 r2 q2

theorem pe_op {op : Operator} {r : R2} (ho : OpR X (binaryOp op) r) (ha : PE X a ta) (hb : PE X b tb) : PE X (.BinOp a op b pos) (tOp r ta tb) := by
  intro pins s σ H Q I h
  exact wpAny_BinOp (binT ha hb I h fun v u s2 x y H2 I2 rx ry q => ho pins s2 σ H2 x y v u Q I2 rx ry q)
theorem pe_un {op : UnaryOp} {r : V → Hp → VK → Prop} (ho : UnR X (unaryOp op) r) (ha : PE X a ta) : PE X (.UnaryOp op a pos) (tUn r ta) := by
  intro pins s σ H Q I h
  exact UnaryOp_ (thn (ha pins s σ H _ I h) fun v s1 ⟨x, H1, I1, r1, q1⟩ => ho pins s1 σ H1 x v Q I1 r1 q1)

/-! ### ints -/
theorem opI {f : Value → Value → Sem Value} {C : Int → Int → Prop} {g : Int → Int → Int}
    (rule : ∀ (i j : Int) (t u : Tok) (s : Shared) (Q : Value → Shared → Prop) (E : Value → Shared → Prop), C i j → Q (.int (g i j) s.toks) { s with toks := s.toks + 1 } → wpAny (model X.prog X.w) X.A (f (.int i t) (.int j u)) Q E s) :
    OpR X f (rI C fun i j => .int (g i j)) := by
  intro pins s σ H x y v u Q I rx ry h
  obtain ⟨i, j, rfl, rfl, hc, q⟩ := h
  obtain ⟨t, rfl⟩ := rx
  obtain ⟨t', rfl⟩ := ry
  exact rule i j t t' s _ _ hc ⟨.int (g i j), H, I.tok _, ⟨_, rfl⟩, q⟩
theorem opI0 {f : Value → Value → Sem Value} {g : Int → Int → Int}
    (rule : ∀ (i j : Int) (t u : Tok) (s : Shared) (Q : Value → Shared → Prop) (E : Value → Shared → Prop), Q (.int (g i j) s.toks) { s with toks := s.toks + 1 } → wpAny (model X.prog X.w) X.A (f (.int i t) (.int j u)) Q E s) :
    OpR X f (rI0 fun i j => .int (g i j)) := by
  intro pins s σ H x y v u Q I rx ry h
  obtain ⟨i, j, rfl, rfl, q⟩ := h
  obtain ⟨t, rfl⟩ := rx
  obtain ⟨t', rfl⟩ := ry
  exact rule i j t t' s _ _ ⟨.int (g i j), H, I.tok _, ⟨_, rfl⟩, q⟩
theorem opB0 {f : Value → Value → Sem Value} {g : Int → Int → Bool}
    (rule : ∀ (i j : Int) (t u : Tok) (s : Shared) (Q : Value → Shared → Prop) (E : Value → Shared → Prop), Q (.bool (g i j)) s → wpAny (model X.prog X.w) X.A (f (.int i t) (.int j u)) Q E s) :
    OpR X f (rI0 fun i j => .bl (g i j)) := by
  intro pins s σ H x y v u Q I rx ry h
  obtain ⟨i, j, rfl, rfl, q⟩ := h
  obtain ⟨t, rfl⟩ := rx
  obtain ⟨t', rfl⟩ := ry
  exact rule i j t t' s _ _ ⟨.bl (g i j), H, I, rfl, q⟩

def CPow (i j : Int) : Prop := 0 ≤ j ∧ j ≤ 1000000 ∧ i.natAbs < 2 ^ 64
def CMul (i j : Int) : Prop := (-(2 ^ 64) < i ∧ i < 2 ^ 64) ∨ (-(2 ^ 64) < j ∧ j < 2 ^ 64)
theorem CMul.ok {i j : Int} (h : CMul i j) : IntMulOk i j := by
  rcases h with ⟨h1, h2⟩ | ⟨h1, h2⟩
  · exact .of_left (intBits_le_64 h1 h2)
  · exact .of_right (intBits_le_64 h1 h2)

theorem op_add : OpR X (binaryOp .Add) (rI0 fun i j => .int (i + j)) := opI0 fun _ _ _ _ _ _ _ q => add_int q
theorem op_sub : OpR X (binaryOp .Sub) (rI0 fun i j => .int (i - j)) := opI0 fun _ _ _ _ _ _ _ q => sub_int q
/-- % by a positive divisor of any size -/
theorem op_mod : OpR X (binaryOp .Mod) (rI (fun _ j => 0 < j) fun i j => .int (i % j)) := opI fun i j _ _ _ _ _ hc q => by
  have h1 : (0 : Int) < j := hc
  exact mod_int' (by omega) (by rw [Int.fmod_eq_emod_of_nonneg i (by omega)]; exact q)
theorem op_pow : OpR X (binaryOp .Pow) (rI CPow fun i j => .int (i ^ j.toNat)) := opI fun _ _ _ _ _ _ _ hc q => pow_int_small hc.1 hc.2.1 hc.2.2 q
theorem op_shl : OpR X (binaryOp .LShift) (rI CPow fun i j => .int (i * 2 ^ j.toNat)) := opI fun _ _ _ _ _ _ _ hc q => lshift_int_small hc.1 hc.2.1 hc.2.2 q


theorem unI {f : Value → Sem Value} {g : Int → Int}
    (rule : ∀ (i : Int) (t : Tok) (s : Shared) (Q : Value → Shared → Prop) (E : Value → Shared → Prop), Q (.int (g i) s.toks) { s with toks := s.toks + 1 } → wpAny (model X.prog X.w) X.A (f (.int i t)) Q E s) :
    UnR X f (rU fun i => .int (g i)) := by
  intro pins s σ H x v Q I rx h
  obtain ⟨i, rfl, q⟩ := h
  obtain ⟨t, rfl⟩ := rx
  exact rule i t s _ _ ⟨.int (g i), H, I.tok _, ⟨_, rfl⟩, q⟩
theorem un_neg : UnR X (unaryOp .USub) (rU fun i => .int (-i)) := unI fun _ _ _ _ _ q => neg_int q

/-! ### bools among ints: n += (a < b) -/
end

/-! ### comparisons -/
/-- the scalars that == tells apart as data does -/
def scal : V → V → Bool
  | .non, .non => true | .non, .int _ => true | .int _, .non => true | .non, .bl _ => true | .bl _, .non => true | .non, .str _ => true | .str _, .non => true
  | .int _, .int _ => true | .bl _, .bl _ => true | .str _, .str _ => true | .byt _, .byt _ => true
  | .int _, .str _ => true | .str _, .int _ => true | .bl _, .str _ => true | .str _, .bl _ => true
  | _, _ => false
def rEq : R2 := fun x y H Q => scal x y = true ∧ Q (.bl (decide (x = y))) H
def rNe : R2 := fun x y H Q => scal x y = true ∧ Q (.bl (!decide (x = y))) H

theorem dec_int {i j : Int} : decide (V.int i = V.int j) = (i == j) := by
  rw [Bool.eq_iff_iff]
  simp
theorem dec_bl {i j : Bool} : decide (V.bl i = V.bl j) = (i == j) := by
  rw [Bool.eq_iff_iff]
  simp
theorem dec_str {i j : Str} : decide (V.str i = V.str j) = (i == j) := by
  rw [Bool.eq_iff_iff]
  simp
theorem dec_byt {i j : Array UInt8} : decide (V.byt i = V.byt j) = (i.toList == j.toList) := by
  rw [Bool.eq_iff_iff]
  cases i
  cases j
  simp

section
variable {X : Cx} {a b c : Expr} {ta tb tc : TE} {pos : Pos}
theorem fin_bl {pins : List (Addr × Obj)} {σ : St} {H : Hp} {s : Shared} {Q : VK} {k k' : Bool} (I : Inv X pins σ H s) (q : Q (.bl k) H) (e : k = k') : EP X pins σ Q (.bool k') s := by
  subst e
  exact ⟨.bl k, H, I, rfl, q⟩
theorem op_eq : OpR X (compareOp .Eq) rEq := by
  intro pins s σ H x y v u Q I rx ry h
  obtain ⟨hs, q⟩ := h
  cases x with
  | non =>
    cases rx
    cases y with
    | non => cases ry; exact PySem.EqNone.eq_none_none (fin_bl I q (by simp))
    | bl j => cases ry; exact PySem.EqNone.eq_none_bool (fin_bl I q (by simp))
    | int j => obtain ⟨t', rfl⟩ := ry; exact PySem.EqNone.eq_none_int (fin_bl I q (by simp))
    | str j => obtain ⟨t', rfl⟩ := ry; exact PySem.EqNone.eq_none_str (fin_bl I q (by simp))
    | _ => exact absurd (show false = true from hs) Bool.false_ne_true
  | bl i =>
    cases rx
    cases y with
    | non => cases ry; exact PySem.EqNone.eq_bool_none (fin_bl I q (by simp))
    | bl j => cases ry; exact eq_bool (fin_bl I q dec_bl)
    | str j => obtain ⟨t', rfl⟩ := ry; exact PySem.EqMixed.eq_bool_str (fin_bl I q (by simp))
    | _ => exact absurd (show false = true from hs) Bool.false_ne_true
  | int i =>
    obtain ⟨t, rfl⟩ := rx
    cases y with
    | non => cases ry; exact PySem.EqNone.eq_int_none (fin_bl I q (by simp))
    | int j => obtain ⟨t', rfl⟩ := ry; exact eq_int (fin_bl I q dec_int)
    | str j => obtain ⟨t', rfl⟩ := ry; exact PySem.EqMixed.eq_int_str (fin_bl I q (by simp))
    | _ => exact absurd (show false = true from hs) Bool.false_ne_true
  | str i =>
    obtain ⟨t, rfl⟩ := rx
    cases y with
    | non => cases ry; exact PySem.EqNone.eq_str_none (fin_bl I q (by simp))
    | bl j => cases ry; exact PySem.EqMixed.eq_str_bool (fin_bl I q (by simp))
    | int j => obtain ⟨t', rfl⟩ := ry; exact PySem.EqMixed.eq_str_int (fin_bl I q (by simp))
    | str j => obtain ⟨t', rfl⟩ := ry; exact eq_str (fin_bl I q dec_str)
    | _ => exact absurd (show false = true from hs) Bool.false_ne_true
  | byt i =>
    obtain ⟨t, rfl⟩ := rx
    cases y with
    | byt j => obtain ⟨t', rfl⟩ := ry; exact PySem.W.eq_bytes (fin_bl I q dec_byt)
    | _ => exact absurd (show false = true from hs) Bool.false_ne_true
  | _ => cases y <;> exact absurd (show false = true from hs) Bool.false_ne_true
theorem op_ne : OpR X (compareOp .NotEq) rNe := by
  intro pins s σ H x y v u Q I rx ry h
  obtain ⟨hs, q⟩ := h
  cases x with
  | non =>
    cases rx
    cases y with
    | non => cases ry; exact PySem.EqNone.ne_none_none (fin_bl I q (by simp))
    | bl j => cases ry; exact PySem.EqNone.ne_none_bool (fin_bl I q (by simp))
    | int j => obtain ⟨t', rfl⟩ := ry; exact PySem.EqNone.ne_none_int (fin_bl I q (by simp))
    | str j => obtain ⟨t', rfl⟩ := ry; exact PySem.EqNone.ne_none_str (fin_bl I q (by simp))
    | _ => exact absurd (show false = true from hs) Bool.false_ne_true
  | bl i =>
    cases rx
    cases y with
    | non => cases ry; exact PySem.EqNone.ne_bool_none (fin_bl I q (by simp))
    | bl j => cases ry; exact ne_bool (fin_bl I q (congrArg not dec_bl))
    | str j => obtain ⟨t', rfl⟩ := ry; exact PySem.EqMixed.ne_bool_str (fin_bl I q (by simp))
    | _ => exact absurd (show false = true from hs) Bool.false_ne_true
  | int i =>
    obtain ⟨t, rfl⟩ := rx
    cases y with
    | non => cases ry; exact PySem.EqNone.ne_int_none (fin_bl I q (by simp))
    | int j => obtain ⟨t', rfl⟩ := ry; exact ne_int (fin_bl I q (congrArg not dec_int))
    | str j => obtain ⟨t', rfl⟩ := ry; exact PySem.EqMixed.ne_int_str (fin_bl I q (by simp))
    | _ => exact absurd (show false = true from hs) Bool.false_ne_true
  | str i =>
    obtain ⟨t, rfl⟩ := rx
    cases y with
    | non => cases ry; exact PySem.EqNone.ne_str_none (fin_bl I q (by simp))
    | bl j => cases ry; exact PySem.EqMixed.ne_str_bool (fin_bl I q (by simp))
    | int j => obtain ⟨t', rfl⟩ := ry; exact PySem.EqMixed.ne_str_int (fin_bl I q (by simp))
    | str j => obtain ⟨t', rfl⟩ := ry; exact ne_str (fin_bl I q (congrArg not dec_str))
    | _ => exact absurd (show false = true from hs) Bool.false_ne_true
  | byt i =>
    obtain ⟨t, rfl⟩ := rx
    cases y with
    | byt j => obtain ⟨t', rfl⟩ := ry; exact PySem.W.ne_bytes (fin_bl I q (congrArg not dec_byt))
    | _ => exact absurd (show false = true from hs) Bool.false_ne_true
  | _ => cases y <;> exact absurd (show false = true from hs) Bool.false_ne_true

theorem op_lt : OpR X (compareOp .Lt) (rI0 fun i j => .bl (decide (i < j))) := opB0 fun _ _ _ _ _ _ _ q => lt_int q
theorem op_le : OpR X (compareOp .LtE) (rI0 fun i j => .bl (decide (i ≤ j))) := opB0 fun _ _ _ _ _ _ _ q => le_int q
theorem op_gt : OpR X (compareOp .Gt) (rI0 fun i j => .bl (decide (j < i))) := opB0 fun _ _ _ _ _ _ _ q => gt_int q




theorem nomark (b : Expr) {op : CmpOp} (h : op ≠ .In := by decide) (h2 : op ≠ .NotIn := by decide) : behindInMarks op b = false := by
  have e1 : (op == CmpOp.In) = false := by cases op <;> first | rfl | exact absurd rfl h
  have e2 : (op == CmpOp.NotIn) = false := by cases op <;> first | rfl | exact absurd rfl h2
  cases b <;> simp [behindInMarks, e1, e2]
/-- a comparison as a value; hm: nomark b, or (for in, not in) by with_unfolding_all rfl -/
theorem pe_cmpR {op : CmpOp} {r : R2} (ho : OpR X (compareOp op) r) (ha : PE X a ta) (hb : PE X b tb) (hm : behindInMarks op b = false) : PE X (.Compare a [op] [b] pos) (tOp r ta tb) := by
  intro pins s σ H Q I h
  exact wpAny_Compare1 (binT ha hb I h fun v u s2 x y H2 I2 rx ry q => ho pins s2 σ H2 x y v u Q I2 rx ry q) hm
/-- a reading of a value as a test -/
def tTest (t : TE) : TT := fun σ H Q => t σ H fun x H' => ∃ k, x = .bl k ∧ Q k H'
theorem pt_cmpR {op : CmpOp} {r : R2} (ho : OpR X (compareOp op) r) (ha : PE X a ta) (hb : PE X b tb) (hm : behindInMarks op b = false) : PT X (.Compare a [op] [b] pos) (tTest (tOp r ta tb)) := by
  intro pins s σ H Q I h
  refine wpAny_isTrue_Compare1 (thn (ha pins s σ H _ I h) fun v s1 ⟨x, H1, I1, r1, q1⟩ => thn (hb pins s1 σ H1 _ I1 q1) fun u s2 ⟨y, H2, I2, r2, q2⟩ =>
    thn (ho pins s2 σ H2 x y v u _ I2 r1 r2 q2) fun c s3 ⟨z, H3, I3, r3, k, e, q3⟩ => ?_) hm
  subst e
  cases r3
  exact wpAny_truthy_bool ⟨H3, I3, q3⟩

/-! ### truth -/
/-- a value's truth by the abstract heap -/
def TruV (K : PySem.W.Frag) (x : V) (H : Hp) (k : Bool) : Prop :=
  match x with
  | .non => k = false
  | .bl b => k = b
  | .int i => k = (i != 0)
  | .str y => y.length ≤ sizeLine ∧ k = ((y.length : Int) != 0)
  | .byt y => y.size ≤ sizeLine ∧ k = ((y.size : Int) != 0)
  | .ref p => (∃ xs, SqL K H p xs ∧ k = !xs.isEmpty) ∨ (∃ xs, SqT K H p xs ∧ k = !xs.isEmpty) ∨ ∃ kvs, H p = some (.dK kvs) ∧ k = !kvs.isEmpty
  | _ => False
theorem isEmpty_kv {κ : Type} {kvs : List (κ × V)} {vs : List (κ × Value)} (r : KV kvs vs) : (!vs.isEmpty) = !kvs.isEmpty := by
  cases r <;> rfl
theorem isEmpty_of {xs : List V} {its : List Value} (r : Vals xs its) : (!its.toArray.isEmpty) = !xs.isEmpty := by
  cases r <;> simp
theorem line63 : (sizeLine : Nat) < 2 ^ 63 := by rw [sizeLine_eq]; decide
theorem tru_ok : TruR X (fun x H Q => ∃ k, TruV X.K x H k ∧ Q k H) := by
  intro pins s σ H x v Q I rx h
  obtain ⟨k, e, q⟩ := h
  have hl := line63
  have hs : sizeLine = 16777216 := sizeLine_eq
  cases x with
  | non =>
    cases rx
    have e' : k = false := e
    subst e'
    exact truthy_none ⟨H, I, q⟩
  | bl b =>
    cases rx
    have e' : k = b := e
    subst e'
    exact wpAny_truthy_bool ⟨H, I, q⟩
  | int i =>
    obtain ⟨t, rfl⟩ := rx
    have e' : k = (i != 0) := e
    subst e'
    exact PySem.P.truthy_int ⟨H, I, q⟩
  | str y =>
    obtain ⟨t, rfl⟩ := rx
    obtain ⟨hy, e'⟩ : y.length ≤ sizeLine ∧ k = ((y.length : Int) != 0) := e
    subst e'
    exact PySem.P.truthy_str (by omega) ⟨H, I.tok _, q⟩
  | byt y =>
    obtain ⟨t, rfl⟩ := rx
    obtain ⟨hy, e'⟩ : y.size ≤ sizeLine ∧ k = ((y.size : Int) != 0) := e
    subst e'
    exact PySem.W.truthy_bytes (by omega) ⟨H, I.tok _, q⟩
  | ref p =>
    cases rx
    have e' : (∃ xs, SqL X.K H p xs ∧ k = !xs.isEmpty) ∨ (∃ xs, SqT X.K H p xs ∧ k = !xs.isEmpty) ∨ ∃ kvs, H p = some (.dK kvs) ∧ k = !kvs.isEmpty := e
    rcases e' with ⟨xs, hx, e'⟩ | ⟨xs, hx, e'⟩ | ⟨kvs, hx, e'⟩
    · subst e'
      obtain ⟨its, r, pl, hz⟩ := I.list hx
      have hlen := r.length
      exact wpAny_truthy_list pl.isList (by simp only [List.size_toArray]; omega) ⟨H, I.tok _, by rw [isEmpty_of r]; exact q⟩
    · subst e'
      obtain ⟨its, r, pl, hz⟩ := I.tuple hx
      have hlen := r.length
      exact truthy_tuple pl (by simp only [List.size_toArray]; omega) ⟨H, I.tok _, by rw [isEmpty_of r]; exact q⟩
    · subst e'
      obtain ⟨hz, hS, vs, r, m⟩ : kvs.length ≤ sizeLine ∧ (p == sysModules) = false ∧ ∃ vs, KV kvs vs ∧ s.heap.DictOf (mixKind X.prog X.w) p vs := I.hok p _ hx
      have hlen : kvs.length = vs.length := Paired.length r
      exact wpAny_truthy_dict hS m (by omega) ⟨H, I.tok _, by rw [isEmpty_kv r]; exact q⟩
  | _ => exact (show False from e).elim
/-- any expression whose test is its value's truth (a name, a call, a subscript, a field ..: he by fun _ => rfl) -/
theorem pt_truth (ha : PE X a ta) (he : ∀ whole, isTrue a X.env whole = (do let v ← whole; standAt a.pos; holding [v] (truthy v))) :
    PT X a (fun σ H Q => ta σ H fun x H' => ∃ k, TruV X.K x H' k ∧ Q k H') := by
  intro pins s σ H Q I h
  exact isTrue_plain (thn (ha pins s σ H _ I h) fun v s1 ⟨x, H1, I1, r1, q1⟩ => tru_ok pins s1 σ H1 x v Q I1 r1 q1) (he _)

/-! ### strs and bytes -/
theorem op_add_str : OpR X (binaryOp .Add) (fun x y H Q => ∃ i j, x = .str i ∧ y = .str j ∧ i.length + j.length ≤ sizeLine ∧ Q (.str (i ++ j)) H) := by
  intro pins s σ H x y v u Q I rx ry h
  obtain ⟨i, j, rfl, rfl, hz, q⟩ := h
  obtain ⟨t, rfl⟩ := rx
  obtain ⟨t', rfl⟩ := ry
  exact add_str (fun t' tk => ⟨.str (i ++ j), H, I.tok _, ⟨_, rfl⟩, q⟩) hz


/-! ### scalar builtins, by CallR -/
theorem vals1 {x : V} {us : List Value} (r : Vals [x] us) : ∃ u, us = [u] ∧ RelV x u := by
  cases r with
  | cons r1 r2 => cases r2; exact ⟨_, rfl, r1⟩
theorem vals2 {x y : V} {us : List Value} (r : Vals [x, y] us) : ∃ u w', us = [u, w'] ∧ RelV x u ∧ RelV y w' := by
  cases r with
  | cons r1 r2 =>
    cases r2 with
    | cons r3 r4 => cases r4; exact ⟨_, _, rfl, r1, r3⟩
theorem call_abs : CallR X (.builtin "abs") (fun xs H Q => ∃ i, xs = [.int i] ∧ Q (.int (if i < 0 then -i else i)) H) := by
  intro pins s σ H xs us Q I r h
  obtain ⟨i, rfl, q⟩ := h
  obtain ⟨u, rfl, t, rfl⟩ := vals1 r
  exact call_abs_int fun u tk => ⟨.int (if i < 0 then -i else i), H, I.tok _, ⟨_, rfl⟩, q⟩
theorem call_int1 : CallR X (.type "int") (fun xs H Q => (∃ i, xs = [.int i] ∧ Q (.int i) H) ∨ ∃ k, xs = [.bl k] ∧ Q (.int (if k then 1 else 0)) H) := by
  intro pins s σ H xs us Q I r h
  rcases h with ⟨i, rfl, q⟩ | ⟨k, rfl, q⟩
  · obtain ⟨u, rfl, t, rfl⟩ := vals1 r
    exact call_int_int ⟨.int i, H, I, ⟨_, rfl⟩, q⟩
  · obtain ⟨u, rfl, r1⟩ := vals1 r
    cases r1
    exact call_int_bool ⟨.int (if k then 1 else 0), H, I.tok _, ⟨_, rfl⟩, q⟩
theorem call_str_int : CallR X (.type "str") (fun xs H Q => ∃ i, xs = [.int i] ∧ i.natAbs.log2 < 1920 ∧ Q (.str (toString i)) H) := by
  intro pins s σ H xs us Q I r h
  obtain ⟨i, rfl, hz, q⟩ := h
  obtain ⟨u, rfl, t, rfl⟩ := vals1 r
  exact PySem.P.str_of_int hz ⟨.str _, H, I.tok _, ⟨_, rfl⟩, q⟩
end
end L2

namespace L2
open PySem PySem.Spec PyProof.Rows

/-! ### an instance, its attributes a map -/
structure ObjM (h : Heap) (x dx C : Addr) (mA : Str → Option Value) : Prop where
  obj : h.get? x = some (PySem.W.instObj C dx)
  ns : h.Ns1 dx mA
  ne : dx ≠ x

theorem lookIn_ns {h : Heap} {dx : Addr} {mA : Str → Option Value} (n : h.Ns1 dx mA) : ∃ od, h.get? dx = some od ∧ ∀ name, PySem.W.lookIn name od = some (mA name) := by
  obtain ⟨o, es, ep, ho, hd, hk, _, hm⟩ := n
  refine ⟨o, ho, fun name => ?_⟩
  have e := hm name
  unfold nsFind findBy at e
  rw [← Array.find?_toList] at e
  unfold PySem.W.lookIn
  rw [hd]
  dsimp only
  split
  · rename_i y q
    rw [q] at e
    exact congrArg some e
  · rename_i q
    rw [q] at e
    have a : es.toList.any (·.refKey) = false := by
      rw [List.any_eq_false]
      intro y hy
      obtain ⟨z, t, hkey⟩ := hk y (Array.mem_toList_iff.mp hy)
      simp [DictEntry.refKey, hkey]
    have a' : ¬ es.toList.any (·.refKey) = true := by rw [a]; exact Bool.false_ne_true
    rw [if_neg a']
    exact congrArg some e

theorem ObjM.look {h : Heap} {x dx C : Addr} {mA : Str → Option Value} (I : ObjM h x dx C mA) : ∃ od, PySem.W.InstAt h x (PySem.W.instObj C dx) C (some od) ∧ ∀ name, PySem.W.lookIn name od = some (mA name) :=
  let ⟨od, ho, hl⟩ := lookIn_ns I.ns
  ⟨od, ⟨I.obj, rfl, rfl, ho⟩, hl⟩

section
variable {prog : Program} {w : World} {A : Around} {E : Value → Shared → Prop} {s : Shared} {K : PySem.W.Frag} {x dx C f : Addr} {mA : Str → Option Value} {name : Str} {v : Value}





end

/-! ### the attributes as a list of pairs -/

theorem RelO.some_of {v : V} {o : Option Value} (r : RelO (some v) o) : ∃ u, o = some u ∧ RelV v u := by
  cases o with
  | none => exact (show False from r).elim
  | some u => exact ⟨u, rfl, r⟩

section
variable {P : Program} {w : World} {H H' : Hp} {h h' : Heap} {a C dx : Addr} {fs fs' : List (Str × V)}
theorem ins_get (hok : HOk P w H h) (e : H a = some (.ins C dx fs)) : ∃ mA, ObjM h a dx C mA ∧ (∀ f, RelO (fs.lookup f) (mA f)) ∧ PySem.Within mA (fs.map (·.1)) ∧ fs.length ≤ 1000 ∧ H dx = some (.own a) := by
  obtain ⟨d, z, ne, ob, mA, n, r, q⟩ := (show ObjOk P w H h a (.ins C dx fs) from hok a _ e)
  exact ⟨mA, ⟨ob, n, ne⟩, r, q, z, d⟩
end

/-! ### what of the text a class must have -/
structure Cls (K : PySem.W.Frag) (C : Addr) : Prop where
  pg : PySem.W.plainGet K C Str.empty = true
  hd : PySem.W.hasDictIn K C = true
  po : PySem.W.plainOver K C = true
  sa : PySem.W.findIn K (.ref C) "__setattr__" = some (some (.builtin "object.__setattr__"))
theorem Cls.get {K : PySem.W.Frag} {C : Addr} (c : Cls K C) (f : Str) : PySem.W.plainGet K C f = true := c.pg

section
variable {X : Cx} {pins : List (Addr × Obj)} {σ : St} {H : Hp} {s : Shared} {a C dx : Addr} {fs : List (Str × V)} {f : Str} {v : V} {A : Around} {E : Value → Shared → Prop}






end

/-! ### readings and rules -/

section
variable {X : Cx} {o e value : Expr} {f : Str} {pos pos' tpos : Pos} {ta tv : TE}

end

/-! ### isinstance -/
section
variable {X : Cx} {pins : List (Addr × Obj)} {σ : St} {H : Hp} {s : Shared} {A : Around} {E : Value → Shared → Prop} {Q : Value → Shared → Prop} {c : Value} {b : Bool}
/-- the type of a value, as the fragment's deciders take it; for an instance its class -/
inductive TyOf (K : PySem.W.Frag) (H : Hp) : V → Value → Prop where
  | non : TyOf K H .non (.type "NoneType")
  | bl (x : Bool) : TyOf K H (.bl x) (.type "bool")
  | int (i : Int) : TyOf K H (.int i) (.type "int")
  | str (x : Str) : TyOf K H (.str x) (.type "str")
  | flt (x : UInt64) : TyOf K H (.flt x) (.type "float")
  | lst {a : Addr} {xs : List V} (e : H a = some (.lst xs)) : TyOf K H (.ref a) (.type "list")
  | frz {a : Addr} {o : Obj} {xs : List V} (e : H a = some (.frz o (.lst xs))) : TyOf K H (.ref a) (.type "list")
  | tup {a : Addr} {xs : List V} (e : H a = some (.tup xs)) : TyOf K H (.ref a) (.type "tuple")
  | dK {a : Addr} {kvs : List (Key × V)} (e : H a = some (.dK kvs)) : TyOf K H (.ref a) (.type "dict")
  | dT {a : Addr} {kvs : List (List Key × V)} (e : H a = some (.dT kvs)) : TyOf K H (.ref a) (.type "dict")
  | ins {a C dx : Addr} {fs : List (Str × V)} (e : H a = some (.ins C dx fs)) (cl : Cls K C) (ha : PySem.W.findIn K (.ref C) "__class__" = some (some (.builtin "object.__class__")))
      (hn : PySem.W.specialIn K (.builtin "object.__class__") "__get__" = some (some (.builtin "getset_descriptor.__get__"))) (htk : PySem.W.takesIn K (.builtin "object.__class__") = some true)
      (hm : PySem.W.mroIn K C (.type "object") = some true) : TyOf K H (.ref a) (.ref C)
/-- isinstance(x, c) for one class c, a built-in or an own one: kitOne's answer -/
theorem isinst_ok {x : V} {u t : Value} (I : Inv X pins σ H s) (rx : RelV x u) (ty : TyOf X.K H x t) (e : PySem.W.kitOne X.K t c = some b) (h : ∀ tk, Q (.bool b) { s with toks := tk }) :
    wpAny (model X.prog X.w) A (call (.builtin "isinstance") [u, c]) Q E s := by
  cases ty with
  | non => cases (show u = Value.none from rx); exact PySem.W.kia_one PySem.W.kitx_none I.kIn True.intro e (fun z => nomatch z) h
  | bl y => cases (show u = Value.bool y from rx); exact PySem.W.kia_one PySem.W.kitx_bool I.kIn True.intro e (fun z => nomatch z) h
  | int i => obtain ⟨t, q⟩ := (show ∃ t, u = Value.int i t from rx); cases q; exact PySem.W.kia_one PySem.W.kitx_int I.kIn True.intro e (fun z => nomatch z) h
  | str y => obtain ⟨t, q⟩ := (show ∃ t, u = Value.str y t from rx); cases q; exact PySem.W.kia_one PySem.W.kitx_str I.kIn True.intro e (fun z => nomatch z) h
  | flt y => obtain ⟨t, q⟩ := (show ∃ t, u = Value.float y t from rx); cases q; exact PySem.W.kia_one PySem.W.kitx_float I.kIn True.intro e (fun z => nomatch z) h
  | @lst a xs ea =>
    cases (show u = Value.ref a from rx)
    obtain ⟨_, _, n, _, h1⟩ := (show ObjOk X.prog X.w H s.heap a (.lst xs) from I.hok a _ ea)
    exact PySem.W.kia_one PySem.W.kitx_list I.kIn ⟨_, h1, rfl⟩ e (fun z => nomatch z) h
  | @frz a ob xs ea =>
    cases (show u = Value.ref a from rx)
    obtain ⟨_, _, _, n, _, h1⟩ := (show ObjOk X.prog X.w H s.heap a (.frz ob (.lst xs)) from I.hok a _ ea)
    exact PySem.W.kia_one PySem.W.kitx_list I.kIn ⟨_, h1, rfl⟩ e (fun z => nomatch z) h
  | @tup a xs ea =>
    cases (show u = Value.ref a from rx)
    obtain ⟨_, _, _, p⟩ := (show ObjOk X.prog X.w H s.heap a (.tup xs) from I.hok a _ ea)
    obtain ⟨o, h1, h2, _⟩ := p
    exact PySem.W.kia_one PySem.W.kitx_tuple I.kIn ⟨o, h1, h2⟩ e (fun z => nomatch z) h
  | @dK a kvs ea =>
    cases (show u = Value.ref a from rx)
    obtain ⟨_, _, vs, _, p⟩ := (show ObjOk X.prog X.w H s.heap a (.dK kvs) from I.hok a _ ea)
    obtain ⟨o, es, ep, h1, h2, _⟩ := p
    exact PySem.W.kia_one PySem.W.kitx_dict I.kIn ⟨o, h1, h2.1⟩ e (fun z => nomatch z) h
  | @dT a kvs ea =>
    cases (show u = Value.ref a from rx)
    obtain ⟨_, _, xs, _, o, es, ep, h1, h2, _⟩ := (show ObjOk X.prog X.w H s.heap a (.dT kvs) from I.hok a _ ea)
    exact PySem.W.kia_one PySem.W.kitx_dict I.kIn ⟨o, h1, h2.1⟩ e (fun z => nomatch z) h
  | @ins a C dx fs ea cl ha hn htk hm =>
    cases (show u = Value.ref a from rx)
    obtain ⟨mA, O, _⟩ := ins_get I.hok ea
    obtain ⟨od, J, _⟩ := O.look
    exact PySem.W.kia_one (PySem.W.kitx_own (cl.get _) cl.hd ha hn htk hm) I.kIn J e (fun z => nomatch z) h
end
end L2

namespace L2
open PySem PySem.Spec PyProof.Rows

/-! ### room -/
structure Room (k : Nat) (A : Around) : Prop where
  hd : A.handled = none
  dp : A.depth + 3 * k + 5 < recursionLimit
  un : A.units + 16 * k + 200 < cLine
theorem Room.mono {j k : Nat} {A : Around} (r : Room k A) (h : j ≤ k) : Room j A := ⟨r.hd, by have := r.dp; omega, by have := r.un; omega⟩
theorem Room.deeper {k : Nat} {A : Around} (r : Room (k + 1) A) (env : Env) : Room k (A.deeper env) :=
  ⟨r.hd, by have := r.dp; show A.depth + 1 + 3 * k + 5 < _; omega, by have := r.un; show A.units + 3 + 16 * k + 200 < _; omega⟩
theorem Room.depth {k : Nat} {A : Around} (r : Room k A) : A.depth < recursionLimit := by have := r.dp; omega
theorem Room.units {k : Nat} {A : Around} (r : Room k A) : A.units + 64 < cLine := by have := r.un; omega

/-! ### argument lists and displays -/
def tNil : TA := fun _ H Q => Q [] H
def tCons (ta : TE) (tr : TA) : TA := fun σ H Q => ta σ H fun x H1 => tr σ H1 fun xs H2 => Q (x :: xs) H2
section
variable {X : Cx} {e : Expr} {es : List Expr} {te : TE} {t : TA} {pos : Pos}
theorem pa_nil : PA X [] tNil := fun _ _ _ _ H Q I h => Calls.spliced_nil ⟨[], H, I, .nil, h⟩
theorem pa_cons (ha : PE X e te) (hr : PA X es t) (hs : starEach (e :: es) X.env = (false, eval e X.env) :: starEach es X.env := by rfl) : PA X (e :: es) (tCons te t) := by
  intro pos pins s σ H Q I h
  rw [hs]
  show wpAny _ _ (spliced ((false, eval e X.env) :: backTo pos (starEach es X.env))) _ _ s
  refine Calls.spliced_cons (thn (ha pins s σ H _ I h) fun u s1 ⟨x, H1, I1, r1, q1⟩ => ?_)
  exact thn (hr pos pins s1 σ H1 _ I1 q1) fun us s2 ⟨xs, H2, I2, r2, q2⟩ => ⟨x :: xs, H2, I2, .cons r1 r2, q2⟩

/-- a tuple, a list of written items -/
def tTup (t : TA) : TE := fun σ H Q => t σ H fun xs H1 => xs.length ≤ sizeLine ∧ ∀ p, H1 p = none → Q (.ref p) (upd H1 p (.tup xs))
def tLst (t : TA) : TE := fun σ H Q => t σ H fun xs H1 => xs.length ≤ sizeLine ∧ ∀ p, H1 p = none → Q (.ref p) (upd H1 p (.lst xs))
theorem pe_tup {x1} (h : PA X es t) : PE X (.Tuple es x1 pos) (tTup t) := by
  intro pins s σ H Q I hq
  refine wpAny_Tuple_spliced (thn (h pos pins s σ H _ I hq) fun us s1 ⟨xs, H1, I1, r, z, q⟩ => ⟨by rw [← r.length]; exact z, ?_⟩)
  have hf : H1 s1.heap.objs.size = none := I1.hok.fresh (Nat.le_refl _)
  refine ⟨.ref s1.heap.objs.size, upd H1 s1.heap.objs.size (.tup xs), I1.laid (t' := s1.toks) (fun b u e => Heap.get?_push_of_some _ e) (Nat.le_refl _) ?_, rfl, q _ hf⟩
  exact ⟨z, us, r, ⟨_, Heap.get?_push_size _ rfl, rfl, _, rfl⟩⟩
theorem pe_lst (h : PA X es t) : PE X (.List es pos) (tLst t) := by
  intro pins s σ H Q I hq
  refine wpAny_List_spliced (thn (h pos pins s σ H _ I hq) fun us s1 ⟨xs, H1, I1, r, z, q⟩ => ⟨by rw [← r.length]; exact z, ?_⟩)
  have hf : H1 s1.heap.objs.size = none := I1.hok.fresh (Nat.le_refl _)
  refine ⟨.ref s1.heap.objs.size, upd H1 s1.heap.objs.size (.lst xs), I1.laid (t' := s1.toks) (fun b u e => Heap.get?_push_of_some _ e) (Nat.le_refl _) ?_, rfl, q _ hf⟩
  exact ⟨z, us, 0, r, Heap.get?_push_size _ rfl⟩
end

/-! ### what a def promises -/
/-- a def's promise: the bound arguments in the parameters' order, the heap, the wanted end, the wanted exception -/
abbrev Sp := List V → Hp → VK → XK → Prop
/-- how an exception lies behind a call (file 08 gives it): the callers' frames, abstract heap and state ahead of the call, the wish, the exception, the state -/
abbrev CXT := List Env → Hp → Shared → XK → Value → Shared → Prop

/-- the state at a call -/
structure Env0 (P : Program) (w : World) (K : PySem.W.Frag) (mg : Str → Option Value) (base : Heap) (A : Around) (outer : List Env) (s : Shared) (H : Hp) : Prop where
  frames : A.frames = some outer
  mod : Mod K mg base
  bs : ∀ b o, base.get? b = some o → s.heap.get? b = some o ∧ H b = none
  bsz : base.objs.size ≤ s.heap.objs.size
  funs : s.heap.FunFrames base outer
  frf : ∀ b ∈ frs outer, H b = none
  hok : HOk P w H s.heap
  bare : AllBare s.gens
/-- a call's end -/
def CE (outer : List Env) (P : Program) (w : World) (H : Hp) (s : Shared) (Q : VK) (u : Value) (s' : Shared) : Prop :=
  ∃ v H', s'.os = s.os ∧ AllBare s'.gens ∧ Un (frs outer) [] H H' s.heap s'.heap ∧ HOk P w H' s'.heap ∧ RelV v u ∧ Q v H'
def CR (CX : CXT) (outer : List Env) (P : Program) (w : World) (H : Hp) (s : Shared) (Q : VK) (E : XK) (r : Result) (s' : Shared) : Prop :=
  match r with
  | .ok (.ret u) => CE outer P w H s Q u s'
  | .ok _ => False
  | .error e => CX outer H s E e s'
structure FnOk (P : Program) (w : World) (K : PySem.W.Frag) (mg : Str → Option Value) (base : Heap) (CX : CXT) (k : Nat) (f : Addr) (fd : FuncData) (ps : List Str) (sp : Sp) : Prop where
  len : ∀ vs H Q E, sp vs H Q E → vs.length = ps.length
  run : ∀ (A : Around) (outer : List Env) (s : Shared) (H : Hp) (args : Args) (us : List Value) (vs : List V) (Q : VK) (E : XK), Room k A → Env0 P w K mg base A outer s H → BindsTo s fd args (ps.zip us) → Vals vs us → sp vs H Q E →
    codeAny (model P w) A (.call (.ref f) args) (CR CX outer P w H s Q E) s


section
variable {X : Cx} {pins : List (Addr × Obj)} {σ : St} {H : Hp} {s s' : Shared}
/-- from a body: what a callee wants -/
theorem Inv.env0 (I : Inv X pins σ H s) : Env0 X.prog X.w X.K X.mg X.base X.A X.stack s H :=
  ⟨I.ok.frames, I.ok.mod, I.bs, Nat.le_trans I.ok.bsz I.sz, I.stack, I.stkFree, I.hok, I.bare⟩
/-- behind a call -/
theorem Inv.after {Q : VK} {u : Value} (I : Inv X pins σ H s) (h : CE X.stack X.prog X.w H s Q u s') : EP X pins σ Q u s' := by
  obtain ⟨v, H', os, bare, un, hok, r, q⟩ := h
  obtain ⟨hh, g, d, t, os'⟩ := s'
  obtain rfl : os' = s.os := os
  exact ⟨v, H', I.call (h' := hh) (g' := g) (d' := d) (t' := t) (ch := []) un hok bare (fun b z => absurd z (by simp)), r, q⟩
end

/-! ### calls -/
/-- f(..): the written arguments, then the defaults dvs; E: what is wanted of an exception -/
def tCall (sp : Sp) (dvs : List V) (E : XK) (t : TA) : TE := fun σ H Q => t σ H fun vs H1 => sp (vs ++ dvs) H1 Q E

/-- how the parameters are bound: us the positional arguments, kw the keywords' values by name, ds the defaults that fill up -/
def Binds (K : PySem.W.Frag) (fd : FuncData) (ps : List Str) (ds : List Value) : Prop :=
  ∀ (s : Shared) (us : List Value), K.In s.heap → (us ++ ds).length = ps.length → BindsTo s fd ⟨us, []⟩ (ps.zip (us ++ ds))
/-- every parameter is given -/
theorem Binds.all {K : PySem.W.Frag} {fd : FuncData} {ps : List Str} (h : ∀ us : List Value, us.length = ps.length → bindArgs fd ⟨us, []⟩ = pure (ps.zip us)) : Binds K fd ps [] := fun s us _ hl => by
  rw [List.append_nil] at hl ⊢
  exact .of_eq (h us hl)

/-- an exception of a callee reaches what this body wants of exceptions -/
def Passes (CX : CXT) (X : Cx) (E : XK) : Prop := ∀ (pins : List (Addr × Obj)) (σ : St) (H : Hp) (s : Shared) (e : Value) (s' : Shared), Inv X pins σ H s → CX X.stack H s E e s' → X.xe e s'

section
variable {X : Cx} {CX : CXT} {k : Nat} {f C : Addr} {fd : FuncData} {ps : List Str} {sp : Sp} {dvs : List V} {ds : List Value} {E : XK} {x m : Str} {p pos apos : Pos} {e o : Expr} {es : List Expr} {ta : TE} {t : TA}

/-- the callee runs -/
theorem run_fn {pins : List (Addr × Obj)} {σ : St} {H : Hp} {s : Shared} {Q : VK} {us : List Value} {vs : List V} (F : FnOk X.prog X.w X.K X.mg X.base CX k f fd ps sp) (hr : Room k X.A) (hb : Binds X.K fd ps ds) (hd : Vals dvs ds) (hx : Passes CX X E)
    (I : Inv X pins σ H s) (r : Vals vs us) (h : sp (vs ++ dvs) H Q E) : wpAny (model X.prog X.w) X.A (call (.ref f) us) (EP X pins σ Q) X.xe s := by
  have r2 : Vals (vs ++ dvs) (us ++ ds) := r.append hd
  have hl : (us ++ ds).length = ps.length := by rw [← r2.length]; exact F.len _ _ _ _ h
  refine wpAny_call (codeAny_mono (F.run X.A X.stack s H ⟨us, []⟩ (us ++ ds) (vs ++ dvs) Q E hr I.env0 (hb s us I.kIn hl) r2 h) fun r s' hq => ?_)
  cases r with
  | error e => exact hx pins σ H s e s' I hq
  | ok fl =>
    cases fl with
    | ret u => exact I.after hq
    | next => exact False.elim hq
    | brk => exact False.elim hq
    | cont => exact False.elim hq

theorem pe_call (F : FnOk X.prog X.w X.K X.mg X.base CX k f fd ps sp) (hr : Room k X.A) (hg : Gl X x) (hm : X.mg x = some (.ref f)) (hk : PySem.W.keepIn X.K (.ref f) = true) (hb : Binds X.K fd ps ds) (hd : Vals dvs ds) (hx : Passes CX X E)
    (ha : PA X (e :: es) t) (hdb : (x == ("__debug__" : Str)) = false := by decide) (he : starEach (e :: es) X.env = (false, eval e X.env) :: starEach es X.env := by rfl) (hpl : (backTo pos (starEach es X.env)).any (·.1) = false := by rfl) :
    PE X (.Call (.Name x p) (e :: es) [] pos) (tCall sp dvs E t) := by
  intro pins s σ H Q I h
  refine wpAny_Call_Name_kw (ld_glob I hg hm ?_ hdb)
  refine PySem.W.callWith_K (h₀ := X.base) I.ok.mod.kin hk (thn (ha pos pins s σ H _ I h) fun us s1 ⟨vs, H1, I1, r, q⟩ => ⟨I1.kIn, ?_⟩) he hpl
  exact run_fn F hr hb hd hx I1 r q



end

/-! ### keywords -/
section
variable {X : Cx} {CX : CXT} {k : Nat} {f C : Addr} {fd : FuncData} {ps ks : List Str} {sp : Sp} {E : XK} {x m : Str} {p pos apos kpos : Pos} {e o : Expr} {es : List Expr} {kws : List Keyword} {te ta : TE} {t tk : TA} {nm : Option Str}

variable {g : List Value → List Value → List Value} {gV : List V → List V → List V}
end

/-! ### a def's body keeps its promise -/
/-- names: the parameters first -/
structure FnScope (N P : List Str) (sc : Scope) : Prop where
  kind : sc.kind = .function
  co : sc.isCoroutine = false
  gen : sc.isGenerator = false
  nd : N.Nodup
  pre : N.take P.length = P
  par : ∀ x ∈ P, sc.names.lookup x = some .local ∨ sc.names.lookup x = some .cell
  nofree : ∀ y ∈ sc.names, y.2 ≠ .free

theorem bindL_out {kindOf : Str → Option NameKind} {x : Str} : ∀ {binds : List (Str × Value)} {m : Str → Option Value}, (∀ v, (x, v) ∉ binds) → bindL kindOf binds m x = m x
  | [], _, _ => rfl
  | (n, v) :: r, m, h => by
    unfold bindL
    rw [bindL_out fun w hw => h w (List.mem_cons_of_mem _ hw)]
    split
    · have : x ≠ n := by rintro rfl; exact h v List.mem_cons_self
      simp [this]
    · rfl
theorem bindC_out {kindOf : Str → Option NameKind} {x : Str} : ∀ {binds : List (Str × Value)} {m : Str → Option Value}, (∀ v, (x, v) ∉ binds) → bindC kindOf binds m x = m x
  | [], _, _ => rfl
  | (n, v) :: r, m, h => by
    unfold bindC
    rw [bindC_out fun w hw => h w (List.mem_cons_of_mem _ hw)]
    split
    · rfl
    · have : x ≠ n := by rintro rfl; exact h v List.mem_cons_self
      simp [this]
theorem bindL_get {kindOf : Str → Option NameKind} {x : Str} {v : Value} : ∀ {P : List Str} {vs : List Value} {i : Nat} {m : Str → Option Value}, P.Nodup → P[i]? = some x → vs[i]? = some v → kindOf x = some .local →
    bindL kindOf (P.zip vs) m x = some v
  | [], _, _, _, _, h, _, _ => by simp at h
  | _ :: _, [], _, _, _, _, h, _ => by simp at h
  | p :: P, w :: vs, 0, m, nd, h1, h2, hk => by
    simp at h1 h2; subst h1; subst h2
    show bindL kindOf ((p, w) :: P.zip vs) m p = _
    unfold bindL
    rw [bindL_out fun v hv => (List.nodup_cons.mp nd).1 (List.of_mem_zip hv).1, if_pos hk]
    simp
  | p :: P, w :: vs, i + 1, m, nd, h1, h2, hk => by
    show bindL kindOf ((p, w) :: P.zip vs) m x = _
    unfold bindL
    exact bindL_get (i := i) (List.nodup_cons.mp nd).2 (by simpa using h1) (by simpa using h2) hk
theorem bindC_get {kindOf : Str → Option NameKind} {x : Str} {v : Value} : ∀ {P : List Str} {vs : List Value} {i : Nat} {m : Str → Option Value}, P.Nodup → P[i]? = some x → vs[i]? = some v → kindOf x ≠ some .local →
    bindC kindOf (P.zip vs) m x = some v
  | [], _, _, _, _, h, _, _ => by simp at h
  | _ :: _, [], _, _, _, _, h, _ => by simp at h
  | p :: P, w :: vs, 0, m, nd, h1, h2, hk => by
    simp at h1 h2; subst h1; subst h2
    show bindC kindOf ((p, w) :: P.zip vs) m p = _
    unfold bindC
    rw [bindC_out fun v hv => (List.nodup_cons.mp nd).1 (List.of_mem_zip hv).1, if_neg hk]
    simp
  | p :: P, w :: vs, i + 1, m, nd, h1, h2, hk => by
    show bindC kindOf ((p, w) :: P.zip vs) m x = _
    unfold bindC
    exact bindC_get (i := i) (List.nodup_cons.mp nd).2 (by simpa using h1) (by simpa using h2) hk

/-- the names' values at the entry -/
def start (N : List Str) (vs : List V) : St := vs.map some ++ List.replicate (N.length - vs.length) none

/-- the context of a def's body, at its entry; an exception leaves the frame, then lies as CX says -/
def cxOf (CX : CXT) (P : Program) (w : World) (K : PySem.W.Frag) (mg : Str → Option Value) (base : Heap) (N : List Str) (qual : Str) (scope : Scope) (f : Addr) (cd : Value) (A : Around) (outer : List Env) (s : Shared) (H : Hp) (E : XK) : Cx where
  prog := P
  w := w
  K := K
  mg := mg
  base := base
  A := A.deeper (envOfC qual scope s.heap.objs.size f cd)
  N := N
  s₀ := s
  H₀ := H
  env := envOfC qual scope s.heap.objs.size f cd
  outer := outer
  stack := envOfC qual scope s.heap.objs.size f cd :: outer
  ex := []
  calm := true
  fn := fun _ => true
  pn := []
  xe := fun e s' => wpAny (model P w) (A.deeper (envOfC qual scope s.heap.objs.size f cd)) (leaving (envOfC qual scope s.heap.objs.size f cd) e) (fun _ s'' => CX outer H s E e s'') (fun e' s'' => CX outer H s E e' s'') s'

theorem cell_has {sc : Scope} {n : Nat} {x : Str} (h : sc.names.lookup x = some .cell) : ∃ c, (cellsFrom n sc.names []).lookup x = some c := by
  have q := PySem.W.cellsFrom_some sc.names n [] (.inl h)
  exact Option.isSome_iff_exists.mp q

theorem inv_start {CX : CXT} {P : Program} {w : World} {K : PySem.W.Frag} {mg : Str → Option Value} {base : Heap} {N ps : List Str} {qual : Str} {scope : Scope} {f : Addr} {cd : Value} {A : Around} {outer : List Env} {s s1 : Shared} {H : Hp} {E : XK} {us : List Value} {vs : List V}
    (S : FnScope N ps scope) (hd : A.handled = none) (e0 : Env0 P w K mg base A outer s H) (hl : vs.length = ps.length) (r : Vals vs us)
    (x : InCallC s s.heap.objs.size (bindL (envOfC qual scope s.heap.objs.size f cd).kindOf (ps.zip us) fun _ => none) (cellsFrom (s.heap.objs.size + 1) scope.names []) (bindC (envOfC qual scope s.heap.objs.size f cd).kindOf (ps.zip us) fun _ => none) s1) :
    Inv (cxOf CX P w K mg base N qual scope f cd A outer s H E) [] (start N vs) H s1 := by
  have hpl : ps.length ≤ N.length := by have := congrArg List.length S.pre; rw [List.length_take] at this; omega
  obtain ⟨h1, tk, rfl, hk⟩ := x.done
  have noA : ∀ b : Addr, b ∉ (cxOf CX P w K mg base N qual scope f cd A outer s H E).ex := fun b z => absurd (show b ∈ ([] : List Addr) from z) (by simp)
  refine ⟨⟨e0.mod, S.kind, rfl, rfl, Nat.le_refl _, fun y z c h1 h2 => ?_, fun y hy => ?_, fun y c _ h => ?_, fun _ => hd, Around.frames_deeper e0.frames, .inr ⟨rfl, rfl⟩, fun b z => absurd z (noA b), e0.bs, e0.bsz, fun b _ _ => noA b, fun b z => absurd z (noA b), e0.funs, e0.frf⟩,
    rfl, e0.bare, Un.kept hk, ⟨_, x.toInCall.ns, fun i y v h1 h2 h3 => ?_⟩, fun y c h => ⟨_, x.cell y c h⟩, e0.hok.fresh (Nat.le_refl _), fun y c h => ?_, fun p hp => absurd (show p ∈ ([] : List (Addr × Obj)) from hp) (by simp), e0.hok.kept hk, ?_⟩
  · exact name_of_addr x.apart (PySem.mem_of_lookup h1) (PySem.mem_of_lookup h2)
  · have hy : scope.names.lookup y = some .cell ∨ scope.names.lookup y = some .free := hy
    rcases hy with hy | hy
    · exact cell_has hy
    · exact absurd rfl (S.nofree _ (PySem.mem_of_lookup hy))
  · exact Nat.le_of_lt (x.above y c (PySem.mem_of_lookup h))
  · have hi : i < vs.length := by
      unfold start at h2
      by_cases hi : i < vs.length
      · exact hi
      · rw [List.getElem?_append_right (by simpa using hi)] at h2
        rw [List.getElem?_replicate] at h2
        split at h2 <;> cases h2
    have ha : vs[i]? = some v := by
      unfold start at h2
      rw [List.getElem?_append_left (by simpa using hi), List.getElem?_map] at h2
      cases e : vs[i]? with
      | none => rw [e] at h2; cases h2
      | some a => rw [e] at h2; cases h2; rfl
    obtain ⟨u, hu, rv⟩ := r.get ha
    have hp : ps[i]? = some y := by
      rw [← S.pre, List.getElem?_take_of_lt (by omega)]; exact h1
    have ndP : ps.Nodup := by rw [← S.pre]; exact S.nd.sublist (List.take_sublist _ _)
    refine ⟨u, rv, ?_⟩
    rcases S.par y (List.mem_of_getElem? hp) with k | k
    · exact .inl ⟨k, bindL_get ndP hp hu k⟩
    · obtain ⟨c, e⟩ := cell_has (n := s.heap.objs.size + 1) k
      refine .inr ⟨.inl k, c, e, ?_⟩
      have q := x.cell y c e
      rw [bindC_get ndP hp hu (by show scope.names.lookup y ≠ _; rw [k]; decide)] at q
      exact q
  · exact e0.hok.fresh (Nat.le_of_lt (x.above y c (PySem.mem_of_lookup h)))
  · unfold start
    show _ = N.length
    rw [List.length_append, List.length_map, List.length_replicate]
    omega

/-- THE RULE: a def (or a method) of the text, by its body. The body's reading t is chosen for each entry; it is run at the parameters' values -/
theorem fn_of {CX : CXT} {P : Program} {w : World} {K : PySem.W.Frag} {mg : Str → Option Value} {base : Heap} {k : Nat} {f : Addr} {name qual : Str} {params : Arguments} {body : List Stmt} {scope : Scope} {dV kV doc pm cdv ct oc : Value} {an od : Option Addr}
    {osl : Array (Option Value)} {N ps : List Str} {sp : Sp} (lk : K.lookup f = some ⟨oc, od, .func (PySem.W.fnOf name qual params body scope dV kV doc pm an cdv ct), osl⟩) (hcd : PySem.W.codeIn K cdv qual = true) (S : FnScope N ps scope)
    (len : ∀ vs H Q E, sp vs H Q E → vs.length = ps.length)
    (hbody : ∀ (A : Around) (outer : List Env) (s : Shared) (H : Hp) (vs : List V) (Q : VK) (E : XK), Room k (A.deeper (envOfC qual scope s.heap.objs.size f cdv)) → sp vs H Q E →
      ∃ t, PSs (cxOf CX P w K mg base N qual scope f cdv A outer s H E) body t ∧ t { nx := fun _ H' => Q .non H', rt := Q } (start N vs) H) :
    FnOk P w K mg base CX (k + 1) f (PySem.W.fnOf name qual params body scope dV kV doc pm an cdv ct) ps sp := by
  refine ⟨len, fun A outer s H args us vs Q E hr e0 hb r hsp => ?_⟩
  have hl := len _ _ _ _ hsp
  have KX : K.In s.heap := e0.mod.kin.keeps fun b o e => (e0.bs b o e).1
  have lim : s.heap.NoLimit := e0.mod.nolimit.keeps fun b o e => (e0.bs b o e).1
  have hkind : ∀ y ∈ ps.zip us, scope.names.lookup y.1 = some .local ∨ (scope.names.lookup y.1 = some .cell ∧ ((cellsFrom (s.heap.objs.size + 1) scope.names []).lookup y.1).isSome = true) := fun ⟨n, v⟩ hy => by
    rcases S.par n (List.of_mem_zip hy).1 with q | q
    · exact .inl q
    · exact .inr ⟨q, PySem.W.cellsFrom_some _ _ _ (.inl q)⟩
  refine codeAny_call_function hr.depth (KX _ _ lk) rfl S.co S.gen rfl (PySem.W.codeRec_of KX hcd) (hb _ _ _ _ ?_)
  refine wpAny_newFunctionEnv_cells S.kind hkind fun env he s1 x => ?_
  subst he
  refine ⟨lim.keeps x.toInCall.keep, codeAny_func ?_⟩
  obtain ⟨t, ht, hq⟩ := hbody A outer s H vs Q E (hr.deeper _) hsp
  have I : Inv (cxOf CX P w K mg base N qual scope f cdv A outer s H E) [] (start N vs) H s1 := inv_start S hr.hd e0 hl r x
  refine wpAny_mono (ht [] s1 (start N vs) H _ I hq) (fun fl s' hs => ?_) fun e s' hs => hs
  have fin : ∀ {σ' : St} {H' : Hp} {v : V} {u : Value}, Inv (cxOf CX P w K mg base N qual scope f cdv A outer s H E) [] σ' H' s' → RelV v u → Q v H' → CE outer P w H s Q u s' :=
    fun {σ' H' v u} J rv q => ⟨v, H', J.os, J.bare, J.base, J.hok, rv, q⟩
  cases fl with
  | ret u =>
    obtain ⟨v, σ', H', J, rv, q⟩ := hs
    exact fin J rv q
  | next =>
    obtain ⟨σ', H', J, q⟩ := hs
    exact fin (v := V.non) (u := Value.none) J rfl q
  | brk =>
    obtain ⟨_, _, _, q⟩ := hs
    exact False.elim q
  | cont =>
    obtain ⟨_, _, _, q⟩ := hs
    exact False.elim q
end L2

namespace L2
open PySem PySem.Spec PyProof.Rows
section
variable {X : Cx} {x : Str} {p pos : Pos} {e : Expr} {es : List Expr} {t : TA} {id T : String} {r : List V → Hp → VK → Prop}

def tCB (r : List V → Hp → VK → Prop) (t : TA) : TE := fun σ H Q => t σ H fun vs H1 => r vs H1 Q
/-- f(e, ..), f a built-in function -/
theorem pe_callB (hc : CallR X (.builtin id) r) (hg : Gl X x) (hm : X.mg x = none) (hv : bootBuiltins x = some (.builtin id)) (ha : PA X (e :: es) t) (hn : x ≠ "__name__" := by decide) (hdb : (x == ("__debug__" : Str)) = false := by decide)
    (he : starEach (e :: es) X.env = (false, eval e X.env) :: starEach es X.env := by rfl) (hpl : (backTo pos (starEach es X.env)).any (·.1) = false := by rfl) : PE X (.Call (.Name x p) (e :: es) [] pos) (tCB r t) := by
  intro pins s σ H Q I h
  refine wpAny_Call_Name_kw (ld_blt I hg hm hv ?_ hn hdb)
  exact PyProof.Rows.callWith_builtin1 (thn (ha pos pins s σ H _ I h) fun us s1 ⟨vs, H1, I1, r1, q1⟩ => hc pins s1 σ H1 vs us Q I1 r1 q1) he hpl
/-- T(e, ..), T a built-in type -/
theorem pe_callTy (hc : CallR X (.type T) r) (hg : Gl X x) (hm : X.mg x = none) (hv : bootBuiltins x = some (.type T)) (ha : PA X (e :: es) t) (hn : x ≠ "__name__" := by decide) (hdb : (x == ("__debug__" : Str)) = false := by decide)
    (he : starEach (e :: es) X.env = (false, eval e X.env) :: starEach es X.env := by rfl) (hpl : (backTo pos (starEach es X.env)).any (·.1) = false := by rfl) : PE X (.Call (.Name x p) (e :: es) [] pos) (tCB r t) := by
  intro pins s σ H Q I h
  refine wpAny_Call_Name_kw (ld_blt I hg hm hv ?_ hn hdb)
  exact PyProof.Rows.callWith_type1 (thn (ha pos pins s σ H _ I h) fun us s1 ⟨vs, H1, I1, r1, q1⟩ => hc pins s1 σ H1 vs us Q I1 r1 q1) he hpl
end
end L2

namespace HT
open PySem PyProof.Rows



section
open PySem.SeqAt
open PySem.AutoSeq1 (wpAny_loadPart')
open PySem.MeetsSeq PySem.MeetsSeq2 PySem.MeetsSeq3

end

section
variable {prog : Program} {w : World} {A : Around} {E : Value → Shared → Prop} {s : Shared}



/-! ### t[a:b], not the whole -/
/-- a slice's bound as a place among n (d where it is left out) -/
def sIx (n d : Nat) : Option Int → Nat
  | none => d
  | some v => if v < 0 then (v + (n : Int)).toNat else min v.toNat n
theorem sIx_nat (n d k : Nat) : sIx n d (some (k : Int)) = min k n := by
  show (if (k : Int) < 0 then ((k : Int) + (n : Int)).toNat else min (k : Int).toNat n) = min k n
  rw [if_neg (by omega), Int.toNat_natCast]

end
end HT

namespace L2
open PySem PySem.Spec PyProof.Rows

/-! ### the parts of a slice -/
abbrev TO := St → Hp → (Option Int → Hp → Prop) → Prop
/-- a slice's part (left out, or an int) -/
def PO (X : Cx) (e : Option Expr) (t : TO) : Prop :=
  ∀ (pins : List (Addr × Obj)) (s : Shared) (σ : St) (H : Hp) (Q : Option Int → Hp → Prop), Inv X pins σ H s → t σ H Q →
    wpAny (model X.prog X.w) X.A (evalPart e X.env) (fun u s' => ∃ o H', Inv X pins σ H' s' ∧ IsPart u o ∧ Q o H') X.xe s
def tNoPart : TO := fun _ H Q => Q none H
def tPart (t : TE) : TO := fun σ H Q => t σ H fun x H1 => ∃ i, x = .int i ∧ Q (some i) H1

theorem intsAre_of {ns : List Int} : ∀ {us : List Value}, Vals (ns.map V.int) us → IntsAre us ns := by
  induction ns with
  | nil => intro us r; rw [List.map_nil] at r; cases r; exact .nil
  | cons n ns ih =>
    intro us r
    rw [List.map_cons] at r
    cases r with
    | cons r1 r2 =>
      obtain ⟨t, e⟩ := r1
      subst e
      exact .cons n t (ih r2)

section
variable {X : Cx} {e : Expr} {te : TE} {lo hi : Option Expr} {tl th : TO} {pos p2 : Pos}

theorem po_none : PO X none tNoPart := by
  intro pins s σ H Q I h
  rw [evalPart_none]
  exact wpAny_pure ⟨none, H, I, .none, h⟩
theorem po_some (h : PE X e te) : PO X (some e) (tPart te) := by
  intro pins s σ H Q I hw
  rw [evalPart_some]
  refine thn (h pins s σ H _ I hw) fun u s1 ⟨x, H1, I1, r1, q1⟩ => ?_
  obtain ⟨i, rfl, q⟩ := q1
  obtain ⟨t, rfl⟩ := r1
  exact ⟨some i, H1, I1, .int i t, q⟩

/-- what a slice of a value is, by values: the slice object stands at sl -/
def SlR (X : Cx) (r : V → Option Int → Option Int → Hp → VK → Prop) : Prop :=
  ∀ (pins : List (Addr × Obj)) (s : Shared) (σ : St) (H : Hp) (x : V) (v vl vu : Value) (lo hi : Option Int) (sl : Addr) (Q : VK), Inv X pins σ H s → RelV x v → s.heap.IsSliceOf sl vl vu .none → IsPart vl lo → IsPart vu hi → r x lo hi H Q →
    ∃ T id, typeLookup (.type T) "__getitem__" = pure (some (.builtin id)) ∧ s.TypeIs v T ∧ wpAny (model X.prog X.w) X.A (getItem v (.ref sl)) (EP X pins σ Q) X.xe s
def tSl (r : V → Option Int → Option Int → Hp → VK → Prop) (te : TE) (tl th : TO) : TE := fun σ H Q => te σ H fun x H1 => tl σ H1 fun l H2 => th σ H2 fun u H3 => r x l u H3 Q
/-- a[lo:hi], any a -/
theorem pe_slice {r : V → Option Int → Option Int → Hp → VK → Prop} (hr : SlR X r) (he : PE X e te) (hl : PO X lo tl) (hu : PO X hi th) : PE X (.Subscript e (.Slice lo hi none p2) pos) (tSl r te tl th) := by
  intro pins s σ H Q I h
  refine Subscript_ (thn (he pins s σ H _ I h) fun v s1 ⟨x, H1, I1, r1, q1⟩ => ?_)
  refine wpAny_Slice (thn (hl pins s1 σ H1 _ I1 q1) fun vl s2 ⟨l, H2, I2, pl, q2⟩ => thn (hu pins s2 σ H2 _ I2 q2) fun vu s3 ⟨u, H3, I3, pu, q3⟩ => ?_)
  rw [evalPart_none]
  refine wpAny_pure ?_
  have I4 : Inv X pins σ H3 { s3 with heap := s3.heap.push { cls := .type "slice", data := .fields #[vl, vu, .none] } } := I3.kept (t' := s3.toks) fun b ob q => Heap.get?_push_of_some _ q
  obtain ⟨T, id, hT, ht, hg⟩ := hr pins { s3 with heap := s3.heap.push { cls := .type "slice", data := .fields #[vl, vu, .none] } } σ H3 x v vl vu l u s3.heap.objs.size Q I4 r1 (Heap.IsSliceOf.new ..) pl pu q3
  show wpAny (model X.prog X.w) X.A (subscriptTail e (.Slice lo hi none p2) v (.ref s3.heap.objs.size)) (EP X pins σ Q) X.xe { s3 with heap := s3.heap.push { cls := .type "slice", data := .fields #[vl, vu, .none] } }
  exact tail_any (ops := [.ref s3.heap.objs.size, v]) ht hT hg (by with_unfolding_all rfl)

/-- the items of xs[lo:hi] -/
def cutV (xs : List V) (lo hi : Option Int) : List V := (xs.drop (HT.sIx xs.length 0 lo)).take (HT.sIx xs.length xs.length hi - HT.sIx xs.length 0 lo)
theorem cutV_length (xs : List V) (lo hi : Option Int) : (cutV xs lo hi).length ≤ xs.length := by
  unfold cutV
  rw [List.length_take, List.length_drop]
  exact Nat.le_trans (Nat.min_le_right _ _) (Nat.sub_le _ _)

/-! ### t < u, t + u -/
end
end L2

namespace L2
open PySem PySem.Spec PyProof.Rows

/-! ### places -/
/-- the place that an index of any sign means -/
def ixN (n : Nat) (i : Int) : Option Nat := if 0 ≤ i then (if i < n then some i.toNat else none) else if -(n : Int) ≤ i then some (i + n).toNat else none
def atI {α : Type} (xs : List α) (i : Int) : Option α := (ixN xs.length i).bind fun j => xs[j]?
theorem ixN_seq {n : Nat} {i : Int} {j : Nat} (h : ixN n i = some j) : seqIndex? i n = some j ∧ j < n ∧ -(n : Int) ≤ i ∧ i < n := by
  unfold ixN at h
  by_cases h0 : 0 ≤ i
  · rw [if_pos h0] at h
    by_cases h1 : i < n
    · rw [if_pos h1] at h
      have e : i.toNat = j := Option.some.inj h
      exact ⟨by rw [seqIndex_of h0 h1, e], by omega, by omega, h1⟩
    · rw [if_neg h1] at h; cases h
  · rw [if_neg h0] at h
    by_cases h1 : -(n : Int) ≤ i
    · rw [if_pos h1] at h
      have e : (i + n).toNat = j := Option.some.inj h
      exact ⟨by rw [seqIndex_neg (by omega) h1, e], by omega, h1, by omega⟩
    · rw [if_neg h1] at h; cases h
theorem atI_get {α : Type} {xs : List α} {i : Int} {v : α} (h : atI xs i = some v) : ∃ j, seqIndex? i xs.length = some j ∧ xs[j]? = some v ∧ j < xs.length ∧ -(xs.length : Int) ≤ i ∧ i < xs.length := by
  unfold atI at h
  cases e : ixN xs.length i with
  | none => rw [e] at h; cases h
  | some j =>
    rw [e] at h
    obtain ⟨h1, h2, h3, h4⟩ := ixN_seq e
    exact ⟨j, h1, h, h2, h3, h4⟩
theorem atI_nat {α : Type} {xs : List α} {j : Nat} {v : α} (h : xs[j]? = some v) : atI xs (j : Int) = some v := by
  have hj : j < xs.length := (List.getElem?_eq_some_iff.mp h).1
  have e : ixN xs.length (j : Int) = some j := by
    unfold ixN
    rw [if_pos (by omega), if_pos (by omega)]; simp
  unfold atI; rw [e]; exact h

/-! ### what may be subscripted -/
/-- what stands as an index of a plain subscript -/
def PlainIx (b : Expr) : Prop := ∀ o i, subscripted b false o i = operate [o, i] (getItem o i)
/-- a subscript by values -/
def IxR (X : Cx) (r : R2) : Prop :=
  ∀ (value slice : Expr) (pins : List (Addr × Obj)) (s : Shared) (σ : St) (H : Hp) (x y : V) (v u : Value) (Q : VK), Inv X pins σ H s → RelV x v → RelV y u → r x y H Q →
    subscripted slice false v u = operate [v, u] (getItem v u) → wpAny (model X.prog X.w) X.A (subscriptTail value slice v u) (EP X pins σ Q) X.xe s
/-- a call of a builtin's method by values: the receiver, the arguments -/
def MtR (X : Cx) (id : String) (r : V → List V → Hp → VK → Prop) : Prop :=
  ∀ (pins : List (Addr × Obj)) (s : Shared) (σ : St) (H : Hp) (x : V) (xs : List V) (v : Value) (us : List Value) (Q : VK), Inv X pins σ H s → RelV x v → Vals xs us → r x xs H Q →
    wpAny (model X.prog X.w) X.A (call (.builtin id) (v :: us)) (EP X pins σ Q) X.xe s
section
variable {X : Cx} {a b : Expr} {ta tb : TE} {pos : Pos}
/-- a[b] -/
theorem pe_ix {r : R2} (hr : IxR X r) (ha : PE X a ta) (hb : PE X b tb) (hs : PlainIx b) : PE X (.Subscript a b pos) (tOp r ta tb) := by
  intro pins s σ H Q I h
  exact Subscript_ (binT ha hb I h fun v u s2 x y H2 I2 rx ry q => hr a b pins s2 σ H2 x y v u Q I2 rx ry q (hs _ _))

def rIxL (K : PySem.W.Frag) : R2 := fun x y H Q => ∃ p xs i v, x = .ref p ∧ y = .int i ∧ SqL K H p xs ∧ atI xs i = some v ∧ Q v H
def rIxT (K : PySem.W.Frag) : R2 := fun x y H Q => ∃ p xs i v, x = .ref p ∧ y = .int i ∧ SqT K H p xs ∧ atI xs i = some v ∧ Q v H
def rIxS : R2 := fun x y H Q => ∃ z i c, x = .str z ∧ y = .int i ∧ z.length ≤ sizeLine ∧ atI z.cps.toList i = some c ∧ Q (.str ⟨#[c]⟩) H
theorem ix_list : IxR X (rIxL X.K) := by
  intro value slice pins s σ H x y v u Q I rx ry h hs
  obtain ⟨p, xs, i, z, rfl, rfl, hq, he, q⟩ := h
  cases rx
  obtain ⟨t, rfl⟩ := ry
  obtain ⟨its, r, pl, hz⟩ := I.list hq
  obtain ⟨j, h1, h2, h3, h4, h5⟩ := atI_get he
  obtain ⟨w, ew, rw'⟩ := r.get h2
  have hl := r.length
  have hn := line63
  have fin : EP X pins σ Q w s := ⟨z, H, I, rw', q⟩
  by_cases h0 : 0 ≤ i
  · have hj : i.toNat = j := by
      rw [seqIndex_of h0 h5] at h1
      exact Option.some.inj h1
    exact item_listR pl.isList h0 (by omega) (by rw [hj]; simpa using ew) fin hs
  · have hj : (i + (its.toArray.size : Int)).toNat = j := by
      rw [seqIndex_neg (by omega) h4] at h1
      rw [List.size_toArray, ← hl]
      exact Option.some.inj h1
    exact subscriptTail_builtinR (x := w) pl.isList.typeIs slot_list_getitem.lookup
      (wpAny_getItem_list_neg (Q := fun r s' => r = w ∧ EP X pins σ Q r s') pl.isList (by omega) (by rw [List.size_toArray] <;> omega) (by omega) (by rw [hj]; simpa using ew) ⟨rfl, fin⟩) hs
theorem ix_tup : IxR X (rIxT X.K) := by
  intro value slice pins s σ H x y v u Q I rx ry h hs
  obtain ⟨p, xs, i, z, rfl, rfl, hq, he, q⟩ := h
  cases rx
  obtain ⟨t, rfl⟩ := ry
  obtain ⟨its, r, pl, hz⟩ := I.tuple hq
  obtain ⟨j, h1, h2, h3, h4, h5⟩ := atI_get he
  obtain ⟨w, ew, rw'⟩ := r.get h2
  have hl := r.length
  have hn := line63
  have fin : EP X pins σ Q w s := ⟨z, H, I, rw', q⟩
  exact subscriptTail_builtinR (x := w) pl.typeIs slot_tuple_getitem.lookup
    (getItem_tuple (j := j) (Q := fun r s' => r = w ∧ EP X pins σ Q r s') pl (by omega) (by omega) (by rw [List.size_toArray, ← hl]; exact h1) (by simpa using ew) ⟨rfl, fin⟩) hs
theorem ix_str : IxR X rIxS := by
  intro value slice pins s σ H x y v u Q I rx ry h hs
  obtain ⟨z, i, c, rfl, rfl, hz, he, q⟩ := h
  obtain ⟨t, rfl⟩ := rx
  obtain ⟨t', rfl⟩ := ry
  obtain ⟨j, h1, h2, h3, h4, h5⟩ := atI_get he
  have hl : z.cps.toList.length = z.length := by simp [Str.length]
  rw [hl] at h1 h4 h5
  have hn := line63
  exact tail_any (typeIs_str s z t) slot_str_getitem.lookup (getItem_str (c := c) (by
    have e1 : decide (i < -(2 ^ 63 : Int)) = false := decide_eq_false (by omega)
    have e2 : decide (i ≥ 2 ^ 63) = false := decide_eq_false (by omega)
    rw [e1, e2, Bool.or_false]) (by rw [h1]; simpa using h2) ⟨.str ⟨#[c]⟩, H, I.tok _, ⟨_, rfl⟩, q⟩) hs

/-! ### xs[i] = v, any sign -/
/-- the list's object behind a store -/
theorem mapSeq_set (its : List Value) (n j : Nat) (u : Value) : Obj.mapSeq (·.setIfInBounds j u) { cls := .type "list", data := .seq its.toArray n } = { cls := .type "list", data := .seq (its.set j u).toArray n } := by
  simp [Obj.mapSeq]
theorem Inv.lst {pins : List (Addr × Obj)} {σ : St} {H : Hp} {s : Shared} {p : Addr} {xs : List V} (I : Inv X pins σ H s) (h : H p = some (.lst xs)) :
    ∃ (its : List Value) (n : Nat), Vals xs its ∧ s.heap.get? p = some { cls := .type "list", data := .seq its.toArray n } ∧ xs.length ≤ sizeLine := by
  obtain ⟨z, its, n, r, e⟩ := I.hok p _ h
  exact ⟨its, n, r, e, z⟩
/-- the list at p is written by an update of its object -/
theorem Inv.lstUpd {pins : List (Addr × Obj)} {σ : St} {H : Hp} {s : Shared} {p : Addr} {xs ys : List V} {its its' : List Value} {n n' : Nat} {f : Obj → Obj} (I : Inv X pins σ H s) (h : H p = some (.lst xs))
    (ho : s.heap.get? p = some { cls := .type "list", data := .seq its.toArray n }) (hf : f { cls := .type "list", data := .seq its.toArray n } = { cls := .type "list", data := .seq its'.toArray n' }) (r : Vals ys its') (hz : ys.length ≤ sizeLine) (t : Nat) :
    Inv X pins σ (upd H p (.lst ys)) { s with heap := s.heap.update p f, toks := t } := by
  have e : (s.heap.update p f).get? p = some { cls := .type "list", data := .seq its'.toArray n' } := by
    rw [Heap.get?_update_self f ho (by rw [hf] <;> rfl), hf]
  refine I.write (x := p) (e := p) (by rw [h]; trivial) (.inl rfl) (fun b u hb q => (Heap.get?_update_other _ _ (Ne.symm hb)).trans q) ⟨_, e⟩ ?_
  exact ⟨hz, its', n', r, e⟩
def rSetL : V → V → V → Hp → (Hp → Prop) → Prop := fun o i v H Q => ∃ p xs k j, o = .ref p ∧ i = .int k ∧ H p = some (.lst xs) ∧ ixN xs.length k = some j ∧ Q (upd H p (.lst (xs.set j v)))
theorem set_list : PSet X rSetL := by
  intro pins s σ H o i v ov iv u Q I ro ri rv h
  obtain ⟨p, xs, k, j, rfl, rfl, hp, hj, q⟩ := h
  cases ro
  obtain ⟨t, rfl⟩ := ri
  obtain ⟨its, n, r, ho, hz⟩ := I.lst hp
  obtain ⟨h1, h2, h3, h4⟩ := ixN_seq hj
  have hl := r.length
  have hn := line63
  have I' : Inv X pins σ (upd H p (.lst (xs.set j v))) { s with heap := s.heap.update p (Obj.mapSeq (·.setIfInBounds j u)) } :=
    I.lstUpd hp ho (mapSeq_set its n j u) (r.set rv j) (by rw [List.length_set]; exact hz) s.toks
  by_cases h0 : 0 ≤ k
  · have hk : k.toNat = j := by
      rw [seqIndex_of h0 h4] at h1
      exact Option.some.inj h1
    exact PySem.W.ki_setAt ho h0 (by omega) (by rw [List.size_toArray, ← hl]; exact h4) (by rw [hk]; exact ⟨_, I', q⟩)
  · have hk : (k + (its.toArray.size : Int)).toNat = j := by
      rw [seqIndex_neg (by omega) h3] at h1
      rw [List.size_toArray, ← hl]
      exact Option.some.inj h1
    exact PySem.W.ki_setBack ho (by omega) (by rw [List.size_toArray, ← hl]; exact h3) (by omega) (by rw [hk]; exact ⟨_, I', q⟩)

/-! ### slices -/
theorem sb_neg {i : Int} {n : Nat} (h : i < 0) : max 0 (min (i + (n : Int)) n) = (((i + n).toNat : Nat) : Int) := by
  rw [Int.min_eq_left (by omega), Int.ofNat_toNat, Int.max_comm]
theorem sb_pos {i : Int} {n : Nat} (h : ¬ i < 0) : max 0 (min i (n : Int)) = ((min i.toNat n : Nat) : Int) := by
  obtain ⟨k, rfl⟩ := Int.eq_ofNat_of_zero_le (Int.not_lt.mp h)
  rw [Int.toNat_natCast]
  omega
theorem slice_bounds (lo hi : Option Int) (n : Nat) : (sliceBounds lo hi none n).1 = ((HT.sIx n 0 lo : Nat) : Int) ∧ (sliceBounds lo hi none n).2.1 = ((HT.sIx n n hi : Nat) : Int) ∧ (sliceBounds lo hi none n).2.2 = 1 := by
  refine ⟨?_, ?_, rfl⟩
  · cases lo with
    | none => simp [sliceBounds, HT.sIx]
    | some i =>
      simp only [sliceBounds, HT.sIx, Option.getD_none, show (1 : Int) > 0 by decide, if_true]
      by_cases h : i < 0
      · simp only [h, if_true]; exact sb_neg h
      · simp only [h, if_false]; exact sb_pos h
  · cases hi with
    | none => simp [sliceBounds, HT.sIx]
    | some i =>
      simp only [sliceBounds, HT.sIx, Option.getD_none, show (1 : Int) > 0 by decide, if_true]
      by_cases h : i < 0
      · simp only [h, if_true]; exact sb_neg h
      · simp only [h, if_false]; exact sb_pos h
theorem slicePick_cut (its : List Value) (lo hi : Option Int) : slicePick its.toArray lo hi none = ((its.drop (HT.sIx its.length 0 lo)).take (HT.sIx its.length its.length hi - HT.sIx its.length 0 lo)).toArray := by
  obtain ⟨h1, h2, h3⟩ := slice_bounds lo hi its.toArray.size
  unfold slicePick
  rw [h1, h2, h3]
  simp only [sliceRange_one, pick_run, List.size_toArray] <;> rfl
/-- xs[lo:hi] of a list: a new list -/
def rSlL (K : PySem.W.Frag) : V → Option Int → Option Int → Hp → VK → Prop := fun x lo hi H Q => ∃ a xs, x = .ref a ∧ SqL K H a xs ∧ ∀ p, H p = none → Q (.ref p) (upd H p (.lst (cutV xs lo hi)))
theorem sl_list : SlR X (rSlL X.K) := by
  intro pins s σ H x v vl vu lo hi sl Q I rx hs pl pu h
  obtain ⟨a, xs, rfl, hx, q⟩ := h
  cases rx
  obtain ⟨its, r, ht, hz⟩ := I.list hx
  have hlen := r.length
  refine ⟨"list", _, slot_list_getitem.lookup, ht.isList.typeIs, ?_⟩
  refine wpAny_getItem_list_slice ht.isList hs pl pu .none (by simp) ?_ (by rw [List.size_toArray] <;> omega)
  rw [slicePick_cut, ← hlen]
  refine ⟨.ref s.heap.objs.size, _, I.laid (t' := s.toks) (o := .lst (cutV xs lo hi)) (fun b ob q => Heap.get?_push_of_some _ q) (Nat.le_refl _) ?_, rfl, q _ (I.hok.fresh (Nat.le_refl _))⟩
  exact ⟨Nat.le_trans (cutV_length xs lo hi) hz, _, 0, (r.drop (HT.sIx xs.length 0 lo)).take (HT.sIx xs.length xs.length hi - HT.sIx xs.length 0 lo), Heap.get?_push_size _ rfl⟩

/-! ### in, not in: flat items -/

/-! ### len, list(x), tuple(x) of any list or tuple that is read -/
theorem call_len_seq : CallR X (.builtin "len") (fun xs H Q => ∃ p ys, xs = [.ref p] ∧ (SqL X.K H p ys ∨ SqT X.K H p ys) ∧ Q (.int ys.length) H) := by
  intro pins s σ H xs us Q I r h
  obtain ⟨p, ys, rfl, hq, q⟩ := h
  obtain ⟨u, rfl, rx⟩ := vals1 r
  cases rx
  have hn := line63
  rcases hq with hq | hq
  · obtain ⟨its, r', pl, hz⟩ := I.list hq
    have hlen := r'.length
    exact Calls.call_len_list pl.isList (by simp only [List.size_toArray] <;> omega) ⟨.int ys.length, H, I.tok _, ⟨s.toks + 1, by rw [List.size_toArray, hlen]⟩, q⟩
  · obtain ⟨its, r', pl, hz⟩ := I.tuple hq
    have hlen := r'.length
    exact len_tuple pl (by simp only [List.size_toArray] <;> omega) ⟨.int ys.length, H, I.tok _, ⟨s.toks + 1, by rw [List.size_toArray, hlen]⟩, q⟩
theorem call_len_str : CallR X (.builtin "len") (fun xs H Q => ∃ z, xs = [.str z] ∧ z.length ≤ sizeLine ∧ Q (.int z.length) H) := by
  intro pins s σ H xs us Q I r h
  obtain ⟨z, rfl, hz, q⟩ := h
  obtain ⟨u, rfl, t, rfl⟩ := vals1 r
  have hn := line63
  exact len_str (by omega) ⟨.int z.length, H, I.tok _, ⟨_, rfl⟩, q⟩
theorem call_list_of : CallR X (.type "list") (fun xs H Q => ∃ p ys, xs = [.ref p] ∧ (SqL X.K H p ys ∨ SqT X.K H p ys) ∧ ∀ l, H l = none → Q (.ref l) (upd H l (.lst ys))) := by
  intro pins s σ H xs us Q I r h
  obtain ⟨p, ys, rfl, hq, q⟩ := h
  obtain ⟨u, rfl, rx⟩ := vals1 r
  cases rx
  have fin : ∀ (its : List Value), Vals ys its → ys.length ≤ sizeLine → ∀ (h' : Heap) (c' : Nat), (∀ b o', s.heap.get? b = some o' → h'.get? b = some o') →
      h'.get? s.heap.objs.size = some { cls := .type "list", dict := none, data := .seq its.toArray c', slots := #[] } → EP X pins σ Q (.ref s.heap.objs.size) { s with heap := h' } := fun its r' hz h' c' kp e =>
    ⟨.ref s.heap.objs.size, _, I.laid (t' := s.toks) kp (Nat.le_refl _) (show ObjOk X.prog X.w _ h' _ (.lst ys) from ⟨hz, its, c', r', e⟩), rfl, q _ (I.hok.fresh (Nat.le_refl _))⟩
  rcases hq with hq | hq
  · obtain ⟨its, r', pl, hz⟩ := I.list hq
    have hlen := r'.length
    obtain ⟨o, ho, hc, n, hd⟩ := pl.isList
    exact call_list_seq p (.inl rfl) ho hc hd (fun h' c' kp e => fin its r' hz h' c' kp e) (by simp only [List.size_toArray] <;> omega)
  · obtain ⟨its, r', pl, hz⟩ := I.tuple hq
    have hlen := r'.length
    obtain ⟨o, ho, hc, n, hd⟩ := pl
    exact call_list_seq p (.inr rfl) ho hc hd (fun h' c' kp e => fin its r' hz h' c' kp e) (by simp only [List.size_toArray] <;> omega)

/-! ### the call of a builtin's method: o.m(..) -/
/-- the value is of that builtin type -/
def tyV (K : PySem.W.Frag) (T : String) (x : V) (H : Hp) : Prop := match x with
  | .str _ => T = "str"
  | .int _ => T = "int"
  | .ref p => (T = "list" ∧ ∃ xs, SqL K H p xs) ∨ (T = "tuple" ∧ ∃ o, K.lookup p = some o ∧ o.cls = .type "tuple" ∧ o.dict = none) ∨
      (T = "dict" ∧ ((∃ kvs, H p = some (.dK kvs)) ∨ ∃ kvs, H p = some (.dT kvs))) ∨ (T = "set" ∧ ∃ S n, H p = some (.set S n))
  | _ => False
theorem tyV_is {pins : List (Addr × Obj)} {σ : St} {H : Hp} {s : Shared} {T : String} {x : V} {v : Value} (I : Inv X pins σ H s) (r : RelV x v) (ty : tyV X.K T x H) :
    s.TypeIs v T ∧ ∀ a, v = .ref a → ∃ ob, s.heap.get? a = some ob ∧ ob.dict = none := by
  cases x with
  | str z =>
    obtain ⟨t, rfl⟩ := r
    cases (show T = "str" from ty)
    exact ⟨typeIs_str s z t, fun _ e => nomatch e⟩
  | int i =>
    obtain ⟨t, rfl⟩ := r
    cases (show T = "int" from ty)
    exact ⟨typeIs_int s i t, fun _ e => nomatch e⟩
  | ref p =>
    cases r
    rcases ty with ⟨rfl, xs, hq⟩ | ⟨rfl, o, hk, hc, hd⟩ | ⟨rfl, hk⟩ | ⟨rfl, S, n, hk⟩
    · obtain ⟨its, _, pl, _⟩ := I.list hq
      refine ⟨pl.isList.typeIs, fun a e => ?_⟩
      cases e
      obtain ⟨o, n, e, c, hd, _⟩ := pl
      exact ⟨o, e, hd⟩
    · refine ⟨⟨o, I.kIn p o hk, hc⟩, fun a e => ?_⟩
      cases e
      exact ⟨o, I.kIn _ o hk, hd⟩
    · have z : ∃ o, s.heap.get? p = some o ∧ o.ExactDict := by
        rcases hk with ⟨kvs, hk⟩ | ⟨kvs, hk⟩
        · obtain ⟨_, _, _, _, o, _, _, e, ex, _⟩ := I.hok p _ hk
          exact ⟨o, e, ex⟩
        · obtain ⟨_, _, _, _, o, _, _, e, ex, _⟩ := I.hok p _ hk
          exact ⟨o, e, ex⟩
      obtain ⟨o, e, ex⟩ := z
      refine ⟨⟨o, e, ex.1⟩, fun a e2 => ?_⟩
      cases e2
      exact ⟨o, e, ex.2.1⟩
    · obtain ⟨o, _, _, _, e, ex, _⟩ := I.hok p _ hk
      refine ⟨⟨o, e, ex.1⟩, fun a e2 => ?_⟩
      cases e2
      exact ⟨o, e, ex.2.1⟩
  | _ => exact False.elim ty
def tBM0 (K : PySem.W.Frag) (T : String) (r : V → List V → Hp → VK → Prop) (to : TE) : TE := fun σ H Q => to σ H fun x H1 => tyV K T x H1 ∧ r x [] H1 Q
def tBM (K : PySem.W.Frag) (T : String) (r : V → List V → Hp → VK → Prop) (to : TE) (t : TA) : TE := fun σ H Q => to σ H fun x H1 => tyV K T x H1 ∧ t σ H1 fun xs H2 => r x xs H2 Q
variable {o e : Expr} {es : List Expr} {to : TE} {t : TA} {name : Str} {apos cpos : Pos} {T id : String} {r : V → List V → Hp → VK → Prop}
theorem pe_bm0 (pa : PlainAttrs T) (slot : Slot T name id) (hty : typeOf (.builtin id) = pure (.type "method_descriptor")) (hm : MtR X id r) (ho : PE X o to)
    (hbase : attributeBase o name X.env (eval o X.env) = eval o X.env := by rfl) (hline : (apos.endLine == cpos.line) = true := by rfl) : PE X (.Call (.Attribute o name apos) [] [] cpos) (tBM0 X.K T r to) := by
  intro pins s σ H Q I h
  refine wpAny_Call_method0_late hbase hline (thn (ho pins s σ H _ I h) fun v s1 ⟨x, H1, I1, r1, ty, q1⟩ => ?_)
  obtain ⟨h1, h2⟩ := tyV_is I1 r1 ty
  exact ⟨T, id, pa, slot, hty, h1, h2, Calls.callWith_builtin rfl (PySem.evalArgs_none (hm pins s1 σ H1 x [] v [] Q I1 r1 .nil q1))⟩
theorem pe_bm (pa : PlainAttrs T) (slot : Slot T name id) (hty : typeOf (.builtin id) = pure (.type "method_descriptor")) (hm : MtR X id r) (ho : PE X o to) (ha : PA X (e :: es) t)
    (hbase : attributeBase o name X.env (eval o X.env) = eval o X.env := by rfl)
    (hfew : ((backTo cpos (starEach (e :: es) X.env)).all (fun x => !x.1) && (backToKw cpos (keywordEach [] X.env)).all (fun x => x.1.isSome)
      && decide ((e :: es).length + ([] : List Keyword).length + (if ([] : List Keyword).isEmpty then 0 else 1) < 30)) = true := by rfl)
    (hline : (apos.endLine == cpos.line) = true := by rfl) (hs : starEach (e :: es) X.env = (false, eval e X.env) :: starEach es X.env := by rfl) (hplain : (backTo cpos (starEach es X.env)).any (·.1) = false := by rfl) :
    PE X (.Call (.Attribute o name apos) (e :: es) [] cpos) (tBM X.K T r to t) := by
  intro pins s σ H Q I h
  refine wpAny_Call_method_late hbase hfew hline rfl (thn (ho pins s σ H _ I h) fun v s1 ⟨x, H1, I1, r1, ty, q1⟩ => ?_)
  obtain ⟨h1, h2⟩ := tyV_is I1 r1 ty
  refine ⟨T, id, pa, slot, hty, h1, h2, ?_⟩
  have hA := ha cpos pins s1 σ H1 _ I1 q1
  rw [hs] at hA ⊢
  refine Calls.callWith_builtin (by show (false || (backTo cpos (starEach es X.env)).any (·.1)) = false; rw [hplain] <;> rfl) (Calls.evalArgs_plain ?_)
  exact thn hA fun us s2 ⟨vs, H2, I2, r2, q2⟩ => hm pins s2 σ H2 x vs v us Q I2 r1 r2 q2
/- xs.append(e), list.index on a module's tuple .. are MtR facts of 06m -/
end
end L2

namespace L2
open PySem PySem.Spec PyProof.Rows

def MtM (X : Cx) (id : String) (r : V → List V → Hp → VK → Prop) : Prop :=
  ∀ (pins : List (Addr × Obj)) (s : Shared) (σ : St) (H : Hp) (x : V) (xs : List V) (v : Value) (us : List Value) (Q : VK), Inv X pins σ H s → RelV x v → Vals xs us → r x xs H Q →
    wpAny (model X.prog X.w) X.A (call (.builtin id) (v :: us)) (EP X pins σ Q) X.xe s

/-! ### lists of values -/
theorem Vals.one {x : V} {us : List Value} (h : Vals [x] us) : ∃ u, us = [u] ∧ RelV x u := by
  cases h with | cons r t => cases t; exact ⟨_, rfl, r⟩
theorem Vals.two {x y : V} {us : List Value} (h : Vals [x, y] us) : ∃ u v, us = [u, v] ∧ RelV x u ∧ RelV y v := by
  cases h with | cons r t => cases t with | cons q t => cases t; exact ⟨_, _, rfl, r, q⟩
theorem Vals.zero : ∀ {us : List Value}, Vals [] us → us = []
  | _, .nil => rfl

section
variable {X : Cx} {pins : List (Addr × Obj)} {σ : St} {H : Hp} {s : Shared} {l b : Addr} {xs ys zs : List V}

/-! ### the two steps: a tracked list is rewritten, a new list is laid -/
theorem Inv.lset {its its' : List Value} {n : Nat} {f : Array Value → Array Value} {t' : Nat} (I : Inv X pins σ H s) (hH : H l = some (.lst xs))
    (e : s.heap.get? l = some { cls := .type "list", data := .seq its.toArray n }) (hf : f its.toArray = its'.toArray) (hv : Vals ys its') (hz : ys.length ≤ sizeLine) :
    Inv X pins σ (upd H l (.lst ys)) { s with heap := s.heap.update l (Obj.mapSeq f), toks := t' } := by
  have q := PySem.IsL.update e f
  rw [hf] at q
  refine I.write (x := l) (e := l) (by rw [hH]; exact trivial) (.inl rfl) (fun b' u hb hu => (Heap.get?_update_other s.heap (Obj.mapSeq f) (Ne.symm hb)).trans hu) ⟨_, q⟩ ?_
  exact ⟨hz, its', _, hv, q⟩
theorem Inv.lstM (I : Inv X pins σ H s) (hH : H l = some (.lst xs)) : xs.length ≤ sizeLine ∧ ∃ (its : List Value) (n : Nat), Vals xs its ∧ xs.length = its.length ∧ s.heap.get? l = some { cls := .type "list", data := .seq its.toArray n } := by
  obtain ⟨z, its, n, r, e⟩ := I.hok l _ hH
  exact ⟨z, its, n, r, r.length, e⟩

end

section
variable {X : Cx}

/-! ### methods -/
def rAppend : V → List V → Hp → VK → Prop := fun x vs H Q => ∃ l xs y, x = .ref l ∧ vs = [y] ∧ H l = some (.lst xs) ∧ xs.length < sizeLine ∧ Q .non (upd H l (.lst (xs ++ [y])))
theorem mt_append : MtM X "list.append" rAppend := by
  intro pins s σ H x vs v us Q I rx rv h
  obtain ⟨l, xs, y, rfl, rfl, hH, hz, q⟩ := h
  cases rx
  obtain ⟨u, rfl, ru⟩ := rv.one
  obtain ⟨z, its, n, r, hl, e⟩ := I.lstM hH
  refine call_meets F.slot_list_append ⟨_, e, rfl⟩ F.entry_list_append (F.args_list_append_2 _ _) (PySem.list_append l its.toArray n u (by rw [List.size_toArray]; omega)) ⟨e, ?_⟩
  refine ⟨.non, _, I.lset (its' := its ++ [u]) hH e (by simp) (r.append (.cons ru .nil)) ?_, rfl, q⟩
  rw [List.length_append, List.length_singleton]
  omega






/-! ### list + list, list += list, list * int -/

/-! ### del xs[i] -/
end

/-! ### xs[a:b] = ys -/
section
variable {prog : Program} {w : World} {A : Around} {E : Value → Shared → Prop} {s : Shared}
set_option maxRecDepth 100000 in
end

section
variable {X : Cx}
end
end L2

namespace L2
open PySem PySem.Spec PyProof.Rows

/-! ### lists of pairs as tables -/
section
variable {κ : Type} [DecidableEq κ]
def valV (kvs : List (κ × V)) (k : κ) : Option V := (kvs.find? fun kv => decide (kv.1 = k)).map (·.2)
/-- in its place, or at the end -/
def putK (kvs : List (κ × V)) (k : κ) (v : V) : List (κ × V) :=
  if (kvs.any fun kv => decide (kv.1 = k)) = true then kvs.map (fun kv => if kv.1 = k then (kv.1, v) else kv) else kvs ++ [(k, v)]

theorem valV_pos {p : κ × V} {r : List (κ × V)} {k : κ} (e : p.1 = k) : valV (p :: r) k = some p.2 := by simp [valV, List.find?_cons, e]
theorem valV_neg {p : κ × V} {r : List (κ × V)} {k : κ} (e : ¬ p.1 = k) : valV (p :: r) k = valV r k := by simp [valV, List.find?_cons, e]
theorem valV_any (k : κ) : ∀ kvs : List (κ × V), (kvs.any fun kv => decide (kv.1 = k)) = (valV kvs k).isSome
  | [] => rfl
  | p :: r => by
    rw [List.any_cons]
    by_cases e : p.1 = k
    · simp only [valV_pos e, decide_eq_true e, Bool.true_or, Option.isSome_some]
    · rw [valV_neg e, decide_eq_false e, Bool.false_or]; exact valV_any k r
theorem length_putK (kvs : List (κ × V)) (k : κ) (v : V) : (putK kvs k v).length ≤ kvs.length + 1 := by
  unfold putK
  split
  · rw [List.length_map]; omega
  · rw [List.length_append, List.length_cons, List.length_nil]; omega

theorem RelO.isSome_eq {o : Option V} {u : Option Value} (r : RelO o u) : o.isSome = u.isSome := by
  cases o with
  | none => cases u with
    | none => rfl
    | some _ => exact (show False from r).elim
  | some _ => cases u with
    | none => exact (show False from r).elim
    | some _ => rfl
theorem RelO.getD {o : Option V} {u : Option Value} {d : V} {d' : Value} (r : RelO o u) (rd : RelV d d') : RelV (o.getD d) (u.getD d') := by
  cases o with
  | none => cases u with
    | none => exact rd
    | some _ => exact (show False from r).elim
  | some _ => cases u with
    | none => exact (show False from r).elim
    | some _ => exact r

/-- raw tables of the same keys -/
theorem KV.val {kvs : List (κ × V)} {vs : List (κ × Value)} (r : KV kvs vs) (k : κ) : RelO (valV kvs k) (valueAt vs k) := by
  unfold KV at r
  induction r with
  | nil => exact True.intro
  | @cons p q ps qs h t ih =>
    obtain ⟨h1, h2⟩ := h
    by_cases e : p.1 = k
    · have e' : q.1 = k := h1.symm.trans e
      have b : valueAt (q :: qs) k = some q.2 := by simp [valueAt, List.find?_cons, e']
      rw [valV_pos e, b]; exact h2
    · have e' : ¬ q.1 = k := fun z => e (h1.trans z)
      have b : valueAt (q :: qs) k = valueAt qs k := by simp [valueAt, List.find?_cons, e']
      rw [valV_neg e, b]; exact ih
theorem KV.any {kvs : List (κ × V)} {vs : List (κ × Value)} (r : KV kvs vs) (k : κ) : (kvs.any fun kv => decide (kv.1 = k)) = vs.any fun kv => decide (kv.1 = k) := by
  unfold KV at r
  induction r with
  | nil => rfl
  | cons h t ih => rw [List.any_cons, List.any_cons, ih, h.1]
theorem KV.repl {kvs : List (κ × V)} {vs : List (κ × Value)} (r : KV kvs vs) (k : κ) {y : V} {u : Value} (ry : RelV y u) :
    KV (kvs.map fun kv => if kv.1 = k then (kv.1, y) else kv) (vs.map fun kv => if kv.1 = k then (kv.1, u) else kv) := by
  unfold KV at r ⊢
  induction r with
  | nil => exact .nil
  | @cons p q ps qs h t ih =>
    rw [List.map_cons, List.map_cons]
    refine .cons ?_ ih
    obtain ⟨h1, h2⟩ := h
    by_cases e : p.1 = k
    · rw [if_pos e, if_pos (h1.symm.trans e)]; exact ⟨h1, ry⟩
    · rw [if_neg e, if_neg (fun z => e (h1.trans z))]; exact ⟨h1, h2⟩
theorem KV.put {kvs : List (κ × V)} {vs : List (κ × Value)} (r : KV kvs vs) (k : κ) {y : V} {u : Value} (ry : RelV y u) : KV (putK kvs k y) (stored vs k u) := by
  unfold putK stored
  rw [r.any k]
  by_cases e : (vs.any fun kv => decide (kv.1 = k)) = true
  · rw [if_pos e, if_pos e]; exact r.repl k ry
  · rw [if_neg e, if_neg e]; exact Paired.snoc r ⟨rfl, ry⟩
theorem KV.keys {kvs : List (κ × V)} {vs : List (κ × Value)} (r : KV kvs vs) : kvs.map (·.1) = vs.map (·.1) := by
  unfold KV at r
  induction r with
  | nil => rfl
  | cons h t ih => rw [List.map_cons, List.map_cons, ih, h.1]
theorem KV.length {kvs : List (κ × V)} {vs : List (κ × Value)} (r : KV kvs vs) : kvs.length = vs.length := Paired.length r
end


/-! ### a tracked dict, its keys ints and texts or tuples of these -/
theorem kV_is {P : Program} {w : World} {k : Key} {u : Value} (r : RelV (kV k) u) : (mixKind P w).is k u = true := by
  cases k with
  | inl i => obtain ⟨t, e⟩ := (show ∃ t, u = Value.int i t from r); subst e; exact mixKind_int P w i t
  | inr x => obtain ⟨t, e⟩ := (show ∃ t, u = Value.str x t from r); subst e; exact mixKind_str P w x t
theorem items_are {P : Program} {w : World} : ∀ {ks : List Key} {us : List Value}, Vals (ks.map kV) us → ItemsAre (mixKind P w) ks us
  | [], _, r => by rw [List.map_nil] at r; cases r; exact .nil
  | k :: ks, _, r => by
    rw [List.map_cons] at r
    cases r with
    | cons h t => exact .cons (kV_is h) (items_are t)

/-- raw entries of a dict with tuple keys -/
abbrev KT (H : Hp) : List (List Key × V) → List (List Key × Addr × Value) → Prop := Paired fun p q => p.1 = q.1 ∧ H q.2.1 = some (.tup (p.1.map kV)) ∧ RelV p.2 q.2.2
theorem KT.val {H : Hp} {kvs : List (List Key × V)} {xs : List (List Key × Addr × Value)} (r : KT H kvs xs) (k : List Key) : RelO (valV kvs k) ((atKey xs k).map (·.2)) := by
  induction r with
  | nil => exact True.intro
  | @cons p q ps qs h t ih =>
    obtain ⟨h1, _, h2⟩ := h
    by_cases e : p.1 = k
    · have e' : q.1 = k := h1.symm.trans e
      have b : atKey (q :: qs) k = some q.2 := by simp [atKey, List.find?_cons, e']
      rw [valV_pos e, b]; exact h2
    · have e' : ¬ q.1 = k := fun z => e (h1.trans z)
      have b : atKey (q :: qs) k = atKey qs k := by simp [atKey, List.find?_cons, e']
      rw [valV_neg e, b]; exact ih
theorem KT.repl {H : Hp} {kvs : List (List Key × V)} {xs : List (List Key × Addr × Value)} (r : KT H kvs xs) (k : List Key) {y : V} {u : Value} (ry : RelV y u) :
    KT H (kvs.map fun kv => if kv.1 = k then (kv.1, y) else kv) (xs.map (putAt k u)) := by
  induction r with
  | nil => exact .nil
  | @cons p q ps qs h t ih =>
    rw [List.map_cons, List.map_cons]
    refine .cons ?_ ih
    obtain ⟨h1, h2, h3⟩ := h
    unfold putAt
    by_cases e : p.1 = k
    · rw [if_pos e, if_pos (h1.symm.trans e)]; exact ⟨h1, h2, ry⟩
    · rw [if_neg e, if_neg (fun z => e (h1.trans z))]; exact ⟨h1, h2, h3⟩
theorem KT.put {H : Hp} {kvs : List (List Key × V)} {xs : List (List Key × Addr × Value)} (r : KT H kvs xs) (k : List Key) {b : Addr} {y : V} {u : Value} (hb : H b = some (.tup (k.map kV))) (ry : RelV y u) :
    KT H (putK kvs k y) (storedH xs k b u) := by
  have e : (kvs.any fun kv => decide (kv.1 = k)) = (atKey xs k).isSome := by
    rw [valV_any, (r.val k).isSome_eq, Option.isSome_map]
  unfold putK storedH
  rw [e]
  by_cases q : (atKey xs k).isSome = true
  · rw [if_pos q, if_pos q]; exact r.repl k ry
  · rw [if_neg q, if_neg q]; exact Paired.snoc r ⟨rfl, hb, ry⟩
theorem KT.keeps {H H' : Hp} {kvs : List (List Key × V)} {xs : List (List Key × Addr × Value)} (r : KT H kvs xs) (ht : ∀ b ys, H b = some (.tup ys) → H' b = some (.tup ys)) : KT H' kvs xs :=
  Paired.mapP r fun _ _ z => ⟨z.1, ht _ _ z.2.1, z.2.2⟩

section
variable {P : Program} {w : World} {H : Hp} {h : Heap} {a : Addr}
theorem rd_of {u : HO} (ok : HOk P w H h) (e : Rd H a u) : ObjOk P w H h a u := e.ok ok
theorem dk_rd {kvs : List (Key × V)} (ok : HOk P w H h) (e : Rd H a (.dK kvs)) : kvs.length ≤ sizeLine ∧ (a == sysModules) = false ∧ ∃ vs, KV kvs vs ∧ h.DictOf (mixKind P w) a vs :=
  show ObjOk P w H h a (.dK kvs) from rd_of ok e
theorem dk_of {kvs : List (Key × V)} (ok : HOk P w H h) (e : H a = some (.dK kvs)) : kvs.length ≤ sizeLine ∧ (a == sysModules) = false ∧ ∃ vs, KV kvs vs ∧ h.DictOf (mixKind P w) a vs := dk_rd ok (.inl e)
/-- a tracked tuple of ints and texts is a key -/
theorem key_of {ks : List Key} (ok : HOk P w H h) (e : H a = some (.tup (ks.map kV))) : (tupleKind (mixKind P w)).is h ks a := by
  obtain ⟨_, its, r, o, h1, h2, n, h3⟩ := (show ObjOk P w H h a (.tup (ks.map kV)) from ok a _ e)
  exact ⟨o, its.toArray, n, h1, h2, h3, by simpa using items_are r⟩
theorem dt_rd {kvs : List (List Key × V)} (ok : HOk P w H h) (e : Rd H a (.dT kvs)) : kvs.length ≤ sizeLine ∧ (a == sysModules) = false ∧
    ∃ xs, KT H kvs xs ∧ h.DictOfH (tupleKind (mixKind P w)) a xs := by
  obtain ⟨z, y, xs, r, o, es, ep, h1, h2, h3, h4, h5⟩ := (show ObjOk P w H h a (.dT kvs) from rd_of ok e)
  refine ⟨z, y, xs, r, o, es, ep, h1, h2, h3, h4, fun x hx => ?_, h5⟩
  have all : ∀ {l : List (List Key × V)} {m : List (List Key × Addr × Value)}, KT H l m → ∀ x ∈ m, (tupleKind (mixKind P w)).is h x.1 x.2.1 := by
    intro l m q
    induction q with
    | nil => intro x hx; exact nomatch hx
    | @cons p q ps qs hq t ih =>
      intro x hx
      rcases List.mem_cons.mp hx with e | hx
      · subst e
        exact key_of ok (by rw [← hq.1]; exact hq.2.1)
      · exact ih x hx
  exact all r x hx
theorem dt_of {kvs : List (List Key × V)} (ok : HOk P w H h) (e : H a = some (.dT kvs)) : kvs.length ≤ sizeLine ∧ (a == sysModules) = false ∧
    ∃ xs, KT H kvs xs ∧ h.DictOfH (tupleKind (mixKind P w)) a xs := dt_rd ok (.inl e)
end

/-- what the dict at a holds at the key y -/
def DGet (H : Hp) (a : Addr) (y : V) (r : Option V) : Prop :=
  (∃ kvs k, Rd H a (.dK kvs) ∧ y = kV k ∧ r = valV kvs k) ∨ ∃ kvs k b, Rd H a (.dT kvs) ∧ y = .ref b ∧ H b = some (.tup (k.map kV)) ∧ r = valV kvs k
/-- the heap behind a[y] = v -/
def DPut (H : Hp) (a : Addr) (y v : V) (H' : Hp) : Prop :=
  (∃ kvs k, H a = some (.dK kvs) ∧ y = kV k ∧ kvs.length < sizeLine ∧ H' = upd H a (.dK (putK kvs k v))) ∨
  ∃ kvs k b, H a = some (.dT kvs) ∧ y = .ref b ∧ H b = some (.tup (k.map kV)) ∧ kvs.length < sizeLine ∧ H' = upd H a (.dT (putK kvs k v))
theorem DGet.k {H : Hp} {a : Addr} {kvs : List (Key × V)} {k : Key} (e : H a = some (.dK kvs)) : DGet H a (kV k) (valV kvs k) := .inl ⟨kvs, k, .inl e, rfl, rfl⟩
theorem DPut.k {H : Hp} {a : Addr} {kvs : List (Key × V)} {k : Key} {v : V} (e : H a = some (.dK kvs)) (hl : kvs.length < sizeLine) : DPut H a (kV k) v (upd H a (.dK (putK kvs k v))) := .inl ⟨kvs, k, e, rfl, hl, rfl⟩


section
variable {X : Cx} {pins : List (Addr × Obj)} {σ : St} {H : Hp} {s : Shared} {a : Addr} {y v : V} {u r : Value} {o : Option V} {A : Around} {E : Value → Shared → Prop}

theorem Inv.big (I : Inv X pins σ H s) : sysModules < s.heap.objs.size := by
  have h : mainGlobals < s.heap.objs.size := (I.mod.glob.keeps I.bk).lt
  exact Nat.lt_trans (by decide) h

/-- d[y], there -/
theorem d_getItem {Q : Value → Shared → Prop} (hu : A.units + 1 < cLine) (I : Inv X pins σ H s) (g : DGet H a y (some v)) (ry : RelV y u) (h : ∀ w' s', Inv X pins σ H s' → RelV v w' → Q w' s') :
    wpAny (model X.prog X.w) A (getItem (.ref a) u) Q E s := by
  rcases g with ⟨kvs, k, e, ey, l⟩ | ⟨kvs, k, b, e, ey, eb, l⟩
  · subst ey
    obtain ⟨z, hd, vs, rel, dd⟩ := dk_rd I.hok e
    obtain ⟨w', hw, rw'⟩ := RelO.some_of (v := v) (o := valueAt vs k) (by rw [l]; exact rel.val k)
    exact wpAny_getItem_of (kV_is ry) dd.mapOf hw (h w' _ (I.tok _) rw')
  · subst ey
    cases (show u = Value.ref b from ry)
    obtain ⟨z, hd, xs, rel, dd⟩ := dt_rd I.hok e
    obtain ⟨w', hw, rw'⟩ := RelO.some_of (v := v) (o := (atKey xs k).map (·.2)) (by rw [l]; exact rel.val k)
    obtain ⟨p, hp, hp2⟩ := Option.map_eq_some_iff.mp hw
    refine wpAny_getItem_heap (tupleKind_room_in1 hu) (key_of I.hok eb) dd hp ?_
    rw [hp2]
    exact h w' _ (I.tok _) rw'
/-- a dict's object is replaced -/
theorem d_write {h' : Heap} {t' : Nat} {ob : HO} (I : Inv X pins σ H s) (mu : Mut (H a)) (hs : Heap.SameBut a s.heap h') (he : ∃ q, h'.get? a = some q) (new : ObjOk X.prog X.w (upd H a ob) h' a ob) :
    Inv X pins σ (upd H a ob) { s with heap := h', toks := t' } :=
  I.write (x := a) (e := a) mu (.inl rfl) (fun b q hb z => (hs.2 b hb).trans z) he new
theorem dk_new {P : Program} {w : World} {H' : Hp} {h' : Heap} {kvs : List (Key × V)} {vs : List (Key × Value)} (z : kvs.length ≤ sizeLine) (hd : (a == sysModules) = false) (rel : KV kvs vs) (dd : h'.DictOf (mixKind P w) a vs) :
    ObjOk P w H' h' a (.dK kvs) := ⟨z, hd, vs, rel, dd⟩
/-- d[y] = v -/
theorem d_setItem {H' : Hp} {Q : Unit → Shared → Prop} (hu : A.units + 1 < cLine) (I : Inv X pins σ H s) (g : DPut H a y v H') (ry : RelV y u) (rv : RelV v r) (h : ∀ s', Inv X pins σ H' s' → Q () s') :
    wpAny (model X.prog X.w) A (setItem (.ref a) u r) Q E s := by
  rcases g with ⟨kvs, k, e, ey, l, eH⟩ | ⟨kvs, k, b, e, ey, eb, l, eH⟩
  · subst ey eH
    obtain ⟨z, hd, vs, rel, dd⟩ := dk_of I.hok e
    have hz : vs.length ≤ sizeLine := by rw [← rel.length]; exact z
    have hl : (putK kvs k v).length ≤ sizeLine := by have := length_putK kvs k v; omega
    refine wpAny_setItem_pairs (hsz := hz) (kV_is ry) dd fun h' dd' hs => h _ ?_
    have he : ∃ q, h'.get? a = some q := let ⟨q, _, _, hq, _⟩ := dd'; ⟨q, hq⟩
    exact d_write I (by rw [e]; exact True.intro) hs he (dk_new hl hd (rel.put k rv) dd')
  · subst ey eH
    cases (show u = Value.ref b from ry)
    obtain ⟨z, hd, xs, rel, dd⟩ := dt_of I.hok e
    have hz : xs.length ≤ sizeLine := by rw [← Paired.length rel]; exact z
    have hl : (putK kvs k v).length ≤ sizeLine := by have := length_putK kvs k v; omega
    refine wpAny_setItem_heap (hsz := hz) (tupleKind_room_in1 hu) (key_of I.hok eb) dd fun h' dd' hs => h _ ?_
    obtain ⟨q, es, ep, hq, h2, h3, h4, _, h5⟩ := dd'
    refine d_write I (by rw [e]; exact True.intro) hs ⟨q, hq⟩ ⟨hl, hd, _, (rel.put k eb rv).keeps fun c ys ec => ?_, q, es, ep, hq, h2, h3, h4, h5⟩
    rw [upd_ne (ne_of ec e (fun z => nomatch z))]
    exact ec
end

section
variable {X : Cx} {pins : List (Addr × Obj)} {σ : St} {H : Hp} {s : Shared} {a : Addr} {kvs : List (Key × V)} {k : Key} {u : Value} {A : Around} {E : Value → Shared → Prop}
end


/-! ### readings and rules -/
/-- the element of a subscription, not a slice -/
def NoSl (i : Expr) : Prop := ∀ ov iv, subscripted i false ov iv = operate [ov, iv] (getItem ov iv)
theorem subD_of {prog : Program} {w : World} {A : Around} {E : Value → Shared → Prop} {s : Shared} {env : Env} {value slice : Expr} {pos : Pos} {T id : String} {Q : Value → Shared → Prop}
    (hl : typeLookup (.type T) "__getitem__" = pure (some (.builtin id))) (hs : NoSl slice)
    (h : wpAny (model prog w) A (eval value env) (fun o s₁ => wpAny (model prog w) A (eval slice env) (fun i s₂ => s₂.TypeIs o T ∧ wpAny (model prog w) A (getItem o i) Q E s₂) E s₁) E s) :
    wpAny (model prog w) A (eval (.Subscript value slice pos) env) Q E s := by
  refine Subscript_ (wpAny_mono h (fun o s₁ h₁ => wpAny_mono h₁ (fun i s₂ h₂ => ?_) fun _ _ x => x) fun _ _ x => x)
  obtain ⟨hT, h₂⟩ := h₂
  unfold subscriptTail
  refine wpAny_bind ?_
  rw [getitemInPython_of_ne hT.not_modules]
  refine wpAny_bind (wpAny_specialOf hT hl ?_)
  have fin : wpAny (model prog w) A (subscripted slice false o i) (fun r s₃ => wpAny (model prog w) A (letTemporaryGo value o r >>= fun _ => pure r) Q E s₃) E s₂ := by
    rw [hs o i]
    exact wpAny_operating (wpAny_mono h₂ (fun r s₃ h₃ => wpAny_bind (wpAny_letTemporaryGo (wpAny_pure h₃))) fun _ _ x => x)
  first
    | exact wpAny_pure (wpAny_bind fin)
    | exact wpAny_bind (wpAny_pure (wpAny_bind fin))
    | exact wpAny_bind fin

theorem dict_typeIs {X : Cx} {pins : List (Addr × Obj)} {σ : St} {H : Hp} {s : Shared} {a : Addr} {y : V} {o : Option V} (I : Inv X pins σ H s) (g : DGet H a y o) : s.TypeIs (.ref a) "dict" := by
  rcases g with ⟨kvs, k, e, _, _⟩ | ⟨kvs, k, b, e, _, _, _⟩
  · obtain ⟨_, _, vs, _, dd⟩ := dk_rd I.hok e
    exact dd.typeIs
  · obtain ⟨_, _, xs, _, dd⟩ := dt_rd I.hok e
    exact dd.typeIs

/-- d[y] -/
def tDGet (td ty : TE) : TE := fun σ H Q => td σ H fun x H1 => ty σ H1 fun y H2 => ∃ a v, x = .ref a ∧ DGet H2 a y (some v) ∧ Q v H2
/-- d[y] = v -/
def sDPut (td ty tv : TE) : TS := fun D σ H => tv σ H fun v H1 => td σ H1 fun x H2 => ty σ H2 fun y H3 => ∃ a H4, x = .ref a ∧ DPut H3 a y v H4 ∧ D.nx σ H4

section
variable {X : Cx} {o i e value : Expr} {pos pos' tpos : Pos} {td ty tv : TE}
theorem pe_dget (hu : X.A.units + 1 < cLine) (ho : PE X o td) (hi : PE X i ty) (hs : NoSl i) : PE X (.Subscript o i pos) (tDGet td ty) := by
  intro pins s σ H Q I h
  refine subD_of PySem.F.slot_dict_getitem.lookup hs (thn (ho pins s σ H _ I h) fun u s1 ⟨x, H1, I1, rx, q1⟩ => thn (hi pins s1 σ H1 _ I1 q1) fun iv s2 ⟨y, H2, I2, ry, a, v, ex, g, q2⟩ => ?_)
  subst ex
  obtain rfl : u = Value.ref a := rx
  exact ⟨dict_typeIs I2 g, d_getItem hu I2 g ry fun w' s3 I3 rw' => ⟨v, H2, I3, rw', q2⟩⟩
theorem ps_dput (hu : X.A.units + 1 < cLine) (ho : PE X o td) (hi : PE X i ty) (hv : PE X value tv) (hs : swapsWith value (some (.Subscript o i pos')) pos.line X.env = pure false) :
    PS X (.Assign [.Subscript o i pos'] value pos) (sDPut td ty tv) := by
  intro pins s σ H D I h
  refine wpAny_Assign_Subscript (thn (hv pins s σ H _ I h) fun r s1 ⟨v, H1, I1, rv, q1⟩ => thn (ho pins s1 σ H1 _ I1 q1) fun u s2 ⟨x, H2, I2, rx, q2⟩ => thn (hi pins s2 σ H2 _ I2 q2) fun iv s3 ⟨y, H3, I3, ry, a, H4, ex, g, q3⟩ => ?_) hs
  subst ex
  obtain rfl : u = Value.ref a := rx
  exact d_setItem hu I3 g ry rv fun s4 I4 => ⟨σ, H4, I4, q3⟩
end


/-! ### displays -/
theorem dk_empty {P : Program} {w : World} {H : Hp} (h : Heap) (hb : sysModules < h.objs.size) : ObjOk P w H (h.push { cls := .type "dict", data := .dict #[] }) h.objs.size (.dK []) :=
  ⟨Nat.zero_le _, beq_eq_false_iff_ne.mpr (Ne.symm (Nat.ne_of_lt hb)), [], .nil, Heap.DictOf.new h⟩
/-- {}, to be a dict of the kind that is wanted -/
def tDNewK : TE := fun _ H Q => ∀ p, H p = none → Q (.ref p) (upd H p (.dK []))
section
variable {X : Cx} {pos : Pos}
theorem pe_dnewK : PE X (.Dict [] [] pos) tDNewK := fun pins s σ H Q I h =>
  wpAny_Dict_empty ⟨.ref s.heap.objs.size, _, I.laid (a := s.heap.objs.size) (o := .dK []) (t' := s.toks) (fun _ _ q => Heap.get?_push_of_some _ q) (Nat.le_refl _) (dk_empty s.heap I.big), rfl, h _ (I.hok.fresh (Nat.le_refl _))⟩
end




/-! ### methods -/
structure M2 (X : Cx) (o : Expr) (m : Str) (apos : Pos) (e f : Expr) (cpos : Pos) : Prop where
  base : attributeBase o m X.env (eval o X.env) = eval o X.env
  few : ((backTo cpos (starEach [e, f] X.env)).all (fun x => !x.1) && (backToKw cpos (keywordEach [] X.env)).all (fun x => x.1.isSome)
    && decide (([e, f] : List Expr).length + ([] : List Keyword).length + (if ([] : List Keyword).isEmpty then 0 else 1) < 30)) = true
  line : (apos.endLine == cpos.line) = true
  trees : backTo cpos (starEach [e, f] X.env) = [(false, eval e X.env), (false, eval f X.env)]

/-- a is a dict, whatever its keys -/
def IsD (H : Hp) (a : Addr) : Prop := (∃ kvs, Rd H a (.dK kvs)) ∨ ∃ kvs, Rd H a (.dT kvs)
theorem isD_at {X : Cx} {pins : List (Addr × Obj)} {σ : St} {H : Hp} {s : Shared} {a : Addr} (I : Inv X pins σ H s) (d : IsD H a) :
    s.TypeIs (.ref a) "dict" ∧ (∀ b, Value.ref a = .ref b → ∃ ob, s.heap.get? b = some ob ∧ ob.dict = none) ∧ (a == sysModules) = false := by
  rcases d with ⟨kvs, e⟩ | ⟨kvs, e⟩
  · obtain ⟨_, hd, vs, _, dd⟩ := dk_rd I.hok e
    refine ⟨dd.typeIs, fun b q => ?_, hd⟩
    cases q
    obtain ⟨ob, _, _, h1, h2, _⟩ := dd
    exact ⟨ob, h1, h2.2.1⟩
  · obtain ⟨_, hd, xs, _, dd⟩ := dt_rd I.hok e
    refine ⟨dd.typeIs, fun b q => ?_, hd⟩
    cases q
    obtain ⟨ob, _, _, h1, h2, _⟩ := dd
    exact ⟨ob, h1, h2.2.1⟩

section
variable {X : Cx} {pins : List (Addr × Obj)} {σ : St} {H : Hp} {s : Shared} {a : Addr} {y d : V} {u r : Value} {o : Option V} {A : Around} {E : Value → Shared → Prop}
/-- d.get(y, x) -/
theorem d_get2 {Q : Value → Shared → Prop} (hu : A.units + 1 < cLine) (I : Inv X pins σ H s) (g : DGet H a y o) (ry : RelV y u) (rd : RelV d r) (h : ∀ w' s', Inv X pins σ H s' → RelV (o.getD d) w' → Q w' s') :
    wpAny (model X.prog X.w) A (call (.builtin "dict.get") [.ref a, u, r]) Q E s := by
  rcases g with ⟨kvs, k, e, ey, l⟩ | ⟨kvs, k, b, e, ey, eb, l⟩
  · subst ey
    obtain ⟨z, hd, vs, rel, dd⟩ := dk_rd I.hok e
    refine call_meetsIn PySem.F.slot_dict_get dd.typeIs PySem.F.entry_dict_get (PySem.F.args_dict_get_3 _ _ _) (meets_dict_get_default (mixKind X.prog X.w) a (kV_is ry) hd r) ⟨_, dd.mapOf, h _ _ (I.tok _) ?_⟩
    rw [l]
    exact (rel.val k).getD rd
  · subst ey
    cases (show u = Value.ref b from ry)
    obtain ⟨z, hd, xs, rel, dd⟩ := dt_rd I.hok e
    refine call_meetsIn PySem.F.slot_dict_get dd.typeIs PySem.F.entry_dict_get (PySem.F.args_dict_get_3 _ _ _) (meetsH_dict_get_default (tupleKind (mixKind X.prog X.w)) a b hd r) ⟨tupleKind_room_in1 hu, k, xs, key_of I.hok eb, dd, h _ _ (I.tok _) ?_⟩
    rw [l]
    exact (rel.val k).getD rd
end

def tDGet2 (td ty tx : TE) : TE := fun σ H Q => td σ H fun x H1 => ∃ a, x = .ref a ∧ IsD H1 a ∧ ty σ H1 fun y H2 => tx σ H2 fun z H3 => ∃ o, DGet H3 a y o ∧ Q (o.getD z) H3
section
variable {X : Cx} {o e f : Expr} {apos cpos : Pos} {td ty tx : TE}
theorem pe_dget2 (hu : X.A.units + 1 < cLine) (ho : PE X o td) (he : PE X e ty) (hf : PE X f tx) (m : M2 X o "get" apos e f cpos) : PE X (.Call (.Attribute o "get" apos) [e, f] [] cpos) (tDGet2 td ty tx) := by
  intro pins s σ H Q I h
  refine wpAny_Call_method m.base m.few m.line PySem.F.plainAttrs_dict PySem.F.slot_dict_get PySem.F.type_dict_get (thn (ho pins s σ H _ I h) fun u s1 ⟨x, H1, I1, rx, a, ex, d, q1⟩ => ?_)
  subst ex
  obtain rfl : u = Value.ref a := rx
  obtain ⟨t1, t2, _⟩ := isD_at I1 d
  refine ⟨t1, t2, ?_⟩
  rw [m.trees]
  refine Calls.callWith_builtin rfl (Calls.evalArgs_plain (Calls.spliced_cons (thn (he pins s1 σ H1 _ I1 q1) fun iv s2 ⟨y, H2, I2, ry, q2⟩ =>
    Calls.spliced_cons (thn (hf pins s2 σ H2 _ I2 q2) fun fv s3 ⟨z, H3, I3, rz, ov, g, q3⟩ => Calls.spliced_nil ?_))))
  exact d_get2 hu I3 g ry rz fun w' s4 I4 rw' => ⟨_, H3, I4, rw', q3⟩
end

/-! ### dict(d): a copy -/
section
variable {X : Cx} {pins : List (Addr × Obj)} {σ : St} {H : Hp} {s : Shared} {a : Addr} {kvs : List (Key × V)} {A : Around} {E : Value → Shared → Prop}
end


section
variable {X : Cx} {pins : List (Addr × Obj)} {σ : St} {H : Hp} {s : Shared} {a : Addr} {y : V} {u : Value} {A : Around} {E : Value → Shared → Prop}
end
end L2

namespace Att
open PySem PySem.W PySem.Calls PyProof.Rows

/-! ### the script -/
theorem ints_of_wellAll {P : Params} {h : Heap} : ∀ (ns : List Int) (vs : List Value), WellAll P h vs (ns.map WData.int) → IntsAre vs ns := by
  intro ns
  induction ns with
  | nil =>
    intro vs w
    rw [List.map_nil] at w
    cases w
    exact .nil
  | cons n ns ih =>
    intro vs w
    rw [List.map_cons] at w
    cases w with
    | cons a b =>
      cases a
      exact .cons _ _ (ih _ b)

theorem script_of {l : OpenLaw} {n : Nat} (hn : l.most = some n) {P : Params} {h : Heap} {args : List WData} {vals : List Value}
    (hpre : l.row.toRowW.claim.pre args = true) (hwl : WellAll P h vals args) :
    ∃ a vs ns, vals = [Value.ref a] ∧ args = [WData.list (ns.map WData.int)] ∧ h.get? a = some { cls := .type "list", data := .seq vs.toArray } ∧ IntsAre vs ns ∧ ns.length ≤ n := by
  have hsh : WShape.hasAll [] args [.list .int] = true := (pre_splitW hpre).1
  have hc : l.pre.holds [] { args := args } = true := (pre_splitW hpre).2
  obtain ⟨d, r, rfl, h1, h2⟩ := hasAllW_cons hsh
  obtain rfl := hasAllW_nil h2
  obtain ⟨xs, rfl, h3⟩ := hasW_list h1
  obtain ⟨ns, rfl⟩ := items_int h3
  have hlen : ns.length ≤ n := by
    unfold OpenLaw.pre at hc
    have h4 : (WTm.not (.lt (.lit (.int (n : Int))) (.len (.arg 0)))).holds [] { args := [.list (ns.map .int)] } = true := by
      have h4 := (holds_andW hc).1
      rw [hn] at h4
      exact h4
    have h5 := condW_of h4 (w_not (w_lt w_lit (w_len_list (w_arg rfl))))
    rw [List.length_map] at h5
    refine Nat.le_of_not_lt fun q => ?_
    have q' : (n : Int) < ((ns.length : Nat) : Int) := by omega
    first
      | (rw [decide_eq_true q'] at h5; exact absurd h5 (by decide))
      | (simp at h5; omega)
  cases hwl with
  | cons w1 w2 =>
    cases w2
    cases w1 with
    | list ho hall => exact ⟨_, _, ns, rfl, rfl, ho, ints_of_wellAll ns _ hall, hlen⟩

theorem post_true (l : OpenLaw) (args : List WData) : l.row.toRowW.claim.post args (.bool true) args = true :=
  postW_of (r := l.row.toRowW) (X := (true == true))
    (show WShape.has [] (.bool true) .bool = true by first | rfl | decide | simp [WShape.has, WShape.arms, WShape.armsAll])
    (show (WTm.eq .res (.lit (.bool true))).value [] { args := args, res := some (.bool true), after := args } = some (.bool (true == true)) from w_eq_bool (w_res rfl) w_lit) rfl

/-! ### the attachment: holds_open's last premise (the goal 'hc' behind k_head) from a wpAny of the law's body -/



/-! ### rules over ANY heap (no ledger) from facts about the written part K: the library's own take a ledger (News) for what they write -/
section
variable {prog : Program} {w : World} {A : Around} {E : Value → Shared → Prop} {s : Shared} {K : Frag}





/-! the whole heap as the ledger: makes every rule that writes through a ledger a rule over any heap -/

end
end Att

namespace L2
open PySem PySem.Spec PyProof.Rows

theorem vals_ints : ∀ {vs : List Value} {ns : List Int}, IntsAre vs ns → Vals (ns.map V.int) vs
  | _, _, .nil => .nil
  | _, _, .cons n t h => .cons ⟨t, rfl⟩ (vals_ints h)

/-- nothing is tracked but the script, known to the object (or it is an object of the module) -/
def Only (H : Hp) : Prop := ∀ b, H b = none ∨ ∃ o xs, H b = some (.frz o (.lst xs))

/-- THE HEAD: the law's promise, at the heap behind the top. F, the promise of the law's def, may use that base is part of the heap (so K.In base, base.Ns mainGlobals mg stand in Mod) -/
theorem law_call {P : Program} {w : World} {K : PySem.W.Frag} {mg mb : Str → Option Value} {CX : CXT} {k : Nat} {fa a : Addr} {fd : FuncData} {x : Str} {sp : Sp} {s₁ : Shared} {vs : List Value} {ns : List Int}
    (KX : K.In s₁.heap) (hns : s₁.heap.Ns mainGlobals mg) (hb : s₁.heap.Ns builtinsNs mb) (hbb : ∀ x : Str, x ≠ "__name__" → mb x = bootBuiltins x) (hlim : s₁.heap.NoLimit) (hg : s₁.gens = #[])
    (ha : s₁.heap.get? a = some { cls := .type "list", data := .seq vs.toArray }) (hi : IntsAre vs ns) (hl : ns.length ≤ sizeLine) (hr : Room k callerA)
    (F : ∀ base : Heap, K.In base → base.Ns mainGlobals mg → FnOk P w K mg base CX k fa fd [x] sp) (hbind : ∀ (s : Shared) (u : Value), BindsTo s fd ⟨[u], []⟩ [(x, u)])
    (hsp : ∀ H : Hp, Only H → SqL K H a (ns.map V.int) → sp [.ref a] H (fun v _ => v = .bl true) fun _ _ _ => False)
    (hCX : ∀ H e s', CX [] H s₁ (fun _ _ _ => False) e s' → False) :
    codeAny (model P w) callerA (.call (.ref fa) ⟨[.ref a], []⟩) (fun r s' => r = .ok (.ret (.bool true)) ∧ OldK s₁.heap s'.heap ∧ s'.os = s₁.os ∧ AllBare s'.gens) s₁ := by
  have rv := vals_ints hi
  have lenV := hi.length
  -- from an abstract heap in which nothing but the script may be tracked
  have core : ∀ H : Hp, Only H → SqL K H a (ns.map V.int) → HOk P w H s₁.heap → (∀ b, H b ≠ none → b = a) → (H a ≠ none → K.lookup a = none) →
      codeAny (model P w) callerA (.call (.ref fa) ⟨[.ref a], []⟩) (fun r s' => r = .ok (.ret (.bool true)) ∧ OldK s₁.heap s'.heap ∧ s'.os = s₁.os ∧ AllBare s'.gens) s₁ := by
    intro H hO hS hok hA hK
    have base_of : ∀ {b : Addr} {o : Obj}, s₁.heap.get? b = some o → H b = none → (hidT s₁.heap H).get? b = some o := fun e n => hidT_get e n
    have noA : ∀ {b : Addr} {o : Obj} {es : Array DictEntry} {ep : Nat}, s₁.heap.get? b = some o → o.data = .dict es ep → H b = none := fun {b o es ep} e d => by
      cases q : H b with
      | none => rfl
      | some u =>
        have e' : b = a := hA b (by rw [q]; simp)
        subst e'
        rw [ha] at e; cases e
        have d' : Data.seq vs.toArray _ = Data.dict es ep := d
        cases d'
    have nsK : ∀ {b : Addr} {m : Str → Option Value}, s₁.heap.Ns b m → (hidT s₁.heap H).Ns b m := fun {b m} ⟨o, es, ep, e, d, r⟩ => ⟨o, es, ep, base_of e (noA e d), d, r⟩
    have hKb : K.In (hidT s₁.heap H) := fun b o e => base_of (KX b o e) (by
      cases q : H b with
      | none => rfl
      | some u =>
        have e' : b = a := hA b (by rw [q]; simp)
        subst e'
        rw [hK (by rw [q]; simp)] at e; cases e)
    have hM : Mod K mg (hidT s₁.heap H) := ⟨hKb, nsK hns, ⟨mb, nsK hb, hbb⟩, let ⟨mc, h1, h2⟩ := hlim; ⟨mc, nsK h1, h2⟩⟩
    have e0 : Env0 P w K mg (hidT s₁.heap H) callerA [] s₁ H := ⟨rfl, hM, fun b o e => of_hidT e, Nat.le_of_eq (hidT_size _ _), trivial, fun b hb => absurd (show b ∈ ([] : List Addr) from hb) (by simp), hok, .of_eq hg⟩
    refine codeAny_mono ((F _ hKb (nsK hns)).run callerA [] s₁ H ⟨[.ref a], []⟩ [.ref a] [.ref a] _ _ hr e0 (hbind s₁ (.ref a)) (.cons rfl .nil) (hsp H hO hS)) fun r s' h => ?_
    cases r with
    | error e => exact (hCX H e s' h).elim
    | ok fl =>
      cases fl with
      | next => exact False.elim h
      | brk => exact False.elim h
      | cont => exact False.elim h
      | ret u =>
        obtain ⟨v, H', os, bare, un, hok', r', q⟩ := h
        have q' : v = .bl true := q
        subst q'
        obtain rfl : u = Value.bool true := r'
        refine ⟨rfl, OldK.of_keep fun b o e => ?_, os, bare⟩
        cases q : H b with
        | none => exact un.keep b o e q (by intro z; exact absurd (show b ∈ ([] : List Addr) from z) (by simp)) (by simp)
        | some u =>
          rcases hO b with z | ⟨ob, xs, z⟩
          · rw [q] at z; cases z
          · have z2 := un.frzs b ob _ z
            obtain ⟨e1, _⟩ := hok b _ z
            obtain ⟨e2, _⟩ := hok' b _ z2
            rw [e] at e1; cases e1
            exact e2
  cases hk : K.lookup a with
  | some o =>
    -- the script is one of the module's own objects
    have e := KX a o hk
    rw [ha] at e
    cases e
    refine core (fun _ => none) (fun _ => .inl rfl) (.inr ⟨_, vs.toArray, _, hk, rfl, rfl, rfl, by rw [List.size_toArray, lenV]; exact hl, by simpa using rv⟩) (fun b u z => by have z' : (none : Option HO) = some u := z; cases z') (fun b z => absurd rfl z) fun z => absurd rfl z
  | none =>
    refine core (fun b => if b = a then some (.frz { cls := .type "list", data := .seq vs.toArray } (.lst (ns.map V.int))) else none) (fun b => ?_) (.inl (.inr ⟨{ cls := .type "list", data := .seq vs.toArray }, if_pos rfl⟩)) (fun b u z => ?_) (fun b z => ?_) fun _ => hk
    · by_cases hb : b = a
      · exact .inr ⟨_, _, if_pos hb⟩
      · exact .inl (if_neg hb)
    · by_cases hb : b = a
      · have z' := (if_pos hb).symm.trans z
        cases z'
        subst hb
        exact ⟨ha, by rw [List.length_map]; exact hl, vs, _, rv, ha⟩
      · have z' := (if_neg hb).symm.trans z
        cases z'
    · by_cases hb : b = a
      · exact hb
      · exact absurd (if_neg hb) z
end L2

namespace L2
open PySem PySem.Spec PyProof.Rows


end L2

/- THE LAST THEOREM (shape; LID, My.* are yours):
   My.Adr: a structure of the addresses that your layer names (classes, functions); My.Txt K t: a structure (Prop) of the equations over K;
   My.txt_mk : {K} {implicit addresses ..} (e1 : nsIn K mainGlobals "law" = some (some (.ref f))) (e2 : K.lookup f = some ⟨oc, od, .func (fnOf "law" "law" params body scope dV kV doc pm an cdv ct), sl⟩) (e3 : codeIn K cdv "law" = true) .. : ∃ t, My.Txt K t

set_option maxRecDepth 100000 in
set_option maxHeartbeats 0 in
theorem PySem.Challenge.cw_LID_holds : PySem.Challenge.rw_LID.Holds := by
  w_on; o_law; k_head; (case hw => w_witness2)
  k_fill
  refine L2.walk_of (l := PySem.Challenge.rw_LID) (n := 63) (k := 40) (x := "script") (CX := fun w => ..) (sp := fun _ => My.sp_law) rfl (by decide) rfl ⟨rfl, by decide, by decide⟩ (fun w h Y => PySem.W.kIn_of Y) ?F ?S ?C
  case F =>
    intro w mg fa h KX G hmg
    have T : ∃ t, My.Txt (L2.KOf KX) t := by
      dsimp only [L2.KOf]                          -- K must stand as «<heap const> w.params» for k_is
      refine' My.txt_mk ?e1 ?e2 ?e3 ..
      (case e1 => PySem.W.k_is)                    -- in the order: a name -> its address -> its object -> its parts
      (case e2 => PySem.W.k_is)
      ..
    obtain ⟨t, T⟩ := T
    have e0 := hmg.symm.trans (PySem.W.mg_of KX G T.law)
    cases e0                                       -- fa is the law's own address
    exact ⟨_, fun s u => .of_eq rfl, fun base kb nb => My.law_fn T kb nb⟩     -- if «.of_eq rfl» comes too early: refine' ⟨_, ?b, fun base kb nb => My.law_fn T kb nb⟩; exact fun s u => .of_eq rfl
  case S => exact fun w H a ns hl hO hS => ..
  case C => exact ..
(the tactic k_is has no namespace: write k_is) -/

/-! SHORT WORDS over the layer: a def of the text, its body, what a loop and a test want. -/
namespace L2
open PySem PySem.Spec PyProof.Rows

/-! ### the text by places -/
def defArgs (s : Stmt) : Arguments := match s with
  | .FunctionDef _ a _ _ _ _ _ _ _ _ => a
  | _ => { posonlyargs := [], args := [], vararg := none, kwonlyargs := [], kw_defaults := [], kwarg := none, defaults := [] }
def defBody (s : Stmt) : List Stmt := match s with
  | .FunctionDef _ _ b _ _ _ _ _ _ _ => b
  | _ => []
def defScope (s : Stmt) : Scope := match s with
  | .FunctionDef _ _ _ _ _ _ sc _ _ _ => sc
  | _ => { kind := .function, names := [], isGenerator := false, isCoroutine := false }

/-! ### no exception leaves a def -/
abbrev CX0 : CXT := fun _ _ _ _ _ _ => False
abbrev E0 : XK := fun _ _ _ => False
theorem pass0 {X : Cx} : Passes CX0 X E0 := fun _ _ _ _ _ _ _ h => h.elim

/-! ### a def (or method) of the text as it stands behind the top -/
structure Fun (K : PySem.W.Frag) (x qual : Str) (st : Stmt) (f : Addr) (fd : FuncData) : Prop where
  ex : ∃ (oc : Value) (od : Option Addr) (kV doc pm : Value) (an : Option Addr) (cdv ct : Value) (osl : Array (Option Value)),
    fd = PySem.W.fnOf x qual (defArgs st) (defBody st) (defScope st) .none kV doc pm an cdv ct ∧ K.lookup f = some ⟨oc, od, .func fd, osl⟩ ∧ PySem.W.codeIn K cdv qual = true
  kp : PySem.W.keepIn K (.ref f) = true
section
variable {P : Program} {w : World} {K : PySem.W.Frag} {mg : Str → Option Value} {base : Heap}
/-- THE RULE for a def: its body as a term of rules, and the reading of that term -/
theorem Fun.ok {x qual : Str} {st : Stmt} {f : Addr} {fd : FuncData} {N ps : List Str} {k : Nat} {sp : Sp} (F : Fun K x qual st f fd) (S : FnScope N ps (defScope st)) (len : ∀ vs H Q E, sp vs H Q E → vs.length = ps.length)
    (hbody : ∀ (cdv : Value) (A : Around) (outer : List Env) (s : Shared) (H : Hp) (vs : List V) (Q : VK) (E : XK), Room k (A.deeper (envOfC qual (defScope st) s.heap.objs.size f cdv)) → sp vs H Q E →
      ∃ t, PSs (cxOf CX0 P w K mg base N qual (defScope st) f cdv A outer s H E).nox (defBody st) t ∧ t { nx := fun _ H' => Q .non H', rt := Q } (start N vs) H) : FnOk P w K mg base CX0 (k + 1) f fd ps sp := by
  obtain ⟨oc, od, kV, doc, pm, an, cdv, ct, osl, rfl, lk, hcd⟩ := F.ex
  refine fn_of lk hcd S len fun A outer s H vs Q E hr hsp => ?_
  obtain ⟨t, h, q⟩ := hbody cdv A outer s H vs Q E hr hsp
  exact ⟨t, h.nox, q⟩
/-- how its arguments bind (no defaults): h is «fun _ _ _ _ _ _ us hl => match us, hl with | [_, _], _ => rfl», one _ a parameter -/
theorem Fun.binds {x qual : Str} {st : Stmt} {f : Addr} {fd : FuncData} {ps : List Str} (F : Fun K x qual st f fd)
    (h : ∀ (kV doc pm : Value) (an : Option Addr) (cdv ct : Value) (us : List Value), us.length = ps.length → bindArgs (PySem.W.fnOf x qual (defArgs st) (defBody st) (defScope st) .none kV doc pm an cdv ct) ⟨us, []⟩ = pure (ps.zip us)) : Binds K fd ps [] := by
  obtain ⟨oc, od, kV, doc, pm, an, cdv, ct, osl, rfl, lk, hcd⟩ := F.ex
  exact .all (h kV doc pm an cdv ct)
theorem fun_mk {x qual : Str} {st : Stmt} {f : Addr} {oc : Value} {od an : Option Addr} {osl : Array (Option Value)} {kV doc pm cdv ct : Value} (l : K.lookup f = some ⟨oc, od, .func (PySem.W.fnOf x qual (defArgs st) (defBody st) (defScope st) .none kV doc pm an cdv ct), osl⟩)
    (c : PySem.W.codeIn K cdv qual = true) (k : PySem.W.keepIn K (.ref f) = true) : Fun K x qual st f (PySem.W.fnOf x qual (defArgs st) (defBody st) (defScope st) .none kV doc pm an cdv ct) := ⟨⟨oc, od, kV, doc, pm, an, cdv, ct, osl, rfl, l, c⟩, k⟩
end
theorem hu_of {A : Around} {k : Nat} (hr : Room k A) : A.units + 1 < cLine := Nat.lt_of_le_of_lt (Nat.add_le_add_left (by decide : 1 ≤ 64) _) hr.units

/-! ### expressions in short: the name that stands in the i-th slot -/
section
variable {X : Cx}
theorem pv (i : Nat) {x : Str} {pos : Pos} (hN : X.N[i]? = some x := by rfl) (hv : Vis X.env.scope x := by first | exact Or.inl rfl | exact Or.inr (Or.inl rfl) | exact Or.inr (Or.inr rfl)) (hd : (x == ("__debug__" : Str)) = false := by decide)
    (hcd : (x == ("__classdict__" : Str)) = false := by decide) : PE X (.Name x pos) (tVar i) := pe_var hN hv hd hcd
end

/-! ### tests -/
theorem iteF {A B : Prop} (h : B) : if false = true then A else B := by
  rw [if_neg Bool.false_ne_true]
  exact h
theorem iteT {A B : Prop} (h : A) : if true = true then A else B := by
  rw [if_pos rfl]
  exact h
theorem ite2 {c A B : Prop} [Decidable c] (h1 : c → A) (h2 : ¬ c → B) : if c then A else B := by
  by_cases h : c
  · rw [if_pos h]
    exact h1 h
  · rw [if_neg h]
    exact h2 h
theorem iteNS {c A B : Prop} [Decidable c] (hc : c) (h : B) : if (!decide c) = true then A else B := by
  rw [decide_eq_true hc]
  exact iteF h

/-! ### heaps -/
/-- all that was tracked is as it was -/
def Same (H H' : Hp) : Prop := ∀ b o, H b = some o → H' b = some o
theorem Same.refl (H : Hp) : Same H H := fun _ _ h => h
theorem Same.trans {H H1 H2 : Hp} (a : Same H H1) (b : Same H1 H2) : Same H H2 := fun c o h => b c o (a c o h)
theorem Same.free {H H' : Hp} (e : Same H H') {l : Addr} (h : H' l = Option.none) : H l = Option.none := by
  cases q : H l with
  | none => rfl
  | some o =>
    rw [e l o q] at h
    cases h
theorem Same.seq {K : PySem.W.Frag} {H H' : Hp} {a : Addr} {xs : List V} (e : Same H H') (h : SqL K H a xs) : SqL K H' a xs := by
  rcases h with (h | ⟨o, h⟩) | h
  · exact .inl (.inl (e _ _ h))
  · exact .inl (.inr ⟨o, e _ _ h⟩)
  · exact .inr h

end L2


namespace L2
open PySem PySem.Spec PyProof.Rows
section
variable {X : Cx}
end
/-! ### a dict's pairs: keys that differ -/
section
variable {κ : Type} [DecidableEq κ]
end
end L2


namespace OF
abbrev Terms := List (Int × Int)
def coef : Terms → Int → Int
  | [], _ => 0
  | p :: r, k => (if p.1 = k then p.2 else 0) + coef r k
structure IsForm (f : Terms) : Prop where
  rise : f.Pairwise (fun a b => a.1 < b.1)
  nz : ∀ p ∈ f, p.2 ≠ 0
theorem coef_append : ∀ (a b : Terms) (k : Int), coef (a ++ b) k = coef a k + coef b k
  | [], b, k => by simp [coef]
  | p :: r, b, k => by
    have ih := coef_append r b k
    simp only [List.cons_append, coef, ih]; omega
theorem coef_snoc (a : Terms) (p : Int × Int) (k : Int) : coef (a ++ [p]) k = coef a k + (if p.1 = k then p.2 else 0) := by
  rw [coef_append]; simp [coef]
theorem coef_none : ∀ (a : Terms) (k : Int), (∀ p ∈ a, p.1 ≠ k) → coef a k = 0
  | [], _, _ => rfl
  | p :: r, k, h => by
    have h1 : ¬ p.1 = k := h p (by simp)
    simp only [coef, if_neg h1, coef_none r k fun q hq => h q (by simp [hq])]; rfl
theorem coef_head {p : Int × Int} {r : Terms} (h : ∀ q ∈ r, p.1 < q.1) : coef (p :: r) p.1 = p.2 := by
  simp only [coef, if_pos]
  rw [coef_none r p.1 fun q hq => Int.ne_of_gt (h q hq)]; omega
/-! a dict of ints by ints -/
def look : Terms → Int → Option Int
  | [], _ => none
  | p :: r, k => if p.1 = k then some p.2 else look r k
def getI (d : Terms) (k : Int) : Int := (look d k).getD 0
def putI (d : Terms) (k v : Int) : Terms := if (d.any fun p => decide (p.1 = k)) = true then d.map (fun p => if p.1 = k then (p.1, v) else p) else d ++ [(k, v)]
theorem look_any (k : Int) : ∀ d : Terms, (d.any fun p => decide (p.1 = k)) = (look d k).isSome
  | [] => rfl
  | p :: r => by
    rw [List.any_cons, look]
    by_cases e : p.1 = k
    · simp [e]
    · simp [e, look_any k r]
theorem look_map (k j v : Int) : ∀ d : Terms, look (d.map fun p => if p.1 = k then (p.1, v) else p) j = (look d j).map fun x => if j = k then v else x
  | [] => rfl
  | p :: r => by
    have ih := look_map k j v r
    rw [List.map_cons]
    by_cases h : p.1 = k
    · rw [if_pos h]
      by_cases e : p.1 = j
      · simp [look, e, show j = k from e.symm.trans h]
      · simp [look, e, ih]
    · rw [if_neg h]
      by_cases e : p.1 = j
      · simp [look, e, show ¬ j = k from fun z => h (e.trans z)]
      · simp [look, e, ih]
theorem look_snoc (k j v : Int) : ∀ d : Terms, look d k = none → look (d ++ [(k, v)]) j = if j = k then some v else look d j
  | [], _ => by
    by_cases e : k = j
    · simp [look, e]
    · simp [look, e, show ¬ j = k from fun z => e z.symm]
  | p :: r, hn => by
    have hk : ¬ p.1 = k := fun z => by simp [look, z] at hn
    have hn' : look r k = none := by simpa [look, hk] using hn
    have ih := look_snoc k j v r hn'
    rw [List.cons_append]
    by_cases e : p.1 = j
    · simp [look, e, show ¬ j = k from fun z => hk (e.trans z)]
    · simp [look, e, ih]
theorem look_put (d : Terms) (k j v : Int) : look (putI d k v) j = if j = k then some v else look d j := by
  unfold putI
  by_cases a : (d.any fun p => decide (p.1 = k)) = true
  · rw [if_pos a, look_map]
    rw [look_any] at a
    by_cases e : j = k
    · obtain ⟨x, hx⟩ := Option.isSome_iff_exists.mp a
      rw [e, hx]; simp
    · rw [if_neg e]
      cases look d j <;> simp [e]
  · rw [if_neg a]
    refine look_snoc k j v d ?_
    rw [look_any] at a
    cases q : look d k with
    | none => rfl
    | some x => rw [q] at a; exact (a rfl).elim
theorem length_put (d : Terms) (k v : Int) : (putI d k v).length ≤ d.length + 1 := by
  unfold putI
  split
  · rw [List.length_map]; omega
  · simp
theorem look_mem {d : Terms} {k : Int} : look d k ≠ none ↔ k ∈ d.map (·.1) := by
  induction d with
  | nil => simp [look]
  | cons p r ih =>
    rw [List.map_cons, List.mem_cons, look]
    by_cases e : p.1 = k
    · simp [e]
    · have e' : ¬ k = p.1 := fun z => e z.symm
      simp only [if_neg e]
      rw [ih]; simp [e']
theorem keys_put (d : Terms) (k v : Int) : (putI d k v).map (·.1) = if (look d k).isSome then d.map (·.1) else d.map (·.1) ++ [k] := by
  unfold putI
  rw [look_any]
  by_cases a : (look d k).isSome = true
  · rw [if_pos a, if_pos a, List.map_map]
    congr 1
    funext p
    simp only [Function.comp]
    split <;> rfl
  · rw [if_neg a, if_neg a, List.map_append]; rfl
theorem nodup_put {d : Terms} (k v : Int) (h : (d.map (·.1)).Nodup) : ((putI d k v).map (·.1)).Nodup := by
  rw [keys_put]
  by_cases a : (look d k).isSome = true
  · rw [if_pos a]; exact h
  · rw [if_neg a]
    have hk : ¬ k ∈ d.map (·.1) := fun m => a (by
      have := look_mem.mpr m
      cases q : look d k with
      | none => exact (this q).elim
      | some x => rfl)
    exact List.nodup_append.mpr ⟨h, by simp, fun a ha b hb => by
      have : b = k := by simpa using hb
      subst this
      intro e; subst e; exact hk ha⟩
theorem getI_put (d : Terms) (k j v : Int) : getI (putI d k v) j = if j = k then v else getI d j := by
  unfold getI
  rw [look_put]
  split <;> rfl
/-! what the loop over a list leaves: the dict of all sums -/
structure DictOf (d l : Terms) : Prop where
  nd : (d.map (·.1)).Nodup
  len : d.length ≤ l.length
  val : ∀ k, getI d k = coef l k
  src : ∀ k ∈ d.map (·.1), k ∈ l.map (·.1)
theorem dictOf_nil : DictOf [] [] := ⟨List.nodup_nil, Nat.le_refl _, fun _ => rfl, fun _ h => h⟩
theorem DictOf.snoc {d l : Terms} (h : DictOf d l) (p : Int × Int) : DictOf (putI d p.1 (getI d p.1 + p.2)) (l ++ [p]) := by
  refine ⟨nodup_put _ _ h.nd, ?_, fun k => ?_, fun k hk => ?_⟩
  · have := length_put d p.1 (getI d p.1 + p.2); have := h.len; simp; omega
  · rw [getI_put, coef_snoc, ← h.val]
    by_cases e : k = p.1
    · subst e; simp
    · simp [e, show ¬ p.1 = k from fun z => e z.symm]
  · rw [keys_put] at hk
    rw [List.map_append, List.mem_append]
    split at hk
    · exact .inl (h.src k hk)
    · rcases List.mem_append.mp hk with hk | hk
      · exact .inl (h.src k hk)
      · exact .inr (by simpa using hk)
def formOf (d : Terms) (ks : List Int) : Terms := (ks.filter fun k => decide (getI d k ≠ 0)).map fun k => (k, getI d k)
theorem coef_formOf (d : Terms) : ∀ (ks : List Int), ks.Nodup → ∀ k, coef (formOf d ks) k = if k ∈ ks then getI d k else 0
  | [], _, k => by simp [formOf, coef]
  | a :: r, hn, k => by
    have h1 := List.nodup_cons.mp hn
    have ih := coef_formOf d r h1.2 k
    have e0 : formOf d (a :: r) = if getI d a ≠ 0 then (a, getI d a) :: formOf d r else formOf d r := by
      unfold formOf
      rw [List.filter_cons]
      by_cases e : getI d a = 0 <;> simp [e]
    rw [e0]
    by_cases e : a = k
    · subst e
      have : ¬ a ∈ r := h1.1
      by_cases z : getI d a = 0
      · simp [z, ih, this]
      · simp [z, coef, ih, this]
    · have e' : ¬ k = a := fun z => e z.symm
      by_cases z : getI d a = 0
      · simp [z, ih, e']
      · simp [z, coef, ih, e, e']
theorem formOf_isForm (d : Terms) {ks : List Int} (h : ks.Pairwise (· < ·)) : IsForm (formOf d ks) := by
  refine ⟨?_, fun p hp => ?_⟩
  · unfold formOf
    rw [List.pairwise_map]
    exact (h.filter _)
  · unfold formOf at hp
    obtain ⟨k, hk, e⟩ := List.mem_map.mp hp
    subst e
    simpa using (List.mem_filter.mp hk).2
theorem lt_of_le_nodup : ∀ {ks : List Int}, ks.Pairwise (· ≤ ·) → ks.Nodup → ks.Pairwise (· < ·)
  | [], _, _ => .nil
  | a :: r, h, n => by
    have h1 := List.pairwise_cons.mp h
    have n1 := List.nodup_cons.mp n
    refine .cons (fun b hb => ?_) (lt_of_le_nodup h1.2 n1.2)
    have := h1.1 b hb
    have : a ≠ b := fun e => n1.1 (e ▸ hb)
    omega
/-- the form of a list -/
structure FormOf (f l : Terms) : Prop extends IsForm f where
  val : ∀ k, coef f k = coef l k
  src : ∀ p ∈ f, p.1 ∈ l.map (·.1)
theorem formOf_ok {d l : Terms} {ks : List Int} (h : DictOf d l) (hp : ks.Perm (d.map (·.1))) (hs : ks.Pairwise (· ≤ ·)) : FormOf (formOf d ks) l := by
  have nd : ks.Nodup := hp.nodup_iff.mpr h.nd
  refine ⟨formOf_isForm d (lt_of_le_nodup hs nd), fun k => ?_, fun p hq => ?_⟩
  · rw [coef_formOf d ks nd, ← h.val]
    split
    · rfl
    · rename_i hk
      unfold getI
      have : look d k = none := by
        cases q : look d k with
        | none => rfl
        | some x => exact (hk (hp.mem_iff.mpr (look_mem.mp (by rw [q]; simp)))).elim
      rw [this]; rfl
  · unfold formOf at hq
    obtain ⟨k, hk, e⟩ := List.mem_map.mp hq
    subst e
    exact h.src k (hp.mem_iff.mp (List.mem_filter.mp hk).1)
theorem formOf_length (d : Terms) (ks : List Int) : (formOf d ks).length ≤ ks.length := by
  unfold formOf; rw [List.length_map]; exact List.length_filter_le _ _
/-! is it a form -/
end OF

namespace L2
open PySem PySem.Spec PyProof.Rows
section
variable {X : Cx}
/-! ### ints of any size -/
def CDivG (i j : Int) : Prop := 0 < j ∧ j.natAbs.log2 < 9000
theorem op_fdivG : OpR X (binaryOp .FloorDiv) (rI CDivG fun i j => .int (i / j)) := opI fun i j _ _ _ _ _ hc q => by
  have h1 : (0 : Int) < j := hc.1
  have e : i.fdiv j = i / j := Int.fdiv_eq_ediv_of_nonneg i (Int.le_of_lt h1)
  exact floordiv_int (Int.ne_of_gt h1) (by rw [e]; exact q) (.inl (PyProof.noPylong_of_log2 hc.2))
theorem op_mulO : OpR X (binaryOp .Mult) (rI IntMulOk fun i j => .int (i * j)) := opI fun _ _ _ _ _ _ _ hc q => mul_int q hc
theorem divG_of {j : Int} (h1 : 0 < j) (h2 : j < 2 ^ 250) : 0 < j ∧ j.natAbs.log2 < 9000 := by
  refine ⟨h1, ?_⟩
  have h3 : j.natAbs < 2 ^ 250 := by
    have e : (j.natAbs : Int) = j := by omega
    have : ((j.natAbs : Nat) : Int) < ((2 ^ 250 : Nat) : Int) := by rw [e]; (have q : ((2 ^ 250 : Nat) : Int) = (2 : Int) ^ 250 := by norm_cast); rw [q]; exact h2
    exact Int.ofNat_lt.mp this
  have h4 : j.natAbs ≠ 0 := by omega
  have := (Nat.log2_lt h4).mpr h3
  omega
/-! ### isinstance(x, T) -/
theorem call_isinstance : CallR X (.builtin "isinstance") (fun xs H Q => ∃ x n t b, xs = [x, V.ty n] ∧ TyOf X.K H x t ∧ PySem.W.kitOne X.K t (.type n) = some b ∧ Q (.bl b) H) := by
  intro pins s σ H xs us Q I r h
  obtain ⟨x, n, t, b, rfl, ty, e, q⟩ := h
  obtain ⟨u, w', rfl, ru, rw'⟩ := vals2 r
  cases (show w' = Value.type n from rw')
  exact isinst_ok I ru ty e fun tk => ⟨.bl b, H, I.tok _, rfl, q⟩
/-! ### sum of a list of ints -/
/-! ### list.insert(i, x) -/
def rInsert : V → List V → Hp → VK → Prop := fun x vs H Q => ∃ l xs k y, x = .ref l ∧ vs = [.int (k : Nat), y] ∧ H l = some (.lst xs) ∧ k ≤ xs.length ∧ xs.length < sizeLine ∧ Q .non (upd H l (.lst (xs.take k ++ y :: xs.drop k)))
theorem mt_insert : MtM X "list.insert" rInsert := by
  intro pins s σ H x vs v us Q I rx rv h
  obtain ⟨l, xs, k, y, rfl, rfl, hH, hk, hz, q⟩ := h
  cases rx
  obtain ⟨u, w', rfl, ru, rw'⟩ := rv.two
  obtain ⟨t, rfl⟩ := ru
  obtain ⟨z, its, n, r, hl, e⟩ := I.lstM hH
  have hlen := r.length
  have hc0 : ¬ (!Builtin.List.listFitsIndex (k : Int)) = true := by
    have h1 : (k : Int) < 2 ^ 63 := by
      have := line63
      have : k < 2 ^ 63 := by omega
      exact_mod_cast this
    have h0 : (0 : Int) ≤ (k : Int) := Int.natCast_nonneg _
    simp [Builtin.List.listFitsIndex]
    omega
  have hsz : its.toArray.size ≤ sizeLine := by rw [List.size_toArray]; omega
  obtain ⟨x, hx⟩ : ∃ x : Int, x = (k : Int) := ⟨_, rfl⟩
  rw [← hx] at hc0 ⊢
  have M := AutoSeq1.list_insert_list_int_val_1 l its.toArray n x t w' hc0 hsz
  refine call_meets F.slot_list_insert ⟨_, e, rfl⟩ F.entry_list_insert (F.args_list_insert_3 _ _ _) M ⟨e, ?_⟩
  refine ⟨.non, _, I.lset (its' := its.take k ++ w' :: its.drop k) hH e ?_ (Vals.append (r.take k) (.cons rw' (r.drop k))) ?_, rfl, q⟩
  · have h1 : ¬ (x < 0) := by omega
    have h2 : min x.toNat its.toArray.size = k := by rw [List.size_toArray]; omega
    apply Array.ext'
    simp only [if_neg h1, h2]
    simp [List.extract_eq_take_drop]
    rw [List.take_of_length_le (by rw [List.length_drop]; exact Nat.le_refl _)]
  · rw [List.length_append, List.length_cons, List.length_take, List.length_drop]; omega
end
end L2

namespace L2
open PySem PySem.Spec PyProof.Rows
theorem ObjOk.there {P : Program} {w : World} {H : Hp} {h : Heap} {a : Addr} {o : HO} (x : ObjOk P w H h a o) : ∃ ob, h.get? a = some ob := by
  cases o with
  | lst xs => obtain ⟨_, _, _, _, e⟩ := x; exact ⟨_, e⟩
  | tup xs => obtain ⟨_, _, _, o, e, _⟩ := x; exact ⟨_, e⟩
  | dK kvs => obtain ⟨_, _, _, _, o, _, _, e, _⟩ := x; exact ⟨_, e⟩
  | dT kvs => obtain ⟨_, _, _, _, o, _, _, e, _⟩ := x; exact ⟨_, e⟩
  | set S n => obtain ⟨o, _, _, _, e, _⟩ := x; exact ⟨_, e⟩
  | ins C dx fs => obtain ⟨_, _, _, e, _⟩ := x; exact ⟨_, e⟩
  | own y => exact x
  | xd fs => obtain ⟨_, ⟨_, _, _, e, _⟩, _⟩ := x; exact ⟨_, e⟩
  | rng lo hi => obtain ⟨_, _, _, e⟩ := x; exact ⟨_, e⟩
  | frz ob u => obtain ⟨e, _⟩ := x; exact ⟨_, e⟩
  | tbl ps => exact ⟨_, x⟩
  | met f y => exact ⟨_, x⟩
  | ext φ => obtain ⟨_, e, _⟩ := x; exact e
/-- a new object at a place where none stood -/
theorem Inv.laidN {X : Cx} {pins : List (Addr × Obj)} {σ : St} {H : Hp} {s : Shared} {h' : Heap} {a : Addr} {o : HO} {t' : Nat} (I : Inv X pins σ H s) (k : ∀ b u, s.heap.get? b = some u → h'.get? b = some u) (hn : s.heap.get? a = none)
    (new : ObjOk X.prog X.w (upd H a o) h' a o) : Inv X pins σ (upd H a o) { s with heap := h', toks := t' } := by
  have hH : H a = none := by
    cases q : H a with
    | none => rfl
    | some u =>
      obtain ⟨ob, e⟩ := (I.hok a u q).there
      rw [hn] at e; cases e
  refine I.un ⟨fun b u q _ _ _ => k b u q, fun b u q _ _ _ => ⟨u.slots, k b u q⟩, fun b u q n _ => ?_, fun b u q _ => ⟨u, k b u q⟩, fun b xs q => ?_, fun b u xs q => ?_, fun b ps q => ⟨#[], ?_⟩⟩ fun b u e => ?_
  · rw [upd_ne (by intro z; rw [z, hn] at q; cases q)]; exact n
  · rw [upd_ne (ne_of_none q hH)]; exact q
  · rw [upd_ne (ne_of_none q hH)]; exact q
  · rw [upd_ne (ne_of_none q hH), q]; simp
  · by_cases hb : b = a
    · subst hb; rw [upd_same] at e; cases e; exact new
    · rw [upd_ne hb] at e
      exact (I.hok b u e).stay (fun c v _ q => k c v q) (fun c q => by rw [upd_ne (ne_of_none q hH)]; exact q) fun c xs q => by rw [upd_ne (ne_of_none q hH)]; exact q
/-- the cells that a block takes from the frame around it -/
theorem closureFor_of {env : Env} : ∀ (names : List (Str × NameKind)) (acc : List (Str × Addr)), (∀ x, (x, NameKind.free) ∈ names → ∃ c, env.cells.lookup x = some c) →
    ∃ cl, (forIn names acc fun (x : Str × NameKind) (cs : List (Str × Addr)) => (if (x.2 == NameKind.free) = true then (do let a ← cellOf env x.1; pure (ForInStep.yield ((x.1, a) :: cs))) else pure (ForInStep.yield cs) : Sem (ForInStep (List (Str × Addr))))) = pure cl ∧
      ∀ x, cl.lookup x = (if (x, NameKind.free) ∈ names then env.cells.lookup x else acc.lookup x)
  | [], acc, _ => ⟨acc, rfl, fun x => by simp⟩
  | (n, k) :: r, acc, h => by
    by_cases hk : k = NameKind.free
    · subst hk
      obtain ⟨c, hc⟩ := h n (by simp)
      obtain ⟨cl, e, l⟩ := closureFor_of (env := env) r ((n, c) :: acc) fun x hx => h x (by simp [hx])
      refine ⟨cl, ?_, fun x => ?_⟩
      · rw [List.forIn_cons]
        have hcell : cellOf env n = pure c := by unfold cellOf; rw [hc]
        simp only [beq_self_eq_true, if_true, hcell, pure_bind]
        exact e
      · rw [l x]
        by_cases hx : (x, NameKind.free) ∈ r
        · simp [hx]
        · by_cases hn : x = n
          · subst hn; simp [hx, hc]
          · have hb : (x == n) = false := by simpa using hn
            simp [hx, hn, List.lookup_cons, hb]
    · have hb : (k == NameKind.free) = false := by simpa using hk
      obtain ⟨cl, e, l⟩ := closureFor_of (env := env) r acc fun x hx => h x (by simp [hx])
      refine ⟨cl, ?_, fun x => ?_⟩
      · rw [List.forIn_cons]
        simp only [hb, Bool.false_eq_true, if_false, pure_bind]
        exact e
      · rw [l x]
        have : ¬ ((x, NameKind.free) = (n, k)) := fun z => hk (by injection z with _ z2; exact z2.symm)
        simp [List.mem_cons, this]
theorem lookup_relabel (env : Env) (x : Str) : ∀ (names : List (Str × NameKind)), (names.map fun (n, k) => if (k == NameKind.free && env.scope.kind == .function && env.kindOf n == some .cell) then (n, NameKind.cell) else (n, k)).lookup x =
    (names.lookup x).map fun k => if (k == NameKind.free && env.scope.kind == .function && env.kindOf x == some .cell) then NameKind.cell else k
  | [] => rfl
  | (n, k) :: r => by
    have ih := lookup_relabel env x r
    show List.lookup x ((if (k == NameKind.free && env.scope.kind == .function && env.kindOf n == some .cell) = true then (n, NameKind.cell) else (n, k)) :: _) = _
    by_cases hx : x = n
    · subst hx
      split <;> simp_all [List.lookup_cons]
    · have hb : (x == n) = false := by simpa using hx
      split
      · simp only [List.lookup_cons, hb]; exact ih
      · simp only [List.lookup_cons, hb]; exact ih
/-- the context of a comprehension's block -/
abbrev cxComp (X : Cx) (N' : List Str) (scope : Scope) (cl : List (Str × Addr)) (C : Addr) (s₀ : Shared) (H₀ : Hp) (fp : List Addr) : Cx :=
  { X with N := N', s₀ := s₀, H₀ := H₀, env := compEnvC scope cl C X.env, outer := X.stack, ex := fp, fn := fun _ => false, pn := [], xe := fun _ _ => False }
/-- its names: own ones (nT of them), then those of the frame around it, by their slots js there -/
structure CompSc (X : Cx) (scope : Scope) (N' : List Str) (nT : Nat) (js : List Nat) : Prop where
  kind : scope.kind = .function
  nocell : ∀ y ∈ scope.names, y.2 ≠ .cell
  names : ∀ y ∈ scope.names, y.2 = .local → scope.names.lookup y.1 = some .local
  len : N'.length = nT + js.length
  frees : ∀ (k j : Nat) (x : Str), js[k]? = some j → N'[nT + k]? = some x → X.N[j]? = some x
  kinds : ∀ y ∈ scope.names, y.2 = .free → X.env.scope.names.lookup y.1 = some .cell
  vis : ∀ x ∈ N'.drop nT, scope.names.lookup x = some .free
def startC (nT : Nat) (js : List Nat) (σ : St) : St := List.replicate nT none ++ js.map fun j => (σ[j]?).join
def tComp (wi : TI) (nT : Nat) (js : List Nat) (g : TG) (tc : TT) (te : TE) : TE := fun σ H Q => wi σ H fun J H1 => ∃ W : Nat → Nat → List V → St → Hp → Prop, (∃ m, W 0 m [] (startC nT js σ) H1) ∧ ∀ i m ys σ H, W i m ys σ H →
  (J.stop i H ∧ ∀ D, H D = none → Q (.ref D) (upd H D (.lst ys))) ∨
  (J.go i H ∧ ys.length < sizeLine ∧ ∃ N : List V → St → Hp → Prop, (∀ ys' σ' H', N ys' σ' H' → ∃ m', m' < m ∧ W (i + 1) m' ys' σ' H') ∧
    ∀ x H', J.yld i H x H' → g x σ H' fun σ2 H2 => tc σ2 H2 fun b H3 => if b = true then te σ2 H3 fun y H4 => N (ys ++ [y]) σ2 H4 else N ys σ2 H3)
/-- all the tests of a clause: none, or one -/
def PTs (X : Cx) (ifs : List Expr) (t : TT) : Prop :=
  ∀ (pins : List (Addr × Obj)) (s : Shared) (σ : St) (H : Hp) (Q : Bool → Hp → Prop), Inv X pins σ H s → t σ H Q →
    wpAny (model X.prog X.w) X.A (forIn ifs true fun c r => if r = true then do let ok ← isTrue c X.env (eval c X.env); pure (ForInStep.yield ok) else pure (ForInStep.yield r)) (TP X pins σ Q) X.xe s
def tTrue : TT := fun _ H Q => Q true H
theorem pts_nil {X : Cx} : PTs X [] tTrue := fun _ _ _ H _ I h => wpAny_tests_nil ⟨H, I, h⟩
theorem pts_one {X : Cx} {c : Expr} {t : TT} (h : PT X c t) : PTs X [c] t := fun pins s σ H Q I q => wpAny_tests_one (h pins s σ H Q I q)
section
variable {prog : Program} {w : World} {A : Around} {R : Result → Shared → Prop} {s : Shared}
/-- the loop, where nothing raises -/
theorem compLoop_any {elt target iter : Expr} {ifs : List Expr} {scope : Scope} {pos : Pos} {it acc : Value} {env : Env} (I : Nat → Shared → Prop)
    (turn : ∀ n s, I n s → wpAny (model prog w) A (pyNext it) (fun r s₁ => match r with
      | none => R (.ok .next) s₁
      | some v => wpAny (model prog w) A (letOwnedTupleGo target it v) (fun _ s₁' => wpAny (model prog w) A (assign target env v) (fun _ s₂ =>
          wpAny (model prog w) A (forIn ifs true fun c r => if r = true then do let ok ← isTrue c env (eval c env); pure (ForInStep.yield ok) else pure (ForInStep.yield r)) (fun ok s₃ =>
            if ok = true then wpAny (model prog w) A (eval elt env) (fun x s₄ =>
              wpAny (model prog w) A (call (.builtin "list.append") [acc, x]) (fun _ s₅ => ∃ m, m < n ∧ I m s₅) (fun _ _ => False) s₄) (fun _ _ => False) s₃
            else ∃ m, m < n ∧ I m s₃) (fun _ _ => False) s₂) (fun _ _ => False) s₁') (fun _ _ => False) s₁) (fun _ _ => False) s)
    (n : Nat) (h : I n s) :
    codeAny (model prog w) A (.compLoop (.ListComp elt [⟨target, iter, ifs, 0⟩] scope pos) 0 it acc env) R s := by
  refine codeAny_loop rfl I (fun n s hI => ?_) n h
  show wpAny _ A ((compTurn (.ListComp elt [⟨target, iter, ifs, 0⟩] scope pos) 0 it acc env).onRaise (fun x => do noteFrame x env; theTreesLotGoes x)) _ _ s
  refine wpAny_noted ?_
  rw [compTurn_list]
  refine wpAny_bind (wpAny_standAt (wpAny_bind (wpAny_mono (turn n s hI) (fun r s₁ h₁ => ?_) fun _ _ h' => h'.elim)))
  cases r with
  | none => exact wpAny_pure h₁
  | some v =>
    refine wpAny_bind (wpAny_mono h₁ (fun _ s₁' h₁' => ?_) fun _ _ h' => h'.elim)
    refine wpAny_bind (wpAny_mono h₁' (fun _ s₂ h₂ => wpAny_bind (wpAny_mono h₂ (fun ok s₃ h₃ => ?_) fun _ _ h' => h'.elim)) fun _ _ h' => h'.elim)
    cases ok with
    | false => exact wpAny_pure ⟨rfl, h₃⟩
    | true =>
      exact wpAny_bind (wpAny_bind (wpAny_mono h₃ (fun x s₄ h₄ => wpAny_bind (wpAny_mono h₄ (fun _ s₅ h₅ => wpAny_pure (wpAny_pure ⟨rfl, h₅⟩)) fun _ _ h' => h'.elim)) fun _ _ h' => h'.elim))
end
set_option maxHeartbeats 4000000 in
theorem comp_core {X : Cx} {tg iter elt : Expr} {ifs : List Expr} {scope : Scope} {pos : Pos} {N' : List Str} {nT : Nat} {js : List Nat} {g : TG} {tc : TT} {te : TE} {RR : Value → Addr → Result → Shared → Prop}
    (hc : X.calm = true) (S : CompSc X scope N' nT js) {pins : List (Addr × Obj)} {σ : St} {H2 : Hp} {s2 : Shared} {cl : List (Str × Addr)} {it : Addr} {fp : List Addr} {tn : Nat → Heap → Prop} {J : It}
    (hcl : ∀ x, cl.lookup x = (if (x, NameKind.free) ∈ scope.names then X.env.cells.lookup x else none))
    (hg : ∀ C s₀ H₀ fp, PG (cxComp X N' scope cl C s₀ H₀ fp) tg g) (ht : ∀ C s₀ H₀ fp, PTs (cxComp X N' scope cl C s₀ H₀ fp) ifs tc) (he : ∀ C s₀ H₀ fp, PE (cxComp X N' scope cl C s₀ H₀ fp) elt te)
    (I2 : Inv X pins σ H2 s2) (T : Turn X.prog X.w X.K tg J fp it tn) (st2 : tn 0 s2.heap) (f2 : ∀ b ∈ fp, FpOk X pins H2 b) {QQ : Addr → List V → Hp → Prop}
    (W : Nat → Nat → List V → St → Hp → Prop) (w0 : ∃ m, W 0 m [] (startC nT js σ) H2)
    (turn : ∀ i m ys σ H, W i m ys σ H → (J.stop i H ∧ ∀ D, H D = none → QQ D ys H) ∨
      (J.go i H ∧ ys.length < sizeLine ∧ ∃ N : List V → St → Hp → Prop, (∀ ys' σ' H', N ys' σ' H' → ∃ m', m' < m ∧ W (i + 1) m' ys' σ' H') ∧
        ∀ x H', J.yld i H x H' → g x σ H' fun σ2 H2 => tc σ2 H2 fun b H3 => if b = true then te σ2 H3 fun y H4 => N (ys ++ [y]) σ2 H4 else N ys σ2 H3))
    (hRR : ∀ (D C : Addr) (s' : Shared) (ys : List V) (H' : Hp) (m : Str → Option Value), QQ D ys H' → s'.heap.Ns C m → s2.heap.get? C = none → s2.heap.objs.size ≤ C → D ≠ C → H' C = none → (∀ h', Heap.SameBut C s'.heap h' → Inv X pins σ (upd H' D (.lst ys)) { s' with heap := h' }) → RR (.ref D) C (.ok .next) s') :
    wpAny (model X.prog X.w) X.A (newList []) (fun acc s₃ => wpAny (model X.prog X.w) X.A (newFunctionEnv scope X.env.globals cl [] X.env.qual none .none (some X.env)) (fun cenv s₄ =>
      codeAny (model X.prog X.w) X.A (.compStart (.ListComp elt [⟨tg, iter, ifs, 0⟩] scope pos) 0 (.ref it) acc { cenv with scope := relabel scope X.env }) (RR acc cenv.locals) s₄) (fun _ _ => False) s₃) (fun _ _ => False) s2 := by
  refine wpAny_newObj_type (wpAny_newFunctionEnv S.nocell (by intro y hy; simp at hy) (fun h₁ hns₁ hsb₁ => ?_) S.kind)
  dsimp only at hns₁ hsb₁ ⊢
  generalize hH2 : s2.heap.push { cls := .type "list", dict := none, data := .seq ([] : List Value).toArray } = G2 at hns₁ hsb₁ ⊢
  have hC : G2.objs.size = s2.heap.objs.size + 1 := by rw [← hH2, Heap.size_push]
  generalize hCC : G2.objs.size = C at hns₁ hsb₁ hC ⊢
  generalize hDD : s2.heap.objs.size = D at hC ⊢
  have hDC : D ≠ C := by omega
  have below : ∀ b o, s2.heap.get? b = some o → b ≠ C ∧ b ≠ D := fun b o e => by
    have h : @LT.lt Nat _ b s2.heap.objs.size := Heap.lt_size e
    exact ⟨fun z => by have z' : @Eq Nat b C := z; omega, fun z => by have z' : @Eq Nat b D := z; omega⟩
  have old : ∀ b o, s2.heap.get? b = some o → h₁.get? b = some o := fun b o e => hsb₁.extBut b o (below b o e).1 (Heap.get?_push_of_some _ (hH2 ▸ Heap.get?_push_of_some _ e))
  have hacc : h₁.get? D = some { cls := .type "list", data := .seq ([] : List Value).toArray } := hsb₁.extBut _ _ hDC (Heap.get?_push_of_some _ (by rw [← hH2, ← hDD]; exact Heap.get?_push_size _ rfl))
  have nC : s2.heap.get? C = none := Heap.get?_none_of_le (by omega)
  have nD : s2.heap.get? D = none := Heap.get?_none_of_le (by omega)
  have fC : H2 C = none := I2.hok.fresh (by omega)
  have fD : H2 D = none := I2.hok.fresh (by omega)
  have fpl : ∀ b ∈ fp, b ≠ C ∧ b ≠ D := fun b hb => by obtain ⟨o, e, _⟩ := T.obj _ _ st2 b hb; exact below b o e
  have nstk : ∀ b ∈ fp, b ∉ frs X.stack := fun b hb z => by
    obtain ⟨_, f1, f3, _⟩ := f2 b hb
    rcases List.mem_cons.mp (I2.stkSub b z) with e | e
    · exact f1 e
    · exact f3 e
  have clO : ∀ x c, cl.lookup x = some c → X.env.cells.lookup x = some c ∧ (x, NameKind.free) ∈ scope.names := fun x c e => by
    rw [hcl] at e
    split at e
    · rename_i hm; exact ⟨e, hm⟩
    · cases e
  have stkD : ∀ b ∈ frs X.stack, b ≠ D ∧ b ≠ C := fun b hb => by
    have h := I2.stkSub b hb
    rcases List.mem_cons.mp h with e | e
    · have h1 : @LT.lt Nat _ X.env.locals s2.heap.objs.size := I2.lt
      have h2 : @Eq Nat b X.env.locals := e
      exact ⟨fun z => by have z' : @Eq Nat b D := z; omega, fun z => by have z' : @Eq Nat b C := z; omega⟩
    · obtain ⟨_, o, ho, _⟩ := I2.ok.funs.mem e
      have h1 : @LT.lt Nat _ b X.s₀.heap.objs.size := Heap.lt_size ho
      have h2 := I2.sz
      exact ⟨fun z => by have z' : @Eq Nat b D := z; omega, fun z => by have z' : @Eq Nat b C := z; omega⟩
  -- the block's context
  have ok' : (cxComp X N' scope cl C s2 H2 fp).Ok := by
    refine ⟨I2.ok.mod, S.kind, I2.ok.glob, I2.ok.blt, (by show s2.heap.objs.size ≤ C; omega), fun x y c h1 h2 => I2.ok.inj x y c (clO x c h1).1 (clO y c h2).1, fun x hx => ?_, fun x c hx _ => (Bool.false_ne_true hx).elim, fun _ => I2.ok.hd hc, I2.ok.frames, .inl rfl,
      fun b hb => ⟨(fpl b hb).1, fun x c e => (f2 b hb).2.2.2.2.1 x c (clO x c e).1⟩, I2.bs, Nat.le_trans I2.ok.bsz I2.sz, fun b o e hb => ?_, nstk, I2.stack, I2.stkFree⟩
    · have hx' : (relabel scope X.env).names.lookup x = some .cell ∨ (relabel scope X.env).names.lookup x = some .free := hx
      have hk : (relabel scope X.env).names.lookup x = _ := lookup_relabel X.env x scope.names
      rw [hk] at hx'
      have hf : (x, NameKind.free) ∈ scope.names := by
        cases q : scope.names.lookup x with
        | none => rw [q] at hx'; rcases hx' with z | z <;> cases z
        | some k =>
          have hm := PySem.mem_of_lookup q
          cases k with
          | free => exact hm
          | cell => exact absurd rfl (S.nocell _ hm)
          | _ => rw [q] at hx'; rcases hx' with z | z <;> simp at z
      obtain ⟨c, e⟩ := I2.ok.has x (.inl (S.kinds _ hf rfl))
      exact ⟨c, by show cl.lookup x = some c; rw [hcl, if_pos hf]; exact e⟩
    · rcases (f2 b hb).2.2.2.1 with z | z
      · exact I2.ok.noex b o e z
      · have h1 : @LT.lt Nat _ b X.s₀.heap.objs.size := Heap.lt_size (I2.ok.bs b o e).1
        have h2 : @LE.le Nat _ X.s₀.heap.objs.size b := z
        omega
  have I0 : Inv (cxComp X N' scope cl C s2 H2 fp) [] (startC nT js σ) H2 { s2 with heap := h₁, toks := s2.toks + ([] : List (Str × Value)).length } := by
    refine ⟨ok', rfl, I2.bare, Un.kept old, ⟨_, hns₁, fun i x v e1 e2 e3 => ?_⟩, fun x c e => ?_, fC, fun x c e => I2.freeC x c (clO x c e).1, fun p hp => absurd (show p ∈ ([] : List (Addr × Obj)) from hp) (by simp), I2.hok.kept old, ?_⟩
    · unfold startC at e2
      by_cases hi : i < nT
      · rw [List.getElem?_append_left (by simpa using hi), List.getElem?_replicate, if_pos hi] at e2; cases e2
      · rw [List.getElem?_append_right (by simpa using hi), List.length_replicate, List.getElem?_map] at e2
        obtain ⟨k, hk⟩ : ∃ k, i = nT + k := ⟨i - nT, by omega⟩
        subst hk
        rw [Nat.add_sub_cancel_left] at e2
        cases q : js[k]? with
        | none => rw [q] at e2; cases e2
        | some j =>
          rw [q] at e2
          have e2' : (σ[j]?).join = some v := Option.some.inj e2
          have e3' : σ[j]? = some (some v) := by
            cases z : σ[j]? with
            | none => rw [z] at e2'; cases e2'
            | some a => rw [z] at e2'; exact congrArg some e2'
          have hxN := S.frees k j x q e1
          have hlk : scope.names.lookup x = some .free := S.vis x (by
            rw [List.mem_iff_getElem?]
            exact ⟨k, by rw [List.getElem?_drop]; exact e1⟩)
          have hfree : (x, NameKind.free) ∈ scope.names := PySem.mem_of_lookup hlk
          have hcell := S.kinds _ hfree rfl
          obtain ⟨m, hn, hl⟩ := I2.loc
          obtain ⟨u, r, l⟩ := hl j x v hxN e3' (.inr (.inl hcell))
          refine ⟨u, r, ?_⟩
          rcases l with ⟨l, _⟩ | ⟨_, c, ec, ic⟩
          · have l' : X.env.scope.names.lookup x = some .local := l
            rw [hcell] at l'; cases l'
          · refine .inr ⟨?_, c, ?_, ?_⟩
            · left
              show (relabel scope X.env).names.lookup x = some .cell
              have hk : (relabel scope X.env).names.lookup x = _ := lookup_relabel X.env x scope.names
              have hkind : X.env.scope.kind = .function := I2.ok.kind
              have hko : X.env.kindOf x = some .cell := hcell
              rw [hk, hlk, Option.map_some, hkind, hko]
              rfl
            · show cl.lookup x = some c
              rw [hcl, if_pos hfree]; exact ec
            · exact ic.keeps old
    · obtain ⟨v, q⟩ := I2.cell x c (clO x c e).1
      exact ⟨v, q.keeps old⟩
    · unfold startC
      rw [List.length_append, List.length_replicate, List.length_map]
      exact S.len.symm
  have lp : ∀ s₃ : Shared, s₃ = { s2 with heap := h₁, toks := s2.toks + ([] : List (Str × Value)).length } →
      codeAny (model X.prog X.w) X.A (.compLoop (.ListComp elt [⟨tg, iter, ifs, 0⟩] scope pos) 0 (.ref it) (.ref D) (compEnvC scope cl C X.env)) (RR (.ref D) C) s₃ := by
    rintro s₃ rfl
    obtain ⟨m0, w0⟩ := w0
    refine compLoop_any (fun n s' => ∃ (i : Nat) (ys : List V) (its : List Value) (no : Nat) (σ' : St) (H' : Hp), Inv (cxComp X N' scope cl C s2 H2 fp) [(D, { cls := .type "list", data := .seq its.toArray no })] σ' H' s' ∧ Vals ys its ∧ tn i s'.heap ∧ (∀ b ∈ fp, H' b = none) ∧ ys.length ≤ sizeLine ∧ W i n ys σ' H') ?_ m0
      ⟨0, [], [], 0, startC nT js σ, H2, I0.pins_of fun p hp => ?_, .nil, T.keep _ _ _ st2 fun b _ o e => old b o e, fun b hb => (f2 b hb).1, Nat.zero_le _, w0⟩
    · rintro n s3 ⟨i, ys, its, no, σ3, H3, I3, rv, st3, fr3, hz, w3⟩
      have fpk : ∀ {H' : Hp}, (∀ b ∈ fp, H' b = none) → ∀ b ∈ fp, FpOk (cxComp X N' scope cl C s2 H2 fp) [(D, { cls := .type "list", data := .seq its.toArray no })] H' b := fun hn b hb =>
        ⟨hn b hb, (fpl b hb).1, nstk b hb, .inl hb, fun x c e => (f2 b hb).2.2.2.2.1 x c (clO x c e).1, fun p hp => by
          have e : p = (D, { cls := .type "list", data := .seq its.toArray no }) := by simpa using hp
          rw [e]
          exact Ne.symm (fpl b hb).2⟩
      rcases turn i n ys σ3 H3 w3 with ⟨stop, q⟩ | ⟨go, hlt, N, hN, step⟩
      · refine wpAny_mono (T.done (cxComp X N' scope cl C s2 H2 fp) rfl rfl rfl hc i _ s3 σ3 H3 (fun _ _ => False) I3 (fpk fr3) st3 stop) (fun r s4 ⟨hr, I4⟩ => ?_) fun _ _ h => h
        subst hr
        obtain ⟨pD1, pD2, pD3, pD4, _⟩ := I4.pin (D, { cls := .type "list", data := .seq its.toArray no }) (by simp)
        obtain ⟨m, hn, _⟩ := I4.loc
        have fC4 : H3 C = none := I4.free
        refine hRR D C s4 ys H3 m (q D pD2) hn nC (by omega) hDC fC4 fun h' sb => ?_
        have k4 : ∀ b o, b ≠ C → s4.heap.get? b = some o → h'.get? b = some o := fun b o hb e => sb.extBut b o hb e
        have tne : ∀ b u, H3 b = some u → b ≠ D := fun b u e => ne_of_none e pD2
        refine I2.call' (s' := { s4 with heap := h' }) (ch := fp) I4.os ⟨fun b o e n hb hx => k4 b o (below b o e).1 (I4.base.keep b o e n hb hx), fun b o e n hb hx => ?_, fun b o e n hx => ?_, fun b o e hx => ?_, fun b xs e => ?_, fun b o u e => ?_, fun b ps e => ?_⟩ (fun b u e => ?_) I4.bare fun b hb => ?_
        · obtain ⟨sl, e'⟩ := I4.base.slot b o e n hb hx
          exact ⟨sl, k4 b _ (below b o e).1 e'⟩
        · rw [upd_ne (below b o e).2]; exact I4.base.free b o e n hx
        · obtain ⟨o', e'⟩ := I4.base.there b o e hx
          exact ⟨o', k4 b o' (below b o e).1 e'⟩
        · have e' := I4.base.tups b xs e
          rw [upd_ne (tne b _ e')]; exact e'
        · have e' := I4.base.frzs b o u e
          rw [upd_ne (tne b _ e')]; exact e'
        · obtain ⟨more, e'⟩ := I4.base.tbls b ps e
          exact ⟨more, by rw [upd_ne (tne b _ e')]; exact e'⟩
        · by_cases hb : b = D
          · subst hb
            rw [upd_same] at e
            cases e
            exact ⟨hz, its, no, rv, k4 b _ hDC pD1⟩
          · rw [upd_ne hb] at e
            refine (I4.hok b u e).stay (fun c v hcc z => k4 c v ?_ z) (fun c z => by rw [upd_ne (tne c _ z)]; exact z) fun c xs z => by rw [upd_ne (tne c _ z)]; exact z
            rcases hcc with rfl | hcc
            · exact ne_of_none e fC4
            · exact ne_of_none hcc fC4
        · obtain ⟨_, g1, _, g3, g4, g5⟩ := f2 b hb
          exact ⟨g3, g1, g4, g5⟩
      · refine wpAny_mono (T.item (cxComp X N' scope cl C s2 H2 fp) rfl rfl rfl hc i _ s3 σ3 H3 (fun _ _ => False) I3 (fpk fr3) st3 go) (fun r s4 ⟨u, hr, h4⟩ => ?_) fun _ _ h => h
        subst hr
        refine wpAny_mono h4 (fun _ s5 ⟨x, H5, I5, r5, y5, st5, fr5⟩ => ?_) fun _ _ h => h
        have I5' := I5.pinned (fpk fr5) (T.obj _ _ st5)
        refine wpAny_mono (hg C s2 H2 fp _ s5 σ3 H5 x u _ I5' r5 (step x H5 y5)) (fun _ s6 ⟨σ6, H6, I6, q6⟩ => ?_) fun _ _ h => h
        refine wpAny_mono (ht C s2 H2 fp _ s6 σ6 H6 _ I6 q6) (fun ok s7 ⟨H7, I7, q7⟩ => ?_) fun _ _ h => h
        have back : ∀ {pp : List (Addr × Obj)} {s' : Shared} {σ' : St} {H' : Hp}, (∀ b ∈ fp, ∀ o, s5.heap.get? b = some o → (b, o) ∈ pp) → Inv (cxComp X N' scope cl C s2 H2 fp) pp σ' H' s' → tn (i + 1) s'.heap ∧ ∀ b ∈ fp, H' b = none := fun {pp s' σ' H'} hpp I' => by
          refine ⟨T.keep _ _ _ st5 fun b hb o e => (I'.pin (b, o) (List.mem_append_right _ (hpp b hb o e))).1, fun b hb => ?_⟩
          obtain ⟨o, e, d⟩ := T.obj _ _ st5 b hb
          exact (I'.pin (b, o) (List.mem_append_right _ (hpp b hb o e))).2.1
        have inpp : ∀ b ∈ fp, ∀ o, s5.heap.get? b = some o → (b, o) ∈ [(D, ({ cls := .type "list", data := .seq its.toArray no } : Obj))] ++ pinsAt fp s5.heap := fun b hb o e => List.mem_append_right _ (mem_pinsAt hb e)
        cases ok with
        | false =>
          rw [if_neg Bool.false_ne_true]
          rw [if_neg Bool.false_ne_true] at q7
          obtain ⟨m', hm, w7⟩ := hN _ _ _ q7
          obtain ⟨b1, b2⟩ := back inpp I7
          exact ⟨m', hm, i + 1, ys, its, no, σ6, H7, I7.unpinned, rv, b1, b2, hz, w7⟩
        | true =>
          rw [if_pos rfl]
          rw [if_pos rfl] at q7
          refine wpAny_mono (he C s2 H2 fp _ s7 σ6 H7 _ I7 q7) (fun v8 s8 ⟨y, H8, I8, r8, q8⟩ => ?_) fun _ _ h => h
          obtain ⟨eD, nD8, neL, nf, _⟩ := I8.pin (D, { cls := .type "list", data := .seq its.toArray no }) (List.mem_append_right _ (List.mem_append_left _ (by simp)))
          have hlen := rv.length
          refine call_meets F.slot_list_append ⟨_, eD, rfl⟩ F.entry_list_append (F.args_list_append_2 _ _) (PySem.list_append D its.toArray no v8 (by rw [List.size_toArray]; omega)) ⟨eD, ?_⟩
          obtain ⟨m', hm, w8⟩ := hN _ _ _ q8
          have I9 : Inv (cxComp X N' scope cl C s2 H2 fp) (pinsAt fp s5.heap) σ6 H8 s8 := I8.pins_of fun p hp => I8.pin p (List.mem_append_right _ (List.mem_append_right _ hp))
          have hup := get?_update_seq eD (fun a => a.push v8)
          have I10 := I9.turned (h' := s8.heap.update D (Obj.mapSeq fun a => a.push v8)) (t' := s8.toks) (it := D) (fun b o hb e => (Heap.get?_update_ne _ _ _ _ hb).trans e) nD8 neL (.inr (by show s2.heap.objs.size ≤ D; omega))
            (fun x c e z => by
              obtain ⟨v, oc, hoc, hdc⟩ := I8.cell x c e
              rw [z, eD] at hoc
              cases hoc
              cases hdc) (fun p hp z => by
                have hp' : p ∈ pinsAt fp s5.heap := by simpa using hp
                exact (fpl p.1 (of_pinsAt hp').1).2 z)
          obtain ⟨b1, b2⟩ := back (fun b hb o e => mem_pinsAt hb e) I10
          refine ⟨m', hm, i + 1, ys ++ [y], its ++ [v8], (if ((its.toArray.push v8).size == its.toArray.size) = true then no else no + 1), σ6, H8, I10.pins_of fun p hp => ?_, rv.append (.cons r8 .nil), b1, b2, (by rw [List.length_append]; simp; omega), w8⟩
          obtain rfl := List.mem_singleton.mp hp
          refine ⟨?_, nD8, neL, nf, fun v z => by cases z⟩
          refine hup.trans ?_
          rw [List.push_toArray]
    · have e : p = (D, { cls := .type "list", data := .seq ([] : List Value).toArray }) := by simpa using hp
      subst e
      exact ⟨hacc, fD, hDC, fun z => (stkD D z).1 rfl, fun v z => by cases z⟩
  exact codeAny_compStart_list (lp _ rfl) (T.self _ 0 _ _ _ (T.keep _ _ _ st2 fun b _ o e => old b o e) (lp _ rfl))
/-- a list comprehension of one clause, where nothing raises -/
theorem pe_comp {X : Cx} {tg iter elt : Expr} {ifs : List Expr} {scope : Scope} {pos : Pos} (N' : List Str) (nT : Nat) (js : List Nat) {wi : TI} {g : TG} {tc : TT} {te : TE}
    (hc : X.calm = true) (S : CompSc X.nox scope N' nT js) (hi : PI X.nox tg iter wi)
    (hg : ∀ cl C s₀ H₀ fp, PG (cxComp X.nox N' scope cl C s₀ H₀ fp) tg g) (ht : ∀ cl C s₀ H₀ fp, PTs (cxComp X.nox N' scope cl C s₀ H₀ fp) ifs tc) (he : ∀ cl C s₀ H₀ fp, PE (cxComp X.nox N' scope cl C s₀ H₀ fp) elt te)
    (hs : ∀ x, foldedSetIterable iter X.env x = pure x := by intro _; rfl) :
    PE X.nox (.ListComp elt [⟨tg, iter, ifs, 0⟩] scope pos) (tComp wi nT js g tc te) := by
  intro pins s σ H Q I h
  rw [eval_ListComp]
  obtain ⟨cl, e, l⟩ := closureFor_of (env := X.env) scope.names [] fun x hx => I.ok.has x (.inl (S.kinds _ hx rfl))
  have hclos : closureFor scope X.env = pure cl := by
    unfold closureFor
    show (forIn scope.names [] fun (x : Str × NameKind) (cs : List (Str × Addr)) => (if (x.2 == NameKind.free) = true then (do let a ← cellOf X.env x.1; pure (ForInStep.yield ((x.1, a) :: cs))) else pure (ForInStep.yield cs) : Sem (ForInStep (List (Str × Addr))))) >>= (fun s => pure s) = pure cl
    rw [e, pure_bind]
  refine wpAny_comprehension_free (cl := cl) (use := none) rfl hs hclos S.kind S.names ?_
  refine thn (hi pins s σ H _ I h) fun v s1 h1 => thn h1 fun itv s2 h2 => ?_
  obtain ⟨it, fp, tn, J, H2, rfl, I2, T, st2, f2, W, w0, turn⟩ := h2
  refine comp_core (X := X.nox) (QQ := fun D ys H' => Q (.ref D) (upd H' D (.lst ys))) (RR := fun acc C => compPost (model X.prog X.w) X.A (fun _ _ => False) none (EP X.nox pins σ Q) acc C) hc S (fun x => by rw [l x]; rfl) (hg cl) (ht cl) (he cl) I2 T st2 f2 W w0 turn fun D C s' ys H' m q hn nC _ _ _ fin => ?_
  exact ⟨m, hn, fun h' sb => ⟨.ref D, _, fin h' sb, rfl, q⟩⟩
/-- x = [.. for ..]: the list is stored ahead of the block's own end -/
theorem ps_setC {X : Cx} {tg iter elt : Expr} {ifs : List Expr} {scope : Scope} {cpos pos pos' : Pos} {x : Str} {i : Nat} (N' : List Str) (nT : Nat) (js : List Nat) {wi : TI} {g : TG} {tc : TT} {te : TE}
    (hN : X.nox.N.Nodup) (hix : X.nox.N[i]? = some x) (hx : Loc X.nox.env.scope x)
    (hc : X.calm = true) (S : CompSc X.nox scope N' nT js) (hi : PI X.nox tg iter wi)
    (hg : ∀ cl C s₀ H₀ fp, PG (cxComp X.nox N' scope cl C s₀ H₀ fp) tg g) (ht : ∀ cl C s₀ H₀ fp, PTs (cxComp X.nox N' scope cl C s₀ H₀ fp) ifs tc) (he : ∀ cl C s₀ H₀ fp, PE (cxComp X.nox N' scope cl C s₀ H₀ fp) elt te)
    (hs : ∀ x, foldedSetIterable iter X.env x = pure x := by intro _; rfl) (hsw : swapsWith (.ListComp elt [⟨tg, iter, ifs, 0⟩] scope cpos) (some (.Name x pos')) pos.line X.env = pure true := by rfl)
    (hf : X.nox.fn x = true ∨ X.nox.env.scope.names.lookup x = some .local := by first | exact .inl rfl | exact .inr rfl | assumption) :
    PS X.nox (.Assign [.Name x pos'] (.ListComp elt [⟨tg, iter, ifs, 0⟩] scope cpos) pos) (tAsg (tComp wi nT js g tc te) (gName i)) := by
  intro pins s σ H D0 I h
  have hG : PG X.nox (.Name x pos') (gName i) := pg_name hN hix hx hf
  rw [exec_Assign_Name_used _ _ _ _ hsw]
  obtain ⟨cl, e, l⟩ := closureFor_of (env := X.env) scope.names [] fun x hx => I.ok.has x (.inl (S.kinds _ hx rfl))
  have hclos : closureFor scope X.env = pure cl := by
    unfold closureFor
    show (forIn scope.names [] fun (x : Str × NameKind) (cs : List (Str × Addr)) => (if (x.2 == NameKind.free) = true then (do let a ← cellOf X.env x.1; pure (ForInStep.yield ((x.1, a) :: cs))) else pure (ForInStep.yield cs) : Sem (ForInStep (List (Str × Addr))))) >>= (fun s => pure s) = pure cl
    rw [e, pure_bind]
  refine wpAny_bind (wpAny_standAt (wpAny_bind ?_))
  show wpAny _ X.nox.A (do let _ ← comprehension (.ListComp elt [⟨tg, iter, ifs, 0⟩] scope cpos) scope X.env _ (newList []) false (eval iter X.env) (some (assign (.Name x pos') X.env))) _ _ s
  refine wpAny_bind (wpAny_mono (wpAny_comprehension_free (cl := cl) (use := some (assign (.Name x pos') X.env)) (Q := fun _ s' => SP X.nox pins D0 .next s') rfl hs hclos S.kind S.names ?_) (fun _ s' hq => wpAny_pure (wpAny_pure hq)) fun _ _ e => e)
  refine thn (hi pins s σ H _ I h) fun v s1 h1 => thn h1 fun itv s2 h2 => ?_
  obtain ⟨it, fp, tn, J, H2, rfl, I2, T, st2, f2, W, w0, turn⟩ := h2
  refine comp_core (X := X.nox) (QQ := fun D ys H' => gName i (.ref D) σ (upd H' D (.lst ys)) D0.nx) (RR := fun acc C => compPost (model X.prog X.w) X.A (fun _ _ => False) (some (assign (.Name x pos') X.env)) (fun _ s' => SP X.nox pins D0 .next s') acc C) hc S (fun x => by rw [l x]; rfl) (hg cl) (ht cl) (he cl) I2 T st2 f2 W w0 turn fun D C s' ys H' m q hn nC hC hDC hHC fin => ?_
  show wpAny _ X.A (assign (.Name x pos') X.env (.ref D)) _ _ _
  have I3 : Inv X.nox pins σ (upd H' D (.lst ys)) s' := fin s'.heap ⟨rfl, fun _ _ => rfl⟩
  have hHC' : upd H' D (.lst ys) C = none := by rw [upd_ne (Ne.symm hDC)]; exact hHC
  have fpC : ∀ {H3 : Hp}, H3 C = none → FpOk X.nox pins H3 C := fun h3 => I2.fpOk hC h3
  obtain ⟨oC, es, ep, hoC, rC⟩ := id hn
  have hcell : ∀ v, oC.data ≠ .cell v := fun v z => by
    have := rC
    rw [z] at this
    simp at this
  have I4 := I3.pinned (fp := [C]) (fun b hb => by have z : b = C := by simpa using hb
                                                   subst z; exact fpC hHC') (fun b hb => by have z : b = C := by simpa using hb
                                                                                            subst z; exact ⟨oC, hoC, hcell⟩)
  refine thn (hG _ s' σ _ (.ref D) (.ref D) _ I4 rfl q) fun _ s5 ⟨σ5, H5, I5, q5⟩ => ?_
  have pC := I5.pin (C, oC) (List.mem_append_right _ (List.mem_append_right _ (mem_pinsAt (by simp) hoC)))
  refine ⟨m, ⟨oC, es, ep, pC.1, rC⟩, fun h' sb => ?_⟩
  obtain ⟨f0, f1, f2', f3, f4, f5⟩ := fpC pC.2.1
  exact ⟨σ5, H5, (I5.unpinned).turned (t' := s5.toks) (fun b o hb e => (sb.2 b hb).trans e) f0 f1 f3 f4 f5, q5⟩
/-- over a list that stays, the item's tests and the element by an invariant: ys so far, the block's values, the heap -/
theorem comp_list {K : PySem.W.Frag} {a : Addr} {xs : List V} {g : TG} {tc : TT} {te : TE} {σ : St} {H : Hp} {R : List V → Hp → Addr → Prop} (Pv : Nat → List V → St → Hp → Prop) (h0 : Pv 0 [] σ H) (hl : ∀ i ys σ H, i ≤ xs.length → Pv i ys σ H → SqL K H a xs ∧ ys.length ≤ i) (hz : xs.length ≤ sizeLine)
    (hs : ∀ i x ys σ H, xs[i]? = some x → Pv i ys σ H → g x σ H fun σ2 H2 => tc σ2 H2 fun b H3 => if b = true then te σ2 H3 fun y H4 => Pv (i + 1) (ys ++ [y]) σ2 H4 else Pv (i + 1) ys σ2 H3)
    (hd : ∀ ys σ H, Pv xs.length ys σ H → ∀ D, H D = none → R ys H D) :
    ∃ W : Nat → Nat → List V → St → Hp → Prop, (∃ m, W 0 m [] σ H) ∧ ∀ i m ys σ H, W i m ys σ H →
      ((Itl K a).stop i H ∧ ∀ D, H D = none → R ys H D) ∨
      ((Itl K a).go i H ∧ ys.length < sizeLine ∧ ∃ N : List V → St → Hp → Prop, (∀ ys' σ' H', N ys' σ' H' → ∃ m', m' < m ∧ W (i + 1) m' ys' σ' H') ∧
        ∀ x H', (Itl K a).yld i H x H' → g x σ H' fun σ2 H2 => tc σ2 H2 fun b H3 => if b = true then te σ2 H3 fun y H4 => N (ys ++ [y]) σ2 H4 else N ys σ2 H3) := by
  refine ⟨fun i m ys σ H => m = xs.length - i ∧ i ≤ xs.length ∧ Pv i ys σ H, ⟨xs.length, by simp, Nat.zero_le _, h0⟩, ?_⟩
  rintro i m ys σ H ⟨rfl, hi, p⟩
  have q := hl i ys σ H hi p
  by_cases hlt : i < xs.length
  · refine .inr ⟨⟨xs, xs[i], q.1, by simp [hlt]⟩, (by omega), Pv (i + 1), fun ys' σ' H' p' => ⟨xs.length - (i + 1), by omega, rfl, hlt, p'⟩, fun x H' y => ?_⟩
    obtain ⟨e, y⟩ := y
    subst e
    exact hs i x ys σ _ (y xs q.1) p
  · have e : i = xs.length := by omega
    subst e
    exact .inl ⟨⟨xs, q.1, Nat.le_refl _⟩, hd ys σ H p⟩
theorem comp_range {lo : Int} {n : Nat} {g : TG} {tc : TT} {te : TE} {σ : St} {H : Hp} {R : List V → Hp → Addr → Prop} (Pv : Nat → List V → St → Hp → Prop) (h0 : Pv 0 [] σ H) (hl : ∀ i ys σ H, Pv i ys σ H → ys.length ≤ i) (hz : n ≤ sizeLine)
    (hs : ∀ i ys σ H, i < n → Pv i ys σ H → g (.int (lo + i)) σ H fun σ2 H2 => tc σ2 H2 fun b H3 => if b = true then te σ2 H3 fun y H4 => Pv (i + 1) (ys ++ [y]) σ2 H4 else Pv (i + 1) ys σ2 H3)
    (hd : ∀ ys σ H, Pv n ys σ H → ∀ D, H D = none → R ys H D) :
    ∃ W : Nat → Nat → List V → St → Hp → Prop, (∃ m, W 0 m [] σ H) ∧ ∀ i m ys σ H, W i m ys σ H →
      ((Itr lo n).stop i H ∧ ∀ D, H D = none → R ys H D) ∨
      ((Itr lo n).go i H ∧ ys.length < sizeLine ∧ ∃ N : List V → St → Hp → Prop, (∀ ys' σ' H', N ys' σ' H' → ∃ m', m' < m ∧ W (i + 1) m' ys' σ' H') ∧
        ∀ x H', (Itr lo n).yld i H x H' → g x σ H' fun σ2 H2 => tc σ2 H2 fun b H3 => if b = true then te σ2 H3 fun y H4 => N (ys ++ [y]) σ2 H4 else N ys σ2 H3) := by
  refine ⟨fun i m ys σ H => m = n - i ∧ i ≤ n ∧ Pv i ys σ H, ⟨n, by simp, Nat.zero_le _, h0⟩, ?_⟩
  rintro i m ys σ H ⟨rfl, hi, p⟩
  have q := hl i ys σ H p
  by_cases hlt : i < n
  · refine .inr ⟨hlt, (by omega), Pv (i + 1), fun ys' σ' H' p' => ⟨n - (i + 1), by omega, rfl, hlt, p'⟩, fun x H' y => ?_⟩
    obtain ⟨e, y⟩ := y
    subst e y
    exact hs i ys σ _ hlt p
  · have e : i = n := by omega
    subst e
    exact .inl ⟨Nat.le_refl _, hd ys σ H p⟩
end L2

namespace OS
open PySem PyProof.Rows
section
variable {prog : Program} {w : World} {A : Around} {E : Value → Shared → Prop} {s : Shared}
set_option maxHeartbeats 4000000 in
set_option maxHeartbeats 4000000 in
end
end OS

namespace OS
open PySem PyProof.Rows
section
variable {prog : Program} {w : World} {A : Around} {E : Value → Shared → Prop} {s : Shared}
set_option maxHeartbeats 4000000 in
set_option maxHeartbeats 4000000 in
end
end OS

namespace OS
open PySem PyProof.Rows
section
variable {prog : Program} {w : World} {A : Around} {E : Value → Shared → Prop} {s : Shared}
set_option maxHeartbeats 4000000 in
set_option maxHeartbeats 4000000 in
end
end OS

namespace OS
open PySem PyProof.Rows
section
variable {prog : Program} {w : World} {A : Around} {E : Value → Shared → Prop} {s : Shared}
set_option maxHeartbeats 4000000 in
set_option maxHeartbeats 4000000 in
end
end OS

namespace OS
open PySem PyProof.Rows
section
variable {σ : Type} {α β : Type}
end
set_option maxHeartbeats 4000000 in
section
variable {prog : Program} {w : World} {A : Around} {E : Value → Shared → Prop} {s : Shared} {a : Array Keyed} {pd : Array (Nat × Nat × Nat)} {lo : Nat}
end
end OS

namespace OS
open PySem PyProof.Rows
section
variable {prog : Program} {w : World} {A : Around} {E : Value → Shared → Prop} {s : Shared} {a₀ : Array Keyed}
set_option maxHeartbeats 4000000 in
end
end OS

namespace OS
open PySem PyProof.Rows
section
variable {prog : Program} {w : World} {A : Around} {E : Value → Shared → Prop} {s : Shared}
set_option maxHeartbeats 4000000 in
end
end OS

namespace L2
open PySem PySem.Spec PyProof.Rows
/-! ### lists of tuples of two ints -/
def Tups (H : Hp) : List Addr → List (Int × Int) → Prop := Paired fun p t => H p = some (.tup [.int t.1, .int t.2])
theorem Tups.length {H : Hp} {ps : List Addr} {l : List (Int × Int)} (h : Tups H ps l) : ps.length = l.length := Paired.length h
theorem Tups.keep {H H' : Hp} {ps : List Addr} {l : List (Int × Int)} (h : Tups H ps l) (k : ∀ b xs, H b = some (.tup xs) → H' b = some (.tup xs)) : Tups H' ps l := Paired.mapP h fun p t e => k p _ e
theorem Tups.at : ∀ {H : Hp} {ps : List Addr} {l : List (Int × Int)} {i : Nat} {t : Int × Int}, Tups H ps l → l[i]? = some t → ∃ p, ps[i]? = some p ∧ H p = some (.tup [.int t.1, .int t.2])
  | _, _, _, _, _, .nil, e => by simp at e
  | _, _, _, 0, _, .cons r _, e => by simp at e; subst e; exact ⟨_, rfl, r⟩
  | _, _, _, i + 1, t, .cons _ q, e => by
    obtain ⟨p, h1, h2⟩ := Tups.at (i := i) (t := t) q (by simpa using e)
    exact ⟨p, by simpa using h1, h2⟩
theorem Tups.at' {H : Hp} {ps : List Addr} {l : List (Int × Int)} {i : Nat} {p : Addr} (h : Tups H ps l) (e : ps[i]? = some p) : ∃ t, l[i]? = some t ∧ H p = some (.tup [.int t.1, .int t.2]) := by
  have hi : i < l.length := by
    have := (List.getElem?_eq_some_iff.mp e).1
    have := h.length
    omega
  obtain ⟨q, h1, h2⟩ := h.at (i := i) (t := l[i]) (by simp [hi])
  rw [e] at h1
  cases h1
  exact ⟨l[i], by simp [hi], h2⟩
theorem Tups.append : ∀ {H : Hp} {ps qs : List Addr} {l m : List (Int × Int)}, Tups H ps l → Tups H qs m → Tups H (ps ++ qs) (l ++ m)
  | _, _, _, _, _, .nil, s => s
  | _, _, _, _, _, .cons r t, s => .cons r (Tups.append t s)
theorem Tups.snoc {H : Hp} {ps : List Addr} {l : List (Int × Int)} {p : Addr} {t : Int × Int} (h : Tups H ps l) (e : H p = some (.tup [.int t.1, .int t.2])) : Tups H (ps ++ [p]) (l ++ [t]) := Tups.append h (.cons e .nil)
theorem Tups.take : ∀ {H : Hp} {ps : List Addr} {l : List (Int × Int)} (n : Nat), Tups H ps l → Tups H (ps.take n) (l.take n)
  | _, _, _, 0, _ => .nil
  | _, _, _, _ + 1, .nil => .nil
  | _, _, _, n + 1, .cons r t => .cons r (Tups.take n t)
theorem Tups.drop : ∀ {H : Hp} {ps : List Addr} {l : List (Int × Int)} (n : Nat), Tups H ps l → Tups H (ps.drop n) (l.drop n)
  | _, _, _, 0, r => r
  | _, _, _, _ + 1, .nil => .nil
  | _, _, _, n + 1, .cons _ t => Tups.drop n t
/-- a list of such tuples stands at a -/
def TL (K : PySem.W.Frag) (H : Hp) (a : Addr) (l : List (Int × Int)) : Prop := ∃ ps : List Addr, SqL K H a (ps.map V.ref) ∧ Tups H ps l
/-- .. tracked -/
def TLo (H : Hp) (a : Addr) (l : List (Int × Int)) : Prop := ∃ ps : List Addr, H a = some (.lst (ps.map V.ref)) ∧ Tups H ps l
theorem TLo.tl {K : PySem.W.Frag} {H : Hp} {a : Addr} {l : List (Int × Int)} (h : TLo H a l) : TL K H a l := let ⟨ps, h1, h2⟩ := h; ⟨ps, .of h1, h2⟩
theorem TLo.keep {H H' : Hp} {a : Addr} {l : List (Int × Int)} (h : TLo H a l) (k : Same H H') : TLo H' a l := let ⟨ps, h1, h2⟩ := h; ⟨ps, k _ _ h1, h2.keep fun b xs e => k b _ e⟩
theorem Same.upd {p : Addr} {H : Hp} {o : HO} (h : H p = none) : Same H (upd H p o) := fun c o' e => by rw [upd_ne (ne_of_none e h)]; exact e
/-! ### == and != -/
section
variable {X : Cx} {pins : List (Addr × Obj)} {σ : St} {H : Hp} {s : Shared}
end
section
variable {X : Cx}
/-! ### sorted(d), d a dict of ints -/
end
end L2

namespace L2
open PySem PySem.Spec PyProof.Rows
theorem bits_of_weight : ∀ (ns : List Int), PySem.W.WData.weightAll (ns.map PySem.W.WData.int) ≤ 2 ^ 20 → ∀ n ∈ ns, Builtin.Int.intBits n ≤ 2 ^ 20
  | [], _, _, h => by simp at h
  | m :: r, hw, n, hn => by
    have e : PySem.W.WData.weightAll ((m :: r).map PySem.W.WData.int) = PySem.W.WData.weight (.int m) + 1 + PySem.W.WData.weightAll (r.map PySem.W.WData.int) := rfl
    rw [e] at hw
    rcases List.mem_cons.mp hn with z | z
    · subst z
      have e2 : PySem.W.WData.weight (.int n) = if n == 0 then 0 else n.natAbs.log2 + 1 := rfl
      rw [e2] at hw
      unfold Builtin.Int.intBits
      split at hw <;> split <;> simp_all <;> omega
    · exact bits_of_weight r (by omega) n z
/-- as walk_of, and the script's ints have at most 2 ^ 20 bits -/
theorem walk_ofB {l : PySem.W.OpenLaw} {n k : Nat} {q : Program} {loose : List Str} {XP : (Str → Option Value) → Heap → Prop} {YP : World → Heap → Prop} {d : DefRec} {K : Params → PySem.W.Frag} {CX : World → CXT} {sp : World → Sp} {x : Str}
    (hn : l.most = some n) (hn2 : n ≤ sizeLine) (hdf : d.params.defaults = []) (hr : Room k callerA)
    (hY : ∀ (w : World) (h : Heap), YP w h → (K w.params).In h)
    (F : ∀ (w : World) (mg : Str → Option Value) (fa : Addr) (h : Heap), (K w.params).In h → h.Ns mainGlobals mg → mg d.name = some (.ref fa) →
      ∃ fd : FuncData, (∀ (s : Shared) (u : Value), BindsTo s fd ⟨[u], []⟩ [(x, u)]) ∧
        ∀ base : Heap, (K w.params).In base → base.Ns mainGlobals mg → FnOk l.prog w (K w.params) mg base (CX w) k fa fd [x] (sp w))
    (hsp : ∀ (w : World) (H : Hp) (a : Addr) (ns : List Int), ns.length ≤ n → (∀ z ∈ ns, Builtin.Int.intBits z ≤ 2 ^ 20) → Only H → SqL (K w.params) H a (ns.map V.int) → sp w [.ref a] H (fun v _ => v = .bl true) fun _ _ _ => False)
    (hCX : ∀ (w : World) (H : Hp) (s : Shared) (e : Value) (s' : Shared), CX w [] H s (fun _ _ _ => False) e s' → False) :
    PySem.W.WalkO q loose XP YP l.row.toRowW d [] (fun f vs => PySem.call f vs) := by
  intro w s₀ s₁ mg mb G Y fa o pm cd doc dV kV ho hd hcd hD hmg hg args vals as hpre hlay hrd hwl hlo
  obtain rfl : dV = .none := PySem.W.Dflts.none hD hdf
  obtain rfl : kV = .none := PySem.W.Dflts.noKw hD
  obtain ⟨a, vs, ns, rfl, rfl, hobj, hints, hlen⟩ := Att.script_of hn hpre hwl
  have hbits : ∀ z ∈ ns, Builtin.Int.intBits z ≤ 2 ^ 20 := by
    have h1 : (PySem.W.WData.list (ns.map PySem.W.WData.int)).layable = true := List.all_eq_true.mp hlay _ (by simp)
    have h2 := of_decide_eq_true (Bool.and_eq_true_iff.mp h1).2
    exact bits_of_weight ns h2
  have KX := hY w _ Y
  obtain ⟨fd, hb, hF⟩ := F w mg fa _ KX G.T.g hmg
  refine PySem.W.enter_call (codeAny_mono (law_call KX G.T.g G.T.b G.T.builtins G.T.nolimit hg hobj hints (Nat.le_trans hlen hn2) hr hF hb (fun H hO hS => hsp w H a ns hlen hbits hO hS) fun H e s' => hCX w H s₁ e s') fun r s' hq => ?_)
  obtain ⟨rfl, h2, h3, h4⟩ := hq
  exact ⟨.inl ⟨.bool true, .bool true, [], rfl, fun _ => rfl, .bool true, Att.post_true l _, fun _ => ⟨List.Pairwise.nil, fun _ hm => (nomatch hm)⟩⟩, h2, h3, h4⟩
/-! ### a dict of ints -/
def encP (p : Int × Int) : Key × V := (Sum.inl p.1, V.int p.2)
theorem valV_enc (k : Int) : ∀ d : OF.Terms, valV (d.map encP) (Sum.inl k) = (OF.look d k).map V.int
  | [] => rfl
  | p :: r => by
    rw [List.map_cons, OF.look]
    by_cases e : p.1 = k
    · rw [valV_pos (show (encP p).1 = Sum.inl k by simp [encP, e]), if_pos e]; rfl
    · rw [valV_neg (show ¬ (encP p).1 = Sum.inl k by simp [encP, e]), if_neg e]
      exact valV_enc k r
theorem putK_enc (d : OF.Terms) (k v : Int) : putK (d.map encP) (Sum.inl k : Key) (V.int v) = (OF.putI d k v).map encP := by
  unfold putK OF.putI
  rw [valV_any, valV_enc, OF.look_any, Option.isSome_map]
  split
  · rw [List.map_map, List.map_map]
    congr 1
    funext p
    simp only [Function.comp, encP]
    by_cases e : p.1 = k
    · simp [e]
    · simp [e]
  · rw [List.map_append]; rfl
theorem keys_enc (d : OF.Terms) : (d.map encP).map (·.1) = (d.map (·.1)).map Sum.inl := by
  rw [List.map_map, List.map_map]; rfl
/-! ### a tuple put to the end of a list -/
theorem push_tup {H : Hp} {a t : Addr} {ps : List Addr} {l : OF.Terms} {x y : Int} (ha : H a = some (.lst (ps.map V.ref))) (ht : Tups H ps l) (hn : H t = none) :
    TLo (upd (upd H t (.tup [.int x, .int y])) a (.lst (ps.map V.ref ++ [V.ref t]))) a (l ++ [(x, y)]) ∧ ∀ b o, H b = some o → b ≠ a → upd (upd H t (.tup [.int x, .int y])) a (.lst (ps.map V.ref ++ [V.ref t])) b = some o := by
  have hta : t ≠ a := (ne_of_none ha hn).symm
  refine ⟨⟨ps ++ [t], by rw [upd_same, List.map_append]; rfl, Tups.snoc (ht.keep fun b xs e => ?_) (by rw [upd_ne hta, upd_same])⟩, fun b o e hb => ?_⟩
  · rw [upd_ne (ne_of e ha (by intro z; cases z)), upd_ne (ne_of_none e hn)]; exact e
  · rw [upd_ne hb, upd_ne (ne_of_none e hn)]; exact e
end L2

namespace OF
open PySem
end OF
namespace L2
open PySem PySem.Spec PyProof.Rows
theorem kit_same {K : PySem.W.Frag} {t : Value} : PySem.W.kitOne K t t = some true := by
  unfold PySem.W.kitOne
  rw [beq_self_eq_true]
  rfl
theorem kit_int_bool {K : PySem.W.Frag} : PySem.W.kitOne K (.type "int") (.type "bool") = some false := by
  unfold PySem.W.kitOne
  rw [if_neg (by decide +kernel)]
  show (if PySem.W.kitMeta "bool" = true then (fastBuiltinMro "int").map (·.contains (Value.type "bool")) else none) = some false
  decide +kernel
theorem iteN {c A B : Prop} [Decidable c] (h : ¬ c) (b : B) : if c then A else B := by rw [if_neg h]; exact b
theorem iteY {c A B : Prop} [Decidable c] (h : c) (a : A) : if c then A else B := by rw [if_pos h]; exact a
theorem CompSc.of {X : Cx} {scope : Scope} {N' : List Str} {nT : Nat} {js : List Nat} (sc₀ : Scope) (N₀ : List Str) (h1 : X.env.scope = sc₀) (h2 : X.N = N₀) (hk : scope.kind = .function)
    (hall : (scope.names.all fun y => y.2 != .cell && (y.2 != .local || scope.names.lookup y.1 == some .local) && (y.2 != .free || sc₀.names.lookup y.1 == some .cell)) = true)
    (hlen : N'.length = nT + js.length) (hf : (js.map fun j => N₀[j]?) = (N'.drop nT).map some) (hv : ((N'.drop nT).all fun x => scope.names.lookup x == some .free) = true) : CompSc X scope N' nT js := by
  have hall' := List.all_eq_true.mp hall
  refine ⟨hk, fun y hy e => ?_, fun y hy e => ?_, hlen, fun k j x e1 e2 => ?_, fun y hy e => ?_, fun x hx => ?_⟩
  · have := hall' y hy; rw [e] at this; simp at this
  · have := hall' y hy; rw [e] at this; simp at this; exact this
  · have e3 : (js.map fun j => N₀[j]?)[k]? = some (N₀[j]?) := by rw [List.getElem?_map, e1]; rfl
    rw [hf, List.getElem?_map, List.getElem?_drop, e2] at e3
    rw [h2]
    exact (Option.some.inj e3).symm
  · have := hall' y hy; rw [e] at this; simp at this; rw [h1]; exact this
  · have := List.all_eq_true.mp hv x hx; simpa using this
end L2

namespace L2
open PySem PySem.Spec PyProof.Rows
section
variable {X : Cx} {e st : Expr} {te : TE} {to : TO} {p2 pos : Pos}
end
end L2
namespace OF
theorem nodup_sub_len : ∀ {l B : List Int}, l.Nodup → (∀ x ∈ l, x ∈ B) → l.length ≤ B.length
  | [], _, _, _ => Nat.zero_le _
  | a :: r, B, hn, hs => by
    have h1 := List.nodup_cons.mp hn
    have ha := hs a (by simp)
    have h2 : r.length ≤ (B.erase a).length := nodup_sub_len h1.2 fun x hx => by
      have hne : x ≠ a := fun z => h1.1 (z ▸ hx)
      exact (List.mem_erase_of_ne hne).mpr (hs x (by simp [hx]))
    have h3 := List.length_erase_of_mem ha
    have h4 : 0 < B.length := List.length_pos_of_mem ha
    rw [List.length_cons]
    omega
end OF

namespace L2
open PySem PySem.Spec PyProof.Rows
/-- data: what a value is, its parts told -/
inductive D where
  | non | bl (b : Bool) | int (n : Int) | str (x : Str) | tup (ds : List D) | lst (ds : List D)
mutual
def Is (H : Hp) : V → D → Prop
  | v, .non => v = .non
  | v, .bl b => v = .bl b
  | v, .int n => v = .int n
  | v, .str x => v = .str x
  | v, .tup ds => ∃ a xs, v = .ref a ∧ H a = some (.tup xs) ∧ IsDs H xs ds
  | v, .lst ds => ∃ a xs, v = .ref a ∧ H a = some (.lst xs) ∧ IsDs H xs ds
def IsDs (H : Hp) : List V → List D → Prop
  | xs, [] => xs = []
  | xs, d :: ds => ∃ x r, xs = x :: r ∧ Is H x d ∧ IsDs H r ds
end
theorem IsDs.length {H : Hp} : ∀ {xs : List V} {ds : List D}, IsDs H xs ds → xs.length = ds.length
  | xs, [], h => by unfold IsDs at h; rw [h]; rfl
  | xs, d :: ds, h => by
    unfold IsDs at h
    obtain ⟨x, r, rfl, _, h2⟩ := h
    rw [List.length_cons, List.length_cons, IsDs.length h2]
theorem IsDs.at {H : Hp} : ∀ {xs : List V} {ds : List D} {i : Nat} {d : D}, IsDs H xs ds → ds[i]? = some d → ∃ x, xs[i]? = some x ∧ Is H x d
  | xs, [], i, d, h, e => by simp at e
  | xs, d' :: ds, 0, d, h, e => by
    unfold IsDs at h
    obtain ⟨x, r, rfl, h1, h2⟩ := h
    have : d' = d := by simpa using e
    subst this
    exact ⟨x, rfl, h1⟩
  | xs, d' :: ds, i + 1, d, h, e => by
    unfold IsDs at h
    obtain ⟨x, r, rfl, h1, h2⟩ := h
    obtain ⟨x', e1, e2⟩ := IsDs.at (i := i) (d := d) h2 (by simpa using e)
    exact ⟨x', by simpa using e1, e2⟩
/-- Python's == -/
def b2i (b : Bool) : Int := if b then 1 else 0
mutual
def deq : D → D → Bool
  | .non, .non => true
  | .bl a, .bl b => a == b
  | .bl a, .int n => b2i a == n
  | .int n, .bl a => n == b2i a
  | .int n, .int m => n == m
  | .str x, .str y => x == y
  | .tup ds, .tup es => deqL ds es
  | .lst ds, .lst es => deqL ds es
  | _, _ => false
def deqL : List D → List D → Bool
  | [], [] => true
  | d :: ds, e :: es => deq d e && deqL ds es
  | _, _ => false
end
mutual
def dep : D → Nat
  | .tup ds => depL ds + 1
  | .lst ds => depL ds + 1
  | _ => 0
def depL : List D → Nat
  | [] => 0
  | d :: ds => max (dep d) (depL ds)
end
theorem depL_mem : ∀ {ds : List D} {j : Nat} {d : D}, ds[j]? = some d → dep d ≤ depL ds
  | [], j, d, e => by simp at e
  | d' :: ds, 0, d, e => by
    have : d' = d := by simpa using e
    subst this
    unfold depL; omega
  | d' :: ds, j + 1, d, e => by
    have := depL_mem (ds := ds) (j := j) (d := d) (by simpa using e)
    rw [depL]; omega
theorem deq_tup (ds es : List D) : deq (.tup ds) (.tup es) = deqL ds es := rfl
theorem deq_lst (ds es : List D) : deq (.lst ds) (.lst es) = deqL ds es := rfl
theorem deqL_cons (d e : D) (ds es : List D) : deqL (d :: ds) (e :: es) = (deq d e && deqL ds es) := rfl
def eqJ (ds es : List D) (j : Nat) : Bool := match ds[j]?, es[j]? with
  | some d, some e => deq d e
  | _, _ => false
theorem deqL_all : ∀ (ds es : List D), deqL ds es = ((List.range (min ds.length es.length)).all (eqJ ds es) && (ds.length == es.length))
  | [], [] => rfl
  | [], e :: es => by show false = _; simp
  | d :: ds, [] => by show false = _; simp
  | d :: ds, e :: es => by
    have ih := deqL_all ds es
    rw [deqL_cons, ih, List.length_cons, List.length_cons, Nat.add_min_add_right, List.range_succ_eq_map, List.all_cons, List.all_map]
    have e1 : eqJ (d :: ds) (e :: es) 0 = deq d e := rfl
    have e2 : (eqJ (d :: ds) (e :: es)) ∘ Nat.succ = eqJ ds es := by funext j; rfl
    rw [e1, e2, Bool.and_assoc]
    congr 2
    simp
theorem deqL_len {ds es : List D} (h : ds.length ≠ es.length) : deqL ds es = false := by
  rw [deqL_all]
  have : (ds.length == es.length) = false := by simpa using h
  rw [this, Bool.and_false]
mutual
theorem deq_self : ∀ d : D, deq d d = true
  | .non => rfl
  | .bl b => by show (b == b) = true; simp
  | .int n => by show (n == n) = true; simp
  | .str x => by show (x == x) = true; simp
  | .tup ds => deqL_self ds
  | .lst ds => deqL_self ds
theorem deqL_self : ∀ ds : List D, deqL ds ds = true
  | [] => rfl
  | d :: ds => by rw [deqL_cons, deq_self d, deqL_self ds]; rfl
end
mutual
theorem Is.inj {H : Hp} : ∀ {v : V} {d e : D}, Is H v d → Is H v e → d = e
  | v, .non, e, h, h' => by
    unfold Is at h; subst h
    cases e <;> unfold Is at h' <;> first | rfl | (cases h'; done) | (obtain ⟨_, _, z, _⟩ := h'; cases z)
  | v, .bl b, e, h, h' => by
    unfold Is at h; subst h
    cases e <;> unfold Is at h' <;> first | (cases h'; rfl) | (cases h'; done) | (obtain ⟨_, _, z, _⟩ := h'; cases z)
  | v, .int n, e, h, h' => by
    unfold Is at h; subst h
    cases e <;> unfold Is at h' <;> first | (cases h'; rfl) | (cases h'; done) | (obtain ⟨_, _, z, _⟩ := h'; cases z)
  | v, .str x, e, h, h' => by
    unfold Is at h; subst h
    cases e <;> unfold Is at h' <;> first | (cases h'; rfl) | (cases h'; done) | (obtain ⟨_, _, z, _⟩ := h'; cases z)
  | v, .tup ds, e, h, h' => by
    unfold Is at h
    obtain ⟨a, xs, rfl, h1, h2⟩ := h
    cases e with
    | tup es =>
      unfold Is at h'
      obtain ⟨b, ys, z, g1, g2⟩ := h'
      cases z
      rw [h1] at g1
      cases g1
      rw [IsDs.inj h2 g2]
    | lst es =>
      unfold Is at h'
      obtain ⟨b, ys, z, g1, g2⟩ := h'
      cases z
      rw [h1] at g1
      cases g1
    | _ => unfold Is at h'; cases h'
  | v, .lst ds, e, h, h' => by
    unfold Is at h
    obtain ⟨a, xs, rfl, h1, h2⟩ := h
    cases e with
    | lst es =>
      unfold Is at h'
      obtain ⟨b, ys, z, g1, g2⟩ := h'
      cases z
      rw [h1] at g1
      cases g1
      rw [IsDs.inj h2 g2]
    | tup es =>
      unfold Is at h'
      obtain ⟨b, ys, z, g1, g2⟩ := h'
      cases z
      rw [h1] at g1
      cases g1
    | _ => unfold Is at h'; cases h'
theorem IsDs.inj {H : Hp} : ∀ {xs : List V} {ds es : List D}, IsDs H xs ds → IsDs H xs es → ds = es
  | xs, [], es, h, h' => by
    unfold IsDs at h
    subst h
    cases es with
    | nil => rfl
    | cons e es => unfold IsDs at h'; obtain ⟨_, _, z, _⟩ := h'; cases z
  | xs, d :: ds, es, h, h' => by
    unfold IsDs at h
    obtain ⟨x, r, rfl, h1, h2⟩ := h
    cases es with
    | nil => unfold IsDs at h'; cases h'
    | cons e es =>
      unfold IsDs at h'
      obtain ⟨x', r', z, g1, g2⟩ := h'
      cases z
      rw [Is.inj h1 g1, IsDs.inj h2 g2]
end
section
variable {X : Cx} {pins : List (Addr × Obj)} {σ : St} {H : Hp} {s : Shared}
structure CmpAt (A : Around) (s : Shared) (u w : Value) (b : Bool) : Prop where
  rc : SeqAt.RcAt A s u w b
  ne : SeqAt.RcNeAt A s u w (!b)
theorem its_at {xs : List V} {its : List Value} {ds : List D} (r : Vals xs its) (h : IsDs H xs ds) {j : Nat} (hj : j < its.toArray.size) : ∃ d x, ds[j]? = some d ∧ Is H x d ∧ RelV x its.toArray[j] := by
  have hj' : j < its.length := by simpa using hj
  have l1 := r.length
  have l2 := h.length
  have ed : ds[j]? = some ds[j] := by simp [show j < ds.length by omega]
  obtain ⟨x, ex, hx⟩ := h.at ed
  obtain ⟨u, eu, ru⟩ := r.get ex
  refine ⟨_, x, ed, hx, ?_⟩
  rw [List.getElem?_eq_getElem hj'] at eu
  have : its.toArray[j] = u := by simpa using Option.some.inj eu
  rw [this]; exact ru
inductive Kd (s : Shared) (H : Hp) : Value → D → Prop where
  | none : Kd s H .none .non
  | bool (b : Bool) : Kd s H (.bool b) (.bl b)
  | int (n : Int) (t : Tok) : Kd s H (.int n t) (.int n)
  | str (x : Str) (t : Tok) : Kd s H (.str x t) (.str x)
  | tuple {a : Addr} {xs : List V} {its : List Value} {ds : List D} (h : H a = some (.tup xs)) (r : Vals xs its) (p : s.heap.IsTuple a its.toArray) (q : IsDs H xs ds) : Kd s H (.ref a) (.tup ds)
  | list {a : Addr} {xs : List V} {its : List Value} {ds : List D} (h : H a = some (.lst xs)) (r : Vals xs its) (p : s.heap.IsList a its.toArray) (q : IsDs H xs ds) : Kd s H (.ref a) (.lst ds)
theorem kd_of (I : Inv X pins σ H s) {v : V} {u : Value} {d : D} (h : Is H v d) (r : RelV v u) : Kd s H u d := by
  cases d with
  | non => unfold Is at h; subst h; cases (show u = Value.none from r); exact .none
  | bl b => unfold Is at h; subst h; cases (show u = Value.bool b from r); exact .bool b
  | int n => unfold Is at h; subst h; obtain ⟨t, e⟩ := (show ∃ t, u = Value.int n t from r); cases e; exact .int n t
  | str x => unfold Is at h; subst h; obtain ⟨t, e⟩ := (show ∃ t, u = Value.str x t from r); cases e; exact .str x t
  | tup ds =>
    unfold Is at h
    obtain ⟨a, xs, rfl, h1, h2⟩ := h
    cases (show u = Value.ref a from r)
    obtain ⟨_, its, r1, t1⟩ := (show ObjOk X.prog X.w H s.heap a (.tup xs) from I.hok a _ h1)
    exact .tuple h1 r1 t1 h2
  | lst ds =>
    unfold Is at h
    obtain ⟨a, xs, rfl, h1, h2⟩ := h
    cases (show u = Value.ref a from r)
    obtain ⟨its, r1, p1, _⟩ := I.list (SqL.of (K := X.K) h1)
    exact .list h1 r1 p1.isList h2
def Sc : D → Prop
  | .tup _ => False
  | .lst _ => False
  | _ => True
set_option maxHeartbeats 4000000 in
theorem scalD {A : Around} {u u' : Value} {d e : D} (hu : A.units < cLine) (k1 : Kd s H u d) (hs : Sc d) (k2 : Kd s H u' e) : CmpAt A s u u' (deq d e) ∧ SeqAt.EqAt A s u u' (deq d e) := by
  cases k1 with
  | tuple => exact hs.elim
  | list => exact hs.elim
  | none  =>
    cases k2 with
    | none  => exact ⟨⟨.none_none , .none_none ⟩, SeqAt.EqAt.same _⟩
    | bool c => exact ⟨⟨.none_bool c, .none_bool c⟩, .none_bool c⟩
    | int k v => exact ⟨⟨.none_int k v, .none_int k v⟩, .none_int k v⟩
    | str y v => exact ⟨⟨.none_str y v, .none_str y v⟩, .none_str y v⟩
    | list h r p q => exact ⟨⟨.none_list  p hu, .none_list  p hu⟩, .none_list  p hu⟩
    | tuple h r p q => exact ⟨⟨.none_tuple  p hu, .none_tuple  p hu⟩, .none_tuple  p hu⟩
  | bool b =>
    cases k2 with
    | none  => exact ⟨⟨.bool_none b, .bool_none b⟩, .bool_none b⟩
    | bool c => exact ⟨⟨.bool_bool b c, .bool_bool b c⟩, .bool_bool b c⟩
    | int k v => exact ⟨⟨.bool_int b k v, .bool_int b k v⟩, .bool_int b k v⟩
    | str y v => exact ⟨⟨.bool_str b y v, .bool_str b y v⟩, .bool_str b y v⟩
    | list h r p q => exact ⟨⟨.bool_list b p hu, .bool_list b p hu⟩, .bool_list b p hu⟩
    | tuple h r p q => exact ⟨⟨.bool_tuple b p hu, .bool_tuple b p hu⟩, .bool_tuple b p hu⟩
  | int m t =>
    cases k2 with
    | none  => exact ⟨⟨.int_none m t, .int_none m t⟩, .int_none m t⟩
    | bool c => exact ⟨⟨.int_bool m t c, .int_bool m t c⟩, .int_bool m t c⟩
    | int k v => exact ⟨⟨.int_int m t k v, .int_int m t k v⟩, .int_int m t k v⟩
    | str y v => exact ⟨⟨.int_str m t y v, .int_str m t y v⟩, .int_str m t y v⟩
    | list h r p q => exact ⟨⟨.int_list m t p hu, .int_list m t p hu⟩, .int_list m t p hu⟩
    | tuple h r p q => exact ⟨⟨.int_tuple m t p hu, .int_tuple m t p hu⟩, .int_tuple m t p hu⟩
  | str x t =>
    cases k2 with
    | none  => exact ⟨⟨.str_none x t, .str_none x t⟩, .str_none x t⟩
    | bool c => exact ⟨⟨.str_bool x t c, .str_bool x t c⟩, .str_bool x t c⟩
    | int k v => exact ⟨⟨.str_int x t k v, .str_int x t k v⟩, .str_int x t k v⟩
    | str y v => exact ⟨⟨.str_str x t y v, .str_str x t y v⟩, .str_str x t y v⟩
    | list h r p q => exact ⟨⟨.str_list x t p hu, .str_list x t p hu⟩, .str_list x t p hu⟩
    | tuple h r p q => exact ⟨⟨.str_tuple x t p hu, .str_tuple x t p hu⟩, .str_tuple x t p hu⟩
set_option maxHeartbeats 4000000 in
theorem cmp_at (I : Inv X pins σ H s) : ∀ (n : Nat) (d e : D) (A : Around) {u u' : Value}, dep d ≤ n → A.units + n < cLine → Kd s H u d → Kd s H u' e → CmpAt A s u u' (deq d e) ∧ SeqAt.EqAt A s u u' (deq d e) := by
  intro n
  induction n with
  | zero => 
    intro d e A u u' hd hu k1 k2
    cases k1 with
    | tuple => unfold dep at hd; omega
    | list => unfold dep at hd; omega
    | none => exact scalD (by omega) .none trivial k2
    | bool b => exact scalD (by omega) (.bool b) trivial k2
    | int m t => exact scalD (by omega) (.int m t) trivial k2
    | str y t => exact scalD (by omega) (.str y t) trivial k2
  | succ n ih =>
    intro d e A u u' hd hu k1 k2
    have hu0 : A.units < cLine := by omega
    have hu1 : A.in1.units + n < cLine := by show A.units + 1 + n < cLine; omega
    cases k1 with
    | @tuple a xs its ds h1 r1 p1 q1 =>
      cases k2 with
      | @tuple b ys its2 es h2 r2 p2 q2 =>
        have hdd : depL ds ≤ n := by unfold dep at hd; omega
        have n1 : its.length = ds.length := by have := r1.length; have := q1.length; omega
        have n2 : its2.length = es.length := by have := r2.length; have := q2.length; omega
        have he : ∀ j (g1 : j < its.toArray.size) (g2 : j < its2.toArray.size), SeqAt.EqAt A.in1 s its.toArray[j] its2.toArray[j] (eqJ ds es j) := fun j g1 g2 => by
          obtain ⟨d1, x1, e1, i1, v1⟩ := its_at r1 q1 g1
          obtain ⟨d2, x2, e2, i2, v2⟩ := its_at r2 q2 g2
          have e3 : eqJ ds es j = deq d1 d2 := by unfold eqJ; rw [e1, e2]
          rw [e3]
          exact (ih d1 d2 A.in1 (Nat.le_trans (depL_mem e1) hdd) hu1 (kd_of I i1 v1) (kd_of I i2 v2)).2
        have ev : ((List.range (min its.toArray.size its2.toArray.size)).all (eqJ ds es) && (its.toArray.size == its2.toArray.size)) = deq (.tup ds) (.tup es) := by
          rw [List.size_toArray, List.size_toArray, n1, n2, deq_tup, deqL_all]
        have R1 := SeqAt.RcAt.tuples p1 p2 hu0 he
        have R2 := SeqAt.RcNeAt.tuples p1 p2 hu0 he
        rw [ev] at R1 R2
        refine ⟨⟨R1, R2⟩, ?_⟩
        by_cases hab : a = b
        · subst hab
          rw [h1] at h2
          cases h2
          rw [IsDs.inj q1 q2, deq_self]
          exact SeqAt.EqAt.same _
        · exact SeqAt.EqAt.of_refs hab R1
      | @list b ys its2 es h2 r2 p2 q2 => exact ⟨⟨.tuple_list p1 p2 hu0, .tuple_list p1 p2 hu0⟩, .tuple_list p1 p2 hu0⟩
      | none => exact ⟨⟨.tuple_none p1 hu0, .tuple_none p1 hu0⟩, .tuple_none p1 hu0⟩
      | bool b => exact ⟨⟨.tuple_bool b p1 hu0, .tuple_bool b p1 hu0⟩, .tuple_bool b p1 hu0⟩
      | int m t => exact ⟨⟨.tuple_int m t p1 hu0, .tuple_int m t p1 hu0⟩, .tuple_int m t p1 hu0⟩
      | str y t => exact ⟨⟨.tuple_str y t p1 hu0, .tuple_str y t p1 hu0⟩, .tuple_str y t p1 hu0⟩
    | @list a xs its ds h1 r1 p1 q1 =>
      cases k2 with
      | @list b ys its2 es h2 r2 p2 q2 =>
        have hdd : depL ds ≤ n := by unfold dep at hd; omega
        have n1 : its.length = ds.length := by have := r1.length; have := q1.length; omega
        have n2 : its2.length = es.length := by have := r2.length; have := q2.length; omega
        have R : CmpAt A s (.ref a) (.ref b) (deq (.lst ds) (.lst es)) := by
          by_cases hn : ds.length = es.length
          · have he : ∀ j (g1 : j < its.toArray.size) (g2 : j < its2.toArray.size), SeqAt.EqAt A.in1 s its.toArray[j] its2.toArray[j] (eqJ ds es j) := fun j g1 g2 => by
              obtain ⟨d1, x1, e1, i1, v1⟩ := its_at r1 q1 g1
              obtain ⟨d2, x2, e2, i2, v2⟩ := its_at r2 q2 g2
              have e3 : eqJ ds es j = deq d1 d2 := by unfold eqJ; rw [e1, e2]
              rw [e3]
              exact (ih d1 d2 A.in1 (Nat.le_trans (depL_mem e1) hdd) hu1 (kd_of I i1 v1) (kd_of I i2 v2)).2
            have hsz : its.toArray.size = its2.toArray.size := by simp; omega
            have ev : (List.range its.toArray.size).all (eqJ ds es) = deq (.lst ds) (.lst es) := by
              rw [List.size_toArray, n1, deq_lst, deqL_all, hn, Nat.min_self]; simp
            have R1 := SeqAt.RcAt.lists p1 p2 hsz hu0 he
            have R2 := SeqAt.RcNeAt.lists p1 p2 hsz hu0 he
            rw [ev] at R1 R2
            exact ⟨R1, R2⟩
          · have hsz : (its.toArray.size != its2.toArray.size) = true := by simp; omega
            rw [deq_lst, deqL_len hn]
            exact ⟨SeqAt.RcAt.lists_lengths p1 p2 hsz hu0, SeqAt.RcNeAt.lists_lengths p1 p2 hsz hu0⟩
        refine ⟨R, ?_⟩
        by_cases hab : a = b
        · subst hab
          rw [h1] at h2
          cases h2
          rw [IsDs.inj q1 q2, deq_self]
          exact SeqAt.EqAt.same _
        · exact SeqAt.EqAt.of_refs hab R.rc
      | @tuple b ys its2 es h2 r2 p2 q2 => exact ⟨⟨.list_tuple p1 p2 hu0, .list_tuple p1 p2 hu0⟩, .list_tuple p1 p2 hu0⟩
      | none => exact ⟨⟨.list_none p1 hu0, .list_none p1 hu0⟩, .list_none p1 hu0⟩
      | bool b => exact ⟨⟨.list_bool b p1 hu0, .list_bool b p1 hu0⟩, .list_bool b p1 hu0⟩
      | int m t => exact ⟨⟨.list_int m t p1 hu0, .list_int m t p1 hu0⟩, .list_int m t p1 hu0⟩
      | str y t => exact ⟨⟨.list_str y t p1 hu0, .list_str y t p1 hu0⟩, .list_str y t p1 hu0⟩
    | none => exact scalD hu0 .none trivial k2
    | bool b => exact scalD hu0 (.bool b) trivial k2
    | int m t => exact scalD hu0 (.int m t) trivial k2
    | str y t => exact scalD hu0 (.str y t) trivial k2
/-- two data compared -/
def rEqD (f : Bool → Bool) : R2 := fun x y H Q => ∃ d e, Is H x d ∧ Is H y e ∧ dep d ≤ 60 ∧ Q (.bl (f (deq d e))) H
theorem op_neD (hu : X.A.units + 60 < cLine) : OpR X (compareOp .NotEq) (rEqD not) := by
  intro pins s σ H x y v u Q I rx ry h
  obtain ⟨d, e, h1, h2, h3, q⟩ := h
  exact (cmp_at I 60 d e X.A h3 hu (kd_of I h1 rx) (kd_of I h2 ry)).1.ne _ _ _ _ ⟨.bl (!(deq d e)), H, I, rfl, q⟩
theorem hu60 {A : Around} {k : Nat} (hr : Room k A) : A.units + 60 < cLine := Nat.lt_of_le_of_lt (Nat.add_le_add_left (by decide : 60 ≤ 64) _) hr.units
end
end L2

namespace L2
open PySem PySem.Spec PyProof.Rows
section
variable {X : Cx} {st : Stmt} {sts : List Stmt} {t : TS} {e : Expr} {te : TE}
/-- a statement by what holds behind it -/
def tCut (t : TS) : TS := fun D σ H => ∃ M : St → Hp → Prop, t { D with nx := M } σ H ∧ ∀ σ' H', M σ' H' → D.nx σ' H'
theorem ps_cut (h : PS X st t) : PS X st (tCut t) := by
  rintro pins s σ H D I ⟨M, q, w⟩
  refine thn (h pins s σ H { D with nx := M } I q) fun r s' z => ?_
  cases r with
  | next => obtain ⟨σ', H', I', m⟩ := z; exact ⟨σ', H', I', w _ _ m⟩
  | _ => exact z
end
end L2
namespace L2
open PySem PySem.Spec PyProof.Rows
/-! ### many written ints at once -/
/-! ### rules that name the fragment itself, for blocks within blocks -/
theorem ix_listK {X : Cx} (K : PySem.W.Frag) (h : X.K = K) : IxR X (rIxL K) := by subst h; exact ix_list
end L2
namespace My
open PySem L2 OF
theorem small6 {n : Nat} (h : n ≤ 1000000) : n < sizeLine := Nat.lt_of_le_of_lt h (by decide)
theorem mulL {a b : Int} (h1 : -(2 ^ 64) < a) (h2 : a < 2 ^ 64) : IntMulOk a b := CMul.ok (.inl ⟨h1, h2⟩)
theorem mulR {a b : Int} (h1 : -(2 ^ 64) < b) (h2 : b < 2 ^ 64) : IntMulOk a b := CMul.ok (.inr ⟨h1, h2⟩)
/-! ### what the law's helpers promise -/
/-- the terms that are drawn -/
def Drawn (m : Nat) (l : Terms) : Prop := ∀ t ∈ l, 0 ≤ t.1 ∧ t.1 < 2 ^ m ∧ -(2 ^ 200) < t.2 ∧ t.2 < 2 ^ 200
theorem pow60 {m : Nat} (h : m ≤ 60) : (0 : Int) < 2 ^ m ∧ (2 : Int) ^ m ≤ 2 ^ 60 := by
  have h1 : (2 : Nat) ^ m ≤ 2 ^ 60 := Nat.pow_le_pow_right (by decide) h
  have h2 : 0 < (2 : Nat) ^ m := Nat.two_pow_pos m
  have e : ((2 ^ m : Nat) : Int) = (2 : Int) ^ m := by norm_cast
  have e' : ((2 ^ 60 : Nat) : Int) = (2 : Int) ^ 60 := by norm_cast
  constructor <;> omega
theorem shl_eq (m : Nat) : (1 : Int) * 2 ^ ((m : Int)).toNat = 2 ^ m := by rw [Int.one_mul, Int.toNat_natCast]
theorem cut_map (ns : List Int) (lo hi : Option Int) : ∃ ms : List Int, cutV (ns.map V.int) lo hi = ms.map V.int ∧ ms.length ≤ ns.length ∧ ∀ m ∈ ms, m ∈ ns := by
  refine ⟨(ns.drop (HT.sIx ns.length 0 lo)).take (HT.sIx ns.length ns.length hi - HT.sIx ns.length 0 lo), ?_, ?_, fun m h => List.mem_of_mem_drop (List.mem_of_mem_take h)⟩
  · unfold cutV
    rw [List.length_map, ← List.map_drop, ← List.map_take]
  · rw [List.length_take, List.length_drop]; exact Nat.le_trans (Nat.min_le_right _ _) (Nat.sub_le _ _)
theorem at_ref {ps : List Addr} {i : Nat} {y : V} (hi : (ps.map V.ref)[i]? = some y) : ∃ p, ps[i]? = some p ∧ y = V.ref p := by
  rw [List.getElem?_map] at hi
  cases e : ps[i]? with
  | none => rw [e] at hi; cases hi
  | some p => rw [e] at hi; exact ⟨p, rfl, (Option.some.inj hi).symm⟩
theorem at_int {ns : List Int} {i : Nat} {y : V} (hi : (ns.map V.int)[i]? = some y) : ∃ n, ns[i]? = some n ∧ y = V.int n := by
  rw [List.getElem?_map] at hi
  cases e : ns[i]? with
  | none => rw [e] at hi; cases hi
  | some p => rw [e] at hi; exact ⟨p, rfl, (Option.some.inj hi).symm⟩
def spWhole : Sp := fun vs H Q _ => ∃ n : Int, vs = [.int n] ∧ Q (.bl true) H
def spLaw (K : PySem.W.Frag) : Sp := fun vs H Q _ => ∃ (a : Addr) (ns : List Int), vs = [.ref a] ∧ SqL K H a (ns.map V.int) ∧ ns.length ≤ 63 ∧ (∀ n ∈ ns, Builtin.Int.intBits n ≤ 2 ^ 20) ∧ ∀ H', Q (.bl true) H'
/-! ### forms as data -/
def dT (t : Int × Int) : D := .tup [.int t.1, .int t.2]
def dF (l : Terms) : D := .lst (l.map dT)
theorem isL_tups {H : Hp} : ∀ {ps : List Addr} {l : Terms}, Tups H ps l → IsDs H (ps.map V.ref) (l.map dT)
  | _, _, .nil => by unfold IsDs; rfl
  | _, _, .cons (a := p) (b := t) r q => by
    rw [List.map_cons, List.map_cons]
    unfold IsDs
    refine ⟨_, _, rfl, ?_, isL_tups q⟩
    unfold dT Is
    refine ⟨p, _, rfl, r, ?_⟩
    unfold IsDs
    refine ⟨_, _, rfl, (by unfold Is; rfl), ?_⟩
    unfold IsDs
    refine ⟨_, _, rfl, (by unfold Is; rfl), ?_⟩
    unfold IsDs
    rfl
theorem _root_.L2.TLo.is {H : Hp} {a : Addr} {l : Terms} (h : TLo H a l) : Is H (.ref a) (dF l) := by
  obtain ⟨ps, h1, h2⟩ := h
  unfold dF Is
  exact ⟨a, _, rfl, h1, isL_tups h2⟩
theorem dep_dT (t : Int × Int) : dep (dT t) = 1 := rfl
theorem depL_dT : ∀ l : Terms, depL (l.map dT) ≤ 1
  | [] => Nat.zero_le _
  | t :: r => by
    rw [List.map_cons, depL, dep_dT]
    have := depL_dT r
    omega
theorem dep_dF (l : Terms) : dep (dF l) ≤ 2 := by
  unfold dF; rw [dep]; have := depL_dT l; omega
/-! ### the size of numbers -/
def Small (B : Nat) (l : Terms) : Prop := ∀ t ∈ l, t.2.natAbs ≤ B
theorem coef_small {B : Nat} : ∀ {l : Terms}, Small B l → ∀ k, (coef l k).natAbs ≤ l.length * B
  | [], _, k => by simp [coef]
  | t :: r, h, k => by
    have h1 := h t (by simp)
    have h2 := coef_small (l := r) (fun u hu => h u (by simp [hu])) k
    rw [coef, List.length_cons, Nat.add_mul, Nat.one_mul]
    split <;> omega
theorem coef_mem : ∀ {f : Terms}, IsForm f → ∀ t ∈ f, coef f t.1 = t.2
  | [], _, t, h => by simp at h
  | p :: r, hf, t, h => by
    have h1 := List.pairwise_cons.mp hf.rise
    rcases List.mem_cons.mp h with e | e
    · rw [e]; exact coef_head h1.1
    · have hr : IsForm r := ⟨h1.2, fun q hq => hf.nz q (by simp [hq])⟩
      have := coef_mem hr t e
      have h2 := h1.1 t e
      rw [coef, if_neg (by omega), this]; omega
theorem _root_.OF.FormOf.small {f l : Terms} {B : Nat} (h : FormOf f l) (hs : Small B l) : Small (l.length * B) f := fun t ht => by
  rw [← coef_mem h.toIsForm t ht, h.val]
  exact coef_small hs t.1
theorem Drawn.small {m : Nat} {l : Terms} (h : Drawn m l) : Small (2 ^ 200) l := fun t ht => by
  have := h t ht
  omega
/-! ### heaps -/
theorem _root_.L2.Same.write {HB H : Hp} {a : Addr} {o : HO} (h : Same HB H) (ha : HB a = none) : Same HB (upd H a o) := fun b u e => by
  rw [upd_ne (ne_of_none e ha)]; exact h b u e
end My

namespace OF
open PySem
/-! sums over a list of tuples, by a weight of the sets -/
end OF
namespace My
open PySem L2 OF
end My

namespace L2
open PySem PySem.Spec PyProof.Rows
/-- two objects of an iterator turned, a new object laid and tracked -/
theorem Inv.turnedT {X : Cx} {pins : List (Addr × Obj)} {σ : St} {H : Hp} {s : Shared} {h' : Heap} {t' : Nat} {e it T : Addr} {o : HO} (I : Inv X pins σ H s) (k : ∀ b u, b ≠ e → b ≠ it → s.heap.get? b = some u → h'.get? b = some u)
    (fe : FpOk X pins H e) (fi : FpOk X pins H it) (hT : s.heap.objs.size ≤ T) (new : ObjOk X.prog X.w (upd H T o) h' T o) : Inv X pins σ (upd H T o) { s with heap := h', toks := t' } := by
  have hn : H T = none := I.hok.fresh hT
  have ne1 : ∀ b u, H b = some u → b ≠ e ∧ b ≠ it := fun b u q => ⟨ne_of_none q fe.1, ne_of_none q fi.1⟩
  have nm : ∀ b, b ∉ [e, it] → b ≠ e ∧ b ≠ it := fun b hb => ⟨fun z => hb (by simp [z]), fun z => hb (by simp [z])⟩
  have lt : ∀ b u, s.heap.get? b = some u → b ≠ T := fun b u q => Nat.ne_of_lt (Nat.lt_of_lt_of_le (Heap.lt_size q) hT)
  refine I.step (g' := s.gens) (d' := s.drawn) (ch := [e, it]) (fun b hb => ?_) (fun b u _ _ hc q _ => k b u (nm b hc).1 (nm b hc).2 q) (fun b u _ _ hc q _ => ⟨u.slots, k b u (nm b hc).1 (nm b hc).2 q⟩) (fun b u _ q n => by rw [upd_ne (lt b u q)]; exact n)
    (fun b u hc q => ⟨u, k b u (nm b hc).1 (nm b hc).2 q⟩) (fun b xs q => by rw [upd_ne (ne_of_none q hn)]; exact q) (fun b u xs q => by rw [upd_ne (ne_of_none q hn)]; exact q) (fun b ps q => ⟨#[], by rw [upd_ne (ne_of_none q hn), q]; simp⟩) (fun m hm => ?_) (fun b u q => ?_) I.bare
  · rcases List.mem_cons.mp hb with z | z
    · subst z; exact ⟨fe.2.2.2.1, fe.2.1, fe.2.2.2.2.1, fe.2.2.2.2.2⟩
    · have z' : b = it := by simpa using z
      subst z'; exact ⟨fi.2.2.2.1, fi.2.1, fi.2.2.2.2.1, fi.2.2.2.2.2⟩
  · obtain ⟨u, es, ep, ho, r⟩ := hm
    exact ⟨u, es, ep, k _ u (Ne.symm fe.2.1) (Ne.symm fi.2.1) ho, r⟩
  · by_cases hb : b = T
    · subst hb; rw [upd_same] at q; cases q; exact new
    · rw [upd_ne hb] at q
      refine (I.hok b u q).stay (fun c v hc z => ?_) (fun c z => by rw [upd_ne (ne_of_none z hn)]; exact z) fun c xs z => by rw [upd_ne (ne_of_none z hn)]; exact z
      rcases hc with w | w
      · rw [w] at z ⊢; exact k b v (ne1 b u q).1 (ne1 b u q).2 z
      · exact k c v (ne1 c _ w).1 (ne1 c _ w).2 z
/-- enumerate of the list at a: a new pair at each turn -/
def Ite (K : PySem.W.Frag) (a : Addr) : It :=
  ⟨fun i H => ∃ xs x, SqL K H a xs ∧ xs[i]? = some x, fun i H y H' => ∃ T x, H T = none ∧ y = .ref T ∧ H' = upd H T (.tup [.int (i : Nat), x]) ∧ ∀ xs, SqL K H a xs → xs[i]? = some x, fun i H => ∃ xs, SqL K H a xs ∧ xs.length ≤ i⟩
theorem turn_enum {P : Program} {w : World} {K : PySem.W.Frag} {elts : List Expr} {x1 : Nat} {pos : Pos} (a e it : Addr) (hei : e ≠ it) : Turn P w K (.Tuple elts x1 pos) (Ite K a) [e, it] e (fun i h => (∃ old, IsEnum h e it i old) ∧ h.IsListIter it a i) where
  mem := by simp
  obj := fun i h st b hb => by
    obtain ⟨⟨old, he⟩, o, ho, c, d⟩ := st
    rcases List.mem_cons.mp hb with z | z
    · subst z; exact ⟨_, he, fun v z => by cases z⟩
    · have z' : b = it := by simpa using z
      subst z'; exact ⟨o, ho, fun v z => by rw [d] at z; cases z⟩
  keep := fun i h h' st k => by
    obtain ⟨⟨old, he⟩, hit⟩ := st
    exact ⟨⟨old, k e (by simp) _ he⟩, hit.at fun o q => k it (by simp) o q⟩
  item := by
    intro X hP hw hK hc i pins s σ H E I hf st hg
    subst hP hw hK
    obtain ⟨⟨old, he⟩, hit⟩ := st
    obtain ⟨xs, x, hq, hx⟩ := hg
    obtain ⟨its, rv, p, hz⟩ := I.list hq
    obtain ⟨u, hu, ru⟩ := rv.get hx
    have fe := hf e (by simp)
    have fi := hf it (by simp)
    refine wpAny_pyNext_enum_item he hit p.isList (x := u) (by simpa using hu) hei fun h1 ho hit1 hT hsz k1 => ⟨_, rfl, ?_⟩
    have helt : e < s.heap.objs.size := Heap.lt_size he
    have hTe : s.heap.objs.size ≠ e := Nat.ne_of_gt helt
    have hil : it < s.heap.objs.size := by obtain ⟨o, q, _⟩ := hit; exact Heap.lt_size q
    refine wpAny_letOwnedTupleGo_enum ho fun h2 he2 sb => ?_
    have kk : ∀ b v, b ≠ e → b ≠ it → s.heap.get? b = some v → h2.get? b = some v := fun b v h1' h2' q => (sb.2 b h1').trans (k1 b v h1' h2' q)
    have hT2 : h2.get? s.heap.objs.size = some { cls := .type "tuple", data := .seq #[.int i s.toks, u] } := (sb.2 _ hTe).trans hT
    refine ⟨.ref s.heap.objs.size, upd H s.heap.objs.size (.tup [.int (i : Nat), x]), I.turnedT (t' := s.toks + 1) kk fe fi (Nat.le_refl _) ⟨by show 2 ≤ sizeLine; decide, [.int i s.toks, u], .cons ⟨_, rfl⟩ (.cons ru .nil), ?_⟩, rfl, ⟨_, x, I.hok.fresh (Nat.le_refl _), rfl, rfl, fun ys hy => by rw [I.list_inj hy hq]; exact hx⟩, ⟨⟨_, by simpa using he2⟩, ?_⟩, fun b hb => ?_⟩
    · exact ⟨_, hT2, rfl, 0, rfl⟩
    · exact hit1.at fun o q => (sb.2 it hei.symm).trans q
    · rcases List.mem_cons.mp hb with z | z
      · subst z; rw [upd_ne (Ne.symm hTe)]; exact fe.1
      · have z' : b = it := by simpa using z
        subst z'; rw [upd_ne (Nat.ne_of_lt hil)]; exact fi.1
  done := by
    intro X hP hw hK hc i pins s σ H E I hf st hg
    subst hP hw hK
    obtain ⟨⟨old, he⟩, hit⟩ := st
    obtain ⟨xs, hq, hx⟩ := hg
    obtain ⟨its, rv, p, hz⟩ := I.list hq
    obtain ⟨f0, f1, f2, f3, f4, f5⟩ := hf it (by simp)
    have hl := rv.length
    exact wpAny_pyNext_enum_end (I.ok.hd hc) he hit p.isList (by simp; omega) fun h' eb => ⟨rfl, I.turned (t' := s.toks) (fun b o hb q => eb b o hb q) f0 f1 f3 f4 f5⟩
  self := fun _ _ _ _ _ st h => by
    obtain ⟨⟨old, he⟩, _⟩ := st
    exact wpAny_pyIter_enum he h
def iEnum (K : PySem.W.Frag) (ta : TA) : TI := fun σ H R => ta σ H fun vs H1 => ∃ a, vs = [.ref a] ∧ (∃ xs, SqL K H1 a xs) ∧ R (Ite K a) H1
theorem boot_enum : bootBuiltins "enumerate" = some (.type "enumerate") := by decide +kernel
theorem pi_enum {X : Cx} {elts : List Expr} {x1 : Nat} {p0 p pos : Pos} {a : Expr} {ta : TA} (hg : Gl X "enumerate") (hm : X.mg "enumerate" = none) (ha : PA X [a] ta) (hs : starEach [a] X.env = [(false, eval a X.env)] := by rfl) :
    PI X (.Tuple elts x1 p0) (.Call (.Name "enumerate" p) [a] [] pos) (iEnum X.K ta) := by
  intro pins s σ H R I h
  refine Call_ (ld_blt I hg hm boot_enum (PyProof.Rows.callWith_type1 (thn (ha pos pins s σ H _ I h) fun us s1 ⟨vs, H1, I1, r1, q1⟩ => ?_) hs rfl))
  obtain ⟨b, rfl, ⟨xs, hq⟩, q⟩ := q1
  obtain ⟨u, rfl, ru⟩ := vals1 r1
  cases (show u = Value.ref b from ru)
  obtain ⟨its, rv, p, hz⟩ := I1.list hq
  refine call_enumerate_list p.isList fun h' he hit hsz k => wpAny_pyIter_enum he ?_
  have I2 : Inv X pins σ H1 { s1 with heap := h' } := I1.kept (t' := s1.toks) k
  have hne : s1.heap.objs.size + 1 ≠ s1.heap.objs.size := Nat.succ_ne_self _
  refine ⟨s1.heap.objs.size + 1, [s1.heap.objs.size + 1, s1.heap.objs.size], _, _, H1, rfl, I2, turn_enum b _ _ hne, ⟨⟨_, he⟩, hit⟩, fun c hc => ?_, q⟩
  have fr : ∀ c, s1.heap.objs.size ≤ c → FpOk X pins H1 c := fun c hc => I1.fpOk hc (I1.hok.fresh hc)
  rcases List.mem_cons.mp hc with z | z
  · subst z; exact fr _ (Nat.le_succ _)
  · have z' : c = s1.heap.objs.size := by simpa using z
    subst z'; exact fr _ (Nat.le_refl _)
/-- a comprehension over enumerate of a list that stays -/
theorem comp_enum {K : PySem.W.Frag} {a : Addr} {xs : List V} {g : TG} {tc : TT} {te : TE} {σ : St} {H : Hp} {R : List V → Hp → Addr → Prop} (Pv : Nat → List V → St → Hp → Prop) (h0 : Pv 0 [] σ H) (hl : ∀ i ys σ H, i ≤ xs.length → Pv i ys σ H → SqL K H a xs ∧ ys.length ≤ i) (hz : xs.length ≤ sizeLine)
    (hs : ∀ i x ys σ H T, xs[i]? = some x → Pv i ys σ H → H T = none → g (.ref T) σ (upd H T (.tup [.int (i : Nat), x])) fun σ2 H2 => tc σ2 H2 fun b H3 => if b = true then te σ2 H3 fun y H4 => Pv (i + 1) (ys ++ [y]) σ2 H4 else Pv (i + 1) ys σ2 H3)
    (hd : ∀ ys σ H, Pv xs.length ys σ H → ∀ D, H D = none → R ys H D) :
    ∃ W : Nat → Nat → List V → St → Hp → Prop, (∃ m, W 0 m [] σ H) ∧ ∀ i m ys σ H, W i m ys σ H →
      ((Ite K a).stop i H ∧ ∀ D, H D = none → R ys H D) ∨
      ((Ite K a).go i H ∧ ys.length < sizeLine ∧ ∃ N : List V → St → Hp → Prop, (∀ ys' σ' H', N ys' σ' H' → ∃ m', m' < m ∧ W (i + 1) m' ys' σ' H') ∧
        ∀ x H', (Ite K a).yld i H x H' → g x σ H' fun σ2 H2 => tc σ2 H2 fun b H3 => if b = true then te σ2 H3 fun y H4 => N (ys ++ [y]) σ2 H4 else N ys σ2 H3) := by
  refine ⟨fun i m ys σ H => m = xs.length - i ∧ i ≤ xs.length ∧ Pv i ys σ H, ⟨xs.length, by simp, Nat.zero_le _, h0⟩, ?_⟩
  rintro i m ys σ H ⟨rfl, hi, p⟩
  have q := hl i ys σ H hi p
  by_cases hlt : i < xs.length
  · refine .inr ⟨⟨xs, xs[i], q.1, by simp [hlt]⟩, (by omega), Pv (i + 1), fun ys' σ' H' p' => ⟨xs.length - (i + 1), by omega, rfl, hlt, p'⟩, fun x H' y => ?_⟩
    obtain ⟨T, z, hT, rfl, rfl, y⟩ := y
    exact hs i z ys σ _ T (y xs q.1) p hT
  · have e : i = xs.length := by omega
    subst e
    exact .inl ⟨⟨xs, q.1, Nat.le_refl _⟩, hd ys σ H p⟩
end L2

namespace L2
open PySem PySem.Spec PyProof.Rows
section
variable {prog : Program} {w : World} {A : Around} {E : Value → Shared → Prop} {s : Shared} {a : Addr}
end
section
variable {X : Cx} {pins : List (Addr × Obj)} {σ : St} {H : Hp}
end
end L2

namespace OF
open PySem
/-! ### one unknown of a table -/
/-! ### all unknowns below m -/
open Classical in
/-! ### lists -/
/-! ### a dict of pairs that has each key once -/
/-! ### how many have all of a set -/
end OF
namespace My
open PySem L2 OF
theorem tt {σ : St} {H : Hp} {F G : Hp → Prop} (h : F H) : tTrue σ H fun b H3 => if b = true then F H3 else G H3 := by
  show (if true = true then F H else G H)
  rw [if_pos rfl]; exact h
end My

namespace L2
open PySem OF
/-! ### forms of tables -/
end L2

set_option maxHeartbeats 1000000
namespace My
open PySem L2 OF
/-! ### one unknown gets a bit -/
theorem _root_.OF.FormOf.keys {m : Nat} {f l : Terms} (h : FormOf f l) (hl : ∀ t ∈ l, 0 ≤ t.1 ∧ t.1 < 2 ^ m) : ∀ t ∈ f, 0 ≤ t.1 ∧ t.1 < 2 ^ m := fun t ht => by
  obtain ⟨u, hu, e⟩ := List.mem_map.mp (h.src t ht)
  rw [← e]; exact hl u hu
end My

set_option maxHeartbeats 1000000
namespace My
open PySem L2 OF
/-! ### how many unknowns a set lacks -/
end My

set_option maxHeartbeats 1000000
namespace L2
open PySem PySem.Spec PyProof.Rows
section
variable {X : Cx}
def rBitLen : V → List V → Hp → VK → Prop := fun x vs H Q => ∃ n : Int, x = .int n ∧ vs = [] ∧ Q (.int (Builtin.Int.intBits n)) H
theorem mt_bit_length : MtM X "int.bit_length" rBitLen := by
  intro pins s σ H x xs v us Q I rx rv h
  obtain ⟨n, rfl, rfl, q⟩ := h
  obtain ⟨t, rfl⟩ := rx
  obtain rfl := rv.zero
  exact call_int_bit_length ⟨.int _, H, I.tok _, ⟨_, rfl⟩, q⟩
end
end L2
namespace My
open PySem L2 OF
theorem intBits_nat (n : Nat) : Builtin.Int.intBits (n : Int) = if n = 0 then 0 else n.log2 + 1 := by
  unfold Builtin.Int.intBits
  by_cases h : n = 0
  · subst h; rfl
  · rw [if_neg h, if_neg (by simp; omega)]; rfl
theorem lt_intBits (n : Nat) : n < 2 ^ Builtin.Int.intBits (n : Int) := by
  rw [intBits_nat]
  by_cases h : n = 0
  · subst h; decide
  · rw [if_neg h]; exact Nat.lt_log2_self
theorem intBits_lt {n m : Nat} (h : n < 2 ^ m) : Builtin.Int.intBits (n : Int) ≤ m := by
  rw [intBits_nat]
  by_cases h0 : n = 0
  · subst h0; simp
  · rw [if_neg h0]
    exact (Nat.log2_lt h0).mpr h
/-! ### unknowns that get new numbers -/
/-- the unknowns of a set, rising -/
def lst (a : Nat) : List Nat := (List.range (Builtin.Int.intBits (a : Int))).filter fun k => a.testBit k
theorem mem_lst {a k : Nat} : k ∈ lst a ↔ a.testBit k = true := by
  unfold lst
  rw [List.mem_filter, List.mem_range]
  constructor
  · exact fun h => h.2
  · intro h
    refine ⟨?_, h⟩
    rcases Nat.lt_or_ge k (Builtin.Int.intBits (a : Int)) with z | z
    · exact z
    · have := Nat.testBit_lt_two_pow (Nat.lt_of_lt_of_le (lt_intBits a) (Nat.pow_le_pow_right (by decide) z))
      rw [this] at h; cases h
end My

set_option maxHeartbeats 1000000
namespace L2
open PySem PySem.Spec PyProof.Rows
/-- the objects of an iterator (all ours, none tracked) have turned -/
theorem Inv.turnedN {X : Cx} {pins : List (Addr × Obj)} {σ : St} {H : Hp} {s : Shared} {h' : Heap} {t' : Nat} (ch : List Addr) (I : Inv X pins σ H s) (k : ∀ b u, b ∉ ch → s.heap.get? b = some u → h'.get? b = some u)
    (f : ∀ b ∈ ch, FpOk X pins H b) : Inv X pins σ H { s with heap := h', toks := t' } := by
  have out : ∀ b u, H b = some u → b ∉ ch := fun b u q z => by rw [(f b z).1] at q; cases q
  refine I.step (g' := s.gens) (d' := s.drawn) (ch := ch) (fun b hb => ⟨(f b hb).2.2.2.1, (f b hb).2.1, (f b hb).2.2.2.2.1, (f b hb).2.2.2.2.2⟩) (fun b u _ _ hc q _ => k b u hc q) (fun b u _ _ hc q _ => ⟨u.slots, k b u hc q⟩) (fun _ _ _ _ n => n)
    (fun b u hc q => ⟨u, k b u hc q⟩) (fun _ _ e => e) (fun _ _ _ e => e) (fun b ps e => ⟨#[], by rw [e]; simp⟩) (fun m hm => ?_) (fun b u e => ?_) I.bare
  · obtain ⟨u, es, ep, ho, r⟩ := hm
    exact ⟨u, es, ep, k _ u (fun z => (f _ z).2.1 rfl) ho, r⟩
  · refine (I.hok b u e).stay (fun c v hc q => k c v ?_ q) (fun _ q => q) fun _ _ q => q
    rcases hc with z | z
    · rw [z]; exact out b u e
    · exact out c _ z
/-- likewise, and a new object is laid and tracked -/
theorem Inv.turnedL {X : Cx} {pins : List (Addr × Obj)} {σ : St} {H : Hp} {s : Shared} {h' : Heap} {t' : Nat} {T : Addr} {o : HO} (ch : List Addr) (I : Inv X pins σ H s) (k : ∀ b u, b ∉ ch → s.heap.get? b = some u → h'.get? b = some u)
    (f : ∀ b ∈ ch, FpOk X pins H b) (hT : s.heap.objs.size ≤ T) (new : ObjOk X.prog X.w (upd H T o) h' T o) : Inv X pins σ (upd H T o) { s with heap := h', toks := t' } := by
  have hn : H T = none := I.hok.fresh hT
  have out : ∀ b u, H b = some u → b ∉ ch := fun b u q z => by rw [(f b z).1] at q; cases q
  have lt : ∀ b u, s.heap.get? b = some u → b ≠ T := fun b u q => Nat.ne_of_lt (Nat.lt_of_lt_of_le (Heap.lt_size q) hT)
  have up : ∀ {b : Addr} {u : HO}, H b = some u → upd H T o b = some u := fun q => by rw [upd_ne (ne_of_none q hn)]; exact q
  refine I.step (g' := s.gens) (d' := s.drawn) (ch := ch) (fun b hb => ⟨(f b hb).2.2.2.1, (f b hb).2.1, (f b hb).2.2.2.2.1, (f b hb).2.2.2.2.2⟩) (fun b u _ _ hc q _ => k b u hc q) (fun b u _ _ hc q _ => ⟨u.slots, k b u hc q⟩) (fun b u _ q n => by rw [upd_ne (lt b u q)]; exact n)
    (fun b u hc q => ⟨u, k b u hc q⟩) (fun b xs q => up q) (fun b u xs q => up q) (fun b ps q => ⟨#[], by rw [up q]; simp⟩) (fun m hm => ?_) (fun b u q => ?_) I.bare
  · obtain ⟨u, es, ep, ho, r⟩ := hm
    exact ⟨u, es, ep, k _ u (fun z => (f _ z).2.1 rfl) ho, r⟩
  · by_cases hb : b = T
    · subst hb; rw [upd_same] at q; cases q; exact new
    · rw [upd_ne hb] at q
      refine (I.hok b u q).stay (fun c v hc z => ?_) (fun c z => up z) fun c xs z => up z
      rcases hc with w | w
      · rw [w] at z ⊢; exact k b v (out b u q) z
      · exact k c v (out c _ w) z
/-- zip of the lists at a and b: a new pair at each turn, as long as both have one -/
def Itz (K : PySem.W.Frag) (a b : Addr) : It :=
  ⟨fun i H => ∃ xs ys x y, SqL K H a xs ∧ SqL K H b ys ∧ xs[i]? = some x ∧ ys[i]? = some y, fun i H v H' => ∃ T x y, H T = none ∧ v = .ref T ∧ H' = upd H T (.tup [x, y]) ∧ (∀ xs, SqL K H a xs → xs[i]? = some x) ∧ ∀ ys, SqL K H b ys → ys[i]? = some y,
    fun i H => ∃ xs ys, SqL K H a xs ∧ SqL K H b ys ∧ (xs.length ≤ i ∨ ys.length ≤ i)⟩
theorem turn_zip {P : Program} {w : World} {K : PySem.W.Frag} {elts : List Expr} {x1 : Nat} {pos : Pos} (a b z TI TO i1 i2 : Addr) (D : ZipApart z TI TO i1 i2 a b) :
    Turn P w K (.Tuple elts x1 pos) (Itz K a b) [z, TI, TO, i1, i2] z (fun i h => IsZip h z TI TO .none ∧ IsPair h TI (.ref i1) (.ref i2) ∧ (∃ u v, IsPair h TO u v) ∧ h.IsListIter i1 a i ∧ h.IsListIter i2 b i) where
  mem := by simp
  obj := fun i h st c hc => by
    obtain ⟨hz, hTI, ⟨u, v, hTO⟩, ⟨o1, e1, c1, d1⟩, ⟨o2, e2, c2, d2⟩⟩ := st
    simp only [List.mem_cons, List.not_mem_nil, or_false] at hc
    rcases hc with rfl | rfl | rfl | rfl | rfl
    · exact ⟨_, hz, fun v z => by cases z⟩
    · exact ⟨_, hTI, fun v z => by cases z⟩
    · exact ⟨_, hTO, fun v z => by cases z⟩
    · exact ⟨o1, e1, fun v z => by rw [d1] at z; cases z⟩
    · exact ⟨o2, e2, fun v z => by rw [d2] at z; cases z⟩
  keep := fun i h h' st k => by
    obtain ⟨hz, hTI, ⟨u, v, hTO⟩, h1, h2⟩ := st
    exact ⟨k z (by simp) _ hz, k TI (by simp) _ hTI, ⟨u, v, k TO (by simp) _ hTO⟩, h1.at fun o q => k i1 (by simp) o q, h2.at fun o q => k i2 (by simp) o q⟩
  item := by
    intro X hP hw hK hc i pins s σ H E I hf st hg
    subst hP hw hK
    obtain ⟨hz, hTI, ⟨u, v, hTO⟩, h1, h2⟩ := st
    obtain ⟨xs, ys, x, y, hq, hq', hx, hy⟩ := hg
    obtain ⟨its, rv, p, hsz⟩ := I.list hq
    obtain ⟨its', rv', p', hsz'⟩ := I.list hq'
    obtain ⟨ux, hu, ru⟩ := rv.get hx
    obtain ⟨uy, hu', ru'⟩ := rv'.get hy
    refine wpAny_pyNext_zip_item D hz hTI hTO h1 h2 p.isList p'.isList (x := ux) (y := uy) (by simpa using hu) (by simpa using hu') fun h1' hz1 hTO1 hi1 hi2 hT hs1 k1 => ⟨_, rfl, ?_⟩
    refine wpAny_letOwnedTupleGo_zip hz1 fun h2' hz2 sb => ?_
    have lz : z < s.heap.objs.size := Heap.lt_size hz
    have hTz : s.heap.objs.size ≠ z := Nat.ne_of_gt lz
    have kk : ∀ c o, c ∉ [z, TI, TO, i1, i2] → s.heap.get? c = some o → h2'.get? c = some o := fun c o hc q => by
      simp only [List.mem_cons, List.not_mem_nil, or_false, not_or] at hc
      exact (sb.2 c hc.1).trans (k1 c o hc.1 hc.2.2.1 hc.2.2.2.1 hc.2.2.2.2 q)
    have hT2 : IsPair h2' s.heap.objs.size ux uy := (sb.2 _ hTz).trans hT
    have hTI2 : IsPair h2' TI (.ref i1) (.ref i2) := (sb.2 _ D.TIz).trans (k1 _ _ D.TIz D.TITO D.TIi1 D.TIi2 hTI)
    refine ⟨.ref s.heap.objs.size, upd H s.heap.objs.size (.tup [x, y]), I.turnedL (t' := s.toks) _ kk hf (Nat.le_refl _) ⟨by show 2 ≤ sizeLine; decide, [ux, uy], .cons ru (.cons ru' .nil), ?_⟩, rfl, ⟨_, x, y, I.hok.fresh (Nat.le_refl _), rfl, rfl, fun zs h => by rw [I.list_inj h hq]; exact hx, fun zs h => by rw [I.list_inj h hq']; exact hy⟩, ⟨hz2, hTI2, ⟨ux, uy, (sb.2 _ D.TOz).trans hTO1⟩, ?_, ?_⟩, fun c hc => ?_⟩
    · exact ⟨_, hT2, rfl, 0, rfl⟩
    · exact hi1.at fun o q => (sb.2 _ D.i1z).trans q
    · exact hi2.at fun o q => (sb.2 _ D.i2z).trans q
    · have hcl : c < s.heap.objs.size := by
        simp only [List.mem_cons, List.not_mem_nil, or_false] at hc
        rcases hc with rfl | rfl | rfl | rfl | rfl
        · exact lz
        · exact Heap.lt_size hTI
        · exact Heap.lt_size hTO
        · obtain ⟨o, q, _⟩ := h1; exact Heap.lt_size q
        · obtain ⟨o, q, _⟩ := h2; exact Heap.lt_size q
      rw [upd_ne (Nat.ne_of_lt hcl)]; exact (hf c hc).1
  done := by
    intro X hP hw hK hc i pins s σ H E I hf st hg
    subst hP hw hK
    obtain ⟨hz, hTI, ⟨u, v, hTO⟩, h1, h2⟩ := st
    obtain ⟨xs, ys, hq, hq', hx⟩ := hg
    obtain ⟨its, rv, p, hsz⟩ := I.list hq
    obtain ⟨its', rv', p', hsz'⟩ := I.list hq'
    have hl := rv.length
    have hl' := rv'.length
    refine wpAny_pyNext_zip_end (I.ok.hd hc) D hz hTI hTO h1 h2 p.isList p'.isList ?_ fun h' kk => ⟨rfl, I.turnedN (t' := s.toks) [z, TI, TO, i1, i2] (fun c o hc q => ?_) hf⟩
    · rcases hx with z | z
      · left; simp; omega
      · right; simp; omega
    · simp only [List.mem_cons, List.not_mem_nil, or_false, not_or] at hc
      exact kk c o hc.1 hc.2.2.1 hc.2.2.2.1 hc.2.2.2.2 q
  self := fun _ _ _ _ _ st h => wpAny_pyIter_zip st.1 h
def iZip (K : PySem.W.Frag) (ta : TA) : TI := fun σ H R => ta σ H fun vs H1 => ∃ a b, vs = [.ref a, .ref b] ∧ (∃ xs, SqL K H1 a xs) ∧ (∃ ys, SqL K H1 b ys) ∧ R (Itz K a b) H1
theorem boot_zip : bootBuiltins "zip" = some (.type "zip") := by decide +kernel
theorem pi_zip {X : Cx} {elts : List Expr} {x1 : Nat} {p0 p pos : Pos} {a b : Expr} {ta : TA} (hg : Gl X "zip") (hm : X.mg "zip" = none) (ha : PA X [a, b] ta) (hs : starEach [a, b] X.env = (false, eval a X.env) :: starEach [b] X.env := by rfl) (hs2 : (backTo pos (starEach [b] X.env)).any (·.1) = false := by rfl) :
    PI X (.Tuple elts x1 p0) (.Call (.Name "zip" p) [a, b] [] pos) (iZip X.K ta) := by
  intro pins s σ H R I h
  refine Call_ (ld_blt I hg hm boot_zip (PyProof.Rows.callWith_type1 (thn (ha pos pins s σ H _ I h) fun us s1 ⟨vs, H1, I1, r1, q1⟩ => ?_) hs hs2))
  obtain ⟨l1, l2, rfl, ⟨xs, hq⟩, ⟨ys, hq'⟩, q⟩ := q1
  obtain ⟨u, v, rfl, ru, rv⟩ := vals2 r1
  cases (show u = Value.ref l1 from ru)
  cases (show v = Value.ref l2 from rv)
  obtain ⟨its, rx, p, hz⟩ := I1.list hq
  obtain ⟨its', rx', p', hz'⟩ := I1.list hq'
  have n1 : l1 < s1.heap.objs.size := by obtain ⟨o, q, _⟩ := p.isList; exact Heap.lt_size q
  have n2 : l2 < s1.heap.objs.size := by obtain ⟨o, q, _⟩ := p'.isList; exact Heap.lt_size q
  refine call_zip_2 p.isList p'.isList fun h' hz hTI hTO h1 h2 hsz k => wpAny_pyIter_zip hz ?_
  have I2 : Inv X pins σ H1 { s1 with heap := h' } := I1.kept (t' := s1.toks) k
  refine ⟨_, _, _, _, H1, rfl, I2, turn_zip l1 l2 _ _ _ _ _ (zipApart_new n1 n2), ⟨hz, hTI, ⟨_, _, hTO⟩, h1, h2⟩, fun c hc => ?_, q⟩
  have fr : ∀ c, s1.heap.objs.size ≤ c → FpOk X pins H1 c := fun c hc => I1.fpOk hc (I1.hok.fresh hc)
  simp only [List.mem_cons, List.not_mem_nil, or_false] at hc
  rcases hc with rfl | rfl | rfl | rfl | rfl <;> exact fr _ (by omega)
/-- a comprehension over zip of two lists that stay -/
theorem comp_zip {K : PySem.W.Frag} {a b : Addr} {xs ys : List V} {g : TG} {tc : TT} {te : TE} {σ : St} {H : Hp} {R : List V → Hp → Addr → Prop} (hxy : xs.length = ys.length) (Pv : Nat → List V → St → Hp → Prop) (h0 : Pv 0 [] σ H)
    (hl : ∀ i zs σ H, i ≤ xs.length → Pv i zs σ H → SqL K H a xs ∧ SqL K H b ys ∧ zs.length ≤ i) (hz : xs.length ≤ sizeLine)
    (hs : ∀ i x y zs σ H T, xs[i]? = some x → ys[i]? = some y → Pv i zs σ H → H T = none → g (.ref T) σ (upd H T (.tup [x, y])) fun σ2 H2 => tc σ2 H2 fun b H3 => if b = true then te σ2 H3 fun y H4 => Pv (i + 1) (zs ++ [y]) σ2 H4 else Pv (i + 1) zs σ2 H3)
    (hd : ∀ zs σ H, Pv xs.length zs σ H → ∀ D, H D = none → R zs H D) :
    ∃ W : Nat → Nat → List V → St → Hp → Prop, (∃ m, W 0 m [] σ H) ∧ ∀ i m zs σ H, W i m zs σ H →
      ((Itz K a b).stop i H ∧ ∀ D, H D = none → R zs H D) ∨
      ((Itz K a b).go i H ∧ zs.length < sizeLine ∧ ∃ N : List V → St → Hp → Prop, (∀ zs' σ' H', N zs' σ' H' → ∃ m', m' < m ∧ W (i + 1) m' zs' σ' H') ∧
        ∀ x H', (Itz K a b).yld i H x H' → g x σ H' fun σ2 H2 => tc σ2 H2 fun b H3 => if b = true then te σ2 H3 fun y H4 => N (zs ++ [y]) σ2 H4 else N zs σ2 H3) := by
  refine ⟨fun i m zs σ H => m = xs.length - i ∧ i ≤ xs.length ∧ Pv i zs σ H, ⟨xs.length, by simp, Nat.zero_le _, h0⟩, ?_⟩
  rintro i m zs σ H ⟨rfl, hi, p⟩
  obtain ⟨q1, q2, q3⟩ := hl i zs σ H hi p
  by_cases hlt : i < xs.length
  · have hlt' : i < ys.length := by omega
    refine .inr ⟨⟨xs, ys, xs[i], ys[i], q1, q2, by simp [hlt], by simp [hlt']⟩, (by omega), Pv (i + 1), fun ys' σ' H' p' => ⟨xs.length - (i + 1), by omega, rfl, hlt, p'⟩, fun x H' y => ?_⟩
    obtain ⟨T, u, v, hT, rfl, rfl, y1, y2⟩ := y
    exact hs i u v zs σ _ T (y1 xs q1) (y2 ys q2) p hT
  · have e : i = xs.length := by omega
    subst e
    exact .inl ⟨⟨xs, ys, q1, q2, .inl (Nat.le_refl _)⟩, hd zs σ H p⟩
end L2

namespace L2
open PySem PySem.Spec PyProof.Rows
section
variable {prog : Program} {w : World} {A : Around} {E : Value → Shared → Prop} {s : Shared}
end
section
variable {X : Cx} {tg : Expr}
end
end L2

set_option maxHeartbeats 1000000
namespace L2
open PySem PySem.Spec PyProof.Rows
end L2
namespace My
open PySem L2 OF
/-! ### rows of gates -/
end My

set_option maxHeartbeats 1000000
namespace L2
open PySem PySem.Spec PyProof.Rows
section
variable {X : Cx} {e st lo : Expr} {te : TE} {tl to : TO} {p2 pos : Pos}
/-- each second one from c on, n of them -/
def pickL {α : Type} (c n : Nat) (xs : List α) : List α := (List.range n).filterMap fun k => xs[c + 2 * k]?
theorem vals_pick {xs : List V} {us : List Value} (r : Vals xs us) (f : Nat → Nat) : ∀ ks : List Nat, Vals (ks.filterMap fun k => xs[f k]?) (ks.filterMap fun k => us[f k]?)
  | [] => .nil
  | k :: ks => by
    have ih := vals_pick r f ks
    have hl := r.length
    cases h : xs[f k]? with
    | none =>
      have h2 : us[f k]? = none := by rw [List.getElem?_eq_none_iff] at h ⊢; omega
      rw [List.filterMap_cons_none (f := fun k => xs[f k]?) h, List.filterMap_cons_none (f := fun k => us[f k]?) h2]; exact ih
    | some x =>
      obtain ⟨u, hu, ru⟩ := r.get h
      rw [List.filterMap_cons_some (f := fun k => xs[f k]?) h, List.filterMap_cons_some (f := fun k => us[f k]?) hu]; exact .cons ru ih
theorem range_two (c n : Nat) (hc : c ≤ n) : sliceRange (c : Int) (n : Int) 2 = (List.range ((n - c + 1) / 2)).map fun k => c + 2 * k := by
  unfold sliceRange
  have e : (if (2 : Int) > 0 then (if (c : Int) < (n : Int) then ((n : Int) - (c : Int) + 2 - 1) / 2 else 0) else (if (c : Int) > (n : Int) then ((c : Int) - (n : Int) - 2 - 1) / (-2) else 0)).toNat = (n - c + 1) / 2 := by
    rw [if_pos (by decide)]
    split <;> omega
  simp only [e]
  exact List.map_congr_left fun k _ => by omega
theorem pick_two (items : Array Value) (c : Nat) (hc : c ≤ items.size) : slicePick items (some (c : Int)) none (some 2) = (pickL c ((items.size - c + 1) / 2) items.toList).toArray := by
  unfold slicePick
  have e : sliceBounds (some (c : Int)) none (some 2) items.size = ((c : Int), (items.size : Int), 2) := by
    show ((if (2 : Int) > 0 then max 0 (min (if (c : Int) < 0 then (c : Int) + items.size else (c : Int)) items.size) else _), (if (2 : Int) > 0 then (items.size : Int) else -1), (2 : Int)) = _
    have h1 : max 0 (min (if (c : Int) < 0 then (c : Int) + items.size else (c : Int)) items.size) = (c : Int) := by
      rw [if_neg (by omega)]; omega
    rw [h1]; rfl
  rw [e, range_two c items.size hc, List.filterMap_map]
  congr 1
  unfold pickL
  congr 1
  funext k
  simp
/-- xs[c::2] -/
def tTwo (K : PySem.W.Frag) (te : TE) (tl to : TO) : TE := fun σ H Q => te σ H fun x H1 => tl σ H1 fun o1 H2 => to σ H2 fun o H3 => o = some 2 ∧ ∃ (c : Nat) (a : Addr) (xs : List V), o1 = some (c : Int) ∧ x = .ref a ∧ SqL K H3 a xs ∧ c ≤ xs.length ∧
  ∀ p, H3 p = none → Q (.ref p) (upd H3 p (.lst (pickL c ((xs.length - c + 1) / 2) xs)))
theorem pe_two (he : PE X e te) (hlo : PO X (some lo) tl) (hst : PO X (some st) to) : PE X (.Subscript e (.Slice (some lo) none (some st) p2) pos) (tTwo X.K te tl to) := by
  intro pins s σ H Q I h
  refine Subscript_ (thn (he pins s σ H _ I h) fun v s1 ⟨x, H1, I1, r1, q1⟩ => ?_)
  refine wpAny_Slice (thn (hlo pins s1 σ H1 _ I1 q1) fun vl s2 ⟨o1, H2, I2, pl, q2⟩ => ?_)
  rw [evalPart_none]
  refine wpAny_pure (thn (hst pins s2 σ H2 _ I2 q2) fun vk s3 ⟨o, H3, I3, pk, q3⟩ => ?_)
  obtain ⟨rfl, c, a, xs, rfl, rfl, hx, hc, q⟩ := q3
  cases r1
  have I4 : Inv X pins σ H3 { s3 with heap := s3.heap.push { cls := .type "slice", data := .fields #[vl, .none, vk] } } := I3.kept (t' := s3.toks) fun b ob q => Heap.get?_push_of_some _ q
  obtain ⟨its, r, ht, hz⟩ := I4.list hx
  have hlen := r.length
  show wpAny (model X.prog X.w) X.A (subscriptTail e (.Slice (some lo) none (some st) p2) (.ref a) (.ref s3.heap.objs.size)) (EP X pins σ Q) X.xe { s3 with heap := s3.heap.push { cls := .type "slice", data := .fields #[vl, .none, vk] } }
  refine tail_any (ops := [.ref a, .ref s3.heap.objs.size]) ht.isList.typeIs slot_list_getitem.lookup ?_ (by with_unfolding_all rfl)
  refine wpAny_getItem_list_slice ht.isList (Heap.IsSliceOf.new ..) pl .none pk (by simp) ?_ (by rw [List.size_toArray]; omega)
  rw [pick_two _ c (by rw [List.size_toArray]; omega)]
  refine ⟨.ref _, _, I4.laid (o := .lst (pickL c ((xs.length - c + 1) / 2) xs)) (t' := s3.toks) (fun b ob q => Heap.get?_push_of_some _ q) (Nat.le_refl _) ?_, rfl, q _ (I4.hok.fresh (Nat.le_refl _))⟩
  refine ⟨?_, pickL c ((xs.length - c + 1) / 2) its, 0, vals_pick r (fun k => c + 2 * k) _, ?_⟩
  · unfold pickL
    refine Nat.le_trans (List.length_filterMap_le _ _) ?_
    rw [List.length_range]; exact Nat.le_trans ((show ∀ n c : Nat, (n - c + 1) / 2 ≤ n by omega) _ _) hz
  · rw [Heap.get?_push_size _ rfl, List.size_toArray, ← hlen]
end
end L2
namespace My
open PySem L2 OF
/-! ### the transform by halves -/
end My

set_option maxHeartbeats 1000000
namespace My
open PySem L2 OF
/-! ### a yes-no form in the place of an unknown -/
end My

set_option maxHeartbeats 1000000
namespace My
open PySem L2 OF
/-! ### where two forms part -/
end My

set_option maxHeartbeats 1000000
namespace My
open PySem L2 OF
/-! ### forms by their worths; forms with their unknowns gone up -/
end My

set_option maxHeartbeats 1000000
namespace My
open PySem L2 OF
/-! ### lists of forms -/
def Fms (H : Hp) : List Addr → List Terms → Prop := Paired fun p f => TLo H p f
theorem Fms.keep {H H' : Hp} {ps : List Addr} {l : List Terms} (h : Fms H ps l) (k : Same H H') : Fms H' ps l := Paired.mapP h fun p t e => e.keep k
theorem Fms.snoc : ∀ {H : Hp} {ps : List Addr} {l : List Terms} {p : Addr} {t : Terms}, Fms H ps l → TLo H p t → Fms H (ps ++ [p]) (l ++ [t])
  | _, _, _, _, _, .nil, e => .cons e .nil
  | _, _, _, _, _, .cons x r, e => .cons x (Fms.snoc r e)
/-! ### words said of forms -/
/-! ### a row's wire put away -/
/-- forms stay where another list is written -/
theorem Fms.keepU {H : Hp} {D : Addr} {xs : List V} {o : HO} (hD : H D = some (.lst xs)) : ∀ {ps : List Addr} {l : List Terms}, Fms H ps l → D ∉ ps → Fms (upd H D o) ps l
  | _, _, .nil, _ => .nil
  | _, _, .cons e r, h => by
    refine .cons ?_ (Fms.keepU hD r fun z => h (List.mem_cons_of_mem _ z))
    obtain ⟨qs, h1, h2⟩ := e
    exact ⟨qs, by rw [upd_ne (fun z => h (by rw [z]; exact List.mem_cons_self ..))]; exact h1, h2.keep fun b zs z => by rw [upd_ne (ne_of z hD (by intro w; cases w))]; exact z⟩
/-! ### the bits of all wires -/
end My

set_option maxHeartbeats 1000000
namespace L2
open PySem PySem.Spec PyProof.Rows
section
variable {prog : Program} {w : World} {A : Around} {E : Value → Shared → Prop} {s : Shared}
end
end L2

set_option maxHeartbeats 1000000
namespace My
open PySem L2 OF
/-! ### yes-no forms of few unknowns -/
end My

namespace My
open PySem L2 OF
/-! ### numbers that are not too wide, and what the drawing helpers promise -/
def Wd (n : Int) : Prop := Builtin.Int.intBits n ≤ 2 ^ 21
theorem bits_mono {a b : Int} (h : a.natAbs ≤ b.natAbs) : Builtin.Int.intBits a ≤ Builtin.Int.intBits b := by
  unfold Builtin.Int.intBits
  by_cases h0 : a = 0
  · subst h0; simp
  · have h1 : ¬ b = 0 := by omega
    have e1 : (a == 0) = false := by simpa using h0
    have e2 : (b == 0) = false := by simpa using h1
    rw [e1, e2]
    have hx : a.natAbs ≠ 0 := by omega
    have hy : b.natAbs ≠ 0 := by omega
    have := (Nat.le_log2 hy).mpr (Nat.le_trans (Nat.log2_self_le hx) h)
    simp only [Bool.false_eq_true, if_false]
    omega
theorem bits_lt {x : Int} {m : Nat} (hx : x.natAbs < 2 ^ m) : Builtin.Int.intBits x ≤ m := by
  unfold Builtin.Int.intBits
  split
  · exact Nat.zero_le _
  · rename_i h0
    have h0' : x.natAbs ≠ 0 := by simpa using h0
    exact (Nat.log2_lt h0').mpr hx
theorem Wd.le {a b : Int} (hb : Wd b) (h : a.natAbs ≤ b.natAbs) : Wd a := Nat.le_trans (bits_mono h) hb
theorem Wd.small {a : Int} (h : a.natAbs < 2 ^ 250) : Wd a := Nat.le_trans (bits_lt h) (by decide)
theorem Wd.div {a : Int} (b : Int) (h : Wd a) : Wd (a / b) := h.le (Int.natAbs_ediv_le_natAbs a b)
theorem Wd.mul {a b : Int} (h : Wd a) (hb : b.natAbs < 2 ^ 250) : IntMulOk a b := PyProof.Rows.mulOk_of_bits h (bits_lt hb) (by decide)
def spAt (K : PySem.W.Frag) : Sp := fun vs H Q _ => ∃ (a : Addr) (ns : List Int) (k : Nat), vs = [.ref a, .int (k : Int)] ∧ SqL K H a (ns.map V.int) ∧ Q (.int (ns.getD k 0)) H
def spMix : Sp := fun vs H Q _ => ∃ c k : Int, vs = [.int c, .int k] ∧ -(2 ^ 64) < k ∧ k < 2 ^ 64 ∧ ∀ r, 0 ≤ r → r < 2147483587 → Q (.int r) H
def spFree (K : PySem.W.Frag) : Sp := fun vs H Q _ => ∃ (a : Addr) (ns : List Int), vs = [.ref a] ∧ SqL K H a (ns.map V.int) ∧ ∀ b, Q (.bl b) H
def spBig : Sp := fun vs H Q _ => ∃ (c k : Int) (b : Bool), vs = [.int c, .int k, .bl b] ∧ Wd c ∧ -(2 ^ 63) < k ∧ k < 2 ^ 63 ∧ ∀ r, Wd r → Q (.int r) H
def spOwn : Sp := fun vs H Q _ => ∃ r : Int, vs = [.int r] ∧ Wd r ∧ ∀ n : Int, -(2 ^ 200) < n → n < 2 ^ 200 → Q (.int n) H
def spFormD (K : PySem.W.Frag) : Sp := fun vs H Q _ => ∃ (a : Addr) (ns : List Int) (m : Nat) (k : Int) (b : Bool), vs = [.ref a, .int (m : Int), .int k, .bl b] ∧ SqL K H a (ns.map V.int) ∧ ns.length ≤ 63 ∧ (∀ n ∈ ns, Wd n) ∧ m ≤ 60 ∧ 0 ≤ k ∧ k ≤ 100000 ∧
  ∀ (c : Addr) (f : Terms) (H' : Hp), H c = none → TLo H' c f → IsForm f → (∀ t ∈ f, 0 ≤ t.1 ∧ t.1 < 2 ^ m) → Small (2 ^ 206) f → f.length ≤ ns.length → Same H H' → Q (.ref c) H'
theorem Wd.of {n : Int} (h : Builtin.Int.intBits n ≤ 2 ^ 20) : Wd n := Nat.le_trans h (by decide)
end My

set_option maxHeartbeats 1000000
namespace L2
open PySem PySem.Spec PyProof.Rows
section
variable {X : Cx} {e st lo hi : Expr} {te : TE} {tl th to : TO} {p2 pos : Pos}
/-! ### xs[lo:hi:st], by what its items are -/
/-! ### min of a list or a tuple of ints, all of a list of bools -/
end
end L2
namespace L2
open PySem PySem.Spec PyProof.Rows
section
variable {X : Cx}
/-! ### sorted of a short list of ints -/
end
end L2
namespace L2
open PySem PySem.Spec PyProof.Rows
section
variable {X : Cx} {e st lo hi : Expr} {te : TE} {tl th to : TO} {p2 pos : Pos}
/-! ### list(range(n)) -/
end
end L2

namespace My
open PySem L2 OF
/-! ### trees -/
/-! ### forms put together by one bit -/
theorem pow_cast (K : Nat) : ((2 : Int) ^ K) = ((2 ^ K : Nat) : Int) := by norm_cast
end My

namespace My
open PySem L2 OF
/-! ### floors of forms -/
/-! ### what a paper shows -/
end My

namespace My
open PySem L2 OF
/-! ### statements -/
/-! ### forms of few letters -/
/-! ### a stack of statements -/
end My

set_option maxHeartbeats 4000000
namespace OS
open PySem PySem.W PyProof.Rows
section
variable {prog : Program} {w : World} {A : Around} {E : Value → Shared → Prop} {s : Shared}
end
end OS
namespace L2
open PySem PySem.Spec PyProof.Rows OS
section
variable {X : Cx}
/-! ### sorted of a list of pairs that rises -/
end
end L2

namespace L2
open PySem PySem.Spec PyProof.Rows
/-! ### reversed of a list that stays -/
/-! ### a list is made longer by a tuple's items -/
end L2
namespace My
open PySem L2 OF
/-! ### a statement's parts, from the last one on -/
end My
namespace My
open PySem L2 OF
end My

set_option maxHeartbeats 4000000
namespace OS
open PySem PySem.W PyProof.Rows
/-! ### what a sort by questions can end with, whatever the answers are -/
section
variable {prog : Program} {w : World} {A : Around} {E : Value → Shared → Prop} {s : Shared}
end
end OS

namespace OF
/-! ### numbers by sets of j unknowns: how many are not 0, worths by the noughts, few noughts -/
open Classical in
/-! ### the sets of few unknowns -/
/-! ### a form within a block of GIVENs -/
/-! ### the blocks that wait -/
/-! ### a dict of worths by GIVENs -/
end OF

namespace L2
open PySem PySem.Spec PyProof.Rows
section
variable {X : Cx}
/-! ### dict(d), d.copy(), list(d), d != d of a like one -/
end
end L2
namespace L2
open PySem PySem.Spec PyProof.Rows
end L2
namespace My
open PySem L2 OF
end My

set_option maxHeartbeats 4000000
namespace OS
open PySem PySem.W PyProof.Rows
section
variable {prog : Program} {w : World} {A : Around} {E : Value → Shared → Prop} {s : Shared}
/-! ### the keys of a dict, whatever they are -/
end
end OS

namespace OF
/-! ### products by SET and TURNED -/
/-! ### a way, from its end on -/
/-! ### one step of a push -/
/-! ### what is reached -/
end OF

set_option maxHeartbeats 1000000
namespace OS
end OS
namespace L2
open PySem PySem.Spec PyProof.Rows OS
section
variable {X : Cx}
/-! ### the keys of a dict of ints, walked; the dict stays as it is from then on -/
end
end L2

namespace My
open PySem L2 OF
/-! ### products -/
/-! ### lists of threes -/
end My

set_option maxHeartbeats 1000000
namespace My
open PySem L2 OF
/-! ### the least unknown of a set -/
/-! ### worths as sums -/
/-! ### what is reached, as a dict -/
end My

set_option maxHeartbeats 4000000
namespace OS
open PySem PySem.W PyProof.Rows
section
variable {prog : Program} {w : World} {A : Around} {E : Value → Shared → Prop} {s : Shared}
end
section
variable {prog : Program} {w : World} {A : Around} {R : Result → Shared → Prop} {I : Addr} {fp wr : List Addr} {n N : Nat} {P : Nat → Value → Prop} {St : Nat → Heap → Prop} {val : Nat → Int × Int}
end
section
variable {prog : Program} {w : World} {A : Around} {E : Value → Shared → Prop} {s : Shared}
end
end OS
namespace L2
open PySem PySem.Spec PyProof.Rows OF
section
variable {X : Cx}
end
end L2

namespace L2
open PySem PySem.Spec PyProof.Rows
section
variable {X : Cx}
/-! ### list.index of an int -/
end
end L2

namespace My
open PySem L2 OF
/-! ### papers for least worths -/
/-! ### weights -/
theorem lst_pos {a : Nat} (h : a ≠ 0) : 0 < (lst a).length := by
  obtain ⟨k, hk⟩ := Nat.exists_testBit_of_ne_zero h
  exact List.length_pos_of_mem (mem_lst.mpr hk)
end My
namespace My
open PySem L2 OF
end My

namespace L2
open PySem PySem.Spec PyProof.Rows
section
variable {X : Cx}
end
end L2
namespace My
open PySem L2 OF
end My
namespace My
open PySem L2 OF
end My

namespace L2
open PySem PySem.Spec PyProof.Rows
section
variable {X : Cx}
end
end L2
namespace My
open PySem L2 OF
end My

namespace L2
open PySem PySem.Spec PyProof.Rows
section
variable {X : Cx}
/-! ### sorted(d), d a dict of fewer than 64 ints -/
theorem call_sortedDs (hc : X.calm = true) : CallR X (.builtin "sorted") (fun xs H Q => ∃ (a : Addr) (kvs : List (Key × V)) (ks : List Int), xs = [.ref a] ∧ H a = some (.dK kvs) ∧ kvs.map (·.1) = ks.map Sum.inl ∧ ks.length < 64 ∧
    ∀ (l : Addr) (ks' : List Int), H l = none → ks'.Perm ks → ks'.Pairwise (· ≤ ·) → Q (.ref l) (upd H l (.lst (ks'.map V.int)))) := by
  intro pins s σ H xs us Q I r h
  obtain ⟨a, kvs, ks, rfl, hH, hks, h64, q⟩ := h
  obtain ⟨u, rfl, ru⟩ := vals1 r
  cases (show u = Value.ref a from ru)
  obtain ⟨z, hd, vs, rel, dd⟩ := dk_of I.hok hH
  obtain ⟨ep, hat⟩ := dd.dictAt
  have hlen : vs.length = ks.length := by
    have e1 := rel.length
    have e2 := congrArg List.length hks
    rw [List.length_map, List.length_map] at e2
    omega
  refine Calls.call_function_entry kind_sorted plain_sorted entry_sorted (args_sorted1 _) ?_
  unfold Builtin.«sorted»
  refine wpAny_bind (m := checkCount "sorted" 1 1 _) (wpAny_pure ?_)
  refine wpAny_bind (PySem.W.kdu_collect (A := X.A.in1) (PySem.W.kdl_dict (knd := mixKind X.prog X.w) (kvs := vs) (ep := ep) hd) (I.ok.hd hc) hat (by rw [← rel.length]; exact z) fun h' tk acc hk hacc => ?_)
  have hal : acc.toList.length = vs.length := by rw [Array.length_toList]; exact hacc.1
  have hkeys : vs.map (·.1) = ks.map Sum.inl := rel.keys.symm.trans hks
  have hI : IntsAre acc.toList ks := by
    refine intsAre_of ?_
    have hall : ∀ (j : Nat) (v : Value), acc.toList[j]? = some v → ∃ k, ks[j]? = some k ∧ ∃ t, v = Value.int k t := fun j v e => by
      obtain ⟨k, x, hx, hik⟩ := hacc.2 j v (by rw [← Array.getElem?_toList]; exact e)
      have e1 : (vs.map (·.1))[j]? = some k := by rw [List.getElem?_map, hx]; rfl
      rw [hkeys, List.getElem?_map] at e1
      cases e2 : ks[j]? with
      | none => rw [e2] at e1; cases e1
      | some k' =>
        rw [e2] at e1
        have e3 : Sum.inl k' = k := Option.some.inj e1
        subst e3
        exact ⟨k', rfl, Value.isInt_shape hik⟩
    have go : ∀ (zs : List Value) (ns : List Int), zs.length = ns.length → (∀ (j : Nat) (v : Value), zs[j]? = some v → ∃ k, ns[j]? = some k ∧ ∃ t, v = Value.int k t) → Vals (ns.map V.int) zs := by
      intro zs
      induction zs with
      | nil => intro ns hl _; cases ns with
        | nil => exact .nil
        | cons _ _ => simp at hl
      | cons v r ih => intro ns hl hv; cases ns with
        | nil => simp at hl
        | cons n ns =>
          obtain ⟨k, e1, e2⟩ := hv 0 v rfl
          have e3 : n = k := by simpa using e1
          subst e3
          exact .cons e2 (ih ns (by simpa using hl) fun j w e => by simpa using hv (j + 1) w (by simpa using e))
    exact go acc.toList ks (by omega) hall
  refine wpAny_bind (wpAny_newList ?_ (by rw [hal, ← rel.length]; exact z))
  have hoL : (h'.push (seqObj "list" acc.toList.toArray 0)).get? h'.objs.size = some (seqObj "list" acc.toList.toArray 0) := Heap.get?_push_size _ rfl
  show wpAny _ _ _ _ _ { s with heap := h'.push (seqObj "list" acc.toList.toArray 0), toks := tk }
  refine wpAny_bind (wpAny_holding (wpAny_call_entry slot_list_sort ⟨_, hoL, rfl⟩ entry_list_sort (list_sort_tree hoL hI (by rw [hal, hlen]; exact h64) fun out ns' a1 a2 a3 => ⟨_, rfl, ?_⟩) (args_list_sort _)))
  have nD : s.heap.get? h'.objs.size = none := by
    cases e : s.heap.get? h'.objs.size with
    | none => rfl
    | some o => exact absurd (Heap.lt_size (hk _ _ e)) (Nat.lt_irrefl _)
  have keep : ∀ b o, s.heap.get? b = some o → (sortedHeap (h'.push (seqObj "list" acc.toList.toArray 0)) h'.objs.size acc.toList out).get? b = some o := fun b o e => by
    have hlt := Heap.lt_size (hk _ _ e)
    rw [sortedHeap_old (Nat.ne_of_lt hlt) (by rw [size_push']; exact Nat.lt_succ_of_lt hlt)]
    exact Heap.get?_push_of_some _ (hk _ _ e)
  obtain ⟨ee, hat'⟩ := sortedHeap_at (out := out) hoL
  have hH0 : H h'.objs.size = none := by
    cases e : H h'.objs.size with
    | none => rfl
    | some o => obtain ⟨ob, e'⟩ := (I.hok _ _ e).there; rw [nD] at e'; cases e'
  have rv : Vals (ns'.map V.int) out.toList := vals_ints a1
  have hnl : ns'.length = ks.length := a2.length_eq
  exact wpAny_pure ⟨_, rfl, ⟨.ref h'.objs.size, _, I.laidN (o := .lst (ns'.map V.int)) (t' := tk) keep nD ⟨by rw [List.length_map, hnl, ← hlen, ← rel.length]; exact z, out.toList, ee, rv, by simpa using hat'⟩, rfl, q _ ns' hH0 a2 a3⟩⟩
end
end L2
namespace My
open PySem L2 OF
/-- few unlike keys: a short list, or keys below 63 -/
def Few (l : Terms) : Prop := l.length < 64 ∨ ∀ t ∈ l, 0 ≤ t.1 ∧ t.1 < 63
def spFormS (K : PySem.W.Frag) : Sp := fun vs H Q _ => ∃ (a : Addr) (l : Terms), vs = [.ref a] ∧ TL K H a l ∧ l.length ≤ 100000 ∧ Few l ∧
  ∀ (b : Addr) (f : Terms) (H' : Hp), H b = none → TLo H' b f → FormOf f l → f.length ≤ l.length → Same H H' → Q (.ref b) H'
theorem few_dict {d l : Terms} (h : DictOf d l) (hf : Few l) : d.length < 64 := by
  rcases hf with z | z
  · exact Nat.lt_of_le_of_lt h.len z
  · have := nodup_sub_len (B := (List.range 63).map fun k : Nat => (k : Int)) h.nd fun x hx => by
      obtain ⟨t, ht, rfl⟩ := List.mem_map.mp (h.src x hx)
      obtain ⟨a, b⟩ := z t ht
      exact List.mem_map.mpr ⟨t.1.toNat, List.mem_range.mpr (by omega), Int.toNat_of_nonneg a⟩
    rw [List.length_map, List.length_map, List.length_range] at this
    omega
end My

set_option maxHeartbeats 1000000
namespace L2
open PySem PySem.Spec PyProof.Rows
section
variable {X : Cx} {tg : Expr}
/-! ### methods of texts -/
theorem mt_startswith : MtM X "str.startswith" (fun x vs H Q => ∃ i j, x = .str i ∧ vs = [.str j] ∧ Q (.bl (Txt.startswith i j)) H) := by
  intro pins s σ H x xs v us Q I rx rv h
  obtain ⟨i, j, rfl, rfl, q⟩ := h
  obtain ⟨t, rfl⟩ := rx
  obtain ⟨u, rfl, ⟨t2, rfl⟩⟩ := rv.one
  exact SC.startswith ⟨.bl _, H, I, rfl, q⟩
theorem mt_find : MtM X "str.find" (fun x vs H Q => ∃ i j, x = .str i ∧ vs = [.str j] ∧ Q (.int (Txt.find i j)) H) := by
  intro pins s σ H x xs v us Q I rx rv h
  obtain ⟨i, j, rfl, rfl, q⟩ := h
  obtain ⟨t, rfl⟩ := rx
  obtain ⟨u, rfl, ⟨t2, rfl⟩⟩ := rv.one
  exact SC.find ⟨.int _, H, I.tok _, ⟨_, rfl⟩, q⟩
theorem mt_lstrip1 : MtM X "str.lstrip" (fun x vs H Q => ∃ i j, x = .str i ∧ vs = [.str j] ∧ i.length ≤ sizeLine ∧ Q (.str (Txt.lstripChars i j)) H) := by
  intro pins s σ H x xs v us Q I rx rv h
  obtain ⟨i, j, rfl, rfl, hz, q⟩ := h
  obtain ⟨t, rfl⟩ := rx
  obtain ⟨u, rfl, ⟨t2, rfl⟩⟩ := rv.one
  exact call_gives F.slot_str_lstrip (typeIs_str _ _ _) F.entry_str_lstrip (F.args_str_lstrip_2 _ _) (gives_str_lstrip_chars i j t t2) (post_val_or_made (fun _ => fits_stripped _ _ _ hz) fun t' k => ⟨.str _, H, I.tok _, ⟨_, rfl⟩, q⟩)
theorem strsAre_of : ∀ {ys : List Str} {its : List Value}, Vals (ys.map V.str) its → StrsAre its ys
  | [], _, h => by cases h; exact .nil
  | y :: r, _, h => by
    cases h with
    | cons a b => obtain ⟨t, rfl⟩ := a; exact .cons _ _ (strsAre_of b)
theorem mt_join : MtM X "str.join" (fun x vs H Q => ∃ i l ys, x = .str i ∧ vs = [.ref l] ∧ SqL X.K H l (ys.map V.str) ∧ (ys.map (·.length)).sum + ys.length * i.length ≤ 16777216 ∧ Q (.str (Txt.join i ys)) H) := by
  intro pins s σ H x xs v us Q I rx rv h
  obtain ⟨i, l, ys, rfl, rfl, hq, hz, q⟩ := h
  obtain ⟨t, rfl⟩ := rx
  obtain ⟨u, rfl, ru⟩ := rv.one
  cases (show u = Value.ref l from ru)
  obtain ⟨its, r, p, hl⟩ := I.list hq
  exact join_list p.isList (strsAre_of r) hz fun t' k => ⟨.str _, H, I.tok _, ⟨_, rfl⟩, q⟩
theorem vals_strs : ∀ {l : List (Str × Tok)}, Vals ((l.map (·.1)).map V.str) (strValues l)
  | [] => .nil
  | (x, t) :: r => .cons ⟨t, rfl⟩ (vals_strs (l := r))
theorem laid_strs {pins : List (Addr × Obj)} {σ : St} {H : Hp} {s : Shared} {l : List (Str × Tok)} {ys : List Str} {tk : Nat} (I : Inv X pins σ H s) (e : l.map (·.1) = ys) (hz : ys.length ≤ sizeLine) :
    Inv X pins σ (upd H s.heap.objs.size (.lst (ys.map V.str))) { s with heap := s.heap.push { cls := .type "list", data := .seq (strValues l).toArray }, toks := tk } := by
  subst e
  exact I.laid (o := .lst _) (t' := tk) (fun b o q => Heap.get?_push_of_some _ q) (Nat.le_refl _) ⟨by rw [List.length_map]; exact hz, strValues l, 0, vals_strs, Heap.get?_push_size _ rfl⟩
theorem mt_split : MtM X "str.split" (fun x vs H Q => ∃ i j, x = .str i ∧ vs = [.str j] ∧ (j.length == 0) = false ∧ i.length < sizeLine ∧ ∀ a, H a = none → Q (.ref a) (upd H a (.lst ((Txt.split i j).map V.str)))) := by
  intro pins s σ H x xs v us Q I rx rv h
  obtain ⟨i, j, rfl, rfl, hy, hz, q⟩ := h
  obtain ⟨t, rfl⟩ := rx
  obtain ⟨u, rfl, ⟨t2, rfl⟩⟩ := rv.one
  have hj : 1 ≤ j.length := by
    have : j.length ≠ 0 := by simpa using hy
    omega
  have hw := split_weight i j hj
  have hn : (Txt.split i j).length ≤ sizeLine := by omega
  have fin : ∀ (l : List (Str × Tok)) (tk : Nat), l.map (·.1) = Txt.split i j → EP X pins σ Q (.ref s.heap.objs.size) { s with heap := s.heap.push { cls := .type "list", data := .seq (strValues l).toArray }, toks := tk } := fun l tk e =>
    ⟨.ref s.heap.objs.size, _, laid_strs I e hn, rfl, q _ (I.hok.fresh (Nat.le_refl _))⟩
  cases h1 : (decide (i.length < j.length) || decide (Builtin.Str.strKind i < Builtin.Str.strKind j))
  · cases hf : (Builtin.Str.occurrences i j 0 i.length (i.length + 1)).isEmpty
    · have e : Txt.split i j = Builtin.Str.partsBetween i (Builtin.Str.occurrences i j 0 i.length (i.length + 1)) j.length := (if_neg (ne_true_of_eq_false h1)).trans (if_neg (ne_true_of_eq_false hf))
      refine call_meets F.slot_str_split (typeIs_str _ _ _) F.entry_str_split (F.args_str_split_2 _ _) (meets_str_split_sep i j t t2 h1 hy hf (by omega) (by rw [← e]; exact hn)) ?_
      show wants _ _ _ { s with toks := _, heap := s.heap.push { cls := .type "list", data := .seq (strsFrom s.toks (Builtin.Str.partsBetween i (Builtin.Str.occurrences i j 0 i.length (i.length + 1)) j.length)).toArray } }
      rw [strsFrom_eq]
      exact fin _ _ ((numbered_texts _ _).trans e.symm)
    · exact call_meets F.slot_str_split (typeIs_str _ _ _) F.entry_str_split (F.args_str_split_2 _ _) (meets_str_split_not_found i j t t2 h1 hy hf)
        (fin [(i, t)] s.toks ((if_neg (ne_true_of_eq_false h1)).trans (if_pos hf)).symm)
  · exact call_meets F.slot_str_split (typeIs_str _ _ _) F.entry_str_split (F.args_str_split_2 _ _) (meets_str_split_cannot_occur i j t t2 h1)
      (fin [(i, t)] s.toks (if_pos h1).symm)
/-! ### text[lo:hi] -/
theorem sl_str : SlR X (fun x lo hi H Q => ∃ z, x = .str z ∧ z.length ≤ sizeLine ∧ Q (.str (Txt.slice z lo hi)) H) := by
  intro pins s σ H x v vl vu lo hi sl Q I rx hs pl pu h
  obtain ⟨z, rfl, hz, q⟩ := h
  obtain ⟨t, rfl⟩ := rx
  have part : ∀ {v : Value} {o : Option Int}, IsPart v o → ∃ l : Option (Int × Tok), v = partValue l ∧ l.map (·.1) = o := fun p => by
    cases p with
    | none => exact ⟨none, rfl, rfl⟩
    | int i t => exact ⟨some (i, t), rfl, rfl⟩
  obtain ⟨l, rfl, rfl⟩ := part pl
  obtain ⟨u, rfl, rfl⟩ := part pu
  refine ⟨"str", _, F.slot_str_getitem.lookup, typeIs_str _ _ _, ?_⟩
  exact wpAny_getItem_str_slice (l := l) (u := u) (st := none) hs rfl (post_val_or_str ⟨Nat.le_trans (Txt.slice_le z _ _) hz, fun t' k => ⟨.str _, H, I.tok _, ⟨_, rfl⟩, q⟩⟩)
/-! ### int(text) -/
theorem call_int_str : CallR X (.type "int") (fun xs H Q => ∃ x n, xs = [.str x] ∧ intText? x = some n ∧ x.length ≤ 640 ∧ Q (.int n) H) := by
  intro pins s σ H xs us Q I r h
  obtain ⟨x, n, rfl, hn, hl, q⟩ := h
  obtain ⟨u, rfl, ⟨t, rfl⟩⟩ := vals1 r
  exact PySem.W.KIN.call_text hn hl ⟨.int n, H, I.tok _, ⟨_, rfl⟩, q⟩
/-! ### a for over a text -/
def ItC (x : Str) : It := ⟨fun i _ => i < x.cps.size, fun i H v H' => H' = H ∧ ∃ c, x.cps[i]? = some c ∧ v = .str ⟨#[c]⟩, fun i _ => x.cps.size ≤ i⟩
def iStr (te : TE) : TI := fun σ H R => te σ H fun v H1 => ∃ x, v = .str x ∧ x.cps.all (· < 128) = true ∧ R (ItC x) H1
theorem turn_str {P : Program} {w : World} {K : PySem.W.Frag} {tg : Expr} (x : Str) (t : Tok) (it : Addr) : Turn P w K tg (ItC x) [it] it (fun i h => h.IsStrIter it "str_ascii_iterator" x t i) where
  mem := by simp
  obj := fun i h st b hb => by
    have e : b = it := by simpa using hb
    subst e
    obtain ⟨o, e, c, d⟩ := st
    exact ⟨o, e, fun v z => by rw [d] at z; cases z⟩
  keep := fun i h h' st k => let ⟨o, e, c, d⟩ := st; ⟨o, k it (by simp) o e, c, d⟩
  item := by
    intro X hP hw hK hc i pins s σ H E I hf st hg
    subst hP hw hK
    obtain ⟨f0, f1, f2, f3, f4, f5⟩ := hf it (by simp)
    have hx : x.cps[i]? = some (x.cps[i]'hg) := by rw [Array.getElem?_eq_getElem hg]
    refine wpAny_pyNext_ascii_item st hx fun h' st' sb => ?_
    have I1 : Inv X pins σ H { s with heap := h', toks := s.toks + 1 } := I.turned (fun b o hb e => (sb.2 b hb).trans e) f0 f1 f3 f4 f5
    obtain ⟨o, e, c, d⟩ := id st'
    exact ⟨_, rfl, go_of (s := { s with heap := h', toks := s.toks + 1 }) e c d (by decide) ⟨.str ⟨#[x.cps[i]'hg]⟩, H, I1, ⟨_, rfl⟩, ⟨rfl, _, hx, rfl⟩, st', fun b hb => (hf b hb).1⟩⟩
  done := by
    intro X hP hw hK hc i pins s σ H E I hf st hg
    subst hP hw hK
    obtain ⟨f0, f1, f2, f3, f4, f5⟩ := hf it (by simp)
    exact wpAny_pyNext_ascii_end (I.ok.hd hc) st (Array.getElem?_eq_none hg) fun h' eb => ⟨rfl, I.turned (t' := s.toks) (fun b o hb e => eb b o hb e) f0 f1 f3 f4 f5⟩
  self := fun _ _ _ _ _ st h => wpAny_pyIter_striter_ascii st h
theorem pi_str {l : Expr} {tl : TE} (hl : PE X l tl) : PI X tg l (iStr tl) := by
  intro pins s σ H R I h
  refine thn (hl pins s σ H _ I h) fun v s1 ⟨x, H1, I1, r1, q1⟩ => ?_
  obtain ⟨z, e, ha, q⟩ := q1
  subst e
  obtain ⟨t, rfl⟩ := r1
  refine wpAny_pyIter_ascii ha ?_
  refine ⟨s1.heap.objs.size, [s1.heap.objs.size], _, _, H1, rfl, I1.kept (t' := s1.toks) fun b o e => Heap.get?_push_of_some _ e, turn_str z t _, ⟨_, Heap.get?_push_size _ rfl, rfl, rfl⟩, fun b hb => ?_, q⟩
  have e : b = s1.heap.objs.size := by simpa using hb
  subst e
  exact I1.fpOk (Nat.le_refl _) (I1.hok.fresh (Nat.le_refl _))
end
end L2

set_option maxHeartbeats 1000000
namespace My
open PySem L2 OF
/-! ### texts as lists of signs -/
def S (l : List Nat) : Str := ⟨l.toArray⟩
theorem S_list (l : List Nat) : (S l).cps.toList = l := rfl
theorem S_len (l : List Nat) : (S l).length = l.length := rfl
theorem S_of (x : Str) : x = S x.cps.toList := rfl
theorem S_eq {x : Str} {l : List Nat} (h : x.cps.toList = l) : x = S l := by subst h; rfl
theorem S_inj {a b : List Nat} (h : S a = S b) : a = b := congrArg (fun x : Str => x.cps.toList) h
theorem S_cat (a b : List Nat) : S a ++ S b = S (a ++ b) := S_eq (by
  show (a.toArray ++ b.toArray).toList = _
  rw [Array.toList_append])
def joinL (c : Nat) : List (List Nat) → List Nat
  | [] => []
  | [x] => x
  | x :: y :: r => x ++ c :: joinL c (y :: r)
theorem join_S (c : Nat) : ∀ ws : List (List Nat), Str.join (S [c]) (ws.map S) = S (joinL c ws)
  | [] => rfl
  | [x] => rfl
  | x :: y :: r => by
    have ih := join_S c (y :: r)
    show S x ++ S [c] ++ Str.join (S [c]) ((y :: r).map S) = _
    rw [ih, S_cat, S_cat, joinL]
    simp
theorem join_0 : ∀ ws : List (List Nat), Str.join (S []) (ws.map S) = S ws.flatten
  | [] => rfl
  | [x] => by show S x = _; simp
  | x :: y :: r => by
    have ih := join_0 (y :: r)
    show S x ++ S [] ++ Str.join (S []) ((y :: r).map S) = _
    rw [ih, S_cat, S_cat]
    simp
theorem tjoin_S (c : Nat) (ws : List (List Nat)) : Txt.join (S [c]) (ws.map S) = S (joinL c ws) := by
  unfold Txt.join; rw [StrLaws.glued_eq_join, join_S]
theorem tjoin_0 (ws : List (List Nat)) : Txt.join (S []) (ws.map S) = S ws.flatten := by
  unfold Txt.join; rw [StrLaws.glued_eq_join, join_0]
theorem cut_inj {c : Nat} : ∀ {x y A B : List Nat}, c ∉ x → c ∉ y → x ++ c :: A = y ++ c :: B → x = y ∧ A = B
  | [], [], _, _, _, _, h => ⟨rfl, by simpa using h⟩
  | [], b :: y, _, _, _, h2, h => by
    have : c = b := by simpa using (List.cons.inj h).1
    exact absurd (this ▸ List.mem_cons_self) h2
  | a :: x, [], _, _, h1, _, h => by
    have : a = c := by simpa using (List.cons.inj h).1
    exact absurd (this ▸ List.mem_cons_self) h1
  | a :: x, b :: y, A, B, h1, h2, h => by
    obtain ⟨e1, e2⟩ := List.cons.inj h
    obtain ⟨e3, e4⟩ := cut_inj (fun z => h1 (List.mem_cons_of_mem _ z)) (fun z => h2 (List.mem_cons_of_mem _ z)) e2
    exact ⟨by rw [e1, e3], e4⟩
theorem join_inj {c : Nat} : ∀ {ws vs : List (List Nat)}, ws ≠ [] → vs ≠ [] → (∀ w ∈ ws, c ∉ w) → (∀ w ∈ vs, c ∉ w) → joinL c ws = joinL c vs → ws = vs
  | [], _, h, _, _, _, _ => absurd rfl h
  | _ :: _, [], _, h, _, _, _ => absurd rfl h
  | [x], [y], _, _, _, _, h => by
    have : x = y := h
    rw [this]
  | [x], y :: z :: r, _, _, h1, _, h => by
    have h' : x = y ++ c :: joinL c (z :: r) := h
    exact absurd (by rw [h']; simp) (h1 x (by simp))
  | x :: z :: r, [y], _, _, _, h2, h => by
    have h' : x ++ c :: joinL c (z :: r) = y := h
    exact absurd (by rw [← h']; simp) (h2 y (by simp))
  | x :: x2 :: r, y :: y2 :: r', _, _, h1, h2, h => by
    have h' : x ++ c :: joinL c (x2 :: r) = y ++ c :: joinL c (y2 :: r') := h
    obtain ⟨e1, e2⟩ := cut_inj (h1 x (by simp)) (h2 y (by simp)) h'
    rw [e1, join_inj (by simp) (by simp) (fun w hw => h1 w (List.mem_cons_of_mem _ hw)) (fun w hw => h2 w (List.mem_cons_of_mem _ hw)) e2]
theorem split_S {c : Nat} {ws : List (List Nat)} (h0 : ws ≠ []) (hf : ∀ w ∈ ws, c ∉ w) : Txt.split (S (joinL c ws)) (S [c]) = ws.map S := by
  have e1 := StrLaws.join_split (S (joinL c ws)) (S [c])
  have e2 : (Txt.split (S (joinL c ws)) (S [c])) = ((Txt.split (S (joinL c ws)) (S [c])).map fun p => p.cps.toList).map S := by
    rw [List.map_map]
    exact (List.map_id' _).symm.trans (List.map_congr_left fun p _ => S_of p)
  have hfree := StrLaws.split_free (S (joinL c ws)) c
  have hpos := PyProof.Rows.split_pos (S (joinL c ws)) (S [c])
  rw [e2, join_S] at e1
  have e3 := S_inj e1
  have e4 := join_inj (c := c) (fun z => by
      rw [List.map_eq_nil_iff] at z
      rw [z] at hpos
      exact absurd hpos (by decide)) h0 (fun w hw => by
      obtain ⟨p, hp, rfl⟩ := List.mem_map.mp hw
      exact hfree p hp) hf e3
  rw [e2, e4]
/-! ### figures -/
def digs (n : Nat) : List Nat := (Nat.toDigits 10 n).map Char.toNat
theorem str_num (n : Nat) : Str.ofString (toString ((n : Nat) : Int)) = S (digs n) := S_eq (PySem.W.KIN.signs_num n)
theorem digs_val (n : Nat) : NumText.digitsVal (digs n) = n := PySem.W.KIN.val_back n
theorem digs_dig {n c : Nat} (h : c ∈ digs n) : 48 ≤ c ∧ c ≤ 57 := by
  obtain ⟨ch, hch, e⟩ := List.mem_map.mp h
  have r := PyProof.Rows.digit_range (Nat.isDigit_of_mem_toDigits (by decide) (by decide) hch)
  rw [← e]
  exact r
theorem digs_split {m : Nat} (h : ¬ m < 10) : digs m = digs (m / 10) ++ [48 + m % 10] := by
  have hm : m % 10 < 10 := Nat.mod_lt m (by decide)
  have t : Nat.toDigits 10 (m / 10) ++ Nat.toDigits 10 (m % 10) = Nat.toDigits 10 (10 * (m / 10) + m % 10) := Nat.toDigits_append_toDigits (by decide) (by omega) hm
  rw [Nat.div_add_mod] at t
  unfold digs
  rw [← t, List.map_append, Nat.toDigits_of_lt_base hm]
  have : ∀ d : Nat, d < 10 → (Nat.digitChar d).toNat = 48 + d := by decide
  rw [List.map_cons, List.map_nil, this _ hm]
theorem digs_small {m : Nat} (h : m < 10) : digs m = [48 + m] := by
  unfold digs
  rw [Nat.toDigits_of_lt_base h]
  have : ∀ d : Nat, d < 10 → (Nat.digitChar d).toNat = 48 + d := by decide
  rw [List.map_cons, List.map_nil, this _ h]
theorem digs_head : ∀ {m : Nat}, 0 < m → ∃ d r, digs m = (49 + d) :: r ∧ d < 9 := by
  intro m
  induction m using Nat.strongRecOn with
  | _ m ih =>
    intro h0
    by_cases h : m < 10
    · rw [digs_small h]; exact ⟨m - 1, [], by congr 1; omega, by omega⟩
    · obtain ⟨d, r, e, hd⟩ := ih (m / 10) (by omega) (by omega)
      rw [digs_split h, e]; exact ⟨d, r ++ [48 + m % 10], rfl, hd⟩
theorem digs_len : ∀ {k m : Nat}, m < 10 ^ (k + 1) → (digs m).length ≤ k + 1
  | 0, m, h => by rw [digs_small h]; exact Nat.le_refl _
  | k + 1, m, h => by
    by_cases h1 : m < 10
    · rw [digs_small h1]; exact Nat.le_add_left _ _
    · have h2 : m / 10 < 10 ^ (k + 1) := by rw [Nat.div_lt_iff_lt_mul (by decide)]; rw [Nat.pow_succ] at h; exact h
      rw [digs_split h1, List.length_append]
      have := digs_len h2
      simp; omega
theorem digs_one {m : Nat} (h : digs m = [49]) : m = 1 := by
  have := digs_val m
  rw [h] at this
  exact this.symm
/-! ### letters -/
def lets (m : Nat) : List Nat := (lst m).map fun k => 97 + k
theorem lets_let {m c : Nat} (hm : m < 2 ^ 16) (h : c ∈ lets m) : 97 ≤ c ∧ c < 113 := by
  obtain ⟨k, hk, rfl⟩ := List.mem_map.mp h
  have hb := mem_lst.mp hk
  have : k < 16 := by
    rcases Nat.lt_or_ge k 16 with y | y
    · exact y
    · rw [Nat.testBit_lt_two_pow (Nat.lt_of_lt_of_le hm (Nat.pow_le_pow_right (by decide) y))] at hb; cases hb
  omega
theorem lst_16 {m : Nat} (hm : m < 2 ^ 16) : (List.range 16).filter (fun k => m.testBit k) = lst m := by
  have hb : Builtin.Int.intBits (m : Int) ≤ 16 := intBits_lt hm
  obtain ⟨d, hd⟩ : ∃ d, 16 = Builtin.Int.intBits (m : Int) + d := ⟨16 - Builtin.Int.intBits (m : Int), by omega⟩
  unfold lst
  rw [hd, List.range_add, List.filter_append]
  have : List.filter (fun k => m.testBit k) (List.map (Builtin.Int.intBits (m : Int) + ·) (List.range d)) = [] := by
    rw [List.filter_eq_nil_iff]
    intro k hk
    obtain ⟨j, _, rfl⟩ := List.mem_map.mp hk
    have := Nat.testBit_lt_two_pow (Nat.lt_of_lt_of_le (lt_intBits m) (Nat.pow_le_pow_right (by decide) (Nat.le_add_right _ j)) : m < 2 ^ (Builtin.Int.intBits (m : Int) + j))
    rw [this]; decide
  rw [this, List.append_nil]
/-! ### a tuple's text, a form's text -/
def figsN (m n : Nat) : List Nat := if n = 1 ∧ m ≠ 0 then [] else digs n
def wordN (m n : Nat) : List Nat := (if n = 1 ∧ m ≠ 0 then [] else digs n) ++ lets m
theorem figs_len {m n : Nat} (hn : n < 10 ^ 63) : (figsN m n).length ≤ 63 := by
  unfold figsN
  split
  · exact Nat.zero_le _
  · exact digs_len (k := 62) hn
theorem figs_dig {m n c : Nat} (h : c ∈ figsN m n) : 48 ≤ c ∧ c ≤ 57 := by
  unfold figsN at h
  split at h
  · cases h
  · exact digs_dig h
def wordT (t : Int × Int) : List Nat := wordN t.1.toNat t.2.natAbs
def sgn (n : Int) : Nat := if n < 0 then 45 else 43
def partT (t : Int × Int) : List Nat := [32, sgn t.2, 32] ++ wordT t
def aheadL (n : Int) : List Nat := if n < 0 then [45] else []
def txt : Terms → List Nat
  | [] => [48]
  | t :: r => aheadL t.2 ++ wordT t ++ r.flatMap partT
def wordsL : Terms → List (List Nat)
  | [] => [[48]]
  | t :: r => (aheadL t.2 ++ wordT t) :: r.flatMap fun u => [[sgn u.2], wordT u]
theorem join_tail (a : List Nat) : ∀ r : Terms, joinL 32 (a :: r.flatMap fun u => [[sgn u.2], wordT u]) = a ++ r.flatMap partT
  | [] => by show a = _; simp
  | u :: r => by
    have ih := join_tail (wordT u) r
    show a ++ 32 :: ([sgn u.2] ++ 32 :: joinL 32 (wordT u :: r.flatMap fun u => [[sgn u.2], wordT u])) = _
    rw [ih]
    unfold partT
    simp
theorem join_words (f : Terms) : joinL 32 (wordsL f) = txt f := by
  cases f with
  | nil => rfl
  | cons t r => exact join_tail _ r
/-- a form that may be written: its sets of sixteen unknowns, its numbers not 0, of few figures -/
def SayOk (t : Int × Int) : Prop := 0 ≤ t.1 ∧ t.1 < 2 ^ 16 ∧ t.2 ≠ 0 ∧ t.2.natAbs < 10 ^ 63
theorem word_signs {m n c : Nat} (hm : m < 2 ^ 16) (h : c ∈ wordN m n) : (48 ≤ c ∧ c ≤ 57) ∨ (97 ≤ c ∧ c < 113) := by
  unfold wordN at h
  rcases List.mem_append.mp h with z | z
  · split at z
    · cases z
    · exact .inl (digs_dig z)
  · exact .inr (lets_let hm z)
theorem lets_len {m : Nat} (hm : m < 2 ^ 16) : (lets m).length ≤ 16 := by
  unfold lets
  rw [List.length_map, ← lst_16 hm]
  exact Nat.le_trans (List.length_filter_le _ _) (by rw [List.length_range]; exact Nat.le_refl _)
theorem word_len {m n : Nat} (hm : m < 2 ^ 16) (hn : n < 10 ^ 63) : (wordN m n).length ≤ 79 := by
  unfold wordN
  rw [List.length_append]
  have h1 := lets_len hm
  have h2 : (digs n).length ≤ 63 := digs_len (k := 62) hn
  split
  · simp; omega
  · omega
end My
namespace My
open PySem L2 OF
theorem lit_e : ("" : Str) = S [] := by decide +kernel
theorem lit_0 : ("0" : Str) = S [48] := by decide +kernel
theorem lit_1 : ("1" : Str) = S [49] := by decide +kernel
theorem lit_sp : (" " : Str) = S [32] := by decide +kernel
theorem lit_plus : ("+" : Str) = S [43] := by decide +kernel
theorem lit_minus : ("-" : Str) = S [45] := by decide +kernel
theorem lit_splus : (" + " : Str) = S [32, 43, 32] := by decide +kernel
theorem lit_sminus : (" - " : Str) = S [32, 45, 32] := by decide +kernel
def LET : List Nat := [97, 98, 99, 100, 101, 102, 103, 104, 105, 106, 107, 108, 109, 110, 111, 112]
def FIG : List Nat := [48, 49, 50, 51, 52, 53, 54, 55, 56, 57]
theorem lit_let : ("abcdefghijklmnop" : Str) = S LET := by decide +kernel
theorem lit_fig : ("0123456789" : Str) = S FIG := by decide +kernel
theorem let_at : ∀ k : Nat, k < 16 → LET[k]? = some (97 + k) := by decide
theorem find_let : ∀ k : Nat, k < 16 → Txt.find (S LET) (S [97 + k]) = (k : Int) := by decide +kernel
theorem int_fig : ∀ d : Nat, d < 10 → intText? (S [48 + d]) = some (d : Int) := by decide +kernel
theorem fig_has (c : Nat) : (S FIG).cps.contains c = decide (48 ≤ c ∧ c ≤ 57) := by
  have : (S FIG).cps.contains c = FIG.contains c := by
    show FIG.toArray.contains c = _
    simp
  rw [this]
  unfold FIG
  by_cases h : 48 ≤ c ∧ c ≤ 57
  · rw [decide_eq_true h]
    obtain ⟨d, rfl⟩ : ∃ d, c = 48 + d := ⟨c - 48, by omega⟩
    have : ∀ d, d < 10 → ([48, 49, 50, 51, 52, 53, 54, 55, 56, 57] : List Nat).contains (48 + d) = true := by decide
    exact this d (by omega)
  · rw [decide_eq_false h]
    simp only [List.contains_eq_mem, List.mem_cons, List.not_mem_nil, or_false]
    exact decide_eq_false (by omega)
theorem take_digs : ∀ {d l : List Nat}, (∀ c ∈ d, 48 ≤ c ∧ c ≤ 57) → (∀ c r, l = c :: r → ¬ (48 ≤ c ∧ c ≤ 57)) → ((d ++ l).takeWhile (S FIG).cps.contains).length = d.length
  | [], [], _, _ => rfl
  | [], c :: r, _, h => by
    rw [List.nil_append, List.takeWhile_cons, fig_has, decide_eq_false (h c r rfl)]; rfl
  | c :: d, l, h, h' => by
    rw [List.cons_append, List.takeWhile_cons, fig_has, decide_eq_true (h c (by simp))]
    simp only [if_true, List.length_cons]
    rw [take_digs (fun x hx => h x (List.mem_cons_of_mem _ hx)) h']
theorem lstrip_S {d l : List Nat} (h : ∀ c ∈ d, 48 ≤ c ∧ c ≤ 57) (h' : ∀ c r, l = c :: r → ¬ (48 ≤ c ∧ c ≤ 57)) : Txt.lstripChars (S (d ++ l)) (S FIG) = S l := by
  have e : stripLo (S FIG).cps.contains true (S (d ++ l)) = d.length := by
    unfold stripLo
    rw [if_pos rfl, S_list]; exact take_digs h h'
  have e2 : stripHi (S FIG).cps.contains false (S (d ++ l)) d.length = (d ++ l).length := rfl
  unfold Txt.lstripChars Txt.stripBy stripSame stripped
  rw [e, e2]
  by_cases hd : d = []
  · subst hd; rw [if_pos (by simp [S_len])]; rfl
  · have : d.length ≠ 0 := fun z => hd (List.eq_nil_of_length_eq_zero z)
    rw [if_neg (by simp [this])]
    refine S_eq ?_
    rw [StrLaws.strSub_toList, S_list, List.drop_left, List.length_append]
    exact List.take_of_length_le (by omega)
theorem slice_to {a b : List Nat} : Txt.slice (S (a ++ b)) none (some (a.length : Int)) = S a := by
  have := StrLaws.sliceText_to (x := S (a ++ b)) (j := (a.length : Int)) ⟨Int.natCast_nonneg _, by rw [S_list, List.length_append]; omega⟩
  refine (show Txt.slice (S (a ++ b)) none (some (a.length : Int)) = _ from this).trans ?_
  rw [S_list]
  exact S_eq (by simp)
theorem slice_off {a b : List Nat} : Txt.slice (S (a ++ b)) (some (a.length : Int)) none = S b := by
  have := StrLaws.sliceText_from (x := S (a ++ b)) (i := (a.length : Int)) ⟨Int.natCast_nonneg _, by rw [S_list, List.length_append]; omega⟩
  refine (show Txt.slice (S (a ++ b)) (some (a.length : Int)) none = _ from this).trans ?_
  rw [S_list]
  refine S_eq ?_
  simp
  exact List.take_of_length_le (by omega)
theorem starts_S (x : List Nat) : Txt.startswith (S x) (S [45]) = match x with | [] => false | c :: _ => c == 45 := by
  unfold Txt.startswith
  rw [StrLaws.subAt_eq, S_list, S_list, S_len, S_len]
  cases x with
  | nil => rfl
  | cons c r => simp
end My
namespace My
open PySem L2 OF
theorem inter_at {α β : Type} (A B : α → β) : ∀ (f : List α) (k : Nat), (f.flatMap fun t => [A t, B t])[2 * k]? = f[k]?.map A ∧ (f.flatMap fun t => [A t, B t])[2 * k + 1]? = f[k]?.map B
  | [], k => by simp
  | t :: f, 0 => by simp
  | t :: f, k + 1 => by
    obtain ⟨h1, h2⟩ := inter_at A B f k
    have e1 : 2 * (k + 1) = 2 * k + 1 + 1 := by omega
    have e2 : 2 * (k + 1) + 1 = 2 * k + 1 + 1 + 1 := by omega
    rw [List.flatMap_cons]
    constructor
    · rw [e1]; simpa using h1
    · rw [e2]; simpa using h2
theorem inter_len {α β : Type} (A B : α → β) (f : List α) : (f.flatMap fun t => [A t, B t]).length = 2 * f.length := by
  induction f with
  | nil => rfl
  | cons t f ih => rw [List.flatMap_cons, List.length_append, ih, List.length_cons]; simp; omega
theorem range_map {α β : Type} (A : α → β) (f : List α) : (List.range f.length).filterMap (fun k => f[k]?.map A) = f.map A := by
  apply List.ext_getElem?
  intro i
  have : ∀ (n : Nat) (g : List α), n ≤ g.length → (List.range n).filterMap (fun k => g[k]?.map A) = (g.take n).map A := fun n g => by
    induction n with
    | zero => intro _; rfl
    | succ n ih =>
      intro h
      rw [List.range_succ, List.filterMap_append, ih (by omega), List.take_add_one, List.map_append, List.getElem?_eq_getElem (by omega : n < g.length)]
      simp [List.getElem?_eq_getElem (by omega : n < g.length)]
  rw [this _ f (Nat.le_refl _), List.take_length]
theorem pick_0 {α : Type} (A B : α → V) (f : List α) : pickL 0 (((f.flatMap fun t => [A t, B t]).length - 0 + 1) / 2) (f.flatMap fun t => [A t, B t]) = f.map A := by
  have e : ((f.flatMap fun t => [A t, B t]).length - 0 + 1) / 2 = f.length := by rw [inter_len]; omega
  unfold pickL
  rw [e, ← range_map A f]
  congr 1
  funext k
  rw [Nat.zero_add]; exact (inter_at A B f k).1
theorem pick_1 {α : Type} (A B : α → V) (f : List α) : pickL 1 (((f.flatMap fun t => [A t, B t]).length - 1 + 1) / 2) (f.flatMap fun t => [A t, B t]) = f.map B := by
  have e : ((f.flatMap fun t => [A t, B t]).length - 1 + 1) / 2 = f.length := by rw [inter_len]; omega
  unfold pickL
  rw [e, ← range_map B f]
  congr 1
  funext k
  rw [Nat.add_comm]; exact (inter_at A B f k).2
theorem word_head {t : Int × Int} (h : SayOk t) : ∃ c r, wordT t = c :: r ∧ c ≠ 45 ∧ c ≠ 48 ∧ c ≠ 32 := by
  obtain ⟨h0, h1, h2, h3⟩ := h
  have hm : t.1.toNat < 2 ^ 16 := by omega
  unfold wordT wordN
  by_cases z : t.2.natAbs = 1 ∧ t.1.toNat ≠ 0
  · rw [if_pos z]
    have := lst_pos z.2
    cases e : lst t.1.toNat with
    | nil => rw [e] at this; exact absurd this (by simp)
    | cons k r =>
      refine ⟨97 + k, r.map fun k => 97 + k, by unfold lets; rw [e]; rfl, by omega, by omega, by omega⟩
  · rw [if_neg z]
    obtain ⟨d, r, e, hd⟩ := digs_head (m := t.2.natAbs) (by omega)
    exact ⟨49 + d, r ++ lets t.1.toNat, by rw [e]; rfl, by omega, by omega, by omega⟩
theorem word_free {t : Int × Int} (h : SayOk t) : 32 ∉ wordT t := fun z => by
  have := word_signs (m := t.1.toNat) (n := t.2.natAbs) (c := 32) (by have := h.1; have := h.2.1; omega) z
  omega
theorem words_free {f : Terms} (h : ∀ t ∈ f, SayOk t) : ∀ w ∈ wordsL f, 32 ∉ w := by
  cases f with
  | nil => intro w hw; have : w = [48] := by simpa [wordsL] using hw
           rw [this]; decide
  | cons t r =>
    intro w hw
    rcases List.mem_cons.mp hw with z | z
    · rw [z]
      intro y
      rcases List.mem_append.mp y with y | y
      · unfold aheadL at y; split at y
        · simp at y
        · cases y
      · exact word_free (h t (by simp)) y
    · obtain ⟨u, hu, hw2⟩ := List.mem_flatMap.mp z
      have hw3 : w = [sgn u.2] ∨ w = wordT u := by simpa using hw2
      rcases hw3 with e | e
      · rw [e]; unfold sgn; split <;> simp
      · rw [e]; exact word_free (h u (by simp [hu]))
theorem words_ne (f : Terms) : wordsL f ≠ [] := by cases f <;> simp [wordsL]
theorem split_txt {f : Terms} (h : ∀ t ∈ f, SayOk t) : Txt.split (S (txt f)) (S [32]) = (wordsL f).map S := by
  rw [← join_words f]; exact split_S (words_ne f) (words_free h)
theorem part_len {t : Int × Int} (h : SayOk t) : (partT t).length ≤ 82 := by
  unfold partT
  have : (wordT t).length ≤ 79 := word_len (by have := h.1; have := h.2.1; omega) h.2.2.2
  simp; omega
theorem parts_flat_len : ∀ {r : Terms}, (∀ t ∈ r, SayOk t) → (r.flatMap partT).length ≤ 82 * r.length
  | [], _ => by simp
  | t :: r, h => by
    rw [List.flatMap_cons, List.length_append, List.length_cons]
    have h1 := part_len (h t (by simp))
    have h2 := parts_flat_len (r := r) fun u hu => h u (by simp [hu])
    omega
theorem txt_len {f : Terms} (h : ∀ t ∈ f, SayOk t) : (txt f).length ≤ 82 * f.length + 1 := by
  cases f with
  | nil => decide
  | cons t r =>
    show (aheadL t.2 ++ wordT t ++ r.flatMap partT).length ≤ _
    rw [List.length_append, List.length_append, List.length_cons]
    have h1 : (wordT t).length ≤ 79 := word_len (by have := (h t (by simp)).1; have := (h t (by simp)).2.1; omega) (h t (by simp)).2.2.2
    have h2 := parts_flat_len (r := r) fun u hu => h u (by simp [hu])
    have h3 : (aheadL t.2).length ≤ 1 := by unfold aheadL; split <;> simp
    omega
end My
namespace L2
open PySem PySem.Spec PyProof.Rows
/-- over a text -/
theorem for_str {l : List Nat} {g : TG} {tb : TS} {D : Ends} {σ : St} {H : Hp} (Pv : Nat → St → Hp → Prop) (h0 : Pv 0 σ H)
    (hs : ∀ i c σ H, l[i]? = some c → Pv i σ H → g (.str (My.S [c])) σ H fun σ2 H2 => tb { D with nx := Pv (i + 1), ct := Pv (i + 1), bk := D.nx } σ2 H2) (hd : ∀ σ H, Pv l.length σ H → D.nx σ H) :
    ∃ W : Nat → Nat → St → Hp → Prop, (∃ m, W 0 m σ H) ∧ ∀ i m σ H, W i m σ H →
      ((ItC (My.S l)).stop i H ∧ D.nx σ H) ∨ ((ItC (My.S l)).go i H ∧ ∃ N : St → Hp → Prop, (∀ σ' H', N σ' H' → ∃ m', m' < m ∧ W (i + 1) m' σ' H') ∧ ∀ x H', (ItC (My.S l)).yld i H x H' → g x σ H' fun σ2 H2 => tb { D with nx := N, ct := N, bk := D.nx } σ2 H2) := by
  refine ⟨fun i m σ H => m = l.length - i ∧ i ≤ l.length ∧ Pv i σ H, ⟨l.length, by simp, Nat.zero_le _, h0⟩, ?_⟩
  rintro i m σ H ⟨rfl, hi, p⟩
  by_cases hlt : i < l.length
  · refine .inr ⟨hlt, Pv (i + 1), fun σ' H' p' => ⟨l.length - (i + 1), by omega, rfl, hlt, p'⟩, fun x H' y => ?_⟩
    obtain ⟨rfl, c, hc, rfl⟩ := y
    exact hs i c σ _ (by simpa [My.S] using hc) p
  · have e : i = l.length := by omega
    subst e
    exact .inl ⟨Nat.le_refl _, hd σ H p⟩
end L2
namespace My
open PySem L2 OF
theorem ascii_S {l : List Nat} (h : ∀ c ∈ l, c < 128) : (S l).cps.all (· < 128) = true := by
  show l.toArray.all _ = true
  simpa using h
theorem lets_asc {m : Nat} (hm : m < 2 ^ 16) : ∀ c ∈ lets m, c < 128 := fun c hc => by have := lets_let hm hc; omega
/-- the bits of a set rise -/
theorem lst_rise (m : Nat) : (lst m).Pairwise (· < ·) := by
  unfold lst
  exact List.Pairwise.filter _ List.pairwise_lt_range
theorem sum_bitsS : ∀ (n m : Nat), m < 2 ^ n → (((List.range n).filter fun k => m.testBit k).map fun k => 2 ^ k).sum = m
  | 0, m, h => by have : m = 0 := by omega
                  subst this; rfl
  | n + 1, m, h => by
    rw [List.range_succ, List.filter_append, List.map_append, List.sum_append]
    have hmod : ((List.range n).filter fun k => m.testBit k) = (List.range n).filter fun k => (m % 2 ^ n).testBit k := by
      apply List.filter_congr
      intro k hk
      rw [Nat.testBit_mod_two_pow]
      simp [List.mem_range.mp hk]
    rw [hmod, sum_bitsS n (m % 2 ^ n) (Nat.mod_lt _ (Nat.two_pow_pos n))]
    have e := Nat.mod_add_div m (2 ^ n)
    have hd : m / 2 ^ n < 2 := by rw [Nat.div_lt_iff_lt_mul (Nat.two_pow_pos n)]; rw [Nat.pow_succ] at h; omega
    cases hb : m.testBit n with
    | true =>
      have : m / 2 ^ n = 1 := by rw [Nat.testBit_eq_decide_div_mod_eq] at hb; have := of_decide_eq_true hb; exact (show ∀ x : Nat, x < 2 → x % 2 = 1 → x = 1 by omega) _ hd this
      rw [this] at e
      simp [hb]; omega
    | false =>
      have : m / 2 ^ n = 0 := by rw [Nat.testBit_eq_decide_div_mod_eq] at hb; have := of_decide_eq_false hb; exact (show ∀ x : Nat, x < 2 → ¬ x % 2 = 1 → x = 0 by omega) _ hd this
      rw [this] at e
      simp [hb]; omega
theorem lst_sum (m : Nat) : ((lst m).map fun k => 2 ^ k).sum = m := sum_bitsS _ m (lt_intBits m)
end My
namespace My
open PySem L2 OF
theorem tup_isT {H : Hp} {p : Addr} {t : Int × Int} (h : H p = some (.tup [.int t.1, .int t.2])) : Is H (.ref p) (dT t) := by
  unfold dT Is
  refine ⟨p, _, rfl, h, ?_⟩
  unfold IsDs
  refine ⟨_, _, rfl, (by unfold Is; rfl), ?_⟩
  unfold IsDs
  refine ⟨_, _, rfl, (by unfold Is; rfl), ?_⟩
  unfold IsDs
  rfl
/-- a form that may be written -/
structure SayF (f : Terms) : Prop where
  fm : IsForm f
  ok : ∀ t ∈ f, SayOk t
  len : f.length ≤ 64
theorem SayF.sub {f g : Terms} (h : SayF f) (s : g.Sublist f) : SayF g :=
  ⟨⟨h.fm.rise.sublist s, fun t ht => h.fm.nz t (s.subset ht)⟩, fun t ht => h.ok t (s.subset ht), Nat.le_trans s.length_le h.len⟩
theorem SayF.nil : SayF [] := ⟨⟨List.Pairwise.nil, (fun t ht => by cases ht)⟩, (fun t ht => by cases ht), Nat.zero_le _⟩
def ones (f : Terms) : Terms := f.map fun t => (t.1, if t.2 % 2 = 0 then 1 else -1)
theorem SayF.ones {f : Terms} (h : SayF f) : SayF (ones f) := by
  unfold My.ones
  refine ⟨⟨?_, fun t ht => ?_⟩, fun t ht => ?_, by rw [List.length_map]; exact h.len⟩
  · rw [List.pairwise_map]; exact h.fm.rise
  · obtain ⟨u, hu, rfl⟩ := List.mem_map.mp ht
    show (if u.2 % 2 = 0 then (1 : Int) else -1) ≠ 0
    split <;> decide
  · obtain ⟨u, hu, rfl⟩ := List.mem_map.mp ht
    obtain ⟨h0, h1, _, _⟩ := h.ok u hu
    refine ⟨h0, h1, ?_, ?_⟩
    · show (if u.2 % 2 = 0 then (1 : Int) else -1) ≠ 0
      split <;> decide
    · show (if u.2 % 2 = 0 then (1 : Int) else -1).natAbs < 10 ^ 63
      split <;> decide
/-- a slice of a list of tuples -/
theorem cut_tups {H : Hp} {ps : List Addr} {f : Terms} (h : Tups H ps f) (lo hi : Option Int) : ∃ (qs : List Addr) (g : Terms), cutV (ps.map V.ref) lo hi = qs.map V.ref ∧ Tups H qs g ∧ g.Sublist f := by
  refine ⟨(ps.drop (HT.sIx ps.length 0 lo)).take (HT.sIx ps.length ps.length hi - HT.sIx ps.length 0 lo), (f.drop (HT.sIx ps.length 0 lo)).take (HT.sIx ps.length ps.length hi - HT.sIx ps.length 0 lo), ?_, (h.drop _).take _, (List.take_sublist _ _).trans (List.drop_sublist _ _)⟩
  unfold cutV
  rw [List.length_map, ← List.map_drop, ← List.map_take]
theorem fms_at {H : Hp} : ∀ {ps : List Addr} {fs : List Terms} {i : Nat} {p : Addr}, Fms H ps fs → ps[i]? = some p → ∃ f, fs[i]? = some f ∧ TLo H p f
  | _, _, _, _, .nil, e => by simp at e
  | _, _, 0, _, .cons r q, e => by
    rw [List.getElem?_cons_zero] at e
    cases e
    exact ⟨_, rfl, r⟩
  | _, _, i + 1, _, .cons r q, e => by
    obtain ⟨t, h1, h2⟩ := fms_at (i := i) q (by simpa using e)
    exact ⟨t, by simpa using h1, h2⟩
end My

set_option maxHeartbeats 4000000
namespace My
open PySem L2 OF
def hdS : List Stmt → Stmt
  | x :: _ => x
  | [] => .Pass ⟨0, 0, 0, 0⟩
def tlS : List Stmt → List Stmt
  | _ :: r => r
  | [] => []
def bd0 : List Stmt := PySem.Challenge.pw_onceform_k80_forms_written.main.body
def bd1 : List Stmt := tlS bd0
def bd2 : List Stmt := tlS bd1
def bd3 : List Stmt := tlS bd2
def bd4 : List Stmt := tlS bd3
def bd5 : List Stmt := tlS bd4
def bd6 : List Stmt := tlS bd5
def bd7 : List Stmt := tlS bd6
def bd8 : List Stmt := tlS bd7
def bd9 : List Stmt := tlS bd8
def bd10 : List Stmt := tlS bd9
def bd11 : List Stmt := tlS bd10
def bd12 : List Stmt := tlS bd11
def bd13 : List Stmt := tlS bd12
def bd14 : List Stmt := tlS bd13
def bd15 : List Stmt := tlS bd14
def bd16 : List Stmt := tlS bd15
def bd17 : List Stmt := tlS bd16
def bd18 : List Stmt := tlS bd17
def bd19 : List Stmt := tlS bd18
def bd20 : List Stmt := tlS bd19
def bd21 : List Stmt := tlS bd20
def bd22 : List Stmt := tlS bd21
def bd23 : List Stmt := tlS bd22
def bd24 : List Stmt := tlS bd23
def bd25 : List Stmt := tlS bd24
def bd26 : List Stmt := tlS bd25
def bd27 : List Stmt := tlS bd26
def bd28 : List Stmt := tlS bd27
def bd29 : List Stmt := tlS bd28
def bd30 : List Stmt := tlS bd29
def bd31 : List Stmt := tlS bd30
def bd32 : List Stmt := tlS bd31
def bd33 : List Stmt := tlS bd32
abbrev s_doubled : Stmt := hdS bd1
abbrev s_bits_of : Stmt := hdS bd2
abbrev s_listed : Stmt := hdS bd3
abbrev s_is_form : Stmt := hdS bd8
abbrev s_form_shown : Stmt := hdS bd12
abbrev s_shown_sign : Stmt := hdS bd13
abbrev s_shown_tuple : Stmt := hdS bd14
abbrev s_shown_set : Stmt := hdS bd15
abbrev s_form_read : Stmt := hdS bd16
abbrev s_read_tuple : Stmt := hdS bd17
abbrev s_read_number : Stmt := hdS bd18
abbrev s_read_set : Stmt := hdS bd19
abbrev s_law_whole : Stmt := hdS bd21
abbrev s_law_at : Stmt := hdS bd22
abbrev s_law_mixed : Stmt := hdS bd23
abbrev s_law_free : Stmt := hdS bd24
abbrev s_law_big : Stmt := hdS bd25
abbrev s_law_own : Stmt := hdS bd26
abbrev s_law_made : Stmt := hdS bd27
abbrev s_law_form : Stmt := hdS bd28
abbrev s_law_letters_of : Stmt := hdS bd30
abbrev s_law_shown : Stmt := hdS bd31
abbrev s_law_same : Stmt := hdS bd32
abbrev s_law : Stmt := hdS bd33
set_option genInjectivity false
set_option genSizeOf false
structure Def (K : PySem.W.Frag) (mg : Str → Option Value) (x : Str) (st : Stmt) (ps : List Str) (f : Addr) (fd : FuncData) : Prop where
  F : Fun K x x st f fd
  m : mg x = some (.ref f)
  b : Binds K fd ps []
structure Txt (K : PySem.W.Frag) (mg : Str → Option Value) where
  a_law_made : Addr
  fd_law_made : FuncData
  d_law_made : Def K mg "_law_made" s_law_made ["_law_some"] a_law_made fd_law_made
  a_law_mixed : Addr
  fd_law_mixed : FuncData
  d_law_mixed : Def K mg "_law_mixed" s_law_mixed ["_law_cell", "_law_k"] a_law_mixed fd_law_mixed
  a_law_big : Addr
  fd_law_big : FuncData
  d_law_big : Def K mg "_law_big" s_law_big ["_law_cell", "_law_k", "_law_free_here"] a_law_big fd_law_big
  a_law_own : Addr
  fd_law_own : FuncData
  d_law_own : Def K mg "_law_own" s_law_own ["_law_rest"] a_law_own fd_law_own
  a_law_form : Addr
  fd_law_form : FuncData
  d_law_form : Def K mg "_law_form" s_law_form ["_law_cells", "_law_many", "_law_k", "_law_free_here"] a_law_form fd_law_form
  a_shown_sign : Addr
  fd_shown_sign : FuncData
  d_shown_sign : Def K mg "shown_sign" s_shown_sign ["number"] a_shown_sign fd_shown_sign
  a_bits_of : Addr
  fd_bits_of : FuncData
  d_bits_of : Def K mg "bits_of" s_bits_of ["given", "many"] a_bits_of fd_bits_of
  a_listed : Addr
  fd_listed : FuncData
  d_listed : Def K mg "listed" s_listed ["members"] a_listed fd_listed
  a_shown_set : Addr
  fd_shown_set : FuncData
  d_shown_set : Def K mg "shown_set" s_shown_set ["members"] a_shown_set fd_shown_set
  a_shown_tuple : Addr
  fd_shown_tuple : FuncData
  d_shown_tuple : Def K mg "shown_tuple" s_shown_tuple ["members", "number"] a_shown_tuple fd_shown_tuple
  a_form_shown : Addr
  fd_form_shown : FuncData
  d_form_shown : Def K mg "form_shown" s_form_shown ["form"] a_form_shown fd_form_shown
  a_law_at : Addr
  fd_law_at : FuncData
  d_law_at : Def K mg "_law_at" s_law_at ["_law_script", "_law_k"] a_law_at fd_law_at
  a_law_free : Addr
  fd_law_free : FuncData
  d_law_free : Def K mg "_law_free" s_law_free ["_law_script"] a_law_free fd_law_free
  a_law_whole : Addr
  fd_law_whole : FuncData
  d_law_whole : Def K mg "_law_whole" s_law_whole ["_law_found"] a_law_whole fd_law_whole
  a_law_same : Addr
  fd_law_same : FuncData
  d_law_same : Def K mg "_law_same" s_law_same ["_law_found", "_law_due"] a_law_same fd_law_same
  a_law_letters_of : Addr
  fd_law_letters_of : FuncData
  d_law_letters_of : Def K mg "_law_letters_of" s_law_letters_of ["_law_one"] a_law_letters_of fd_law_letters_of
  a_law_shown : Addr
  fd_law_shown : FuncData
  d_law_shown : Def K mg "_law_shown" s_law_shown ["_law_form_here"] a_law_shown fd_law_shown
  a_read_number : Addr
  fd_read_number : FuncData
  d_read_number : Def K mg "read_number" s_read_number ["figures", "letters"] a_read_number fd_read_number
  a_doubled : Addr
  fd_doubled : FuncData
  d_doubled : Def K mg "doubled" s_doubled ["many"] a_doubled fd_doubled
  a_read_set : Addr
  fd_read_set : FuncData
  d_read_set : Def K mg "read_set" s_read_set ["letters"] a_read_set fd_read_set
  a_read_tuple : Addr
  fd_read_tuple : FuncData
  d_read_tuple : Def K mg "read_tuple" s_read_tuple ["sign", "word"] a_read_tuple fd_read_tuple
  a_is_form : Addr
  fd_is_form : FuncData
  d_is_form : Def K mg "is_form" s_is_form ["some"] a_is_form fd_is_form
  a_form_read : Addr
  fd_form_read : FuncData
  d_form_read : Def K mg "form_read" s_form_read ["text"] a_form_read fd_form_read
  n_abs : mg "abs" = none
  n_bool : mg "bool" = none
  n_enumerate : mg "enumerate" = none
  n_int : mg "int" = none
  n_isinstance : mg "isinstance" = none
  n_len : mg "len" = none
  n_list : mg "list" = none
  n_range : mg "range" = none
  n_sorted : mg "sorted" = none
  n_str : mg "str" = none
  n_tuple : mg "tuple" = none
  n_zip : mg "zip" = none
  t_LETTERS : Tok
  g_LETTERS : mg "LETTERS" = some (.str "abcdefghijklmnop" t_LETTERS)
  t_FIGURES : Tok
  g_FIGURES : mg "FIGURES" = some (.str "0123456789" t_FIGURES)
set_option genInjectivity true
set_option genSizeOf true
theorem ps_dead {X : Cx} {st : Stmt} : PS X st (fun _ _ _ => False) := fun _ _ _ _ _ _ h => h.elim
seal L2.PS L2.PSs L2.PE L2.PT L2.PA L2.PI L2.PG L2.PW L2.PO L2.PTs
section
variable {P : Program} {w : World} {K : PySem.W.Frag} {mg : Str → Option Value} {base : Heap}
theorem sc_law_made : FnScope ["_law_some", "_law_numbers", "_law_one", "_law_number"] ["_law_some"] (defScope s_law_made) := ⟨rfl, rfl, rfl, by decide +kernel, rfl, by decide +kernel, by decide +kernel⟩
theorem nd_law_made_1 : (["_law_one", "_law_numbers"] : List Str).Nodup := by decide +kernel
theorem ok_law_made (T : Txt K mg) : FnOk P w K mg base CX0 1 T.a_law_made T.fd_law_made ["_law_some"] (spFormS K) := by
  refine T.d_law_made.F.ok sc_law_made (fun vs H Q E h => ?_) (fun cdv A outer s H vs Q E hr h => ?_)
  · obtain ⟨a, l, rfl, ⟨ps, hS, hT⟩, hlen, hfew, q⟩ := h; rfl
  · obtain ⟨a, l, rfl, ⟨ps, hS, hT⟩, hlen, hfew, q⟩ := h
    have hu := hu_of hr
    refine ⟨_, (pss_cons (ps_set (i := 1) sc_law_made.nd rfl (Or.inr rfl) pe_dnewK)
      (pss_cons (ps_for PassesOwn.never rfl (pi_list (pv 0)) (pg_tup (n := 2) rfl (pgs_cons (pg_name (i := 2) sc_law_made.nd rfl (Or.inl rfl)) (pgs_cons (pg_name (i := 3) sc_law_made.nd rfl (Or.inl rfl)) pgs_nil)))
        (pss_one (ps_dput hu (pv 1) (pv 2) (pe_op op_add (pe_dget2 hu (pv 1) (pv 2) pe_int ⟨rfl, rfl, rfl, rfl⟩) (pv 3)) rfl)))
      (pss_one (ps_ret (pe_comp (g := (gName 0)) ["_law_one", "_law_numbers"] 1 [1] rfl (by exact CompSc.of (defScope s_law_made) ["_law_some", "_law_numbers", "_law_one", "_law_number"] rfl rfl rfl (by decide +kernel) rfl (by decide +kernel) (by decide +kernel)) (pi_list (pe_callB (call_sortedDs rfl) (by rfl) T.n_sorted PyProof.Rows.boot_sorted (pa_cons (pv 1) pa_nil)))
        (fun cl C s₀ H₀ fp => (pg_name (i := 0) nd_law_made_1 rfl (Or.inl rfl) (Or.inr rfl))) (fun cl C s₀ H₀ fp => (pts_one (pt_cmpR op_ne (pe_dget hu (pv 1) (pv 0) (fun _ _ => rfl)) pe_int (nomark _)))) (fun cl C s₀ H₀ fp => (pe_tup (pa_cons (pv 0) (pa_cons (pe_dget hu (pv 1) (pv 0) (fun _ _ => rfl)) pa_nil))))))))), ?_⟩
    intro d hd
    have s0 : Same H (upd H d (.dK [])) := Same.upd hd
    refine ⟨_, rfl, a, rfl, ⟨_, s0.seq hS⟩, ?_⟩
    refine for_list (K := K) (a := a) (xs := ps.map V.ref) (fun i σ H2 => ∃ (dd : Terms) (v2 v3 : Option V), σ = [some (.ref a), some (.ref d), v2, v3] ∧ H2 = upd H d (.dK (dd.map encP)) ∧ DictOf dd (l.take i))
      ⟨[], none, none, rfl, rfl, dictOf_nil⟩ (fun i σ H2 _ ⟨_, _, _, _, e, _⟩ => by rw [e]; exact (Same.upd hd).seq hS) ?_ ?_
    · rintro i y σ H2 hi ⟨dd, v2, v3, rfl, rfl, hdd⟩
      obtain ⟨p, hpi, rfl⟩ := at_ref hi
      obtain ⟨t, ht1, ht2⟩ := hT.at' hpi
      have htk : l.take (i + 1) = l.take i ++ [t] := by rw [List.take_add_one, ht1]; rfl
      have hil : i < l.length := (List.getElem?_eq_some_iff.mp ht1).1
      have hdl : dd.length ≤ i := Nat.le_trans hdd.len (by rw [List.length_take]; omega)
      have hdd2 := hdd.snoc t
      rw [← htk] at hdd2
      refine ⟨p, _, rfl, SqT.of ((Same.upd hd) _ _ ht2), rfl, _, _, rfl, _, _, rfl, rfl, ?_⟩
      refine ⟨_, rfl, d, rfl, .inl ⟨_, .inl upd_same⟩, _, rfl, _, DGet.k (k := Sum.inl t.1) upd_same, ?_⟩
      rw [valV_enc]
      have eg : ((look dd t.1).map V.int).getD (V.int 0) = V.int (getI dd t.1) := by
        unfold getI
        cases look dd t.1 <;> rfl
      rw [eg]
      refine ⟨_, rfl, _, _, rfl, rfl, _, rfl, _, rfl, d, _, rfl, DPut.k (k := Sum.inl t.1) upd_same ?_, putI dd t.1 (getI dd t.1 + t.2), _, _, rfl, ?_, hdd2⟩
      · rw [List.length_map]; exact small6 (by omega)
      · rw [upd_upd, putK_enc]
    · rintro σ H2 ⟨dd, v2, v3, rfl, rfl, hdd⟩
      have hl0 : l.take (ps.map V.ref).length = l := by rw [List.length_map, hT.length, List.take_length]
      rw [hl0] at hdd
      have hddl : dd.length ≤ 100000 := Nat.le_trans hdd.len hlen
      have hd0 : upd H d (.dK (dd.map encP)) d = some (.dK (dd.map encP)) := upd_same
      have s1 : Same H (upd H d (.dK (dd.map encP))) := Same.upd hd
      generalize upd H d (.dK (dd.map encP)) = H1 at hd0 s1
      refine ⟨_, rfl, d, _, dd.map (·.1), rfl, hd0, keys_enc dd, (by rw [List.length_map]; exact few_dict hdd hfew), fun e ks he hperm hsort => ?_⟩
      have hed : d ≠ e := ne_of_none hd0 he
      refine ⟨e, rfl, ⟨_, SqL.of upd_same⟩, ?_⟩
      have hkl : ks.length ≤ 100000 := by have := hperm.length_eq; rw [List.length_map] at this; omega
      refine comp_list (K := K) (a := e) (xs := ks.map V.int) (fun i ys σ H2 => ∃ (v0 : Option V) (qs : List Addr), σ = [v0, some (.ref d)] ∧ ys = qs.map V.ref ∧ Tups H2 qs (formOf dd (ks.take i)) ∧ H2 d = some (.dK (dd.map encP)) ∧ H2 e = some (.lst (ks.map V.int)) ∧ Same H1 H2)
        ⟨none, [], rfl, rfl, .nil, (by rw [upd_ne hed]; exact hd0), upd_same, Same.upd he⟩ (fun i ys σ H2 hi ⟨_, qs, _, e1, e2, _, e4, _⟩ => ⟨SqL.of e4, by
          rw [e1, List.length_map, e2.length]
          have := formOf_length dd (ks.take i)
          rw [List.length_take] at this; omega⟩) (by rw [List.length_map]; exact Nat.le_of_lt (small6 (by omega))) ?_ ?_
      · rintro i y ys σ H2 hi ⟨v0, qs, rfl, rfl, g2, g3, g4, g5⟩
        obtain ⟨k, hki, rfl⟩ := at_int hi
        have hkm : k ∈ dd.map (·.1) := hperm.mem_iff.mp (List.mem_of_getElem? hki)
        obtain ⟨v, hv⟩ : ∃ v, look dd k = some v := by
          cases e : look dd k with
          | none => exact absurd e (look_mem.mpr hkm)
          | some v => exact ⟨v, rfl⟩
        have hgv : getI dd k = v := by unfold getI; rw [hv]; rfl
        have htk : ks.take (i + 1) = ks.take i ++ [k] := by rw [List.take_add_one, hki]; rfl
        have hget : ∀ {H3 : Hp}, H3 d = some (.dK (dd.map encP)) → DGet H3 d (.int k) (some (.int v)) := fun {H3} z => by
          have := DGet.k (k := Sum.inl k) z
          rw [valV_enc, hv] at this
          exact this
        refine ⟨_, rfl, _, rfl, d, _, rfl, hget g3, rfl, _, rfl, ?_⟩
        by_cases hv0 : v = 0
        · subst hv0
          refine iteNS rfl ⟨_, qs, rfl, rfl, ?_, g3, g4, g5⟩
          have : formOf dd (ks.take (i + 1)) = formOf dd (ks.take i) := by
            rw [htk]; unfold formOf; rw [List.filter_append, List.map_append]; simp [hgv]
          rw [this]; exact g2
        · have hne : ¬ (V.int v = V.int 0) := fun z => hv0 (by injection z)
          rw [decide_eq_false hne]
          refine iteT ?_
          refine ⟨_, rfl, _, rfl, _, rfl, d, _, rfl, hget g3, (by show 2 ≤ sizeLine; decide), fun t ht => ?_⟩
          have s3 : Same H2 (upd H2 t (.tup [.int k, .int v])) := Same.upd ht
          refine ⟨_, qs ++ [t], rfl, (by rw [List.map_append]; rfl), ?_, s3 _ _ g3, s3 _ _ g4, g5.trans s3⟩
          have : formOf dd (ks.take (i + 1)) = formOf dd (ks.take i) ++ [(k, v)] := by
            rw [htk]; unfold formOf; rw [List.filter_append, List.map_append]; simp [hgv, hv0]
          rw [this]
          exact Tups.snoc (g2.keep fun b xs z => s3 b _ z) upd_same
      · rintro ys σ H2 ⟨v0, qs, rfl, rfl, g2, g3, g4, g5⟩ D hD
        rw [List.length_map, List.take_length] at g2
        have s3 : Same H2 (upd H2 D (.lst (qs.map V.ref))) := Same.upd hD
        refine q D (formOf dd ks) _ ((s1.trans g5).free hD) ⟨qs, upd_same, g2.keep fun b xs z => s3 b _ z⟩ (formOf_ok hdd hperm hsort) ?_ (s1.trans (g5.trans s3))
        have h1 := formOf_length dd ks
        have h2 := hperm.length_eq; rw [List.length_map] at h2; have h3 := hdd.len
        omega

theorem sc_law_mixed : FnScope ["_law_cell", "_law_k", "_law_number"] ["_law_cell", "_law_k"] (defScope s_law_mixed) := ⟨rfl, rfl, rfl, by decide +kernel, rfl, by decide +kernel, by decide +kernel⟩
theorem ok_law_mixed (T : Txt K mg) : FnOk P w K mg base CX0 1 T.a_law_mixed T.fd_law_mixed ["_law_cell", "_law_k"] spMix := by
  refine T.d_law_mixed.F.ok sc_law_mixed (fun vs H Q E h => ?_) (fun cdv A outer s H vs Q E hr h => ?_)
  · obtain ⟨c, k, rfl, k1, k2, q⟩ := h; rfl
  · obtain ⟨c, k, rfl, k1, k2, q⟩ := h
    have hu := hu_of hr
    refine ⟨_, (pss_cons (ps_set (i := 2) sc_law_mixed.nd rfl (Or.inl rfl) (pe_op op_mod (pe_op op_add (pe_op op_add (pe_op op_mulO (pv 0) pe_int) (pe_op op_mulO (pe_op op_mulO pe_int (pv 1)) (pv 1))) (pv 1)) pe_int))
      (pss_cons (ps_set (i := 2) sc_law_mixed.nd rfl (Or.inl rfl) (pe_op op_mod (pe_op op_mulO (pv 2) (pv 2)) pe_int))
      (pss_one (ps_ret (pe_op op_mod (pe_op op_mulO (pv 2) pe_int) pe_int))))), ?_⟩
    refine ⟨_, rfl, _, _, rfl, rfl, mulR (by decide) (by decide), _, rfl, _, _, rfl, rfl, mulL (by decide) (by decide), _, rfl, _, _, rfl, rfl, mulR k1 k2, _, _, rfl, rfl, _, rfl, _, _, rfl, rfl, _, _, rfl, rfl, (by show (0 : Int) < 2147483647; decide), ?_⟩
    generalize hz : (c * 1103515245 + 7919 * k * k + k) % 2147483647 = z
    have z1 : 0 ≤ z := by rw [← hz]; exact Int.emod_nonneg _ (by decide)
    have z2 : z < 2147483647 := by rw [← hz]; exact Int.emod_lt_of_pos _ (by decide)
    refine ⟨_, rfl, _, rfl, _, _, rfl, rfl, mulL (by omega) (by omega), _, _, rfl, rfl, (by show (0 : Int) < 2147483629; decide), ?_⟩
    refine ⟨_, rfl, _, _, rfl, rfl, mulR (by decide) (by decide), _, _, rfl, rfl, (by show (0 : Int) < 2147483587; decide), ?_⟩
    exact q _ (Int.emod_nonneg _ (by decide)) (Int.emod_lt_of_pos _ (by decide))

theorem sc_law_big : FnScope ["_law_cell", "_law_k", "_law_free_here", "_law_number"] ["_law_cell", "_law_k", "_law_free_here"] (defScope s_law_big) := ⟨rfl, rfl, rfl, by decide +kernel, rfl, by decide +kernel, by decide +kernel⟩
theorem ok_law_big (T : Txt K mg) : FnOk P w K mg base CX0 2 T.a_law_big T.fd_law_big ["_law_cell", "_law_k", "_law_free_here"] spBig := by
  refine T.d_law_big.F.ok sc_law_big (fun vs H Q E h => ?_) (fun cdv A outer s H vs Q E hr h => ?_)
  · obtain ⟨c, k, b, rfl, hc, k1, k2, q⟩ := h; rfl
  · obtain ⟨c, k, b, rfl, hc, k1, k2, q⟩ := h
    have hu := hu_of hr
    refine ⟨_, (pss_cons (ps_if (pt_val (pv 2) (fun _ => rfl)) (pss_one (ps_ret (pv 0))) pss_nil)
      (pss_cons (ps_set (i := 3) sc_law_big.nd rfl (Or.inl rfl) (pe_op op_add (pe_op op_mulO (pe_call (ok_law_mixed (P := P) (w := w) (base := base) T) hr (by rfl) T.d_law_mixed.m T.d_law_mixed.F.kp T.d_law_mixed.b .nil pass0 (pa_cons (pv 0) (pa_cons (pv 1) pa_nil))) pe_int) (pe_call (ok_law_mixed (P := P) (w := w) (base := base) T) hr (by rfl) T.d_law_mixed.m T.d_law_mixed.F.kp T.d_law_mixed.b .nil pass0 (pa_cons (pv 0) (pa_cons (pe_op op_add (pv 1) pe_int) pa_nil)))))
      (pss_one (ps_ret (pe_op op_add (pe_op op_mulO (pv 3) pe_int) (pe_call (ok_law_mixed (P := P) (w := w) (base := base) T) hr (by rfl) T.d_law_mixed.m T.d_law_mixed.F.kp T.d_law_mixed.b .nil pass0 (pa_cons (pv 0) (pa_cons (pe_op op_add (pv 1) pe_int) pa_nil)))))))), ?_⟩
    refine ⟨_, rfl, _, rfl, ?_⟩
    cases b with
    | true => exact iteT ⟨_, rfl, q c hc⟩
    | false =>
      refine iteF ?_
      refine ⟨_, rfl, _, rfl, c, k, rfl, by omega, by omega, fun r r1 r2 => ⟨_, _, rfl, rfl, mulR (by decide) (by decide), _, rfl, _, rfl, _, _, rfl, rfl, c, k + 90, rfl, by omega, by omega, fun r' r1' r2' => ⟨_, _, rfl, rfl, ?_⟩⟩⟩
      refine ⟨_, rfl, _, _, rfl, rfl, mulR (by decide) (by decide), _, rfl, _, rfl, _, _, rfl, rfl, c, k + 200, rfl, by omega, by omega, fun r3 r13 r23 => ⟨_, _, rfl, rfl, ?_⟩⟩
      exact q _ (Wd.small (by omega))

theorem sc_law_own : FnScope ["_law_rest"] ["_law_rest"] (defScope s_law_own) := ⟨rfl, rfl, rfl, by decide +kernel, rfl, by decide +kernel, by decide +kernel⟩
theorem ok_law_own (T : Txt K mg) : FnOk P w K mg base CX0 1 T.a_law_own T.fd_law_own ["_law_rest"] spOwn := by
  refine T.d_law_own.F.ok sc_law_own (fun vs H Q E h => ?_) (fun cdv A outer s H vs Q E hr h => ?_)
  · obtain ⟨r, rfl, hr0, q⟩ := h; rfl
  · obtain ⟨r, rfl, hr0, q⟩ := h
    have hu := hu_of hr
    refine ⟨_, (pss_cons (ps_if (pt_cmpR op_eq (pe_op op_mod (pv 0) pe_int) pe_int (nomark _)) (pss_one (ps_ret (pe_op op_sub (pe_op op_mod (pe_op op_mulO (pe_op op_fdivG (pv 0) pe_int) (pe_op op_add (pe_op op_pow pe_int pe_int) pe_int)) (pe_op op_add (pe_op op_mulO pe_int (pe_op op_pow pe_int pe_int)) pe_int)) (pe_op op_pow pe_int pe_int)))) pss_nil)
      (pss_one (ps_ret (pe_op op_sub (pe_op op_mod (pe_op op_fdivG (pv 0) pe_int) pe_int) pe_int)))), ?_⟩
    have e58 : (10 : Int) ^ (58 : Int).toNat = 10000000000000000000000000000000000000000000000000000000000 := by decide
    refine ⟨_, rfl, _, _, rfl, rfl, (by show (0 : Int) < 4; decide), rfl, _, rfl, ?_⟩
    refine ite2 (fun _ => ?_) (fun _ => ?_)
    · refine ⟨_, rfl, _, _, rfl, rfl, divG_of (by decide) (by decide), _, _, rfl, rfl, ⟨by decide, by decide, by decide⟩, _, _, rfl, rfl, _, _, rfl, rfl, (hr0.div 4).mul (by decide), _, _, rfl, rfl, ⟨by decide, by decide, by decide⟩, _, _, rfl, rfl, mulL (by decide) (by decide), _, _, rfl, rfl, _, _, rfl, rfl, (by show (0 : Int) < 2 * 10 ^ (58 : Int).toNat + 1; decide), _, _, rfl, rfl, ⟨by decide, by decide, by decide⟩, _, _, rfl, rfl, ?_⟩
      have g1 := Int.emod_nonneg (r / 4 * (10 ^ (50 : Int).toNat + 151)) (show (2 * 10 ^ (58 : Int).toNat + 1 : Int) ≠ 0 by decide)
      have g2 := Int.emod_lt_of_pos (r / 4 * (10 ^ (50 : Int).toNat + 151)) (show (0 : Int) < (2 * 10 ^ (58 : Int).toNat + 1 : Int) by decide)
      refine q _ ?_ ?_
      · generalize r / 4 * (10 ^ (50 : Int).toNat + 151) % (2 * 10 ^ (58 : Int).toNat + 1) = z at g1 g2 ⊢
        rw [e58] at g2 ⊢; omega
      · generalize r / 4 * (10 ^ (50 : Int).toNat + 151) % (2 * 10 ^ (58 : Int).toNat + 1) = z at g1 g2 ⊢
        rw [e58] at g2 ⊢; omega
    · refine ⟨_, rfl, _, _, rfl, rfl, divG_of (by decide) (by decide), _, _, rfl, rfl, (by show (0 : Int) < 19; decide), _, _, rfl, rfl, q _ ?_ ?_⟩
      · omega
      · omega

theorem sc_law_form : FnScope ["_law_cells", "_law_many", "_law_k", "_law_free_here", "_law_some", "_law_j", "_law_number"] ["_law_cells", "_law_many", "_law_k", "_law_free_here"] (defScope s_law_form) := ⟨rfl, rfl, rfl, by decide +kernel, rfl, by decide +kernel, by decide +kernel⟩
theorem ok_law_form (T : Txt K mg) : FnOk P w K mg base CX0 3 T.a_law_form T.fd_law_form ["_law_cells", "_law_many", "_law_k", "_law_free_here"] (spFormD K) := by
  refine T.d_law_form.F.ok sc_law_form (fun vs H Q E h => ?_) (fun cdv A outer s H vs Q E hr h => ?_)
  · obtain ⟨a, ns, m, k, b, rfl, hS, hl, hw, hm, k1, k2, q⟩ := h; rfl
  · obtain ⟨a, ns, m, k, b, rfl, hS, hl, hw, hm, k1, k2, q⟩ := h
    have hu := hu_of hr
    refine ⟨_, (pss_cons (ps_set (i := 4) sc_law_form.nd rfl (Or.inl rfl) (pe_lst pa_nil))
      (pss_cons (ps_for PassesOwn.never rfl (pi_range1 rfl T.n_range (pa_cons (pe_callB call_len_seq (by rfl) T.n_len PySem.boot_len (pa_cons (pv 0) pa_nil)) pa_nil)) (pg_name (i := 5) sc_law_form.nd rfl (Or.inl rfl))
        (pss_cons (ps_set (i := 6) sc_law_form.nd rfl (Or.inl rfl) (pe_call (ok_law_big (P := P) (w := w) (base := base) T) hr (by rfl) T.d_law_big.m T.d_law_big.F.kp T.d_law_big.b .nil pass0 (pa_cons (pe_ix ix_list (pv 0) (pv 5) (fun _ _ => rfl)) (pa_cons (pe_op op_add (pv 2) (pv 5)) (pa_cons (pv 3) pa_nil)))))
      (pss_one (ps_expr (pe_bm PySem.F.plainAttrs_list PySem.F.slot_list_append PySem.F.type_list_append mt_append (pv 4) (pa_cons (pe_tup (pa_cons (pe_op op_mod (pv 6) (pe_op op_shl pe_int (pv 1))) (pa_cons (pe_call (ok_law_own (P := P) (w := w) (base := base) T) (hr.mono (by decide)) (by rfl) T.d_law_own.m T.d_law_own.F.kp T.d_law_own.b .nil pass0 (pa_cons (pe_op op_fdivG (pv 6) (pe_op op_shl pe_int (pv 1))) pa_nil)) pa_nil))) pa_nil))))))
      (pss_one (ps_ret (pe_call (ok_law_made (P := P) (w := w) (base := base) T) (hr.mono (by decide)) (by rfl) T.d_law_made.m T.d_law_made.F.kp T.d_law_made.b .nil pass0 (pa_cons (pv 4) pa_nil)))))), ?_⟩
    obtain ⟨m1, m2⟩ := pow60 hm
    have sh : ∀ {R : Prop}, R → R := fun h => h
    refine ⟨Nat.zero_le _, fun c hc => ?_⟩
    have s0 : Same H (upd H c (.lst [])) := Same.upd hc
    refine ⟨_, rfl, a, _, rfl, .inl (s0.seq hS), ((ns.map V.int).length : Int), rfl, by omega, by rw [List.length_map]; omega, ?_⟩
    refine for_range (n := (ns.map V.int).length) (fun i σ H2 => ∃ (l : Terms) (ps : List Addr) (v5 v6 : Option V), σ = [some (.ref a), some (.int (m : Int)), some (.int k), some (.bl b), some (.ref c), v5, v6] ∧ H2 c = some (.lst (ps.map V.ref)) ∧ Tups H2 ps l ∧ l.length = i ∧ Drawn m l ∧ Same H H2)
      ⟨[], [], none, none, rfl, upd_same, .nil, rfl, (fun t ht => by cases ht), s0⟩ ?_ ?_
    · rintro i σ H2 hi ⟨l, ps, v5, v6, rfl, h3, h4, h5, h6, h7⟩
      rw [List.length_map] at hi
      obtain ⟨x, hx⟩ : ∃ x, ns[i]? = some x := ⟨_, List.getElem?_eq_getElem hi⟩
      have e0 : (0 : Int) + (i : Int) = (i : Int) := Int.zero_add _
      refine ⟨_, rfl, _, rfl, a, _, _, _, rfl, rfl, h7.seq hS, ?_, _, rfl, _, rfl, _, _, rfl, rfl, _, rfl, x, _, b, rfl, hw x (List.mem_of_getElem? hx), ?_, ?_, fun r hr' => ?_⟩
      · rw [e0]; exact atI_nat (by rw [List.getElem?_map, hx]; rfl)
      · omega
      · omega
      have hps : ps.length = i := by rw [h4.length, h5]
      have e1 : (1 : Int) * 2 ^ ((m : Int)).toNat = 2 ^ m := shl_eq m
      refine ⟨_, rfl, .inl ⟨rfl, _, SqL.of h3⟩, _, rfl, _, rfl, _, _, rfl, rfl, ⟨Int.natCast_nonneg _, by omega, by decide⟩, _, _, rfl, rfl, (by rw [e1]; exact m1), _, rfl, _, rfl, _, _, rfl, rfl, ⟨Int.natCast_nonneg _, by omega, by decide⟩, _, _, rfl, rfl, divG_of (by rw [e1]; exact m1) (by rw [e1]; omega), _, rfl, hr'.div _, fun n n1 n2 => ⟨(by show 2 ≤ sizeLine; decide), fun t ht => ?_⟩⟩
      have hta : t ≠ c := (ne_of_none h3 ht).symm
      refine ⟨c, _, _, rfl, rfl, (by rw [upd_ne hta.symm]; exact h3), ?_, ?_⟩
      · rw [List.length_map, hps]; exact small6 (by omega)
      obtain ⟨⟨ps', z1, z2⟩, z3⟩ := push_tup (x := r % (1 * 2 ^ ((m : Int)).toNat)) (y := n) h3 h4 ht
      refine ⟨l ++ [(r % (1 * 2 ^ ((m : Int)).toNat), n)], ps', _, _, rfl, z1, z2, by simp [h5], fun t' ht' => ?_, fun b' ob e => z3 b' ob (h7 b' ob e) (ne_of_none e hc)⟩
      rcases List.mem_append.mp ht' with z | z
      · exact h6 t' z
      · have e : t' = (r % (1 * 2 ^ ((m : Int)).toNat), n) := by simpa using z
        subst e
        rw [e1]
        exact ⟨Int.emod_nonneg _ (by omega), Int.emod_lt_of_pos _ m1, n1, n2⟩
    · rintro σ H2 ⟨l, ps, v5, v6, rfl, h3, h4, h5, h6, h7⟩
      rw [List.length_map] at h5
      refine ⟨_, rfl, c, l, rfl, TLo.tl ⟨ps, h3, h4⟩, by omega, .inl (by omega), fun b' f H3 hb hT3 hF3 hl3 s3 => ?_⟩
      refine q b' f H3 (h7.free hb) hT3 hF3.toIsForm (hF3.keys fun t ht => ⟨(h6 t ht).1, (h6 t ht).2.1⟩) (fun t ht => Nat.le_trans (hF3.small h6.small t ht) (Nat.le_trans (Nat.mul_le_mul_right _ (by omega : l.length ≤ 63)) (by decide))) (by omega) (h7.trans s3)

def spSign : Sp := fun vs H Q _ => ∃ n : Int, vs = [.int n] ∧ Q (.str (S [32, sgn n, 32])) H
theorem sc_shown_sign : FnScope ["number"] ["number"] (defScope s_shown_sign) := ⟨rfl, rfl, rfl, by decide +kernel, rfl, by decide +kernel, by decide +kernel⟩
theorem ok_shown_sign (T : Txt K mg) : FnOk P w K mg base CX0 1 T.a_shown_sign T.fd_shown_sign ["number"] spSign := by
  refine T.d_shown_sign.F.ok sc_shown_sign (fun vs H Q E h => ?_) (fun cdv A outer s H vs Q E hr h => ?_)
  · obtain ⟨n, rfl, q⟩ := h; rfl
  · obtain ⟨n, rfl, q⟩ := h
    have hu := hu_of hr
    refine ⟨_, (pss_one (ps_ret (pe_ifExp (pt_cmpR op_lt (pv 0) pe_int (nomark _)) pe_str pe_str))), ?_⟩
    refine ⟨_, rfl, _, _, rfl, rfl, _, rfl, ?_⟩
    refine ite2 (fun h => ?_) (fun h => ?_)
    · have h' : n < 0 := of_decide_eq_true h
      have e : sgn n = 45 := if_pos h'
      rw [e] at q
      rw [← lit_sminus] at q; exact q
    · have h' : ¬ n < 0 := fun z => h (decide_eq_true z)
      have e : sgn n = 43 := if_neg h'
      rw [e] at q
      rw [← lit_splus] at q; exact q

def spBits : Sp := fun vs H Q _ => ∃ (g m : Nat), vs = [.int (g : Int), .int (m : Int)] ∧ m ≤ 100000 ∧
  ∀ (D : Addr) (H' : Hp), H D = none → H' D = some (.lst (((List.range m).map fun i : Nat => ((g / 2 ^ i % 2 : Nat) : Int)).map V.int)) → Same H H' → Q (.ref D) H'
theorem sc_bits_of : FnScope ["given", "many", "bits", "k"] ["given", "many"] (defScope s_bits_of) := ⟨rfl, rfl, rfl, by decide +kernel, rfl, by decide +kernel, by decide +kernel⟩
theorem ok_bits_of (T : Txt K mg) : FnOk P w K mg base CX0 1 T.a_bits_of T.fd_bits_of ["given", "many"] spBits := by
  refine T.d_bits_of.F.ok sc_bits_of (fun vs H Q E h => ?_) (fun cdv A outer s H vs Q E hr h => ?_)
  · obtain ⟨g, m, rfl, hm, q⟩ := h; rfl
  · obtain ⟨g, m, rfl, hm, q⟩ := h
    have hu := hu_of hr
    refine ⟨_, (pss_cons (ps_set (i := 2) sc_bits_of.nd rfl (Or.inl rfl) (pe_lst pa_nil))
      (pss_cons (ps_for PassesOwn.never rfl (pi_range1 rfl T.n_range (pa_cons (pv 1) pa_nil)) (pg_name (i := 3) sc_bits_of.nd rfl (Or.inl rfl))
        (pss_cons (ps_expr (pe_bm PySem.F.plainAttrs_list PySem.F.slot_list_append PySem.F.type_list_append mt_append (pv 2) (pa_cons (pe_op op_mod (pv 0) pe_int) pa_nil)))
      (pss_one (ps_set (i := 0) sc_bits_of.nd rfl (Or.inl rfl) (pe_op op_fdivG (pv 0) pe_int)))))
      (pss_one (ps_ret (pv 2))))), ?_⟩
    refine ⟨Nat.zero_le _, fun D hD => ?_⟩
    refine ⟨_, rfl, (m : Int), rfl, by omega, by omega, for_range (n := m) (fun i σ H2 => ∃ v3 : Option V, σ = [some (.int ((g / 2 ^ i : Nat) : Int)), some (.int (m : Int)), some (.ref D), v3] ∧ H2 = upd H D (.lst (((List.range i).map fun i : Nat => ((g / 2 ^ i % 2 : Nat) : Int)).map V.int))) ⟨none, ?_, rfl⟩ ?_ ?_⟩
    · rw [Nat.pow_zero, Nat.div_one]; rfl
    · rintro i σ H2 hi ⟨v3, rfl, rfl⟩
      refine ⟨_, rfl, .inl ⟨rfl, _, SqL.of upd_same⟩, _, rfl, _, _, rfl, rfl, (by show (0 : Int) < 2; decide), D, _, _, rfl, rfl, upd_same, (by rw [List.length_map, List.length_map, List.length_range]; exact small6 (by omega)), ?_⟩
      refine ⟨_, rfl, _, _, rfl, rfl, ⟨by decide, by decide⟩, some (.int (0 + (i : Int))), ?_, ?_⟩
      · show [some (V.int (((g / 2 ^ i : Nat) : Int) / 2)), _, _, _] = _
        rw [show ((g / 2 ^ i : Nat) : Int) / 2 = ((g / 2 ^ (i + 1) : Nat) : Int) by rw [Nat.pow_succ, ← Nat.div_div_eq_div_mul]; norm_cast]
      · rw [upd_upd, List.range_succ, List.map_append, List.map_append]; rfl
    · rintro σ H2 ⟨v3, rfl, rfl⟩
      exact ⟨_, rfl, q D _ hD upd_same (Same.upd hD)⟩

def spListed (K : PySem.W.Frag) : Sp := fun vs H Q _ => ∃ (a : Nat), vs = [.int (a : Int)] ∧ a < 2 ^ 1000 ∧
  ∀ (D : Addr) (H' : Hp), H D = none → H' D = some (.lst (((lst a).map fun k : Nat => (k : Int)).map V.int)) → Same H H' → Q (.ref D) H'
theorem sc_listed : FnScope ["members"] ["members"] (defScope s_listed) := ⟨rfl, rfl, rfl, by decide +kernel, rfl, by decide +kernel, by decide +kernel⟩
theorem nd_listed_1 : (["k", "bit"] : List Str).Nodup := by decide +kernel
theorem ok_listed (T : Txt K mg) : FnOk P w K mg base CX0 2 T.a_listed T.fd_listed ["members"] (spListed K) := by
  refine T.d_listed.F.ok sc_listed (fun vs H Q E h => ?_) (fun cdv A outer s H vs Q E hr h => ?_)
  · obtain ⟨a, rfl, ha, q⟩ := h; rfl
  · obtain ⟨a, rfl, ha, q⟩ := h
    have hu := hu_of hr
    refine ⟨_, (pss_one (ps_ret (pe_comp (g := (gTup K 2 (gCons (gName 0) (gCons (gName 1) gNil)))) ["k", "bit"] 2 [] rfl (by exact CompSc.of (defScope s_listed) ["members"] rfl rfl rfl (by decide +kernel) rfl (by decide +kernel) (by decide +kernel)) (pi_enum rfl T.n_enumerate (pa_cons (pe_call (ok_bits_of (P := P) (w := w) (base := base) T) hr (by rfl) T.d_bits_of.m T.d_bits_of.F.kp T.d_bits_of.b .nil pass0 (pa_cons (pv 0) (pa_cons (pe_bm0 PySem.F.plainAttrs_int PyProof.Rows.slot_int_bit_length PyProof.Rows.type_int_bit_length mt_bit_length (pv 0)) pa_nil))) pa_nil))
        (fun cl C s₀ H₀ fp => (pg_tup (n := 2) rfl (pgs_cons (pg_name (i := 0) nd_listed_1 rfl (Or.inl rfl) (Or.inr rfl)) (pgs_cons (pg_name (i := 1) nd_listed_1 rfl (Or.inl rfl) (Or.inr rfl)) pgs_nil)))) (fun cl C s₀ H₀ fp => (pts_one (pt_cmpR op_eq (pv 1) pe_int (nomark _)))) (fun cl C s₀ H₀ fp => (pv 0))))), ?_⟩
    have hb := intBits_lt ha
    refine ⟨_, rfl, _, rfl, rfl, _, rfl, rfl, a, Builtin.Int.intBits (a : Int), rfl, by omega, fun b H1 hbn hb1 s1 => ?_⟩
    refine ⟨b, rfl, ⟨_, SqL.of hb1⟩, ?_⟩
    refine comp_enum (K := K) (a := b) (xs := ((List.range (Builtin.Int.intBits (a : Int))).map fun i : Nat => ((a / 2 ^ i % 2 : Nat) : Int)).map V.int) (fun i ys σ H2 => ∃ v0 v1 : Option V, σ = [v0, v1] ∧ ys = (((List.range i).filter fun k => a.testBit k).map fun k : Nat => (k : Int)).map V.int ∧ Same H1 H2)
      ⟨none, none, rfl, rfl, Same.refl _⟩ (fun i ys σ H2 hi ⟨_, _, _, e1, e2⟩ => ⟨SqL.of (e2 _ _ hb1), by
        rw [e1, List.length_map, List.length_map]; exact Nat.le_trans (List.length_filter_le _ _) (by rw [List.length_range]; exact Nat.le_refl _)⟩) (by rw [List.length_map, List.length_map, List.length_range]; exact Nat.le_of_lt (small6 (by omega))) ?_ ?_
    · rintro i x ys σ H2 W hi ⟨v0, v1, rfl, rfl, s2⟩ hW
      obtain ⟨n, hn, rfl⟩ := at_int hi
      rw [List.getElem?_map] at hn
      have hil : i < Builtin.Int.intBits (a : Int) := by
        rcases Nat.lt_or_ge i (Builtin.Int.intBits (a : Int)) with z | z
        · exact z
        · rw [List.getElem?_eq_none (by rw [List.length_range]; exact z)] at hn; cases hn
      rw [List.getElem?_range hil] at hn
      have hn' : ((a / 2 ^ i % 2 : Nat) : Int) = n := Option.some.inj hn
      have s3 : Same H2 (upd H2 W (.tup [.int (i : Nat), .int n])) := Same.upd hW
      refine ⟨W, _, rfl, SqT.of upd_same, rfl, _, _, rfl, _, _, rfl, rfl, ?_⟩
      refine ⟨_, rfl, rfl, _, rfl, ?_⟩
      have hbit := Nat.testBit_eq_decide_div_mod_eq (x := a) (i := i)
      by_cases h1 : a / 2 ^ i % 2 = 1
      · have hb1 : a.testBit i = true := by rw [hbit]; exact decide_eq_true h1
        refine iteY (by rw [← hn', h1]; decide) ?_
        refine ⟨_, rfl, _, _, rfl, ?_, s2.trans s3⟩
        rw [List.range_succ, List.filter_append, List.map_append, List.map_append]
        simp [hb1]
      · have hb1 : a.testBit i = false := by rw [hbit]; exact decide_eq_false h1
        have h0 : a / 2 ^ i % 2 = 0 := by have := Nat.mod_lt (a / 2 ^ i) (by decide : 2 > 0); omega
        refine iteN (by rw [← hn', h0]; decide) ⟨_, _, rfl, ?_, s2.trans s3⟩
        rw [List.range_succ, List.filter_append, List.map_append, List.map_append]
        simp [hb1]
    · rintro ys σ H2 ⟨v0, v1, rfl, rfl, s2⟩ D hD
      refine q D _ (s1.free (s2.free hD)) ?_ (s1.trans (s2.trans (Same.upd hD)))
      rw [upd_same, List.length_map, List.length_map, List.length_range]; rfl

def spShSet (K : PySem.W.Frag) : Sp := fun vs H Q _ => ∃ m : Nat, vs = [.int (m : Int)] ∧ m < 2 ^ 16 ∧ ∀ H', Same H H' → Q (.str (S (lets m))) H'
theorem sum_ones : ∀ l : List Nat, ((l.map fun c => S [c]).map (·.length)).sum = l.length
  | [] => rfl
  | c :: l => by rw [List.map_cons, List.map_cons, List.sum_cons, sum_ones l, List.length_cons, S_len]; simp; omega
theorem flat_ones (l : List Nat) : (l.map fun c => [c]).flatten = l := by
  induction l with
  | nil => rfl
  | cons c l ih => rw [List.map_cons, List.flatten_cons, ih]; rfl
theorem join_ones (l : List Nat) : Txt.join (S []) (l.map fun c => S [c]) = S l := by
  have := tjoin_0 (l.map fun c => [c])
  rw [List.map_map, flat_ones] at this
  exact this
theorem sc_shown_set : FnScope ["members"] ["members"] (defScope s_shown_set) := ⟨rfl, rfl, rfl, by decide +kernel, rfl, by decide +kernel, by decide +kernel⟩
theorem nd_shown_set_1 : (["k"] : List Str).Nodup := by decide +kernel
theorem ok_shown_set (T : Txt K mg) : FnOk P w K mg base CX0 3 T.a_shown_set T.fd_shown_set ["members"] (spShSet K) := by
  refine T.d_shown_set.F.ok sc_shown_set (fun vs H Q E h => ?_) (fun cdv A outer s H vs Q E hr h => ?_)
  · obtain ⟨m, rfl, hm, q⟩ := h; rfl
  · obtain ⟨m, rfl, hm, q⟩ := h
    have hu := hu_of hr
    refine ⟨_, (pss_one (ps_ret (pe_bm PySem.F.plainAttrs_str PySem.F.slot_str_join PySem.F.type_str_join mt_join pe_str (pa_cons (pe_comp (g := (gName 0)) ["k"] 1 [] rfl (by exact CompSc.of (defScope s_shown_set) ["members"] rfl rfl rfl (by decide +kernel) rfl (by decide +kernel) (by decide +kernel)) (pi_list (pe_call (ok_listed (P := P) (w := w) (base := base) T) hr (by rfl) T.d_listed.m T.d_listed.F.kp T.d_listed.b .nil pass0 (pa_cons (pv 0) pa_nil)))
        (fun cl C s₀ H₀ fp => (pg_name (i := 0) nd_shown_set_1 rfl (Or.inl rfl) (Or.inr rfl))) (fun cl C s₀ H₀ fp => pts_nil) (fun cl C s₀ H₀ fp => (pe_ix ix_str (pe_glob (v := .str "abcdefghijklmnop") (by rfl) T.g_LETTERS ⟨_, rfl⟩) (pv 0) (fun _ _ => rfl)))) pa_nil)))), ?_⟩
    refine ⟨rfl, ?_⟩
    refine ⟨_, rfl, m, rfl, Nat.lt_of_lt_of_le hm (Nat.pow_le_pow_right (by decide) (by decide)), fun D H1 hD hD1 s1 => ?_⟩
    refine ⟨D, rfl, ⟨_, SqL.of hD1⟩, ?_⟩
    have hll : (lst m).length ≤ 16 := by have := lets_len hm; unfold lets at this; rw [List.length_map] at this; exact this
    refine comp_list (K := K) (a := D) (xs := ((lst m).map fun k : Nat => (k : Int)).map V.int) (fun i ys σ G => ∃ v0 : Option V, σ = [v0] ∧ ys = (((lets m).take i).map fun c => S [c]).map V.str ∧ Same H1 G)
      ⟨none, rfl, rfl, Same.refl _⟩ (fun i ys σ G hi ⟨_, _, e1, e2⟩ => ⟨SqL.of (e2 _ _ hD1), by rw [e1, List.length_map, List.length_map, List.length_take]; exact Nat.min_le_left _ _⟩) (by rw [List.length_map, List.length_map]; exact Nat.le_trans hll (by decide)) ?_ ?_
    · rintro i y ys σ G hi ⟨v0, rfl, rfl, sG⟩
      obtain ⟨x, hx, rfl⟩ := at_int hi
      rw [List.getElem?_map] at hx
      obtain ⟨k, hk, rfl⟩ : ∃ k, (lst m)[i]? = some k ∧ (k : Int) = x := by
        cases e : (lst m)[i]? with
        | none => rw [e] at hx; cases hx
        | some k => rw [e] at hx; exact ⟨k, rfl, Option.some.inj hx⟩
      have hk16 : k < 16 := by
        have := lets_let hm (c := 97 + k) (List.mem_map.mpr ⟨k, List.mem_of_getElem? hk, rfl⟩)
        omega
      unfold gName
      refine tt ?_
      refine ⟨_, rfl, _, _, _, rfl, rfl, (by rw [lit_let, S_len]; show 16 ≤ sizeLine; decide), (by rw [lit_let, S_list]; exact atI_nat (let_at k hk16)), ?_⟩
      refine ⟨_, rfl, ?_, sG⟩
      have : (lets m)[i]? = some (97 + k) := by unfold lets; rw [List.getElem?_map, hk]; rfl
      rw [List.take_add_one, this, List.map_append, List.map_append]; rfl
    · rintro ys σ G ⟨v0, rfl, rfl, sG⟩ E hE
      have hl : (lets m).take ((((lst m).map fun k : Nat => (k : Int)).map V.int).length) = lets m := List.take_of_length_le (by unfold lets; simp)
      rw [hl]
      refine ⟨_, E, (lets m).map fun c => S [c], rfl, rfl, SqL.of upd_same, ?_, ?_⟩
      · rw [sum_ones, lit_e]
        have := lets_len hm
        simp [S_len]; omega
      · rw [lit_e, join_ones]
        exact q _ (s1.trans (sG.trans (Same.upd hE)))

def spShTup (K : PySem.W.Frag) : Sp := fun vs H Q _ => ∃ m n : Nat, vs = [.int (m : Int), .int (n : Int)] ∧ m < 2 ^ 16 ∧ n < 10 ^ 63 ∧ ∀ H', Same H H' → Q (.str (S (wordN m n))) H'
theorem few_bits {n : Nat} (h : n < 10 ^ 63) : (n : Int).natAbs.log2 < 1920 := by
  rw [Int.natAbs_natCast]
  by_cases h0 : n = 0
  · subst h0; decide
  · exact (Nat.log2_lt h0).mpr (Nat.lt_of_lt_of_le h (by decide +kernel))
theorem sc_shown_tuple : FnScope ["members", "number"] ["members", "number"] (defScope s_shown_tuple) := ⟨rfl, rfl, rfl, by decide +kernel, rfl, by decide +kernel, by decide +kernel⟩
theorem ok_shown_tuple (T : Txt K mg) : FnOk P w K mg base CX0 4 T.a_shown_tuple T.fd_shown_tuple ["members", "number"] (spShTup K) := by
  refine T.d_shown_tuple.F.ok sc_shown_tuple (fun vs H Q E h => ?_) (fun cdv A outer s H vs Q E hr h => ?_)
  · obtain ⟨m, n, rfl, hm, hn, q⟩ := h; rfl
  · obtain ⟨m, n, rfl, hm, hn, q⟩ := h
    have hu := hu_of hr
    refine ⟨_, (pss_cons (ps_if (PW.pt (pw_and (pt_cmpR op_eq (pv 1) pe_int (nomark _)) (pw_and1 (pt_cmpR op_ne (pv 0) pe_int (nomark _))))) (pss_one (ps_ret (pe_call (ok_shown_set (P := P) (w := w) (base := base) T) hr (by rfl) T.d_shown_set.m T.d_shown_set.F.kp T.d_shown_set.b .nil pass0 (pa_cons (pv 0) pa_nil)))) pss_nil)
      (pss_one (ps_ret (pe_op op_add_str (pe_callTy call_str_int rfl T.n_str PyProof.Rows.boot_str (pa_cons (pv 1) pa_nil)) (pe_call (ok_shown_set (P := P) (w := w) (base := base) T) hr (by rfl) T.d_shown_set.m T.d_shown_set.F.kp T.d_shown_set.b .nil pass0 (pa_cons (pv 0) pa_nil)))))), ?_⟩
    have fin : ¬ (n = 1 ∧ m ≠ 0) → ∀ H1, Same H H1 → Q (.str (S (digs n) ++ S (lets m))) H1 := fun z H1 s1 => by
      rw [S_cat]
      have e : wordN m n = digs n ++ lets m := by unfold wordN; rw [if_neg z]
      rw [← e]; exact q H1 s1
    have hlen : (S (digs n)).length + (S (lets m)).length ≤ sizeLine := by
      rw [S_len, S_len]
      have h1 : (digs n).length ≤ 63 := digs_len (k := 62) hn
      have h2 := lets_len hm
      exact Nat.le_trans (Nat.add_le_add h1 h2) (by decide)
    refine ⟨_, rfl, rfl, _, rfl, ?_⟩
    refine ite2 (fun h1 => ?_) (fun h1 => ?_)
    · have n1 : n = 1 := by
        have := of_decide_eq_true h1
        injection this with this; omega
      refine ⟨_, rfl, rfl, _, rfl, ?_⟩
      refine ite2 (fun h2 => ?_) (fun h2 => ?_)
      · have m0 : m ≠ 0 := fun z => by rw [z] at h2; simp at h2
        refine ⟨_, rfl, m, rfl, hm, fun H1 s1 => ?_⟩
        have e : wordN m n = lets m := by unfold wordN; rw [if_pos ⟨n1, m0⟩]; rfl
        rw [← e]; exact q H1 s1
      · have z : ¬ (n = 1 ∧ m ≠ 0) := fun z => h2 (by
          have m0 := z.2
          simp [m0])
        refine ⟨_, rfl, _, rfl, few_bits hn, ?_⟩
        rw [str_num]
        exact ⟨_, rfl, m, rfl, hm, fun H1 s1 => ⟨_, _, rfl, rfl, hlen, fin z H1 s1⟩⟩
    · have z : ¬ (n = 1 ∧ m ≠ 0) := fun z => h1 (by rw [z.1]; simp)
      refine ⟨_, rfl, _, rfl, few_bits hn, ?_⟩
      rw [str_num]
      exact ⟨_, rfl, m, rfl, hm, fun H1 s1 => ⟨_, _, rfl, rfl, hlen, fin z H1 s1⟩⟩

def spShown (K : PySem.W.Frag) : Sp := fun vs H Q _ => ∃ (a : Addr) (f : Terms), vs = [.ref a] ∧ TLo H a f ∧ (∀ t ∈ f, SayOk t) ∧ f.length ≤ 64 ∧ ∀ H', Same H H' → Q (.str (S (txt f))) H'
theorem sc_form_shown : FnScope ["form", "parts", "ahead"] ["form"] (defScope s_form_shown) := ⟨rfl, rfl, rfl, by decide +kernel, rfl, by decide +kernel, by decide +kernel⟩
theorem nd_form_shown_1 : (["members", "number"] : List Str).Nodup := by decide +kernel
theorem ok_form_shown (T : Txt K mg) : FnOk P w K mg base CX0 5 T.a_form_shown T.fd_form_shown ["form"] (spShown K) := by
  refine T.d_form_shown.F.ok sc_form_shown (fun vs H Q E h => ?_) (fun cdv A outer s H vs Q E hr h => ?_)
  · obtain ⟨a, f, rfl, hT, hs, hl, q⟩ := h; rfl
  · obtain ⟨a, f, rfl, hT, hs, hl, q⟩ := h
    have hu := hu_of hr
    refine ⟨_, (pss_cons (ps_if (pt_not (pt_truth (pv 0) (fun _ => rfl))) (pss_one (ps_ret pe_str)) pss_nil)
      (pss_cons (ps_setC (i := 1) (g := (gTup K 2 (gCons (gName 0) (gCons (gName 1) gNil)))) ["members", "number"] 2 [] sc_form_shown.nd rfl (Or.inl rfl) rfl (by exact CompSc.of (defScope s_form_shown) ["form", "parts", "ahead"] rfl rfl rfl (by decide +kernel) rfl (by decide +kernel) (by decide +kernel)) (pi_list (pv 0))
        (fun cl C s₀ H₀ fp => (pg_tup (n := 2) rfl (pgs_cons (pg_name (i := 0) nd_form_shown_1 rfl (Or.inl rfl) (Or.inr rfl)) (pgs_cons (pg_name (i := 1) nd_form_shown_1 rfl (Or.inl rfl) (Or.inr rfl)) pgs_nil)))) (fun cl C s₀ H₀ fp => pts_nil) (fun cl C s₀ H₀ fp => (pe_op op_add_str (pe_call (ok_shown_sign (P := P) (w := w) (base := base) T) (hr.mono (by decide)) (by rfl) T.d_shown_sign.m T.d_shown_sign.F.kp T.d_shown_sign.b .nil pass0 (pa_cons (pv 1) pa_nil)) (pe_call (ok_shown_tuple (P := P) (w := w) (base := base) T) hr (by rfl) T.d_shown_tuple.m T.d_shown_tuple.F.kp T.d_shown_tuple.b .nil pass0 (pa_cons (pv 0) (pa_cons (pe_callB call_abs (by rfl) T.n_abs PyProof.Rows.boot_abs (pa_cons (pv 1) pa_nil)) pa_nil))))))
      (pss_cons (ps_set (i := 2) sc_form_shown.nd rfl (Or.inl rfl) (pe_ifExp (pt_cmpR op_lt (pe_ix ix_tup (pe_ix ix_list (pv 0) pe_int (fun _ _ => rfl)) pe_int (fun _ _ => rfl)) pe_int (nomark _)) pe_str pe_str))
      (pss_one (ps_ret (pe_op op_add_str (pv 2) (pe_slice sl_str (pe_bm PySem.F.plainAttrs_str PySem.F.slot_str_join PySem.F.type_str_join mt_join pe_str (pa_cons (pv 1) pa_nil)) (po_some (pe_callB call_len_str (by rfl) T.n_len PySem.boot_len (pa_cons (pe_call (ok_shown_sign (P := P) (w := w) (base := base) T) (hr.mono (by decide)) (by rfl) T.d_shown_sign.m T.d_shown_sign.F.kp T.d_shown_sign.b .nil pass0 (pa_cons (pe_ix ix_tup (pe_ix ix_list (pv 0) pe_int (fun _ _ => rfl)) pe_int (fun _ _ => rfl)) pa_nil)) pa_nil))) po_none))))))), ?_⟩
    obtain ⟨ps, hS, hP⟩ := id hT
    have hpl := hP.length
    cases f with
    | nil =>
      have hn : ps = [] := List.eq_nil_of_length_eq_zero hpl
      refine ⟨_, rfl, false, .inl ⟨_, SqL.of hS, by rw [hn]; rfl⟩, ?_⟩
      refine iteT ?_
      have := q H (Same.refl _)
      rw [show txt [] = [48] from rfl, ← lit_0] at this
      exact this
    | cons t0 r =>
      have hn : ps ≠ [] := fun z => by rw [z] at hpl; simp at hpl
      refine ⟨_, rfl, true, .inl ⟨_, SqL.of hS, by cases ps with | nil => exact absurd rfl hn | cons _ _ => rfl⟩, ?_⟩
      refine iteF ?_
      refine ⟨_, rfl, a, rfl, ⟨_, SqL.of hS⟩, ?_⟩
      have hlf : (t0 :: r).length ≤ 100000 := by omega
      refine comp_list (K := K) (a := a) (xs := ps.map V.ref) (fun i ys σ G => ∃ v0 v1 : Option V, σ = [v0, v1] ∧ ys = (((t0 :: r).take i).map fun t => S (partT t)).map V.str ∧ Same H G)
        ⟨none, none, rfl, rfl, Same.refl _⟩ (fun i ys σ G hi ⟨_, _, _, e1, e2⟩ => ⟨SqL.of (e2 _ _ hS), by rw [e1, List.length_map, List.length_map, List.length_take]; exact Nat.min_le_left _ _⟩) (by rw [List.length_map]; exact Nat.le_of_lt (small6 (by omega))) ?_ ?_
      · rintro i y ys σ G hi ⟨v0, v1, rfl, rfl, sG⟩
        obtain ⟨p, hpi, rfl⟩ := at_ref hi
        obtain ⟨t, ht1, ht2⟩ := hP.at' hpi
        have hok := hs t (List.mem_of_getElem? ht1)
        obtain ⟨h0, h1, h2, h3⟩ := id hok
        refine ⟨p, _, rfl, SqT.of (sG _ _ ht2), rfl, _, _, rfl, _, _, rfl, rfl, ?_⟩
        refine tt ?_
        have ea : (if t.2 < 0 then -t.2 else t.2) = ((t.2.natAbs : Nat) : Int) := by split <;> omega
        have em : t.1 = ((t.1.toNat : Nat) : Int) := (Int.toNat_of_nonneg h0).symm
        refine ⟨_, rfl, t.2, rfl, ?_⟩
        refine ⟨_, rfl, _, rfl, _, rfl, ?_⟩
        refine ⟨t.1.toNat, t.2.natAbs, by rw [ea, ← em]; rfl, by omega, h3, fun G1 s1 => ?_⟩
        have hle : (S [32, sgn t.2, 32]).length + (S (wordN t.1.toNat t.2.natAbs)).length ≤ sizeLine := by
          rw [S_len, S_len]
          exact Nat.le_trans (Nat.add_le_add_left (word_len (by omega) h3) _) (by show 3 + 79 ≤ sizeLine; decide)
        refine ⟨_, _, rfl, rfl, hle, ?_⟩
        refine ⟨_, _, rfl, ?_, sG.trans s1⟩
        rw [S_cat, List.take_add_one, ht1, List.map_append, List.map_append]; rfl
      · rintro ys σ G ⟨v0, v1, rfl, rfl, sG⟩ D hD
        have hl0 : (t0 :: r).take (ps.map V.ref).length = t0 :: r := by rw [List.length_map, hpl, List.take_length]
        rw [hl0]
        have s1 : Same H (upd G D (.lst (((t0 :: r).map fun t => S (partT t)).map V.str))) := sG.trans (Same.upd hD)
        have w1 : upd G D (.lst (((t0 :: r).map fun t => S (partT t)).map V.str)) D = some (.lst (((t0 :: r).map fun t => S (partT t)).map V.str)) := upd_same
        generalize upd G D (.lst (((t0 :: r).map fun t => S (partT t)).map V.str)) = H1 at s1 w1
        cases ps with
        | nil => exact absurd rfl hn
        | cons p0 ps =>
          cases hP with
          | cons hp0 hP =>
            have hS1 := s1 _ _ hS
            have hp1 := s1 _ _ hp0
            have hsum : (((t0 :: r).map fun t => S (partT t)).map (·.length)).sum ≤ 82 * (t0 :: r).length := by
              have go : ∀ l : Terms, (∀ t ∈ l, SayOk t) → ((l.map fun t => S (partT t)).map (·.length)).sum ≤ 82 * l.length := fun l => by
                induction l with
                | nil => intro _; exact Nat.le_refl _
                | cons t l ih =>
                  intro hl'
                  rw [List.map_cons, List.map_cons, List.sum_cons, S_len, List.length_cons]
                  have h1 := part_len (hl' t (by simp))
                  have h2 := ih fun u hu => hl' u (by simp [hu])
                  omega
              exact go _ hs
            have ej : Txt.join (S []) ((t0 :: r).map fun t => S (partT t)) = S ([32, sgn t0.2, 32] ++ (wordT t0 ++ r.flatMap partT)) := by
              have := tjoin_0 ((t0 :: r).map partT)
              rw [List.map_map] at this
              refine (show Txt.join (S []) ((t0 :: r).map (S ∘ partT)) = _ from this).trans ?_
              rw [List.map_cons, List.flatten_cons, ← List.flatMap_def]
              unfold partT
              simp
            have hbig : ([32, sgn t0.2, 32] ++ (wordT t0 ++ r.flatMap partT)).length ≤ 6000 := by
              have h1 := part_len (hs t0 (by simp))
              have h2 := parts_flat_len (r := r) fun u hu => hs u (by simp [hu])
              have h3 : ([32, sgn t0.2, 32] ++ (wordT t0 ++ r.flatMap partT)).length = (partT t0).length + (r.flatMap partT).length := by unfold partT; simp; omega
              simp only [List.length_cons] at hl
              omega
            have fin : ∀ (x : Str), x = S (aheadL t0.2) → (∀ G2, Same H G2 → Q (.str (x ++ S (wordT t0 ++ r.flatMap partT))) G2) := fun x hx G2 s2 => by
              rw [hx, S_cat, ← List.append_assoc]; exact q G2 s2
            have e3 : Txt.slice (S ([32, sgn t0.2, 32] ++ (wordT t0 ++ r.flatMap partT))) (some ((S [32, sgn t0.2, 32]).length : Int)) none = S (wordT t0 ++ r.flatMap partT) := slice_off
            have hjl : (((t0 :: r).map fun t => S (partT t)).map (·.length)).sum + ((t0 :: r).map fun t => S (partT t)).length * (Str.ofString "").length ≤ 16777216 := by
              rw [lit_e, S_len, List.length_nil, Nat.mul_zero]; omega
            have at0 : atI (List.map V.ref (p0 :: ps)) 0 = some (V.ref p0) := atI_nat (xs := List.map V.ref (p0 :: ps)) (j := 0) rfl
            have hx1 : ∀ (x : Str), x = S (aheadL t0.2) → x.length + (S (wordT t0 ++ r.flatMap partT)).length ≤ sizeLine := fun x hx => by
              rw [hx, S_len, S_len]
              have h3 : (aheadL t0.2).length ≤ 1 := by unfold aheadL; split <;> simp
              have h4 : (wordT t0 ++ r.flatMap partT).length ≤ 6000 := by rw [List.length_append] at hbig; omega
              exact Nat.le_trans (Nat.add_le_add h3 h4) (by decide)
            refine ⟨_, rfl, a, _, _, _, rfl, rfl, SqL.of hS1, at0, p0, _, _, _, rfl, rfl, SqT.of hp1, rfl, _, _, rfl, rfl, _, rfl, ?_⟩
            refine ite2 (fun h => ?_) (fun h => ?_)
            · have hx : ("-" : Str) = S (aheadL t0.2) := by rw [lit_minus]; unfold aheadL; rw [if_pos (of_decide_eq_true h)]
              refine ⟨_, rfl, rfl, _, rfl, _, D, _, rfl, rfl, SqL.of w1, hjl, ?_⟩
              refine ⟨_, rfl, a, _, _, _, rfl, rfl, SqL.of hS1, at0, p0, _, _, _, rfl, rfl, SqT.of hp1, rfl, t0.2, rfl, _, rfl, (by show 3 ≤ sizeLine; decide), ?_⟩
              refine ⟨_, rfl, _, rfl, (by rw [lit_e, ej, S_len]; exact Nat.le_trans hbig (by decide)), _, _, rfl, rfl, ?_, ?_⟩
              · rw [lit_e, ej, e3]; exact hx1 _ hx
              · rw [lit_e, ej, e3]; exact fin _ hx _ s1
            · have hx : ("" : Str) = S (aheadL t0.2) := by rw [lit_e]; unfold aheadL; rw [if_neg (fun z => h (decide_eq_true z))]
              refine ⟨_, rfl, rfl, _, rfl, _, D, _, rfl, rfl, SqL.of w1, hjl, ?_⟩
              refine ⟨_, rfl, a, _, _, _, rfl, rfl, SqL.of hS1, at0, p0, _, _, _, rfl, rfl, SqT.of hp1, rfl, t0.2, rfl, _, rfl, (by show 3 ≤ sizeLine; decide), ?_⟩
              refine ⟨_, rfl, _, rfl, (by rw [lit_e, ej, S_len]; exact Nat.le_trans hbig (by decide)), _, _, rfl, rfl, ?_, ?_⟩
              · rw [show Txt.join (Str.ofString "") = Txt.join (S []) by rw [lit_e], ej, e3]; exact hx1 _ hx
              · rw [show Txt.join (Str.ofString "") = Txt.join (S []) by rw [lit_e], ej, e3]; exact fin _ hx _ s1

theorem sc_law_at : FnScope ["_law_script", "_law_k"] ["_law_script", "_law_k"] (defScope s_law_at) := ⟨rfl, rfl, rfl, by decide +kernel, rfl, by decide +kernel, by decide +kernel⟩
theorem ok_law_at (T : Txt K mg) : FnOk P w K mg base CX0 1 T.a_law_at T.fd_law_at ["_law_script", "_law_k"] (spAt K) := by
  refine T.d_law_at.F.ok sc_law_at (fun vs H Q E h => ?_) (fun cdv A outer s H vs Q E hr h => ?_)
  · obtain ⟨a, ns, k, rfl, hS, q⟩ := h; rfl
  · obtain ⟨a, ns, k, rfl, hS, q⟩ := h
    have hu := hu_of hr
    refine ⟨_, (pss_cons (ps_if (pt_cmpR op_lt (pv 1) (pe_callB call_len_seq (by rfl) T.n_len PySem.boot_len (pa_cons (pv 0) pa_nil)) (nomark _)) (pss_one (ps_ret (pe_ix ix_list (pv 0) (pv 1) (fun _ _ => rfl)))) pss_nil)
      (pss_one (ps_ret pe_int))), ?_⟩
    refine ⟨_, rfl, _, rfl, a, _, rfl, .inl hS, _, _, rfl, rfl, _, rfl, ?_⟩
    refine ite2 (fun h1 => ?_) (fun h1 => ?_)
    · have h1' : k < ns.length := by have := of_decide_eq_true h1; rw [List.length_map] at this; omega
      refine ⟨_, rfl, _, rfl, a, _, _, _, rfl, rfl, hS, atI_nat (j := k) (v := V.int (ns.getD k 0)) ?_, q⟩
      rw [List.getElem?_map, List.getElem?_eq_getElem h1', List.getD_eq_getElem?_getD, List.getElem?_eq_getElem h1']; rfl
    · have h1' : ns.length ≤ k := by
        by_cases z : ns.length ≤ k
        · exact z
        · exact absurd (decide_eq_true (by rw [List.length_map]; omega)) h1
      rw [List.getD_eq_getElem?_getD, List.getElem?_eq_none h1'] at q
      exact q

theorem sc_law_free : FnScope ["_law_script"] ["_law_script"] (defScope s_law_free) := ⟨rfl, rfl, rfl, by decide +kernel, rfl, by decide +kernel, by decide +kernel⟩
theorem ok_law_free (T : Txt K mg) : FnOk P w K mg base CX0 2 T.a_law_free T.fd_law_free ["_law_script"] (spFree K) := by
  refine T.d_law_free.F.ok sc_law_free (fun vs H Q E h => ?_) (fun cdv A outer s H vs Q E hr h => ?_)
  · obtain ⟨a, ns, rfl, hS, q⟩ := h; rfl
  · obtain ⟨a, ns, rfl, hS, q⟩ := h
    have hu := hu_of hr
    refine ⟨_, (pss_one (ps_ret (pe_cmpR op_eq (pe_op op_mod (pe_op op_fdivG (pe_call (ok_law_at (P := P) (w := w) (base := base) T) hr (by rfl) T.d_law_at.m T.d_law_at.F.kp T.d_law_at.b .nil pass0 (pa_cons (pv 0) (pa_cons pe_int pa_nil))) pe_int) pe_int) pe_int (nomark _)))), ?_⟩
    exact ⟨_, rfl, a, ns, 0, rfl, hS, _, _, rfl, rfl, divG_of (by decide) (by decide), _, _, rfl, rfl, (by show (0 : Int) < 2; decide), rfl, q _⟩

theorem sc_law_whole : FnScope ["_law_found"] ["_law_found"] (defScope s_law_whole) := ⟨rfl, rfl, rfl, by decide +kernel, rfl, by decide +kernel, by decide +kernel⟩
theorem ok_law_whole (T : Txt K mg) : FnOk P w K mg base CX0 1 T.a_law_whole T.fd_law_whole ["_law_found"] spWhole := by
  refine T.d_law_whole.F.ok sc_law_whole (fun vs H Q E h => ?_) (fun cdv A outer s H vs Q E hr h => ?_)
  · obtain ⟨n, rfl, q⟩ := h; rfl
  · obtain ⟨n, rfl, q⟩ := h
    have hu := hu_of hr
    refine ⟨_, (pss_one (ps_ret (pe_and (pe_callB call_isinstance (by rfl) T.n_isinstance PyProof.Rows.boot_isinstance (pa_cons (pv 0) (pa_cons (pe_bltn (v := .ty "int") (by rfl) T.n_int PyProof.Rows.boot_int rfl) pa_nil))) (pe_one (pe_not (pe_callB call_isinstance (by rfl) T.n_isinstance PyProof.Rows.boot_isinstance (pa_cons (pv 0) (pa_cons (pe_bltn (v := .ty "bool") (by rfl) T.n_bool PyProof.Rows.boot_bool rfl) pa_nil)))))))), ?_⟩
    refine ⟨_, rfl, _, _, _, true, rfl, .int _, kit_same, true, rfl, iteT ?_⟩
    exact ⟨_, rfl, _, _, _, false, rfl, .int _, kit_int_bool, false, rfl, q⟩

def spSameF (K : PySem.W.Frag) : Sp := fun vs H Q _ => ∃ (a b : Addr) (f : Terms), vs = [.ref a, .ref b] ∧ TLo H a f ∧ TLo H b f ∧ f.length ≤ 64 ∧ Q (.bl true) H
theorem sc_law_same : FnScope ["_law_found", "_law_due", "_law_k"] ["_law_found", "_law_due"] (defScope s_law_same) := ⟨rfl, rfl, rfl, by decide +kernel, rfl, by decide +kernel, by decide +kernel⟩
theorem ok_law_same (T : Txt K mg) : FnOk P w K mg base CX0 2 T.a_law_same T.fd_law_same ["_law_found", "_law_due"] (spSameF K) := by
  refine T.d_law_same.F.ok sc_law_same (fun vs H Q E h => ?_) (fun cdv A outer s H vs Q E hr h => ?_)
  · obtain ⟨a, b, f, rfl, hTa, hTb, hl, q⟩ := h; rfl
  · obtain ⟨a, b, f, rfl, hTa, hTb, hl, q⟩ := h
    have hu := hu_of hr
    refine ⟨_, (pss_cons (ps_if (PW.pt (pw_or (pt_not (pt_val (pe_callB call_isinstance (by rfl) T.n_isinstance PyProof.Rows.boot_isinstance (pa_cons (pv 0) (pa_cons (pe_bltn (v := .ty "list") (by rfl) T.n_list PyProof.Rows.boot_list rfl) pa_nil))) (fun _ => rfl))) (pw_or1 (pt_cmpR op_ne (pe_callB call_len_seq (by rfl) T.n_len PySem.boot_len (pa_cons (pv 0) pa_nil)) (pe_callB call_len_seq (by rfl) T.n_len PySem.boot_len (pa_cons (pv 1) pa_nil)) (nomark _))))) (pss_one (ps_ret pe_bl)) pss_nil)
      (pss_cons (ps_for PassesOwn.never rfl (pi_range1 rfl T.n_range (pa_cons (pe_callB call_len_seq (by rfl) T.n_len PySem.boot_len (pa_cons (pv 1) pa_nil)) pa_nil)) (pg_name (i := 2) sc_law_same.nd rfl (Or.inl rfl))
        (pss_cons (ps_if (PW.pt (pw_or (pt_not (pt_val (pe_callB call_isinstance (by rfl) T.n_isinstance PyProof.Rows.boot_isinstance (pa_cons (pe_ix ix_list (pv 0) (pv 2) (fun _ _ => rfl)) (pa_cons (pe_bltn (v := .ty "tuple") (by rfl) T.n_tuple PyProof.Rows.boot_tuple rfl) pa_nil))) (fun _ => rfl))) (pw_or (pt_cmpR op_ne (pe_callB call_len_seq (by rfl) T.n_len PySem.boot_len (pa_cons (pe_ix ix_list (pv 0) (pv 2) (fun _ _ => rfl)) pa_nil)) pe_int (nomark _)) (pw_or1 (pt_cmpR (op_neD (hu60 hr)) (pe_ix ix_list (pv 0) (pv 2) (fun _ _ => rfl)) (pe_ix ix_list (pv 1) (pv 2) (fun _ _ => rfl)) (nomark _)))))) (pss_one (ps_ret pe_bl)) pss_nil)
      (pss_one (ps_if (PW.pt (pw_or (pt_not (pt_val (pe_call (ok_law_whole (P := P) (w := w) (base := base) T) hr (by rfl) T.d_law_whole.m T.d_law_whole.F.kp T.d_law_whole.b .nil pass0 (pa_cons (pe_ix ix_tup (pe_ix ix_list (pv 0) (pv 2) (fun _ _ => rfl)) pe_int (fun _ _ => rfl)) pa_nil)) (fun _ => rfl))) (pw_or1 (pt_not (pt_val (pe_call (ok_law_whole (P := P) (w := w) (base := base) T) hr (by rfl) T.d_law_whole.m T.d_law_whole.F.kp T.d_law_whole.b .nil pass0 (pa_cons (pe_ix ix_tup (pe_ix ix_list (pv 0) (pv 2) (fun _ _ => rfl)) pe_int (fun _ _ => rfl)) pa_nil)) (fun _ => rfl)))))) (pss_one (ps_ret pe_bl)) pss_nil))))
      (pss_one (ps_ret pe_bl)))), ?_⟩
    obtain ⟨ps, hA, hP⟩ := id hTa
    obtain ⟨qs, hB, hQ⟩ := id hTb
    have hpl := hP.length
    have hql := hQ.length
    refine ⟨_, rfl, _, _, _, true, rfl, .lst hA, kit_same, true, rfl, iteF ?_⟩
    refine ⟨_, rfl, a, _, rfl, .inl (SqL.of hA), _, rfl, b, _, rfl, .inl (SqL.of hB), rfl, _, rfl, iteNS (by rw [List.length_map, List.length_map, hpl, hql]) ?_⟩
    refine ⟨_, rfl, b, _, rfl, .inl (SqL.of hB), _, rfl, by omega, by rw [List.length_map, hql]; omega, ?_⟩
    refine for_range (n := (qs.map V.ref).length) (fun i σ G => ∃ v2 : Option V, σ = [some (.ref a), some (.ref b), v2] ∧ G = H) ⟨none, rfl, rfl⟩ ?_ ?_
    · rintro i σ G hi ⟨v2, rfl, rfl⟩
      have e0 : (0 : Int) + (i : Int) = (i : Int) := Int.zero_add _
      rw [List.length_map] at hi
      have hif : i < f.length := by omega
      obtain ⟨t, ht⟩ : ∃ t, f[i]? = some t := ⟨_, List.getElem?_eq_getElem hif⟩
      obtain ⟨p, hp⟩ : ∃ p, ps[i]? = some p := ⟨_, List.getElem?_eq_getElem (by omega)⟩
      obtain ⟨p', hp'⟩ : ∃ p', qs[i]? = some p' := ⟨_, List.getElem?_eq_getElem (by omega)⟩
      obtain ⟨u, hu1, hu2⟩ := hP.at' hp
      obtain ⟨u', hu1', hu2'⟩ := hQ.at' hp'
      rw [ht] at hu1 hu1'
      cases hu1
      cases hu1'
      have at1 : atI (ps.map V.ref) (0 + (i : Int)) = some (V.ref p) := by rw [e0]; exact atI_nat (by rw [List.getElem?_map, hp]; rfl)
      have at2 : atI (qs.map V.ref) (0 + (i : Int)) = some (V.ref p') := by rw [e0]; exact atI_nat (by rw [List.getElem?_map, hp']; rfl)
      unfold gName
      refine ⟨_, rfl, _, rfl, a, _, _, _, rfl, rfl, SqL.of hA, at1, _, _, _, true, rfl, .tup hu2, kit_same, true, rfl, iteF ?_⟩
      refine ⟨_, rfl, _, rfl, a, _, _, _, rfl, rfl, SqL.of hA, at1, p, _, rfl, .inr (SqT.of hu2), rfl, _, rfl, iteNS rfl ?_⟩
      refine ⟨_, rfl, _, rfl, a, _, _, _, rfl, rfl, SqL.of hA, at1, _, rfl, _, rfl, b, _, _, _, rfl, rfl, SqL.of hB, at2, dT t, dT t, tup_isT hu2, tup_isT hu2', (by rw [dep_dT]; decide), _, rfl, ?_⟩
      rw [deq_self]
      refine iteF ?_
      refine ⟨_, rfl, _, rfl, a, _, _, _, rfl, rfl, SqL.of hA, at1, p, _, _, _, rfl, rfl, SqT.of hu2, rfl, _, rfl, true, rfl, iteF ?_⟩
      refine ⟨_, rfl, _, rfl, a, _, _, _, rfl, rfl, SqL.of hA, at1, p, _, _, _, rfl, rfl, SqT.of hu2, rfl, _, rfl, true, rfl, iteF ?_⟩
      exact ⟨_, rfl, rfl⟩
    · rintro σ G ⟨v2, rfl, rfl⟩
      exact q

def spLetters (K : PySem.W.Frag) : Sp := fun vs H Q _ => ∃ m : Nat, vs = [.int (m : Int)] ∧ m < 2 ^ 16 ∧ ∀ H', Same H H' → Q (.str (S (lets m))) H'
theorem sc_law_letters_of : FnScope ["_law_one"] ["_law_one"] (defScope s_law_letters_of) := ⟨rfl, rfl, rfl, by decide +kernel, rfl, by decide +kernel, by decide +kernel⟩
theorem nd_law_letters_of_1 : (["_law_k", "_law_one"] : List Str).Nodup := by decide +kernel
theorem ok_law_letters_of (T : Txt K mg) : FnOk P w K mg base CX0 1 T.a_law_letters_of T.fd_law_letters_of ["_law_one"] (spLetters K) := by
  refine T.d_law_letters_of.F.ok sc_law_letters_of (fun vs H Q E h => ?_) (fun cdv A outer s H vs Q E hr h => ?_)
  · obtain ⟨m, rfl, hm, q⟩ := h; rfl
  · obtain ⟨m, rfl, hm, q⟩ := h
    have hu := hu_of hr
    refine ⟨_, (pss_one (ps_ret (pe_bm PySem.F.plainAttrs_str PySem.F.slot_str_join PySem.F.type_str_join mt_join pe_str (pa_cons (pe_comp (g := (gName 0)) ["_law_k", "_law_one"] 1 [0] rfl (by exact CompSc.of (defScope s_law_letters_of) ["_law_one"] rfl rfl rfl (by decide +kernel) rfl (by decide +kernel) (by decide +kernel)) (pi_range1 rfl T.n_range (pa_cons pe_int pa_nil))
        (fun cl C s₀ H₀ fp => (pg_name (i := 0) nd_law_letters_of_1 rfl (Or.inl rfl) (Or.inr rfl))) (fun cl C s₀ H₀ fp => (pts_one (pt_cmpR op_eq (pe_op op_mod (pe_op op_fdivG (pv 1) (pe_op op_shl pe_int (pv 0))) pe_int) pe_int (nomark _)))) (fun cl C s₀ H₀ fp => (pe_ix ix_str pe_str (pv 0) (fun _ _ => rfl)))) pa_nil)))), ?_⟩
    refine ⟨rfl, ?_⟩
    refine ⟨_, rfl, by decide, by decide, ?_⟩
    refine comp_range (lo := 0) (n := (16 : Int).toNat) (fun i ys σ G => ∃ v0 : Option V, σ = [v0, some (.int (m : Int))] ∧ ys = ((((List.range i).filter fun k => m.testBit k).map fun k => 97 + k).map fun c => S [c]).map V.str ∧ G = H)
      ⟨none, rfl, rfl, rfl⟩ (fun i ys σ G ⟨_, _, e, _⟩ => by rw [e, List.length_map, List.length_map, List.length_map]; exact Nat.le_trans (List.length_filter_le _ _) (by simp)) (by decide) ?_ ?_
    · rintro i ys σ G hi ⟨v0, rfl, rfl, rfl⟩
      have hi' : i < 16 := hi
      unfold gName
      have e0 : (1 : Int) * 2 ^ ((0 + (i : Int))).toNat = ((2 ^ i : Nat) : Int) := by rw [Int.zero_add, shl_eq, pow_cast]
      have hlt : (2 : Nat) ^ i ≤ 2 ^ 16 := Nat.pow_le_pow_right (by decide) (by omega)
      have hpp := Nat.two_pow_pos i
      refine ⟨_, rfl, _, rfl, _, _, rfl, rfl, ⟨by omega, by omega, by decide⟩, _, _, rfl, rfl, (by rw [e0]; exact divG_of (by omega) (by omega)), _, _, rfl, rfl, (by show (0 : Int) < 2; decide), rfl, _, rfl, ?_⟩
      have eb : (m : Int) / (1 * 2 ^ ((0 + (i : Int))).toNat) % 2 = if m.testBit i = true then 1 else 0 := by
        rw [e0, Nat.testBit_eq_decide_div_mod_eq]
        have : ((m : Int) / ((2 ^ i : Nat) : Int) % 2) = ((m / 2 ^ i % 2 : Nat) : Int) := by norm_cast
        rw [this]
        by_cases y : m / 2 ^ i % 2 = 1
        · simp [y]
        · have : m / 2 ^ i % 2 = 0 := by omega
          simp [this]
      show if decide (V.int ((m : Int) / (1 * 2 ^ ((0 + (i : Int))).toNat) % 2) = V.int 1) = true then _ else _
      rw [eb]
      cases hc : m.testBit i
      · refine iteN (by decide) ⟨_, rfl, ?_, rfl⟩
        rw [List.range_succ, List.filter_append]; simp [hc]
      · refine iteY (by decide) ?_
        refine ⟨_, rfl, _, _, _, rfl, rfl, (by rw [lit_let, S_len]; show 16 ≤ sizeLine; decide), (by rw [lit_let, S_list, Int.zero_add]; exact atI_nat (let_at i hi')), ?_⟩
        refine ⟨_, rfl, ?_, rfl⟩
        rw [List.range_succ, List.filter_append]; simp [hc]; rfl
    · rintro ys σ G ⟨v0, rfl, rfl, rfl⟩ E hE
      have e16 : ((List.range (16 : Int).toNat).filter fun k => m.testBit k).map (fun k => 97 + k) = lets m := by
        unfold lets; rw [← lst_16 hm]; rfl
      rw [e16]
      refine ⟨_, E, (lets m).map fun c => S [c], rfl, rfl, SqL.of upd_same, ?_, ?_⟩
      · rw [sum_ones, lit_e]
        have := lets_len hm
        simp [S_len]; omega
      · rw [lit_e, join_ones]
        exact q _ (Same.upd hE)

theorem sc_law_shown : FnScope ["_law_form_here", "_law_words", "_law_one", "_law_number", "_law_figures"] ["_law_form_here"] (defScope s_law_shown) := ⟨rfl, rfl, rfl, by decide +kernel, rfl, by decide +kernel, by decide +kernel⟩
theorem ok_law_shown (T : Txt K mg) : FnOk P w K mg base CX0 2 T.a_law_shown T.fd_law_shown ["_law_form_here"] (spShown K) := by
  refine T.d_law_shown.F.ok sc_law_shown (fun vs H Q E h => ?_) (fun cdv A outer s H vs Q E hr h => ?_)
  · obtain ⟨a, f, rfl, hT, hs, hl, q⟩ := h; rfl
  · obtain ⟨a, f, rfl, hT, hs, hl, q⟩ := h
    have hu := hu_of hr
    refine ⟨_, (pss_cons (ps_set (i := 1) sc_law_shown.nd rfl (Or.inl rfl) (pe_lst pa_nil))
      (pss_cons (ps_for PassesOwn.never rfl (pi_list (pv 0)) (pg_tup (n := 2) rfl (pgs_cons (pg_name (i := 2) sc_law_shown.nd rfl (Or.inl rfl)) (pgs_cons (pg_name (i := 3) sc_law_shown.nd rfl (Or.inl rfl)) pgs_nil)))
        (pss_cons (ps_set (i := 4) sc_law_shown.nd rfl (Or.inl rfl) (pe_callTy call_str_int rfl T.n_str PyProof.Rows.boot_str (pa_cons (pe_callB call_abs (by rfl) T.n_abs PyProof.Rows.boot_abs (pa_cons (pv 3) pa_nil)) pa_nil)))
      (pss_cons (ps_cut (ps_if (PW.pt (pw_and (pt_cmpR op_gt (pv 2) pe_int (nomark _)) (pw_and1 (pt_cmpR op_eq (pe_callB call_abs (by rfl) T.n_abs PyProof.Rows.boot_abs (pa_cons (pv 3) pa_nil)) pe_int (nomark _))))) (pss_one (ps_set (i := 4) sc_law_shown.nd rfl (Or.inl rfl) pe_str)) pss_nil))
      (pss_cons (ps_expr (pe_bm PySem.F.plainAttrs_list PySem.F.slot_list_append PySem.F.type_list_append mt_append (pv 1) (pa_cons (pe_ix ix_list (pe_lst (pa_cons pe_str (pa_cons pe_str pa_nil))) (pe_callTy call_int1 rfl T.n_int PyProof.Rows.boot_int (pa_cons (pe_cmpR op_lt (pv 3) pe_int (nomark _)) pa_nil)) (fun _ _ => rfl)) pa_nil)))
      (pss_one (ps_expr (pe_bm PySem.F.plainAttrs_list PySem.F.slot_list_append PySem.F.type_list_append mt_append (pv 1) (pa_cons (pe_op op_add_str (pv 4) (pe_call (ok_law_letters_of (P := P) (w := w) (base := base) T) hr (by rfl) T.d_law_letters_of.m T.d_law_letters_of.F.kp T.d_law_letters_of.b .nil pass0 (pa_cons (pv 2) pa_nil))) pa_nil))))))))
      (pss_cons (ps_if (pt_cmpR op_eq (pe_callB call_len_seq (by rfl) T.n_len PySem.boot_len (pa_cons (pv 1) pa_nil)) pe_int (nomark _)) (pss_one (ps_ret pe_str)) pss_nil)
      (pss_cons (ps_cut (ps_if (pt_cmpR op_eq (pe_ix ix_list (pv 1) pe_int (fun _ _ => rfl)) pe_str (nomark _)) (pss_one (ps_asg (pe_op op_add_str pe_str (pe_ix ix_list (pv 1) pe_int (fun _ _ => rfl))) (pg_sub (pv 1) pe_int set_list))) pss_nil))
      (pss_one (ps_ret (pe_bm PySem.F.plainAttrs_str PySem.F.slot_str_join PySem.F.type_str_join mt_join pe_str (pa_cons (pe_slice sl_list (pv 1) (po_some pe_int) po_none) pa_nil)))))))), ?_⟩
    obtain ⟨ps, hS, hP⟩ := id hT
    have hpl := hP.length
    refine ⟨Nat.zero_le _, fun c hc => ?_⟩
    have s0 : Same H (upd H c (.lst [])) := Same.upd hc
    refine ⟨_, rfl, a, rfl, ⟨_, SqL.of (s0 _ _ hS)⟩, ?_⟩
    refine for_list (K := K) (a := a) (xs := ps.map V.ref) (fun i σ G => ∃ v2 v3 v4 : Option V, σ = [some (.ref a), some (.ref c), v2, v3, v4] ∧ G c = some (.lst ((f.take i).flatMap fun t => [V.str (S [sgn t.2]), V.str (S (wordT t))])) ∧ Same H G)
      ⟨none, none, none, rfl, upd_same, s0⟩ (fun i σ G _ ⟨_, _, _, _, _, e⟩ => SqL.of (e _ _ hS)) ?_ ?_
    · rintro i y σ G hi ⟨v2, v3, v4, rfl, g1, sG⟩
      obtain ⟨p, hpi, rfl⟩ := at_ref hi
      obtain ⟨t, ht1, ht2⟩ := hP.at' hpi
      have hok := hs t (List.mem_of_getElem? ht1)
      obtain ⟨h0, h1, h2, h3⟩ := id hok
      have hil : i < f.length := (List.getElem?_eq_some_iff.mp ht1).1
      have ea : (if t.2 < 0 then -t.2 else t.2) = ((t.2.natAbs : Nat) : Int) := by split <;> omega
      have em : t.1 = ((t.1.toNat : Nat) : Int) := (Int.toNat_of_nonneg h0).symm
      have hm : t.1.toNat < 2 ^ 16 := by omega
      refine ⟨p, _, rfl, SqT.of (sG _ _ ht2), rfl, _, _, rfl, _, _, rfl, rfl, ?_⟩
      refine ⟨_, rfl, t.2, rfl, ?_⟩
      refine ⟨_, rfl, by rw [ea]; exact few_bits h3, ?_⟩
      rw [ea, str_num]
      refine ⟨fun σ' G' => σ' = [some (.ref a), some (.ref c), some (.int t.1), some (.int t.2), some (.str (S (figsN t.1.toNat t.2.natAbs)))] ∧ G' = G, ?_, ?_⟩
      · refine ⟨_, rfl, _, _, rfl, rfl, _, rfl, ?_⟩
        refine ite2 (fun k1 => ?_) (fun k1 => ?_)
        · have k1' : 0 < t.1 := of_decide_eq_true k1
          refine ⟨_, rfl, t.2, rfl, ?_⟩
          rw [ea]
          refine ⟨rfl, _, rfl, ?_⟩
          refine ite2 (fun k2 => ?_) (fun k2 => ?_)
          · have k2' : t.2.natAbs = 1 := by
              have := of_decide_eq_true k2
              injection this with this; omega
            refine ⟨?_, rfl⟩
            have : figsN t.1.toNat t.2.natAbs = [] := if_pos ⟨k2', by omega⟩
            rw [this, ← lit_e]; rfl
          · have k2' : ¬ t.2.natAbs = 1 := fun z => k2 (by rw [z]; simp)
            refine ⟨?_, rfl⟩
            have : figsN t.1.toNat t.2.natAbs = digs t.2.natAbs := if_neg (fun z => k2' z.1)
            rw [this]; rfl
        · have k1' : ¬ 0 < t.1 := fun z => k1 (decide_eq_true z)
          refine ⟨?_, rfl⟩
          have : figsN t.1.toNat t.2.natAbs = digs t.2.natAbs := if_neg (fun z => z.2 (by omega))
          rw [this]; rfl
      · rintro σ' G' ⟨rfl, rfl⟩
        have hgl : ((f.take i).flatMap fun t => [V.str (S [sgn t.2]), V.str (S (wordT t))]).length = 2 * i := by rw [inter_len, List.length_take]; omega
        refine ⟨_, rfl, .inl ⟨rfl, _, SqL.of g1⟩, ?_⟩
        refine ⟨(by show 2 ≤ sizeLine; decide), fun l hl' => ?_⟩
        have b1 : Same G' (upd G' l (.lst [.str "+", .str "-"])) := Same.upd hl'
        have esg : atI [V.str "+", V.str "-"] (if decide (t.2 < 0) = true then 1 else 0) = some (V.str (S [sgn t.2])) := by
          by_cases z : t.2 < 0
          · rw [if_pos (decide_eq_true z), show sgn t.2 = 45 from if_pos z, ← lit_minus]; rfl
          · rw [if_neg (by simpa using z), show sgn t.2 = 43 from if_neg z, ← lit_plus]; rfl
        refine ⟨_, rfl, _, _, rfl, rfl, .inr ⟨_, rfl, ?_⟩⟩
        refine ⟨l, _, _, _, rfl, rfl, SqL.of upd_same, esg, ?_⟩
        refine ⟨c, _, _, rfl, rfl, b1 _ _ g1, ?_, ?_⟩
        · rw [hgl]; exact small6 (by omega)
        have g2 : upd (upd G' l (.lst [.str "+", .str "-"])) c (.lst (((f.take i).flatMap fun t => [V.str (S [sgn t.2]), V.str (S (wordT t))]) ++ [V.str (S [sgn t.2])])) c = some (.lst (((f.take i).flatMap fun t => [V.str (S [sgn t.2]), V.str (S (wordT t))]) ++ [V.str (S [sgn t.2])])) := upd_same
        have S1 : Same H (upd (upd G' l (.lst [.str "+", .str "-"])) c (.lst (((f.take i).flatMap fun t => [V.str (S [sgn t.2]), V.str (S (wordT t))]) ++ [V.str (S [sgn t.2])]))) := (sG.trans b1).write hc
        generalize upd (upd G' l (.lst [.str "+", .str "-"])) c (.lst (((f.take i).flatMap fun t => [V.str (S [sgn t.2]), V.str (S (wordT t))]) ++ [V.str (S [sgn t.2])])) = H1 at g2 S1
        have hle : (S (figsN t.1.toNat t.2.natAbs)).length + (S (lets t.1.toNat)).length ≤ sizeLine := by
          rw [S_len, S_len]
          exact Nat.le_trans (Nat.add_le_add (figs_len h3) (lets_len hm)) (by decide)
        refine ⟨_, rfl, .inl ⟨rfl, _, SqL.of g2⟩, ?_⟩
        refine ⟨_, rfl, _, rfl, t.1.toNat, by rw [← em]; rfl, hm, fun H2 s2 => ?_⟩
        refine ⟨_, _, rfl, rfl, hle, ?_⟩
        refine ⟨c, _, _, rfl, rfl, s2 _ _ g2, ?_, ?_⟩
        · rw [List.length_append, hgl]; exact small6 (by simp; omega)
        refine ⟨_, _, _, rfl, ?_, (S1.trans s2).write hc⟩
        rw [upd_same, S_cat, List.take_add_one, ht1, List.flatMap_append]
        have ew : wordT t = figsN t.1.toNat t.2.natAbs ++ lets t.1.toNat := rfl
        simp [ew]
    · rintro σ G ⟨v2, v3, v4, rfl, g1, sG⟩
      rw [List.length_map, hpl, List.take_length] at g1
      refine ⟨_, rfl, c, _, rfl, .inl (SqL.of g1), rfl, _, rfl, ?_⟩
      cases f with
      | nil =>
        refine iteY (by rfl) ?_
        have := q G sG
        rw [show txt [] = [48] from rfl, ← lit_0] at this
        exact this
      | cons t0 r =>
        have hln : ((t0 :: r).flatMap fun t => [V.str (S [sgn t.2]), V.str (S (wordT t))]).length = 2 * (r.length + 1) := inter_len _ _ _
        refine iteN (by rw [hln]; simp; omega) ?_
        have hxs : ((t0 :: r).flatMap fun t => [V.str (S [sgn t.2]), V.str (S (wordT t))]) = V.str (S [sgn t0.2]) :: V.str (S (wordT t0)) :: (r.flatMap fun t => [V.str (S [sgn t.2]), V.str (S (wordT t))]) := rfl
        rw [hxs] at g1
        have hok := hs t0 (by simp)
        have hwl : (wordsL (t0 :: r)).map (fun w => V.str (S w)) = V.str (S (aheadL t0.2 ++ wordT t0)) :: (r.flatMap fun t => [V.str (S [sgn t.2]), V.str (S (wordT t))]) := by
          show V.str (S (aheadL t0.2 ++ wordT t0)) :: (r.flatMap fun u => [[sgn u.2], wordT u]).map (fun w => V.str (S w)) = _
          rw [List.map_flatMap]; rfl
        refine ⟨fun σ' G' => σ' = [some (.ref a), some (.ref c), v2, v3, v4] ∧ G' c = some (.lst (V.str (S [sgn t0.2]) :: (wordsL (t0 :: r)).map fun w => V.str (S w))) ∧ Same H G', ?_, ?_⟩
        · have at0 : atI (V.str (S [sgn t0.2]) :: V.str (S (wordT t0)) :: (r.flatMap fun t => [V.str (S [sgn t.2]), V.str (S (wordT t))])) 0 = some (V.str (S [sgn t0.2])) := atI_nat (j := 0) rfl
          have at1 : atI (V.str (S [sgn t0.2]) :: V.str (S (wordT t0)) :: (r.flatMap fun t => [V.str (S [sgn t.2]), V.str (S (wordT t))])) 1 = some (V.str (S (wordT t0))) := atI_nat (j := 1) rfl
          refine ⟨_, rfl, c, _, _, _, rfl, rfl, SqL.of g1, at0, rfl, _, rfl, ?_⟩
          by_cases z : t0.2 < 0
          · have es : sgn t0.2 = 45 := if_pos z
            refine iteY (by rw [es, ← lit_minus]; simp) ?_
            refine ⟨_, rfl, c, _, _, _, rfl, rfl, SqL.of g1, at1, _, _, rfl, rfl, ?_, ?_⟩
            · rw [lit_minus, S_len, S_len]
              exact Nat.le_trans (Nat.add_le_add_left (word_len (by have := hok.1; have := hok.2.1; omega) hok.2.2.2) _) (by show 1 + 79 ≤ sizeLine; decide)
            refine ⟨_, rfl, c, _, _, 1, rfl, rfl, g1, (by show ixN (_ + 1 + 1) 1 = some 1; unfold ixN; simp; omega), ?_⟩
            refine ⟨rfl, ?_, sG.write hc⟩
            rw [upd_same, hwl, lit_minus, S_cat]
            have : aheadL t0.2 = [45] := if_pos z
            rw [this]; rfl
          · have es : sgn t0.2 = 43 := if_neg z
            refine iteN (by rw [es, lit_minus]; intro y; have := of_decide_eq_true y; injection this with this; exact absurd (S_inj this) (by decide)) ?_
            refine ⟨rfl, ?_, sG⟩
            rw [g1, hwl]
            have : aheadL t0.2 = [] := if_neg z
            rw [this]; rfl
        · rintro σ' G' ⟨rfl, g2, s2⟩
          have ecut : cutV (V.str (S [sgn t0.2]) :: (wordsL (t0 :: r)).map fun w => V.str (S w)) (some 1) none = ((wordsL (t0 :: r)).map S).map V.str := by
            unfold cutV
            rw [show HT.sIx (V.str (S [sgn t0.2]) :: (wordsL (t0 :: r)).map fun w => V.str (S w)).length 0 (some 1) = 1 from (HT.sIx_nat _ _ 1).trans (Nat.min_eq_left (by simp))]
            rw [List.map_map]
            refine List.take_of_length_le ?_
            simp [HT.sIx]
          have hws : (((wordsL (t0 :: r)).map S).map (·.length)).sum + ((wordsL (t0 :: r)).map S).length * (Str.ofString " ").length ≤ 16777216 := by
            have h1 : (((wordsL (t0 :: r)).map S).map (·.length)).sum ≤ (txt (t0 :: r)).length := by
              rw [← join_words, List.map_map]
              have go : ∀ ws : List (List Nat), (ws.map ((·.length) ∘ S)).sum ≤ (joinL 32 ws).length := fun ws => by
                induction ws with
                | nil => exact Nat.le_refl _
                | cons w ws ih =>
                  cases ws with
                  | nil => show w.length + 0 ≤ w.length; omega
                  | cons w2 ws =>
                    have : (joinL 32 (w :: w2 :: ws)).length = w.length + 1 + (joinL 32 (w2 :: ws)).length := by rw [joinL, List.length_append, List.length_cons]; omega
                    rw [this, List.map_cons, List.sum_cons]
                    show w.length + _ ≤ _
                    omega
              exact go _
            have h2 := txt_len hs
            have h3 : (wordsL (t0 :: r)).length = 2 * r.length + 1 := by
              show (_ :: r.flatMap fun u => [[sgn u.2], wordT u]).length = _
              rw [List.length_cons, inter_len]
            rw [lit_sp, S_len, List.length_map, h3]
            simp only [List.length_cons, List.length_nil] at h2 hl ⊢
            omega
          refine ⟨rfl, ?_⟩
          refine ⟨_, rfl, _, rfl, c, _, rfl, SqL.of g2, fun d hd => ?_⟩
          rw [ecut]
          refine ⟨_, d, _, rfl, rfl, SqL.of upd_same, hws, ?_⟩
          rw [lit_sp, tjoin_S, join_words]
          exact q _ (s2.trans (Same.upd hd))

def spReadN (K : PySem.W.Frag) : Sp := fun vs H Q _ => ∃ m n : Nat, vs = [.str (S (figsN m n)), .str (S (lets m))] ∧ m < 2 ^ 16 ∧ 0 < n ∧ n < 10 ^ 63 ∧ Q (.int (n : Int)) H
theorem sc_read_number : FnScope ["figures", "letters", "number", "figure"] ["figures", "letters"] (defScope s_read_number) := ⟨rfl, rfl, rfl, by decide +kernel, rfl, by decide +kernel, by decide +kernel⟩
theorem ok_read_number (T : Txt K mg) : FnOk P w K mg base CX0 1 T.a_read_number T.fd_read_number ["figures", "letters"] (spReadN K) := by
  refine T.d_read_number.F.ok sc_read_number (fun vs H Q E h => ?_) (fun cdv A outer s H vs Q E hr h => ?_)
  · obtain ⟨m, n, rfl, hm, hn0, hn, q⟩ := h; rfl
  · obtain ⟨m, n, rfl, hm, hn0, hn, q⟩ := h
    have hu := hu_of hr
    refine ⟨_, (pss_cons (ps_if (PW.pt (pw_and (pt_cmpR op_eq (pv 0) pe_str (nomark _)) (pw_and1 (pt_cmpR op_ne (pv 1) pe_str (nomark _))))) (pss_one (ps_ret pe_int)) pss_nil)
      (pss_cons (ps_if (PW.pt (pw_or (pt_cmpR op_eq (pv 0) pe_str (nomark _)) (pw_or (pt_cmpR op_eq (pe_ix ix_str (pv 0) pe_int (fun _ _ => rfl)) pe_str (nomark _)) (pw_or1 (PW.pt (pw_and (pt_cmpR op_eq (pv 0) pe_str (nomark _)) (pw_and1 (pt_cmpR op_ne (pv 1) pe_str (nomark _))))))))) (pss_one ps_dead) pss_nil)
      (pss_cons (ps_set (i := 2) sc_read_number.nd rfl (Or.inl rfl) pe_int)
      (pss_cons (ps_for PassesOwn.never rfl (pi_str (pv 0)) (pg_name (i := 3) sc_read_number.nd rfl (Or.inl rfl))
        (pss_one (ps_set (i := 2) sc_read_number.nd rfl (Or.inl rfl) (pe_op op_add (pe_op op_mulO (pv 2) pe_int) (pe_callTy call_int_str rfl T.n_int PyProof.Rows.boot_int (pa_cons (pv 3) pa_nil))))))
      (pss_one (ps_ret (pv 2))))))), ?_⟩
    have le0 : ∀ l : List Nat, (V.str (S l) = V.str (Str.ofString "")) ↔ l = [] := fun l => ⟨fun z => by
      injection z with z
      rw [lit_e] at z; exact S_inj z, fun z => by rw [z, lit_e]⟩
    have hld : lets m = [] ↔ m = 0 := ⟨fun z => by
      rcases Nat.eq_zero_or_pos m with y | y
      · exact y
      · have := lst_pos (a := m) (by omega)
        unfold lets at z
        rw [List.map_eq_nil_iff.mp z] at this
        exact absurd this (by decide), fun z => by rw [z]; rfl⟩
    refine ⟨_, rfl, rfl, _, rfl, ?_⟩
    by_cases z : n = 1 ∧ m ≠ 0
    · have ef : figsN m n = [] := if_pos z
      refine iteY (decide_eq_true ((le0 _).mpr ef)) ?_
      refine ⟨_, rfl, rfl, _, rfl, ?_⟩
      refine iteY (by rw [decide_eq_false (fun y => z.2 (hld.mp ((le0 _).mp y)))]; rfl) ?_
      rw [z.1] at q; exact q
    · have ef : figsN m n = digs n := if_neg z
      obtain ⟨d0, r0, ed, hd0⟩ := digs_head hn0
      have hne : ¬ figsN m n = [] := by rw [ef, ed]; simp
      refine iteN (fun y => hne ((le0 _).mp (of_decide_eq_true y))) ?_
      refine ⟨_, rfl, rfl, _, rfl, ?_⟩
      refine iteN (fun y => hne ((le0 _).mp (of_decide_eq_true y))) ?_
      have hz : (S (figsN m n)).length ≤ sizeLine := by rw [S_len]; exact Nat.le_trans (figs_len hn) (by decide)
      have hat : atI (S (figsN m n)).cps.toList 0 = some (49 + d0) := by rw [S_list, ef, ed]; exact atI_nat (j := 0) rfl
      refine ⟨_, rfl, _, _, _, rfl, rfl, hz, hat, rfl, _, rfl, ?_⟩
      refine iteN (fun y => by
        have := of_decide_eq_true y
        injection this with this
        rw [lit_0] at this
        have := S_inj (a := [49 + d0]) this
        simp at this; omega) ?_
      refine ⟨_, rfl, rfl, _, rfl, ?_⟩
      have hdg : ∀ c ∈ figsN m n, 48 ≤ c ∧ c ≤ 57 := fun c hc => figs_dig hc
      have run : tSeq (tAsg (tC (V.int 0)) (gName 2)) (tSeq (tFor (iStr (tVar 0)) (gName 3) (tAsg (tOp (rI0 fun i j => V.int (i + j)) (tOp (rI IntMulOk fun i j => V.int (i * j)) (tVar 2) (tC (V.int 10))) (tCB (fun xs H Q => ∃ x n, xs = [V.str x] ∧ intText? x = some n ∧ x.length ≤ 640 ∧ Q (V.int n) H) (tCons (tVar 3) tNil))) (gName 2))) (tRet (tVar 2))) { nx := fun x H' => Q V.non H', rt := Q } [some (V.str (S (figsN m n))), some (V.str (S (lets m))), none, none] H := by
        refine ⟨_, rfl, _, rfl, ascii_S (fun c hc => by have := hdg c hc; omega), ?_⟩
        refine for_str (l := figsN m n) (fun i σ G => ∃ v3 : Option V, σ = [some (.str (S (figsN m n))), some (.str (S (lets m))), some (.int ((NumText.digitsVal ((figsN m n).take i) : Nat) : Int)), v3] ∧ G = H)
          ⟨none, rfl, rfl⟩ ?_ ?_
        · rintro i c σ G hc ⟨v3, rfl, rfl⟩
          have hcd := hdg c (List.mem_of_getElem? hc)
          obtain ⟨d, rfl⟩ : ∃ d, c = 48 + d := ⟨c - 48, by omega⟩
          have htk : (figsN m n).take (i + 1) = (figsN m n).take i ++ [48 + d] := by rw [List.take_add_one, hc]; rfl
          unfold gName
          refine ⟨_, rfl, _, _, rfl, rfl, mulR (by decide) (by decide), _, rfl, _, _, rfl, int_fig d (by omega), (by show 1 ≤ 640; decide), _, _, rfl, rfl, ?_⟩
          refine ⟨some (.str (S [48 + d])), ?_, rfl⟩
          rw [htk, NumText.digitsVal_snoc]
          have e : ((NumText.digitsVal ((figsN m n).take i) * 10 + (48 + d - 48) : Nat) : Int) = ((NumText.digitsVal ((figsN m n).take i) : Nat) : Int) * 10 + (d : Int) := by omega
          rw [e]; rfl
        · rintro σ G ⟨v3, rfl, rfl⟩
          refine ⟨_, rfl, ?_⟩
          rw [List.take_length, ef, digs_val]
          exact q
      by_cases y : figsN m n = [49]
      · refine iteY (decide_eq_true (by rw [y, lit_1])) ?_
        have n1 : n = 1 := digs_one (by rw [← ef]; exact y)
        have m0 : m = 0 := Classical.byContradiction fun w => z ⟨n1, w⟩
        refine ⟨_, rfl, rfl, _, rfl, ?_⟩
        refine iteN (by rw [decide_eq_true ((le0 _).mpr (hld.mpr m0))]; decide) ?_
        exact run
      · refine iteN (fun w => y (by
          have := of_decide_eq_true w
          injection this with this
          rw [lit_1] at this
          exact S_inj this)) ?_
        exact run

def spDoubled : Sp := fun vs H Q _ => ∃ m : Nat, vs = [.int (m : Int)] ∧ m ≤ 100 ∧ Q (.int (2 ^ m)) H
theorem sc_doubled : FnScope ["many", "size", "turn"] ["many"] (defScope s_doubled) := ⟨rfl, rfl, rfl, by decide +kernel, rfl, by decide +kernel, by decide +kernel⟩
theorem ok_doubled (T : Txt K mg) : FnOk P w K mg base CX0 1 T.a_doubled T.fd_doubled ["many"] spDoubled := by
  refine T.d_doubled.F.ok sc_doubled (fun vs H Q E h => ?_) (fun cdv A outer s H vs Q E hr h => ?_)
  · obtain ⟨m, rfl, hm, q⟩ := h; rfl
  · obtain ⟨m, rfl, hm, q⟩ := h
    have hu := hu_of hr
    refine ⟨_, (pss_cons (ps_set (i := 1) sc_doubled.nd rfl (Or.inl rfl) pe_int)
      (pss_cons (ps_for PassesOwn.never rfl (pi_range1 rfl T.n_range (pa_cons (pv 0) pa_nil)) (pg_name (i := 2) sc_doubled.nd rfl (Or.inl rfl))
        (pss_one (ps_set (i := 1) sc_doubled.nd rfl (Or.inl rfl) (pe_op op_mulO (pv 1) pe_int))))
      (pss_one (ps_ret (pv 1))))), ?_⟩
    refine ⟨_, rfl, (m : Int), rfl, by omega, by omega, for_range (n := m) (fun i σ H2 => ∃ v2 : Option V, σ = [some (.int (m : Int)), some (.int (2 ^ i)), v2] ∧ H2 = H) ⟨none, rfl, rfl⟩ ?_ ?_⟩
    · rintro i σ H2 hi ⟨v2, rfl, rfl⟩
      refine ⟨_, rfl, _, _, rfl, rfl, mulR (by decide) (by decide), some (.int (0 + (i : Int))), ?_, rfl⟩
      rw [Int.pow_succ]; rfl
    · rintro σ H2 ⟨v2, rfl, rfl⟩
      exact ⟨_, rfl, q⟩

def spReadS (K : PySem.W.Frag) : Sp := fun vs H Q _ => ∃ m : Nat, vs = [.str (S (lets m))] ∧ m < 2 ^ 16 ∧ Q (.int (m : Int)) H
theorem sc_read_set : FnScope ["letters", "members", "last", "letter", "k"] ["letters"] (defScope s_read_set) := ⟨rfl, rfl, rfl, by decide +kernel, rfl, by decide +kernel, by decide +kernel⟩
theorem ok_read_set (T : Txt K mg) : FnOk P w K mg base CX0 2 T.a_read_set T.fd_read_set ["letters"] (spReadS K) := by
  refine T.d_read_set.F.ok sc_read_set (fun vs H Q E h => ?_) (fun cdv A outer s H vs Q E hr h => ?_)
  · obtain ⟨m, rfl, hm, q⟩ := h; rfl
  · obtain ⟨m, rfl, hm, q⟩ := h
    have hu := hu_of hr
    refine ⟨_, (pss_cons (ps_set (i := 1) sc_read_set.nd rfl (Or.inl rfl) pe_int)
      (pss_cons (ps_set (i := 2) sc_read_set.nd rfl (Or.inl rfl) (pe_un un_neg pe_int))
      (pss_cons (ps_for PassesOwn.never rfl (pi_str (pv 0)) (pg_name (i := 3) sc_read_set.nd rfl (Or.inl rfl))
        (pss_cons (ps_set (i := 4) sc_read_set.nd rfl (Or.inl rfl) (pe_bm PySem.F.plainAttrs_str PySem.F.slot_str_find PySem.F.type_str_find mt_find (pe_glob (v := .str "abcdefghijklmnop") (by rfl) T.g_LETTERS ⟨_, rfl⟩) (pa_cons (pv 3) pa_nil)))
      (pss_cons (ps_if (pt_cmpR op_le (pv 4) (pv 2) (nomark _)) (pss_one ps_dead) pss_nil)
      (pss_cons (ps_set (i := 1) sc_read_set.nd rfl (Or.inl rfl) (pe_op op_add (pv 1) (pe_call (ok_doubled (P := P) (w := w) (base := base) T) hr (by rfl) T.d_doubled.m T.d_doubled.F.kp T.d_doubled.b .nil pass0 (pa_cons (pv 4) pa_nil))))
      (pss_one (ps_set (i := 2) sc_read_set.nd rfl (Or.inl rfl) (pv 4)))))))
      (pss_one (ps_ret (pv 1)))))), ?_⟩
    refine ⟨_, rfl, _, rfl, _, rfl, ascii_S (lets_asc hm), ?_⟩
    refine for_str (l := lets m) (fun i σ G => ∃ v3 v4 : Option V, ∃ la : Int, σ = [some (.str (S (lets m))), some (.int (((((lst m).take i).map fun k => 2 ^ k).sum : Nat) : Int)), some (.int la), v3, v4] ∧ (∀ k, (lst m)[i]? = some k → la < (k : Int)) ∧ G = H)
      ⟨none, none, -1, rfl, (fun k _ => by omega), rfl⟩ ?_ ?_
    · rintro i c σ G hc ⟨v3, v4, la, rfl, hla, rfl⟩
      obtain ⟨k, hk, rfl⟩ : ∃ k, (lst m)[i]? = some k ∧ 97 + k = c := by
        unfold lets at hc
        rw [List.getElem?_map] at hc
        cases e : (lst m)[i]? with
        | none => rw [e] at hc; cases hc
        | some k => rw [e] at hc; exact ⟨k, rfl, Option.some.inj hc⟩
      have hk16 : k < 16 := by
        have := lets_let hm (c := 97 + k) (List.mem_map.mpr ⟨k, List.mem_of_getElem? hk, rfl⟩)
        omega
      have hkl := hla k hk
      unfold gName
      refine ⟨rfl, _, rfl, _, _, rfl, rfl, ?_⟩
      rw [lit_let, find_let k hk16]
      refine ⟨_, rfl, _, rfl, _, _, rfl, rfl, _, rfl, iteN (by intro w; have := of_decide_eq_true w; omega) ?_⟩
      refine ⟨_, rfl, _, rfl, k, rfl, by omega, _, _, rfl, rfl, ?_⟩
      have esum : (((((lst m).take i).map fun k => 2 ^ k).sum : Nat) : Int) + 2 ^ k = (((((lst m).take (i + 1)).map fun k => 2 ^ k).sum : Nat) : Int) := by
        rw [List.take_add_one, hk, List.map_append, List.sum_append, Int.natCast_add, pow_cast]
        simp
      refine ⟨_, rfl, some (.str (S [97 + k])), some (.int (k : Int)), (k : Int), ?_, (fun k2 hk2 => ?_), rfl⟩
      · rw [← esum]; rfl
      · have := List.pairwise_iff_getElem.mp (lst_rise m) i (i + 1) (List.getElem?_eq_some_iff.mp hk).1 (List.getElem?_eq_some_iff.mp hk2).1 (Nat.lt_succ_self i)
        rw [(List.getElem?_eq_some_iff.mp hk).2, (List.getElem?_eq_some_iff.mp hk2).2] at this
        exact Int.ofNat_lt.mpr this
    · rintro σ G ⟨v3, v4, la, rfl, hla, rfl⟩
      refine ⟨_, rfl, ?_⟩
      have : (lst m).take (lets m).length = lst m := by unfold lets; rw [List.length_map, List.take_length]
      rw [this, lst_sum]
      exact q

def spReadT (K : PySem.W.Frag) : Sp := fun vs H Q _ => ∃ t : Int × Int, vs = [.str (S [sgn t.2]), .str (S (wordT t))] ∧ SayOk t ∧ ∀ c, H c = none → Q (.ref c) (upd H c (.tup [.int t.1, .int t.2]))
theorem sc_read_tuple : FnScope ["sign", "word", "letters", "number"] ["sign", "word"] (defScope s_read_tuple) := ⟨rfl, rfl, rfl, by decide +kernel, rfl, by decide +kernel, by decide +kernel⟩
theorem ok_read_tuple (T : Txt K mg) : FnOk P w K mg base CX0 3 T.a_read_tuple T.fd_read_tuple ["sign", "word"] (spReadT K) := by
  refine T.d_read_tuple.F.ok sc_read_tuple (fun vs H Q E h => ?_) (fun cdv A outer s H vs Q E hr h => ?_)
  · obtain ⟨t, rfl, ht, q⟩ := h; rfl
  · obtain ⟨t, rfl, ht, q⟩ := h
    have hu := hu_of hr
    refine ⟨_, (pss_cons (ps_if (PW.pt (pw_and (pt_cmpR op_ne (pv 0) pe_str (nomark _)) (pw_and1 (pt_cmpR op_ne (pv 0) pe_str (nomark _))))) (pss_one ps_dead) pss_nil)
      (pss_cons (ps_set (i := 2) sc_read_tuple.nd rfl (Or.inl rfl) (pe_bm PySem.F.plainAttrs_str PySem.F.slot_str_lstrip PySem.F.type_str_lstrip mt_lstrip1 (pv 1) (pa_cons (pe_glob (v := .str "0123456789") (by rfl) T.g_FIGURES ⟨_, rfl⟩) pa_nil)))
      (pss_cons (ps_set (i := 3) sc_read_tuple.nd rfl (Or.inl rfl) (pe_call (ok_read_number (P := P) (w := w) (base := base) T) (hr.mono (by decide)) (by rfl) T.d_read_number.m T.d_read_number.F.kp T.d_read_number.b .nil pass0 (pa_cons (pe_slice sl_str (pv 1) po_none (po_some (pe_op op_sub (pe_callB call_len_str (by rfl) T.n_len PySem.boot_len (pa_cons (pv 1) pa_nil)) (pe_callB call_len_str (by rfl) T.n_len PySem.boot_len (pa_cons (pv 2) pa_nil))))) (pa_cons (pv 2) pa_nil))))
      (pss_one (ps_ret (pe_tup (pa_cons (pe_call (ok_read_set (P := P) (w := w) (base := base) T) hr (by rfl) T.d_read_set.m T.d_read_set.F.kp T.d_read_set.b .nil pass0 (pa_cons (pv 2) pa_nil)) (pa_cons (pe_ifExp (pt_cmpR op_eq (pv 0) pe_str (nomark _)) (pe_un un_neg (pv 3)) (pv 3)) pa_nil)))))))), ?_⟩
    obtain ⟨h0, h1, h2, h3⟩ := id ht
    have hm : t.1.toNat < 2 ^ 16 := by omega
    have em : t.1 = ((t.1.toNat : Nat) : Int) := (Int.toNat_of_nonneg h0).symm
    have hwd : wordT t = figsN t.1.toNat t.2.natAbs ++ lets t.1.toNat := rfl
    have hwl : (S (wordT t)).length ≤ sizeLine := by rw [S_len]; exact Nat.le_trans (word_len hm h3) (by decide)
    have hll : (S (lets t.1.toNat)).length ≤ sizeLine := by rw [S_len]; exact Nat.le_trans (lets_len hm) (by decide)
    have el : Txt.lstripChars (S (wordT t)) (Str.ofString "0123456789") = S (lets t.1.toNat) := by
      rw [lit_fig, hwd]
      exact lstrip_S (fun c hc => figs_dig hc) (fun c r e => by
        have := lets_let hm (c := c) (by rw [e]; simp)
        omega)
    have es : Txt.slice (S (wordT t)) none (some (((S (wordT t)).length : Int) - ((S (lets t.1.toNat)).length : Int))) = S (figsN t.1.toNat t.2.natAbs) := by
      have e1 : ((S (wordT t)).length : Int) - ((S (lets t.1.toNat)).length : Int) = ((figsN t.1.toNat t.2.natAbs).length : Int) := by
        rw [S_len, S_len, hwd, List.length_append]; omega
      rw [e1, hwd]; exact slice_to
    have sg : ∀ a b : Nat, (V.str (S [a]) = V.str (S [b])) ↔ a = b := fun a b => ⟨fun z => by
      injection z with z
      have := S_inj z
      simpa using this, fun z => by rw [z]⟩
    have hgo : ∀ {R : Prop}, R → R := fun h => h
    refine ⟨_, rfl, rfl, _, rfl, ?_⟩
    by_cases z : t.2 < 0
    · have e45 : sgn t.2 = 45 := if_pos z
      refine iteY (by rw [lit_plus, e45, decide_eq_false (fun y => absurd ((sg _ _).mp y) (by decide))]; rfl) ?_
      refine ⟨_, rfl, rfl, _, rfl, ?_⟩
      refine iteN (by rw [lit_minus, e45, decide_eq_true rfl]; decide) ?_
      refine ⟨_, rfl, rfl, _, _, rfl, rfl, hwl, ?_⟩
      rw [el]
      refine ⟨_, rfl, _, rfl, _, rfl, hwl, _, rfl, _, rfl, hll, _, _, rfl, rfl, _, rfl, _, rfl, hwl, _, rfl, t.1.toNat, t.2.natAbs, ?_, hm, by omega, h3, ?_⟩
      · rw [es]; rfl
      refine ⟨_, rfl, t.1.toNat, rfl, hm, ?_⟩
      refine ⟨_, rfl, rfl, _, rfl, ?_⟩
      refine iteY (by rw [lit_minus, e45]; exact decide_eq_true rfl) ?_
      refine ⟨_, rfl, _, rfl, (by show 2 ≤ sizeLine; decide), fun c hc => ?_⟩
      have e2 : (-((t.2.natAbs : Nat) : Int)) = t.2 := by omega
      show Q (V.ref c) (upd H c (HO.tup [V.int ((t.1.toNat : Nat) : Int), V.int (-((t.2.natAbs : Nat) : Int))]))
      rw [e2, ← em]
      exact q c hc
    · have e43 : sgn t.2 = 43 := if_neg z
      refine iteN (by rw [lit_plus, e43, decide_eq_true rfl]; decide) ?_
      refine ⟨_, rfl, rfl, _, _, rfl, rfl, hwl, ?_⟩
      rw [el]
      refine ⟨_, rfl, _, rfl, _, rfl, hwl, _, rfl, _, rfl, hll, _, _, rfl, rfl, _, rfl, _, rfl, hwl, _, rfl, t.1.toNat, t.2.natAbs, ?_, hm, by omega, h3, ?_⟩
      · rw [es]; rfl
      refine ⟨_, rfl, t.1.toNat, rfl, hm, ?_⟩
      refine ⟨_, rfl, rfl, _, rfl, ?_⟩
      refine iteN (by rw [lit_minus, e43]; exact fun y => absurd ((sg _ _).mp (of_decide_eq_true y)) (by decide)) ?_
      refine ⟨_, rfl, (by show 2 ≤ sizeLine; decide), fun c hc => ?_⟩
      have e2 : ((t.2.natAbs : Nat) : Int) = t.2 := by omega
      rw [e2, ← em]
      exact q c hc

def spIsForm (K : PySem.W.Frag) : Sp := fun vs H Q _ => ∃ (a : Addr) (f : Terms), vs = [.ref a] ∧ TLo H a f ∧ IsForm f ∧ (∀ t ∈ f, 0 ≤ t.1) ∧ Q (.bl true) H
theorem sc_is_form : FnScope ["some", "last", "members", "number"] ["some"] (defScope s_is_form) := ⟨rfl, rfl, rfl, by decide +kernel, rfl, by decide +kernel, by decide +kernel⟩
theorem ok_is_form (T : Txt K mg) : FnOk P w K mg base CX0 1 T.a_is_form T.fd_is_form ["some"] (spIsForm K) := by
  refine T.d_is_form.F.ok sc_is_form (fun vs H Q E h => ?_) (fun cdv A outer s H vs Q E hr h => ?_)
  · obtain ⟨a, f, rfl, hT, hf, h0, q⟩ := h; rfl
  · obtain ⟨a, f, rfl, hT, hf, h0, q⟩ := h
    have hu := hu_of hr
    refine ⟨_, (pss_cons (ps_set (i := 1) sc_is_form.nd rfl (Or.inl rfl) (pe_un un_neg pe_int))
      (pss_cons (ps_for PassesOwn.never rfl (pi_list (pv 0)) (pg_tup (n := 2) rfl (pgs_cons (pg_name (i := 2) sc_is_form.nd rfl (Or.inl rfl)) (pgs_cons (pg_name (i := 3) sc_is_form.nd rfl (Or.inl rfl)) pgs_nil)))
        (pss_cons (ps_if (PW.pt (pw_or (pt_cmpR op_le (pv 2) (pv 1) (nomark _)) (pw_or1 (pt_cmpR op_eq (pv 3) pe_int (nomark _))))) (pss_one (ps_ret pe_bl)) pss_nil)
      (pss_one (ps_set (i := 1) sc_is_form.nd rfl (Or.inl rfl) (pv 2)))))
      (pss_one (ps_ret pe_bl)))), ?_⟩
    obtain ⟨ps, hS, hP⟩ := id hT
    have hpl := hP.length
    refine ⟨_, rfl, _, rfl, a, rfl, ⟨_, SqL.of hS⟩, ?_⟩
    refine for_list (K := K) (a := a) (xs := ps.map V.ref) (fun i σ G => ∃ (v2 v3 : Option V) (la : Int), σ = [some (.ref a), some (.int la), v2, v3] ∧ (∀ t, f[i]? = some t → la < t.1) ∧ G = H)
      ⟨none, none, -1, rfl, (fun t ht => by have := h0 t (List.mem_of_getElem? ht); omega), rfl⟩ (fun i σ G _ ⟨_, _, _, _, _, e⟩ => by rw [e]; exact SqL.of hS) ?_ ?_
    · rintro i y σ G hi ⟨v2, v3, la, rfl, hla, rfl⟩
      obtain ⟨p, hpi, rfl⟩ := at_ref hi
      obtain ⟨t, ht1, ht2⟩ := hP.at' hpi
      have h1 := hla t ht1
      have hnz := hf.nz t (List.mem_of_getElem? ht1)
      refine ⟨p, _, rfl, SqT.of ht2, rfl, _, _, rfl, _, _, rfl, rfl, ?_⟩
      refine ⟨_, rfl, _, rfl, _, _, rfl, rfl, _, rfl, iteN (by intro w; have := of_decide_eq_true w; omega) ?_⟩
      refine ⟨_, rfl, rfl, _, rfl, iteN (by intro w; have := of_decide_eq_true w; injection this with this; exact hnz this) ?_⟩
      refine ⟨_, rfl, _, _, t.1, rfl, (fun u hu => ?_), rfl⟩
      have := List.pairwise_iff_getElem.mp hf.rise i (i + 1) (List.getElem?_eq_some_iff.mp ht1).1 (List.getElem?_eq_some_iff.mp hu).1 (Nat.lt_succ_self i)
      rw [(List.getElem?_eq_some_iff.mp ht1).2, (List.getElem?_eq_some_iff.mp hu).2] at this
      exact this
    · rintro σ G ⟨v2, v3, la, rfl, hla, rfl⟩
      exact q

def spRead (K : PySem.W.Frag) : Sp := fun vs H Q _ => ∃ f : Terms, vs = [.str (S (txt f))] ∧ IsForm f ∧ (∀ t ∈ f, SayOk t) ∧ f.length ≤ 64 ∧ ∀ (c : Addr) (H' : Hp), H c = none → TLo H' c f → Same H H' → Q (.ref c) H'
theorem sc_form_read : FnScope ["text", "words", "form"] ["text"] (defScope s_form_read) := ⟨rfl, rfl, rfl, by decide +kernel, rfl, by decide +kernel, by decide +kernel⟩
theorem nd_form_read_1 : (["sign", "word"] : List Str).Nodup := by decide +kernel
theorem ok_form_read (T : Txt K mg) : FnOk P w K mg base CX0 4 T.a_form_read T.fd_form_read ["text"] (spRead K) := by
  refine T.d_form_read.F.ok sc_form_read (fun vs H Q E h => ?_) (fun cdv A outer s H vs Q E hr h => ?_)
  · obtain ⟨f, rfl, hf, hs, hl, q⟩ := h; rfl
  · obtain ⟨f, rfl, hf, hs, hl, q⟩ := h
    have hu := hu_of hr
    refine ⟨_, (pss_cons (ps_if (pt_cmpR op_eq (pv 0) pe_str (nomark _)) (pss_one (ps_ret (pe_lst pa_nil))) pss_nil)
      (pss_cons (ps_set (i := 1) sc_form_read.nd rfl (Or.inl rfl) (pe_bm PySem.F.plainAttrs_str PySem.F.slot_str_split PySem.F.type_str_split mt_split (pv 0) (pa_cons pe_str pa_nil)))
      (pss_cons (ps_cut (ps_if (pt_val (pe_bm PySem.F.plainAttrs_str PySem.F.slot_str_startswith PySem.F.type_str_startswith mt_startswith (pv 0) (pa_cons pe_str pa_nil)) (fun _ => rfl)) (pss_cons (ps_asg (pe_slice sl_str (pe_ix ix_list (pv 1) pe_int (fun _ _ => rfl)) (po_some pe_int) po_none) (pg_sub (pv 1) pe_int set_list))
      (pss_one (ps_expr (pe_bm PySem.F.plainAttrs_list PySem.F.slot_list_insert PySem.F.type_list_insert mt_insert (pv 1) (pa_cons pe_int (pa_cons pe_str pa_nil)))))) (pss_one (ps_expr (pe_bm PySem.F.plainAttrs_list PySem.F.slot_list_insert PySem.F.type_list_insert mt_insert (pv 1) (pa_cons pe_int (pa_cons pe_str pa_nil)))))))
      (pss_cons (ps_if (pt_cmpR op_ne (pe_op op_mod (pe_callB call_len_seq (by rfl) T.n_len PySem.boot_len (pa_cons (pv 1) pa_nil)) pe_int) pe_int (nomark _)) (pss_one ps_dead) pss_nil)
      (pss_cons (ps_setC (i := 2) (g := (gTup K 2 (gCons (gName 0) (gCons (gName 1) gNil)))) ["sign", "word"] 2 [] sc_form_read.nd rfl (Or.inl rfl) rfl (by exact CompSc.of (defScope s_form_read) ["text", "words", "form"] rfl rfl rfl (by decide +kernel) rfl (by decide +kernel) (by decide +kernel)) (pi_zip rfl T.n_zip (pa_cons (pe_two (pv 1) (po_some pe_int) (po_some pe_int)) (pa_cons (pe_two (pv 1) (po_some pe_int) (po_some pe_int)) pa_nil)))
        (fun cl C s₀ H₀ fp => (pg_tup (n := 2) rfl (pgs_cons (pg_name (i := 0) nd_form_read_1 rfl (Or.inl rfl) (Or.inr rfl)) (pgs_cons (pg_name (i := 1) nd_form_read_1 rfl (Or.inl rfl) (Or.inr rfl)) pgs_nil)))) (fun cl C s₀ H₀ fp => pts_nil) (fun cl C s₀ H₀ fp => (pe_call (ok_read_tuple (P := P) (w := w) (base := base) T) hr (by rfl) T.d_read_tuple.m T.d_read_tuple.F.kp T.d_read_tuple.b .nil pass0 (pa_cons (pv 0) (pa_cons (pv 1) pa_nil)))))
      (pss_cons (ps_if (pt_not (pt_val (pe_call (ok_is_form (P := P) (w := w) (base := base) T) (hr.mono (by decide)) (by rfl) T.d_is_form.m T.d_is_form.F.kp T.d_is_form.b .nil pass0 (pa_cons (pv 2) pa_nil)) (fun _ => rfl))) (pss_one ps_dead) pss_nil)
      (pss_one (ps_ret (pv 2))))))))), ?_⟩
    refine ⟨_, rfl, rfl, _, rfl, ?_⟩
    cases f with
    | nil =>
      refine iteY (decide_eq_true (by rw [lit_0]; rfl)) ?_
      exact ⟨Nat.zero_le _, fun c hc => q c _ hc ⟨[], upd_same, .nil⟩ (Same.upd hc)⟩
    | cons t0 r =>
      have hok := hs t0 (by simp)
      obtain ⟨c0, r0, ew, n45, n48, n32⟩ := word_head hok
      have ne0 : txt (t0 :: r) ≠ [48] := fun z => by
        have z' : aheadL t0.2 ++ wordT t0 ++ r.flatMap partT = [48] := z
        by_cases y : t0.2 < 0
        · rw [show aheadL t0.2 = [45] from if_pos y] at z'; simp at z'
        · rw [show aheadL t0.2 = [] from if_neg y, ew] at z'; simp at z'; exact n48 z'.1
      refine iteN (fun w => ne0 (by
        have := of_decide_eq_true w
        injection this with this
        rw [lit_0] at this
        exact S_inj this)) ?_
      have htl := txt_len hs
      refine ⟨_, rfl, rfl, _, _, rfl, rfl, (by rw [lit_sp]; rfl), (by rw [S_len]; exact Nat.lt_of_le_of_lt htl (Nat.lt_of_le_of_lt (Nat.add_le_add_right (Nat.mul_le_mul_left 82 hl) 1) (by decide))), fun W hW => ?_⟩
      rw [lit_sp, split_txt hs]
      have s1 : Same H (upd H W (.lst (((wordsL (t0 :: r)).map S).map V.str))) := Same.upd hW
      have w1 : upd H W (.lst (((wordsL (t0 :: r)).map S).map V.str)) W = some (.lst (((wordsL (t0 :: r)).map S).map V.str)) := upd_same
      generalize upd H W (.lst (((wordsL (t0 :: r)).map S).map V.str)) = H1 at s1 w1
      refine ⟨fun σ' G' => σ' = [some (.str (S (txt (t0 :: r)))), some (.ref W), none] ∧ G' W = some (.lst ((t0 :: r).flatMap fun t => [V.str (S [sgn t.2]), V.str (S (wordT t))])) ∧ Same H G', ?_, ?_⟩
      · have hrest : ((wordsL (t0 :: r)).map S).map V.str = V.str (S (aheadL t0.2 ++ wordT t0)) :: (r.flatMap fun t => [V.str (S [sgn t.2]), V.str (S (wordT t))]) := by
          rw [List.map_map]
          show V.str (S (aheadL t0.2 ++ wordT t0)) :: (r.flatMap fun u => [[sgn u.2], wordT u]).map (V.str ∘ S) = _
          rw [List.map_flatMap]; rfl
        rw [hrest] at w1
        have hrl : (r.flatMap fun t => [V.str (S [sgn t.2]), V.str (S (wordT t))]).length ≤ 128 := by rw [inter_len]; simp only [List.length_cons] at hl; omega
        refine ⟨_, rfl, rfl, _, _, rfl, rfl, _, rfl, ?_⟩
        by_cases y : t0.2 < 0
        · have ea : aheadL t0.2 = [45] := if_pos y
          have es : sgn t0.2 = 45 := if_pos y
          refine iteY (by rw [lit_minus, starts_S]; show (match aheadL t0.2 ++ wordT t0 ++ r.flatMap partT with | [] => false | c :: _ => c == 45) = true; rw [ea]; rfl) ?_
          have hwl : (S (aheadL t0.2 ++ wordT t0)).length ≤ sizeLine := by
            rw [S_len, ea, List.length_append]
            exact Nat.le_trans (Nat.add_le_add_left (word_len (by have := hok.1; have := hok.2.1; omega) hok.2.2.2) _) (by show 1 + 79 ≤ sizeLine; decide)
          have esl : Txt.slice (S (aheadL t0.2 ++ wordT t0)) (some 1) none = S (wordT t0) := by rw [ea]; exact slice_off (a := [45])
          refine ⟨_, rfl, W, _, _, _, rfl, rfl, SqL.of w1, atI_nat (j := 0) rfl, _, rfl, _, rfl, hwl, _, rfl, W, _, _, 0, rfl, rfl, w1, (by show ixN (_ + 1) 0 = some 0; unfold ixN; simp), ?_⟩
          refine ⟨_, rfl, .inl ⟨rfl, _, SqL.of upd_same⟩, W, _, 0, _, rfl, rfl, upd_same, Nat.zero_le _, ?_, ?_⟩
          · rw [List.length_set, List.length_cons]; exact small6 (by omega)
          refine ⟨rfl, ?_, (s1.write hW).write hW⟩
          rw [upd_same, esl, lit_minus, ← es]; rfl
        · have ea : aheadL t0.2 = [] := if_neg y
          have es : sgn t0.2 = 43 := if_neg y
          refine iteN (by rw [lit_minus, starts_S]; show ¬ (match aheadL t0.2 ++ wordT t0 ++ r.flatMap partT with | [] => false | c :: _ => c == 45) = true; rw [ea, ew]; simpa using n45) ?_
          refine ⟨_, rfl, .inl ⟨rfl, _, SqL.of w1⟩, W, _, 0, _, rfl, rfl, w1, Nat.zero_le _, ?_, ?_⟩
          · rw [List.length_cons]; exact small6 (by omega)
          refine ⟨rfl, ?_, s1.write hW⟩
          rw [upd_same, ea, lit_plus, ← es]; rfl
      · rintro σ' G' ⟨rfl, w2, s2⟩
        have hln : ((t0 :: r).flatMap fun t => [V.str (S [sgn t.2]), V.str (S (wordT t))]).length = 2 * (t0 :: r).length := inter_len _ _ _
        have emod : ((((t0 :: r).flatMap fun t => [V.str (S [sgn t.2]), V.str (S (wordT t))]).length : Nat) : Int) % 2 = 0 := by rw [hln]; omega
        refine ⟨_, rfl, W, _, rfl, .inl (SqL.of w2), _, _, rfl, rfl, (by show (0 : Int) < 2; decide), rfl, _, rfl, ?_⟩
        refine iteN (by show ¬ (!decide (V.int (((((t0 :: r).flatMap fun t => [V.str (S [sgn t.2]), V.str (S (wordT t))]).length : Nat) : Int) % 2) = V.int 0)) = true; rw [emod]; decide) ?_
        refine ⟨_, rfl, _, rfl, _, rfl, rfl, 0, W, _, rfl, rfl, SqL.of w2, Nat.zero_le _, fun A hA => ?_⟩
        rw [pick_0 (fun t : Int × Int => V.str (S [sgn t.2])) (fun t => V.str (S (wordT t)))]
        have b1 : Same G' (upd G' A (.lst ((t0 :: r).map fun t => V.str (S [sgn t.2])))) := Same.upd hA
        refine ⟨_, rfl, _, rfl, _, rfl, rfl, 1, W, _, rfl, rfl, SqL.of (b1 _ _ w2), by rw [hln]; simp; omega, fun B hB => ?_⟩
        rw [pick_1 (fun t : Int × Int => V.str (S [sgn t.2])) (fun t => V.str (S (wordT t)))]
        have b2 : Same (upd G' A (.lst ((t0 :: r).map fun t => V.str (S [sgn t.2])))) (upd (upd G' A (.lst ((t0 :: r).map fun t => V.str (S [sgn t.2])))) B (.lst ((t0 :: r).map fun t => V.str (S (wordT t))))) := Same.upd hB
        have s3 := s2.trans (b1.trans b2)
        have wA := b2 _ _ (upd_same : upd G' A (.lst ((t0 :: r).map fun t => V.str (S [sgn t.2]))) A = _)
        have wB : (upd (upd G' A (.lst ((t0 :: r).map fun t => V.str (S [sgn t.2])))) B (.lst ((t0 :: r).map fun t => V.str (S (wordT t))))) B = some (.lst ((t0 :: r).map fun t => V.str (S (wordT t)))) := upd_same
        generalize upd (upd G' A (.lst ((t0 :: r).map fun t => V.str (S [sgn t.2])))) B (.lst ((t0 :: r).map fun t => V.str (S (wordT t)))) = H2 at s3 wA wB
        refine ⟨A, B, rfl, ⟨_, SqL.of wA⟩, ⟨_, SqL.of wB⟩, ?_⟩
        refine comp_zip (K := K) (a := A) (b := B) (xs := (t0 :: r).map fun t => V.str (S [sgn t.2])) (ys := (t0 :: r).map fun t => V.str (S (wordT t))) (by rw [List.length_map, List.length_map])
          (fun i zs σ G => ∃ (v0 v1 : Option V) (qs : List Addr), σ = [v0, v1] ∧ zs = qs.map V.ref ∧ Tups G qs ((t0 :: r).take i) ∧ G A = some (.lst ((t0 :: r).map fun t => V.str (S [sgn t.2]))) ∧ G B = some (.lst ((t0 :: r).map fun t => V.str (S (wordT t)))) ∧ Same H G)
          ⟨none, none, [], rfl, rfl, .nil, wA, wB, s3⟩ (fun i zs σ G hi ⟨_, _, qs, _, e1, e2, e3, e4, _⟩ => ⟨SqL.of e3, SqL.of e4, by rw [e1, List.length_map, e2.length, List.length_take]; exact Nat.min_le_left _ _⟩) (by rw [List.length_map]; exact Nat.le_of_lt (small6 (by omega))) ?_ ?_
        · rintro i x y zs σ G T' hx hy ⟨v0, v1, qs, rfl, rfl, g1, g2, g3, g4⟩ hT'
          rw [List.getElem?_map] at hx hy
          obtain ⟨t, ht, rfl⟩ : ∃ t, (t0 :: r)[i]? = some t ∧ V.str (S [sgn t.2]) = x := by
            cases e : (t0 :: r)[i]? with
            | none => rw [e] at hx; cases hx
            | some t => rw [e] at hx; exact ⟨t, rfl, Option.some.inj hx⟩
          rw [ht] at hy
          cases hy
          have c1 : Same G (upd G T' (.tup [V.str (S [sgn t.2]), V.str (S (wordT t))])) := Same.upd hT'
          refine ⟨T', _, rfl, SqT.of upd_same, rfl, _, _, rfl, _, _, rfl, rfl, ?_⟩
          refine tt ?_
          refine ⟨_, rfl, _, rfl, t, rfl, hs t (List.mem_of_getElem? ht), fun c hc => ?_⟩
          have c2 : Same (upd G T' (.tup [V.str (S [sgn t.2]), V.str (S (wordT t))])) (upd (upd G T' (.tup [V.str (S [sgn t.2]), V.str (S (wordT t))])) c (.tup [.int t.1, .int t.2])) := Same.upd hc
          have c3 := c1.trans c2
          refine ⟨_, _, qs ++ [c], rfl, (by rw [List.map_append]; rfl), ?_, c3 _ _ g2, c3 _ _ g3, g4.trans c3⟩
          rw [List.take_add_one, ht]
          exact Tups.snoc (g1.keep fun b xs z => c3 b _ z) upd_same
        · rintro zs σ G ⟨v0, v1, qs, rfl, rfl, g1, g2, g3, g4⟩ D hD
          rw [List.length_map, List.take_length] at g1
          have d1 : Same G (upd G D (.lst (qs.map V.ref))) := Same.upd hD
          have hT : TLo (upd G D (.lst (qs.map V.ref))) D (t0 :: r) := ⟨qs, upd_same, g1.keep fun b xs z => d1 b _ z⟩
          refine ⟨_, rfl, D, _, rfl, hT, hf, (fun t ht => (hs t ht).1), _, rfl, iteF ?_⟩
          exact ⟨_, rfl, q D _ (g4.free hD) hT (g4.trans d1)⟩

end
end My

set_option maxHeartbeats 4000000
namespace My
open PySem L2 OF
seal L2.PS L2.PSs L2.PE L2.PT L2.PA L2.PI L2.PG L2.PW L2.PO L2.PTs
section
variable {P : Program} {w : World} {K : PySem.W.Frag} {mg : Str → Option Value} {base : Heap}
theorem sc_law : FnScope ["_law_script", "_law_form_here", "_law_cut", "_law_some", "_law_one", "_law_handed", "_law_found"] ["_law_script"] (defScope s_law) := ⟨rfl, rfl, rfl, by decide +kernel, rfl, by decide +kernel, by decide +kernel⟩
theorem nd_law_1 : (["_law_where", "_law_number"] : List Str).Nodup := by decide +kernel
theorem ok_law {f : Addr} {fd : FuncData} (F : Fun K "law" "law" s_law f fd) (T : Txt K mg) : FnOk P w K mg base CX0 6 f fd ["_law_script"] (spLaw K) := by
  refine F.ok sc_law (fun vs H Q E h => ?_) (fun cdv A outer s H vs Q E hr h => ?_)
  · obtain ⟨a, ns, rfl, hS, hlen, hbits, k⟩ := h; rfl
  · obtain ⟨a, ns, rfl, hS, hlen, hbits, k⟩ := h
    have hu := hu_of hr
    refine ⟨_, (pss_cons (ps_set (i := 1) sc_law.nd rfl (Or.inl rfl) (pe_slice sl_list (pe_call (ok_law_form (P := P) (w := w) (base := base) T) (hr.mono (by decide)) (by rfl) T.d_law_form.m T.d_law_form.F.kp T.d_law_form.b .nil pass0 (pa_cons (pe_slice sl_list (pv 0) (po_some pe_int) (po_some pe_int)) (pa_cons (pe_op op_add pe_int (pe_op op_mod (pe_call (ok_law_at (P := P) (w := w) (base := base) T) (hr.mono (by decide)) (by rfl) T.d_law_at.m T.d_law_at.F.kp T.d_law_at.b .nil pass0 (pa_cons (pv 0) (pa_cons pe_int pa_nil))) pe_int)) (pa_cons pe_int (pa_cons (pe_call (ok_law_free (P := P) (w := w) (base := base) T) (hr.mono (by decide)) (by rfl) T.d_law_free.m T.d_law_free.F.kp T.d_law_free.b .nil pass0 (pa_cons (pv 0) pa_nil)) pa_nil))))) po_none (po_some pe_int)))
      (pss_cons (ps_set (i := 2) sc_law.nd rfl (Or.inl rfl) (pe_op op_mod (pe_op op_fdivG (pe_call (ok_law_at (P := P) (w := w) (base := base) T) (hr.mono (by decide)) (by rfl) T.d_law_at.m T.d_law_at.F.kp T.d_law_at.b .nil pass0 (pa_cons (pv 0) (pa_cons pe_int pa_nil))) pe_int) (pe_op op_add (pe_callB call_len_seq (by rfl) T.n_len PySem.boot_len (pa_cons (pv 1) pa_nil)) pe_int)))
      (pss_cons (ps_set (i := 3) sc_law.nd rfl (Or.inl rfl) (pe_lst (pa_cons (pv 1) (pa_cons (pe_slice sl_list (pv 1) po_none (po_some (pv 2))) (pa_cons (pe_slice sl_list (pv 1) (po_some (pv 2)) (po_some (pe_op op_add (pv 2) pe_int))) (pa_cons (pe_lst pa_nil) pa_nil))))))
      (pss_cons (ps_for PassesOwn.never rfl (pi_list (pe_lst (pa_cons (pe_slice sl_list (pv 1) (po_some (pv 2)) (po_some (pe_op op_add (pv 2) pe_int))) (pa_cons (pe_slice sl_list (pv 1) po_none (po_some (pv 2))) pa_nil)))) (pg_name (i := 4) sc_law.nd rfl (Or.inl rfl))
        (pss_one (ps_expr (pe_bm PySem.F.plainAttrs_list PySem.F.slot_list_append PySem.F.type_list_append mt_append (pv 3) (pa_cons (pe_comp (g := (gTup K 2 (gCons (gName 0) (gCons (gName 1) gNil)))) ["_law_where", "_law_number"] 2 [] rfl (by exact CompSc.of (defScope s_law) ["_law_script", "_law_form_here", "_law_cut", "_law_some", "_law_one", "_law_handed", "_law_found"] rfl rfl rfl (by decide +kernel) rfl (by decide +kernel) (by decide +kernel)) (pi_list (pv 4))
        (fun cl C s₀ H₀ fp => (pg_tup (n := 2) rfl (pgs_cons (pg_name (i := 0) nd_law_1 rfl (Or.inl rfl) (Or.inr rfl)) (pgs_cons (pg_name (i := 1) nd_law_1 rfl (Or.inl rfl) (Or.inr rfl)) pgs_nil)))) (fun cl C s₀ H₀ fp => pts_nil) (fun cl C s₀ H₀ fp => (pe_tup (pa_cons (pv 0) (pa_cons (pe_ix (ix_listK K rfl) (pe_lst (pa_cons pe_int (pa_cons (pe_un un_neg pe_int) pa_nil))) (pe_op op_mod (pv 1) pe_int) (fun _ _ => rfl)) pa_nil))))) pa_nil)))))
      (pss_cons (ps_for PassesOwn.never rfl (pi_list (pv 3)) (pg_name (i := 4) sc_law.nd rfl (Or.inl rfl))
        (pss_cons (ps_set (i := 5) sc_law.nd rfl (Or.inl rfl) (pe_callTy call_list_of rfl T.n_list PyProof.Rows.boot_list (pa_cons (pv 4) pa_nil)))
      (pss_cons (ps_set (i := 6) sc_law.nd rfl (Or.inl rfl) (pe_call (ok_form_shown (P := P) (w := w) (base := base) T) hr (by rfl) T.d_form_shown.m T.d_form_shown.F.kp T.d_form_shown.b .nil pass0 (pa_cons (pv 5) pa_nil)))
      (pss_cons (ps_if (PW.pt (pw_or (pt_not (pt_val (pe_callB call_isinstance (by rfl) T.n_isinstance PyProof.Rows.boot_isinstance (pa_cons (pv 6) (pa_cons (pe_bltn (v := .ty "str") (by rfl) T.n_str PyProof.Rows.boot_str rfl) pa_nil))) (fun _ => rfl))) (pw_or (pt_cmpR op_ne (pv 6) (pe_call (ok_law_shown (P := P) (w := w) (base := base) T) (hr.mono (by decide)) (by rfl) T.d_law_shown.m T.d_law_shown.F.kp T.d_law_shown.b .nil pass0 (pa_cons (pv 4) pa_nil)) (nomark _)) (pw_or1 (pt_cmpR (op_neD (hu60 hr)) (pv 5) (pv 4) (nomark _)))))) (pss_one (ps_ret pe_bl)) pss_nil)
      (pss_one (ps_if (pt_not (pt_val (pe_call (ok_law_same (P := P) (w := w) (base := base) T) (hr.mono (by decide)) (by rfl) T.d_law_same.m T.d_law_same.F.kp T.d_law_same.b .nil pass0 (pa_cons (pe_call (ok_form_read (P := P) (w := w) (base := base) T) (hr.mono (by decide)) (by rfl) T.d_form_read.m T.d_form_read.F.kp T.d_form_read.b .nil pass0 (pa_cons (pv 6) pa_nil)) (pa_cons (pv 4) pa_nil))) (fun _ => rfl))) (pss_one (ps_ret pe_bl)) pss_nil))))))
      (pss_one (ps_ret pe_bl))))))), ?_⟩
    obtain ⟨ms, ems, hml, hmm⟩ := cut_map ns (some 1) (some 63)
    have g1 := Int.emod_nonneg (ns.getD 0 0) (show (16 : Int) ≠ 0 by decide)
    have g2 := Int.emod_lt_of_pos (ns.getD 0 0) (show (0 : Int) < 16 by decide)
    obtain ⟨m, hm⟩ : ∃ m : Nat, 1 + ns.getD 0 0 % 16 = (m : Int) := ⟨_, (Int.toNat_of_nonneg (by omega)).symm⟩
    refine ⟨_, rfl, _, rfl, _, rfl, a, _, rfl, hS, fun d hd => ?_⟩
    have s1 : Same H (upd H d (.lst (cutV (ns.map V.int) (some 1) (some 63)))) := Same.upd hd
    have w1 : upd H d (.lst (cutV (ns.map V.int) (some 1) (some 63))) d = some (.lst (ms.map V.int)) := by rw [upd_same, ems]
    generalize upd H d (.lst (cutV (ns.map V.int) (some 1) (some 63))) = H1 at s1 w1
    refine ⟨_, rfl, a, ns, 0, rfl, s1.seq hS, _, _, rfl, rfl, (by show (0 : Int) < 16; decide), _, _, rfl, rfl, ?_⟩
    refine ⟨_, rfl, a, ns, rfl, s1.seq hS, fun fb => ?_⟩
    refine ⟨d, ms, m, 4, fb, by rw [← hm]; rfl, SqL.of w1, by omega, (fun n hn => Wd.of (hbits n (hmm n hn))), by omega, by decide, by decide, fun c f H2 hc hT hf hk hsm hfl s2 => ?_⟩
    have hgood : SayF f := by
      refine ⟨hf, fun t ht' => ?_, by omega⟩
      obtain ⟨k0, k1⟩ := hk t ht'
      have hp16 : ((2 : Int) ^ m) ≤ 2 ^ 16 := by rw [pow_cast, pow_cast]; exact_mod_cast Nat.pow_le_pow_right (by decide : 2 > 0) (by omega : m ≤ 16)
      exact ⟨k0, Int.lt_of_lt_of_le k1 hp16, hf.nz t ht', Nat.lt_of_le_of_lt (hsm t ht') (by decide +kernel)⟩
    obtain ⟨ps, hS2, hP⟩ := hT
    obtain ⟨ps1, f1, e1, hP1, sub1⟩ := cut_tups hP none (some 45)
    have hg1 := hgood.sub sub1
    refine ⟨_, rfl, c, _, rfl, SqL.of hS2, fun F hF => ?_⟩
    rw [e1]
    have S3 : Same H (upd H2 F (.lst (ps1.map V.ref))) := s1.trans (s2.trans (Same.upd hF))
    have T3 : TLo (upd H2 F (.lst (ps1.map V.ref))) F f1 := ⟨ps1, upd_same, hP1.keep fun b xs z => (Same.upd hF) b _ z⟩
    generalize upd H2 F (.lst (ps1.map V.ref)) = H3 at S3 T3
    obtain ⟨ps3, hS3, hP3⟩ := id T3
    have hlen3 := hP3.length
    have hl64 := hg1.len
    refine ⟨_, rfl, a, ns, 0, rfl, S3.seq hS, _, _, rfl, rfl, divG_of (by decide) (by decide), ?_⟩
    refine ⟨_, rfl, F, _, rfl, .inl (SqL.of hS3), _, _, rfl, rfl, _, _, rfl, rfl, (by show (0 : Int) < _; omega), ?_⟩
    dsimp only
    generalize ns.getD 0 0 / 16 % (((ps3.map V.ref).length : Int) + 1) = cu
    refine ⟨_, rfl, _, rfl, _, rfl, _, rfl, F, _, rfl, SqL.of hS3, fun A hA => ?_⟩
    obtain ⟨psA, fA, eA, hPA, subA⟩ := cut_tups hP3 none (some cu)
    rw [eA]
    have SA : Same H3 (upd H3 A (.lst (psA.map V.ref))) := Same.upd hA
    have TA : TLo (upd H3 A (.lst (psA.map V.ref))) A fA := ⟨psA, upd_same, hPA.keep fun b xs z => SA b _ z⟩
    generalize upd H3 A (.lst (psA.map V.ref)) = H4 at SA TA
    have hS4 := SA _ _ hS3
    have hP4 := hP3.keep fun b xs z => SA b _ z
    refine ⟨_, rfl, _, rfl, _, rfl, _, rfl, _, _, rfl, rfl, _, rfl, F, _, rfl, SqL.of hS4, fun B hB => ?_⟩
    obtain ⟨psB, fB, eB, hPB, subB⟩ := cut_tups hP4 (some cu) (some (cu + 1))
    rw [eB]
    have SB : Same H4 (upd H4 B (.lst (psB.map V.ref))) := Same.upd hB
    have TB : TLo (upd H4 B (.lst (psB.map V.ref))) B fB := ⟨psB, upd_same, hPB.keep fun b xs z => SB b _ z⟩
    generalize upd H4 B (.lst (psB.map V.ref)) = H5 at SB TB
    refine ⟨Nat.zero_le _, fun C hC => ?_⟩
    have SC : Same H5 (upd H5 C (.lst [])) := Same.upd hC
    have TC : TLo (upd H5 C (.lst [])) C [] := ⟨[], upd_same, .nil⟩
    generalize upd H5 C (.lst []) = H6 at SC TC
    refine ⟨(by show 4 ≤ sizeLine; decide), fun L hL => ?_⟩
    have SL : Same H6 (upd H6 L (.lst [.ref F, .ref A, .ref B, .ref C])) := Same.upd hL
    have wL : upd H6 L (.lst [.ref F, .ref A, .ref B, .ref C]) L = some (.lst (([F, A, B, C]).map V.ref)) := upd_same
    have S36 := SA.trans (SB.trans (SC.trans SL))
    have fm7 : Fms (upd H6 L (.lst [.ref F, .ref A, .ref B, .ref C])) [F, A, B, C] [f1, fA, fB, []] := .cons (T3.keep S36) (.cons (TA.keep (SB.trans (SC.trans SL))) (.cons (TB.keep (SC.trans SL)) (.cons (TC.keep SL) .nil)))
    generalize upd H6 L (.lst [.ref F, .ref A, .ref B, .ref C]) = H7 at SL wL S36 fm7
    have hS7 := S36 _ _ hS3
    have hP7 := hP3.keep fun b xs z => S36 b _ z
    refine ⟨_, rfl, _, rfl, _, rfl, _, rfl, _, _, rfl, rfl, _, rfl, F, _, rfl, SqL.of hS7, fun B2 hB2 => ?_⟩
    obtain ⟨psD, fD, eD, hPD, subD⟩ := cut_tups hP7 (some cu) (some (cu + 1))
    rw [eD]
    have SD : Same H7 (upd H7 B2 (.lst (psD.map V.ref))) := Same.upd hB2
    have TD : TLo (upd H7 B2 (.lst (psD.map V.ref))) B2 fD := ⟨psD, upd_same, hPD.keep fun b xs z => SD b _ z⟩
    have nB2 : L ≠ B2 := ne_of_none wL hB2
    generalize upd H7 B2 (.lst (psD.map V.ref)) = H8 at SD TD
    have hS8 := SD _ _ hS7
    have hP8 := hP7.keep fun b xs z => SD b _ z
    refine ⟨_, rfl, _, rfl, _, rfl, F, _, rfl, SqL.of hS8, fun A2 hA2 => ?_⟩
    obtain ⟨psE, fE, eE, hPE, subE⟩ := cut_tups hP8 none (some cu)
    rw [eE]
    have SE : Same H8 (upd H8 A2 (.lst (psE.map V.ref))) := Same.upd hA2
    have TE : TLo (upd H8 A2 (.lst (psE.map V.ref))) A2 fE := ⟨psE, upd_same, hPE.keep fun b xs z => SE b _ z⟩
    have nA2 : L ≠ A2 := ne_of_none (SD _ _ wL) hA2
    generalize upd H8 A2 (.lst (psE.map V.ref)) = H9 at SE TE
    refine ⟨(by show 2 ≤ sizeLine; decide), fun M hM => ?_⟩
    have SM : Same H9 (upd H9 M (.lst [.ref B2, .ref A2])) := Same.upd hM
    have wM : upd H9 M (.lst [.ref B2, .ref A2]) M = some (.lst [.ref B2, .ref A2]) := upd_same
    have S710 := SD.trans (SE.trans SM)
    have nM : L ≠ M := ne_of_none (SE _ _ (SD _ _ wL)) hM
    have fm10 := fm7.keep S710
    have fq10 : Fms (upd H9 M (.lst [.ref B2, .ref A2])) [B2, A2] [fD, fE] := .cons (TD.keep (SE.trans SM)) (.cons (TE.keep SM) .nil)
    have wL10 := S710 _ _ wL
    have S10 : Same H (upd H9 M (.lst [.ref B2, .ref A2])) := S3.trans (S36.trans S710)
    have hLn : H L = none := (S3.trans (SA.trans (SB.trans SC))).free hL
    generalize upd H9 M (.lst [.ref B2, .ref A2]) = H10 at wM S710 fm10 fq10 wL10 S10
    have good4 : ∀ g ∈ [f1, fA, fB, []], SayF g := fun g hg => by
      rcases List.mem_cons.mp hg with rfl | hg
      · exact hg1
      rcases List.mem_cons.mp hg with rfl | hg
      · exact hg1.sub subA
      rcases List.mem_cons.mp hg with rfl | hg
      · exact hg1.sub subB
      · have : g = [] := by simpa using hg
        rw [this]; exact SayF.nil
    have good2 : ∀ g ∈ [fD, fE], SayF g := fun g hg => by
      rcases List.mem_cons.mp hg with rfl | hg
      · exact hg1.sub subD
      · have : g = fE := by simpa using hg
        rw [this]; exact hg1.sub subE
    have hnF : L ∉ [F, A, B, C] := fun z => by
      have h1 : ∀ p ∈ [F, A, B, C], H6 p ≠ none := fun p hp => by
        rcases List.mem_cons.mp hp with rfl | hp
        · rw [(SA.trans (SB.trans SC)) _ _ hS3]; exact fun y => nomatch y
        rcases List.mem_cons.mp hp with rfl | hp
        · obtain ⟨_, y, _⟩ := TA.keep (SB.trans SC); rw [y]; exact fun y => nomatch y
        rcases List.mem_cons.mp hp with rfl | hp
        · obtain ⟨_, y, _⟩ := TB.keep SC; rw [y]; exact fun y => nomatch y
        · have : p = C := by simpa using hp
          rw [this]; obtain ⟨_, y, _⟩ := TC; rw [y]; exact fun y => nomatch y
      exact h1 L z hL
    refine ⟨M, rfl, ⟨_, SqL.of wM⟩, ?_⟩
    refine for_list (K := K) (a := M) (xs := [.ref B2, .ref A2]) (fun i σ G => ∃ (v4 : Option V) (qs : List Addr) (fs : List Terms), σ = [some (.ref a), some (.ref F), some (.int cu), some (.ref L), v4, none, none] ∧ G L = some (.lst (qs.map V.ref)) ∧ Fms G qs fs ∧ (∀ g ∈ fs, SayF g) ∧ L ∉ qs ∧ qs.length = 4 + i ∧ Fms G [B2, A2] [fD, fE] ∧ G M = some (.lst [.ref B2, .ref A2]) ∧ Same H G)
      ⟨none, [F, A, B, C], _, rfl, wL10, fm10, good4, hnF, rfl, fq10, wM, S10⟩ (fun i σ G _ ⟨_, _, _, _, _, _, _, _, _, _, e, _⟩ => SqL.of e) ?_ ?_
    · rintro i y σ G hi ⟨v4, qs, fs, rfl, k1, k2, k3, k4, k5, k6, k7, k8⟩
      obtain ⟨p, hp, rfl⟩ := at_ref (ps := [B2, A2]) hi
      obtain ⟨g, hg, tg⟩ := fms_at k6 hp
      have gg := good2 g (List.mem_of_getElem? hg)
      have hil : i < 2 := (List.getElem?_eq_some_iff.mp hp).1
      obtain ⟨rs, hp1, hR⟩ := id tg
      have hrl := hR.length
      have hgl := gg.len
      unfold gName
      refine ⟨_, rfl, .inl ⟨rfl, _, SqL.of k1⟩, _, rfl, p, rfl, ⟨_, SqL.of hp1⟩, ?_⟩
      refine comp_list (K := K) (a := p) (xs := rs.map V.ref) (fun j ys σ G2 => ∃ (v0 v1 : Option V) (ts : List Addr), σ = [v0, v1] ∧ ys = ts.map V.ref ∧ Tups G2 ts (ones (g.take j)) ∧ Same G G2)
        ⟨none, none, [], rfl, rfl, .nil, Same.refl _⟩ (fun j ys σ G2 hj ⟨_, _, ts, _, e1, e2, e3⟩ => ⟨SqL.of (e3 _ _ hp1), by rw [e1, List.length_map, e2.length]; unfold ones; rw [List.length_map, List.length_take]; exact Nat.min_le_left _ _⟩) (by rw [List.length_map, hrl]; exact Nat.le_of_lt (small6 (by omega))) ?_ ?_
      · rintro j y ys σ G2 hj ⟨v0, v1, ts, rfl, rfl, c1, c2⟩
        obtain ⟨p', hpj, rfl⟩ := at_ref hj
        obtain ⟨t, ht1, ht2⟩ := hR.at' hpj
        have m0 := Int.emod_nonneg t.2 (show (2 : Int) ≠ 0 by decide)
        have m1 := Int.emod_lt_of_pos t.2 (show (0 : Int) < 2 by decide)
        have ato : atI [V.int 1, V.int (-1)] (t.2 % 2) = some (V.int (if t.2 % 2 = 0 then 1 else -1)) := by
          rcases (show t.2 % 2 = 0 ∨ t.2 % 2 = 1 by omega) with z | z
          · rw [z]; rfl
          · rw [z]; rfl
        refine ⟨p', _, rfl, SqT.of (c2 _ _ ht2), rfl, _, _, rfl, _, _, rfl, rfl, ?_⟩
        refine tt ?_
        refine ⟨_, rfl, _, rfl, (by show 2 ≤ sizeLine; decide), fun l hl' => ?_⟩
        have x1 : Same G2 (upd G2 l (.lst [.int 1, .int (-1)])) := Same.upd hl'
        refine ⟨_, rfl, _, _, rfl, rfl, (by show (0 : Int) < 2; decide), l, _, _, _, rfl, rfl, SqL.of upd_same, ato, (by show 2 ≤ sizeLine; decide), fun t' ht' => ?_⟩
        have x2 : Same (upd G2 l (.lst [.int 1, .int (-1)])) (upd (upd G2 l (.lst [.int 1, .int (-1)])) t' (.tup [.int t.1, .int (if t.2 % 2 = 0 then 1 else -1)])) := Same.upd ht'
        refine ⟨_, _, ts ++ [t'], rfl, (by rw [List.map_append]; rfl), ?_, c2.trans (x1.trans x2)⟩
        have eo : ones (g.take (j + 1)) = ones (g.take j) ++ [(t.1, if t.2 % 2 = 0 then 1 else -1)] := by
          unfold ones; rw [List.take_add_one, ht1, List.map_append]; rfl
        rw [eo]
        exact Tups.snoc (c1.keep fun b xs z => (x1.trans x2) b _ z) upd_same
      · rintro ys σ G2 ⟨v0, v1, ts, rfl, rfl, c1, c2⟩ D hD
        rw [List.length_map, hrl, List.take_length] at c1
        have x1 : Same G2 (upd G2 D (.lst (ts.map V.ref))) := Same.upd hD
        have TDn : TLo (upd G2 D (.lst (ts.map V.ref))) D (ones g) := ⟨ts, upd_same, c1.keep fun b xs z => x1 b _ z⟩
        have x2 := c2.trans x1
        have nLD : L ≠ D := ne_of_none (c2 _ _ k1) hD
        have k1' := x2 _ _ k1
        generalize upd G2 D (.lst (ts.map V.ref)) = G3 at x1 TDn x2 k1'
        refine ⟨L, _, _, rfl, rfl, k1', by rw [List.length_map, k5]; exact small6 (by omega), ?_⟩
        have hnq : L ∉ qs ++ [D] := fun z => by
          rcases List.mem_append.mp z with y | y
          · exact k4 y
          · exact nLD (by simpa using y)
        refine ⟨_, qs ++ [D], fs ++ [ones g], rfl, (by rw [upd_same, List.map_append]; rfl), Fms.keepU k1' ((k2.keep x2).snoc TDn) hnq, (fun u hu => ?_), hnq, (by rw [List.length_append, k5]; simp; omega), Fms.keepU k1' (k6.keep x2) (fun z => ?_), ?_, (k8.trans x2).write hLn⟩
        · rcases List.mem_append.mp hu with y | y
          · exact k3 u y
          · rw [show u = ones g by simpa using y]; exact gg.ones
        · rcases List.mem_cons.mp z with y | y
          · exact nB2 y
          · exact nA2 (by simpa using y)
        · rw [upd_ne (Ne.symm nM)]; exact x2 _ _ k7
    · rintro σ G ⟨v4, qs, fs, rfl, k1, k2, k3, k4, k5, k6, k7, k8⟩
      refine ⟨_, rfl, L, rfl, ⟨_, SqL.of k1⟩, ?_⟩
      refine for_list (K := K) (a := L) (xs := qs.map V.ref) (fun i σ G2 => ∃ v4 v5 v6 : Option V, σ = [some (.ref a), some (.ref F), some (.int cu), some (.ref L), v4, v5, v6] ∧ Same G G2)
        ⟨v4, none, none, rfl, Same.refl _⟩ (fun i σ G2 _ ⟨_, _, _, _, e⟩ => SqL.of (e _ _ k1)) ?_ ?_
      · rintro i y σ G2 hi ⟨v4, v5, v6, rfl, sG⟩
        obtain ⟨p, hp, rfl⟩ := at_ref hi
        obtain ⟨g, hg, tg⟩ := fms_at (k2.keep sG) hp
        have gg := k3 g (List.mem_of_getElem? hg)
        obtain ⟨rs, hp1, hR⟩ := id tg
        unfold gName
        refine ⟨_, rfl, p, _, rfl, .inl (SqL.of hp1), fun h hh => ?_⟩
        have x1 : Same G2 (upd G2 h (.lst (rs.map V.ref))) := Same.upd hh
        have Th : TLo (upd G2 h (.lst (rs.map V.ref))) h g := ⟨rs, upd_same, hR.keep fun b xs z => x1 b _ z⟩
        generalize upd G2 h (.lst (rs.map V.ref)) = G3 at x1 Th
        refine ⟨_, rfl, h, g, rfl, Th, gg.ok, gg.len, fun G4 s4 => ?_⟩
        have x4 := x1.trans s4
        refine ⟨_, rfl, _, _, _, true, rfl, .str _, kit_same, true, rfl, iteF ?_⟩
        refine ⟨_, rfl, _, rfl, p, g, rfl, tg.keep x4, gg.ok, gg.len, fun G5 s5 => ?_⟩
        have x5 := x4.trans s5
        refine ⟨rfl, _, rfl, iteNS rfl ?_⟩
        refine ⟨_, rfl, _, rfl, dF g, dF g, (Th.keep (s4.trans s5)).is, (tg.keep x5).is, Nat.le_trans (dep_dF g) (by decide), _, rfl, ?_⟩
        rw [deq_self]
        refine iteF ?_
        refine ⟨_, rfl, g, rfl, gg.fm, gg.ok, gg.len, fun c2 G6 hc2 T2 s6 => ?_⟩
        refine ⟨_, rfl, c2, p, g, rfl, T2, tg.keep (x5.trans s6), gg.len, true, rfl, iteF ?_⟩
        exact ⟨_, _, _, rfl, sG.trans (x5.trans s6)⟩
      · rintro σ G2 ⟨v4, v5, v6, rfl, sG⟩
        exact k _

end
theorem us1 {fd : FuncData} {ps : List Str} (h : ∀ x0, bindArgs fd ⟨[x0], []⟩ = pure (ps.zip [x0])) (us : List Value) (hl : us.length = 1) : bindArgs fd ⟨us, []⟩ = pure (ps.zip us) := by
  cases us with
  | nil => cases hl
  | cons x0 us =>
  replace hl := Nat.succ.inj hl
  cases List.eq_nil_of_length_eq_zero hl
  exact h x0
theorem us2 {fd : FuncData} {ps : List Str} (h : ∀ x0 x1, bindArgs fd ⟨[x0, x1], []⟩ = pure (ps.zip [x0, x1])) (us : List Value) (hl : us.length = 2) : bindArgs fd ⟨us, []⟩ = pure (ps.zip us) := by
  cases us with
  | nil => cases hl
  | cons x0 us =>
  replace hl := Nat.succ.inj hl
  cases us with
  | nil => cases hl
  | cons x1 us =>
  replace hl := Nat.succ.inj hl
  cases List.eq_nil_of_length_eq_zero hl
  exact h x0 x1
theorem us3 {fd : FuncData} {ps : List Str} (h : ∀ x0 x1 x2, bindArgs fd ⟨[x0, x1, x2], []⟩ = pure (ps.zip [x0, x1, x2])) (us : List Value) (hl : us.length = 3) : bindArgs fd ⟨us, []⟩ = pure (ps.zip us) := by
  cases us with
  | nil => cases hl
  | cons x0 us =>
  replace hl := Nat.succ.inj hl
  cases us with
  | nil => cases hl
  | cons x1 us =>
  replace hl := Nat.succ.inj hl
  cases us with
  | nil => cases hl
  | cons x2 us =>
  replace hl := Nat.succ.inj hl
  cases List.eq_nil_of_length_eq_zero hl
  exact h x0 x1 x2
theorem us4 {fd : FuncData} {ps : List Str} (h : ∀ x0 x1 x2 x3, bindArgs fd ⟨[x0, x1, x2, x3], []⟩ = pure (ps.zip [x0, x1, x2, x3])) (us : List Value) (hl : us.length = 4) : bindArgs fd ⟨us, []⟩ = pure (ps.zip us) := by
  cases us with
  | nil => cases hl
  | cons x0 us =>
  replace hl := Nat.succ.inj hl
  cases us with
  | nil => cases hl
  | cons x1 us =>
  replace hl := Nat.succ.inj hl
  cases us with
  | nil => cases hl
  | cons x2 us =>
  replace hl := Nat.succ.inj hl
  cases us with
  | nil => cases hl
  | cons x3 us =>
  replace hl := Nat.succ.inj hl
  cases List.eq_nil_of_length_eq_zero hl
  exact h x0 x1 x2 x3
theorem all_mk {l : PySem.W.OpenLaw} {w : World} {K : PySem.W.Frag} {h : Heap} {mg : Str → Option Value} {fa fL f0 f1 f2 f3 f4 f5 f6 f7 f8 f9 f10 f11 f12 f13 f14 f15 f16 f17 f18 f19 f20 f21 f22 : Addr} (X : K.In h) (G : h.Ns mainGlobals mg) (hfa : mg "law" = some (.ref fa))
    {odL anL od0 an0 od1 an1 od2 an2 od3 an3 od4 an4 od5 an5 od6 an6 od7 an7 od8 an8 od9 an9 od10 an10 od11 an11 od12 an12 od13 an13 od14 an14 od15 an15 od16 an16 od17 an17 od18 an18 od19 an19 od20 an20 od21 an21 od22 an22 : Option Addr} {slL sl0 sl1 sl2 sl3 sl4 sl5 sl6 sl7 sl8 sl9 sl10 sl11 sl12 sl13 sl14 sl15 sl16 sl17 sl18 sl19 sl20 sl21 sl22 : Array (Option Value)} {ocL kVL dcL pmL cdL ctL oc0 kV0 dc0 pm0 cd0 ct0 oc1 kV1 dc1 pm1 cd1 ct1 oc2 kV2 dc2 pm2 cd2 ct2 oc3 kV3 dc3 pm3 cd3 ct3 oc4 kV4 dc4 pm4 cd4 ct4 oc5 kV5 dc5 pm5 cd5 ct5 oc6 kV6 dc6 pm6 cd6 ct6 oc7 kV7 dc7 pm7 cd7 ct7 oc8 kV8 dc8 pm8 cd8 ct8 oc9 kV9 dc9 pm9 cd9 ct9 oc10 kV10 dc10 pm10 cd10 ct10 oc11 kV11 dc11 pm11 cd11 ct11 oc12 kV12 dc12 pm12 cd12 ct12 oc13 kV13 dc13 pm13 cd13 ct13 oc14 kV14 dc14 pm14 cd14 ct14 oc15 kV15 dc15 pm15 cd15 ct15 oc16 kV16 dc16 pm16 cd16 ct16 oc17 kV17 dc17 pm17 cd17 ct17 oc18 kV18 dc18 pm18 cd18 ct18 oc19 kV19 dc19 pm19 cd19 ct19 oc20 kV20 dc20 pm20 cd20 ct20 oc21 kV21 dc21 pm21 cd21 ct21 oc22 kV22 dc22 pm22 cd22 ct22 : Value}
    (a0 : PySem.W.nsIn K mainGlobals "_law_made" = some (some (.ref f0))) (l0 : K.lookup f0 = some ⟨oc0, od0, .func (PySem.W.fnOf "_law_made" "_law_made" (defArgs s_law_made) (defBody s_law_made) (defScope s_law_made) .none kV0 dc0 pm0 an0 cd0 ct0), sl0⟩) (c0 : PySem.W.codeIn K cd0 "_law_made" = true) (k0 : PySem.W.keepIn K (.ref f0) = true)
    (a1 : PySem.W.nsIn K mainGlobals "_law_mixed" = some (some (.ref f1))) (l1 : K.lookup f1 = some ⟨oc1, od1, .func (PySem.W.fnOf "_law_mixed" "_law_mixed" (defArgs s_law_mixed) (defBody s_law_mixed) (defScope s_law_mixed) .none kV1 dc1 pm1 an1 cd1 ct1), sl1⟩) (c1 : PySem.W.codeIn K cd1 "_law_mixed" = true) (k1 : PySem.W.keepIn K (.ref f1) = true)
    (a2 : PySem.W.nsIn K mainGlobals "_law_big" = some (some (.ref f2))) (l2 : K.lookup f2 = some ⟨oc2, od2, .func (PySem.W.fnOf "_law_big" "_law_big" (defArgs s_law_big) (defBody s_law_big) (defScope s_law_big) .none kV2 dc2 pm2 an2 cd2 ct2), sl2⟩) (c2 : PySem.W.codeIn K cd2 "_law_big" = true) (k2 : PySem.W.keepIn K (.ref f2) = true)
    (a3 : PySem.W.nsIn K mainGlobals "_law_own" = some (some (.ref f3))) (l3 : K.lookup f3 = some ⟨oc3, od3, .func (PySem.W.fnOf "_law_own" "_law_own" (defArgs s_law_own) (defBody s_law_own) (defScope s_law_own) .none kV3 dc3 pm3 an3 cd3 ct3), sl3⟩) (c3 : PySem.W.codeIn K cd3 "_law_own" = true) (k3 : PySem.W.keepIn K (.ref f3) = true)
    (a4 : PySem.W.nsIn K mainGlobals "_law_form" = some (some (.ref f4))) (l4 : K.lookup f4 = some ⟨oc4, od4, .func (PySem.W.fnOf "_law_form" "_law_form" (defArgs s_law_form) (defBody s_law_form) (defScope s_law_form) .none kV4 dc4 pm4 an4 cd4 ct4), sl4⟩) (c4 : PySem.W.codeIn K cd4 "_law_form" = true) (k4 : PySem.W.keepIn K (.ref f4) = true)
    (a5 : PySem.W.nsIn K mainGlobals "shown_sign" = some (some (.ref f5))) (l5 : K.lookup f5 = some ⟨oc5, od5, .func (PySem.W.fnOf "shown_sign" "shown_sign" (defArgs s_shown_sign) (defBody s_shown_sign) (defScope s_shown_sign) .none kV5 dc5 pm5 an5 cd5 ct5), sl5⟩) (c5 : PySem.W.codeIn K cd5 "shown_sign" = true) (k5 : PySem.W.keepIn K (.ref f5) = true)
    (a6 : PySem.W.nsIn K mainGlobals "bits_of" = some (some (.ref f6))) (l6 : K.lookup f6 = some ⟨oc6, od6, .func (PySem.W.fnOf "bits_of" "bits_of" (defArgs s_bits_of) (defBody s_bits_of) (defScope s_bits_of) .none kV6 dc6 pm6 an6 cd6 ct6), sl6⟩) (c6 : PySem.W.codeIn K cd6 "bits_of" = true) (k6 : PySem.W.keepIn K (.ref f6) = true)
    (a7 : PySem.W.nsIn K mainGlobals "listed" = some (some (.ref f7))) (l7 : K.lookup f7 = some ⟨oc7, od7, .func (PySem.W.fnOf "listed" "listed" (defArgs s_listed) (defBody s_listed) (defScope s_listed) .none kV7 dc7 pm7 an7 cd7 ct7), sl7⟩) (c7 : PySem.W.codeIn K cd7 "listed" = true) (k7 : PySem.W.keepIn K (.ref f7) = true)
    (a8 : PySem.W.nsIn K mainGlobals "shown_set" = some (some (.ref f8))) (l8 : K.lookup f8 = some ⟨oc8, od8, .func (PySem.W.fnOf "shown_set" "shown_set" (defArgs s_shown_set) (defBody s_shown_set) (defScope s_shown_set) .none kV8 dc8 pm8 an8 cd8 ct8), sl8⟩) (c8 : PySem.W.codeIn K cd8 "shown_set" = true) (k8 : PySem.W.keepIn K (.ref f8) = true)
    (a9 : PySem.W.nsIn K mainGlobals "shown_tuple" = some (some (.ref f9))) (l9 : K.lookup f9 = some ⟨oc9, od9, .func (PySem.W.fnOf "shown_tuple" "shown_tuple" (defArgs s_shown_tuple) (defBody s_shown_tuple) (defScope s_shown_tuple) .none kV9 dc9 pm9 an9 cd9 ct9), sl9⟩) (c9 : PySem.W.codeIn K cd9 "shown_tuple" = true) (k9 : PySem.W.keepIn K (.ref f9) = true)
    (a10 : PySem.W.nsIn K mainGlobals "form_shown" = some (some (.ref f10))) (l10 : K.lookup f10 = some ⟨oc10, od10, .func (PySem.W.fnOf "form_shown" "form_shown" (defArgs s_form_shown) (defBody s_form_shown) (defScope s_form_shown) .none kV10 dc10 pm10 an10 cd10 ct10), sl10⟩) (c10 : PySem.W.codeIn K cd10 "form_shown" = true) (k10 : PySem.W.keepIn K (.ref f10) = true)
    (a11 : PySem.W.nsIn K mainGlobals "_law_at" = some (some (.ref f11))) (l11 : K.lookup f11 = some ⟨oc11, od11, .func (PySem.W.fnOf "_law_at" "_law_at" (defArgs s_law_at) (defBody s_law_at) (defScope s_law_at) .none kV11 dc11 pm11 an11 cd11 ct11), sl11⟩) (c11 : PySem.W.codeIn K cd11 "_law_at" = true) (k11 : PySem.W.keepIn K (.ref f11) = true)
    (a12 : PySem.W.nsIn K mainGlobals "_law_free" = some (some (.ref f12))) (l12 : K.lookup f12 = some ⟨oc12, od12, .func (PySem.W.fnOf "_law_free" "_law_free" (defArgs s_law_free) (defBody s_law_free) (defScope s_law_free) .none kV12 dc12 pm12 an12 cd12 ct12), sl12⟩) (c12 : PySem.W.codeIn K cd12 "_law_free" = true) (k12 : PySem.W.keepIn K (.ref f12) = true)
    (a13 : PySem.W.nsIn K mainGlobals "_law_whole" = some (some (.ref f13))) (l13 : K.lookup f13 = some ⟨oc13, od13, .func (PySem.W.fnOf "_law_whole" "_law_whole" (defArgs s_law_whole) (defBody s_law_whole) (defScope s_law_whole) .none kV13 dc13 pm13 an13 cd13 ct13), sl13⟩) (c13 : PySem.W.codeIn K cd13 "_law_whole" = true) (k13 : PySem.W.keepIn K (.ref f13) = true)
    (a14 : PySem.W.nsIn K mainGlobals "_law_same" = some (some (.ref f14))) (l14 : K.lookup f14 = some ⟨oc14, od14, .func (PySem.W.fnOf "_law_same" "_law_same" (defArgs s_law_same) (defBody s_law_same) (defScope s_law_same) .none kV14 dc14 pm14 an14 cd14 ct14), sl14⟩) (c14 : PySem.W.codeIn K cd14 "_law_same" = true) (k14 : PySem.W.keepIn K (.ref f14) = true)
    (a15 : PySem.W.nsIn K mainGlobals "_law_letters_of" = some (some (.ref f15))) (l15 : K.lookup f15 = some ⟨oc15, od15, .func (PySem.W.fnOf "_law_letters_of" "_law_letters_of" (defArgs s_law_letters_of) (defBody s_law_letters_of) (defScope s_law_letters_of) .none kV15 dc15 pm15 an15 cd15 ct15), sl15⟩) (c15 : PySem.W.codeIn K cd15 "_law_letters_of" = true) (k15 : PySem.W.keepIn K (.ref f15) = true)
    (a16 : PySem.W.nsIn K mainGlobals "_law_shown" = some (some (.ref f16))) (l16 : K.lookup f16 = some ⟨oc16, od16, .func (PySem.W.fnOf "_law_shown" "_law_shown" (defArgs s_law_shown) (defBody s_law_shown) (defScope s_law_shown) .none kV16 dc16 pm16 an16 cd16 ct16), sl16⟩) (c16 : PySem.W.codeIn K cd16 "_law_shown" = true) (k16 : PySem.W.keepIn K (.ref f16) = true)
    (a17 : PySem.W.nsIn K mainGlobals "read_number" = some (some (.ref f17))) (l17 : K.lookup f17 = some ⟨oc17, od17, .func (PySem.W.fnOf "read_number" "read_number" (defArgs s_read_number) (defBody s_read_number) (defScope s_read_number) .none kV17 dc17 pm17 an17 cd17 ct17), sl17⟩) (c17 : PySem.W.codeIn K cd17 "read_number" = true) (k17 : PySem.W.keepIn K (.ref f17) = true)
    (a18 : PySem.W.nsIn K mainGlobals "doubled" = some (some (.ref f18))) (l18 : K.lookup f18 = some ⟨oc18, od18, .func (PySem.W.fnOf "doubled" "doubled" (defArgs s_doubled) (defBody s_doubled) (defScope s_doubled) .none kV18 dc18 pm18 an18 cd18 ct18), sl18⟩) (c18 : PySem.W.codeIn K cd18 "doubled" = true) (k18 : PySem.W.keepIn K (.ref f18) = true)
    (a19 : PySem.W.nsIn K mainGlobals "read_set" = some (some (.ref f19))) (l19 : K.lookup f19 = some ⟨oc19, od19, .func (PySem.W.fnOf "read_set" "read_set" (defArgs s_read_set) (defBody s_read_set) (defScope s_read_set) .none kV19 dc19 pm19 an19 cd19 ct19), sl19⟩) (c19 : PySem.W.codeIn K cd19 "read_set" = true) (k19 : PySem.W.keepIn K (.ref f19) = true)
    (a20 : PySem.W.nsIn K mainGlobals "read_tuple" = some (some (.ref f20))) (l20 : K.lookup f20 = some ⟨oc20, od20, .func (PySem.W.fnOf "read_tuple" "read_tuple" (defArgs s_read_tuple) (defBody s_read_tuple) (defScope s_read_tuple) .none kV20 dc20 pm20 an20 cd20 ct20), sl20⟩) (c20 : PySem.W.codeIn K cd20 "read_tuple" = true) (k20 : PySem.W.keepIn K (.ref f20) = true)
    (a21 : PySem.W.nsIn K mainGlobals "is_form" = some (some (.ref f21))) (l21 : K.lookup f21 = some ⟨oc21, od21, .func (PySem.W.fnOf "is_form" "is_form" (defArgs s_is_form) (defBody s_is_form) (defScope s_is_form) .none kV21 dc21 pm21 an21 cd21 ct21), sl21⟩) (c21 : PySem.W.codeIn K cd21 "is_form" = true) (k21 : PySem.W.keepIn K (.ref f21) = true)
    (a22 : PySem.W.nsIn K mainGlobals "form_read" = some (some (.ref f22))) (l22 : K.lookup f22 = some ⟨oc22, od22, .func (PySem.W.fnOf "form_read" "form_read" (defArgs s_form_read) (defBody s_form_read) (defScope s_form_read) .none kV22 dc22 pm22 an22 cd22 ct22), sl22⟩) (c22 : PySem.W.codeIn K cd22 "form_read" = true) (k22 : PySem.W.keepIn K (.ref f22) = true)
    (aL : PySem.W.nsIn K mainGlobals "law" = some (some (.ref fL))) (lL : K.lookup fL = some ⟨ocL, odL, .func (PySem.W.fnOf "law" "law" (defArgs s_law) (defBody s_law) (defScope s_law) .none kVL dcL pmL anL cdL ctL), slL⟩) (cL : PySem.W.codeIn K cdL "law" = true) (kL : PySem.W.keepIn K (.ref fL) = true)
    (z_abs : PySem.W.nsIn K mainGlobals "abs" = some none)
    (z_bool : PySem.W.nsIn K mainGlobals "bool" = some none)
    (z_enumerate : PySem.W.nsIn K mainGlobals "enumerate" = some none)
    (z_int : PySem.W.nsIn K mainGlobals "int" = some none)
    (z_isinstance : PySem.W.nsIn K mainGlobals "isinstance" = some none)
    (z_len : PySem.W.nsIn K mainGlobals "len" = some none)
    (z_list : PySem.W.nsIn K mainGlobals "list" = some none)
    (z_range : PySem.W.nsIn K mainGlobals "range" = some none)
    (z_sorted : PySem.W.nsIn K mainGlobals "sorted" = some none)
    (z_str : PySem.W.nsIn K mainGlobals "str" = some none)
    (z_tuple : PySem.W.nsIn K mainGlobals "tuple" = some none)
    (z_zip : PySem.W.nsIn K mainGlobals "zip" = some none)
    {tk_LETTERS : Tok} (g_LETTERS : PySem.W.nsIn K mainGlobals "LETTERS" = some (some (.str "abcdefghijklmnop" tk_LETTERS)))
    {tk_FIGURES : Tok} (g_FIGURES : PySem.W.nsIn K mainGlobals "FIGURES" = some (some (.str "0123456789" tk_FIGURES))) :
    ∃ fd : FuncData, (∀ (s : Shared) (v : Value), BindsTo s fd ⟨[v], []⟩ [("_law_script", v)]) ∧ ∀ base : Heap, K.In base → base.Ns mainGlobals mg → FnOk l.prog w K mg base CX0 6 fa fd ["_law_script"] (spLaw K) := by
  have e := hfa.symm.trans (PySem.W.mg_of X G aL)
  cases e
  have F0 := fun_mk (st := s_law_made) l0 c0 k0
  have F1 := fun_mk (st := s_law_mixed) l1 c1 k1
  have F2 := fun_mk (st := s_law_big) l2 c2 k2
  have F3 := fun_mk (st := s_law_own) l3 c3 k3
  have F4 := fun_mk (st := s_law_form) l4 c4 k4
  have F5 := fun_mk (st := s_shown_sign) l5 c5 k5
  have F6 := fun_mk (st := s_bits_of) l6 c6 k6
  have F7 := fun_mk (st := s_listed) l7 c7 k7
  have F8 := fun_mk (st := s_shown_set) l8 c8 k8
  have F9 := fun_mk (st := s_shown_tuple) l9 c9 k9
  have F10 := fun_mk (st := s_form_shown) l10 c10 k10
  have F11 := fun_mk (st := s_law_at) l11 c11 k11
  have F12 := fun_mk (st := s_law_free) l12 c12 k12
  have F13 := fun_mk (st := s_law_whole) l13 c13 k13
  have F14 := fun_mk (st := s_law_same) l14 c14 k14
  have F15 := fun_mk (st := s_law_letters_of) l15 c15 k15
  have F16 := fun_mk (st := s_law_shown) l16 c16 k16
  have F17 := fun_mk (st := s_read_number) l17 c17 k17
  have F18 := fun_mk (st := s_doubled) l18 c18 k18
  have F19 := fun_mk (st := s_read_set) l19 c19 k19
  have F20 := fun_mk (st := s_read_tuple) l20 c20 k20
  have F21 := fun_mk (st := s_is_form) l21 c21 k21
  have F22 := fun_mk (st := s_form_read) l22 c22 k22
  have T : Txt K mg := {
    a_law_made := f0, fd_law_made := _, d_law_made := ⟨F0, PySem.W.mg_of X G a0, F0.binds fun _ _ _ _ _ _ us hl => us1 (fun _ => rfl) us hl⟩
    a_law_mixed := f1, fd_law_mixed := _, d_law_mixed := ⟨F1, PySem.W.mg_of X G a1, F1.binds fun _ _ _ _ _ _ us hl => us2 (fun _ _ => rfl) us hl⟩
    a_law_big := f2, fd_law_big := _, d_law_big := ⟨F2, PySem.W.mg_of X G a2, F2.binds fun _ _ _ _ _ _ us hl => us3 (fun _ _ _ => rfl) us hl⟩
    a_law_own := f3, fd_law_own := _, d_law_own := ⟨F3, PySem.W.mg_of X G a3, F3.binds fun _ _ _ _ _ _ us hl => us1 (fun _ => rfl) us hl⟩
    a_law_form := f4, fd_law_form := _, d_law_form := ⟨F4, PySem.W.mg_of X G a4, F4.binds fun _ _ _ _ _ _ us hl => us4 (fun _ _ _ _ => rfl) us hl⟩
    a_shown_sign := f5, fd_shown_sign := _, d_shown_sign := ⟨F5, PySem.W.mg_of X G a5, F5.binds fun _ _ _ _ _ _ us hl => us1 (fun _ => rfl) us hl⟩
    a_bits_of := f6, fd_bits_of := _, d_bits_of := ⟨F6, PySem.W.mg_of X G a6, F6.binds fun _ _ _ _ _ _ us hl => us2 (fun _ _ => rfl) us hl⟩
    a_listed := f7, fd_listed := _, d_listed := ⟨F7, PySem.W.mg_of X G a7, F7.binds fun _ _ _ _ _ _ us hl => us1 (fun _ => rfl) us hl⟩
    a_shown_set := f8, fd_shown_set := _, d_shown_set := ⟨F8, PySem.W.mg_of X G a8, F8.binds fun _ _ _ _ _ _ us hl => us1 (fun _ => rfl) us hl⟩
    a_shown_tuple := f9, fd_shown_tuple := _, d_shown_tuple := ⟨F9, PySem.W.mg_of X G a9, F9.binds fun _ _ _ _ _ _ us hl => us2 (fun _ _ => rfl) us hl⟩
    a_form_shown := f10, fd_form_shown := _, d_form_shown := ⟨F10, PySem.W.mg_of X G a10, F10.binds fun _ _ _ _ _ _ us hl => us1 (fun _ => rfl) us hl⟩
    a_law_at := f11, fd_law_at := _, d_law_at := ⟨F11, PySem.W.mg_of X G a11, F11.binds fun _ _ _ _ _ _ us hl => us2 (fun _ _ => rfl) us hl⟩
    a_law_free := f12, fd_law_free := _, d_law_free := ⟨F12, PySem.W.mg_of X G a12, F12.binds fun _ _ _ _ _ _ us hl => us1 (fun _ => rfl) us hl⟩
    a_law_whole := f13, fd_law_whole := _, d_law_whole := ⟨F13, PySem.W.mg_of X G a13, F13.binds fun _ _ _ _ _ _ us hl => us1 (fun _ => rfl) us hl⟩
    a_law_same := f14, fd_law_same := _, d_law_same := ⟨F14, PySem.W.mg_of X G a14, F14.binds fun _ _ _ _ _ _ us hl => us2 (fun _ _ => rfl) us hl⟩
    a_law_letters_of := f15, fd_law_letters_of := _, d_law_letters_of := ⟨F15, PySem.W.mg_of X G a15, F15.binds fun _ _ _ _ _ _ us hl => us1 (fun _ => rfl) us hl⟩
    a_law_shown := f16, fd_law_shown := _, d_law_shown := ⟨F16, PySem.W.mg_of X G a16, F16.binds fun _ _ _ _ _ _ us hl => us1 (fun _ => rfl) us hl⟩
    a_read_number := f17, fd_read_number := _, d_read_number := ⟨F17, PySem.W.mg_of X G a17, F17.binds fun _ _ _ _ _ _ us hl => us2 (fun _ _ => rfl) us hl⟩
    a_doubled := f18, fd_doubled := _, d_doubled := ⟨F18, PySem.W.mg_of X G a18, F18.binds fun _ _ _ _ _ _ us hl => us1 (fun _ => rfl) us hl⟩
    a_read_set := f19, fd_read_set := _, d_read_set := ⟨F19, PySem.W.mg_of X G a19, F19.binds fun _ _ _ _ _ _ us hl => us1 (fun _ => rfl) us hl⟩
    a_read_tuple := f20, fd_read_tuple := _, d_read_tuple := ⟨F20, PySem.W.mg_of X G a20, F20.binds fun _ _ _ _ _ _ us hl => us2 (fun _ _ => rfl) us hl⟩
    a_is_form := f21, fd_is_form := _, d_is_form := ⟨F21, PySem.W.mg_of X G a21, F21.binds fun _ _ _ _ _ _ us hl => us1 (fun _ => rfl) us hl⟩
    a_form_read := f22, fd_form_read := _, d_form_read := ⟨F22, PySem.W.mg_of X G a22, F22.binds fun _ _ _ _ _ _ us hl => us1 (fun _ => rfl) us hl⟩
    n_abs := PySem.W.mg_none_of X G z_abs
    n_bool := PySem.W.mg_none_of X G z_bool
    n_enumerate := PySem.W.mg_none_of X G z_enumerate
    n_int := PySem.W.mg_none_of X G z_int
    n_isinstance := PySem.W.mg_none_of X G z_isinstance
    n_len := PySem.W.mg_none_of X G z_len
    n_list := PySem.W.mg_none_of X G z_list
    n_range := PySem.W.mg_none_of X G z_range
    n_sorted := PySem.W.mg_none_of X G z_sorted
    n_str := PySem.W.mg_none_of X G z_str
    n_tuple := PySem.W.mg_none_of X G z_tuple
    n_zip := PySem.W.mg_none_of X G z_zip
    t_LETTERS := tk_LETTERS, g_LETTERS := PySem.W.mg_of X G g_LETTERS
    t_FIGURES := tk_FIGURES, g_FIGURES := PySem.W.mg_of X G g_FIGURES
  }
  have FL := fun_mk (st := s_law) lL cL kL
  exact ⟨PySem.W.fnOf "law" "law" (defArgs s_law) (defBody s_law) (defScope s_law) .none kVL dcL pmL anL cdL ctL, fun s v => .of_eq rfl, fun base _ _ => ok_law FL T⟩
theorem walk {l : PySem.W.OpenLaw} {q : Program} {loose : List Str} {XP : (Str → Option Value) → Heap → Prop} {YP : World → Heap → Prop} {d : DefRec} {K : Params → PySem.W.Frag} (hn : l.most = some 63) (hdf : d.params.defaults = [])
    (hY : ∀ (w : World) (h : Heap), YP w h → (K w.params).In h)
    (F : ∀ (w : World) (mg : Str → Option Value) (fa : Addr) (h : Heap), (K w.params).In h → h.Ns mainGlobals mg → mg d.name = some (.ref fa) →
      ∃ fd : FuncData, (∀ (s : Shared) (u : Value), BindsTo s fd ⟨[u], []⟩ [("_law_script", u)]) ∧ ∀ base : Heap, (K w.params).In base → base.Ns mainGlobals mg → FnOk l.prog w (K w.params) mg base CX0 6 fa fd ["_law_script"] (spLaw (K w.params))) :
    PySem.W.WalkO q loose XP YP l.row.toRowW d [] (fun f vs => PySem.call f vs) :=
  L2.walk_ofB (n := 63) (k := 6) (x := "_law_script") (CX := fun _ => CX0) (sp := fun w => spLaw (K w.params)) hn (by decide) hdf ⟨rfl, by decide, by decide⟩ hY F (fun _ _ a ns hl hb _ hS => ⟨a, ns, rfl, hS, hl, hb, fun _ => rfl⟩) fun _ _ _ _ _ z => z
end My
open PySem PySem.W PyProof.Rows
set_option maxRecDepth 100000 in
set_option maxHeartbeats 0 in
theorem PySem.Challenge.cw_onceform_k80_forms_written_holds : PySem.Challenge.rw_onceform_k80_forms_written.Holds := by
  w_on; o_law; k_head; (case hw => w_witness2)
  k_fill
  refine My.walk (l := PySem.Challenge.rw_onceform_k80_forms_written) rfl rfl (fun w h Y => PySem.W.kIn_of Y) ?F
  case F =>
    intro w mg fa h KX G hmg
    refine' My.all_mk KX G hmg ?a0 ?l0 ?c0 ?k0 ?a1 ?l1 ?c1 ?k1 ?a2 ?l2 ?c2 ?k2 ?a3 ?l3 ?c3 ?k3 ?a4 ?l4 ?c4 ?k4 ?a5 ?l5 ?c5 ?k5 ?a6 ?l6 ?c6 ?k6 ?a7 ?l7 ?c7 ?k7 ?a8 ?l8 ?c8 ?k8 ?a9 ?l9 ?c9 ?k9 ?a10 ?l10 ?c10 ?k10 ?a11 ?l11 ?c11 ?k11 ?a12 ?l12 ?c12 ?k12 ?a13 ?l13 ?c13 ?k13 ?a14 ?l14 ?c14 ?k14 ?a15 ?l15 ?c15 ?k15 ?a16 ?l16 ?c16 ?k16 ?a17 ?l17 ?c17 ?k17 ?a18 ?l18 ?c18 ?k18 ?a19 ?l19 ?c19 ?k19 ?a20 ?l20 ?c20 ?k20 ?a21 ?l21 ?c21 ?k21 ?a22 ?l22 ?c22 ?k22 ?aL ?lL ?cL ?kL ?z_abs ?z_bool ?z_enumerate ?z_int ?z_isinstance ?z_len ?z_list ?z_range ?z_sorted ?z_str ?z_tuple ?z_zip ?g_LETTERS ?g_FIGURES
    (case a0 => k_is)
    (case l0 => k_is)
    (case c0 => k_is)
    (case k0 => k_is)
    (case a1 => k_is)
    (case l1 => k_is)
    (case c1 => k_is)
    (case k1 => k_is)
    (case a2 => k_is)
    (case l2 => k_is)
    (case c2 => k_is)
    (case k2 => k_is)
    (case a3 => k_is)
    (case l3 => k_is)
    (case c3 => k_is)
    (case k3 => k_is)
    (case a4 => k_is)
    (case l4 => k_is)
    (case c4 => k_is)
    (case k4 => k_is)
    (case a5 => k_is)
    (case l5 => k_is)
    (case c5 => k_is)
    (case k5 => k_is)
    (case a6 => k_is)
    (case l6 => k_is)
    (case c6 => k_is)
    (case k6 => k_is)
    (case a7 => k_is)
    (case l7 => k_is)
    (case c7 => k_is)
    (case k7 => k_is)
    (case a8 => k_is)
    (case l8 => k_is)
    (case c8 => k_is)
    (case k8 => k_is)
    (case a9 => k_is)
    (case l9 => k_is)
    (case c9 => k_is)
    (case k9 => k_is)
    (case a10 => k_is)
    (case l10 => k_is)
    (case c10 => k_is)
    (case k10 => k_is)
    (case a11 => k_is)
    (case l11 => k_is)
    (case c11 => k_is)
    (case k11 => k_is)
    (case a12 => k_is)
    (case l12 => k_is)
    (case c12 => k_is)
    (case k12 => k_is)
    (case a13 => k_is)
    (case l13 => k_is)
    (case c13 => k_is)
    (case k13 => k_is)
    (case a14 => k_is)
    (case l14 => k_is)
    (case c14 => k_is)
    (case k14 => k_is)
    (case a15 => k_is)
    (case l15 => k_is)
    (case c15 => k_is)
    (case k15 => k_is)
    (case a16 => k_is)
    (case l16 => k_is)
    (case c16 => k_is)
    (case k16 => k_is)
    (case a17 => k_is)
    (case l17 => k_is)
    (case c17 => k_is)
    (case k17 => k_is)
    (case a18 => k_is)
    (case l18 => k_is)
    (case c18 => k_is)
    (case k18 => k_is)
    (case a19 => k_is)
    (case l19 => k_is)
    (case c19 => k_is)
    (case k19 => k_is)
    (case a20 => k_is)
    (case l20 => k_is)
    (case c20 => k_is)
    (case k20 => k_is)
    (case a21 => k_is)
    (case l21 => k_is)
    (case c21 => k_is)
    (case k21 => k_is)
    (case a22 => k_is)
    (case l22 => k_is)
    (case c22 => k_is)
    (case k22 => k_is)
    (case aL => k_is)
    (case lL => k_is)
    (case cL => k_is)
    (case kL => k_is)
    (case z_abs => k_is)
    (case z_bool => k_is)
    (case z_enumerate => k_is)
    (case z_int => k_is)
    (case z_isinstance => k_is)
    (case z_len => k_is)
    (case z_list => k_is)
    (case z_range => k_is)
    (case z_sorted => k_is)
    (case z_str => k_is)
    (case z_tuple => k_is)
    (case z_zip => k_is)
    (case g_LETTERS => k_is)
    (case g_FIGURES => k_is)
#print axioms PySem.Challenge.cw_onceform_k80_forms_written_holds

