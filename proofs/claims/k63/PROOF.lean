import PyProof.Rows.All
import Wide.All
import OpenK.AllK
import Wide.FinOn
import Lean
import PyProof.EqAt
import PyProof.EqKinds
import PyProof.TupleCall
import KE.KDictOf
import KE.KTryMore
import OpenK.KCls
import PyProof.AttrMissHeap
import PyProof.Draws
import PyProof.EnumMake
import PyProof.EnumStmt
import PyProof.InstStoreFacts
import PyProof.ListRange
import PyProof.ObjNew
import PyProof.Rows.SeqMore
import PyProof.Rows.SortStr
import PyProof.Rows.StrItems
import PyProof.Rows.StrSplitAre
import PyProof.SliceList
import PyProof.StrCalls2
import PyProof.WalksEnum
import PyProof.ZipIter
import PySem.Builtin.Int.Common
import PySem.Challenge.RW_tightwood_k63_whole_ways_back
set_option Elab.async false
set_option linter.all false
set_option maxRecDepth 100000
/-! THE HAND LAYER, for ints, bools, texts, own classes, LISTS and tuples (index, slices, in, append, pop ..), calls, loops. Paste it whole ahead of your own text; what your proof does not reach may be deleted. -/
namespace L2
open PySem PySem.Spec PyProof.Rows

/-- a key: an int or a str -/
abbrev Key := Sum Int Str
def keyIs : Key → Value → Bool
  | .inl k, v => Value.isInt k v
  | .inr x, v => Value.isStrOf x v
def keyH (w : World) : Key → Int
  | .inl k => hashInt k
  | .inr x => hashStr w x
theorem keyIs_shape : ∀ {k : Key} {v : Value}, keyIs k v = true → (∃ i t, k = Sum.inl i ∧ v = Value.int i t) ∨ (∃ x t, k = Sum.inr x ∧ v = Value.str x t)
  | .inl i, v, h => by
    obtain ⟨t, e⟩ := Value.isInt_shape (k := i) (v := v) h
    exact .inl ⟨i, t, rfl, e⟩
  | .inr x, v, h => by
    obtain ⟨t, e⟩ := Value.isStrOf_shape (x := x) (v := v) h
    exact .inr ⟨x, t, rfl, e⟩
theorem keyIs_int (i : Int) (t : Tok) : keyIs (.inl i) (.int i t) = true := by simp [keyIs, Value.isInt]
theorem keyIs_str (x : Str) (t : Tok) : keyIs (.inr x) (.str x t) = true := by simp [keyIs, Value.isStrOf]
theorem key_ll (a b : Int) : decide ((Sum.inl a : Key) = Sum.inl b) = (a == b) := by
  by_cases e : a = b
  · subst e; simp
  · have h : ¬ (Sum.inl a : Key) = Sum.inl b := fun q => e (Sum.inl.inj q)
    rw [decide_eq_false h]
    exact (beq_eq_false_iff_ne.mpr e).symm
theorem key_rr (a b : Str) : decide ((Sum.inr a : Key) = Sum.inr b) = decide (a = b) := by
  by_cases e : a = b
  · subst e; simp
  · have h : ¬ (Sum.inr a : Key) = Sum.inr b := fun q => e (Sum.inr.inj q)
    rw [decide_eq_false h, decide_eq_false e]
theorem key_lr (a : Int) (b : Str) : decide ((Sum.inl a : Key) = Sum.inr b) = false := decide_eq_false (fun q => nomatch q)
theorem key_rl (a : Str) (b : Int) : decide ((Sum.inr a : Key) = Sum.inl b) = false := decide_eq_false (fun q => nomatch q)

def mixKind (prog : Program) (w : World) : PySem.KeyKind prog w Key where
  is := keyIs
  hash := keyH w
  inj := fun v a b ha hb => by
    rcases keyIs_shape ha with ⟨i, t, rfl, rfl⟩ | ⟨x, t, rfl, rfl⟩
    · rcases keyIs_shape hb with ⟨j, u, rfl, e⟩ | ⟨y, u, rfl, e⟩
      · injection e with e1 _; rw [e1]
      · exact nomatch e
    · rcases keyIs_shape hb with ⟨j, u, rfl, e⟩ | ⟨y, u, rfl, e⟩
      · exact nomatch e
      · injection e with e1 _; rw [e1]
  byValue := fun k v h => by
    rcases keyIs_shape h with ⟨i, t, rfl, rfl⟩ | ⟨x, t, rfl, rfl⟩ <;> rfl
  pyHash := fun hv h => by
    rcases keyIs_shape hv with ⟨i, t, rfl, rfl⟩ | ⟨x, t, rfl, rfl⟩
    · exact wpAny_pyHash_int h
    · exact wpAny_pyHash_str h
  eqBool := fun hu hv h => by
    rcases keyIs_shape hu with ⟨i, t, rfl, rfl⟩ | ⟨x, t, rfl, rfl⟩
    · rcases keyIs_shape hv with ⟨j, u, rfl, rfl⟩ | ⟨y, u, rfl, rfl⟩
      · rw [key_ll] at h; exact wpAny_eqBool_int h
      · rw [key_lr] at h; exact SeqAt.EqAt.int_str i t y u _ _ _ _ h
    · rcases keyIs_shape hv with ⟨j, u, rfl, rfl⟩ | ⟨y, u, rfl, rfl⟩
      · rw [key_rl] at h; exact SeqAt.EqAt.str_int x t j u _ _ _ _ h
      · rw [key_rr] at h; exact wpAny_eqBool_str h
  «strs» := fun k x t v h => by
    rcases keyIs_shape h with ⟨i, u, rfl, e⟩ | ⟨y, u, rfl, e⟩
    · exact nomatch e
    · injection e with e1 _
      subst e1
      cases v <;> rfl

theorem mixKind_int (prog : Program) (w : World) (i : Int) (t : Tok) : (mixKind prog w).is (.inl i) (.int i t) = true := keyIs_int i t
theorem mixKind_str (prog : Program) (w : World) (x : Str) (t : Tok) : (mixKind prog w).is (.inr x) (.str x t) = true := keyIs_str x t
end L2

namespace L2
open PySem PySem.Spec PyProof.Rows

/-- a value, without the heap -/
inductive V where
  | non | bl (b : Bool) | int (i : Int) | str (x : Str) | byt (b : Array UInt8) | flt (b : UInt64) | ref (a : Addr) | ty (n : String)
  deriving DecidableEq

def RelV : V → Value → Prop
  | .non, u => u = Value.none
  | .bl b, u => u = Value.bool b
  | .int i, u => ∃ t, u = Value.int i t
  | .str x, u => ∃ t, u = Value.str x t
  | .byt b, u => ∃ t, u = Value.bytes b t
  | .flt b, u => ∃ t, u = Value.float b t
  | .ref a, u => u = Value.ref a
  | .ty n, u => u = Value.type n

abbrev Vals : List V → List Value → Prop := Paired RelV
theorem Vals.length {xs : List V} {us : List Value} (r : Vals xs us) : xs.length = us.length := Paired.length r
theorem Vals.get : ∀ {xs : List V} {us : List Value} {i : Nat} {x : V}, Vals xs us → xs[i]? = some x → ∃ u, us[i]? = some u ∧ RelV x u
  | _, _, _, _, .nil, e => by simp at e
  | _, _, 0, _, .cons r _, e => by simp at e; subst e; exact ⟨_, rfl, r⟩
  | _, _, i + 1, x, .cons _ t, e => by
    obtain ⟨u, h1, h2⟩ := Vals.get (i := i) (x := x) t (by simpa using e)
    exact ⟨u, by simpa using h1, h2⟩
theorem Vals.set {x : V} {u : Value} (r : RelV x u) : ∀ {xs : List V} {us : List Value} (i : Nat), Vals xs us → Vals (xs.set i x) (us.set i u)
  | _, _, _, .nil => .nil
  | _, _, 0, .cons _ t => .cons r t
  | _, _, i + 1, .cons q t => .cons q (Vals.set r i t)
theorem Vals.append : ∀ {xs ys : List V} {us ws : List Value}, Vals xs us → Vals ys ws → Vals (xs ++ ys) (us ++ ws)
  | _, _, _, _, .nil, s => s
  | _, _, _, _, .cons r t, s => .cons r (Vals.append t s)
theorem Vals.take : ∀ {xs : List V} {us : List Value} (n : Nat), Vals xs us → Vals (xs.take n) (us.take n)
  | _, _, 0, _ => .nil
  | _, _, _ + 1, .nil => .nil
  | _, _, n + 1, .cons r t => .cons r (Vals.take n t)
theorem Vals.drop : ∀ {xs : List V} {us : List Value} (n : Nat), Vals xs us → Vals (xs.drop n) (us.drop n)
  | _, _, 0, r => r
  | _, _, _ + 1, .nil => .nil
  | _, _, n + 1, .cons _ t => Vals.drop n t
def RelO : Option V → Option Value → Prop
  | some v, some u => RelV v u
  | none, none => True
  | _, _ => False
def KV {κ : Type} : List (κ × V) → List (κ × Value) → Prop := Paired fun (p : κ × V) (q : κ × Value) => p.1 = q.1 ∧ RelV p.2 q.2

/-- a key of a dict (00_mix): an int or a text -/
def kV : Key → V
  | .inl i => .int i
  | .inr x => .str x

/-- what stands at a tracked address -/
inductive HO where
  /-- a list -/
  | lst (xs : List V)
  /-- a tuple (never changes) -/
  | tup (xs : List V)
  /-- a dict whose keys are ints and texts; one whose keys are tuples of ints and texts (the empty one is both) -/
  | dK (kvs : List (Key × V)) | dT (kvs : List (List Key × V))
  /-- a set of ints: its members, its size -/
  | set (S : Int → Bool) (n : Nat)
  /-- an instance of the class at C, its dict at dx, its attributes -/
  | ins (C dx : Addr) (fs : List (Str × V))
  /-- the dict of the instance at x -/
  | own (x : Addr)
  /-- the dict of an exception -/
  | xd (fs : List (Str × V))
  /-- a bound method, f of x -/
  | met (f x : Addr)
  /-- a range object lo, lo + 1, .. below hi -/
  | rng (lo hi : Int)
  /-- a thing that is known to the object (the script; a dict while a loop walks it): read, never written while it is so -/
  | frz (o : Obj) (u : HO)
  /-- a code object's table -/
  | tbl (ps : Array Value)
  /-- any other thing, by what is true of its one object (a def of one's own: SetO a S n := HO.ext fun h => ..) -/
  | ext (φ : Heap → Prop)

abbrev Hp := Addr → Option HO
def upd (H : Hp) (a : Addr) (o : HO) : Hp := fun b => if b = a then some o else H b
theorem upd_same {H : Hp} {a : Addr} {o : HO} : upd H a o a = some o := by unfold upd; rw [if_pos rfl]
theorem upd_ne {H : Hp} {a b : Addr} {o : HO} (h : b ≠ a) : upd H a o b = H b := by unfold upd; rw [if_neg h]
/-- two objects of different content stand apart -/
theorem ne_of {H : Hp} {a b : Addr} {o u : HO} (h : H a = some o) (h' : H b = some u) (d : o ≠ u) : a ≠ b := by
  intro e; subst e; rw [h] at h'; exact d (Option.some.inj h')
theorem ne_of_none {H : Hp} {a b : Addr} {o : HO} (h : H a = some o) (h' : H b = none) : a ≠ b := by
  intro e; subst e; rw [h] at h'; cases h'

section
variable (P : Program) (w : World)
def ObjOk (H : Hp) (h : Heap) (a : Addr) : HO → Prop
  | .lst xs => xs.length ≤ sizeLine ∧ ∃ (its : List Value) (n : Nat), Vals xs its ∧ h.get? a = some { cls := .type "list", data := .seq its.toArray n }
  | .tup xs => xs.length ≤ sizeLine ∧ ∃ its : List Value, Vals xs its ∧ IsTup h a its.toArray
  | .dK kvs => kvs.length ≤ sizeLine ∧ (a == sysModules) = false ∧ ∃ vs, KV kvs vs ∧ h.DictOf (mixKind P w) a vs
  | .dT kvs => kvs.length ≤ sizeLine ∧ (a == sysModules) = false ∧ ∃ xs : List (List Key × Addr × Value),
      Paired (fun (p : List Key × V) (q : List Key × Addr × Value) => p.1 = q.1 ∧ H q.2.1 = some (.tup (p.1.map kV)) ∧ RelV p.2 q.2.2) kvs xs ∧
      ∃ o es ep, h.get? a = some o ∧ o.ExactDict ∧ o.data = .dict es ep ∧ es.toList = xs.map (entryOfKey (tupleKind (mixKind P w))) ∧ (xs.map (·.1)).Nodup
  | .set S n => h.SetOf (intKind P w) a S n
  | .ins C dx fs => H dx = some (.own a) ∧ fs.length ≤ 1000 ∧ dx ≠ a ∧ h.get? a = some (PySem.W.instObj C dx) ∧
      ∃ mA, h.Ns1 dx mA ∧ (∀ f, RelO (fs.lookup f) (mA f)) ∧ PySem.Within mA (fs.map (·.1))
  | .own _ => ∃ o, h.get? a = some o
  | .xd fs => ∃ mA, h.Ns1 a mA ∧ ∀ f, RelO (fs.lookup f) (mA f)
  | .rng lo hi => ∃ t u v, h.get? a = some { cls := .type "range", data := .fields #[.int lo t, .int hi u, .int 1 v] }
  | .frz o u => h.get? a = some o ∧ ObjOk H h a u
  | .tbl ps => h.get? a = some { cls := .none, data := .fields ps }
  | .met f x => h.get? a = some (PySem.W.methodObj (.ref f) (.ref x))
  | .ext φ => φ h ∧ (∃ o, h.get? a = some o) ∧ ∀ h1 h2 : Heap, φ h1 → (∀ o, h1.get? a = some o → h2.get? a = some o) → φ h2
/-- the abstract heap is held -/
def HOk (H : Hp) (h : Heap) : Prop := ∀ a o, H a = some o → ObjOk P w H h a o
end

section
variable {P : Program} {w : World} {H H' : Hp} {h h' : Heap} {a : Addr} {o : HO}
theorem ObjOk.lt (x : ObjOk P w H h a o) : a < h.objs.size := by
  cases o with
  | lst xs => obtain ⟨_, _, _, _, e⟩ := x; exact Heap.lt_size e
  | tup xs => obtain ⟨_, _, _, p⟩ := x; exact p.lt
  | dK kvs => obtain ⟨_, _, _, _, o, _, _, e, _⟩ := x; exact Heap.lt_size e
  | dT kvs => obtain ⟨_, _, _, _, o, _, _, e, _⟩ := x; exact Heap.lt_size e
  | set S n => obtain ⟨o, _, _, _, e, _⟩ := x; exact Heap.lt_size e
  | ins C dx fs => obtain ⟨_, _, _, e, _⟩ := x; exact Heap.lt_size e
  | own y => obtain ⟨_, e⟩ := x; exact Heap.lt_size e
  | xd fs => obtain ⟨_, ⟨_, _, _, e, _⟩, _⟩ := x; exact Heap.lt_size e
  | rng lo hi => obtain ⟨_, _, _, e⟩ := x; exact Heap.lt_size e
  | frz ob u => obtain ⟨e, _⟩ := x; exact Heap.lt_size e
  | tbl ps => exact Heap.lt_size (show h.get? a = some _ from x)
  | met f y => exact Heap.lt_size (show h.get? a = some _ from x)
  | ext φ => obtain ⟨_, ⟨_, e⟩, _⟩ := x; exact Heap.lt_size e
theorem Paired.mapP {α β : Type} {F G : α → β → Prop} : ∀ {l₁ : List α} {l₂ : List β}, Paired F l₁ l₂ → (∀ a b, F a b → G a b) → Paired G l₁ l₂
  | _, _, .nil, _ => .nil
  | _, _, .cons r t, f => .cons (f _ _ r) (Paired.mapP t f)
/-- what an object's description leans on: its own object, its own dict, the tuples -/
theorem ObjOk.stay (x : ObjOk P w H h a o) (k : ∀ b u, (b = a ∨ H b = some (.own a)) → h.get? b = some u → h'.get? b = some u)
    (ho : ∀ b, H b = some (.own a) → H' b = some (.own a)) (ht : ∀ b xs, H b = some (.tup xs) → H' b = some (.tup xs)) : ObjOk P w H' h' a o := by
  induction o with
  | lst xs => obtain ⟨z, its, n, r, e⟩ := x; exact ⟨z, its, n, r, k _ _ (.inl rfl) e⟩
  | tup xs => obtain ⟨z, its, r, ob, e, c⟩ := x; exact ⟨z, its, r, ob, k _ _ (.inl rfl) e, c⟩
  | dK kvs => obtain ⟨z, y, vs, r, ob, es, ep, e, c⟩ := x; exact ⟨z, y, vs, r, ob, es, ep, k _ _ (.inl rfl) e, c⟩
  | dT kvs =>
    obtain ⟨z, y, xs, r, ob, es, ep, e, c⟩ := x
    exact ⟨z, y, xs, Paired.mapP r fun p q z => ⟨z.1, ht _ _ z.2.1, z.2.2⟩, ob, es, ep, k _ _ (.inl rfl) e, c⟩
  | set S n => obtain ⟨ob, es, ep, t, e, c⟩ := x; exact ⟨ob, es, ep, t, k _ _ (.inl rfl) e, c⟩
  | ins C dx fs =>
    obtain ⟨d, z, ne, e, mA, ⟨od, es, ep, e2, c⟩, r⟩ := x
    exact ⟨ho _ d, z, ne, k _ _ (.inl rfl) e, mA, ⟨od, es, ep, k _ _ (.inr d) e2, c⟩, r⟩
  | own y => obtain ⟨ob, e⟩ := x; exact ⟨ob, k _ _ (.inl rfl) e⟩
  | xd fs => obtain ⟨mA, ⟨od, es, ep, e, c⟩, r⟩ := x; exact ⟨mA, ⟨od, es, ep, k _ _ (.inl rfl) e, c⟩, r⟩
  | rng lo hi => obtain ⟨t, u, v, e⟩ := x; exact ⟨t, u, v, k _ _ (.inl rfl) e⟩
  | frz ob u ih => obtain ⟨e, q⟩ := x; exact ⟨k _ _ (.inl rfl) e, ih q⟩
  | tbl ps =>
    have e : h.get? a = some { cls := .none, data := .fields ps } := x
    show h'.get? a = some { cls := .none, data := .fields ps }
    exact k a _ (.inl rfl) e
  | met f y =>
    have e : h.get? a = some (PySem.W.methodObj (.ref f) (.ref y)) := x
    show h'.get? a = some (PySem.W.methodObj (.ref f) (.ref y))
    exact k a _ (.inl rfl) e
  | ext φ => obtain ⟨p, ⟨o, e⟩, st⟩ := x; exact ⟨st _ _ p fun o q => k _ _ (.inl rfl) q, ⟨o, k _ _ (.inl rfl) e⟩, st⟩
theorem HOk.lt (x : HOk P w H h) (e : H a = some o) : a < h.objs.size := (x a o e).lt
theorem HOk.fresh (x : HOk P w H h) (e : h.objs.size ≤ a) : H a = none := by
  cases q : H a with
  | none => rfl
  | some u => exact absurd (Nat.lt_of_lt_of_le (x.lt q) e) (Nat.lt_irrefl _)
/-- every object of the heap is kept -/
theorem HOk.kept (x : HOk P w H h) (k : ∀ b u, h.get? b = some u → h'.get? b = some u) : HOk P w H h' := fun a o e =>
  (x a o e).stay (fun b u _ q => k b u q) (fun _ q => q) fun _ _ q => q
/-- a new object is laid and tracked -/
theorem HOk.laid (x : HOk P w H h) (k : ∀ b u, h.get? b = some u → h'.get? b = some u) (hp : h.objs.size ≤ a) (new : ObjOk P w (upd H a o) h' a o) : HOk P w (upd H a o) h' := fun b u e => by
  have hn := x.fresh hp
  by_cases hb : b = a
  · subst hb; rw [upd_same] at e; cases e; exact new
  · rw [upd_ne hb] at e
    exact (x b u e).stay (fun c v _ q => k c v q) (fun c q => by rw [upd_ne (ne_of_none q hn)]; exact q) fun c xs q => by rw [upd_ne (ne_of_none q hn)]; exact q
end

/-- what may be read as u: it is u, or a known u -/
def Rd (H : Hp) (a : Addr) (u : HO) : Prop := H a = some u ∨ ∃ o, H a = some (.frz o u)
theorem Rd.ok {P : Program} {w : World} {H : Hp} {h : Heap} {a : Addr} {u : HO} (r : Rd H a u) (x : HOk P w H h) : ObjOk P w H h a u := by
  rcases r with r | ⟨o, r⟩
  · exact x a u r
  · obtain ⟨_, q⟩ := x a _ r
    exact q
/-- what may be written -/
def Mut : Option HO → Prop
  | some (.lst _) => True
  | some (.dK _) => True
  | some (.dT _) => True
  | some (.set _ _) => True
  | some (.ins _ _ _) => True
  | some (.ext _) => True
  | _ => False
section
variable {P : Program} {w : World} {H : Hp} {h h' : Heap} {x e : Addr} {o' : HO}
/-- the object at e is changed: x itself, or the dict of the instance x -/
theorem HOk.write (ok : HOk P w H h) (mu : Mut (H x)) (he : e = x ∨ H e = some (.own x)) (k : ∀ b u, b ≠ e → h.get? b = some u → h'.get? b = some u) (heo : ∃ u, h'.get? e = some u)
    (new : ObjOk P w (upd H x o') h' x o') : HOk P w (upd H x o') h' := fun b u q => by
  have nown : ∀ c y, H c = some (.own y) → c ≠ x := fun c y r z => by subst z; rw [r] at mu; exact mu
  have ntup : ∀ c xs, H c = some (.tup xs) → c ≠ x := fun c xs r z => by subst z; rw [r] at mu; exact mu
  by_cases hb : b = x
  · subst hb; rw [upd_same] at q; cases q; exact new
  · rw [upd_ne hb] at q
    by_cases hbe : b = e
    · have q' : H b = some (.own x) := by
        rcases he with z | z
        · exact absurd (hbe.trans z) hb
        · rw [hbe]; exact z
      rw [q] at q'; cases q'
      obtain ⟨v, hv⟩ := heo
      exact ⟨v, by rw [hbe]; exact hv⟩
    · refine (ok b u q).stay (fun c v hc r => k c v ?_ r) (fun c r => by rw [upd_ne (nown c b r)]; exact r) fun c xs r => by rw [upd_ne (ntup c xs r)]; exact r
      rcases hc with rfl | hc
      · exact hbe
      · rintro rfl
        rcases he with z | z
        · exact nown c b hc z
        · rw [hc] at z; cases z; exact hb rfl
end

/-! ### kept unless tracked; of the frames at fs (the callers') the slots may change (an exception that passes writes there); of the records at ex (iterators) nothing is said -/
structure Un (fs ex : List Addr) (H H' : Hp) (h h' : Heap) : Prop where
  keep : ∀ b o, h.get? b = some o → H b = none → b ∉ fs → b ∉ ex → h'.get? b = some o
  slot : ∀ b o, h.get? b = some o → H b = none → b ∈ fs → b ∉ ex → ∃ sl, h'.get? b = some { o with slots := sl }
  free : ∀ b o, h.get? b = some o → H b = none → b ∉ ex → H' b = none
  there : ∀ b o, h.get? b = some o → b ∉ ex → ∃ o', h'.get? b = some o'
  tups : ∀ b xs, H b = some (.tup xs) → H' b = some (.tup xs)
  frzs : ∀ b o u, H b = some (.frz o u) → H' b = some (.frz o u)
  tbls : ∀ b ps, H b = some (.tbl ps) → ∃ more, H' b = some (.tbl (ps ++ more))
section
variable {fs fs' ex ex' : List Addr} {H H1 H2 : Hp} {h h1 h2 h' : Heap} {a x e : Addr} {o : HO}
theorem Un.any (u : Un fs ex H H1 h h1) {b : Addr} {ob : Obj} (q : h.get? b = some ob) (n : H b = none) (hx : b ∉ ex) : ∃ sl, h1.get? b = some { ob with slots := sl } := by
  by_cases hb : b ∈ fs
  · exact u.slot b ob q n hb hx
  · exact ⟨ob.slots, u.keep b ob q n hb hx⟩
theorem Un.trans (a : Un fs ex H H1 h h1) (b : Un fs ex H1 H2 h1 h2) : Un fs ex H H2 h h2 where
  keep := fun c ob q n hc hx => b.keep c ob (a.keep c ob q n hc hx) (a.free c ob q n hx) hc hx
  slot := fun c ob q n hc hx => by
    obtain ⟨sl, e1⟩ := a.slot c ob q n hc hx
    obtain ⟨sl', e2⟩ := b.slot c _ e1 (a.free c ob q n hx) hc hx
    exact ⟨sl', e2⟩
  free := fun c ob q n hx => by
    obtain ⟨o', e1⟩ := a.there c ob q hx
    exact b.free c o' e1 (a.free c ob q n hx) hx
  there := fun c ob q hx => by
    obtain ⟨o', e1⟩ := a.there c ob q hx
    exact b.there c o' e1 hx
  tups := fun c xs q => b.tups c xs (a.tups c xs q)
  frzs := fun c ob xs q => b.frzs c ob xs (a.frzs c ob xs q)
  tbls := fun c ps q => by
    obtain ⟨m1, e1⟩ := a.tbls c ps q
    obtain ⟨m2, e2⟩ := b.tbls c _ e1
    exact ⟨m1 ++ m2, by rw [e2, Array.append_assoc]⟩
theorem Un.kept (k : ∀ b u, h.get? b = some u → h'.get? b = some u) : Un fs ex H H h h' :=
  ⟨fun b ob q _ _ _ => k b ob q, fun b ob q _ _ _ => ⟨ob.slots, k b ob q⟩, fun _ _ _ n _ => n, fun b ob q _ => ⟨ob, k b ob q⟩, fun _ _ q => q, fun _ _ _ q => q, fun _ ps q => ⟨#[], by rw [q]; simp⟩⟩
theorem Un.refl : Un fs ex H H h h := Un.kept fun _ _ q => q
theorem Un.laid (k : ∀ b u, h.get? b = some u → h'.get? b = some u) (hp : h.objs.size ≤ a) (hn : H a = none) : Un fs ex H (upd H a o) h h' where
  keep := fun b u q _ _ _ => k b u q
  slot := fun b u q _ _ _ => ⟨u.slots, k b u q⟩
  free := fun b u q n _ => by rw [upd_ne (Nat.ne_of_lt (Nat.lt_of_lt_of_le (Heap.lt_size q) hp))]; exact n
  there := fun b u q _ => ⟨u, k b u q⟩
  tups := fun b xs q => by rw [upd_ne (ne_of_none q hn)]; exact q
  frzs := fun b u xs q => by rw [upd_ne (ne_of_none q hn)]; exact q
  tbls := fun b ps q => ⟨#[], by rw [upd_ne (ne_of_none q hn), q]; simp⟩
theorem Un.write (mu : Mut (H x)) (he : e = x ∨ H e = some (.own x)) (k : ∀ b u, b ≠ e → h.get? b = some u → h'.get? b = some u) (heo : ∃ u, h'.get? e = some u) : Un fs ex H (upd H x o) h h' := by
  have hx : ∀ b, H b = none → b ≠ x := fun b n z => by subst z; rw [n] at mu; exact mu
  have hb : ∀ b, H b = none → b ≠ e := fun b n z => by
    subst z
    rcases he with r | r
    · exact hx b n r
    · rw [n] at r; cases r
  have hm : ∀ b u, H b = some u → ¬ Mut (some u) → b ≠ x := fun b u q nm z => by subst z; rw [q] at mu; exact nm mu
  refine ⟨fun b u q n _ _ => k b u (hb b n) q, fun b u q n _ _ => ⟨u.slots, k b u (hb b n) q⟩, fun b u q n _ => by rw [upd_ne (hx b n)]; exact n, fun b u q _ => ?_,
    fun b xs q => by rw [upd_ne (hm b _ q fun z => z)]; exact q, fun b u xs q => by rw [upd_ne (hm b _ q fun z => z)]; exact q, fun b ps q => ⟨#[], by rw [upd_ne (hm b _ q fun z => z), q]; simp⟩⟩
  by_cases hbe : b = e
  · subst hbe; exact heo
  · exact ⟨u, k b u hbe q⟩
end

/-! ### the heap without what is tracked -/
def trk (h : Heap) (H : Hp) : List Addr := (List.range h.objs.size).filter fun a => (H a).isSome
def hidT (h : Heap) (H : Hp) : Heap := PySem.W.hideAll h (trk h H)
theorem hidT_size (h : Heap) (H : Hp) : (hidT h H).objs.size = h.objs.size := PySem.W.hideAll_size _ _
theorem hidT_get {h : Heap} {H : Hp} {b : Addr} {o : Obj} (e : h.get? b = some o) (n : H b = none) : (hidT h H).get? b = some o :=
  PySem.W.hideAll_get _ e fun hm => by
    have q : (H b).isSome = true := (List.mem_filter.mp hm).2
    rw [n] at q; simp at q
theorem of_hidT {h : Heap} {H : Hp} {b : Addr} {o : Obj} (e : (hidT h H).get? b = some o) : h.get? b = some o ∧ H b = none := by
  have e' : h.get? b = some o := PySem.W.of_hideAll (trk h H) e
  refine ⟨e', ?_⟩
  cases q : H b with
  | none => rfl
  | some x =>
    have hm : b ∈ trk h H := List.mem_filter.mpr ⟨List.mem_range.mpr (Heap.lt_size e'), by simp [q]⟩
    have z : (hidT h H).get? b = none := PySem.W.hideAll_none (trk h H) hm
    rw [z] at e; cases e

/-! ### OpenK's ledger, filled with every new object but one -/
def allNews (g h : Heap) (L : Addr) : List (Addr × Obj) := (List.range h.objs.size).filterMap fun a => if a = L ∨ (g.get? a).isSome = true then none else (h.get? a).map fun o => (a, o)
def rest (g h : Heap) (L d : Addr) : List (Addr × Obj) := (allNews g h L).filter fun p => decide (p.1 ≠ d)
end L2

namespace L2
open PySem PySem.Spec PyProof.Rows

/-- the module's facts, over the base: the heap at the law's entry without what is tracked there -/
structure Mod (K : PySem.W.Frag) (mg : Str → Option Value) (base : Heap) : Prop where
  kin : K.In base
  glob : base.Ns mainGlobals mg
  blt : ∃ mb, base.Ns builtinsNs mb ∧ ∀ x : Str, x ≠ "__name__" → mb x = bootBuiltins x
  nolimit : base.NoLimit

/-- the context: a def's body (or a comprehension's block) running. base: fixed through the whole law; s₀, H₀: the entry; outer: the frames whose slots others may change (a def's callers); stack: all frames that run;
   ex: iterators that were made ahead of the entry and are walked here (a comprehension's); fn: the names whose cells were made at the entry (a def: all; a comprehension's block: its own); calm: not within an except suite; pn: pins that every state bears; xe: what is wanted of an exception that leaves the code -/
structure Cx where
  prog : Program
  w : World
  K : PySem.W.Frag
  mg : Str → Option Value
  base : Heap
  A : Around
  N : List Str
  s₀ : Shared
  H₀ : Hp
  env : Env
  outer : List Env
  stack : List Env
  ex : List Addr
  fn : Str → Bool
  calm : Bool
  pn : List (Addr × Obj)
  xe : Value → Shared → Prop
/-- the callers' frames -/
def frs (l : List Env) : List Addr := l.filterMap (·.frame)
abbrev Cx.fs (X : Cx) : List Addr := frs X.outer

def Vis (sc : Scope) (x : Str) : Prop := sc.names.lookup x = some .local ∨ sc.names.lookup x = some .cell ∨ sc.names.lookup x = some .free
def Loc (sc : Scope) (x : Str) : Prop := sc.names.lookup x = some .local ∨ sc.names.lookup x = some .cell
def Look (env : Env) (h : Heap) (m : Str → Option Value) (x : Str) (u : Value) : Prop :=
  (env.kindOf x = some .local ∧ m x = some u) ∨ ((env.kindOf x = some .cell ∨ env.kindOf x = some .free) ∧ ∃ c, env.cells.lookup x = some c ∧ h.IsCell c (some u))

structure Cx.Ok (X : Cx) : Prop where
  mod : Mod X.K X.mg X.base
  kind : X.env.scope.kind = .function
  glob : X.env.globals = mainGlobals
  blt : X.env.builtins = builtinsNs
  above : X.s₀.heap.objs.size ≤ X.env.locals
  inj : ∀ x y c, X.env.cells.lookup x = some c → X.env.cells.lookup y = some c → x = y
  has : ∀ x, (X.env.kindOf x = some .cell ∨ X.env.kindOf x = some .free) → ∃ c, X.env.cells.lookup x = some c
  cab : ∀ x c, X.fn x = true → X.env.cells.lookup x = some c → X.s₀.heap.objs.size ≤ c
  hd : X.calm = true → X.A.handled = none
  frames : X.A.frames = some X.stack
  stk : X.stack = X.outer ∨ (X.stack = X.env :: X.outer ∧ X.env.frame = some X.env.locals)
  exf : ∀ b ∈ X.ex, b ≠ X.env.locals ∧ ∀ x c, X.env.cells.lookup x = some c → c ≠ b
  bs : ∀ b o, X.base.get? b = some o → X.s₀.heap.get? b = some o ∧ X.H₀ b = none
  bsz : X.base.objs.size ≤ X.s₀.heap.objs.size
  noex : ∀ b o, X.base.get? b = some o → b ∉ X.ex
  exfs : ∀ b ∈ X.ex, b ∉ X.fs
  funs : X.s₀.heap.FunFrames X.base X.outer
  frf : ∀ b ∈ X.fs, X.H₀ b = none

structure Inv (X : Cx) (pins : List (Addr × Obj)) (σ : List (Option V)) (H : Hp) (s : Shared) : Prop where
  ok : X.Ok
  os : s.os = X.s₀.os
  bare : AllBare s.gens
  base : Un X.fs X.ex X.H₀ H X.s₀.heap s.heap
  loc : ∃ m, s.heap.Ns X.env.locals m ∧ ∀ (i : Nat) (x : Str) (v : V), X.N[i]? = some x → σ[i]? = some (some v) → Vis X.env.scope x → ∃ u, RelV v u ∧ Look X.env s.heap m x u
  cell : ∀ x c, X.env.cells.lookup x = some c → ∃ v, s.heap.IsCell c v
  free : H X.env.locals = none
  freeC : ∀ x c, X.env.cells.lookup x = some c → H c = none
  pin : ∀ p ∈ X.pn ++ pins, s.heap.get? p.1 = some p.2 ∧ H p.1 = none ∧ p.1 ≠ X.env.locals ∧ p.1 ∉ X.fs ∧ ∀ v, p.2.data ≠ .cell v
  hok : HOk X.prog X.w H s.heap
  len : σ.length = X.N.length

section
variable {X : Cx} {pins : List (Addr × Obj)} {σ : List (Option V)} {H H' : Hp} {s : Shared} {h' : Heap}

theorem Cx.Ok.nofr (ok : X.Ok) {b : Addr} {o : Obj} (e : X.base.get? b = some o) : b ∉ X.fs := fun hb => by
  have := (ok.funs.mem hb).1
  rw [e] at this; cases this
theorem Inv.bs (I : Inv X pins σ H s) : ∀ b o, X.base.get? b = some o → s.heap.get? b = some o ∧ H b = none := fun b o e =>
  ⟨I.base.keep b o (I.ok.bs b o e).1 (I.ok.bs b o e).2 (I.ok.nofr e) (I.ok.noex b o e), I.base.free b o (I.ok.bs b o e).1 (I.ok.bs b o e).2 (I.ok.noex b o e)⟩
theorem Inv.bk (I : Inv X pins σ H s) : ∀ b o, X.base.get? b = some o → s.heap.get? b = some o := fun b o e => (I.bs b o e).1
theorem Inv.mod (I : Inv X pins σ H s) : Mod X.K X.mg X.base := I.ok.mod
theorem Inv.kIn (I : Inv X pins σ H s) : X.K.In s.heap := I.ok.mod.kin.keeps I.bk
theorem Inv.nolimit (I : Inv X pins σ H s) : s.heap.NoLimit := I.ok.mod.nolimit.keeps I.bk
/-- the frame over the base: for OpenK's rules (K.In X.base is I.mod.kin) -/
theorem Inv.fr (I : Inv X pins σ H s) : ∃ m, Fr X.base X.env.locals s.heap m :=
  let ⟨m, hn, _⟩ := I.loc
  ⟨m, hn, I.bk, Nat.le_trans I.ok.bsz I.ok.above⟩
theorem Inv.lt (I : Inv X pins σ H s) : X.env.locals < s.heap.objs.size := let ⟨_, hn, _⟩ := I.loc; hn.lt
theorem Inv.sz (I : Inv X pins σ H s) : X.s₀.heap.objs.size ≤ s.heap.objs.size := Nat.le_trans I.ok.above (Nat.le_of_lt I.lt)
theorem Inv.nofs (I : Inv X pins σ H s) {a : Addr} (h : s.heap.objs.size ≤ a) : a ∉ X.fs := fun hb => by
  obtain ⟨_, o, ho, _⟩ := I.ok.funs.mem hb
  exact absurd (Nat.lt_of_lt_of_le (Heap.lt_size ho) (Nat.le_trans I.sz h)) (Nat.lt_irrefl _)
theorem Inv.cne (I : Inv X pins σ H s) : ∀ x c, X.env.cells.lookup x = some c → c ≠ X.env.locals := fun x c e z => by
  obtain ⟨v, o, ho, hd⟩ := I.cell x c e
  obtain ⟨m, ⟨o', es, ep, ho', hd', _⟩, _⟩ := I.loc
  rw [z, ho'] at ho; cases ho; rw [hd'] at hd; cases hd
theorem Inv.funs (I : Inv X pins σ H s) : s.heap.FunFrames X.base X.outer := by
  have all : ∀ (l : List Env), (∀ b ∈ frs l, b ∈ X.fs) → X.s₀.heap.FunFrames X.base l → s.heap.FunFrames X.base l := by
    intro l
    induction l with
    | nil => intro _ _; trivial
    | cons env r ih =>
      intro hs hl
      obtain ⟨hk, ⟨L, o, hf, hn, ho, hd⟩, hr⟩ := hl
      have hL : L ∈ X.fs := hs L (by unfold frs; rw [List.filterMap_cons, hf]; exact List.mem_cons_self)
      obtain ⟨sl, e⟩ := I.base.slot L o ho (I.ok.frf L hL) hL fun z => I.ok.exfs L z hL
      exact ⟨hk, ⟨L, _, hf, hn, e, hd⟩, ih (fun b hb => hs b (by unfold frs; rw [List.filterMap_cons, hf]; exact List.mem_cons_of_mem _ hb)) hr⟩
  exact all X.outer (fun _ hb => hb) I.ok.funs

/-- the frames that run, for a call -/
theorem Inv.stack (I : Inv X pins σ H s) : s.heap.FunFrames X.base X.stack := by
  rcases I.ok.stk with e | ⟨e, hf⟩
  · rw [e]; exact I.funs
  · rw [e]
    obtain ⟨m, hn, _⟩ := I.loc
    refine .cons (by rw [I.ok.kind]; decide) hf hn ?_ I.funs
    exact Heap.get?_none_of_le (Nat.le_trans I.ok.bsz I.ok.above)
theorem Inv.stkSub (I : Inv X pins σ H s) : ∀ b ∈ frs X.stack, b ∈ X.env.locals :: X.fs := fun b hb => by
  rcases I.ok.stk with e | ⟨e, hf⟩
  · rw [e] at hb; exact List.mem_cons_of_mem _ hb
  · rw [e] at hb
    unfold frs at hb
    rw [List.filterMap_cons, hf] at hb
    exact hb
theorem Inv.stkFree (I : Inv X pins σ H s) : ∀ b ∈ frs X.stack, H b = none := fun b hb => by
  rcases List.mem_cons.mp (I.stkSub b hb) with e | hb
  · rw [e]; exact I.free
  · obtain ⟨_, o, ho, _⟩ := I.ok.funs.mem hb
    exact I.base.free b o ho (I.ok.frf b hb) fun z => I.ok.exfs b z hb

/-- THE STEP: the untracked objects but the frame and the records at ch are kept (the callers' frames up to slots), the frame's map is kept, the new abstract heap is held -/
theorem Inv.step {g' : Array GenState} {t' : Nat} {d' : Drawn} {ch : List Addr} (I : Inv X pins σ H s)
    (hch : ∀ b ∈ ch, (b ∈ X.ex ∨ X.s₀.heap.objs.size ≤ b) ∧ b ≠ X.env.locals ∧ (∀ x c, X.env.cells.lookup x = some c → c ≠ b) ∧ ∀ p ∈ X.pn ++ pins, p.1 ≠ b)
    (keep : ∀ b o, b ≠ X.env.locals → b ∉ X.fs → b ∉ ch → s.heap.get? b = some o → H b = none → h'.get? b = some o)
    (slot : ∀ b o, b ≠ X.env.locals → b ∈ X.fs → b ∉ ch → s.heap.get? b = some o → H b = none → ∃ sl, h'.get? b = some { o with slots := sl }) (free : ∀ b o, b ∉ ch → s.heap.get? b = some o → H b = none → H' b = none)
    (there : ∀ b o, b ∉ ch → s.heap.get? b = some o → ∃ o', h'.get? b = some o')
    (tups : ∀ b xs, H b = some (.tup xs) → H' b = some (.tup xs)) (frzs : ∀ b o u, H b = some (.frz o u) → H' b = some (.frz o u)) (tbls : ∀ b ps, H b = some (.tbl ps) → ∃ more, H' b = some (.tbl (ps ++ more)))
    (ns : ∀ m, s.heap.Ns X.env.locals m → h'.Ns X.env.locals m) (hok : HOk X.prog X.w H' h') (hg : AllBare g') :
    Inv X pins σ H' { s with heap := h', gens := g', drawn := d', toks := t' } := by
  have neL : ∀ b o, X.s₀.heap.get? b = some o → b ≠ X.env.locals := fun b o e => Nat.ne_of_lt (Nat.lt_of_lt_of_le (Heap.lt_size e) I.ok.above)
  have neC : ∀ b o, X.s₀.heap.get? b = some o → b ∉ X.ex → b ∉ ch := fun b o e hx hb => by
    rcases (hch b hb).1 with z | z
    · exact hx z
    · exact absurd (Nat.lt_of_lt_of_le (Heap.lt_size e) z) (Nat.lt_irrefl _)
  have cellK : ∀ x c, X.env.cells.lookup x = some c → ∀ v, s.heap.IsCell c v → h'.IsCell c v := fun x c e v ⟨o, ho, hd⟩ => by
    have nch : c ∉ ch := fun z => (hch c z).2.2.1 x c e rfl
    by_cases hc : c ∈ X.fs
    · obtain ⟨sl, q⟩ := slot c o (I.cne x c e) hc nch ho (I.freeC x c e)
      exact ⟨_, q, hd⟩
    · exact ⟨o, keep c o (I.cne x c e) hc nch ho (I.freeC x c e), hd⟩
  refine ⟨I.ok, I.os, hg, ⟨fun b o e n hb hx => ?_, fun b o e n hb hx => ?_, fun b o e n hx => ?_, fun b o e hx => ?_, fun b xs e => tups b xs (I.base.tups b xs e), fun b o xs e => frzs b o xs (I.base.frzs b o xs e), fun b ps e => ?_⟩, ?_, fun x c e => ?_, ?_, fun x c e => ?_, fun p hp => ?_, hok, I.len⟩
  · exact keep b o (neL b o e) hb (neC b o e hx) (I.base.keep b o e n hb hx) (I.base.free b o e n hx)
  · obtain ⟨sl, e1⟩ := I.base.slot b o e n hb hx
    obtain ⟨sl', e2⟩ := slot b _ (neL b o e) hb (neC b o e hx) e1 (I.base.free b o e n hx)
    exact ⟨sl', e2⟩
  · obtain ⟨o', e1⟩ := I.base.there b o e hx
    exact free b o' (neC b o e hx) e1 (I.base.free b o e n hx)
  · obtain ⟨o', e1⟩ := I.base.there b o e hx
    exact there b o' (neC b o e hx) e1
  · obtain ⟨m1, e1⟩ := I.base.tbls b ps e
    obtain ⟨m2, e2⟩ := tbls b _ e1
    exact ⟨m1 ++ m2, by rw [e2, Array.append_assoc]⟩
  · obtain ⟨m, hn, hl⟩ := I.loc
    refine ⟨m, ns m hn, fun i x v e1 e2 e3 => ?_⟩
    obtain ⟨u, r, l⟩ := hl i x v e1 e2 e3
    refine ⟨u, r, ?_⟩
    rcases l with l | ⟨k, c, e, z⟩
    · exact .inl l
    · exact .inr ⟨k, c, e, cellK x c e _ z⟩
  · obtain ⟨v, z⟩ := I.cell x c e
    exact ⟨v, cellK x c e v z⟩
  · obtain ⟨m, ⟨o, _, _, ho, _⟩, _⟩ := I.loc
    exact free _ o (fun z => (hch _ z).2.1 rfl) ho I.free
  · obtain ⟨v, o, ho, hd⟩ := I.cell x c e
    exact free c o (fun z => (hch c z).2.2.1 x c e rfl) ho (I.freeC x c e)
  · obtain ⟨e, n, ne, nf, d⟩ := I.pin p hp
    have nch : p.1 ∉ ch := fun z => (hch p.1 z).2.2.2 p hp rfl
    exact ⟨keep p.1 p.2 ne nf nch e n, free p.1 p.2 nch e n, ne, nf, d⟩
/-- .. where the frame's own object is kept too -/
theorem Inv.un {t' : Nat} (I : Inv X pins σ H s) (u : Un X.fs [] H H' s.heap h') (hok : HOk X.prog X.w H' h') : Inv X pins σ H' { s with heap := h', toks := t' } := by
  obtain ⟨m, ⟨o, es, ep, ho, r⟩, _⟩ := id I.loc
  obtain ⟨sl, hL⟩ := u.any ho I.free (by simp)
  exact I.step (g' := s.gens) (d' := s.drawn) (ch := []) (fun _ z => nomatch z) (fun b o _ hb _ e n => u.keep b o e n hb (by simp)) (fun b o _ hb _ e n => u.slot b o e n hb (by simp)) (fun b o _ e n => u.free b o e n (by simp)) (fun b o _ e => u.there b o e (by simp)) u.tups u.frzs u.tbls (fun m' hm => by
    obtain ⟨o', es', ep', ho', r'⟩ := hm
    rw [ho] at ho'; cases ho'
    exact ⟨_, es', ep', hL, r'⟩) hok I.bare
/-- behind a call (or a comprehension's block): the slots of this frame may have changed too, the records at ch may have turned -/
theorem Inv.call {g' : Array GenState} {t' : Nat} {d' : Drawn} {ch : List Addr} (I : Inv X pins σ H s) (u : Un (frs X.stack) ch H H' s.heap h') (hok : HOk X.prog X.w H' h') (hg : AllBare g')
    (hch : ∀ b ∈ ch, (b ∈ X.ex ∨ X.s₀.heap.objs.size ≤ b) ∧ b ≠ X.env.locals ∧ (∀ x c, X.env.cells.lookup x = some c → c ≠ b) ∧ ∀ p ∈ X.pn ++ pins, p.1 ≠ b) :
    Inv X pins σ H' { s with heap := h', gens := g', drawn := d', toks := t' } := by
  obtain ⟨m, ⟨o, es, ep, ho, r⟩, _⟩ := id I.loc
  obtain ⟨sl, hL⟩ := u.any ho I.free fun z => (hch _ z).2.1 rfl
  exact I.step (ch := ch) hch (fun b o hL hb hc e n => u.keep b o e n (fun z => (List.mem_cons.mp (I.stkSub b z)).elim hL hb) hc) (fun b o _ _ hc e n => u.any e n hc) (fun b o hc e n => u.free b o e n hc) (fun b o hc e => u.there b o e hc) u.tups u.frzs u.tbls (fun m' hm => by
    obtain ⟨o', es', ep', ho', r'⟩ := hm
    rw [ho] at ho'; cases ho'
    exact ⟨_, es', ep', hL, r'⟩) hok hg
/-- an untracked record of ours (an iterator) has turned -/
theorem Inv.turned {t' : Nat} {it : Addr} (I : Inv X pins σ H s) (k : ∀ b o, b ≠ it → s.heap.get? b = some o → h'.get? b = some o) (hn : H it = none) (hL : it ≠ X.env.locals)
    (h1 : it ∈ X.ex ∨ X.s₀.heap.objs.size ≤ it) (h2 : ∀ x c, X.env.cells.lookup x = some c → c ≠ it) (h3 : ∀ p ∈ X.pn ++ pins, p.1 ≠ it) : Inv X pins σ H { s with heap := h', toks := t' } := by
  have nit : ∀ b u, H b = some u → b ≠ it := fun b u e z => by rw [z, hn] at e; cases e
  refine I.step (g' := s.gens) (d' := s.drawn) (ch := [it]) (fun b hb => ?_) (fun b o _ _ hc e _ => k b o (fun z => hc (by simp [z])) e) (fun b o _ _ hc e _ => ⟨o.slots, k b o (fun z => hc (by simp [z])) e⟩) (fun _ _ _ _ n => n)
    (fun b o hc e => ⟨o, k b o (fun z => hc (by simp [z])) e⟩) (fun _ _ e => e) (fun _ _ _ e => e) (fun b ps e => ⟨#[], by rw [e]; simp⟩) (fun m hm => ?_) (fun b u e => ?_) I.bare
  · have e : b = it := by simpa using hb
    subst e
    exact ⟨h1, hL, h2, h3⟩
  · obtain ⟨o, es, ep, ho, r⟩ := hm
    exact ⟨o, es, ep, k _ o (Ne.symm hL) ho, r⟩
  · refine (I.hok b u e).stay (fun c v hc q => k c v ?_ q) (fun _ q => q) fun _ _ q => q
    rcases hc with z | z
    · rw [z]; exact nit b u e
    · exact nit c _ z
theorem Inv.tok (I : Inv X pins σ H s) (t : Nat) : Inv X pins σ H { s with toks := t } := I.un (h' := s.heap) (t' := t) Un.refl I.hok
/-- all objects kept -/
theorem Inv.kept {t' : Nat} (I : Inv X pins σ H s) (k : ∀ b u, s.heap.get? b = some u → h'.get? b = some u) : Inv X pins σ H { s with heap := h', toks := t' } := I.un (Un.kept k) (I.hok.kept k)
/-- a new object laid and tracked -/
theorem Inv.laid {a : Addr} {o : HO} {t' : Nat} (I : Inv X pins σ H s) (k : ∀ b u, s.heap.get? b = some u → h'.get? b = some u) (hp : s.heap.objs.size ≤ a) (new : ObjOk X.prog X.w (upd H a o) h' a o) :
    Inv X pins σ (upd H a o) { s with heap := h', toks := t' } := I.un (Un.laid k hp (I.hok.fresh hp)) (I.hok.laid k hp new)
/-- an object written -/
theorem Inv.write {x e : Addr} {o : HO} {t' : Nat} (I : Inv X pins σ H s) (mu : Mut (H x)) (he : e = x ∨ H e = some (.own x)) (k : ∀ b u, b ≠ e → s.heap.get? b = some u → h'.get? b = some u) (heo : ∃ u, h'.get? e = some u)
    (new : ObjOk X.prog X.w (upd H x o) h' x o) : Inv X pins σ (upd H x o) { s with heap := h', toks := t' } := I.un (Un.write mu he k heo) (I.hok.write mu he k heo new)
/-- forgetting slots, pins -/
theorem Inv.weak {σ' : List (Option V)} (I : Inv X pins σ H s) (hl : σ'.length = σ.length) (w : ∀ (i : Nat) v, σ'[i]? = some (some v) → σ[i]? = some (some v)) : Inv X pins σ' H s :=
  ⟨I.ok, I.os, I.bare, I.base, let ⟨m, hn, hl'⟩ := I.loc; ⟨m, hn, fun i x v e1 e2 e3 => hl' i x v e1 (w i v e2) e3⟩, I.cell, I.free, I.freeC, I.pin, I.hok, hl.trans I.len⟩
theorem Inv.pins_of {pins' : List (Addr × Obj)} (I : Inv X pins σ H s) (h : ∀ p ∈ pins', s.heap.get? p.1 = some p.2 ∧ H p.1 = none ∧ p.1 ≠ X.env.locals ∧ p.1 ∉ X.fs ∧ ∀ v, p.2.data ≠ .cell v) : Inv X pins' σ H s :=
  ⟨I.ok, I.os, I.bare, I.base, I.loc, I.cell, I.free, I.freeC, fun p hp => (List.mem_append.mp hp).elim (fun z => I.pin p (List.mem_append_left _ z)) (h p), I.hok, I.len⟩

theorem nodup_ix {N : List Str} (hN : N.Nodup) {i j : Nat} {x : Str} (a : N[i]? = some x) (b : N[j]? = some x) : i = j := by
  obtain ⟨h1, e1⟩ := List.getElem?_eq_some_iff.mp a
  obtain ⟨h2, e2⟩ := List.getElem?_eq_some_iff.mp b
  exact (List.getElem_inj hN).mp (e1.trans e2.symm)

/-- a name is stored; what changed -/
theorem store_ok2 {M : Model} {A : Around} {E : Value → Shared → Prop} {i : Nat} {x : Str} {v : V} {u : Value} {Q : Unit → Shared → Prop} (I : Inv X pins σ H s) (hN : X.N.Nodup) (hi : X.N[i]? = some x) (hx : Loc X.env.scope x) (r : RelV v u)
    (h : ∀ s', Inv X pins (σ.set i (some v)) H s' → (∃ a, Heap.SameBut a s.heap s'.heap ∧ (a = X.env.locals ∨ X.env.cells.lookup x = some a)) → Q () s') (hf : X.fn x = true ∨ X.env.scope.names.lookup x = some .local := by first | exact .inl rfl | exact .inr rfl | assumption) : wpAny M A (storeName X.env x u) Q E s := by
  obtain ⟨m, hn, hl⟩ := id I.loc
  have hcls : (X.env.scope.kind == .class || (X.env.scope.kind == .module && X.env.locals != X.env.globals)) = false := by rw [I.ok.kind]; rfl
  have hiσ : i < σ.length := by rw [I.len]; exact (List.getElem?_eq_some_iff.mp hi).1
  have cne := I.cne
  have tracked : ∀ {a : Addr} {h' : Heap}, (∃ o, s.heap.get? a = some o ∧ H a = none) → Heap.SameBut a s.heap h' → HOk X.prog X.w H h' := fun {a h'} ha hs b ob e => by
    obtain ⟨_, _, hfree⟩ := ha
    refine (I.hok b ob e).stay (fun c w' hc q => (hs.2 c ?_).trans q) (fun _ q => q) fun _ _ q => q
    rintro rfl
    rcases hc with rfl | hc
    · rw [hfree] at e; cases e
    · rw [hfree] at hc; cases hc
  rcases hx with hk | hk
  · refine wpAny_storeName_local hk hn (fun h' hn' hs => ?_) hcls
    obtain ⟨oL, _, _, hoL, _⟩ := id hn
    refine h _ ⟨I.ok, I.os, I.bare, ⟨fun b o e n hb hx => ?_, fun b o e n hb hx => ?_, I.base.free, fun b o e hx => ?_, I.base.tups, I.base.frzs, I.base.tbls⟩, ⟨_, hn', fun j y v' e1 e2 e3 => ?_⟩, fun y c e => ?_, I.free, I.freeC, fun p hp => ?_, tracked ⟨oL, hoL, I.free⟩ hs, by simpa using I.len⟩ ⟨_, hs, .inl rfl⟩
    · exact (hs.2 b (Nat.ne_of_lt (Nat.lt_of_lt_of_le (Heap.lt_size e) I.ok.above))).trans (I.base.keep b o e n hb hx)
    · obtain ⟨sl, e1⟩ := I.base.slot b o e n hb hx
      exact ⟨sl, (hs.2 b (Nat.ne_of_lt (Nat.lt_of_lt_of_le (Heap.lt_size e) I.ok.above))).trans e1⟩
    · obtain ⟨o', e1⟩ := I.base.there b o e hx
      exact ⟨o', (hs.2 b (Nat.ne_of_lt (Nat.lt_of_lt_of_le (Heap.lt_size e) I.ok.above))).trans e1⟩
    · by_cases hj : j = i
      · subst hj
        rw [hi] at e1; cases e1
        rw [List.getElem?_set_self hiσ] at e2
        cases e2
        exact ⟨u, r, .inl ⟨hk, by simp⟩⟩
      · rw [List.getElem?_set_ne (Ne.symm hj)] at e2
        obtain ⟨u', r', q⟩ := hl j y v' e1 e2 e3
        refine ⟨u', r', ?_⟩
        rcases q with ⟨k, e⟩ | ⟨k, c, e, z⟩
        · refine .inl ⟨k, ?_⟩
          have : y ≠ x := fun e => hj (nodup_ix hN e1 (e ▸ hi))
          simp [this, e]
        · exact .inr ⟨k, c, e, z.sameBut hs (cne y c e)⟩
    · obtain ⟨w', z⟩ := I.cell y c e
      exact ⟨w', z.sameBut hs (cne y c e)⟩
    · obtain ⟨e, n, ne, nf, d⟩ := I.pin p hp
      exact ⟨(hs.2 p.1 ne).trans e, n, ne, nf, d⟩
  · have hfn : X.fn x = true := by
      rcases hf with z | z
      · exact z
      · rw [z] at hk; cases hk
    obtain ⟨c, hc⟩ := I.ok.has x (.inl hk)
    obtain ⟨w', z⟩ := I.cell x c hc
    refine wpAny_storeName_cell I.ok.kind hk hc z (fun h' hc' hs => ?_)
    obtain ⟨oc, hoc, hocd⟩ := id z
    refine h { s with heap := h' } ⟨I.ok, I.os, I.bare, ⟨fun b o e n hb hx => ?_, fun b o e n hb hx => ?_, I.base.free, fun b o e hx => ?_, I.base.tups, I.base.frzs, I.base.tbls⟩, ⟨m, hn.sameBut hs (Ne.symm (cne x c hc)), fun j y v' e1 e2 e3 => ?_⟩, fun y c' e => ?_, I.free, I.freeC, fun p hp => ?_, tracked ⟨oc, hoc, I.freeC x c hc⟩ hs, by simpa using I.len⟩ ⟨c, hs, .inr hc⟩
    · exact (hs.2 b (Nat.ne_of_lt (Nat.lt_of_lt_of_le (Heap.lt_size e) (I.ok.cab x c hfn hc)))).trans (I.base.keep b o e n hb hx)
    · obtain ⟨sl, e1⟩ := I.base.slot b o e n hb hx
      exact ⟨sl, (hs.2 b (Nat.ne_of_lt (Nat.lt_of_lt_of_le (Heap.lt_size e) (I.ok.cab x c hfn hc)))).trans e1⟩
    · obtain ⟨o', e1⟩ := I.base.there b o e hx
      exact ⟨o', (hs.2 b (Nat.ne_of_lt (Nat.lt_of_lt_of_le (Heap.lt_size e) (I.ok.cab x c hfn hc)))).trans e1⟩
    · by_cases hj : j = i
      · subst hj
        rw [hi] at e1; cases e1
        rw [List.getElem?_set_self hiσ] at e2
        cases e2
        exact ⟨u, r, .inr ⟨.inl hk, c, hc, hc'⟩⟩
      · rw [List.getElem?_set_ne (Ne.symm hj)] at e2
        obtain ⟨u', r', q⟩ := hl j y v' e1 e2 e3
        refine ⟨u', r', ?_⟩
        rcases q with q | ⟨k, c', e, z'⟩
        · exact .inl q
        · refine .inr ⟨k, c', e, z'.sameBut hs ?_⟩
          rintro rfl
          exact hj (nodup_ix hN e1 (I.ok.inj _ _ _ e hc ▸ hi))
    · by_cases hcc : c' = c
      · subst hcc; exact ⟨_, hc'⟩
      · obtain ⟨w2, z2⟩ := I.cell y c' e
        exact ⟨w2, z2.sameBut hs hcc⟩
    · obtain ⟨e, n, ne, nf, d⟩ := I.pin p hp
      refine ⟨(hs.2 p.1 ?_).trans e, n, ne, nf, d⟩
      intro q
      rw [q, hoc] at e
      have q' : oc = p.2 := Option.some.inj e
      exact d w' (by rw [← q']; exact hocd)
theorem store_ok {M : Model} {A : Around} {E : Value → Shared → Prop} {i : Nat} {x : Str} {v : V} {u : Value} {Q : Unit → Shared → Prop} (I : Inv X pins σ H s) (hN : X.N.Nodup) (hi : X.N[i]? = some x) (hx : Loc X.env.scope x) (r : RelV v u)
    (h : ∀ s', Inv X pins (σ.set i (some v)) H s' → Q () s') (hf : X.fn x = true ∨ X.env.scope.names.lookup x = some .local := by first | exact .inl rfl | exact .inr rfl | assumption) : wpAny M A (storeName X.env x u) Q E s :=
  store_ok2 I hN hi hx r (fun s' I' _ => h s' I') hf
/-- behind a call or a block, the state as it is -/
theorem Inv.call' {s' : Shared} {ch : List Addr} (I : Inv X pins σ H s) (ho : s'.os = s.os) (u : Un (frs X.stack) ch H H' s.heap s'.heap) (hok : HOk X.prog X.w H' s'.heap) (hg : AllBare s'.gens)
    (hch : ∀ b ∈ ch, (b ∈ X.ex ∨ X.s₀.heap.objs.size ≤ b) ∧ b ≠ X.env.locals ∧ (∀ x c, X.env.cells.lookup x = some c → c ≠ b) ∧ ∀ p ∈ X.pn ++ pins, p.1 ≠ b) : Inv X pins σ H' s' := by
  obtain ⟨h', g', d', t', o'⟩ := s'
  have e : o' = s.os := ho
  subst e
  exact I.call (g' := g') (t' := t') (d' := d') u hok hg hch
end

/-! ### the judgements -/
/-- an exception: its class, its own dict's address (where it has one), the abstract heap behind it -/
abbrev XK := Value → Option Addr → Hp → Prop
abbrev St := List (Option V)
abbrev VK := V → Hp → Prop
/-- an expression's reading; a test's; an argument list's -/
abbrev TE := St → Hp → VK → Prop
abbrev TT := St → Hp → (Bool → Hp → Prop) → Prop
abbrev TA := St → Hp → (List V → Hp → Prop) → Prop
/-- what is wanted behind a statement -/
structure Ends where
  nx : St → Hp → Prop
  rt : VK
  bk : St → Hp → Prop := fun _ _ => False
  ct : St → Hp → Prop := fun _ _ => False
abbrev TS := Ends → St → Hp → Prop

def EP (X : Cx) (pins : List (Addr × Obj)) (σ : St) (Q : VK) (u : Value) (s' : Shared) : Prop := ∃ v H', Inv X pins σ H' s' ∧ RelV v u ∧ Q v H'
def TP (X : Cx) (pins : List (Addr × Obj)) (σ : St) (Q : Bool → Hp → Prop) (b : Bool) (s' : Shared) : Prop := ∃ H', Inv X pins σ H' s' ∧ Q b H'
def AP (X : Cx) (pins : List (Addr × Obj)) (σ : St) (Q : List V → Hp → Prop) (us : List Value) (s' : Shared) : Prop := ∃ vs H', Inv X pins σ H' s' ∧ Vals vs us ∧ Q vs H'
def SP (X : Cx) (pins : List (Addr × Obj)) (D : Ends) (f : Flow) (s' : Shared) : Prop :=
  match f with
  | .next => ∃ σ' H', Inv X pins σ' H' s' ∧ D.nx σ' H'
  | .brk => ∃ σ' H', Inv X pins σ' H' s' ∧ D.bk σ' H'
  | .cont => ∃ σ' H', Inv X pins σ' H' s' ∧ D.ct σ' H'
  | .ret u => ∃ v σ' H', Inv X pins σ' H' s' ∧ RelV v u ∧ D.rt v H'

def PE (X : Cx) (e : Expr) (t : TE) : Prop :=
  ∀ (pins : List (Addr × Obj)) (s : Shared) (σ : St) (H : Hp) (Q : VK), Inv X pins σ H s → t σ H Q → wpAny (model X.prog X.w) X.A (eval e X.env) (EP X pins σ Q) X.xe s
def PT (X : Cx) (e : Expr) (t : TT) : Prop :=
  ∀ (pins : List (Addr × Obj)) (s : Shared) (σ : St) (H : Hp) (Q : Bool → Hp → Prop), Inv X pins σ H s → t σ H Q → wpAny (model X.prog X.w) X.A (isTrue e X.env (eval e X.env)) (TP X pins σ Q) X.xe s
/-- a test whatever its 'whole' is (and, or) -/
def PW (X : Cx) (e : Expr) (t : TT) : Prop :=
  ∀ (whole : Sem Value) (pins : List (Addr × Obj)) (s : Shared) (σ : St) (H : Hp) (Q : Bool → Hp → Prop), Inv X pins σ H s → t σ H Q → wpAny (model X.prog X.w) X.A (isTrue e X.env whole) (TP X pins σ Q) X.xe s
theorem PW.pt {X : Cx} {e : Expr} {t : TT} (h : PW X e t) : PT X e t := h _
/-- an argument list (no star), from the left -/
def PA (X : Cx) (es : List Expr) (t : TA) : Prop :=
  ∀ (pos : Pos) (pins : List (Addr × Obj)) (s : Shared) (σ : St) (H : Hp) (Q : List V → Hp → Prop), Inv X pins σ H s → t σ H Q → wpAny (model X.prog X.w) X.A (spliced (backTo pos (starEach es X.env))) (AP X pins σ Q) X.xe s
def PS (X : Cx) (st : Stmt) (t : TS) : Prop :=
  ∀ (pins : List (Addr × Obj)) (s : Shared) (σ : St) (H : Hp) (D : Ends), Inv X pins σ H s → t D σ H → wpAny (model X.prog X.w) X.A (exec st X.env) (SP X pins D) X.xe s
def PSs (X : Cx) (st : List Stmt) (t : TS) : Prop :=
  ∀ (pins : List (Addr × Obj)) (s : Shared) (σ : St) (H : Hp) (D : Ends), Inv X pins σ H s → t D σ H → wpAny (model X.prog X.w) X.A (execs st X.env) (SP X pins D) X.xe s
/-- weaken the end -/
theorem thn {α : Type} {t : Sem α} {Q Q' : α → Shared → Prop} {M : Model} {A : Around} {E : Value → Shared → Prop} {s : Shared} (h : wpAny M A t Q E s) (hQ : ∀ a s, Q a s → Q' a s) : wpAny M A t Q' E s := wpAny_mono h hQ fun _ _ x => x
end L2

namespace L2
open PySem PySem.Spec PyProof.Rows
section
variable {X : Cx}

/-- two expressions in a row -/
theorem bin {a b : Expr} {ta tb : TE} (ha : PE X a ta) (hb : PE X b tb) {pins : List (Addr × Obj)} {s : Shared} {σ : St} {H : Hp} {R : V → V → Hp → Prop} (I : Inv X pins σ H s) (h : ta σ H fun x H1 => tb σ H1 fun y H2 => R x y H2)
    {α : Type} {Q : α → Shared → Prop} {f : Value → Value → Sem α}
    (hf : ∀ v u s2 x y H2, Inv X pins σ H2 s2 → RelV x v → RelV y u → R x y H2 → wpAny (model X.prog X.w) X.A (f v u) Q X.xe s2) :
    wpAny (model X.prog X.w) X.A (eval a X.env) (fun v s₁ => wpAny (model X.prog X.w) X.A (eval b X.env) (fun u s₂ => wpAny (model X.prog X.w) X.A (f v u) Q X.xe s₂) X.xe s₁) X.xe s := by
  refine thn (ha pins s σ H _ I h) fun v s1 ⟨x, H1, I1, r1, q1⟩ => ?_
  refine thn (hb pins s1 σ H1 _ I1 q1) fun u s2 ⟨y, H2, I2, r2, q2⟩ => ?_
  exact hf v u s2 x y H2 I2 r1 r2 q2

/-! ### names and constants -/
def tVar (i : Nat) : TE := fun σ H Q => ∃ v, σ[i]? = some (some v) ∧ Q v H
def tC (v : V) : TE := fun _ H Q => Q v H
theorem pe_var {i : Nat} {x : Str} {pos : Pos} (hN : X.N[i]? = some x) (hv : Vis X.env.scope x) (hd : (x == ("__debug__" : Str)) = false := by decide) (hcd : (x == ("__classdict__" : Str)) = false := by decide) : PE X (.Name x pos) (tVar i) := by
  intro pins s σ H Q I h
  obtain ⟨v, e, h⟩ := h
  obtain ⟨m, hn, hl⟩ := I.loc
  obtain ⟨u, r, l⟩ := hl i x v hN e hv
  have fin : EP X pins σ Q u s := ⟨v, H, I, r, h⟩
  rcases l with ⟨hk, hm⟩ | ⟨hk, c, hc, hcell⟩
  · exact wpAny_Name (wpAny_loadName_local I.ok.kind hk hn hm fin) hd
  · rcases hk with hk | hk
    · exact wpAny_Name (wpAny_loadName_cell I.ok.kind hk hc hcell fin) hd
    · exact wpAny_Name (wpAny_loadName_free I.ok.kind hk hc hcell fin hcd) hd
theorem pe_int {i j pos} : PE X (.Constant (.int i) j pos) (tC (.int i)) := fun _ _ _ H _ I h => wpAny_Constant_int ⟨.int i, H, I.tok _, ⟨_, rfl⟩, h⟩
theorem pe_bl {b j pos} : PE X (.Constant (.bool b) j pos) (tC (.bl b)) := fun _ _ _ H _ I h => Constant_bool ⟨.bl b, H, I, rfl, h⟩
/-- a global name of the def -/
def Gl (X : Cx) (x : Str) : Prop := X.env.kindOf x = some .globalImplicit
theorem ld_glob {E : Value → Shared → Prop} {pins : List (Addr × Obj)} {s : Shared} {σ : St} {H : Hp} {x : Str} {u : Value} {pos : Pos} {Q : Value → Shared → Prop} (I : Inv X pins σ H s) (hg : Gl X x) (hm : X.mg x = some u) (h : Q u s)
    (hd : (x == ("__debug__" : Str)) = false := by decide) : wpAny (model X.prog X.w) X.A (eval (.Name x pos) X.env) Q E s :=
  Calls.Name_function_global I.ok.kind hg (Calls.loadGlobal_global (by rw [I.ok.glob]; exact I.mod.glob.keeps I.bk) hm h) hd
theorem ld_blt {E : Value → Shared → Prop} {pins : List (Addr × Obj)} {s : Shared} {σ : St} {H : Hp} {x : Str} {u : Value} {pos : Pos} {Q : Value → Shared → Prop} (I : Inv X pins σ H s) (hg : Gl X x) (hm : X.mg x = none) (hv : bootBuiltins x = some u) (h : Q u s)
    (hn : x ≠ "__name__" := by decide) (hd : (x == ("__debug__" : Str)) = false := by decide) : wpAny (model X.prog X.w) X.A (eval (.Name x pos) X.env) Q E s := by
  obtain ⟨mb, h1, h2⟩ := I.mod.blt
  exact Calls.Name_function_global I.ok.kind hg (Calls.loadGlobal_builtin (by rw [I.ok.glob]; exact I.mod.glob.keeps I.bk) hm (by rw [I.ok.blt]; exact h1.keeps I.bk) ((h2 x hn).trans hv) h) hd
theorem pe_bltn {x : Str} {v : V} {u : Value} {pos : Pos} (hg : Gl X x) (hm : X.mg x = none) (hv : bootBuiltins x = some u) (r : RelV v u) (hn : x ≠ "__name__" := by decide) (hd : (x == ("__debug__" : Str)) = false := by decide) : PE X (.Name x pos) (tC v) :=
  fun _ _ _ H _ I h => ld_blt I hg hm hv ⟨v, H, I, r, h⟩ hn hd

variable {a b : Expr} {ta tb : TE} {pos : Pos}
/-! ### comparisons -/
def PC (X : Cx) (op : CmpOp) (a b : Expr) (t : TE) : Prop :=
  ∀ (pins : List (Addr × Obj)) (s : Shared) (σ : St) (H : Hp) (Q : VK), Inv X pins σ H s → t σ H Q →
    wpAny (model X.prog X.w) X.A (eval a X.env) (fun v s₁ => wpAny (model X.prog X.w) X.A (eval b X.env) (fun u s₂ => wpAny (model X.prog X.w) X.A (compareOp op v u) (EP X pins σ Q) X.xe s₂) X.xe s₁) X.xe s
theorem nobehind (b : Expr) {op : CmpOp} (h : op ≠ .In) (h2 : op ≠ .NotIn) : behindInMarks op b = false := by
  have e1 : (op == CmpOp.In) = false := by cases op <;> first | rfl | exact absurd rfl h
  have e2 : (op == CmpOp.NotIn) = false := by cases op <;> first | rfl | exact absurd rfl h2
  cases b <;> simp [behindInMarks, e1, e2]
/-- a comparison as a value, as a test -/
def tB (t : TE) : TT := fun σ H Q => t σ H fun x H1 => ∃ c, x = .bl c ∧ Q c H1
theorem pt_cmp {op : CmpOp} {t : TE} (h : PC X op a b t) (h1 : behindInMarks op b = false := by first | exact nobehind _ (by decide) (by decide) | rfl) : PT X (.Compare a [op] [b] pos) (tB t) := by
  intro pins s σ H Q I hw
  refine wpAny_isTrue_Compare1 (thn (h pins s σ H _ I hw) fun v s1 h1 => thn h1 fun u s2 h2 => thn h2 fun c s3 ⟨x, H1, I1, r1, q1⟩ => ?_) h1
  obtain ⟨d, rfl, q⟩ := q1
  cases r1
  exact wpAny_truthy_bool ⟨H1, I1, q⟩
/-- an expression whose value is a bool, as a test -/
theorem pt_val {e : Expr} {t : TE} (h : PE X e t) (he : ∀ whole, isTrue e X.env whole = (do let v ← whole; standAt e.pos; holding [v] (truthy v)) := by intro _; rfl) : PT X e (tB t) := by
  intro pins s σ H Q I hw
  refine isTrue_plain (thn (h pins s σ H _ I hw) fun v s1 ⟨x, H1, I1, r1, q1⟩ => ?_) (he _)
  obtain ⟨d, rfl, q⟩ := q1
  cases r1
  exact wpAny_truthy_bool ⟨H1, I1, q⟩

/-! ### and, or, not -/
variable {tA tB' : TT} {rest : List Expr}
def tAnd (t u : TT) : TT := fun σ H Q => t σ H fun c H1 => if c = true then u σ H1 Q else Q false H1
def tOr (t u : TT) : TT := fun σ H Q => t σ H fun c H1 => if c = true then Q true H1 else u σ H1 Q
def tNot (t : TT) : TT := fun σ H Q => t σ H fun c H1 => Q (!c) H1
theorem pw_and1 (ha : PT X a tA) : PW X (.BoolOp .And [a] pos) tA := by
  intro wh pins s σ H Q I h
  refine isTrue_and (thn (ha pins s σ H Q I h) fun c s1 e => ?_)
  cases c with
  | true => exact isTrue_and_nil e
  | false => exact e
theorem pw_or1 (ha : PT X a tA) : PW X (.BoolOp .Or [a] pos) tA := by
  intro wh pins s σ H Q I h
  refine isTrue_or (thn (ha pins s σ H Q I h) fun c s1 e => ?_)
  cases c with
  | false => exact isTrue_or_nil e
  | true => exact e
theorem pw_and (ha : PT X a tA) (hb : PW X (.BoolOp .And (b :: rest) pos) tB') : PW X (.BoolOp .And (a :: b :: rest) pos) (tAnd tA tB') := by
  intro wh pins s σ H Q I h
  refine isTrue_and (thn (ha pins s σ H _ I h) fun c s1 ⟨H1, I1, q1⟩ => ?_)
  cases c with
  | true => exact hb wh pins s1 σ H1 Q I1 q1
  | false => exact ⟨H1, I1, q1⟩
theorem pw_or (ha : PT X a tA) (hb : PW X (.BoolOp .Or (b :: rest) pos) tB') : PW X (.BoolOp .Or (a :: b :: rest) pos) (tOr tA tB') := by
  intro wh pins s σ H Q I h
  refine isTrue_or (thn (ha pins s σ H _ I h) fun c s1 ⟨H1, I1, q1⟩ => ?_)
  cases c with
  | true => exact ⟨H1, I1, q1⟩
  | false => exact hb wh pins s1 σ H1 Q I1 q1
theorem pt_not (ha : PT X a tA) : PT X (.UnaryOp .Not a pos) (tNot tA) := by
  intro pins s σ H Q I h
  exact isTrue_not (ha pins s σ H (fun c H1 => Q (!c) H1) I h)
/-- .. as values (bools) -/
def tAndV (ta tb : TE) : TE := fun σ H Q => ta σ H fun x H1 => ∃ c, x = .bl c ∧ if c = true then tb σ H1 Q else Q (.bl false) H1
def tNotV (ta : TE) : TE := fun σ H Q => ta σ H fun x H1 => ∃ c, x = .bl c ∧ Q (.bl (!c)) H1
theorem pe_one {op} {t : TE} (h : PE X a t) : PE X (.BoolOp op [a] pos) t := fun pins s σ H Q I hw => BoolOp_one (h pins s σ H Q I hw)
theorem pe_and (ha : PE X a ta) (hb : PE X (.BoolOp .And (b :: rest) pos) tb) : PE X (.BoolOp .And (a :: b :: rest) pos) (tAndV ta tb) := by
  intro pins s σ H Q I h
  refine BoolOp_and (thn (ha pins s σ H _ I h) fun v s1 ⟨x, H1, I1, r1, q1⟩ => ?_)
  obtain ⟨c, rfl, q1⟩ := q1
  cases r1
  refine wpAny_truthy_bool ?_
  cases c with
  | true => exact hb pins s1 σ H1 Q I1 q1
  | false => exact ⟨.bl false, H1, I1, rfl, q1⟩
theorem pe_not (ha : PE X a ta) : PE X (.UnaryOp .Not a pos) (tNotV ta) := by
  intro pins s σ H Q I h
  refine UnaryOp_ (thn (ha pins s σ H _ I h) fun v s1 ⟨x, H1, I1, r1, q1⟩ => ?_)
  obtain ⟨c, rfl, q1⟩ := q1
  cases r1
  exact not_of (wpAny_truthy_bool ⟨.bl (!c), H1, I1, rfl, q1⟩)
end
end L2

namespace L2
open PySem PySem.Spec PyProof.Rows

/-! ### a list, a tuple that is read: tracked, frozen, or an object of the module -/
def SqL (K : PySem.W.Frag) (H : Hp) (a : Addr) (xs : List V) : Prop :=
  Rd H a (.lst xs) ∨
    ∃ (o : Obj) (its : Array Value) (n : Nat), K.lookup a = some o ∧ o.cls = .type "list" ∧ o.dict = none ∧ o.data = .seq its n ∧ its.size ≤ sizeLine ∧ Vals xs its.toList
def SqT (K : PySem.W.Frag) (H : Hp) (a : Addr) (xs : List V) : Prop :=
  Rd H a (.tup xs) ∨
    ∃ (o : Obj) (its : Array Value) (n : Nat), K.lookup a = some o ∧ o.cls = .type "tuple" ∧ o.data = .seq its n ∧ its.size ≤ sizeLine ∧ Vals xs its.toList
def absV : Value → Option V
  | .none => some .non
  | .bool b => some (.bl b)
  | .int i _ => some (.int i)
  | .str x _ => some (.str x)
  | .bytes b _ => some (.byt b)
  | .float b _ => some (.flt b)
  | .ref a => some (.ref a)
  | .type n => some (.ty n)
  | _ => none
theorem RelV.abs {x : V} {u : Value} (r : RelV x u) : absV u = some x := by
  cases x with
  | non => cases r; rfl
  | bl _ => cases r; rfl
  | int _ => obtain ⟨t, rfl⟩ := r; rfl
  | str _ => obtain ⟨t, rfl⟩ := r; rfl
  | byt _ => obtain ⟨t, rfl⟩ := r; rfl
  | flt _ => obtain ⟨t, rfl⟩ := r; rfl
  | ref _ => cases r; rfl
  | ty _ => cases r; rfl
theorem RelV.inj {x y : V} {u : Value} (r : RelV x u) (q : RelV y u) : x = y := Option.some.inj (r.abs.symm.trans q.abs)
theorem Vals.inj : ∀ {xs ys : List V} {us : List Value}, Vals xs us → Vals ys us → xs = ys
  | _, _, _, .nil, .nil => rfl
  | _, _, _, .cons r t, .cons r' t' => by rw [r.inj r', Vals.inj t t']
section
variable {X : Cx} {pins : List (Addr × Obj)} {σ : St} {H : Hp} {s : Shared} {a : Addr} {xs ys : List V}
theorem SqL.of {K : PySem.W.Frag} (h : H a = some (.lst xs)) : SqL K H a xs := .inl (.inl h)
theorem SqT.of {K : PySem.W.Frag} (h : H a = some (.tup xs)) : SqT K H a xs := .inl (.inl h)
theorem Inv.list (I : Inv X pins σ H s) (h : SqL X.K H a xs) : ∃ its : List Value, Vals xs its ∧ PlainL s.heap a its.toArray ∧ xs.length ≤ sizeLine := by
  rcases h with h | ⟨o, its, n, hk, hc, hd, hs, hz, r⟩
  · obtain ⟨z, its, n, r, e⟩ := h.ok I.hok
    exact ⟨its, r, ⟨_, n, e, rfl, rfl, rfl⟩, z⟩
  · refine ⟨its.toList, r, ⟨o, n, I.kIn a o hk, hc, hd, by simpa using hs⟩, ?_⟩
    have e := r.length
    simp only [Array.length_toList] at e
    omega
theorem Inv.tuple (I : Inv X pins σ H s) (h : SqT X.K H a xs) : ∃ its : List Value, Vals xs its ∧ IsTup s.heap a its.toArray ∧ xs.length ≤ sizeLine := by
  rcases h with h | ⟨o, its, n, hk, hc, hs, hz, r⟩
  · obtain ⟨z, its, r, p⟩ := h.ok I.hok
    exact ⟨its, r, p, z⟩
  · refine ⟨its.toList, r, ⟨o, I.kIn a o hk, hc, n, by simpa using hs⟩, ?_⟩
    have e := r.length
    simp only [Array.length_toList] at e
    omega
theorem Inv.list_inj (I : Inv X pins σ H s) (h : SqL X.K H a xs) (h' : SqL X.K H a ys) : xs = ys := by
  obtain ⟨its, r, ⟨o, n, e, _, _, d⟩, _⟩ := I.list h
  obtain ⟨its', r', ⟨o', n', e', _, _, d'⟩, _⟩ := I.list h'
  rw [e] at e'; cases e'
  rw [d] at d'
  injection d' with d1 _
  have : its = its' := by simpa using congrArg Array.toList d1
  subst this
  exact r.inj r'
end

/-! ### another wish about exceptions -/
abbrev Cx.wish (X : Cx) (E : Value → Shared → Prop) : Cx := { X with xe := E }
/-- no exception leaves -/
abbrev Cx.nox (X : Cx) : Cx := X.wish fun _ _ => False
theorem Cx.Ok.wish {X : Cx} (ok : X.Ok) (E : Value → Shared → Prop) : (X.wish E).Ok :=
  ⟨ok.mod, ok.kind, ok.glob, ok.blt, ok.above, ok.inj, ok.has, ok.cab, ok.hd, ok.frames, ok.stk, ok.exf, ok.bs, ok.bsz, ok.noex, ok.exfs, ok.funs, ok.frf⟩
theorem Cx.Ok.unwish {X : Cx} {E : Value → Shared → Prop} (ok : (X.wish E).Ok) : X.Ok :=
  ⟨ok.mod, ok.kind, ok.glob, ok.blt, ok.above, ok.inj, ok.has, ok.cab, ok.hd, ok.frames, ok.stk, ok.exf, ok.bs, ok.bsz, ok.noex, ok.exfs, ok.funs, ok.frf⟩
section
variable {X : Cx} {pins : List (Addr × Obj)} {σ : St} {H : Hp} {s : Shared} {E : Value → Shared → Prop}
theorem Inv.wish (I : Inv X pins σ H s) (E : Value → Shared → Prop) : Inv (X.wish E) pins σ H s := ⟨I.ok.wish E, I.os, I.bare, I.base, I.loc, I.cell, I.free, I.freeC, I.pin, I.hok, I.len⟩
theorem Inv.unwish (I : Inv (X.wish E) pins σ H s) : Inv X pins σ H s := ⟨I.ok.unwish, I.os, I.bare, I.base, I.loc, I.cell, I.free, I.freeC, I.pin, I.hok, I.len⟩
theorem SP.unwish {D : Ends} {f : Flow} {s' : Shared} (h : SP (X.wish E) pins D f s') : SP X pins D f s' := by
  cases f with
  | next => obtain ⟨σ', H', I, q⟩ := h; exact ⟨σ', H', I.unwish, q⟩
  | brk => obtain ⟨σ', H', I, q⟩ := h; exact ⟨σ', H', I.unwish, q⟩
  | cont => obtain ⟨σ', H', I, q⟩ := h; exact ⟨σ', H', I.unwish, q⟩
  | ret u => obtain ⟨v, σ', H', I, r, q⟩ := h; exact ⟨v, σ', H', I.unwish, r, q⟩
theorem PSs.nox {st : List Stmt} {t : TS} (h : PSs X.nox st t) : PSs X st t := fun pins s σ H D I hw =>
  wpAny_mono (h pins s σ H D (I.wish _) hw) (fun _ _ q => q.unwish) fun _ _ z => False.elim z
end

/-! ### blocks and small statements -/
section
variable {X : Cx} {st : Stmt} {rest : List Stmt} {t u : TS} {e : Expr} {te : TE} {pos : Pos}
def tNext : TS := fun D σ H => D.nx σ H
def tSeq (t u : TS) : TS := fun D σ H => t { D with nx := u D } σ H
theorem pss_nil : PSs X [] tNext := fun _ _ σ H _ I h => wpAny_execs_nil ⟨σ, H, I, h⟩
theorem pss_cons (h1 : PS X st t) (h2 : PSs X rest u) : PSs X (st :: rest) (tSeq t u) := by
  intro pins s σ H D I h
  refine wpAny_execs_cons (thn (h1 pins s σ H { D with nx := u D } I h) fun f s1 q => ?_)
  cases f with
  | next =>
    obtain ⟨σ', H', I', q⟩ := q
    exact h2 pins s1 σ' H' D I' q
  | ret v => exact q
  | brk => exact q
  | cont => exact q
theorem pss_one (h1 : PS X st t) : PSs X [st] t := by
  intro pins s σ H D I h
  refine wpAny_execs_cons (thn (h1 pins s σ H D I h) fun f s1 q => ?_)
  cases f with
  | next => exact wpAny_execs_nil q
  | ret v => exact q
  | brk => exact q
  | cont => exact q
/-- in a def's body nothing is shown -/
theorem Inv.quiet {pins : List (Addr × Obj)} {σ : St} {H : Hp} {s : Shared} (I : Inv X pins σ H s) : interactive X.env = false := by simp [interactive, I.ok.kind]
/-- an expression whose value is dropped -/
def tDrop (te : TE) : TS := fun D σ H => te σ H fun _ H1 => D.nx σ H1
theorem ps_expr (he : PE X e te) (hs : swapsWith e none pos.line X.env = pure false := by rfl) : PS X (.Expr e pos) (tDrop te) := by
  intro pins s σ H D I h
  exact wpAny_Expr_any (thn (he pins s σ H _ I h) fun v s1 ⟨x, H1, I1, r1, q1⟩ => ⟨σ, H1, I1, q1⟩) I.quiet hs
def tRet (te : TE) : TS := fun D σ H => te σ H D.rt
theorem ps_ret (he : PE X e te) : PS X (.Return (some e) pos) (tRet te) := by
  intro pins s σ H D I h
  exact wpAny_Return_some (thn (he pins s σ H _ I h) fun v s1 ⟨x, H1, I1, r1, q1⟩ => ⟨x, σ, H1, I1, r1, q1⟩)
def tIfS (c : TT) (t u : TS) : TS := fun D σ H => c σ H fun b H1 => if b = true then t D σ H1 else u D σ H1
theorem ps_if {c : Expr} {a b : List Stmt} {tc : TT} (hc : PT X c tc) (ha : PSs X a t) (hb : PSs X b u) : PS X (.If c a b pos) (tIfS tc t u) := by
  intro pins s σ H D I h
  refine wpAny_If (thn (hc pins s σ H _ I h) fun d s1 ⟨H1, I1, q1⟩ => ?_)
  cases d with
  | true => exact ha pins s1 σ H1 D I1 q1
  | false => exact hb pins s1 σ H1 D I1 q1
end

/-! ### targets -/
abbrev TG := V → St → Hp → (St → Hp → Prop) → Prop
abbrev TGs := List V → St → Hp → (St → Hp → Prop) → Prop
def PG (X : Cx) (target : Expr) (t : TG) : Prop :=
  ∀ (pins : List (Addr × Obj)) (s : Shared) (σ : St) (H : Hp) (v : V) (u : Value) (Q : St → Hp → Prop), Inv X pins σ H s → RelV v u → t v σ H Q →
    wpAny (model X.prog X.w) X.A (assign target X.env u) (fun _ s' => ∃ σ' H', Inv X pins σ' H' s' ∧ Q σ' H') X.xe s
/-- several targets, one after another -/
def PGs (X : Cx) (ts : List Expr) (t : TGs) : Prop :=
  ∀ (pins : List (Addr × Obj)) (s : Shared) (σ : St) (H : Hp) (vs : List V) (us : List Value) (Q : St → Hp → Prop), Inv X pins σ H s → Vals vs us → t vs σ H Q →
    wpAny (model X.prog X.w) X.A (assignInOrder ((assignEach ts X.env).map (·.2)) us) (fun _ s' => ∃ σ' H', Inv X pins σ' H' s' ∧ Q σ' H') X.xe s
/-- o[i] = v, by values -/
abbrev TSet := V → V → V → Hp → (Hp → Prop) → Prop
def PSet (X : Cx) (t : TSet) : Prop :=
  ∀ (pins : List (Addr × Obj)) (s : Shared) (σ : St) (H : Hp) (o i v : V) (ov iv u : Value) (Q : Hp → Prop), Inv X pins σ H s → RelV o ov → RelV i iv → RelV v u → t o i v H Q →
    wpAny (model X.prog X.w) X.A (setItem ov iv u) (fun _ s' => ∃ H', Inv X pins σ H' s' ∧ Q H') X.xe s
section
variable {X : Cx} {pos : Pos}
def gName (i : Nat) : TG := fun v σ H Q => Q (σ.set i (some v)) H
theorem pg_name {i : Nat} {x : Str} (hN : X.N.Nodup) (hi : X.N[i]? = some x) (hx : Loc X.env.scope x) (hf : X.fn x = true ∨ X.env.scope.names.lookup x = some .local := by first | exact .inl rfl | exact .inr rfl | assumption) : PG X (.Name x pos) (gName i) := by
  intro pins s σ H v u Q I r h
  exact wpAny_assign_Name (store_ok I hN hi hx r (fun s' I' => ⟨_, H, I', h⟩) hf)
def gNil : TGs := fun vs σ H Q => vs = [] ∧ Q σ H
def gCons (t : TG) (u : TGs) : TGs := fun vs σ H Q => ∃ v r, vs = v :: r ∧ t v σ H fun σ' H' => u r σ' H' Q
theorem pgs_nil : PGs X [] gNil := by
  intro pins s σ H vs us Q I r h
  obtain ⟨e, h⟩ := h
  subst e
  cases r
  exact assignInOrder_nil ⟨σ, H, I, h⟩
theorem pgs_cons {e : Expr} {es : List Expr} {t : TG} {u : TGs} (h1 : PG X e t) (h2 : PGs X es u)
    (hs : (assignEach (e :: es) X.env).map (·.2) = assign e X.env :: (assignEach es X.env).map (·.2) := by rfl) : PGs X (e :: es) (gCons t u) := by
  intro pins s σ H vs us Q I r h
  obtain ⟨v, vr, e1, h⟩ := h
  subst e1
  cases r with
  | cons r rr =>
    rw [hs]
    refine assignInOrder_cons (thn (h1 pins s σ H _ _ _ I r h) fun _ s1 ⟨σ1, H1, I1, q1⟩ => ?_)
    exact h2 pins s1 σ1 H1 _ _ Q I1 rr q1
/-- (a, b, ..) = a tuple of that length -/
def gTup (K : PySem.W.Frag) (n : Nat) (t : TGs) : TG := fun v σ H Q => ∃ a xs, v = .ref a ∧ SqT K H a xs ∧ xs.length = n ∧ t xs σ H Q
theorem pg_tup {es : List Expr} {k : Nat} {t : TGs} {n : Nat} (hc : X.calm = true) (h : PGs X es t)
    (hn : (assignEach es X.env).length = n := by rfl) (hst : (assignEach es X.env).findIdx? (·.1) = none := by rfl) : PG X (.Tuple es k pos) (gTup X.K n t) := by
  intro pins s σ H v u Q I r hw
  obtain ⟨a, xs, e1, hq, hl, hw⟩ := hw
  subst e1
  cases r
  obtain ⟨its, rv, ht, hz⟩ := I.tuple hq
  refine assign_Tuple_tuple (I.ok.hd hc) ht (by simp [hn, ← hl, rv.length]) hst fun h' hx => ?_
  have I1 : Inv X pins σ H { s with heap := h' } := I.kept (t' := s.toks) fun b o e => hx b o (Nat.ne_of_lt (Heap.lt_size e)) e
  exact h pins _ σ H xs _ Q I1 (by simpa using rv) hw
/-- o[i] = .. -/
def gSub (to ti : TE) (t : TSet) : TG := fun v σ H Q => to σ H fun o H1 => ti σ H1 fun i H2 => t o i v H2 fun H3 => Q σ H3
theorem pg_sub {o i : Expr} {to ti : TE} {t : TSet} (ho : PE X o to) (hi : PE X i ti) (hs : PSet X t)
    (ha : ∀ v, assign (.Subscript o i pos) X.env v = (do
      let ov ← holding [v] (eval o X.env)
      let iv ← holding [v, ov] (eval i X.env)
      standAt pos
      holding [v, ov, iv] (setItem ov iv v)
      release [v, ov, iv] []) := by intro _; rfl) : PG X (.Subscript o i pos) (gSub to ti t) := by
  intro pins s σ H v u Q I r h
  rw [ha]
  refine wpAny_bind (wpAny_holding (thn (ho pins s σ H _ I h) fun ov s1 ⟨x, H1, I1, r1, q1⟩ => ?_))
  refine wpAny_bind (wpAny_holding (thn (hi pins s1 σ H1 _ I1 q1) fun iv s2 ⟨y, H2, I2, r2, q2⟩ => ?_))
  refine wpAny_bind (wpAny_standAt (wpAny_bind (wpAny_holding (thn (hs pins s2 σ H2 x y v ov iv u _ I2 r1 r2 r q2) fun _ s3 ⟨H3, I3, q3⟩ => ?_))))
  exact wpAny_release ⟨σ, H3, I3, q3⟩
/-- target = value -/
def tAsg (te : TE) (g : TG) : TS := fun D σ H => te σ H fun x H1 => g x σ H1 D.nx
theorem ps_asg {tg e : Expr} {te : TE} {g : TG} (he : PE X e te) (hg : PG X tg g) (hs : swapsWithSole [tg] e pos.line X.env = pure false := by rfl) (hw : swappedStores [tg] e X.env = pure none := by rfl)
    (h1 : (assignEach [tg] X.env).map (·.2) = [assign tg X.env] := by rfl) : PS X (.Assign [tg] e pos) (tAsg te g) := by
  intro pins s σ H D I h
  refine wpAny_Assign_stores (thn (he pins s σ H _ I h) fun v s1 ⟨x, H1, I1, r1, q1⟩ => ?_) hs hw
  rw [h1]
  exact thn (hg pins s1 σ H1 x v _ I1 r1 q1) fun _ s2 q => q
/-- name = value -/
theorem ps_set {i : Nat} {x : Str} {e : Expr} {te : TE} {pos' : Pos} (hN : X.N.Nodup) (hi : X.N[i]? = some x) (hx : Loc X.env.scope x) (he : PE X e te) (hs : swapsWith e (some (.Name x pos')) pos.line X.env = pure false := by rfl) (hf : X.fn x = true ∨ X.env.scope.names.lookup x = some .local := by first | exact .inl rfl | exact .inr rfl | assumption) :
    PS X (.Assign [.Name x pos'] e pos) (tAsg te (gName i)) := by
  intro pins s σ H D I h
  refine wpAny_Assign_Name (thn (he pins s σ H _ I h) fun v s1 ⟨y, H1, I1, r1, q1⟩ => ?_) hs
  exact store_ok I1 hN hi hx r1 (fun s2 I2 => ⟨_, H1, I2, q1⟩) hf
end

/-! ### while -/
section
variable {X : Cx} {pos : Pos}
/-- the invariant W with its measure -/
def tWhile (c : TT) (tb : TS) : TS := fun D σ H => ∃ W : Nat → St → Hp → Prop, (∃ m, W m σ H) ∧ ∀ m σ H, W m σ H →
  c σ H fun b H1 => if b = true then ∃ N : St → Hp → Prop, (∀ σ' H', N σ' H' → ∃ m', m' < m ∧ W m' σ' H') ∧ tb { D with nx := N, ct := N, bk := D.nx } σ H1 else D.nx σ H1
theorem ps_while {c : Expr} {body : List Stmt} {tc : TT} {tb : TS} (hp : PassesOwn (model X.prog X.w) X.A X.env X.xe) (hc : PT X c tc) (hb : PSs X body tb) : PS X (.While c body [] pos) (tWhile tc tb) := by
  intro pins s σ H D I h
  obtain ⟨W, ⟨m0, w0⟩, turn⟩ := h
  refine wpAny_While (codeAny_whileLoop (fun n s' => ∃ σ' H', Inv X pins σ' H' s' ∧ W n σ' H') ?_ m0 ⟨σ, H, I, w0⟩)
  rintro n s1 ⟨σ1, H1, I1, w1⟩
  refine wpAny_passesOwn hp (thn (hc pins s1 σ1 H1 _ I1 (turn n σ1 H1 w1)) fun b s2 ⟨H2, I2, q2⟩ => ?_)
  cases b with
  | true =>
    obtain ⟨N, hN, q2⟩ := q2
    rw [if_pos rfl]
    refine wpAny_passesOwn hp (thn (hb pins s2 σ1 H2 _ I2 q2) fun f s3 q3 => ?_)
    cases f with
    | next =>
      obtain ⟨σ3, H3, I3, n3⟩ := q3
      obtain ⟨m', hm, w3⟩ := hN σ3 H3 n3
      exact ⟨m', hm, σ3, H3, I3, w3⟩
    | cont =>
      obtain ⟨σ3, H3, I3, n3⟩ := q3
      obtain ⟨m', hm, w3⟩ := hN σ3 H3 n3
      exact ⟨m', hm, σ3, H3, I3, w3⟩
    | brk => exact q3
    | ret v => exact q3
  | false =>
    rw [if_neg Bool.false_ne_true]
    exact wpAny_execs_nil ⟨σ1, H2, I2, q2⟩
end

/-! ### what a loop or a comprehension walks -/
/-- at turn i: it yields x (the heap may grow), or it stops -/
structure It where
  go : Nat → Hp → Prop
  yld : Nat → Hp → V → Hp → Prop
  stop : Nat → Hp → Prop
/-- the iterator's own objects may turn: they are not the frame's, not pinned, younger than the entry (or a comprehension's own) -/
def FpOk (X : Cx) (pins : List (Addr × Obj)) (H : Hp) (b : Addr) : Prop :=
  H b = none ∧ b ≠ X.env.locals ∧ b ∉ X.fs ∧ (b ∈ X.ex ∨ X.s₀.heap.objs.size ≤ b) ∧ (∀ x c, X.env.cells.lookup x = some c → c ≠ b) ∧ ∀ p ∈ X.pn ++ pins, p.1 ≠ b
theorem Inv.fpOk {X : Cx} {pins : List (Addr × Obj)} {σ : St} {H H' : Hp} {s : Shared} {b : Addr} (I : Inv X pins σ H s) (hb : s.heap.objs.size ≤ b) (hn : H' b = none) : FpOk X pins H' b := by
  refine ⟨hn, Nat.ne_of_gt (Nat.lt_of_lt_of_le I.lt hb), I.nofs hb, .inr (Nat.le_trans I.sz hb), fun x c e z => ?_, fun p hp z => ?_⟩
  · obtain ⟨v, q⟩ := I.cell x c e
    exact absurd (Nat.lt_of_lt_of_le q.lt (by rw [z]; exact hb)) (Nat.lt_irrefl _)
  · exact absurd (Nat.lt_of_lt_of_le (Heap.lt_size (I.pin p hp).1) (by rw [z]; exact hb)) (Nat.lt_irrefl _)
structure Turn (P : Program) (w : World) (K : PySem.W.Frag) (tg : Expr) (J : It) (fp : List Addr) (it : Addr) (tn : Nat → Heap → Prop) : Prop where
  mem : it ∈ fp
  obj : ∀ i h, tn i h → ∀ b ∈ fp, ∃ o, h.get? b = some o ∧ ∀ v, o.data ≠ .cell v
  keep : ∀ i h h', tn i h → (∀ b ∈ fp, ∀ o, h.get? b = some o → h'.get? b = some o) → tn i h'
  item : ∀ (X : Cx), X.prog = P → X.w = w → X.K = K → X.calm = true → ∀ (i : Nat) (pins : List (Addr × Obj)) (s : Shared) (σ : St) (H : Hp) (E : Value → Shared → Prop), Inv X pins σ H s → (∀ b ∈ fp, FpOk X pins H b) → tn i s.heap → J.go i H →
    wpAny (model P w) X.A (pyNext (.ref it)) (fun r s1 => ∃ u, r = some u ∧
      wpAny (model P w) X.A (letOwnedTupleGo tg (.ref it) u) (fun _ s2 => ∃ x H', Inv X pins σ H' s2 ∧ RelV x u ∧ J.yld i H x H' ∧ tn (i + 1) s2.heap ∧ ∀ b ∈ fp, H' b = none) E s1) E s
  done : ∀ (X : Cx), X.prog = P → X.w = w → X.K = K → X.calm = true → ∀ (i : Nat) (pins : List (Addr × Obj)) (s : Shared) (σ : St) (H : Hp) (E : Value → Shared → Prop), Inv X pins σ H s → (∀ b ∈ fp, FpOk X pins H b) → tn i s.heap → J.stop i H →
    wpAny (model P w) X.A (pyNext (.ref it)) (fun r s1 => r = none ∧ Inv X pins σ H s1) E s
  self : ∀ (A : Around) (i : Nat) (s : Shared) (Q : Value → Shared → Prop) (E : Value → Shared → Prop), tn i s.heap → Q (.ref it) s → wpAny (model P w) A (pyIter (.ref it)) Q E s
abbrev TI := St → Hp → (It → Hp → Prop) → Prop
/-- an iterator has come -/
def PIE (X : Cx) (pins : List (Addr × Obj)) (σ : St) (tg : Expr) (R : It → Hp → Prop) (itv : Value) (s2 : Shared) : Prop :=
  ∃ (it : Addr) (fp : List Addr) (tn : Nat → Heap → Prop) (J : It) (H' : Hp), itv = .ref it ∧ Inv X pins σ H' s2 ∧ Turn X.prog X.w X.K tg J fp it tn ∧ tn 0 s2.heap ∧ (∀ b ∈ fp, FpOk X pins H' b) ∧ R J H'
def PI (X : Cx) (tg iter : Expr) (wi : TI) : Prop :=
  ∀ (pins : List (Addr × Obj)) (s : Shared) (σ : St) (H : Hp) (R : It → Hp → Prop), Inv X pins σ H s → wi σ H R →
    wpAny (model X.prog X.w) X.A (eval iter X.env) (fun v s1 => wpAny (model X.prog X.w) X.A (pyIter v) (PIE X pins σ tg R) X.xe s1) X.xe s

/-- the step ahead of the store is nothing for an iterator that keeps no tuple -/
theorem go_of {M : Model} {A : Around} {E : Value → Shared → Prop} {s : Shared} {tg : Expr} {it : Addr} {u : Value} {o : Obj} {n : String} {vs : Array Value} {Q : Unit → Shared → Prop} (ho : s.heap.get? it = some o) (hc : o.cls = .type n) (hd : o.data = .fields vs)
    (hn : ["enumerate", "zip", "dict_itemiterator", "dict_reverseitemiterator", "odict_iterator", "itertools.zip_longest", "itertools.pairwise"].contains n = false) (hQ : Q () s) : wpAny M A (letOwnedTupleGo tg (.ref it) u) Q E s := by
  unfold letOwnedTupleGo
  cases tg <;> first
    | exact wpAny_pure hQ
    | (cases u <;> first
        | exact wpAny_pure hQ
        | (refine wpAny_bind (wpAny_load ho ?_)
           rw [hc, hd]
           show wpAny M A (if (["enumerate", "zip", "dict_itemiterator", "dict_reverseitemiterator", "odict_iterator", "itertools.zip_longest", "itertools.pairwise"].contains n && vs[0]? == some (rawInt _)) = true then _ else _) Q E s
           rw [if_neg (by intro h; rw [hn, Bool.false_and] at h; cases h)]
           exact wpAny_pure hQ))

/-- the list at a, as it stands at each turn (a loop may append to it) -/
def Itl (K : PySem.W.Frag) (a : Addr) : It :=
  ⟨fun i H => ∃ xs x, SqL K H a xs ∧ xs[i]? = some x, fun i H x H' => H' = H ∧ ∀ xs, SqL K H a xs → xs[i]? = some x, fun i H => ∃ xs, SqL K H a xs ∧ xs.length ≤ i⟩
/-- lo, lo + 1, .. (n of them) -/
def Itr (lo : Int) (n : Nat) : It := ⟨fun i _ => i < n, fun i H x H' => H' = H ∧ x = .int (lo + i), fun i _ => n ≤ i⟩
theorem turn_list {P : Program} {w : World} {K : PySem.W.Frag} {tg : Expr} (a it : Addr) : Turn P w K tg (Itl K a) [it] it (fun i h => h.IsListIter it a i) where
  mem := by simp
  obj := fun i h st b hb => by
    have e : b = it := by simpa using hb
    subst e
    obtain ⟨o, e, c, d⟩ := st
    exact ⟨o, e, fun v z => by rw [d] at z; cases z⟩
  keep := fun i h h' st k => st.at fun o e => k it (by simp) o e
  item := by
    intro X hP hw hK hc i pins s σ H E I hf st hg
    subst hP hw hK
    obtain ⟨xs, x, hq, hx⟩ := hg
    obtain ⟨its, rv, p, hz⟩ := I.list hq
    obtain ⟨u, hu, ru⟩ := rv.get hx
    obtain ⟨f0, f1, f2, f3, f4, f5⟩ := hf it (by simp)
    refine wpAny_pyNext_list_item st p.isList (x := u) (by simpa using hu) fun h' st' sb => ?_
    have I1 : Inv X pins σ H { s with heap := h' } := I.turned (t' := s.toks) (fun b o hb e => (sb.2 b hb).trans e) f0 f1 f3 f4 f5
    obtain ⟨o, e, c, d⟩ := id st'
    exact ⟨u, rfl, go_of (s := { s with heap := h' }) e c d (by decide) ⟨x, H, I1, ru, ⟨rfl, fun ys hy => by rw [I.list_inj hy hq]; exact hx⟩, st', fun b hb => (hf b hb).1⟩⟩
  done := by
    intro X hP hw hK hc i pins s σ H E I hf st hg
    subst hP hw hK
    obtain ⟨xs, hq, hx⟩ := hg
    obtain ⟨its, rv, p, hz⟩ := I.list hq
    obtain ⟨f0, f1, f2, f3, f4, f5⟩ := hf it (by simp)
    have hl := rv.length
    exact wpAny_pyNext_list_end (I.ok.hd hc) st p.isList (by simp; omega) fun h' eb => ⟨rfl, I.turned (t' := s.toks) (fun b o hb e => eb b o hb e) f0 f1 f3 f4 f5⟩
  self := fun _ _ _ _ _ st h => wpAny_pyIter_listiter st h
theorem turn_range {P : Program} {w : World} {K : PySem.W.Frag} {tg : Expr} (it : Addr) (lo : Int) (n : Nat) : Turn P w K tg (Itr lo n) [it] it (fun i h => IsRangeIter h it (lo + (i : Nat) * 1) ((n : Int) - (i : Nat)) 1) where
  mem := by simp
  obj := fun i h st b hb => by
    have e : b = it := by simpa using hb
    subst e
    exact ⟨_, st, fun v z => by
      have z' : Data.fields _ = Data.cell v := z
      cases z'⟩
  keep := fun i h h' st k => k it (by simp) _ st
  item := by
    intro X hP hw hK hc i pins s σ H E I hf st hg
    subst hP hw hK
    obtain ⟨f0, f1, f2, f3, f4, f5⟩ := hf it (by simp)
    have W := Walks.range (prog := X.prog) (w := X.w) (I.ok.hd hc) it lo 1 n
    refine W.item i s _ _ hg st fun v h' tk hv st' kk => ?_
    obtain ⟨t, rfl⟩ := hv
    have I1 : Inv X pins σ H { s with heap := h', toks := tk } := I.turned (fun b o hb e => kk b o (by simpa using hb) e) f0 f1 f3 f4 f5
    refine ⟨_, rfl, go_of (s := { s with heap := h', toks := tk }) (n := "range_iterator") st' rfl rfl (by decide) ⟨.int (lo + i), H, I1, ⟨t, ?_⟩, ⟨rfl, rfl⟩, st', fun b hb => (hf b hb).1⟩⟩
    rw [Int.mul_one]
  done := by
    intro X hP hw hK hc i pins s σ H E I hf st hg
    subst hP hw hK
    obtain ⟨f0, f1, f2, f3, f4, f5⟩ := hf it (by simp)
    exact wpAny_pyNext_range_end (I.ok.hd hc) st (by have : n ≤ i := hg; omega) fun h' eb => ⟨rfl, I.turned (t' := s.toks) (fun b o hb e => eb b o hb e) f0 f1 f3 f4 f5⟩
  self := fun _ _ _ _ _ st h => wpAny_pyIter_rangeiter st h
end L2

namespace L2
open PySem PySem.Spec PyProof.Rows
section
variable {X : Cx} {tg : Expr}
def iList (K : PySem.W.Frag) (tl : TE) : TI := fun σ H R => tl σ H fun x H1 => ∃ a, x = .ref a ∧ (∃ xs, SqL K H1 a xs) ∧ R (Itl K a) H1
theorem pi_list {l : Expr} {tl : TE} (hl : PE X l tl) : PI X tg l (iList X.K tl) := by
  intro pins s σ H R I h
  refine thn (hl pins s σ H _ I h) fun v s1 ⟨x, H1, I1, r1, q1⟩ => ?_
  obtain ⟨a, e, ⟨xs, hq⟩, q⟩ := q1
  subst e
  cases r1
  obtain ⟨its, rv, p, hz⟩ := I1.list hq
  refine wpAny_pyIter_list p.isList ?_
  refine ⟨s1.heap.objs.size, [s1.heap.objs.size], _, _, H1, rfl, I1.kept (t' := s1.toks) fun b o e => Heap.get?_push_of_some _ e, turn_list a _, ⟨_, Heap.get?_push_size _ rfl, rfl, rfl⟩, fun b hb => ?_, q⟩
  have e : b = s1.heap.objs.size := by simpa using hb
  subst e
  exact I1.fpOk (Nat.le_refl _) (I1.hok.fresh (Nat.le_refl _))
/-- a range object just made, walked -/
theorem range_it {pins : List (Addr × Obj)} {σ : St} {H : Hp} {s : Shared} {R : It → Hp → Prop} {E : Value → Shared → Prop} {lo hi : Int} {t u v : Tok} {tk : Nat} (I : Inv X pins σ H s) (h1 : -(2 ^ 62) ≤ lo) (h2 : lo < 2 ^ 62) (h3 : -(2 ^ 62) ≤ hi) (h4 : hi < 2 ^ 62)
    (q : R (Itr lo (hi - lo).toNat) H) : wpAny (model X.prog X.w) X.A (pyIter (.ref s.heap.objs.size)) (PIE X pins σ tg R) E { s with heap := s.heap.push { cls := .type "range", data := .fields #[.int lo t, .int hi u, .int 1 v] }, toks := tk } := by
  refine wpAny_pyIter_range (IsRange.new ..) (small_one h1 h2 h3 h4) ?_
  have I1 : Inv X pins σ H { s with heap := s.heap.push { cls := .type "range", data := .fields #[.int lo t, .int hi u, .int 1 v] }, toks := tk } := I.kept fun b o e => Heap.get?_push_of_some _ e
  refine ⟨(s.heap.push { cls := .type "range", data := .fields #[.int lo t, .int hi u, .int 1 v] }).objs.size, [(s.heap.push { cls := .type "range", data := .fields #[.int lo t, .int hi u, .int 1 v] }).objs.size], _, _, H, rfl,
    I1.kept (t' := tk) fun b o e => Heap.get?_push_of_some _ e, turn_range _ lo (hi - lo).toNat, ?_, fun b hb => ?_, q⟩
  · have e1 : lo + ((0 : Nat) : Int) * 1 = lo := by simp
    have e2 : (((hi - lo).toNat : Nat) : Int) - ((0 : Nat) : Int) = Builtin.Range.rangeSize lo hi 1 := by rw [rangeSize_one]; split <;> omega
    show IsRangeIter _ _ (lo + ((0 : Nat) : Int) * 1) ((((hi - lo).toNat : Nat) : Int) - ((0 : Nat) : Int)) 1
    rw [e1, e2]
    exact Heap.get?_push_size _ rfl
  · have e : b = (s.heap.push { cls := .type "range", data := .fields #[.int lo t, .int hi u, .int 1 v] }).objs.size := by simpa using hb
    subst e
    exact I1.fpOk (Nat.le_refl _) (I1.hok.fresh (Nat.le_refl _))
def iRng1 (ta : TA) : TI := fun σ H R => ta σ H fun vs H1 => ∃ j : Int, vs = [.int j] ∧ -(2 ^ 62) ≤ j ∧ j < 2 ^ 62 ∧ R (Itr 0 j.toNat) H1
def iRng2 (ta : TA) : TI := fun σ H R => ta σ H fun vs H1 => ∃ i j : Int, vs = [.int i, .int j] ∧ (-(2 ^ 62) ≤ i ∧ i < 2 ^ 62 ∧ -(2 ^ 62) ≤ j ∧ j < 2 ^ 62) ∧ R (Itr i (j - i).toNat) H1
theorem pi_range1 {a : Expr} {ta : TA} {p pos : Pos} (hg : Gl X "range") (hm : X.mg "range" = none) (ha : PA X [a] ta) (hs : starEach [a] X.env = [(false, eval a X.env)] := by rfl) : PI X tg (.Call (.Name "range" p) [a] [] pos) (iRng1 ta) := by
  intro pins s σ H R I h
  refine Call_ (ld_blt I hg hm boot_range (PyProof.Rows.callWith_type1 (thn (ha pos pins s σ H _ I h) fun us s1 ⟨vs, H1, I1, r1, q1⟩ => ?_) hs rfl))
  obtain ⟨j, e, q1, q2, q⟩ := q1
  subst e
  cases r1 with
  | cons r rr =>
    cases rr
    obtain ⟨t, rfl⟩ := r
    exact call_range_1 (range_it I1 (by omega) (by omega) q1 q2 (by simpa using q))
theorem pi_range2 {a b : Expr} {ta : TA} {p pos : Pos} (hg : Gl X "range") (hm : X.mg "range" = none) (ha : PA X [a, b] ta) (hs : starEach [a, b] X.env = [(false, eval a X.env), (false, eval b X.env)] := by rfl) (hs2 : starEach [b] X.env = [(false, eval b X.env)] := by rfl) :
    PI X tg (.Call (.Name "range" p) [a, b] [] pos) (iRng2 ta) := by
  intro pins s σ H R I h
  refine Call_ (ld_blt I hg hm boot_range (PyProof.Rows.callWith_type1 (thn (ha pos pins s σ H _ I h) fun us s1 ⟨vs, H1, I1, r1, q1⟩ => ?_) (by rw [hs, hs2]) (by rw [hs2]; rfl)))
  obtain ⟨i, j, e, ⟨q1, q2, q3, q4⟩, q⟩ := q1
  subst e
  cases r1 with
  | cons r rr =>
    cases rr with
    | cons r' rr =>
      cases rr
      obtain ⟨t, rfl⟩ := r
      obtain ⟨t', rfl⟩ := r'
      exact call_range_2 (range_it I1 q1 q2 q3 q4 q)

/-! ### for -/
/-- W: the invariant by the turn and a measure; N: what the body is to reach -/
def tFor (wi : TI) (g : TG) (tb : TS) : TS := fun D σ H => wi σ H fun J H1 => ∃ W : Nat → Nat → St → Hp → Prop, (∃ m, W 0 m σ H1) ∧ ∀ i m σ H, W i m σ H →
  (J.stop i H ∧ D.nx σ H) ∨ (J.go i H ∧ ∃ N : St → Hp → Prop, (∀ σ' H', N σ' H' → ∃ m', m' < m ∧ W (i + 1) m' σ' H') ∧ ∀ x H', J.yld i H x H' → g x σ H' fun σ2 H2 => tb { D with nx := N, ct := N, bk := D.nx } σ2 H2)
/-- the records at fp as they stand -/
def pinsAt (fp : List Addr) (h : Heap) : List (Addr × Obj) := fp.filterMap fun b => (h.get? b).map fun o => (b, o)
theorem mem_pinsAt {fp : List Addr} {h : Heap} {b : Addr} {o : Obj} (hb : b ∈ fp) (e : h.get? b = some o) : (b, o) ∈ pinsAt fp h := List.mem_filterMap.mpr ⟨b, hb, by rw [e]; rfl⟩
theorem of_pinsAt {fp : List Addr} {h : Heap} {p : Addr × Obj} (hp : p ∈ pinsAt fp h) : p.1 ∈ fp ∧ h.get? p.1 = some p.2 := by
  obtain ⟨b, hb, e⟩ := List.mem_filterMap.mp hp
  cases q : h.get? b with
  | none => rw [q] at e; cases e
  | some o =>
    rw [q] at e
    have e' : (b, o) = p := Option.some.inj e
    subst e'
    exact ⟨hb, q⟩
theorem Inv.pinned {pins : List (Addr × Obj)} {σ : St} {H : Hp} {s : Shared} {fp : List Addr} (I : Inv X pins σ H s) (hf : ∀ b ∈ fp, FpOk X pins H b) (ho : ∀ b ∈ fp, ∃ o, s.heap.get? b = some o ∧ ∀ v, o.data ≠ .cell v) : Inv X (pins ++ pinsAt fp s.heap) σ H s :=
  I.pins_of fun p hp => (List.mem_append.mp hp).elim (fun z => I.pin p (List.mem_append_right _ z)) fun z => by
    obtain ⟨hb, e⟩ := of_pinsAt z
    obtain ⟨f0, f1, f2, _⟩ := hf p.1 hb
    obtain ⟨o, e', d⟩ := ho p.1 hb
    rw [e] at e'; cases e'
    exact ⟨e, f0, f1, f2, d⟩
theorem Inv.unpinned {pins pl : List (Addr × Obj)} {σ : St} {H : Hp} {s : Shared} (I : Inv X (pins ++ pl) σ H s) : Inv X pins σ H s := I.pins_of fun p hp => I.pin p (List.mem_append_right _ (List.mem_append_left _ hp))
theorem ps_for {iter : Expr} {body : List Stmt} {wi : TI} {g : TG} {tb : TS} {pos : Pos} (hp : PassesOwn (model X.prog X.w) X.A X.env X.xe) (hc : X.calm = true) (hi : PI X tg iter wi) (hg : PG X tg g) (hb : PSs X body tb)
    (hs : ∀ x, foldedSetIterable iter X.env x = pure x := by intro _; rfl) : PS X (.For tg iter body [] pos) (tFor wi g tb) := by
  intro pins s σ H D I h
  refine wpAny_For (thn (hi pins s σ H _ I h) fun v s1 h1 => thn h1 fun itv s2 h2 => ?_) hs
  obtain ⟨it, fp, tn, J, H2, e, I2, T, st2, f2, W, ⟨m0, w0⟩, turn⟩ := h2
  subst e
  -- what stays true of the iterator's objects through the loop
  have stat : ∀ {H' : Hp}, (∀ b ∈ fp, H' b = none) → ∀ b ∈ fp, FpOk X pins H' b := fun hn b hb => ⟨hn b hb, (f2 b hb).2⟩
  refine codeAny_forLoop_any (fun n s' => ∃ i σ' H', Inv X pins σ' H' s' ∧ tn i s'.heap ∧ (∀ b ∈ fp, H' b = none) ∧ W i n σ' H') ?_ m0 ⟨0, σ, H2, I2, st2, fun b hb => (f2 b hb).1, w0⟩
  rintro n s3 ⟨i, σ3, H3, I3, st3, fr3, w3⟩
  rcases turn i n σ3 H3 w3 with ⟨stop, qn⟩ | ⟨go, N, hN, step⟩
  · refine wpAny_passesOwn hp (thn (T.done X rfl rfl rfl hc i pins s3 σ3 H3 X.xe I3 (stat fr3) st3 stop) fun r s4 ⟨hr, I4⟩ => ?_)
    subst hr
    exact wpAny_execs_nil ⟨σ3, H3, I4, qn⟩
  · refine wpAny_passesOwn hp (thn (T.item X rfl rfl rfl hc i pins s3 σ3 H3 X.xe I3 (stat fr3) st3 go) fun r s4 ⟨u, hr, h4⟩ => ?_)
    subst hr
    refine wpAny_passesOwn hp (thn h4 fun _ s5 ⟨x, H5, I5, r5, y5, st5, fr5⟩ => ?_)
    have I5' := I5.pinned (stat fr5) (T.obj _ _ st5)
    refine wpAny_passesOwn hp (thn (hg _ s5 σ3 H5 x u _ I5' r5 (step x H5 y5)) fun _ s6 ⟨σ6, H6, I6, q6⟩ => ?_)
    refine wpAny_passesOwn hp (thn (hb _ s6 σ6 H6 _ I6 q6) fun f s7 q7 => ?_)
    have again : ∀ {σ7 : St} {H7 : Hp}, Inv X (pins ++ pinsAt fp s5.heap) σ7 H7 s7 → N σ7 H7 → ∃ m, m < n ∧ ∃ i σ' H', Inv X pins σ' H' s7 ∧ tn i s7.heap ∧ (∀ b ∈ fp, H' b = none) ∧ W i m σ' H' := fun {σ7 H7} I7 n7 => by
      obtain ⟨m', hm, w7⟩ := hN σ7 H7 n7
      refine ⟨m', hm, i + 1, σ7, H7, I7.unpinned, T.keep _ _ _ st5 fun b hb o e => (I7.pin (b, o) (List.mem_append_right _ (List.mem_append_right _ (mem_pinsAt hb e)))).1, fun b hb => ?_, w7⟩
      obtain ⟨o, e, d⟩ := T.obj _ _ st5 b hb
      exact (I7.pin (b, o) (List.mem_append_right _ (List.mem_append_right _ (mem_pinsAt hb e)))).2.1
    cases f with
    | next => obtain ⟨σ7, H7, I7, n7⟩ := q7; exact again I7 n7
    | cont => obtain ⟨σ7, H7, I7, n7⟩ := q7; exact again I7 n7
    | brk => obtain ⟨σ7, H7, I7, q7⟩ := q7; exact ⟨σ7, H7, I7.unpinned, q7⟩
    | ret v => obtain ⟨x7, σ7, H7, I7, r7, q7⟩ := q7; exact ⟨x7, σ7, H7, I7.unpinned, r7, q7⟩
end

/-! ### the forms one uses -/
/-- over a list that the body leaves as it is -/
theorem for_list {K : PySem.W.Frag} {a : Addr} {xs : List V} {g : TG} {tb : TS} {D : Ends} {σ : St} {H : Hp} (Pv : Nat → St → Hp → Prop) (h0 : Pv 0 σ H) (hl : ∀ i σ H, i ≤ xs.length → Pv i σ H → SqL K H a xs)
    (hs : ∀ i x σ H, xs[i]? = some x → Pv i σ H → g x σ H fun σ2 H2 => tb { D with nx := Pv (i + 1), ct := Pv (i + 1), bk := D.nx } σ2 H2) (hd : ∀ σ H, Pv xs.length σ H → D.nx σ H) :
    ∃ W : Nat → Nat → St → Hp → Prop, (∃ m, W 0 m σ H) ∧ ∀ i m σ H, W i m σ H →
      ((Itl K a).stop i H ∧ D.nx σ H) ∨ ((Itl K a).go i H ∧ ∃ N : St → Hp → Prop, (∀ σ' H', N σ' H' → ∃ m', m' < m ∧ W (i + 1) m' σ' H') ∧ ∀ x H', (Itl K a).yld i H x H' → g x σ H' fun σ2 H2 => tb { D with nx := N, ct := N, bk := D.nx } σ2 H2) := by
  refine ⟨fun i m σ H => m = xs.length - i ∧ i ≤ xs.length ∧ Pv i σ H, ⟨xs.length, by simp, Nat.zero_le _, h0⟩, ?_⟩
  rintro i m σ H ⟨rfl, hi, p⟩
  have q := hl i σ H hi p
  by_cases hlt : i < xs.length
  · refine .inr ⟨⟨xs, xs[i], q, by simp [hlt]⟩, Pv (i + 1), fun σ' H' p' => ⟨xs.length - (i + 1), by omega, rfl, hlt, p'⟩, fun x H' y => ?_⟩
    obtain ⟨e, y⟩ := y
    subst e
    exact hs i x σ _ (y xs q) p
  · have e : i = xs.length := by omega
    subst e
    exact .inl ⟨⟨xs, q, Nat.le_refl _⟩, hd σ H p⟩
theorem for_range {lo : Int} {n : Nat} {g : TG} {tb : TS} {D : Ends} {σ : St} {H : Hp} (Pv : Nat → St → Hp → Prop) (h0 : Pv 0 σ H)
    (hs : ∀ i σ H, i < n → Pv i σ H → g (.int (lo + i)) σ H fun σ2 H2 => tb { D with nx := Pv (i + 1), ct := Pv (i + 1), bk := D.nx } σ2 H2) (hd : ∀ σ H, Pv n σ H → D.nx σ H) :
    ∃ W : Nat → Nat → St → Hp → Prop, (∃ m, W 0 m σ H) ∧ ∀ i m σ H, W i m σ H →
      ((Itr lo n).stop i H ∧ D.nx σ H) ∨ ((Itr lo n).go i H ∧ ∃ N : St → Hp → Prop, (∀ σ' H', N σ' H' → ∃ m', m' < m ∧ W (i + 1) m' σ' H') ∧ ∀ x H', (Itr lo n).yld i H x H' → g x σ H' fun σ2 H2 => tb { D with nx := N, ct := N, bk := D.nx } σ2 H2) := by
  refine ⟨fun i m σ H => m = n - i ∧ i ≤ n ∧ Pv i σ H, ⟨n, by simp, Nat.zero_le _, h0⟩, ?_⟩
  rintro i m σ H ⟨rfl, hi, p⟩
  by_cases hlt : i < n
  · refine .inr ⟨hlt, Pv (i + 1), fun σ' H' p' => ⟨n - (i + 1), by omega, rfl, hlt, p'⟩, fun x H' y => ?_⟩
    obtain ⟨e, y⟩ := y
    subst e y
    exact hs i σ _ hlt p
  · have e : i = n := by omega
    subst e
    exact .inl ⟨Nat.le_refl _, hd σ H p⟩
end L2

namespace L2
open PySem PySem.Spec PyProof.Rows

abbrev R2 := V → V → Hp → VK → Prop
/-- a two-place operation on values: f is binaryOp op, inplaceOp op or compareOp op -/
def OpR (X : Cx) (f : Value → Value → Sem Value) (r : R2) : Prop :=
  ∀ (pins : List (Addr × Obj)) (s : Shared) (σ : St) (H : Hp) (x y : V) (v u : Value) (Q : VK), Inv X pins σ H s → RelV x v → RelV y u → r x y H Q →
    wpAny (model X.prog X.w) X.A (f v u) (EP X pins σ Q) X.xe s
/-- a one-place operation -/
def UnR (X : Cx) (f : Value → Sem Value) (r : V → Hp → VK → Prop) : Prop :=
  ∀ (pins : List (Addr × Obj)) (s : Shared) (σ : St) (H : Hp) (x : V) (v : Value) (Q : VK), Inv X pins σ H s → RelV x v → r x H Q →
    wpAny (model X.prog X.w) X.A (f v) (EP X pins σ Q) X.xe s
/-- a call of a value that is known (a builtin, a type) with values -/
def CallR (X : Cx) (f : Value) (r : List V → Hp → VK → Prop) : Prop :=
  ∀ (pins : List (Addr × Obj)) (s : Shared) (σ : St) (H : Hp) (xs : List V) (us : List Value) (Q : VK), Inv X pins σ H s → Vals xs us → r xs H Q →
    wpAny (model X.prog X.w) X.A (call f us) (EP X pins σ Q) X.xe s
def tOp (r : R2) (ta tb : TE) : TE := fun σ H Q => ta σ H fun x H1 => tb σ H1 fun y H2 => r x y H2 Q
def tUn (r : V → Hp → VK → Prop) (ta : TE) : TE := fun σ H Q => ta σ H fun x H1 => r x H1 Q
/-- ints in, under C, and a value out -/
def rI (C : Int → Int → Prop) (g : Int → Int → V) : R2 := fun x y H Q => ∃ i j, x = .int i ∧ y = .int j ∧ C i j ∧ Q (g i j) H
def rI0 (g : Int → Int → V) : R2 := fun x y H Q => ∃ i j, x = .int i ∧ y = .int j ∧ Q (g i j) H
def rU (g : Int → V) : V → Hp → VK → Prop := fun x H Q => ∃ i, x = .int i ∧ Q (g i) H

section
variable {X : Cx} {a b c : Expr} {ta tb tc : TE} {pos : Pos}

theorem binT (ha : PE X a ta) (hb : PE X b tb) {pins : List (Addr × Obj)} {s : Shared} {σ : St} {H : Hp} {R : V → V → Hp → Prop} (I : Inv X pins σ H s)
    (h : ta σ H fun x H1 => tb σ H1 fun y H2 => R x y H2) {Q : Value → Shared → Prop} {f : Value → Value → Sem Value}
    (hf : ∀ v u s2 x y H2, Inv X pins σ H2 s2 → RelV x v → RelV y u → R x y H2 → wpAny (model X.prog X.w) X.A (f v u) Q X.xe s2) :
    wpAny (model X.prog X.w) X.A (eval a X.env) (fun v s₁ => wpAny (model X.prog X.w) X.A (eval b X.env) (fun u s₂ => wpAny (model X.prog X.w) X.A (f v u) Q X.xe s₂) X.xe s₁) X.xe s := by
  refine thn (ha pins s σ H _ I h) fun v s1 ⟨x, H1, I1, r1, q1⟩ => ?_
  refine thn (hb pins s1 σ H1 _ I1 q1) fun u s2 ⟨y, H2, I2, r2, q2⟩ => ?_
  exact hf v u s2 x y H2 I2 r1 r2 q2

theorem pe_op {op : Operator} {r : R2} (ho : OpR X (binaryOp op) r) (ha : PE X a ta) (hb : PE X b tb) : PE X (.BinOp a op b pos) (tOp r ta tb) := by
  intro pins s σ H Q I h
  exact wpAny_BinOp (binT ha hb I h fun v u s2 x y H2 I2 rx ry q => ho pins s2 σ H2 x y v u Q I2 rx ry q)
theorem pe_un {op : UnaryOp} {r : V → Hp → VK → Prop} (ho : UnR X (unaryOp op) r) (ha : PE X a ta) : PE X (.UnaryOp op a pos) (tUn r ta) := by
  intro pins s σ H Q I h
  exact UnaryOp_ (thn (ha pins s σ H _ I h) fun v s1 ⟨x, H1, I1, r1, q1⟩ => ho pins s1 σ H1 x v Q I1 r1 q1)
/-! ### ints -/
theorem opI {f : Value → Value → Sem Value} {C : Int → Int → Prop} {g : Int → Int → Int}
    (rule : ∀ (i j : Int) (t u : Tok) (s : Shared) (Q : Value → Shared → Prop) (E : Value → Shared → Prop), C i j → Q (.int (g i j) s.toks) { s with toks := s.toks + 1 } → wpAny (model X.prog X.w) X.A (f (.int i t) (.int j u)) Q E s) :
    OpR X f (rI C fun i j => .int (g i j)) := by
  intro pins s σ H x y v u Q I rx ry h
  obtain ⟨i, j, rfl, rfl, hc, q⟩ := h
  obtain ⟨t, rfl⟩ := rx
  obtain ⟨t', rfl⟩ := ry
  exact rule i j t t' s _ _ hc ⟨.int (g i j), H, I.tok _, ⟨_, rfl⟩, q⟩
theorem opI0 {f : Value → Value → Sem Value} {g : Int → Int → Int}
    (rule : ∀ (i j : Int) (t u : Tok) (s : Shared) (Q : Value → Shared → Prop) (E : Value → Shared → Prop), Q (.int (g i j) s.toks) { s with toks := s.toks + 1 } → wpAny (model X.prog X.w) X.A (f (.int i t) (.int j u)) Q E s) :
    OpR X f (rI0 fun i j => .int (g i j)) := by
  intro pins s σ H x y v u Q I rx ry h
  obtain ⟨i, j, rfl, rfl, q⟩ := h
  obtain ⟨t, rfl⟩ := rx
  obtain ⟨t', rfl⟩ := ry
  exact rule i j t t' s _ _ ⟨.int (g i j), H, I.tok _, ⟨_, rfl⟩, q⟩
theorem opB0 {f : Value → Value → Sem Value} {g : Int → Int → Bool}
    (rule : ∀ (i j : Int) (t u : Tok) (s : Shared) (Q : Value → Shared → Prop) (E : Value → Shared → Prop), Q (.bool (g i j)) s → wpAny (model X.prog X.w) X.A (f (.int i t) (.int j u)) Q E s) :
    OpR X f (rI0 fun i j => .bl (g i j)) := by
  intro pins s σ H x y v u Q I rx ry h
  obtain ⟨i, j, rfl, rfl, q⟩ := h
  obtain ⟨t, rfl⟩ := rx
  obtain ⟨t', rfl⟩ := ry
  exact rule i j t t' s _ _ ⟨.bl (g i j), H, I, rfl, q⟩

def CDiv (i j : Int) : Prop := 0 < j ∧ j < 1073741824
def CMul (i j : Int) : Prop := (-(2 ^ 64) < i ∧ i < 2 ^ 64) ∨ (-(2 ^ 64) < j ∧ j < 2 ^ 64)
theorem CMul.ok {i j : Int} (h : CMul i j) : IntMulOk i j := by
  rcases h with ⟨h1, h2⟩ | ⟨h1, h2⟩
  · exact .of_left (intBits_le_64 h1 h2)
  · exact .of_right (intBits_le_64 h1 h2)
theorem op_add : OpR X (binaryOp .Add) (rI0 fun i j => .int (i + j)) := opI0 fun _ _ _ _ _ _ _ q => add_int q
theorem op_sub : OpR X (binaryOp .Sub) (rI0 fun i j => .int (i - j)) := opI0 fun _ _ _ _ _ _ _ q => sub_int q
theorem op_mul : OpR X (binaryOp .Mult) (rI CMul fun i j => .int (i * j)) := opI fun _ _ _ _ _ _ _ hc q => mul_int q hc.ok
/-- // by a positive divisor -/
theorem op_fdiv : OpR X (binaryOp .FloorDiv) (rI CDiv fun i j => .int (i / j)) := opI fun i j _ _ _ _ _ hc q => by
  have h1 : (0 : Int) < j := hc.1
  have h2 : j < 1073741824 := hc.2
  exact floordiv_int (by omega) (by rw [Int.fdiv_eq_ediv_of_nonneg i (by omega)]; exact q) (.inl (PyProof.noPylong_small (by omega)))
/-- % by a positive divisor of any size -/
theorem op_mod : OpR X (binaryOp .Mod) (rI (fun _ j => 0 < j) fun i j => .int (i % j)) := opI fun i j _ _ _ _ _ hc q => by
  have h1 : (0 : Int) < j := hc
  exact mod_int' (by omega) (by rw [Int.fmod_eq_emod_of_nonneg i (by omega)]; exact q)
theorem unI {f : Value → Sem Value} {g : Int → Int}
    (rule : ∀ (i : Int) (t : Tok) (s : Shared) (Q : Value → Shared → Prop) (E : Value → Shared → Prop), Q (.int (g i) s.toks) { s with toks := s.toks + 1 } → wpAny (model X.prog X.w) X.A (f (.int i t)) Q E s) :
    UnR X f (rU fun i => .int (g i)) := by
  intro pins s σ H x v Q I rx h
  obtain ⟨i, rfl, q⟩ := h
  obtain ⟨t, rfl⟩ := rx
  exact rule i t s _ _ ⟨.int (g i), H, I.tok _, ⟨_, rfl⟩, q⟩
theorem un_neg : UnR X (unaryOp .USub) (rU fun i => .int (-i)) := unI fun _ _ _ _ _ q => neg_int q
end

/-! ### comparisons -/
/-- the scalars that == tells apart as data does -/
def scal : V → V → Bool
  | .non, .non => true | .non, .int _ => true | .int _, .non => true | .non, .bl _ => true | .bl _, .non => true | .non, .str _ => true | .str _, .non => true
  | .int _, .int _ => true | .bl _, .bl _ => true | .str _, .str _ => true | .byt _, .byt _ => true
  | .int _, .str _ => true | .str _, .int _ => true | .bl _, .str _ => true | .str _, .bl _ => true
  | _, _ => false
def rEq : R2 := fun x y H Q => scal x y = true ∧ Q (.bl (decide (x = y))) H
def rNe : R2 := fun x y H Q => scal x y = true ∧ Q (.bl (!decide (x = y))) H

theorem dec_int {i j : Int} : decide (V.int i = V.int j) = (i == j) := by
  rw [Bool.eq_iff_iff]
  simp
theorem dec_bl {i j : Bool} : decide (V.bl i = V.bl j) = (i == j) := by
  rw [Bool.eq_iff_iff]
  simp
theorem dec_str {i j : Str} : decide (V.str i = V.str j) = (i == j) := by
  rw [Bool.eq_iff_iff]
  simp
theorem dec_byt {i j : Array UInt8} : decide (V.byt i = V.byt j) = (i.toList == j.toList) := by
  rw [Bool.eq_iff_iff]
  cases i
  cases j
  simp

section
variable {X : Cx} {a b c : Expr} {ta tb tc : TE} {pos : Pos}
theorem fin_bl {pins : List (Addr × Obj)} {σ : St} {H : Hp} {s : Shared} {Q : VK} {k k' : Bool} (I : Inv X pins σ H s) (q : Q (.bl k) H) (e : k = k') : EP X pins σ Q (.bool k') s := by
  subst e
  exact ⟨.bl k, H, I, rfl, q⟩
theorem op_eq : OpR X (compareOp .Eq) rEq := by
  intro pins s σ H x y v u Q I rx ry h
  obtain ⟨hs, q⟩ := h
  cases x with
  | non =>
    cases rx
    cases y with
    | non => cases ry; exact PySem.EqNone.eq_none_none (fin_bl I q (by simp))
    | bl j => cases ry; exact PySem.EqNone.eq_none_bool (fin_bl I q (by simp))
    | int j => obtain ⟨t', rfl⟩ := ry; exact PySem.EqNone.eq_none_int (fin_bl I q (by simp))
    | str j => obtain ⟨t', rfl⟩ := ry; exact PySem.EqNone.eq_none_str (fin_bl I q (by simp))
    | _ => exact absurd (show false = true from hs) Bool.false_ne_true
  | bl i =>
    cases rx
    cases y with
    | non => cases ry; exact PySem.EqNone.eq_bool_none (fin_bl I q (by simp))
    | bl j => cases ry; exact eq_bool (fin_bl I q dec_bl)
    | str j => obtain ⟨t', rfl⟩ := ry; exact PySem.EqMixed.eq_bool_str (fin_bl I q (by simp))
    | _ => exact absurd (show false = true from hs) Bool.false_ne_true
  | int i =>
    obtain ⟨t, rfl⟩ := rx
    cases y with
    | non => cases ry; exact PySem.EqNone.eq_int_none (fin_bl I q (by simp))
    | int j => obtain ⟨t', rfl⟩ := ry; exact eq_int (fin_bl I q dec_int)
    | str j => obtain ⟨t', rfl⟩ := ry; exact PySem.EqMixed.eq_int_str (fin_bl I q (by simp))
    | _ => exact absurd (show false = true from hs) Bool.false_ne_true
  | str i =>
    obtain ⟨t, rfl⟩ := rx
    cases y with
    | non => cases ry; exact PySem.EqNone.eq_str_none (fin_bl I q (by simp))
    | bl j => cases ry; exact PySem.EqMixed.eq_str_bool (fin_bl I q (by simp))
    | int j => obtain ⟨t', rfl⟩ := ry; exact PySem.EqMixed.eq_str_int (fin_bl I q (by simp))
    | str j => obtain ⟨t', rfl⟩ := ry; exact eq_str (fin_bl I q dec_str)
    | _ => exact absurd (show false = true from hs) Bool.false_ne_true
  | byt i =>
    obtain ⟨t, rfl⟩ := rx
    cases y with
    | byt j => obtain ⟨t', rfl⟩ := ry; exact PySem.W.eq_bytes (fin_bl I q dec_byt)
    | _ => exact absurd (show false = true from hs) Bool.false_ne_true
  | _ => cases y <;> exact absurd (show false = true from hs) Bool.false_ne_true
theorem op_ne : OpR X (compareOp .NotEq) rNe := by
  intro pins s σ H x y v u Q I rx ry h
  obtain ⟨hs, q⟩ := h
  cases x with
  | non =>
    cases rx
    cases y with
    | non => cases ry; exact PySem.EqNone.ne_none_none (fin_bl I q (by simp))
    | bl j => cases ry; exact PySem.EqNone.ne_none_bool (fin_bl I q (by simp))
    | int j => obtain ⟨t', rfl⟩ := ry; exact PySem.EqNone.ne_none_int (fin_bl I q (by simp))
    | str j => obtain ⟨t', rfl⟩ := ry; exact PySem.EqNone.ne_none_str (fin_bl I q (by simp))
    | _ => exact absurd (show false = true from hs) Bool.false_ne_true
  | bl i =>
    cases rx
    cases y with
    | non => cases ry; exact PySem.EqNone.ne_bool_none (fin_bl I q (by simp))
    | bl j => cases ry; exact ne_bool (fin_bl I q (congrArg not dec_bl))
    | str j => obtain ⟨t', rfl⟩ := ry; exact PySem.EqMixed.ne_bool_str (fin_bl I q (by simp))
    | _ => exact absurd (show false = true from hs) Bool.false_ne_true
  | int i =>
    obtain ⟨t, rfl⟩ := rx
    cases y with
    | non => cases ry; exact PySem.EqNone.ne_int_none (fin_bl I q (by simp))
    | int j => obtain ⟨t', rfl⟩ := ry; exact ne_int (fin_bl I q (congrArg not dec_int))
    | str j => obtain ⟨t', rfl⟩ := ry; exact PySem.EqMixed.ne_int_str (fin_bl I q (by simp))
    | _ => exact absurd (show false = true from hs) Bool.false_ne_true
  | str i =>
    obtain ⟨t, rfl⟩ := rx
    cases y with
    | non => cases ry; exact PySem.EqNone.ne_str_none (fin_bl I q (by simp))
    | bl j => cases ry; exact PySem.EqMixed.ne_str_bool (fin_bl I q (by simp))
    | int j => obtain ⟨t', rfl⟩ := ry; exact PySem.EqMixed.ne_str_int (fin_bl I q (by simp))
    | str j => obtain ⟨t', rfl⟩ := ry; exact ne_str (fin_bl I q (congrArg not dec_str))
    | _ => exact absurd (show false = true from hs) Bool.false_ne_true
  | byt i =>
    obtain ⟨t, rfl⟩ := rx
    cases y with
    | byt j => obtain ⟨t', rfl⟩ := ry; exact PySem.W.ne_bytes (fin_bl I q (congrArg not dec_byt))
    | _ => exact absurd (show false = true from hs) Bool.false_ne_true
  | _ => cases y <;> exact absurd (show false = true from hs) Bool.false_ne_true

theorem op_lt : OpR X (compareOp .Lt) (rI0 fun i j => .bl (decide (i < j))) := opB0 fun _ _ _ _ _ _ _ q => lt_int q
theorem op_le : OpR X (compareOp .LtE) (rI0 fun i j => .bl (decide (i ≤ j))) := opB0 fun _ _ _ _ _ _ _ q => le_int q
theorem op_gt : OpR X (compareOp .Gt) (rI0 fun i j => .bl (decide (j < i))) := opB0 fun _ _ _ _ _ _ _ q => gt_int q
theorem nomark (b : Expr) {op : CmpOp} (h : op ≠ .In := by decide) (h2 : op ≠ .NotIn := by decide) : behindInMarks op b = false := by
  have e1 : (op == CmpOp.In) = false := by cases op <;> first | rfl | exact absurd rfl h
  have e2 : (op == CmpOp.NotIn) = false := by cases op <;> first | rfl | exact absurd rfl h2
  cases b <;> simp [behindInMarks, e1, e2]
/-- a comparison as a value; hm: nomark b, or (for in, not in) by with_unfolding_all rfl -/
theorem pe_cmpR {op : CmpOp} {r : R2} (ho : OpR X (compareOp op) r) (ha : PE X a ta) (hb : PE X b tb) (hm : behindInMarks op b = false) : PE X (.Compare a [op] [b] pos) (tOp r ta tb) := by
  intro pins s σ H Q I h
  exact wpAny_Compare1 (binT ha hb I h fun v u s2 x y H2 I2 rx ry q => ho pins s2 σ H2 x y v u Q I2 rx ry q) hm
/-- a reading of a value as a test -/
def tTest (t : TE) : TT := fun σ H Q => t σ H fun x H' => ∃ k, x = .bl k ∧ Q k H'
theorem pt_cmpR {op : CmpOp} {r : R2} (ho : OpR X (compareOp op) r) (ha : PE X a ta) (hb : PE X b tb) (hm : behindInMarks op b = false) : PT X (.Compare a [op] [b] pos) (tTest (tOp r ta tb)) := by
  intro pins s σ H Q I h
  refine wpAny_isTrue_Compare1 (thn (ha pins s σ H _ I h) fun v s1 ⟨x, H1, I1, r1, q1⟩ => thn (hb pins s1 σ H1 _ I1 q1) fun u s2 ⟨y, H2, I2, r2, q2⟩ =>
    thn (ho pins s2 σ H2 x y v u _ I2 r1 r2 q2) fun c s3 ⟨z, H3, I3, r3, k, e, q3⟩ => ?_) hm
  subst e
  cases r3
  exact wpAny_truthy_bool ⟨H3, I3, q3⟩
/-- a op1 b op2 c -/
def tChain (r r' : R2) (ta tb tc : TE) : TE := fun σ H Q => ta σ H fun x H1 => tb σ H1 fun y H2 => r x y H2 fun z H3 => ∃ k, z = .bl k ∧
  (if k = true then tc σ H3 fun w' H4 => r' y w' H4 Q else Q (.bl false) H3)
theorem pe_chain {op op' : CmpOp} {r r' : R2} (ho : OpR X (compareOp op) r) (ho' : OpR X (compareOp op') r') (ha : PE X a ta) (hb : PE X b tb) (hc : PE X c tc)
    (hm : lastMarks [op, op'] [b, c] = false := by with_unfolding_all rfl) : PE X (.Compare a [op, op'] [b, c] pos) (tChain r r' ta tb tc) := by
  intro pins s σ H Q I h
  refine Compare_chain (thn (ha pins s σ H _ I h) fun v s1 ⟨x, H1, I1, r1, q1⟩ => chain_link (thn (hb pins s1 σ H1 _ I1 q1) fun u s2 ⟨y, H2, I2, r2, q2⟩ =>
    thn (ho pins s2 σ H2 x y v u _ I2 r1 r2 q2) fun d s3 ⟨z, H3, I3, r3, k, e, q3⟩ => ?_)) hm
  subst e
  cases r3
  refine wpAny_truthy_bool ?_
  cases k with
  | false => exact ite_ff ⟨.bl false, H3, I3, rfl, q3⟩
  | true => exact ite_tt (chain_last (thn (hc pins s3 σ H3 _ I3 q3) fun w' s4 ⟨z', H4, I4, r4, q4⟩ => ho' pins s4 σ H4 y z' u w' Q I4 r2 r4 q4))
theorem pt_chain {op op' : CmpOp} {r r' : R2} (ho : OpR X (compareOp op) r) (ho' : OpR X (compareOp op') r') (ha : PE X a ta) (hb : PE X b tb) (hc : PE X c tc)
    (hm : lastMarks [op, op'] [b, c] = false := by with_unfolding_all rfl) : PT X (.Compare a [op, op'] [b, c] pos) (tTest (tChain r r' ta tb tc)) := by
  intro pins s σ H Q I h
  refine isTrue_chain (thn (ha pins s σ H _ I h) fun v s1 ⟨x, H1, I1, r1, q1⟩ => test_link (thn (hb pins s1 σ H1 _ I1 q1) fun u s2 ⟨y, H2, I2, r2, q2⟩ =>
    thn (ho pins s2 σ H2 x y v u _ I2 r1 r2 q2) fun d s3 ⟨z, H3, I3, r3, k, e, q3⟩ => ?_)) hm
  subst e
  cases r3
  refine wpAny_truthy_bool ?_
  cases k with
  | false =>
    obtain ⟨k', e', q'⟩ := q3
    cases e'
    exact ite_ff ⟨H3, I3, q'⟩
  | true =>
    refine ite_tt (test_last (thn (hc pins s3 σ H3 _ I3 q3) fun w' s4 ⟨z', H4, I4, r4, q4⟩ => thn (ho' pins s4 σ H4 y z' u w' _ I4 r2 r4 q4) fun d' s5 ⟨z2, H5, I5, r5, k2, e2, q5⟩ => ?_))
    subst e2
    cases r5
    exact wpAny_truthy_bool ⟨H5, I5, q5⟩

theorem line63 : (sizeLine : Nat) < 2 ^ 63 := by rw [sizeLine_eq]; decide
/-! ### scalar builtins, by CallR -/
theorem vals1 {x : V} {us : List Value} (r : Vals [x] us) : ∃ u, us = [u] ∧ RelV x u := by
  cases r with
  | cons r1 r2 => cases r2; exact ⟨_, rfl, r1⟩
theorem vals2 {x y : V} {us : List Value} (r : Vals [x, y] us) : ∃ u w', us = [u, w'] ∧ RelV x u ∧ RelV y w' := by
  cases r with
  | cons r1 r2 =>
    cases r2 with
    | cons r3 r4 => cases r4; exact ⟨_, _, rfl, r1, r3⟩
theorem call_abs : CallR X (.builtin "abs") (fun xs H Q => ∃ i, xs = [.int i] ∧ Q (.int (if i < 0 then -i else i)) H) := by
  intro pins s σ H xs us Q I r h
  obtain ⟨i, rfl, q⟩ := h
  obtain ⟨u, rfl, t, rfl⟩ := vals1 r
  exact call_abs_int fun u tk => ⟨.int (if i < 0 then -i else i), H, I.tok _, ⟨_, rfl⟩, q⟩
end
end L2

namespace L2
open PySem PySem.Spec PyProof.Rows

/-! ### an instance, its attributes a map -/
structure ObjM (h : Heap) (x dx C : Addr) (mA : Str → Option Value) : Prop where
  obj : h.get? x = some (PySem.W.instObj C dx)
  ns : h.Ns1 dx mA
  ne : dx ≠ x

theorem lookIn_ns {h : Heap} {dx : Addr} {mA : Str → Option Value} (n : h.Ns1 dx mA) : ∃ od, h.get? dx = some od ∧ ∀ name, PySem.W.lookIn name od = some (mA name) := by
  obtain ⟨o, es, ep, ho, hd, hk, _, hm⟩ := n
  refine ⟨o, ho, fun name => ?_⟩
  have e := hm name
  unfold nsFind findBy at e
  rw [← Array.find?_toList] at e
  unfold PySem.W.lookIn
  rw [hd]
  dsimp only
  split
  · rename_i y q
    rw [q] at e
    exact congrArg some e
  · rename_i q
    rw [q] at e
    have a : es.toList.any (·.refKey) = false := by
      rw [List.any_eq_false]
      intro y hy
      obtain ⟨z, t, hkey⟩ := hk y (Array.mem_toList_iff.mp hy)
      simp [DictEntry.refKey, hkey]
    have a' : ¬ es.toList.any (·.refKey) = true := by rw [a]; exact Bool.false_ne_true
    rw [if_neg a']
    exact congrArg some e

theorem ObjM.look {h : Heap} {x dx C : Addr} {mA : Str → Option Value} (I : ObjM h x dx C mA) : ∃ od, PySem.W.InstAt h x (PySem.W.instObj C dx) C (some od) ∧ ∀ name, PySem.W.lookIn name od = some (mA name) :=
  let ⟨od, ho, hl⟩ := lookIn_ns I.ns
  ⟨od, ⟨I.obj, rfl, rfl, ho⟩, hl⟩

section
variable {prog : Program} {w : World} {A : Around} {E : Value → Shared → Prop} {s : Shared} {K : PySem.W.Frag} {x dx C f : Addr} {mA : Str → Option Value} {name : Str} {v : Value}

theorem get_map {expr : Bool} {Q : Value → Shared → Prop} (X : K.In s.heap) (I : ObjM s.heap x dx C mA) (hg : PySem.W.plainGet K C name = true) (hh : PySem.W.hasDictIn K C = true)
    (ha : PySem.W.findIn K (.ref C) name = some none) (hv : mA name = some v) (hv' : PySem.W.handedIn v = true) (h : Q v { s with toks := s.toks + 1 }) :
    wpAny (model prog w) A (getAttr (.ref x) name expr) Q E s := by
  obtain ⟨od, J, hl⟩ := I.look
  exact PySem.W.get_value X J (PySem.W.plainGet_of hg).1 (PySem.W.findObj_own hh ha rfl (by rw [hl, hv])) hv' h

theorem get_meth {pl : Sem Bool} {Q : Value × List Value → Shared → Prop} (X : K.In s.heap) (I : ObjM s.heap x dx C mA) (hg : PySem.W.plainGet K C name = true)
    (hf : PySem.W.findIn K (.ref C) name = some (some (.ref f))) (ht : PySem.W.isFn K (.ref f) = true) (hv : mA name = none) (h : Q (.ref f, [.ref x]) s) :
    wpAny (model prog w) A (getMethod (.ref x) name pl) Q E s := by
  obtain ⟨od, J, hl⟩ := I.look
  exact PySem.W.method_fn X J (PySem.W.plainGet_of hg).1 (PySem.W.plainGet_of hg).2 hf (beq_iff_eq.mp ht) (by show (PySem.W.lookIn name od).map (·.isSome) = some false; rw [hl, hv]; rfl) h

theorem set_map {ns : List Str} {Q : Unit → Shared → Prop} (X : K.In s.heap) (I : ObjM s.heap x dx C mA)
    (hs : PySem.W.findIn K (.ref C) "__setattr__" = some (some (.builtin "object.__setattr__"))) (hp : PySem.W.plainOver K C = true) (ht : PySem.W.takerIn K C name = some none) (hh : PySem.W.hasDictIn K C = true)
    (hw : PySem.Within mA ns) (hsz : ns.length ≤ sizeLine)
    (h : ∀ h', ObjM h' x dx C (fun y => if y = name then some v else mA y) → Heap.SameBut dx s.heap h' → Q () { s with heap := h', toks := s.toks + 2 }) :
    wpAny (model prog w) A (setAttr (.ref x) name v) Q E s := by
  obtain ⟨od, J, hl⟩ := I.look
  refine PySem.W.set_plain X J hs (PySem.W.osa_open (s := { s with toks := s.toks + 1 }) (r := none) X J hp ht fun b => ?_)
  obtain ⟨cd, hc, hd'⟩ := PySem.W.any_some hh
  have hx : s.heap.get? x = some ⟨.ref C, some dx, .plain, #[]⟩ := I.obj
  refine wpAny_bind (wpAny_pure (wpAny_bind (wpAny_bind (wpAny_loadPart hx (wpAny_bind (PySem.W.Looks.here (s := { s with toks := s.toks + 1 }) (PySem.W.looks_clsIn X hc) ?_))))))
  rw [hd']
  refine wpAny_pure (a := some dx) (wpAny_bind (wpAny_pure (wpAny_bind ?_)))
  refine wpAny_nsSet1 (s := { s with toks := s.toks + 1 }) I.ns fun h' hn2 hs2 => ?_
  obtain ⟨oD, esD, epD, hoD, hdD, hcD⟩ := hn2.count (PySem.Within.cons name v hw)
  refine wpAny_bind (wpAny_lookBehind hoD (by rw [hdD]; exact pastItsLine_dict (Nat.le_trans hcD (by rw [List.length_cons]; omega))) ?_)
  exact wpAny_pure (h _ ⟨(hs2.2 _ (Ne.symm I.ne)).trans I.obj, hn2, I.ne⟩ hs2)

/-- C(..): the dict at the heap's end, the instance behind it; then its __init__ -/
theorem make_map {R : Result → Shared → Prop} {vs : List Value} {kw : List (Str × Value)} (X : K.In s.heap) (hm : PySem.W.makesIn K C = true)
    (hi : PySem.W.findIn K (.ref C) "__init__" = some (some (.ref f))) (hf : PySem.W.typeIn K (.ref f) = some (.type "function"))
    (h : codeAny (model prog w) (A.under (.builtin "type.__call__" ⟨.ref C :: vs, kw⟩)) (.call (.ref f) ⟨.ref (s.heap.objs.size + 1) :: vs, kw⟩) (PySem.W.InitBack (s.heap.objs.size + 1) R)
      { s with heap := (s.heap.push PySem.W.emptyDict).push (PySem.W.instObj C s.heap.objs.size) }) :
    codeAny (model prog w) A (.call (.ref C) ⟨vs, kw⟩) R s := by
  obtain ⟨hh, g, d, t, os⟩ := s
  exact PySem.W.make_core (PySem.W.makes_of X hm) (PySem.W.looks_findIn X hi) (fun self => PySem.W.bind_fn X self hf) (.inl rfl) h
end

/-! ### the attributes as a list of pairs -/
def putF (f : Str) (v : V) : List (Str × V) → List (Str × V)
  | [] => [(f, v)]
  | (g, x) :: r => if g = f then (g, v) :: r else (g, x) :: putF f v r
theorem lookup_putF (f g : Str) (v : V) : ∀ fs : List (Str × V), (putF f v fs).lookup g = if g = f then some v else fs.lookup g
  | [] => by
    show List.lookup g [(f, v)] = _
    by_cases h : g = f
    · have hb : (g == f) = true := beq_iff_eq.mpr h
      simp only [List.lookup, hb, if_pos h]
    · have hb : (g == f) = false := beq_eq_false_iff_ne.mpr h
      simp only [List.lookup, hb, if_neg h]
  | (k, x) :: r => by
    have ih := lookup_putF f g v r
    rw [show putF f v ((k, x) :: r) = (if k = f then (k, v) :: r else (k, x) :: putF f v r) from rfl]
    by_cases hk : k = f
    · rw [if_pos hk]
      by_cases h : g = k
      · have hb : (g == k) = true := beq_iff_eq.mpr h
        simp only [List.lookup, hb, if_pos (h.trans hk)]
      · have hb : (g == k) = false := beq_eq_false_iff_ne.mpr h
        simp only [List.lookup, hb, if_neg (fun e : g = f => h (e.trans hk.symm))]
    · rw [if_neg hk]
      by_cases h : g = k
      · have hb : (g == k) = true := beq_iff_eq.mpr h
        simp only [List.lookup, hb, if_neg (fun e : g = f => hk (h.symm.trans e))]
      · have hb : (g == k) = false := beq_eq_false_iff_ne.mpr h
        simp only [List.lookup, hb]
        exact ih
theorem keys_putF (f : Str) (v : V) : ∀ fs : List (Str × V), f ∈ (putF f v fs).map (·.1) ∧ ∀ g, g ∈ fs.map (·.1) → g ∈ (putF f v fs).map (·.1)
  | [] => ⟨by simp [putF], fun g h => by simp at h⟩
  | (k, x) :: r => by
    obtain ⟨i1, i2⟩ := keys_putF f v r
    rw [show putF f v ((k, x) :: r) = (if k = f then (k, v) :: r else (k, x) :: putF f v r) from rfl]
    by_cases hk : k = f
    · rw [if_pos hk]
      subst hk
      exact ⟨by simp, fun g h => by simpa using h⟩
    · rw [if_neg hk]
      refine ⟨?_, fun g h => ?_⟩
      · rw [List.map_cons]
        exact List.mem_cons_of_mem _ i1
      · rw [List.map_cons] at h ⊢
        rcases List.mem_cons.mp h with e | e
        · exact List.mem_cons.mpr (.inl e)
        · exact List.mem_cons_of_mem _ (i2 g e)
theorem length_putF (f : Str) (v : V) : ∀ fs : List (Str × V), (putF f v fs).length ≤ fs.length + 1
  | [] => by simp [putF]
  | (k, x) :: r => by
    have ih := length_putF f v r
    rw [show putF f v ((k, x) :: r) = (if k = f then (k, v) :: r else (k, x) :: putF f v r) from rfl]
    by_cases hk : k = f
    · rw [if_pos hk, List.length_cons, List.length_cons]; omega
    · rw [if_neg hk, List.length_cons, List.length_cons]; omega

theorem RelO.some_of {v : V} {o : Option Value} (r : RelO (some v) o) : ∃ u, o = some u ∧ RelV v u := by
  cases o with
  | none => exact (show False from r).elim
  | some u => exact ⟨u, rfl, r⟩
theorem RelO.none_of {o : Option Value} (r : RelO none o) : o = none := by
  cases o with
  | none => rfl
  | some u => exact (show False from r).elim
theorem handed_of {v : V} {u : Value} (r : RelV v u) : PySem.W.handedIn u = true := by
  cases v with
  | non => cases (show u = Value.none from r); rfl
  | bl b => cases (show u = Value.bool b from r); rfl
  | int i => obtain ⟨t, e⟩ := (show ∃ t, u = Value.int i t from r); cases e; rfl
  | str x => obtain ⟨t, e⟩ := (show ∃ t, u = Value.str x t from r); cases e; rfl
  | byt b => obtain ⟨t, e⟩ := (show ∃ t, u = Value.bytes b t from r); cases e; rfl
  | flt b => obtain ⟨t, e⟩ := (show ∃ t, u = Value.float b t from r); cases e; rfl
  | ref a => cases (show u = Value.ref a from r); rfl
  | ty n => cases (show u = Value.type n from r); rfl

section
variable {P : Program} {w : World} {H H' : Hp} {h h' : Heap} {a C dx : Addr} {fs fs' : List (Str × V)}
theorem ins_get (hok : HOk P w H h) (e : H a = some (.ins C dx fs)) : ∃ mA, ObjM h a dx C mA ∧ (∀ f, RelO (fs.lookup f) (mA f)) ∧ PySem.Within mA (fs.map (·.1)) ∧ fs.length ≤ 1000 ∧ H dx = some (.own a) := by
  obtain ⟨d, z, ne, ob, mA, n, r, q⟩ := (show ObjOk P w H h a (.ins C dx fs) from hok a _ e)
  exact ⟨mA, ⟨ob, n, ne⟩, r, q, z, d⟩
end

/-! ### what of the text a class must have -/
structure Cls (K : PySem.W.Frag) (C : Addr) : Prop where
  pg : PySem.W.plainGet K C Str.empty = true
  hd : PySem.W.hasDictIn K C = true
  po : PySem.W.plainOver K C = true
  sa : PySem.W.findIn K (.ref C) "__setattr__" = some (some (.builtin "object.__setattr__"))
theorem Cls.get {K : PySem.W.Frag} {C : Addr} (c : Cls K C) (f : Str) : PySem.W.plainGet K C f = true := c.pg
/-- no class of it has the name -/
def NoAttr (K : PySem.W.Frag) (C : Addr) (f : Str) : Prop := PySem.W.findIn K (.ref C) f = some none
theorem NoAttr.taker {K : PySem.W.Frag} {C : Addr} {f : Str} (n : NoAttr K C f) : PySem.W.takerIn K C f = some none := by
  unfold PySem.W.takerIn
  rw [show PySem.W.findIn K (.ref C) f = some none from n]
  rfl
/-- a method: a plain def of the class or of one above it -/
structure Meth (K : PySem.W.Frag) (C : Addr) (m : Str) (f : Addr) : Prop where
  at_ : PySem.W.findIn K (.ref C) m = some (some (.ref f))
  fn : PySem.W.isFn K (.ref f) = true
  kp : PySem.W.keepIn K (.ref f) = true

section
variable {X : Cx} {pins : List (Addr × Obj)} {σ : St} {H : Hp} {s : Shared} {a C dx : Addr} {fs : List (Str × V)} {f : Str} {v : V} {A : Around} {E : Value → Shared → Prop}

theorem getattr_ok {b : Bool} {Q : Value → Shared → Prop} (I : Inv X pins σ H s) (e : H a = some (.ins C dx fs)) (c : Cls X.K C) (n : NoAttr X.K C f) (l : fs.lookup f = some v)
    (h : ∀ u s', Inv X pins σ H s' → RelV v u → Q u s') : wpAny (model X.prog X.w) A (getAttr (.ref a) f b) Q E s := by
  obtain ⟨mA, O, r, _, _, _⟩ := ins_get I.hok e
  obtain ⟨u, hu, ru⟩ := RelO.some_of (v := v) (o := mA f) (by rw [← l]; exact r f)
  exact get_map I.kIn O (c.get f) c.hd n hu (handed_of ru) (h u _ (I.tok _) ru)

theorem getmeth_ok {m : Str} {g : Addr} {pl : Sem Bool} {Q : Value × List Value → Shared → Prop} (I : Inv X pins σ H s) (e : H a = some (.ins C dx fs)) (c : Cls X.K C) (k : Meth X.K C m g) (l : fs.lookup m = none)
    (h : Q (.ref g, [.ref a]) s) : wpAny (model X.prog X.w) A (getMethod (.ref a) m pl) Q E s := by
  obtain ⟨mA, O, r, _, _, _⟩ := ins_get I.hok e
  have hn : mA m = none := RelO.none_of (by rw [← l]; exact r m)
  exact get_meth I.kIn O (c.get m) k.at_ k.fn hn h

theorem setattr_ok {y : V} {u : Value} {Q : Unit → Shared → Prop} (I : Inv X pins σ H s) (e : H a = some (.ins C dx fs)) (c : Cls X.K C) (n : NoAttr X.K C f) (hl : fs.length < 1000) (ry : RelV y u)
    (h : ∀ s', Inv X pins σ (upd H a (.ins C dx (putF f y fs))) s' → Q () s') : wpAny (model X.prog X.w) A (setAttr (.ref a) f u) Q E s := by
  obtain ⟨mA, O, r, wi, _, ho⟩ := ins_get I.hok e
  have hz : (fs.map (·.1)).length ≤ sizeLine := by rw [List.length_map, sizeLine_eq]; omega
  refine set_map I.kIn O c.sa c.po n.taker c.hd wi hz fun h' O' sb => h _ ?_
  have hd : ∃ o, h'.get? dx = some o := let ⟨o, _, _, e', _⟩ := O'.ns; ⟨o, e'⟩
  refine I.write (x := a) (e := dx) (by rw [e]; exact True.intro) (.inr ho) (fun b q hb z => (sb.2 b hb).trans z) hd ?_
  refine ⟨by rw [upd_ne O.ne]; exact ho, ?_, O.ne, O'.obj, _, O'.ns, fun g => ?_, fun g hg => ?_⟩
  · have := length_putF f y fs; omega
  · show RelO ((putF f y fs).lookup g) (if g = f then some u else mA g)
    rw [lookup_putF]
    by_cases q : g = f
    · rw [if_pos q, if_pos q]; exact ry
    · rw [if_neg q, if_neg q]; exact r g
  · by_cases q : g = f
    · rw [q]; exact (keys_putF f y fs).1
    · refine (keys_putF f y fs).2 g (wi g fun z => hg ?_)
      show (if g = f then some u else mA g) = none
      rw [if_neg q]; exact z

/-- a new instance, tracked, without attributes -/
theorem Inv.made (I : Inv X pins σ H s) : Inv X pins σ (upd (upd H s.heap.objs.size (.own (s.heap.objs.size + 1))) (s.heap.objs.size + 1) (.ins C s.heap.objs.size []))
    { s with heap := (s.heap.push PySem.W.emptyDict).push (PySem.W.instObj C s.heap.objs.size) } := by
  have e1 : (s.heap.push PySem.W.emptyDict).get? s.heap.objs.size = some PySem.W.emptyDict := Heap.get?_push_size s.heap rfl
  have e2 : ((s.heap.push PySem.W.emptyDict).push (PySem.W.instObj C s.heap.objs.size)).get? (s.heap.objs.size + 1) = some (PySem.W.instObj C s.heap.objs.size) := by
    have := Heap.get?_push_size (s.heap.push PySem.W.emptyDict) (o := PySem.W.instObj C s.heap.objs.size) rfl
    rwa [Heap.size_push] at this
  have e3 : (s.heap.push PySem.W.emptyDict).Ns s.heap.objs.size (fun _ => none) := ⟨PySem.W.emptyDict, #[], _, e1, rfl, (fun e he => absurd he (by simp)), fun _ => rfl⟩
  have I1 := I.laid (a := s.heap.objs.size) (o := .own (s.heap.objs.size + 1)) (h' := s.heap.push PySem.W.emptyDict) (t' := s.toks) (fun b u q => Heap.get?_push_of_some _ q) (Nat.le_refl _) ⟨_, e1⟩
  refine I1.laid (a := s.heap.objs.size + 1) (o := .ins C s.heap.objs.size []) (t' := s.toks) (fun b u q => Heap.get?_push_of_some _ q) (Nat.le_of_eq (Heap.size_push _ _)) ?_
  have ne : s.heap.objs.size ≠ s.heap.objs.size + 1 := Nat.ne_of_lt (Nat.lt_succ_self _)
  refine ⟨by rw [upd_ne ne, upd_same], Nat.zero_le _, ne, e2, fun _ => none, (Heap.Ns1.of_empty e3).at fun o q => Heap.get?_push_of_some _ q, fun _ => True.intro, fun y hy => absurd rfl hy⟩

/-- e.f where nothing but the object is asked: through attributeBase (super) and the last hold -/
theorem attr_of {prog : Program} {w : World} {env : Env} {e : Expr} {f : Str} {pos : Pos} {s : Shared} {Q : Value → Shared → Prop} (hb : attributeBase e f env (eval e env) = eval e env)
    (h : wpAny (model prog w) A (eval e env) (fun o s₁ => wpAny (model prog w) A (getAttr o f true) Q E s₁) E s) : wpAny (model prog w) A (eval (.Attribute e f pos) env) Q E s :=
  Attribute_any_ h (by rw [arm_eval_Attribute, hb])
end

/-! ### readings and rules -/
/-- e.f, an attribute of the instance -/
def tFld (K : PySem.W.Frag) (ta : TE) (f : Str) : TE := fun σ H Q => ta σ H fun x H1 => ∃ a C dx fs v, x = .ref a ∧ H1 a = some (.ins C dx fs) ∧ Cls K C ∧ NoAttr K C f ∧ fs.lookup f = some v ∧ Q v H1
/-- e.f = value -/
def sFld (K : PySem.W.Frag) (ta tv : TE) (f : Str) : TS := fun D σ H => tv σ H fun y H1 => ta σ H1 fun x H2 => ∃ a C dx fs, x = .ref a ∧ H2 a = some (.ins C dx fs) ∧ Cls K C ∧ NoAttr K C f ∧ fs.length < 1000 ∧
  D.nx σ (upd H2 a (.ins C dx (putF f y fs)))
section
variable {X : Cx} {o e value : Expr} {f : Str} {pos pos' tpos : Pos} {ta tv : TE}
theorem pe_fld (he : PE X e ta) (hb : attributeBase e f X.env (eval e X.env) = eval e X.env) : PE X (.Attribute e f pos) (tFld X.K ta f) := by
  intro pins s σ H Q I h
  refine attr_of hb (thn (he pins s σ H _ I h) fun u s1 ⟨x, H1, I1, rx, a, C, dx, fs, v, ex, ea, c, n, l, q⟩ => ?_)
  subst ex
  obtain rfl : u = Value.ref a := rx
  exact getattr_ok I1 ea c n l fun u' s2 I2 ru => ⟨v, H1, I2, ru, q⟩
theorem ps_fld (ha : PE X o ta) (hv : PE X value tv) (hs : swapsWith value (some (.Attribute o f pos')) pos.line X.env = pure false) : PS X (.Assign [.Attribute o f pos'] value pos) (sFld X.K ta tv f) := by
  intro pins s σ H D I h
  refine plainObj_wpAny_Assign_Attribute (thn (hv pins s σ H _ I h) fun u s1 ⟨y, H1, I1, ry, q⟩ => thn (ha pins s1 σ H1 _ I1 q) fun ov s2 ⟨x, H2, I2, rx, a, C, dx, fs, ex, ea, c, n, l, q2⟩ => ?_) hs
  subst ex
  obtain rfl : ov = Value.ref a := rx
  exact setattr_ok I2 ea c n l ry fun s3 I3 => ⟨σ, _, I3, q2⟩
/-- what is between an instance and its method: the tree of a method call -/
theorem methcall_of {pl : Sem Bool} {m : Str} {apos : Pos} {args : List Expr} {pins : List (Addr × Obj)} {s : Shared} {σ : St} {H : Hp} {Q : Value → Shared → Prop} {te : TE} (he : PE X e te) (I : Inv X pins σ H s)
    (h : te σ H fun x H1 => ∃ a C dx fs g, x = .ref a ∧ H1 a = some (.ins C dx fs) ∧ Cls X.K C ∧ Meth X.K C m g ∧ fs.lookup m = none ∧
      ∀ s1, Inv X pins σ H1 s1 → wpAny (model X.prog X.w) X.A (callWith pos (.ref g) [.ref a] (backTo pos (starEach args X.env)) (backToKw pos (keywordEach [] X.env))) Q X.xe s1)
    (ht : eval (.Call (.Attribute e m apos) args [] pos) X.env = (do
      let ov ← eval e X.env
      standAt apos.atName
      let (f, first) ← holding [ov] (getMethod ov m pl)
      callWith pos f first (backTo pos (starEach args X.env)) (backToKw pos (keywordEach [] X.env)))) :
    wpAny (model X.prog X.w) X.A (eval (.Call (.Attribute e m apos) args [] pos) X.env) Q X.xe s := by
  refine PySem.W.methodCall_KW (pl := pl) (thn (he pins s σ H _ I h) fun u s1 ⟨x, H1, I1, rx, a, C, dx, fs, g, ex, ea, c, k, l, q⟩ => ?_) ht
  subst ex
  obtain rfl : u = Value.ref a := rx
  exact getmeth_ok I1 ea c k l (q s1 I1)
end

/-! ### isinstance -/
section
variable {X : Cx} {pins : List (Addr × Obj)} {σ : St} {H : Hp} {s : Shared} {A : Around} {E : Value → Shared → Prop} {Q : Value → Shared → Prop} {c : Value} {b : Bool}
/-- the type of a value, as the fragment's deciders take it; for an instance its class -/
inductive TyOf (K : PySem.W.Frag) (H : Hp) : V → Value → Prop where
  | non : TyOf K H .non (.type "NoneType")
  | bl (x : Bool) : TyOf K H (.bl x) (.type "bool")
  | int (i : Int) : TyOf K H (.int i) (.type "int")
  | str (x : Str) : TyOf K H (.str x) (.type "str")
  | flt (x : UInt64) : TyOf K H (.flt x) (.type "float")
  | lst {a : Addr} {xs : List V} (e : H a = some (.lst xs)) : TyOf K H (.ref a) (.type "list")
  | frz {a : Addr} {o : Obj} {xs : List V} (e : H a = some (.frz o (.lst xs))) : TyOf K H (.ref a) (.type "list")
  | tup {a : Addr} {xs : List V} (e : H a = some (.tup xs)) : TyOf K H (.ref a) (.type "tuple")
  | dK {a : Addr} {kvs : List (Key × V)} (e : H a = some (.dK kvs)) : TyOf K H (.ref a) (.type "dict")
  | dT {a : Addr} {kvs : List (List Key × V)} (e : H a = some (.dT kvs)) : TyOf K H (.ref a) (.type "dict")
  | ins {a C dx : Addr} {fs : List (Str × V)} (e : H a = some (.ins C dx fs)) (cl : Cls K C) (ha : PySem.W.findIn K (.ref C) "__class__" = some (some (.builtin "object.__class__")))
      (hn : PySem.W.specialIn K (.builtin "object.__class__") "__get__" = some (some (.builtin "getset_descriptor.__get__"))) (htk : PySem.W.takesIn K (.builtin "object.__class__") = some true)
      (hm : PySem.W.mroIn K C (.type "object") = some true) : TyOf K H (.ref a) (.ref C)
/-- isinstance(x, c) for one class c, a built-in or an own one: kitOne's answer -/
theorem isinst_ok {x : V} {u t : Value} (I : Inv X pins σ H s) (rx : RelV x u) (ty : TyOf X.K H x t) (e : PySem.W.kitOne X.K t c = some b) (h : ∀ tk, Q (.bool b) { s with toks := tk }) :
    wpAny (model X.prog X.w) A (call (.builtin "isinstance") [u, c]) Q E s := by
  cases ty with
  | non => cases (show u = Value.none from rx); exact PySem.W.kia_one PySem.W.kitx_none I.kIn True.intro e (fun z => nomatch z) h
  | bl y => cases (show u = Value.bool y from rx); exact PySem.W.kia_one PySem.W.kitx_bool I.kIn True.intro e (fun z => nomatch z) h
  | int i => obtain ⟨t, q⟩ := (show ∃ t, u = Value.int i t from rx); cases q; exact PySem.W.kia_one PySem.W.kitx_int I.kIn True.intro e (fun z => nomatch z) h
  | str y => obtain ⟨t, q⟩ := (show ∃ t, u = Value.str y t from rx); cases q; exact PySem.W.kia_one PySem.W.kitx_str I.kIn True.intro e (fun z => nomatch z) h
  | flt y => obtain ⟨t, q⟩ := (show ∃ t, u = Value.float y t from rx); cases q; exact PySem.W.kia_one PySem.W.kitx_float I.kIn True.intro e (fun z => nomatch z) h
  | @lst a xs ea =>
    cases (show u = Value.ref a from rx)
    obtain ⟨_, _, n, _, h1⟩ := (show ObjOk X.prog X.w H s.heap a (.lst xs) from I.hok a _ ea)
    exact PySem.W.kia_one PySem.W.kitx_list I.kIn ⟨_, h1, rfl⟩ e (fun z => nomatch z) h
  | @frz a ob xs ea =>
    cases (show u = Value.ref a from rx)
    obtain ⟨_, _, _, n, _, h1⟩ := (show ObjOk X.prog X.w H s.heap a (.frz ob (.lst xs)) from I.hok a _ ea)
    exact PySem.W.kia_one PySem.W.kitx_list I.kIn ⟨_, h1, rfl⟩ e (fun z => nomatch z) h
  | @tup a xs ea =>
    cases (show u = Value.ref a from rx)
    obtain ⟨_, _, _, p⟩ := (show ObjOk X.prog X.w H s.heap a (.tup xs) from I.hok a _ ea)
    obtain ⟨o, h1, h2, _⟩ := p
    exact PySem.W.kia_one PySem.W.kitx_tuple I.kIn ⟨o, h1, h2⟩ e (fun z => nomatch z) h
  | @dK a kvs ea =>
    cases (show u = Value.ref a from rx)
    obtain ⟨_, _, vs, _, p⟩ := (show ObjOk X.prog X.w H s.heap a (.dK kvs) from I.hok a _ ea)
    obtain ⟨o, es, ep, h1, h2, _⟩ := p
    exact PySem.W.kia_one PySem.W.kitx_dict I.kIn ⟨o, h1, h2.1⟩ e (fun z => nomatch z) h
  | @dT a kvs ea =>
    cases (show u = Value.ref a from rx)
    obtain ⟨_, _, xs, _, o, es, ep, h1, h2, _⟩ := (show ObjOk X.prog X.w H s.heap a (.dT kvs) from I.hok a _ ea)
    exact PySem.W.kia_one PySem.W.kitx_dict I.kIn ⟨o, h1, h2.1⟩ e (fun z => nomatch z) h
  | @ins a C dx fs ea cl ha hn htk hm =>
    cases (show u = Value.ref a from rx)
    obtain ⟨mA, O, _⟩ := ins_get I.hok ea
    obtain ⟨od, J, _⟩ := O.look
    exact PySem.W.kia_one (PySem.W.kitx_own (cl.get _) cl.hd ha hn htk hm) I.kIn J e (fun z => nomatch z) h
end
end L2

namespace L2
open PySem PySem.Spec PyProof.Rows

/-! ### room -/
structure Room (k : Nat) (A : Around) : Prop where
  hd : A.handled = none
  dp : A.depth + 3 * k + 5 < recursionLimit
  un : A.units + 16 * k + 200 < cLine
theorem Room.mono {j k : Nat} {A : Around} (r : Room k A) (h : j ≤ k) : Room j A := ⟨r.hd, by have := r.dp; omega, by have := r.un; omega⟩
theorem Room.deeper {k : Nat} {A : Around} (r : Room (k + 1) A) (env : Env) : Room k (A.deeper env) :=
  ⟨r.hd, by have := r.dp; show A.depth + 1 + 3 * k + 5 < _; omega, by have := r.un; show A.units + 3 + 16 * k + 200 < _; omega⟩
theorem Room.in1 {k : Nat} {A : Around} (r : Room (k + 1) A) : Room k A.in1 :=
  ⟨r.hd, by have := r.dp; show A.depth + 3 * k + 5 < _; omega, by have := r.un; show A.units + 1 + 16 * k + 200 < _; omega⟩
theorem make_depth {A : Around} {C : Addr} {us : List Value} {kw : List (Str × Value)} : (A.under (.builtin "type.__call__" ⟨.ref C :: us, kw⟩)).depth = A.depth + 1 := by
  first | rfl | simp [Around.under, Code.weight, Code.isCreation, Code.isGuard, Code.isCaller, Code.frames, Code.isFrame, guardIds]
theorem make_units {A : Around} {C : Addr} {us : List Value} {kw : List (Str × Value)} : (A.under (.builtin "type.__call__" ⟨.ref C :: us, kw⟩)).units = A.units + 1 := by
  first | rfl | simp [Around.under, Code.cUnits, Code.frames, Code.isFrame]
theorem Room.make {k : Nat} {A : Around} (r : Room (k + 1) A) (C : Addr) (us : List Value) (kw : List (Str × Value)) : Room k (A.under (.builtin "type.__call__" ⟨.ref C :: us, kw⟩)) :=
  ⟨r.hd, by have := r.dp; rw [make_depth]; omega, by have := r.un; rw [make_units]; omega⟩
theorem Room.depth {k : Nat} {A : Around} (r : Room k A) : A.depth < recursionLimit := by have := r.dp; omega
theorem Room.units {k : Nat} {A : Around} (r : Room k A) : A.units + 64 < cLine := by have := r.un; omega
/-! ### argument lists and displays -/
def tNil : TA := fun _ H Q => Q [] H
def tCons (ta : TE) (tr : TA) : TA := fun σ H Q => ta σ H fun x H1 => tr σ H1 fun xs H2 => Q (x :: xs) H2
section
variable {X : Cx} {e : Expr} {es : List Expr} {te : TE} {t : TA} {pos : Pos}
theorem pa_nil : PA X [] tNil := fun _ _ _ _ H Q I h => Calls.spliced_nil ⟨[], H, I, .nil, h⟩
theorem pa_cons (ha : PE X e te) (hr : PA X es t) (hs : starEach (e :: es) X.env = (false, eval e X.env) :: starEach es X.env := by rfl) : PA X (e :: es) (tCons te t) := by
  intro pos pins s σ H Q I h
  rw [hs]
  show wpAny _ _ (spliced ((false, eval e X.env) :: backTo pos (starEach es X.env))) _ _ s
  refine Calls.spliced_cons (thn (ha pins s σ H _ I h) fun u s1 ⟨x, H1, I1, r1, q1⟩ => ?_)
  exact thn (hr pos pins s1 σ H1 _ I1 q1) fun us s2 ⟨xs, H2, I2, r2, q2⟩ => ⟨x :: xs, H2, I2, .cons r1 r2, q2⟩

def tLst (t : TA) : TE := fun σ H Q => t σ H fun xs H1 => xs.length ≤ sizeLine ∧ ∀ p, H1 p = none → Q (.ref p) (upd H1 p (.lst xs))
theorem pe_lst (h : PA X es t) : PE X (.List es pos) (tLst t) := by
  intro pins s σ H Q I hq
  refine wpAny_List_spliced (thn (h pos pins s σ H _ I hq) fun us s1 ⟨xs, H1, I1, r, z, q⟩ => ⟨by rw [← r.length]; exact z, ?_⟩)
  have hf : H1 s1.heap.objs.size = none := I1.hok.fresh (Nat.le_refl _)
  refine ⟨.ref s1.heap.objs.size, upd H1 s1.heap.objs.size (.lst xs), I1.laid (t' := s1.toks) (fun b u e => Heap.get?_push_of_some _ e) (Nat.le_refl _) ?_, rfl, q _ hf⟩
  exact ⟨z, us, 0, r, Heap.get?_push_size _ rfl⟩
end

/-! ### what a def promises -/
/-- a def's promise: the bound arguments in the parameters' order, the heap, the wanted end, the wanted exception -/
abbrev Sp := List V → Hp → VK → XK → Prop
/-- how an exception lies behind a call (file 08 gives it): the callers' frames, abstract heap and state ahead of the call, the wish, the exception, the state -/
abbrev CXT := List Env → Hp → Shared → XK → Value → Shared → Prop

/-- the state at a call -/
structure Env0 (P : Program) (w : World) (K : PySem.W.Frag) (mg : Str → Option Value) (base : Heap) (A : Around) (outer : List Env) (s : Shared) (H : Hp) : Prop where
  frames : A.frames = some outer
  mod : Mod K mg base
  bs : ∀ b o, base.get? b = some o → s.heap.get? b = some o ∧ H b = none
  bsz : base.objs.size ≤ s.heap.objs.size
  funs : s.heap.FunFrames base outer
  frf : ∀ b ∈ frs outer, H b = none
  hok : HOk P w H s.heap
  bare : AllBare s.gens
/-- a call's end -/
def CE (outer : List Env) (P : Program) (w : World) (H : Hp) (s : Shared) (Q : VK) (u : Value) (s' : Shared) : Prop :=
  ∃ v H', s'.os = s.os ∧ AllBare s'.gens ∧ Un (frs outer) [] H H' s.heap s'.heap ∧ HOk P w H' s'.heap ∧ RelV v u ∧ Q v H'
def CR (CX : CXT) (outer : List Env) (P : Program) (w : World) (H : Hp) (s : Shared) (Q : VK) (E : XK) (r : Result) (s' : Shared) : Prop :=
  match r with
  | .ok (.ret u) => CE outer P w H s Q u s'
  | .ok _ => False
  | .error e => CX outer H s E e s'
structure FnOk (P : Program) (w : World) (K : PySem.W.Frag) (mg : Str → Option Value) (base : Heap) (CX : CXT) (k : Nat) (f : Addr) (fd : FuncData) (ps : List Str) (sp : Sp) : Prop where
  len : ∀ vs H Q E, sp vs H Q E → vs.length = ps.length
  run : ∀ (A : Around) (outer : List Env) (s : Shared) (H : Hp) (args : Args) (us : List Value) (vs : List V) (Q : VK) (E : XK), Room k A → Env0 P w K mg base A outer s H → BindsTo s fd args (ps.zip us) → Vals vs us → sp vs H Q E →
    codeAny (model P w) A (.call (.ref f) args) (CR CX outer P w H s Q E) s
theorem Env0.make {P : Program} {w : World} {K : PySem.W.Frag} {mg : Str → Option Value} {base : Heap} {A : Around} {outer : List Env} {s : Shared} {H : Hp} (e : Env0 P w K mg base A outer s H) (C : Addr) (us : List Value) (kw : List (Str × Value)) :
    Env0 P w K mg base (A.under (.builtin "type.__call__" ⟨.ref C :: us, kw⟩)) outer s H := ⟨by first | exact e.frames | (simpa [Around.under, Code.envs, Code.isFrame, pushEnvs] using e.frames), e.mod, e.bs, e.bsz, e.funs, e.frf, e.hok, e.bare⟩
theorem Env0.in1 {P : Program} {w : World} {K : PySem.W.Frag} {mg : Str → Option Value} {base : Heap} {A : Around} {outer : List Env} {s : Shared} {H : Hp} (e : Env0 P w K mg base A outer s H) :
    Env0 P w K mg base A.in1 outer s H := ⟨e.frames, e.mod, e.bs, e.bsz, e.funs, e.frf, e.hok, e.bare⟩

section
variable {X : Cx} {pins : List (Addr × Obj)} {σ : St} {H : Hp} {s s' : Shared}
/-- from a body: what a callee wants -/
theorem Inv.env0 (I : Inv X pins σ H s) : Env0 X.prog X.w X.K X.mg X.base X.A X.stack s H :=
  ⟨I.ok.frames, I.ok.mod, I.bs, Nat.le_trans I.ok.bsz I.sz, I.stack, I.stkFree, I.hok, I.bare⟩
/-- behind a call -/
theorem Inv.after {Q : VK} {u : Value} (I : Inv X pins σ H s) (h : CE X.stack X.prog X.w H s Q u s') : EP X pins σ Q u s' := by
  obtain ⟨v, H', os, bare, un, hok, r, q⟩ := h
  obtain ⟨hh, g, d, t, os'⟩ := s'
  obtain rfl : os' = s.os := os
  exact ⟨v, H', I.call (h' := hh) (g' := g) (d' := d) (t' := t) (ch := []) un hok bare (fun b z => absurd z (by simp)), r, q⟩
end

/-! ### calls -/
/-- f(..): the written arguments, then the defaults dvs; E: what is wanted of an exception -/
def tCall (sp : Sp) (dvs : List V) (E : XK) (t : TA) : TE := fun σ H Q => t σ H fun vs H1 => sp (vs ++ dvs) H1 Q E
/-- o.m(..) of an instance of the class at C -/
def tMeth (C : Addr) (m : Str) (sp : Sp) (dvs : List V) (E : XK) (ta : TE) (t : TA) : TE := fun σ H Q => ta σ H fun x H1 => ∃ a dx fs, x = .ref a ∧ H1 a = some (.ins C dx fs) ∧ fs.lookup m = none ∧
  t σ H1 fun vs H2 => sp (x :: (vs ++ dvs)) H2 Q E
/-- C(..): a new instance and its dict, then __init__ -/
def tMake (C : Addr) (sp : Sp) (dvs : List V) (E : XK) (t : TA) : TE := fun σ H Q => t σ H fun vs H1 => ∀ x dx, H1 x = none → H1 dx = none → dx ≠ x →
  sp (.ref x :: (vs ++ dvs)) (upd (upd H1 dx (.own x)) x (.ins C dx [])) (fun v H2 => v = .non ∧ Q (.ref x) H2) E

/-- how the parameters are bound: us the positional arguments, kw the keywords' values by name, ds the defaults that fill up -/
def Binds (K : PySem.W.Frag) (fd : FuncData) (ps : List Str) (ds : List Value) : Prop :=
  ∀ (s : Shared) (us : List Value), K.In s.heap → (us ++ ds).length = ps.length → BindsTo s fd ⟨us, []⟩ (ps.zip (us ++ ds))
/-- every parameter is given -/
theorem Binds.all {K : PySem.W.Frag} {fd : FuncData} {ps : List Str} (h : ∀ us : List Value, us.length = ps.length → bindArgs fd ⟨us, []⟩ = pure (ps.zip us)) : Binds K fd ps [] := fun s us _ hl => by
  rw [List.append_nil] at hl ⊢
  exact .of_eq (h us hl)

/-- an exception of a callee reaches what this body wants of exceptions -/
def Passes (CX : CXT) (X : Cx) (E : XK) : Prop := ∀ (pins : List (Addr × Obj)) (σ : St) (H : Hp) (s : Shared) (e : Value) (s' : Shared), Inv X pins σ H s → CX X.stack H s E e s' → X.xe e s'

section
variable {X : Cx} {CX : CXT} {k : Nat} {f C : Addr} {fd : FuncData} {ps : List Str} {sp : Sp} {dvs : List V} {ds : List Value} {E : XK} {x m : Str} {p pos apos : Pos} {e o : Expr} {es : List Expr} {ta : TE} {t : TA}

/-- the callee runs -/
theorem run_fn {pins : List (Addr × Obj)} {σ : St} {H : Hp} {s : Shared} {Q : VK} {us : List Value} {vs : List V} (F : FnOk X.prog X.w X.K X.mg X.base CX k f fd ps sp) (hr : Room k X.A) (hb : Binds X.K fd ps ds) (hd : Vals dvs ds) (hx : Passes CX X E)
    (I : Inv X pins σ H s) (r : Vals vs us) (h : sp (vs ++ dvs) H Q E) : wpAny (model X.prog X.w) X.A (call (.ref f) us) (EP X pins σ Q) X.xe s := by
  have r2 : Vals (vs ++ dvs) (us ++ ds) := r.append hd
  have hl : (us ++ ds).length = ps.length := by rw [← r2.length]; exact F.len _ _ _ _ h
  refine wpAny_call (codeAny_mono (F.run X.A X.stack s H ⟨us, []⟩ (us ++ ds) (vs ++ dvs) Q E hr I.env0 (hb s us I.kIn hl) r2 h) fun r s' hq => ?_)
  cases r with
  | error e => exact hx pins σ H s e s' I hq
  | ok fl =>
    cases fl with
    | ret u => exact I.after hq
    | next => exact False.elim hq
    | brk => exact False.elim hq
    | cont => exact False.elim hq

theorem pe_call (F : FnOk X.prog X.w X.K X.mg X.base CX k f fd ps sp) (hr : Room k X.A) (hg : Gl X x) (hm : X.mg x = some (.ref f)) (hk : PySem.W.keepIn X.K (.ref f) = true) (hb : Binds X.K fd ps ds) (hd : Vals dvs ds) (hx : Passes CX X E)
    (ha : PA X (e :: es) t) (hdb : (x == ("__debug__" : Str)) = false := by decide) (he : starEach (e :: es) X.env = (false, eval e X.env) :: starEach es X.env := by rfl) (hpl : (backTo pos (starEach es X.env)).any (·.1) = false := by rfl) :
    PE X (.Call (.Name x p) (e :: es) [] pos) (tCall sp dvs E t) := by
  intro pins s σ H Q I h
  refine wpAny_Call_Name_kw (ld_glob I hg hm ?_ hdb)
  refine PySem.W.callWith_K (h₀ := X.base) I.ok.mod.kin hk (thn (ha pos pins s σ H _ I h) fun us s1 ⟨vs, H1, I1, r, q⟩ => ⟨I1.kIn, ?_⟩) he hpl
  exact run_fn F hr hb hd hx I1 r q
/-- o.m(e, ..) -/
theorem pe_meth {pl : Sem Bool} (he : PE X o ta) (c : Cls X.K C) (hm : Meth X.K C m f) (F : FnOk X.prog X.w X.K X.mg X.base CX k f fd ps sp) (hr : Room k X.A) (hb : Binds X.K fd ps ds) (hd : Vals dvs ds) (hx : Passes CX X E) (ha : PA X (e :: es) t)
    (hst : starEach (e :: es) X.env = (false, eval e X.env) :: starEach es X.env := by rfl) (hpl : (backTo pos (starEach es X.env)).any (·.1) = false := by rfl)
    (ht : eval (.Call (.Attribute o m apos) (e :: es) [] pos) X.env = (do
      let ov ← eval o X.env
      standAt apos.atName
      let (f, first) ← holding [ov] (getMethod ov m pl)
      callWith pos f first (backTo pos (starEach (e :: es) X.env)) (backToKw pos (keywordEach [] X.env))) := by rfl) :
    PE X (.Call (.Attribute o m apos) (e :: es) [] pos) (tMeth C m sp dvs E ta t) := by
  intro pins s σ H Q I h
  refine PySem.W.methodCall_KW (pl := pl) (thn (he pins s σ H _ I h) fun u s1 ⟨x, H1, I1, rx, a, dx, fs, ex, ea, l, q⟩ => ?_) ht
  subst ex
  obtain rfl : u = Value.ref a := rx
  refine getmeth_ok I1 ea c hm l ?_
  refine PySem.W.callWith_K (first := [.ref a]) (h₀ := X.base) I.ok.mod.kin hm.kp (thn (ha pos pins s1 σ H1 _ I1 q) fun us s2 ⟨vs, H2, I2, r, q2⟩ => ⟨I2.kIn, ?_⟩) hst hpl
  exact run_fn (us := .ref a :: us) (vs := .ref a :: vs) F hr hb hd hx I2 (.cons rfl r) q2
/-- what a class must have to be made -/
structure Mk (K : PySem.W.Frag) (C f : Addr) : Prop where
  makes : PySem.W.makesIn K C = true
  init : PySem.W.findIn K (.ref C) "__init__" = some (some (.ref f))
  fn : PySem.W.isFn K (.ref f) = true
  kp : PySem.W.keepIn K (.ref C) = true

theorem run_make {pins : List (Addr × Obj)} {σ : St} {H : Hp} {s : Shared} {Q : VK} {us : List Value} {vs : List V} (M : Mk X.K C f) (F : FnOk X.prog X.w X.K X.mg X.base CX k f fd ps sp) (hr : Room (k + 1) X.A) (hb : Binds X.K fd ps ds) (hd : Vals dvs ds)
    (hx : Passes CX X E) (I : Inv X pins σ H s) (r : Vals vs us)
    (h : ∀ x dx, H x = none → H dx = none → dx ≠ x → sp (.ref x :: (vs ++ dvs)) (upd (upd H dx (.own x)) x (.ins C dx [])) (fun v H2 => v = .non ∧ Q (.ref x) H2) E) :
    wpAny (model X.prog X.w) X.A (call (.ref C) us) (EP X pins σ Q) X.xe s := by
  have hq := h (s.heap.objs.size + 1) s.heap.objs.size (I.hok.fresh (Nat.le_succ _)) (I.hok.fresh (Nat.le_refl _)) (Nat.ne_of_lt (Nat.lt_succ_self _))
  have I2 := Inv.made (C := C) I
  have r2 : Vals (V.ref (s.heap.objs.size + 1) :: (vs ++ dvs)) (Value.ref (s.heap.objs.size + 1) :: (us ++ ds)) := .cons rfl (r.append hd)
  have hl : (Value.ref (s.heap.objs.size + 1) :: us ++ ds).length = ps.length := by
    have e := r2.length
    rw [F.len _ _ _ _ hq] at e
    exact e.symm
  refine wpAny_call (make_map (f := f) I.kIn M.makes M.init (beq_iff_eq.mp M.fn) (codeAny_mono (F.run _ X.stack _ _ ⟨Value.ref (s.heap.objs.size + 1) :: us, []⟩ (Value.ref (s.heap.objs.size + 1) :: (us ++ ds)) _ _ E (hr.make C us [])
    (I2.env0.make C us []) (hb _ (Value.ref (s.heap.objs.size + 1) :: us) I2.kIn hl) r2 hq) fun r s' hq' => ?_))
  cases r with
  | error e => exact hx pins σ _ _ e s' I2 hq'
  | ok fl =>
    cases fl with
    | ret u =>
      obtain ⟨v, H', I3, rv, ev, q3⟩ := I2.after hq'
      subst ev
      exact ⟨rv, ⟨V.ref (s.heap.objs.size + 1), H', I3, rfl, q3⟩⟩
    | next => exact False.elim hq'
    | brk => exact False.elim hq'
    | cont => exact False.elim hq'
theorem pe_make (M : Mk X.K C f) (F : FnOk X.prog X.w X.K X.mg X.base CX k f fd ps sp) (hr : Room (k + 1) X.A) (hg : Gl X x) (hm : X.mg x = some (.ref C)) (hb : Binds X.K fd ps ds) (hd : Vals dvs ds) (hx : Passes CX X E)
    (ha : PA X (e :: es) t) (hdb : (x == ("__debug__" : Str)) = false := by decide) (he : starEach (e :: es) X.env = (false, eval e X.env) :: starEach es X.env := by rfl) (hpl : (backTo pos (starEach es X.env)).any (·.1) = false := by rfl) :
    PE X (.Call (.Name x p) (e :: es) [] pos) (tMake C sp dvs E t) := by
  intro pins s σ H Q I h
  refine wpAny_Call_Name_kw (ld_glob I hg hm ?_ hdb)
  refine PySem.W.callWith_K (h₀ := X.base) I.ok.mod.kin M.kp (thn (ha pos pins s σ H _ I h) fun us s1 ⟨vs, H1, I1, r, q⟩ => ⟨I1.kIn, ?_⟩) he hpl
  exact run_make M F hr hb hd hx I1 r q
end

section
variable {X : Cx} {CX : CXT} {k : Nat} {f C : Addr} {fd : FuncData} {ps ks : List Str} {sp : Sp} {E : XK} {x m : Str} {p pos apos kpos : Pos} {e o : Expr} {es : List Expr} {kws : List Keyword} {te ta : TE} {t tk : TA} {nm : Option Str}
variable {g : List Value → List Value → List Value} {gV : List V → List V → List V}
end

/-! ### a def's body keeps its promise -/
/-- names: the parameters first -/
structure FnScope (N P : List Str) (sc : Scope) : Prop where
  kind : sc.kind = .function
  co : sc.isCoroutine = false
  gen : sc.isGenerator = false
  nd : N.Nodup
  pre : N.take P.length = P
  par : ∀ x ∈ P, sc.names.lookup x = some .local ∨ sc.names.lookup x = some .cell
  nofree : ∀ y ∈ sc.names, y.2 ≠ .free

theorem bindL_out {kindOf : Str → Option NameKind} {x : Str} : ∀ {binds : List (Str × Value)} {m : Str → Option Value}, (∀ v, (x, v) ∉ binds) → bindL kindOf binds m x = m x
  | [], _, _ => rfl
  | (n, v) :: r, m, h => by
    unfold bindL
    rw [bindL_out fun w hw => h w (List.mem_cons_of_mem _ hw)]
    split
    · have : x ≠ n := by rintro rfl; exact h v List.mem_cons_self
      simp [this]
    · rfl
theorem bindC_out {kindOf : Str → Option NameKind} {x : Str} : ∀ {binds : List (Str × Value)} {m : Str → Option Value}, (∀ v, (x, v) ∉ binds) → bindC kindOf binds m x = m x
  | [], _, _ => rfl
  | (n, v) :: r, m, h => by
    unfold bindC
    rw [bindC_out fun w hw => h w (List.mem_cons_of_mem _ hw)]
    split
    · rfl
    · have : x ≠ n := by rintro rfl; exact h v List.mem_cons_self
      simp [this]
theorem bindL_get {kindOf : Str → Option NameKind} {x : Str} {v : Value} : ∀ {P : List Str} {vs : List Value} {i : Nat} {m : Str → Option Value}, P.Nodup → P[i]? = some x → vs[i]? = some v → kindOf x = some .local →
    bindL kindOf (P.zip vs) m x = some v
  | [], _, _, _, _, h, _, _ => by simp at h
  | _ :: _, [], _, _, _, _, h, _ => by simp at h
  | p :: P, w :: vs, 0, m, nd, h1, h2, hk => by
    simp at h1 h2; subst h1; subst h2
    show bindL kindOf ((p, w) :: P.zip vs) m p = _
    unfold bindL
    rw [bindL_out fun v hv => (List.nodup_cons.mp nd).1 (List.of_mem_zip hv).1, if_pos hk]
    simp
  | p :: P, w :: vs, i + 1, m, nd, h1, h2, hk => by
    show bindL kindOf ((p, w) :: P.zip vs) m x = _
    unfold bindL
    exact bindL_get (i := i) (List.nodup_cons.mp nd).2 (by simpa using h1) (by simpa using h2) hk
theorem bindC_get {kindOf : Str → Option NameKind} {x : Str} {v : Value} : ∀ {P : List Str} {vs : List Value} {i : Nat} {m : Str → Option Value}, P.Nodup → P[i]? = some x → vs[i]? = some v → kindOf x ≠ some .local →
    bindC kindOf (P.zip vs) m x = some v
  | [], _, _, _, _, h, _, _ => by simp at h
  | _ :: _, [], _, _, _, _, h, _ => by simp at h
  | p :: P, w :: vs, 0, m, nd, h1, h2, hk => by
    simp at h1 h2; subst h1; subst h2
    show bindC kindOf ((p, w) :: P.zip vs) m p = _
    unfold bindC
    rw [bindC_out fun v hv => (List.nodup_cons.mp nd).1 (List.of_mem_zip hv).1, if_neg hk]
    simp
  | p :: P, w :: vs, i + 1, m, nd, h1, h2, hk => by
    show bindC kindOf ((p, w) :: P.zip vs) m x = _
    unfold bindC
    exact bindC_get (i := i) (List.nodup_cons.mp nd).2 (by simpa using h1) (by simpa using h2) hk

/-- the names' values at the entry -/
def start (N : List Str) (vs : List V) : St := vs.map some ++ List.replicate (N.length - vs.length) none

/-- the context of a def's body, at its entry; an exception leaves the frame, then lies as CX says -/
def cxOf (CX : CXT) (P : Program) (w : World) (K : PySem.W.Frag) (mg : Str → Option Value) (base : Heap) (N : List Str) (qual : Str) (scope : Scope) (f : Addr) (cd : Value) (A : Around) (outer : List Env) (s : Shared) (H : Hp) (E : XK) : Cx where
  prog := P
  w := w
  K := K
  mg := mg
  base := base
  A := A.deeper (envOfC qual scope s.heap.objs.size f cd)
  N := N
  s₀ := s
  H₀ := H
  env := envOfC qual scope s.heap.objs.size f cd
  outer := outer
  stack := envOfC qual scope s.heap.objs.size f cd :: outer
  ex := []
  calm := true
  fn := fun _ => true
  pn := []
  xe := fun e s' => wpAny (model P w) (A.deeper (envOfC qual scope s.heap.objs.size f cd)) (leaving (envOfC qual scope s.heap.objs.size f cd) e) (fun _ s'' => CX outer H s E e s'') (fun e' s'' => CX outer H s E e' s'') s'

theorem cell_has {sc : Scope} {n : Nat} {x : Str} (h : sc.names.lookup x = some .cell) : ∃ c, (cellsFrom n sc.names []).lookup x = some c := by
  have q := PySem.W.cellsFrom_some sc.names n [] (.inl h)
  exact Option.isSome_iff_exists.mp q

theorem inv_start {CX : CXT} {P : Program} {w : World} {K : PySem.W.Frag} {mg : Str → Option Value} {base : Heap} {N ps : List Str} {qual : Str} {scope : Scope} {f : Addr} {cd : Value} {A : Around} {outer : List Env} {s s1 : Shared} {H : Hp} {E : XK} {us : List Value} {vs : List V}
    (S : FnScope N ps scope) (hd : A.handled = none) (e0 : Env0 P w K mg base A outer s H) (hl : vs.length = ps.length) (r : Vals vs us)
    (x : InCallC s s.heap.objs.size (bindL (envOfC qual scope s.heap.objs.size f cd).kindOf (ps.zip us) fun _ => none) (cellsFrom (s.heap.objs.size + 1) scope.names []) (bindC (envOfC qual scope s.heap.objs.size f cd).kindOf (ps.zip us) fun _ => none) s1) :
    Inv (cxOf CX P w K mg base N qual scope f cd A outer s H E) [] (start N vs) H s1 := by
  have hpl : ps.length ≤ N.length := by have := congrArg List.length S.pre; rw [List.length_take] at this; omega
  obtain ⟨h1, tk, rfl, hk⟩ := x.done
  have noA : ∀ b : Addr, b ∉ (cxOf CX P w K mg base N qual scope f cd A outer s H E).ex := fun b z => absurd (show b ∈ ([] : List Addr) from z) (by simp)
  refine ⟨⟨e0.mod, S.kind, rfl, rfl, Nat.le_refl _, fun y z c h1 h2 => ?_, fun y hy => ?_, fun y c _ h => ?_, fun _ => hd, Around.frames_deeper e0.frames, .inr ⟨rfl, rfl⟩, fun b z => absurd z (noA b), e0.bs, e0.bsz, fun b _ _ => noA b, fun b z => absurd z (noA b), e0.funs, e0.frf⟩,
    rfl, e0.bare, Un.kept hk, ⟨_, x.toInCall.ns, fun i y v h1 h2 h3 => ?_⟩, fun y c h => ⟨_, x.cell y c h⟩, e0.hok.fresh (Nat.le_refl _), fun y c h => ?_, fun p hp => absurd (show p ∈ ([] : List (Addr × Obj)) from hp) (by simp), e0.hok.kept hk, ?_⟩
  · exact name_of_addr x.apart (PySem.mem_of_lookup h1) (PySem.mem_of_lookup h2)
  · have hy : scope.names.lookup y = some .cell ∨ scope.names.lookup y = some .free := hy
    rcases hy with hy | hy
    · exact cell_has hy
    · exact absurd rfl (S.nofree _ (PySem.mem_of_lookup hy))
  · exact Nat.le_of_lt (x.above y c (PySem.mem_of_lookup h))
  · have hi : i < vs.length := by
      unfold start at h2
      by_cases hi : i < vs.length
      · exact hi
      · rw [List.getElem?_append_right (by simpa using hi)] at h2
        rw [List.getElem?_replicate] at h2
        split at h2 <;> cases h2
    have ha : vs[i]? = some v := by
      unfold start at h2
      rw [List.getElem?_append_left (by simpa using hi), List.getElem?_map] at h2
      cases e : vs[i]? with
      | none => rw [e] at h2; cases h2
      | some a => rw [e] at h2; cases h2; rfl
    obtain ⟨u, hu, rv⟩ := r.get ha
    have hp : ps[i]? = some y := by
      rw [← S.pre, List.getElem?_take_of_lt (by omega)]; exact h1
    have ndP : ps.Nodup := by rw [← S.pre]; exact S.nd.sublist (List.take_sublist _ _)
    refine ⟨u, rv, ?_⟩
    rcases S.par y (List.mem_of_getElem? hp) with k | k
    · exact .inl ⟨k, bindL_get ndP hp hu k⟩
    · obtain ⟨c, e⟩ := cell_has (n := s.heap.objs.size + 1) k
      refine .inr ⟨.inl k, c, e, ?_⟩
      have q := x.cell y c e
      rw [bindC_get ndP hp hu (by show scope.names.lookup y ≠ _; rw [k]; decide)] at q
      exact q
  · exact e0.hok.fresh (Nat.le_of_lt (x.above y c (PySem.mem_of_lookup h)))
  · unfold start
    show _ = N.length
    rw [List.length_append, List.length_map, List.length_replicate]
    omega

/-- THE RULE: a def (or a method) of the text, by its body. The body's reading t is chosen for each entry; it is run at the parameters' values -/
theorem fn_of {CX : CXT} {P : Program} {w : World} {K : PySem.W.Frag} {mg : Str → Option Value} {base : Heap} {k : Nat} {f : Addr} {name qual : Str} {params : Arguments} {body : List Stmt} {scope : Scope} {dV kV doc pm cdv ct oc : Value} {an od : Option Addr}
    {osl : Array (Option Value)} {N ps : List Str} {sp : Sp} (lk : K.lookup f = some ⟨oc, od, .func (PySem.W.fnOf name qual params body scope dV kV doc pm an cdv ct), osl⟩) (hcd : PySem.W.codeIn K cdv qual = true) (S : FnScope N ps scope)
    (len : ∀ vs H Q E, sp vs H Q E → vs.length = ps.length)
    (hbody : ∀ (A : Around) (outer : List Env) (s : Shared) (H : Hp) (vs : List V) (Q : VK) (E : XK), Room k (A.deeper (envOfC qual scope s.heap.objs.size f cdv)) → sp vs H Q E →
      ∃ t, PSs (cxOf CX P w K mg base N qual scope f cdv A outer s H E) body t ∧ t { nx := fun _ H' => Q .non H', rt := Q } (start N vs) H) :
    FnOk P w K mg base CX (k + 1) f (PySem.W.fnOf name qual params body scope dV kV doc pm an cdv ct) ps sp := by
  refine ⟨len, fun A outer s H args us vs Q E hr e0 hb r hsp => ?_⟩
  have hl := len _ _ _ _ hsp
  have KX : K.In s.heap := e0.mod.kin.keeps fun b o e => (e0.bs b o e).1
  have lim : s.heap.NoLimit := e0.mod.nolimit.keeps fun b o e => (e0.bs b o e).1
  have hkind : ∀ y ∈ ps.zip us, scope.names.lookup y.1 = some .local ∨ (scope.names.lookup y.1 = some .cell ∧ ((cellsFrom (s.heap.objs.size + 1) scope.names []).lookup y.1).isSome = true) := fun ⟨n, v⟩ hy => by
    rcases S.par n (List.of_mem_zip hy).1 with q | q
    · exact .inl q
    · exact .inr ⟨q, PySem.W.cellsFrom_some _ _ _ (.inl q)⟩
  refine codeAny_call_function hr.depth (KX _ _ lk) rfl S.co S.gen rfl (PySem.W.codeRec_of KX hcd) (hb _ _ _ _ ?_)
  refine wpAny_newFunctionEnv_cells S.kind hkind fun env he s1 x => ?_
  subst he
  refine ⟨lim.keeps x.toInCall.keep, codeAny_func ?_⟩
  obtain ⟨t, ht, hq⟩ := hbody A outer s H vs Q E (hr.deeper _) hsp
  have I : Inv (cxOf CX P w K mg base N qual scope f cdv A outer s H E) [] (start N vs) H s1 := inv_start S hr.hd e0 hl r x
  refine wpAny_mono (ht [] s1 (start N vs) H _ I hq) (fun fl s' hs => ?_) fun e s' hs => hs
  have fin : ∀ {σ' : St} {H' : Hp} {v : V} {u : Value}, Inv (cxOf CX P w K mg base N qual scope f cdv A outer s H E) [] σ' H' s' → RelV v u → Q v H' → CE outer P w H s Q u s' :=
    fun {σ' H' v u} J rv q => ⟨v, H', J.os, J.bare, J.base, J.hok, rv, q⟩
  cases fl with
  | ret u =>
    obtain ⟨v, σ', H', J, rv, q⟩ := hs
    exact fin J rv q
  | next =>
    obtain ⟨σ', H', J, q⟩ := hs
    exact fin (v := V.non) (u := Value.none) J rfl q
  | brk =>
    obtain ⟨_, _, _, q⟩ := hs
    exact False.elim q
  | cont =>
    obtain ⟨_, _, _, q⟩ := hs
    exact False.elim q
end L2

namespace L2
open PySem PySem.Spec PyProof.Rows
section
variable {X : Cx} {x : Str} {p pos : Pos} {e : Expr} {es : List Expr} {t : TA} {id T : String} {r : List V → Hp → VK → Prop}

def tCB (r : List V → Hp → VK → Prop) (t : TA) : TE := fun σ H Q => t σ H fun vs H1 => r vs H1 Q
/-- f(e, ..), f a built-in function -/
theorem pe_callB (hc : CallR X (.builtin id) r) (hg : Gl X x) (hm : X.mg x = none) (hv : bootBuiltins x = some (.builtin id)) (ha : PA X (e :: es) t) (hn : x ≠ "__name__" := by decide) (hdb : (x == ("__debug__" : Str)) = false := by decide)
    (he : starEach (e :: es) X.env = (false, eval e X.env) :: starEach es X.env := by rfl) (hpl : (backTo pos (starEach es X.env)).any (·.1) = false := by rfl) : PE X (.Call (.Name x p) (e :: es) [] pos) (tCB r t) := by
  intro pins s σ H Q I h
  refine wpAny_Call_Name_kw (ld_blt I hg hm hv ?_ hn hdb)
  exact PyProof.Rows.callWith_builtin1 (thn (ha pos pins s σ H _ I h) fun us s1 ⟨vs, H1, I1, r1, q1⟩ => hc pins s1 σ H1 vs us Q I1 r1 q1) he hpl
/-- T(e, ..), T a built-in type -/
theorem pe_callTy (hc : CallR X (.type T) r) (hg : Gl X x) (hm : X.mg x = none) (hv : bootBuiltins x = some (.type T)) (ha : PA X (e :: es) t) (hn : x ≠ "__name__" := by decide) (hdb : (x == ("__debug__" : Str)) = false := by decide)
    (he : starEach (e :: es) X.env = (false, eval e X.env) :: starEach es X.env := by rfl) (hpl : (backTo pos (starEach es X.env)).any (·.1) = false := by rfl) : PE X (.Call (.Name x p) (e :: es) [] pos) (tCB r t) := by
  intro pins s σ H Q I h
  refine wpAny_Call_Name_kw (ld_blt I hg hm hv ?_ hn hdb)
  exact PyProof.Rows.callWith_type1 (thn (ha pos pins s σ H _ I h) fun us s1 ⟨vs, H1, I1, r1, q1⟩ => hc pins s1 σ H1 vs us Q I1 r1 q1) he hpl
end
end L2

namespace HT
open PySem PyProof.Rows

section
open PySem.SeqAt
open PySem.AutoSeq1 (wpAny_loadPart')
open PySem.MeetsSeq PySem.MeetsSeq2 PySem.MeetsSeq3

end

section
variable {prog : Program} {w : World} {A : Around} {E : Value → Shared → Prop} {s : Shared}

/-! ### t[a:b], not the whole -/
/-- a slice's bound as a place among n (d where it is left out) -/
def sIx (n d : Nat) : Option Int → Nat
  | none => d
  | some v => if v < 0 then (v + (n : Int)).toNat else min v.toNat n
theorem sIx_nat (n d k : Nat) : sIx n d (some (k : Int)) = min k n := by
  show (if (k : Int) < 0 then ((k : Int) + (n : Int)).toNat else min (k : Int).toNat n) = min k n
  rw [if_neg (by omega), Int.toNat_natCast]
end
end HT

namespace L2
open PySem PySem.Spec PyProof.Rows

/-! ### the parts of a slice -/
abbrev TO := St → Hp → (Option Int → Hp → Prop) → Prop
/-- a slice's part (left out, or an int) -/
def PO (X : Cx) (e : Option Expr) (t : TO) : Prop :=
  ∀ (pins : List (Addr × Obj)) (s : Shared) (σ : St) (H : Hp) (Q : Option Int → Hp → Prop), Inv X pins σ H s → t σ H Q →
    wpAny (model X.prog X.w) X.A (evalPart e X.env) (fun u s' => ∃ o H', Inv X pins σ H' s' ∧ IsPart u o ∧ Q o H') X.xe s
def tNoPart : TO := fun _ H Q => Q none H
def tPart (t : TE) : TO := fun σ H Q => t σ H fun x H1 => ∃ i, x = .int i ∧ Q (some i) H1

section
variable {X : Cx} {e : Expr} {te : TE} {lo hi : Option Expr} {tl th : TO} {pos p2 : Pos}

theorem po_none : PO X none tNoPart := by
  intro pins s σ H Q I h
  rw [evalPart_none]
  exact wpAny_pure ⟨none, H, I, .none, h⟩
theorem po_some (h : PE X e te) : PO X (some e) (tPart te) := by
  intro pins s σ H Q I hw
  rw [evalPart_some]
  refine thn (h pins s σ H _ I hw) fun u s1 ⟨x, H1, I1, r1, q1⟩ => ?_
  obtain ⟨i, rfl, q⟩ := q1
  obtain ⟨t, rfl⟩ := r1
  exact ⟨some i, H1, I1, .int i t, q⟩

/-- what a slice of a value is, by values: the slice object stands at sl -/
def SlR (X : Cx) (r : V → Option Int → Option Int → Hp → VK → Prop) : Prop :=
  ∀ (pins : List (Addr × Obj)) (s : Shared) (σ : St) (H : Hp) (x : V) (v vl vu : Value) (lo hi : Option Int) (sl : Addr) (Q : VK), Inv X pins σ H s → RelV x v → s.heap.IsSliceOf sl vl vu .none → IsPart vl lo → IsPart vu hi → r x lo hi H Q →
    ∃ T id, typeLookup (.type T) "__getitem__" = pure (some (.builtin id)) ∧ s.TypeIs v T ∧ wpAny (model X.prog X.w) X.A (getItem v (.ref sl)) (EP X pins σ Q) X.xe s
def tSl (r : V → Option Int → Option Int → Hp → VK → Prop) (te : TE) (tl th : TO) : TE := fun σ H Q => te σ H fun x H1 => tl σ H1 fun l H2 => th σ H2 fun u H3 => r x l u H3 Q
/-- a[lo:hi], any a -/
theorem pe_slice {r : V → Option Int → Option Int → Hp → VK → Prop} (hr : SlR X r) (he : PE X e te) (hl : PO X lo tl) (hu : PO X hi th) : PE X (.Subscript e (.Slice lo hi none p2) pos) (tSl r te tl th) := by
  intro pins s σ H Q I h
  refine Subscript_ (thn (he pins s σ H _ I h) fun v s1 ⟨x, H1, I1, r1, q1⟩ => ?_)
  refine wpAny_Slice (thn (hl pins s1 σ H1 _ I1 q1) fun vl s2 ⟨l, H2, I2, pl, q2⟩ => thn (hu pins s2 σ H2 _ I2 q2) fun vu s3 ⟨u, H3, I3, pu, q3⟩ => ?_)
  rw [evalPart_none]
  refine wpAny_pure ?_
  have I4 : Inv X pins σ H3 { s3 with heap := s3.heap.push { cls := .type "slice", data := .fields #[vl, vu, .none] } } := I3.kept (t' := s3.toks) fun b ob q => Heap.get?_push_of_some _ q
  obtain ⟨T, id, hT, ht, hg⟩ := hr pins { s3 with heap := s3.heap.push { cls := .type "slice", data := .fields #[vl, vu, .none] } } σ H3 x v vl vu l u s3.heap.objs.size Q I4 r1 (Heap.IsSliceOf.new ..) pl pu q3
  show wpAny (model X.prog X.w) X.A (subscriptTail e (.Slice lo hi none p2) v (.ref s3.heap.objs.size)) (EP X pins σ Q) X.xe { s3 with heap := s3.heap.push { cls := .type "slice", data := .fields #[vl, vu, .none] } }
  exact tail_any (ops := [.ref s3.heap.objs.size, v]) ht hT hg (by with_unfolding_all rfl)

/-- the items of xs[lo:hi] -/
def cutV (xs : List V) (lo hi : Option Int) : List V := (xs.drop (HT.sIx xs.length 0 lo)).take (HT.sIx xs.length xs.length hi - HT.sIx xs.length 0 lo)
theorem cutV_length (xs : List V) (lo hi : Option Int) : (cutV xs lo hi).length ≤ xs.length := by
  unfold cutV
  rw [List.length_take, List.length_drop]
  omega
end
end L2

namespace L2
open PySem PySem.Spec PyProof.Rows

/-! ### places -/
/-- the place that an index of any sign means -/
def ixN (n : Nat) (i : Int) : Option Nat := if 0 ≤ i then (if i < n then some i.toNat else none) else if -(n : Int) ≤ i then some (i + n).toNat else none
def atI {α : Type} (xs : List α) (i : Int) : Option α := (ixN xs.length i).bind fun j => xs[j]?
theorem ixN_seq {n : Nat} {i : Int} {j : Nat} (h : ixN n i = some j) : seqIndex? i n = some j ∧ j < n ∧ -(n : Int) ≤ i ∧ i < n := by
  unfold ixN at h
  by_cases h0 : 0 ≤ i
  · rw [if_pos h0] at h
    by_cases h1 : i < n
    · rw [if_pos h1] at h
      have e : i.toNat = j := Option.some.inj h
      exact ⟨by rw [seqIndex_of h0 h1, e], by omega, by omega, h1⟩
    · rw [if_neg h1] at h; cases h
  · rw [if_neg h0] at h
    by_cases h1 : -(n : Int) ≤ i
    · rw [if_pos h1] at h
      have e : (i + n).toNat = j := Option.some.inj h
      exact ⟨by rw [seqIndex_neg (by omega) h1, e], by omega, h1, by omega⟩
    · rw [if_neg h1] at h; cases h
theorem atI_get {α : Type} {xs : List α} {i : Int} {v : α} (h : atI xs i = some v) : ∃ j, seqIndex? i xs.length = some j ∧ xs[j]? = some v ∧ j < xs.length ∧ -(xs.length : Int) ≤ i ∧ i < xs.length := by
  unfold atI at h
  cases e : ixN xs.length i with
  | none => rw [e] at h; cases h
  | some j =>
    rw [e] at h
    obtain ⟨h1, h2, h3, h4⟩ := ixN_seq e
    exact ⟨j, h1, h, h2, h3, h4⟩
theorem atI_nat {α : Type} {xs : List α} {j : Nat} {v : α} (h : xs[j]? = some v) : atI xs (j : Int) = some v := by
  have hj : j < xs.length := (List.getElem?_eq_some_iff.mp h).1
  have e : ixN xs.length (j : Int) = some j := by
    unfold ixN
    rw [if_pos (by omega), if_pos (by omega)]; simp
  unfold atI; rw [e]; exact h
/-! ### what may be subscripted -/
/-- what stands as an index of a plain subscript -/
def PlainIx (b : Expr) : Prop := ∀ o i, subscripted b false o i = operate [o, i] (getItem o i)
/-- a subscript by values -/
def IxR (X : Cx) (r : R2) : Prop :=
  ∀ (value slice : Expr) (pins : List (Addr × Obj)) (s : Shared) (σ : St) (H : Hp) (x y : V) (v u : Value) (Q : VK), Inv X pins σ H s → RelV x v → RelV y u → r x y H Q →
    subscripted slice false v u = operate [v, u] (getItem v u) → wpAny (model X.prog X.w) X.A (subscriptTail value slice v u) (EP X pins σ Q) X.xe s
/-- a call of a builtin's method by values: the receiver, the arguments -/
def MtR (X : Cx) (id : String) (r : V → List V → Hp → VK → Prop) : Prop :=
  ∀ (pins : List (Addr × Obj)) (s : Shared) (σ : St) (H : Hp) (x : V) (xs : List V) (v : Value) (us : List Value) (Q : VK), Inv X pins σ H s → RelV x v → Vals xs us → r x xs H Q →
    wpAny (model X.prog X.w) X.A (call (.builtin id) (v :: us)) (EP X pins σ Q) X.xe s
section
variable {X : Cx} {a b : Expr} {ta tb : TE} {pos : Pos}
/-- a[b] -/
theorem pe_ix {r : R2} (hr : IxR X r) (ha : PE X a ta) (hb : PE X b tb) (hs : PlainIx b) : PE X (.Subscript a b pos) (tOp r ta tb) := by
  intro pins s σ H Q I h
  exact Subscript_ (binT ha hb I h fun v u s2 x y H2 I2 rx ry q => hr a b pins s2 σ H2 x y v u Q I2 rx ry q (hs _ _))

def rIxL (K : PySem.W.Frag) : R2 := fun x y H Q => ∃ p xs i v, x = .ref p ∧ y = .int i ∧ SqL K H p xs ∧ atI xs i = some v ∧ Q v H
def rIxT (K : PySem.W.Frag) : R2 := fun x y H Q => ∃ p xs i v, x = .ref p ∧ y = .int i ∧ SqT K H p xs ∧ atI xs i = some v ∧ Q v H
theorem ix_list : IxR X (rIxL X.K) := by
  intro value slice pins s σ H x y v u Q I rx ry h hs
  obtain ⟨p, xs, i, z, rfl, rfl, hq, he, q⟩ := h
  cases rx
  obtain ⟨t, rfl⟩ := ry
  obtain ⟨its, r, pl, hz⟩ := I.list hq
  obtain ⟨j, h1, h2, h3, h4, h5⟩ := atI_get he
  obtain ⟨w, ew, rw'⟩ := r.get h2
  have hl := r.length
  have hn := line63
  have fin : EP X pins σ Q w s := ⟨z, H, I, rw', q⟩
  by_cases h0 : 0 ≤ i
  · have hj : i.toNat = j := by
      rw [seqIndex_of h0 h5] at h1
      exact Option.some.inj h1
    exact item_listR pl.isList h0 (by omega) (by rw [hj]; simpa using ew) fin hs
  · have hj : (i + (its.toArray.size : Int)).toNat = j := by
      rw [seqIndex_neg (by omega) h4] at h1
      rw [List.size_toArray, ← hl]
      exact Option.some.inj h1
    exact subscriptTail_builtinR (x := w) pl.isList.typeIs slot_list_getitem.lookup
      (wpAny_getItem_list_neg (Q := fun r s' => r = w ∧ EP X pins σ Q r s') pl.isList (by omega) (by rw [List.size_toArray] <;> omega) (by omega) (by rw [hj]; simpa using ew) ⟨rfl, fin⟩) hs
theorem ix_tup : IxR X (rIxT X.K) := by
  intro value slice pins s σ H x y v u Q I rx ry h hs
  obtain ⟨p, xs, i, z, rfl, rfl, hq, he, q⟩ := h
  cases rx
  obtain ⟨t, rfl⟩ := ry
  obtain ⟨its, r, pl, hz⟩ := I.tuple hq
  obtain ⟨j, h1, h2, h3, h4, h5⟩ := atI_get he
  obtain ⟨w, ew, rw'⟩ := r.get h2
  have hl := r.length
  have hn := line63
  have fin : EP X pins σ Q w s := ⟨z, H, I, rw', q⟩
  exact subscriptTail_builtinR (x := w) pl.typeIs slot_tuple_getitem.lookup
    (getItem_tuple (j := j) (Q := fun r s' => r = w ∧ EP X pins σ Q r s') pl (by omega) (by omega) (by rw [List.size_toArray, ← hl]; exact h1) (by simpa using ew) ⟨rfl, fin⟩) hs
/-! ### xs[i] = v, any sign -/
/-- the list's object behind a store -/
theorem mapSeq_set (its : List Value) (n j : Nat) (u : Value) : Obj.mapSeq (·.setIfInBounds j u) { cls := .type "list", data := .seq its.toArray n } = { cls := .type "list", data := .seq (its.set j u).toArray n } := by
  simp [Obj.mapSeq]
theorem Inv.lst {pins : List (Addr × Obj)} {σ : St} {H : Hp} {s : Shared} {p : Addr} {xs : List V} (I : Inv X pins σ H s) (h : H p = some (.lst xs)) :
    ∃ (its : List Value) (n : Nat), Vals xs its ∧ s.heap.get? p = some { cls := .type "list", data := .seq its.toArray n } ∧ xs.length ≤ sizeLine := by
  obtain ⟨z, its, n, r, e⟩ := I.hok p _ h
  exact ⟨its, n, r, e, z⟩
/-- the list at p is written by an update of its object -/
theorem Inv.lstUpd {pins : List (Addr × Obj)} {σ : St} {H : Hp} {s : Shared} {p : Addr} {xs ys : List V} {its its' : List Value} {n n' : Nat} {f : Obj → Obj} (I : Inv X pins σ H s) (h : H p = some (.lst xs))
    (ho : s.heap.get? p = some { cls := .type "list", data := .seq its.toArray n }) (hf : f { cls := .type "list", data := .seq its.toArray n } = { cls := .type "list", data := .seq its'.toArray n' }) (r : Vals ys its') (hz : ys.length ≤ sizeLine) (t : Nat) :
    Inv X pins σ (upd H p (.lst ys)) { s with heap := s.heap.update p f, toks := t } := by
  have e : (s.heap.update p f).get? p = some { cls := .type "list", data := .seq its'.toArray n' } := by
    rw [Heap.get?_update_self f ho (by rw [hf] <;> rfl), hf]
  refine I.write (x := p) (e := p) (by rw [h]; trivial) (.inl rfl) (fun b u hb q => (Heap.get?_update_other _ _ (Ne.symm hb)).trans q) ⟨_, e⟩ ?_
  exact ⟨hz, its', n', r, e⟩
def rSetL : V → V → V → Hp → (Hp → Prop) → Prop := fun o i v H Q => ∃ p xs k j, o = .ref p ∧ i = .int k ∧ H p = some (.lst xs) ∧ ixN xs.length k = some j ∧ Q (upd H p (.lst (xs.set j v)))
theorem set_list : PSet X rSetL := by
  intro pins s σ H o i v ov iv u Q I ro ri rv h
  obtain ⟨p, xs, k, j, rfl, rfl, hp, hj, q⟩ := h
  cases ro
  obtain ⟨t, rfl⟩ := ri
  obtain ⟨its, n, r, ho, hz⟩ := I.lst hp
  obtain ⟨h1, h2, h3, h4⟩ := ixN_seq hj
  have hl := r.length
  have hn := line63
  have I' : Inv X pins σ (upd H p (.lst (xs.set j v))) { s with heap := s.heap.update p (Obj.mapSeq (·.setIfInBounds j u)) } :=
    I.lstUpd hp ho (mapSeq_set its n j u) (r.set rv j) (by rw [List.length_set]; exact hz) s.toks
  by_cases h0 : 0 ≤ k
  · have hk : k.toNat = j := by
      rw [seqIndex_of h0 h4] at h1
      exact Option.some.inj h1
    exact PySem.W.ki_setAt ho h0 (by omega) (by rw [List.size_toArray, ← hl]; exact h4) (by rw [hk]; exact ⟨_, I', q⟩)
  · have hk : (k + (its.toArray.size : Int)).toNat = j := by
      rw [seqIndex_neg (by omega) h3] at h1
      rw [List.size_toArray, ← hl]
      exact Option.some.inj h1
    exact PySem.W.ki_setBack ho (by omega) (by rw [List.size_toArray, ← hl]; exact h3) (by omega) (by rw [hk]; exact ⟨_, I', q⟩)

/-! ### slices -/
theorem slice_bounds (lo hi : Option Int) (n : Nat) : (sliceBounds lo hi none n).1 = ((HT.sIx n 0 lo : Nat) : Int) ∧ (sliceBounds lo hi none n).2.1 = ((HT.sIx n n hi : Nat) : Int) ∧ (sliceBounds lo hi none n).2.2 = 1 := by
  refine ⟨?_, ?_, rfl⟩
  · cases lo with
    | none => simp [sliceBounds, HT.sIx]
    | some i =>
      simp only [sliceBounds, HT.sIx, Option.getD_none, show (1 : Int) > 0 by decide, if_true]
      by_cases h : i < 0
      · simp only [h, if_true] <;> omega
      · simp only [h, if_false] <;> omega
  · cases hi with
    | none => simp [sliceBounds, HT.sIx]
    | some i =>
      simp only [sliceBounds, HT.sIx, Option.getD_none, show (1 : Int) > 0 by decide, if_true]
      by_cases h : i < 0
      · simp only [h, if_true] <;> omega
      · simp only [h, if_false] <;> omega
theorem slicePick_cut (its : List Value) (lo hi : Option Int) : slicePick its.toArray lo hi none = ((its.drop (HT.sIx its.length 0 lo)).take (HT.sIx its.length its.length hi - HT.sIx its.length 0 lo)).toArray := by
  obtain ⟨h1, h2, h3⟩ := slice_bounds lo hi its.toArray.size
  unfold slicePick
  rw [h1, h2, h3]
  simp only [sliceRange_one, pick_run, List.size_toArray] <;> rfl
/-- xs[lo:hi] of a list: a new list -/
def rSlL (K : PySem.W.Frag) : V → Option Int → Option Int → Hp → VK → Prop := fun x lo hi H Q => ∃ a xs, x = .ref a ∧ SqL K H a xs ∧ ∀ p, H p = none → Q (.ref p) (upd H p (.lst (cutV xs lo hi)))
theorem sl_list : SlR X (rSlL X.K) := by
  intro pins s σ H x v vl vu lo hi sl Q I rx hs pl pu h
  obtain ⟨a, xs, rfl, hx, q⟩ := h
  cases rx
  obtain ⟨its, r, ht, hz⟩ := I.list hx
  have hlen := r.length
  refine ⟨"list", _, slot_list_getitem.lookup, ht.isList.typeIs, ?_⟩
  refine wpAny_getItem_list_slice ht.isList hs pl pu .none (by simp) ?_ (by rw [List.size_toArray] <;> omega)
  rw [slicePick_cut, ← hlen]
  refine ⟨.ref s.heap.objs.size, _, I.laid (t' := s.toks) (o := .lst (cutV xs lo hi)) (fun b ob q => Heap.get?_push_of_some _ q) (Nat.le_refl _) ?_, rfl, q _ (I.hok.fresh (Nat.le_refl _))⟩
  exact ⟨Nat.le_trans (cutV_length xs lo hi) hz, _, 0, (r.drop (HT.sIx xs.length 0 lo)).take (HT.sIx xs.length xs.length hi - HT.sIx xs.length 0 lo), Heap.get?_push_size _ rfl⟩

/-! ### in, not in: flat items -/
def flatV : V → Bool
  | .non => true
  | .bl _ => true
  | .int _ => true
  | .str _ => true
  | _ => false
/-- == of flat values -/
def eqV : V → V → Bool
  | .non, .non => true
  | .bl a, .bl b => a == b
  | .bl a, .int b => (if a then 1 else 0) == b
  | .int a, .bl b => a == (if b then 1 else 0)
  | .int a, .int b => a == b
  | .str a, .str b => a == b
  | _, _ => false
theorem eqAt_V {A : Around} {s : Shared} {y x : V} {u v : Value} (ry : RelV y u) (rx : RelV x v) (fy : flatV y = true) (fx : flatV x = true) : SeqAt.EqAt A s u v (eqV y x) := by
  cases y with
  | non =>
    cases ry
    cases x with
    | non => cases rx; exact SeqAt.EqAt.same _
    | bl b => cases rx; exact SeqAt.EqAt.none_bool b
    | int b => obtain ⟨t, rfl⟩ := rx; exact SeqAt.EqAt.none_int b t
    | str b => obtain ⟨t, rfl⟩ := rx; exact SeqAt.EqAt.none_str b t
    | _ => exact absurd (show false = true from fx) Bool.false_ne_true
  | bl a =>
    cases ry
    cases x with
    | non => cases rx; exact SeqAt.EqAt.bool_none a
    | bl b => cases rx; exact SeqAt.EqAt.bool_bool a b
    | int b => obtain ⟨t, rfl⟩ := rx; exact SeqAt.EqAt.bool_int a b t
    | str b => obtain ⟨t, rfl⟩ := rx; exact SeqAt.EqAt.bool_str a b t
    | _ => exact absurd (show false = true from fx) Bool.false_ne_true
  | int a =>
    obtain ⟨t', rfl⟩ := ry
    cases x with
    | non => cases rx; exact SeqAt.EqAt.int_none a t'
    | bl b => cases rx; exact SeqAt.EqAt.int_bool a t' b
    | int b => obtain ⟨t, rfl⟩ := rx; exact SeqAt.EqAt.int_int a t' b t
    | str b => obtain ⟨t, rfl⟩ := rx; exact SeqAt.EqAt.int_str a t' b t
    | _ => exact absurd (show false = true from fx) Bool.false_ne_true
  | str a =>
    obtain ⟨t', rfl⟩ := ry
    cases x with
    | non => cases rx; exact SeqAt.EqAt.str_none a t'
    | bl b => cases rx; exact SeqAt.EqAt.str_bool a t' b
    | int b => obtain ⟨t, rfl⟩ := rx; exact SeqAt.EqAt.str_int a t' b t
    | str b => obtain ⟨t, rfl⟩ := rx; exact SeqAt.EqAt.str_str a t' b t
    | _ => exact absurd (show false = true from fx) Bool.false_ne_true
  | _ => exact absurd (show false = true from fy) Bool.false_ne_true
/-! ### len, list(x), tuple(x) of any list or tuple that is read -/
theorem call_len_seq : CallR X (.builtin "len") (fun xs H Q => ∃ p ys, xs = [.ref p] ∧ (SqL X.K H p ys ∨ SqT X.K H p ys) ∧ Q (.int ys.length) H) := by
  intro pins s σ H xs us Q I r h
  obtain ⟨p, ys, rfl, hq, q⟩ := h
  obtain ⟨u, rfl, rx⟩ := vals1 r
  cases rx
  have hn := line63
  rcases hq with hq | hq
  · obtain ⟨its, r', pl, hz⟩ := I.list hq
    have hlen := r'.length
    exact Calls.call_len_list pl.isList (by simp only [List.size_toArray] <;> omega) ⟨.int ys.length, H, I.tok _, ⟨s.toks + 1, by rw [List.size_toArray, hlen]⟩, q⟩
  · obtain ⟨its, r', pl, hz⟩ := I.tuple hq
    have hlen := r'.length
    exact len_tuple pl (by simp only [List.size_toArray] <;> omega) ⟨.int ys.length, H, I.tok _, ⟨s.toks + 1, by rw [List.size_toArray, hlen]⟩, q⟩
theorem call_list_of : CallR X (.type "list") (fun xs H Q => ∃ p ys, xs = [.ref p] ∧ (SqL X.K H p ys ∨ SqT X.K H p ys) ∧ ∀ l, H l = none → Q (.ref l) (upd H l (.lst ys))) := by
  intro pins s σ H xs us Q I r h
  obtain ⟨p, ys, rfl, hq, q⟩ := h
  obtain ⟨u, rfl, rx⟩ := vals1 r
  cases rx
  have fin : ∀ (its : List Value), Vals ys its → ys.length ≤ sizeLine → ∀ (h' : Heap) (c' : Nat), (∀ b o', s.heap.get? b = some o' → h'.get? b = some o') →
      h'.get? s.heap.objs.size = some { cls := .type "list", dict := none, data := .seq its.toArray c', slots := #[] } → EP X pins σ Q (.ref s.heap.objs.size) { s with heap := h' } := fun its r' hz h' c' kp e =>
    ⟨.ref s.heap.objs.size, _, I.laid (t' := s.toks) kp (Nat.le_refl _) (show ObjOk X.prog X.w _ h' _ (.lst ys) from ⟨hz, its, c', r', e⟩), rfl, q _ (I.hok.fresh (Nat.le_refl _))⟩
  rcases hq with hq | hq
  · obtain ⟨its, r', pl, hz⟩ := I.list hq
    have hlen := r'.length
    obtain ⟨o, ho, hc, n, hd⟩ := pl.isList
    exact call_list_seq p (.inl rfl) ho hc hd (fun h' c' kp e => fin its r' hz h' c' kp e) (by simp only [List.size_toArray] <;> omega)
  · obtain ⟨its, r', pl, hz⟩ := I.tuple hq
    have hlen := r'.length
    obtain ⟨o, ho, hc, n, hd⟩ := pl
    exact call_list_seq p (.inr rfl) ho hc hd (fun h' c' kp e => fin its r' hz h' c' kp e) (by simp only [List.size_toArray] <;> omega)
theorem call_tuple_of : CallR X (.type "tuple") (fun xs H Q => ∃ p ys, xs = [.ref p] ∧ ((SqL X.K H p ys ∧ ∀ l, H l = none → Q (.ref l) (upd H l (.tup ys))) ∨ (SqT X.K H p ys ∧ Q (.ref p) H))) := by
  intro pins s σ H xs us Q I r h
  obtain ⟨p, ys, rfl, h⟩ := h
  obtain ⟨u, rfl, rx⟩ := vals1 r
  cases rx
  rcases h with ⟨hq, q⟩ | ⟨hq, q⟩
  · obtain ⟨its, r', pl, hz⟩ := I.list hq
    have hlen := r'.length
    refine call_tuple_list pl.isList (fun h' kp => ?_) (by simp only [List.size_toArray] <;> omega)
    have I1 : Inv X pins σ H { s with heap := h' } := I.kept (t' := s.toks) kp
    have I2 : Inv X pins σ (upd H h'.objs.size (.tup ys)) { s with heap := h'.push { cls := .type "tuple", data := .seq its.toArray } } :=
      I1.laid (t' := s.toks) (fun b o e => Heap.get?_push_of_some _ e) (Nat.le_refl _) (show ObjOk X.prog X.w _ _ _ (.tup ys) from ⟨hz, its, r', IsTup.new _ _⟩)
    exact ⟨.ref h'.objs.size, _, I2, rfl, q _ (I1.hok.fresh (Nat.le_refl _))⟩
  · obtain ⟨its, r', pl, hz⟩ := I.tuple hq
    exact call_tuple_same pl ⟨.ref p, H, I, rfl, q⟩

/-! ### the call of a builtin's method: o.m(..) -/
/-- the value is of that builtin type -/
def tyV (K : PySem.W.Frag) (T : String) (x : V) (H : Hp) : Prop := match x with
  | .str _ => T = "str"
  | .int _ => T = "int"
  | .ref p => (T = "list" ∧ ∃ xs, SqL K H p xs) ∨ (T = "tuple" ∧ ∃ o, K.lookup p = some o ∧ o.cls = .type "tuple" ∧ o.dict = none) ∨
      (T = "dict" ∧ ((∃ kvs, H p = some (.dK kvs)) ∨ ∃ kvs, H p = some (.dT kvs))) ∨ (T = "set" ∧ ∃ S n, H p = some (.set S n))
  | _ => False
theorem tyV_is {pins : List (Addr × Obj)} {σ : St} {H : Hp} {s : Shared} {T : String} {x : V} {v : Value} (I : Inv X pins σ H s) (r : RelV x v) (ty : tyV X.K T x H) :
    s.TypeIs v T ∧ ∀ a, v = .ref a → ∃ ob, s.heap.get? a = some ob ∧ ob.dict = none := by
  cases x with
  | str z =>
    obtain ⟨t, rfl⟩ := r
    cases (show T = "str" from ty)
    exact ⟨typeIs_str s z t, fun _ e => nomatch e⟩
  | int i =>
    obtain ⟨t, rfl⟩ := r
    cases (show T = "int" from ty)
    exact ⟨typeIs_int s i t, fun _ e => nomatch e⟩
  | ref p =>
    cases r
    rcases ty with ⟨rfl, xs, hq⟩ | ⟨rfl, o, hk, hc, hd⟩ | ⟨rfl, hk⟩ | ⟨rfl, S, n, hk⟩
    · obtain ⟨its, _, pl, _⟩ := I.list hq
      refine ⟨pl.isList.typeIs, fun a e => ?_⟩
      cases e
      obtain ⟨o, n, e, c, hd, _⟩ := pl
      exact ⟨o, e, hd⟩
    · refine ⟨⟨o, I.kIn p o hk, hc⟩, fun a e => ?_⟩
      cases e
      exact ⟨o, I.kIn _ o hk, hd⟩
    · have z : ∃ o, s.heap.get? p = some o ∧ o.ExactDict := by
        rcases hk with ⟨kvs, hk⟩ | ⟨kvs, hk⟩
        · obtain ⟨_, _, _, _, o, _, _, e, ex, _⟩ := I.hok p _ hk
          exact ⟨o, e, ex⟩
        · obtain ⟨_, _, _, _, o, _, _, e, ex, _⟩ := I.hok p _ hk
          exact ⟨o, e, ex⟩
      obtain ⟨o, e, ex⟩ := z
      refine ⟨⟨o, e, ex.1⟩, fun a e2 => ?_⟩
      cases e2
      exact ⟨o, e, ex.2.1⟩
    · obtain ⟨o, _, _, _, e, ex, _⟩ := I.hok p _ hk
      refine ⟨⟨o, e, ex.1⟩, fun a e2 => ?_⟩
      cases e2
      exact ⟨o, e, ex.2.1⟩
  | _ => exact False.elim ty
def tBM0 (K : PySem.W.Frag) (T : String) (r : V → List V → Hp → VK → Prop) (to : TE) : TE := fun σ H Q => to σ H fun x H1 => tyV K T x H1 ∧ r x [] H1 Q
def tBM (K : PySem.W.Frag) (T : String) (r : V → List V → Hp → VK → Prop) (to : TE) (t : TA) : TE := fun σ H Q => to σ H fun x H1 => tyV K T x H1 ∧ t σ H1 fun xs H2 => r x xs H2 Q
variable {o e : Expr} {es : List Expr} {to : TE} {t : TA} {name : Str} {apos cpos : Pos} {T id : String} {r : V → List V → Hp → VK → Prop}
theorem pe_bm0 (pa : PlainAttrs T) (slot : Slot T name id) (hty : typeOf (.builtin id) = pure (.type "method_descriptor")) (hm : MtR X id r) (ho : PE X o to)
    (hbase : attributeBase o name X.env (eval o X.env) = eval o X.env := by rfl) (hline : (apos.endLine == cpos.line) = true := by rfl) : PE X (.Call (.Attribute o name apos) [] [] cpos) (tBM0 X.K T r to) := by
  intro pins s σ H Q I h
  refine wpAny_Call_method0_late hbase hline (thn (ho pins s σ H _ I h) fun v s1 ⟨x, H1, I1, r1, ty, q1⟩ => ?_)
  obtain ⟨h1, h2⟩ := tyV_is I1 r1 ty
  exact ⟨T, id, pa, slot, hty, h1, h2, Calls.callWith_builtin rfl (PySem.evalArgs_none (hm pins s1 σ H1 x [] v [] Q I1 r1 .nil q1))⟩
theorem pe_bm (pa : PlainAttrs T) (slot : Slot T name id) (hty : typeOf (.builtin id) = pure (.type "method_descriptor")) (hm : MtR X id r) (ho : PE X o to) (ha : PA X (e :: es) t)
    (hbase : attributeBase o name X.env (eval o X.env) = eval o X.env := by rfl)
    (hfew : ((backTo cpos (starEach (e :: es) X.env)).all (fun x => !x.1) && (backToKw cpos (keywordEach [] X.env)).all (fun x => x.1.isSome)
      && decide ((e :: es).length + ([] : List Keyword).length + (if ([] : List Keyword).isEmpty then 0 else 1) < 30)) = true := by rfl)
    (hline : (apos.endLine == cpos.line) = true := by rfl) (hs : starEach (e :: es) X.env = (false, eval e X.env) :: starEach es X.env := by rfl) (hplain : (backTo cpos (starEach es X.env)).any (·.1) = false := by rfl) :
    PE X (.Call (.Attribute o name apos) (e :: es) [] cpos) (tBM X.K T r to t) := by
  intro pins s σ H Q I h
  refine wpAny_Call_method_late hbase hfew hline rfl (thn (ho pins s σ H _ I h) fun v s1 ⟨x, H1, I1, r1, ty, q1⟩ => ?_)
  obtain ⟨h1, h2⟩ := tyV_is I1 r1 ty
  refine ⟨T, id, pa, slot, hty, h1, h2, ?_⟩
  have hA := ha cpos pins s1 σ H1 _ I1 q1
  rw [hs] at hA ⊢
  refine Calls.callWith_builtin (by show (false || (backTo cpos (starEach es X.env)).any (·.1)) = false; rw [hplain] <;> rfl) (Calls.evalArgs_plain ?_)
  exact thn hA fun us s2 ⟨vs, H2, I2, r2, q2⟩ => hm pins s2 σ H2 x vs v us Q I2 r1 r2 q2
/- xs.append(e), list.index on a module's tuple .. are MtR facts of 06m -/
end
end L2

namespace L2
open PySem PySem.Spec PyProof.Rows

def MtM (X : Cx) (id : String) (r : V → List V → Hp → VK → Prop) : Prop :=
  ∀ (pins : List (Addr × Obj)) (s : Shared) (σ : St) (H : Hp) (x : V) (xs : List V) (v : Value) (us : List Value) (Q : VK), Inv X pins σ H s → RelV x v → Vals xs us → r x xs H Q →
    wpAny (model X.prog X.w) X.A (call (.builtin id) (v :: us)) (EP X pins σ Q) X.xe s

/-! ### lists of values -/
theorem Vals.one : ∀ {x : V} {us : List Value}, Vals [x] us → ∃ u, us = [u] ∧ RelV x u
  | _, _, .cons r .nil => ⟨_, rfl, r⟩
theorem Vals.zero : ∀ {us : List Value}, Vals [] us → us = []
  | _, .nil => rfl
theorem Vals.dropLast {xs : List V} {us : List Value} (h : Vals xs us) : Vals xs.dropLast us.dropLast := by
  induction h with
  | nil => exact .nil
  | cons r t ih =>
    cases t with
    | nil => exact .nil
    | cons q t' => exact .cons r ih
theorem Vals.eraseIdx : ∀ {xs : List V} {us : List Value} (i : Nat), Vals xs us → Vals (xs.eraseIdx i) (us.eraseIdx i)
  | _, _, _, .nil => .nil
  | _, _, 0, .cons _ t => t
  | _, _, i + 1, .cons r t => .cons r (Vals.eraseIdx i t)
theorem Vals.reverse {xs : List V} {us : List Value} (h : Vals xs us) : Vals xs.reverse us.reverse := by
  induction h with
  | nil => exact .nil
  | cons r t ih => rw [List.reverse_cons, List.reverse_cons]; exact Vals.append ih (.cons r .nil)
theorem Vals.rep {xs : List V} {us : List Value} (h : Vals xs us) : ∀ k : Nat, Vals (List.replicate k xs).flatten (List.replicate k us).flatten
  | 0 => .nil
  | k + 1 => by
    rw [List.replicate_succ, List.replicate_succ, List.flatten_cons, List.flatten_cons]
    exact Vals.append h (Vals.rep h k)
theorem erase_last {α : Type} (l : List α) : l.eraseIdx (l.length - 1) = l.dropLast := by
  induction l with
  | nil => rfl
  | cons a r ih =>
    cases r with
    | nil => rfl
    | cons b r =>
      have e : (a :: b :: r).length - 1 = ((b :: r).length - 1) + 1 := by
        have h1 : (a :: b :: r).length = r.length + 2 := rfl
        have h2 : (b :: r).length = r.length + 1 := rfl
        omega
      rw [e, List.eraseIdx_cons_succ, ih]
      all_goals rfl
theorem foldl_rep (its : List Value) : ∀ (k : Nat) (acc : List Value),
    List.foldl (fun x1 x2 => x1 ++ x2) acc.toArray (List.replicate k its.toArray) = (acc ++ (List.replicate k its).flatten).toArray
  | 0, acc => by simp
  | k + 1, acc => by
    have e : acc.toArray ++ its.toArray = (acc ++ its).toArray := by simp
    have e2 : (acc ++ its) ++ (List.replicate k its).flatten = acc ++ (List.replicate (k + 1) its).flatten := by
      rw [List.replicate_succ, List.flatten_cons, List.append_assoc]
    rw [← e2, ← foldl_rep its k (acc ++ its), ← e, List.replicate_succ, List.foldl_cons]

section
variable {X : Cx} {pins : List (Addr × Obj)} {σ : St} {H : Hp} {s : Shared} {l b : Addr} {xs ys zs : List V}

/-! ### the two steps: a tracked list is rewritten, a new list is laid -/
theorem Inv.lset {its its' : List Value} {n : Nat} {f : Array Value → Array Value} {t' : Nat} (I : Inv X pins σ H s) (hH : H l = some (.lst xs))
    (e : s.heap.get? l = some { cls := .type "list", data := .seq its.toArray n }) (hf : f its.toArray = its'.toArray) (hv : Vals ys its') (hz : ys.length ≤ sizeLine) :
    Inv X pins σ (upd H l (.lst ys)) { s with heap := s.heap.update l (Obj.mapSeq f), toks := t' } := by
  have q := PySem.IsL.update e f
  rw [hf] at q
  refine I.write (x := l) (e := l) (by rw [hH]; exact trivial) (.inl rfl) (fun b' u hb hu => (Heap.get?_update_other s.heap (Obj.mapSeq f) (Ne.symm hb)).trans hu) ⟨_, q⟩ ?_
  exact ⟨hz, its', _, hv, q⟩
theorem Inv.lnew {its : List Value} {t' : Nat} (I : Inv X pins σ H s) (hv : Vals ys its) (hz : ys.length ≤ sizeLine) :
    Inv X pins σ (upd H s.heap.objs.size (.lst ys)) { s with heap := s.heap.push { cls := .type "list", data := .seq its.toArray }, toks := t' } :=
  I.laid (fun _ _ q => Heap.get?_push_of_some _ q) (Nat.le_refl _) ⟨hz, its, 0, hv, Heap.get?_push_size _ rfl⟩
theorem Inv.fresh (I : Inv X pins σ H s) : H s.heap.objs.size = none := I.hok.fresh (Nat.le_refl _)
theorem Inv.lstM (I : Inv X pins σ H s) (hH : H l = some (.lst xs)) : xs.length ≤ sizeLine ∧ ∃ (its : List Value) (n : Nat), Vals xs its ∧ xs.length = its.length ∧ s.heap.get? l = some { cls := .type "list", data := .seq its.toArray n } := by
  obtain ⟨z, its, n, r, e⟩ := I.hok l _ hH
  exact ⟨z, its, n, r, r.length, e⟩

theorem notLongL {n : Nat} (h : n ≤ sizeLine) : Builtin.List.listTooLong n = false := by
  unfold Builtin.List.listTooLong
  exact decide_eq_false (by omega)
end

section
variable {X : Cx}

/-! ### methods -/
def rAppend : V → List V → Hp → VK → Prop := fun x vs H Q => ∃ l xs y, x = .ref l ∧ vs = [y] ∧ H l = some (.lst xs) ∧ xs.length < sizeLine ∧ Q .non (upd H l (.lst (xs ++ [y])))
theorem mt_append : MtM X "list.append" rAppend := by
  intro pins s σ H x vs v us Q I rx rv h
  obtain ⟨l, xs, y, rfl, rfl, hH, hz, q⟩ := h
  cases rx
  obtain ⟨u, rfl, ru⟩ := rv.one
  obtain ⟨z, its, n, r, hl, e⟩ := I.lstM hH
  refine call_meets F.slot_list_append ⟨_, e, rfl⟩ F.entry_list_append (F.args_list_append_2 _ _) (PySem.list_append l its.toArray n u (by rw [List.size_toArray]; omega)) ⟨e, ?_⟩
  refine ⟨.non, _, I.lset (its' := its ++ [u]) hH e (by simp) (r.append (.cons ru .nil)) ?_, rfl, q⟩
  rw [List.length_append, List.length_singleton]
  omega

def rExtend : V → List V → Hp → VK → Prop := fun x vs H Q => ∃ l b xs zs, x = .ref l ∧ vs = [.ref b] ∧ H l = some (.lst xs) ∧ H b = some (.lst zs) ∧ xs.length + zs.length ≤ sizeLine ∧ Q .non (upd H l (.lst (xs ++ zs)))
theorem mt_extend : MtM X "list.extend" rExtend := by
  intro pins s σ H x vs v us Q I rx rv h
  obtain ⟨l, b, xs, zs, rfl, rfl, hH, hB, hz, q⟩ := h
  cases rx
  obtain ⟨u, rfl, ru⟩ := rv.one
  cases ru
  obtain ⟨z, its, n, r, hl, e⟩ := I.lstM hH
  obtain ⟨z2, its2, n2, r2, hl2, e2⟩ := I.lstM hB
  have hsz : its.toArray.size + its2.toArray.size ≤ sizeLine := by rw [List.size_toArray, List.size_toArray]; omega
  have hlong : ¬ (!its.toArray.isEmpty && Builtin.List.listTooLong (its.toArray.size + its2.toArray.size)) = true := by
    rw [notLongL hsz, Bool.and_false]
    exact Bool.false_ne_true
  refine call_meets F.slot_list_extend ⟨_, e, rfl⟩ F.entry_list_extend (F.args_list_extend_2 _ _)
    (AutoSeq1.list_extend_list_list_0 l its.toArray n b its2.toArray n2 hlong (by rw [List.size_toArray]; omega) (by omega)) ⟨e, e2, ?_⟩
  refine ⟨.non, _, I.lset (its' := its ++ its2) hH e (by simp) (r.append r2) ?_, rfl, q⟩
  rw [List.length_append]
  omega

def rPop : V → List V → Hp → VK → Prop := fun x vs H Q => ∃ l xs y, x = .ref l ∧ vs = [] ∧ H l = some (.lst xs) ∧ xs[xs.length - 1]? = some y ∧ Q y (upd H l (.lst xs.dropLast))
theorem mt_pop : MtM X "list.pop" rPop := by
  intro pins s σ H x vs v us Q I rx rv h
  obtain ⟨l, xs, y, rfl, rfl, hH, hy, q⟩ := h
  cases rx
  have hus := rv.zero
  subst hus
  obtain ⟨z, its, n, r, hl, e⟩ := I.lstM hH
  obtain ⟨u, hu, ru⟩ := r.get hy
  have hy' : its.toArray[its.toArray.size - 1]? = some u := by
    show its.toArray[its.length - 1]? = some u
    rw [← Array.getElem?_toList, ← hl]
    exact hu
  refine call_meets F.slot_list_pop ⟨_, e, rfl⟩ F.entry_list_pop (F.args_list_pop_1 _) (MeetsSeq.list_pop_last l its.toArray n u hy' (by rw [List.size_toArray]; omega)) ⟨e, ?_⟩
  refine ⟨y, _, I.lset (its' := its.dropLast) hH e ?_ r.dropLast ?_, ru, q⟩
  · show its.toArray.eraseIdxIfInBounds (its.toArray.size - 1) = its.dropLast.toArray
    rw [List.size_toArray, List.eraseIdxIfInBounds_toArray, erase_last]
  · rw [List.length_dropLast]
    omega

def rReverse : V → List V → Hp → VK → Prop := fun x vs H Q => ∃ l xs, x = .ref l ∧ vs = [] ∧ H l = some (.lst xs) ∧ Q .non (upd H l (.lst xs.reverse))
theorem mt_reverse : MtM X "list.reverse" rReverse := by
  intro pins s σ H x vs v us Q I rx rv h
  obtain ⟨l, xs, rfl, rfl, hH, q⟩ := h
  cases rx
  have hus := rv.zero
  subst hus
  obtain ⟨z, its, n, r, hl, e⟩ := I.lstM hH
  refine call_meets F.slot_list_reverse ⟨_, e, rfl⟩ F.entry_list_reverse (F.args_list_reverse_1 _) (AutoSeq1.list_reverse_list_0 l its.toArray n (by rw [List.size_toArray]; omega)) ⟨e, ?_⟩
  refine ⟨.non, _, I.lset (its' := its.reverse) hH e (by simp) r.reverse ?_, rfl, q⟩
  rw [List.length_reverse]
  omega

/-! ### list + list, list += list, list * int -/
def rCat : R2 := fun x y H Q => ∃ l b xs zs, x = .ref l ∧ y = .ref b ∧ H l = some (.lst xs) ∧ H b = some (.lst zs) ∧ xs.length + zs.length ≤ sizeLine ∧ ∀ p, H p = none → Q (.ref p) (upd H p (.lst (xs ++ zs)))
theorem op_cat : OpR X (binaryOp .Add) rCat := by
  intro pins s σ H x y v u Q I rx ry h
  obtain ⟨l, b, xs, zs, rfl, rfl, hH, hB, hz, q⟩ := h
  cases rx
  cases ry
  obtain ⟨z, its, n, r, hl, e⟩ := I.lstM hH
  obtain ⟨z2, its2, n2, r2, hl2, e2⟩ := I.lstM hB
  refine PySem.P.add_list e e2 ?_ (by rw [List.size_toArray, List.size_toArray]; omega)
  have ea : its.toArray ++ its2.toArray = (its ++ its2).toArray := by simp
  rw [ea]
  exact ⟨.ref _, _, I.lnew (t' := s.toks) (r.append r2) (by rw [List.length_append]; omega), rfl, q _ I.fresh⟩
/-- a list times an int (a negative one is nothing) -/
def rRep : R2 := fun x y H Q => ∃ l k xs, x = .ref l ∧ y = .int k ∧ H l = some (.lst xs) ∧ -(2 ^ 63) ≤ k ∧ k < 2 ^ 63 ∧ xs.length * k.toNat ≤ sizeLine ∧
  ∀ p, H p = none → Q (.ref p) (upd H p (.lst (List.replicate k.toNat xs).flatten))
theorem len_rep {α : Type} (xs : List α) (k : Nat) : (List.replicate k xs).flatten.length = k * xs.length := by
  induction k with
  | zero => simp
  | succ k ih => rw [List.replicate_succ, List.flatten_cons, List.length_append, ih, Nat.succ_mul, Nat.add_comm]
theorem op_rep : OpR X (binaryOp .Mult) rRep := by
  intro pins s σ H x y v u Q I rx ry h
  obtain ⟨l, k, xs, rfl, rfl, hH, h1, h2, hz, q⟩ := h
  cases rx
  obtain ⟨t, rfl⟩ := ry
  obtain ⟨z, its, n, r, hl, e⟩ := I.lstM hH
  have hlen : its.toArray.size * k.toNat ≤ sizeLine := by rw [List.size_toArray, ← hl]; exact hz
  have hcap : ¬ its.toArray.size * k.toNat > (2 ^ 63 - 1) / 8 := by
    have : (sizeLine : Nat) ≤ (2 ^ 63 - 1) / 8 := by decide
    omega
  have hfit : ¬ (!Builtin.List.listFitsIndex k) = true := by
    rw [fitsIndex_both h1 h2]
    exact Bool.false_ne_true
  have hlong : ¬ Builtin.List.listTooLong (its.toArray.size * k.toNat) = true := by
    rw [notLongL hlen]
    exact Bool.false_ne_true
  have hnew : List.foldl (fun x1 x2 => x1 ++ x2) #[] (List.replicate (if its.toArray.isEmpty = true then 0 else k.toNat) its.toArray) = (List.replicate k.toNat its).flatten.toArray := by
    have f0 : ∀ m : Nat, List.foldl (fun x1 x2 => x1 ++ x2) #[] (List.replicate m its.toArray) = (List.replicate m its).flatten.toArray := fun m => by
      have := foldl_rep its m []
      rw [List.nil_append] at this
      exact this
    rw [f0]
    cases its with
    | nil => simp
    | cons a r' => rw [if_neg (by simp)]
  refine wpAny_binaryOp_repeat_ref (T := "list") (U := "int") (by decide) ⟨_, e, rfl⟩ (fun s' => typeIs_int s' k t) noFill_list_mul F.fills_int_mul F.slot_int_rmul repeat_list F.slot_int_index.lookup
    (call_meets F.slot_int_rmul (typeIs_int s k t) F.entry_int_rmul (F.args_int_rmul_2 _ _) (int___rmul___int_list k t l its.toArray n)
      ⟨e, rfl, ⟨_, e, rfl⟩, call_meets F.slot_list_mul ⟨_, e, rfl⟩ F.entry_list_mul (F.args_list_mul_2 _ _) (AutoListH.list___mul___list_int_3 l its.toArray n k t hfit hcap hlong) ⟨e, ?_⟩⟩)
  rw [hnew]
  exact ⟨.ref _, _, I.lnew (t' := s.toks) (r.rep k.toNat) (by rw [len_rep, Nat.mul_comm]; exact hz), rfl, q _ I.fresh⟩

end

/-! ### xs[a:b] = ys -/
section
variable {prog : Program} {w : World} {A : Around} {E : Value → Shared → Prop} {s : Shared}
end

section
variable {X : Cx}
end
end L2

namespace Att
open PySem PySem.W PySem.Calls PyProof.Rows

/-! ### the script -/
theorem ints_of_wellAll {P : Params} {h : Heap} : ∀ (ns : List Int) (vs : List Value), WellAll P h vs (ns.map WData.int) → IntsAre vs ns := by
  intro ns
  induction ns with
  | nil =>
    intro vs w
    rw [List.map_nil] at w
    cases w
    exact .nil
  | cons n ns ih =>
    intro vs w
    rw [List.map_cons] at w
    cases w with
    | cons a b =>
      cases a
      exact .cons _ _ (ih _ b)

theorem script_of {l : OpenLaw} {n : Nat} (hn : l.most = some n) {P : Params} {h : Heap} {args : List WData} {vals : List Value}
    (hpre : l.row.toRowW.claim.pre args = true) (hwl : WellAll P h vals args) :
    ∃ a vs ns, vals = [Value.ref a] ∧ args = [WData.list (ns.map WData.int)] ∧ h.get? a = some { cls := .type "list", data := .seq vs.toArray } ∧ IntsAre vs ns ∧ ns.length ≤ n := by
  have hsh : WShape.hasAll [] args [.list .int] = true := (pre_splitW hpre).1
  have hc : l.pre.holds [] { args := args } = true := (pre_splitW hpre).2
  obtain ⟨d, r, rfl, h1, h2⟩ := hasAllW_cons hsh
  obtain rfl := hasAllW_nil h2
  obtain ⟨xs, rfl, h3⟩ := hasW_list h1
  obtain ⟨ns, rfl⟩ := items_int h3
  have hlen : ns.length ≤ n := by
    unfold OpenLaw.pre at hc
    have h4 : (WTm.not (.lt (.lit (.int (n : Int))) (.len (.arg 0)))).holds [] { args := [.list (ns.map .int)] } = true := by
      have h4 := (holds_andW hc).1
      rw [hn] at h4
      exact h4
    have h5 := condW_of h4 (w_not (w_lt w_lit (w_len_list (w_arg rfl))))
    rw [List.length_map] at h5
    refine Nat.le_of_not_lt fun q => ?_
    have q' : (n : Int) < ((ns.length : Nat) : Int) := by omega
    first
      | (rw [decide_eq_true q'] at h5; exact absurd h5 (by decide))
      | (simp at h5; omega)
  cases hwl with
  | cons w1 w2 =>
    cases w2
    cases w1 with
    | list ho hall => exact ⟨_, _, ns, rfl, rfl, ho, ints_of_wellAll ns _ hall, hlen⟩

theorem post_true (l : OpenLaw) (args : List WData) : l.row.toRowW.claim.post args (.bool true) args = true :=
  postW_of (r := l.row.toRowW) (X := (true == true))
    (show WShape.has [] (.bool true) .bool = true by first | rfl | decide | simp [WShape.has, WShape.arms, WShape.armsAll])
    (show (WTm.eq .res (.lit (.bool true))).value [] { args := args, res := some (.bool true), after := args } = some (.bool (true == true)) from w_eq_bool (w_res rfl) w_lit) rfl

/-- the same from a codeAny of the CALL (for a layer whose function contracts speak of calls) -/
theorem attach_call {l : OpenLaw} {n : Nat} {q : Program} {loose : List Str} {XP : (Str → Option Value) → Heap → Prop} {YP : World → Heap → Prop} {d : DefRec}
    (hn : l.most = some n) (hdf : d.params.defaults = [])
    (call : ∀ (w : World) (s₀ s₁ : Shared) (mg mb : Str → Option Value) (fa : Addr) (o : Obj) (pm cd doc : Value) (a : Addr) (vs : List Value) (ns : List Int),
      Ground q loose [] XP w s₀ mg mb s₁.heap → YP w s₁.heap →
      s₁.heap.get? fa = some o → o.data = .func (docDef d.name d.params d.body d.scope pm cd doc) → s₁.heap.CodeRec cd d.name → mg d.name = some (.ref fa) →
      s₁.heap.get? a = some { cls := .type "list", data := .seq vs.toArray } → IntsAre vs ns → ns.length ≤ n → s₁.gens = #[] →
      codeAny (model l.prog w) callerA (.call (.ref fa) ⟨[.ref a], []⟩) (fun r s' => r = .ok (.ret (.bool true)) ∧ OldK s₁.heap s'.heap ∧ s'.os = s₁.os ∧ AllBare s'.gens) s₁) :
    WalkO q loose XP YP l.row.toRowW d [] (fun f vs => PySem.call f vs) := by
  intro w s₀ s₁ mg mb G Y fa o pm cd doc dV kV ho hd hcd hD hmg hg args vals as hpre hlay hrd hwl hlo
  obtain rfl : dV = .none := Dflts.none hD hdf
  obtain rfl : kV = .none := Dflts.noKw hD
  obtain ⟨a, vs, ns, rfl, rfl, hobj, hints, hlen⟩ := script_of hn hpre hwl
  refine enter_call (codeAny_mono (call w s₀ s₁ mg mb fa o pm cd doc a vs ns G Y ho (fd_plain hd) hcd hmg hobj hints hlen hg) fun r s' hq => ?_)
  obtain ⟨rfl, h2, h3, h4⟩ := hq
  exact ⟨.inl ⟨.bool true, .bool true, [], rfl, fun _ => rfl, .bool true, post_true l _, fun _ => ⟨List.Pairwise.nil, fun _ hm => (nomatch hm)⟩⟩, h2, h3, h4⟩

/-! ### rules over ANY heap (no ledger) from facts about the written part K: the library's own take a ledger (News) for what they write -/
section
variable {prog : Program} {w : World} {A : Around} {E : Value → Shared → Prop} {s : Shared} {K : Frag}

end
end Att

namespace L2
open PySem PySem.Spec PyProof.Rows

theorem vals_ints : ∀ {vs : List Value} {ns : List Int}, IntsAre vs ns → Vals (ns.map V.int) vs
  | _, _, .nil => .nil
  | _, _, .cons n t h => .cons ⟨t, rfl⟩ (vals_ints h)

/-- nothing is tracked but the script, known to the object (or it is an object of the module) -/
def Only (H : Hp) : Prop := ∀ b, H b = none ∨ ∃ o xs, H b = some (.frz o (.lst xs))

/-- THE HEAD: the law's promise, at the heap behind the top. F, the promise of the law's def, may use that base is part of the heap (so K.In base, base.Ns mainGlobals mg stand in Mod) -/
theorem law_call {P : Program} {w : World} {K : PySem.W.Frag} {mg mb : Str → Option Value} {CX : CXT} {k : Nat} {fa a : Addr} {fd : FuncData} {x : Str} {sp : Sp} {s₁ : Shared} {vs : List Value} {ns : List Int}
    (KX : K.In s₁.heap) (hns : s₁.heap.Ns mainGlobals mg) (hb : s₁.heap.Ns builtinsNs mb) (hbb : ∀ x : Str, x ≠ "__name__" → mb x = bootBuiltins x) (hlim : s₁.heap.NoLimit) (hg : s₁.gens = #[])
    (ha : s₁.heap.get? a = some { cls := .type "list", data := .seq vs.toArray }) (hi : IntsAre vs ns) (hl : ns.length ≤ sizeLine) (hr : Room k callerA)
    (F : ∀ base : Heap, K.In base → base.Ns mainGlobals mg → FnOk P w K mg base CX k fa fd [x] sp) (hbind : ∀ (s : Shared) (u : Value), BindsTo s fd ⟨[u], []⟩ [(x, u)])
    (hsp : ∀ H : Hp, Only H → SqL K H a (ns.map V.int) → sp [.ref a] H (fun v _ => v = .bl true) fun _ _ _ => False)
    (hCX : ∀ H e s', CX [] H s₁ (fun _ _ _ => False) e s' → False) :
    codeAny (model P w) callerA (.call (.ref fa) ⟨[.ref a], []⟩) (fun r s' => r = .ok (.ret (.bool true)) ∧ OldK s₁.heap s'.heap ∧ s'.os = s₁.os ∧ AllBare s'.gens) s₁ := by
  have rv := vals_ints hi
  have lenV := hi.length
  -- from an abstract heap in which nothing but the script may be tracked
  have core : ∀ H : Hp, Only H → SqL K H a (ns.map V.int) → HOk P w H s₁.heap → (∀ b, H b ≠ none → b = a) → (H a ≠ none → K.lookup a = none) →
      codeAny (model P w) callerA (.call (.ref fa) ⟨[.ref a], []⟩) (fun r s' => r = .ok (.ret (.bool true)) ∧ OldK s₁.heap s'.heap ∧ s'.os = s₁.os ∧ AllBare s'.gens) s₁ := by
    intro H hO hS hok hA hK
    have base_of : ∀ {b : Addr} {o : Obj}, s₁.heap.get? b = some o → H b = none → (hidT s₁.heap H).get? b = some o := fun e n => hidT_get e n
    have noA : ∀ {b : Addr} {o : Obj} {es : Array DictEntry} {ep : Nat}, s₁.heap.get? b = some o → o.data = .dict es ep → H b = none := fun {b o es ep} e d => by
      cases q : H b with
      | none => rfl
      | some u =>
        have e' : b = a := hA b (by rw [q]; simp)
        subst e'
        rw [ha] at e; cases e
        have d' : Data.seq vs.toArray _ = Data.dict es ep := d
        cases d'
    have nsK : ∀ {b : Addr} {m : Str → Option Value}, s₁.heap.Ns b m → (hidT s₁.heap H).Ns b m := fun {b m} ⟨o, es, ep, e, d, r⟩ => ⟨o, es, ep, base_of e (noA e d), d, r⟩
    have hKb : K.In (hidT s₁.heap H) := fun b o e => base_of (KX b o e) (by
      cases q : H b with
      | none => rfl
      | some u =>
        have e' : b = a := hA b (by rw [q]; simp)
        subst e'
        rw [hK (by rw [q]; simp)] at e; cases e)
    have hM : Mod K mg (hidT s₁.heap H) := ⟨hKb, nsK hns, ⟨mb, nsK hb, hbb⟩, let ⟨mc, h1, h2⟩ := hlim; ⟨mc, nsK h1, h2⟩⟩
    have e0 : Env0 P w K mg (hidT s₁.heap H) callerA [] s₁ H := ⟨rfl, hM, fun b o e => of_hidT e, Nat.le_of_eq (hidT_size _ _), trivial, fun b hb => absurd (show b ∈ ([] : List Addr) from hb) (by simp), hok, .of_eq hg⟩
    refine codeAny_mono ((F _ hKb (nsK hns)).run callerA [] s₁ H ⟨[.ref a], []⟩ [.ref a] [.ref a] _ _ hr e0 (hbind s₁ (.ref a)) (.cons rfl .nil) (hsp H hO hS)) fun r s' h => ?_
    cases r with
    | error e => exact (hCX H e s' h).elim
    | ok fl =>
      cases fl with
      | next => exact False.elim h
      | brk => exact False.elim h
      | cont => exact False.elim h
      | ret u =>
        obtain ⟨v, H', os, bare, un, hok', r', q⟩ := h
        have q' : v = .bl true := q
        subst q'
        obtain rfl : u = Value.bool true := r'
        refine ⟨rfl, OldK.of_keep fun b o e => ?_, os, bare⟩
        cases q : H b with
        | none => exact un.keep b o e q (by intro z; exact absurd (show b ∈ ([] : List Addr) from z) (by simp)) (by simp)
        | some u =>
          rcases hO b with z | ⟨ob, xs, z⟩
          · rw [q] at z; cases z
          · have z2 := un.frzs b ob _ z
            obtain ⟨e1, _⟩ := hok b _ z
            obtain ⟨e2, _⟩ := hok' b _ z2
            rw [e] at e1; cases e1
            exact e2
  cases hk : K.lookup a with
  | some o =>
    -- the script is one of the module's own objects
    have e := KX a o hk
    rw [ha] at e
    cases e
    refine core (fun _ => none) (fun _ => .inl rfl) (.inr ⟨_, vs.toArray, _, hk, rfl, rfl, rfl, by rw [List.size_toArray, lenV]; exact hl, by simpa using rv⟩) (fun b u z => by have z' : (none : Option HO) = some u := z; cases z') (fun b z => absurd rfl z) fun z => absurd rfl z
  | none =>
    refine core (fun b => if b = a then some (.frz { cls := .type "list", data := .seq vs.toArray } (.lst (ns.map V.int))) else none) (fun b => ?_) (.inl (.inr ⟨{ cls := .type "list", data := .seq vs.toArray }, if_pos rfl⟩)) (fun b u z => ?_) (fun b z => ?_) fun _ => hk
    · by_cases hb : b = a
      · exact .inr ⟨_, _, if_pos hb⟩
      · exact .inl (if_neg hb)
    · by_cases hb : b = a
      · have z' := (if_pos hb).symm.trans z
        cases z'
        subst hb
        exact ⟨ha, by rw [List.length_map]; exact hl, vs, _, rv, ha⟩
      · have z' := (if_neg hb).symm.trans z
        cases z'
    · by_cases hb : b = a
      · exact hb
      · exact absurd (if_neg hb) z
end L2

namespace L2
open PySem PySem.Spec PyProof.Rows

/-- the goal that k_head leaves (case hc), from the law's promise. F gives the function object fd (K's own) once, then the promise over every base -/
theorem walk_of {l : PySem.W.OpenLaw} {n k : Nat} {q : Program} {loose : List Str} {XP : (Str → Option Value) → Heap → Prop} {YP : World → Heap → Prop} {d : DefRec} {K : Params → PySem.W.Frag} {CX : World → CXT} {sp : World → Sp} {x : Str}
    (hn : l.most = some n) (hn2 : n ≤ sizeLine) (hdf : d.params.defaults = []) (hr : Room k callerA)
    (hY : ∀ (w : World) (h : Heap), YP w h → (K w.params).In h)
    (F : ∀ (w : World) (mg : Str → Option Value) (fa : Addr) (h : Heap), (K w.params).In h → h.Ns mainGlobals mg → mg d.name = some (.ref fa) →
      ∃ fd : FuncData, (∀ (s : Shared) (u : Value), BindsTo s fd ⟨[u], []⟩ [(x, u)]) ∧
        ∀ base : Heap, (K w.params).In base → base.Ns mainGlobals mg → FnOk l.prog w (K w.params) mg base (CX w) k fa fd [x] (sp w))
    (hsp : ∀ (w : World) (H : Hp) (a : Addr) (ns : List Int), ns.length ≤ n → Only H → SqL (K w.params) H a (ns.map V.int) → sp w [.ref a] H (fun v _ => v = .bl true) fun _ _ _ => False)
    (hCX : ∀ (w : World) (H : Hp) (s : Shared) (e : Value) (s' : Shared), CX w [] H s (fun _ _ _ => False) e s' → False) :
    PySem.W.WalkO q loose XP YP l.row.toRowW d [] (fun f vs => PySem.call f vs) := by
  refine Att.attach_call hn hdf fun w s₀ s₁ mg mb fa o pm cd doc a vs ns G Y ho hd hcd hmg hobj hints hlen hg => ?_
  have KX := hY w _ Y
  obtain ⟨fd, hb, hF⟩ := F w mg fa _ KX G.T.g hmg
  exact law_call KX G.T.g G.T.b G.T.builtins G.T.nolimit hg hobj hints (Nat.le_trans hlen hn2) hr hF hb (fun H hO hS => hsp w H a ns hlen hO hS) fun H e s' => hCX w H s₁ e s'
end L2



/-! SHORT WORDS over the layer: a def of the text, its body, what a loop and a test want. -/
namespace L2
open PySem PySem.Spec PyProof.Rows

/-! ### the text by places -/
/-- the j-th statement of a class's body -/
def inClass (s : Stmt) (j : Nat) : Stmt := match s with
  | .ClassDef _ _ _ body _ _ _ _ _ _ _ => body.getD j (.Pass ⟨0, 0, 0, 0⟩)
  | _ => .Pass ⟨0, 0, 0, 0⟩
def defArgs (s : Stmt) : Arguments := match s with
  | .FunctionDef _ a _ _ _ _ _ _ _ _ => a
  | _ => { posonlyargs := [], args := [], vararg := none, kwonlyargs := [], kw_defaults := [], kwarg := none, defaults := [] }
def defBody (s : Stmt) : List Stmt := match s with
  | .FunctionDef _ _ b _ _ _ _ _ _ _ => b
  | _ => []
def defScope (s : Stmt) : Scope := match s with
  | .FunctionDef _ _ _ _ _ _ sc _ _ _ => sc
  | _ => { kind := .function, names := [], isGenerator := false, isCoroutine := false }

/-! ### no exception leaves a def -/
abbrev CX0 : CXT := fun _ _ _ _ _ _ => False
abbrev E0 : XK := fun _ _ _ => False
theorem pass0 {X : Cx} : Passes CX0 X E0 := fun _ _ _ _ _ _ _ h => h.elim

/-! ### a def (or method) of the text as it stands behind the top -/
structure Fun (K : PySem.W.Frag) (x qual : Str) (st : Stmt) (f : Addr) (fd : FuncData) : Prop where
  ex : ∃ (oc : Value) (od : Option Addr) (kV doc pm : Value) (an : Option Addr) (cdv ct : Value) (osl : Array (Option Value)),
    fd = PySem.W.fnOf x qual (defArgs st) (defBody st) (defScope st) .none kV doc pm an cdv ct ∧ K.lookup f = some ⟨oc, od, .func fd, osl⟩ ∧ PySem.W.codeIn K cdv qual = true
  kp : PySem.W.keepIn K (.ref f) = true
section
variable {P : Program} {w : World} {K : PySem.W.Frag} {mg : Str → Option Value} {base : Heap}
/-- THE RULE for a def: its body as a term of rules, and the reading of that term -/
theorem Fun.ok {x qual : Str} {st : Stmt} {f : Addr} {fd : FuncData} {N ps : List Str} {k : Nat} {sp : Sp} (F : Fun K x qual st f fd) (S : FnScope N ps (defScope st)) (len : ∀ vs H Q E, sp vs H Q E → vs.length = ps.length)
    (hbody : ∀ (cdv : Value) (A : Around) (outer : List Env) (s : Shared) (H : Hp) (vs : List V) (Q : VK) (E : XK), Room k (A.deeper (envOfC qual (defScope st) s.heap.objs.size f cdv)) → sp vs H Q E →
      ∃ t, PSs (cxOf CX0 P w K mg base N qual (defScope st) f cdv A outer s H E).nox (defBody st) t ∧ t { nx := fun _ H' => Q .non H', rt := Q } (start N vs) H) : FnOk P w K mg base CX0 (k + 1) f fd ps sp := by
  obtain ⟨oc, od, kV, doc, pm, an, cdv, ct, osl, rfl, lk, hcd⟩ := F.ex
  refine fn_of lk hcd S len fun A outer s H vs Q E hr hsp => ?_
  obtain ⟨t, h, q⟩ := hbody cdv A outer s H vs Q E hr hsp
  exact ⟨t, h.nox, q⟩
/-- how its arguments bind (no defaults): h is «fun _ _ _ _ _ _ us hl => match us, hl with | [_, _], _ => rfl», one _ a parameter -/
theorem Fun.binds {x qual : Str} {st : Stmt} {f : Addr} {fd : FuncData} {ps : List Str} (F : Fun K x qual st f fd)
    (h : ∀ (kV doc pm : Value) (an : Option Addr) (cdv ct : Value) (us : List Value), us.length = ps.length → bindArgs (PySem.W.fnOf x qual (defArgs st) (defBody st) (defScope st) .none kV doc pm an cdv ct) ⟨us, []⟩ = pure (ps.zip us)) : Binds K fd ps [] := by
  obtain ⟨oc, od, kV, doc, pm, an, cdv, ct, osl, rfl, lk, hcd⟩ := F.ex
  exact .all (h kV doc pm an cdv ct)
theorem fun_mk {x qual : Str} {st : Stmt} {f : Addr} {oc : Value} {od an : Option Addr} {osl : Array (Option Value)} {kV doc pm cdv ct : Value} (l : K.lookup f = some ⟨oc, od, .func (PySem.W.fnOf x qual (defArgs st) (defBody st) (defScope st) .none kV doc pm an cdv ct), osl⟩)
    (c : PySem.W.codeIn K cdv qual = true) (k : PySem.W.keepIn K (.ref f) = true) : Fun K x qual st f (PySem.W.fnOf x qual (defArgs st) (defBody st) (defScope st) .none kV doc pm an cdv ct) := ⟨⟨oc, od, kV, doc, pm, an, cdv, ct, osl, rfl, l, c⟩, k⟩
end
theorem small1000 {n : Nat} (h : n ≤ 1000) : n < sizeLine := Nat.lt_of_le_of_lt h (by decide)

/-! ### expressions in short: the name that stands in the i-th slot -/
section
variable {X : Cx}
theorem pv (i : Nat) {x : Str} {pos : Pos} (hN : X.N[i]? = some x := by rfl) (hv : Vis X.env.scope x := by first | exact Or.inl rfl | exact Or.inr (Or.inl rfl) | exact Or.inr (Or.inr rfl)) (hd : (x == ("__debug__" : Str)) = false := by decide)
    (hcd : (x == ("__classdict__" : Str)) = false := by decide) : PE X (.Name x pos) (tVar i) := pe_var hN hv hd hcd
end

/-! ### tests -/
theorem iteF {A B : Prop} (h : B) : if false = true then A else B := by
  rw [if_neg Bool.false_ne_true]
  exact h
theorem iteT {A B : Prop} (h : A) : if true = true then A else B := by
  rw [if_pos rfl]
  exact h
/-! ### heaps -/
/-- all that was tracked is as it was -/
def Same (H H' : Hp) : Prop := ∀ b o, H b = some o → H' b = some o
theorem Same.refl (H : Hp) : Same H H := fun _ _ h => h
theorem Same.trans {H H1 H2 : Hp} (a : Same H H1) (b : Same H1 H2) : Same H H2 := fun c o h => b c o (a c o h)
theorem Same.free {H H' : Hp} (e : Same H H') {l : Addr} (h : H' l = Option.none) : H l = Option.none := by
  cases q : H l with
  | none => rfl
  | some o =>
    rw [e l o q] at h
    cases h
theorem Same.seq {K : PySem.W.Frag} {H H' : Hp} {a : Addr} {xs : List V} (e : Same H H') (h : SqL K H a xs) : SqL K H' a xs := by
  rcases h with (h | ⟨o, h⟩) | h
  · exact .inl (.inl (e _ _ h))
  · exact .inl (.inr ⟨o, e _ _ h⟩)
  · exact .inr h

end L2


section
set_option Elab.async false
set_option linter.all false
set_option maxRecDepth 100000
set_option maxHeartbeats 4000000
/-! My own rules behind the layer: list comprehensions. -/
namespace L2
open PySem PySem.Spec PyProof.Rows

/-! ### the loop of a comprehension, no exception within -/
section
variable {prog : Program} {w : World} {A : Around} {R : Result → Shared → Prop} {s : Shared}
/-- the tests of a clause -/
def lcTests (ifs : List Expr) (env : Env) : Sem Bool :=
  forIn ifs true fun c r => if r = true then do let ok ← isTrue c env (eval c env); pure (ForInStep.yield ok) else pure (ForInStep.yield r)
theorem lc_loop {elt tg iter : Expr} {ifs : List Expr} {scope : Scope} {pos : Pos} {it acc : Value} {env : Env} (J : Nat → Shared → Prop)
    (turn : ∀ n s, J n s → wpAny (model prog w) A (pyNext it) (fun r s1 => match r with
      | none => R (.ok .next) s1
      | some v => wpAny (model prog w) A (letOwnedTupleGo tg it v) (fun _ s2 => wpAny (model prog w) A (assign tg env v) (fun _ s3 => wpAny (model prog w) A (lcTests ifs env) (fun ok s4 =>
          if ok = true then wpAny (model prog w) A (eval elt env) (fun x s5 => wpAny (model prog w) A (call (.builtin "list.append") [acc, x]) (fun _ s6 => ∃ m, m < n ∧ J m s6) (fun _ _ => False) s5) (fun _ _ => False) s4
          else ∃ m, m < n ∧ J m s4) (fun _ _ => False) s3) (fun _ _ => False) s2) (fun _ _ => False) s1) (fun _ _ => False) s)
    (n : Nat) (h : J n s) : codeAny (model prog w) A (.compLoop (.ListComp elt [⟨tg, iter, ifs, 0⟩] scope pos) 0 it acc env) R s := by
  refine codeAny_loop rfl J (fun n s hJ => ?_) n h
  show wpAny _ A (Sem.onRaise (compTurn (.ListComp elt [⟨tg, iter, ifs, 0⟩] scope pos) 0 it acc env) _) _ _ s
  refine wpAny_noted ?_
  rw [compTurn_list]
  refine wpAny_bind (wpAny_standAt (wpAny_bind (wpAny_mono (turn n s hJ) (fun r s1 h1 => ?_) (fun _ _ z => z.elim))))
  cases r with
  | none => exact wpAny_pure h1
  | some v =>
    refine wpAny_bind (wpAny_mono h1 (fun _ s2 h2 => wpAny_bind (wpAny_mono h2 (fun _ s3 h3 => wpAny_bind (wpAny_mono h3 (fun ok s4 h4 => ?_) (fun _ _ z => z.elim))) (fun _ _ z => z.elim))) (fun _ _ z => z.elim))
    cases ok with
    | false => exact wpAny_pure ⟨rfl, h4⟩
    | true => exact wpAny_bind (wpAny_bind (wpAny_mono h4 (fun x s5 h5 => wpAny_bind (wpAny_mono h5 (fun _ s6 h6 => wpAny_pure (wpAny_pure ⟨rfl, h6⟩)) (fun _ _ z => z.elim))) (fun _ _ z => z.elim)))
end

/-! ### the closure of a comprehension's block -/
def cloGo (env : Env) : List (Str × NameKind) → List (Str × Addr) → List (Str × Addr)
  | [], cs => cs
  | y :: r, cs => if y.2 = .free then cloGo env r ((y.1, (env.cells.lookup y.1).getD 0) :: cs) else cloGo env r cs
theorem clo_run {env : Env} (f : Str × NameKind → List (Str × Addr) → Sem (ForInStep (List (Str × Addr))))
    (h1 : ∀ y cs c, y.2 = .free → env.cells.lookup y.1 = some c → f y cs = pure (.yield ((y.1, c) :: cs))) (h2 : ∀ y cs, y.2 ≠ .free → f y cs = pure (.yield cs)) :
    ∀ (ns : List (Str × NameKind)) (cs : List (Str × Addr)), (∀ y ∈ ns, y.2 = .free → ∃ c, env.cells.lookup y.1 = some c) → forIn ns cs f = (pure (cloGo env ns cs) : Sem (List (Str × Addr)))
  | [], cs, _ => by simp [cloGo]
  | y :: r, cs, h => by
    have hr : ∀ z ∈ r, z.2 = .free → ∃ c, env.cells.lookup z.1 = some c := fun z hz => h z (List.mem_cons_of_mem _ hz)
    rw [List.forIn_cons]
    by_cases hy : y.2 = .free
    · obtain ⟨c, hc⟩ := h y List.mem_cons_self hy
      rw [h1 y cs c hy hc]
      simp only [cloGo, if_pos hy, hc, Option.getD_some]
      exact clo_run f h1 h2 r _ hr
    · rw [h2 y cs hy]
      simp only [cloGo, if_neg hy]
      exact clo_run f h1 h2 r _ hr
theorem closure_eq {scope : Scope} {env : Env} (h : ∀ y ∈ scope.names, y.2 = .free → ∃ c, env.cells.lookup y.1 = some c) : closureFor scope env = pure (cloGo env scope.names []) := by
  unfold closureFor
  dsimp only
  rw [clo_run (env := env) _ (fun y cs c hy hc => ?_) (fun y cs hy => ?_) scope.names [] h]
  · rfl
  · obtain ⟨n, k⟩ := y
    dsimp only at hy hc ⊢
    subst hy
    simp only [cellOf, hc, beq_self_eq_true, if_true]
    rfl
  · obtain ⟨n, k⟩ := y
    have e : (k == NameKind.free) = false := by simpa using hy
    simp only [e, Bool.false_eq_true, if_false]
theorem cloGo_sub {env : Env} : ∀ (ns : List (Str × NameKind)) (cs : List (Str × Addr)) (x : Str) (c : Addr), (∀ y ∈ ns, y.2 = .free → ∃ c, env.cells.lookup y.1 = some c) →
    (∀ z d, cs.lookup z = some d → env.cells.lookup z = some d) → (cloGo env ns cs).lookup x = some c → env.cells.lookup x = some c
  | [], cs, x, c, _, hc, h => hc x c h
  | y :: r, cs, x, c, hy, hc, h => by
    have hr : ∀ z ∈ r, z.2 = .free → ∃ c, env.cells.lookup z.1 = some c := fun z hz => hy z (List.mem_cons_of_mem _ hz)
    unfold cloGo at h
    split at h
    · rename_i hk
      obtain ⟨d, hd⟩ := hy y List.mem_cons_self hk
      rw [hd] at h
      refine cloGo_sub r _ x c hr (fun z e hz => ?_) h
      rw [List.lookup_cons] at hz
      split at hz
      · rename_i hzy
        cases hz
        rw [eq_of_beq hzy]; exact hd
      · exact hc z e hz
    · exact cloGo_sub r _ x c hr hc h
theorem cloGo_keep {env : Env} : ∀ (ns : List (Str × NameKind)) (cs : List (Str × Addr)) (x : Str), (cs.lookup x).isSome = true → ((cloGo env ns cs).lookup x).isSome = true
  | [], _, _, h => h
  | y :: r, cs, x, h => by
    unfold cloGo
    split
    · refine cloGo_keep r _ x ?_
      rw [List.lookup_cons]
      split
      · rfl
      · exact h
    · exact cloGo_keep r _ x h
theorem cloGo_has {env : Env} : ∀ (ns : List (Str × NameKind)) (cs : List (Str × Addr)) (x : Str), (x, NameKind.free) ∈ ns → ((cloGo env ns cs).lookup x).isSome = true
  | [], _, _, h => by simp at h
  | y :: r, cs, x, h => by
    rcases List.mem_cons.mp h with e | e
    · subst e
      unfold cloGo
      rw [if_pos rfl]
      exact cloGo_keep r _ x (by simp)
    · unfold cloGo
      split
      · exact cloGo_has r _ x e
      · exact cloGo_has r _ x e
theorem relabel_of {scope : Scope} {env : Env} {x : Str} {k : NameKind} (h : (relabel scope env).names.lookup x = some k) : (x, k) ∈ scope.names ∨ ((x, NameKind.free) ∈ scope.names ∧ k = NameKind.cell) := by
  have m := PySem.mem_of_lookup h
  obtain ⟨⟨n, k'⟩, hm, e⟩ := List.mem_map.mp m
  dsimp only at e
  split at e
  · rename_i hk
    cases e
    simp only [Bool.and_eq_true, beq_iff_eq] at hk
    rw [hk.1.1] at hm
    exact .inr ⟨hm, rfl⟩
  · cases e
    exact .inl hm
theorem relabel_free {scope : Scope} {env : Env} (hk : env.scope.kind = .function) {x : Str} (hx : env.kindOf x = some .cell) (h : scope.names.lookup x = some .free) : (relabel scope env).names.lookup x = some .cell := by
  unfold relabel
  show (scope.names.map _).lookup x = some NameKind.cell
  generalize scope.names = ns at h
  induction ns with
  | nil => simp at h
  | cons y r ih =>
    obtain ⟨n, k⟩ := y
    rw [List.lookup_cons] at h
    rw [List.map_cons]
    split at h
    · rename_i hn
      cases h
      rw [← eq_of_beq hn]
      simp [hk, hx]
    · rename_i hn
      dsimp only
      split
      · rw [List.lookup_cons, hn]; exact ih h
      · rw [List.lookup_cons, hn]; exact ih h

/-! ### the block's context -/
def cxLc (X : Cx) (scope : Scope) (N : List Str) (C : Addr) (s : Shared) (H : Hp) (fp : List Addr) : Cx :=
  { X with N := N, s₀ := s, H₀ := H, env := compEnvC scope (cloGo X.env scope.names []) C X.env, outer := X.stack, ex := fp, fn := fun _ => false, pn := [], xe := fun _ _ => False }
/-- what must hold of the scopes: N₀, sc₀ are the def's; N the block's names: x, then those from around, which stand in the def's slots ix -/
structure LcScope (N₀ : List Str) (sc₀ sc : Scope) (x : Str) (N : List Str) (ix : List Nat) : Prop where
  kind : sc.kind = .function
  nocell : ∀ y ∈ sc.names, y.2 ≠ .cell
  names : ∀ y ∈ sc.names, y.2 = .local → sc.names.lookup y.1 = some .local
  free : ∀ y ∈ sc.names, y.2 = .free → sc₀.names.lookup y.1 = some .cell
  nd : N.Nodup
  hd : N.head? = some x
  loc : sc.names.lookup x = some .local
  len : N.length = ix.length + 1
  at_ : ∀ p ∈ N.tail.zip ix, N₀[p.2]? = some p.1 ∧ sc.names.lookup p.1 = some .free
/-- the values of the names from around -/
def frV (σ : St) (ix : List Nat) : St := ix.map fun j => (σ[j]?).getD none
def PIf (X : Cx) (ifs : List Expr) (t : TT) : Prop :=
  ∀ (pins : List (Addr × Obj)) (s : Shared) (σ : St) (H : Hp) (Q : Bool → Hp → Prop), Inv X pins σ H s → t σ H Q → wpAny (model X.prog X.w) X.A (lcTests ifs X.env) (TP X pins σ Q) X.xe s
def tYes : TT := fun _ H Q => Q true H
theorem pif_nil {X : Cx} : PIf X [] tYes := fun pins s σ H Q I h => wpAny_tests_nil ⟨H, I, h⟩
theorem pif_one {X : Cx} {c : Expr} {t : TT} (h : PT X c t) : PIf X [c] t := fun pins s σ H Q I hw => wpAny_tests_one (h pins s σ H Q I hw)
/-- what is told of a comprehension: J the walked thing, H the heap at its begin -/
def rdLc (J : It) (H1 : Hp) (fr : St) (tc : TT) (te : TE) (Q : VK) : Prop := ∀ D, H1 D = none → ∃ W : Nat → Nat → Hp → Prop, (∃ m, W 0 m (upd H1 D (.lst []))) ∧ ∀ i m H, W i m H →
  (J.stop i H ∧ Q (.ref D) H) ∨ (J.go i H ∧ ∀ x H', J.yld i H x H' → tc (some x :: fr) H' fun b H3 =>
    if b = true then te (some x :: fr) H3 fun y H4 => ∃ ys, H4 D = some (.lst ys) ∧ ys.length < sizeLine ∧ ∃ m', m' < m ∧ W (i + 1) m' (upd H4 D (.lst (ys ++ [y]))) else ∃ m', m' < m ∧ W (i + 1) m' H3)
def tLc (wi : TI) (ix : List Nat) (tc : TT) (te : TE) : TE := fun σ H Q => wi σ H fun J H1 => rdLc J H1 (frV σ ix) tc te Q

section
variable {X : Cx} {scope : Scope} {N : List Str} {ix : List Nat} {x : Str} {px : Pos} {elt iter : Expr} {ifs : List Expr} {tc : TT} {te : TE} {pos : Pos}
theorem lc_ok {pins : List (Addr × Obj)} {σ : St} {H2 : Hp} {s2 : Shared} {J : It} {fp : List Addr} {it : Addr} {tn : Nat → Heap → Prop} {tg : Expr} (L : LcScope X.N X.env.scope scope x N ix) (I2 : Inv X pins σ H2 s2)
    (T : Turn X.prog X.w X.K tg J fp it tn) (st2 : tn 0 s2.heap) (f2 : ∀ b ∈ fp, FpOk X pins H2 b) {C : Addr} {s3 s4 : Shared} {H3 : Hp} (I3 : Inv X pins σ H3 s3) (I4 : Inv X pins σ H3 s4) (hle : s2.heap.objs.size ≤ s3.heap.objs.size)
    (hC : C = s3.heap.objs.size) (ho : s4.os = s3.os) (kp : ∀ b u, s3.heap.get? b = some u → s4.heap.get? b = some u) {m : Str → Option Value} (hns : s4.heap.Ns C m) : Inv (cxLc X scope N C s3 H3 fp) [] (none :: frV σ ix) H3 s4 := by
  have hfree : ∀ y ∈ scope.names, y.2 = .free → ∃ c, X.env.cells.lookup y.1 = some c := fun y hy hf => I2.ok.has y.1 (.inl (L.free y hy hf))
  have sub : ∀ y c, (cloGo X.env scope.names []).lookup y = some c → X.env.cells.lookup y = some c := fun y c h => cloGo_sub _ _ y c hfree (fun _ _ z => by simp at z) h
  have lt2 : ∀ b ∈ fp, b < s2.heap.objs.size := fun b hb => by obtain ⟨o, e, _⟩ := T.obj _ _ st2 b hb; exact Heap.lt_size e
  have okY : (cxLc X scope N C s3 H3 fp).Ok := by
    refine ⟨I2.ok.mod, L.kind, I2.ok.glob, I2.ok.blt, Nat.le_of_eq hC.symm, fun y z c h1 h2 => I2.ok.inj y z c (sub y c h1) (sub z c h2), fun y hy => ?_, fun y c z _ => ?_, I2.ok.hd, I2.ok.frames, .inl rfl, fun b hb => ⟨?_, fun y c h => (f2 b hb).2.2.2.2.1 y c (sub y c h)⟩,
      I3.bs, Nat.le_trans I3.ok.bsz I3.sz, fun b o e hb => ?_, fun b hb z => ?_, I3.stack, I3.stkFree⟩
    · have hk : (y, NameKind.free) ∈ scope.names := by
        rcases hy with hy | hy
        · rcases relabel_of hy with q | q
          · exact absurd rfl (L.nocell _ q)
          · exact q.1
        · rcases relabel_of hy with q | q
          · exact q
          · exact absurd q.2 (by decide)
      exact Option.isSome_iff_exists.mp (cloGo_has _ _ y hk)
    · cases (show false = true from z)
    · have l := lt2 b hb
      show b ≠ C
      rw [hC]
      exact Nat.ne_of_lt (Nat.lt_of_lt_of_le l hle)
    · rcases (f2 b hb).2.2.2.1 with q | q
      · exact I2.ok.noex b o e q
      · exact absurd (Nat.lt_of_lt_of_le (Heap.lt_size e) (Nat.le_trans I2.ok.bsz q)) (Nat.lt_irrefl _)
    · rcases List.mem_cons.mp (I2.stkSub b z) with q | q
      · exact (f2 b hb).2.1 q
      · exact (f2 b hb).2.2.1 q
  refine ⟨okY, ho, I4.bare, Un.kept kp, ⟨m, hns, fun i y v h1 h2 h3 => ?_⟩, fun y c e => I4.cell y c (sub y c e), ?_, fun y c e => I4.freeC y c (sub y c e), fun p hp => absurd (show p ∈ ([] : List (Addr × Obj)) from hp) (by simp), I4.hok, ?_⟩
  · cases i with
    | zero => cases (show some none = some (some v) from h2)
    | succ k =>
      have h2 : (frV σ ix)[k]? = some (some v) := h2
      have h1 : N[k + 1]? = some y := h1
      unfold frV at h2
      rw [List.getElem?_map] at h2
      cases hj : ix[k]? with
      | none => rw [hj] at h2; cases h2
      | some j =>
        rw [hj] at h2
        have h2 : (σ[j]?).getD none = some v := Option.some.inj h2
        have h2' : σ[j]? = some (some v) := by
          cases e : σ[j]? with
          | none => rw [e] at h2; cases h2
          | some z => rw [e] at h2; exact congrArg some h2
        have ht : N.tail[k]? = some y := by rw [List.getElem?_tail]; exact h1
        have hz : (y, j) ∈ N.tail.zip ix := List.mem_of_getElem? (i := k) (by rw [List.getElem?_zip_eq_some]; exact ⟨ht, hj⟩)
        obtain ⟨q1, q2⟩ := L.at_ _ hz
        have hm := PySem.mem_of_lookup q2
        have hcell := L.free _ hm rfl
        obtain ⟨m', hn', hl'⟩ := I4.loc
        obtain ⟨u, r, lk⟩ := hl' j y v q1 h2' (.inr (.inl hcell))
        refine ⟨u, r, .inr ⟨.inl (relabel_free I2.ok.kind hcell q2), ?_⟩⟩
        rcases lk with lk | ⟨_, c, e, z⟩
        · rw [show X.env.kindOf y = some .cell from hcell] at lk
          cases lk.1
        · obtain ⟨c', e'⟩ := Option.isSome_iff_exists.mp (cloGo_has (env := X.env) scope.names [] y hm)
          have e2 := sub y c' e'
          rw [e] at e2
          cases e2
          exact ⟨c, e', z⟩
  · show H3 C = none
    exact I3.hok.fresh (Nat.le_of_eq hC.symm)
  · show (none :: frV σ ix).length = N.length
    rw [L.len]
    simp [frV]
theorem lc_run {tgt : Expr} (htg : tgt = .Name x px) {pins : List (Addr × Obj)} {σ : St} {H2 : Hp} {s2 : Shared} {J : It} {fp : List Addr} {it : Addr} {tn : Nat → Heap → Prop} (hc : X.calm = true) (L : LcScope X.N X.env.scope scope x N ix) (I2 : Inv X pins σ H2 s2)
    (T : Turn X.prog X.w X.K tgt J fp it tn) (st2 : tn 0 s2.heap) (f2 : ∀ b ∈ fp, FpOk X pins H2 b)
    (hif : ∀ C s H, PIf (cxLc X scope N C s H fp) ifs tc) (he : ∀ C s H, PE (cxLc X scope N C s H fp) elt te) {Q : VK} (rd : rdLc J H2 (frV σ ix) tc te Q) {RR : Value → Addr → Result → Shared → Prop} {E : Value → Shared → Prop}
    (fin : ∀ D C H' s' m, Inv X pins σ H' s' → s2.heap.objs.size ≤ C → H' C = none → s'.heap.Ns C m → Q (.ref D) H' → RR (.ref D) C (.ok .next) s') :
    wpAny (model X.prog X.w) X.A (newList []) (fun acc s3 => wpAny (model X.prog X.w) X.A (newFunctionEnv scope X.env.globals (cloGo X.env scope.names []) [] X.env.qual none .none (some X.env)) (fun cenv s4 =>
      codeAny (model X.prog X.w) X.A (.compStart (.ListComp elt [⟨tgt, iter, ifs, 0⟩] scope pos) 0 (.ref it) acc { cenv with scope := relabel scope X.env }) (RR acc cenv.locals) s4) E s3) E s2 := by
  refine wpAny_newObj_type (wpAny_newFunctionEnv L.nocell (by intro y hy; simp at hy) (fun h1 hns hsb => ?_) L.kind)
  dsimp only at hns hsb ⊢
  have I3 : Inv X pins σ (upd H2 s2.heap.objs.size (.lst [])) { s2 with heap := s2.heap.push { cls := .type "list", dict := none, data := .seq ([] : List Value).toArray } } := I2.lnew (its := []) (t' := s2.toks) .nil (Nat.zero_le _)
  generalize hH3 : s2.heap.push { cls := .type "list", dict := none, data := .seq ([] : List Value).toArray } = h3 at hns hsb I3 ⊢
  have hsz : h3.objs.size = s2.heap.objs.size + 1 := by rw [← hH3, Heap.size_push]
  have kp34 : ∀ b u, h3.get? b = some u → h1.get? b = some u := fun b u e => hsb.extBut b u (Nat.ne_of_lt (Heap.lt_size e)) (Heap.get?_push_of_some _ e)
  have I4 : Inv X pins σ (upd H2 s2.heap.objs.size (.lst [])) { s2 with heap := h1, toks := s2.toks + ([] : List (Str × Value)).length } := I3.kept (t' := s2.toks + ([] : List (Str × Value)).length) kp34
  have kp24 : ∀ b u, s2.heap.get? b = some u → h1.get? b = some u := fun b u e => kp34 b u (by rw [← hH3]; exact Heap.get?_push_of_some _ e)
  have IY := lc_ok (C := h3.objs.size) (s3 := { s2 with heap := h3 }) L I2 T st2 f2 I3 I4 (by show s2.heap.objs.size ≤ h3.objs.size; omega) rfl rfl kp34 hns
  have fD : H2 s2.heap.objs.size = none := I2.hok.fresh (Nat.le_refl _)
  have lt2 : ∀ b ∈ fp, b < s2.heap.objs.size := fun b hb => by obtain ⟨o, e, _⟩ := T.obj _ _ st2 b hb; exact Heap.lt_size e
  have st4 : tn 0 h1 := T.keep _ _ _ st2 fun b _ o e => kp24 b o e
  have stat : ∀ {pn : List (Addr × Obj)} {H' : Hp}, pn = [] → (∀ b ∈ fp, H' b = none) → ∀ b ∈ fp, FpOk (cxLc X scope N h3.objs.size { s2 with heap := h3 } (upd H2 s2.heap.objs.size (.lst [])) fp) pn H' b := fun hp hn b hb => by
    subst hp
    exact ⟨hn b hb, (IY.ok.exf b hb).1, IY.ok.exfs b hb, .inl hb, (IY.ok.exf b hb).2, fun p hp => absurd (show p ∈ ([] : List (Addr × Obj)) from hp) (by simp)⟩
  obtain ⟨W, ⟨m0, w0⟩, turn⟩ := rd _ fD
  have loop : codeAny (model X.prog X.w) X.A (.compLoop (.ListComp elt [⟨tgt, iter, ifs, 0⟩] scope pos) 0 (.ref it) (.ref s2.heap.objs.size) (compEnvC scope (cloGo X.env scope.names []) h3.objs.size X.env)) (RR (.ref s2.heap.objs.size) h3.objs.size)
      { s2 with heap := h1, toks := s2.toks + ([] : List (Str × Value)).length } := by
    refine lc_loop (fun n s' => ∃ i H', Inv (cxLc X scope N h3.objs.size { s2 with heap := h3 } (upd H2 s2.heap.objs.size (.lst [])) fp) [] (none :: frV σ ix) H' s' ∧ tn i s'.heap ∧ (∀ b ∈ fp, H' b = none) ∧ W i n H') ?_ m0
      ⟨0, _, IY, st4, fun b hb => by rw [upd_ne (Nat.ne_of_lt (lt2 b hb))]; exact (f2 b hb).1, w0⟩
    rintro n s5 ⟨i, H5, I5, st5, fr5, w5⟩
    rcases turn i n H5 w5 with ⟨stop, q⟩ | ⟨go, step⟩
    · refine thn (T.done (cxLc X scope N h3.objs.size { s2 with heap := h3 } (upd H2 s2.heap.objs.size (.lst [])) fp) rfl rfl rfl hc i [] s5 _ H5 (fun _ _ => False) I5 (stat rfl fr5) st5 stop) fun r s6 ⟨hr, I6⟩ => ?_
      subst hr
      obtain ⟨m6, hn6, _⟩ := I6.loc
      have u1 : Un (frs X.stack) fp H2 (upd H2 s2.heap.objs.size (.lst [])) s2.heap h3 := Un.laid (fun b u e => by rw [← hH3]; exact Heap.get?_push_of_some _ e) (Nat.le_refl _) fD
      have back : Inv X pins σ H5 s6 := I2.call' (ch := fp) (I6.os.trans rfl) (u1.trans I6.base) I6.hok I6.bare fun b hb => ⟨(f2 b hb).2.2.2.1, (f2 b hb).2.1, (f2 b hb).2.2.2.2.1, (f2 b hb).2.2.2.2.2⟩
      exact fin _ _ H5 s6 m6 back (by omega) I6.free hn6 q
    · refine thn (T.item (cxLc X scope N h3.objs.size { s2 with heap := h3 } (upd H2 s2.heap.objs.size (.lst [])) fp) rfl rfl rfl hc i [] s5 _ H5 (fun _ _ => False) I5 (stat rfl fr5) st5 go) fun r s6 ⟨u, hr, h6⟩ => ?_
      subst hr
      refine thn h6 fun _ s7 ⟨y, H7, I7, r7, y7, st7, fr7⟩ => ?_
      have I7' := I7.pinned (stat rfl fr7) (T.obj _ _ st7)
      have hg : PG (cxLc X scope N h3.objs.size { s2 with heap := h3 } (upd H2 s2.heap.objs.size (.lst [])) fp) tgt (gName 0) := by
        rw [htg]
        have hi : N[0]? = some x := by have := L.hd; rwa [List.head?_eq_getElem?] at this
        exact pg_name L.nd hi (.inl (lookup_relabel_local L.loc)) (.inr (lookup_relabel_local L.loc))
      refine thn (hg _ s7 _ H7 y u (fun σ' H' => σ' = some y :: frV σ ix ∧ H' = H7) I7' r7 ⟨rfl, rfl⟩) fun _ s8 ⟨σ8, H8, I8, e8, e8'⟩ => ?_
      subst e8 e8'
      refine thn (hif _ _ _ _ s8 _ _ _ I8 (step y _ y7)) fun ok s9 ⟨H9, I9, q9⟩ => ?_
      have again : ∀ {sz : Shared} {Hz : Hp} {m' : Nat}, Inv (cxLc X scope N h3.objs.size { s2 with heap := h3 } (upd H2 s2.heap.objs.size (.lst [])) fp) ([] ++ pinsAt fp s7.heap) (some y :: frV σ ix) Hz sz → m' < n → W (i + 1) m' Hz →
          ∃ m, m < n ∧ ∃ i H', Inv (cxLc X scope N h3.objs.size { s2 with heap := h3 } (upd H2 s2.heap.objs.size (.lst [])) fp) [] (none :: frV σ ix) H' sz ∧ tn i sz.heap ∧ (∀ b ∈ fp, H' b = none) ∧ W i m H' := fun {sz Hz m'} Iz hm wz => by
        refine ⟨m', hm, i + 1, Hz, Iz.unpinned.weak (by simp) (fun j v e => ?_), T.keep _ _ _ st7 fun b hb o e => (Iz.pin (b, o) (List.mem_append_right _ (List.mem_append_right _ (mem_pinsAt hb e)))).1, fun b hb => ?_, wz⟩
        · cases j with
          | zero => cases e
          | succ j => exact e
        · obtain ⟨o, e, d⟩ := T.obj _ _ st7 b hb
          exact (Iz.pin (b, o) (List.mem_append_right _ (List.mem_append_right _ (mem_pinsAt hb e)))).2.1
      cases ok with
      | false =>
        obtain ⟨m', hm, wz⟩ := q9
        exact again I9 hm wz
      | true =>
        refine thn (he _ _ _ _ s9 _ _ _ I9 q9) fun xv s10 ⟨z, H10, I10, r10, ys, hD, hl, m', hm, wz⟩ => ?_
        refine thn (mt_append _ s10 _ H10 (.ref s2.heap.objs.size) [z] (.ref s2.heap.objs.size) [xv] (fun _ Hz => Hz = upd H10 s2.heap.objs.size (.lst (ys ++ [z]))) I10 rfl (.cons r10 .nil) ⟨_, ys, z, rfl, rfl, hD, hl, rfl⟩) fun _ s11 ⟨_, H11, I11, _, q11⟩ => ?_
        subst q11
        exact again I11 hm wz
  exact codeAny_compStart_list loop (T.self X.A 0 _ _ _ st4 loop)
/-- [elt for x in iter if ..] -/
theorem pe_lc {wi : TI} (hc : X.calm = true) (L : LcScope X.N X.env.scope scope x N ix) (hi : PI X (.Name x px) iter wi) (hif : ∀ C s H fp, PIf (cxLc X scope N C s H fp) ifs tc) (he : ∀ C s H fp, PE (cxLc X scope N C s H fp) elt te)
    (hs : ∀ z, foldedSetIterable iter X.env z = pure z := by intro _; rfl) : PE X (.ListComp elt [⟨.Name x px, iter, ifs, 0⟩] scope pos) (tLc wi ix tc te) := by
  intro pins s σ H Q I h
  have hfree : ∀ y ∈ scope.names, y.2 = .free → ∃ c, X.env.cells.lookup y.1 = some c := fun y hy hf => I.ok.has y.1 (.inl (L.free y hy hf))
  rw [eval_ListComp]
  refine wpAny_comprehension_free (use := none) rfl hs (closure_eq hfree) L.kind L.names (thn (hi pins s σ H _ I h) fun v s1 h1 => thn h1 fun itv s2 h2 => ?_)
  obtain ⟨it, fp, tn, J, H2, e, I2, T, st2, f2, rd⟩ := h2
  subst e
  refine lc_run (RR := fun acc C => compPost (model X.prog X.w) X.A X.xe none _ acc C) rfl hc L I2 T st2 f2 (fun C s H => hif C s H fp) (fun C s H => he C s H fp) rd fun D C H' s' m I' hC hf hn q => ?_
  refine ⟨m, hn, fun h' hsb => ⟨.ref D, H', ?_, rfl, q⟩⟩
  have l2 := I2.lt
  refine I'.turned (t' := s'.toks) (it := C) (fun b o hb e => hsb.extBut b o hb e) hf (Nat.ne_of_gt (Nat.lt_of_lt_of_le l2 hC)) (.inr (Nat.le_trans I2.sz hC)) (fun y c e => ?_) fun p hp => ?_
  · obtain ⟨v, hv⟩ := I2.cell y c e
    exact Nat.ne_of_lt (Nat.lt_of_lt_of_le hv.lt hC)
  · exact Nat.ne_of_lt (Nat.lt_of_lt_of_le (Heap.lt_size (I2.pin p hp).1) hC)
/-- name = [elt for x in iter if ..] -/
theorem ps_setlc {wi : TI} {i : Nat} {y : Str} {py spos : Pos} (hc : X.calm = true) (L : LcScope X.N X.env.scope scope x N ix) (hN : X.N.Nodup) (hy : X.N[i]? = some y) (hl : X.env.scope.names.lookup y = some .local)
    (hi : PI X (.Name x px) iter wi) (hif : ∀ C s H fp, PIf (cxLc X scope N C s H fp) ifs tc) (he : ∀ C s H fp, PE (cxLc X scope N C s H fp) elt te)
    (hsw : swapsWith (.ListComp elt [⟨.Name x px, iter, ifs, 0⟩] scope pos) (some (.Name y py)) spos.line X.env = pure true := by rfl)
    (hs : ∀ z, foldedSetIterable iter X.env z = pure z := by intro _; rfl) : PS X (.Assign [.Name y py] (.ListComp elt [⟨.Name x px, iter, ifs, 0⟩] scope pos) spos) (tAsg (tLc wi ix tc te) (gName i)) := by
  intro pins s σ H D I h
  have hfree : ∀ y ∈ scope.names, y.2 = .free → ∃ c, X.env.cells.lookup y.1 = some c := fun y hy hf => I.ok.has y.1 (.inl (L.free y hy hf))
  rw [exec_Assign_Name_used _ _ _ _ hsw]
  refine wpAny_bind (wpAny_standAt (wpAny_bind ?_))
  show wpAny _ X.A (do let _ ← comprehension (.ListComp elt [⟨.Name x px, iter, ifs, 0⟩] scope pos) scope X.env _ (newList []) false (eval iter X.env) (some (assign (.Name y py) X.env))) _ _ s
  refine wpAny_bind (thn (Q := fun _ s' => SP X pins D .next s') (wpAny_comprehension_free (use := some (assign (.Name y py) X.env)) rfl hs (closure_eq hfree) L.kind L.names (thn (hi pins s σ H _ I h) fun v s1 h1 => thn h1 fun itv s2 h2 => ?_)) fun _ s' hq => wpAny_pure (wpAny_pure hq))
  obtain ⟨it, fp, tn, J, H2, e, I2, T, st2, f2, rd⟩ := h2
  subst e
  refine lc_run (RR := fun acc C => compPost (model X.prog X.w) X.A X.xe (some (assign (.Name y py) X.env)) _ acc C) rfl hc L I2 T st2 f2 (fun C s H => hif C s H fp) (fun C s H => he C s H fp) rd fun Da C H' s' m I' hC hf hn q => ?_
  have l2 := I2.lt
  have nC : C ≠ X.env.locals := Nat.ne_of_gt (Nat.lt_of_lt_of_le l2 hC)
  have nF : C ∉ X.fs := I2.nofs hC
  obtain ⟨oC, es, ep, hget, hdat, hrest⟩ := id hn
  have Ip : Inv X (pins ++ [(C, oC)]) σ H' s' := I'.pins_of fun p hp => (List.mem_append.mp hp).elim (fun z => I'.pin p (List.mem_append_right _ z)) fun z => by
    have e : p = (C, oC) := by simpa using z
    subst e
    exact ⟨hget, hf, nC, nF, fun v z => by rw [hdat] at z; cases z⟩
  have hg : PG X (.Name y py) (gName i) := pg_name hN hy (.inl hl) (.inr hl)
  show wpAny _ X.A (assign (.Name y py) X.env (.ref Da)) _ _ s'
  refine thn (hg _ s' σ H' (.ref Da) (.ref Da) D.nx Ip rfl q) fun _ s'' ⟨σ'', H'', I'', q''⟩ => ?_
  obtain ⟨g1, g2, _⟩ := I''.pin (C, oC) (List.mem_append_right _ (List.mem_append_right _ (by simp)))
  refine ⟨m, ⟨oC, es, ep, g1, hdat, hrest⟩, fun h' hsb => ⟨σ'', H'', ?_, q''⟩⟩
  refine I''.unpinned.turned (t' := s''.toks) (it := C) (fun b o hb e => hsb.extBut b o hb e) g2 nC (.inr (Nat.le_trans I2.sz hC)) (fun y c e => ?_) fun p hp => ?_
  · obtain ⟨v, hv⟩ := I2.cell y c e
    exact Nat.ne_of_lt (Nat.lt_of_lt_of_le hv.lt hC)
  · exact Nat.ne_of_lt (Nat.lt_of_lt_of_le (Heap.lt_size (I2.pin p hp).1) hC)
end

/-! ### the form one uses: nothing that was tracked is changed -/
theorem same_upd {H : Hp} {D : Addr} {o : HO} (h : H D = none) : Same H (upd H D o) := fun b u e => by rw [upd_ne (ne_of_none e h)]; exact e
theorem lc_same {J : It} {H1 : Hp} {fr : St} {tc : TT} {te : TE} {Q : VK} (n : Nat) (item : Nat → V) (acc : Nat → List V) (h0 : acc 0 = []) (hz : ∀ i, i < n → (acc i).length < sizeLine)
    (hgo : ∀ i H, i < n → Same H1 H → J.go i H) (hy : ∀ i H x H', i < n → Same H1 H → J.yld i H x H' → x = item i ∧ H' = H) (hst : ∀ H, Same H1 H → J.stop n H)
    (turn : ∀ i H (R : Hp → Prop) (A : VK), i < n → Same H1 H → (acc (i + 1) = acc i → ∀ H', Same H H' → R H') → (∀ y H', acc (i + 1) = acc i ++ [y] → Same H H' → A y H') →
      tc (some (item i) :: fr) H fun b H3 => if b = true then te (some (item i) :: fr) H3 A else R H3)
    (fin : ∀ D H, H1 D = none → Same H1 H → H D = some (.lst (acc n)) → Q (.ref D) H) : rdLc J H1 fr tc te Q := by
  intro D hD
  refine ⟨fun i m H => i ≤ n ∧ m = n - i ∧ Same H1 H ∧ H D = some (.lst (acc i)), ⟨n, Nat.zero_le _, rfl, same_upd hD, by rw [upd_same, h0]⟩, ?_⟩
  rintro i m H ⟨hi, rfl, sm, hl⟩
  by_cases h : i = n
  · subst h
    exact .inl ⟨hst H sm, fin D H hD sm hl⟩
  · have hlt : i < n := Nat.lt_of_le_of_ne hi h
    refine .inr ⟨hgo i H hlt sm, fun x H' hyl => ?_⟩
    obtain ⟨rfl, rfl⟩ := hy i H x H' hlt sm hyl
    refine turn i H' _ _ hlt sm (fun ea H3 s3 => ?_) (fun y H4 ea s4 => ?_)
    · exact ⟨n - (i + 1), by omega, by omega, rfl, sm.trans s3, by rw [ea]; exact s3 _ _ hl⟩
    · refine ⟨acc i, s4 _ _ hl, hz i hlt, n - (i + 1), by omega, by omega, rfl, fun b u e => ?_, by rw [upd_same, ea]⟩
      rw [upd_ne (ne_of_none e hD)]
      exact s4 _ _ (sm _ _ e)
/-- over range(a, a + n) -/
theorem lc_range {lo : Int} {n : Nat} {H1 : Hp} {fr : St} {tc : TT} {te : TE} {Q : VK} (acc : Nat → List V) (h0 : acc 0 = []) (hz : ∀ i, i < n → (acc i).length < sizeLine)
    (turn : ∀ (i : Nat) H (R : Hp → Prop) (A : VK), i < n → Same H1 H → (acc (i + 1) = acc i → ∀ H', Same H H' → R H') → (∀ y H', acc (i + 1) = acc i ++ [y] → Same H H' → A y H') →
      tc (some (.int (lo + i)) :: fr) H fun b H3 => if b = true then te (some (.int (lo + i)) :: fr) H3 A else R H3)
    (fin : ∀ D H, H1 D = none → Same H1 H → H D = some (.lst (acc n)) → Q (.ref D) H) : rdLc (Itr lo n) H1 fr tc te Q :=
  lc_same n (fun i => .int (lo + i)) acc h0 hz (fun i H hi _ => hi) (fun i H x H' _ _ h => ⟨h.2, h.1⟩) (fun H _ => Nat.le_refl n) turn fin
/-- over a list that is read -/
theorem lc_list {K : PySem.W.Frag} {a : Addr} {xs : List V} {H1 : Hp} {fr : St} {tc : TT} {te : TE} {Q : VK} (hl : SqL K H1 a xs) (acc : Nat → List V) (h0 : acc 0 = []) (hz : ∀ i, i < xs.length → (acc i).length < sizeLine)
    (turn : ∀ (i : Nat) x H (R : Hp → Prop) (A : VK), xs[i]? = some x → Same H1 H → (acc (i + 1) = acc i → ∀ H', Same H H' → R H') → (∀ y H', acc (i + 1) = acc i ++ [y] → Same H H' → A y H') →
      tc (some x :: fr) H fun b H3 => if b = true then te (some x :: fr) H3 A else R H3)
    (fin : ∀ D H, H1 D = none → Same H1 H → H D = some (.lst (acc xs.length)) → Q (.ref D) H) : rdLc (Itl K a) H1 fr tc te Q := by
  refine lc_same xs.length (fun i => xs.getD i .non) acc h0 hz (fun i H hi sm => ⟨xs, xs[i], sm.seq hl, by simp [hi]⟩) (fun i H x H' hi sm h => ⟨?_, h.1⟩) (fun H sm => ⟨xs, sm.seq hl, Nat.le_refl _⟩) (fun i H R A hi sm => turn i _ H R A (by simp [hi]) sm) fin
  have := h.2 xs (sm.seq hl)
  simp [List.getD, this]
end L2
end

section
set_option Elab.async false
set_option linter.all false
set_option maxRecDepth 100000
set_option maxHeartbeats 4000000
/-! My own rules behind the layer: callees in one piece, texts, isinstance. -/
namespace L2
open PySem PySem.Spec PyProof.Rows

/-! ### Python's own names -/
theorem b_int : bootBuiltins "int" = some (.type "int") := by decide +kernel
theorem b_bool : bootBuiltins "bool" = some (.type "bool") := by decide +kernel
theorem b_list : bootBuiltins "list" = some (.type "list") := by decide +kernel
theorem b_tuple : bootBuiltins "tuple" = some (.type "tuple") := by decide +kernel
theorem b_dict : bootBuiltins "dict" = some (.type "dict") := by decide +kernel
theorem b_len : bootBuiltins "len" = some (.builtin "len") := by decide +kernel
theorem b_isinstance : bootBuiltins "isinstance" = some (.builtin "isinstance") := by decide +kernel
/-! ### a callee in one piece -/
structure Cal (P : Program) (w : World) (K : PySem.W.Frag) (mg : Str → Option Value) (base : Heap) (name : Str) (k : Nat) (ps : List Str) (sp : Sp) : Prop where
  ex : ∃ (f : Addr) (fd : FuncData), FnOk P w K mg base CX0 k f fd ps sp ∧ Binds K fd ps [] ∧ mg name = some (.ref f) ∧ PySem.W.keepIn K (.ref f) = true
section
variable {X : Cx} {k : Nat} {ps : List Str} {sp : Sp} {name m : Str} {p pos apos : Pos} {e o : Expr} {es : List Expr} {ta : TE} {t : TA}
theorem pe_fn (C : Cal X.prog X.w X.K X.mg X.base name k ps sp) (hr : Room k X.A) (ha : PA X (e :: es) t) (hg : Gl X name := by rfl) (hdb : (name == ("__debug__" : Str)) = false := by decide)
    (he : starEach (e :: es) X.env = (false, eval e X.env) :: starEach es X.env := by rfl) (hpl : (backTo pos (starEach es X.env)).any (·.1) = false := by rfl) : PE X (.Call (.Name name p) (e :: es) [] pos) (tCall sp [] E0 t) := by
  obtain ⟨f, fd, F, b, hm, hk⟩ := C.ex
  exact pe_call F hr hg hm hk b .nil pass0 ha hdb he hpl
end

/-! ### isinstance by one of Python's own kinds -/
section
variable {X : Cx}
def rIsi (K : PySem.W.Frag) : List V → Hp → VK → Prop := fun xs H Q => ∃ x n t b, xs = [x, .ty n] ∧ TyOf K H x t ∧ PySem.W.kitOne K t (.type n) = some b ∧ Q (.bl b) H
theorem call_isinst : CallR X (.builtin "isinstance") (rIsi X.K) := by
  intro pins s σ H xs us Q I r h
  obtain ⟨x, n, t, b, rfl, ty, e, q⟩ := h
  obtain ⟨u, w', rfl, ru, rw'⟩ := vals2 r
  cases (show w' = Value.type n from rw')
  exact isinst_ok I ru ty e fun tk => ⟨.bl b, H, I.tok tk, rfl, q⟩
end

/-- a text of one sign -/
def sgn (c : Nat) : Str := ⟨#[c]⟩
section
variable {X : Cx}
end
end L2
end

section
set_option Elab.async false
set_option linter.all false
namespace L2
open PySem
def nostar : Expr → Bool
  | .Starred .. => false
  | _ => true
theorem starEach_of {e : Expr} {es : List Expr} {env : Env} (h : nostar e = true) : starEach (e :: es) env = (false, eval e env) :: starEach es env := by
  cases e <;> first | rfl | cases h
section
variable {X : Cx} {e : Expr} {es : List Expr} {te : TE} {t : TA}
end
section
variable {X : Cx} {e : Expr} {es : List Expr} {te : TE} {t : TA}
theorem pa_d (ha : PE X e te) (hr : PA X es t) (hs : nostar e = true) : PA X (e :: es) (tCons te t) := pa_cons ha hr (starEach_of hs)
end
section
variable {X : Cx} {e a b : Expr} {es : List Expr} {te ta tb : TE} {t : TA} {pos : Pos} {st : Stmt} {rest : List Stmt} {u u2 : TS}
end
theorem us1 {P : List Value → Prop} (h : ∀ a, P [a]) : ∀ us : List Value, us.length = 1 → P us
  | [_], _ => h _
theorem us2 {P : List Value → Prop} (h : ∀ a b, P [a, b]) : ∀ us : List Value, us.length = 2 → P us
  | [_, _], _ => h _ _
theorem us3 {P : List Value → Prop} (h : ∀ a b c, P [a, b, c]) : ∀ us : List Value, us.length = 3 → P us
  | [_, _, _], _ => h _ _ _
theorem us5 {P : List Value → Prop} (h : ∀ a b c d e, P [a, b, c, d, e]) : ∀ us : List Value, us.length = 5 → P us
  | [_, _, _, _, _], _ => h _ _ _ _ _
end L2
end

section
set_option Elab.async false
set_option linter.all false
set_option maxRecDepth 100000
/-! Readings, step by step, from behind. -/
namespace L2
open PySem PySem.Spec PyProof.Rows
section
variable {σ : St} {H : Hp} {D : Ends} {Q : VK} {t u : TS} {te ta tb : TE} {QB : Bool → Hp → Prop}
theorem r_seq (h : t { D with nx := u D } σ H) : tSeq t u D σ H := h
theorem r_next (h : D.nx σ H) : tNext D σ H := h
theorem r_asg {g : TG} (h : te σ H fun x H1 => g x σ H1 D.nx) : tAsg te g D σ H := h
theorem r_gname {i : Nat} {v : V} {R : St → Hp → Prop} (h : R (σ.set i (some v)) H) : gName i v σ H R := h
theorem r_ret (h : te σ H D.rt) : tRet te D σ H := h
theorem r_drop (h : te σ H fun _ H1 => D.nx σ H1) : tDrop te D σ H := h
theorem r_ifs {c : TT} (h : c σ H fun b H1 => if b = true then t D σ H1 else u D σ H1) : tIfS c t u D σ H := h
theorem r_var {i : Nat} {v : V} (e : σ[i]? = some (some v)) (h : Q v H) : tVar i σ H Q := ⟨v, e, h⟩
theorem r_c {v : V} (h : Q v H) : tC v σ H Q := h
theorem r_op {r : R2} (h : ta σ H fun x H1 => tb σ H1 fun y H2 => r x y H2 Q) : tOp r ta tb σ H Q := h
theorem r_un {r : V → Hp → VK → Prop} (h : ta σ H fun x H1 => r x H1 Q) : tUn r ta σ H Q := h
theorem r_rU {g : Int → V} {i : Int} (h : Q (g i) H) : rU g (.int i) H Q := ⟨i, rfl, h⟩
theorem r_rI0 {g : Int → Int → V} {i j : Int} (h : Q (g i j) H) : rI0 g (.int i) (.int j) H Q := ⟨i, j, rfl, rfl, h⟩
theorem r_rEq {x y : V} (e : scal x y = true) (h : Q (.bl (decide (x = y))) H) : rEq x y H Q := ⟨e, h⟩
theorem r_rNe {x y : V} (e : scal x y = true) (h : Q (.bl (!decide (x = y))) H) : rNe x y H Q := ⟨e, h⟩
theorem r_test (h : te σ H fun x H' => ∃ k, x = .bl k ∧ QB k H') : tTest te σ H QB := h
theorem r_tB (h : te σ H fun x H' => ∃ k, x = .bl k ∧ QB k H') : tB te σ H QB := h
theorem r_bl {k : Bool} {P : Bool → Prop} (h : P k) : ∃ k', V.bl k = .bl k' ∧ P k' := ⟨k, rfl, h⟩
theorem r_not {c : TT} (h : c σ H fun b H1 => QB (!b) H1) : tNot c σ H QB := h
theorem r_and {c d : TT} (h : c σ H fun b H1 => if b = true then d σ H1 QB else QB false H1) : tAnd c d σ H QB := h
theorem r_or {c d : TT} (h : c σ H fun b H1 => if b = true then QB true H1 else d σ H1 QB) : tOr c d σ H QB := h
theorem r_andV (h : ta σ H fun x H1 => ∃ c, x = .bl c ∧ if c = true then tb σ H1 Q else Q (.bl false) H1) : tAndV ta tb σ H Q := h
theorem r_notV (h : ta σ H fun x H1 => ∃ c, x = .bl c ∧ Q (.bl (!c)) H1) : tNotV ta σ H Q := h
theorem r_chain {r r' : R2} {tc : TE} (h : ta σ H fun x H1 => tb σ H1 fun y H2 => r x y H2 fun z H3 => ∃ k, z = .bl k ∧ (if k = true then tc σ H3 fun w' H4 => r' y w' H4 Q else Q (.bl false) H3)) : tChain r r' ta tb tc σ H Q := h
theorem r_yes (h : QB true H) : tYes σ H QB := h
variable {tA tR : TA} {QA : List V → Hp → Prop}
theorem r_nil (h : QA [] H) : tNil σ H QA := h
theorem r_cons (h : te σ H fun x H1 => tR σ H1 fun xs H2 => QA (x :: xs) H2) : tCons te tR σ H QA := h
theorem r_call {sp : Sp} {E : XK} (h : tA σ H fun vs H1 => sp (vs ++ []) H1 Q E) : tCall sp [] E tA σ H Q := h
theorem r_cB {r : List V → Hp → VK → Prop} (h : tA σ H fun vs H1 => r vs H1 Q) : tCB r tA σ H Q := h
theorem r_lst (h : tA σ H fun xs H1 => xs.length ≤ sizeLine ∧ ∀ p, H1 p = none → Q (.ref p) (upd H1 p (.lst xs))) : tLst tA σ H Q := h
theorem r_bm {K : PySem.W.Frag} {T : String} {r : V → List V → Hp → VK → Prop} (h : te σ H fun x H1 => tyV K T x H1 ∧ tA σ H1 fun xs H2 => r x xs H2 Q) : tBM K T r te tA σ H Q := h
theorem r_sl {r : V → Option Int → Option Int → Hp → VK → Prop} {tl th : TO} (h : te σ H fun x H1 => tl σ H1 fun l H2 => th σ H2 fun u H3 => r x l u H3 Q) : tSl r te tl th σ H Q := h
theorem r_nopart {QO : Option Int → Hp → Prop} (h : QO none H) : tNoPart σ H QO := h
theorem r_part {QO : Option Int → Hp → Prop} (h : te σ H fun x H1 => ∃ i, x = .int i ∧ QO (some i) H1) : tPart te σ H QO := h
theorem r_int {P : Int → Prop} {i : Int} (h : P i) : ∃ j, V.int i = .int j ∧ P j := ⟨i, rfl, h⟩
/-- for: what is walked first -/
def forB (J : It) (g : TG) (tb : TS) (D : Ends) (σ : St) (H1 : Hp) : Prop := ∃ W : Nat → Nat → St → Hp → Prop, (∃ m, W 0 m σ H1) ∧ ∀ i m σ H, W i m σ H →
  (J.stop i H ∧ D.nx σ H) ∨ (J.go i H ∧ ∃ N : St → Hp → Prop, (∀ σ' H', N σ' H' → ∃ m', m' < m ∧ W (i + 1) m' σ' H') ∧ ∀ x H', J.yld i H x H' → g x σ H' fun σ2 H2 => tb { D with nx := N, ct := N, bk := D.nx } σ2 H2)
theorem r_for {wi : TI} {g : TG} (h : wi σ H fun J H1 => forB J g t D σ H1) : tFor wi g t D σ H := h
theorem r_rng1 {R : It → Hp → Prop} (h : tA σ H fun vs H1 => ∃ j : Int, vs = [.int j] ∧ -(2 ^ 62) ≤ j ∧ j < 2 ^ 62 ∧ R (Itr 0 j.toNat) H1) : iRng1 tA σ H R := h
theorem r_rng2 {R : It → Hp → Prop} (h : tA σ H fun vs H1 => ∃ i j : Int, vs = [.int i, .int j] ∧ (-(2 ^ 62) ≤ i ∧ i < 2 ^ 62 ∧ -(2 ^ 62) ≤ j ∧ j < 2 ^ 62) ∧ R (Itr i (j - i).toNat) H1) : iRng2 tA σ H R := h
theorem r_ilist {K : PySem.W.Frag} {R : It → Hp → Prop} (h : te σ H fun x H1 => ∃ a, x = .ref a ∧ (∃ xs, SqL K H1 a xs) ∧ R (Itl K a) H1) : iList K te σ H R := h
theorem r_lc {wi : TI} {ix : List Nat} {tc : TT} (h : wi σ H fun J H1 => rdLc J H1 (frV σ ix) tc te Q) : tLc wi ix tc te σ H Q := h
/-- items of lists, tuples, texts -/
theorem r_ixL {K : PySem.W.Frag} {p : Addr} {xs : List V} {i : Int} {v : V} (hs : SqL K H p xs) (e : atI xs i = some v) (h : Q v H) : rIxL K (.ref p) (.int i) H Q := ⟨p, xs, i, v, rfl, rfl, hs, e, h⟩
theorem r_ixT {K : PySem.W.Frag} {p : Addr} {xs : List V} {i : Int} {v : V} (hs : SqT K H p xs) (e : atI xs i = some v) (h : Q v H) : rIxT K (.ref p) (.int i) H Q := ⟨p, xs, i, v, rfl, rfl, hs, e, h⟩
theorem r_append {l : Addr} {xs : List V} {y : V} (hl : H l = some (.lst xs)) (hz : xs.length < sizeLine) (h : Q .non (upd H l (.lst (xs ++ [y])))) : rAppend (.ref l) [y] H Q := ⟨l, xs, y, rfl, rfl, hl, hz, h⟩
end
/-- while, by a word and a measure; r_turn goes into the body -/
theorem while_rd {c : TT} {tb : TS} {D : Ends} {σ : St} {H : Hp} (Pv : St → Hp → Prop) (μ : St → Hp → Nat) (h0 : Pv σ H)
    (hs : ∀ m σ H, Pv σ H → μ σ H = m → c σ H fun b H1 => if b = true then ∃ N : St → Hp → Prop, (∀ σ' H', N σ' H' → ∃ m', m' < m ∧ (Pv σ' H' ∧ μ σ' H' = m')) ∧ tb { D with nx := N, ct := N, bk := D.nx } σ H1 else D.nx σ H1) : tWhile c tb D σ H :=
  ⟨fun m σ H => Pv σ H ∧ μ σ H = m, ⟨_, h0, rfl⟩, fun m σ H h => hs m σ H h.1 h.2⟩
theorem r_turn {tb : TS} {rt : VK} {bk : St → Hp → Prop} {σ : St} {H1 : Hp} {Pv : St → Hp → Prop} {μ : St → Hp → Nat} {m : Nat}
    (h : tb { nx := fun σ' H' => Pv σ' H' ∧ μ σ' H' < m, rt := rt, bk := bk, ct := fun σ' H' => Pv σ' H' ∧ μ σ' H' < m } σ H1) :
    ∃ N : St → Hp → Prop, (∀ σ' H', N σ' H' → ∃ m', m' < m ∧ (Pv σ' H' ∧ μ σ' H' = m')) ∧ tb { nx := N, rt := rt, bk := bk, ct := N } σ H1 := ⟨_, fun σ' H' z => ⟨_, z.2, z.1, rfl⟩, h⟩
section
variable {H : Hp} {Q : VK} {g : Int → Int → V} {i j : Int}
theorem r_mod (c : 0 < j) (h : Q (g i j) H) : rI (fun _ j => 0 < j) g (.int i) (.int j) H Q := ⟨i, j, rfl, rfl, c, h⟩
theorem r_div (c1 : 0 < j) (c2 : j < 1073741824) (h : Q (g i j) H) : rI CDiv g (.int i) (.int j) H Q := ⟨i, j, rfl, rfl, ⟨c1, c2⟩, h⟩
theorem r_mulR (c1 : -(2 ^ 64) < j) (c2 : j < 2 ^ 64) (h : Q (g i j) H) : rI CMul g (.int i) (.int j) H Q := ⟨i, j, rfl, rfl, .inr ⟨c1, c2⟩, h⟩
theorem r_mulL (c1 : -(2 ^ 64) < i) (c2 : i < 2 ^ 64) (h : Q (g i j) H) : rI CMul g (.int i) (.int j) H Q := ⟨i, j, rfl, rfl, .inl ⟨c1, c2⟩, h⟩
end
theorem iteP {c A B : Prop} [Decidable c] (h1 : c → A) (h2 : ¬ c → B) : if decide c = true then A else B := by
  by_cases h : c
  · rw [decide_eq_true h, if_pos rfl]
    exact h1 h
  · rw [decide_eq_false h, if_neg Bool.false_ne_true]
    exact h2 h
theorem iteN {c A B : Prop} [Decidable c] (h1 : ¬ c → A) (h2 : c → B) : if (!decide c) = true then A else B := by
  by_cases h : c
  · rw [decide_eq_true h, if_neg (by decide)]
    exact h2 h
  · rw [decide_eq_false h, if_pos (by decide)]
    exact h1 h
/-! ### an if whose ways meet behind it -/
def tIfJ (c : TT) (t u : TS) : TS := fun D σ H => ∃ J : St → Hp → Prop, (∀ σ H, J σ H → D.nx σ H) ∧ c σ H fun b H1 => if b = true then t { D with nx := J } σ H1 else u { D with nx := J } σ H1
theorem ps_ifJ {X : Cx} {c : Expr} {a b : List Stmt} {tc : TT} {t u : TS} {pos : Pos} (hc : PT X c tc) (ha : PSs X a t) (hb : PSs X b u) : PS X (.If c a b pos) (tIfJ tc t u) := by
  intro pins s σ H D I h
  obtain ⟨J, hJ, h⟩ := h
  refine thn (ps_if hc ha hb pins s σ H { D with nx := J } I h) fun f s' q => ?_
  cases f with
  | next =>
    obtain ⟨σ', H', I', q'⟩ := q
    exact ⟨σ', H', I', hJ _ _ q'⟩
  | brk => exact q
  | cont => exact q
  | ret u => exact q
theorem r_ifJ {c : TT} {t u : TS} {D : Ends} {σ : St} {H : Hp} (J : St → Hp → Prop) (h : c σ H fun b H1 => if b = true then t { D with nx := J } σ H1 else u { D with nx := J } σ H1) (hJ : ∀ σ H, J σ H → D.nx σ H) : tIfJ c t u D σ H := ⟨J, hJ, h⟩
end L2
end

section
set_option Elab.async false
set_option linter.all false
set_option maxRecDepth 100000
set_option maxHeartbeats 4000000
/-! My own rules behind the layer: ranges by steps, texts walked and cut, sums, counts, tuples compared. -/
namespace L2
open PySem PySem.Spec PyProof.Rows

section
variable {X : Cx} {tg : Expr}
end
section
variable {X : Cx} {tg : Expr}
end
section
variable {X : Cx}
end
end L2
end

section
set_option Elab.async false
set_option linter.all false
set_option maxRecDepth 100000
set_option maxHeartbeats 4000000
/-! zip and enumerate; comprehensions over pairs. -/
namespace L2
open PySem PySem.Spec PyProof.Rows
theorem b_zip : bootBuiltins "zip" = some (.type "zip") := by decide +kernel
theorem b_enumerate : bootBuiltins "enumerate" = some (.type "enumerate") := by decide +kernel

/-- several records of ours have turned, a new tuple stands -/
theorem Inv.turnT {X : Cx} {pins : List (Addr × Obj)} {σ : List (Option V)} {H : Hp} {s : Shared} {h' : Heap} {t' : Nat} {wr : List Addr} {T : Addr} {xs : List V} {us : List Value} (I : Inv X pins σ H s)
    (k : ∀ b o, b ∉ wr → s.heap.get? b = some o → h'.get? b = some o) (hf : ∀ b ∈ wr, FpOk X pins H b) (hT : s.heap.objs.size ≤ T) (hI : h'.IsTuple T us.toArray) (rv : Vals xs us) (hz : xs.length ≤ sizeLine) :
    Inv X pins σ (upd H T (.tup xs)) { s with heap := h', toks := t' } := by
  have hn : H T = none := I.hok.fresh hT
  have nT : ∀ b u, H b = some u → b ≠ T := fun b u e => ne_of_none e hn
  have nW : ∀ b u, H b = some u → b ∉ wr := fun b u e z => by rw [(hf b z).1] at e; cases e
  refine I.step (g' := s.gens) (d' := s.drawn) (ch := wr) (fun b hb => ?_) (fun b o _ _ hc e _ => k b o hc e) (fun b o _ _ hc e _ => ⟨o.slots, k b o hc e⟩) (fun b o hc e n => ?_)
    (fun b o hc e => ⟨o, k b o hc e⟩) (fun b xs e => by rw [upd_ne (nT _ _ e)]; exact e) (fun b o u e => by rw [upd_ne (nT _ _ e)]; exact e) (fun b ps e => ⟨#[], by rw [upd_ne (nT _ _ e), e]; simp⟩) (fun m hm => ?_) (fun b u e => ?_) I.bare
  · obtain ⟨_, f1, _, f3, f4, f5⟩ := hf b hb
    exact ⟨f3, f1, f4, f5⟩
  · rw [upd_ne (Nat.ne_of_lt (Nat.lt_of_lt_of_le (Heap.lt_size e) hT))]
    exact n
  · obtain ⟨o, es, ep, ho, r⟩ := hm
    exact ⟨o, es, ep, k _ o (fun z => (hf _ z).2.1 rfl) ho, r⟩
  · by_cases hb : b = T
    · subst hb
      rw [upd_same] at e
      cases e
      exact ⟨hz, us, rv, hI⟩
    · rw [upd_ne hb] at e
      refine (I.hok b u e).stay (fun c v hc q => k c v ?_ q) (fun c q => by rw [upd_ne (nT _ _ q)]; exact q) fun c ys q => by rw [upd_ne (nT _ _ q)]; exact q
      rcases hc with z | z
      · rw [z]; exact nW b u e
      · exact nW c _ z
/-- .. and no new one -/
theorem Inv.turnW {X : Cx} {pins : List (Addr × Obj)} {σ : List (Option V)} {H : Hp} {s : Shared} {h' : Heap} {t' : Nat} {wr : List Addr} (I : Inv X pins σ H s)
    (k : ∀ b o, b ∉ wr → s.heap.get? b = some o → h'.get? b = some o) (hf : ∀ b ∈ wr, FpOk X pins H b) : Inv X pins σ H { s with heap := h', toks := t' } := by
  have nW : ∀ b u, H b = some u → b ∉ wr := fun b u e z => by rw [(hf b z).1] at e; cases e
  refine I.step (g' := s.gens) (d' := s.drawn) (ch := wr) (fun b hb => ?_) (fun b o _ _ hc e _ => k b o hc e) (fun b o _ _ hc e _ => ⟨o.slots, k b o hc e⟩) (fun b o hc e n => n)
    (fun b o hc e => ⟨o, k b o hc e⟩) (fun _ _ e => e) (fun _ _ _ e => e) (fun b ps e => ⟨#[], by rw [e]; simp⟩) (fun m hm => ?_) (fun b u e => ?_) I.bare
  · obtain ⟨_, f1, _, f3, f4, f5⟩ := hf b hb
    exact ⟨f3, f1, f4, f5⟩
  · obtain ⟨o, es, ep, ho, r⟩ := hm
    exact ⟨o, es, ep, k _ o (fun z => (hf _ z).2.1 rfl) ho, r⟩
  · refine (I.hok b u e).stay (fun c v hc q => k c v ?_ q) (fun _ q => q) fun _ _ q => q
    rcases hc with z | z
    · rw [z]; exact nW b u e
    · exact nW c _ z
theorem cls_ne {h : Heap} {a b : Addr} {o u : Obj} (h1 : h.get? a = some o) (h2 : h.get? b = some u) (d : o.cls ≠ u.cls) : a ≠ b := fun e => by
  subst e
  rw [h1] at h2
  cases h2
  exact d rfl
/-- the pairs of two lists -/
def Itz (K : PySem.W.Frag) (a b : Addr) : It :=
  ⟨fun i H => ∃ xs ys x y, SqL K H a xs ∧ SqL K H b ys ∧ xs[i]? = some x ∧ ys[i]? = some y,
   fun i H v H' => ∃ t x y, H t = none ∧ v = .ref t ∧ (∀ xs, SqL K H a xs → xs[i]? = some x) ∧ (∀ ys, SqL K H b ys → ys[i]? = some y) ∧ H' = upd H t (.tup [x, y]),
   fun i H => ∃ xs ys, SqL K H a xs ∧ SqL K H b ys ∧ i = min xs.length ys.length⟩
def StZ (z TI TO i1 i2 l1 l2 : Addr) (i : Nat) (h : Heap) : Prop := IsZip h z TI TO .none ∧ IsPair h TI (.ref i1) (.ref i2) ∧ (∃ a b, IsPair h TO a b) ∧ h.IsListIter i1 l1 i ∧ h.IsListIter i2 l2 i
structure ApartZ (z TI TO i1 i2 : Addr) : Prop where
  TIz : TI ≠ z
  TOz : TO ≠ z
  i1z : i1 ≠ z
  i2z : i2 ≠ z
  TITO : TI ≠ TO
  TIi1 : TI ≠ i1
  TIi2 : TI ≠ i2
  TOi1 : TO ≠ i1
  TOi2 : TO ≠ i2
  i12 : i1 ≠ i2
theorem apartZ {h : Heap} {z TI TO i1 i2 a b : Addr} {i : Nat} {xs ys : Array Value} (D : ApartZ z TI TO i1 i2) (st : StZ z TI TO i1 i2 a b i h) (ha : h.IsList a xs) (hb : h.IsList b ys) : ZipApart z TI TO i1 i2 a b := by
  obtain ⟨hz, hTI, ⟨u, v, hTO⟩, ⟨o1, e1, c1, _⟩, ⟨o2, e2, c2, _⟩⟩ := st
  obtain ⟨oa, ea, ca, _⟩ := ha
  obtain ⟨ob, eb, cb, _⟩ := hb
  refine ⟨D.TIz, D.TOz, D.i1z, D.i2z, D.TITO, D.TIi1, D.TIi2, D.TOi1, D.TOi2, D.i12, cls_ne ea hz ?_, cls_ne ea hTO ?_, cls_ne ea e1 ?_, cls_ne ea e2 ?_, cls_ne eb hz ?_, cls_ne eb hTO ?_, cls_ne eb e1 ?_, cls_ne eb e2 ?_⟩
  · rw [ca]; exact show Value.type "list" ≠ Value.type "zip" by decide
  · rw [ca]; exact show Value.type "list" ≠ Value.type "tuple" by decide
  · rw [ca, c1]; decide
  · rw [ca, c2]; decide
  · rw [cb]; exact show Value.type "list" ≠ Value.type "zip" by decide
  · rw [cb]; exact show Value.type "list" ≠ Value.type "tuple" by decide
  · rw [cb, c1]; decide
  · rw [cb, c2]; decide
theorem apartZ_new (n : Nat) : ApartZ (n + 4) (n + 2) (n + 3) n (n + 1) := by
  constructor <;> (intro h; have h : (_ : Nat) = _ := h; omega)
theorem le_z2 {n c : Nat} (h : c = n + 1 ∨ c = n) : n ≤ c := by omega
theorem ne_z1 (n : Nat) : n + 1 ≠ n := by omega
theorem turn_zip {P : Program} {w : World} {K : PySem.W.Frag} {elts : List Expr} {k : Nat} {pos : Pos} (z TI TO i1 i2 a b : Addr) (D : ApartZ z TI TO i1 i2) :
    Turn P w K (.Tuple elts k pos) (Itz K a b) [z, TI, TO, i1, i2] z (StZ z TI TO i1 i2 a b) where
  mem := by simp
  obj := fun i h st c hc => by
    obtain ⟨hz, hTI, ⟨u, v, hTO⟩, ⟨o1, e1, c1, d1⟩, ⟨o2, e2, c2, d2⟩⟩ := st
    simp only [List.mem_cons, List.not_mem_nil, or_false] at hc
    rcases hc with rfl | rfl | rfl | rfl | rfl
    · exact ⟨_, hz, fun v z => by cases z⟩
    · exact ⟨_, hTI, fun v z => by cases z⟩
    · exact ⟨_, hTO, fun v z => by cases z⟩
    · exact ⟨_, e1, fun v z => by rw [d1] at z; cases z⟩
    · exact ⟨_, e2, fun v z => by rw [d2] at z; cases z⟩
  keep := fun i h h' st kk => by
    obtain ⟨hz, hTI, ⟨u, v, hTO⟩, h1, h2⟩ := st
    exact ⟨kk _ (by simp) _ hz, kk _ (by simp) _ hTI, ⟨u, v, kk _ (by simp) _ hTO⟩, h1.at fun o e => kk _ (by simp) o e, h2.at fun o e => kk _ (by simp) o e⟩
  item := by
    intro X hP hw hK hc i pins s σ H E I hf st hg
    subst hP hw hK
    obtain ⟨xs, ys, x, y, ha, hb, hx, hy⟩ := hg
    obtain ⟨its, rv, p, hz⟩ := I.list ha
    obtain ⟨its2, rv2, p2, hz2⟩ := I.list hb
    have W := WalksT.zip2 (prog := X.prog) (w := X.w) (A := X.A) (I.ok.hd hc) z TI TO i1 i2 a b (apartZ D st p.isList p2.isList) its.toArray its2.toArray
    obtain ⟨u1, hu1, ru1⟩ := rv.get hx
    obtain ⟨u2, hu2, ru2⟩ := rv2.get hy
    have l1 := (List.getElem?_eq_some_iff.mp hu1).1
    have l2 := (List.getElem?_eq_some_iff.mp hu2).1
    obtain ⟨s1, s2, s3, s4, s5⟩ := id st
    refine W.item i s _ _ (by simp; omega) ⟨s1, s2, s3, s4, s5, p.isList, p2.isList⟩ fun T vals h' tk hv hT hTu mid kk => ?_
    obtain ⟨v1, v2, e1, e2, rfl⟩ := hv
    have e1 : v1 = u1 := by have := e1; simp only [List.getElem?_toArray] at this; rw [hu1] at this; exact (Option.some.inj this).symm
    have e2 : v2 = u2 := by have := e2; simp only [List.getElem?_toArray] at this; rw [hu2] at this; exact (Option.some.inj this).symm
    subst e1 e2
    have nT := W.apart i T h' mid
    refine ⟨.ref T, rfl, W.go elts k pos i T { s with heap := h', toks := tk } _ _ mid fun h'' st'' kk2 => ?_⟩
    have hTu2 : h''.IsTuple T ([v1, v2] : List Value).toArray := by
      obtain ⟨o, e, r⟩ := hTu
      exact ⟨o, kk2 T o nT e, r⟩
    have I2 : Inv X pins σ (upd H T (.tup [x, y])) { s with heap := h'', toks := tk } := I.turnT (t' := tk) (fun b o hb e => kk2 b o hb (kk b o hb e)) (fun b hb => hf b (by simp at hb ⊢; rcases hb with rfl | rfl | rfl | rfl <;> simp)) hT hTu2 (.cons ru1 (.cons ru2 .nil)) (show 2 ≤ sizeLine by decide)
    refine ⟨.ref T, _, I2, rfl, ⟨T, x, y, I.hok.fresh hT, rfl, fun xs' h => by rw [I.list_inj h ha]; exact hx, fun ys' h => by rw [I.list_inj h hb]; exact hy, rfl⟩, ⟨st''.1, st''.2.1, st''.2.2.1, st''.2.2.2.1, st''.2.2.2.2.1⟩, fun c hc' => ?_⟩
    have hlt : c < s.heap.objs.size := by
      obtain ⟨q, ⟨t1, t2, t3⟩⟩ : c ∈ [z, TI, TO, i1, i2] ∧ (IsZip s.heap z TI TO .none ∧ IsPair s.heap TI (.ref i1) (.ref i2) ∧ True) := ⟨hc', s1, s2, trivial⟩
      obtain ⟨u, v, s3⟩ := s3
      obtain ⟨o4, s4, _⟩ := s4
      obtain ⟨o5, s5, _⟩ := s5
      simp only [List.mem_cons, List.not_mem_nil, or_false] at hc'
      rcases hc' with rfl | rfl | rfl | rfl | rfl
      · exact Heap.lt_size s1
      · exact Heap.lt_size s2
      · exact Heap.lt_size s3
      · exact Heap.lt_size s4
      · exact Heap.lt_size s5
    rw [upd_ne (Nat.ne_of_lt (Nat.lt_of_lt_of_le hlt hT))]
    exact (hf c hc').1
  done := by
    intro X hP hw hK hc i pins s σ H E I hf st hg
    subst hP hw hK
    obtain ⟨xs, ys, ha, hb, hi⟩ := hg
    obtain ⟨its, rv, p, hz⟩ := I.list ha
    obtain ⟨its2, rv2, p2, hz2⟩ := I.list hb
    have W := WalksT.zip2 (prog := X.prog) (w := X.w) (A := X.A) (I.ok.hd hc) z TI TO i1 i2 a b (apartZ D st p.isList p2.isList) its.toArray its2.toArray
    have hl := rv.length
    have hl2 := rv2.length
    have hi2 : i = min its.toArray.size its2.toArray.size := by rw [hi, hl, hl2]; simp
    obtain ⟨s1, s2, s3, s4, s5⟩ := id st
    refine W.done s _ _ (by rw [← hi2]; exact ⟨s1, s2, s3, s4, s5, p.isList, p2.isList⟩) fun h' tk kk => ⟨rfl, ?_⟩
    exact I.turnW (t' := tk) kk fun b hb => hf b (by simp at hb ⊢; rcases hb with rfl | rfl | rfl | rfl <;> simp)
  self := fun _ _ _ _ _ st h => wpAny_pyIter_zip st.1 h
section
variable {X : Cx} {elts : List Expr} {k : Nat} {tpos : Pos}
end
/-- the numbered items of a list -/
def Ite (K : PySem.W.Frag) (a : Addr) : It :=
  ⟨fun i H => ∃ xs x, SqL K H a xs ∧ xs[i]? = some x,
   fun i H v H' => ∃ t x, H t = none ∧ v = .ref t ∧ (∀ xs, SqL K H a xs → xs[i]? = some x) ∧ H' = upd H t (.tup [.int i, x]),
   fun i H => ∃ xs, SqL K H a xs ∧ i = xs.length⟩
def StE (e it l : Addr) (i : Nat) (h : Heap) : Prop := (∃ old, IsEnum h e it i old) ∧ h.IsListIter it l i
theorem turn_enum {P : Program} {w : World} {K : PySem.W.Frag} {elts : List Expr} {k : Nat} {pos : Pos} (e it a : Addr) (D : e ≠ it) :
    Turn P w K (.Tuple elts k pos) (Ite K a) [e, it] e (StE e it a) where
  mem := by simp
  obj := fun i h st c hc => by
    obtain ⟨⟨old, he⟩, ⟨o1, e1, c1, d1⟩⟩ := st
    simp only [List.mem_cons, List.not_mem_nil, or_false] at hc
    rcases hc with rfl | rfl
    · exact ⟨_, he, fun v z => by cases z⟩
    · exact ⟨_, e1, fun v z => by rw [d1] at z; cases z⟩
  keep := fun i h h' st kk => by
    obtain ⟨⟨old, he⟩, h1⟩ := st
    exact ⟨⟨old, kk _ (by simp) _ he⟩, h1.at fun o e => kk _ (by simp) o e⟩
  item := by
    intro X hP hw hK hc i pins s σ H E I hf st hg
    subst hP hw hK
    obtain ⟨xs, x, ha, hx⟩ := hg
    obtain ⟨its, rv, p, hz⟩ := I.list ha
    obtain ⟨⟨old, s1⟩, s2⟩ := id st
    have n1 : a ≠ e := by obtain ⟨oa, ea, ca, _⟩ := p.isList; exact cls_ne ea s1 (by rw [ca]; exact show Value.type "list" ≠ Value.type "enumerate" by decide)
    have n2 : a ≠ it := by obtain ⟨oa, ea, ca, _⟩ := p.isList; obtain ⟨o1, e1, c1, _⟩ := s2; exact cls_ne ea e1 (by rw [ca, c1]; decide)
    have W := WalksT.enumerate (prog := X.prog) (w := X.w) (A := X.A) (I.ok.hd hc) e it a D n1 n2 its.toArray
    obtain ⟨u1, hu1, ru1⟩ := rv.get hx
    have l1 := (List.getElem?_eq_some_iff.mp hu1).1
    refine W.item i s _ _ (by simpa using l1) ⟨⟨old, s1⟩, s2, p.isList⟩ fun T vals h' tk hv hT hTu mid kk => ?_
    obtain ⟨t, v1, e1, rfl⟩ := hv
    have e1 : v1 = u1 := by have := e1; simp only [List.getElem?_toArray] at this; rw [hu1] at this; exact (Option.some.inj this).symm
    subst e1
    have nT := W.apart i T h' mid
    refine ⟨.ref T, rfl, W.go elts k pos i T { s with heap := h', toks := tk } _ _ mid fun h'' st'' kk2 => ?_⟩
    have hTu2 : h''.IsTuple T ([Value.int (i : Int) t, v1] : List Value).toArray := by
      obtain ⟨o, e, r⟩ := hTu
      exact ⟨o, kk2 T o nT e, r⟩
    have I2 : Inv X pins σ (upd H T (.tup [.int i, x])) { s with heap := h'', toks := tk } := I.turnT (t' := tk) (fun b o hb e => kk2 b o hb (kk b o hb e)) (fun b hb => hf b hb) hT hTu2 (.cons ⟨t, rfl⟩ (.cons ru1 .nil)) (show 2 ≤ sizeLine by decide)
    refine ⟨.ref T, _, I2, rfl, ⟨T, x, I.hok.fresh hT, rfl, fun xs' h => by rw [I.list_inj h ha]; exact hx, rfl⟩, ⟨?_, st''.2.1⟩, fun c hc' => ?_⟩
    · exact st''.1
    have hlt : c < s.heap.objs.size := by
      obtain ⟨o5, s5, _⟩ := s2
      simp only [List.mem_cons, List.not_mem_nil, or_false] at hc'
      rcases hc' with rfl | rfl
      · exact Heap.lt_size s1
      · exact Heap.lt_size s5
    rw [upd_ne (Nat.ne_of_lt (Nat.lt_of_lt_of_le hlt hT))]
    exact (hf c hc').1
  done := by
    intro X hP hw hK hc i pins s σ H E I hf st hg
    subst hP hw hK
    obtain ⟨xs, ha, hi⟩ := hg
    obtain ⟨its, rv, p, hz⟩ := I.list ha
    obtain ⟨⟨old, s1⟩, s2⟩ := id st
    have n1 : a ≠ e := by obtain ⟨oa, ea, ca, _⟩ := p.isList; exact cls_ne ea s1 (by rw [ca]; exact show Value.type "list" ≠ Value.type "enumerate" by decide)
    have n2 : a ≠ it := by obtain ⟨oa, ea, ca, _⟩ := p.isList; obtain ⟨o1, e1, c1, _⟩ := s2; exact cls_ne ea e1 (by rw [ca, c1]; decide)
    have W := WalksT.enumerate (prog := X.prog) (w := X.w) (A := X.A) (I.ok.hd hc) e it a D n1 n2 its.toArray
    have hl := rv.length
    have hi2 : i = its.toArray.size := by rw [hi, hl]; simp
    refine W.done s _ _ (by rw [← hi2]; exact ⟨⟨old, s1⟩, s2, p.isList⟩) fun h' tk kk => ⟨rfl, ?_⟩
    exact I.turnW (t' := tk) kk fun b hb => hf b hb
  self := fun _ _ _ _ _ st h => wpAny_pyIter_enum (Classical.choose_spec st.1) h
section
variable {X : Cx} {elts : List Expr} {k : Nat} {tpos : Pos}
def iEnum (K : PySem.W.Frag) (ta : TA) : TI := fun σ H R => ta σ H fun vs H1 => ∃ a, vs = [.ref a] ∧ (∃ xs, SqL K H1 a xs) ∧ R (Ite K a) H1
theorem pi_enum {a : Expr} {ta : TA} {p pos : Pos} (hg : Gl X "enumerate") (hm : X.mg "enumerate" = none) (ha : PA X [a] ta) (hs : starEach [a] X.env = [(false, eval a X.env)] := by rfl) :
    PI X (.Tuple elts k tpos) (.Call (.Name "enumerate" p) [a] [] pos) (iEnum X.K ta) := by
  intro pins s σ H R I h
  refine Call_ (ld_blt I hg hm b_enumerate (PyProof.Rows.callWith_type1 (thn (ha pos pins s σ H _ I h) fun us s1 ⟨vs, H1, I1, r1, q1⟩ => ?_) hs rfl))
  obtain ⟨a, e, ⟨xs, hx⟩, q⟩ := q1
  subst e
  obtain ⟨u, rfl, ru⟩ := vals1 r1
  cases ru
  obtain ⟨its, rv, p, hz⟩ := I1.list hx
  refine call_enumerate_list p.isList fun h' g1 g2 hsz kk => ?_
  refine wpAny_pyIter_enum (s := { s1 with heap := h' }) g1 ?_
  refine ⟨s1.heap.objs.size + 1, [s1.heap.objs.size + 1, s1.heap.objs.size], _, _, H1, rfl, I1.kept (t' := s1.toks) kk,
    turn_enum _ _ a (ne_z1 _), ⟨⟨_, g1⟩, g2⟩, fun c hc => ?_, q⟩
  have hle : s1.heap.objs.size ≤ c := by
    simp only [List.mem_cons, List.not_mem_nil, or_false] at hc
    exact le_z2 hc
  exact I1.fpOk hle (I1.hok.fresh hle)
end
end L2
end

section
set_option Elab.async false
set_option linter.all false
set_option maxRecDepth 100000
set_option maxHeartbeats 4000000
/-! Comprehensions over pairs. -/
namespace L2
open PySem PySem.Spec PyProof.Rows
section
variable {X : Cx} {scope : Scope} {N : List Str} {ix : List Nat} {x1 x2 : Str} {px px2 ppos : Pos} {kk : Nat} {elt iter : Expr} {ifs : List Expr} {tc : TT} {te : TE} {pos : Pos}
end
theorem r_ienum {K : PySem.W.Frag} {tA : TA} {σ : St} {H : Hp} {R : It → Hp → Prop} (h : tA σ H fun vs H1 => ∃ a, vs = [.ref a] ∧ (∃ xs, SqL K H1 a xs) ∧ R (Ite K a) H1) : iEnum K tA σ H R := h
theorem r_gtup2 {K : PySem.W.Frag} {σ : St} {H : Hp} {R : St → Hp → Prop} {a : Addr} {x y : V} {i j : Nat} (hs : SqT K H a [x, y]) (h : R ((σ.set i (some x)).set j (some y)) H) : gTup K 2 (gCons (gName i) (gCons (gName j) gNil)) (.ref a) σ H R :=
  ⟨a, [x, y], rfl, hs, rfl, x, [y], rfl, y, [], rfl, rfl, h⟩
theorem for_enum {K : PySem.W.Frag} {a : Addr} {xs : List V} {i1 i2 : Nat} {tb : TS} {D : Ends} {σ : St} {H : Hp} (Pv : Nat → St → Hp → Prop) (h0 : Pv 0 σ H) (hl : ∀ i σ H, i ≤ xs.length → Pv i σ H → SqL K H a xs)
    (step : ∀ i x σ H t, xs[i]? = some x → Pv i σ H → H t = none → tb { D with nx := Pv (i + 1), ct := Pv (i + 1), bk := D.nx } ((σ.set i1 (some (.int i))).set i2 (some x)) (upd H t (.tup [.int i, x])))
    (fin : ∀ σ H, Pv xs.length σ H → D.nx σ H) : forB (Ite K a) (gTup K 2 (gCons (gName i1) (gCons (gName i2) gNil))) tb D σ H := by
  refine ⟨fun i m σ H => i ≤ xs.length ∧ m = xs.length - i ∧ Pv i σ H, ⟨_, Nat.zero_le _, rfl, h0⟩, ?_⟩
  rintro i m σ H ⟨hi, rfl, hp⟩
  by_cases h : i = xs.length
  · exact .inl ⟨⟨xs, hl i σ H hi hp, h⟩, fin σ H (h ▸ hp)⟩
  · have hlt : i < xs.length := Nat.lt_of_le_of_ne hi h
    refine .inr ⟨⟨xs, xs[i], hl i σ H hi hp, by simp⟩, Pv (i + 1), fun σ' H' q => ⟨xs.length - (i + 1), by omega, hlt, rfl, q⟩, fun v H' hy => ?_⟩
    obtain ⟨t, x, hn, rfl, hx, rfl⟩ := hy
    exact r_gtup2 (SqT.of upd_same) (step i x σ H t (hx xs (hl i σ H hi hp)) hp hn)
end L2
end

section
set_option Elab.async false
set_option linter.all false
set_option maxRecDepth 100000
set_option maxHeartbeats 4000000
/-! The numbered signs of a text. -/
namespace L2
open PySem PySem.Spec PyProof.Rows
section
variable {X : Cx} {elts : List Expr} {k : Nat} {tpos : Pos}
end
end L2
end

section
set_option Elab.async false
set_option linter.all false
set_option maxRecDepth 100000
set_option maxHeartbeats 4000000
/-! My own rules behind the layer: objects in one piece, sums, counts, numbers by two, texts turned about. -/
namespace L2
open PySem PySem.Spec PyProof.Rows
/-! ### classes and methods in one piece -/
structure Mth (P : Program) (w : World) (K : PySem.W.Frag) (mg : Str → Option Value) (base : Heap) (C : Addr) (m : Str) (k : Nat) (ps : List Str) (sp : Sp) : Prop where
  ex : ∃ (f : Addr) (fd : FuncData), FnOk P w K mg base CX0 k f fd ps sp ∧ Binds K fd ps [] ∧ Meth K C m f
  cl : Cls K C
section
variable {X : Cx} {k : Nat} {C : Addr} {ps : List Str} {sp : Sp} {name m : Str} {p pos apos : Pos} {e o : Expr} {es : List Expr} {ta : TE} {t : TA} {pl : Sem Bool}
theorem pe_mt (M : Mth X.prog X.w X.K X.mg X.base C m k ps sp) (hr : Room k X.A) (ho : PE X o ta) (ha : PA X (e :: es) t)
    (hst : starEach (e :: es) X.env = (false, eval e X.env) :: starEach es X.env := by rfl) (hpl : (backTo pos (starEach es X.env)).any (·.1) = false := by rfl)
    (ht : eval (.Call (.Attribute o m apos) (e :: es) [] pos) X.env = (do
      let ov ← eval o X.env
      standAt apos.atName
      let (f, first) ← holding [ov] (getMethod ov m pl)
      callWith pos f first (backTo pos (starEach (e :: es) X.env)) (backToKw pos (keywordEach [] X.env))) := by rfl) :
    PE X (.Call (.Attribute o m apos) (e :: es) [] pos) (tMeth C m sp [] E0 ta t) := by
  obtain ⟨f, fd, F, b, hm⟩ := M.ex
  exact pe_meth ho M.cl hm F hr b .nil pass0 ha hst hpl ht
end
section
variable {σ : St} {H : Hp} {D : Ends} {Q : VK} {te ta tv : TE} {tA : TA} {K : PySem.W.Frag}
theorem r_fld {f : Str} (h : te σ H fun x H1 => ∃ a C dx fs v, x = .ref a ∧ H1 a = some (.ins C dx fs) ∧ Cls K C ∧ NoAttr K C f ∧ fs.lookup f = some v ∧ Q v H1) : tFld K te f σ H Q := h
theorem r_sfld {f : Str} (h : tv σ H fun y H1 => ta σ H1 fun x H2 => ∃ a C dx fs, x = .ref a ∧ H2 a = some (.ins C dx fs) ∧ Cls K C ∧ NoAttr K C f ∧ fs.length < 1000 ∧ D.nx σ (upd H2 a (.ins C dx (putF f y fs)))) : sFld K ta tv f D σ H := h
theorem r_sfldE {a C dx : Addr} {fs : List (Str × V)} {f : Str} {R : Hp → Prop} {y : V} (h : H a = some (.ins C dx fs)) (c : Cls K C) (n : NoAttr K C f) (l : fs.length < 1000) (q : R (upd H a (.ins C dx (putF f y fs)))) :
    ∃ a' C' dx' fs', V.ref a = .ref a' ∧ H a' = some (.ins C' dx' fs') ∧ Cls K C' ∧ NoAttr K C' f ∧ fs'.length < 1000 ∧ R (upd H a' (.ins C' dx' (putF f y fs'))) := ⟨a, C, dx, fs, rfl, h, c, n, l, q⟩
theorem r_make {C : Addr} {sp : Sp} {E : XK} (h : tA σ H fun vs H1 => ∀ x dx, H1 x = none → H1 dx = none → dx ≠ x → sp (.ref x :: (vs ++ [])) (upd (upd H1 dx (.own x)) x (.ins C dx [])) (fun v H2 => v = .non ∧ Q (.ref x) H2) E) : tMake C sp [] E tA σ H Q := h
theorem r_meth {C : Addr} {m : Str} {sp : Sp} {E : XK} (h : ta σ H fun x H1 => ∃ a dx fs, x = .ref a ∧ H1 a = some (.ins C dx fs) ∧ fs.lookup m = none ∧ tA σ H1 fun vs H2 => sp (x :: (vs ++ [])) H2 Q E) : tMeth C m sp [] E ta tA σ H Q := h
end
/-! ### str.count -/
section
variable {X : Cx}
end
/-! ### int(text, 2) -/
namespace IB
open PySem.NumText PySem.Calls
def v2 (cs : List Nat) : Nat := cs.foldl (fun a c => a * 2 + (c - 48)) 0
end IB
section
variable {X : Cx}
end
end L2
end

section
set_option Elab.async false
set_option linter.all false
set_option maxRecDepth 100000
set_option maxHeartbeats 4000000
/-! My own rules behind the layer: texts turned about, things of one form compared, list(range(n)). -/
namespace L2
open PySem PySem.Spec PyProof.Rows
section
variable {X : Cx} {e : Expr} {te : TE} {p1 p2 p3 pos : Pos} {j : Nat}
end
/-! ### things of one form -/
inductive SameD (K : PySem.W.Frag) (H : Hp) : Nat → V → V → Prop where
  | flat {n : Nat} {x : V} (h : flatV x = true) : SameD K H n x x
  | tup {n : Nat} {a b : Addr} {xs ys : List V} (h1 : SqT K H a xs) (h2 : SqT K H b ys) (hl : xs.length = ys.length) (h : ∀ (j : Nat) (x y : V), xs[j]? = some x → ys[j]? = some y → SameD K H n x y) : SameD K H (n + 1) (.ref a) (.ref b)
  | lst {n : Nat} {a b : Addr} {xs ys : List V} (h1 : SqL K H a xs) (h2 : SqL K H b ys) (hl : xs.length = ys.length) (h : ∀ (j : Nat) (x y : V), xs[j]? = some x → ys[j]? = some y → SameD K H n x y) : SameD K H (n + 1) (.ref a) (.ref b)
theorem eqV_self {x : V} (h : flatV x = true) : eqV x x = true := by
  cases x <;> first | rfl | (simp [eqV]; done) | cases h
theorem SameD.flats {K : PySem.W.Frag} {H : Hp} {n : Nat} {xs : List V} (h : xs.all flatV = true) : ∀ (j : Nat) (x y : V), xs[j]? = some x → xs[j]? = some y → SameD K H n x y := fun j x y h1 h2 => by
  rw [h1] at h2
  cases h2
  exact .flat (List.all_eq_true.mp h x (List.mem_of_getElem? h1))
theorem SameD.tups {K : PySem.W.Frag} {H : Hp} {n : Nat} {a b : Addr} {xs : List V} (h1 : SqT K H a xs) (h2 : SqT K H b xs) (h : xs.all flatV = true) : SameD K H (n + 1) (.ref a) (.ref b) := .tup h1 h2 rfl (SameD.flats h)
theorem SameD.lsts {K : PySem.W.Frag} {H : Hp} {n : Nat} {a b : Addr} {xs : List V} (h1 : SqL K H a xs) (h2 : SqL K H b xs) (h : xs.all flatV = true) : SameD K H (n + 1) (.ref a) (.ref b) := .lst h1 h2 rfl (SameD.flats h)
theorem flat_ints (ns : List Int) : (ns.map V.int).all flatV = true := by simp [List.all_eq_true, flatV]
section
variable {X : Cx} {pins : List (Addr × Obj)} {σ : St} {H : Hp} {s : Shared}
theorem all_true {n : Nat} {e : Nat → Bool} (h : ∀ j, e j = true) : (List.range n).all e = true := by simp [h]
mutual
theorem SameD.eqAt (I : Inv X pins σ H s) : ∀ {n : Nat} {x y : V} {A : Around} {u v : Value}, A.units + n < cLine → SameD X.K H n x y → RelV x u → RelV y v → SeqAt.EqAt A s u v true
  | _, _, _, A, u, v, hu, .flat h, ru, rv => by
    have := eqAt_V (A := A) (s := s) ru rv h h
    rw [eqV_self h] at this
    exact this
  | n + 1, .ref a, .ref b, A, u, v, hu, .tup (xs := xs) (ys := ys) h1 h2 hl h, ru, rv => by
    cases ru; cases rv
    by_cases hab : a = b
    · subst hab; exact SeqAt.EqAt.same _
    · obtain ⟨is, r1, p1, _⟩ := I.tuple h1
      obtain ⟨js, r2, p2, _⟩ := I.tuple h2
      have l1 := r1.length; have l2 := r2.length
      have := SeqAt.RcAt.tuples (A := A) (e := fun _ => true) p1 p2 (by omega) fun j a1 a2 => SameD.items I (by show A.units + 1 + n < cLine; omega) h r1 r2 j (by simpa using a1) (by simpa using a2)
      refine SeqAt.EqAt.of_refs hab ?_
      rw [all_true fun _ => rfl] at this
      simpa [← l1, ← l2, hl] using this
  | n + 1, .ref a, .ref b, A, u, v, hu, .lst (xs := xs) (ys := ys) h1 h2 hl h, ru, rv => by
    cases ru; cases rv
    by_cases hab : a = b
    · subst hab; exact SeqAt.EqAt.same _
    · obtain ⟨is, r1, p1, _⟩ := I.list h1
      obtain ⟨js, r2, p2, _⟩ := I.list h2
      have l1 := r1.length; have l2 := r2.length
      have := SeqAt.RcAt.lists (A := A) (e := fun _ => true) p1.isList p2.isList (by simp; omega) (by omega) fun j a1 a2 => SameD.items I (by show A.units + 1 + n < cLine; omega) h r1 r2 j (by simpa using a1) (by simpa using a2)
      refine SeqAt.EqAt.of_refs hab ?_
      rw [all_true fun _ => rfl] at this
      exact this
theorem SameD.items (I : Inv X pins σ H s) {n : Nat} {A : Around} {xs ys : List V} {us vs : List Value} (hu : A.units + n < cLine) (h : ∀ (j : Nat) (x y : V), xs[j]? = some x → ys[j]? = some y → SameD X.K H n x y) (r1 : Vals xs us) (r2 : Vals ys vs) (j : Nat) (h1 : j < us.length) (h2 : j < vs.length) :
    SeqAt.EqAt A s us[j] vs[j] true := by
  have l1 := r1.length; have l2 := r2.length
  obtain ⟨x, ex⟩ : ∃ x, xs[j]? = some x := ⟨_, List.getElem?_eq_getElem (by omega)⟩
  obtain ⟨y, ey⟩ : ∃ y, ys[j]? = some y := ⟨_, List.getElem?_eq_getElem (by omega)⟩
  obtain ⟨u, eu, ru⟩ := r1.get ex
  obtain ⟨v, ev, rv⟩ := r2.get ey
  rw [List.getElem?_eq_getElem h1] at eu
  rw [List.getElem?_eq_getElem h2] at ev
  cases eu; cases ev
  exact SameD.eqAt I hu (h j x y ex ey) ru rv
end
end
def rSame (K : PySem.W.Frag) (r : Bool) : R2 := fun x y H Q => ∃ a b, x = .ref a ∧ y = .ref b ∧ SameD K H 60 x y ∧ Q (.bl r) H
section
variable {X : Cx}
theorem op_eqD (hu : X.A.units + 60 < cLine) : OpR X (compareOp .Eq) (rSame X.K true) := by
  intro pins s σ H x y v u Q I rx ry h
  obtain ⟨a, b, rfl, rfl, hs, q⟩ := h
  cases rx; cases ry
  cases hs with
  | flat h => cases h
  | @tup n _ _ xs ys h1 h2 hl h =>
    obtain ⟨is, r1, p1, _⟩ := I.tuple h1
    obtain ⟨js, r2, p2, _⟩ := I.tuple h2
    have l1 := r1.length; have l2 := r2.length
    have := SeqAt.RcAt.tuples (A := X.A) (e := fun _ => true) p1 p2 (by omega) fun j a1 a2 => SameD.items I (by show X.A.units + 1 + 59 < cLine; omega) h r1 r2 j (by simpa using a1) (by simpa using a2)
    rw [all_true fun _ => rfl] at this
    refine this _ _ _ _ ⟨.bl true, H, I, ?_, q⟩
    simp [RelV, ← l1, ← l2, hl]
  | @lst n _ _ xs ys h1 h2 hl h =>
    obtain ⟨is, r1, p1, _⟩ := I.list h1
    obtain ⟨js, r2, p2, _⟩ := I.list h2
    have l1 := r1.length; have l2 := r2.length
    have := SeqAt.RcAt.lists (A := X.A) (e := fun _ => true) p1.isList p2.isList (by simp; omega) (by omega) fun j a1 a2 => SameD.items I (by show X.A.units + 1 + 59 < cLine; omega) h r1 r2 j (by simpa using a1) (by simpa using a2)
    rw [all_true fun _ => rfl] at this
    exact this _ _ _ _ ⟨.bl true, H, I, rfl, q⟩
theorem op_neD (hu : X.A.units + 60 < cLine) : OpR X (compareOp .NotEq) (rSame X.K false) := by
  intro pins s σ H x y v u Q I rx ry h
  obtain ⟨a, b, rfl, rfl, hs, q⟩ := h
  cases rx; cases ry
  cases hs with
  | flat h => cases h
  | @tup n _ _ xs ys h1 h2 hl h =>
    obtain ⟨is, r1, p1, _⟩ := I.tuple h1
    obtain ⟨js, r2, p2, _⟩ := I.tuple h2
    have l1 := r1.length; have l2 := r2.length
    have := SeqAt.RcNeAt.tuples (A := X.A) (e := fun _ => true) p1 p2 (by omega) fun j a1 a2 => SameD.items I (by show X.A.units + 1 + 59 < cLine; omega) h r1 r2 j (by simpa using a1) (by simpa using a2)
    rw [all_true fun _ => rfl] at this
    refine this _ _ _ _ ⟨.bl false, H, I, ?_, q⟩
    simp [RelV, ← l1, ← l2, hl]
  | @lst n _ _ xs ys h1 h2 hl h =>
    obtain ⟨is, r1, p1, _⟩ := I.list h1
    obtain ⟨js, r2, p2, _⟩ := I.list h2
    have l1 := r1.length; have l2 := r2.length
    have := SeqAt.RcNeAt.lists (A := X.A) (e := fun _ => true) p1.isList p2.isList (by simp; omega) (by omega) fun j a1 a2 => SameD.items I (by show X.A.units + 1 + 59 < cLine; omega) h r1 r2 j (by simpa using a1) (by simpa using a2)
    rw [all_true fun _ => rfl] at this
    exact this _ _ _ _ ⟨.bl false, H, I, rfl, q⟩
end
theorem r_same {K : PySem.W.Frag} {H : Hp} {Q : VK} {a b : Addr} {r : Bool} (h : SameD K H 60 (.ref a) (.ref b)) (q : Q (.bl r) H) : rSame K r (.ref a) (.ref b) H Q := ⟨a, b, rfl, rfl, h, q⟩
theorem hu60 {A : Around} {k : Nat} (hr : Room k A) : A.units + 60 < cLine := by have := hr.units; omega
end L2
end

section
set_option Elab.async false
set_option linter.all false
set_option maxRecDepth 100000
set_option maxHeartbeats 4000000
/-! Lists of flat things compared. -/
namespace L2
open PySem PySem.Spec PyProof.Rows
def eqL (xs ys : List V) : Bool := decide (xs.length = ys.length) && (List.range xs.length).all fun j => eqV (xs.getD j .non) (ys.getD j .non)
def rEqL (K : PySem.W.Frag) (n : Bool) : R2 := fun x y H Q => ∃ a b xs ys, x = .ref a ∧ y = .ref b ∧ SqL K H a xs ∧ SqL K H b ys ∧ xs.all flatV = true ∧ ys.all flatV = true ∧ Q (.bl (n != eqL xs ys)) H
section
variable {X : Cx} {pins : List (Addr × Obj)} {σ : St} {H : Hp} {s : Shared}
theorem eqL_items {A : Around} {xs ys : List V} {us vs : List Value} (f1 : xs.all flatV = true) (f2 : ys.all flatV = true) (r1 : Vals xs us) (r2 : Vals ys vs) (j : Nat) (h1 : j < us.length) (h2 : j < vs.length) :
    SeqAt.EqAt A s us[j] vs[j] (eqV (xs.getD j .non) (ys.getD j .non)) := by
  have l1 := r1.length; have l2 := r2.length
  have e1 : xs[j]? = some (xs[j]'(by omega)) := List.getElem?_eq_getElem _
  have e2 : ys[j]? = some (ys[j]'(by omega)) := List.getElem?_eq_getElem _
  obtain ⟨u, eu, ru⟩ := r1.get e1
  obtain ⟨v, ev, rv⟩ := r2.get e2
  rw [List.getElem?_eq_getElem h1] at eu
  rw [List.getElem?_eq_getElem h2] at ev
  cases eu; cases ev
  simp only [List.getD, e1, e2, Option.getD_some]
  exact eqAt_V ru rv (List.all_eq_true.mp f1 _ (List.mem_of_getElem? e1)) (List.all_eq_true.mp f2 _ (List.mem_of_getElem? e2))
end
section
variable {X : Cx}
theorem op_eqL (hu : X.A.units + 60 < cLine) : OpR X (compareOp .Eq) (rEqL X.K false) := by
  intro pins s σ H x y v u Q I rx ry h
  obtain ⟨a, b, xs, ys, rfl, rfl, h1, h2, f1, f2, q⟩ := h
  cases rx; cases ry
  obtain ⟨is, r1, p1, _⟩ := I.list h1
  obtain ⟨js, r2, p2, _⟩ := I.list h2
  have l1 := r1.length; have l2 := r2.length
  by_cases hl : xs.length = ys.length
  · have := SeqAt.RcAt.lists (A := X.A) (e := fun j => eqV (xs.getD j .non) (ys.getD j .non)) p1.isList p2.isList (by simp; omega) (by omega) fun j a1 a2 => eqL_items (s := s) f1 f2 r1 r2 j (by simpa using a1) (by simpa using a2)
    refine this _ _ _ _ ⟨.bl (false != eqL xs ys), H, I, ?_, q⟩
    unfold eqL
    rw [decide_eq_true hl]
    simp [RelV, ← l1]
  · have := SeqAt.RcAt.lists_lengths (A := X.A) p1.isList p2.isList (by simp; omega) (by omega)
    refine this _ _ _ _ ⟨.bl (false != eqL xs ys), H, I, ?_, q⟩
    unfold eqL
    rw [decide_eq_false hl]
    simp [RelV]
end
theorem eqL_ints (ns ms : List Int) : eqL (ns.map V.int) (ms.map V.int) = decide (ns = ms) := by
  unfold eqL
  rw [List.length_map, List.length_map]
  by_cases hl : ns.length = ms.length
  · rw [decide_eq_true hl, Bool.true_and]
    by_cases h : ns = ms
    · subst h
      rw [decide_eq_true rfl, List.all_eq_true]
      intro j hj
      have hj : j < ns.length := List.mem_range.mp hj
      simp [List.getD, hj, eqV]
    · rw [decide_eq_false h]
      refine Bool.eq_false_iff.mpr fun hc => h (List.ext_getElem hl fun j h1 h2 => ?_)
      have := List.all_eq_true.mp hc j (List.mem_range.mpr h1)
      simp [List.getD, h1, h2, eqV] at this
      exact this
  · rw [decide_eq_false hl, Bool.false_and, decide_eq_false]
    intro e
    exact hl (by rw [e])
theorem r_eqI {K : PySem.W.Frag} {H : Hp} {Q : VK} {a b : Addr} {ns ms : List Int} (h1 : SqL K H a (ns.map V.int)) (h2 : SqL K H b (ms.map V.int)) (q : Q (.bl (decide (ns = ms))) H) : rEqL K false (.ref a) (.ref b) H Q := by
  refine ⟨a, b, _, _, rfl, rfl, h1, h2, flat_ints _, flat_ints _, ?_⟩
  rw [eqL_ints]
  cases hd : decide (ns = ms) <;> (rw [hd] at q; exact q)
end L2
end

section
set_option Elab.async false
set_option linter.all false
set_option maxRecDepth 100000
set_option maxHeartbeats 4000000
/-! range downwards; list.index of ints. -/
namespace L2
open PySem PySem.Spec PyProof.Rows
section
variable {X : Cx} {tg : Expr}
end
end L2
end

section
set_option Elab.async false
set_option linter.all false
set_option maxRecDepth 100000
set_option maxHeartbeats 4000000
/-! sorted of fewer than 64 texts. -/
namespace L2
open PySem PySem.Spec PyProof.Rows
section
variable {X : Cx}
end
end L2
end

section
set_option Elab.async false
set_option linter.all false
set_option maxRecDepth 100000
set_option maxHeartbeats 4000000
/-! My own rules behind the layer: any slice of a tuple, ints of the top, small readings. -/
namespace L2
open PySem PySem.Spec PyProof.Rows
section
variable {prog : Program} {w : World} {A : Around} {E : Value → Shared → Prop} {s : Shared}
end
section
variable {X : Cx}
end
section
variable {σ : St} {H : Hp} {D : Ends} {Q : VK} {te : TE} {QB : Bool → Hp → Prop} {tA : TA}
theorem r_bm0 {K : PySem.W.Frag} {T : String} {r : V → List V → Hp → VK → Prop} (h : te σ H fun x H1 => tyV K T x H1 ∧ r x [] H1 Q) : tBM0 K T r te σ H Q := h
end
theorem iteNT {A B : Prop} (h : B) : if (!true) = true then A else B := by
  rw [if_neg (by decide)]
  exact h
theorem iteNF {A B : Prop} (h : A) : if (!false) = true then A else B := by
  rw [if_pos (by decide)]
  exact h
/-! ### heaps that differ at one place -/
def SameBut (x : Addr) (H H' : Hp) : Prop := ∀ b o, b ≠ x → H b = some o → H' b = some o
theorem Same.but {H H' : Hp} {x : Addr} (h : Same H H') : SameBut x H H' := fun b o _ e => h b o e
theorem SameBut.trans {H H1 H2 : Hp} {x : Addr} (a : SameBut x H H1) (b : SameBut x H1 H2) : SameBut x H H2 := fun c o n h => b c o n (a c o n h)
theorem sameBut_upd {H : Hp} {x : Addr} {o : HO} : SameBut x H (upd H x o) := fun b u n e => by rw [upd_ne n]; exact e
end L2
end

section
set_option Elab.async false
set_option linter.all false
set_option maxRecDepth 100000
set_option maxHeartbeats 4000000
/-! Comprehensions whose items are new things. -/
namespace L2
open PySem PySem.Spec PyProof.Rows
end L2
end

section
set_option Elab.async false
set_option linter.all false
set_option maxRecDepth 100000
set_option maxHeartbeats 4000000
/-! min and max of a list of ints, with and without a default; abs. -/
namespace L2
open PySem PySem.Spec PyProof.Rows
theorem b_abs : bootBuiltins "abs" = some (.builtin "abs") := by decide +kernel
section
variable {X : Cx}
end
/-! ### with a default -/
section
variable {prog : Program} {w : World} {A : Around} {R : Result → Shared → Prop} {I S : Addr} {fp wr : List Addr} {n : Nat} {P : Nat → Value → Prop} {St : Nat → Heap → Prop} {d : Value}
end
section
variable {prog : Program} {w : World} {A : Around} {E : Value → Shared → Prop} {s : Shared}
end
section
variable {X : Cx} {x : Str} {p pos : Pos} {e : Expr} {es : List Expr} {kws : List Keyword} {t tk : TA} {id : String} {ks : List Str}
end
end L2
namespace L2
open PySem PySem.Spec PyProof.Rows
end L2
end

section
set_option Elab.async false
set_option linter.all false
set_option maxRecDepth 100000
set_option maxHeartbeats 4000000
/-! What flies keeps its dict. -/
namespace L2
open PySem PySem.Spec PyProof.Rows
/-- a tree that calls nothing and changes no object's dict -/
def Kd {α : Type} : Sem α → Prop
  | .pure _ => True
  | .raise _ => True
  | .unsupported _ => True
  | .finish _ => True
  | .rule _ k => Kd (k ())
  | .at _ k => Kd (k ())
  | .load _ _ k => ∀ o, Kd (k o)
  | .update _ _ f k => (∀ o, (f o).dict = o.dict ∧ (f o).isFreed = o.isFreed) ∧ Kd (k ())
  | .alloc _ k => ∀ a, Kd (k a)
  | .loadIfAlive _ k => ∀ o, Kd (k o)
  | .point _ k => Kd (k ())
  | .fresh k => ∀ t, Kd (k t)
  | .ask k => ∀ x, Kd (k x)
  | .stack k => ∀ x, Kd (k x)
  | .handled _ k => ∀ x, Kd (k x)
  | .thread k => ∀ x, Kd (k x)
  | _ => False
theorem Kd.bind {α β : Type} {m : Sem α} {f : α → Sem β} (h : Kd m) (hf : ∀ a, Kd (f a)) : Kd (m >>= f) := by
  show Kd (m.bind f)
  induction m <;> first | exact hf _ | exact h.elim | exact trivial | skip
  all_goals (rename_i ih; first | exact ih _ h | exact fun o => ih o (h o) | exact ⟨h.1, ih _ h.2⟩)
def DictK (h h' : Heap) : Prop := ∀ b o, h.get? b = some o → ∃ o', h'.get? b = some o' ∧ o'.dict = o.dict
theorem DictK.refl (h : Heap) : DictK h h := fun _ o e => ⟨o, e, rfl⟩
theorem DictK.trans {h1 h2 h3 : Heap} (a : DictK h1 h2) (b : DictK h2 h3) : DictK h1 h3 := fun x o e => by
  obtain ⟨o1, e1, d1⟩ := a x o e
  obtain ⟨o2, e2, d2⟩ := b x o1 e1
  exact ⟨o2, e2, d2.trans d1⟩
theorem dictK_push (h : Heap) (o : Obj) : DictK h (h.push o) := fun _ u e => ⟨u, Heap.get?_push_of_some _ e, rfl⟩
theorem dictK_upd {h : Heap} {a : Addr} {f : Obj → Obj} (hf : ∀ o, (f o).dict = o.dict ∧ (f o).isFreed = o.isFreed) : DictK h (h.update a f) := fun b o e => by
  by_cases hb : b = a
  · subst hb
    have fr := (Heap.get?_some_iff.mp e).2
    exact ⟨f o, Heap.get?_update_self f e (by rw [(hf o).2]; exact fr), (hf o).1⟩
  · exact ⟨o, (Heap.get?_update_other _ _ (Ne.symm hb)).trans e, rfl⟩
theorem kd_wp {α : Type} {M : Model} {Γ : PySem.Ctx} {m : Sem α} : ∀ {Q : α → Pos → Shared → Prop} {E : Value → Pos → Shared → Prop} {p : Pos} {s : Shared}, Kd m → Sem.wp M Γ m Q E p s → Sem.wp M Γ m (fun a p' s' => Q a p' s' ∧ DictK s.heap s'.heap) E p s := by
  induction m with
  | pure x => exact fun _ h => ⟨h, DictK.refl _⟩
  | raise v => exact fun _ h => h
  | unsupported => exact fun _ h => h
  | finish => exact fun _ h => h
  | rule _ k ih => exact fun q h => ih _ q h
  | «at» _ k ih => exact fun q h => ih _ q h
  | load a _ k ih =>
    intro Q E p s q h
    obtain ⟨o, ho, h⟩ := h
    exact ⟨o, ho, ih o (q o) h⟩
  | update a _ f k ih =>
    intro Q E p s q h
    obtain ⟨ha, h⟩ := h
    exact ⟨ha, Sem.wp_mono _ _ _ (fun _ _ _ z => ⟨z.1, (dictK_upd q.1).trans z.2⟩) (fun _ _ _ z => z) _ _ (ih _ q.2 h)⟩
  | alloc o k ih =>
    intro Q E p s q h
    exact Sem.wp_mono _ _ _ (fun _ _ _ z => ⟨z.1, (dictK_push _ o).trans z.2⟩) (fun _ _ _ z => z) _ _ (ih _ (q _) h)
  | loadIfAlive _ k ih => exact fun q h => ih _ (q _) h
  | point _ k ih => exact fun q h => ih _ q h
  | fresh k ih => exact fun q h => ih _ (q _) h
  | ask k ih => exact fun q h => ih _ (q _) h
  | stack k ih => exact fun q h => ih _ (q _) h
  | handled _ k ih => exact fun q h => ih _ (q _) h
  | thread k ih => exact fun q h => ih _ (q _) h
  | _ => exact fun q => q.elim
theorem kd_any {α : Type} {M : Model} {A : Around} {m : Sem α} {Q : α → Shared → Prop} {E : Value → Shared → Prop} {s : Shared} (q : Kd m) (h : wpAny M A m Q E s) : wpAny M A m (fun a s' => Q a s' ∧ DictK s.heap s'.heap) E s := fun Γ p hΓ => kd_wp q (h Γ p hΓ)
theorem kd_load (a : Addr) : Kd (load a) := fun _ => trivial
theorem kd_fieldsOf (v : Value) : Kd (fieldsOf v) := by
  unfold fieldsOf
  split
  · exact Kd.bind (kd_load _) fun o => by split <;> exact trivial
  · exact trivial
theorem kd_field (v : Value) (i : Nat) : Kd (field v i) := Kd.bind (kd_fieldsOf v) fun a => by split <;> exact trivial
theorem kd_mapF (f : Array Value → Array Value) (o : Obj) : (Obj.mapFields f o).dict = o.dict ∧ (Obj.mapFields f o).isFreed = o.isFreed := by
  obtain ⟨c, d, dt, sl⟩ := o
  cases dt <;> exact ⟨rfl, rfl⟩
theorem kd_setField (v : Value) (i : Nat) (x : Value) : Kd (setField v i x) := by
  unfold setField
  split
  · unfold updateField
    refine Kd.bind (kd_load _) fun o => ?_
    split
    · split
      · exact ⟨kd_mapF _, trivial⟩
      · exact trivial
    · exact trivial
  · exact trivial
theorem kd_setFlight (e : Value) (f : Option Addr) : Kd (setFlight e f) := by
  unfold setFlight
  refine Kd.bind (kd_field _ _) fun tb => ?_
  split
  · exact kd_setField _ _ _
  · exact trivial
theorem kd_ready : ∀ l : List Env, Kd (readyFrames l)
  | [] => trivial
  | env :: outer => by
    unfold readyFrames
    split
    · rename_i f hf
      refine Kd.bind (kd_load _) fun o => ?_
      split
      · exact trivial
      · refine Kd.bind ?_ fun i => Kd.bind ?_ fun b => ⟨fun o => ?_, kd_ready outer⟩
        · unfold behindIsImport
          split
          · exact trivial
          · split
            · exact trivial
            · exact Kd.bind (kd_field _ _) fun _ => trivial
        · unfold keptBack
          split
          · split
            · exact trivial
            · refine Kd.bind ?_ fun _ => trivial
              unfold underTheClaimsCaller
              exact fun _ => trivial
          · exact trivial
        · obtain ⟨c, d, dt, sl⟩ := o
          cases dt <;> exact ⟨rfl, rfl⟩
    · exact trivial
theorem kd_frameOf (env : Env) : Kd (PySem.frameOf env) := by
  unfold PySem.frameOf
  refine Kd.bind (fun _ => trivial) fun l => Kd.bind ?_ fun o => ?_
  · unfold frameObject
    split
    · exact trivial
    · exact Kd.bind (kd_ready _) fun _ => trivial
  · split <;> exact trivial
theorem kd_place (f : Addr) (b : Bool) : Kd (entryPlaceOf f b) := by
  unfold entryPlaceOf
  refine Kd.bind (fun _ => trivial) fun l => ?_
  split <;> exact trivial
theorem kd_entry (a b c d e : Value) (l : List Value) : Kd (EntryCells.newEntry a b c d e l) := by
  unfold EntryCells.newEntry newFields
  generalize ([a, b, c, d, e] ++ if l.isEmpty = true then List.replicate 6 Value.none else l).toArray = vs
  unfold newObj
  dsimp only
  have as_is : Kd (newObjAsIs (.type "traceback") (.fields vs) none) := Kd.bind (m := alloc _) (fun _ => trivial) fun _ => trivial
  split
  · exact Kd.bind (m := unsupported _) trivial fun _ => as_is
  · exact as_is
theorem kd_note (e : Value) (env : Env) : Kd (noteFrame e env) := by
  unfold noteFrame
  have jp : ∀ (f : Addr) (head : Value), Kd (do
      let a ← PySem.frameOf env
      let b ← entryPlaceOf f (head != Value.none)
      let c ← EntryCells.newEntry head a Value.none (rawInt ↑f) Value.none b
      setField e 1 c) := fun f head => Kd.bind (kd_frameOf _) fun _ => Kd.bind (kd_place _ _) fun _ => Kd.bind (kd_entry _ _ _ _ _ _) fun _ => kd_setField _ _ _
  split
  · refine Kd.bind (kd_field _ _) fun head => ?_
    dsimp only
    split
    · refine Kd.bind (kd_field _ _) fun v => ?_
      split
      · exact trivial
      · exact Kd.bind (kd_setField _ _ _) fun _ => jp _ _
    · exact jp _ _
  · exact trivial
theorem kd_leaving (e : Value) (env : Env) : Kd (leaving env e) := Kd.bind (kd_note _ _) fun _ => kd_setFlight _ _
end L2
end

section
set_option Elab.async false
set_option linter.all false
set_option maxRecDepth 100000
set_option maxHeartbeats 4000000
/-! Exceptions that carry their dict: raised, passed on, caught. -/
namespace L2
open PySem PySem.Spec PyProof.Rows
/-! ### flights with the dict -/
def FlyD (B : Heap) (l : List Env) (e : Addr) (cls a0 : Value) (od : Option Addr) (h : Heap) : Prop := Heap.FlyingW B l e cls a0 h ∧ ∃ o, h.get? e = some o ∧ o.dict = od
theorem FlyD.first {B h : Heap} {l : List Env} {e : Addr} {cls a0 : Value} {od : Option Addr} (x : FlyD B l e cls a0 od h) : ∃ oe vs, h.get? e = some oe ∧ oe.cls = cls ∧ oe.data = .fields vs ∧ oe.dict = od := by
  obtain ⟨f, o, ho, hd⟩ := x
  obtain ⟨oe, vs, he, hc, hv, _⟩ := f.first
  rw [ho] at he
  cases he
  exact ⟨o, vs, ho, hc, hv, hd⟩
section
variable {M : Model} {A : Around} {E : Value → Shared → Prop} {s : Shared} {B : Heap} {env : Env} {outer l : List Env} {L e : Addr} {cls a0 : Value} {od : Option Addr} {Q : Unit → Shared → Prop}
theorem dict_on {h h' : Heap} (k : DictK h h') (x : ∃ o, h.get? e = some o ∧ o.dict = od) : ∃ o, h'.get? e = some o ∧ o.dict = od := by
  obtain ⟨o, ho, hd⟩ := x
  obtain ⟨o2, ho2, hd2⟩ := k e o ho
  exact ⟨o2, ho2, hd2.trans hd⟩
theorem leaves_onD (hfr : A.frames = some (env :: outer)) (hf : env.frame = some L) (fl : FlyD B (env :: outer) e cls a0 od s.heap) (q : ∀ h', FlyD B outer e cls a0 od h' → s.heap.UpToSlots h' → Q () { s with heap := h' }) : wpAny M A (leaving env (.ref e)) Q E s := by
  refine wpAny_mono (kd_any (kd_leaving _ _) (wpAny_leaves_onW (Q := fun _ s' => ∃ h', s' = { s with heap := h' } ∧ Heap.FlyingW B outer e cls a0 h' ∧ s.heap.UpToSlots h') hfr hf fl.1 fun h' f u => ⟨h', rfl, f, u⟩)) (fun _ s' z => ?_) fun _ _ z => z
  obtain ⟨⟨h', rfl, f, u⟩, k⟩ := z
  exact q h' ⟨f, dict_on k fl.2⟩ u
end
end L2
namespace L2
open PySem PySem.Spec PyProof.Rows
/-- an exception of a class of the text lies behind a call: e is new, so is all that is neither kept in B, nor a frame; B stays -/
structure Flies (outer : List Env) (H' : Hp) (h h' : Heap) (e C : Addr) (od : Option Addr) : Prop where
  new : h.get? e = none
  unt : H' e = none
  fly : ∃ a0 B, FlyD B outer e (.ref C) a0 od h' ∧ ∀ b o, h'.get? b = some o → B.get? b = none → b = e ∨ b ∈ frs outer ∨ (h.get? b = none ∧ H' b = none)
theorem ObjOk.there {P : Program} {w : World} {H : Hp} {h : Heap} {a : Addr} {o : HO} (x : ObjOk P w H h a o) : ∃ ob, h.get? a = some ob := by
  cases o with
  | lst xs => obtain ⟨_, _, _, _, e⟩ := x; exact ⟨_, e⟩
  | tup xs => obtain ⟨_, _, _, o, e, _⟩ := x; exact ⟨_, e⟩
  | dK kvs => obtain ⟨_, _, _, _, o, _, _, e, _⟩ := x; exact ⟨_, e⟩
  | dT kvs => obtain ⟨_, _, _, _, o, _, _, e, _⟩ := x; exact ⟨_, e⟩
  | set S n => obtain ⟨o, _, _, _, e, _⟩ := x; exact ⟨_, e⟩
  | ins C dx fs => obtain ⟨_, _, _, e, _⟩ := x; exact ⟨_, e⟩
  | own y => exact x
  | xd fs => obtain ⟨_, ⟨_, _, _, e, _⟩, _⟩ := x; exact ⟨_, e⟩
  | rng lo hi => obtain ⟨_, _, _, e⟩ := x; exact ⟨_, e⟩
  | frz ob u => obtain ⟨e, _⟩ := x; exact ⟨_, e⟩
  | tbl ps => exact ⟨_, (show h.get? a = some _ from x)⟩
  | met f y => exact ⟨_, (show h.get? a = some _ from x)⟩
  | ext φ => obtain ⟨_, e, _⟩ := x; exact e
def CXE (P : Program) (w : World) : CXT := fun outer H s E ex s' => ∃ e C od H', ex = .ref e ∧ s'.os = s.os ∧ AllBare s'.gens ∧ Un (frs outer) [] H H' s.heap s'.heap ∧ HOk P w H' s'.heap ∧ (∀ b ∈ frs outer, H' b = none) ∧ Flies outer H' s.heap s'.heap e C od ∧ E (.ref C) od H'
/-- what changes the frames' slots, the exception and new untracked things alone keeps the heap's promise -/
theorem hok_fly {P : Program} {w : World} {H : Hp} {h h' : Heap} {B : Heap} {outer : List Env} {e : Addr} {n : Heap} (ok : HOk P w H h) (st : B.StaysIn h') (he : H e = none) (hf : ∀ b ∈ frs outer, H b = none)
    (hB : ∀ b o, h.get? b = some o → B.get? b = none → b = e ∨ b ∈ frs outer ∨ (n.get? b = none ∧ H b = none)) (hBh : ∀ b o, B.get? b = some o → h.get? b = some o) : HOk P w H h' := fun a u ea => by
  have tr : ∀ b v, H b = some v → ∀ o, h.get? b = some o → h'.get? b = some o := fun b v ev o eo => by
    cases q : B.get? b with
    | some o' =>
      have := hBh b o' q
      rw [eo] at this
      cases this
      exact st b o q
    | none =>
      rcases hB b o eo q with z | z | z
      · rw [z, he] at ev; cases ev
      · rw [hf b z] at ev; cases ev
      · rw [z.2] at ev; cases ev
  refine (ok a u ea).stay (fun b o hb q => ?_) (fun _ q => q) fun _ _ q => q
  rcases hb with z | z
  · subst z; exact tr b u ea o q
  · exact tr b _ z o q
section
variable {P : Program} {w : World} {K : PySem.W.Frag} {mg : Str → Option Value} {base : Heap} {N : List Str} {qual : Str} {scope : Scope} {f : Addr} {cd : Value} {A : Around} {outer : List Env} {s₀ : Shared} {H₀ : Hp} {E : XK}
/-- out of a def's frame -/
theorem fly_out {pins : List (Addr × Obj)} {σ : St} {H H' : Hp} {s : Shared} {e C : Addr} {od : Option Addr} {a0 : Value} {B h1 h2 : Heap} {g : Array GenState} {d : Drawn} {t : Nat} {CX : CXT} (I : Inv (cxOf CX P w K mg base N qual scope f cd A outer s₀ H₀ E) pins σ H s)
    (un : Un (frs (cxOf CX P w K mg base N qual scope f cd A outer s₀ H₀ E).stack) [] H H' s.heap h1) (hok : HOk P w H' h1) (hfr : ∀ b ∈ frs (cxOf CX P w K mg base N qual scope f cd A outer s₀ H₀ E).stack, H' b = none) (hg : AllBare g)
    (hn : s.heap.get? e = none) (hu : H' e = none) (hB : ∀ b o, h1.get? b = some o → B.get? b = none → b = e ∨ b ∈ frs (cxOf CX P w K mg base N qual scope f cd A outer s₀ H₀ E).stack ∨ (s.heap.get? b = none ∧ H' b = none)) (hBh : B.StaysIn h1)
    (fl : FlyD B outer e (.ref C) a0 od h2) (up : h1.UpToSlots h2) (q : E (.ref C) od H') : CXE P w outer H₀ s₀ E (.ref e) { s with heap := h2, gens := g, drawn := d, toks := t } := by
  have hBst : B.StaysIn h2 := fl.1.1
  have st : ∀ b, b ∈ frs (cxOf CX P w K mg base N qual scope f cd A outer s₀ H₀ E).stack → b = s₀.heap.objs.size ∨ b ∈ frs outer := fun b hb => by
    rcases List.mem_cons.mp (I.stkSub b hb) with z | z
    · exact .inl z
    · exact .inr z
  have so : ∀ b, b ∈ frs outer → b ∈ frs (cxOf CX P w K mg base N qual scope f cd A outer s₀ H₀ E).stack := fun b hb => List.mem_cons_of_mem _ hb
  have neL : ∀ b o, s₀.heap.get? b = some o → b ≠ s₀.heap.objs.size := fun b o z => Nat.ne_of_lt (Heap.lt_size z)
  have inS : ∀ b o, s₀.heap.get? b = some o → ∃ o', s.heap.get? b = some o' := fun b o z => I.base.there b o z (by intro y; cases y)
  have in1 : ∀ b o, s.heap.get? b = some o → ∃ o', h1.get? b = some o' := fun b o z => un.there b o z (by simp)
  have fz : ∀ b ∈ frs (cxOf CX P w K mg base N qual scope f cd A outer s₀ H₀ E).stack, ∀ o, h1.get? b = some o → ∃ sl, h2.get? b = some { o with slots := sl } := fun b hb o z => by
    refine up b o z fun vs y => ?_
    obtain ⟨_, o', ho', hd⟩ := I.stack.mem hb
    obtain ⟨sl, z2⟩ := un.any ho' (I.stkFree b hb) (by simp)
    rw [z] at z2
    cases z2
    exact hd vs y
  have keep1 : ∀ b o, s.heap.get? b = some o → h1.get? b = some o → b ∉ frs (cxOf CX P w K mg base N qual scope f cd A outer s₀ H₀ E).stack → h2.get? b = some o := fun b o z z1 nf => by
    cases y : B.get? b with
    | some o' =>
      have := hBh b o' y
      rw [z1] at this
      cases this
      exact hBst b o y
    | none =>
      rcases hB b o z1 y with r | r | r
      · rw [r, hn] at z; cases z
      · exact absurd r nf
      · rw [r.1] at z; cases z
  refine ⟨e, C, od, H', rfl, I.os, hg, ⟨fun b o z n nf _ => ?_, fun b o z n nf _ => ?_, fun b o z n _ => ?_, fun b o z _ => ?_, fun b xs z => un.tups b xs (I.base.tups b xs z), fun b o u z => un.frzs b o u (I.base.frzs b o u z), fun b ps z => ?_⟩, ?_, fun b hb => hfr b (so b hb), ⟨?_, hu, a0, B, fl, fun b o z y => ?_⟩, q⟩
  · have z1 := I.base.keep b o z n nf (by intro y; cases y)
    have n1 := I.base.free b o z n (by intro y; cases y)
    have nf1 : b ∉ frs (cxOf CX P w K mg base N qual scope f cd A outer s₀ H₀ E).stack := fun y => (st b y).elim (neL b o z) nf
    exact keep1 b o z1 (un.keep b o z1 n1 nf1 (by simp)) nf1
  · obtain ⟨sl, z1⟩ := I.base.slot b o z n nf (by intro y; cases y)
    have n1 := I.base.free b o z n (by intro y; cases y)
    obtain ⟨sl2, z2⟩ := un.any z1 n1 (by simp)
    obtain ⟨sl3, z3⟩ := fz b (so b nf) _ z2
    exact ⟨sl3, z3⟩
  · obtain ⟨o', z1⟩ := inS b o z
    exact un.free b o' z1 (I.base.free b o z n (by intro y; cases y)) (by simp)
  · obtain ⟨o1, z1⟩ := inS b o z
    obtain ⟨o2, z2⟩ := in1 b o1 z1
    cases y : B.get? b with
    | some o' => exact ⟨o', hBst b o' y⟩
    | none =>
      rcases hB b o2 z2 y with r | r | r
      · rw [r, hn] at z1; cases z1
      · obtain ⟨sl, z3⟩ := fz b r o2 z2
        exact ⟨_, z3⟩
      · rw [r.1] at z1; cases z1
  · obtain ⟨m1, e1⟩ := I.base.tbls b ps z
    obtain ⟨m2, e2⟩ := un.tbls b _ e1
    exact ⟨m1 ++ m2, by rw [e2, Array.append_assoc]⟩
  · exact hok_fly (n := s.heap) (e := e) (outer := (cxOf CX P w K mg base N qual scope f cd A outer s₀ H₀ E).stack) hok hBst hu hfr hB hBh
  · cases y : s₀.heap.get? e with
    | none => rfl
    | some o =>
      obtain ⟨o', z⟩ := inS e o y
      rw [hn] at z; cases z
  · cases y1 : h1.get? b with
    | none =>
      refine .inr (.inr ⟨?_, ?_⟩)
      · cases y2 : s₀.heap.get? b with
        | none => rfl
        | some o0 =>
          obtain ⟨o1, z1⟩ := inS b o0 y2
          obtain ⟨o2, z2⟩ := in1 b o1 z1
          rw [y1] at z2; cases z2
      · cases y2 : H' b with
        | none => rfl
        | some v =>
          have := (hok b v y2).there
          obtain ⟨o2, z2⟩ := this
          rw [y1] at z2; cases z2
    | some o1 =>
      rcases hB b o1 y1 y with r | r | r
      · exact .inl r
      · rcases st b r with r2 | r2
        · refine .inr (.inr ⟨?_, hfr b r⟩)
          cases y2 : s₀.heap.get? b with
          | none => rfl
          | some o0 => exact absurd r2 (neL b o0 y2)
        · exact .inr (.inl r2)
      · refine .inr (.inr ⟨?_, r.2⟩)
        cases y2 : s₀.heap.get? b with
        | none => rfl
        | some o0 =>
          obtain ⟨o1, z1⟩ := inS b o0 y2
          rw [r.1] at z1; cases z1
/-- a callee's exception passes on -/
theorem pass_on {CX : CXT} (hCX : CX = CXE P w) : Passes (CXE P w) (cxOf CX P w K mg base N qual scope f cd A outer s₀ H₀ E) E := by
  subst hCX
  intro pins σ H s ex s' I h
  obtain ⟨e, C, od, H', rfl, ho, hg, un, hok, hfr, ⟨hn, hu, a0, B, fl, hB⟩, q⟩ := h
  show wpAny (model P w) (A.deeper (envOfC qual scope s₀.heap.objs.size f cd)) (leaving (envOfC qual scope s₀.heap.objs.size f cd) (.ref e)) _ _ s'
  refine leaves_onD (L := s₀.heap.objs.size) I.ok.frames rfl fl fun h2 fl2 up => ?_
  obtain ⟨hp, g, d, t, os⟩ := s'
  have ho : os = s.os := ho
  subst ho
  exact fly_out (s := s) (g := g) (d := d) (t := t) I un hok hfr hg hn hu hB fl.1.1 fl2 up q
end
/-! ### raise C(..), C an own class over ValueError without an __init__ -/
abbrev veMro : List Value := [.type "ValueError", .type "Exception", .type "BaseException", .type "object"]
theorem exc_obj {K : PySem.W.Frag} {h : Heap} {C : Addr} {bB : List Value} {nid : String} (X : K.In h) (q : PySem.W.excIn K C bB nid = true) :
    ∃ bm N nm qn bs hdct sn sub ab col dd k0 k1 k2 k3 k5 mN, h.get? C = some (excClassObj nm qn C N bs bm hdct sn sub ab col dd k0 k1 k2 k3 k5 nid) ∧ h.Ns N mN ∧ mN "__init__" = none ∧ OwnTail h bB bm := by
  unfold PySem.W.excIn at q
  split at q
  case h_2 => exact Bool.noConfusion q
  case h_1 d1 c1 l1 look =>
    split at q
    case h_2 => exact Bool.noConfusion q
    case h_1 C2 m2 r0 r1 r2 r3 nn r5 eqm eqs =>
      simp only [Bool.and_eq_true, beq_iff_eq, Bool.not_eq_true'] at q
      obtain ⟨⟨⟨⟨⟨w1, w2⟩, w3⟩, w4⟩, w5⟩, w6⟩ := q
      subst w1 w2
      obtain ⟨x1, x2, x3, x4, x5, x6, x7, x8, x9, x10, x11⟩ := c1
      dsimp only at eqm w3 w5 w6
      subst eqm w3
      have l2 : l1 = #[r0, r1, r2, r3, some (.builtin nn), r5] := by
        have := congrArg List.toArray eqs
        simpa using this
      subst l2
      exact ⟨m2, x4, x1, x5, x2, x6, x7, x8, x9, x10, d1, r0, r1, r2, r3, r5, h.nsMap x4, X _ _ look, .of_isNs (PySem.W.isNs_of_in X w5), PySem.W.nsMap_none_of_in X w5 w6, PySem.W.tail_of_in X w4⟩
section
variable {P : Program} {w : World} {K : PySem.W.Frag} {mg : Str → Option Value} {base : Heap} {N : List Str} {qual : Str} {scope : Scope} {f : Addr} {cd : Value} {A : Around} {outer : List Env} {s₀ : Shared} {H₀ : Hp} {E : XK}
end
end L2
namespace L2
open PySem PySem.Spec PyProof.Rows
section
variable {X : Cx} {pins : List (Addr × Obj)} {σ : St} {H : Hp} {s : Shared} {A' : Around} {c : Bool} {xe' : Value → Shared → Prop}
end
/-! ### where an exception lands -/
section
variable {X : Cx} {pins : List (Addr × Obj)} {σ : St} {H H' : Hp} {s s' : Shared} {e C : Addr} {B h1 h2 : Heap}
end
def PSAt (X : Cx) (pins : List (Addr × Obj)) (σ : St) (st : Stmt) (t : TS) : Prop := ∀ (s : Shared) (H : Hp) (D : Ends), Inv X pins σ H s → t D σ H → wpAny (model X.prog X.w) X.A (exec st X.env) (SP X pins D) X.xe s
def PEAt (X : Cx) (pins : List (Addr × Obj)) (σ : St) (e : Expr) (t : TE) : Prop := ∀ (s : Shared) (H : Hp) (Q : VK), Inv X pins σ H s → t σ H Q → wpAny (model X.prog X.w) X.A (eval e X.env) (EP X pins σ Q) X.xe s
section
variable {X : Cx} {pins : List (Addr × Obj)} {σ : St} {pos : Pos} {e : Expr} {te : TE} {t u : TS}
theorem PE.at (h : PE X e te) : PEAt X pins σ e te := fun s H Q I q => h pins s σ H Q I q
theorem PS.at {st : Stmt} (h : PS X st t) : PSAt X pins σ st t := fun s H D I q => h pins s σ H D I q
end
/-! ### callees that refuse -/
theorem passE0 {P : Program} {w : World} {X : Cx} : Passes (CXE P w) X E0 := fun _ _ _ _ _ _ _ h => by
  obtain ⟨_, _, _, _, _, _, _, _, _, _, _, z⟩ := h
  exact z.elim
structure CalE (P : Program) (w : World) (K : PySem.W.Frag) (mg : Str → Option Value) (base : Heap) (name : Str) (k : Nat) (ps : List Str) (sp : Sp) : Prop where
  ex : ∃ (f : Addr) (fd : FuncData), FnOk P w K mg base (CXE P w) k f fd ps sp ∧ Binds K fd ps [] ∧ mg name = some (.ref f) ∧ PySem.W.keepIn K (.ref f) = true
structure MkrE (P : Program) (w : World) (K : PySem.W.Frag) (mg : Str → Option Value) (base : Heap) (name : Str) (C : Addr) (k : Nat) (ps : List Str) (sp : Sp) : Prop where
  ex : ∃ (f : Addr) (fd : FuncData), FnOk P w K mg base (CXE P w) k f fd ps sp ∧ Binds K fd ps [] ∧ Mk K C f ∧ mg name = some (.ref C)
section
variable {X : Cx} {k : Nat} {C : Addr} {ps : List Str} {sp : Sp} {name m : Str} {p pos apos : Pos} {e o : Expr} {es : List Expr} {ta : TE} {t : TA} {pl : Sem Bool} {E : XK} {pins : List (Addr × Obj)} {σ : St} {CX : CXT} {f : Addr} {fd : FuncData}
theorem pe_fnE (C : CalE X.prog X.w X.K X.mg X.base name k ps sp) (hr : Room k X.A) (hx : Passes (CXE X.prog X.w) X E) (ha : PA X (e :: es) t) (hg : Gl X name := by rfl) (hdb : (name == ("__debug__" : Str)) = false := by decide)
    (he : starEach (e :: es) X.env = (false, eval e X.env) :: starEach es X.env := by rfl) (hpl : (backTo pos (starEach es X.env)).any (·.1) = false := by rfl) : PE X (.Call (.Name name p) (e :: es) [] pos) (tCall sp [] E t) := by
  obtain ⟨f, fd, F, b, hm, hk⟩ := C.ex
  exact pe_call F hr hg hm hk b .nil hx ha hdb he hpl
theorem pe_mkE (M : MkrE X.prog X.w X.K X.mg X.base name C k ps sp) (hr : Room (k + 1) X.A) (hx : Passes (CXE X.prog X.w) X E) (ha : PA X (e :: es) t) (hg : Gl X name := by rfl) (hdb : (name == ("__debug__" : Str)) = false := by decide)
    (he : starEach (e :: es) X.env = (false, eval e X.env) :: starEach es X.env := by rfl) (hpl : (backTo pos (starEach es X.env)).any (·.1) = false := by rfl) : PE X (.Call (.Name name p) (e :: es) [] pos) (tMake C sp [] E t) := by
  obtain ⟨f, fd, F, b, M, hm⟩ := M.ex
  exact pe_make M F hr hg hm b .nil hx ha hdb he hpl
end
section
variable {X : Cx} {k : Nat} {C : Addr} {ps : List Str} {sp : Sp} {name : Str} {p pos : Pos} {e : Expr} {es : List Expr} {t : TA} {E : XK} {pins : List (Addr × Obj)} {σ : St}
end
section
variable {X : Cx} {i : Nat} {n x : Str} {C0 : Value} {np hpos pos : Pos} {body suite : List Stmt} {b0 : Stmt} {tb : XK → TS} {th : TS}
end
/-! ### a def that may refuse -/
section
variable {P : Program} {w : World} {K : PySem.W.Frag} {mg : Str → Option Value} {base : Heap}
theorem Fun.okE {x qual : Str} {st : Stmt} {f : Addr} {fd : FuncData} {N ps : List Str} {k : Nat} {sp : Sp} (F : Fun K x qual st f fd) (S : FnScope N ps (defScope st)) (len : ∀ vs H Q E, sp vs H Q E → vs.length = ps.length)
    (hbody : ∀ (cdv : Value) (A : Around) (outer : List Env) (s : Shared) (H : Hp) (vs : List V) (Q : VK) (E : XK), Room k (A.deeper (envOfC qual (defScope st) s.heap.objs.size f cdv)) → sp vs H Q E →
      ∃ t, PSs (cxOf (CXE P w) P w K mg base N qual (defScope st) f cdv A outer s H E) (defBody st) t ∧ t { nx := fun _ H' => Q .non H', rt := Q } (start N vs) H) : FnOk P w K mg base (CXE P w) (k + 1) f fd ps sp := by
  obtain ⟨oc, od, kV, doc, pm, an, cdv, ct, osl, rfl, lk, hcd⟩ := F.ex
  exact fn_of lk hcd S len fun A outer s H vs Q E hr hsp => hbody cdv A outer s H vs Q E hr hsp
end
/-! ### a def that is called within an except suite -/
structure RoomU (k : Nat) (A : Around) : Prop where
  dp : A.depth + 3 * k + 5 < recursionLimit
  un : A.units + 16 * k + 200 < cLine
theorem Room.u {k : Nat} {A : Around} (r : Room k A) : RoomU k A := ⟨r.dp, r.un⟩
section
variable {P : Program} {w : World} {K : PySem.W.Frag} {mg : Str → Option Value} {base : Heap}
end
theorem ix_listK (K : PySem.W.Frag) {X : Cx} (h : X.K = K := by rfl) : IxR X (rIxL K) := by
  subst h
  exact ix_list
end L2
namespace L2
open PySem PySem.Spec PySem.W PyProof.Rows Builtin.Getset_descriptor
/-- what an own class over ValueError has -/
structure ExcK (K : PySem.W.Frag) (D : Addr) : Prop where
  ga : findIn K (.ref D) "__getattribute__" = some (some (.builtin "BaseException.__getattribute__"))
  gx : findIn K (.ref D) "__getattr__" = some none
  ca : findIn K (.ref D) "__class__" = some (some (.builtin "object.__class__"))
  sp : specialIn K (.builtin "object.__class__") "__get__" = some (some (.builtin "getset_descriptor.__get__"))
  tk : takesIn K (.builtin "object.__class__") = some true
  mo : mroIn K D (.type "object") = some true
  mb : mroIn K D (.type "BaseException") = some true
theorem ExcK.cl {K : PySem.W.Frag} {D : Addr} (Z : ExcK K D) : (clsIn K D).isSome = true := by
  obtain ⟨cd, a, _⟩ := Option.bind_eq_some_iff.mp Z.mo
  rw [a]
  rfl
section
variable {prog : Program} {w : World} {A : Around} {E : Value → Shared → Prop} {s : Shared} {K : PySem.W.Frag} {x D : Addr} {ox : Obj} {od0 : Option Obj} {od : Option Addr}
end
end L2
namespace L2
open PySem PySem.Spec PyProof.Rows
section
variable {X : Cx}
end
theorem inv_big {X : Cx} {pins : List (Addr × Obj)} {σ : St} {H : Hp} {s : Shared} (I : Inv X pins σ H s) : sysModules < s.heap.objs.size :=
  Nat.lt_trans (by decide) (show mainGlobals < s.heap.objs.size from (I.mod.glob.keeps I.bk).lt)
def tDNew : TE := fun _ H Q => ∀ p, H p = none → Q (.ref p) (upd H p (.dK []))
theorem dict_new {P : Program} {w : World} {H : Hp} (h : Heap) (hb : sysModules < h.objs.size) : ObjOk P w H (h.push { cls := .type "dict", data := .dict #[] }) h.objs.size (.dK []) :=
  ⟨Nat.zero_le _, beq_eq_false_iff_ne.mpr (Ne.symm (Nat.ne_of_lt hb)), [], .nil, Heap.DictOf.new h⟩
theorem pe_dnew {X : Cx} {pos : Pos} : PE X (.Dict [] [] pos) tDNew := fun pins s σ H Q I h =>
  wpAny_Dict_empty ⟨.ref s.heap.objs.size, _, I.laid (a := s.heap.objs.size) (o := .dK []) (t' := s.toks) (fun _ _ q => Heap.get?_push_of_some _ q) (Nat.le_refl _) (dict_new s.heap (inv_big I)), rfl, h _ (I.hok.fresh (Nat.le_refl _))⟩
theorem r_dnew {σ : St} {H : Hp} {Q : VK} (h : ∀ p, H p = none → Q (.ref p) (upd H p (.dK []))) : tDNew σ H Q := h
end L2
end

section
set_option Elab.async false
set_option linter.all false
set_option maxRecDepth 100000
set_option maxHeartbeats 4000000
/-! Own errors over ValueError with an __init__ of their own. -/
namespace L2
open PySem PySem.Spec PySem.W PyProof.Rows
/-- the object of an exception that was made and does not fly -/
abbrev xObj (C t : Addr) (od : Option Addr) : Obj := { cls := .ref C, dict := od, data := .fields #[.ref t, .none, .none, .none, .bool false, .none] }
/-- what an own error C over W with an __init__ at f has -/
structure OwnX (K : PySem.W.Frag) (W C f : Addr) : Prop where
  wex : excIn K W veMro "ValueError.__new__" = true
  ob : ∃ nm qn N bs sn sub ab col dd k0 k1 k2 k3 k5, K.lookup C = some (excClassObj nm qn C N bs (.ref W :: veMro) true sn sub ab col dd k0 k1 k2 k3 k5 "ValueError.__new__")
  ini : findIn K (.ref C) "__init__" = some (some (.ref f))
  fn : typeIn K (.ref f) = some (.type "function")
  sa : findIn K (.ref C) "__setattr__" = some (some (.builtin "object.__setattr__"))
  pl : findIn K (.ref C) "place" = some none
section
variable {prog : Program} {w : World} {A : Around} {E : Value → Shared → Prop} {s : Shared} {K : PySem.W.Frag} {W C f e t : Addr} {od : Option Addr}
theorem own_tail {h : Heap} (X : K.In h) (q : excIn K W veMro "ValueError.__new__" = true) : OwnTail h veMro (.ref W :: veMro) := by
  obtain ⟨bm, N, nm, qn, bs, hdct, sn, sub, ab, col, dd, k0, k1, k2, k3, k5, mN, hC, hN, hni, hT⟩ := exc_obj X q
  exact .own hC hN hni .base
/-- WoodError.__init__(e, text) -/
theorem binit_call {v : Value} {Q : Value → Shared → Prop} (O : OwnX K W C f) (X : K.In s.heap) (he : s.heap.get? e = some (xObj C t od))
    (q : ∀ h' t', (∀ b o, b ≠ e → s.heap.get? b = some o → h'.get? b = some o) → h'.get? e = some (xObj C t' od) → Q .none { s with heap := h' }) : wpAny (model prog w) A (call (.builtin "ValueError.__init__") [.ref e, v]) Q E s := by
  obtain ⟨hh, g, d, tk, os⟩ := s
  obtain ⟨nm, qn, N, bs, sn, sub, ab, col, dd, k0, k1, k2, k3, k5, lk⟩ := O.ob
  have hC := X _ _ lk
  have T := own_tail X O.wex
  have B := PySem.F.excBase_ValueError
  refine wpAny_call (codeAny_call_builtin B.init.plain B.initEntry (wpAny_check_init_subT B T hC he rfl ?_))
  wp_walk
  refine q _ hh.objs.size (fun b o hb z => ?_) ?_
  · exact (Heap.get?_update_other _ _ (Ne.symm hb)).trans (Heap.get?_push_of_some _ z)
  · exact Heap.get?_update_self _ (Heap.get?_push_of_some _ he) rfl
/-- e.place = v -/
theorem own_store {v : Value} {Q : Unit → Shared → Prop} (O : OwnX K W C f) (Z : ExcK K C) (X : K.In s.heap) (he : s.heap.get? e = some (xObj C t none))
    (q : ∀ h' dx tk, (∀ b o, b ≠ e → s.heap.get? b = some o → h'.get? b = some o) → h'.get? e = some (xObj C t (some dx)) → dx ≠ e → s.heap.objs.size ≤ dx → h'.Ns1 dx (fun y => if y = "place" then some v else none) → Q () { s with heap := h', toks := tk }) :
    wpAny (model prog w) A (setAttr (.ref e) "place" v) Q E s := by
  obtain ⟨hh, g, d, tk, os⟩ := s
  have X : K.In hh := X
  have he : hh.get? e = some (xObj C t none) := he
  obtain ⟨nm, qn, N, bs, sn, sub, ab, col, dd, k0, k1, k2, k3, k5, lk⟩ := O.ob
  have SF := PySem.F.store_object
  have J : InstAt hh e (xObj C t none) C none := ⟨he, rfl, rfl, True.intro⟩
  have hc : clsIn K C = some ⟨nm, bs, .ref C :: .ref W :: veMro, N, qn, true, sn, sub, ab, col, false⟩ := by
    unfold clsIn
    rw [lk]
  have isO : Looks (model prog w) hh (isInstance (.ref e) (.type "object")) true := J.type.andThen (looks_mroIn X Z.mo)
  have hm : Looks (model prog w) hh (mroOf (.ref C)) (.ref C :: .ref W :: veMro) := (looks_clsIn X hc).andThen .now
  refine set_plain X J O.sa ?_
  refine codeAny_call_builtin SF.slot.plain SF.entry (@check_slot (model prog w) _ _ ⟨hh, g, d, tk + 1, os⟩ "object.__setattr__" "object" "__setattr__" (.ref e) [.str "place" tk, v] [] _ SF.kind SF.split isO (SF.args (.ref e) (.str "place" tk) v) ?_)
  rw [osa_eq, refuse_eq]
  refine wpAny_bind (wpAny_bind (J.type.here (wpAny_bind (hm.here ?_))))
  rw [refuseLoop_ref, refuseLoop_ref, show refuseLoop (.ref e) "__setattr__" veMro = pure () from PySem.F.store_ValueError.passes _]
  refine wpAny_pure (wpAny_bind (J.type.here (wpAny_bind ((looks_findIn X O.pl).here (wpAny_bind ?_)))))
  refine wpAny_pure ?_
  show wpAny _ _ (Builtin.ObjectAttr.storeInOwnDict (.ref e) (.ref C) (.str "place" tk) "place" v false) _ _ _
  have hcl := X _ _ lk
  have he1 : (hh.push emptyDict).get? e = some (xObj C t none) := Heap.get?_push_of_some _ he
  have hes : e ≠ hh.objs.size := Nat.ne_of_lt (Heap.lt_size he)
  refine wpAny_bind (wpAny_pure (wpAny_bind ?_))
  refine wpAny_bind (wpAny_loadPart he (wpAny_bind ((looks_clsIn X hc).here ?_)))
  show wpAny _ _ (do
    let d ← alloc { cls := Value.type "dict", data := Data.dict #[] }
    update e fun o => { cls := o.cls, dict := some d, data := o.data, slots := o.slots }
    dictMade (.ref C) e d) _ _ _
  refine wpAny_bind (wpAny_alloc' (wpAny_bind (wpAny_update' he1 (wpAny_pure ?_))))
  show wpAny _ _ (Builtin.ObjectAttr.storeInDict hh.objs.size (.str "place" tk) "place" v) _ _ _
  have hd2 : ((hh.push emptyDict).update e fun o => { cls := o.cls, dict := some hh.objs.size, data := o.data, slots := o.slots }).get? hh.objs.size = some emptyDict :=
    (Heap.get?_update_other _ _ hes).trans (Heap.get?_push_size hh rfl)
  have hn2 : ((hh.push emptyDict).update e fun o => { cls := o.cls, dict := some hh.objs.size, data := o.data, slots := o.slots }).Ns hh.objs.size (fun _ => none) := ⟨_, #[], _, hd2, rfl, (fun en hen => absurd hen (by simp)), fun _ => rfl⟩
  have he2 : ((hh.push emptyDict).update e fun o => { cls := o.cls, dict := some hh.objs.size, data := o.data, slots := o.slots }).get? e = some (xObj C t (some hh.objs.size)) := Heap.get?_update_self _ he1 rfl
  have hk2 : ∀ b o, b ≠ e → hh.get? b = some o → ((hh.push emptyDict).update e fun o => { cls := o.cls, dict := some hh.objs.size, data := o.data, slots := o.slots }).get? b = some o := fun b o hb z => (Heap.get?_update_other _ _ (Ne.symm hb)).trans (Heap.get?_push_of_some _ z)
  unfold Builtin.ObjectAttr.storeInDict Builtin.ObjectAttr.newKeyGuard
  refine wpAny_bind (wpAny_pure (wpAny_bind (wpAny_nsSet1 (Heap.Ns1.of_empty hn2) fun h' hn' hs => ?_)))
  obtain ⟨ob1, es1, ep1, at1, da1, ct1⟩ := hn'.count (Within.cons "place" v Within.nil)
  refine wpAny_bind (wpAny_lookBehind at1 (da1 ▸ pastItsLine_dict (Nat.le_trans ct1 (by decide))) ?_)
  refine wpAny_pure ?_
  refine q h' hh.objs.size _ (fun b o hb z => (hs.2 b (Nat.ne_of_lt (Heap.lt_size z))).trans (hk2 b o hb z)) ((hs.2 e hes).trans he2) (Ne.symm hes) (Nat.le_refl _) ?_
  obtain ⟨o', es, ep, e1, e2, e3, eu, e4⟩ := hn'
  exact ⟨o', es, ep, e1, e2, e3, eu, fun y => by rw [e4 y]⟩
/-- C(..): made, then its __init__ -/
theorem own_call {rest : List Value} {Q : Value → Shared → Prop} (O : OwnX K W C f) (X : K.In s.heap) (hr : rest.length ≤ sizeLine)
    (q : ∀ h' e, Heap.MadeExcOf s.heap h' e (.ref C) rest → s.heap.objs.size ≤ e → wpAny (model prog w) (A.under (.builtin "type.__call__" ⟨.ref C :: rest, []⟩)) (call (.ref f) (.ref e :: rest)) (fun r s' => r = .none ∧ Q (.ref e) s') E { s with heap := h' }) :
    wpAny (model prog w) A (call (.ref C) rest) Q E s := by
  obtain ⟨hh, g, d, tk, os⟩ := s
  have X : K.In hh := X
  obtain ⟨nm, qn, N, bs, sn, sub, ab, col, dd, k0, k1, k2, k3, k5, lk⟩ := O.ob
  have hC : hh.get? C = _ := X _ _ lk
  have T := own_tail X O.wex
  have B := PySem.F.excBase_ValueError
  have f1 := tc_lookup
  have f2 := tc_bind (.ref C)
  have tC : (⟨hh, g, d, tk, os⟩ : Shared).TypeIs (.ref C) "type" := ⟨_, hC, rfl⟩
  refine wpAny_call (codeAny_of_tree ?_)
  show wpAny _ _ (callAny (.ref C) _) _ _ _
  repeat (any_goals (first | assumption | with_reducible refine wpAny_loadPart_at hC ?_ | wp_step))
  refine ⟨rfl, codeAny_call_builtin_at (Code.quiet_builtin _ (by decide +kernel)) entry_typeCall (wpAny_check_type_call_sub hC ?_)⟩
  repeat (first | with_reducible refine wpAny_loadPart_at hC ?_ | with_reducible refine wpAny_madeBy_exc hC ?_ | wp_step)
  refine codeAny_call_builtin_code (Code.quiet_builtin _ B.quiet) (wpAny_check_new_subT B T hC (codeAny_exc_new_subT B T hC ?_ hr))
  show wpAny _ _ _ _ _ _
  have hget : ((hh.push { cls := .type "tuple", data := .seq rest.toArray }).push (xObj C hh.objs.size none)).get? (hh.objs.size + 1) = some (xObj C hh.objs.size none) := by heap_get
  have kp : ∀ b o, hh.get? b = some o → ((hh.push { cls := .type "tuple", data := .seq rest.toArray }).push (xObj C hh.objs.size none)).get? b = some o := fun b o z => Heap.get?_push_of_some _ (Heap.get?_push_of_some _ z)
  have hC₁ := kp _ _ hC
  have hcC : (Value.ref C :: .ref W :: veMro).contains (.ref C) = true := by simp
  have X1 : K.In ((hh.push { cls := .type "tuple", data := .seq rest.toArray }).push (xObj C hh.objs.size none)) := fun b o z => kp b o (X b o z)
  have mx : Heap.MadeExcOf hh ((hh.push { cls := .type "tuple", data := .seq rest.toArray }).push (xObj C hh.objs.size none)) (hh.objs.size + 1) (.ref C) rest := by
    refine ⟨kp, Heap.get?_none_of_le (Nat.le_succ _), hh.objs.size, hget, Heap.get?_none_of_le (Nat.le_refl _), ?_⟩
    exact Heap.get?_push_of_some _ (Heap.get?_push_size hh rfl)
  have J : InstAt ((hh.push { cls := .type "tuple", data := .seq rest.toArray }).push (xObj C hh.objs.size none)) (hh.objs.size + 1) (xObj C hh.objs.size none) C none := ⟨hget, rfl, rfl, True.intro⟩
  unfold isInstance
  repeat (first | with_reducible refine wpAny_loadPart_at hget ?_ | (with_reducible refine wpAny_isSubtype_exc hC₁ ?_; rw [hcC]) | wp_step)
  refine wpAny_isSubtype_exc hC₁ ?_
  rw [hcC]
  rw [if_neg (by decide)]
  refine wpAny_bind (wpAny_holding (special_fn X1 J O.ini O.fn ?_))
  refine wpAny_mono (q _ _ mx (Nat.le_succ _)) (fun v s' z => ?_) fun _ _ z => z
  obtain ⟨rfl, z⟩ := z
  exact wpAny_pure z
end
end L2
end

section
set_option Elab.async false
set_option linter.all false
set_option maxRecDepth 100000
set_option maxHeartbeats 4000000
/-! Own errors with an __init__: the rules of the layer. -/
namespace L2
open PySem PySem.Spec PySem.W PyProof.Rows
/-- an exception while its __init__ is at work -/
def IsRaw (e C : Addr) (od : Option Addr) (h : Heap) : Prop := ∃ t, h.get? e = some (xObj C t od)
def rawX (e C : Addr) (od : Option Addr) : HO := .ext (IsRaw e C od)
theorem raw_ok {P : Program} {w : World} {H : Hp} {h : Heap} {e C : Addr} {od : Option Addr} (x : IsRaw e C od h) : ObjOk P w H h e (rawX e C od) :=
  ⟨x, let ⟨_, z⟩ := x; ⟨_, z⟩, fun _ _ ⟨t, z⟩ k => ⟨t, k _ z⟩⟩
structure BaseX (K : PySem.W.Frag) (mg : Str → Option Value) (x : Str) (W : Addr) : Prop where
  at_ : mg x = some (.ref W)
  ga : specialIn K (.ref W) "__getattribute__" = some (some (.builtin "type.__getattribute__"))
  rd : readsIn K W (.type "type") = true
  ini : findCls K (.ref W) (.type "type") "__init__" = some (.val (.builtin "ValueError.__init__"))
theorem upd_id {H : Hp} {e : Addr} {o : HO} (h : H e = some o) : upd H e o = H := by
  funext b
  by_cases hb : b = e
  · subst hb; rw [upd_same, h]
  · rw [upd_ne hb]
section
variable {X : Cx} {x : Str} {W C f : Addr} {np apos pos p1 p2 pos' : Pos} {a o e value : Expr} {as : List Expr} {t : TA} {te ta tv : TE} {pl : Sem Bool}
/-- WoodError.__init__(self, text) -/
def tBinit (K : PySem.W.Frag) (W : Addr) (t : TA) : TE := fun σ H Q => t σ H fun vs H1 => ∃ e C f od z, vs = [.ref e, .str z] ∧ H1 e = some (rawX e C od) ∧ OwnX K W C f ∧ Q .non H1
theorem pe_binit (B : BaseX X.K X.mg x W) (hg : Gl X x) (ha : PA X (a :: as) t) (hdb : (x == ("__debug__" : Str)) = false := by decide)
    (he : backTo pos (starEach (a :: as) X.env) = (false, eval a X.env) :: backTo pos (starEach as X.env) := by rfl) (hpl : (backTo pos (starEach (a :: as) X.env)).any (·.1) = false := by rfl)
    (ht : eval (.Call (.Attribute (.Name x np) "__init__" apos) (a :: as) [] pos) X.env = (do
      let ov ← eval (.Name x np) X.env
      standAt apos.atName
      let (f, first) ← holding [ov] (getMethod ov "__init__" pl)
      callWith pos f first (backTo pos (starEach (a :: as) X.env)) (backToKw pos (keywordEach [] X.env))) := by rfl) :
    PE X (.Call (.Attribute (.Name x np) "__init__" apos) (a :: as) [] pos) (tBinit X.K W t) := by
  intro pins s σ H Q I h
  refine methodCall_KW (ld_glob I hg B.at_ ?_ hdb) ht
  refine method_cls I.kIn B.ga (cls_value I.kIn B.rd B.ini rfl ?_)
  refine Calls.callWith_builtin hpl ?_
  have hs := ha pos pins _ σ H _ (I.tok (s.toks + 1)) h
  rw [he] at hs ⊢
  refine Calls.evalArgs_plain (thn hs fun us s1 ⟨vs, H1, I1, r, e, C, f, od, z, ev, hx, O, q⟩ => ?_)
  subst ev
  obtain ⟨u, u2, rfl, ru, ru2⟩ := vals2 r
  obtain rfl : u = Value.ref e := ru
  obtain ⟨⟨t0, h0⟩, _, _⟩ := (show ObjOk X.prog X.w H1 s1.heap e (rawX e C od) from I1.hok e _ hx)
  refine binit_call O I1.kIn h0 fun h' t' hk he' => ⟨.non, H1, ?_, rfl, q⟩
  have z := I1.write (x := e) (e := e) (o := rawX e C od) (h' := h') (t' := s1.toks) (by rw [hx]; exact True.intro) (.inl rfl) hk ⟨_, he'⟩ (raw_ok ⟨t', he'⟩)
  rw [upd_id hx] at z
  exact z
/-- a text with one number in it -/
def tFstr (te : TE) : TE := fun σ H Q => te σ H fun v H1 => ∃ i : Int, v = .int i ∧ i.natAbs < 10 ^ 12 ∧ ∀ z, Q (.str z) H1
theorem log_small {n : Nat} (h : n < 10 ^ 12) : n.log2 < 1920 := by
  have : n.log2 < 40 := by
    by_cases h0 : n = 0
    · subst h0; decide
    · exact (Nat.log2_lt h0).mpr (Nat.lt_of_lt_of_le h (by decide))
  omega
theorem pe_fstr {c : Str} {j : Nat} (hc : c.length ≤ 1000) (he : PE X e te) : PE X (.JoinedStr [.Constant (.str c) j p1, .FormattedValue e (-1) none p2] pos) (tFstr te) := by
  intro pins s σ H Q I h
  have sl : 2000 ≤ sizeLine := by decide
  refine JoinedStr_many (joinParts_cons (Calls.Constant_str ⟨?_, joinParts_cons (FormattedValue_plain (thn (he pins _ σ H _ (I.tok _) h) fun u s1 ⟨v, H1, I1, r, i, ev, hi, q⟩ => ?_))⟩))
  · rw [strLen_append]
    show 0 + c.length ≤ _
    omega
  · subst ev
    obtain ⟨tk, rfl⟩ := r
    have hl := int_text_length_le10 (k := 12) (by decide) hi
    have hz : (Str.empty ++ c ++ (Str.ofString (toString i))).length ≤ sizeLine := by
      rw [strLen_append, strLen_append]
      show 0 + c.length + _ ≤ _
      have : (Str.ofString (toString i)).length ≤ 13 := by rw [PySem.ofString_length]; exact hl
      omega
    refine formatField_int_small (log_small hi) ⟨hz, joinParts_nil ⟨.str _, H1, I1.tok _, ⟨_, rfl⟩, q _⟩ hz⟩
/-- self.place = v -/
def sPlace (K : PySem.W.Frag) (ta tv : TE) : TS := fun D σ H => tv σ H fun y H1 => ta σ H1 fun x H2 => ∃ e W C f, x = .ref e ∧ H2 e = some (rawX e C none) ∧ OwnX K W C f ∧ ExcK K C ∧
  ∀ dx, H2 dx = none → D.nx σ (upd (upd H2 dx (.xd [("place", y)])) e (rawX e C (some dx)))
theorem ps_place (ha : PE X o ta) (hv : PE X value tv) (hs : swapsWith value (some (.Attribute o "place" pos')) pos.line X.env = pure false := by rfl) : PS X (.Assign [.Attribute o "place" pos'] value pos) (sPlace X.K ta tv) := by
  intro pins s σ H D I h
  refine plainObj_wpAny_Assign_Attribute (thn (hv pins s σ H _ I h) fun u s1 ⟨y, H1, I1, ry, q⟩ => thn (ha pins s1 σ H1 _ I1 q) fun ov s2 ⟨x, H2, I2, rx, e, W, C, f, ex, hx, O, Z, q2⟩ => ?_) hs
  subst ex
  obtain rfl : ov = Value.ref e := rx
  obtain ⟨⟨t0, h0⟩, _, _⟩ := (show ObjOk X.prog X.w H2 s2.heap e (rawX e C none) from I2.hok e _ hx)
  refine own_store O Z I2.kIn h0 fun h' dx tk hk he' hne hsz hn => ⟨σ, _, ?_, q2 dx (I2.hok.fresh hsz)⟩
  have fr := I2.hok.fresh hsz
  have nb : ∀ b ob, s2.heap.get? b = some ob → b ≠ dx := fun b ob z => Nat.ne_of_lt (Nat.lt_of_lt_of_le (Heap.lt_size z) hsz)
  have nt : ∀ {b : Addr} {u : HO}, H2 b = some u → b ≠ dx := fun z => ne_of_none z fr
  have ne : ∀ {b : Addr}, H2 b = none → b ≠ e := fun z y => by rw [y, hx] at z; cases z
  have mv : ∀ {b : Addr}, b ≠ e → b ≠ dx → upd (upd H2 dx (.xd [("place", y)])) e (rawX e C (some dx)) b = H2 b := fun z z2 => by rw [upd_ne z, upd_ne z2]
  have xt : ∀ {b : Addr} {u : HO}, H2 b = some u → u ≠ rawX e C none → b ≠ e := fun z n y => by rw [y, hx] at z; cases z; exact n rfl
  refine I2.un (t' := tk) ⟨fun b ob z n _ _ => hk b ob (ne n) z, fun b ob z n _ _ => ⟨ob.slots, hk b ob (ne n) z⟩, fun b ob z n _ => by rw [mv (ne n) (nb b ob z)]; exact n, fun b ob z _ => ?_, fun b xs z => ?_, fun b ob u z => ?_, fun b ps z => ?_⟩ fun b ob z => ?_
  · by_cases hb : b = e
    · subst hb; exact ⟨_, he'⟩
    · exact ⟨ob, hk b ob hb z⟩
  · rw [mv (xt z (by intro y; cases y)) (nt z)]; exact z
  · rw [mv (xt z (by intro y; cases y)) (nt z)]; exact z
  · exact ⟨#[], by rw [mv (xt z (by intro y; cases y)) (nt z)]; simpa using z⟩
  · by_cases hb : b = e
    · subst hb
      rw [upd_same] at z
      cases z
      exact raw_ok ⟨t0, he'⟩
    · rw [upd_ne hb] at z
      by_cases hb2 : b = dx
      · subst hb2
        rw [upd_same] at z
        cases z
        refine ⟨_, hn, fun f => ?_⟩
        by_cases hf : f = "place"
        · subst hf
          simpa [RelO] using ry
        · have : List.lookup f [(("place" : Str), y)] = none := by
            rw [List.lookup, show (f == ("place" : Str)) = false from beq_eq_false_iff_ne.mpr hf]
            rfl
          rw [this]
          simp [RelO, hf]
      · rw [upd_ne hb2] at z
        refine (I2.hok b ob z).stay (fun c w' hc y => hk c w' ?_ y) (fun c y => ?_) fun c xs y => ?_
        · rcases hc with rfl | hc
          · exact hb
          · exact xt hc (by intro y; cases y)
        · rw [mv (xt y (by intro y; cases y)) (nt y)]; exact y
        · rw [mv (xt y (by intro y; cases y)) (nt y)]; exact y
end
/-! ### raise C(i) -/
section
variable {M : Model} {prog : Program} {w : World} {A : Around} {E : Value → Shared → Prop} {s : Shared} {env : Env} {K : PySem.W.Frag} {W C f : Addr}
theorem raise_own {x : Sem Value} {Q : Flow → Shared → Prop} (O : OwnX K W C f) (hh : A.handled = none) (q : wpAny M A x (fun v s₁ => ∃ e t od, v = .ref e ∧ K.In s₁.heap ∧ s₁.heap.get? e = some (xObj C t od) ∧ E (.ref e) s₁) E s) :
    wpAny M A (raiseStmt env (some x) none) Q E s := by
  have cB : (Value.ref C :: .ref W :: veMro).contains (.type "BaseException") = true := by simp [veMro]
  unfold raiseStmt
  refine wpAny_bind (thn q fun v s₁ ⟨e, t, od, ev, X, hx, hE⟩ => ?_)
  subst ev
  obtain ⟨nm, qn, N, bs, sn, sub, ab, col, dd, k0, k1, k2, k3, k5, lk⟩ := O.ob
  have hC := X _ _ lk
  obtain ⟨hp, g, d, tk, os⟩ := s₁
  repeat (first | with_reducible refine wpAny_loadPart_at hx ?_ | with_reducible refine wpAny_loadPart_at hC ?_ | (with_reducible refine wpAny_isSubtype_exc hC ?_; rw [cB]) | wp_step)
  exact wpAny_raiseNew_none hh hE
theorem Raise_own {x : Str} {np cpos pos : Pos} {args : List Expr} {Q : Flow → Shared → Prop} (O : OwnX K W C f) (hh : A.handled = none) (hplain : (backTo cpos (starEach args env)).any (·.1) = false)
    (q : wpAny (model prog w) A (eval (.Name x np) env) (fun v s₁ => v = .ref C ∧ wpAny (model prog w) A (evalArgs (.ref C) true (backTo cpos (starEach args env)) []) (fun a s₂ => a.kw = [] ∧ a.pos.length ≤ sizeLine ∧ K.In s₂.heap ∧
      ∀ h' e, Heap.MadeExcOf s₂.heap h' e (.ref C) a.pos → s₂.heap.objs.size ≤ e → wpAny (model prog w) (A.under (.builtin "type.__call__" ⟨.ref C :: a.pos, []⟩)) (call (.ref f) (.ref e :: a.pos)) (fun r s₃ => r = .none ∧ ∃ t od, K.In s₃.heap ∧ s₃.heap.get? e = some (xObj C t od) ∧ E (.ref e) s₃) E { s₂ with heap := h' }) E s₁) E s) :
    wpAny (model prog w) A (exec (.Raise (some (.Call (.Name x np) args [] cpos)) none pos) env) Q E s := by
  rw [arm_exec_Raise]
  simp only [evalOpt, Option.map]
  refine wpAny_bind (wpAny_standAt (raise_own O hh (wpAny_bind (thn (wpAny_Call_ofName (thn q fun v s₁ q1 => ?_)) fun v s₃ q3 => wpAny_bind (wpAny_standAt (wpAny_pure q3))))))
  obtain ⟨rfl, q1⟩ := q1
  unfold callWith
  refine wpAny_bind (wpAny_holding (thn q1 fun a s₂ q2 => wpAny_bind (wpAny_standAt ?_)))
  obtain ⟨ap, ak⟩ := a
  obtain ⟨hk, hl, X, q2⟩ := q2
  obtain rfl : ak = [] := hk
  obtain ⟨nm, qn, N, bs, sn, sub, ab, col, dd, k0, k1, k2, k3, k5, lk⟩ := O.ob
  obtain ⟨hp, g, d, tk, os⟩ := s₂
  simp only [hplain]
  refine wpAny_bind (wpAny_keeperOf_exc (X _ _ lk) ?_)
  refine wpAny_bind (own_call O X hl fun h' e mx he => thn (q2 h' e mx he) fun r s₃ q3 => ⟨q3.1, wpAny_bind (wpAny_holding (wpAny_point (wpAny_pure ?_)))⟩)
  obtain ⟨_, t, od, X3, h3, q3⟩ := q3
  exact ⟨e, t, od, rfl, X3, h3, q3⟩
end
/-- what an own error's __init__(self, place) does -/
def spInit (C : Addr) : Sp := fun vs H Q _ => ∃ (e : Addr) (i : Int), vs = [.ref e, .int i] ∧ H e = some (rawX e C none) ∧ i.natAbs < 10 ^ 12 ∧ ∀ dx, H dx = none → Q .non (upd (upd H dx (.xd [("place", .int i)])) e (rawX e C (some dx)))
structure ExcI (P : Program) (w : World) (K : PySem.W.Frag) (mg : Str → Option Value) (base : Heap) (name : Str) (W C : Addr) (k : Nat) (ps : List Str) : Prop where
  ex : ∃ (f : Addr) (fd : FuncData), FnOk P w K mg base CX0 k f fd ps (spInit C) ∧ Binds K fd ps [] ∧ OwnX K W C f
  at_ : mg name = some (.ref C)
  ek : ExcK K C
def tRaiseI (C : Addr) (E : XK) (t : TA) : TS := fun _ σ H => t σ H fun vs H1 => ∃ i : Int, vs = [.int i] ∧ i.natAbs < 10 ^ 12 ∧ ∀ dx, H1 dx = none → E (.ref C) (some dx) (upd H1 dx (.xd [("place", .int i)]))
section
variable {P : Program} {w : World} {K : PySem.W.Frag} {mg : Str → Option Value} {base : Heap} {N : List Str} {qual : Str} {scope : Scope} {f : Addr} {cd : Value} {A : Around} {outer : List Env} {s₀ : Shared} {H₀ : Hp} {E : XK}
theorem raise_from {pins : List (Addr × Obj)} {σ : St} {H H' : Hp} {s s3 : Shared} {e C t : Addr} {od : Option Addr} (I : Inv (cxOf (CXE P w) P w K mg base N qual scope f cd A outer s₀ H₀ E) pins σ H s) (hn : s.heap.get? e = none) (ho : s3.os = s.os) (hg : AllBare s3.gens)
    (un : Un (frs (cxOf (CXE P w) P w K mg base N qual scope f cd A outer s₀ H₀ E).stack) [] H H' s.heap s3.heap) (hok : HOk P w H' s3.heap) (hu : H' e = none) (he : s3.heap.get? e = some (xObj C t od)) (q : E (.ref C) od H') :
    (cxOf (CXE P w) P w K mg base N qual scope f cd A outer s₀ H₀ E).xe (.ref e) s3 := by
  show wpAny (model P w) (A.deeper (envOfC qual scope s₀.heap.objs.size f cd)) (leaving (envOfC qual scope s₀.heap.objs.size f cd) (.ref e)) _ _ _
  have I3 := I.call' ho un hok hg (by simp)
  have hfr : ∀ b ∈ frs (cxOf (CXE P w) P w K mg base N qual scope f cd A outer s₀ H₀ E).stack, H' b = none := I3.stkFree
  have hin : ∀ env ∈ (cxOf (CXE P w) P w K mg base N qual scope f cd A outer s₀ H₀ E).stack, ∀ b, env.frame = some b → b ∈ e :: frs (cxOf (CXE P w) P w K mg base N qual scope f cd A outer s₀ H₀ E).stack := fun env he b hb => List.mem_cons_of_mem _ (List.mem_filterMap.mpr ⟨env, he, hb⟩)
  have hen : (PySem.W.hideAll s3.heap (e :: frs (cxOf (CXE P w) P w K mg base N qual scope f cd A outer s₀ H₀ E).stack)).get? e = none := PySem.W.hideAll_none _ List.mem_cons_self
  have hBh : (PySem.W.hideAll s3.heap (e :: frs (cxOf (CXE P w) P w K mg base N qual scope f cd A outer s₀ H₀ E).stack)).StaysIn s3.heap := fun b o z => PySem.W.of_hideAll _ z
  refine wpAny_mono (kd_any (kd_leaving _ _) (wpAny_leaving_firstW (L := s₀.heap.objs.size) (outer := outer) (base := PySem.W.hideAll s3.heap (e :: frs (cxOf (CXE P w) P w K mg base N qual scope f cd A outer s₀ H₀ E).stack)) (a0 := .ref t)
    (Q := fun _ s' => ∃ h2, s' = { s3 with heap := h2 } ∧ Heap.LeftW (PySem.W.hideAll s3.heap (e :: frs (cxOf (CXE P w) P w K mg base N qual scope f cd A outer s₀ H₀ E).stack)) (envOfC qual scope s₀.heap.objs.size f cd :: outer) e (.ref C) (.ref t) s3.heap h2)
    I.ok.frames (PySem.W.funFrames_hide I3.stack hin) rfl he hBh hen rfl rfl rfl fun h2 L => ⟨h2, rfl, L⟩)) (fun _ s' z => ?_) fun _ _ z => z
  obtain ⟨⟨h2, rfl, k1, ⟨_, _, k2⟩, k3, k4⟩, kd⟩ := z
  obtain ⟨hp, g, d, tt, os⟩ := s3
  have ho : os = s.os := ho
  subst ho
  refine fly_out (s := s) (g := g) (d := d) (t := tt) (h1 := hp) I un hok hfr hg hn hu (fun b o z y => ?_) hBh (⟨⟨k1, hen, k2, k3⟩, dict_on kd ⟨_, he, rfl⟩⟩ : FlyD _ outer e (.ref C) (.ref t) od h2) k4 q
  by_cases hb : b ∈ e :: frs (cxOf (CXE P w) P w K mg base N qual scope f cd A outer s₀ H₀ E).stack
  · rcases List.mem_cons.mp hb with z | z
    · exact .inl z
    · exact .inr (.inl z)
  · rw [PySem.W.hideAll_get _ z hb] at y
    cases y
theorem ps_raiseI {x : Str} {W C : Addr} {k : Nat} {ps : List Str} {np cpos pos : Pos} {a : Expr} {as : List Expr} {t : TA} (Y : ExcI P w K mg base x W C k ps) (hr : Room (k + 1) (cxOf (CXE P w) P w K mg base N qual scope f cd A outer s₀ H₀ E).A) (hg : Gl (cxOf (CXE P w) P w K mg base N qual scope f cd A outer s₀ H₀ E) x)
    (ha : PA (cxOf (CXE P w) P w K mg base N qual scope f cd A outer s₀ H₀ E) (a :: as) t) (hdb : (x == ("__debug__" : Str)) = false := by decide)
    (he : starEach (a :: as) (cxOf (CXE P w) P w K mg base N qual scope f cd A outer s₀ H₀ E).env = (false, eval a (cxOf (CXE P w) P w K mg base N qual scope f cd A outer s₀ H₀ E).env) :: starEach as (cxOf (CXE P w) P w K mg base N qual scope f cd A outer s₀ H₀ E).env := by rfl)
    (hpl : (backTo cpos (starEach as (cxOf (CXE P w) P w K mg base N qual scope f cd A outer s₀ H₀ E).env)).any (·.1) = false := by rfl) :
    PS (cxOf (CXE P w) P w K mg base N qual scope f cd A outer s₀ H₀ E) (.Raise (some (.Call (.Name x np) (a :: as) [] cpos)) none pos) (tRaiseI C E t) := by
  intro pins s σ H D I h
  obtain ⟨fi, fd, F, B, O⟩ := Y.ex
  refine Raise_own O (I.ok.hd rfl) ?_ ?_
  · rw [he]
    show ((false || (backTo cpos (starEach as _)).any (·.1))) = false
    rw [hpl]
    rfl
  refine ld_glob I hg Y.at_ ⟨rfl, ?_⟩ hdb
  have hs := ha cpos pins s σ H _ I h
  rw [he] at hs ⊢
  refine Calls.evalArgs_plain (thn hs fun us s2 ⟨vs, H1, I1, r, i, ev, hi, q⟩ => ⟨rfl, ?_, I1.kIn, fun h1 e mx hsz => ?_⟩)
  · have := r.length
    subst ev
    show us.length ≤ sizeLine
    rw [← this]
    show 1 ≤ sizeLine
    decide
  subst ev
  have new : H1 e = none := I1.hok.fresh hsz
  obtain ⟨t, het, _⟩ := mx.there
  have I2 := I1.laid (a := e) (o := rawX e C none) (t' := s2.toks) mx.keeps hsz (raw_ok ⟨t, het⟩)
  have hl : (Value.ref e :: us).length = ps.length := by
    rw [← F.len [.ref e, .int i] (upd H1 e (rawX e C none)) (fun _ _ => True) E0 ⟨e, i, rfl, upd_same, hi, fun _ _ => True.intro⟩]
    show us.length + 1 = _
    rw [← r.length]
    rfl
  refine wpAny_call (codeAny_mono (F.run _ _ _ (upd H1 e (rawX e C none)) ⟨.ref e :: us, []⟩ (.ref e :: us) [.ref e, .int i] (fun v H2 => v = .non ∧ ∃ dx, upd H1 e (rawX e C none) dx = none ∧ H2 = upd (upd (upd H1 e (rawX e C none)) dx (.xd [("place", .int i)])) e (rawX e C (some dx))) E0
    (hr.make C us []) (I2.env0.make C us []) (by have := B _ (Value.ref e :: us) I2.kIn (by simpa using hl); simpa using this) (.cons rfl r) ⟨e, i, rfl, upd_same, hi, fun dx hd => ⟨rfl, dx, hd, rfl⟩⟩) fun r' s3 hq => ?_)
  cases r' with
  | error x => exact hq.elim
  | ok fl =>
    cases fl with
    | next => exact hq.elim
    | brk => exact hq.elim
    | cont => exact hq.elim
    | ret u =>
      obtain ⟨v, H3, ho, hg3, un, hok, rv, evn, dx, hd, eH⟩ := hq
      subst evn
      obtain rfl : u = Value.none := rv
      have hde : dx ≠ e := fun z => by rw [z, upd_same] at hd; cases hd
      have hd1 : H1 dx = none := by rw [upd_ne hde] at hd; exact hd
      have e3 : H3 e = some (rawX e C (some dx)) := by rw [eH, upd_same]
      obtain ⟨⟨t3, he3⟩, _, _⟩ := (show ObjOk P w H3 s3.heap e (rawX e C (some dx)) from hok e _ e3)
      have mv : ∀ b, b ≠ e → H3 b = upd H1 dx (.xd [("place", .int i)]) b := fun b hb => by
        rw [eH, upd_ne hb]
        by_cases h2 : b = dx
        · subst h2; rw [upd_same, upd_same]
        · rw [upd_ne h2, upd_ne h2, upd_ne hb]
      have hu : upd H1 dx (.xd [("place", .int i)]) e = none := by rw [upd_ne (Ne.symm hde)]; exact new
      have nb : ∀ b o, s2.heap.get? b = some o → b ≠ e := fun b o z y => by rw [y, mx.new] at z; cases z
      have nt : ∀ {b : Addr} {o : HO}, H1 b = some o → b ≠ e := fun z => ne_of_none z new
      have m1 : ∀ b, b ≠ e → upd H1 e (rawX e C none) b = H1 b := fun b hb => upd_ne hb
      have I3 := I2.call' ho un hok hg3 (by simp)
      refine ⟨rfl, t3, some dx, I3.kIn, he3, raise_from (H' := upd H1 dx (.xd [("place", .int i)])) I1 mx.new ho hg3 ⟨fun b o z n nf nx => ?_, fun b o z n nf nx => ?_, fun b o z n nx => ?_, fun b o z nx => ?_, fun b xs z => ?_, fun b o u z => ?_, fun b ps z => ?_⟩ (fun b o z => ?_) hu he3 (q dx hd1)⟩
      · exact un.keep b o (mx.keeps b o z) (by rw [m1 b (nb b o z)]; exact n) nf nx
      · exact un.slot b o (mx.keeps b o z) (by rw [m1 b (nb b o z)]; exact n) nf nx
      · rw [← mv b (nb b o z)]; exact un.free b o (mx.keeps b o z) (by rw [m1 b (nb b o z)]; exact n) nx
      · exact un.there b o (mx.keeps b o z) nx
      · rw [← mv b (nt z)]; exact un.tups b xs (by rw [m1 b (nt z)]; exact z)
      · rw [← mv b (nt z)]; exact un.frzs b o u (by rw [m1 b (nt z)]; exact z)
      · rw [← mv b (nt z)]; exact un.tbls b ps (by rw [m1 b (nt z)]; exact z)
      · have hb : b ≠ e := fun y => by rw [y, hu] at z; cases z
        rw [← mv b hb] at z
        refine (hok b o z).stay (fun _ _ _ y => y) (fun c y => ?_) fun c xs y => ?_
        · rw [← mv c (fun y2 => by rw [y2, e3] at y; cases y)]; exact y
        · rw [← mv c (fun y2 => by rw [y2, e3] at y; cases y)]; exact y
end
end L2
end

section
set_option Elab.async false
set_option linter.all false
set_option maxRecDepth 100000
set_option maxHeartbeats 4000000
/-! list.count and list.index of flat items; readings of the rules for own errors. -/
namespace L2
open PySem PySem.Spec PyProof.Rows
section
variable {X : Cx}
end
section
variable {σ : St} {H : Hp} {D : Ends} {Q : VK} {te ta tv : TE} {t : TA} {K : PySem.W.Frag} {W C : Addr} {E : XK}
theorem r_binit (h : t σ H fun vs H1 => ∃ e C f od z, vs = [.ref e, .str z] ∧ H1 e = some (rawX e C od) ∧ OwnX K W C f ∧ Q .non H1) : tBinit K W t σ H Q := h
theorem r_fstr (h : te σ H fun v H1 => ∃ i : Int, v = .int i ∧ i.natAbs < 10 ^ 12 ∧ ∀ z, Q (.str z) H1) : tFstr te σ H Q := h
theorem r_splace (h : tv σ H fun y H1 => ta σ H1 fun x H2 => ∃ e W C f, x = .ref e ∧ H2 e = some (rawX e C none) ∧ OwnX K W C f ∧ ExcK K C ∧ ∀ dx, H2 dx = none → D.nx σ (upd (upd H2 dx (.xd [("place", y)])) e (rawX e C (some dx)))) : sPlace K ta tv D σ H := h
theorem r_raiseI (h : t σ H fun vs H1 => ∃ i : Int, vs = [.int i] ∧ i.natAbs < 10 ^ 12 ∧ ∀ dx, H1 dx = none → E (.ref C) (some dx) (upd H1 dx (.xd [("place", .int i)]))) : tRaiseI C E t D σ H := h
end
section
variable {X : Cx} {e a b : Expr} {te ta tb : TE} {pos : Pos}
end
end L2
end

section
set_option Elab.async false
set_option linter.all false
set_option maxRecDepth 100000
set_option maxHeartbeats 4000000
/-! Texts parted, a sign's place in a text, numbers written and read; an except clause without a name. -/
namespace L2
open PySem PySem.Spec PyProof.Rows
open Builtin.Str (occurrences partsBetween)
section
variable {X : Cx}
end
section
variable {X : Cx} {x : Str} {C0 : Value} {np hpos pos : Pos} {body suite : List Stmt} {b0 : Stmt} {tb : XK → TS} {th : TS}
end
end L2
end

section
set_option Elab.async false
set_option linter.all false
set_option maxRecDepth 100000
set_option maxHeartbeats 4000000
/-! Two lists that are read, one behind the other. -/
namespace L2
open PySem PySem.Spec PyProof.Rows
end L2
end

section
set_option Elab.async false
set_option linter.all false
set_option maxRecDepth 100000
set_option maxHeartbeats 4000000
/-! Lists with the very same items compared; a list by steps. -/
namespace L2
open PySem PySem.Spec PyProof.Rows
section
variable {X : Cx}
end
theorem vals_pick {xs : List V} {us : List Value} (r : Vals xs us) : ∀ is : List Nat, Vals (is.filterMap fun i => xs[i]?) (is.filterMap fun i => us[i]?)
  | [] => .nil
  | i :: is => by
    have ih := vals_pick r is
    have l := r.length
    by_cases h : i < us.length
    · obtain ⟨u, eu, ru⟩ := r.get (List.getElem?_eq_getElem (show i < xs.length by omega))
      rw [List.filterMap_cons, List.filterMap_cons, List.getElem?_eq_getElem (show i < xs.length by omega), eu]
      exact .cons ru ih
    · rw [List.filterMap_cons, List.filterMap_cons, List.getElem?_eq_none (show us.length ≤ i by omega), List.getElem?_eq_none (show xs.length ≤ i by omega)]
      exact ih
section
variable {X : Cx} {e st : Expr} {te ts : TE} {pos p2 : Pos}
end
end L2
end

section
set_option Elab.async false
set_option linter.all false
set_option maxRecDepth 100000
set_option maxHeartbeats 4000000
/-! A zip has no keys; its next one while the last pair is still held. -/
namespace L2
open PySem PySem.Spec PyProof.Rows
theorem entry_zip_ga : entryFor table "zip.__getattribute__" = some Builtin.«object.__getattribute__» :=
  entryFor_alias (id' := "object.__getattribute__") (by kernel_rfl) (by first | rfl | decide +kernel) (by decide +kernel) (by kernel_rfl)
theorem lk_zip_keys : typeLookup (.type "zip") "keys" = pure none := by rw [typeLookup_type, builtinLookup_eq_fast]; kernel_rfl
theorem lk_zip_hook : typeLookup (.type "zip") "__getattr__" = pure none := by rw [typeLookup_type, builtinLookup_eq_fast]; kernel_rfl
abbrev zObj (vs : Array Value) : Obj := { cls := .type "zip", dict := none, data := .fields vs, slots := #[] }
theorem meets_keys (a : Addr) (vs : Array Value) (u : Tok) : Meets (Builtin.«object.__getattribute__» ⟨[.ref a, .str "keys" u], []⟩) (fun A R s => s.heap.get? a = some (zObj vs) ∧ raisesAttr (.ref a) "keys" A R s) :=
  Meets.of_wp fun prog w A R s hs => by
    obtain ⟨hp, g, d, tk, os⟩ := s
    obtain ⟨hx, hs⟩ := hs
    have hT : (⟨hp, g, d, tk, os⟩ : Shared).TypeIs (.ref a) "zip" := ⟨_, hx, rfl⟩
    have f4 := lk_zip_keys
    repeat (any_goals (first | assumption | with_reducible refine wpAny_loadPart_at hx ?_ | wp_step))
    exact wpAny_raiseAttrError hs.1 hs.2 (by decide +kernel)
section
variable {prog : Program} {w : World} {A : Around} {E : Value → Shared → Prop} {s : Shared}
theorem no_keys {a : Addr} {vs : Array Value} {Q : Option Value → Shared → Prop} (hx : s.heap.get? a = some (zObj vs)) (hA : A.handled = none) (q : ∀ h' tk, (∀ b o, s.heap.get? b = some o → h'.get? b = some o) → Q none { s with heap := h', toks := tk }) :
    wpAny (model prog w) A (getAttr? (.ref a) "keys") Q E s := by
  obtain ⟨hp, g, d, tk, os⟩ := s
  have hT : ∀ tk', (⟨hp, g, d, tk', os⟩ : Shared).TypeIs (.ref a) "zip" := fun _ => ⟨_, hx, rfl⟩
  have f1 := sub_AttributeError
  have f3 := PySem.F.slot_zip_getattribute.lookup
  have f4 := PySem.F.slot_zip_getattribute.bind (.ref a)
  have f5 := lk_zip_hook
  unfold getAttr? getAttrBy? getAttrBy
  repeat (any_goals (first | assumption | exact hT _ | ((with_reducible show wpAny _ _ (call (Value.builtin "zip.__getattribute__") _ _) _ _ _); refine call_meets PySem.F.slot_zip_getattribute (hT _) entry_zip_ga (PySem.F.args_zip_getattribute_2 _ _) (meets_keys a vs _) ⟨hx, hA, fun h' tk' e hx' => ?_⟩) | wp_step))
  obtain ⟨t', u', he⟩ := hx'.there
  show wpAny _ _ (getattributeRaised _ _ _ _ _ _ _) _ _ _
  unfold getattributeRaised
  repeat (any_goals (first | assumption | wp_step))
  exact q _ _ hx'.keeps
end
end L2
end

section
set_option Elab.async false
set_option linter.all false
set_option maxRecDepth 100000
set_option maxHeartbeats 4000000
/-! dict(zip(a, b)) of two lists. -/
namespace L2
open PySem PySem.Spec PyProof.Rows
abbrev zHeld (h : Heap) (z TI TO T : Addr) (c : Bool) : Prop := h.get? z = some (zObj #[rawInt T, .bool c, .bool false, .ref TI, .ref TO])
section
variable {prog : Program} {w : World} {A : Around} {E : Value → Shared → Prop} {s : Shared}
theorem wp_alive {a : Addr} {Q : Option Obj → Shared → Prop} (h : Q (s.heap.get? a) s) : wpAny (model prog w) A (loadIfAlive a) Q E s := fun Γ p hΓ => by
  show Sem.wp _ _ (.loadIfAlive a _) _ _ _ _
  rw [Sem.wp_loadIfAlive]
  exact h
theorem held_free {z TI TO T : Addr} {c : Bool} {oT : Obj} {Q : Bool → Shared → Prop} (hz : zHeld s.heap z TI TO T c) (hT : s.heap.get? T = some oT) (q : ∀ h', zHeld h' z TI TO T true → Heap.SameBut z s.heap h' → Q false { s with heap := h' }) :
    wpAny (model prog w) A (Builtin.SmallTypes.ownedTupleIsFree (.ref z)) Q E s := by
  unfold Builtin.SmallTypes.ownedTupleIsFree
  refine wpAny_bind (wpAny_field hz rfl (x := rawInt T) rfl ?_)
  show wpAny _ _ (loadIfAlive (Int.toNat (T : Int)) >>= _) _ _ _
  refine wpAny_bind (wp_alive ?_)
  rw [Int.toNat_natCast, hT]
  show wpAny _ _ (field (.ref z) 1 >>= _) _ _ _
  refine wpAny_bind (wpAny_field hz rfl (x := .bool c) rfl ?_)
  cases c with
  | true =>
    exact wpAny_pure (q s.heap hz (Heap.SameBut.refl _ _))
  | false =>
    refine wpAny_bind (wpAny_setField_rec hz (by simp) fun h₁ hz₁ hs₁ => ?_)
    exact wpAny_pure (q h₁ hz₁ hs₁)
theorem held_item {z TI TO T i1 i2 l1 l2 : Addr} {k1 k2 : Nat} {xs ys : Array Value} {x y : Value} {c : Bool} {oT : Obj} {Q : Value → Shared → Prop} (D : ZipApart z TI TO i1 i2 l1 l2)
    (hz : zHeld s.heap z TI TO T c) (hT : s.heap.get? T = some oT) (hTI : IsPair s.heap TI (.ref i1) (.ref i2)) (h1 : s.heap.IsListIter i1 l1 k1) (h2 : s.heap.IsListIter i2 l2 k2) (hl1 : s.heap.IsList l1 xs) (hl2 : s.heap.IsList l2 ys) (hx : xs[k1]? = some x) (hy : ys[k2]? = some y)
    (hQ : ∀ h', zHeld h' z TI TO T true → h'.IsListIter i1 l1 (k1 + 1) → h'.IsListIter i2 l2 (k2 + 1) → IsPair h' s.heap.objs.size x y → h'.objs.size = s.heap.objs.size + 1 → (∀ b o, b ≠ z → b ≠ i1 → b ≠ i2 → s.heap.get? b = some o → h'.get? b = some o) → Q (.ref s.heap.objs.size) { s with heap := h' }) :
    wpAny (model prog w) A (Builtin.«zip.__next__» ⟨[.ref z], []⟩) (fun fin s' => ∃ v, fin = .done (.ret v) ∧ Q v s') E s := by
  show wpAny _ _ (field (.ref z) 2 >>= _) _ _ _
  refine wpAny_bind (wpAny_field hz rfl (x := .bool false) rfl ?_)
  show wpAny _ _ (field (.ref z) 3 >>= _) _ _ _
  refine wpAny_bind (wpAny_field hz rfl (x := .ref TI) rfl ?_)
  refine wpAny_bind (wpAny_seqItems hTI rfl ?_)
  show wpAny _ _ (Builtin.SmallTypes.ownedTupleIsFree (.ref z) >>= _) _ _ _
  refine wpAny_bind (held_free hz hT fun h₁ hz₁ hs₁ => ?_)
  rw [if_neg (by decide)]
  refine wpAny_bind ?_
  rw [← Array.forIn_toList]
  simp only [List.forIn_cons, List.forIn_nil]
  refine wpAny_bind (wpAny_bind (wpAny_holding ?_))
  show wpAny _ _ (Builtin.SmallTypes.nextOf (.ref i1) >>= _) _ _ _
  refine wpAny_bind (wpAny_nextOf_list_item (h1.extBut hs₁.extBut D.i1z) (hl1.extBut hs₁.extBut D.l1z) hx fun h₂ h1₂ hs₂ => wpAny_pure ?_)
  refine wpAny_pure ?_
  refine wpAny_bind (wpAny_bind (wpAny_holding ?_))
  show wpAny _ _ (Builtin.SmallTypes.nextOf (.ref i2) >>= _) _ _ _
  refine wpAny_bind (wpAny_nextOf_list_item ((h2.extBut hs₁.extBut D.i2z).extBut hs₂.extBut D.i12.symm) ((hl2.extBut hs₁.extBut D.l2z).extBut hs₂.extBut D.l2i1) hy fun h₄ h2₄ hs₄ => wpAny_pure ?_)
  refine wpAny_pure (wpAny_pure ?_)
  have hsz : h₄.objs.size = s.heap.objs.size := by rw [hs₄.1, hs₂.1, hs₁.1]
  have kp : ∀ b o, b ≠ z → b ≠ i1 → b ≠ i2 → s.heap.get? b = some o → h₄.get? b = some o := fun b o b1 b2 b3 e => hs₄.extBut _ _ b3 (hs₂.extBut _ _ b2 (hs₁.extBut _ _ b1 e))
  have hz₄ : zHeld h₄ z TI TO T true := hs₄.extBut _ _ D.i2z.symm (hs₂.extBut _ _ D.i1z.symm hz₁)
  show wpAny _ _ (newTuple [x, y] >>= _) _ _ _
  refine wpAny_bind (wpAny_newTuple (wpAny_pure ⟨_, rfl, ?_⟩))
  have hp : h₄.objs.size = s.heap.objs.size := hsz
  rw [hp]
  refine hQ _ (Heap.get?_push_of_some _ hz₄) ((h1₂.extBut hs₄.extBut D.i12).at fun o e => Heap.get?_push_of_some _ e) (h2₄.at fun o e => Heap.get?_push_of_some _ e) ?_ (by rw [Heap.size_push, hp]) fun b o b1 b2 b3 e => Heap.get?_push_of_some _ (kp b o b1 b2 b3 e)
  rw [← hp]
  exact Heap.get?_push_size _ rfl
theorem held_next {z TI TO T i1 i2 l1 l2 : Addr} {k1 k2 : Nat} {xs ys : Array Value} {x y : Value} {c : Bool} {oT : Obj} {Q : Option Value → Shared → Prop} (D : ZipApart z TI TO i1 i2 l1 l2)
    (hz : zHeld s.heap z TI TO T c) (hT : s.heap.get? T = some oT) (hTI : IsPair s.heap TI (.ref i1) (.ref i2)) (h1 : s.heap.IsListIter i1 l1 k1) (h2 : s.heap.IsListIter i2 l2 k2) (hl1 : s.heap.IsList l1 xs) (hl2 : s.heap.IsList l2 ys) (hx : xs[k1]? = some x) (hy : ys[k2]? = some y)
    (hQ : ∀ h', zHeld h' z TI TO T true → h'.IsListIter i1 l1 (k1 + 1) → h'.IsListIter i2 l2 (k2 + 1) → IsPair h' s.heap.objs.size x y → h'.objs.size = s.heap.objs.size + 1 → (∀ b o, b ≠ z → b ≠ i1 → b ≠ i2 → s.heap.get? b = some o → h'.get? b = some o) → Q (some (.ref s.heap.objs.size)) { s with heap := h' }) :
    wpAny (model prog w) A (pyNext (.ref z)) Q E s := by
  have hTy : s.TypeIs (.ref z) "zip" := ⟨_, hz, rfl⟩
  unfold pyNext
  exact wpAny_bind (wpAny_attempt (wpAny_callSpecial?_slot (name := Str.ofString "__next__") hTy PySem.F.slot_zip_next
    (wpAny_call_entry PySem.F.slot_zip_next hTy PySem.F.entry_zip_next
      (held_item D hz hT hTI h1 h2 hl1 hl2 hx hy fun h' a1 a2 a3 a4 a5 a6 => wpAny_pure (hQ h' a1 a2 a3 a4 a5 a6)) (PySem.F.args_zip_next_1 _))))
theorem held_end {z TI TO T i1 i2 l1 l2 : Addr} {k1 : Nat} {xs : Array Value} {c : Bool} {oT : Obj} {Q : Option Value → Shared → Prop} (hh : A.handled = none) (D : ZipApart z TI TO i1 i2 l1 l2)
    (hz : zHeld s.heap z TI TO T c) (hT : s.heap.get? T = some oT) (hTI : IsPair s.heap TI (.ref i1) (.ref i2)) (h1 : s.heap.IsListIter i1 l1 k1) (hl1 : s.heap.IsList l1 xs) (hx : xs[k1]? = none)
    (hQ : ∀ h', (∀ b o, b ≠ z → b ≠ i1 → b ≠ i2 → s.heap.get? b = some o → h'.get? b = some o) → Q none { s with heap := h' }) :
    wpAny (model prog w) A (pyNext (.ref z)) Q E s := by
  have hTy : s.TypeIs (.ref z) "zip" := ⟨_, hz, rfl⟩
  unfold pyNext
  refine wpAny_bind (wpAny_attempt (wpAny_callSpecial?_slot (name := Str.ofString "__next__") hTy PySem.F.slot_zip_next
    (wpAny_call_entry PySem.F.slot_zip_next hTy PySem.F.entry_zip_next ?_ (PySem.F.args_zip_next_1 _))))
  show wpAny _ _ (field (.ref z) 2 >>= _) _ _ _
  refine wpAny_bind (wpAny_field hz rfl (x := .bool false) rfl ?_)
  show wpAny _ _ (field (.ref z) 3 >>= _) _ _ _
  refine wpAny_bind (wpAny_field hz rfl (x := .ref TI) rfl ?_)
  refine wpAny_bind (wpAny_seqItems hTI rfl ?_)
  show wpAny _ _ (Builtin.SmallTypes.ownedTupleIsFree (.ref z) >>= _) _ _ _
  refine wpAny_bind (held_free hz hT fun h₁ hz₁ hs₁ => ?_)
  rw [if_neg (by decide)]
  refine wpAny_bind ?_
  rw [← Array.forIn_toList]
  simp only [List.forIn_cons, List.forIn_nil]
  refine wpAny_bind (wpAny_bind (wpAny_holding ?_))
  show wpAny _ _ (Builtin.SmallTypes.nextOf (.ref i1) >>= _) _ _ _
  refine wpAny_bind (wpAny_nextOf_list_end hh (h1.extBut hs₁.extBut D.i1z) (hl1.extBut hs₁.extBut D.l1z) hx fun h₂ e hs₂ he => ?_)
  obtain ⟨oe, hoe, hce⟩ := he
  show wpAny _ _ (isInstance (.ref e) (.type "StopIteration") >>= _) _ _ _
  refine wpAny_bind (wpAny_isInstance (T := "StopIteration") (b := true) ⟨oe, hoe, hce⟩ isSubtype_stop ?_)
  exact wpAny_pure (hQ _ fun b o b1 b2 b3 e => hs₂ _ _ b2 (hs₁.extBut _ _ b1 e))
end
end L2
end

section
set_option Elab.async false
set_option linter.all false
set_option maxRecDepth 100000
set_option maxHeartbeats 4000000
/-! dict(zip(a, b)) of two lists of the same length: the loop. -/
namespace L2
open PySem PySem.Spec PyProof.Rows
section
variable {prog : Program} {w : World} {A : Around} {E : Value → Shared → Prop} {R : Result → Shared → Prop}
theorem plain_upd_loop : plainId "dict.update.loop" = true := by decide +kernel
theorem entry_upd_loop : entryFor table "dict.update.loop" = some Builtin.«dict.update.loop» := entryFor_of_tree (by kernel_rfl)
theorem pair_items {s : Shared} {T : Addr} {x y : Value} {Q : List Value → Shared → Prop} (hT : IsPair s.heap T x y) (h : Q [x, y] s) : wpAny (model prog w) A (Builtin.Dict.pairItems (.ref T)) Q E s := by
  have ty : s.TypeIs (.ref T) "tuple" := ⟨_, hT, rfl⟩
  unfold Builtin.Dict.pairItems
  refine wpAny_bind (wpAny_typeOf ty ?_)
  rw [if_pos (by decide)]
  exact wpAny_bind (wpAny_seqItems hT rfl (wpAny_pure h))
/-- what the loop over a zip needs of the addresses -/
structure DzA (d z TI TO i1 i2 l1 l2 : Addr) : Prop where
  za : ZipApart z TI TO i1 i2 l1 l2
  dz : d ≠ z
  dI : d ≠ TI
  dO : d ≠ TO
  d1 : d ≠ i1
  d2 : d ≠ i2
  dl : d ≠ l1
  dm : d ≠ l2
end
end L2
end

section
set_option Elab.async false
set_option linter.all false
set_option maxRecDepth 100000
set_option maxHeartbeats 4000000
/-! dict(zip(a, b)) and d.update(e): the rules. -/
namespace L2
open PySem PySem.Spec PyProof.Rows

theorem kv_length : ∀ {kvs : List (Key × V)} {vs : List (Key × Value)}, KV kvs vs → kvs.length = vs.length
  | _, _, .nil => rfl
  | _, _, .cons _ t => congrArg (· + 1) (kv_length t)
section
variable {X : Cx}
end
end L2
end

section
set_option Elab.async false
set_option linter.all false
set_option maxRecDepth 100000
set_option maxHeartbeats 4000000
/-! list(range(n)); defs whose last parameter has a default, called with all of them. -/
namespace L2
open PySem PySem.Spec PyProof.Rows
theorem vals_of_at : ∀ {xs : List V} {us : List Value}, xs.length = us.length → (∀ (i : Nat) x u, xs[i]? = some x → us[i]? = some u → RelV x u) → Vals xs us
  | [], [], _, _ => .nil
  | x :: xs, u :: us, hl, h => .cons (h 0 x u rfl rfl) (vals_of_at (Nat.succ.inj hl) fun i y v e1 e2 => h (i + 1) y v e1 e2)
section
variable {X : Cx}
def tLRng (ta : TA) : TE := fun σ H Q => ta σ H fun vs H1 => ∃ j : Nat, vs = [.int j] ∧ j ≤ 100000 ∧ ∀ p, H1 p = none → Q (.ref p) (upd H1 p (.lst ((List.range j).map fun i : Nat => V.int i)))
theorem pe_lrange {a : Expr} {ta : TA} {p q pos pos2 : Pos} (hcal : X.calm = true) (hg : Gl X "list") (hm : X.mg "list" = none) (hg2 : Gl X "range") (hm2 : X.mg "range" = none) (ha : PA X [a] ta)
    (hs : starEach [a] X.env = [(false, eval a X.env)] := by rfl)
    (hs3 : starEach [Expr.Call (.Name "range" q) [a] [] pos2] X.env = [(false, eval (.Call (.Name "range" q) [a] [] pos2) X.env)] := by rfl) :
    PE X (.Call (.Name "list" p) [.Call (.Name "range" q) [a] [] pos2] [] pos) (tLRng ta) := by
  intro pins s σ H Q I h
  refine wpAny_Call_Name_kw (ld_blt I hg hm b_list (PyProof.Rows.callWith_type1 ?_ hs3 rfl) (by decide) (by decide))
  rw [hs3]
  refine Calls.spliced_cons ?_
  show wpAny _ _ (eval (Expr.Call (.Name "range" q) [a] [] pos2) X.env) _ _ _
  refine wpAny_Call_Name_kw (ld_blt I hg2 hm2 boot_range (PyProof.Rows.callWith_type1 (thn (ha pos2 pins s σ H _ I h) fun us s1 ⟨vs, H1, I1, r1, q1⟩ => ?_) hs rfl) (by decide) (by decide))
  obtain ⟨j, e, hj, q⟩ := q1
  subst e
  obtain ⟨u, rfl, t, rfl⟩ := vals1 r1
  refine call_range_1 (Calls.spliced_nil ?_)
  have e2 : Builtin.Range.rangeSize 0 (j : Int) 1 = j := by rw [rangeSize_one]; split <;> omega
  refine call_list_range (I1.ok.hd hcal) (IsRange.new ..) (small_one (by omega) (by omega) (by omega) (by omega)) e2 (by omega) fun h' tk acc c kp ho it => ?_
  have hv : Vals ((List.range j).map fun i : Nat => V.int i) acc.toList := vals_of_at (by rw [List.length_map, List.length_range, Array.length_toList, it.1]) fun i x u e1 e3 => by
    have hi : i < j := by have := (List.getElem?_eq_some_iff.mp e1).1; simpa using this
    rw [List.getElem?_map, List.getElem?_range hi] at e1
    cases e1
    have e4 : acc[i]? = some u := by rw [← Array.getElem?_toList]; exact e3
    obtain ⟨t, e5⟩ := it.2 i u e4
    exact ⟨t, by rw [e5]; simp⟩
  have up : ∀ b o, s1.heap.get? b = some o → h'.get? b = some o := fun b o e => kp _ _ (Heap.get?_push_of_some _ e)
  have hle : s1.heap.objs.size ≤ (s1.heap.push { cls := .type "range", data := .fields #[.int 0 s1.toks, .int j t, .int 1 (s1.toks + 1)] }).objs.size := by rw [Heap.size_push]; omega
  refine ⟨.ref _, _, I1.laid (t' := tk) (o := .lst _) up hle ⟨?_, acc.toList, c, hv, ho⟩, rfl, q _ (I1.hok.fresh hle)⟩
  rw [List.length_map, List.length_range]
  exact Nat.le_of_lt (Nat.lt_of_le_of_lt hj (by decide))
theorem r_lrng {σ : St} {H : Hp} {Q : VK} {ta : TA} (h : ta σ H fun vs H1 => ∃ j : Nat, vs = [.int j] ∧ j ≤ 100000 ∧ ∀ p, H1 p = none → Q (.ref p) (upd H1 p (.lst ((List.range j).map fun i : Nat => V.int i)))) : tLRng ta σ H Q := h
end
/-! ### a def with one default -/
structure FunD (K : PySem.W.Frag) (x qual : Str) (st : Stmt) (f : Addr) (fd : FuncData) : Prop where
  ex : ∃ (oc : Value) (od : Option Addr) (T : Addr) (kV doc pm : Value) (an : Option Addr) (cdv ct : Value) (osl : Array (Option Value)) (o : Obj) (v : Value) (n : Nat),
    fd = PySem.W.fnOf x qual (defArgs st) (defBody st) (defScope st) (.ref T) kV doc pm an cdv ct ∧ K.lookup f = some ⟨oc, od, .func fd, osl⟩ ∧ PySem.W.codeIn K cdv qual = true ∧ K.lookup T = some o ∧ o.data = .seq #[v] n
section
variable {P : Program} {w : World} {K : PySem.W.Frag} {mg : Str → Option Value} {base : Heap}
theorem FunD.okE {x qual : Str} {st : Stmt} {f : Addr} {fd : FuncData} {N ps : List Str} {k : Nat} {sp : Sp} (F : FunD K x qual st f fd) (S : FnScope N ps (defScope st)) (len : ∀ vs H Q E, sp vs H Q E → vs.length = ps.length)
    (hbody : ∀ (cdv : Value) (A : Around) (outer : List Env) (s : Shared) (H : Hp) (vs : List V) (Q : VK) (E : XK), Room k (A.deeper (envOfC qual (defScope st) s.heap.objs.size f cdv)) → sp vs H Q E →
      ∃ t, PSs (cxOf (CXE P w) P w K mg base N qual (defScope st) f cdv A outer s H E) (defBody st) t ∧ t { nx := fun _ H' => Q .non H', rt := Q } (start N vs) H) : FnOk P w K mg base (CXE P w) (k + 1) f fd ps sp := by
  obtain ⟨oc, od, T, kV, doc, pm, an, cdv, ct, osl, o, v, n, rfl, lk, hcd, _⟩ := F.ex
  exact fn_of lk hcd S len fun A outer s H vs Q E hr hsp => hbody cdv A outer s H vs Q E hr hsp
theorem FunD.binds {x qual : Str} {st : Stmt} {f : Addr} {fd : FuncData} {ps : List Str} (F : FunD K x qual st f fd)
    (h : ∀ (T : Addr) (kV doc pm : Value) (an : Option Addr) (cdv ct : Value) (us : List Value), us.length = ps.length → ∃ k, bindArgs (PySem.W.fnOf x qual (defArgs st) (defBody st) (defScope st) (.ref T) kV doc pm an cdv ct) ⟨us, []⟩ = seqItems? (.ref T) >>= k ∧ ∀ v, k (some #[v]) = pure (ps.zip us)) : Binds K fd ps [] := by
  obtain ⟨oc, od, T, kV, doc, pm, an, cdv, ct, osl, o, v, n, rfl, lk, hcd, hT, hd⟩ := F.ex
  intro s us KX hl
  rw [List.append_nil] at hl ⊢
  obtain ⟨k, h1, h2⟩ := h T kV doc pm an cdv ct us hl
  exact BindsTo.of_defaults rfl (KX _ _ hT) hd h1 (h2 v)
theorem fun_mkD {x qual : Str} {st : Stmt} {f T : Addr} {oc : Value} {od an : Option Addr} {osl : Array (Option Value)} {kV doc pm cdv ct v : Value} {o : Obj} {n : Nat} (l : K.lookup f = some ⟨oc, od, .func (PySem.W.fnOf x qual (defArgs st) (defBody st) (defScope st) (.ref T) kV doc pm an cdv ct), osl⟩)
    (c : PySem.W.codeIn K cdv qual = true) (hT : K.lookup T = some o) (hd : o.data = .seq #[v] n) : FunD K x qual st f (PySem.W.fnOf x qual (defArgs st) (defBody st) (defScope st) (.ref T) kV doc pm an cdv ct) := ⟨⟨oc, od, T, kV, doc, pm, an, cdv, ct, osl, o, v, n, rfl, l, c, hT, hd⟩⟩
end
end L2
namespace L2
open PySem PySem.Spec PyProof.Rows
section
variable {σ : St} {H : Hp}
theorem r_gsub {to ti : TE} {t : TSet} {v : V} {R : St → Hp → Prop} (h : to σ H fun o H1 => ti σ H1 fun i H2 => t o i v H2 fun H3 => R σ H3) : gSub to ti t v σ H R := h
theorem ixN_nat {n j : Nat} (h : j < n) : ixN n (j : Int) = some j := by
  unfold ixN
  rw [if_pos (by omega), if_pos (by omega)]
  simp
theorem r_setL {p : Addr} {xs : List V} {j : Nat} {i : Int} {v : V} {R : Hp → Prop} (h : H p = some (.lst xs)) (hi : i = j) (hj : j < xs.length) (q : R (upd H p (.lst (xs.set j v)))) : rSetL (.ref p) (.int i) v H R :=
  ⟨p, xs, i, j, rfl, rfl, h, by rw [hi]; exact ixN_nat hj, q⟩
end
end L2
end

section
set_option Elab.async false
set_option linter.all false
set_option maxRecDepth 100000
set_option maxHeartbeats 4000000
namespace L2
open PySem PySem.Spec PyProof.Rows
/-! ### lists of pairs as tables -/
section
variable {κ : Type} [DecidableEq κ]
def valV (kvs : List (κ × V)) (k : κ) : Option V := (kvs.find? fun kv => decide (kv.1 = k)).map (·.2)
/-- in its place, or at the end -/
def putK (kvs : List (κ × V)) (k : κ) (v : V) : List (κ × V) :=
  if (kvs.any fun kv => decide (kv.1 = k)) = true then kvs.map (fun kv => if kv.1 = k then (kv.1, v) else kv) else kvs ++ [(k, v)]
theorem valV_pos {p : κ × V} {r : List (κ × V)} {k : κ} (e : p.1 = k) : valV (p :: r) k = some p.2 := by simp [valV, List.find?_cons, e]
theorem valV_neg {p : κ × V} {r : List (κ × V)} {k : κ} (e : ¬ p.1 = k) : valV (p :: r) k = valV r k := by simp [valV, List.find?_cons, e]
theorem valV_any (k : κ) : ∀ kvs : List (κ × V), (kvs.any fun kv => decide (kv.1 = k)) = (valV kvs k).isSome
  | [] => rfl
  | p :: r => by
    rw [List.any_cons]
    by_cases e : p.1 = k
    · simp only [valV_pos e, decide_eq_true e, Bool.true_or, Option.isSome_some]
    · rw [valV_neg e, decide_eq_false e, Bool.false_or]; exact valV_any k r
theorem valV_map (k j : κ) (y : V) : ∀ kvs : List (κ × V), valV (kvs.map fun kv => if kv.1 = k then (kv.1, y) else kv) j = (valV kvs j).map fun x => if j = k then y else x
  | [] => rfl
  | p :: r => by
    have ih := valV_map k j y r
    rw [List.map_cons]
    by_cases h : p.1 = k
    · rw [if_pos h]
      by_cases e : p.1 = j
      · rw [valV_pos (p := (p.1, y)) e, valV_pos e, Option.map_some, if_pos (e.symm.trans h)]
      · rw [valV_neg (p := (p.1, y)) e, valV_neg e, ih]
    · rw [if_neg h]
      by_cases e : p.1 = j
      · rw [valV_pos (p := p) e, valV_pos e, Option.map_some, if_neg (fun z => h (e.trans z))]
      · rw [valV_neg (p := p) e, valV_neg e, ih]
theorem valV_snoc (k j : κ) (y : V) : ∀ kvs : List (κ × V), valV kvs k = none → valV (kvs ++ [(k, y)]) j = if j = k then some y else valV kvs j
  | [], _ => by
    by_cases e : k = j
    · rw [if_pos e.symm]; exact valV_pos (p := (k, y)) e
    · rw [if_neg (fun z => e z.symm)]; exact valV_neg (p := (k, y)) e
  | p :: r, hn => by
    rw [List.cons_append]
    have hk : ¬ p.1 = k := fun z => by rw [valV_pos z] at hn; cases hn
    rw [valV_neg hk] at hn
    have ih := valV_snoc k j y r hn
    by_cases e : p.1 = j
    · rw [valV_pos e, valV_pos e, if_neg (fun z => hk (e.trans z))]
    · rw [valV_neg e, valV_neg e, ih]
theorem valV_put (kvs : List (κ × V)) (k j : κ) (y : V) : valV (putK kvs k y) j = if j = k then some y else valV kvs j := by
  unfold putK
  by_cases a : (kvs.any fun kv => decide (kv.1 = k)) = true
  · rw [if_pos a, valV_map]
    rw [valV_any] at a
    by_cases e : j = k
    · obtain ⟨x, hx⟩ := Option.isSome_iff_exists.mp a
      rw [if_pos e, e, hx, Option.map_some, if_pos rfl]
    · rw [if_neg e]
      cases valV kvs j with
      | none => rfl
      | some x => rw [Option.map_some, if_neg e]
  · rw [if_neg a]
    refine valV_snoc k j y kvs ?_
    rw [valV_any] at a
    cases q : valV kvs k with
    | none => rfl
    | some x => rw [q] at a; exact (a rfl).elim
theorem length_putK (kvs : List (κ × V)) (k : κ) (v : V) : (putK kvs k v).length ≤ kvs.length + 1 := by
  unfold putK
  split
  · rw [List.length_map]; omega
  · rw [List.length_append, List.length_cons, List.length_nil]; omega
theorem putK_new {kvs : List (κ × V)} {k : κ} (v : V) (h : valV kvs k = none) : putK kvs k v = kvs ++ [(k, v)] := by
  unfold putK
  rw [valV_any, h]
  exact if_neg (by decide)

theorem RelO.isSome_eq {o : Option V} {u : Option Value} (r : RelO o u) : o.isSome = u.isSome := by
  cases o with
  | none => cases u with
    | none => rfl
    | some _ => exact (show False from r).elim
  | some _ => cases u with
    | none => exact (show False from r).elim
    | some _ => rfl
/-- raw tables of the same keys -/
theorem KV.val {kvs : List (κ × V)} {vs : List (κ × Value)} (r : KV kvs vs) (k : κ) : RelO (valV kvs k) (valueAt vs k) := by
  unfold KV at r
  induction r with
  | nil => exact True.intro
  | @cons p q ps qs h t ih =>
    obtain ⟨h1, h2⟩ := h
    by_cases e : p.1 = k
    · have e' : q.1 = k := h1.symm.trans e
      have b : valueAt (q :: qs) k = some q.2 := by simp [valueAt, List.find?_cons, e']
      rw [valV_pos e, b]; exact h2
    · have e' : ¬ q.1 = k := fun z => e (h1.trans z)
      have b : valueAt (q :: qs) k = valueAt qs k := by simp [valueAt, List.find?_cons, e']
      rw [valV_neg e, b]; exact ih
theorem KV.any {kvs : List (κ × V)} {vs : List (κ × Value)} (r : KV kvs vs) (k : κ) : (kvs.any fun kv => decide (kv.1 = k)) = vs.any fun kv => decide (kv.1 = k) := by
  unfold KV at r
  induction r with
  | nil => rfl
  | cons h t ih => rw [List.any_cons, List.any_cons, ih, h.1]
theorem KV.repl {kvs : List (κ × V)} {vs : List (κ × Value)} (r : KV kvs vs) (k : κ) {y : V} {u : Value} (ry : RelV y u) :
    KV (kvs.map fun kv => if kv.1 = k then (kv.1, y) else kv) (vs.map fun kv => if kv.1 = k then (kv.1, u) else kv) := by
  unfold KV at r ⊢
  induction r with
  | nil => exact .nil
  | @cons p q ps qs h t ih =>
    rw [List.map_cons, List.map_cons]
    refine .cons ?_ ih
    obtain ⟨h1, h2⟩ := h
    by_cases e : p.1 = k
    · rw [if_pos e, if_pos (h1.symm.trans e)]; exact ⟨h1, ry⟩
    · rw [if_neg e, if_neg (fun z => e (h1.trans z))]; exact ⟨h1, h2⟩
theorem KV.put {kvs : List (κ × V)} {vs : List (κ × Value)} (r : KV kvs vs) (k : κ) {y : V} {u : Value} (ry : RelV y u) : KV (putK kvs k y) (stored vs k u) := by
  unfold putK stored
  rw [r.any k]
  by_cases e : (vs.any fun kv => decide (kv.1 = k)) = true
  · rw [if_pos e, if_pos e]; exact r.repl k ry
  · rw [if_neg e, if_neg e]; exact Paired.snoc r ⟨rfl, ry⟩
theorem KV.length {kvs : List (κ × V)} {vs : List (κ × Value)} (r : KV kvs vs) : kvs.length = vs.length := Paired.length r
end


/-! ### a tracked dict, its keys ints and texts or tuples of these -/
theorem kV_is {P : Program} {w : World} {k : Key} {u : Value} (r : RelV (kV k) u) : (mixKind P w).is k u = true := by
  cases k with
  | inl i => obtain ⟨t, e⟩ := (show ∃ t, u = Value.int i t from r); subst e; exact mixKind_int P w i t
  | inr x => obtain ⟨t, e⟩ := (show ∃ t, u = Value.str x t from r); subst e; exact mixKind_str P w x t
/-- raw entries of a dict with tuple keys -/
abbrev KT (H : Hp) : List (List Key × V) → List (List Key × Addr × Value) → Prop := Paired fun p q => p.1 = q.1 ∧ H q.2.1 = some (.tup (p.1.map kV)) ∧ RelV p.2 q.2.2
theorem KT.keeps {H H' : Hp} {kvs : List (List Key × V)} {xs : List (List Key × Addr × Value)} (r : KT H kvs xs) (ht : ∀ b ys, H b = some (.tup ys) → H' b = some (.tup ys)) : KT H' kvs xs :=
  Paired.mapP r fun _ _ z => ⟨z.1, ht _ _ z.2.1, z.2.2⟩

section
variable {P : Program} {w : World} {H : Hp} {h : Heap} {a : Addr}
theorem rd_of {u : HO} (ok : HOk P w H h) (e : Rd H a u) : ObjOk P w H h a u := e.ok ok
theorem dk_rd {kvs : List (Key × V)} (ok : HOk P w H h) (e : Rd H a (.dK kvs)) : kvs.length ≤ sizeLine ∧ (a == sysModules) = false ∧ ∃ vs, KV kvs vs ∧ h.DictOf (mixKind P w) a vs :=
  show ObjOk P w H h a (.dK kvs) from rd_of ok e
theorem dk_of {kvs : List (Key × V)} (ok : HOk P w H h) (e : H a = some (.dK kvs)) : kvs.length ≤ sizeLine ∧ (a == sysModules) = false ∧ ∃ vs, KV kvs vs ∧ h.DictOf (mixKind P w) a vs := dk_rd ok (.inl e)
end

/-- what the dict at a holds at the key y -/
def DGet (H : Hp) (a : Addr) (y : V) (r : Option V) : Prop :=
  (∃ kvs k, Rd H a (.dK kvs) ∧ y = kV k ∧ r = valV kvs k) ∨ ∃ kvs k b, Rd H a (.dT kvs) ∧ y = .ref b ∧ H b = some (.tup (k.map kV)) ∧ r = valV kvs k
/-- the heap behind a[y] = v -/
def DPut (H : Hp) (a : Addr) (y v : V) (H' : Hp) : Prop :=
  (∃ kvs k, H a = some (.dK kvs) ∧ y = kV k ∧ kvs.length < sizeLine ∧ H' = upd H a (.dK (putK kvs k v))) ∨
  ∃ kvs k b, H a = some (.dT kvs) ∧ y = .ref b ∧ H b = some (.tup (k.map kV)) ∧ kvs.length < sizeLine ∧ H' = upd H a (.dT (putK kvs k v))
theorem DGet.k {H : Hp} {a : Addr} {kvs : List (Key × V)} {k : Key} (e : H a = some (.dK kvs)) : DGet H a (kV k) (valV kvs k) := .inl ⟨kvs, k, .inl e, rfl, rfl⟩
theorem DGet.t {H : Hp} {a b : Addr} {kvs : List (List Key × V)} {k : List Key} (e : H a = some (.dT kvs)) (eb : H b = some (.tup (k.map kV))) : DGet H a (.ref b) (valV kvs k) := .inr ⟨kvs, k, b, .inl e, rfl, eb, rfl⟩
theorem DPut.k {H : Hp} {a : Addr} {kvs : List (Key × V)} {k : Key} {v : V} (e : H a = some (.dK kvs)) (hl : kvs.length < sizeLine) : DPut H a (kV k) v (upd H a (.dK (putK kvs k v))) := .inl ⟨kvs, k, e, rfl, hl, rfl⟩
theorem DPut.t {H : Hp} {a b : Addr} {kvs : List (List Key × V)} {k : List Key} {v : V} (e : H a = some (.dT kvs)) (eb : H b = some (.tup (k.map kV))) (hl : kvs.length < sizeLine) :
    DPut H a (.ref b) v (upd H a (.dT (putK kvs k v))) := .inr ⟨kvs, k, b, e, rfl, eb, hl, rfl⟩


section
variable {X : Cx} {pins : List (Addr × Obj)} {σ : St} {H : Hp} {s : Shared} {a : Addr} {y v : V} {u r : Value} {o : Option V} {A : Around} {E : Value → Shared → Prop}

/-- a dict's object is replaced -/
theorem d_write {h' : Heap} {t' : Nat} {ob : HO} (I : Inv X pins σ H s) (mu : Mut (H a)) (hs : Heap.SameBut a s.heap h') (he : ∃ q, h'.get? a = some q) (new : ObjOk X.prog X.w (upd H a ob) h' a ob) :
    Inv X pins σ (upd H a ob) { s with heap := h', toks := t' } :=
  I.write (x := a) (e := a) mu (.inl rfl) (fun b q hb z => (hs.2 b hb).trans z) he new
theorem dk_new {P : Program} {w : World} {H' : Hp} {h' : Heap} {kvs : List (Key × V)} {vs : List (Key × Value)} (z : kvs.length ≤ sizeLine) (hd : (a == sysModules) = false) (rel : KV kvs vs) (dd : h'.DictOf (mixKind P w) a vs) :
    ObjOk P w H' h' a (.dK kvs) := ⟨z, hd, vs, rel, dd⟩
end

section
variable {X : Cx} {pins : List (Addr × Obj)} {σ : St} {H : Hp} {s : Shared} {a : Addr} {kvs : List (Key × V)} {k : Key} {u : Value} {A : Around} {E : Value → Shared → Prop}
end


section
variable {X : Cx} {o i e value : Expr} {pos pos' tpos : Pos} {td ty tv : TE}
end


def mergeK (kvs more : List (Key × V)) : List (Key × V) := more.foldl (fun acc kv => putK acc kv.1 kv.2) kvs
theorem KV.merge : ∀ {more : List (Key × V)} {rs : List (Key × Value)} {kvs : List (Key × V)} {vs : List (Key × Value)}, KV more rs → KV kvs vs → KV (mergeK kvs more) (merged vs rs) := by
  intro more rs kvs vs r
  unfold KV at r
  induction r generalizing kvs vs with
  | nil => intro q; exact q
  | @cons p q ps qs h t ih =>
    intro r0
    have e : KV (putK kvs p.1 p.2) (stored vs q.1 q.2) := by
      have := r0.put p.1 h.2
      rw [← h.1]; exact this
    exact ih e
theorem length_mergeK : ∀ (more kvs : List (Key × V)), (mergeK kvs more).length ≤ kvs.length + more.length
  | [], kvs => by show kvs.length ≤ kvs.length + 0; omega
  | p :: r, kvs => by
    have h1 := length_mergeK r (putK kvs p.1 p.2)
    have h2 := length_putK kvs p.1 p.2
    show (mergeK (putK kvs p.1 p.2) r).length ≤ _
    rw [List.length_cons]; omega

end L2
end

section
set_option Elab.async false
set_option linter.all false
/-! Orders: rounds, shortcuts, the way back. -/
namespace TW
def nx (ns : List Nat) (x : Nat) : Nat := ns[x]?.getD 0
def itr (ns : List Nat) : Nat → Nat → Nat
  | 0, x => x
  | j + 1, x => nx ns (itr ns j x)
/-- each number below the length, once -/
structure Ord (ns : List Nat) : Prop where
  lt : ∀ x ∈ ns, x < ns.length
  nd : ns.Nodup
theorem at_nx {ns : List Nat} {x : Nat} (h : x < ns.length) : ns[x]? = some (nx ns x) := by
  unfold nx
  rw [List.getElem?_eq_getElem h]
  rfl
theorem itr_add (ns : List Nat) (a b x : Nat) : itr ns (a + b) x = itr ns a (itr ns b x) := by
  induction a with
  | zero => rw [Nat.zero_add]; rfl
  | succ a ih => rw [Nat.succ_add]; show nx ns _ = nx ns _; rw [ih]
section
variable {ns : List Nat} (o : Ord ns)
include o
theorem nx_lt {x : Nat} (h : x < ns.length) : nx ns x < ns.length := o.lt _ (List.mem_of_getElem? (at_nx h))
theorem nx_inj {x y : Nat} (hx : x < ns.length) (hy : y < ns.length) (h : nx ns x = nx ns y) : x = y := by
  have e1 := at_nx hx
  have e2 := at_nx hy
  rw [h] at e1
  rcases Nat.lt_trichotomy x y with hl | hl | hl
  · exact absurd (List.mem_of_getElem? e1) fun _ => (List.pairwise_iff_getElem.mp o.nd) x y hx hy hl (by
      rw [List.getElem?_eq_getElem hx] at e1
      rw [List.getElem?_eq_getElem hy] at e2
      exact (Option.some.inj e1).trans (Option.some.inj e2).symm)
  · exact hl
  · exact absurd (List.mem_of_getElem? e1) fun _ => (List.pairwise_iff_getElem.mp o.nd) y x hy hx hl (by
      rw [List.getElem?_eq_getElem hx] at e1
      rw [List.getElem?_eq_getElem hy] at e2
      exact (Option.some.inj e2).trans (Option.some.inj e1).symm)
theorem itr_lt {x : Nat} (h : x < ns.length) : ∀ j, itr ns j x < ns.length
  | 0 => h
  | j + 1 => nx_lt o (itr_lt h j)
theorem itr_inj {x y : Nat} (hx : x < ns.length) (hy : y < ns.length) : ∀ j, itr ns j x = itr ns j y → x = y
  | 0, h => h
  | j + 1, h => itr_inj hx hy j (nx_inj o (itr_lt o hx j) (itr_lt o hy j) h)
end
theorem few_below : ∀ (n : Nat) (l : List Nat), l.Nodup → (∀ x ∈ l, x < n) → l.length ≤ n
  | 0, [], _, _ => Nat.le_refl _
  | 0, x :: l, _, h => absurd (h x List.mem_cons_self) (Nat.not_lt_zero _)
  | n + 1, l, hn, h => by
    by_cases hm : n ∈ l
    · have h1 := few_below n (l.erase n) (hn.erase n) fun x hx => by
        have h2 := (hn.mem_erase_iff).mp hx
        have := h x h2.2
        omega
      rw [List.length_erase_of_mem hm] at h1
      omega
    · have := few_below n l hn fun x hx => by
        have := h x hx
        have : x ≠ n := fun e => hm (e ▸ hx)
        omega
      omega
theorem nodup_map_range {n : Nat} {f : Nat → Nat} (h : ∀ i j, i < j → j < n → f i ≠ f j) : ((List.range n).map f).Nodup := by
  rw [List.Nodup, List.pairwise_iff_getElem]
  intro i j hi hj hij
  rw [List.length_map, List.length_range] at hi hj
  rw [List.getElem_map, List.getElem_map, List.getElem_range, List.getElem_range]
  exact h i j hij hj
def per (ns : List Nat) (x : Nat) : Nat := (((List.range ns.length).find? fun j => itr ns (j + 1) x == x).getD 0) + 1
section
variable {ns : List Nat} (o : Ord ns)
include o
theorem ret_ex {x : Nat} (h : x < ns.length) : ∃ j, j < ns.length ∧ itr ns (j + 1) x = x := by
  refine Classical.byContradiction fun hc => ?_
  have hne : ∀ j, j < ns.length → itr ns (j + 1) x ≠ x := fun j hj e => hc ⟨j, hj, e⟩
  have h1 := few_below ns.length ((List.range (ns.length + 1)).map fun i => itr ns i x) (nodup_map_range fun i j hij hj e => by
    have e1 : j = i + ((j - i - 1) + 1) := by omega
    have e2 : itr ns i (itr ns ((j - i - 1) + 1) x) = itr ns i x := by rw [← itr_add, ← e1]; exact e.symm
    exact hne (j - i - 1) (by omega) (itr_inj o (itr_lt o h _) h i e2)) (fun y hy => by
    obtain ⟨i, _, rfl⟩ := List.mem_map.mp hy
    exact itr_lt o h i)
  rw [List.length_map, List.length_range] at h1
  omega
theorem per_spec {x : Nat} (h : x < ns.length) : itr ns (per ns x) x = x ∧ 0 < per ns x ∧ per ns x ≤ ns.length ∧ ∀ j, 0 < j → j < per ns x → itr ns j x ≠ x := by
  obtain ⟨j, hj, e⟩ := ret_ex o h
  unfold per
  cases hf : (List.range ns.length).find? fun j => itr ns (j + 1) x == x with
  | none =>
    have := List.find?_eq_none.mp hf j (List.mem_range.mpr hj)
    rw [beq_iff_eq] at this
    exact absurd e this
  | some k =>
    obtain ⟨h1, i, hi, e1, h2⟩ := List.find?_eq_some_iff_getElem.mp hf
    rw [List.length_range] at hi
    rw [List.getElem_range] at e1
    subst e1
    refine ⟨beq_iff_eq.mp h1, Nat.succ_pos _, hi, fun j' h0 hl e' => ?_⟩
    have hl : j' < i + 1 := hl
    have := h2 (j' - 1) (by omega)
    rw [List.getElem_range, Nat.sub_add_cancel h0] at this
    simp [e'] at this
theorem itr_ne {x a b : Nat} (h : x < ns.length) (hab : a < b) (hb : b < per ns x) : itr ns a x ≠ itr ns b x := fun e => by
  have e1 : b = a + (b - a) := by omega
  rw [e1, itr_add] at e
  exact (per_spec o h).2.2.2 (b - a) (by omega) (by omega) (itr_inj o (itr_lt o h _) h a e.symm)
theorem itr_eq {x a b : Nat} (h : x < ns.length) (ha : a < per ns x) (hb : b < per ns x) (e : itr ns a x = itr ns b x) : a = b := by
  rcases Nat.lt_trichotomy a b with hl | hl | hl
  · exact absurd e (itr_ne o h hl hb)
  · exact hl
  · exact absurd e.symm (itr_ne o h hl ha)
theorem per_unique {x j : Nat} (h : x < ns.length) (h0 : 0 < j) (hj : itr ns j x = x) (hm : ∀ i, 0 < i → i < j → itr ns i x ≠ x) : per ns x = j := by
  obtain ⟨a, b, c, d⟩ := per_spec o h
  rcases Nat.lt_trichotomy (per ns x) j with hl | hl | hl
  · exact absurd a (hm _ b hl)
  · exact hl
  · exact absurd hj (d j h0 hl)
end
/-- the round from x on -/
def cyc (ns : List Nat) (x : Nat) : List Nat := (List.range (per ns x)).map fun i => itr ns i x
theorem cyc_len {ns : List Nat} {x : Nat} : (cyc ns x).length = per ns x := by unfold cyc; rw [List.length_map, List.length_range]
theorem cyc_at {ns : List Nat} {x i : Nat} (h : i < per ns x) : (cyc ns x)[i]? = some (itr ns i x) := by
  unfold cyc
  rw [List.getElem?_map, List.getElem?_range h]
  rfl
theorem mem_cyc {ns : List Nat} {x y : Nat} : y ∈ cyc ns x ↔ ∃ i, i < per ns x ∧ itr ns i x = y := by
  unfold cyc
  rw [List.mem_map]
  exact ⟨fun ⟨i, hi, e⟩ => ⟨i, List.mem_range.mp hi, e⟩, fun ⟨i, hi, e⟩ => ⟨i, List.mem_range.mpr hi, e⟩⟩
def rnds (ns : List Nat) : Nat → List (List Nat)
  | 0 => []
  | k + 1 => if k ∈ (rnds ns k).flatten then rnds ns k else rnds ns k ++ [cyc ns k]
section
variable {ns : List Nat} (o : Ord ns)
include o
theorem cyc_nodup {x : Nat} (h : x < ns.length) : (cyc ns x).Nodup := nodup_map_range fun i j hij hj => itr_ne o h hij hj
theorem cyc_self {x : Nat} (h : x < ns.length) : x ∈ cyc ns x := mem_cyc.mpr ⟨0, (per_spec o h).2.1, rfl⟩
theorem cyc_nx {x y : Nat} (h : x < ns.length) (hy : y ∈ cyc ns x) : nx ns y ∈ cyc ns x := by
  obtain ⟨i, hi, rfl⟩ := mem_cyc.mp hy
  by_cases hl : i + 1 < per ns x
  · exact mem_cyc.mpr ⟨i + 1, hl, rfl⟩
  · have e : itr ns (i + 1) x = x := by rw [show i + 1 = per ns x by omega]; exact (per_spec o h).1
    have : nx ns (itr ns i x) = x := e
    rw [this]
    exact cyc_self o h
theorem cyc_itr {x y : Nat} (h : x < ns.length) (hy : y ∈ cyc ns x) : ∀ j, itr ns j y ∈ cyc ns x
  | 0 => hy
  | j + 1 => cyc_nx o h (cyc_itr h hy j)
theorem cyc_meet {x k y : Nat} (hx : x < ns.length) (hk : k < ns.length) (h1 : y ∈ cyc ns x) (h2 : y ∈ cyc ns k) : k ∈ cyc ns x := by
  obtain ⟨i, hi, rfl⟩ := mem_cyc.mp h2
  have := cyc_itr o hx h1 (per ns k - i)
  rw [← itr_add, Nat.sub_add_cancel (by omega), (per_spec o hk).1] at this
  exact this
theorem rnds_spec : ∀ k, k ≤ ns.length → (∀ R ∈ rnds ns k, ∃ c, c < k ∧ R = cyc ns c) ∧ (rnds ns k).flatten.Nodup ∧ ∀ x, x < k → x ∈ (rnds ns k).flatten
  | 0, _ => ⟨(fun R hR => by cases hR), List.nodup_nil, fun x hx => absurd hx (Nat.not_lt_zero _)⟩
  | k + 1, hk => by
    obtain ⟨h1, h2, h3⟩ := rnds_spec k (by omega)
    unfold rnds
    by_cases hm : k ∈ (rnds ns k).flatten
    · rw [if_pos hm]
      refine ⟨fun R hR => let ⟨c, hc, e⟩ := h1 R hR; ⟨c, by omega, e⟩, h2, fun x hx => ?_⟩
      rcases Nat.lt_or_eq_of_le (Nat.le_of_lt_succ hx) with h | h
      · exact h3 x h
      · rw [h]; exact hm
    · rw [if_neg hm]
      refine ⟨fun R hR => ?_, ?_, fun x hx => ?_⟩
      · rcases List.mem_append.mp hR with hR | hR
        · obtain ⟨c, hc, e⟩ := h1 R hR
          exact ⟨c, by omega, e⟩
        · exact ⟨k, Nat.lt_succ_self _, List.mem_singleton.mp hR⟩
      · rw [List.flatten_append, List.nodup_append]
        refine ⟨h2, by rw [List.flatten_singleton]; exact cyc_nodup o (by omega), fun y hy z hz e => ?_⟩
        subst e
        rw [List.flatten_singleton] at hz
        obtain ⟨R, hR, hyR⟩ := List.mem_flatten.mp hy
        obtain ⟨c, hc, rfl⟩ := h1 R hR
        exact hm (List.mem_flatten.mpr ⟨_, hR, cyc_meet o (by omega) (by omega) hyR hz⟩)
      · rw [List.flatten_append, List.mem_append, List.flatten_singleton]
        rcases Nat.lt_or_eq_of_le (Nat.le_of_lt_succ hx) with h | h
        · exact .inl (h3 x h)
        · rw [h]; exact .inr (cyc_self o (by omega))
/-- going round from a place that was not met, nothing met is found before the round is closed -/
theorem round_new {k j : Nat} (hk : k < ns.length) (hm : k ∉ (rnds ns k).flatten) (hj : j < per ns k) : itr ns j k ∉ (rnds ns k).flatten ∧ itr ns j k ∉ (List.range j).map fun i => itr ns i k := by
  refine ⟨fun hy => ?_, fun hy => ?_⟩
  · obtain ⟨R, hR, hyR⟩ := List.mem_flatten.mp hy
    obtain ⟨c, hc, rfl⟩ := (rnds_spec o k (by omega)).1 R hR
    exact hm (List.mem_flatten.mpr ⟨_, hR, cyc_meet o (by omega) hk hyR (mem_cyc.mpr ⟨j, hj, rfl⟩)⟩)
  · obtain ⟨i, hi, e⟩ := List.mem_map.mp hy
    exact itr_ne o hk (List.mem_range.mp hi) hj e
theorem round_end {k : Nat} (hk : k < ns.length) : itr ns (per ns k) k ∈ (List.range (per ns k)).map fun i => itr ns i k := by
  rw [(per_spec o hk).1]
  exact cyc_self o hk
end
/-! ### shortcuts -/
def marks (st : Nat) (R : List Nat) : List Nat := (List.range ((R.length + st - 1) / st)).map fun k => R[k * st]?.getD 0
def rot (l : List Nat) : List Nat := l.drop (l.length - 1) ++ l.take (l.length - 1)
def prs (st : Nat) (R : List Nat) : List (Nat × Nat) := if st < R.length then (marks st R).zip (rot (marks st R)) else []
def jmp (st : Nat) (rs : List (List Nat)) : List (Nat × Nat) := rs.flatMap (prs st)
def look (kvs : List (Nat × Nat)) (x : Nat) : Option Nat := (kvs.find? fun p => decide (p.1 = x)).map (·.2)
theorem look_some {kvs : List (Nat × Nat)} {x y : Nat} (hn : (kvs.map (·.1)).Nodup) (h : (x, y) ∈ kvs) : look kvs x = some y := by
  induction kvs with
  | nil => cases h
  | cons p r ih =>
    rw [List.map_cons, List.nodup_cons] at hn
    unfold look
    rw [List.find?_cons]
    rcases List.mem_cons.mp h with rfl | h
    · simp
    · have : p.1 ≠ x := fun e => hn.1 (e ▸ List.mem_map_of_mem (f := (·.1)) h)
      rw [decide_eq_false this]
      exact ih hn.2 h
theorem look_none {kvs : List (Nat × Nat)} {x : Nat} (h : x ∉ kvs.map (·.1)) : look kvs x = none := by
  unfold look
  rw [List.find?_eq_none.mpr fun p hp e => h (List.mem_map.mpr ⟨p, hp, of_decide_eq_true e⟩)]
  rfl
theorem rot_len (l : List Nat) : (rot l).length = l.length := by
  unfold rot
  rw [List.length_append, List.length_drop, List.length_take]
  omega
theorem rot_at {l : List Nat} {k : Nat} (hk : k < l.length) : (rot l)[k]? = l[if k = 0 then l.length - 1 else k - 1]? := by
  unfold rot
  by_cases h0 : k = 0
  · rw [if_pos h0, h0, List.getElem?_append_left (by rw [List.length_drop]; omega), List.getElem?_drop]
    rfl
  · rw [if_neg h0, List.getElem?_append_right (by rw [List.length_drop]; omega), List.length_drop, List.getElem?_take, if_pos (by omega)]
    congr 1
    omega
theorem marks_len (st : Nat) (R : List Nat) : (marks st R).length = (R.length + st - 1) / st := by unfold marks; rw [List.length_map, List.length_range]
theorem mul_div_lt {a st k : Nat} (hs : 0 < st) : k < (a + st - 1) / st ↔ k * st < a := by
  rw [Nat.lt_iff_add_one_le, Nat.le_div_iff_mul_le hs, Nat.add_mul]
  omega
theorem marks_at {st k : Nat} {R : List Nat} (hs : 0 < st) (h : k * st < R.length) : (marks st R)[k]? = some R[k * st] := by
  unfold marks
  rw [List.getElem?_map, List.getElem?_range ((mul_div_lt hs).mpr h), Option.map_some, List.getElem?_eq_getElem h]
  rfl
theorem mem_marks {st x : Nat} {R : List Nat} (hs : 0 < st) : x ∈ marks st R ↔ ∃ k, k * st < R.length ∧ R[k * st]? = some x := by
  constructor
  · intro h
    obtain ⟨k, hk⟩ := List.getElem?_of_mem h
    have hl := (List.getElem?_eq_some_iff.mp hk).1
    rw [marks_len, mul_div_lt hs] at hl
    rw [marks_at hs hl] at hk
    exact ⟨k, hl, by rw [List.getElem?_eq_getElem hl]; exact hk⟩
  · rintro ⟨k, hk, e⟩
    have := marks_at hs hk
    rw [← List.getElem?_eq_getElem hk, e] at this
    exact List.mem_of_getElem? this
theorem marks_nodup {st : Nat} {R : List Nat} (hs : 0 < st) (h : R.Nodup) : (marks st R).Nodup := by
  rw [List.Nodup, List.pairwise_iff_getElem]
  intro i j hi hj hij
  have hi' := hi
  have hj' := hj
  rw [marks_len, mul_div_lt hs] at hi' hj'
  have e1 := marks_at hs hi'
  have e2 := marks_at hs hj'
  rw [List.getElem?_eq_getElem hi] at e1
  rw [List.getElem?_eq_getElem hj] at e2
  rw [Option.some.inj e1, Option.some.inj e2]
  exact (List.pairwise_iff_getElem.mp h) _ _ hi' hj' (Nat.mul_lt_mul_of_pos_right hij hs)
theorem prs_keys {st : Nat} {R : List Nat} : (prs st R).map (·.1) = if st < R.length then marks st R else [] := by
  unfold prs
  split
  · rw [List.map_fst_zip (by rw [rot_len]; exact Nat.le_refl _)]
  · rfl
theorem prs_sub {st x : Nat} {R : List Nat} (hs : 0 < st) (h : x ∈ (prs st R).map (·.1)) : x ∈ R := by
  rw [prs_keys] at h
  split at h
  · obtain ⟨k, _, e⟩ := (mem_marks hs).mp h
    exact List.mem_of_getElem? e
  · cases h
theorem jmp_sub {st x : Nat} (hs : 0 < st) {rs : List (List Nat)} (h : x ∈ (jmp st rs).map (·.1)) : x ∈ rs.flatten := by
  obtain ⟨p, hp, rfl⟩ := List.mem_map.mp h
  obtain ⟨R, hR, hpR⟩ := List.mem_flatMap.mp hp
  exact List.mem_flatten.mpr ⟨R, hR, prs_sub hs (List.mem_map_of_mem hpR)⟩
theorem jmp_nodup {st : Nat} (hs : 0 < st) : ∀ {rs : List (List Nat)}, rs.flatten.Nodup → ((jmp st rs).map (·.1)).Nodup
  | [], _ => List.nodup_nil
  | R :: rs, h => by
    rw [List.flatten_cons, List.nodup_append] at h
    unfold jmp
    rw [List.flatMap_cons, List.map_append, List.nodup_append]
    refine ⟨?_, jmp_nodup hs h.2.1, fun x hx y hy => h.2.2 x (prs_sub hs hx) y (jmp_sub hs hy)⟩
    rw [prs_keys]
    split
    · exact marks_nodup hs h.1
    · exact List.nodup_nil
theorem jmp_snoc (st : Nat) (rs : List (List Nat)) (R : List Nat) : jmp st (rs ++ [R]) = jmp st rs ++ prs st R := by
  unfold jmp
  rw [List.flatMap_append, List.flatMap_cons, List.flatMap_nil, List.append_nil]
/-- the mark one step back in a round of L -/
def prv (st L i : Nat) : Nat := if i = 0 then (L - 1) / st * st else i - st
theorem look_mark {st i : Nat} {rs : List (List Nat)} {R : List Nat} (hs : 0 < st) (hf : rs.flatten.Nodup) (hR : R ∈ rs) (hl : st < R.length) (hi : i < R.length) (hm : i % st = 0) : look (jmp st rs) R[i] = R[prv st R.length i]? := by
  have hp : prv st R.length i < R.length := by
    unfold prv
    split
    · have := Nat.div_mul_le_self (R.length - 1) st
      omega
    · omega
  rw [List.getElem?_eq_getElem hp]
  refine look_some (jmp_nodup hs hf) (List.mem_flatMap.mpr ⟨R, hR, ?_⟩)
  unfold prs
  rw [if_pos hl]
  have hmi : i / st * st = i := Nat.div_mul_cancel (Nat.dvd_of_mod_eq_zero hm)
  have hk : i / st * st < R.length := by omega
  have e1 := marks_at hs hk
  have hkl : i / st < (marks st R).length := by rw [marks_len, mul_div_lt hs]; exact hk
  have e2 := rot_at hkl
  have key : (if i / st = 0 then (marks st R).length - 1 else i / st - 1) * st = prv st R.length i := by
    unfold prv
    by_cases h0 : i = 0
    · rw [if_pos h0, if_pos (by rw [h0]; exact Nat.zero_div _), marks_len]
      congr 1
      rw [show R.length + st - 1 = (R.length - 1) + st by omega, Nat.add_div_right _ hs]
      rfl
    · rw [if_neg h0, if_neg fun h => h0 (by rw [← hmi, h, Nat.zero_mul]), Nat.sub_mul, hmi, Nat.one_mul]
  have hp2 : (if i / st = 0 then (marks st R).length - 1 else i / st - 1) * st < R.length := by rw [key]; exact hp
  rw [marks_at hs hp2] at e2
  have e3 : ((marks st R).zip (rot (marks st R)))[i / st]? = some (R[i / st * st], R[(if i / st = 0 then (marks st R).length - 1 else i / st - 1) * st]) := by
    rw [List.getElem?_zip_eq_some]
    exact ⟨e1, e2⟩
  have e4 := List.mem_of_getElem? e3
  simp only [hmi, key] at e4
  exact e4
theorem look_bare {st i : Nat} {rs : List (List Nat)} {R : List Nat} (hs : 0 < st) (hf : rs.flatten.Nodup) (hR : R ∈ rs) (hi : i < R.length) (hm : R.length ≤ st ∨ i % st ≠ 0) : look (jmp st rs) R[i] = none := by
  refine look_none fun h => ?_
  obtain ⟨p, hp, e⟩ := List.mem_map.mp h
  obtain ⟨R', hR', hpR⟩ := List.mem_flatMap.mp hp
  have hk : p.1 ∈ (prs st R').map (·.1) := List.mem_map_of_mem hpR
  have hx := prs_sub hs hk
  rw [e] at hx hk
  obtain ⟨a, ha⟩ := List.getElem?_of_mem hR
  obtain ⟨b, hb⟩ := List.getElem?_of_mem hR'
  have hab : a = b := by
    obtain ⟨hal, ea⟩ := List.getElem?_eq_some_iff.mp ha
    obtain ⟨hbl, eb⟩ := List.getElem?_eq_some_iff.mp hb
    have hd := List.pairwise_iff_getElem.mp (List.pairwise_flatten.mp hf).2
    rcases Nat.lt_trichotomy a b with hl | hl | hl
    · have := hd a b hal hbl hl
      rw [ea, eb] at this
      exact absurd rfl (this _ (List.getElem_mem hi) _ hx)
    · exact hl
    · have := hd b a hbl hal hl
      rw [ea, eb] at this
      exact absurd rfl (this _ hx _ (List.getElem_mem hi))
  rw [hab, hb] at ha
  obtain rfl := Option.some.inj ha
  rw [prs_keys] at hk
  split at hk
  · rcases hm with hm | hm
    · omega
    · obtain ⟨k, hk1, hk2⟩ := (mem_marks hs).mp hk
      rw [List.getElem?_eq_getElem hk1] at hk2
      have hn : R'.Nodup := (List.pairwise_flatten.mp hf).1 R' hR
      have : k * st = i := by
        rcases Nat.lt_trichotomy (k * st) i with hl | hl | hl
        · exact absurd (Option.some.inj hk2) ((List.pairwise_iff_getElem.mp hn) _ _ hk1 hi hl)
        · exact hl
        · exact absurd (Option.some.inj hk2).symm ((List.pairwise_iff_getElem.mp hn) _ _ hi hk1 hl)
      rw [← this, Nat.mul_mod_left] at hm
      exact hm rfl
  · cases hk
/-! ### the way back -/
def pth (ns : List Nat) (t p : Nat) : List Nat := (List.range (t + 1)).map fun i => itr ns i p
theorem pth_len (ns : List Nat) (t p : Nat) : (pth ns t p).length = t + 1 := by unfold pth; rw [List.length_map, List.length_range]
theorem pth_at {ns : List Nat} {t p i : Nat} (h : i ≤ t) : (pth ns t p)[i]? = some (itr ns i p) := by
  unfold pth
  rw [List.getElem?_map, List.getElem?_range (by omega)]
  rfl
theorem pth_succ (ns : List Nat) (t p : Nat) : pth ns (t + 1) p = pth ns t p ++ [itr ns (t + 1) p] := by
  unfold pth
  rw [List.range_succ, List.map_append]
  rfl
/-- on to a shortcut or to the place's forerunner -/
structure To (ns : List Nat) (J : List (Nat × Nat)) (p t : Nat) : Prop where
  free : ∀ i, i < t → look J (itr ns i p) = none ∧ itr ns (i + 1) p ≠ p
  stop : (look J (itr ns t p)).isSome = true ∨ itr ns (t + 1) p = p
structure From (ns : List Nat) (p q u : Nat) : Prop where
  free : ∀ i, i < u → itr ns (i + 1) q ≠ p
  stop : itr ns (u + 1) q = p
inductive Way (ns : List Nat) (J : List (Nat × Nat)) (p : Nat) : Bool → List Nat → Prop
  | short {t : Nat} (h : To ns J p t) (hn : look J (itr ns t p) = none) : Way ns J p false (pth ns t p)
  | long {t q u : Nat} (h : To ns J p t) (hn : look J (itr ns t p) = some q) (hf : From ns p q u) : Way ns J p true (pth ns t p ++ pth ns u q)
theorem cyc_mod {ns : List Nat} (o : Ord ns) {c : Nat} (hc : c < ns.length) (a : Nat) : itr ns a c = itr ns (a % per ns c) c := by
  have key : ∀ q r, itr ns (r + per ns c * q) c = itr ns r c := fun q => by
    induction q with
    | zero => intro r; rw [Nat.mul_zero]; rfl
    | succ q ih => intro r; rw [Nat.mul_succ, ← Nat.add_assoc, itr_add, (per_spec o hc).1, ih]
  have := key (a / per ns c) (a % per ns c)
  rw [Nat.mod_add_div] at this
  exact this
theorem way_ex {ns : List Nat} (o : Ord ns) {st p : Nat} (hs : 0 < st) (hp : p < ns.length) :
    (per ns p ≤ st ∧ ∃ t, To ns (jmp st (rnds ns ns.length)) p t ∧ look (jmp st (rnds ns ns.length)) (itr ns t p) = none ∧ t + 1 ≤ st) ∨
    (st < per ns p ∧ ∃ t q u, To ns (jmp st (rnds ns ns.length)) p t ∧ look (jmp st (rnds ns ns.length)) (itr ns t p) = some q ∧ q < ns.length ∧ From ns p q u ∧ t + 1 + (u + 1) ≤ 2 * st) := by
  obtain ⟨h1, h2, h3⟩ := rnds_spec o ns.length (Nat.le_refl _)
  obtain ⟨R, hR, hpR⟩ := List.mem_flatten.mp (h3 p hp)
  obtain ⟨c, hc, rfl⟩ := h1 R hR
  obtain ⟨j, hj, rfl⟩ := mem_cyc.mp hpR
  obtain ⟨p1, p2, p3, p4⟩ := per_spec o hc
  have inj : ∀ a b, a < per ns c → b < per ns c → itr ns a c = itr ns b c → a = b := fun a b ha hb e => itr_eq o hc ha hb e
  have on : ∀ a, itr ns a (itr ns j c) = itr ns (j + a) c := fun a => by rw [Nat.add_comm, itr_add]
  have lk : ∀ i, i < per ns c → (per ns c ≤ st ∨ i % st ≠ 0) → look (jmp st (rnds ns ns.length)) (itr ns i c) = none := fun i hi hm => by
    have hi' : i < (cyc ns c).length := by rw [cyc_len]; exact hi
    have := look_bare hs h2 hR hi' (by rw [cyc_len]; exact hm)
    have e := cyc_at hi
    rw [List.getElem?_eq_getElem hi'] at e
    rw [Option.some.inj e] at this
    exact this
  have lm : ∀ i, i < per ns c → st < per ns c → i % st = 0 → look (jmp st (rnds ns ns.length)) (itr ns i c) = some (itr ns (prv st (per ns c) i) c) := fun i hi hl hm => by
    have hi' : i < (cyc ns c).length := by rw [cyc_len]; exact hi
    have := look_mark hs h2 hR (by rw [cyc_len]; exact hl) hi' hm
    have e := cyc_at hi
    rw [List.getElem?_eq_getElem hi'] at e
    rw [Option.some.inj e, cyc_len] at this
    rw [this]
    refine cyc_at ?_
    unfold prv
    split
    · have := Nat.div_mul_le_self (per ns c - 1) st
      omega
    · omega
  have hper : per ns (itr ns j c) = per ns c := per_unique o hp p2 (by
      rw [on, Nat.add_comm, Nat.add_comm, cyc_mod o hc, Nat.add_mod_right, Nat.mod_eq_of_lt hj]) fun i h0 hi e => by
    rw [on, cyc_mod o hc] at e
    have h5 := inj _ _ (Nat.mod_lt _ p2) hj e
    by_cases hw : j + i < per ns c
    · rw [Nat.mod_eq_of_lt hw] at h5; omega
    · rw [Nat.mod_eq_sub_mod (by omega), Nat.mod_eq_of_lt (by omega)] at h5; omega
  have back : ∀ i, 0 < i → i < per ns c → itr ns i (itr ns j c) ≠ itr ns j c := fun i h0 hi => (per_spec o hp).2.2.2 i h0 (by rw [hper]; exact hi)
  rw [hper]
  rcases Nat.lt_or_ge st (per ns c) with hL | hL
  · refine .inr ⟨hL, ?_⟩
    have m0 := Nat.div_mul_le_self (per ns c - 1) st
    have m1 : per ns c - 1 < (per ns c - 1) / st * st + st := by
      have := Nat.div_add_mod (per ns c - 1) st
      have := Nat.mod_lt (per ns c - 1) hs
      rw [Nat.mul_comm]
      omega
    have hz : ∀ m, m < per ns c → m < j ∨ j = 0 → From ns (itr ns j c) (itr ns m c) (if j = 0 then per ns c - 1 - m else j - 1 - m) := fun m hm hmj => by
      have on2 : ∀ a, itr ns a (itr ns m c) = itr ns (m + a) c := fun a => by rw [Nat.add_comm, itr_add]
      refine ⟨fun i hi e => ?_, ?_⟩
      · rw [on2] at e
        split at hi
        · rename_i h0
          have := inj _ _ (by omega) hj e
          omega
        · have := inj _ _ (by omega) hj e
          omega
      · rw [on2]
        split
        · rename_i h0
          rw [show m + (per ns c - 1 - m + 1) = per ns c by omega, p1, h0]
          rfl
        · rw [show m + (j - 1 - m + 1) = j by omega]
    rcases Nat.eq_zero_or_pos j with h0 | h0
    · have e0 : itr ns 0 (itr ns j c) = itr ns 0 c := by rw [on, h0]
      refine ⟨0, itr ns ((per ns c - 1) / st * st) c, _, ⟨fun i hi => absurd hi (Nat.not_lt_zero _), .inl ?_⟩, ?_, itr_lt o hc _, hz _ (by omega) (.inr h0), ?_⟩
      · rw [e0, lm 0 p2 hL (Nat.zero_mod _)]
        rfl
      · rw [e0, lm 0 p2 hL (Nat.zero_mod _)]
        rfl
      · rw [if_pos h0]
        omega
    · have d1 := Nat.div_add_mod (j + st - 1) st
      have d2 := Nat.mod_lt (j + st - 1) hs
      have d3 : st * ((j + st - 1) / st) = (j + st - 1) / st * st := Nat.mul_comm _ _
      have nomul : ∀ i, j ≤ i → i < (j + st - 1) / st * st → i % st ≠ 0 := fun i hi1 hi2 hi3 => by
        have e := Nat.div_mul_cancel (Nat.dvd_of_mod_eq_zero hi3)
        have l1 : i / st < (j + st - 1) / st := by
          rcases Nat.lt_or_ge (i / st) ((j + st - 1) / st) with h | h
          · exact h
          · have := Nat.mul_le_mul_right st h
            omega
        have l2 := Nat.mul_le_mul_right st (show i / st + 1 ≤ (j + st - 1) / st from l1)
        rw [Nat.add_mul, Nat.one_mul] at l2
        omega
      generalize hM : (j + st - 1) / st * st = M at *
      have hMm : M % st = 0 := by rw [← hM, Nat.mul_mod_left]
      have hMj : j ≤ M := by omega
      have hMs : st ≤ M := by
        rw [← hM]
        have : 1 ≤ (j + st - 1) / st := by rw [Nat.le_div_iff_mul_le hs]; omega
        have := Nat.mul_le_mul_right st this
        omega
      rcases Nat.lt_or_ge M (per ns c) with hlt | hge
      · refine ⟨M - j, itr ns (M - st) c, _, ⟨fun i hi => ⟨?_, back _ (by omega) (by omega)⟩, .inl ?_⟩, ?_, itr_lt o hc _, hz (M - st) (by omega) (.inl (by omega)), ?_⟩
        · rw [on]
          exact lk _ (by omega) (.inr (nomul _ (by omega) (by omega)))
        · rw [on, show j + (M - j) = M by omega, lm M hlt hL hMm]
          rfl
        · rw [on, show j + (M - j) = M by omega, lm M hlt hL hMm]
          unfold prv
          rw [if_neg (by omega)]
        · rw [if_neg (by omega)]
          omega
      · have e0 : itr ns (per ns c - j) (itr ns j c) = itr ns 0 c := by rw [on, show j + (per ns c - j) = per ns c by omega, p1]; rfl
        have hmj : (per ns c - 1) / st * st < j := by
          rcases Nat.lt_or_ge ((per ns c - 1) / st * st) j with h | h
          · exact h
          · exact absurd (Nat.mul_mod_left _ _) (nomul _ h (by omega))
        refine ⟨per ns c - j, itr ns ((per ns c - 1) / st * st) c, _, ⟨fun i hi => ⟨?_, back _ (by omega) (by omega)⟩, .inl ?_⟩, ?_, itr_lt o hc _, hz _ (by omega) (.inl hmj), ?_⟩
        · rw [on]
          exact lk _ (by omega) (.inr (nomul _ (by omega) (by omega)))
        · rw [e0, lm 0 p2 hL (Nat.zero_mod _)]
          rfl
        · rw [e0, lm 0 p2 hL (Nat.zero_mod _)]
          rfl
        · rw [if_neg (by omega)]
          omega
  · refine .inl ⟨hL, per ns c - 1, ⟨fun i hi => ⟨?_, back _ (by omega) (by omega)⟩, .inr ?_⟩, ?_, by omega⟩
    · rw [on, cyc_mod o hc]
      exact lk _ (Nat.mod_lt _ p2) (.inl hL)
    · rw [show per ns c - 1 + 1 = per ns c by omega, ← hper]
      exact (per_spec o hp).1
    · rw [on, cyc_mod o hc]
      exact lk _ (Nat.mod_lt _ p2) (.inl hL)
theorem way_for {ns : List Nat} (o : Ord ns) {st p : Nat} (hs : 0 < st) (hp : p < ns.length) : ∃ ws, Way ns (jmp st (rnds ns ns.length)) p (decide (st < per ns p)) ws ∧ ws.length ≤ 2 * st := by
  rcases way_ex o hs hp with ⟨h1, t, h2, h3, h4⟩ | ⟨h1, t, q, u, h2, h3, _, h4, h5⟩
  · rw [decide_eq_false (by omega)]
    exact ⟨_, .short h2 h3, by rw [pth_len]; omega⟩
  · rw [decide_eq_true h1]
    exact ⟨_, .long h2 h3 h4, by rw [List.length_append, pth_len, pth_len]; exact h5⟩
theorem look_mem {kvs : List (Nat × Nat)} {x q : Nat} (h : look kvs x = some q) : (x, q) ∈ kvs := by
  unfold look at h
  obtain ⟨p, hp, e⟩ := Option.map_eq_some_iff.mp h
  have h1 := List.mem_of_find?_eq_some hp
  have h2 : p.1 = x := by simpa using List.find?_some hp
  rw [← h2, ← e]
  exact h1
theorem rot_sub {l : List Nat} {x : Nat} (h : x ∈ rot l) : x ∈ l := by
  unfold rot at h
  rcases List.mem_append.mp h with h | h
  · exact List.mem_of_mem_drop h
  · exact List.mem_of_mem_take h
theorem rnds_lt {ns : List Nat} (o : Ord ns) {k x : Nat} (hk : k ≤ ns.length) (h : x ∈ (rnds ns k).flatten) : x < ns.length := by
  obtain ⟨R, hR, hx⟩ := List.mem_flatten.mp h
  obtain ⟨c, hc, rfl⟩ := (rnds_spec o k hk).1 R hR
  obtain ⟨i, _, rfl⟩ := mem_cyc.mp hx
  exact itr_lt o (by omega) i
theorem look_lt {ns : List Nat} (o : Ord ns) {st x q : Nat} (hs : 0 < st) (h : look (jmp st (rnds ns ns.length)) x = some q) : q < ns.length := by
  obtain ⟨R, hR, hp⟩ := List.mem_flatMap.mp (look_mem h)
  unfold prs at hp
  split at hp
  · have h1 := rot_sub (List.of_mem_zip hp).2
    obtain ⟨k, _, e⟩ := (mem_marks hs).mp h1
    exact rnds_lt o (Nat.le_refl _) (List.mem_flatten.mpr ⟨R, hR, List.mem_of_getElem? e⟩)
  · cases hp
theorem jmp_len {ns : List Nat} (o : Ord ns) {st k : Nat} (hs : 0 < st) (hk : k ≤ ns.length) : (jmp st (rnds ns k)).length ≤ ns.length := by
  have := few_below ns.length ((jmp st (rnds ns k)).map (·.1)) (jmp_nodup hs (rnds_spec o k hk).2.1) fun x hx => rnds_lt o hk (jmp_sub hs hx)
  rw [List.length_map] at this
  exact this
theorem ord_perm {ns : List Nat} {n : Nat} (h : ns.Perm (List.range n)) : Ord ns := by
  have hl : ns.length = n := by rw [h.length_eq, List.length_range]
  refine ⟨fun x hx => ?_, h.nodup_iff.mpr List.nodup_range⟩
  rw [hl]
  exact List.mem_range.mp (h.mem_iff.mp hx)
theorem ord_shift (n c : Nat) : Ord ((List.range n).map fun k => (k + 1 + c) % n) := by
  refine ⟨fun x hx => ?_, nodup_map_range fun i j hij hj e => ?_⟩
  · obtain ⟨k, hk, rfl⟩ := List.mem_map.mp hx
    rw [List.length_map, List.length_range]
    exact Nat.mod_lt _ (by have := List.mem_range.mp hk; omega)
  · have e1 := Nat.sub_mod_eq_zero_of_mod_eq e.symm
    rw [show j + 1 + c - (i + 1 + c) = j - i by omega] at e1
    rw [Nat.mod_eq_of_lt (by omega)] at e1
    omega
theorem ord_surj {ns : List Nat} (o : Ord ns) {x : Nat} (h : x < ns.length) : ∃ k, k < ns.length ∧ nx ns k = x := by
  obtain ⟨h1, h2, _⟩ := per_spec o h
  refine ⟨itr ns (per ns x - 1) x, itr_lt o h _, ?_⟩
  have e : itr ns (per ns x - 1 + 1) x = x := by rw [Nat.sub_add_cancel h2]; exact h1
  exact e
theorem ord_turn {ns fs : List Nat} (o : Ord ns) (hl : fs.length = ns.length) (h : ∀ k, k < ns.length → fs[nx ns k]? = some (nx ns ((k + 1) % ns.length))) : Ord fs := by
  have key : ∀ x, x < fs.length → ∃ k, k < ns.length ∧ nx ns k = x ∧ fs[x]? = some (nx ns ((k + 1) % ns.length)) := fun x hx => by
    obtain ⟨k, hk, e⟩ := ord_surj o (x := x) (by omega)
    exact ⟨k, hk, e, by rw [← e]; exact h k hk⟩
  refine ⟨fun y hy => ?_, ?_⟩
  · obtain ⟨x, hx⟩ := List.getElem?_of_mem hy
    obtain ⟨k, hk, _, e⟩ := key x (List.getElem?_eq_some_iff.mp hx).1
    rw [hx] at e
    rw [Option.some.inj e, hl]
    exact nx_lt o (Nat.mod_lt _ (by omega))
  · rw [List.Nodup, List.pairwise_iff_getElem]
    intro i j hi hj hij e
    obtain ⟨a, ha, ea, fa⟩ := key i hi
    obtain ⟨b, hb, eb, fb⟩ := key j hj
    rw [List.getElem?_eq_getElem hi] at fa
    rw [List.getElem?_eq_getElem hj] at fb
    have e1 := nx_inj o (Nat.mod_lt _ (by omega)) (Nat.mod_lt _ (by omega)) ((Option.some.inj fa).symm.trans (e.trans (Option.some.inj fb)))
    have e2 : a = b := by
      by_cases h1 : a + 1 < ns.length
      · by_cases h2 : b + 1 < ns.length
        · rw [Nat.mod_eq_of_lt h1, Nat.mod_eq_of_lt h2] at e1; omega
        · rw [Nat.mod_eq_of_lt h1, show b + 1 = ns.length by omega, Nat.mod_self] at e1; omega
      · by_cases h2 : b + 1 < ns.length
        · rw [Nat.mod_eq_of_lt h2, show a + 1 = ns.length by omega, Nat.mod_self] at e1; omega
        · omega
    rw [← ea, ← eb, e2] at hij
    omega
theorem ord_beside {ns fs : List Nat} (o : Ord ns) (f : Ord fs) {k : Nat} (hl : fs.length = ns.length * k) : Ord (fs ++ ns.map fun x => ns.length * k + x) := by
  refine ⟨fun x hx => ?_, ?_⟩
  · rw [List.length_append, List.length_map]
    rcases List.mem_append.mp hx with hx | hx
    · have := f.lt x hx; omega
    · obtain ⟨y, hy, rfl⟩ := List.mem_map.mp hx
      have := o.lt y hy; omega
  · rw [List.nodup_append]
    refine ⟨f.nd, ?_, fun a ha b hb e => ?_⟩
    · rw [List.Nodup, List.pairwise_map]
      exact o.nd.imp fun h e => h (by omega)
    · obtain ⟨y, hy, rfl⟩ := List.mem_map.mp hb
      have := f.lt a ha
      omega
/-- the same by the places that the step divides -/
theorem marks_filter (st : Nat) (hs : 0 < st) (R : List Nat) : ((List.range R.length).filter fun k => k % st == 0).map (fun k => R[k]?.getD 0) = marks st R := by
  have key : ∀ n, (List.range n).filter (fun k => k % st == 0) = (List.range ((n + st - 1) / st)).map (· * st) := fun n => by
    induction n with
    | zero => rw [Nat.zero_add, Nat.div_eq_of_lt (by omega)]; rfl
    | succ n ih =>
      rw [List.range_succ, List.filter_append, ih]
      have hd := Nat.div_add_mod n st
      have hm := Nat.mod_lt n hs
      have d3 : st * (n / st) = n / st * st := Nat.mul_comm _ _
      have e2 : (n + 1 + st - 1) / st = n / st + 1 := by
        rw [show n + 1 + st - 1 = n + st by omega, Nat.add_div_right _ hs]
      by_cases h0 : n % st = 0
      · have e1 : (n + st - 1) / st = n / st := Nat.div_eq_of_lt_le (by omega) (by rw [Nat.add_mul]; omega)
        have e3 : [n].filter (fun k => k % st == 0) = [n / st * st] := by
          rw [show n / st * st = n by omega]
          simp [h0]
        rw [e1, e2, List.range_succ, List.map_append, e3]
        rfl
      · have e1 : (n + st - 1) / st = n / st + 1 := Nat.div_eq_of_lt_le (by rw [Nat.add_mul]; omega) (by rw [Nat.add_mul, Nat.add_mul]; omega)
        have e3 : [n].filter (fun k => k % st == 0) = [] := by simp [h0]
        rw [e1, e2, e3, List.append_nil]
  rw [key, List.map_map]
  rfl
/-! ### going round, as a program does -/
def seg (ns : List Nat) (j k : Nat) : List Nat := (List.range j).map fun i => itr ns i k
def rl (ns : List Nat) (k : Nat) : Nat := if k ∈ (rnds ns k).flatten then 0 else per ns k
theorem seg_succ (ns : List Nat) (j k : Nat) : seg ns (j + 1) k = seg ns j k ++ [itr ns j k] := by
  unfold seg
  rw [List.range_succ, List.map_append]
  rfl
theorem seg_len (ns : List Nat) (j k : Nat) : (seg ns j k).length = j := by unfold seg; rw [List.length_map, List.length_range]
theorem rnds_len (ns : List Nat) : ∀ k, (rnds ns k).length ≤ k
  | 0 => Nat.le_refl _
  | k + 1 => by
    have := rnds_len ns k
    unfold rnds
    split
    · omega
    · rw [List.length_append]
      simp
      omega
section
variable {ns : List Nat} (o : Ord ns) {k j : Nat} (hk : k < ns.length)
include o hk
theorem rl_le : rl ns k ≤ ns.length := by
  unfold rl
  split
  · exact Nat.zero_le _
  · exact (per_spec o hk).2.2.1
theorem rl_stop (hj : j ≤ rl ns k) : itr ns j k ∈ (rnds ns k).flatten ++ seg ns j k ↔ j = rl ns k := by
  unfold rl at hj ⊢
  split at hj
  · rename_i hm
    rw [if_pos hm]
    have : j = 0 := by omega
    subst this
    exact ⟨fun _ => rfl, fun _ => List.mem_append_left _ hm⟩
  · rename_i hm
    rw [if_neg hm]
    constructor
    · intro h
      rcases Nat.lt_or_eq_of_le hj with hl | hl
      · have := round_new o hk hm hl
        rcases List.mem_append.mp h with h | h
        · exact absurd h this.1
        · exact absurd h this.2
      · exact hl
    · intro h
      rw [h]
      exact List.mem_append_right _ (round_end o hk)
theorem rnds_next : rnds ns (k + 1) = if 0 < (seg ns (rl ns k) k).length then rnds ns k ++ [seg ns (rl ns k) k] else rnds ns k := by
  rw [seg_len]
  show (if k ∈ (rnds ns k).flatten then _ else _) = _
  unfold rl
  by_cases hm : k ∈ (rnds ns k).flatten
  · rw [if_pos hm, if_pos hm, if_neg (Nat.lt_irrefl _)]
  · rw [if_neg hm, if_neg hm, if_pos (per_spec o hk).2.1]
    rfl
theorem flat_next : (rnds ns (k + 1)).flatten = (rnds ns k).flatten ++ seg ns (rl ns k) k := by
  rw [rnds_next o hk]
  split
  · rw [List.flatten_append, List.flatten_singleton]
  · rename_i h
    rw [List.length_eq_zero_iff.mp (show (seg ns (rl ns k) k).length = 0 by omega), List.append_nil]
end
/-- which are met -/
def MetB (ms : List Bool) (S : List Nat) (n : Nat) : Prop := ms.length = n ∧ ∀ (i : Nat) b, ms[i]? = some b → (b = true ↔ i ∈ S)
theorem metB_none (n : Nat) : MetB (List.replicate n false) [] n := by
  refine ⟨List.length_replicate, fun i b h => ?_⟩
  rw [List.getElem?_replicate] at h
  split at h
  · cases h
    exact ⟨fun z => by (cases z), fun h => by (cases h)⟩
  · cases h
theorem MetB.put {ms : List Bool} {S : List Nat} {n y : Nat} (h : MetB ms S n) : MetB (ms.set y true) (S ++ [y]) n := by
  refine ⟨by rw [List.length_set]; exact h.1, fun i b hb => ?_⟩
  rw [List.getElem?_set] at hb
  by_cases e : y = i
  · rw [if_pos e] at hb
    split at hb
    · cases hb
      exact ⟨fun _ => by rw [e]; simp, fun _ => rfl⟩
    · cases hb
  · rw [if_neg e] at hb
    rw [h.2 i b hb, List.mem_append, List.mem_singleton]
    exact ⟨fun h => .inl h, fun h => h.resolve_right fun z => e z.symm⟩
end TW
end

section
set_option Elab.async false
set_option linter.all false
set_option maxRecDepth 100000
set_option maxHeartbeats 4000000
/-! Dicts with their content: dict(zip(a, b)), d.update(e), x in d, d[k], d[k] = v; xs[::st]; a class called with a default left out. -/
namespace L2
open PySem PySem.Spec PyProof.Rows
def mrgI (vs : List (Key × Value)) : List Int → List Value → List (Key × Value)
  | k :: ks, u :: us => mrgI (stored vs (.inl k) u) ks us
  | _, _ => vs
theorem mrgI_nil {vs : List (Key × Value)} : ∀ (ks : List Int), mrgI vs ks [] = vs
  | [] => rfl
  | _ :: _ => rfl
theorem mrgI_at {vs : List (Key × Value)} {ks : List Int} {us : List Value} {i : Nat} {n : Int} {u : Value} (h1 : ks[i]? = some n) (h2 : us[i]? = some u) : mrgI vs (ks.drop i) (us.drop i) = mrgI (stored vs (.inl n) u) (ks.drop (i + 1)) (us.drop (i + 1)) := by
  obtain ⟨l1, e1⟩ := List.getElem?_eq_some_iff.mp h1
  obtain ⟨l2, e2⟩ := List.getElem?_eq_some_iff.mp h2
  rw [List.drop_eq_getElem_cons l1, List.drop_eq_getElem_cons l2, e1, e2]
  rfl
section
variable {prog : Program} {w : World} {A : Around} {E : Value → Shared → Prop} {R : Result → Shared → Prop}
/-- from the second pair on -/
theorem upd_goX {d z TI TO i1 i2 l1 l2 T : Addr} {xs ys : Array Value} {ks : List Int} (D : DzA d z TI TO i1 i2 l1 l2) (hTz : T ≠ z) (hT1 : T ≠ i1) (hT2 : T ≠ i2) (hTd : T ≠ d) (hh : A.handled = none) (he : xs.size = ys.size)
    (hk : ∀ (i : Nat) x, xs[i]? = some x → ∃ n t, ks[i]? = some n ∧ x = Value.int n t) : ∀ (m i : Nat) (s : Shared) (tk : Tok) (c : Bool) (vs : List (Key × Value)) (oT : Obj), xs.size - i = m → i ≤ xs.size → zHeld s.heap z TI TO T c → s.heap.get? T = some oT → IsPair s.heap TI (.ref i1) (.ref i2) →
      s.heap.IsListIter i1 l1 i → s.heap.IsListIter i2 l2 i → s.heap.IsList l1 xs → s.heap.IsList l2 ys → s.heap.DictOf (mixKind prog w) d vs → vs.length + (xs.size - i) ≤ sizeLine →
      (∀ h' k vs', h'.DictOf (mixKind prog w) d vs' → vs' = mrgI vs (ks.drop i) (ys.toList.drop i) → (∀ b o, b ≠ z → b ≠ i1 → b ≠ i2 → b ≠ d → s.heap.get? b = some o → h'.get? b = some o) → R (.ok (.ret .none)) { s with heap := h', toks := k }) →
      codeAny (model prog w) A (.builtin "dict.update.loop" ⟨[.ref d, .ref z, .int i tk, .none], []⟩) R s := by
  intro m
  induction m with
  | zero =>
    intro i s tk c vs oT hm hi hz hT hTI h1 h2 hl1 hl2 hd hsz q
    refine codeAny_builtin entry_upd_loop ?_
    rw [Around.under_plainId plain_upd_loop _]
    show wpAny _ A.in1 (pyNext (.ref z) >>= _) _ _ s
    refine wpAny_bind (held_end (by exact hh) D.za hz hT hTI h1 hl1 (Array.getElem?_eq_none (by omega)) fun h' kp => ?_)
    show wpAny _ A.in1 (Builtin.Dict.addKeywords d [] >>= _) _ _ _
    refine wpAny_bind (wpAny_pure (wpAny_pure ?_))
    obtain ⟨o, es, ep, ho, r⟩ := hd
    exact q h' s.toks vs ⟨o, es, ep, kp _ _ D.dz D.d1 D.d2 ho, r⟩ (by rw [List.drop_of_length_le (l := ys.toList) (by rw [Array.length_toList]; omega), mrgI_nil]) fun b o b1 b2 b3 _ e => kp b o b1 b2 b3 e
  | succ m ih =>
    intro i s tk c vs oT hm hi hz hT hTI h1 h2 hl1 hl2 hd hsz q
    obtain ⟨x, hx⟩ : ∃ x, xs[i]? = some x := ⟨_, Array.getElem?_eq_getElem (show i < xs.size by omega)⟩
    obtain ⟨y, hy⟩ : ∃ y, ys[i]? = some y := ⟨_, Array.getElem?_eq_getElem (show i < ys.size by omega)⟩
    obtain ⟨n, t, hn, rfl⟩ := hk i x hx
    refine codeAny_builtin entry_upd_loop ?_
    rw [Around.under_plainId plain_upd_loop _]
    show wpAny _ A.in1 (pyNext (.ref z) >>= _) _ _ s
    refine wpAny_bind (held_next D.za hz hT hTI h1 h2 hl1 hl2 hx hy fun h' hz' h1' h2' hp hsz' kp => ?_)
    have hd' : h'.DictOf (mixKind prog w) d vs := by
      obtain ⟨o, es, ep, ho, r⟩ := hd
      exact ⟨o, es, ep, kp _ _ D.dz D.d1 D.d2 ho, r⟩
    show wpAny _ A.in1 (holding _ _ >>= _) _ _ _
    refine wpAny_bind (wpAny_holding (wpAny_bind (wpAny_tryCatch (pair_items hp ?_))))
    show wpAny _ A.in1 (holding _ (dictSet d (.int n t) y)) _ _ _
    refine wpAny_holding (wpAny_dictSet_pairs (knd := mixKind prog w) (k := .inl n) (mixKind_int prog w n t) hd' (fun h2 dd' hs => ?_) (by omega))
    have k2 : ∀ b o, b ≠ z → b ≠ i1 → b ≠ i2 → b ≠ d → s.heap.get? b = some o → h2.get? b = some o := fun b o b1 b2 b3 b4 e => (hs.2 b b4).trans (kp b o b1 b2 b3 e)
    have st : ∀ b o, b ≠ d → h'.get? b = some o → h2.get? b = some o := fun b o b4 e => (hs.2 b b4).trans e
    have hln := stored_length_le vs (Sum.inl n : Key) y
    refine wpAny_pure ⟨plainId_quiet plain_upd_loop _, ?_⟩
    refine ih (i + 1) _ _ true _ oT (by omega) (by omega) (st _ _ D.dz.symm hz') (k2 _ _ hTz hT1 hT2 hTd hT) (k2 _ _ D.za.TIz D.za.TIi1 D.za.TIi2 D.dI.symm hTI) (h1'.at fun o e => st _ o D.d1.symm e) (h2'.at fun o e => st _ o D.d2.symm e)
      (hl1.at fun o e => k2 _ o D.za.l1z D.za.l1i1 D.za.l1i2 D.dl.symm e) (hl2.at fun o e => k2 _ o D.za.l2z D.za.l2i1 D.za.l2i2 D.dm.symm e) dd' (by omega) fun h3 k vs' hd3 e3 kp3 => ?_
    exact q h3 k vs' hd3 (by rw [e3, mrgI_at hn (show ys.toList[i]? = some y by rw [Array.getElem?_toList]; exact hy)]) fun b o b1 b2 b3 b4 e => kp3 b o b1 b2 b3 b4 (k2 b o b1 b2 b3 b4 e)
/-- from the first pair on -/
theorem upd_firstX {s : Shared} {tk : Tok} {d z TI TO i1 i2 l1 l2 : Addr} {a b : Value} {xs ys : Array Value} {ks : List Int} {vs : List (Key × Value)} (D : DzA d z TI TO i1 i2 l1 l2) (hh : A.handled = none) (he : xs.size = ys.size)
    (hk : ∀ (i : Nat) x, xs[i]? = some x → ∃ n t, ks[i]? = some n ∧ x = Value.int n t) (hz : IsZip s.heap z TI TO .none) (hTO : IsPair s.heap TO a b) (hTI : IsPair s.heap TI (.ref i1) (.ref i2))
    (h1 : s.heap.IsListIter i1 l1 0) (h2 : s.heap.IsListIter i2 l2 0) (hl1 : s.heap.IsList l1 xs) (hl2 : s.heap.IsList l2 ys) (hd : s.heap.DictOf (mixKind prog w) d vs) (hsz : vs.length + xs.size ≤ sizeLine)
    (q : ∀ h' k vs', h'.DictOf (mixKind prog w) d vs' → vs' = mrgI vs ks ys.toList → (∀ b o, b ≠ z → b ≠ TO → b ≠ i1 → b ≠ i2 → b ≠ d → s.heap.get? b = some o → h'.get? b = some o) → R (.ok (.ret .none)) { s with heap := h', toks := k }) :
    codeAny (model prog w) A (.builtin "dict.update.loop" ⟨[.ref d, .ref z, .int 0 tk, .none], []⟩) R s := by
  refine codeAny_builtin entry_upd_loop ?_
  rw [Around.under_plainId plain_upd_loop _]
  show wpAny _ A.in1 (pyNext (.ref z) >>= _) _ _ s
  rcases Nat.eq_zero_or_pos xs.size with h0 | h0
  · refine wpAny_bind (wpAny_pyNext_zip_end (by exact hh) D.za hz hTI hTO h1 h2 hl1 hl2 (.inl (Array.getElem?_eq_none (by omega))) fun h' kp => ?_)
    show wpAny _ A.in1 (Builtin.Dict.addKeywords d [] >>= _) _ _ _
    refine wpAny_bind (wpAny_pure (wpAny_pure ?_))
    obtain ⟨o, es, ep, ho, r⟩ := hd
    exact q h' s.toks vs ⟨o, es, ep, kp _ _ D.dz D.dO D.d1 D.d2 ho, r⟩ (by rw [show ys.toList = [] from List.length_eq_zero_iff.mp (by rw [Array.length_toList]; omega), mrgI_nil]) fun b o b1 b2 b3 b4 _ e => kp b o b1 b2 b3 b4 e
  · obtain ⟨x, hx⟩ : ∃ x, xs[0]? = some x := ⟨_, Array.getElem?_eq_getElem h0⟩
    obtain ⟨y, hy⟩ : ∃ y, ys[0]? = some y := ⟨_, Array.getElem?_eq_getElem (show 0 < ys.size by omega)⟩
    obtain ⟨n, t, hn, rfl⟩ := hk 0 x hx
    refine wpAny_bind (wpAny_pyNext_zip_item D.za hz hTI hTO h1 h2 hl1 hl2 hx hy fun h' hz' _ h1' h2' hp hsz' kp => ?_)
    have hd' : h'.DictOf (mixKind prog w) d vs := by
      obtain ⟨o, es, ep, ho, r⟩ := hd
      exact ⟨o, es, ep, kp _ _ D.dz D.dO D.d1 D.d2 ho, r⟩
    have lt : ∀ {c o}, s.heap.get? c = some o → s.heap.objs.size ≠ c := fun e => Nat.ne_of_gt (Heap.lt_size e)
    have ltd : s.heap.objs.size ≠ d := by
      obtain ⟨o, es, ep, ho, r⟩ := hd
      exact lt ho
    show wpAny _ A.in1 (holding _ _ >>= _) _ _ _
    refine wpAny_bind (wpAny_holding (wpAny_bind (wpAny_tryCatch (pair_items hp ?_))))
    show wpAny _ A.in1 (holding _ (dictSet d (.int n t) y)) _ _ _
    refine wpAny_holding (wpAny_dictSet_pairs (knd := mixKind prog w) (k := .inl n) (mixKind_int prog w n t) hd' (fun hb dd' hs => ?_) (by omega))
    have k2 : ∀ b o, b ≠ z → b ≠ TO → b ≠ i1 → b ≠ i2 → b ≠ d → s.heap.get? b = some o → hb.get? b = some o := fun b o b1 b2 b3 b5 b4 e => (hs.2 b b4).trans (kp b o b1 b2 b3 b5 e)
    have st : ∀ b o, b ≠ d → h'.get? b = some o → hb.get? b = some o := fun b o b4 e => (hs.2 b b4).trans e
    have hln := stored_length_le vs (Sum.inl n : Key) y
    refine wpAny_pure ⟨plainId_quiet plain_upd_loop _, ?_⟩
    refine upd_goX D (T := s.heap.objs.size) (lt hz) (by obtain ⟨_, e, _⟩ := h1; exact lt e) (by obtain ⟨_, e, _⟩ := h2; exact lt e) ltd hh he hk _ 1 _ _ false _ _ rfl h0 (st _ _ D.dz.symm hz') (st _ _ ltd hp) (k2 _ _ D.za.TIz D.za.TITO D.za.TIi1 D.za.TIi2 D.dI.symm hTI) (h1'.at fun o e => st _ o D.d1.symm e) (h2'.at fun o e => st _ o D.d2.symm e)
      (hl1.at fun o e => k2 _ o D.za.l1z D.za.l1TO D.za.l1i1 D.za.l1i2 D.dl.symm e) (hl2.at fun o e => k2 _ o D.za.l2z D.za.l2TO D.za.l2i1 D.za.l2i2 D.dm.symm e) dd' (by omega) fun h3 k vs' hd3 e3 kp3 => ?_
    exact q h3 k vs' hd3 (by rw [e3]; exact (mrgI_at (i := 0) hn (show ys.toList[0]? = some y by rw [Array.getElem?_toList]; exact hy)).symm) fun b o b1 b2 b3 b5 b4 e => kp3 b o b1 b3 b5 b4 (k2 b o b1 b2 b3 b5 b4 e)
theorem call_dict_zipX {s : Shared} {z TI TO i1 i2 l1 l2 : Addr} {a b : Value} {xs ys : Array Value} {ks : List Int} {Q : Value → Shared → Prop} (D : ZipApart z TI TO i1 i2 l1 l2) (hh : A.handled = none) (he : xs.size = ys.size)
    (hk : ∀ (i : Nat) x, xs[i]? = some x → ∃ n t, ks[i]? = some n ∧ x = Value.int n t) (hz : IsZip s.heap z TI TO .none) (hTO : IsPair s.heap TO a b) (hTI : IsPair s.heap TI (.ref i1) (.ref i2))
    (h1 : s.heap.IsListIter i1 l1 0) (h2 : s.heap.IsListIter i2 l2 0) (hl1 : s.heap.IsList l1 xs) (hl2 : s.heap.IsList l2 ys) (hsz : xs.size ≤ sizeLine)
    (q : ∀ h' k vs', h'.DictOf (mixKind prog w) s.heap.objs.size vs' → vs' = mrgI [] ks ys.toList → (∀ b o, b ≠ z → b ≠ TO → b ≠ i1 → b ≠ i2 → s.heap.get? b = some o → h'.get? b = some o) → Q (.ref s.heap.objs.size) { s with heap := h', toks := k }) :
    wpAny (model prog w) A (call (.type "dict") [.ref z]) Q E s := by
  refine callType_codes (Q₁ := fun obj s₁ => obj = .ref s.heap.objs.size ∧ s₁ = { s with heap := s.heap.push { cls := .type "dict", data := .dict #[] } }) PySem.F.kt_called_dict (PySem.F.kt_typeCall_dict_1 _) PySem.F.entry_dict_init (kt_code_dict_new _ ⟨rfl, rfl⟩) ?_
  rintro obj s₁ ⟨rfl, rfl⟩
  have hnew : (s.heap.push { cls := .type "dict", data := .dict #[] }).DictOf (mixKind prog w) s.heap.objs.size [] := Heap.DictOf.new s.heap
  have up : ∀ b o, s.heap.get? b = some o → (s.heap.push { cls := .type "dict", data := .dict #[] }).get? b = some o := fun b o e => Heap.get?_push_of_some _ e
  have lt : ∀ {c o}, s.heap.get? c = some o → s.heap.objs.size ≠ c := fun e => Nat.ne_of_gt (Heap.lt_size e)
  refine ⟨hnew.typeIs, PySem.F.args_dict_init_2 _ _, ?_⟩
  unfold Builtin.«dict.__init__»
  refine wpAny_bind ?_
  unfold Builtin.Dict.selfAndRest
  refine wpAny_bind (wpAny_notOrdered_dict hnew.typeIs ?_)
  show wpAny _ _ (pure (s.heap.objs.size, [Value.ref z])) _ _ _
  refine wpAny_pure ?_
  show wpAny _ _ (Builtin.Dict.updateFrom "dict.__init__" s.heap.objs.size (.ref z) [] .none) _ _ _
  unfold Builtin.Dict.updateFrom
  have hz' := up _ _ hz
  refine wpAny_bind (wpAny_typeOf (T := "zip") ⟨_, hz', rfl⟩ ?_)
  rw [if_pos (by decide)]
  refine wpAny_bind (no_keys hz' (by exact hh) fun h' tk kp => ?_)
  rw [if_pos (by rfl)]
  refine wpAny_bind (wpAny_rule (wpAny_bind (wpAny_pyIter_zip (kp _ _ hz') ?_)))
  have up2 : ∀ b o, s.heap.get? b = some o → h'.get? b = some o := fun b o e => kp _ _ (up b o e)
  have hd' : h'.DictOf (mixKind prog w) s.heap.objs.size [] := by
    obtain ⟨o, es, ep, ho, r⟩ := hnew
    exact ⟨o, es, ep, kp _ _ ho, r⟩
  refine wpAny_pure ⟨plainId_quiet plain_upd_loop _, ?_⟩
  refine upd_firstX (a := a) (b := b) (vs := []) ⟨D, lt hz, lt hTI, lt hTO, ?_, ?_, ?_, ?_⟩ (by exact hh) he hk (up2 _ _ hz) (up2 _ _ hTO) (up2 _ _ hTI) (h1.at fun o e => up2 _ o e) (h2.at fun o e => up2 _ o e) (hl1.at fun o e => up2 _ o e) (hl2.at fun o e => up2 _ o e) hd' (by simpa using hsz) fun h3 k vs' hd3 e3 kp3 => ?_
  · obtain ⟨_, e, _⟩ := h1; exact lt e
  · obtain ⟨_, e, _⟩ := h2; exact lt e
  · obtain ⟨_, e, _⟩ := hl1; exact lt e
  · obtain ⟨_, e, _⟩ := hl2; exact lt e
  · exact ⟨rfl, q h3 k vs' hd3 e3 fun b o b1 b2 b3 b4 e => kp3 b o b1 b2 b3 b4 (lt e).symm (up2 _ _ e)⟩
end
end L2
end

section
set_option Elab.async false
set_option linter.all false
set_option maxRecDepth 100000
set_option maxHeartbeats 4000000
/-! Dicts with their content: the rules. -/
namespace L2
open PySem PySem.Spec PyProof.Rows
def mrgV (kvs : List (Key × V)) : List Int → List V → List (Key × V)
  | k :: ks, y :: ys => mrgV (putK kvs (.inl k) y) ks ys
  | _, _ => kvs
theorem kv_mrg : ∀ {ks : List Int} {ys : List V} {us : List Value} {kvs : List (Key × V)} {vs : List (Key × Value)}, KV kvs vs → Vals ys us → KV (mrgV kvs ks ys) (mrgI vs ks us)
  | [], _, _, _, _, h, _ => h
  | _ :: _, _, _, _, _, h, .nil => h
  | k :: ks, y :: ys, u :: us, kvs, vs, h, .cons r t => by
    show KV (mrgV (putK kvs (.inl k) y) ks ys) (mrgI (stored vs (.inl k) u) ks us)
    exact kv_mrg (h.put (.inl k) r) t
section
variable {X : Cx}
def tDZipX (K : PySem.W.Frag) (ta : TA) : TE := fun σ H Q => ta σ H fun vs H1 => ∃ a b ns ys, vs = [.ref a, .ref b] ∧ SqL K H1 a (List.map V.int ns) ∧ SqL K H1 b ys ∧ ns.length = ys.length ∧ (mrgV [] ns ys).length ≤ ns.length ∧ ∀ p, H1 p = none → Q (.ref p) (upd H1 p (.dK (mrgV [] ns ys)))
theorem pe_dzipX {a b : Expr} {ta : TA} {p q pos pos2 : Pos} (hcal : X.calm = true) (hg : Gl X "dict") (hm : X.mg "dict" = none) (hg2 : Gl X "zip") (hm2 : X.mg "zip" = none) (ha : PA X [a, b] ta)
    (hs : starEach [a, b] X.env = [(false, eval a X.env), (false, eval b X.env)] := by rfl) (hs2 : starEach [b] X.env = [(false, eval b X.env)] := by rfl)
    (hs3 : starEach [Expr.Call (.Name "zip" q) [a, b] [] pos2] X.env = [(false, eval (.Call (.Name "zip" q) [a, b] [] pos2) X.env)] := by rfl) :
    PE X (.Call (.Name "dict" p) [.Call (.Name "zip" q) [a, b] [] pos2] [] pos) (tDZipX X.K ta) := by
  intro pins s σ H Q I h
  refine wpAny_Call_Name_kw (ld_blt I hg hm b_dict (PyProof.Rows.callWith_type1 ?_ hs3 rfl) (by decide) (by decide))
  rw [hs3]
  refine Calls.spliced_cons ?_
  show wpAny _ _ (eval (Expr.Call (.Name "zip" q) [a, b] [] pos2) X.env) _ _ _
  refine wpAny_Call_Name_kw (ld_blt I hg2 hm2 b_zip (PyProof.Rows.callWith_type1 (thn (ha pos2 pins s σ H _ I h) fun us s1 ⟨vs, H1, I1, r1, q1⟩ => ?_) (by rw [hs, hs2]) (by rw [hs2]; rfl)) (by decide) (by decide))
  obtain ⟨a, b, ns, ys, e, hx, hy, hl, hml, q⟩ := q1
  subst e
  obtain ⟨u, v, rfl, ru, rv⟩ := vals2 r1
  cases ru
  cases rv
  obtain ⟨its, rv, p, hz⟩ := I1.list hx
  obtain ⟨its2, rv2, p2, hz2⟩ := I1.list hy
  have l1 := rv.length
  have l2 := rv2.length
  rw [List.length_map] at l1
  refine call_zip_2 p.isList p2.isList fun h' g1 g2 g3 g4 g5 hsz kk => ?_
  refine Calls.spliced_nil ?_
  have A1 : h'.IsList a its.toArray := p.isList.at fun o e => kk _ o e
  have A2 : h'.IsList b its2.toArray := p2.isList.at fun o e => kk _ o e
  have D := apartZ (apartZ_new _) (⟨g1, g2, ⟨_, _, g3⟩, g4, g5⟩ : StZ _ _ _ _ _ a b 0 h') A1 A2
  refine call_dict_zipX (s := { s1 with heap := h' }) (ks := ns) D (I1.ok.hd hcal) (by simp; omega) (fun i x e => ?_) g1 g3 g2 g4 g5 A1 A2 (by simp; rw [List.length_map] at hz; omega) fun h2 k vs' d2 ev kp => ?_
  · have e' : its[i]? = some x := by simpa using e
    have li := (List.getElem?_eq_some_iff.mp e').1
    have hn : (List.map V.int ns)[i]? = some (.int (ns[i]'(by omega))) := by rw [List.getElem?_map, List.getElem?_eq_getElem (by omega)]; rfl
    obtain ⟨u, hu, t, rfl⟩ := rv.get hn
    rw [e'] at hu
    cases hu
    exact ⟨_, _, List.getElem?_eq_getElem (by omega), rfl⟩
  · have hk : KV (mrgV [] ns ys) vs' := by rw [ev]; exact kv_mrg .nil rv2
    have hle : s1.heap.objs.size ≤ h'.objs.size := by omega
    refine ⟨.ref h'.objs.size, _, I1.laid (a := h'.objs.size) (o := .dK (mrgV [] ns ys)) (t' := k) (fun b o e => ?_) hle ⟨?_, ?_, vs', hk, d2⟩, rfl, q _ (I1.hok.fresh hle)⟩
    · have lt := Heap.lt_size e
      have ne : ∀ c, s1.heap.objs.size ≤ c → b ≠ c := fun c hc z => Nat.lt_irrefl _ (Nat.lt_of_lt_of_le lt (z ▸ hc))
      exact kp b o (ne _ (Nat.le_add_right _ _)) (ne _ (Nat.le_add_right _ _)) (ne _ (Nat.le_refl _)) (ne _ (Nat.le_add_right _ _)) (kk _ _ e)
    · rw [List.length_map] at hz; omega
    · exact beq_eq_false_iff_ne.mpr (Ne.symm (Nat.ne_of_lt (Nat.lt_of_lt_of_le (inv_big I1) hle)))
theorem r_dzipX {σ : St} {H : Hp} {Q : VK} {ta : TA} {K : PySem.W.Frag} (h : ta σ H fun vs H1 => ∃ a b ns ys, vs = [.ref a, .ref b] ∧ SqL K H1 a (List.map V.int ns) ∧ SqL K H1 b ys ∧ ns.length = ys.length ∧ (mrgV [] ns ys).length ≤ ns.length ∧ ∀ p, H1 p = none → Q (.ref p) (upd H1 p (.dK (mrgV [] ns ys)))) : tDZipX K ta σ H Q := h
/-- d.update(e), d and e dicts -/
def rUpdateX : V → List V → Hp → VK → Prop := fun x vs H Q => ∃ a b kvs kvs2, x = .ref a ∧ vs = [.ref b] ∧ a ≠ b ∧ H a = some (.dK kvs) ∧ H b = some (.dK kvs2) ∧ kvs.length + kvs2.length ≤ sizeLine ∧ Q .non (upd H a (.dK (mergeK kvs kvs2)))
theorem mt_updateX : MtM X "dict.update" rUpdateX := by
  intro pins s σ H x vs v us Q I rx rv h
  obtain ⟨a, b, kvs, kvs2, rfl, rfl, hne, hA, hB, hz, q⟩ := h
  cases rx
  obtain ⟨u, rfl, ru⟩ := vals1 rv
  cases ru
  obtain ⟨z1, m1, v1, k1, d1⟩ := (show ObjOk X.prog X.w H s.heap a (.dK kvs) from I.hok a _ hA)
  obtain ⟨z2, m2, v2, k2, d2⟩ := (show ObjOk X.prog X.w H s.heap b (.dK kvs2) from I.hok b _ hB)
  have e1 := kv_length k1
  have e2 := kv_length k2
  refine call_meetsIn PySem.F.slot_dict_update d1.typeIs PySem.F.entry_dict_update (PySem.F.args_dict_update_2 _ _) (meets_dict_update (mixKind X.prog X.w) a b hne m2)
    ⟨v1, v2, d1, d2, by omega, fun h' dd _ hs => ?_⟩
  have lm := length_mergeK kvs2 kvs
  refine ⟨.non, _, I.write (x := a) (e := a) (o := .dK (mergeK kvs kvs2)) (t' := s.toks) (by rw [hA]; trivial) (.inl rfl) (fun b u hb e => (hs.2 b hb).trans e) ?_ ⟨by omega, m1, _, k2.merge k1, dd⟩, rfl, q⟩
  obtain ⟨o, es, ep, ho, r⟩ := dd
  exact ⟨o, ho⟩
theorem r_updateX {H : Hp} {a b : Addr} {kvs kvs2 : List (Key × V)} {Q : VK} (hn : a ≠ b) (h1 : H a = some (.dK kvs)) (h2 : H b = some (.dK kvs2)) (hz : kvs.length + kvs2.length ≤ sizeLine) (q : Q .non (upd H a (.dK (mergeK kvs kvs2)))) : rUpdateX (.ref a) [.ref b] H Q :=
  ⟨a, b, kvs, kvs2, rfl, rfl, hn, h1, h2, hz, q⟩
/-! ### x in d, d[k], d[k] = v -/
def rInD : R2 := fun x y H Q => ∃ d kvs k, x = .int k ∧ y = .ref d ∧ H d = some (.dK kvs) ∧ Q (.bl (valV kvs (.inl k)).isSome) H
def rNotInD : R2 := fun x y H Q => ∃ d kvs k, x = .int k ∧ y = .ref d ∧ H d = some (.dK kvs) ∧ Q (.bl (!(valV kvs (.inl k)).isSome)) H
theorem op_inD : OpR X (compareOp .In) rInD := by
  intro pins s σ H x y v u Q I rx ry h
  obtain ⟨d, kvs, k, rfl, rfl, hd, q⟩ := h
  cases ry
  obtain ⟨z, hs, vs, rel, dd⟩ := dk_of I.hok hd
  refine wpAny_in_of (kV_is (k := .inl k) rx) hs dd.mapOf ?_
  refine ⟨.bl _, H, I.tok _, ?_, q⟩
  rw [(rel.val (.inl k)).isSome_eq]
  rfl
theorem op_notInD : OpR X (compareOp .NotIn) rNotInD := by
  intro pins s σ H x y v u Q I rx ry h
  obtain ⟨d, kvs, k, rfl, rfl, hd, q⟩ := h
  cases ry
  obtain ⟨z, hs, vs, rel, dd⟩ := dk_of I.hok hd
  refine wpAny_notIn_of (kV_is (k := .inl k) rx) hs dd.mapOf ?_
  refine ⟨.bl _, H, I.tok _, ?_, q⟩
  rw [(rel.val (.inl k)).isSome_eq]
  rfl
theorem r_inD {H : Hp} {Q : VK} {d : Addr} {kvs : List (Key × V)} {k : Int} (hd : H d = some (.dK kvs)) (q : Q (.bl (valV kvs (.inl k)).isSome) H) : rInD (.int k) (.ref d) H Q := ⟨d, kvs, k, rfl, rfl, hd, q⟩
theorem r_notInD {H : Hp} {Q : VK} {d : Addr} {kvs : List (Key × V)} {k : Int} (hd : H d = some (.dK kvs)) (q : Q (.bl (!(valV kvs (.inl k)).isSome)) H) : rNotInD (.int k) (.ref d) H Q := ⟨d, kvs, k, rfl, rfl, hd, q⟩
def rIxD : R2 := fun x y H Q => ∃ d kvs k v, x = .ref d ∧ y = .int k ∧ H d = some (.dK kvs) ∧ valV kvs (.inl k) = some v ∧ Q v H
theorem ix_dict : IxR X rIxD := by
  intro value slice pins s σ H x y v u Q I rx ry h hs
  obtain ⟨d, kvs, k, z, rfl, rfl, hd, hv, q⟩ := h
  cases rx
  obtain ⟨_, _, vs, rel, dd⟩ := dk_of I.hok hd
  obtain ⟨w', hw, rw'⟩ := RelO.some_of (v := z) (o := valueAt vs (.inl k)) (by rw [← hv]; exact rel.val (.inl k))
  exact tail_any dd.typeIs PySem.F.slot_dict_getitem.lookup (wpAny_getItem_of (kV_is (k := .inl k) ry) dd.mapOf hw ⟨z, H, I.tok _, rw', q⟩) hs
theorem r_ixD {H : Hp} {Q : VK} {d : Addr} {kvs : List (Key × V)} {k : Int} {v : V} (hd : H d = some (.dK kvs)) (hv : valV kvs (.inl k) = some v) (q : Q v H) : rIxD (.ref d) (.int k) H Q := ⟨d, kvs, k, v, rfl, rfl, hd, hv, q⟩
def rSetD : TSet := fun o i v H Q => ∃ d kvs k, o = .ref d ∧ i = .int k ∧ H d = some (.dK kvs) ∧ kvs.length < sizeLine ∧ Q (upd H d (.dK (putK kvs (.inl k) v)))
theorem set_dict : PSet X rSetD := by
  intro pins s σ H o i v ov iv u Q I ro ri rv h
  obtain ⟨d, kvs, k, rfl, rfl, hd, hl, q⟩ := h
  cases ro
  obtain ⟨z, hm, vs, rel, dd⟩ := dk_of I.hok hd
  have hz : vs.length ≤ sizeLine := by rw [← rel.length]; exact z
  have hl : (putK kvs (.inl k) v).length ≤ sizeLine := by have := length_putK kvs (.inl k : Key) v; omega
  refine wpAny_setItem_pairs (hsz := hz) (kV_is (k := .inl k) ri) dd fun h' dd' hs => ⟨_, ?_, q⟩
  have he : ∃ q, h'.get? d = some q := let ⟨q, _, _, hq, _⟩ := dd'; ⟨q, hq⟩
  exact d_write I (by rw [hd]; exact True.intro) hs he (dk_new hl hm (rel.put (.inl k) rv) dd')
theorem r_setD {H : Hp} {d : Addr} {kvs : List (Key × V)} {k : Int} {v : V} {R : Hp → Prop} (hd : H d = some (.dK kvs)) (hl : kvs.length < sizeLine) (q : R (upd H d (.dK (putK kvs (.inl k) v)))) : rSetD (.ref d) (.int k) v H R := ⟨d, kvs, k, rfl, rfl, hd, hl, q⟩
end
/-! ### xs[::st], with its content -/
theorem step_range (st : Nat) (n : Nat) (hs : 0 < st) : sliceRange (sliceBounds none none (some (st : Int)) n).1 (sliceBounds none none (some (st : Int)) n).2.1 (sliceBounds none none (some (st : Int)) n).2.2 = (List.range ((n + st - 1) / st)).map (· * st) := by
  have h0 : (st : Int) > 0 := by omega
  have e : sliceBounds none none (some (st : Int)) n = (0, (n : Int), (st : Int)) := by simp [sliceBounds, h0]; omega
  rw [e]
  unfold sliceRange
  dsimp only
  rw [if_pos h0]
  have e2 : (if (0 : Int) < (n : Int) then ((n : Int) - 0 + st - 1) / (st : Int) else 0).toNat = (n + st - 1) / st := by
    split
    · rw [show (n : Int) - 0 + st - 1 = ((n + st - 1 : Nat) : Int) by omega, ← Int.natCast_ediv, Int.toNat_natCast]
    · rw [show n = 0 by omega, Nat.zero_add, Nat.div_eq_of_lt (by omega)]
      rfl
  rw [e2]
  refine List.map_congr_left fun k _ => ?_
  rw [Int.zero_add, ← Int.natCast_mul, Int.toNat_natCast, Nat.mul_comm]
def pick (st : Nat) (xs : List V) : List V := ((List.range ((xs.length + st - 1) / st)).map (· * st)).filterMap fun i => xs[i]?
def tStepX (K : PySem.W.Frag) (te ts : TE) : TE := fun σ H Q => te σ H fun x H1 => ts σ H1 fun y H2 => ∃ a xs, ∃ st : Nat, x = .ref a ∧ y = .int st ∧ 0 < st ∧ SqL K H2 a xs ∧ ∀ p, H2 p = none → Q (.ref p) (upd H2 p (.lst (pick st xs)))
section
variable {X : Cx} {e st : Expr} {te ts : TE} {pos p2 : Pos}
theorem pe_stepX (he : PE X e te) (hst : PE X st ts) : PE X (.Subscript e (.Slice none none (some st) p2) pos) (tStepX X.K te ts) := by
  intro pins s σ H Q I h
  refine Subscript_ (thn (he pins s σ H _ I h) fun v s1 ⟨x, H1, I1, r1, q1⟩ => ?_)
  refine wpAny_Slice ?_
  rw [evalPart_none]
  refine wpAny_pure ?_
  refine wpAny_pure ?_
  rw [evalPart_some]
  refine thn (hst pins s1 σ H1 _ I1 q1) fun u s3 ⟨y, H3, I3, r3, a, xs, k, ex, ey, hk, hs, q⟩ => ?_
  subst ex ey
  obtain rfl : v = Value.ref a := r1
  obtain ⟨t, rfl⟩ := r3
  have I4 : Inv X pins σ H3 { s3 with heap := s3.heap.push { cls := .type "slice", data := .fields #[.none, .none, .int k t] } } := I3.kept (t' := s3.toks) fun b ob q => Heap.get?_push_of_some _ q
  obtain ⟨its, r, pl, hz⟩ := I4.list hs
  have e1 := r.length
  show wpAny (model X.prog X.w) X.A (subscriptTail e (.Slice none none (some st) p2) (.ref a) (.ref s3.heap.objs.size)) (EP X pins σ Q) X.xe { s3 with heap := s3.heap.push { cls := .type "slice", data := .fields #[.none, .none, .int k t] } }
  refine tail_any (ops := [.ref a, .ref s3.heap.objs.size]) pl.isList.typeIs list_getitem_lookup ?_ (by with_unfolding_all rfl)
  refine wpAny_getItem_list_slice pl.isList (Heap.IsSliceOf.new ..) .none .none (.int k t) (by intro z; have := Option.some.inj z; omega) ?_ (by rw [List.size_toArray]; omega)
  have hp : slicePick its.toArray none none (some (k : Int)) = ((((List.range ((its.length + k - 1) / k)).map (· * k))).filterMap fun i => its[i]?).toArray := by
    rw [← step_range k its.length hk]
    unfold slicePick
    simp
  have hlen : (pick k xs).length ≤ xs.length := by
    have := slicePick_size_le its.toArray none none (some (k : Int))
    rw [hp, List.size_toArray, ← (vals_pick r _).length, List.size_toArray, ← e1] at this
    exact this
  rw [hp, ← e1]
  exact ⟨.ref _, _, I4.lnew (t' := s3.toks) (vals_pick r _) (Nat.le_trans hlen hz), rfl, q _ (I4.hok.fresh (Nat.le_refl _))⟩
theorem r_stepX {K : PySem.W.Frag} {σ : St} {H : Hp} {Q : VK} (h : te σ H fun x H1 => ts σ H1 fun y H2 => ∃ a xs, ∃ st : Nat, x = .ref a ∧ y = .int st ∧ 0 < st ∧ SqL K H2 a xs ∧ ∀ p, H2 p = none → Q (.ref p) (upd H2 p (.lst (pick st xs)))) : tStepX K te ts σ H Q := h
end
/-! ### a class called with its last argument left out -/
structure MkrED (P : Program) (w : World) (K : PySem.W.Frag) (mg : Str → Option Value) (base : Heap) (name : Str) (C : Addr) (k : Nat) (ps : List Str) (sp : Sp) (dvs : List V) : Prop where
  ex : ∃ (f : Addr) (fd : FuncData) (ds : List Value), FnOk P w K mg base (CXE P w) k f fd ps sp ∧ Binds K fd ps ds ∧ Vals dvs ds ∧ Mk K C f ∧ mg name = some (.ref C)
section
variable {X : Cx} {k : Nat} {C : Addr} {ps : List Str} {sp : Sp} {dvs : List V} {name m : Str} {p pos apos : Pos} {e o : Expr} {es : List Expr} {ta : TE} {t : TA} {E : XK}
theorem pe_mkED (M : MkrED X.prog X.w X.K X.mg X.base name C k ps sp dvs) (hr : Room (k + 1) X.A) (hx : Passes (CXE X.prog X.w) X E) (ha : PA X (e :: es) t) (hg : Gl X name := by rfl) (hdb : (name == ("__debug__" : Str)) = false := by decide)
    (he : starEach (e :: es) X.env = (false, eval e X.env) :: starEach es X.env := by rfl) (hpl : (backTo pos (starEach es X.env)).any (·.1) = false := by rfl) : PE X (.Call (.Name name p) (e :: es) [] pos) (tMake C sp dvs E t) := by
  obtain ⟨f, fd, ds, F, b, rd, M, hm⟩ := M.ex
  exact pe_make M F hr hg hm b rd hx ha hdb he hpl
end
theorem call_lenK (K : PySem.W.Frag) {X : Cx} (h : X.K = K := by rfl) : CallR X (.builtin "len") (fun xs H Q => ∃ p ys, xs = [.ref p] ∧ (SqL K H p ys ∨ SqT K H p ys) ∧ Q (.int ys.length) H) := by
  subst h
  exact call_len_seq
theorem FunD.bindsD {K : PySem.W.Frag} {x qual : Str} {st : Stmt} {T : Addr} {ps : List Str} {kV doc pm cdv ct v : Value} {an : Option Addr} {o : Obj} {n m : Nat} (hT : K.lookup T = some o) (hd : o.data = .seq #[v] n) (hm : ps.length = m + 1)
    (h : ∀ (us : List Value), us.length = m → ∃ k, bindArgs (PySem.W.fnOf x qual (defArgs st) (defBody st) (defScope st) (.ref T) kV doc pm an cdv ct) ⟨us, []⟩ = seqItems? (.ref T) >>= k ∧ k (some #[v]) = pure (ps.zip (us ++ [v]))) : Binds K (PySem.W.fnOf x qual (defArgs st) (defBody st) (defScope st) (.ref T) kV doc pm an cdv ct) ps [v] := by
  intro s us KX hl
  obtain ⟨k, h1, h2⟩ := h us (by rw [List.length_append, hm] at hl; exact Nat.succ.inj hl)
  exact BindsTo.of_defaults rfl (KX _ _ hT) hd h1 h2
end L2
end

section
/-! Tightwood, the mathematics of words: bits as lists of truths, their worth, how many are true, where they are. -/
namespace TW
end TW
end

section
/-! Tightwood, the mathematics of rows: words of 32, blocks of 256, counts ahead. -/
namespace TW
end TW
end

section
/-! Tightwood, the mathematics of rows: words told as signs again. -/
namespace TW
end TW
end

section
/-! Tightwood, the mathematics of counts: places of a bit, word by word. -/
namespace TW
end TW
end

section
set_option Elab.async false
set_option linter.all false
/-! How many texts of m signs lead from k open knots to none; the first one of each even row is the count of woods. -/
namespace TW
end TW
end

section
set_option Elab.async false
set_option linter.all false
/-! Rows whose heights stay within a cap. -/
namespace TW
end TW
end

section
set_option Elab.async false
set_option linter.all false
/-! Woods by the depths of their knots; their rows; their numbers. -/
namespace TW
def dAt (ds : List Nat) (k : Nat) : Nat := ds.getD k 0
/-- how many are open ahead of the knot k -/
def opn (ds : List Nat) : Nat → Nat
  | 0 => 0
  | k + 1 => dAt ds k + 1
/-- the way of the knots that may be its elder -/
def way (ds : List Nat) : Nat → List Int
  | 0 => [-1]
  | k + 1 => (way ds k).take (dAt ds k + 1) ++ [(k : Int)]
def Dok (ds : List Nat) : Prop := ∀ k, k < ds.length → dAt ds k ≤ opn ds k
theorem way_len {ds : List Nat} (h : Dok ds) : ∀ k, k ≤ ds.length → (way ds k).length = opn ds k + 1
  | 0, _ => rfl
  | k + 1, hk => by
    show ((way ds k).take (dAt ds k + 1) ++ [(k : Int)]).length = dAt ds k + 1 + 1
    have := way_len h k (by omega)
    have := h k (by omega)
    rw [List.length_append, List.length_take]
    simp only [List.length_cons, List.length_nil]
    omega
theorem way_zero {ds : List Nat} (h : Dok ds) : ∀ k, k ≤ ds.length → (way ds k)[0]? = some (-1)
  | 0, _ => rfl
  | k + 1, hk => by
    show ((way ds k).take (dAt ds k + 1) ++ [(k : Int)])[0]? = some (-1)
    have e := way_zero h k (by omega)
    have hl := way_len h k (by omega)
    rw [List.getElem?_append_left (by rw [List.length_take]; omega), List.getElem?_take_of_lt (by omega)]
    exact e
theorem way_at {ds : List Nat} (h : Dok ds) : ∀ (k j : Nat) (x : Int), k ≤ ds.length → (way ds k)[j + 1]? = some x → ∃ v : Nat, x = (v : Int) ∧ v < k ∧ dAt ds v = j
  | 0, j, x, _, e => by cases e
  | k + 1, j, x, hk, e => by
    have e : ((way ds k).take (dAt ds k + 1) ++ [(k : Int)])[j + 1]? = some x := e
    have hl := way_len h k (by omega)
    have hd := h k (by omega)
    have hl2 : ((way ds k).take (dAt ds k + 1)).length = dAt ds k + 1 := by rw [List.length_take]; omega
    by_cases hj : j + 1 < dAt ds k + 1
    · rw [List.getElem?_append_left (by omega), List.getElem?_take_of_lt hj] at e
      obtain ⟨v, hv, hlt, hdv⟩ := way_at h k j x (by omega) e
      exact ⟨v, hv, by omega, hdv⟩
    · rw [List.getElem?_append_right (by omega), hl2] at e
      have e0 : j + 1 - (dAt ds k + 1) = 0 := by
        have := (List.getElem?_eq_some_iff.mp e).1
        simp only [List.length_cons, List.length_nil] at this
        omega
      rw [e0] at e
      have e := Option.some.inj e
      exact ⟨k, e.symm, by omega, by omega⟩
theorem way_lt {ds : List Nat} (h : Dok ds) : ∀ (k i j : Nat) (x y : Int), k ≤ ds.length → i < j → (way ds k)[i]? = some x → (way ds k)[j]? = some y → x < y
  | 0, i, j, x, y, _, hij, e1, e2 => by
    have := (List.getElem?_eq_some_iff.mp e2).1
    simp only [way, List.length_cons, List.length_nil] at this
    omega
  | k + 1, i, j, x, y, hk, hij, e1, e2 => by
    have hl := way_len h k (by omega)
    have hd := h k (by omega)
    have hl2 : ((way ds k).take (dAt ds k + 1)).length = dAt ds k + 1 := by rw [List.length_take]; omega
    have e2' : ((way ds k).take (dAt ds k + 1) ++ [(k : Int)])[j]? = some y := e2
    have e1' : ((way ds k).take (dAt ds k + 1) ++ [(k : Int)])[i]? = some x := e1
    by_cases hj : j < dAt ds k + 1
    · rw [List.getElem?_append_left (by omega), List.getElem?_take_of_lt hj] at e2'
      rw [List.getElem?_append_left (by omega), List.getElem?_take_of_lt (by omega)] at e1'
      exact way_lt h k i j x y (by omega) hij e1' e2'
    · rw [List.getElem?_append_right (by omega), hl2] at e2'
      have e0 : j - (dAt ds k + 1) = 0 := by
        have := (List.getElem?_eq_some_iff.mp e2').1
        simp only [List.length_cons, List.length_nil] at this
        omega
      rw [e0] at e2'
      have ey := Option.some.inj e2'
      rw [List.getElem?_append_left (by omega), List.getElem?_take_of_lt (by omega)] at e1'
      cases i with
      | zero =>
        rw [way_zero h k (by omega)] at e1'
        have := Option.some.inj e1'
        omega
      | succ i =>
        obtain ⟨v, hv, hlt, _⟩ := way_at h k i x (by omega) e1'
        omega
end TW
end

section
set_option Elab.async false
set_option linter.all false
/-! A number leads to its row; woods beside or upon one another. -/
namespace TW
theorem way_pos {B : List Nat} (hB : Dok B) {k : Nat} (h : k ≤ B.length) : way B k = -1 :: (way B k).tail := by
  have e := way_zero hB k h
  cases hw : way B k with
  | nil => rw [hw] at e; cases e
  | cons x r =>
    rw [hw] at e
    obtain rfl := Option.some.inj e
    rfl
end TW
end

section
set_option Elab.async false
set_option linter.all false
/-! The next row. -/
namespace TW
/-- the height behind a beginning -/
def hN : Nat → List Bool → Nat
  | h, [] => h
  | h, false :: s => hN (h - 1) s
  | h, true :: s => hN (h + 1) s
end TW
end

section
set_option linter.all false
/-! Numbers as rows of signs, the greatest first; how many are needed. -/
namespace TW
end TW
end

set_option Elab.async false
set_option linter.all false
set_option maxRecDepth 100000
set_option maxHeartbeats 4000000
local macro_rules | `(tactic| walk_at "rd") => `(tactic| repeat (first | with_reducible refine L2.r_seq ?_ | with_reducible refine L2.r_next ?_ | with_reducible refine L2.r_asg ?_ | with_reducible refine L2.r_gname ?_ | with_reducible refine L2.r_ret ?_ | with_reducible refine L2.r_retN ?_ | with_reducible refine L2.r_drop ?_ | with_reducible refine L2.r_ifs ?_ | with_reducible refine L2.r_test ?_ | with_reducible refine L2.r_tB ?_ | with_reducible refine L2.r_not ?_ | with_reducible refine L2.r_and ?_ | with_reducible refine L2.r_or ?_ | with_reducible refine L2.r_isN ?_ | with_reducible refine L2.r_notN ?_ | with_reducible refine L2.r_op ?_ | with_reducible refine L2.r_un ?_ | with_reducible refine L2.r_rU ?_ | with_reducible refine L2.r_c ?_ | with_reducible refine L2.r_rI0 ?_ | with_reducible refine L2.r_ipI ?_ | with_reducible refine L2.r_bl ?_ | with_reducible refine L2.r_int ?_ | with_reducible refine L2.r_nil ?_ | with_reducible refine L2.r_cons ?_ | with_reducible refine L2.r_call ?_ | with_reducible refine L2.r_cB ?_ | with_reducible refine L2.r_lst ?_ | with_reducible refine L2.r_tup ?_ | with_reducible refine L2.r_bm ?_ | with_reducible refine L2.r_bm0 ?_ | with_reducible refine L2.r_sl ?_ | with_reducible refine L2.r_nopart ?_ | with_reducible refine L2.r_part ?_ | with_reducible refine L2.r_for ?_ | with_reducible refine L2.r_rng1 ?_ | with_reducible refine L2.r_rng2 ?_ | with_reducible refine L2.r_rng3 ?_ | with_reducible refine L2.r_ilist ?_ | with_reducible refine L2.r_itup ?_ | with_reducible refine L2.r_istr ?_ | with_reducible refine L2.r_lc ?_ | with_reducible refine L2.r_yes ?_ | with_reducible refine L2.r_ifE ?_ | with_reducible refine L2.r_chain ?_ | with_reducible refine L2.r_andV ?_ | with_reducible refine L2.r_orV ?_ | with_reducible refine L2.r_notV ?_ | with_reducible refine L2.r_fld ?_ | with_reducible refine L2.r_sfld ?_ | with_reducible refine L2.r_make ?_ | with_reducible refine L2.r_meth ?_ | with_reducible refine L2.r_rev ?_ | with_reducible refine L2.r_cBK ?_ | with_reducible refine L2.r_izip ?_ | with_reducible refine L2.r_ienum ?_ | with_reducible refine L2.r_lc2 ?_ | with_reducible refine L2.r_ienumS ?_ | with_reducible refine L2.r_rngD ?_ | with_reducible refine L2.r_dnew ?_ | with_reducible refine L2.r_binit ?_ | with_reducible refine L2.r_fstr ?_ | with_reducible refine L2.r_splace ?_ | with_reducible refine L2.r_place ?_ | with_reducible refine L2.r_raiseI ?_ | with_reducible refine L2.r_gsub ?_ | with_reducible refine L2.r_lrng ?_ | with_reducible refine L2.r_dzipX ?_ | with_reducible refine L2.r_stepX ?_ | with_reducible refine L2.r_mod (by decide) ?_ | with_reducible refine L2.r_shr (by decide) ?_ | with_reducible refine L2.r_div (by decide) (by decide) ?_ | with_reducible refine L2.r_mulR (by decide) (by decide) ?_ | with_reducible refine L2.r_mulL (by decide) (by decide) ?_ | with_reducible refine L2.r_rEq rfl ?_ | with_reducible refine L2.r_rNe rfl ?_ | with_reducible refine L2.iteT ?_ | with_reducible refine L2.iteF ?_ | with_reducible refine L2.iteNT ?_ | with_reducible refine L2.iteNF ?_ | refine L2.r_var rfl ?_ | refine L2.r_aug rfl ?_ | dsimp only))
namespace TK
open PySem L2 TW
def top (i : Nat) : Stmt := PySem.Challenge.pw_tightwood_k63_whole_ways_back.main.body.getD i (.Pass ⟨0, 0, 0, 0⟩)
abbrev s_NoOrder_init : Stmt := inClass (top 3) 0
theorem sc_NoOrder_init : FnScope ["self", "place"] ["self", "place"] (defScope s_NoOrder_init) := ⟨rfl, rfl, rfl, by decide +kernel, rfl, by decide +kernel, by decide +kernel⟩
abbrev s_is_whole : Stmt := top 5
theorem sc_is_whole : FnScope ["thing"] ["thing"] (defScope s_is_whole) := ⟨rfl, rfl, rfl, by decide +kernel, rfl, by decide +kernel, by decide +kernel⟩
abbrev s_is_within : Stmt := top 6
theorem sc_is_within : FnScope ["thing", "low", "high"] ["thing", "low", "high"] (defScope s_is_within) := ⟨rfl, rfl, rfl, by decide +kernel, rfl, by decide +kernel, by decide +kernel⟩
abbrev s_check_order : Stmt := top 8
theorem sc_check_order : FnScope ["order", "met", "place", "number"] ["order"] (defScope s_check_order) := ⟨rfl, rfl, rfl, by decide +kernel, rfl, by decide +kernel, by decide +kernel⟩
abbrev s_rounds_of : Stmt := top 9
theorem sc_rounds_of : FnScope ["order", "rounds", "met", "least", "places", "place"] ["order"] (defScope s_rounds_of) := ⟨rfl, rfl, rfl, by decide +kernel, rfl, by decide +kernel, by decide +kernel⟩
abbrev s_shortcuts_of : Stmt := top 10
theorem sc_shortcuts_of : FnScope ["order", "step", "shortcuts", "places", "marked"] ["order", "step"] (defScope s_shortcuts_of) := ⟨rfl, rfl, rfl, by decide +kernel, rfl, by decide +kernel, by decide +kernel⟩
abbrev s_Shortcuts_init : Stmt := inClass (top 11) 0
theorem sc_Shortcuts_init : FnScope ["self", "order", "step"] ["self", "order", "step"] (defScope s_Shortcuts_init) := ⟨rfl, rfl, rfl, by decide +kernel, rfl, by decide +kernel, by decide +kernel⟩
abbrev s_Shortcuts_way_back : Stmt := inClass (top 11) 4
theorem sc_Shortcuts_way_back : FnScope ["self", "place", "way", "now"] ["self", "place"] (defScope s_Shortcuts_way_back) := ⟨rfl, rfl, rfl, by decide +kernel, rfl, by decide +kernel, by decide +kernel⟩
abbrev s_Shortcuts_back : Stmt := inClass (top 11) 2
theorem sc_Shortcuts_back : FnScope ["self", "place"] ["self", "place"] (defScope s_Shortcuts_back) := ⟨rfl, rfl, rfl, by decide +kernel, rfl, by decide +kernel, by decide +kernel⟩
abbrev s_law_cell_at : Stmt := top 13
theorem sc_law_cell_at : FnScope ["_law_script", "_law_k"] ["_law_script", "_law_k"] (defScope s_law_cell_at) := ⟨rfl, rfl, rfl, by decide +kernel, rfl, by decide +kernel, by decide +kernel⟩
abbrev s_law_whole : Stmt := top 14
theorem sc_law_whole : FnScope ["_law_found"] ["_law_found"] (defScope s_law_whole) := ⟨rfl, rfl, rfl, by decide +kernel, rfl, by decide +kernel, by decide +kernel⟩
abbrev s_law_mixed : Stmt := top 15
theorem sc_law_mixed : FnScope ["_law_cell", "_law_k", "_law_once"] ["_law_cell", "_law_k"] (defScope s_law_mixed) := ⟨rfl, rfl, rfl, by decide +kernel, rfl, by decide +kernel, by decide +kernel⟩
abbrev s_law_digits : Stmt := top 16
theorem sc_law_digits : FnScope ["_law_script", "_law_at", "_law_many", "_law_left", "_law_found", "_law_k"] ["_law_script", "_law_at", "_law_many"] (defScope s_law_digits) := ⟨rfl, rfl, rfl, by decide +kernel, rfl, by decide +kernel, by decide +kernel⟩
abbrev s_law_order : Stmt := top 17
theorem sc_law_order : FnScope ["_law_digits_here", "_law_found", "_law_left", "_law_digit", "_law_at"] ["_law_digits_here"] (defScope s_law_order) := ⟨rfl, rfl, rfl, by decide +kernel, rfl, by decide +kernel, by decide +kernel⟩
abbrev s_law_turned : Stmt := top 18
theorem sc_law_turned : FnScope ["_law_order_here", "_law_number", "_law_many", "_law_k", "_law_found"] ["_law_order_here", "_law_number"] (defScope s_law_turned) := ⟨rfl, rfl, rfl, by decide +kernel, rfl, by decide +kernel, by decide +kernel⟩
theorem lc_law_turned_0 : LcScope ["_law_order_here", "_law_number", "_law_many", "_law_k", "_law_found"] (defScope s_law_turned) { kind := .function, names := [(".0", .local), ("_law_k", .local), ("_law_many", .free), ("_law_number", .free)], isGenerator := false, isCoroutine := false, more := [] } "_law_k" ["_law_k", "_law_many", "_law_number"] [2, 1] := ⟨rfl, by decide +kernel, by decide +kernel, by decide +kernel, by decide +kernel, rfl, rfl, rfl, by decide +kernel⟩
abbrev s_law_great : Stmt := top 19
theorem sc_law_great : FnScope ["_law_number", "_law_many"] ["_law_number"] (defScope s_law_great) := ⟨rfl, rfl, rfl, by decide +kernel, rfl, by decide +kernel, by decide +kernel⟩
theorem lc_law_great_0 : LcScope ["_law_number", "_law_many"] (defScope s_law_great) { kind := .function, names := [(".0", .local), ("_law_k", .local), ("_law_many", .free)], isGenerator := false, isCoroutine := false, more := [] } "_law_k" ["_law_k", "_law_many"] [1] := ⟨rfl, by decide +kernel, by decide +kernel, by decide +kernel, by decide +kernel, rfl, rfl, rfl, by decide +kernel⟩
abbrev s_law_jumps : Stmt := top 20
theorem sc_law_jumps : FnScope ["_law_order_here", "_law_step", "_law_found", "_law_met", "_law_start", "_law_around", "_law_here", "_law_k", "_law_marks"] ["_law_order_here", "_law_step"] (defScope s_law_jumps) := ⟨rfl, rfl, rfl, by decide +kernel, rfl, by decide +kernel, by decide +kernel⟩
theorem lc_law_jumps_0 : LcScope ["_law_order_here", "_law_step", "_law_found", "_law_met", "_law_start", "_law_around", "_law_here", "_law_k", "_law_marks"] (defScope s_law_jumps) { kind := .function, names := [(".0", .local), ("_law_k", .local), ("_law_around", .free), ("_law_step", .free)], isGenerator := false, isCoroutine := false, more := [] } "_law_k" ["_law_k", "_law_around", "_law_step"] [5, 1] := ⟨rfl, by decide +kernel, by decide +kernel, by decide +kernel, by decide +kernel, rfl, rfl, rfl, by decide +kernel⟩
abbrev s_law_walked : Stmt := top 21
theorem sc_law_walked : FnScope ["_law_order_here", "_law_jumps_here", "_law_place", "_law_way", "_law_is_long", "_law_jumped", "_law_k"] ["_law_order_here", "_law_jumps_here", "_law_place", "_law_way", "_law_is_long"] (defScope s_law_walked) := ⟨rfl, rfl, rfl, by decide +kernel, rfl, by decide +kernel, by decide +kernel⟩
theorem lc_law_walked_0 : LcScope ["_law_order_here", "_law_jumps_here", "_law_place", "_law_way", "_law_is_long", "_law_jumped", "_law_k"] (defScope s_law_walked) { kind := .function, names := [(".0", .local), ("_law_here", .local), ("_law_whole", .globalImplicit), ("len", .globalImplicit), ("_law_order_here", .free)], isGenerator := false, isCoroutine := false, more := [] } "_law_here" ["_law_here", "_law_order_here"] [0] := ⟨rfl, by decide +kernel, by decide +kernel, by decide +kernel, by decide +kernel, rfl, rfl, rfl, by decide +kernel⟩
abbrev s_law_beside : Stmt := top 22
theorem sc_law_beside : FnScope ["_law_order_here", "_law_times", "_law_found", "_law_k"] ["_law_order_here", "_law_times"] (defScope s_law_beside) := ⟨rfl, rfl, rfl, by decide +kernel, rfl, by decide +kernel, by decide +kernel⟩
theorem lc_law_beside_0 : LcScope ["_law_order_here", "_law_times", "_law_found", "_law_k"] (defScope s_law_beside) { kind := .function, names := [(".0", .local), ("_law_goal", .local), ("len", .globalImplicit), ("_law_k", .free), ("_law_order_here", .free)], isGenerator := false, isCoroutine := false, more := [] } "_law_goal" ["_law_goal", "_law_k", "_law_order_here"] [3, 0] := ⟨rfl, by decide +kernel, by decide +kernel, by decide +kernel, by decide +kernel, rfl, rfl, rfl, by decide +kernel⟩
abbrev s_law_long_ones : Stmt := top 23
theorem sc_law_long_ones : FnScope ["_law_order_here", "_law_step", "_law_found", "_law_start", "_law_around", "_law_here"] ["_law_order_here", "_law_step"] (defScope s_law_long_ones) := ⟨rfl, rfl, rfl, by decide +kernel, rfl, by decide +kernel, by decide +kernel⟩
abbrev s_law : Stmt := top 24
theorem sc_law : FnScope ["_law_script", "_law_many", "_law_number", "_law_order_here", "_law_step", "_law_handed", "_law_ways", "_law_jumps_here", "_law_long_ones_here", "_law_place", "_law_way", "_law_is_long", "_law_kept"] ["_law_script"] (defScope s_law) := ⟨rfl, rfl, rfl, by decide +kernel, rfl, by decide +kernel, by decide +kernel⟩
/-- a sign -/
def sg (b : Bool) : V := .str (sgn (if b then 49 else 48))
/-- ints -/
abbrev nV (ns : List Nat) : List V := ns.map fun n : Nat => V.int n
theorem few {n : Nat} (h : n ≤ 1000) : n ≤ sizeLine := Nat.le_of_lt (small1000 h)
theorem small20000 {n : Nat} (h : n ≤ 100000) : n < sizeLine := Nat.lt_of_le_of_lt h (by decide)
theorem at_lt {α : Type} {l : List α} {i : Nat} {b : α} (h : l[i]? = some b) : i < l.length := (List.getElem?_eq_some_iff.mp h).1

/-- a thing of any of the kinds that are handed in -/
def isI : V → Bool
  | .int _ => true
  | _ => false
def inI : V → Int → Int → Bool
  | .int i, lo, hi => decide (lo ≤ i) && decide (i ≤ hi)
  | _, _, _ => false
theorem inI_int (i lo hi : Int) : inI (.int i) lo hi = (decide (lo ≤ i) && decide (i ≤ hi)) := rfl
def Any (K : PySem.W.Frag) (H : Hp) (x : V) : Prop := ∃ t b1 b2, TyOf K H x t ∧ PySem.W.kitOne K t (.type "int") = some b1 ∧ PySem.W.kitOne K t (.type "bool") = some b2 ∧ (b1 && !b2) = isI x
section
variable {K : PySem.W.Frag} {H H' : Hp}
theorem any_int (i : Int) : Any K H (.int i) := ⟨_, true, false, .int i, by rfl, by rfl, rfl⟩
theorem TyOf.same {x : V} {t : Value} (s : Same H H') (h : TyOf K H x t) : TyOf K H' x t := by
  cases h with
  | non => exact .non
  | bl b => exact .bl b
  | int i => exact .int i
  | str z => exact .str z
  | flt z => exact .flt z
  | lst e => exact .lst (s _ _ e)
  | frz e => exact .frz (s _ _ e)
  | tup e => exact .tup (s _ _ e)
  | dK e => exact .dK (s _ _ e)
  | dT e => exact .dT (s _ _ e)
  | ins e cl ha hn htk hm => exact .ins (s _ _ e) cl ha hn htk hm
theorem Any.same {x : V} (s : Same H H') (h : Any K H x) : Any K H' x := let ⟨t, b1, b2, h1, r⟩ := h; ⟨t, b1, b2, TyOf.same s h1, r⟩
theorem isI_of {x : V} (h : isI x = true) : ∃ i, x = .int i := by cases x <;> first | exact ⟨_, rfl⟩ | cases h
theorem inI_of {x : V} {lo hi : Int} (h : inI x lo hi = true) : ∃ i, x = .int i ∧ lo ≤ i ∧ i ≤ hi := by
  cases x <;> first | cases h | skip
  rename_i i
  have h : (decide (lo ≤ i) && decide (i ≤ hi)) = true := h
  rw [Bool.and_eq_true] at h
  exact ⟨i, rfl, of_decide_eq_true h.1, of_decide_eq_true h.2⟩
end
theorem same_made {H5 H6 : Hp} {xb dxb C : Addr} (nb1 : H5 xb = none) (nb2 : H5 dxb = none) (s6 : SameBut xb (upd (upd H5 dxb (.own xb)) xb (.ins C dxb [])) H6) : Same H5 H6 := fun b u e => by
  have e1 : b ≠ xb := ne_of_none e nb1
  have e2 : b ≠ dxb := ne_of_none e nb2
  exact s6 _ _ e1 (by rw [upd_ne e1, upd_ne e2]; exact e)
theorem push_same {H H1 : Hp} {a : Addr} {o : HO} (s : Same H H1) (h : H a = none) : Same H (upd H1 a o) := fun b u e => by
  rw [upd_ne (ne_of_none e h)]
  exact s _ _ e
theorem small12 {i : Nat} (h : i ≤ 10000) : ((i : Int)).natAbs < 10 ^ 12 := by
  have : (10000 : Nat) < 10 ^ 12 := by decide
  omega
/-- this place of an order is as it must be, seen from the left -/
def Good1 (xs : List V) (k : Nat) : Prop := ∃ n : Nat, xs[k]? = some (.int n) ∧ n < xs.length ∧ ∀ j, j < k → xs[j]? ≠ some (.int n)
def FaultP (xs : List V) (k : Nat) : Prop := k < xs.length ∧ ¬ Good1 xs k ∧ ∀ j, j < k → Good1 xs j
def GoodP (xs : List V) : Prop := ∀ j, j < xs.length → Good1 xs j
theorem faultP_good {xs : List V} {k : Nat} (h1 : FaultP xs k) (h2 : GoodP xs) : False := h1.2.1 (h2 k h1.1)
/-- which numbers stood ahead of a place -/
def Met (xs : List V) (k : Nat) (ms : List Bool) : Prop := ms.length = xs.length ∧ ∀ (i : Nat) b, ms[i]? = some b → (b = true ↔ ∃ j, j < k ∧ xs[j]? = some (.int i))
theorem met_none (xs : List V) : Met xs 0 (List.replicate xs.length false) := by
  refine ⟨List.length_replicate, fun i b h => ?_⟩
  rw [List.getElem?_replicate] at h
  split at h
  · cases h
    exact ⟨fun z => by (cases z), fun ⟨j, hj, _⟩ => absurd hj (Nat.not_lt_zero _)⟩
  · cases h
theorem met_next {xs : List V} {k n : Nat} {ms : List Bool} (h : Met xs k ms) (hk : xs[k]? = some (.int n)) : Met xs (k + 1) (ms.set n true) := by
  refine ⟨by rw [List.length_set]; exact h.1, fun i b hb => ?_⟩
  rw [List.getElem?_set] at hb
  by_cases e : n = i
  · rw [if_pos e] at hb
    split at hb
    · cases hb
      exact ⟨fun _ => ⟨k, Nat.lt_succ_self _, by rw [hk, e]⟩, fun _ => rfl⟩
    · cases hb
  · rw [if_neg e] at hb
    rw [h.2 i b hb]
    constructor
    · rintro ⟨j, hj, hx⟩
      exact ⟨j, by omega, hx⟩
    · rintro ⟨j, hj, hx⟩
      rcases Nat.lt_or_eq_of_le (Nat.le_of_lt_succ hj) with h1 | h1
      · exact ⟨j, h1, hx⟩
      · rw [h1, hk] at hx
        have := V.int.inj (Option.some.inj hx)
        omega
theorem bl_set (ms : List Bool) (n : Nat) (b : Bool) : (ms.map V.bl).set n (.bl b) = (ms.set n b).map V.bl := by rw [List.map_set]
theorem bl_rep (n : Nat) : (List.replicate n [V.bl false]).flatten = (List.replicate n false).map V.bl := by
  induction n with
  | zero => rfl
  | succ n ih => rw [List.replicate_succ, List.flatten_cons, ih, List.replicate_succ]; rfl
theorem bl_at {ms : List Bool} {i : Nat} {b : Bool} (h : ms[i]? = some b) : (ms.map V.bl)[i]? = some (.bl b) := by
  rw [List.getElem?_map, h]
  rfl
/-- a refusal with NoOrder at its place -/
def NoOd (C : Addr) (H : Hp) (E : XK) (xs : List V) : Prop := ∀ k : Nat, FaultP xs k → ∀ dx H', Same H H' → H dx = none → H' dx = some (.xd [("place", .int k)]) → E (.ref C) (some dx) H'

abbrev kvJ (J : List (Nat × Nat)) : List (Key × V) := J.map fun p => ((Sum.inl (p.1 : Int) : Key), V.int p.2)
theorem val_kvJ (x : Nat) : ∀ J : List (Nat × Nat), valV (kvJ J) (.inl (x : Int)) = (look J x).map fun q : Nat => V.int q
  | [] => rfl
  | p :: J => by
    have ih := val_kvJ x J
    rw [show kvJ (p :: J) = ((Sum.inl (p.1 : Int) : Key), V.int p.2) :: kvJ J from rfl]
    by_cases e : p.1 = x
    · rw [valV_pos (by rw [e])]
      unfold look
      rw [List.find?_cons, decide_eq_true e]
      rfl
    · rw [valV_neg (fun z => e (by have := Sum.inl.inj z; omega)), ih]
      unfold look
      rw [List.find?_cons, decide_eq_false e]
theorem in_kvJ (J : List (Nat × Nat)) (x : Nat) : (valV (kvJ J) (.inl (x : Int))).isSome = (look J x).isSome := by rw [val_kvJ, Option.isSome_map]
theorem put_kvJ {J : List (Nat × Nat)} {k v : Nat} (h : k ∉ J.map (·.1)) : putK (kvJ J) (.inl (k : Int)) (.int v) = kvJ (J ++ [(k, v)]) := by
  rw [putK_new _ (by rw [val_kvJ, look_none h]; rfl)]
  show _ = List.map _ _
  rw [List.map_append]
  rfl
theorem merge_kvJ : ∀ (B A : List (Nat × Nat)), ((A ++ B).map (·.1)).Nodup → mergeK (kvJ A) (kvJ B) = kvJ (A ++ B)
  | [], A, _ => by rw [List.append_nil]; rfl
  | (k, v) :: B, A, h => by
    have hk : k ∉ A.map (·.1) := fun hm => by
      rw [List.map_append, List.nodup_append] at h
      exact h.2.2 k hm k (by simp) rfl
    show mergeK (putK (kvJ A) (.inl (k : Int)) (.int v)) (kvJ B) = _
    rw [put_kvJ hk, merge_kvJ B (A ++ [(k, v)]) (by rw [List.append_assoc]; exact h), List.append_assoc]
    rfl
theorem mrg_kvJ : ∀ (ks ys : List Nat) (A : List (Nat × Nat)), (A.map (·.1) ++ ks).Nodup → ks.length = ys.length → mrgV (kvJ A) (ks.map fun n : Nat => (n : Int)) (nV ys) = kvJ (A ++ ks.zip ys)
  | [], _, A, _, _ => by rw [List.zip_nil_left, List.append_nil]; rfl
  | k :: ks, [], A, _, h => by cases h
  | k :: ks, y :: ys, A, h, hl => by
    have hk : k ∉ A.map (·.1) := fun hm => by
      rw [List.nodup_append] at h
      exact h.2.2 k hm k (by simp) rfl
    show mrgV (putK (kvJ A) (.inl (k : Int)) (.int y)) (ks.map fun n : Nat => (n : Int)) (nV ys) = _
    rw [put_kvJ hk, mrg_kvJ ks ys (A ++ [(k, y)]) (by rw [List.map_append, List.append_assoc]; exact h) (Nat.succ.inj hl), List.append_assoc]
    rfl
theorem fm_some {α β : Type} {f : α → Option β} {g : α → β} : ∀ {l : List α}, (∀ x ∈ l, f x = some (g x)) → l.filterMap f = l.map g
  | [], _ => rfl
  | x :: l, h => by
    rw [List.filterMap_cons, h x List.mem_cons_self, List.map_cons]
    show g x :: l.filterMap f = _
    rw [fm_some fun y hy => h y (List.mem_cons_of_mem _ hy)]
theorem pick_nV {st : Nat} (hs : 0 < st) (R : List Nat) : pick st (nV R) = nV (marks st R) := by
  unfold pick marks
  rw [List.filterMap_map, List.length_map, fm_some (g := fun k => V.int (R[k * st]?.getD 0 : Nat)) fun k hk => ?_]
  · rw [show nV ((List.range ((R.length + st - 1) / st)).map fun k => R[k * st]?.getD 0) = ((List.range ((R.length + st - 1) / st)).map fun k => R[k * st]?.getD 0).map (fun n : Nat => V.int n) from rfl, List.map_map]
    rfl
  · have hl := (mul_div_lt hs).mp (List.mem_range.mp hk)
    show (R.map fun n : Nat => V.int n)[k * st]? = _
    rw [List.getElem?_map, List.getElem?_eq_getElem hl]
    rfl
theorem cut_last (xs : List V) : cutV xs (some (-1)) none = xs.drop (xs.length - 1) := by
  have e : (if (-1 : Int) < 0 then ((-1 : Int) + (xs.length : Int)).toNat else min (-1 : Int).toNat xs.length) = xs.length - 1 := by rw [if_pos (by decide)]; omega
  show List.take (xs.length - (if (-1 : Int) < 0 then ((-1 : Int) + (xs.length : Int)).toNat else min (-1 : Int).toNat xs.length)) (List.drop (if (-1 : Int) < 0 then ((-1 : Int) + (xs.length : Int)).toNat else min (-1 : Int).toNat xs.length) xs) = _
  rw [e, List.take_of_length_le (by rw [List.length_drop]; omega)]
theorem cut_init (xs : List V) : cutV xs none (some (-1)) = xs.take (xs.length - 1) := by
  have e : (if (-1 : Int) < 0 then ((-1 : Int) + (xs.length : Int)).toNat else min (-1 : Int).toNat xs.length) = xs.length - 1 := by rw [if_pos (by decide)]; omega
  show List.take ((if (-1 : Int) < 0 then ((-1 : Int) + (xs.length : Int)).toNat else min (-1 : Int).toNat xs.length) - 0) (List.drop 0 xs) = _
  rw [e, Nat.sub_zero, List.drop_zero]
theorem turn_nV (l : List Nat) : cutV (nV l) (some (-1)) none ++ cutV (nV l) none (some (-1)) = nV (rot l) := by
  rw [cut_last, cut_init, List.length_map]
  unfold rot
  show _ = List.map _ _
  rw [List.map_append, List.map_drop, List.map_take]
theorem vN {a b : Nat} : V.int (a : Int) = V.int (b : Int) ↔ a = b := ⟨fun h => by have := V.int.inj h; omega, fun h => by rw [h]⟩
theorem nV_at {l : List Nat} {i n : Nat} (h : l[i]? = some n) : (nV l)[i]? = some (.int n) := by
  rw [List.getElem?_map, h]
  rfl
theorem nV_snoc (l : List Nat) (n : Nat) : nV l ++ [V.int n] = nV (l ++ [n]) := by
  show _ = List.map _ _
  rw [List.map_append]
  rfl
theorem nx_nV {ns : List Nat} {x : Nat} (h : x < ns.length) : (nV ns)[x]? = some (.int (nx ns x)) := nV_at (at_nx h)
def RsAt (H : Hp) (rs : List Addr) (Rs : List (List Nat)) : Prop := rs.length = Rs.length ∧ ∀ (i : Nat) r R, rs[i]? = some r → Rs[i]? = some R → H r = some (.lst (nV R))
theorem RsAt.same {H H' : Hp} {rs : List Addr} {Rs : List (List Nat)} (h : RsAt H rs Rs) (s : Same H H') : RsAt H' rs Rs := ⟨h.1, fun i r R e1 e2 => s _ _ (h.2 i r R e1 e2)⟩
theorem RsAt.upd {H : Hp} {rs : List Addr} {Rs : List (List Nat)} {a : Addr} {o : HO} (h : RsAt H rs Rs) (hn : ∀ r ∈ rs, r ≠ a) : RsAt (upd H a o) rs Rs := ⟨h.1, fun i r R e1 e2 => by
  rw [upd_ne (hn r (List.mem_of_getElem? e1))]
  exact h.2 i r R e1 e2⟩
theorem RsAt.is {H : Hp} {rs : List Addr} {Rs : List (List Nat)} (h : RsAt H rs Rs) {r : Addr} (hr : r ∈ rs) : ∃ R ∈ Rs, H r = some (.lst (nV R)) := by
  obtain ⟨i, hi⟩ := List.getElem?_of_mem hr
  have hl := (List.getElem?_eq_some_iff.mp hi).1
  rw [h.1] at hl
  exact ⟨Rs[i], List.getElem_mem hl, h.2 i r _ hi (List.getElem?_eq_getElem hl)⟩
theorem RsAt.snoc {H : Hp} {rs : List Addr} {Rs : List (List Nat)} {a : Addr} {R : List Nat} (h : RsAt H rs Rs) (ha : H a = some (.lst (nV R))) : RsAt H (rs ++ [a]) (Rs ++ [R]) := by
  refine ⟨by rw [List.length_append, List.length_append, h.1]; rfl, fun i r R' e1 e2 => ?_⟩
  by_cases hi : i < rs.length
  · rw [List.getElem?_append_left hi] at e1
    rw [List.getElem?_append_left (by rw [← h.1]; exact hi)] at e2
    exact h.2 i r R' e1 e2
  · rw [List.getElem?_append_right (by omega)] at e1
    rw [List.getElem?_append_right (by rw [← h.1]; omega), ← h.1] at e2
    have hl := (List.getElem?_eq_some_iff.mp e1).1
    have e0 : i - rs.length = 0 := by simp at hl; omega
    rw [e0] at e1 e2
    cases e1
    cases e2
    exact ha
def lenAt (H : Hp) (a : Addr) : Nat := match H a with | some (.lst xs) => xs.length | _ => 0
theorem lenAt_of {H : Hp} {a : Addr} {xs : List V} (h : H a = some (.lst xs)) : lenAt H a = xs.length := by unfold lenAt; rw [h]

structure Z_Shortcuts (K : PySem.W.Frag) (C : Addr) : Prop where
  cl : Cls K C
  n_onward : NoAttr K C "onward"
  n_leaps : NoAttr K C "leaps"
structure Txt (K : PySem.W.Frag) (mg : Str → Option Value) (C_WoodError : Addr) (C_NoOrder : Addr) : Prop where
  g_WoodError : mg "WoodError" = some (.ref C_WoodError)
  g_NoOrder : mg "NoOrder" = some (.ref C_NoOrder)
  ex_WoodError : PySem.W.excIn K C_WoodError veMro "ValueError.__new__" = true
  bg_WoodError : PySem.W.specialIn K (.ref C_WoodError) "__getattribute__" = some (some (.builtin "type.__getattribute__"))
  br_WoodError : PySem.W.readsIn K C_WoodError (.type "type") = true
  bi_WoodError : PySem.W.findCls K (.ref C_WoodError) (.type "type") "__init__" = some (.val (.builtin "ValueError.__init__"))
  sa_NoOrder : PySem.W.findIn K (.ref C_NoOrder) "__setattr__" = some (some (.builtin "object.__setattr__"))
  pl_NoOrder : PySem.W.findIn K (.ref C_NoOrder) "place" = some none
  ga_NoOrder : PySem.W.findIn K (.ref C_NoOrder) "__getattribute__" = some (some (.builtin "BaseException.__getattribute__"))
  gx_NoOrder : PySem.W.findIn K (.ref C_NoOrder) "__getattr__" = some none
  ca_NoOrder : PySem.W.findIn K (.ref C_NoOrder) "__class__" = some (some (.builtin "object.__class__"))
  sp_NoOrder : PySem.W.specialIn K (.builtin "object.__class__") "__get__" = some (some (.builtin "getset_descriptor.__get__"))
  tk_NoOrder : PySem.W.takesIn K (.builtin "object.__class__") = some true
  mo_NoOrder : PySem.W.mroIn K C_NoOrder (.type "object") = some true
  mb_NoOrder : PySem.W.mroIn K C_NoOrder (.type "BaseException") = some true
  em_NoOrder : PySem.W.exmOne K (.ref C_NoOrder) (.ref C_WoodError) = some true
  em2_NoOrder : PySem.W.exmOne K (.ref C_NoOrder) (.ref C_NoOrder) = some true
  n_range : mg "range" = none
  n_len : mg "len" = none
  n_int : mg "int" = none
  n_bool : mg "bool" = none
  n_isinstance : mg "isinstance" = none
  n_list : mg "list" = none
  n_tuple : mg "tuple" = none
  n_zip : mg "zip" = none
  n_enumerate : mg "enumerate" = none
  n_dict : mg "dict" = none
  n_abs : mg "abs" = none
  ow_NoOrder : ∃ f, OwnX K C_WoodError C_NoOrder f
theorem Txt.bw {K : PySem.W.Frag} {mg : Str → Option Value} {C_WoodError : Addr} {C_NoOrder : Addr} (T : Txt K mg C_WoodError C_NoOrder) : BaseX K mg "WoodError" C_WoodError := ⟨T.g_WoodError, T.bg_WoodError, T.br_WoodError, T.bi_WoodError⟩
theorem Txt.k_NoOrder {K : PySem.W.Frag} {mg : Str → Option Value} {C_WoodError : Addr} {C_NoOrder : Addr} (T : Txt K mg C_WoodError C_NoOrder) : ExcK K C_NoOrder := ⟨T.ga_NoOrder, T.gx_NoOrder, T.ca_NoOrder, T.sp_NoOrder, T.tk_NoOrder, T.mo_NoOrder, T.mb_NoOrder⟩
section
variable {P : Program} {w : World} {K : PySem.W.Frag} {mg : Str → Option Value} {base : Heap} {C_Shortcuts C_WoodError C_NoOrder : Addr}
theorem ok_NoOrder_init {f : Addr} {fd : FuncData} (F : Fun K "__init__" "NoOrder.__init__" s_NoOrder_init f fd) (T : Txt K mg C_WoodError C_NoOrder) : FnOk P w K mg base CX0 1 f fd ["self", "place"] (spInit C_NoOrder) := by
  refine F.ok sc_NoOrder_init (fun vs H Q E h => ?_) (fun cdv A outer s H vs Q E hr h => ?_)
  · obtain ⟨e, i, rfl, _⟩ := h
    rfl
  · obtain ⟨e, i, rfl, he, hi, q⟩ := h
    obtain ⟨fo, O⟩ := T.ow_NoOrder
    refine ⟨_, (pss_cons (ps_expr (pe_binit T.bw rfl (pa_d (pv 0) (pa_d (pe_fstr (by decide) (pv 1)) pa_nil rfl) rfl)))
      (pss_one (ps_place (pv 0) (pv 1)))), ?_⟩
    walk_at "rd"
    refine ⟨hi, fun z => ?_⟩
    walk_at "rd"
    refine ⟨e, C_NoOrder, fo, none, z, rfl, he, O, ?_⟩
    walk_at "rd"
    refine ⟨e, _, C_NoOrder, fo, rfl, he, O, T.k_NoOrder, fun dx hd => ?_⟩
    walk_at "rd"
    exact q dx hd

def spWhole0 (K : PySem.W.Frag) : Sp := fun vs H Q _ => ∃ x, vs = [x] ∧ Any K H x ∧ Q (.bl (isI x)) H
theorem ok_is_whole {f : Addr} {fd : FuncData} (F : Fun K "is_whole" "is_whole" s_is_whole f fd) (T : Txt K mg C_WoodError C_NoOrder) : FnOk P w K mg base CX0 1 f fd ["thing"] (spWhole0 K) := by
  refine F.ok sc_is_whole (fun vs H Q E h => ?_) (fun cdv A outer s H vs Q E hr h => ?_)
  · obtain ⟨x, rfl, _⟩ := h
    rfl
  · obtain ⟨x, rfl, ⟨t, b1, b2, ty, k1, k2, e⟩, q⟩ := h
    refine ⟨_, (pss_one (ps_ret (pe_and (pe_callB call_isinst (by rfl) T.n_isinstance b_isinstance (pa_d (pv 0) (pa_d (pe_bltn (v := .ty "int") rfl T.n_int b_int rfl) pa_nil rfl) rfl)) (pe_one (pe_not (pe_callB call_isinst (by rfl) T.n_isinstance b_isinstance (pa_d (pv 0) (pa_d (pe_bltn (v := .ty "bool") rfl T.n_bool b_bool rfl) pa_nil rfl) rfl))))))), ?_⟩
    walk_at "rd"
    refine ⟨_, _, _, _, rfl, ty, k1, ?_⟩
    rw [← e] at q
    cases b1 with
    | false =>
      walk_at "rd"
      exact q
    | true =>
      walk_at "rd"
      refine ⟨_, _, _, _, rfl, ty, k2, ?_⟩
      walk_at "rd"
      exact q

def spWithin (K : PySem.W.Frag) : Sp := fun vs H Q _ => ∃ x lo hi, vs = [x, .int lo, .int hi] ∧ Any K H x ∧ Q (.bl (inI x lo hi)) H
theorem ok_is_within {f : Addr} {fd : FuncData} (F : Fun K "is_within" "is_within" s_is_within f fd) (T : Txt K mg C_WoodError C_NoOrder) (c_is_whole : Cal P w K mg base "is_whole" 1 ["thing"] (spWhole0 K)) : FnOk P w K mg base CX0 2 f fd ["thing", "low", "high"] (spWithin K) := by
  refine F.ok sc_is_within (fun vs H Q E h => ?_) (fun cdv A outer s H vs Q E hr h => ?_)
  · obtain ⟨x, lo, hi, rfl, _⟩ := h
    rfl
  · obtain ⟨x, lo, hi, rfl, ha, q⟩ := h
    refine ⟨_, (pss_one (ps_ret (pe_and (pe_fn c_is_whole (hr.mono (by decide : 1 ≤ _)) (pa_d (pv 0) pa_nil rfl)) (pe_one (pe_chain op_le op_le (pv 1) (pv 0) (pv 2)))))), ?_⟩
    walk_at "rd"
    refine ⟨x, rfl, ha, ?_⟩
    cases hx : isI x with
    | false =>
      walk_at "rd"
      have : inI x lo hi = false := by cases x <;> first | rfl | cases hx
      rw [this] at q
      exact q
    | true =>
      obtain ⟨i, rfl⟩ := isI_of hx
      walk_at "rd"
      have e : inI (.int i) lo hi = (decide (lo ≤ i) && decide (i ≤ hi)) := rfl
      rw [e] at q
      refine iteP (fun h1 => ?_) (fun h1 => ?_)
      · walk_at "rd"
        rw [decide_eq_true h1] at q
        exact q
      · walk_at "rd"
        rw [decide_eq_false h1] at q
        exact q

def spCheck (K : PySem.W.Frag) (C : Addr) : Sp := fun vs H Q E => ∃ (a : Addr) (xs : List V), vs = [.ref a] ∧ H a = some (.lst xs) ∧ (∀ x ∈ xs, Any K H x) ∧ xs.length ≤ 5000 ∧ (GoodP xs → ∀ H', Same H H' → Q .non H') ∧ NoOd C H E xs
theorem ok_check_order {f : Addr} {fd : FuncData} (F : Fun K "check_order" "check_order" s_check_order f fd) (T : Txt K mg C_WoodError C_NoOrder) (x_NoOrder : ExcI P w K mg base "NoOrder" C_WoodError C_NoOrder 1 ["self", "place"]) (c_is_within : Cal P w K mg base "is_within" 2 ["thing", "low", "high"] (spWithin K)) : FnOk P w K mg base (CXE P w) 3 f fd ["order"] (spCheck K C_NoOrder) := by
  refine F.okE sc_check_order (fun vs H Q E h => ?_) (fun cdv A outer s H vs Q E hr h => ?_)
  · obtain ⟨a, xs, rfl, _⟩ := h
    rfl
  · obtain ⟨a, xs, rfl, ha, hA, hn, q, qe⟩ := h
    refine ⟨_, (pss_cons (ps_set (i := 1) sc_check_order.nd rfl (Or.inl rfl) (pe_op op_rep (pe_lst (pa_d pe_bl pa_nil rfl)) (pe_callB call_len_seq (by rfl) T.n_len b_len (pa_d (pv 0) pa_nil rfl))))
      (pss_one (ps_for PassesOwn.leaving rfl (pi_enum rfl T.n_enumerate (pa_d (pv 0) pa_nil rfl)) (pg_tup rfl (pgs_cons (pg_name (i := 2) sc_check_order.nd rfl (Or.inl rfl)) (pgs_cons (pg_name (i := 3) sc_check_order.nd rfl (Or.inl rfl)) pgs_nil)))
      (pss_cons (ps_if (PW.pt (pw_or (pt_not (pt_val (pe_fn c_is_within (hr.mono (by decide : 2 ≤ _)) (pa_d (pv 3) (pa_d pe_int (pa_d (pe_op op_sub (pe_callB call_len_seq (by rfl) T.n_len b_len (pa_d (pv 0) pa_nil rfl)) pe_int) pa_nil rfl) rfl) rfl)))) (pw_or1 (pt_val (pe_ix ix_list (pv 1) (pv 3) (fun _ _ => rfl)))))) (pss_one (ps_raiseI x_NoOrder (hr.mono (by decide : 2 ≤ _)) rfl (pa_d (pv 2) pa_nil rfl)))
      pss_nil)
      (pss_one (ps_asg pe_bl (pg_sub (pv 1) (pv 3) set_list))))))), ?_⟩
    walk_at "rd"
    refine ⟨few (by simp), fun p hp => ?_⟩
    have t0 := same_upd (o := .lst [V.bl false]) hp
    walk_at "rd"
    refine ⟨a, _, rfl, .inl (SqL.of (t0 _ _ ha)), ?_⟩
    walk_at "rd"
    refine ⟨p, xs.length, _, rfl, rfl, upd_same, by omega, by omega, Nat.le_of_lt (small20000 (by simp; omega)), fun m hm => ?_⟩
    have hm0 := t0.free hm
    have t1 := t0.trans (same_upd (o := .lst (List.replicate ((xs.length : Nat) : Int).toNat [V.bl false]).flatten) hm)
    have hM : (upd (upd H p (.lst [V.bl false])) m (.lst (List.replicate ((xs.length : Nat) : Int).toNat [V.bl false]).flatten)) m = some (.lst ((List.replicate xs.length false).map V.bl)) := by
      rw [upd_same, Int.toNat_natCast, bl_rep]
    generalize (upd (upd H p (.lst [V.bl false])) m (.lst (List.replicate ((xs.length : Nat) : Int).toNat [V.bl false]).flatten)) = H0 at *
    walk_at "rd"
    refine ⟨a, rfl, ⟨_, SqL.of (t1 _ _ ha)⟩, ?_⟩
    refine for_enum (xs := xs) (fun k σ H1 => (∃ (ms : List Bool) (v2 v3 : Option V), σ = [some (.ref a), some (.ref m), v2, v3] ∧ Met xs k ms ∧ H1 m = some (.lst (ms.map V.bl))) ∧ (∀ j, j < k → Good1 xs j) ∧ Same H H1) ?_ (fun k σ H1 _ h => SqL.of (h.2.2 _ _ ha)) ?_ ?_
    · exact ⟨⟨_, _, _, rfl, met_none xs, hM⟩, (fun j hj => absurd hj (Nat.not_lt_zero _)), t1⟩
    · rintro k x σ H1 t hx ⟨⟨ms, v2, v3, rfl, hms, hm1⟩, hg, s1⟩ ht
      have hk := at_lt hx
      have st := same_upd (o := .tup [.int k, x]) ht
      have hm2 := st _ _ hm1
      have s2 := s1.trans st
      generalize upd H1 t (.tup [.int k, x]) = H2 at *
      have sm : ((k : Nat) : Int).natAbs < 10 ^ 12 := small12 (by omega)
      have out : ∀ H3, Same H H3 → ¬ Good1 xs k → ∀ dx, H3 dx = none → E (.ref C_NoOrder) (some dx) (upd H3 dx (.xd [("place", .int (k : Nat))])) := fun H3 s3 hb dx hx3 =>
        qe k ⟨hk, hb, hg⟩ dx _ (s3.trans (same_upd hx3)) (s3.free hx3) upd_same
      walk_at "rd"
      refine ⟨a, _, rfl, .inl (SqL.of (s2 _ _ ha)), ?_⟩
      walk_at "rd"
      refine ⟨x, 0, _, rfl, (hA x (List.mem_of_getElem? hx)).same s2, ?_⟩
      cases hin : inI x 0 ((xs.length : Int) - 1) with
      | false =>
        walk_at "rd"
        refine ⟨_, rfl, sm, out H2 s2 ?_⟩
        rintro ⟨n, h1, h2, _⟩
        rw [hx] at h1
        obtain rfl := Option.some.inj h1
        rw [inI_int, decide_eq_true (by omega), decide_eq_true (by omega)] at hin
        cases hin
      | true =>
        obtain ⟨i, rfl, h0, h1⟩ := inI_of hin
        obtain ⟨n, rfl⟩ : ∃ n : Nat, i = (n : Int) := ⟨i.toNat, by omega⟩
        have hnl : n < xs.length := by omega
        obtain ⟨b, hb⟩ : ∃ b, ms[n]? = some b := ⟨_, List.getElem?_eq_getElem (by rw [hms.1]; exact hnl)⟩
        walk_at "rd"
        refine r_ixL (SqL.of hm2) (atI_nat (bl_at hb)) ?_
        cases b with
        | true =>
          walk_at "rd"
          refine ⟨_, rfl, sm, out H2 s2 ?_⟩
          rintro ⟨n', h1, h2, h3⟩
          rw [hx] at h1
          have e := V.int.inj (Option.some.inj h1)
          obtain ⟨j, hj, hxj⟩ := (hms.2 n true hb).mp rfl
          exact h3 j hj (by rw [hxj, e])
        | false =>
          walk_at "rd"
          refine r_setL hm2 rfl (by rw [List.length_map, hms.1]; exact hnl) ?_
          rw [bl_set]
          walk_at "rd"
          refine ⟨⟨_, _, _, rfl, met_next hms hx, upd_same⟩, fun j hj => ?_, push_same s2 hm0⟩
          rcases Nat.lt_or_eq_of_le (Nat.le_of_lt_succ hj) with h1 | h1
          · exact hg j h1
          · rw [h1]
            refine ⟨n, hx, hnl, fun i hi e => ?_⟩
            have := (hms.2 n false hb).mpr ⟨i, hi, e⟩
            cases this
    · rintro σ H1 ⟨⟨ms, v2, v3, rfl, hms, hm1⟩, hg, s1⟩
      exact q hg H1 s1

def isF : V → Bool
  | .bl false => true
  | _ => false
def fAt (H : Hp) (m : Addr) : Nat := match H m with | some (.lst xs) => xs.countP isF | _ => 0
theorem countF (ms : List Bool) : (ms.map V.bl).countP isF = ms.count false := by
  induction ms with
  | nil => rfl
  | cons b r ih => cases b <;> simp [isF, List.countP_cons, List.count_cons, ih]
theorem fAt_of {H : Hp} {m : Addr} {ms : List Bool} (h : H m = some (.lst (ms.map V.bl))) : fAt H m = ms.count false := by
  unfold fAt
  rw [h]
  exact countF ms
theorem cnt_set : ∀ {ms : List Bool} {y : Nat}, ms[y]? = some false → (ms.set y true).count false + 1 = ms.count false
  | [], _, h => by cases h
  | b :: r, 0, h => by
    cases h
    simp
  | b :: r, y + 1, h => by
    have ih := cnt_set (ms := r) (y := y) h
    rw [List.set_cons_succ, List.count_cons, List.count_cons]
    omega
def spRoundsX : Sp := fun vs H Q _ => ∃ (t : Addr) (ns : List Nat), vs = [.ref t] ∧ H t = some (.tup (nV ns)) ∧ Ord ns ∧ ns.length ≤ 5000 ∧
  ∀ p (rs : List Addr) H', Same H H' → H p = none → H' p = some (.lst (rs.map V.ref)) → RsAt H' rs (rnds ns ns.length) → Q (.ref p) H'
theorem ok_rounds_of {f : Addr} {fd : FuncData} (F : Fun K "rounds_of" "rounds_of" s_rounds_of f fd) (T : Txt K mg C_WoodError C_NoOrder) : FnOk P w K mg base CX0 1 f fd ["order"] spRoundsX := by
  refine F.ok sc_rounds_of (fun vs H Q E h => ?_) (fun cdv A outer s H vs Q E hr h => ?_)
  · obtain ⟨t, ns, rfl, _⟩ := h
    rfl
  · obtain ⟨t, ns, rfl, ht, ho, hn, q⟩ := h
    have hlV : (nV ns).length = ns.length := by rw [List.length_map]
    refine ⟨_, (pss_cons (ps_set (i := 1) sc_rounds_of.nd rfl (Or.inl rfl) (pe_lst pa_nil))
      (pss_cons (ps_set (i := 2) sc_rounds_of.nd rfl (Or.inl rfl) (pe_op op_rep (pe_lst (pa_d pe_bl pa_nil rfl)) (pe_callB call_len_seq (by rfl) T.n_len b_len (pa_d (pv 0) pa_nil rfl))))
      (pss_cons (ps_for PassesOwn.never rfl (pi_range1 rfl T.n_range (pa_d (pe_callB call_len_seq (by rfl) T.n_len b_len (pa_d (pv 0) pa_nil rfl)) pa_nil rfl)) (pg_name (i := 3) sc_rounds_of.nd rfl (Or.inl rfl))
      (pss_cons (ps_set (i := 4) sc_rounds_of.nd rfl (Or.inl rfl) (pe_lst pa_nil))
      (pss_cons (ps_set (i := 5) sc_rounds_of.nd rfl (Or.inl rfl) (pv 3))
      (pss_cons (ps_while PassesOwn.never (pt_not (pt_val (pe_ix ix_list (pv 2) (pv 5) (fun _ _ => rfl))))
      (pss_cons (ps_asg pe_bl (pg_sub (pv 2) (pv 5) set_list))
      (pss_cons (ps_expr (pe_bm PySem.F.plainAttrs_list PySem.F.slot_list_append PySem.F.type_list_append mt_append (pv 4) (pa_d (pv 5) pa_nil rfl)))
      (pss_one (ps_set (i := 5) sc_rounds_of.nd rfl (Or.inl rfl) (pe_ix ix_tup (pv 0) (pv 5) (fun _ _ => rfl)))))))
      (pss_one (ps_if (pt_cmpR op_gt (pe_callB call_len_seq (by rfl) T.n_len b_len (pa_d (pv 4) pa_nil rfl)) pe_int (nomark _)) (pss_one (ps_expr (pe_bm PySem.F.plainAttrs_list PySem.F.slot_list_append PySem.F.type_list_append mt_append (pv 1) (pa_d (pv 4) pa_nil rfl))))
      pss_nil))))))
      (pss_one (ps_ret (pv 1)))))), ?_⟩
    walk_at "rd"
    refine ⟨Nat.zero_le _, fun p hp => ?_⟩
    have t0 := same_upd (o := .lst []) hp
    have e0 : upd H p (.lst []) p = some (.lst []) := upd_same
    generalize upd H p (.lst []) = H0 at *
    walk_at "rd"
    refine ⟨few (by simp), fun p1 hp1 => ?_⟩
    have t1 := same_upd (o := .lst [V.bl false]) hp1
    have s1 := t0.trans t1
    have e1 := t1 _ _ e0
    have f1 : upd H0 p1 (.lst [V.bl false]) p1 = some (.lst [V.bl false]) := upd_same
    generalize upd H0 p1 (.lst [V.bl false]) = H1 at *
    walk_at "rd"
    refine ⟨t, _, rfl, .inr (SqT.of (s1 _ _ ht)), ?_⟩
    walk_at "rd"
    refine ⟨p1, _, _, rfl, rfl, f1, by omega, by rw [hlV]; omega, Nat.le_of_lt (small20000 (by simp; omega)), fun m hm => ?_⟩
    have t2 := same_upd (o := .lst (List.replicate (((nV ns).length : Nat) : Int).toNat [V.bl false]).flatten) hm
    have s2 := s1.trans t2
    have hm0 := s1.free hm
    have e2 := t2 _ _ e1
    have hpm : p ≠ m := ne_of_none e1 hm
    have hM : (upd H1 m (.lst (List.replicate (((nV ns).length : Nat) : Int).toNat [V.bl false]).flatten)) m = some (.lst ((List.replicate ns.length false).map V.bl)) := by
      rw [upd_same, Int.toNat_natCast, hlV, bl_rep]
    generalize (upd H1 m (.lst (List.replicate (((nV ns).length : Nat) : Int).toNat [V.bl false]).flatten)) = H2 at *
    walk_at "rd"
    refine ⟨t, _, rfl, .inr (SqT.of (s2 _ _ ht)), ?_⟩
    walk_at "rd"
    refine ⟨_, rfl, by omega, by rw [hlV]; omega, ?_⟩
    rw [hlV, Int.toNat_natCast]
    refine for_range (fun i σ H3 => ∃ (rs : List Addr) (ms : List Bool) (v3 v4 v5 : Option V), σ = [some (.ref t), some (.ref p), some (.ref m), v3, v4, v5] ∧ H3 p = some (.lst (rs.map V.ref)) ∧ RsAt H3 rs (rnds ns i) ∧ (∀ r ∈ rs, r ≠ p ∧ r ≠ m) ∧ H3 m = some (.lst (ms.map V.bl)) ∧ MetB ms (rnds ns i).flatten ns.length ∧ Same H H3) ?_ ?_ ?_
    · exact ⟨[], _, _, _, _, rfl, e2, ⟨rfl, fun i r R e => by cases e⟩, (fun r hr => by cases hr), hM, metB_none _, s2⟩
    · rintro i σ H3 hi ⟨rs, ms, v3, v4, v5, rfl, hp3, hrs, hne, hm3, hml, s3⟩
      have hrl := rnds_len ns i
      rw [← hrs.1] at hrl
      walk_at "rd"
      refine ⟨Nat.zero_le _, fun a ha => ?_⟩
      have ta := same_upd (o := .lst []) ha
      have ha0 := s3.free ha
      have hap : a ≠ p := (ne_of_none hp3 ha).symm
      have ham : a ≠ m := (ne_of_none hm3 ha).symm
      have har : ∀ r ∈ rs, r ≠ a := fun r hr => by obtain ⟨_, _, e⟩ := hrs.is hr; exact ne_of_none e ha
      have s4 := s3.trans ta
      have hp4 := ta _ _ hp3
      have hm4 := ta _ _ hm3
      have hrs4 := hrs.same ta
      have ha4 : upd H3 a (.lst []) a = some (.lst []) := upd_same
      generalize upd H3 a (.lst []) = H4 at *
      walk_at "rd"
      have hrn := rl_le ho hi
      refine while_rd (fun σ H5 => ∃ (ms : List Bool) (j : Nat), σ = [some (.ref t), some (.ref p), some (.ref m), some (.int (0 + (i : Int))), some (.ref a), some (.int (itr ns j i))] ∧ j ≤ rl ns i ∧ H5 p = some (.lst (rs.map V.ref)) ∧ RsAt H5 rs (rnds ns i) ∧ H5 m = some (.lst (ms.map V.bl)) ∧ MetB ms ((rnds ns i).flatten ++ seg ns j i) ns.length ∧ H5 a = some (.lst (nV (seg ns j i))) ∧ Same H H5) (fun _ H5 => fAt H5 m)
        ⟨ms, 0, by simp [itr], Nat.zero_le _, hp4, hrs4, hm4, by rw [show seg ns 0 i = [] from rfl, List.append_nil]; exact hml, ha4, s4⟩ ?_
      rintro z σ H5 ⟨ms, j, rfl, hj, hp5, hrs5, hm5, hml5, ha5, s5⟩ hz
      rw [fAt_of hm5] at hz
      have hy := itr_lt ho hi j
      have hsl := seg_len ns j i
      obtain ⟨b, hb5⟩ : ∃ b, ms[itr ns j i]? = some b := ⟨_, List.getElem?_eq_getElem (by rw [hml5.1]; exact hy)⟩
      have hbm := hml5.2 _ b hb5
      rw [rl_stop ho hi hj] at hbm
      walk_at "rd"
      refine r_ixL (SqL.of hm5) (atI_nat (bl_at hb5)) ?_
      cases b with
      | false =>
        have hlt : j < rl ns i := by
          rcases Nat.lt_or_eq_of_le hj with h | h
          · exact h
          · have := hbm.mpr h
            cases this
        walk_at "rd"
        refine r_turn ?_
        walk_at "rd"
        refine r_setL hm5 rfl (by rw [List.length_map, hml5.1]; exact hy) ?_
        rw [bl_set]
        have hct := cnt_set hb5
        have hm6 : upd H5 m (.lst ((ms.set (itr ns j i) true).map V.bl)) m = some (.lst ((ms.set (itr ns j i) true).map V.bl)) := upd_same
        have s6 := push_same (o := .lst ((ms.set (itr ns j i) true).map V.bl)) s5 hm0
        have ha6 : upd H5 m (.lst ((ms.set (itr ns j i) true).map V.bl)) a = some (.lst (nV (seg ns j i))) := by rw [upd_ne ham]; exact ha5
        have hp6 : upd H5 m (.lst ((ms.set (itr ns j i) true).map V.bl)) p = some (.lst (rs.map V.ref)) := by rw [upd_ne hpm]; exact hp5
        have hrs6 : RsAt (upd H5 m (.lst ((ms.set (itr ns j i) true).map V.bl))) rs (rnds ns i) := hrs5.upd fun r hr => (hne r hr).2
        generalize upd H5 m (.lst ((ms.set (itr ns j i) true).map V.bl)) = H6 at *
        walk_at "rd"
        refine ⟨.inl ⟨rfl, _, SqL.of ha6⟩, ?_⟩
        walk_at "rd"
        refine r_append ha6 (by rw [List.length_map]; exact small20000 (by omega)) ?_
        walk_at "rd"
        refine r_ixT (SqT.of ((push_same s6 ha0) _ _ ht)) (atI_nat (nx_nV hy)) ?_
        walk_at "rd"
        refine ⟨⟨ms.set (itr ns j i) true, j + 1, rfl, hlt, by rw [upd_ne hap.symm]; exact hp6, hrs6.upd har, by rw [upd_ne ham.symm]; exact hm6, by rw [seg_succ, ← List.append_assoc]; exact hml5.put, by rw [upd_same, nV_snoc, seg_succ], push_same s6 ha0⟩, ?_⟩
        rw [fAt_of (ms := ms.set (itr ns j i) true) (by rw [upd_ne ham.symm]; exact hm6)]
        omega
      | true =>
        have hjr := hbm.mp rfl
        have en := rnds_next ho hi
        have ef := flat_next ho hi
        rw [← hjr] at en ef
        walk_at "rd"
        refine ⟨a, _, rfl, .inl (SqL.of ha5), ?_⟩
        walk_at "rd"
        rw [List.length_map]
        refine iteP (fun hl => ?_) (fun hl => ?_)
        · walk_at "rd"
          rw [if_pos (by omega)] at en
          refine ⟨.inl ⟨rfl, _, SqL.of hp5⟩, ?_⟩
          walk_at "rd"
          refine r_append hp5 (by rw [List.length_map]; exact small20000 (by omega)) ?_
          walk_at "rd"
          refine ⟨rs ++ [a], ms, _, _, _, rfl, by rw [upd_same, List.map_append]; rfl, ?_, fun r hr => ?_, by rw [upd_ne hpm.symm]; exact hm5, by rw [ef]; exact hml5, push_same s5 hp⟩
          · rw [en]
            exact (hrs5.upd fun r hr => (hne r hr).1).snoc (by rw [upd_ne hap]; exact ha5)
          · rcases List.mem_append.mp hr with hr | hr
            · exact hne r hr
            · rw [List.mem_singleton.mp hr]
              exact ⟨hap, ham⟩
        · walk_at "rd"
          rw [if_neg (by omega)] at en
          exact ⟨rs, ms, _, _, _, rfl, hp5, by rw [en]; exact hrs5, hne, hm5, by rw [ef]; exact hml5, s5⟩
    · rintro σ H3 ⟨rs, ms, v3, v4, v5, rfl, hp3, hrs, hne, hm3, hml, s3⟩
      walk_at "rd"
      exact q p rs H3 s3 hp hp3 hrs

theorem line25 {n : Nat} (h : n ≤ 10000000) : n ≤ sizeLine := Nat.le_trans h (by decide)
def jOf (ns : List Nat) (st : Nat) : List (Nat × Nat) := jmp st (rnds ns ns.length)
def spShortX : Sp := fun vs H Q _ => ∃ (t : Addr) (ns : List Nat) (st : Nat), vs = [.ref t, .int st] ∧ H t = some (.tup (nV ns)) ∧ Ord ns ∧ ns.length ≤ 3000 ∧ 0 < st ∧
  ∀ d H', Same H H' → H d = none → H' d = some (.dK (kvJ (jOf ns st))) → Q (.ref d) H'
theorem flat_take {rs : List (List Nat)} (k : Nat) (h : rs.flatten.Nodup) : (rs.take k).flatten.Nodup := by
  rw [← List.take_append_drop k rs, List.flatten_append, List.nodup_append] at h
  exact h.1
theorem ok_shortcuts_of {f : Addr} {fd : FuncData} (F : Fun K "shortcuts_of" "shortcuts_of" s_shortcuts_of f fd) (T : Txt K mg C_WoodError C_NoOrder) (c_rounds_of : Cal P w K mg base "rounds_of" 1 ["order"] spRoundsX) : FnOk P w K mg base CX0 2 f fd ["order", "step"] spShortX := by
  refine F.ok sc_shortcuts_of (fun vs H Q E h => ?_) (fun cdv A outer s H vs Q E hr h => ?_)
  · obtain ⟨t, ns, st, rfl, _⟩ := h
    rfl
  · obtain ⟨t, ns, st, rfl, ht, ho, hn, hst, q⟩ := h
    refine ⟨_, (pss_cons (ps_set (i := 2) sc_shortcuts_of.nd rfl (Or.inl rfl) pe_dnew)
      (pss_cons (ps_for PassesOwn.never rfl (pi_list (pe_fn c_rounds_of (hr.mono (by decide : 1 ≤ _)) (pa_d (pv 0) pa_nil rfl))) (pg_name (i := 3) sc_shortcuts_of.nd rfl (Or.inl rfl))
      (pss_one (ps_if (pt_cmpR op_gt (pe_callB call_len_seq (by rfl) T.n_len b_len (pa_d (pv 3) pa_nil rfl)) (pv 1) (nomark _)) (pss_cons (ps_set (i := 4) sc_shortcuts_of.nd rfl (Or.inl rfl) (pe_stepX (pv 3) (pv 1)))
      (pss_one (ps_expr (pe_bm PySem.F.plainAttrs_dict PySem.F.slot_dict_update PySem.F.type_dict_update mt_updateX (pv 2) (pa_d (pe_dzipX rfl rfl T.n_dict rfl T.n_zip (pa_d (pv 4) (pa_d (pe_op op_cat (pe_slice sl_list (pv 4) (po_some (pe_un un_neg pe_int)) po_none) (pe_slice sl_list (pv 4) po_none (po_some (pe_un un_neg pe_int)))) pa_nil rfl) rfl)) pa_nil rfl)))))
      pss_nil)))
      (pss_one (ps_ret (pv 2))))), ?_⟩
    walk_at "rd"
    intro d hd
    have t0 := same_upd (o := .dK []) hd
    have e0 : upd H d (.dK []) d = some (.dK []) := upd_same
    generalize upd H d (.dK []) = H0 at *
    walk_at "rd"
    refine ⟨t, ns, rfl, t0 _ _ ht, ho, by omega, fun p rs H1 s1 f1 e1 hrs => ?_⟩
    have s01 := t0.trans s1
    obtain ⟨hr1, hr2, hr3⟩ := rnds_spec ho ns.length (Nat.le_refl _)
    have hrl := rnds_len ns ns.length
    refine ⟨p, rfl, ⟨_, SqL.of e1⟩, ?_⟩
    refine for_list (xs := rs.map V.ref) (fun i σ H2 => ∃ (v3 v4 : Option V), σ = [some (.ref t), some (.int st), some (.ref d), v3, v4] ∧ H2 d = some (.dK (kvJ (jmp st ((rnds ns ns.length).take i)))) ∧ H2 p = some (.lst (rs.map V.ref)) ∧ RsAt H2 rs (rnds ns ns.length) ∧ Same H H2) ?_ (fun k σ H2 _ h => by obtain ⟨_, _, _, _, h, _⟩ := h; exact SqL.of h) ?_ ?_
    · exact ⟨_, _, rfl, s1 _ _ e0, e1, hrs, s01⟩
    · rintro i x σ H2 hx ⟨v3, v4, rfl, hd2, hp2, hrs2, s2⟩
      have hi := at_lt hx
      rw [List.length_map] at hi
      rw [List.getElem?_map] at hx
      obtain ⟨r, hr, rfl⟩ : ∃ r, rs[i]? = some r ∧ V.ref r = x := by
        cases e : rs[i]? with
        | none => rw [e] at hx; cases hx
        | some r => rw [e] at hx; exact ⟨r, rfl, Option.some.inj hx⟩
      have hi2 : i < (rnds ns ns.length).length := by rw [← hrs2.1]; exact hi
      have hRi : (rnds ns ns.length)[i]? = some (rnds ns ns.length)[i] := List.getElem?_eq_getElem hi2
      have hqr := hrs2.2 i r _ hr hRi
      have htk : (rnds ns ns.length).take (i + 1) = (rnds ns ns.length).take i ++ [(rnds ns ns.length)[i]] := by rw [List.take_add_one, hRi]; rfl
      have hfn := flat_take (i + 1) hr2
      have hjn := jmp_nodup hst hfn
      rw [htk, jmp_snoc] at hjn
      have hjl : (jmp st ((rnds ns ns.length).take i)).length ≤ 3000 := by
        have h1 := few_below ns.length ((jmp st ((rnds ns ns.length).take i)).map (·.1)) (jmp_nodup hst (flat_take i hr2)) fun x hx => by
          obtain ⟨R, hR, hxR⟩ := List.mem_flatten.mp (jmp_sub hst hx)
          exact rnds_lt ho (Nat.le_refl _) (List.mem_flatten.mpr ⟨R, List.mem_of_mem_take hR, hxR⟩)
        rw [List.length_map] at h1
        omega
      obtain ⟨c, hc, hRc⟩ := hr1 _ (List.getElem_mem hi2)
      have hRl : (rnds ns ns.length)[i].length ≤ 3000 := by rw [hRc, cyc_len]; have := (per_spec ho hc).2.2.1; omega
      have hRn : (rnds ns ns.length)[i].Nodup := by rw [hRc]; exact cyc_nodup ho hc
      generalize (rnds ns ns.length)[i] = R at *
      walk_at "rd"
      refine ⟨r, _, rfl, .inl (SqL.of hqr), ?_⟩
      walk_at "rd"
      rw [List.length_map]
      refine iteP (fun hlg => ?_) (fun hlg => ?_)
      · have hlg : st < R.length := by omega
        walk_at "rd"
        refine ⟨r, _, st, rfl, rfl, hst, SqL.of hqr, fun a ha => ?_⟩
        rw [pick_nV hst]
        have hmd := marks_nodup hst hRn
        have hml : (marks st R).length ≤ 3000 := by
          rw [marks_len]
          exact Nat.le_trans (Nat.div_le_of_le_mul (by
            have : 1 * R.length ≤ st * R.length := Nat.mul_le_mul_right _ hst
            have : R.length ≤ st * R.length := by omega
            have h4 : st * 1 ≤ st * R.length := Nat.mul_le_mul_left _ (by omega)
            rcases Nat.lt_or_ge 1 st with h5 | h5
            · have : R.length + st ≤ st * R.length + 1 := by
                have h6 : (st - 1) * 1 ≤ (st - 1) * R.length := Nat.mul_le_mul_left _ (by omega)
                have h7 : st * R.length = (st - 1) * R.length + R.length := by rw [Nat.sub_mul, Nat.one_mul]; omega
                omega
              omega
            · have : st = 1 := by omega
              subst this
              omega)) hRl
        have hpr : prs st R = (marks st R).zip (rot (marks st R)) := by unfold prs; rw [if_pos hlg]
        generalize hmk : marks st R = mk at *
        have t3 := same_upd (o := .lst (nV mk)) ha
        have s3 := s2.trans t3
        have ha3 : upd H2 a (.lst (nV mk)) a = some (.lst (nV mk)) := upd_same
        have hd3 := t3 _ _ hd2
        have hp3 := t3 _ _ hp2
        have hrs3 := hrs2.same t3
        generalize upd H2 a (.lst (nV mk)) = H3 at *
        walk_at "rd"
        refine ⟨.inr (.inr (.inl ⟨rfl, .inl ⟨_, hd3⟩⟩)), ?_⟩
        walk_at "rd"
        refine ⟨a, _, rfl, SqL.of ha3, fun b1 hb1 => ?_⟩
        have t4 := same_upd (o := .lst (cutV (nV mk) (some (-1)) none)) hb1
        have hb4 : upd H3 b1 (.lst (cutV (nV mk) (some (-1)) none)) b1 = some (.lst (cutV (nV mk) (some (-1)) none)) := upd_same
        have ha4 := t4 _ _ ha3
        have s4 := s3.trans t4
        have hd4 := t4 _ _ hd3
        have hp4 := t4 _ _ hp3
        have hrs4 := hrs3.same t4
        generalize upd H3 b1 (.lst (cutV (nV mk) (some (-1)) none)) = H4 at *
        walk_at "rd"
        refine ⟨a, _, rfl, SqL.of ha4, fun b2 hb2 => ?_⟩
        have t5 := same_upd (o := .lst (cutV (nV mk) none (some (-1)))) hb2
        have hb5 : upd H4 b2 (.lst (cutV (nV mk) none (some (-1)))) b2 = some (.lst (cutV (nV mk) none (some (-1)))) := upd_same
        have ha5 := t5 _ _ ha4
        have hc5 := t5 _ _ hb4
        have s5 := s4.trans t5
        have hd5 := t5 _ _ hd4
        have hp5 := t5 _ _ hp4
        have hrs5 := hrs4.same t5
        generalize upd H4 b2 (.lst (cutV (nV mk) none (some (-1)))) = H5 at *
        have hlen := congrArg List.length (turn_nV mk)
        rw [List.length_append, List.length_map, rot_len] at hlen
        walk_at "rd"
        refine ⟨b1, b2, _, _, rfl, rfl, hc5, hb5, line25 (by omega), fun c hc => ?_⟩
        rw [turn_nV]
        have t6 := same_upd (o := .lst (nV (rot mk))) hc
        have hc6 : upd H5 c (.lst (nV (rot mk))) c = some (.lst (nV (rot mk))) := upd_same
        have ha6 := t6 _ _ ha5
        have s6 := s5.trans t6
        have hd6 := t6 _ _ hd5
        have hp6 := t6 _ _ hp5
        have hrs6 := hrs5.same t6
        generalize upd H5 c (.lst (nV (rot mk))) = H6 at *
        have emr : mrgV [] (mk.map fun n : Nat => (n : Int)) (nV (rot mk)) = kvJ (prs st R) := by
          rw [hpr]
          exact mrg_kvJ mk (rot mk) [] hmd (rot_len mk).symm
        have hpl : (prs st R).length ≤ mk.length := by rw [hpr, List.length_zip, rot_len]; omega
        refine ⟨a, c, mk.map (fun n : Nat => (n : Int)), nV (rot mk), rfl, by rw [List.map_map]; exact SqL.of ha6, SqL.of hc6, by rw [List.length_map, List.length_map, rot_len], by rw [emr, List.length_map, List.length_map]; exact hpl, fun g hg => ?_⟩
        rw [emr]
        have t7 := same_upd (o := .dK (kvJ (prs st R))) hg
        have hg7 : upd H6 g (.dK (kvJ (prs st R))) g = some (.dK (kvJ (prs st R))) := upd_same
        have s7 := s6.trans t7
        have hd7 := t7 _ _ hd6
        have hp7 := t7 _ _ hp6
        have hrs7 := hrs6.same t7
        have hdg : d ≠ g := ne_of_none hd6 hg
        generalize upd H6 g (.dK (kvJ (prs st R))) = H7 at *
        walk_at "rd"
        refine r_updateX hdg hd7 hg7 (line25 (by rw [List.length_map, List.length_map]; omega)) ?_
        walk_at "rd"
        rw [merge_kvJ _ _ hjn]
        refine ⟨_, _, rfl, by rw [upd_same, htk, jmp_snoc], ?_, hrs7.upd fun r hr e => ?_, push_same s7 hd⟩
        · have hne : p ≠ d := ne_of hp7 hd7 (by intro z; cases z)
          rw [upd_ne hne]
          exact hp7
        · obtain ⟨_, _, er⟩ := hrs7.is hr
          rw [e, hd7] at er
          cases er
      · walk_at "rd"
        have hpr : prs st R = [] := by unfold prs; rw [if_neg (by omega)]
        exact ⟨_, _, rfl, by rw [htk, jmp_snoc, hpr, List.append_nil]; exact hd2, hp2, hrs2, s2⟩
    · rintro σ H2 ⟨v3, v4, rfl, hd2, hp2, hrs2, s2⟩
      walk_at "rd"
      rw [List.length_map, hrs2.1, List.take_of_length_le (Nat.le_refl _)] at hd2
      exact q d H2 s2 hd hd2

theorem ord_goodP {ns : List Nat} (o : Ord ns) : GoodP (nV ns) := fun j hj => by
  rw [List.length_map] at hj
  refine ⟨ns[j], nV_at (List.getElem?_eq_getElem hj), by rw [List.length_map]; exact o.lt _ (List.getElem_mem hj), fun i hi e => ?_⟩
  rw [nV_at (List.getElem?_eq_getElem (show i < ns.length by omega))] at e
  have := V.int.inj (Option.some.inj e)
  exact (List.pairwise_iff_getElem.mp o.nd) i j (by omega) hj hi (by omega)
/-- an order with its shortcuts -/
def IsShX (C : Addr) (H : Hp) (x : Addr) (ns : List Nat) (st : Nat) : Prop := ∃ dx t d, H x = some (.ins C dx [("onward", .ref t), ("leaps", .ref d)]) ∧ H t = some (.tup (nV ns)) ∧ H d = some (.dK (kvJ (jOf ns st)))
theorem IsShX.same {C x : Addr} {H H' : Hp} {ns : List Nat} {st : Nat} (s : Same H H') (h : IsShX C H x ns st) : IsShX C H' x ns st := by
  obtain ⟨dx, t, d, h1, h2, h3⟩ := h
  exact ⟨dx, t, d, s _ _ h1, s _ _ h2, s _ _ h3⟩
def spShInitX (K : PySem.W.Frag) (CN C : Addr) : Sp := fun vs H Q E => ∃ (x dx a : Addr) (ns : List Nat) (st : Nat), vs = [.ref x, .ref a, .int st] ∧ H x = some (.ins C dx []) ∧ H a = some (.lst (nV ns)) ∧ Ord ns ∧ ns.length ≤ 3000 ∧ 0 < st ∧
  ∀ H', SameBut x H H' → IsShX C H' x ns st → Q .non H'
theorem ok_Shortcuts_init {f : Addr} {fd : FuncData} (F : FunD K "__init__" "Shortcuts.__init__" s_Shortcuts_init f fd) (T : Txt K mg C_WoodError C_NoOrder) (Z : Z_Shortcuts K C_Shortcuts) (c_check_order : CalE P w K mg base "check_order" 3 ["order"] (spCheck K C_NoOrder))
    (c_shortcuts_of : Cal P w K mg base "shortcuts_of" 2 ["order", "step"] spShortX) : FnOk P w K mg base (CXE P w) 4 f fd ["self", "order", "step"] (spShInitX K C_NoOrder C_Shortcuts) := by
  refine F.okE sc_Shortcuts_init (fun vs H Q E h => ?_) (fun cdv A outer s H vs Q E hr h => ?_)
  · obtain ⟨x, dx, a, ns, st, rfl, _⟩ := h
    rfl
  · obtain ⟨x, dx, a, ns, st, rfl, hx, ha, ho, hn, hst, q⟩ := h
    refine ⟨_, (pss_cons (ps_expr (pe_fnE c_check_order (hr.mono (by decide : 3 ≤ _)) (pass_on rfl) (pa_d (pv 1) pa_nil rfl)))
      (pss_cons (ps_fld (pv 0) (pe_callTy call_tuple_of (by rfl) T.n_tuple b_tuple (pa_d (pv 1) pa_nil rfl)) rfl)
      (pss_one (ps_fld (pv 0) (pe_fn c_shortcuts_of (hr.mono (by decide : 2 ≤ _)) (pa_d (pe_fld (pv 0) rfl) (pa_d (pv 2) pa_nil rfl) rfl)) rfl)))), ?_⟩
    walk_at "rd"
    refine ⟨a, nV ns, rfl, ha, fun y hy => ?_, by rw [List.length_map]; omega, fun hG H1 s1 => ?_, fun k hf => (faultP_good hf (ord_goodP ho)).elim⟩
    · obtain ⟨n, _, rfl⟩ := List.mem_map.mp hy
      exact any_int _
    have hx1 := s1 _ _ hx
    have ha1 := s1 _ _ ha
    walk_at "rd"
    refine ⟨a, _, rfl, .inl ⟨SqL.of ha1, fun t ht => ?_⟩⟩
    have t2 := same_upd (o := .tup (nV ns)) ht
    have hx2 := t2 _ _ hx1
    have ht2 : upd H1 t (.tup (nV ns)) t = some (.tup (nV ns)) := upd_same
    have s2 := s1.trans t2
    generalize upd H1 t (.tup (nV ns)) = H2 at *
    have htx : t ≠ x := ne_of ht2 hx2 (by intro z; cases z)
    walk_at "rd"
    refine r_sfldE hx2 Z.cl Z.n_onward (by decide) ?_
    have hx3 : upd H2 x (.ins C_Shortcuts dx (putF "onward" (.ref t) [])) x = some (.ins C_Shortcuts dx [("onward", .ref t)]) := upd_same
    have ht3 : upd H2 x (.ins C_Shortcuts dx (putF "onward" (.ref t) [])) t = some (.tup (nV ns)) := by rw [upd_ne htx]; exact ht2
    have s3 := s2.but.trans (sameBut_upd (H := H2) (x := x) (o := .ins C_Shortcuts dx (putF "onward" (.ref t) [])))
    generalize upd H2 x (.ins C_Shortcuts dx (putF "onward" (.ref t) [])) = H3 at *
    walk_at "rd"
    refine ⟨x, C_Shortcuts, dx, _, .ref t, rfl, hx3, Z.cl, Z.n_onward, rfl, ?_⟩
    walk_at "rd"
    refine ⟨t, ns, st, rfl, ht3, ho, hn, hst, fun d H4 s4 f4 e4 => ?_⟩
    have hdx : d ≠ x := ne_of e4 (s4 _ _ hx3) (by intro z; cases z)
    walk_at "rd"
    refine r_sfldE (s4 _ _ hx3) Z.cl Z.n_leaps (show 1 < 1000 by decide) ?_
    walk_at "rd"
    exact q _ ((s3.trans s4.but).trans sameBut_upd) ⟨dx, t, d, upd_same, by rw [upd_ne htx]; exact s4 _ _ ht3, by rw [upd_ne hdx]; exact e4⟩

def spWayBack (C : Addr) : Sp := fun vs H Q _ => ∃ (x : Addr) (ns : List Nat) (st p : Nat) (lg : Bool) (ws : List Nat), vs = [.ref x, .int p] ∧ IsShX C H x ns st ∧ Ord ns ∧ 0 < st ∧ p < ns.length ∧ Way ns (jOf ns st) p lg ws ∧ ws.length ≤ 5000 ∧
  ∀ a H', Same H H' → H a = none → H' a = some (.lst (nV ws)) → Q (.ref a) H'
theorem ok_Shortcuts_way_back {f : Addr} {fd : FuncData} (F : Fun K "way_back" "Shortcuts.way_back" s_Shortcuts_way_back f fd) (T : Txt K mg C_WoodError C_NoOrder) (Z : Z_Shortcuts K C_Shortcuts) : FnOk P w K mg base CX0 1 f fd ["self", "place"] (spWayBack C_Shortcuts) := by
  refine F.ok sc_Shortcuts_way_back (fun vs H Q E h => ?_) (fun cdv A outer s H vs Q E hr h => ?_)
  · obtain ⟨x, ns, st, p, lg, ws, rfl, _⟩ := h
    rfl
  · obtain ⟨x, ns, st, p, lg, ws, rfl, hS, ho, hst, hp, hW, hwl, q⟩ := h
    obtain ⟨dx, t, d, hx, ht, hd⟩ := hS
    have hq : ∀ i y, look (jOf ns st) i = some y → y < ns.length := fun i y h => look_lt ho hst h
    generalize jOf ns st = J at *
    obtain ⟨t0, hT, hE⟩ : ∃ t0, To ns J p t0 ∧ ((look J (itr ns t0 p) = none ∧ ws = pth ns t0 p) ∨ ∃ y u, look J (itr ns t0 p) = some y ∧ From ns p y u ∧ ws = pth ns t0 p ++ pth ns u y) := by
      cases hW with
      | short h hn => exact ⟨_, h, .inl ⟨hn, rfl⟩⟩
      | long h hn hf => exact ⟨_, h, .inr ⟨_, _, hn, hf, rfl⟩⟩
    have htl : t0 + 1 ≤ 5000 := by
      rcases hE with ⟨_, e⟩ | ⟨_, _, _, _, e⟩
      · rw [e, pth_len] at hwl; exact hwl
      · rw [e, List.length_append, pth_len, pth_len] at hwl; omega
    refine ⟨_, (pss_cons (ps_set (i := 2) sc_Shortcuts_way_back.nd rfl (Or.inl rfl) (pe_lst (pa_d (pv 1) pa_nil rfl)))
      (pss_cons (ps_set (i := 3) sc_Shortcuts_way_back.nd rfl (Or.inl rfl) (pv 1))
      (pss_cons (ps_while PassesOwn.never (PW.pt (pw_and (pt_cmpR op_notInD (pv 3) (pe_fld (pv 0) rfl) rfl) (pw_and1 (pt_cmpR op_ne (pe_ix ix_tup (pe_fld (pv 0) rfl) (pv 3) (fun _ _ => rfl)) (pv 1) (nomark _)))))
      (pss_cons (ps_set (i := 3) sc_Shortcuts_way_back.nd rfl (Or.inl rfl) (pe_ix ix_tup (pe_fld (pv 0) rfl) (pv 3) (fun _ _ => rfl)))
      (pss_one (ps_expr (pe_bm PySem.F.plainAttrs_list PySem.F.slot_list_append PySem.F.type_list_append mt_append (pv 2) (pa_d (pv 3) pa_nil rfl))))))
      (pss_cons (ps_if (pt_cmpR op_inD (pv 3) (pe_fld (pv 0) rfl) rfl) (pss_cons (ps_set (i := 3) sc_Shortcuts_way_back.nd rfl (Or.inl rfl) (pe_ix ix_dict (pe_fld (pv 0) rfl) (pv 3) (fun _ _ => rfl)))
      (pss_one (ps_expr (pe_bm PySem.F.plainAttrs_list PySem.F.slot_list_append PySem.F.type_list_append mt_append (pv 2) (pa_d (pv 3) pa_nil rfl)))))
      pss_nil)
      (pss_cons (ps_while PassesOwn.never (pt_cmpR op_ne (pe_ix ix_tup (pe_fld (pv 0) rfl) (pv 3) (fun _ _ => rfl)) (pv 1) (nomark _))
      (pss_cons (ps_set (i := 3) sc_Shortcuts_way_back.nd rfl (Or.inl rfl) (pe_ix ix_tup (pe_fld (pv 0) rfl) (pv 3) (fun _ _ => rfl)))
      (pss_one (ps_expr (pe_bm PySem.F.plainAttrs_list PySem.F.slot_list_append PySem.F.type_list_append mt_append (pv 2) (pa_d (pv 3) pa_nil rfl))))))
      (pss_one (ps_ret (pv 2)))))))), ?_⟩
    walk_at "rd"
    refine ⟨few (by simp), fun a ha => ?_⟩
    have s0 := same_upd (o := .lst [V.int (p : Int)]) ha
    have e0 : upd H a (.lst [V.int (p : Int)]) a = some (.lst (nV (pth ns 0 p))) := upd_same
    generalize upd H a (.lst [V.int (p : Int)]) = H0 at *
    walk_at "rd"
    refine while_rd (fun σ H1 => ∃ i, σ = [some (.ref x), some (.int p), some (.ref a), some (.int (itr ns i p))] ∧ i ≤ t0 ∧ H1 a = some (.lst (nV (pth ns i p))) ∧ Same H H1) (fun _ H1 => t0 + 1 - lenAt H1 a) ⟨0, rfl, Nat.zero_le _, e0, s0⟩ ?_
    rintro z σ H1 ⟨i, rfl, hi, ha1, s1⟩ hz
    rw [lenAt_of ha1, List.length_map, pth_len] at hz
    have hil := itr_lt ho hp i
    have onw : ∀ {G : Hp} {R : VK}, Same H G → ∀ y : Nat, y < ns.length → R (.int (nx ns y)) G → rIxT K (.ref t) (.int y) G R := fun sg y hy r => r_ixT (SqT.of (sg _ _ ht)) (atI_nat (nx_nV hy)) r
    walk_at "rd"
    refine ⟨x, C_Shortcuts, dx, _, .ref d, rfl, s1 _ _ hx, Z.cl, Z.n_leaps, rfl, ?_⟩
    refine r_notInD (s1 _ _ hd) ?_
    rw [in_kvJ]
    by_cases hlt : i < t0
    · obtain ⟨f1, f2⟩ := hT.free i hlt
      rw [f1, show (!(none : Option Nat).isSome) = true from rfl]
      walk_at "rd"
      refine ⟨x, C_Shortcuts, dx, _, .ref t, rfl, s1 _ _ hx, Z.cl, Z.n_onward, rfl, ?_⟩
      walk_at "rd"
      refine onw s1 _ hil ?_
      walk_at "rd"
      have f2 : nx ns (itr ns i p) ≠ p := f2
      refine iteN (fun _ => ?_) (fun hc => absurd (vN.mp hc) f2)
      · walk_at "rd"
        refine r_turn ?_
        walk_at "rd"
        refine ⟨x, C_Shortcuts, dx, _, .ref t, rfl, s1 _ _ hx, Z.cl, Z.n_onward, rfl, ?_⟩
        walk_at "rd"
        refine onw s1 _ hil ?_
        walk_at "rd"
        refine ⟨.inl ⟨rfl, _, SqL.of ha1⟩, ?_⟩
        walk_at "rd"
        refine r_append ha1 (by rw [List.length_map, pth_len]; exact small20000 (by omega)) ?_
        walk_at "rd"
        refine ⟨⟨i + 1, rfl, hlt, by rw [upd_same, nV_snoc, pth_succ]; rfl, push_same s1 ha⟩, ?_⟩
        rw [lenAt_of upd_same, List.length_append, List.length_map, pth_len]
        simp
        omega
    · obtain rfl : i = t0 := by omega
      rcases hE with ⟨hn, e⟩ | ⟨y, u, hn, hF, e⟩
      · have hst2 : nx ns (itr ns i p) = p := by
          rcases hT.stop with h | h
          · rw [hn] at h; cases h
          · exact h
        rw [hn, show (!(none : Option Nat).isSome) = true from rfl]
        walk_at "rd"
        refine ⟨x, C_Shortcuts, dx, _, .ref t, rfl, s1 _ _ hx, Z.cl, Z.n_onward, rfl, ?_⟩
        walk_at "rd"
        refine onw s1 _ hil ?_
        rw [hst2]
        walk_at "rd"
        refine iteN (fun h => absurd rfl h) (fun _ => ?_)
        walk_at "rd"
        refine ⟨x, C_Shortcuts, dx, _, .ref d, rfl, s1 _ _ hx, Z.cl, Z.n_leaps, rfl, ?_⟩
        refine r_inD (s1 _ _ hd) ?_
        rw [in_kvJ, hn, show (none : Option Nat).isSome = false from rfl]
        walk_at "rd"
        refine while_rd (fun σ H2 => σ = [some (.ref x), some (.int p), some (.ref a), some (.int (itr ns i p))] ∧ H2 = H1) (fun _ _ => 0) ⟨rfl, rfl⟩ ?_
        rintro z σ H2 ⟨rfl, rfl⟩ _
        walk_at "rd"
        refine ⟨x, C_Shortcuts, dx, _, .ref t, rfl, s1 _ _ hx, Z.cl, Z.n_onward, rfl, ?_⟩
        walk_at "rd"
        refine onw s1 _ hil ?_
        rw [hst2]
        walk_at "rd"
        refine iteN (fun h => absurd rfl h) (fun _ => ?_)
        walk_at "rd"
        exact q a _ s1 ha (by rw [e]; exact ha1)
      · have hul : i + 1 + (u + 1) ≤ 5000 := by rw [e, List.length_append, pth_len, pth_len] at hwl; exact hwl
        have hy := hq _ _ hn
        rw [hn, show (!(some y).isSome) = false from rfl]
        walk_at "rd"
        refine ⟨x, C_Shortcuts, dx, _, .ref d, rfl, s1 _ _ hx, Z.cl, Z.n_leaps, rfl, ?_⟩
        refine r_inD (s1 _ _ hd) ?_
        rw [in_kvJ, hn, show (some y).isSome = true from rfl]
        walk_at "rd"
        refine ⟨x, C_Shortcuts, dx, _, .ref d, rfl, s1 _ _ hx, Z.cl, Z.n_leaps, rfl, ?_⟩
        walk_at "rd"
        refine r_ixD (v := .int y) (s1 _ _ hd) (by rw [val_kvJ, hn]; rfl) ?_
        walk_at "rd"
        refine ⟨.inl ⟨rfl, _, SqL.of ha1⟩, ?_⟩
        walk_at "rd"
        refine r_append ha1 (by rw [List.length_map, pth_len]; exact small20000 (by omega)) ?_
        have s2 := push_same (o := .lst (nV (pth ns i p) ++ [V.int y])) s1 ha
        have ha2 : upd H1 a (.lst (nV (pth ns i p) ++ [V.int y])) a = some (.lst (nV (pth ns i p ++ pth ns 0 y))) := by rw [upd_same, nV_snoc]; rfl
        generalize upd H1 a (.lst (nV (pth ns i p) ++ [V.int y])) = H2 at *
        walk_at "rd"
        refine while_rd (fun σ H3 => ∃ j, σ = [some (.ref x), some (.int p), some (.ref a), some (.int (itr ns j y))] ∧ j ≤ u ∧ H3 a = some (.lst (nV (pth ns i p ++ pth ns j y))) ∧ Same H H3) (fun _ H3 => i + 1 + (u + 1) - lenAt H3 a) ⟨0, rfl, Nat.zero_le _, ha2, s2⟩ ?_
        rintro z σ H3 ⟨j, rfl, hj, ha3, s3⟩ hz
        rw [lenAt_of ha3, List.length_map, List.length_append, pth_len, pth_len] at hz
        have hjl := itr_lt ho hy j
        walk_at "rd"
        refine ⟨x, C_Shortcuts, dx, _, .ref t, rfl, s3 _ _ hx, Z.cl, Z.n_onward, rfl, ?_⟩
        walk_at "rd"
        refine onw s3 _ hjl ?_
        walk_at "rd"
        by_cases hju : j < u
        · have f2 : nx ns (itr ns j y) ≠ p := hF.free j hju
          refine iteN (fun _ => ?_) (fun h => absurd (vN.mp h) f2)
          walk_at "rd"
          refine r_turn ?_
          walk_at "rd"
          refine ⟨x, C_Shortcuts, dx, _, .ref t, rfl, s3 _ _ hx, Z.cl, Z.n_onward, rfl, ?_⟩
          walk_at "rd"
          refine onw s3 _ hjl ?_
          walk_at "rd"
          refine ⟨.inl ⟨rfl, _, SqL.of ha3⟩, ?_⟩
          walk_at "rd"
          refine r_append ha3 (by rw [List.length_map, List.length_append, pth_len, pth_len]; exact small20000 (by omega)) ?_
          walk_at "rd"
          refine ⟨⟨j + 1, rfl, hju, by rw [upd_same, nV_snoc, pth_succ, ← List.append_assoc]; rfl, push_same s3 ha⟩, ?_⟩
          rw [lenAt_of upd_same, List.length_append, List.length_map, List.length_append, pth_len, pth_len]
          simp
          omega
        · obtain rfl : j = u := by omega
          have f2 : nx ns (itr ns j y) = p := hF.stop
          refine iteN (fun h => absurd (vN.mpr f2) h) (fun _ => ?_)
          walk_at "rd"
          exact q a _ s3 ha (by rw [e]; exact ha3)

def spBack (C : Addr) : Sp := fun vs H Q _ => ∃ (x : Addr) (ns : List Nat) (st p : Nat) (lg : Bool) (ws : List Nat) (l : Nat), vs = [.ref x, .int p] ∧ IsShX C H x ns st ∧ Ord ns ∧ 0 < st ∧ p < ns.length ∧ Way ns (jOf ns st) p lg ws ∧ ws.length ≤ 5000 ∧ ws[ws.length - 1]? = some l ∧
  ∀ H', Same H H' → Q (.int l) H'
theorem atI_end {xs : List V} {v : V} (h : xs[xs.length - 1]? = some v) : atI xs (-1) = some v := by
  have hl := at_lt h
  unfold atI ixN
  rw [if_neg (by decide), if_pos (by omega)]
  show xs[((-1 : Int) + (xs.length : Int)).toNat]? = _
  rw [show ((-1 : Int) + (xs.length : Int)).toNat = xs.length - 1 by omega]
  exact h
theorem ok_Shortcuts_back {f : Addr} {fd : FuncData} (F : Fun K "back" "Shortcuts.back" s_Shortcuts_back f fd) (T : Txt K mg C_WoodError C_NoOrder) (Z : Z_Shortcuts K C_Shortcuts) (m_Shortcuts_way_back : Mth P w K mg base C_Shortcuts "way_back" 1 ["self", "place"] (spWayBack C_Shortcuts)) : FnOk P w K mg base CX0 2 f fd ["self", "place"] (spBack C_Shortcuts) := by
  refine F.ok sc_Shortcuts_back (fun vs H Q E h => ?_) (fun cdv A outer s H vs Q E hr h => ?_)
  · obtain ⟨x, ns, st, p, lg, ws, l, rfl, _⟩ := h
    rfl
  · obtain ⟨x, ns, st, p, lg, ws, l, rfl, hS, ho, hst, hp, hW, hwl, hl, q⟩ := h
    obtain ⟨dx, t, d, hx, ht, hd⟩ := hS
    refine ⟨_, (pss_one (ps_ret (pe_ix ix_list (pe_mt m_Shortcuts_way_back (hr.mono (by decide : 1 ≤ _)) (pv 0) (pa_d (pv 1) pa_nil rfl)) (pe_un un_neg pe_int) (fun _ _ => rfl)))), ?_⟩
    walk_at "rd"
    refine ⟨x, dx, _, rfl, hx, rfl, ?_⟩
    walk_at "rd"
    refine ⟨x, ns, st, p, lg, ws, rfl, ⟨dx, t, d, hx, ht, hd⟩, ho, hst, hp, hW, hwl, fun a H1 s1 f1 e1 => ?_⟩
    walk_at "rd"
    refine r_ixL (SqL.of e1) (atI_end (by rw [List.length_map]; exact nV_at hl)) ?_
    walk_at "rd"
    exact q H1 s1

def spCell (K : PySem.W.Frag) : Sp := fun vs H Q _ => ∃ (a : Addr) (ns : List Int) (k : Nat), vs = [.ref a, .int k] ∧ SqL K H a (ns.map V.int) ∧ ∀ c : Int, Q (.int c) H
theorem ok_law_cell_at {f : Addr} {fd : FuncData} (F : Fun K "_law_cell_at" "_law_cell_at" s_law_cell_at f fd) (T : Txt K mg C_WoodError C_NoOrder) : FnOk P w K mg base CX0 1 f fd ["_law_script", "_law_k"] (spCell K) := by
  refine F.ok sc_law_cell_at (fun vs H Q E h => ?_) (fun cdv A outer s H vs Q E hr h => ?_)
  · obtain ⟨a, ns, k, rfl, _⟩ := h
    rfl
  · obtain ⟨a, ns, k, rfl, hS, q⟩ := h
    refine ⟨_, (pss_cons (ps_if (pt_cmpR op_lt (pv 1) (pe_callB call_len_seq (by rfl) T.n_len b_len (pa_d (pv 0) pa_nil rfl)) (nomark _)) (pss_one (ps_ret (pe_ix ix_list (pv 0) (pv 1) (fun _ _ => rfl))))
      pss_nil)
      (pss_one (ps_ret pe_int))), ?_⟩
    walk_at "rd"
    refine ⟨a, _, rfl, .inl hS, ?_⟩
    walk_at "rd"
    rw [List.length_map]
    refine iteP (fun hb => ?_) (fun hb => ?_)
    · walk_at "rd"
      have hk : k < ns.length := by omega
      refine r_ixL hS (v := .int ns[k]) ?_ (q _)
      refine atI_nat ?_
      rw [List.getElem?_map, List.getElem?_eq_getElem hk]
      rfl
    · walk_at "rd"
      exact q 0

theorem ok_law_whole {f : Addr} {fd : FuncData} (F : Fun K "_law_whole" "_law_whole" s_law_whole f fd) (T : Txt K mg C_WoodError C_NoOrder) : FnOk P w K mg base CX0 1 f fd ["_law_found"] (spWhole0 K) := by
  refine F.ok sc_law_whole (fun vs H Q E h => ?_) (fun cdv A outer s H vs Q E hr h => ?_)
  · obtain ⟨x, rfl, _⟩ := h
    rfl
  · obtain ⟨x, rfl, ⟨t, b1, b2, ty, k1, k2, e⟩, q⟩ := h
    refine ⟨_, (pss_one (ps_ret (pe_and (pe_callB call_isinst (by rfl) T.n_isinstance b_isinstance (pa_d (pv 0) (pa_d (pe_bltn (v := .ty "int") rfl T.n_int b_int rfl) pa_nil rfl) rfl)) (pe_one (pe_not (pe_callB call_isinst (by rfl) T.n_isinstance b_isinstance (pa_d (pv 0) (pa_d (pe_bltn (v := .ty "bool") rfl T.n_bool b_bool rfl) pa_nil rfl) rfl))))))), ?_⟩
    walk_at "rd"
    refine ⟨_, _, _, _, rfl, ty, k1, ?_⟩
    rw [← e] at q
    cases b1 with
    | false =>
      walk_at "rd"
      exact q
    | true =>
      walk_at "rd"
      refine ⟨_, _, _, _, rfl, ty, k2, ?_⟩
      walk_at "rd"
      exact q

def spMixed : Sp := fun vs H Q _ => ∃ c k : Int, vs = [.int c, .int k] ∧ 0 ≤ k ∧ k ≤ 1000 ∧ ∀ r : Int, 0 ≤ r → r < 2147483587 → Q (.int r) H
theorem ok_law_mixed {f : Addr} {fd : FuncData} (F : Fun K "_law_mixed" "_law_mixed" s_law_mixed f fd) (T : Txt K mg C_WoodError C_NoOrder) : FnOk P w K mg base CX0 1 f fd ["_law_cell", "_law_k"] spMixed := by
  refine F.ok sc_law_mixed (fun vs H Q E h => ?_) (fun cdv A outer s H vs Q E hr h => ?_)
  · obtain ⟨c, k, rfl, _⟩ := h
    rfl
  · obtain ⟨c, k, rfl, h0, h1, q⟩ := h
    refine ⟨_, (pss_cons (ps_set (i := 2) sc_law_mixed.nd rfl (Or.inl rfl) (pe_op op_mod (pe_op op_mul (pe_op op_add (pe_op op_mod (pv 0) pe_int) pe_int) (pe_op op_add pe_int (pe_op op_mul (pe_op op_mul pe_int (pv 1)) (pv 1)))) pe_int))
      (pss_one (ps_ret (pe_op op_mod (pe_op op_mul (pe_op op_add (pv 2) (pe_op op_mul pe_int (pv 1))) (pe_op op_add pe_int (pe_op op_mul pe_int (pv 1)))) pe_int)))), ?_⟩
    walk_at "rd"
    refine r_mulR (by omega) (by omega) ?_
    walk_at "rd"
    have b1 := Int.emod_nonneg c (show (2147483647 : Int) ≠ 0 by decide)
    have b2 := Int.emod_lt_of_pos c (show (0 : Int) < 2147483647 by decide)
    refine r_mulL (by omega) (by omega) ?_
    walk_at "rd"
    refine r_mulR (by omega) (by omega) ?_
    walk_at "rd"
    exact q _ (Int.emod_nonneg _ (by decide)) (Int.emod_lt_of_pos _ (by decide))

def spDigits (K : PySem.W.Frag) : Sp := fun vs H Q _ => ∃ (a : Addr) (ns : List Int) (k : Nat) (m : Int), vs = [.ref a, .int k, .int m] ∧ SqL K H a (ns.map V.int) ∧ 0 ≤ m ∧ m ≤ 100 ∧ ∀ p (ds : List Int) H', Same H H' → H p = none → H' p = some (.lst (ds.map V.int)) → ds.length = m.toNat → Q (.ref p) H'
theorem ok_law_digits {f : Addr} {fd : FuncData} (F : Fun K "_law_digits" "_law_digits" s_law_digits f fd) (T : Txt K mg C_WoodError C_NoOrder) (c_law_cell_at : Cal P w K mg base "_law_cell_at" 1 ["_law_script", "_law_k"] (spCell K)) (c_law_mixed : Cal P w K mg base "_law_mixed" 1 ["_law_cell", "_law_k"] spMixed) :
    FnOk P w K mg base CX0 2 f fd ["_law_script", "_law_at", "_law_many"] (spDigits K) := by
  refine F.ok sc_law_digits (fun vs H Q E h => ?_) (fun cdv A outer s H vs Q E hr h => ?_)
  · obtain ⟨a, ns, k, m, rfl, _⟩ := h
    rfl
  · obtain ⟨a, ns, k, m, rfl, hS, h0, h1, q⟩ := h
    refine ⟨_, (pss_cons (ps_set (i := 3) sc_law_digits.nd rfl (Or.inl rfl) (pe_op op_mul (pe_callB call_abs (by rfl) T.n_abs b_abs (pa_d (pe_fn c_law_cell_at (hr.mono (by decide : 1 ≤ _)) (pa_d (pv 0) (pa_d (pe_op op_add (pv 1) pe_int) pa_nil rfl) rfl)) pa_nil rfl)) (pe_op op_sub pe_int (pe_op op_mod (pe_fn c_law_cell_at (hr.mono (by decide : 1 ≤ _)) (pa_d (pv 0) (pa_d (pv 1) pa_nil rfl) rfl)) pe_int))))
      (pss_cons (ps_set (i := 4) sc_law_digits.nd rfl (Or.inl rfl) (pe_lst pa_nil))
      (pss_cons (ps_for PassesOwn.never rfl (pi_range1 rfl T.n_range (pa_d (pv 2) pa_nil rfl)) (pg_name (i := 5) sc_law_digits.nd rfl (Or.inl rfl))
      (pss_one (ps_if (pt_cmpR op_gt (pv 3) pe_int (nomark _)) (pss_cons (ps_expr (pe_bm PySem.F.plainAttrs_list PySem.F.slot_list_append PySem.F.type_list_append mt_append (pv 4) (pa_d (pe_op op_mod (pv 3) pe_int) pa_nil rfl)))
      (pss_one (ps_set (i := 3) sc_law_digits.nd rfl (Or.inl rfl) (pe_op op_fdiv (pv 3) pe_int))))
      (pss_one (ps_expr (pe_bm PySem.F.plainAttrs_list PySem.F.slot_list_append PySem.F.type_list_append mt_append (pv 4) (pa_d (pe_op op_mod (pe_fn c_law_mixed (hr.mono (by decide : 1 ≤ _)) (pa_d (pe_fn c_law_cell_at (hr.mono (by decide : 1 ≤ _)) (pa_d (pv 0) (pa_d (pe_op op_add (pe_op op_add (pv 1) pe_int) (pe_op op_mod (pv 5) pe_int)) pa_nil rfl) rfl)) (pa_d (pv 5) pa_nil rfl) rfl)) pe_int) pa_nil rfl)))))))
      (pss_one (ps_ret (pv 4)))))), ?_⟩
    walk_at "rd"
    refine ⟨a, ns, k + 1, rfl, hS, fun c1 => ?_⟩
    walk_at "rd"
    refine ⟨_, rfl, ?_⟩
    walk_at "rd"
    refine ⟨a, ns, k, rfl, hS, fun c2 => ?_⟩
    walk_at "rd"
    refine r_mulR (by omega) (by omega) ?_
    walk_at "rd"
    refine ⟨Nat.zero_le _, fun p hp => ?_⟩
    walk_at "rd"
    refine ⟨m, rfl, by omega, by omega, ?_⟩
    have s0 : Same H (upd H p (.lst [])) := same_upd hp
    have push : ∀ {H1 : Hp} {o : HO}, Same H H1 → Same H (upd H1 p o) := fun s1 b u e => by rw [upd_ne (ne_of_none e hp)]; exact s1 _ _ e
    have z1 : ∀ {l : List Int} {i : Nat}, l.length = i → i < m.toNat → (l.map V.int).length < sizeLine := fun e hi => by
      rw [List.length_map, e]
      exact small1000 (by omega)
    refine for_range (fun i σ H1 => ∃ (ds : List Int) (x : Int) (v5 : Option V), σ = [some (.ref a), some (.int k), some (.int m), some (.int x), some (.ref p), v5] ∧ ds.length = i ∧ H1 p = some (.lst (ds.map V.int)) ∧ Same H H1) ⟨[], _, _, rfl, rfl, upd_same, s0⟩ ?_ ?_
    · rintro i σ H1 hi ⟨ds, x, v5, rfl, hd, hH, sm⟩
      walk_at "rd"
      refine iteP (fun hb => ?_) (fun hb => ?_)
      · walk_at "rd"
        refine ⟨.inl ⟨rfl, _, SqL.of hH⟩, ?_⟩
        walk_at "rd"
        refine r_append hH (z1 hd hi) ?_
        walk_at "rd"
        exact ⟨ds ++ [x % 64], _, _, rfl, by rw [List.length_append, hd]; rfl, by rw [upd_same, List.map_append]; rfl, push sm⟩
      · walk_at "rd"
        refine ⟨.inl ⟨rfl, _, SqL.of hH⟩, ?_⟩
        walk_at "rd"
        refine ⟨a, ns, k + 1 + i % 9, ?_, sm.seq hS, fun c3 => ?_⟩
        · rw [show (k : Int) + 1 + (0 + (i : Int)) % 9 = ((k + 1 + i % 9 : Nat) : Int) by omega]
          rfl
        walk_at "rd"
        refine ⟨c3, _, rfl, by omega, by omega, fun r _ _ => ?_⟩
        walk_at "rd"
        refine r_append hH (z1 hd hi) ?_
        walk_at "rd"
        exact ⟨ds ++ [r % 64], _, _, rfl, by rw [List.length_append, hd]; rfl, by rw [upd_same, List.map_append]; rfl, push sm⟩
    · rintro σ H1 ⟨ds, x, v5, rfl, hd, hH, sm⟩
      walk_at "rd"
      exact q p ds H1 sm hp hH hd

theorem cut_to (xs : List V) (m : Nat) : cutV xs none (some (m : Int)) = xs.take m := by
  unfold cutV
  rw [HT.sIx_nat]
  show List.take (min m xs.length - 0) (List.drop 0 xs) = _
  rw [List.drop_zero, Nat.sub_zero]
  by_cases h : m ≤ xs.length
  · rw [Nat.min_eq_left h]
  · rw [Nat.min_eq_right (by omega), List.take_of_length_le (Nat.le_refl _), List.take_of_length_le (by omega)]
theorem cut_from (xs : List V) (m : Nat) : cutV xs (some (m : Int)) none = xs.drop m := by
  unfold cutV
  rw [HT.sIx_nat]
  show List.take (xs.length - min m xs.length) (List.drop (min m xs.length) xs) = _
  rw [List.take_of_length_le (by rw [List.length_drop]; omega)]
  by_cases h : m ≤ xs.length
  · rw [Nat.min_eq_left h]
  · rw [Nat.min_eq_right (by omega), List.drop_of_length_le (Nat.le_refl _), List.drop_of_length_le (by omega)]
theorem emod_to (r : Int) {n : Nat} (h : 0 < n) : ∃ k : Nat, r % (n : Int) = (k : Int) ∧ k < n := by
  have h0 := Int.emod_nonneg r (show (n : Int) ≠ 0 by omega)
  have h1 := Int.emod_lt_of_pos r (show (0 : Int) < (n : Int) by omega)
  exact ⟨(r % (n : Int)).toNat, by omega, by omega⟩
def spOrderX : Sp := fun vs H Q _ => ∃ (a : Addr) (ds : List Int), vs = [.ref a] ∧ H a = some (.lst (ds.map V.int)) ∧ ds.length ≤ 100 ∧ ∀ p (ns : List Nat) H', Same H H' → H p = none → H' p = some (.lst (nV ns)) → Ord ns → ns.length = ds.length → Q (.ref p) H'
theorem ok_law_order {f : Addr} {fd : FuncData} (F : Fun K "_law_order" "_law_order" s_law_order f fd) (T : Txt K mg C_WoodError C_NoOrder) : FnOk P w K mg base CX0 1 f fd ["_law_digits_here"] spOrderX := by
  refine F.ok sc_law_order (fun vs H Q E h => ?_) (fun cdv A outer s H vs Q E hr h => ?_)
  · obtain ⟨a, ds, rfl, _⟩ := h
    rfl
  · obtain ⟨a, ds, rfl, ha, hn, q⟩ := h
    refine ⟨_, (pss_cons (ps_set (i := 1) sc_law_order.nd rfl (Or.inl rfl) (pe_lst pa_nil))
      (pss_cons (ps_set (i := 2) sc_law_order.nd rfl (Or.inl rfl) (pe_lrange rfl rfl T.n_list rfl T.n_range (pa_d (pe_callB call_len_seq (by rfl) T.n_len b_len (pa_d (pv 0) pa_nil rfl)) pa_nil rfl)))
      (pss_cons (ps_for PassesOwn.never rfl (pi_list (pv 0)) (pg_name (i := 3) sc_law_order.nd rfl (Or.inl rfl))
      (pss_cons (ps_set (i := 4) sc_law_order.nd rfl (Or.inl rfl) (pe_op op_mod (pv 3) (pe_callB call_len_seq (by rfl) T.n_len b_len (pa_d (pv 2) pa_nil rfl))))
      (pss_cons (ps_expr (pe_bm PySem.F.plainAttrs_list PySem.F.slot_list_append PySem.F.type_list_append mt_append (pv 1) (pa_d (pe_ix ix_list (pv 2) (pv 4) (fun _ _ => rfl)) pa_nil rfl)))
      (pss_one (ps_set (i := 2) sc_law_order.nd rfl (Or.inl rfl) (pe_op op_cat (pe_slice sl_list (pv 2) po_none (po_some (pv 4))) (pe_slice sl_list (pv 2) (po_some (pe_op op_add (pv 4) pe_int)) po_none)))))))
      (pss_one (ps_ret (pv 1)))))), ?_⟩
    walk_at "rd"
    refine ⟨Nat.zero_le _, fun p hp => ?_⟩
    have t0 := same_upd (o := .lst []) hp
    have e0 : upd H p (.lst []) p = some (.lst []) := upd_same
    generalize upd H p (.lst []) = H0 at *
    walk_at "rd"
    refine ⟨a, _, rfl, .inl (SqL.of (t0 _ _ ha)), ?_⟩
    rw [List.length_map]
    refine ⟨ds.length, rfl, by omega, fun l hl => ?_⟩
    have t1 := same_upd (o := .lst ((List.range ds.length).map fun i : Nat => V.int i)) hl
    have e1 : upd H0 l (.lst ((List.range ds.length).map fun i : Nat => V.int i)) l = some (.lst (nV (List.range ds.length))) := upd_same
    have f1 := t1 _ _ e0
    have s1 := t0.trans t1
    have hlp : l ≠ p := (ne_of_none e0 hl).symm
    generalize upd H0 l (.lst ((List.range ds.length).map fun i : Nat => V.int i)) = H1 at *
    walk_at "rd"
    refine ⟨a, rfl, ⟨_, SqL.of (s1 _ _ ha)⟩, ?_⟩
    refine for_list (xs := ds.map V.int) (fun k σ H2 => ∃ (ns ms : List Nat) (l : Addr) (v3 v4 : Option V), σ = [some (.ref a), some (.ref p), some (.ref l), v3, v4] ∧ H2 p = some (.lst (nV ns)) ∧ ns.length = k ∧ H2 l = some (.lst (nV ms)) ∧ ms.length = ds.length - k ∧ l ≠ p ∧ (ns ++ ms).Perm (List.range ds.length) ∧ Same H H2) ?_ (fun k σ H2 _ h => by obtain ⟨_, _, _, _, _, _, _, _, _, _, _, _, s2⟩ := h; exact SqL.of (s2 _ _ ha)) ?_ ?_
    · exact ⟨[], _, l, _, _, rfl, f1, rfl, e1, by rw [List.length_range]; omega, hlp, List.Perm.refl _, s1⟩
    · rintro k x σ H2 hx ⟨ns, ms, l, v3, v4, rfl, hp2, hnl, hl2, hml, hlp, hpm, s2⟩
      have hk := at_lt hx
      rw [List.length_map] at hk
      rw [List.getElem?_map] at hx
      obtain ⟨d, rfl⟩ : ∃ d, V.int d = x := by
        cases e : ds[k]? with
        | none => rw [e] at hx; cases hx
        | some d => rw [e] at hx; exact ⟨d, Option.some.inj hx⟩
      walk_at "rd"
      refine ⟨l, _, rfl, .inl (SqL.of hl2), ?_⟩
      rw [List.length_map]
      refine r_mod (by omega) ?_
      obtain ⟨j, ej, hj⟩ := emod_to d (n := ms.length) (by omega)
      walk_at "rd"
      refine ⟨.inl ⟨rfl, _, SqL.of hp2⟩, ?_⟩
      walk_at "rd"
      refine r_ixL (SqL.of hl2) (v := .int (ms[j] : Nat)) (by rw [ej]; exact atI_nat (nV_at (List.getElem?_eq_getElem hj))) ?_
      walk_at "rd"
      refine r_append hp2 (by rw [List.length_map]; exact small1000 (by omega)) ?_
      have hl3 : upd H2 p (.lst (nV ns ++ [V.int (ms[j] : Nat)])) l = some (.lst (nV ms)) := by rw [upd_ne hlp]; exact hl2
      have hp3 : upd H2 p (.lst (nV ns ++ [V.int (ms[j] : Nat)])) p = some (.lst (nV (ns ++ [ms[j]]))) := by rw [upd_same, nV_snoc]
      have s3 := push_same (o := .lst (nV ns ++ [V.int (ms[j] : Nat)])) s2 hp
      generalize upd H2 p (.lst (nV ns ++ [V.int (ms[j] : Nat)])) = H3 at *
      walk_at "rd"
      rw [ej]
      refine ⟨l, _, rfl, SqL.of hl3, fun b1 hb1 => ?_⟩
      rw [cut_to]
      have t4 := same_upd (o := .lst ((nV ms).take j)) hb1
      have hb4 : upd H3 b1 (.lst ((nV ms).take j)) b1 = some (.lst ((nV ms).take j)) := upd_same
      have hl4 := t4 _ _ hl3
      have hp4 := t4 _ _ hp3
      have s4 := s3.trans t4
      generalize upd H3 b1 (.lst ((nV ms).take j)) = H4 at *
      walk_at "rd"
      refine ⟨l, _, rfl, SqL.of hl4, fun b2 hb2 => ?_⟩
      rw [show ((j : Nat) : Int) + 1 = ((j + 1 : Nat) : Int) by omega, cut_from]
      have t5 := same_upd (o := .lst ((nV ms).drop (j + 1))) hb2
      have hb5 : upd H4 b2 (.lst ((nV ms).drop (j + 1))) b2 = some (.lst ((nV ms).drop (j + 1))) := upd_same
      have hc5 := t5 _ _ hb4
      have hp5 := t5 _ _ hp4
      have s5 := s4.trans t5
      generalize upd H4 b2 (.lst ((nV ms).drop (j + 1))) = H5 at *
      have hlt : ((nV ms).take j).length = j := by rw [List.length_take, List.length_map]; omega
      have hld : ((nV ms).drop (j + 1)).length = ms.length - (j + 1) := by rw [List.length_drop, List.length_map]
      walk_at "rd"
      refine ⟨b1, b2, _, _, rfl, rfl, hc5, hb5, few (by omega), fun c hc => ?_⟩
      walk_at "rd"
      refine ⟨ns ++ [ms[j]], ms.take j ++ ms.drop (j + 1), c, _, _, rfl, ?_, by rw [List.length_append, hnl]; rfl, ?_, ?_, (ne_of_none hp5 hc).symm, ?_, s5.trans (same_upd hc)⟩
      · exact (same_upd hc) _ _ hp5
      · rw [upd_same]
        show _ = some (HO.lst (List.map _ _))
        rw [List.map_append, List.map_take, List.map_drop]
      · rw [List.length_append, List.length_take, List.length_drop]
        omega
      · refine List.Perm.trans ?_ hpm
        rw [List.append_assoc]
        refine List.Perm.append_left _ ?_
        have e := List.take_append_drop j ms
        rw [List.drop_eq_getElem_cons hj] at e
        have e2 : ms.Perm (ms[j] :: (ms.take j ++ ms.drop (j + 1))) := by
          have := List.perm_middle (a := ms[j]) (l₁ := ms.take j) (l₂ := ms.drop (j + 1))
          rw [e] at this
          exact this
        exact e2.symm
    · rintro σ H2 ⟨ns, ms, l, v3, v4, rfl, hp2, hnl, hl2, hml, hlp, hpm, s2⟩
      walk_at "rd"
      rw [List.length_map] at hml hnl
      rw [List.length_eq_zero_iff.mp (show ms.length = 0 by omega), List.append_nil] at hpm
      exact q p ns H2 s2 hp hp2 (ord_perm hpm) hnl

theorem emodN {i : Int} {k n : Nat} (h : i = (k : Int)) : i % (n : Int) = ((k % n : Nat) : Int) := by rw [h, Int.natCast_emod]
theorem nV_small3 {l : List Nat} (h : l.length ≤ 5000) : (nV l).length < sizeLine := by rw [List.length_map]; exact small20000 (by omega)
theorem sh_snoc (g : Nat → Nat) (i : Nat) : nV ((List.range (i + 1)).map g) = nV ((List.range i).map g) ++ [V.int (g i : Nat)] := by rw [List.range_succ, List.map_append, nV_snoc]; rfl
def spTurned : Sp := fun vs H Q _ => ∃ (a : Addr) (ns : List Nat) (m : Int), vs = [.ref a, .int m] ∧ H a = some (.lst (nV ns)) ∧ Ord ns ∧ ns.length ≤ 100 ∧ 0 ≤ m ∧ ∀ p fs H', Same H H' → H' p = some (.lst (nV fs)) → Ord fs → fs.length = ns.length → Q (.ref p) H'
theorem ok_law_turned {f : Addr} {fd : FuncData} (F : Fun K "_law_turned" "_law_turned" s_law_turned f fd) (T : Txt K mg C_WoodError C_NoOrder) : FnOk P w K mg base CX0 1 f fd ["_law_order_here", "_law_number"] spTurned := by
  refine F.ok sc_law_turned (fun vs H Q E h => ?_) (fun cdv A outer s H vs Q E hr h => ?_)
  · obtain ⟨a, ns, m, rfl, _⟩ := h
    rfl
  · obtain ⟨a, ns, m, rfl, ha, ho, hn, hm, q⟩ := h
    refine ⟨_, (pss_cons (ps_set (i := 2) sc_law_turned.nd rfl (Or.inr rfl) (pe_callB call_len_seq (by rfl) T.n_len b_len (pa_d (pv 0) pa_nil rfl)))
      (pss_cons (ps_if (PW.pt (pw_or (pt_cmpR op_eq (pe_op op_mod (pv 1) pe_int) pe_int (nomark _)) (pw_or1 (pt_cmpR op_eq (pv 2) pe_int (nomark _))))) (pss_one (ps_ret (pv 0)))
      pss_nil)
      (pss_cons (ps_if (pt_cmpR op_eq (pe_op op_mod (pv 1) pe_int) pe_int (nomark _)) (pss_one (ps_ret (pe_lc rfl lc_law_turned_0 (pi_range1 rfl T.n_range (pa_d (pv 2) pa_nil rfl)) (fun _ _ _ _ => pif_nil) (fun _ _ _ _ => (pe_op op_mod (pe_op op_add (pe_op op_add (pv 0) pe_int) (pe_op op_mod (pe_op op_fdiv (pv 2) pe_int) pe_int)) (pv 1))))))
      pss_nil)
      (pss_cons (ps_set (i := 4) sc_law_turned.nd rfl (Or.inl rfl) (pe_op op_rep (pe_lst (pa_d pe_int pa_nil rfl)) (pv 2)))
      (pss_cons (ps_for PassesOwn.never rfl (pi_range1 rfl T.n_range (pa_d (pv 2) pa_nil rfl)) (pg_name (i := 3) sc_law_turned.nd rfl (Or.inl rfl))
      (pss_one (ps_asg (pe_ix ix_list (pv 0) (pe_op op_mod (pe_op op_add (pv 3) pe_int) (pv 2)) (fun _ _ => rfl)) (pg_sub (pv 4) (pe_ix ix_list (pv 0) (pv 3) (fun _ _ => rfl)) set_list))))
      (pss_one (ps_ret (pv 4)))))))), ?_⟩
    walk_at "rd"
    refine ⟨a, _, rfl, .inl (SqL.of ha), ?_⟩
    rw [List.length_map]
    walk_at "rd"
    refine iteP (fun _ => ?_) (fun h3 => ?_)
    · walk_at "rd"
      exact q a ns H (Same.refl _) ha ho rfl
    walk_at "rd"
    refine iteP (fun _ => ?_) (fun h0 => ?_)
    · walk_at "rd"
      exact q a ns H (Same.refl _) ha ho rfl
    have hn0 : 0 < ns.length := by
      rcases Nat.eq_zero_or_pos ns.length with h | h
      · exact absurd (by rw [h]; rfl) h0
      · exact h
    walk_at "rd"
    refine iteP (fun _ => ?_) (fun h1 => ?_)
    · walk_at "rd"
      refine ⟨_, rfl, by omega, by omega, ?_⟩
      rw [Int.toNat_natCast]
      have c0 := Int.emod_nonneg (m / 3) (show (7 : Int) ≠ 0 by decide)
      obtain ⟨c, hc⟩ : ∃ c : Nat, m / 3 % 7 = (c : Int) := ⟨(m / 3 % 7).toNat, by omega⟩
      refine lc_range (fun i => nV ((List.range i).map fun k => (k + 1 + c) % ns.length)) rfl (fun i hi => nV_small3 (by rw [List.length_map, List.length_range]; omega)) (fun i H1 R B hi s1 kR kA => ?_) (fun D H1 hD s1 hl1 => ?_)
      · walk_at "rd"
        refine r_mod (by omega) ?_
        rw [hc, emodN (k := i + 1 + c) (by omega)]
        exact kA _ _ (sh_snoc _ _) (Same.refl _)
      · walk_at "rd"
        exact q D _ H1 s1 hl1 (ord_shift _ _) (by rw [List.length_map, List.length_range])
    walk_at "rd"
    refine ⟨few (by simp), fun p1 hp1 => ?_⟩
    have t1 := same_upd (o := .lst [V.int 0]) hp1
    have f1 : upd H p1 (.lst [V.int 0]) p1 = some (.lst [V.int 0]) := upd_same
    generalize upd H p1 (.lst [V.int 0]) = H1 at *
    walk_at "rd"
    refine ⟨p1, _, _, rfl, rfl, f1, by omega, by omega, Nat.le_of_lt (small20000 (by simp; omega)), fun p hp => ?_⟩
    have t2 := same_upd (o := .lst (List.replicate ((ns.length : Nat) : Int).toNat [V.int 0]).flatten) hp
    have s2 := t1.trans t2
    have hp0 := t1.free hp
    have e2 : upd H1 p (.lst (List.replicate ((ns.length : Nat) : Int).toNat [V.int 0]).flatten) p = some (.lst (nV (List.replicate ns.length 0))) := by
      rw [upd_same, Int.toNat_natCast]
      congr 2
      generalize ns.length = n
      induction n with
      | zero => rfl
      | succ n ih => rw [List.replicate_succ, List.flatten_cons, ih, List.replicate_succ]; rfl
    generalize upd H1 p (.lst (List.replicate ((ns.length : Nat) : Int).toNat [V.int 0]).flatten) = H2 at *
    walk_at "rd"
    refine ⟨_, rfl, by omega, by omega, ?_⟩
    rw [Int.toNat_natCast]
    refine for_range (fun k σ H3 => ∃ (fs : List Nat) (v3 : Option V), σ = [some (.ref a), some (.int m), some (.int (ns.length : Nat)), v3, some (.ref p)] ∧ H3 p = some (.lst (nV fs)) ∧ fs.length = ns.length ∧ (∀ j, j < k → fs[nx ns j]? = some (nx ns ((j + 1) % ns.length))) ∧ Same H H3) ?_ ?_ ?_
    · exact ⟨_, _, rfl, e2, List.length_replicate, (fun j hj => absurd hj (Nat.not_lt_zero _)), s2⟩
    · rintro k σ H3 hk ⟨fs, v3, rfl, hp3, hfl, hf, s3⟩
      walk_at "rd"
      refine r_mod (by omega) ?_
      rw [emodN (k := k + 1) (by omega)]
      walk_at "rd"
      refine r_ixL (SqL.of (s3 _ _ ha)) (atI_nat (nx_nV (Nat.mod_lt _ hn0))) ?_
      walk_at "rd"
      rw [show (0 + (k : Int)) = (k : Int) by omega]
      refine r_ixL (SqL.of (s3 _ _ ha)) (atI_nat (nx_nV hk)) ?_
      walk_at "rd"
      refine r_setL hp3 rfl (by rw [List.length_map, hfl]; exact nx_lt ho hk) ?_
      walk_at "rd"
      refine ⟨fs.set (nx ns k) (nx ns ((k + 1) % ns.length)), _, rfl, ?_, by rw [List.length_set]; exact hfl, fun j hj => ?_, push_same s3 hp0⟩
      · rw [upd_same]
        show _ = some (HO.lst (List.map _ _))
        rw [List.map_set]
      · rw [List.getElem?_set]
        rcases Nat.lt_or_eq_of_le (Nat.le_of_lt_succ hj) with h | h
        · rw [if_neg fun e => by have := nx_inj ho hk (by omega) e; omega]
          exact hf j h
        · rw [h, if_pos rfl, if_pos (by rw [hfl]; exact nx_lt ho hk)]
    · rintro σ H3 ⟨fs, v3, rfl, hp3, hfl, hf, s3⟩
      walk_at "rd"
      exact q p fs H3 s3 hp3 (ord_turn ho hfl hf) hfl

def spGreat : Sp := fun vs H Q _ => ∃ (m : Int), vs = [.int m] ∧ ∀ p fs H', Same H H' → H' p = some (.lst (nV fs)) → Ord fs → fs.length ≤ 200 → 0 < fs.length → Q (.ref p) H'
theorem ok_law_great {f : Addr} {fd : FuncData} (F : Fun K "_law_great" "_law_great" s_law_great f fd) (T : Txt K mg C_WoodError C_NoOrder) : FnOk P w K mg base CX0 1 f fd ["_law_number"] spGreat := by
  refine F.ok sc_law_great (fun vs H Q E h => ?_) (fun cdv A outer s H vs Q E hr h => ?_)
  · obtain ⟨m, rfl, _⟩ := h
    rfl
  · obtain ⟨m, rfl, q⟩ := h
    refine ⟨_, (pss_cons (ps_set (i := 1) sc_law_great.nd rfl (Or.inr rfl) (pe_op op_add pe_int (pe_op op_mod (pv 0) pe_int)))
      (pss_one (ps_ret (pe_lc rfl lc_law_great_0 (pi_range1 rfl T.n_range (pa_d (pv 1) pa_nil rfl)) (fun _ _ _ _ => pif_nil) (fun _ _ _ _ => (pe_op op_mod (pe_op op_add (pv 0) pe_int) (pv 1))))))), ?_⟩
    walk_at "rd"
    have c0 := Int.emod_nonneg m (show (140 : Int) ≠ 0 by decide)
    have c1 := Int.emod_lt_of_pos m (show (0 : Int) < 140 by decide)
    obtain ⟨n, hn⟩ : ∃ n : Nat, 61 + m % 140 = (n : Int) := ⟨(61 + m % 140).toNat, by omega⟩
    rw [hn]
    refine ⟨_, rfl, by omega, by omega, ?_⟩
    rw [Int.toNat_natCast]
    refine lc_range (fun i => nV ((List.range i).map fun k => (k + 1 + 0) % n)) rfl (fun i hi => nV_small3 (by rw [List.length_map, List.length_range]; omega)) (fun i H1 R B hi s1 kR kA => ?_) (fun D H1 hD s1 hl1 => ?_)
    · walk_at "rd"
      refine r_mod (by omega) ?_
      rw [emodN (k := i + 1 + 0) (by omega)]
      exact kA _ _ (sh_snoc _ _) (Same.refl _)
    · walk_at "rd"
      exact q D _ H1 s1 hl1 (ord_shift _ _) (by rw [List.length_map, List.length_range]; omega) (by rw [List.length_map, List.length_range]; omega)

/-- which are met, in a dict -/
def MetD (kvs : List (Key × V)) (S : List Nat) : Prop := ∀ x : Nat, (valV kvs (.inl (x : Int))).isSome = true ↔ x ∈ S
theorem MetD.put {kvs : List (Key × V)} {S : List Nat} {y : Nat} {v : V} (h : MetD kvs S) : MetD (putK kvs (.inl (y : Int)) v) (S ++ [y]) := fun x => by
  rw [valV_put, List.mem_append, List.mem_singleton, ← h x]
  by_cases e : x = y
  · rw [if_pos (by rw [e])]
    exact ⟨fun _ => .inr e, fun _ => rfl⟩
  · rw [if_neg fun z => e (by have := Sum.inl.inj z; omega)]
    exact ⟨.inl, fun z => z.resolve_right e⟩
theorem metD_not {kvs : List (Key × V)} {S : List Nat} {x : Nat} (h : MetD kvs S) (hx : x ∉ S) : (valV kvs (.inl (x : Int))).isSome = false := by
  cases e : (valV kvs (.inl (x : Int))).isSome with
  | false => rfl
  | true => exact absurd ((h x).mp e) hx
theorem fl_snoc {st : Nat} {R : List Nat} {i : Nat} (hi : i < R.length) : ((List.range (i + 1)).filter fun k => k % st == 0).map (fun k => R[k]?.getD 0) = ((List.range i).filter fun k => k % st == 0).map (fun k => R[k]?.getD 0) ++ if i % st = 0 then [R[i]] else [] := by
  rw [List.range_succ, List.filter_append, List.map_append]
  congr 1
  by_cases h : i % st = 0
  · rw [if_pos h]
    simp [h, hi]
  · rw [if_neg h]
    simp [h]
def spJumps : Sp := fun vs H Q _ => ∃ (a : Addr) (ns : List Nat) (st : Nat), vs = [.ref a, .int st] ∧ H a = some (.lst (nV ns)) ∧ Ord ns ∧ ns.length ≤ 3000 ∧ 0 < st ∧
  ∀ d H', Same H H' → H d = none → H' d = some (.dK (kvJ (jOf ns st))) → Q (.ref d) H'
theorem ok_law_jumps {f : Addr} {fd : FuncData} (F : Fun K "_law_jumps" "_law_jumps" s_law_jumps f fd) (T : Txt K mg C_WoodError C_NoOrder) : FnOk P w K mg base CX0 1 f fd ["_law_order_here", "_law_step"] spJumps := by
  refine F.ok sc_law_jumps (fun vs H Q E h => ?_) (fun cdv A outer s H vs Q E hr h => ?_)
  · obtain ⟨a, ns, st, rfl, _⟩ := h
    rfl
  · obtain ⟨a, ns, st, rfl, ha, ho, hn, hst, q⟩ := h
    refine ⟨_, (pss_cons (ps_set (i := 2) sc_law_jumps.nd rfl (Or.inl rfl) pe_dnew)
      (pss_cons (ps_set (i := 3) sc_law_jumps.nd rfl (Or.inl rfl) pe_dnew)
      (pss_cons (ps_for PassesOwn.never rfl (pi_range1 rfl T.n_range (pa_d (pe_callB call_len_seq (by rfl) T.n_len b_len (pa_d (pv 0) pa_nil rfl)) pa_nil rfl)) (pg_name (i := 4) sc_law_jumps.nd rfl (Or.inl rfl))
      (pss_one (ps_if (pt_cmpR op_notInD (pv 4) (pv 3) rfl) (pss_cons (ps_set (i := 5) sc_law_jumps.nd rfl (Or.inr rfl) (pe_lst pa_nil))
      (pss_cons (ps_set (i := 6) sc_law_jumps.nd rfl (Or.inl rfl) (pv 4))
      (pss_cons (ps_while PassesOwn.never (pt_cmpR op_notInD (pv 6) (pv 3) rfl)
      (pss_cons (ps_asg pe_bl (pg_sub (pv 3) (pv 6) set_dict))
      (pss_cons (ps_expr (pe_bm PySem.F.plainAttrs_list PySem.F.slot_list_append PySem.F.type_list_append mt_append (pv 5) (pa_d (pv 6) pa_nil rfl)))
      (pss_one (ps_set (i := 6) sc_law_jumps.nd rfl (Or.inl rfl) (pe_ix ix_list (pv 0) (pv 6) (fun _ _ => rfl)))))))
      (pss_one (ps_if (pt_cmpR op_gt (pe_callB call_len_seq (by rfl) T.n_len b_len (pa_d (pv 5) pa_nil rfl)) (pv 1) (nomark _)) (pss_cons (ps_setlc (i := 8) rfl lc_law_jumps_0 sc_law_jumps.nd rfl rfl (pi_range1 rfl T.n_range (pa_d (pe_callB call_len_seq (by rfl) T.n_len b_len (pa_d (pv 5) pa_nil rfl)) pa_nil rfl)) (fun _ _ _ _ => pif_one (pt_cmpR op_eq (pe_op op_mod (pv 0) (pv 2)) pe_int (nomark _))) (fun _ _ _ _ => (pe_ix (ix_listK K) (pv 1) (pv 0) (fun _ _ => rfl))))
      (pss_one (ps_for PassesOwn.never rfl (pi_range1 rfl T.n_range (pa_d (pe_callB call_len_seq (by rfl) T.n_len b_len (pa_d (pv 8) pa_nil rfl)) pa_nil rfl)) (pg_name (i := 7) sc_law_jumps.nd rfl (Or.inl rfl))
      (pss_one (ps_asg (pe_ix ix_list (pv 8) (pe_op op_sub (pv 7) pe_int) (fun _ _ => rfl)) (pg_sub (pv 2) (pe_ix ix_list (pv 8) (pv 7) (fun _ _ => rfl)) set_dict))))))
      pss_nil)))))
      pss_nil)))
      (pss_one (ps_ret (pv 2)))))), ?_⟩
    walk_at "rd"
    intro d hd
    have t0 := same_upd (o := .dK []) hd
    have d0 : upd H d (.dK []) d = some (.dK []) := upd_same
    generalize upd H d (.dK []) = H0 at *
    walk_at "rd"
    intro m hm
    have hm0 := t0.free hm
    have hdm : d ≠ m := ne_of_none d0 hm
    have t1 := same_upd (o := .dK []) hm
    have s1 := t0.trans t1
    have d1 := t1 _ _ d0
    have m1 : upd H0 m (.dK []) m = some (.dK []) := upd_same
    generalize upd H0 m (.dK []) = H1 at *
    walk_at "rd"
    refine ⟨a, _, rfl, .inl (SqL.of (s1 _ _ ha)), ?_⟩
    rw [List.length_map]
    refine ⟨_, rfl, by omega, by omega, ?_⟩
    rw [Int.toNat_natCast]
    refine for_range (fun i σ H2 => ∃ (kvs : List (Key × V)) (v4 v5 v6 v7 v8 : Option V), σ = [some (.ref a), some (.int st), some (.ref d), some (.ref m), v4, v5, v6, v7, v8] ∧ H2 d = some (.dK (kvJ (jmp st (rnds ns i)))) ∧ H2 m = some (.dK kvs) ∧ MetD kvs (rnds ns i).flatten ∧ kvs.length ≤ (rnds ns i).flatten.length ∧ Same H H2) ?_ ?_ ?_
    · exact ⟨[], _, _, _, _, _, rfl, d1, m1, fun x => ⟨fun h => by (cases h), fun h => by (cases h)⟩, Nat.zero_le _, s1⟩
    · rintro i σ H2 hi ⟨kvs, v4, v5, v6, v7, v8, rfl, hd2, hm2, hM, hkl, s2⟩
      have hi4 := few_below ns.length _ (rnds_spec ho i (by omega)).2.1 fun x hx => rnds_lt ho (by omega) hx
      walk_at "rd"
      rw [show (0 + (i : Int)) = (i : Int) by omega]
      refine r_notInD hm2 ?_
      by_cases hin : i ∈ (rnds ns i).flatten
      · rw [(hM i).mpr hin, show (!true) = false from rfl]
        walk_at "rd"
        have en : rnds ns (i + 1) = rnds ns i := by
          show (if i ∈ (rnds ns i).flatten then _ else _) = _
          rw [if_pos hin]
        rw [en]
        exact ⟨kvs, _, _, _, _, _, rfl, hd2, hm2, hM, hkl, s2⟩
      · have en : rnds ns (i + 1) = rnds ns i ++ [cyc ns i] := by
          show (if i ∈ (rnds ns i).flatten then _ else _) = _
          rw [if_neg hin]
        rw [metD_not hM hin, show (!false) = true from rfl]
        walk_at "rd"
        refine ⟨Nat.zero_le _, fun r hr => ?_⟩
        have t3 := same_upd (o := .lst []) hr
        have hr0 := s2.free hr
        have hrd : r ≠ d := (ne_of_none hd2 hr).symm
        have hrm : r ≠ m := (ne_of_none hm2 hr).symm
        have s3 := s2.trans t3
        have hd3 := t3 _ _ hd2
        have hm3 := t3 _ _ hm2
        have hr3 : upd H2 r (.lst []) r = some (.lst []) := upd_same
        generalize upd H2 r (.lst []) = H3 at *
        obtain ⟨pp1, pp2, pp3, _⟩ := per_spec ho hi
        walk_at "rd"
        refine while_rd (fun σ H4 => ∃ (kvs2 : List (Key × V)) (j : Nat), σ = [some (.ref a), some (.int st), some (.ref d), some (.ref m), some (.int i), some (.ref r), some (.int (itr ns j i)), v7, v8] ∧ j ≤ per ns i ∧ H4 d = some (.dK (kvJ (jmp st (rnds ns i)))) ∧ H4 m = some (.dK kvs2) ∧ MetD kvs2 ((rnds ns i).flatten ++ seg ns j i) ∧ kvs2.length ≤ kvs.length + j ∧ H4 r = some (.lst (nV (seg ns j i))) ∧ Same H H4) (fun _ H4 => per ns i - lenAt H4 r)
          ⟨kvs, 0, rfl, Nat.zero_le _, hd3, hm3, by rw [show seg ns 0 i = [] from rfl, List.append_nil]; exact hM, Nat.le_refl _, hr3, s3⟩ ?_
        rintro z σ H4 ⟨kvs2, j, rfl, hj, hd4, hm4, hM4, hkl4, hr4, s4⟩ hz
        have hsl := seg_len ns j i
        rw [lenAt_of hr4, List.length_map, hsl] at hz
        walk_at "rd"
        refine r_notInD hm4 ?_
        by_cases hlt : j < per ns i
        · have hnew : itr ns j i ∉ (rnds ns i).flatten ++ seg ns j i := fun h => by
            have := round_new ho hi hin hlt
            rcases List.mem_append.mp h with h | h
            · exact this.1 h
            · exact this.2 h
          rw [metD_not hM4 hnew, show (!false) = true from rfl]
          walk_at "rd"
          refine r_turn ?_
          walk_at "rd"
          refine r_setD hm4 (small20000 (by omega)) ?_
          have hlp := length_putK kvs2 (.inl ((itr ns j i : Nat) : Int) : Key) (V.bl true)
          have hM5 := hM4.put (y := itr ns j i) (v := V.bl true)
          generalize putK kvs2 (.inl ((itr ns j i : Nat) : Int) : Key) (V.bl true) = kvs3 at *
          have s5 := push_same (o := .dK kvs3) s4 hm0
          have hm5 : upd H4 m (.dK kvs3) m = some (.dK kvs3) := upd_same
          have hr5 : upd H4 m (.dK kvs3) r = some (.lst (nV (seg ns j i))) := by rw [upd_ne hrm]; exact hr4
          have hd5 : upd H4 m (.dK kvs3) d = some (.dK (kvJ (jmp st (rnds ns i)))) := by rw [upd_ne hdm]; exact hd4
          generalize upd H4 m (.dK kvs3) = H5 at *
          walk_at "rd"
          refine ⟨.inl ⟨rfl, _, SqL.of hr5⟩, ?_⟩
          walk_at "rd"
          refine r_append hr5 (by rw [List.length_map]; exact small20000 (by omega)) ?_
          walk_at "rd"
          refine r_ixL (SqL.of ((push_same s5 hr0) _ _ ha)) (atI_nat (nx_nV (itr_lt ho hi j))) ?_
          walk_at "rd"
          refine ⟨⟨kvs3, j + 1, rfl, hlt, by rw [upd_ne hrd.symm]; exact hd5, by rw [upd_ne hrm.symm]; exact hm5, by rw [seg_succ, ← List.append_assoc]; exact hM5, by omega, by rw [upd_same, nV_snoc, seg_succ], push_same s5 hr0⟩, ?_⟩
          rw [lenAt_of upd_same, List.length_append, List.length_map, hsl]
          simp
          omega
        · obtain rfl : j = per ns i := by omega
          have hcy : seg ns (per ns i) i = cyc ns i := rfl
          have hin2 : itr ns (per ns i) i ∈ (rnds ns i).flatten ++ seg ns (per ns i) i := List.mem_append_right _ (round_end ho hi)
          rw [(hM4 _).mpr hin2, show (!true) = false from rfl]
          rw [hcy] at hM4 hr4
          have hnd := jmp_nodup hst (rnds_spec ho (i + 1) hi).2.1
          have hfl : (rnds ns (i + 1)).flatten = (rnds ns i).flatten ++ cyc ns i := by rw [en, List.flatten_append, List.flatten_singleton]
          rw [en, jmp_snoc] at hnd
          have hjl := jmp_len ho hst (show i ≤ ns.length by omega)
          have hcl : (cyc ns i).length = per ns i := cyc_len
          walk_at "rd"
          refine ⟨r, _, rfl, .inl (SqL.of hr4), ?_⟩
          walk_at "rd"
          rw [List.length_map, hcl]
          refine iteP (fun hlg => ?_) (fun hlg => ?_)
          · have hlg : st < (cyc ns i).length := by omega
            have hpr : prs st (cyc ns i) = (marks st (cyc ns i)).zip (rot (marks st (cyc ns i))) := by unfold prs; rw [if_pos hlg]
            walk_at "rd"
            refine ⟨r, _, rfl, .inl (SqL.of hr4), ?_⟩
            rw [List.length_map, hcl]
            refine ⟨_, rfl, by omega, by omega, ?_⟩
            rw [Int.toNat_natCast]
            refine lc_range (fun k => nV (((List.range k).filter fun k => k % st == 0).map fun k => (cyc ns i)[k]?.getD 0)) rfl (fun k hk => nV_small3 ?_) (fun k H6 R B hk s6 kR kA => ?_) (fun D H6 hD s6 hl6 => ?_)
            · rw [List.length_map]
              have := List.length_filter_le (fun k => k % st == 0) (List.range k)
              rw [List.length_range] at this
              omega
            · walk_at "rd"
              rw [show (0 + (k : Int)) = (k : Int) by omega]
              refine r_mod (by omega) ?_
              rw [emodN (k := k) rfl]
              have hk2 : k < (cyc ns i).length := by omega
              have sn := fl_snoc (st := st) hk2
              walk_at "rd"
              refine iteP (fun h0 => ?_) (fun h0 => ?_)
              · walk_at "rd"
                refine r_ixL (SqL.of (s6 _ _ hr4)) (atI_nat (nV_at (List.getElem?_eq_getElem hk2))) ?_
                refine kA _ _ ?_ (Same.refl _)
                have h0 : k % st = 0 := vN.mp h0
                show nV _ = nV _ ++ _
                rw [sn, if_pos h0, nV_snoc]
              · refine kR ?_ _ (Same.refl _)
                show nV _ = nV _
                rw [sn, if_neg fun z => h0 (vN.mpr z), List.append_nil]
            · have hmk := marks_filter st hst (cyc ns i)
              rw [hcl] at hmk
              rw [hmk] at hl6
              have s46 := s4.trans s6
              have hd6 := s6 _ _ hd4
              have hm6 := s6 _ _ hm4
              have hDd : D ≠ d := (ne_of_none hd4 hD).symm
              have hml : (marks st (cyc ns i)).length ≤ 3000 := by
                have h1 := few_below ns.length (marks st (cyc ns i)) (marks_nodup hst (cyc_nodup ho hi)) fun x hx => by
                  obtain ⟨k, _, e⟩ := (mem_marks hst).mp hx
                  obtain ⟨j, _, rfl⟩ := mem_cyc.mp (List.mem_of_getElem? e)
                  exact itr_lt ho hi j
                omega
              have hD0 := s4.free hD
              generalize marks st (cyc ns i) = mk at *
              walk_at "rd"
              refine ⟨D, _, rfl, .inl (SqL.of hl6), ?_⟩
              rw [List.length_map]
              refine ⟨_, rfl, by omega, by omega, ?_⟩
              rw [Int.toNat_natCast]
              refine for_range (fun k σ H7 => ∃ (v7 : Option V), σ = [some (.ref a), some (.int st), some (.ref d), some (.ref m), some (.int i), some (.ref r), some (.int (itr ns (per ns i) i)), v7, some (.ref D)] ∧ H7 d = some (.dK (kvJ (jmp st (rnds ns i) ++ (mk.zip (rot mk)).take k))) ∧ H7 D = some (.lst (nV mk)) ∧ H7 m = some (.dK kvs2) ∧ Same H H7) ?_ ?_ ?_
              · exact ⟨_, rfl, by rw [List.take_zero, List.append_nil]; exact hd6, hl6, hm6, s46⟩
              · rintro k σ H7 hk ⟨v7, rfl, hd7, hD7, hm7, s7⟩
                rw [hpr] at hnd
                have hkz : k < (mk.zip (rot mk)).length := by rw [List.length_zip, rot_len]; omega
                have hz1 : (mk.zip (rot mk))[k]? = some (mk[k], (rot mk)[k]'(by rw [rot_len]; exact hk)) := by
                  rw [List.getElem?_zip_eq_some]
                  exact ⟨List.getElem?_eq_getElem hk, List.getElem?_eq_getElem (by rw [rot_len]; exact hk)⟩
                have hro := rot_at hk
                rw [List.getElem?_eq_getElem (show k < (rot mk).length by rw [rot_len]; exact hk)] at hro
                have htk : (mk.zip (rot mk)).take (k + 1) = (mk.zip (rot mk)).take k ++ [(mk[k], (rot mk)[k]'(by rw [rot_len]; exact hk))] := by rw [List.take_add_one, hz1]; rfl
                have hkn : mk[k] ∉ (jmp st (rnds ns i) ++ (mk.zip (rot mk)).take k).map (·.1) := fun hmem => by
                  have h1 : ((jmp st (rnds ns i) ++ (mk.zip (rot mk)).take (k + 1)).map (·.1)).Nodup := by
                    refine hnd.sublist (List.Sublist.map _ (List.Sublist.append_left (List.take_sublist _ _) _))
                  rw [htk, ← List.append_assoc, List.map_append, List.nodup_append] at h1
                  exact h1.2.2 _ hmem _ (by simp) rfl
                have hlv : (jmp st (rnds ns i) ++ (mk.zip (rot mk)).take k).length ≤ 10000 := by
                  rw [List.length_append, List.length_take]
                  omega
                generalize (rot mk)[k]'(by rw [rot_len]; exact hk) = v at *
                walk_at "rd"
                rw [show (0 + (k : Int)) = (k : Int) by omega]
                have hix : atI (nV mk) ((k : Int) - 1) = some (.int v) := by
                  by_cases h0 : k = 0
                  · rw [if_pos h0] at hro
                    rw [h0]
                    exact atI_end (by rw [List.length_map]; exact nV_at hro.symm)
                  · rw [if_neg h0] at hro
                    rw [show (k : Int) - 1 = ((k - 1 : Nat) : Int) by omega]
                    exact atI_nat (nV_at hro.symm)
                refine r_ixL (SqL.of hD7) hix ?_
                walk_at "rd"
                refine r_ixL (SqL.of hD7) (atI_nat (nV_at (List.getElem?_eq_getElem hk))) ?_
                walk_at "rd"
                refine r_setD hd7 (by rw [List.length_map]; exact small20000 (by omega)) ?_
                rw [put_kvJ hkn]
                walk_at "rd"
                exact ⟨_, rfl, by rw [upd_same, htk, List.append_assoc], by rw [upd_ne hDd]; exact hD7, by rw [upd_ne hdm.symm]; exact hm7, push_same s7 hd⟩
              · rintro σ H7 ⟨v7, rfl, hd7, hD7, hm7, s7⟩
                walk_at "rd"
                refine ⟨kvs2, _, _, _, _, _, rfl, ?_, hm7, by rw [hfl]; exact hM4, by rw [hfl, List.length_append]; omega, s7⟩
                rw [en, jmp_snoc, hpr]
                rw [List.take_of_length_le (by rw [List.length_zip, rot_len]; omega)] at hd7
                exact hd7
          · walk_at "rd"
            have hpr : prs st (cyc ns i) = [] := by unfold prs; rw [if_neg (by omega)]
            exact ⟨kvs2, _, _, _, _, _, rfl, by rw [en, jmp_snoc, hpr, List.append_nil]; exact hd4, hm4, by rw [hfl]; exact hM4, by rw [hfl, List.length_append]; omega, s4⟩
    · rintro σ H2 ⟨kvs, v4, v5, v6, v7, v8, rfl, hd2, hm2, hM, hkl, s2⟩
      walk_at "rd"
      exact q d H2 s2 hd hd2

def spWalked : Sp := fun vs H Q _ => ∃ (a d b : Addr) (ns : List Nat) (J : List (Nat × Nat)) (p : Nat) (lg : Bool) (ws : List Nat), vs = [.ref a, .ref d, .int p, .ref b, .bl lg] ∧ H a = some (.lst (nV ns)) ∧ H d = some (.dK (kvJ J)) ∧ H b = some (.lst (nV ws)) ∧ Ord ns ∧ ns.length ≤ 3000 ∧ p < ns.length ∧ (∀ x y, look J x = some y → y < ns.length) ∧ Way ns J p lg ws ∧ ws.length ≤ 5000 ∧
  ∀ H', Same H H' → Q (.bl true) H'
theorem way_pos {ns : List Nat} {J : List (Nat × Nat)} {p : Nat} {lg : Bool} {ws : List Nat} (h : Way ns J p lg ws) : 0 < ws.length ∧ ws[0]? = some p := by
  cases h with
  | short h hn => exact ⟨by rw [pth_len]; omega, pth_at (Nat.zero_le _)⟩
  | long h hn hf => exact ⟨by rw [List.length_append, pth_len]; omega, by rw [List.getElem?_append_left (by rw [pth_len]; omega)]; exact pth_at (Nat.zero_le _)⟩
theorem way_lt {ns : List Nat} (o : Ord ns) {J : List (Nat × Nat)} {p : Nat} {lg : Bool} {ws : List Nat} (h : Way ns J p lg ws) (hp : p < ns.length) (hJ : ∀ x y, look J x = some y → y < ns.length) : ∀ x ∈ ws, x < ns.length := by
  have key : ∀ {t q : Nat}, q < ns.length → ∀ x ∈ pth ns t q, x < ns.length := fun hq x hx => by
    obtain ⟨i, _, rfl⟩ := List.mem_map.mp hx
    exact itr_lt o hq i
  cases h with
  | short h hn => exact key hp
  | long h hn hf =>
    intro x hx
    rcases List.mem_append.mp hx with hx | hx
    · exact key hp x hx
    · exact key (hJ _ _ hn) x hx
/-- at the k-th step: whether the leap is behind -/
def leapt (lg : Bool) (t k : Nat) : Bool := !lg || decide (t + 1 < k)
theorem way_steps {ns : List Nat} {J : List (Nat × Nat)} {p : Nat} {lg : Bool} {ws : List Nat} (h : Way ns J p lg ws) : ∃ t, (∀ k, 0 < k → k < ws.length → ∃ x y, ws[k - 1]? = some x ∧ ws[k]? = some y ∧
    ((leapt lg t k = true ∧ y = nx ns x ∧ y ≠ p ∧ leapt lg t (k + 1) = true) ∨ (leapt lg t k = false ∧ look J x = some y ∧ leapt lg t (k + 1) = true) ∨ (leapt lg t k = false ∧ look J x = none ∧ y = nx ns x ∧ leapt lg t (k + 1) = false))) ∧
    leapt lg t 1 = !lg ∧ leapt lg t ws.length = true ∧ ∃ l, ws[ws.length - 1]? = some l ∧ nx ns l = p := by
  cases h with
  | @short t h hn =>
    refine ⟨t, fun k h0 hk => ?_, rfl, rfl, itr ns t p, ?_, ?_⟩
    · rw [pth_len] at hk
      refine ⟨_, _, pth_at (by omega), pth_at (by omega), .inl ⟨rfl, ?_, ?_, rfl⟩⟩
      · rw [show k = k - 1 + 1 by omega]; rfl
      · have := (h.free (k - 1) (by omega)).2
        rw [show k - 1 + 1 = k by omega] at this
        exact this
    · rw [pth_len]
      exact pth_at (by omega)
    · rcases h.stop with h1 | h1
      · rw [hn] at h1; cases h1
      · exact h1
  | @long t q u h hn hf =>
    have hw : (pth ns t p ++ pth ns u q).length = t + 1 + (u + 1) := by rw [List.length_append, pth_len, pth_len]
    have a1 : ∀ k, k ≤ t → (pth ns t p ++ pth ns u q)[k]? = some (itr ns k p) := fun k hk => by
      rw [List.getElem?_append_left (by rw [pth_len]; omega)]
      exact pth_at hk
    have a2 : ∀ k, k ≤ u → (pth ns t p ++ pth ns u q)[t + 1 + k]? = some (itr ns k q) := fun k hk => by
      rw [List.getElem?_append_right (by rw [pth_len]; omega), pth_len, show t + 1 + k - (t + 1) = k by omega]
      exact pth_at hk
    refine ⟨t, fun k h0 hk => ?_, ?_, ?_, itr ns u q, ?_, hf.stop⟩
    · rw [hw] at hk
      by_cases h1 : k ≤ t
      · refine ⟨_, _, a1 (k - 1) (by omega), a1 k h1, .inr (.inr ⟨?_, (h.free (k - 1) (by omega)).1, ?_, ?_⟩)⟩
        · unfold leapt; rw [decide_eq_false (by omega)]; rfl
        · rw [show k = k - 1 + 1 by omega]; rfl
        · unfold leapt; rw [decide_eq_false (by omega)]; rfl
      · by_cases h2 : k = t + 1
        · refine ⟨_, _, a1 (k - 1) (by omega), by rw [h2]; exact a2 0 (Nat.zero_le _), .inr (.inl ⟨?_, ?_, ?_⟩)⟩
          · unfold leapt; rw [decide_eq_false (by omega)]; rfl
          · rw [show k - 1 = t by omega]; exact hn
          · unfold leapt; rw [decide_eq_true (by omega)]; rfl
        · have e1 := a2 (k - 1 - (t + 1)) (by omega)
          rw [show t + 1 + (k - 1 - (t + 1)) = k - 1 by omega] at e1
          have e2 := a2 (k - 1 - (t + 1) + 1) (by omega)
          rw [show t + 1 + (k - 1 - (t + 1) + 1) = k by omega] at e2
          refine ⟨_, _, e1, e2, .inl ⟨?_, rfl, hf.free _ (by omega), ?_⟩⟩
          · unfold leapt; rw [decide_eq_true (by omega)]; rfl
          · unfold leapt; rw [decide_eq_true (by omega)]; rfl
    · unfold leapt; rw [decide_eq_false (by omega)]; rfl
    · unfold leapt; rw [hw, decide_eq_true (by omega)]; rfl
    · rw [hw, show t + 1 + (u + 1) - 1 = t + 1 + u by omega]
      exact a2 u (Nat.le_refl _)
theorem ok_law_walked {f : Addr} {fd : FuncData} (F : Fun K "_law_walked" "_law_walked" s_law_walked f fd) (T : Txt K mg C_WoodError C_NoOrder) (c_law_whole : Cal P w K mg base "_law_whole" 1 ["_law_found"] (spWhole0 K)) :
    FnOk P w K mg base CX0 2 f fd ["_law_order_here", "_law_jumps_here", "_law_place", "_law_way", "_law_is_long"] spWalked := by
  refine F.ok sc_law_walked (fun vs H Q E h => ?_) (fun cdv A outer s H vs Q E hr h => ?_)
  · obtain ⟨a, d, b, ns, J, p, lg, ws, rfl, _⟩ := h
    rfl
  · obtain ⟨a, d, b, ns, J, p, lg, ws, rfl, ha, hd, hb, ho, hn, hp, hJ, hW, hwl, q⟩ := h
    obtain ⟨h0, h1⟩ := way_pos hW
    have hlt := way_lt ho hW hp hJ
    obtain ⟨t, hst, hj1, hje, l, hl, hnl⟩ := way_steps hW
    refine ⟨_, (pss_cons (ps_if (PW.pt (pw_or (pt_not (pt_val (pe_callB call_isinst (by rfl) T.n_isinstance b_isinstance (pa_d (pv 3) (pa_d (pe_bltn (v := .ty "list") rfl T.n_list b_list rfl) pa_nil rfl) rfl)))) (pw_or (pt_cmpR (op_eqL (hu60 hr)) (pv 3) (pe_lst pa_nil) (nomark _)) (pw_or1 (pt_cmpR op_ne (pe_ix ix_list (pv 3) pe_int (fun _ _ => rfl)) (pv 2) (nomark _)))))) (pss_one (ps_ret pe_bl))
      pss_nil)
      (pss_cons (ps_if (pt_cmpR (op_neD (hu60 hr)) (pe_lc rfl lc_law_walked_0 (pi_list (pv 3)) (fun _ _ _ _ => pif_one (PW.pt (pw_or (pt_not (pt_val (pe_fn c_law_whole (hr.mono (by decide : 1 ≤ _)) (pa_d (pv 0) pa_nil rfl)))) (pw_or1 (pt_not (pt_chain op_le op_lt pe_int (pv 0) (pe_callB (call_lenK K) (by rfl) T.n_len b_len (pa_d (pv 1) pa_nil rfl)))))))) (fun _ _ _ _ => (pv 0))) (pe_lst pa_nil) (nomark _)) (pss_one (ps_ret pe_bl))
      pss_nil)
      (pss_cons (ps_set (i := 5) sc_law_walked.nd rfl (Or.inl rfl) (pe_not (pv 4)))
      (pss_cons (ps_for PassesOwn.never rfl (pi_range2 rfl T.n_range (pa_d pe_int (pa_d (pe_callB call_len_seq (by rfl) T.n_len b_len (pa_d (pv 3) pa_nil rfl)) pa_nil rfl) rfl)) (pg_name (i := 6) sc_law_walked.nd rfl (Or.inl rfl))
      (pss_one (ps_if (PW.pt (pw_and (pt_not (pt_val (pv 5))) (pw_and1 (pt_cmpR op_inD (pe_ix ix_list (pv 3) (pe_op op_sub (pv 6) pe_int) (fun _ _ => rfl)) (pv 1) rfl)))) (pss_cons (ps_if (pt_cmpR op_ne (pe_ix ix_list (pv 3) (pv 6) (fun _ _ => rfl)) (pe_ix ix_dict (pv 1) (pe_ix ix_list (pv 3) (pe_op op_sub (pv 6) pe_int) (fun _ _ => rfl)) (fun _ _ => rfl)) (nomark _)) (pss_one (ps_ret pe_bl))
      pss_nil)
      (pss_one (ps_set (i := 5) sc_law_walked.nd rfl (Or.inl rfl) pe_bl)))
      (pss_one (ps_if (PW.pt (pw_or (pt_cmpR op_ne (pe_ix ix_list (pv 3) (pv 6) (fun _ _ => rfl)) (pe_ix ix_list (pv 0) (pe_ix ix_list (pv 3) (pe_op op_sub (pv 6) pe_int) (fun _ _ => rfl)) (fun _ _ => rfl)) (nomark _)) (pw_or1 (PW.pt (pw_and (pt_val (pv 5)) (pw_and1 (pt_cmpR op_eq (pe_ix ix_list (pv 3) (pv 6) (fun _ _ => rfl)) (pv 2) (nomark _)))))))) (pss_one (ps_ret pe_bl))
      pss_nil)))))
      (pss_one (ps_ret (pe_and (pv 5) (pe_one (pe_cmpR op_eq (pe_ix ix_list (pv 0) (pe_ix ix_list (pv 3) (pe_un un_neg pe_int) (fun _ _ => rfl)) (fun _ _ => rfl)) (pv 2) (nomark _)))))))))), ?_⟩
    walk_at "rd"
    refine ⟨_, _, _, _, rfl, .lst hb, by rfl, ?_⟩
    walk_at "rd"
    refine ⟨Nat.zero_le _, fun e he => ?_⟩
    have te := same_upd (o := .lst []) he
    refine r_eqI (ns := ws.map (fun n : Nat => (n : Int))) (ms := []) (by rw [List.map_map]; exact SqL.of (te _ _ hb)) (SqL.of upd_same) ?_
    have hne : ws.map (fun n : Nat => (n : Int)) ≠ [] := fun h => by
      have := congrArg List.length h
      rw [List.length_map] at this
      simp at this
      rw [this] at h0
      simp at h0
    rw [decide_eq_false hne]
    generalize upd H e (.lst []) = H1 at *
    walk_at "rd"
    refine r_ixL (SqL.of (te _ _ hb)) (atI_nat (j := 0) (nV_at h1)) ?_
    walk_at "rd"
    refine iteN (fun h => absurd rfl h) (fun _ => ?_)
    walk_at "rd"
    refine ⟨b, rfl, ⟨_, SqL.of (te _ _ hb)⟩, ?_⟩
    refine lc_list (SqL.of (te _ _ hb)) (fun _ => []) rfl (fun i hi => by exact small1000 (Nat.zero_le _)) (fun i x H2 R B hx s2 kR kA => ?_) (fun D H2 hD s2 hl2 => ?_)
    · obtain ⟨n, hnw, rfl⟩ : ∃ n, n ∈ ws ∧ V.int (n : Nat) = x := by
        obtain ⟨n, h1, h2⟩ := List.mem_map.mp (List.mem_of_getElem? hx)
        exact ⟨n, h1, h2⟩
      have hnl := hlt n hnw
      walk_at "rd"
      refine ⟨_, rfl, any_int _, ?_⟩
      rw [show isI (V.int ((n : Nat) : Int)) = true from rfl]
      walk_at "rd"
      refine ⟨a, _, rfl, .inl (SqL.of (s2 _ _ (te _ _ ha))), ?_⟩
      rw [List.length_map]
      walk_at "rd"
      refine iteN (fun h => absurd (by omega) h) (fun _ => kR rfl _ (Same.refl _))
    walk_at "rd"
    refine ⟨Nat.zero_le _, fun e2 he2 => ?_⟩
    have te2 := same_upd (o := .lst []) he2
    refine r_same (SameD.lsts (SqL.of (te2 _ _ hl2)) (SqL.of upd_same) rfl) ?_
    have s3 := (te.trans s2).trans te2
    generalize upd H2 e2 (.lst []) = H3 at *
    walk_at "rd"
    refine ⟨b, _, rfl, .inl (SqL.of (s3 _ _ hb)), ?_⟩
    rw [List.length_map]
    walk_at "rd"
    refine ⟨_, _, rfl, ⟨by omega, by omega, by omega, by omega⟩, ?_⟩
    rw [show ((ws.length : Int) - 1).toNat = ws.length - 1 by omega]
    refine for_range (fun i σ H4 => ∃ v6 : Option V, σ = [some (.ref a), some (.ref d), some (.int p), some (.ref b), some (.bl lg), some (.bl (leapt lg t (i + 1))), v6] ∧ Same H H4) ?_ ?_ ?_
    · exact ⟨_, by rw [hj1]; rfl, s3⟩
    · rintro i σ H4 hi ⟨v6, rfl, s4⟩
      obtain ⟨x, y, ex, ey, hc⟩ := hst (i + 1) (Nat.succ_pos _) (by omega)
      rw [Nat.add_sub_cancel] at ex
      have ix : atI (nV ws) (1 + (i : Int) - 1) = some (.int x) := by rw [show (1 + (i : Int) - 1) = ((i : Nat) : Int) by omega]; exact atI_nat (nV_at ex)
      have iy : atI (nV ws) (1 + (i : Int)) = some (.int y) := by rw [show (1 + (i : Int)) = ((i + 1 : Nat) : Int) by omega]; exact atI_nat (nV_at ey)
      have hx := hlt x (List.mem_of_getElem? ex)
      rcases hc with ⟨c1, c2, c3, c4⟩ | ⟨c1, c2, c3⟩ | ⟨c1, c2, c3, c4⟩
      · rw [c1, c4]
        walk_at "rd"
        refine r_ixL (SqL.of (s4 _ _ hb)) iy ?_
        walk_at "rd"
        refine r_ixL (SqL.of (s4 _ _ hb)) ix ?_
        walk_at "rd"
        refine r_ixL (SqL.of (s4 _ _ ha)) (atI_nat (nx_nV hx)) ?_
        walk_at "rd"
        refine iteN (fun h => absurd (vN.mpr c2) h) (fun _ => ?_)
        walk_at "rd"
        refine r_ixL (SqL.of (s4 _ _ hb)) iy ?_
        walk_at "rd"
        refine iteP (fun h => absurd (vN.mp h) c3) (fun _ => ?_)
        walk_at "rd"
        exact ⟨_, rfl, s4⟩
      · rw [c1, c3]
        walk_at "rd"
        refine r_ixL (SqL.of (s4 _ _ hb)) ix ?_
        walk_at "rd"
        refine r_inD (s4 _ _ hd) ?_
        rw [in_kvJ, c2, show (some y).isSome = true from rfl]
        walk_at "rd"
        refine r_ixL (SqL.of (s4 _ _ hb)) iy ?_
        walk_at "rd"
        refine r_ixL (SqL.of (s4 _ _ hb)) ix ?_
        refine r_ixD (v := .int y) (s4 _ _ hd) (by rw [val_kvJ, c2]; rfl) ?_
        walk_at "rd"
        refine iteN (fun h => absurd rfl h) (fun _ => ?_)
        walk_at "rd"
        exact ⟨_, rfl, s4⟩
      · rw [c1, c4]
        walk_at "rd"
        refine r_ixL (SqL.of (s4 _ _ hb)) ix ?_
        walk_at "rd"
        refine r_inD (s4 _ _ hd) ?_
        rw [in_kvJ, c2, show (none : Option Nat).isSome = false from rfl]
        walk_at "rd"
        refine r_ixL (SqL.of (s4 _ _ hb)) iy ?_
        walk_at "rd"
        refine r_ixL (SqL.of (s4 _ _ hb)) ix ?_
        walk_at "rd"
        refine r_ixL (SqL.of (s4 _ _ ha)) (atI_nat (nx_nV hx)) ?_
        walk_at "rd"
        refine iteN (fun h => absurd (vN.mpr c3) h) (fun _ => ?_)
        walk_at "rd"
        exact ⟨_, rfl, s4⟩
    · rintro σ H4 ⟨v6, rfl, s4⟩
      rw [show ws.length - 1 + 1 = ws.length by omega, hje]
      walk_at "rd"
      refine r_ixL (SqL.of (s4 _ _ hb)) (atI_end (by rw [List.length_map]; exact nV_at hl)) ?_
      walk_at "rd"
      refine r_ixL (SqL.of (s4 _ _ ha)) (atI_nat (nx_nV (hlt l (List.mem_of_getElem? hl)))) ?_
      rw [hnl]
      walk_at "rd"
      rw [decide_eq_true rfl]
      exact q H4 s4

def spBeside : Sp := fun vs H Q _ => ∃ (a : Addr) (ns : List Nat) (m : Int), vs = [.ref a, .int m] ∧ H a = some (.lst (nV ns)) ∧ Ord ns ∧ ns.length ≤ 100 ∧ 0 < ns.length ∧ 0 < m ∧ m ≤ 8 ∧ ∀ p fs H', Same H H' → H' p = some (.lst (nV fs)) → Ord fs → fs.length ≤ 1000 → 0 < fs.length → Q (.ref p) H'
theorem ok_law_beside {f : Addr} {fd : FuncData} (F : Fun K "_law_beside" "_law_beside" s_law_beside f fd) (T : Txt K mg C_WoodError C_NoOrder) : FnOk P w K mg base CX0 1 f fd ["_law_order_here", "_law_times"] spBeside := by
  refine F.ok sc_law_beside (fun vs H Q E h => ?_) (fun cdv A outer s H vs Q E hr h => ?_)
  · obtain ⟨a, ns, m, rfl, _⟩ := h
    rfl
  · obtain ⟨a, ns, m, rfl, ha, ho, hn, hn0, hm0, hm, q⟩ := h
    refine ⟨_, (pss_cons (ps_set (i := 2) sc_law_beside.nd rfl (Or.inl rfl) (pe_lst pa_nil))
      (pss_cons (ps_for PassesOwn.never rfl (pi_range1 rfl T.n_range (pa_d (pv 1) pa_nil rfl)) (pg_name (i := 3) sc_law_beside.nd rfl (Or.inr rfl))
      (pss_one (ps_set (i := 2) sc_law_beside.nd rfl (Or.inl rfl) (pe_op op_cat (pv 2) (pe_lc rfl lc_law_beside_0 (pi_list (pv 0)) (fun _ _ _ _ => pif_nil) (fun _ _ _ _ => (pe_op op_add (pe_op op_mul (pe_callB (call_lenK K) (by rfl) T.n_len b_len (pa_d (pv 2) pa_nil rfl)) (pv 1)) (pv 0))))))))
      (pss_one (ps_ret (pv 2))))), ?_⟩
    walk_at "rd"
    refine ⟨Nat.zero_le _, fun p hp => ?_⟩
    have t0 := same_upd (o := .lst []) hp
    have e0 : upd H p (.lst []) p = some (.lst []) := upd_same
    generalize upd H p (.lst []) = H0 at *
    walk_at "rd"
    refine ⟨_, rfl, by omega, by omega, ?_⟩
    refine for_range (fun k σ H1 => ∃ (l : Addr) (fs : List Nat) (v3 : Option V), σ = [some (.ref a), some (.int m), some (.ref l), v3] ∧ H1 l = some (.lst (nV fs)) ∧ Ord fs ∧ fs.length = ns.length * k ∧ Same H H1) ?_ ?_ ?_
    · exact ⟨p, [], _, rfl, e0, ⟨fun x hx => by (cases hx), List.nodup_nil⟩, rfl, t0⟩
    · rintro k σ H1 hk ⟨l, fs, v3, rfl, hl, hf, hfl, s1⟩
      have hk8 : ns.length * k ≤ 100 * 8 := Nat.mul_le_mul hn (by omega)
      walk_at "rd"
      rw [show (0 + (k : Int)) = (k : Int) by omega]
      refine ⟨a, rfl, ⟨_, SqL.of (s1 _ _ ha)⟩, ?_⟩
      refine lc_list (SqL.of (s1 _ _ ha)) (fun i => nV ((ns.take i).map fun x => ns.length * k + x)) (by rw [List.take_zero]; rfl) (fun i hi => nV_small3 (by rw [List.length_map, List.length_take]; omega)) (fun i x H2 R B hx s2 kR kA => ?_) (fun D H2 hD s2 hl2 => ?_)
      · obtain ⟨n, hni, rfl⟩ : ∃ n, ns[i]? = some n ∧ V.int (n : Nat) = x := by
          rw [List.getElem?_map] at hx
          cases e : ns[i]? with
          | none => rw [e] at hx; cases hx
          | some n => rw [e] at hx; exact ⟨n, rfl, Option.some.inj hx⟩
        walk_at "rd"
        refine ⟨a, _, rfl, .inl (SqL.of (s2 _ _ (s1 _ _ ha))), ?_⟩
        rw [List.length_map]
        walk_at "rd"
        refine r_mulL (i := ((ns.length : Nat) : Int)) (by omega) (by omega) ?_
        walk_at "rd"
        rw [show ((ns.length : Nat) : Int) * (k : Int) + (n : Int) = ((ns.length * k + n : Nat) : Int) by rw [Int.natCast_add, Int.natCast_mul]]
        refine kA _ _ ?_ (Same.refl _)
        show nV _ = nV _ ++ _
        rw [nV_snoc, List.take_add_one, hni, List.map_append]
        rfl
      · rw [List.length_map, List.take_of_length_le (Nat.le_refl _)] at hl2
        walk_at "rd"
        refine ⟨l, D, _, _, rfl, rfl, s2 _ _ hl, hl2, line25 (by rw [List.length_map, List.length_map, List.length_map]; omega), fun c hc => ?_⟩
        walk_at "rd"
        refine ⟨c, fs ++ ns.map (fun x => ns.length * k + x), _, rfl, ?_, ord_beside ho hf hfl, by rw [List.length_append, List.length_map, hfl, Nat.mul_add]; omega, (s1.trans s2).trans (same_upd hc)⟩
        rw [upd_same]
        show _ = some (HO.lst (List.map _ _))
        rw [List.map_append]
    · rintro σ H1 ⟨l, fs, v3, rfl, hl, hf, hfl, s1⟩
      have hk8 : ns.length * m.toNat ≤ 100 * 8 := Nat.mul_le_mul hn (by omega)
      have hk9 : 1 * 1 ≤ ns.length * m.toNat := Nat.mul_le_mul hn0 (by omega)
      walk_at "rd"
      exact q l fs H1 s1 hl hf (by omega) (by omega)

def spLong : Sp := fun vs H Q _ => ∃ (a : Addr) (ns : List Nat) (st : Nat), vs = [.ref a, .int st] ∧ H a = some (.lst (nV ns)) ∧ Ord ns ∧ ns.length ≤ 3000 ∧
  ∀ d kvs H', Same H H' → H' d = some (.dK kvs) → (∀ x : Nat, x < ns.length → (valV kvs (.inl (x : Int))).isSome = decide (st < per ns x)) → Q (.ref d) H'
theorem ok_law_long_ones {f : Addr} {fd : FuncData} (F : Fun K "_law_long_ones" "_law_long_ones" s_law_long_ones f fd) (T : Txt K mg C_WoodError C_NoOrder) : FnOk P w K mg base CX0 1 f fd ["_law_order_here", "_law_step"] spLong := by
  refine F.ok sc_law_long_ones (fun vs H Q E h => ?_) (fun cdv A outer s H vs Q E hr h => ?_)
  · obtain ⟨a, ns, st, rfl, _⟩ := h
    rfl
  · obtain ⟨a, ns, st, rfl, ha, ho, hn, q⟩ := h
    refine ⟨_, (pss_cons (ps_set (i := 2) sc_law_long_ones.nd rfl (Or.inl rfl) pe_dnew)
      (pss_cons (ps_for PassesOwn.never rfl (pi_range1 rfl T.n_range (pa_d (pe_callB call_len_seq (by rfl) T.n_len b_len (pa_d (pv 0) pa_nil rfl)) pa_nil rfl)) (pg_name (i := 3) sc_law_long_ones.nd rfl (Or.inl rfl))
      (pss_cons (ps_set (i := 4) sc_law_long_ones.nd rfl (Or.inl rfl) (pe_lst (pa_d (pv 3) pa_nil rfl)))
      (pss_cons (ps_set (i := 5) sc_law_long_ones.nd rfl (Or.inl rfl) (pe_ix ix_list (pv 0) (pv 3) (fun _ _ => rfl)))
      (pss_cons (ps_while PassesOwn.never (pt_cmpR op_ne (pv 5) (pv 3) (nomark _))
      (pss_cons (ps_expr (pe_bm PySem.F.plainAttrs_list PySem.F.slot_list_append PySem.F.type_list_append mt_append (pv 4) (pa_d (pv 5) pa_nil rfl)))
      (pss_one (ps_set (i := 5) sc_law_long_ones.nd rfl (Or.inl rfl) (pe_ix ix_list (pv 0) (pv 5) (fun _ _ => rfl))))))
      (pss_one (ps_if (pt_cmpR op_gt (pe_callB call_len_seq (by rfl) T.n_len b_len (pa_d (pv 4) pa_nil rfl)) (pv 1) (nomark _)) (pss_one (ps_asg pe_bl (pg_sub (pv 2) (pv 3) set_dict)))
      pss_nil))))))
      (pss_one (ps_ret (pv 2))))), ?_⟩
    walk_at "rd"
    intro d hd
    have t0 := same_upd (o := .dK []) hd
    have d0 : upd H d (.dK []) d = some (.dK []) := upd_same
    generalize upd H d (.dK []) = H0 at *
    walk_at "rd"
    refine ⟨a, _, rfl, .inl (SqL.of (t0 _ _ ha)), ?_⟩
    rw [List.length_map]
    refine ⟨_, rfl, by omega, by omega, ?_⟩
    rw [Int.toNat_natCast]
    refine for_range (fun i σ H1 => ∃ (kvs : List (Key × V)) (v3 v4 v5 : Option V), σ = [some (.ref a), some (.int st), some (.ref d), v3, v4, v5] ∧ H1 d = some (.dK kvs) ∧ kvs.length ≤ i ∧ (∀ x : Nat, (valV kvs (.inl (x : Int))).isSome = decide (x < i ∧ st < per ns x)) ∧ Same H H1) ?_ ?_ ?_
    · exact ⟨[], _, _, _, rfl, d0, Nat.le_refl _, fun x => by rw [decide_eq_false (fun h => Nat.not_lt_zero _ h.1)]; rfl, t0⟩
    · rintro i σ H1 hi ⟨kvs, v3, v4, v5, rfl, hd1, hkl, hv, s1⟩
      obtain ⟨pp1, pp2, pp3, pp4⟩ := per_spec ho hi
      walk_at "rd"
      rw [show (0 + (i : Int)) = (i : Int) by omega]
      refine ⟨few (by simp), fun r hr => ?_⟩
      have t2 := same_upd (o := .lst [V.int (i : Int)]) hr
      have hr0 := s1.free hr
      have hrd : r ≠ d := (ne_of_none hd1 hr).symm
      have s2 := s1.trans t2
      have hd2 := t2 _ _ hd1
      have hr2 : upd H1 r (.lst [V.int (i : Int)]) r = some (.lst (nV (seg ns 1 i))) := upd_same
      generalize upd H1 r (.lst [V.int (i : Int)]) = H2 at *
      walk_at "rd"
      refine r_ixL (SqL.of (s2 _ _ ha)) (atI_nat (nx_nV hi)) ?_
      walk_at "rd"
      refine while_rd (fun σ H3 => ∃ j, σ = [some (.ref a), some (.int st), some (.ref d), some (.int i), some (.ref r), some (.int (itr ns j i))] ∧ 0 < j ∧ j ≤ per ns i ∧ H3 d = some (.dK kvs) ∧ H3 r = some (.lst (nV (seg ns j i))) ∧ Same H H3) (fun _ H3 => per ns i - lenAt H3 r) ⟨1, rfl, by omega, pp2, hd2, hr2, s2⟩ ?_
      rintro z σ H3 ⟨j, rfl, hj0, hj, hd3, hr3, s3⟩ hz
      have hsl := seg_len ns j i
      rw [lenAt_of hr3, List.length_map, hsl] at hz
      walk_at "rd"
      by_cases hlt : j < per ns i
      · refine iteN (fun _ => ?_) (fun h => absurd (vN.mp h) (pp4 j hj0 hlt))
        walk_at "rd"
        refine r_turn ?_
        walk_at "rd"
        refine ⟨.inl ⟨rfl, _, SqL.of hr3⟩, ?_⟩
        walk_at "rd"
        refine r_append hr3 (by rw [List.length_map]; exact small20000 (by omega)) ?_
        walk_at "rd"
        refine r_ixL (SqL.of ((push_same s3 hr0) _ _ ha)) (atI_nat (nx_nV (itr_lt ho hi j))) ?_
        walk_at "rd"
        refine ⟨⟨j + 1, rfl, Nat.succ_pos _, hlt, by rw [upd_ne hrd.symm]; exact hd3, by rw [upd_same, nV_snoc, seg_succ], push_same s3 hr0⟩, ?_⟩
        rw [lenAt_of upd_same, List.length_append, List.length_map, hsl]
        simp
        omega
      · obtain rfl : j = per ns i := by omega
        refine iteN (fun h => absurd (vN.mpr pp1) h) (fun _ => ?_)
        walk_at "rd"
        refine ⟨r, _, rfl, .inl (SqL.of hr3), ?_⟩
        rw [List.length_map, hsl]
        walk_at "rd"
        refine iteP (fun hlg => ?_) (fun hlg => ?_)
        · walk_at "rd"
          refine r_setD hd3 (small20000 (by omega)) ?_
          walk_at "rd"
          have hlp := length_putK kvs (.inl (i : Int) : Key) (V.bl true)
          refine ⟨_, _, _, _, rfl, upd_same, by omega, fun x => ?_, push_same s3 hd⟩
          rw [valV_put]
          by_cases e : x = i
          · rw [if_pos (by rw [e]), e, decide_eq_true ⟨Nat.lt_succ_self _, by omega⟩]
            rfl
          · rw [if_neg fun z => e (by have := Sum.inl.inj z; omega), hv x]
            refine decide_eq_decide.mpr ⟨fun h => ⟨by omega, h.2⟩, fun h => ⟨by omega, h.2⟩⟩
        · walk_at "rd"
          refine ⟨kvs, _, _, _, rfl, hd3, by omega, fun x => ?_, s3⟩
          rw [hv x]
          refine decide_eq_decide.mpr ⟨fun h => ⟨by omega, h.2⟩, fun h => ⟨?_, h.2⟩⟩
          rcases Nat.lt_or_eq_of_le (Nat.le_of_lt_succ h.1) with h1 | h1
          · exact h1
          · have := h.2
            rw [h1] at this
            omega
    · rintro σ H1 ⟨kvs, v3, v4, v5, rfl, hd1, hkl, hv, s1⟩
      walk_at "rd"
      exact q d kvs H1 s1 hd1 fun x hx => by rw [hv x]; exact decide_eq_decide.mpr ⟨fun h => h.2, fun h => ⟨hx, h⟩⟩

theorem pace_of {N : Int} (h : 0 ≤ N) : ∃ st : Nat, atI [V.int (1 + N / 64 % 64), V.int (1 + N / 64 % 9), V.int 16] (N % 3) = some (.int st) ∧ 0 < st ∧ st ≤ 64 := by
  have b1 := Int.emod_nonneg (N / 64) (show (64 : Int) ≠ 0 by decide)
  have b2 := Int.emod_lt_of_pos (N / 64) (show (0 : Int) < 64 by decide)
  have b3 := Int.emod_nonneg (N / 64) (show (9 : Int) ≠ 0 by decide)
  have b4 := Int.emod_lt_of_pos (N / 64) (show (0 : Int) < 9 by decide)
  have b5 := Int.emod_nonneg N (show (3 : Int) ≠ 0 by decide)
  have b6 := Int.emod_lt_of_pos N (show (0 : Int) < 3 by decide)
  have key : N % 3 = ((0 : Nat) : Int) ∨ N % 3 = ((1 : Nat) : Int) ∨ N % 3 = ((2 : Nat) : Int) := by omega
  rcases key with e | e | e
  · refine ⟨(1 + N / 64 % 64).toNat, ?_, by omega, by omega⟩
    rw [e, Int.toNat_of_nonneg (by omega)]
    exact atI_nat rfl
  · refine ⟨(1 + N / 64 % 9).toNat, ?_, by omega, by omega⟩
    rw [e, Int.toNat_of_nonneg (by omega)]
    exact atI_nat rfl
  · refine ⟨16, ?_, by omega, by omega⟩
    rw [e]
    exact atI_nat rfl
theorem IsShX.put {C x h : Addr} {H : Hp} {ns : List Nat} {st : Nat} {xs ys : List V} (s : IsShX C H x ns st) (hh : H h = some (.lst xs)) : IsShX C (upd H h (.lst ys)) x ns st := by
  obtain ⟨dx, t, d, h1, h2, h3⟩ := s
  exact ⟨dx, t, d, by rw [upd_ne (ne_of h1 hh (by intro z; cases z))]; exact h1, by rw [upd_ne (ne_of h2 hh (by intro z; cases z))]; exact h2, by rw [upd_ne (ne_of h3 hh (by intro z; cases z))]; exact h3⟩
theorem flat_nV (l : List Nat) : (nV l).all flatV = true := List.all_eq_true.mpr fun x hx => by
  obtain ⟨n, _, rfl⟩ := List.mem_map.mp hx
  rfl
def spLaw (K : PySem.W.Frag) : Sp := fun vs H Q _ => ∃ (a : Addr) (ns : List Int), vs = [.ref a] ∧ SqL K H a (ns.map V.int) ∧ ns.length ≤ 63 ∧ ∀ H', Q (.bl true) H'
theorem ok_law {f : Addr} {fd : FuncData} (F : Fun K "law" "law" s_law f fd) (T : Txt K mg C_WoodError C_NoOrder) (Z : Z_Shortcuts K C_Shortcuts) (c_Shortcuts : MkrE P w K mg base "Shortcuts" C_Shortcuts 4 ["self", "order", "step"] (spShInitX K C_NoOrder C_Shortcuts)) (c_ShortcutsD : MkrED P w K mg base "Shortcuts" C_Shortcuts 4 ["self", "order", "step"] (spShInitX K C_NoOrder C_Shortcuts) [.int 16])
    (m_Shortcuts_way_back : Mth P w K mg base C_Shortcuts "way_back" 1 ["self", "place"] (spWayBack C_Shortcuts)) (m_Shortcuts_back : Mth P w K mg base C_Shortcuts "back" 2 ["self", "place"] (spBack C_Shortcuts))
    (c_law_cell_at : Cal P w K mg base "_law_cell_at" 1 ["_law_script", "_law_k"] (spCell K)) (c_law_whole : Cal P w K mg base "_law_whole" 1 ["_law_found"] (spWhole0 K))
    (c_law_mixed : Cal P w K mg base "_law_mixed" 1 ["_law_cell", "_law_k"] spMixed) (c_law_digits : Cal P w K mg base "_law_digits" 2 ["_law_script", "_law_at", "_law_many"] (spDigits K)) (c_law_order : Cal P w K mg base "_law_order" 1 ["_law_digits_here"] spOrderX)
    (c_law_turned : Cal P w K mg base "_law_turned" 1 ["_law_order_here", "_law_number"] spTurned) (c_law_great : Cal P w K mg base "_law_great" 1 ["_law_number"] spGreat) (c_law_jumps : Cal P w K mg base "_law_jumps" 1 ["_law_order_here", "_law_step"] spJumps)
    (c_law_walked : Cal P w K mg base "_law_walked" 2 ["_law_order_here", "_law_jumps_here", "_law_place", "_law_way", "_law_is_long"] spWalked) (c_law_beside : Cal P w K mg base "_law_beside" 1 ["_law_order_here", "_law_times"] spBeside) (c_law_long_ones : Cal P w K mg base "_law_long_ones" 1 ["_law_order_here", "_law_step"] spLong) :
    FnOk P w K mg base CX0 6 f fd ["_law_script"] (spLaw K) := by
  refine F.ok sc_law (fun vs H Q E h => ?_) (fun cdv A outer s H vs Q E hr h => ?_)
  · obtain ⟨a, ns, rfl, _⟩ := h
    rfl
  · obtain ⟨a, ns, rfl, hS, hlen, q⟩ := h
    refine ⟨_, (pss_cons (ps_set (i := 1) sc_law.nd rfl (Or.inl rfl) (pe_op op_add pe_int (pe_op op_mod (pe_fn c_law_mixed (hr.mono (by decide : 1 ≤ _)) (pa_d (pe_fn c_law_cell_at (hr.mono (by decide : 1 ≤ _)) (pa_d (pv 0) (pa_d pe_int pa_nil rfl) rfl)) (pa_d pe_int pa_nil rfl) rfl)) pe_int)))
      (pss_cons (ps_set (i := 2) sc_law.nd rfl (Or.inl rfl) (pe_fn c_law_mixed (hr.mono (by decide : 1 ≤ _)) (pa_d (pe_fn c_law_cell_at (hr.mono (by decide : 1 ≤ _)) (pa_d (pv 0) (pa_d pe_int pa_nil rfl) rfl)) (pa_d pe_int pa_nil rfl) rfl)))
      (pss_cons (ps_set (i := 3) sc_law.nd rfl (Or.inl rfl) (pe_fn c_law_turned (hr.mono (by decide : 1 ≤ _)) (pa_d (pe_fn c_law_order (hr.mono (by decide : 1 ≤ _)) (pa_d (pe_fn c_law_digits (hr.mono (by decide : 2 ≤ _)) (pa_d (pv 0) (pa_d pe_int (pa_d (pv 1) pa_nil rfl) rfl) rfl)) pa_nil rfl)) (pa_d (pe_op op_fdiv (pv 2) pe_int) pa_nil rfl) rfl)))
      (pss_cons (ps_ifJ (pt_cmpR op_eq (pe_op op_mod (pe_op op_fdiv (pv 2) pe_int) pe_int) pe_int (nomark _)) (pss_one (ps_set (i := 3) sc_law.nd rfl (Or.inl rfl) (pe_fn c_law_beside (hr.mono (by decide : 1 ≤ _)) (pa_d (pv 3) (pa_d (pe_op op_add pe_int (pe_op op_mod (pe_op op_fdiv (pv 2) pe_int) pe_int)) pa_nil rfl) rfl))))
      pss_nil)
      (pss_cons (ps_ifJ (pt_cmpR op_eq (pe_op op_mod (pe_op op_fdiv (pv 2) pe_int) pe_int) pe_int (nomark _)) (pss_one (ps_set (i := 3) sc_law.nd rfl (Or.inl rfl) (pe_fn c_law_great (hr.mono (by decide : 1 ≤ _)) (pa_d (pe_op op_fdiv (pv 2) pe_int) pa_nil rfl))))
      pss_nil)
      (pss_cons (ps_set (i := 4) sc_law.nd rfl (Or.inl rfl) (pe_ix ix_list (pe_lst (pa_d (pe_op op_add pe_int (pe_op op_mod (pe_op op_fdiv (pv 2) pe_int) pe_int)) (pa_d (pe_op op_add pe_int (pe_op op_mod (pe_op op_fdiv (pv 2) pe_int) pe_int)) (pa_d pe_int pa_nil rfl) rfl) rfl)) (pe_op op_mod (pv 2) pe_int) (fun _ _ => rfl)))
      (pss_cons (ps_set (i := 5) sc_law.nd rfl (Or.inl rfl) (pe_callTy call_list_of (by rfl) T.n_list b_list (pa_d (pv 3) pa_nil rfl)))
      (pss_cons (ps_set (i := 6) sc_law.nd rfl (Or.inl rfl) (pe_mkE c_Shortcuts (hr.mono (by decide : 5 ≤ _)) passE0 (pa_d (pv 5) (pa_d (pv 4) pa_nil rfl) rfl)))
      (pss_cons (ps_ifJ (pt_cmpR op_eq (pv 4) pe_int (nomark _)) (pss_one (ps_set (i := 6) sc_law.nd rfl (Or.inl rfl) (pe_mkED c_ShortcutsD (hr.mono (by decide : 5 ≤ _)) passE0 (pa_d (pv 5) pa_nil rfl))))
      pss_nil)
      (pss_cons (ps_expr (pe_bm0 PySem.F.plainAttrs_list PySem.F.slot_list_reverse PySem.F.type_list_reverse mt_reverse (pv 5)))
      (pss_cons (ps_set (i := 7) sc_law.nd rfl (Or.inl rfl) (pe_fn c_law_jumps (hr.mono (by decide : 1 ≤ _)) (pa_d (pv 3) (pa_d (pv 4) pa_nil rfl) rfl)))
      (pss_cons (ps_set (i := 8) sc_law.nd rfl (Or.inl rfl) (pe_fn c_law_long_ones (hr.mono (by decide : 1 ≤ _)) (pa_d (pv 3) (pa_d (pv 4) pa_nil rfl) rfl)))
      (pss_cons (ps_for PassesOwn.never rfl (pi_range1 rfl T.n_range (pa_d (pe_callB call_len_seq (by rfl) T.n_len b_len (pa_d (pv 3) pa_nil rfl)) pa_nil rfl)) (pg_name (i := 9) sc_law.nd rfl (Or.inl rfl))
      (pss_cons (ps_set (i := 10) sc_law.nd rfl (Or.inl rfl) (pe_mt m_Shortcuts_way_back (hr.mono (by decide : 1 ≤ _)) (pv 6) (pa_d (pv 9) pa_nil rfl)))
      (pss_cons (ps_set (i := 11) sc_law.nd rfl (Or.inl rfl) (pe_cmpR op_inD (pv 9) (pv 8) rfl))
      (pss_cons (ps_if (PW.pt (pw_or (pt_cmpR op_gt (pe_callB call_len_seq (by rfl) T.n_len b_len (pa_d (pv 10) pa_nil rfl)) (pe_op op_mul pe_int (pv 4)) (nomark _)) (pw_or1 (pt_not (pt_val (pe_fn c_law_walked (hr.mono (by decide : 2 ≤ _)) (pa_d (pv 3) (pa_d (pv 7) (pa_d (pv 9) (pa_d (pv 10) (pa_d (pv 11) pa_nil rfl) rfl) rfl) rfl) rfl))))))) (pss_one (ps_ret pe_bl))
      pss_nil)
      (pss_cons (ps_set (i := 12) sc_law.nd rfl (Or.inl rfl) (pe_callTy call_list_of (by rfl) T.n_list b_list (pa_d (pv 10) pa_nil rfl)))
      (pss_cons (ps_expr (pe_bm PySem.F.plainAttrs_list PySem.F.slot_list_append PySem.F.type_list_append mt_append (pv 10) (pa_d (pv 9) pa_nil rfl)))
      (pss_one (ps_if (PW.pt (pw_or (pt_cmpR (op_neD (hu60 hr)) (pe_mt m_Shortcuts_way_back (hr.mono (by decide : 1 ≤ _)) (pv 6) (pa_d (pv 9) pa_nil rfl)) (pv 12) (nomark _)) (pw_or (pt_not (pt_val (pe_fn c_law_whole (hr.mono (by decide : 1 ≤ _)) (pa_d (pe_mt m_Shortcuts_back (hr.mono (by decide : 2 ≤ _)) (pv 6) (pa_d (pv 9) pa_nil rfl)) pa_nil rfl)))) (pw_or1 (pt_cmpR op_ne (pe_mt m_Shortcuts_back (hr.mono (by decide : 2 ≤ _)) (pv 6) (pa_d (pv 9) pa_nil rfl)) (pe_ix ix_list (pv 12) (pe_un un_neg pe_int) (fun _ _ => rfl)) (nomark _)))))) (pss_one (ps_ret pe_bl))
      pss_nil))))))))
      (pss_one (ps_ret pe_bl))))))))))))))), ?_⟩
    walk_at "rd"
    refine ⟨a, ns, 0, rfl, hS, fun c0 => ?_⟩
    walk_at "rd"
    refine ⟨c0, 1, rfl, by decide, by decide, fun r0 _ _ => ?_⟩
    walk_at "rd"
    obtain ⟨m, em, hm⟩ := emod_to r0 (n := 60) (by decide)
    rw [show ((60 : Nat) : Int) = 60 by rfl] at em
    rw [em]
    refine ⟨a, ns, 1, rfl, hS, fun c1 => ?_⟩
    walk_at "rd"
    refine ⟨c1, 2, rfl, by decide, by decide, fun N hN0 hN1 => ?_⟩
    walk_at "rd"
    refine ⟨a, ns, 2, _, rfl, hS, by omega, by omega, fun p1 ds H1 s1 f1 e1 hl1 => ?_⟩
    walk_at "rd"
    refine ⟨p1, ds, rfl, e1, by omega, fun p2 os H2 s2 f2 e2 ho2 hl2 => ?_⟩
    walk_at "rd"
    refine ⟨p2, os, _, rfl, e2, ho2, by omega, by omega, fun p3 fs H3 s3 e3 ho3 hl3 => ?_⟩
    have s13 := (s1.trans s2).trans s3
    walk_at "rd"
    refine r_ifJ (fun σ H4 => ∃ (o : Addr) (fs : List Nat), σ = [some (.ref a), some (.int (1 + (m : Int))), some (.int N), some (.ref o), none, none, none, none, none, none, none, none, none] ∧ H4 o = some (.lst (nV fs)) ∧ Ord fs ∧ 0 < fs.length ∧ fs.length ≤ 1000 ∧ Same H H4) ?_ ?_
    · walk_at "rd"
      refine iteP (fun _ => ?_) (fun _ => ?_)
      · walk_at "rd"
        have b0 := Int.emod_nonneg (N / 144) (show (6 : Int) ≠ 0 by decide)
        have b1 := Int.emod_lt_of_pos (N / 144) (show (0 : Int) < 6 by decide)
        refine ⟨p3, fs, _, rfl, e3, ho3, by omega, by omega, by omega, by omega, fun p4 gs H4 s4 e4 ho4 hl4 hg4 => ?_⟩
        walk_at "rd"
        exact ⟨p4, gs, rfl, e4, ho4, hg4, hl4, s13.trans s4⟩
      · walk_at "rd"
        exact ⟨p3, fs, rfl, e3, ho3, by omega, by omega, s13⟩
    clear e3 ho3 hl3 s13 s3
    rintro σ H4 ⟨o, fs, rfl, e4, ho4, hg4, hl4, s4⟩
    walk_at "rd"
    refine r_ifJ (fun σ H4 => ∃ (o : Addr) (fs : List Nat), σ = [some (.ref a), some (.int (1 + (m : Int))), some (.int N), some (.ref o), none, none, none, none, none, none, none, none, none] ∧ H4 o = some (.lst (nV fs)) ∧ Ord fs ∧ 0 < fs.length ∧ fs.length ≤ 1000 ∧ Same H H4) ?_ ?_
    · walk_at "rd"
      refine iteP (fun _ => ?_) (fun _ => ?_)
      · walk_at "rd"
        refine ⟨_, rfl, fun p5 gs H5 s5 e5 ho5 hl5 hg5 => ?_⟩
        walk_at "rd"
        exact ⟨p5, gs, rfl, e5, ho5, hg5, by omega, s4.trans s5⟩
      · walk_at "rd"
        exact ⟨o, fs, rfl, e4, ho4, hg4, hl4, s4⟩
    clear e4 ho4 hg4 hl4 s4
    rintro σ H5 ⟨o, fs, rfl, e5, ho5, hg5, hl5, s5⟩
    walk_at "rd"
    refine ⟨few (by simp), fun p6 h6 => ?_⟩
    obtain ⟨st, hat, hst0, hst1⟩ := pace_of hN0
    have t6 := same_upd (o := .lst [V.int (1 + N / 64 % 64), V.int (1 + N / 64 % 9), V.int 16]) h6
    have e6 : upd H5 p6 (.lst [V.int (1 + N / 64 % 64), V.int (1 + N / 64 % 9), V.int 16]) p6 = some (.lst [V.int (1 + N / 64 % 64), V.int (1 + N / 64 % 9), V.int 16]) := upd_same
    generalize upd H5 p6 (.lst [V.int (1 + N / 64 % 64), V.int (1 + N / 64 % 9), V.int 16]) = H6 at *
    walk_at "rd"
    refine r_ixL (SqL.of e6) hat ?_
    have o6 := t6 _ _ e5
    have s6 := s5.trans t6
    walk_at "rd"
    refine ⟨o, _, rfl, .inl (SqL.of o6), fun h hh => ?_⟩
    have t7 := same_upd (o := .lst (nV fs)) hh
    have h7 : upd H6 h (.lst (nV fs)) h = some (.lst (nV fs)) := upd_same
    have o7 := t7 _ _ o6
    have hh0 := s6.free hh
    have hoh : o ≠ h := ne_of_none o6 hh
    have s7 := s6.trans t7
    generalize upd H6 h (.lst (nV fs)) = H7 at *
    walk_at "rd"
    intro x dx n1 n2 n3
    have sm : Same H7 (upd (upd H7 dx (.own x)) x (.ins C_Shortcuts dx [])) := same_made n1 n2 (Same.refl _).but
    refine ⟨x, dx, h, fs, st, rfl, upd_same, sm _ _ h7, ho5, by omega, hst0, fun H8 s8 hSh => ⟨rfl, ?_⟩⟩
    have s78 := same_made n1 n2 s8
    have h8 := s78 _ _ h7
    have o8 := s78 _ _ o7
    have s08 := s7.trans s78
    walk_at "rd"
    refine r_ifJ (fun σ H9 => ∃ x : Addr, σ = [some (.ref a), some (.int (1 + (m : Int))), some (.int N), some (.ref o), some (.int st), some (.ref h), some (.ref x), none, none, none, none, none, none] ∧ IsShX C_Shortcuts H9 x fs st ∧ H9 h = some (.lst (nV fs)) ∧ H9 o = some (.lst (nV fs)) ∧ Same H H9) ?_ ?_
    · walk_at "rd"
      refine iteP (fun h16 => ?_) (fun _ => ?_)
      · obtain rfl : st = 16 := by have := V.int.inj h16; omega
        walk_at "rd"
        intro x2 dx2 m1 m2 m3
        have sm2 : Same H8 (upd (upd H8 dx2 (.own x2)) x2 (.ins C_Shortcuts dx2 [])) := same_made m1 m2 (Same.refl _).but
        refine ⟨x2, dx2, h, fs, 16, rfl, upd_same, sm2 _ _ h8, ho5, by omega, hst0, fun H9 s9 hSh9 => ⟨rfl, ?_⟩⟩
        have s89 := same_made m1 m2 s9
        walk_at "rd"
        exact ⟨x2, rfl, hSh9, s89 _ _ h8, s89 _ _ o8, s08.trans s89⟩
      · walk_at "rd"
        exact ⟨x, rfl, hSh, h8, o8, s08⟩
    clear hSh s8 s78 h8 o8 s08 sm n1 n2 n3 x dx
    rintro σ H9 ⟨x, rfl, hSh, h9, o9, s9⟩
    walk_at "rd"
    refine ⟨.inl ⟨rfl, _, SqL.of h9⟩, ?_⟩
    walk_at "rd"
    refine ⟨h, _, rfl, rfl, h9, ?_⟩
    have hSh := hSh.put (ys := (nV fs).reverse) h9
    have o10 : upd H9 h (.lst (nV fs).reverse) o = some (.lst (nV fs)) := by rw [upd_ne hoh]; exact o9
    have s10 := push_same (o := .lst (nV fs).reverse) s9 hh0
    generalize upd H9 h (.lst (nV fs).reverse) = H10 at *
    walk_at "rd"
    refine ⟨o, fs, st, rfl, o10, ho5, by omega, hst0, fun dj H11 s11 f11 j11 => ?_⟩
    have o11 := s11 _ _ o10
    have hSh := hSh.same s11
    walk_at "rd"
    refine ⟨o, fs, st, rfl, o11, ho5, by omega, fun dl kvl H12 s12 l12 hv => ?_⟩
    have o12 := s12 _ _ o11
    have j12 := s12 _ _ j11
    have hSh := hSh.same s12
    walk_at "rd"
    refine ⟨o, _, rfl, .inl (SqL.of o12), ?_⟩
    rw [List.length_map]
    refine ⟨_, rfl, by omega, by omega, ?_⟩
    rw [Int.toNat_natCast]
    refine for_range (fun i σ H13 => ∃ (v9 v10 v11 v12 : Option V), σ = [some (.ref a), some (.int (1 + (m : Int))), some (.int N), some (.ref o), some (.int st), some (.ref h), some (.ref x), some (.ref dj), some (.ref dl), v9, v10, v11, v12] ∧ Same H12 H13) ?_ ?_ ?_
    · exact ⟨_, _, _, _, rfl, Same.refl _⟩
    · rintro p σ H13 hp ⟨v9, v10, v11, v12, rfl, s13⟩
      obtain ⟨ws, hW, hwl⟩ := way_for ho5 hst0 hp
      have hpos := (way_pos hW).1
      obtain ⟨l, hl⟩ : ∃ l, ws[ws.length - 1]? = some l := ⟨_, List.getElem?_eq_getElem (by omega)⟩
      have hJ : ∀ y z, look (jOf fs st) y = some z → z < fs.length := fun y z e => look_lt ho5 hst0 e
      have hS13 := hSh.same s13
      obtain ⟨dx, t, d, hx13, ht13, hd13⟩ := hS13
      have hS13 := hSh.same s13
      walk_at "rd"
      rw [show (0 + (p : Int)) = (p : Int) by omega]
      refine ⟨x, dx, _, rfl, hx13, rfl, ?_⟩
      walk_at "rd"
      refine ⟨x, fs, st, p, _, ws, rfl, hS13, ho5, hst0, hp, hW, by omega, fun b H14 s14 f14 e14 => ?_⟩
      have s134 := s13.trans s14
      have hb0 := s13.free f14
      walk_at "rd"
      refine r_inD (s134 _ _ l12) ?_
      rw [hv p hp]
      walk_at "rd"
      refine ⟨b, _, rfl, .inl (SqL.of e14), ?_⟩
      rw [List.length_map]
      walk_at "rd"
      refine iteP (fun h => absurd h (by omega)) (fun _ => ?_)
      walk_at "rd"
      refine ⟨o, dj, b, fs, jOf fs st, p, _, ws, rfl, s134 _ _ o12, s134 _ _ j12, e14, ho5, by omega, hp, hJ, hW, by omega, fun H15 s15 => ?_⟩
      walk_at "rd"
      have e15 := s15 _ _ e14
      have s135 := s134.trans s15
      refine ⟨b, _, rfl, .inl (SqL.of e15), fun kp hkp => ?_⟩
      have t16 := same_upd (o := .lst (nV ws)) hkp
      have k16 : upd H15 kp (.lst (nV ws)) kp = some (.lst (nV ws)) := upd_same
      have b16 := t16 _ _ e15
      have hkb : kp ≠ b := (ne_of_none e15 hkp).symm
      have s136 := s135.trans t16
      generalize upd H15 kp (.lst (nV ws)) = H16 at *
      walk_at "rd"
      refine ⟨.inl ⟨rfl, _, SqL.of b16⟩, ?_⟩
      walk_at "rd"
      refine r_append b16 (by rw [List.length_map]; exact small20000 (by omega)) ?_
      have k17 : upd H16 b (.lst (nV ws ++ [V.int (p : Int)])) kp = some (.lst (nV ws)) := by rw [upd_ne hkb]; exact k16
      have s137 := push_same (o := .lst (nV ws ++ [V.int (p : Int)])) s136 hb0
      generalize upd H16 b (.lst (nV ws ++ [V.int (p : Int)])) = H17 at *
      have hS17 := hSh.same s137
      obtain ⟨dx7, t7, d7, hx17, ht17, hd17⟩ := hS17
      have hS17 := hSh.same s137
      walk_at "rd"
      refine ⟨x, dx7, _, rfl, hx17, rfl, ?_⟩
      walk_at "rd"
      refine ⟨x, fs, st, p, _, ws, rfl, hS17, ho5, hst0, hp, hW, by omega, fun b2 H18 s18 f18 e18 => ?_⟩
      walk_at "rd"
      refine r_same (SameD.lsts (SqL.of e18) (SqL.of (s18 _ _ k17)) (flat_nV _)) ?_
      walk_at "rd"
      refine ⟨x, dx7, _, rfl, s18 _ _ hx17, rfl, ?_⟩
      walk_at "rd"
      refine ⟨x, fs, st, p, _, ws, l, rfl, hS17.same s18, ho5, hst0, hp, hW, by omega, hl, fun H19 s19 => ?_⟩
      walk_at "rd"
      refine ⟨_, rfl, any_int _, ?_⟩
      rw [show isI (V.int ((l : Nat) : Int)) = true from rfl]
      have s89 := s18.trans s19
      walk_at "rd"
      refine ⟨x, dx7, _, rfl, s89 _ _ hx17, rfl, ?_⟩
      walk_at "rd"
      refine ⟨x, fs, st, p, _, ws, l, rfl, hS17.same s89, ho5, hst0, hp, hW, by omega, hl, fun H20 s20 => ?_⟩
      have s80 := s89.trans s20
      walk_at "rd"
      refine r_ixL (SqL.of (s80 _ _ k17)) (atI_end (by rw [List.length_map]; exact nV_at hl)) ?_
      walk_at "rd"
      refine iteN (fun h => absurd rfl h) (fun _ => ?_)
      walk_at "rd"
      exact ⟨_, _, _, _, rfl, s137.trans s80⟩
    · rintro σ H13 ⟨v9, v10, v11, v12, rfl, s13⟩
      walk_at "rd"
      exact q H13

end
set_option maxHeartbeats 8000000 in
theorem all_mk {l : PySem.W.OpenLaw} {w : World} {K : PySem.W.Frag} {h : Heap} {mg : Str → Option Value} {fa : Addr} (X : K.In h) (G : h.Ns mainGlobals mg) (hfa : mg "law" = some (.ref fa))
    {C_Shortcuts : Addr}
    {f0 : Addr} {od0 an0 : Option Addr} {sl0 : Array (Option Value)} {oc0 kV0 dc0 pm0 cd0 ct0 : Value}
    {f1 : Addr} {od1 an1 : Option Addr} {sl1 : Array (Option Value)} {oc1 kV1 dc1 pm1 cd1 ct1 : Value}
    {f2 : Addr} {od2 an2 : Option Addr} {sl2 : Array (Option Value)} {oc2 kV2 dc2 pm2 cd2 ct2 : Value}
    {f3 : Addr} {od3 an3 : Option Addr} {sl3 : Array (Option Value)} {oc3 kV3 dc3 pm3 cd3 ct3 : Value}
    {f4 : Addr} {od4 an4 : Option Addr} {sl4 : Array (Option Value)} {oc4 kV4 dc4 pm4 cd4 ct4 : Value}
    {f5 : Addr} {od5 an5 : Option Addr} {sl5 : Array (Option Value)} {oc5 kV5 dc5 pm5 cd5 ct5 : Value}
    {f6 : Addr} {od6 an6 : Option Addr} {sl6 : Array (Option Value)} {oc6 kV6 dc6 pm6 cd6 ct6 : Value}
    {T6 : Addr} {oT6 : Obj} {vT6 : Value} {nT6 : Nat}
    {f7 : Addr} {od7 an7 : Option Addr} {sl7 : Array (Option Value)} {oc7 kV7 dc7 pm7 cd7 ct7 : Value}
    {f8 : Addr} {od8 an8 : Option Addr} {sl8 : Array (Option Value)} {oc8 kV8 dc8 pm8 cd8 ct8 : Value}
    {f9 : Addr} {od9 an9 : Option Addr} {sl9 : Array (Option Value)} {oc9 kV9 dc9 pm9 cd9 ct9 : Value}
    {f10 : Addr} {od10 an10 : Option Addr} {sl10 : Array (Option Value)} {oc10 kV10 dc10 pm10 cd10 ct10 : Value}
    {f11 : Addr} {od11 an11 : Option Addr} {sl11 : Array (Option Value)} {oc11 kV11 dc11 pm11 cd11 ct11 : Value}
    {f12 : Addr} {od12 an12 : Option Addr} {sl12 : Array (Option Value)} {oc12 kV12 dc12 pm12 cd12 ct12 : Value}
    {f13 : Addr} {od13 an13 : Option Addr} {sl13 : Array (Option Value)} {oc13 kV13 dc13 pm13 cd13 ct13 : Value}
    {f14 : Addr} {od14 an14 : Option Addr} {sl14 : Array (Option Value)} {oc14 kV14 dc14 pm14 cd14 ct14 : Value}
    {f15 : Addr} {od15 an15 : Option Addr} {sl15 : Array (Option Value)} {oc15 kV15 dc15 pm15 cd15 ct15 : Value}
    {f16 : Addr} {od16 an16 : Option Addr} {sl16 : Array (Option Value)} {oc16 kV16 dc16 pm16 cd16 ct16 : Value}
    {f17 : Addr} {od17 an17 : Option Addr} {sl17 : Array (Option Value)} {oc17 kV17 dc17 pm17 cd17 ct17 : Value}
    {f18 : Addr} {od18 an18 : Option Addr} {sl18 : Array (Option Value)} {oc18 kV18 dc18 pm18 cd18 ct18 : Value}
    {f19 : Addr} {od19 an19 : Option Addr} {sl19 : Array (Option Value)} {oc19 kV19 dc19 pm19 cd19 ct19 : Value}
    {f20 : Addr} {od20 an20 : Option Addr} {sl20 : Array (Option Value)} {oc20 kV20 dc20 pm20 cd20 ct20 : Value}
    {C_WoodError : Addr}
    {C_NoOrder : Addr}
    {nm_NoOrder qn_NoOrder : Str} {N_NoOrder : Addr} {bs_NoOrder : List Value} {sn_NoOrder : List Str} {sub_NoOrder : List Value} {ab_NoOrder : Bool} {col_NoOrder : Option Bool} {dd_NoOrder : Option Addr} {k0_NoOrder k1_NoOrder k2_NoOrder k3_NoOrder k5_NoOrder : Option Value}
    (a_Shortcuts : PySem.W.nsIn K mainGlobals "Shortcuts" = some (some (.ref C_Shortcuts)))
    (pg_Shortcuts : PySem.W.plainGet K C_Shortcuts Str.empty = true)
    (hd_Shortcuts : PySem.W.hasDictIn K C_Shortcuts = true)
    (po_Shortcuts : PySem.W.plainOver K C_Shortcuts = true)
    (sa_Shortcuts : PySem.W.findIn K (.ref C_Shortcuts) "__setattr__" = some (some (.builtin "object.__setattr__")))
    (mk_Shortcuts : PySem.W.makesIn K C_Shortcuts = true)
    (kc_Shortcuts : PySem.W.keepIn K (.ref C_Shortcuts) = true)
    (n_Shortcuts_onward : PySem.W.findIn K (.ref C_Shortcuts) "onward" = some none)
    (n_Shortcuts_leaps : PySem.W.findIn K (.ref C_Shortcuts) "leaps" = some none)
    (i0 : PySem.W.isFn K (.ref f0) = true)
    (a0 : PySem.W.findIn K (.ref C_NoOrder) "__init__" = some (some (.ref f0))) (l0 : K.lookup f0 = some ⟨oc0, od0, .func (PySem.W.fnOf "__init__" "NoOrder.__init__" (defArgs s_NoOrder_init) (defBody s_NoOrder_init) (defScope s_NoOrder_init) .none kV0 dc0 pm0 an0 cd0 ct0), sl0⟩) (c0 : PySem.W.codeIn K cd0 "NoOrder.__init__" = true) (k0 : PySem.W.keepIn K (.ref f0) = true)
    (a1 : PySem.W.nsIn K mainGlobals "is_whole" = some (some (.ref f1))) (l1 : K.lookup f1 = some ⟨oc1, od1, .func (PySem.W.fnOf "is_whole" "is_whole" (defArgs s_is_whole) (defBody s_is_whole) (defScope s_is_whole) .none kV1 dc1 pm1 an1 cd1 ct1), sl1⟩) (c1 : PySem.W.codeIn K cd1 "is_whole" = true) (k1 : PySem.W.keepIn K (.ref f1) = true)
    (a2 : PySem.W.nsIn K mainGlobals "is_within" = some (some (.ref f2))) (l2 : K.lookup f2 = some ⟨oc2, od2, .func (PySem.W.fnOf "is_within" "is_within" (defArgs s_is_within) (defBody s_is_within) (defScope s_is_within) .none kV2 dc2 pm2 an2 cd2 ct2), sl2⟩) (c2 : PySem.W.codeIn K cd2 "is_within" = true) (k2 : PySem.W.keepIn K (.ref f2) = true)
    (a3 : PySem.W.nsIn K mainGlobals "check_order" = some (some (.ref f3))) (l3 : K.lookup f3 = some ⟨oc3, od3, .func (PySem.W.fnOf "check_order" "check_order" (defArgs s_check_order) (defBody s_check_order) (defScope s_check_order) .none kV3 dc3 pm3 an3 cd3 ct3), sl3⟩) (c3 : PySem.W.codeIn K cd3 "check_order" = true) (k3 : PySem.W.keepIn K (.ref f3) = true)
    (a4 : PySem.W.nsIn K mainGlobals "rounds_of" = some (some (.ref f4))) (l4 : K.lookup f4 = some ⟨oc4, od4, .func (PySem.W.fnOf "rounds_of" "rounds_of" (defArgs s_rounds_of) (defBody s_rounds_of) (defScope s_rounds_of) .none kV4 dc4 pm4 an4 cd4 ct4), sl4⟩) (c4 : PySem.W.codeIn K cd4 "rounds_of" = true) (k4 : PySem.W.keepIn K (.ref f4) = true)
    (a5 : PySem.W.nsIn K mainGlobals "shortcuts_of" = some (some (.ref f5))) (l5 : K.lookup f5 = some ⟨oc5, od5, .func (PySem.W.fnOf "shortcuts_of" "shortcuts_of" (defArgs s_shortcuts_of) (defBody s_shortcuts_of) (defScope s_shortcuts_of) .none kV5 dc5 pm5 an5 cd5 ct5), sl5⟩) (c5 : PySem.W.codeIn K cd5 "shortcuts_of" = true) (k5 : PySem.W.keepIn K (.ref f5) = true)
    (i6 : PySem.W.isFn K (.ref f6) = true)
    (a6 : PySem.W.findIn K (.ref C_Shortcuts) "__init__" = some (some (.ref f6))) (l6 : K.lookup f6 = some ⟨oc6, od6, .func (PySem.W.fnOf "__init__" "Shortcuts.__init__" (defArgs s_Shortcuts_init) (defBody s_Shortcuts_init) (defScope s_Shortcuts_init) (.ref T6) kV6 dc6 pm6 an6 cd6 ct6), sl6⟩) (c6 : PySem.W.codeIn K cd6 "Shortcuts.__init__" = true) (k6 : PySem.W.keepIn K (.ref f6) = true)
    (lT6 : K.lookup T6 = some oT6) (dT6 : oT6.data = .seq #[vT6] nT6)
    (eT6 : RelV (.int 16) vT6)
    (i7 : PySem.W.isFn K (.ref f7) = true)
    (a7 : PySem.W.findIn K (.ref C_Shortcuts) "way_back" = some (some (.ref f7))) (l7 : K.lookup f7 = some ⟨oc7, od7, .func (PySem.W.fnOf "way_back" "Shortcuts.way_back" (defArgs s_Shortcuts_way_back) (defBody s_Shortcuts_way_back) (defScope s_Shortcuts_way_back) .none kV7 dc7 pm7 an7 cd7 ct7), sl7⟩) (c7 : PySem.W.codeIn K cd7 "Shortcuts.way_back" = true) (k7 : PySem.W.keepIn K (.ref f7) = true)
    (i8 : PySem.W.isFn K (.ref f8) = true)
    (a8 : PySem.W.findIn K (.ref C_Shortcuts) "back" = some (some (.ref f8))) (l8 : K.lookup f8 = some ⟨oc8, od8, .func (PySem.W.fnOf "back" "Shortcuts.back" (defArgs s_Shortcuts_back) (defBody s_Shortcuts_back) (defScope s_Shortcuts_back) .none kV8 dc8 pm8 an8 cd8 ct8), sl8⟩) (c8 : PySem.W.codeIn K cd8 "Shortcuts.back" = true) (k8 : PySem.W.keepIn K (.ref f8) = true)
    (a9 : PySem.W.nsIn K mainGlobals "_law_cell_at" = some (some (.ref f9))) (l9 : K.lookup f9 = some ⟨oc9, od9, .func (PySem.W.fnOf "_law_cell_at" "_law_cell_at" (defArgs s_law_cell_at) (defBody s_law_cell_at) (defScope s_law_cell_at) .none kV9 dc9 pm9 an9 cd9 ct9), sl9⟩) (c9 : PySem.W.codeIn K cd9 "_law_cell_at" = true) (k9 : PySem.W.keepIn K (.ref f9) = true)
    (a10 : PySem.W.nsIn K mainGlobals "_law_whole" = some (some (.ref f10))) (l10 : K.lookup f10 = some ⟨oc10, od10, .func (PySem.W.fnOf "_law_whole" "_law_whole" (defArgs s_law_whole) (defBody s_law_whole) (defScope s_law_whole) .none kV10 dc10 pm10 an10 cd10 ct10), sl10⟩) (c10 : PySem.W.codeIn K cd10 "_law_whole" = true) (k10 : PySem.W.keepIn K (.ref f10) = true)
    (a11 : PySem.W.nsIn K mainGlobals "_law_mixed" = some (some (.ref f11))) (l11 : K.lookup f11 = some ⟨oc11, od11, .func (PySem.W.fnOf "_law_mixed" "_law_mixed" (defArgs s_law_mixed) (defBody s_law_mixed) (defScope s_law_mixed) .none kV11 dc11 pm11 an11 cd11 ct11), sl11⟩) (c11 : PySem.W.codeIn K cd11 "_law_mixed" = true) (k11 : PySem.W.keepIn K (.ref f11) = true)
    (a12 : PySem.W.nsIn K mainGlobals "_law_digits" = some (some (.ref f12))) (l12 : K.lookup f12 = some ⟨oc12, od12, .func (PySem.W.fnOf "_law_digits" "_law_digits" (defArgs s_law_digits) (defBody s_law_digits) (defScope s_law_digits) .none kV12 dc12 pm12 an12 cd12 ct12), sl12⟩) (c12 : PySem.W.codeIn K cd12 "_law_digits" = true) (k12 : PySem.W.keepIn K (.ref f12) = true)
    (a13 : PySem.W.nsIn K mainGlobals "_law_order" = some (some (.ref f13))) (l13 : K.lookup f13 = some ⟨oc13, od13, .func (PySem.W.fnOf "_law_order" "_law_order" (defArgs s_law_order) (defBody s_law_order) (defScope s_law_order) .none kV13 dc13 pm13 an13 cd13 ct13), sl13⟩) (c13 : PySem.W.codeIn K cd13 "_law_order" = true) (k13 : PySem.W.keepIn K (.ref f13) = true)
    (a14 : PySem.W.nsIn K mainGlobals "_law_turned" = some (some (.ref f14))) (l14 : K.lookup f14 = some ⟨oc14, od14, .func (PySem.W.fnOf "_law_turned" "_law_turned" (defArgs s_law_turned) (defBody s_law_turned) (defScope s_law_turned) .none kV14 dc14 pm14 an14 cd14 ct14), sl14⟩) (c14 : PySem.W.codeIn K cd14 "_law_turned" = true) (k14 : PySem.W.keepIn K (.ref f14) = true)
    (a15 : PySem.W.nsIn K mainGlobals "_law_great" = some (some (.ref f15))) (l15 : K.lookup f15 = some ⟨oc15, od15, .func (PySem.W.fnOf "_law_great" "_law_great" (defArgs s_law_great) (defBody s_law_great) (defScope s_law_great) .none kV15 dc15 pm15 an15 cd15 ct15), sl15⟩) (c15 : PySem.W.codeIn K cd15 "_law_great" = true) (k15 : PySem.W.keepIn K (.ref f15) = true)
    (a16 : PySem.W.nsIn K mainGlobals "_law_jumps" = some (some (.ref f16))) (l16 : K.lookup f16 = some ⟨oc16, od16, .func (PySem.W.fnOf "_law_jumps" "_law_jumps" (defArgs s_law_jumps) (defBody s_law_jumps) (defScope s_law_jumps) .none kV16 dc16 pm16 an16 cd16 ct16), sl16⟩) (c16 : PySem.W.codeIn K cd16 "_law_jumps" = true) (k16 : PySem.W.keepIn K (.ref f16) = true)
    (a17 : PySem.W.nsIn K mainGlobals "_law_walked" = some (some (.ref f17))) (l17 : K.lookup f17 = some ⟨oc17, od17, .func (PySem.W.fnOf "_law_walked" "_law_walked" (defArgs s_law_walked) (defBody s_law_walked) (defScope s_law_walked) .none kV17 dc17 pm17 an17 cd17 ct17), sl17⟩) (c17 : PySem.W.codeIn K cd17 "_law_walked" = true) (k17 : PySem.W.keepIn K (.ref f17) = true)
    (a18 : PySem.W.nsIn K mainGlobals "_law_beside" = some (some (.ref f18))) (l18 : K.lookup f18 = some ⟨oc18, od18, .func (PySem.W.fnOf "_law_beside" "_law_beside" (defArgs s_law_beside) (defBody s_law_beside) (defScope s_law_beside) .none kV18 dc18 pm18 an18 cd18 ct18), sl18⟩) (c18 : PySem.W.codeIn K cd18 "_law_beside" = true) (k18 : PySem.W.keepIn K (.ref f18) = true)
    (a19 : PySem.W.nsIn K mainGlobals "_law_long_ones" = some (some (.ref f19))) (l19 : K.lookup f19 = some ⟨oc19, od19, .func (PySem.W.fnOf "_law_long_ones" "_law_long_ones" (defArgs s_law_long_ones) (defBody s_law_long_ones) (defScope s_law_long_ones) .none kV19 dc19 pm19 an19 cd19 ct19), sl19⟩) (c19 : PySem.W.codeIn K cd19 "_law_long_ones" = true) (k19 : PySem.W.keepIn K (.ref f19) = true)
    (a20 : PySem.W.nsIn K mainGlobals "law" = some (some (.ref f20))) (l20 : K.lookup f20 = some ⟨oc20, od20, .func (PySem.W.fnOf "law" "law" (defArgs s_law) (defBody s_law) (defScope s_law) .none kV20 dc20 pm20 an20 cd20 ct20), sl20⟩) (c20 : PySem.W.codeIn K cd20 "law" = true) (k20 : PySem.W.keepIn K (.ref f20) = true)
    (z_range : PySem.W.nsIn K mainGlobals "range" = some none)
    (z_len : PySem.W.nsIn K mainGlobals "len" = some none)
    (z_int : PySem.W.nsIn K mainGlobals "int" = some none)
    (z_bool : PySem.W.nsIn K mainGlobals "bool" = some none)
    (z_isinstance : PySem.W.nsIn K mainGlobals "isinstance" = some none)
    (z_list : PySem.W.nsIn K mainGlobals "list" = some none)
    (z_tuple : PySem.W.nsIn K mainGlobals "tuple" = some none)
    (z_zip : PySem.W.nsIn K mainGlobals "zip" = some none)
    (z_enumerate : PySem.W.nsIn K mainGlobals "enumerate" = some none)
    (z_dict : PySem.W.nsIn K mainGlobals "dict" = some none)
    (z_abs : PySem.W.nsIn K mainGlobals "abs" = some none)
    (eg_WoodError : PySem.W.nsIn K mainGlobals "WoodError" = some (some (.ref C_WoodError)))
    (eg_NoOrder : PySem.W.nsIn K mainGlobals "NoOrder" = some (some (.ref C_NoOrder)))
    (ex_WoodError : PySem.W.excIn K C_WoodError veMro "ValueError.__new__" = true)
    (bg_WoodError : PySem.W.specialIn K (.ref C_WoodError) "__getattribute__" = some (some (.builtin "type.__getattribute__")))
    (br_WoodError : PySem.W.readsIn K C_WoodError (.type "type") = true)
    (bi_WoodError : PySem.W.findCls K (.ref C_WoodError) (.type "type") "__init__" = some (.val (.builtin "ValueError.__init__")))
    (sa_NoOrder : PySem.W.findIn K (.ref C_NoOrder) "__setattr__" = some (some (.builtin "object.__setattr__")))
    (pl_NoOrder : PySem.W.findIn K (.ref C_NoOrder) "place" = some none)
    (ga_NoOrder : PySem.W.findIn K (.ref C_NoOrder) "__getattribute__" = some (some (.builtin "BaseException.__getattribute__")))
    (gx_NoOrder : PySem.W.findIn K (.ref C_NoOrder) "__getattr__" = some none)
    (ca_NoOrder : PySem.W.findIn K (.ref C_NoOrder) "__class__" = some (some (.builtin "object.__class__")))
    (sp_NoOrder : PySem.W.specialIn K (.builtin "object.__class__") "__get__" = some (some (.builtin "getset_descriptor.__get__")))
    (tk_NoOrder : PySem.W.takesIn K (.builtin "object.__class__") = some true)
    (mo_NoOrder : PySem.W.mroIn K C_NoOrder (.type "object") = some true)
    (mb_NoOrder : PySem.W.mroIn K C_NoOrder (.type "BaseException") = some true)
    (em_NoOrder : PySem.W.exmOne K (.ref C_NoOrder) (.ref C_WoodError) = some true)
    (em2_NoOrder : PySem.W.exmOne K (.ref C_NoOrder) (.ref C_NoOrder) = some true)
    (ob_NoOrder : K.lookup C_NoOrder = some (excClassObj nm_NoOrder qn_NoOrder C_NoOrder N_NoOrder bs_NoOrder (.ref C_WoodError :: veMro) true sn_NoOrder sub_NoOrder ab_NoOrder col_NoOrder dd_NoOrder k0_NoOrder k1_NoOrder k2_NoOrder k3_NoOrder k5_NoOrder "ValueError.__new__"))
    : ∃ fd : FuncData, (∀ (s : Shared) (v : Value), BindsTo s fd ⟨[v], []⟩ [("_law_script", v)]) ∧ ∀ base : Heap, K.In base → base.Ns mainGlobals mg → FnOk l.prog w K mg base CX0 6 fa fd ["_law_script"] (spLaw K) := by
  have e := hfa.symm.trans (PySem.W.mg_of X G a20)
  cases e
  have O_NoOrder : OwnX K C_WoodError C_NoOrder f0 := ⟨ex_WoodError, ⟨_, _, _, _, _, _, _, _, _, _, _, _, _, _, ob_NoOrder⟩, a0, beq_iff_eq.mp i0, sa_NoOrder, pl_NoOrder⟩
  have T : Txt K mg C_WoodError C_NoOrder := ⟨PySem.W.mg_of X G eg_WoodError, PySem.W.mg_of X G eg_NoOrder, ex_WoodError, bg_WoodError, br_WoodError, bi_WoodError, sa_NoOrder, pl_NoOrder, ga_NoOrder, gx_NoOrder, ca_NoOrder, sp_NoOrder, tk_NoOrder, mo_NoOrder, mb_NoOrder, em_NoOrder, em2_NoOrder, PySem.W.mg_none_of X G z_range, PySem.W.mg_none_of X G z_len, PySem.W.mg_none_of X G z_int, PySem.W.mg_none_of X G z_bool, PySem.W.mg_none_of X G z_isinstance, PySem.W.mg_none_of X G z_list, PySem.W.mg_none_of X G z_tuple, PySem.W.mg_none_of X G z_zip, PySem.W.mg_none_of X G z_enumerate, PySem.W.mg_none_of X G z_dict, PySem.W.mg_none_of X G z_abs, ⟨_, O_NoOrder⟩⟩
  have Z_Shortcuts : Z_Shortcuts K C_Shortcuts := ⟨⟨pg_Shortcuts, hd_Shortcuts, po_Shortcuts, sa_Shortcuts⟩, n_Shortcuts_onward, n_Shortcuts_leaps⟩
  have F0 := fun_mk (st := s_NoOrder_init) l0 c0 k0
  have b0 := F0.binds (ps := ["self", "place"]) fun _ _ _ _ _ _ => us2 fun _ _ => rfl
  have F1 := fun_mk (st := s_is_whole) l1 c1 k1
  have b1 := F1.binds (ps := ["thing"]) fun _ _ _ _ _ _ => us1 fun _ => rfl
  have F2 := fun_mk (st := s_is_within) l2 c2 k2
  have b2 := F2.binds (ps := ["thing", "low", "high"]) fun _ _ _ _ _ _ => us3 fun _ _ _ => rfl
  have F3 := fun_mk (st := s_check_order) l3 c3 k3
  have b3 := F3.binds (ps := ["order"]) fun _ _ _ _ _ _ => us1 fun _ => rfl
  have F4 := fun_mk (st := s_rounds_of) l4 c4 k4
  have b4 := F4.binds (ps := ["order"]) fun _ _ _ _ _ _ => us1 fun _ => rfl
  have F5 := fun_mk (st := s_shortcuts_of) l5 c5 k5
  have b5 := F5.binds (ps := ["order", "step"]) fun _ _ _ _ _ _ => us2 fun _ _ => rfl
  have F6 := fun_mkD (st := s_Shortcuts_init) l6 c6 lT6 dT6
  have b6 := F6.binds (ps := ["self", "order", "step"]) fun _ _ _ _ _ _ _ us hl => match us, hl with | [_, _, _], _ => ⟨_, rfl, fun _ => rfl⟩
  have F7 := fun_mk (st := s_Shortcuts_way_back) l7 c7 k7
  have b7 := F7.binds (ps := ["self", "place"]) fun _ _ _ _ _ _ => us2 fun _ _ => rfl
  have F8 := fun_mk (st := s_Shortcuts_back) l8 c8 k8
  have b8 := F8.binds (ps := ["self", "place"]) fun _ _ _ _ _ _ => us2 fun _ _ => rfl
  have F9 := fun_mk (st := s_law_cell_at) l9 c9 k9
  have b9 := F9.binds (ps := ["_law_script", "_law_k"]) fun _ _ _ _ _ _ => us2 fun _ _ => rfl
  have F10 := fun_mk (st := s_law_whole) l10 c10 k10
  have b10 := F10.binds (ps := ["_law_found"]) fun _ _ _ _ _ _ => us1 fun _ => rfl
  have F11 := fun_mk (st := s_law_mixed) l11 c11 k11
  have b11 := F11.binds (ps := ["_law_cell", "_law_k"]) fun _ _ _ _ _ _ => us2 fun _ _ => rfl
  have F12 := fun_mk (st := s_law_digits) l12 c12 k12
  have b12 := F12.binds (ps := ["_law_script", "_law_at", "_law_many"]) fun _ _ _ _ _ _ => us3 fun _ _ _ => rfl
  have F13 := fun_mk (st := s_law_order) l13 c13 k13
  have b13 := F13.binds (ps := ["_law_digits_here"]) fun _ _ _ _ _ _ => us1 fun _ => rfl
  have F14 := fun_mk (st := s_law_turned) l14 c14 k14
  have b14 := F14.binds (ps := ["_law_order_here", "_law_number"]) fun _ _ _ _ _ _ => us2 fun _ _ => rfl
  have F15 := fun_mk (st := s_law_great) l15 c15 k15
  have b15 := F15.binds (ps := ["_law_number"]) fun _ _ _ _ _ _ => us1 fun _ => rfl
  have F16 := fun_mk (st := s_law_jumps) l16 c16 k16
  have b16 := F16.binds (ps := ["_law_order_here", "_law_step"]) fun _ _ _ _ _ _ => us2 fun _ _ => rfl
  have F17 := fun_mk (st := s_law_walked) l17 c17 k17
  have b17 := F17.binds (ps := ["_law_order_here", "_law_jumps_here", "_law_place", "_law_way", "_law_is_long"]) fun _ _ _ _ _ _ => us5 fun _ _ _ _ _ => rfl
  have F18 := fun_mk (st := s_law_beside) l18 c18 k18
  have b18 := F18.binds (ps := ["_law_order_here", "_law_times"]) fun _ _ _ _ _ _ => us2 fun _ _ => rfl
  have F19 := fun_mk (st := s_law_long_ones) l19 c19 k19
  have b19 := F19.binds (ps := ["_law_order_here", "_law_step"]) fun _ _ _ _ _ _ => us2 fun _ _ => rfl
  have F20 := fun_mk (st := s_law) l20 c20 k20
  refine ⟨PySem.W.fnOf "law" "law" (defArgs s_law) (defBody s_law) (defScope s_law) .none kV20 dc20 pm20 an20 cd20 ct20, fun s v => .of_eq rfl, fun base _ _ => ?_⟩
  have V0 : ExcI l.prog w K mg base "NoOrder" C_WoodError C_NoOrder 1 ["self", "place"] := ⟨⟨f0, _, ok_NoOrder_init F0 T, b0, O_NoOrder⟩, T.g_NoOrder, T.k_NoOrder⟩
  have V1 : Cal l.prog w K mg base "is_whole" 1 ["thing"] (spWhole0 K) := ⟨⟨f1, _, ok_is_whole F1 T, b1, PySem.W.mg_of X G a1, k1⟩⟩
  have V2 : Cal l.prog w K mg base "is_within" 2 ["thing", "low", "high"] (spWithin K) := ⟨⟨f2, _, ok_is_within F2 T V1, b2, PySem.W.mg_of X G a2, k2⟩⟩
  have V3 : CalE l.prog w K mg base "check_order" 3 ["order"] (spCheck K C_NoOrder) := ⟨⟨f3, _, ok_check_order F3 T V0 V2, b3, PySem.W.mg_of X G a3, k3⟩⟩
  have V4 : Cal l.prog w K mg base "rounds_of" 1 ["order"] spRoundsX := ⟨⟨f4, _, ok_rounds_of F4 T, b4, PySem.W.mg_of X G a4, k4⟩⟩
  have V5 : Cal l.prog w K mg base "shortcuts_of" 2 ["order", "step"] spShortX := ⟨⟨f5, _, ok_shortcuts_of F5 T V4, b5, PySem.W.mg_of X G a5, k5⟩⟩
  have V6 : MkrE l.prog w K mg base "Shortcuts" C_Shortcuts 4 ["self", "order", "step"] (spShInitX K C_NoOrder C_Shortcuts) := ⟨⟨f6, _, ok_Shortcuts_init F6 T Z_Shortcuts V3 V5, b6, ⟨mk_Shortcuts, a6, i6, kc_Shortcuts⟩, PySem.W.mg_of X G a_Shortcuts⟩⟩
  have b6D := FunD.bindsD (x := "__init__") (qual := "Shortcuts.__init__") (st := s_Shortcuts_init) (ps := ["self", "order", "step"]) (kV := kV6) (doc := dc6) (pm := pm6) (cdv := cd6) (ct := ct6) (an := an6) lT6 dT6 rfl (us2 fun _ _ => ⟨_, rfl, rfl⟩)
  have V6D : MkrED l.prog w K mg base "Shortcuts" C_Shortcuts 4 ["self", "order", "step"] (spShInitX K C_NoOrder C_Shortcuts) [.int 16] := ⟨⟨f6, _, _, ok_Shortcuts_init F6 T Z_Shortcuts V3 V5, b6D, .cons eT6 .nil, ⟨mk_Shortcuts, a6, i6, kc_Shortcuts⟩, PySem.W.mg_of X G a_Shortcuts⟩⟩
  have V7 : Mth l.prog w K mg base C_Shortcuts "way_back" 1 ["self", "place"] (spWayBack C_Shortcuts) := ⟨⟨f7, _, ok_Shortcuts_way_back F7 T Z_Shortcuts, b7, ⟨a7, i7, k7⟩⟩, Z_Shortcuts.cl⟩
  have V8 : Mth l.prog w K mg base C_Shortcuts "back" 2 ["self", "place"] (spBack C_Shortcuts) := ⟨⟨f8, _, ok_Shortcuts_back F8 T Z_Shortcuts V7, b8, ⟨a8, i8, k8⟩⟩, Z_Shortcuts.cl⟩
  have V9 : Cal l.prog w K mg base "_law_cell_at" 1 ["_law_script", "_law_k"] (spCell K) := ⟨⟨f9, _, ok_law_cell_at F9 T, b9, PySem.W.mg_of X G a9, k9⟩⟩
  have V10 : Cal l.prog w K mg base "_law_whole" 1 ["_law_found"] (spWhole0 K) := ⟨⟨f10, _, ok_law_whole F10 T, b10, PySem.W.mg_of X G a10, k10⟩⟩
  have V11 : Cal l.prog w K mg base "_law_mixed" 1 ["_law_cell", "_law_k"] spMixed := ⟨⟨f11, _, ok_law_mixed F11 T, b11, PySem.W.mg_of X G a11, k11⟩⟩
  have V12 : Cal l.prog w K mg base "_law_digits" 2 ["_law_script", "_law_at", "_law_many"] (spDigits K) := ⟨⟨f12, _, ok_law_digits F12 T V9 V11, b12, PySem.W.mg_of X G a12, k12⟩⟩
  have V13 : Cal l.prog w K mg base "_law_order" 1 ["_law_digits_here"] spOrderX := ⟨⟨f13, _, ok_law_order F13 T, b13, PySem.W.mg_of X G a13, k13⟩⟩
  have V14 : Cal l.prog w K mg base "_law_turned" 1 ["_law_order_here", "_law_number"] spTurned := ⟨⟨f14, _, ok_law_turned F14 T, b14, PySem.W.mg_of X G a14, k14⟩⟩
  have V15 : Cal l.prog w K mg base "_law_great" 1 ["_law_number"] spGreat := ⟨⟨f15, _, ok_law_great F15 T, b15, PySem.W.mg_of X G a15, k15⟩⟩
  have V16 : Cal l.prog w K mg base "_law_jumps" 1 ["_law_order_here", "_law_step"] spJumps := ⟨⟨f16, _, ok_law_jumps F16 T, b16, PySem.W.mg_of X G a16, k16⟩⟩
  have V17 : Cal l.prog w K mg base "_law_walked" 2 ["_law_order_here", "_law_jumps_here", "_law_place", "_law_way", "_law_is_long"] spWalked := ⟨⟨f17, _, ok_law_walked F17 T V10, b17, PySem.W.mg_of X G a17, k17⟩⟩
  have V18 : Cal l.prog w K mg base "_law_beside" 1 ["_law_order_here", "_law_times"] spBeside := ⟨⟨f18, _, ok_law_beside F18 T, b18, PySem.W.mg_of X G a18, k18⟩⟩
  have V19 : Cal l.prog w K mg base "_law_long_ones" 1 ["_law_order_here", "_law_step"] spLong := ⟨⟨f19, _, ok_law_long_ones F19 T, b19, PySem.W.mg_of X G a19, k19⟩⟩
  exact ok_law F20 T Z_Shortcuts V6 V6D V7 V8 V9 V10 V11 V12 V13 V14 V15 V16 V17 V18 V19
theorem walk {l : PySem.W.OpenLaw} {q : Program} {loose : List Str} {XP : (Str → Option Value) → Heap → Prop} {YP : World → Heap → Prop} {d : DefRec} {K : Params → PySem.W.Frag} (hn : l.most = some 63) (hdf : d.params.defaults = [])
    (hY : ∀ (w : World) (h : Heap), YP w h → (K w.params).In h)
    (F : ∀ (w : World) (mg : Str → Option Value) (fa : Addr) (h : Heap), (K w.params).In h → h.Ns mainGlobals mg → mg d.name = some (.ref fa) →
      ∃ fd : FuncData, (∀ (s : Shared) (u : Value), BindsTo s fd ⟨[u], []⟩ [("_law_script", u)]) ∧ ∀ base : Heap, (K w.params).In base → base.Ns mainGlobals mg → FnOk l.prog w (K w.params) mg base CX0 6 fa fd ["_law_script"] (spLaw (K w.params))) :
    PySem.W.WalkO q loose XP YP l.row.toRowW d [] (fun f vs => PySem.call f vs) :=
  L2.walk_of (n := 63) (k := 6) (x := "_law_script") (CX := fun _ => CX0) (sp := fun w => spLaw (K w.params)) hn (by decide) hdf ⟨rfl, by decide, by decide⟩ hY F (fun _ _ a ns hl _ hS => ⟨a, ns, rfl, hS, hl, fun _ => rfl⟩) fun _ _ _ _ _ z => z
end TK
open PySem PySem.W PyProof.Rows
set_option maxRecDepth 100000 in
set_option maxHeartbeats 0 in
theorem PySem.Challenge.cw_tightwood_k63_whole_ways_back_holds : PySem.Challenge.rw_tightwood_k63_whole_ways_back.Holds := by
  w_on; o_law; k_head; (case hw => w_witness2)
  k_fill
  refine TK.walk (l := PySem.Challenge.rw_tightwood_k63_whole_ways_back) rfl rfl (fun w h Y => PySem.W.kIn_of Y) ?F
  case F =>
    intro w mg fa h KX G hmg
    refine' TK.all_mk KX G hmg ?a_Shortcuts ?pg_Shortcuts ?hd_Shortcuts ?po_Shortcuts ?sa_Shortcuts ?mk_Shortcuts ?kc_Shortcuts ?n_Shortcuts_onward ?n_Shortcuts_leaps ?i0 ?a0 ?l0 ?c0 ?k0 ?a1 ?l1 ?c1 ?k1 ?a2 ?l2 ?c2 ?k2 ?a3 ?l3 ?c3 ?k3 ?a4 ?l4 ?c4 ?k4 ?a5 ?l5 ?c5 ?k5 ?i6 ?a6 ?l6 ?c6 ?k6 ?lT6 ?dT6 ?eT6 ?i7 ?a7 ?l7 ?c7 ?k7 ?i8 ?a8 ?l8 ?c8 ?k8 ?a9 ?l9 ?c9 ?k9 ?a10 ?l10 ?c10 ?k10 ?a11 ?l11 ?c11 ?k11 ?a12 ?l12 ?c12 ?k12 ?a13 ?l13 ?c13 ?k13 ?a14 ?l14 ?c14 ?k14 ?a15 ?l15 ?c15 ?k15 ?a16 ?l16 ?c16 ?k16 ?a17 ?l17 ?c17 ?k17 ?a18 ?l18 ?c18 ?k18 ?a19 ?l19 ?c19 ?k19 ?a20 ?l20 ?c20 ?k20 ?z_range ?z_len ?z_int ?z_bool ?z_isinstance ?z_list ?z_tuple ?z_zip ?z_enumerate ?z_dict ?z_abs ?eg_WoodError ?eg_NoOrder ?ex_WoodError ?bg_WoodError ?br_WoodError ?bi_WoodError ?sa_NoOrder ?pl_NoOrder ?ga_NoOrder ?gx_NoOrder ?ca_NoOrder ?sp_NoOrder ?tk_NoOrder ?mo_NoOrder ?mb_NoOrder ?em_NoOrder ?em2_NoOrder ?ob_NoOrder
    (case eg_WoodError => k_is)
    (case eg_NoOrder => k_is)
    (case a_Shortcuts => k_is)
    (case pg_Shortcuts => k_is)
    (case hd_Shortcuts => k_is)
    (case po_Shortcuts => k_is)
    (case sa_Shortcuts => k_is)
    (case mk_Shortcuts => k_is)
    (case kc_Shortcuts => k_is)
    (case n_Shortcuts_onward => k_is)
    (case n_Shortcuts_leaps => k_is)
    (case a0 => k_is)
    (case l0 => k_is)
    (case c0 => k_is)
    (case k0 => k_is)
    (case i0 => k_is)
    (case a1 => k_is)
    (case l1 => k_is)
    (case c1 => k_is)
    (case k1 => k_is)
    (case a2 => k_is)
    (case l2 => k_is)
    (case c2 => k_is)
    (case k2 => k_is)
    (case a3 => k_is)
    (case l3 => k_is)
    (case c3 => k_is)
    (case k3 => k_is)
    (case a4 => k_is)
    (case l4 => k_is)
    (case c4 => k_is)
    (case k4 => k_is)
    (case a5 => k_is)
    (case l5 => k_is)
    (case c5 => k_is)
    (case k5 => k_is)
    (case a6 => k_is)
    (case l6 => k_is)
    (case c6 => k_is)
    (case k6 => k_is)
    (case i6 => k_is)
    (case lT6 => k_is)
    (case dT6 => rfl)
    (case eT6 => exact ⟨_, rfl⟩)
    (case a7 => k_is)
    (case l7 => k_is)
    (case c7 => k_is)
    (case k7 => k_is)
    (case i7 => k_is)
    (case a8 => k_is)
    (case l8 => k_is)
    (case c8 => k_is)
    (case k8 => k_is)
    (case i8 => k_is)
    (case a9 => k_is)
    (case l9 => k_is)
    (case c9 => k_is)
    (case k9 => k_is)
    (case a10 => k_is)
    (case l10 => k_is)
    (case c10 => k_is)
    (case k10 => k_is)
    (case a11 => k_is)
    (case l11 => k_is)
    (case c11 => k_is)
    (case k11 => k_is)
    (case a12 => k_is)
    (case l12 => k_is)
    (case c12 => k_is)
    (case k12 => k_is)
    (case a13 => k_is)
    (case l13 => k_is)
    (case c13 => k_is)
    (case k13 => k_is)
    (case a14 => k_is)
    (case l14 => k_is)
    (case c14 => k_is)
    (case k14 => k_is)
    (case a15 => k_is)
    (case l15 => k_is)
    (case c15 => k_is)
    (case k15 => k_is)
    (case a16 => k_is)
    (case l16 => k_is)
    (case c16 => k_is)
    (case k16 => k_is)
    (case a17 => k_is)
    (case l17 => k_is)
    (case c17 => k_is)
    (case k17 => k_is)
    (case a18 => k_is)
    (case l18 => k_is)
    (case c18 => k_is)
    (case k18 => k_is)
    (case a19 => k_is)
    (case l19 => k_is)
    (case c19 => k_is)
    (case k19 => k_is)
    (case a20 => k_is)
    (case l20 => k_is)
    (case c20 => k_is)
    (case k20 => k_is)
    (case z_range => k_is)
    (case z_len => k_is)
    (case z_int => k_is)
    (case z_bool => k_is)
    (case z_isinstance => k_is)
    (case z_list => k_is)
    (case z_tuple => k_is)
    (case z_zip => k_is)
    (case z_enumerate => k_is)
    (case z_dict => k_is)
    (case z_abs => k_is)
    (case ex_WoodError => k_exc)
    (case bg_WoodError => k_is)
    (case br_WoodError => k_is)
    (case bi_WoodError => k_is)
    (case sa_NoOrder => k_is)
    (case pl_NoOrder => k_is)
    (case ga_NoOrder => k_is)
    (case gx_NoOrder => k_is)
    (case ca_NoOrder => k_is)
    (case sp_NoOrder => k_is)
    (case tk_NoOrder => k_is)
    (case mo_NoOrder => k_is)
    (case mb_NoOrder => k_is)
    (case em_NoOrder => kts_exm)
    (case em2_NoOrder => kts_exm)
    (case ob_NoOrder => k_is)
#print axioms PySem.Challenge.cw_tightwood_k63_whole_ways_back_holds
