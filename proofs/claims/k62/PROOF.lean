import PyProof.Rows.All
import Wide.All
import OpenK.AllK
import Wide.FinOn
import Lean
import PyProof.EqAt
import PyProof.EqKinds
import PyProof.TupleCall
import KE.KDictOf
import KE.KItemsList
import KE.KSortTup
import KE.KTryMore
import OpenK.KCls
import PyProof.AttrMissHeap
import PyProof.Draws
import PyProof.EnumMake
import PyProof.EnumStmt
import PyProof.InstStoreFacts
import PyProof.ListRange
import PyProof.ObjNew
import PyProof.Rows.SeqMore
import PyProof.Rows.SortShell
import PyProof.Rows.SortStr
import PyProof.Rows.StrItems
import PyProof.Rows.StrSplitAre
import PyProof.SliceList
import PyProof.StrCalls2
import PyProof.WalksEnum
import PyProof.ZipIter
import PySem.Builtin.Int.Common
import PySem.Challenge.RW_tightwood_k62_shortcuts_laid
set_option Elab.async false
set_option linter.all false
set_option maxRecDepth 100000
/-! THE HAND LAYER, for ints, bools, texts, own classes, LISTS and tuples (index, slices, in, append, pop ..), calls, loops. Paste it whole ahead of your own text; what your proof does not reach may be deleted. -/
namespace L2
open PySem PySem.Spec PyProof.Rows

/-- a key: an int or a str -/
abbrev Key := Sum Int Str
def keyIs : Key → Value → Bool
  | .inl k, v => Value.isInt k v
  | .inr x, v => Value.isStrOf x v
def keyH (w : World) : Key → Int
  | .inl k => hashInt k
  | .inr x => hashStr w x
theorem keyIs_shape : ∀ {k : Key} {v : Value}, keyIs k v = true → (∃ i t, k = Sum.inl i ∧ v = Value.int i t) ∨ (∃ x t, k = Sum.inr x ∧ v = Value.str x t)
  | .inl i, v, h => by
    obtain ⟨t, e⟩ := Value.isInt_shape (k := i) (v := v) h
    exact .inl ⟨i, t, rfl, e⟩
  | .inr x, v, h => by
    obtain ⟨t, e⟩ := Value.isStrOf_shape (x := x) (v := v) h
    exact .inr ⟨x, t, rfl, e⟩
theorem keyIs_int (i : Int) (t : Tok) : keyIs (.inl i) (.int i t) = true := by simp [keyIs, Value.isInt]
theorem keyIs_str (x : Str) (t : Tok) : keyIs (.inr x) (.str x t) = true := by simp [keyIs, Value.isStrOf]
theorem key_ll (a b : Int) : decide ((Sum.inl a : Key) = Sum.inl b) = (a == b) := by
  by_cases e : a = b
  · subst e; simp
  · have h : ¬ (Sum.inl a : Key) = Sum.inl b := fun q => e (Sum.inl.inj q)
    rw [decide_eq_false h]
    exact (beq_eq_false_iff_ne.mpr e).symm
theorem key_rr (a b : Str) : decide ((Sum.inr a : Key) = Sum.inr b) = decide (a = b) := by
  by_cases e : a = b
  · subst e; simp
  · have h : ¬ (Sum.inr a : Key) = Sum.inr b := fun q => e (Sum.inr.inj q)
    rw [decide_eq_false h, decide_eq_false e]
theorem key_lr (a : Int) (b : Str) : decide ((Sum.inl a : Key) = Sum.inr b) = false := decide_eq_false (fun q => nomatch q)
theorem key_rl (a : Str) (b : Int) : decide ((Sum.inr a : Key) = Sum.inl b) = false := decide_eq_false (fun q => nomatch q)

def mixKind (prog : Program) (w : World) : PySem.KeyKind prog w Key where
  is := keyIs
  hash := keyH w
  inj := fun v a b ha hb => by
    rcases keyIs_shape ha with ⟨i, t, rfl, rfl⟩ | ⟨x, t, rfl, rfl⟩
    · rcases keyIs_shape hb with ⟨j, u, rfl, e⟩ | ⟨y, u, rfl, e⟩
      · injection e with e1 _; rw [e1]
      · exact nomatch e
    · rcases keyIs_shape hb with ⟨j, u, rfl, e⟩ | ⟨y, u, rfl, e⟩
      · exact nomatch e
      · injection e with e1 _; rw [e1]
  byValue := fun k v h => by
    rcases keyIs_shape h with ⟨i, t, rfl, rfl⟩ | ⟨x, t, rfl, rfl⟩ <;> rfl
  pyHash := fun hv h => by
    rcases keyIs_shape hv with ⟨i, t, rfl, rfl⟩ | ⟨x, t, rfl, rfl⟩
    · exact wpAny_pyHash_int h
    · exact wpAny_pyHash_str h
  eqBool := fun hu hv h => by
    rcases keyIs_shape hu with ⟨i, t, rfl, rfl⟩ | ⟨x, t, rfl, rfl⟩
    · rcases keyIs_shape hv with ⟨j, u, rfl, rfl⟩ | ⟨y, u, rfl, rfl⟩
      · rw [key_ll] at h; exact wpAny_eqBool_int h
      · rw [key_lr] at h; exact SeqAt.EqAt.int_str i t y u _ _ _ _ h
    · rcases keyIs_shape hv with ⟨j, u, rfl, rfl⟩ | ⟨y, u, rfl, rfl⟩
      · rw [key_rl] at h; exact SeqAt.EqAt.str_int x t j u _ _ _ _ h
      · rw [key_rr] at h; exact wpAny_eqBool_str h
  «strs» := fun k x t v h => by
    rcases keyIs_shape h with ⟨i, u, rfl, e⟩ | ⟨y, u, rfl, e⟩
    · exact nomatch e
    · injection e with e1 _
      subst e1
      cases v <;> rfl

theorem mixKind_int (prog : Program) (w : World) (i : Int) (t : Tok) : (mixKind prog w).is (.inl i) (.int i t) = true := keyIs_int i t
theorem mixKind_str (prog : Program) (w : World) (x : Str) (t : Tok) : (mixKind prog w).is (.inr x) (.str x t) = true := keyIs_str x t
end L2

namespace L2
open PySem PySem.Spec PyProof.Rows

/-- a value, without the heap -/
inductive V where
  | non | bl (b : Bool) | int (i : Int) | str (x : Str) | byt (b : Array UInt8) | flt (b : UInt64) | ref (a : Addr) | ty (n : String)
  deriving DecidableEq

def RelV : V → Value → Prop
  | .non, u => u = Value.none
  | .bl b, u => u = Value.bool b
  | .int i, u => ∃ t, u = Value.int i t
  | .str x, u => ∃ t, u = Value.str x t
  | .byt b, u => ∃ t, u = Value.bytes b t
  | .flt b, u => ∃ t, u = Value.float b t
  | .ref a, u => u = Value.ref a
  | .ty n, u => u = Value.type n

abbrev Vals : List V → List Value → Prop := Paired RelV
theorem Vals.length {xs : List V} {us : List Value} (r : Vals xs us) : xs.length = us.length := Paired.length r
theorem Vals.get : ∀ {xs : List V} {us : List Value} {i : Nat} {x : V}, Vals xs us → xs[i]? = some x → ∃ u, us[i]? = some u ∧ RelV x u
  | _, _, _, _, .nil, e => by simp at e
  | _, _, 0, _, .cons r _, e => by simp at e; subst e; exact ⟨_, rfl, r⟩
  | _, _, i + 1, x, .cons _ t, e => by
    obtain ⟨u, h1, h2⟩ := Vals.get (i := i) (x := x) t (by simpa using e)
    exact ⟨u, by simpa using h1, h2⟩
theorem Vals.set {x : V} {u : Value} (r : RelV x u) : ∀ {xs : List V} {us : List Value} (i : Nat), Vals xs us → Vals (xs.set i x) (us.set i u)
  | _, _, _, .nil => .nil
  | _, _, 0, .cons _ t => .cons r t
  | _, _, i + 1, .cons q t => .cons q (Vals.set r i t)
theorem Vals.append : ∀ {xs ys : List V} {us ws : List Value}, Vals xs us → Vals ys ws → Vals (xs ++ ys) (us ++ ws)
  | _, _, _, _, .nil, s => s
  | _, _, _, _, .cons r t, s => .cons r (Vals.append t s)
theorem Vals.take : ∀ {xs : List V} {us : List Value} (n : Nat), Vals xs us → Vals (xs.take n) (us.take n)
  | _, _, 0, _ => .nil
  | _, _, _ + 1, .nil => .nil
  | _, _, n + 1, .cons r t => .cons r (Vals.take n t)
theorem Vals.drop : ∀ {xs : List V} {us : List Value} (n : Nat), Vals xs us → Vals (xs.drop n) (us.drop n)
  | _, _, 0, r => r
  | _, _, _ + 1, .nil => .nil
  | _, _, n + 1, .cons _ t => Vals.drop n t
def RelO : Option V → Option Value → Prop
  | some v, some u => RelV v u
  | none, none => True
  | _, _ => False
def KV {κ : Type} : List (κ × V) → List (κ × Value) → Prop := Paired fun (p : κ × V) (q : κ × Value) => p.1 = q.1 ∧ RelV p.2 q.2

/-- a key of a dict (00_mix): an int or a text -/
def kV : Key → V
  | .inl i => .int i
  | .inr x => .str x

/-- what stands at a tracked address -/
inductive HO where
  /-- a list -/
  | lst (xs : List V)
  /-- a tuple (never changes) -/
  | tup (xs : List V)
  /-- a dict whose keys are ints and texts; one whose keys are tuples of ints and texts (the empty one is both) -/
  | dK (kvs : List (Key × V)) | dT (kvs : List (List Key × V))
  /-- a set of ints: its members, its size -/
  | set (S : Int → Bool) (n : Nat)
  /-- an instance of the class at C, its dict at dx, its attributes -/
  | ins (C dx : Addr) (fs : List (Str × V))
  /-- the dict of the instance at x -/
  | own (x : Addr)
  /-- the dict of an exception -/
  | xd (fs : List (Str × V))
  /-- a bound method, f of x -/
  | met (f x : Addr)
  /-- a range object lo, lo + 1, .. below hi -/
  | rng (lo hi : Int)
  /-- a thing that is known to the object (the script; a dict while a loop walks it): read, never written while it is so -/
  | frz (o : Obj) (u : HO)
  /-- a code object's table -/
  | tbl (ps : Array Value)
  /-- any other thing, by what is true of its one object (a def of one's own: SetO a S n := HO.ext fun h => ..) -/
  | ext (φ : Heap → Prop)

abbrev Hp := Addr → Option HO
def upd (H : Hp) (a : Addr) (o : HO) : Hp := fun b => if b = a then some o else H b
theorem upd_same {H : Hp} {a : Addr} {o : HO} : upd H a o a = some o := by unfold upd; rw [if_pos rfl]
theorem upd_ne {H : Hp} {a b : Addr} {o : HO} (h : b ≠ a) : upd H a o b = H b := by unfold upd; rw [if_neg h]
/-- two objects of different content stand apart -/
theorem ne_of {H : Hp} {a b : Addr} {o u : HO} (h : H a = some o) (h' : H b = some u) (d : o ≠ u) : a ≠ b := by
  intro e; subst e; rw [h] at h'; exact d (Option.some.inj h')
theorem ne_of_none {H : Hp} {a b : Addr} {o : HO} (h : H a = some o) (h' : H b = none) : a ≠ b := by
  intro e; subst e; rw [h] at h'; cases h'

section
variable (P : Program) (w : World)
def ObjOk (H : Hp) (h : Heap) (a : Addr) : HO → Prop
  | .lst xs => xs.length ≤ sizeLine ∧ ∃ (its : List Value) (n : Nat), Vals xs its ∧ h.get? a = some { cls := .type "list", data := .seq its.toArray n }
  | .tup xs => xs.length ≤ sizeLine ∧ ∃ its : List Value, Vals xs its ∧ IsTup h a its.toArray
  | .dK kvs => kvs.length ≤ sizeLine ∧ (a == sysModules) = false ∧ ∃ vs, KV kvs vs ∧ h.DictOf (mixKind P w) a vs
  | .dT kvs => kvs.length ≤ sizeLine ∧ (a == sysModules) = false ∧ ∃ xs : List (List Key × Addr × Value),
      Paired (fun (p : List Key × V) (q : List Key × Addr × Value) => p.1 = q.1 ∧ H q.2.1 = some (.tup (p.1.map kV)) ∧ RelV p.2 q.2.2) kvs xs ∧
      ∃ o es ep, h.get? a = some o ∧ o.ExactDict ∧ o.data = .dict es ep ∧ es.toList = xs.map (entryOfKey (tupleKind (mixKind P w))) ∧ (xs.map (·.1)).Nodup
  | .set S n => h.SetOf (intKind P w) a S n
  | .ins C dx fs => H dx = some (.own a) ∧ fs.length ≤ 1000 ∧ dx ≠ a ∧ h.get? a = some (PySem.W.instObj C dx) ∧
      ∃ mA, h.Ns1 dx mA ∧ (∀ f, RelO (fs.lookup f) (mA f)) ∧ PySem.Within mA (fs.map (·.1))
  | .own _ => ∃ o, h.get? a = some o
  | .xd fs => ∃ mA, h.Ns1 a mA ∧ ∀ f, RelO (fs.lookup f) (mA f)
  | .rng lo hi => ∃ t u v, h.get? a = some { cls := .type "range", data := .fields #[.int lo t, .int hi u, .int 1 v] }
  | .frz o u => h.get? a = some o ∧ ObjOk H h a u
  | .tbl ps => h.get? a = some { cls := .none, data := .fields ps }
  | .met f x => h.get? a = some (PySem.W.methodObj (.ref f) (.ref x))
  | .ext φ => φ h ∧ (∃ o, h.get? a = some o) ∧ ∀ h1 h2 : Heap, φ h1 → (∀ o, h1.get? a = some o → h2.get? a = some o) → φ h2
/-- the abstract heap is held -/
def HOk (H : Hp) (h : Heap) : Prop := ∀ a o, H a = some o → ObjOk P w H h a o
end

section
variable {P : Program} {w : World} {H H' : Hp} {h h' : Heap} {a : Addr} {o : HO}
theorem ObjOk.lt (x : ObjOk P w H h a o) : a < h.objs.size := by
  cases o with
  | lst xs => obtain ⟨_, _, _, _, e⟩ := x; exact Heap.lt_size e
  | tup xs => obtain ⟨_, _, _, p⟩ := x; exact p.lt
  | dK kvs => obtain ⟨_, _, _, _, o, _, _, e, _⟩ := x; exact Heap.lt_size e
  | dT kvs => obtain ⟨_, _, _, _, o, _, _, e, _⟩ := x; exact Heap.lt_size e
  | set S n => obtain ⟨o, _, _, _, e, _⟩ := x; exact Heap.lt_size e
  | ins C dx fs => obtain ⟨_, _, _, e, _⟩ := x; exact Heap.lt_size e
  | own y => obtain ⟨_, e⟩ := x; exact Heap.lt_size e
  | xd fs => obtain ⟨_, ⟨_, _, _, e, _⟩, _⟩ := x; exact Heap.lt_size e
  | rng lo hi => obtain ⟨_, _, _, e⟩ := x; exact Heap.lt_size e
  | frz ob u => obtain ⟨e, _⟩ := x; exact Heap.lt_size e
  | tbl ps => exact Heap.lt_size (show h.get? a = some _ from x)
  | met f y => exact Heap.lt_size (show h.get? a = some _ from x)
  | ext φ => obtain ⟨_, ⟨_, e⟩, _⟩ := x; exact Heap.lt_size e
theorem Paired.mapP {α β : Type} {F G : α → β → Prop} : ∀ {l₁ : List α} {l₂ : List β}, Paired F l₁ l₂ → (∀ a b, F a b → G a b) → Paired G l₁ l₂
  | _, _, .nil, _ => .nil
  | _, _, .cons r t, f => .cons (f _ _ r) (Paired.mapP t f)
/-- what an object's description leans on: its own object, its own dict, the tuples -/
theorem ObjOk.stay (x : ObjOk P w H h a o) (k : ∀ b u, (b = a ∨ H b = some (.own a)) → h.get? b = some u → h'.get? b = some u)
    (ho : ∀ b, H b = some (.own a) → H' b = some (.own a)) (ht : ∀ b xs, H b = some (.tup xs) → H' b = some (.tup xs)) : ObjOk P w H' h' a o := by
  induction o with
  | lst xs => obtain ⟨z, its, n, r, e⟩ := x; exact ⟨z, its, n, r, k _ _ (.inl rfl) e⟩
  | tup xs => obtain ⟨z, its, r, ob, e, c⟩ := x; exact ⟨z, its, r, ob, k _ _ (.inl rfl) e, c⟩
  | dK kvs => obtain ⟨z, y, vs, r, ob, es, ep, e, c⟩ := x; exact ⟨z, y, vs, r, ob, es, ep, k _ _ (.inl rfl) e, c⟩
  | dT kvs =>
    obtain ⟨z, y, xs, r, ob, es, ep, e, c⟩ := x
    exact ⟨z, y, xs, Paired.mapP r fun p q z => ⟨z.1, ht _ _ z.2.1, z.2.2⟩, ob, es, ep, k _ _ (.inl rfl) e, c⟩
  | set S n => obtain ⟨ob, es, ep, t, e, c⟩ := x; exact ⟨ob, es, ep, t, k _ _ (.inl rfl) e, c⟩
  | ins C dx fs =>
    obtain ⟨d, z, ne, e, mA, ⟨od, es, ep, e2, c⟩, r⟩ := x
    exact ⟨ho _ d, z, ne, k _ _ (.inl rfl) e, mA, ⟨od, es, ep, k _ _ (.inr d) e2, c⟩, r⟩
  | own y => obtain ⟨ob, e⟩ := x; exact ⟨ob, k _ _ (.inl rfl) e⟩
  | xd fs => obtain ⟨mA, ⟨od, es, ep, e, c⟩, r⟩ := x; exact ⟨mA, ⟨od, es, ep, k _ _ (.inl rfl) e, c⟩, r⟩
  | rng lo hi => obtain ⟨t, u, v, e⟩ := x; exact ⟨t, u, v, k _ _ (.inl rfl) e⟩
  | frz ob u ih => obtain ⟨e, q⟩ := x; exact ⟨k _ _ (.inl rfl) e, ih q⟩
  | tbl ps =>
    have e : h.get? a = some { cls := .none, data := .fields ps } := x
    show h'.get? a = some { cls := .none, data := .fields ps }
    exact k a _ (.inl rfl) e
  | met f y =>
    have e : h.get? a = some (PySem.W.methodObj (.ref f) (.ref y)) := x
    show h'.get? a = some (PySem.W.methodObj (.ref f) (.ref y))
    exact k a _ (.inl rfl) e
  | ext φ => obtain ⟨p, ⟨o, e⟩, st⟩ := x; exact ⟨st _ _ p fun o q => k _ _ (.inl rfl) q, ⟨o, k _ _ (.inl rfl) e⟩, st⟩
theorem HOk.lt (x : HOk P w H h) (e : H a = some o) : a < h.objs.size := (x a o e).lt
theorem HOk.fresh (x : HOk P w H h) (e : h.objs.size ≤ a) : H a = none := by
  cases q : H a with
  | none => rfl
  | some u => exact absurd (Nat.lt_of_lt_of_le (x.lt q) e) (Nat.lt_irrefl _)
/-- every object of the heap is kept -/
theorem HOk.kept (x : HOk P w H h) (k : ∀ b u, h.get? b = some u → h'.get? b = some u) : HOk P w H h' := fun a o e =>
  (x a o e).stay (fun b u _ q => k b u q) (fun _ q => q) fun _ _ q => q
/-- a new object is laid and tracked -/
theorem HOk.laid (x : HOk P w H h) (k : ∀ b u, h.get? b = some u → h'.get? b = some u) (hp : h.objs.size ≤ a) (new : ObjOk P w (upd H a o) h' a o) : HOk P w (upd H a o) h' := fun b u e => by
  have hn := x.fresh hp
  by_cases hb : b = a
  · subst hb; rw [upd_same] at e; cases e; exact new
  · rw [upd_ne hb] at e
    exact (x b u e).stay (fun c v _ q => k c v q) (fun c q => by rw [upd_ne (ne_of_none q hn)]; exact q) fun c xs q => by rw [upd_ne (ne_of_none q hn)]; exact q
end

/-- what may be read as u: it is u, or a known u -/
def Rd (H : Hp) (a : Addr) (u : HO) : Prop := H a = some u ∨ ∃ o, H a = some (.frz o u)
theorem Rd.of {H : Hp} {a : Addr} {u : HO} (h : H a = some u) : Rd H a u := .inl h
theorem Rd.ok {P : Program} {w : World} {H : Hp} {h : Heap} {a : Addr} {u : HO} (r : Rd H a u) (x : HOk P w H h) : ObjOk P w H h a u := by
  rcases r with r | ⟨o, r⟩
  · exact x a u r
  · obtain ⟨_, q⟩ := x a _ r
    exact q
/-- what may be written -/
def Mut : Option HO → Prop
  | some (.lst _) => True
  | some (.dK _) => True
  | some (.dT _) => True
  | some (.set _ _) => True
  | some (.ins _ _ _) => True
  | some (.ext _) => True
  | _ => False
section
variable {P : Program} {w : World} {H : Hp} {h h' : Heap} {x e : Addr} {o' : HO}
/-- the object at e is changed: x itself, or the dict of the instance x -/
theorem HOk.write (ok : HOk P w H h) (mu : Mut (H x)) (he : e = x ∨ H e = some (.own x)) (k : ∀ b u, b ≠ e → h.get? b = some u → h'.get? b = some u) (heo : ∃ u, h'.get? e = some u)
    (new : ObjOk P w (upd H x o') h' x o') : HOk P w (upd H x o') h' := fun b u q => by
  have nown : ∀ c y, H c = some (.own y) → c ≠ x := fun c y r z => by subst z; rw [r] at mu; exact mu
  have ntup : ∀ c xs, H c = some (.tup xs) → c ≠ x := fun c xs r z => by subst z; rw [r] at mu; exact mu
  by_cases hb : b = x
  · subst hb; rw [upd_same] at q; cases q; exact new
  · rw [upd_ne hb] at q
    by_cases hbe : b = e
    · have q' : H b = some (.own x) := by
        rcases he with z | z
        · exact absurd (hbe.trans z) hb
        · rw [hbe]; exact z
      rw [q] at q'; cases q'
      obtain ⟨v, hv⟩ := heo
      exact ⟨v, by rw [hbe]; exact hv⟩
    · refine (ok b u q).stay (fun c v hc r => k c v ?_ r) (fun c r => by rw [upd_ne (nown c b r)]; exact r) fun c xs r => by rw [upd_ne (ntup c xs r)]; exact r
      rcases hc with rfl | hc
      · exact hbe
      · rintro rfl
        rcases he with z | z
        · exact nown c b hc z
        · rw [hc] at z; cases z; exact hb rfl
end

/-! ### kept unless tracked; of the frames at fs (the callers') the slots may change (an exception that passes writes there); of the records at ex (iterators) nothing is said -/
structure Un (fs ex : List Addr) (H H' : Hp) (h h' : Heap) : Prop where
  keep : ∀ b o, h.get? b = some o → H b = none → b ∉ fs → b ∉ ex → h'.get? b = some o
  slot : ∀ b o, h.get? b = some o → H b = none → b ∈ fs → b ∉ ex → ∃ sl, h'.get? b = some { o with slots := sl }
  free : ∀ b o, h.get? b = some o → H b = none → b ∉ ex → H' b = none
  there : ∀ b o, h.get? b = some o → b ∉ ex → ∃ o', h'.get? b = some o'
  tups : ∀ b xs, H b = some (.tup xs) → H' b = some (.tup xs)
  frzs : ∀ b o u, H b = some (.frz o u) → H' b = some (.frz o u)
  tbls : ∀ b ps, H b = some (.tbl ps) → ∃ more, H' b = some (.tbl (ps ++ more))
section
variable {fs fs' ex ex' : List Addr} {H H1 H2 : Hp} {h h1 h2 h' : Heap} {a x e : Addr} {o : HO}
theorem Un.any (u : Un fs ex H H1 h h1) {b : Addr} {ob : Obj} (q : h.get? b = some ob) (n : H b = none) (hx : b ∉ ex) : ∃ sl, h1.get? b = some { ob with slots := sl } := by
  by_cases hb : b ∈ fs
  · exact u.slot b ob q n hb hx
  · exact ⟨ob.slots, u.keep b ob q n hb hx⟩
theorem Un.trans (a : Un fs ex H H1 h h1) (b : Un fs ex H1 H2 h1 h2) : Un fs ex H H2 h h2 where
  keep := fun c ob q n hc hx => b.keep c ob (a.keep c ob q n hc hx) (a.free c ob q n hx) hc hx
  slot := fun c ob q n hc hx => by
    obtain ⟨sl, e1⟩ := a.slot c ob q n hc hx
    obtain ⟨sl', e2⟩ := b.slot c _ e1 (a.free c ob q n hx) hc hx
    exact ⟨sl', e2⟩
  free := fun c ob q n hx => by
    obtain ⟨o', e1⟩ := a.there c ob q hx
    exact b.free c o' e1 (a.free c ob q n hx) hx
  there := fun c ob q hx => by
    obtain ⟨o', e1⟩ := a.there c ob q hx
    exact b.there c o' e1 hx
  tups := fun c xs q => b.tups c xs (a.tups c xs q)
  frzs := fun c ob xs q => b.frzs c ob xs (a.frzs c ob xs q)
  tbls := fun c ps q => by
    obtain ⟨m1, e1⟩ := a.tbls c ps q
    obtain ⟨m2, e2⟩ := b.tbls c _ e1
    exact ⟨m1 ++ m2, by rw [e2, Array.append_assoc]⟩
theorem Un.kept (k : ∀ b u, h.get? b = some u → h'.get? b = some u) : Un fs ex H H h h' :=
  ⟨fun b ob q _ _ _ => k b ob q, fun b ob q _ _ _ => ⟨ob.slots, k b ob q⟩, fun _ _ _ n _ => n, fun b ob q _ => ⟨ob, k b ob q⟩, fun _ _ q => q, fun _ _ _ q => q, fun _ ps q => ⟨#[], by rw [q]; simp⟩⟩
theorem Un.refl : Un fs ex H H h h := Un.kept fun _ _ q => q
theorem Un.laid (k : ∀ b u, h.get? b = some u → h'.get? b = some u) (hp : h.objs.size ≤ a) (hn : H a = none) : Un fs ex H (upd H a o) h h' where
  keep := fun b u q _ _ _ => k b u q
  slot := fun b u q _ _ _ => ⟨u.slots, k b u q⟩
  free := fun b u q n _ => by rw [upd_ne (Nat.ne_of_lt (Nat.lt_of_lt_of_le (Heap.lt_size q) hp))]; exact n
  there := fun b u q _ => ⟨u, k b u q⟩
  tups := fun b xs q => by rw [upd_ne (ne_of_none q hn)]; exact q
  frzs := fun b u xs q => by rw [upd_ne (ne_of_none q hn)]; exact q
  tbls := fun b ps q => ⟨#[], by rw [upd_ne (ne_of_none q hn), q]; simp⟩
theorem Un.write (mu : Mut (H x)) (he : e = x ∨ H e = some (.own x)) (k : ∀ b u, b ≠ e → h.get? b = some u → h'.get? b = some u) (heo : ∃ u, h'.get? e = some u) : Un fs ex H (upd H x o) h h' := by
  have hx : ∀ b, H b = none → b ≠ x := fun b n z => by subst z; rw [n] at mu; exact mu
  have hb : ∀ b, H b = none → b ≠ e := fun b n z => by
    subst z
    rcases he with r | r
    · exact hx b n r
    · rw [n] at r; cases r
  have hm : ∀ b u, H b = some u → ¬ Mut (some u) → b ≠ x := fun b u q nm z => by subst z; rw [q] at mu; exact nm mu
  refine ⟨fun b u q n _ _ => k b u (hb b n) q, fun b u q n _ _ => ⟨u.slots, k b u (hb b n) q⟩, fun b u q n _ => by rw [upd_ne (hx b n)]; exact n, fun b u q _ => ?_,
    fun b xs q => by rw [upd_ne (hm b _ q fun z => z)]; exact q, fun b u xs q => by rw [upd_ne (hm b _ q fun z => z)]; exact q, fun b ps q => ⟨#[], by rw [upd_ne (hm b _ q fun z => z), q]; simp⟩⟩
  by_cases hbe : b = e
  · subst hbe; exact heo
  · exact ⟨u, k b u hbe q⟩
theorem Un.mono (u : Un fs ex H H1 h h1) (hs : ∀ b ∈ fs, b ∈ fs') (hx : ∀ b ∈ ex, b ∈ ex') : Un fs' ex' H H1 h h1 :=
  ⟨fun b ob q n hb he => u.keep b ob q n (fun z => hb (hs b z)) fun z => he (hx b z), fun _ _ q n _ he => u.any q n fun z => he (hx _ z), fun b ob q n he => u.free b ob q n fun z => he (hx b z), fun b ob q he => u.there b ob q fun z => he (hx b z), u.tups, u.frzs, u.tbls⟩
end

/-! ### the heap without what is tracked -/
def trk (h : Heap) (H : Hp) : List Addr := (List.range h.objs.size).filter fun a => (H a).isSome
def hidT (h : Heap) (H : Hp) : Heap := PySem.W.hideAll h (trk h H)
theorem hidT_size (h : Heap) (H : Hp) : (hidT h H).objs.size = h.objs.size := PySem.W.hideAll_size _ _
theorem hidT_get {h : Heap} {H : Hp} {b : Addr} {o : Obj} (e : h.get? b = some o) (n : H b = none) : (hidT h H).get? b = some o :=
  PySem.W.hideAll_get _ e fun hm => by
    have q : (H b).isSome = true := (List.mem_filter.mp hm).2
    rw [n] at q; simp at q
theorem of_hidT {h : Heap} {H : Hp} {b : Addr} {o : Obj} (e : (hidT h H).get? b = some o) : h.get? b = some o ∧ H b = none := by
  have e' : h.get? b = some o := PySem.W.of_hideAll (trk h H) e
  refine ⟨e', ?_⟩
  cases q : H b with
  | none => rfl
  | some x =>
    have hm : b ∈ trk h H := List.mem_filter.mpr ⟨List.mem_range.mpr (Heap.lt_size e'), by simp [q]⟩
    have z : (hidT h H).get? b = none := PySem.W.hideAll_none (trk h H) hm
    rw [z] at e; cases e

/-! ### OpenK's ledger, filled with every new object but one -/
def allNews (g h : Heap) (L : Addr) : List (Addr × Obj) := (List.range h.objs.size).filterMap fun a => if a = L ∨ (g.get? a).isSome = true then none else (h.get? a).map fun o => (a, o)
def rest (g h : Heap) (L d : Addr) : List (Addr × Obj) := (allNews g h L).filter fun p => decide (p.1 ≠ d)
end L2

namespace L2
open PySem PySem.Spec PyProof.Rows

/-- the module's facts, over the base: the heap at the law's entry without what is tracked there -/
structure Mod (K : PySem.W.Frag) (mg : Str → Option Value) (base : Heap) : Prop where
  kin : K.In base
  glob : base.Ns mainGlobals mg
  blt : ∃ mb, base.Ns builtinsNs mb ∧ ∀ x : Str, x ≠ "__name__" → mb x = bootBuiltins x
  nolimit : base.NoLimit

/-- the context: a def's body (or a comprehension's block) running. base: fixed through the whole law; s₀, H₀: the entry; outer: the frames whose slots others may change (a def's callers); stack: all frames that run;
   ex: iterators that were made ahead of the entry and are walked here (a comprehension's); fn: the names whose cells were made at the entry (a def: all; a comprehension's block: its own); calm: not within an except suite; pn: pins that every state bears; xe: what is wanted of an exception that leaves the code -/
structure Cx where
  prog : Program
  w : World
  K : PySem.W.Frag
  mg : Str → Option Value
  base : Heap
  A : Around
  N : List Str
  s₀ : Shared
  H₀ : Hp
  env : Env
  outer : List Env
  stack : List Env
  ex : List Addr
  fn : Str → Bool
  calm : Bool
  pn : List (Addr × Obj)
  xe : Value → Shared → Prop
/-- the callers' frames -/
def frs (l : List Env) : List Addr := l.filterMap (·.frame)
abbrev Cx.fs (X : Cx) : List Addr := frs X.outer

def Vis (sc : Scope) (x : Str) : Prop := sc.names.lookup x = some .local ∨ sc.names.lookup x = some .cell ∨ sc.names.lookup x = some .free
def Loc (sc : Scope) (x : Str) : Prop := sc.names.lookup x = some .local ∨ sc.names.lookup x = some .cell
def Look (env : Env) (h : Heap) (m : Str → Option Value) (x : Str) (u : Value) : Prop :=
  (env.kindOf x = some .local ∧ m x = some u) ∨ ((env.kindOf x = some .cell ∨ env.kindOf x = some .free) ∧ ∃ c, env.cells.lookup x = some c ∧ h.IsCell c (some u))

structure Cx.Ok (X : Cx) : Prop where
  mod : Mod X.K X.mg X.base
  kind : X.env.scope.kind = .function
  glob : X.env.globals = mainGlobals
  blt : X.env.builtins = builtinsNs
  above : X.s₀.heap.objs.size ≤ X.env.locals
  inj : ∀ x y c, X.env.cells.lookup x = some c → X.env.cells.lookup y = some c → x = y
  has : ∀ x, (X.env.kindOf x = some .cell ∨ X.env.kindOf x = some .free) → ∃ c, X.env.cells.lookup x = some c
  cab : ∀ x c, X.fn x = true → X.env.cells.lookup x = some c → X.s₀.heap.objs.size ≤ c
  hd : X.calm = true → X.A.handled = none
  frames : X.A.frames = some X.stack
  stk : X.stack = X.outer ∨ (X.stack = X.env :: X.outer ∧ X.env.frame = some X.env.locals)
  exf : ∀ b ∈ X.ex, b ≠ X.env.locals ∧ ∀ x c, X.env.cells.lookup x = some c → c ≠ b
  bs : ∀ b o, X.base.get? b = some o → X.s₀.heap.get? b = some o ∧ X.H₀ b = none
  bsz : X.base.objs.size ≤ X.s₀.heap.objs.size
  noex : ∀ b o, X.base.get? b = some o → b ∉ X.ex
  exfs : ∀ b ∈ X.ex, b ∉ X.fs
  funs : X.s₀.heap.FunFrames X.base X.outer
  frf : ∀ b ∈ X.fs, X.H₀ b = none

structure Inv (X : Cx) (pins : List (Addr × Obj)) (σ : List (Option V)) (H : Hp) (s : Shared) : Prop where
  ok : X.Ok
  os : s.os = X.s₀.os
  bare : AllBare s.gens
  base : Un X.fs X.ex X.H₀ H X.s₀.heap s.heap
  loc : ∃ m, s.heap.Ns X.env.locals m ∧ ∀ (i : Nat) (x : Str) (v : V), X.N[i]? = some x → σ[i]? = some (some v) → Vis X.env.scope x → ∃ u, RelV v u ∧ Look X.env s.heap m x u
  cell : ∀ x c, X.env.cells.lookup x = some c → ∃ v, s.heap.IsCell c v
  free : H X.env.locals = none
  freeC : ∀ x c, X.env.cells.lookup x = some c → H c = none
  pin : ∀ p ∈ X.pn ++ pins, s.heap.get? p.1 = some p.2 ∧ H p.1 = none ∧ p.1 ≠ X.env.locals ∧ p.1 ∉ X.fs ∧ ∀ v, p.2.data ≠ .cell v
  hok : HOk X.prog X.w H s.heap
  len : σ.length = X.N.length

section
variable {X : Cx} {pins : List (Addr × Obj)} {σ : List (Option V)} {H H' : Hp} {s : Shared} {h' : Heap}

theorem Cx.Ok.nofr (ok : X.Ok) {b : Addr} {o : Obj} (e : X.base.get? b = some o) : b ∉ X.fs := fun hb => by
  have := (ok.funs.mem hb).1
  rw [e] at this; cases this
theorem Inv.bs (I : Inv X pins σ H s) : ∀ b o, X.base.get? b = some o → s.heap.get? b = some o ∧ H b = none := fun b o e =>
  ⟨I.base.keep b o (I.ok.bs b o e).1 (I.ok.bs b o e).2 (I.ok.nofr e) (I.ok.noex b o e), I.base.free b o (I.ok.bs b o e).1 (I.ok.bs b o e).2 (I.ok.noex b o e)⟩
theorem Inv.bk (I : Inv X pins σ H s) : ∀ b o, X.base.get? b = some o → s.heap.get? b = some o := fun b o e => (I.bs b o e).1
theorem Inv.mod (I : Inv X pins σ H s) : Mod X.K X.mg X.base := I.ok.mod
theorem Inv.kIn (I : Inv X pins σ H s) : X.K.In s.heap := I.ok.mod.kin.keeps I.bk
theorem Inv.nolimit (I : Inv X pins σ H s) : s.heap.NoLimit := I.ok.mod.nolimit.keeps I.bk
/-- the frame over the base: for OpenK's rules (K.In X.base is I.mod.kin) -/
theorem Inv.fr (I : Inv X pins σ H s) : ∃ m, Fr X.base X.env.locals s.heap m :=
  let ⟨m, hn, _⟩ := I.loc
  ⟨m, hn, I.bk, Nat.le_trans I.ok.bsz I.ok.above⟩
theorem Inv.lt (I : Inv X pins σ H s) : X.env.locals < s.heap.objs.size := let ⟨_, hn, _⟩ := I.loc; hn.lt
theorem Inv.sz (I : Inv X pins σ H s) : X.s₀.heap.objs.size ≤ s.heap.objs.size := Nat.le_trans I.ok.above (Nat.le_of_lt I.lt)
theorem Inv.nofs (I : Inv X pins σ H s) {a : Addr} (h : s.heap.objs.size ≤ a) : a ∉ X.fs := fun hb => by
  obtain ⟨_, o, ho, _⟩ := I.ok.funs.mem hb
  exact absurd (Nat.lt_of_lt_of_le (Heap.lt_size ho) (Nat.le_trans I.sz h)) (Nat.lt_irrefl _)
theorem Inv.cne (I : Inv X pins σ H s) : ∀ x c, X.env.cells.lookup x = some c → c ≠ X.env.locals := fun x c e z => by
  obtain ⟨v, o, ho, hd⟩ := I.cell x c e
  obtain ⟨m, ⟨o', es, ep, ho', hd', _⟩, _⟩ := I.loc
  rw [z, ho'] at ho; cases ho; rw [hd'] at hd; cases hd
theorem Inv.funs (I : Inv X pins σ H s) : s.heap.FunFrames X.base X.outer := by
  have all : ∀ (l : List Env), (∀ b ∈ frs l, b ∈ X.fs) → X.s₀.heap.FunFrames X.base l → s.heap.FunFrames X.base l := by
    intro l
    induction l with
    | nil => intro _ _; trivial
    | cons env r ih =>
      intro hs hl
      obtain ⟨hk, ⟨L, o, hf, hn, ho, hd⟩, hr⟩ := hl
      have hL : L ∈ X.fs := hs L (by unfold frs; rw [List.filterMap_cons, hf]; exact List.mem_cons_self)
      obtain ⟨sl, e⟩ := I.base.slot L o ho (I.ok.frf L hL) hL fun z => I.ok.exfs L z hL
      exact ⟨hk, ⟨L, _, hf, hn, e, hd⟩, ih (fun b hb => hs b (by unfold frs; rw [List.filterMap_cons, hf]; exact List.mem_cons_of_mem _ hb)) hr⟩
  exact all X.outer (fun _ hb => hb) I.ok.funs

/-- the frames that run, for a call -/
theorem Inv.stack (I : Inv X pins σ H s) : s.heap.FunFrames X.base X.stack := by
  rcases I.ok.stk with e | ⟨e, hf⟩
  · rw [e]; exact I.funs
  · rw [e]
    obtain ⟨m, hn, _⟩ := I.loc
    refine .cons (by rw [I.ok.kind]; decide) hf hn ?_ I.funs
    exact Heap.get?_none_of_le (Nat.le_trans I.ok.bsz I.ok.above)
theorem Inv.stkSub (I : Inv X pins σ H s) : ∀ b ∈ frs X.stack, b ∈ X.env.locals :: X.fs := fun b hb => by
  rcases I.ok.stk with e | ⟨e, hf⟩
  · rw [e] at hb; exact List.mem_cons_of_mem _ hb
  · rw [e] at hb
    unfold frs at hb
    rw [List.filterMap_cons, hf] at hb
    exact hb
theorem Inv.stkFree (I : Inv X pins σ H s) : ∀ b ∈ frs X.stack, H b = none := fun b hb => by
  rcases List.mem_cons.mp (I.stkSub b hb) with e | hb
  · rw [e]; exact I.free
  · obtain ⟨_, o, ho, _⟩ := I.ok.funs.mem hb
    exact I.base.free b o ho (I.ok.frf b hb) fun z => I.ok.exfs b z hb

/-- THE STEP: the untracked objects but the frame and the records at ch are kept (the callers' frames up to slots), the frame's map is kept, the new abstract heap is held -/
theorem Inv.step {g' : Array GenState} {t' : Nat} {d' : Drawn} {ch : List Addr} (I : Inv X pins σ H s)
    (hch : ∀ b ∈ ch, (b ∈ X.ex ∨ X.s₀.heap.objs.size ≤ b) ∧ b ≠ X.env.locals ∧ (∀ x c, X.env.cells.lookup x = some c → c ≠ b) ∧ ∀ p ∈ X.pn ++ pins, p.1 ≠ b)
    (keep : ∀ b o, b ≠ X.env.locals → b ∉ X.fs → b ∉ ch → s.heap.get? b = some o → H b = none → h'.get? b = some o)
    (slot : ∀ b o, b ≠ X.env.locals → b ∈ X.fs → b ∉ ch → s.heap.get? b = some o → H b = none → ∃ sl, h'.get? b = some { o with slots := sl }) (free : ∀ b o, b ∉ ch → s.heap.get? b = some o → H b = none → H' b = none)
    (there : ∀ b o, b ∉ ch → s.heap.get? b = some o → ∃ o', h'.get? b = some o')
    (tups : ∀ b xs, H b = some (.tup xs) → H' b = some (.tup xs)) (frzs : ∀ b o u, H b = some (.frz o u) → H' b = some (.frz o u)) (tbls : ∀ b ps, H b = some (.tbl ps) → ∃ more, H' b = some (.tbl (ps ++ more)))
    (ns : ∀ m, s.heap.Ns X.env.locals m → h'.Ns X.env.locals m) (hok : HOk X.prog X.w H' h') (hg : AllBare g') :
    Inv X pins σ H' { s with heap := h', gens := g', drawn := d', toks := t' } := by
  have neL : ∀ b o, X.s₀.heap.get? b = some o → b ≠ X.env.locals := fun b o e => Nat.ne_of_lt (Nat.lt_of_lt_of_le (Heap.lt_size e) I.ok.above)
  have neC : ∀ b o, X.s₀.heap.get? b = some o → b ∉ X.ex → b ∉ ch := fun b o e hx hb => by
    rcases (hch b hb).1 with z | z
    · exact hx z
    · exact absurd (Nat.lt_of_lt_of_le (Heap.lt_size e) z) (Nat.lt_irrefl _)
  have cellK : ∀ x c, X.env.cells.lookup x = some c → ∀ v, s.heap.IsCell c v → h'.IsCell c v := fun x c e v ⟨o, ho, hd⟩ => by
    have nch : c ∉ ch := fun z => (hch c z).2.2.1 x c e rfl
    by_cases hc : c ∈ X.fs
    · obtain ⟨sl, q⟩ := slot c o (I.cne x c e) hc nch ho (I.freeC x c e)
      exact ⟨_, q, hd⟩
    · exact ⟨o, keep c o (I.cne x c e) hc nch ho (I.freeC x c e), hd⟩
  refine ⟨I.ok, I.os, hg, ⟨fun b o e n hb hx => ?_, fun b o e n hb hx => ?_, fun b o e n hx => ?_, fun b o e hx => ?_, fun b xs e => tups b xs (I.base.tups b xs e), fun b o xs e => frzs b o xs (I.base.frzs b o xs e), fun b ps e => ?_⟩, ?_, fun x c e => ?_, ?_, fun x c e => ?_, fun p hp => ?_, hok, I.len⟩
  · exact keep b o (neL b o e) hb (neC b o e hx) (I.base.keep b o e n hb hx) (I.base.free b o e n hx)
  · obtain ⟨sl, e1⟩ := I.base.slot b o e n hb hx
    obtain ⟨sl', e2⟩ := slot b _ (neL b o e) hb (neC b o e hx) e1 (I.base.free b o e n hx)
    exact ⟨sl', e2⟩
  · obtain ⟨o', e1⟩ := I.base.there b o e hx
    exact free b o' (neC b o e hx) e1 (I.base.free b o e n hx)
  · obtain ⟨o', e1⟩ := I.base.there b o e hx
    exact there b o' (neC b o e hx) e1
  · obtain ⟨m1, e1⟩ := I.base.tbls b ps e
    obtain ⟨m2, e2⟩ := tbls b _ e1
    exact ⟨m1 ++ m2, by rw [e2, Array.append_assoc]⟩
  · obtain ⟨m, hn, hl⟩ := I.loc
    refine ⟨m, ns m hn, fun i x v e1 e2 e3 => ?_⟩
    obtain ⟨u, r, l⟩ := hl i x v e1 e2 e3
    refine ⟨u, r, ?_⟩
    rcases l with l | ⟨k, c, e, z⟩
    · exact .inl l
    · exact .inr ⟨k, c, e, cellK x c e _ z⟩
  · obtain ⟨v, z⟩ := I.cell x c e
    exact ⟨v, cellK x c e v z⟩
  · obtain ⟨m, ⟨o, _, _, ho, _⟩, _⟩ := I.loc
    exact free _ o (fun z => (hch _ z).2.1 rfl) ho I.free
  · obtain ⟨v, o, ho, hd⟩ := I.cell x c e
    exact free c o (fun z => (hch c z).2.2.1 x c e rfl) ho (I.freeC x c e)
  · obtain ⟨e, n, ne, nf, d⟩ := I.pin p hp
    have nch : p.1 ∉ ch := fun z => (hch p.1 z).2.2.2 p hp rfl
    exact ⟨keep p.1 p.2 ne nf nch e n, free p.1 p.2 nch e n, ne, nf, d⟩
/-- .. where the frame's own object is kept too -/
theorem Inv.un {t' : Nat} (I : Inv X pins σ H s) (u : Un X.fs [] H H' s.heap h') (hok : HOk X.prog X.w H' h') : Inv X pins σ H' { s with heap := h', toks := t' } := by
  obtain ⟨m, ⟨o, es, ep, ho, r⟩, _⟩ := id I.loc
  obtain ⟨sl, hL⟩ := u.any ho I.free (by simp)
  exact I.step (g' := s.gens) (d' := s.drawn) (ch := []) (fun _ z => nomatch z) (fun b o _ hb _ e n => u.keep b o e n hb (by simp)) (fun b o _ hb _ e n => u.slot b o e n hb (by simp)) (fun b o _ e n => u.free b o e n (by simp)) (fun b o _ e => u.there b o e (by simp)) u.tups u.frzs u.tbls (fun m' hm => by
    obtain ⟨o', es', ep', ho', r'⟩ := hm
    rw [ho] at ho'; cases ho'
    exact ⟨_, es', ep', hL, r'⟩) hok I.bare
/-- behind a call (or a comprehension's block): the slots of this frame may have changed too, the records at ch may have turned -/
theorem Inv.call {g' : Array GenState} {t' : Nat} {d' : Drawn} {ch : List Addr} (I : Inv X pins σ H s) (u : Un (frs X.stack) ch H H' s.heap h') (hok : HOk X.prog X.w H' h') (hg : AllBare g')
    (hch : ∀ b ∈ ch, (b ∈ X.ex ∨ X.s₀.heap.objs.size ≤ b) ∧ b ≠ X.env.locals ∧ (∀ x c, X.env.cells.lookup x = some c → c ≠ b) ∧ ∀ p ∈ X.pn ++ pins, p.1 ≠ b) :
    Inv X pins σ H' { s with heap := h', gens := g', drawn := d', toks := t' } := by
  obtain ⟨m, ⟨o, es, ep, ho, r⟩, _⟩ := id I.loc
  obtain ⟨sl, hL⟩ := u.any ho I.free fun z => (hch _ z).2.1 rfl
  exact I.step (ch := ch) hch (fun b o hL hb hc e n => u.keep b o e n (fun z => (List.mem_cons.mp (I.stkSub b z)).elim hL hb) hc) (fun b o _ _ hc e n => u.any e n hc) (fun b o hc e n => u.free b o e n hc) (fun b o hc e => u.there b o e hc) u.tups u.frzs u.tbls (fun m' hm => by
    obtain ⟨o', es', ep', ho', r'⟩ := hm
    rw [ho] at ho'; cases ho'
    exact ⟨_, es', ep', hL, r'⟩) hok hg
/-- an untracked record of ours (an iterator) has turned -/
theorem Inv.turned {t' : Nat} {it : Addr} (I : Inv X pins σ H s) (k : ∀ b o, b ≠ it → s.heap.get? b = some o → h'.get? b = some o) (hn : H it = none) (hL : it ≠ X.env.locals)
    (h1 : it ∈ X.ex ∨ X.s₀.heap.objs.size ≤ it) (h2 : ∀ x c, X.env.cells.lookup x = some c → c ≠ it) (h3 : ∀ p ∈ X.pn ++ pins, p.1 ≠ it) : Inv X pins σ H { s with heap := h', toks := t' } := by
  have nit : ∀ b u, H b = some u → b ≠ it := fun b u e z => by rw [z, hn] at e; cases e
  refine I.step (g' := s.gens) (d' := s.drawn) (ch := [it]) (fun b hb => ?_) (fun b o _ _ hc e _ => k b o (fun z => hc (by simp [z])) e) (fun b o _ _ hc e _ => ⟨o.slots, k b o (fun z => hc (by simp [z])) e⟩) (fun _ _ _ _ n => n)
    (fun b o hc e => ⟨o, k b o (fun z => hc (by simp [z])) e⟩) (fun _ _ e => e) (fun _ _ _ e => e) (fun b ps e => ⟨#[], by rw [e]; simp⟩) (fun m hm => ?_) (fun b u e => ?_) I.bare
  · have e : b = it := by simpa using hb
    subst e
    exact ⟨h1, hL, h2, h3⟩
  · obtain ⟨o, es, ep, ho, r⟩ := hm
    exact ⟨o, es, ep, k _ o (Ne.symm hL) ho, r⟩
  · refine (I.hok b u e).stay (fun c v hc q => k c v ?_ q) (fun _ q => q) fun _ _ q => q
    rcases hc with z | z
    · rw [z]; exact nit b u e
    · exact nit c _ z
theorem Inv.tok (I : Inv X pins σ H s) (t : Nat) : Inv X pins σ H { s with toks := t } := I.un (h' := s.heap) (t' := t) Un.refl I.hok
/-- all objects kept -/
theorem Inv.kept {t' : Nat} (I : Inv X pins σ H s) (k : ∀ b u, s.heap.get? b = some u → h'.get? b = some u) : Inv X pins σ H { s with heap := h', toks := t' } := I.un (Un.kept k) (I.hok.kept k)
/-- a new object laid and tracked -/
theorem Inv.laid {a : Addr} {o : HO} {t' : Nat} (I : Inv X pins σ H s) (k : ∀ b u, s.heap.get? b = some u → h'.get? b = some u) (hp : s.heap.objs.size ≤ a) (new : ObjOk X.prog X.w (upd H a o) h' a o) :
    Inv X pins σ (upd H a o) { s with heap := h', toks := t' } := I.un (Un.laid k hp (I.hok.fresh hp)) (I.hok.laid k hp new)
/-- an object written -/
theorem Inv.write {x e : Addr} {o : HO} {t' : Nat} (I : Inv X pins σ H s) (mu : Mut (H x)) (he : e = x ∨ H e = some (.own x)) (k : ∀ b u, b ≠ e → s.heap.get? b = some u → h'.get? b = some u) (heo : ∃ u, h'.get? e = some u)
    (new : ObjOk X.prog X.w (upd H x o) h' x o) : Inv X pins σ (upd H x o) { s with heap := h', toks := t' } := I.un (Un.write mu he k heo) (I.hok.write mu he k heo new)
/-- forgetting slots, pins -/
theorem Inv.weak {σ' : List (Option V)} (I : Inv X pins σ H s) (hl : σ'.length = σ.length) (w : ∀ (i : Nat) v, σ'[i]? = some (some v) → σ[i]? = some (some v)) : Inv X pins σ' H s :=
  ⟨I.ok, I.os, I.bare, I.base, let ⟨m, hn, hl'⟩ := I.loc; ⟨m, hn, fun i x v e1 e2 e3 => hl' i x v e1 (w i v e2) e3⟩, I.cell, I.free, I.freeC, I.pin, I.hok, hl.trans I.len⟩
theorem Inv.pins_of {pins' : List (Addr × Obj)} (I : Inv X pins σ H s) (h : ∀ p ∈ pins', s.heap.get? p.1 = some p.2 ∧ H p.1 = none ∧ p.1 ≠ X.env.locals ∧ p.1 ∉ X.fs ∧ ∀ v, p.2.data ≠ .cell v) : Inv X pins' σ H s :=
  ⟨I.ok, I.os, I.bare, I.base, I.loc, I.cell, I.free, I.freeC, fun p hp => (List.mem_append.mp hp).elim (fun z => I.pin p (List.mem_append_left _ z)) (h p), I.hok, I.len⟩

theorem nodup_ix {N : List Str} (hN : N.Nodup) {i j : Nat} {x : Str} (a : N[i]? = some x) (b : N[j]? = some x) : i = j := by
  obtain ⟨h1, e1⟩ := List.getElem?_eq_some_iff.mp a
  obtain ⟨h2, e2⟩ := List.getElem?_eq_some_iff.mp b
  exact (List.getElem_inj hN).mp (e1.trans e2.symm)

/-- a name is stored; what changed -/
theorem store_ok2 {M : Model} {A : Around} {E : Value → Shared → Prop} {i : Nat} {x : Str} {v : V} {u : Value} {Q : Unit → Shared → Prop} (I : Inv X pins σ H s) (hN : X.N.Nodup) (hi : X.N[i]? = some x) (hx : Loc X.env.scope x) (r : RelV v u)
    (h : ∀ s', Inv X pins (σ.set i (some v)) H s' → (∃ a, Heap.SameBut a s.heap s'.heap ∧ (a = X.env.locals ∨ X.env.cells.lookup x = some a)) → Q () s') (hf : X.fn x = true ∨ X.env.scope.names.lookup x = some .local := by first | exact .inl rfl | exact .inr rfl | assumption) : wpAny M A (storeName X.env x u) Q E s := by
  obtain ⟨m, hn, hl⟩ := id I.loc
  have hcls : (X.env.scope.kind == .class || (X.env.scope.kind == .module && X.env.locals != X.env.globals)) = false := by rw [I.ok.kind]; rfl
  have hiσ : i < σ.length := by rw [I.len]; exact (List.getElem?_eq_some_iff.mp hi).1
  have cne := I.cne
  have tracked : ∀ {a : Addr} {h' : Heap}, (∃ o, s.heap.get? a = some o ∧ H a = none) → Heap.SameBut a s.heap h' → HOk X.prog X.w H h' := fun {a h'} ha hs b ob e => by
    obtain ⟨_, _, hfree⟩ := ha
    refine (I.hok b ob e).stay (fun c w' hc q => (hs.2 c ?_).trans q) (fun _ q => q) fun _ _ q => q
    rintro rfl
    rcases hc with rfl | hc
    · rw [hfree] at e; cases e
    · rw [hfree] at hc; cases hc
  rcases hx with hk | hk
  · refine wpAny_storeName_local hk hn (fun h' hn' hs => ?_) hcls
    obtain ⟨oL, _, _, hoL, _⟩ := id hn
    refine h _ ⟨I.ok, I.os, I.bare, ⟨fun b o e n hb hx => ?_, fun b o e n hb hx => ?_, I.base.free, fun b o e hx => ?_, I.base.tups, I.base.frzs, I.base.tbls⟩, ⟨_, hn', fun j y v' e1 e2 e3 => ?_⟩, fun y c e => ?_, I.free, I.freeC, fun p hp => ?_, tracked ⟨oL, hoL, I.free⟩ hs, by simpa using I.len⟩ ⟨_, hs, .inl rfl⟩
    · exact (hs.2 b (Nat.ne_of_lt (Nat.lt_of_lt_of_le (Heap.lt_size e) I.ok.above))).trans (I.base.keep b o e n hb hx)
    · obtain ⟨sl, e1⟩ := I.base.slot b o e n hb hx
      exact ⟨sl, (hs.2 b (Nat.ne_of_lt (Nat.lt_of_lt_of_le (Heap.lt_size e) I.ok.above))).trans e1⟩
    · obtain ⟨o', e1⟩ := I.base.there b o e hx
      exact ⟨o', (hs.2 b (Nat.ne_of_lt (Nat.lt_of_lt_of_le (Heap.lt_size e) I.ok.above))).trans e1⟩
    · by_cases hj : j = i
      · subst hj
        rw [hi] at e1; cases e1
        rw [List.getElem?_set_self hiσ] at e2
        cases e2
        exact ⟨u, r, .inl ⟨hk, by simp⟩⟩
      · rw [List.getElem?_set_ne (Ne.symm hj)] at e2
        obtain ⟨u', r', q⟩ := hl j y v' e1 e2 e3
        refine ⟨u', r', ?_⟩
        rcases q with ⟨k, e⟩ | ⟨k, c, e, z⟩
        · refine .inl ⟨k, ?_⟩
          have : y ≠ x := fun e => hj (nodup_ix hN e1 (e ▸ hi))
          simp [this, e]
        · exact .inr ⟨k, c, e, z.sameBut hs (cne y c e)⟩
    · obtain ⟨w', z⟩ := I.cell y c e
      exact ⟨w', z.sameBut hs (cne y c e)⟩
    · obtain ⟨e, n, ne, nf, d⟩ := I.pin p hp
      exact ⟨(hs.2 p.1 ne).trans e, n, ne, nf, d⟩
  · have hfn : X.fn x = true := by
      rcases hf with z | z
      · exact z
      · rw [z] at hk; cases hk
    obtain ⟨c, hc⟩ := I.ok.has x (.inl hk)
    obtain ⟨w', z⟩ := I.cell x c hc
    refine wpAny_storeName_cell I.ok.kind hk hc z (fun h' hc' hs => ?_)
    obtain ⟨oc, hoc, hocd⟩ := id z
    refine h { s with heap := h' } ⟨I.ok, I.os, I.bare, ⟨fun b o e n hb hx => ?_, fun b o e n hb hx => ?_, I.base.free, fun b o e hx => ?_, I.base.tups, I.base.frzs, I.base.tbls⟩, ⟨m, hn.sameBut hs (Ne.symm (cne x c hc)), fun j y v' e1 e2 e3 => ?_⟩, fun y c' e => ?_, I.free, I.freeC, fun p hp => ?_, tracked ⟨oc, hoc, I.freeC x c hc⟩ hs, by simpa using I.len⟩ ⟨c, hs, .inr hc⟩
    · exact (hs.2 b (Nat.ne_of_lt (Nat.lt_of_lt_of_le (Heap.lt_size e) (I.ok.cab x c hfn hc)))).trans (I.base.keep b o e n hb hx)
    · obtain ⟨sl, e1⟩ := I.base.slot b o e n hb hx
      exact ⟨sl, (hs.2 b (Nat.ne_of_lt (Nat.lt_of_lt_of_le (Heap.lt_size e) (I.ok.cab x c hfn hc)))).trans e1⟩
    · obtain ⟨o', e1⟩ := I.base.there b o e hx
      exact ⟨o', (hs.2 b (Nat.ne_of_lt (Nat.lt_of_lt_of_le (Heap.lt_size e) (I.ok.cab x c hfn hc)))).trans e1⟩
    · by_cases hj : j = i
      · subst hj
        rw [hi] at e1; cases e1
        rw [List.getElem?_set_self hiσ] at e2
        cases e2
        exact ⟨u, r, .inr ⟨.inl hk, c, hc, hc'⟩⟩
      · rw [List.getElem?_set_ne (Ne.symm hj)] at e2
        obtain ⟨u', r', q⟩ := hl j y v' e1 e2 e3
        refine ⟨u', r', ?_⟩
        rcases q with q | ⟨k, c', e, z'⟩
        · exact .inl q
        · refine .inr ⟨k, c', e, z'.sameBut hs ?_⟩
          rintro rfl
          exact hj (nodup_ix hN e1 (I.ok.inj _ _ _ e hc ▸ hi))
    · by_cases hcc : c' = c
      · subst hcc; exact ⟨_, hc'⟩
      · obtain ⟨w2, z2⟩ := I.cell y c' e
        exact ⟨w2, z2.sameBut hs hcc⟩
    · obtain ⟨e, n, ne, nf, d⟩ := I.pin p hp
      refine ⟨(hs.2 p.1 ?_).trans e, n, ne, nf, d⟩
      intro q
      rw [q, hoc] at e
      have q' : oc = p.2 := Option.some.inj e
      exact d w' (by rw [← q']; exact hocd)
theorem store_ok {M : Model} {A : Around} {E : Value → Shared → Prop} {i : Nat} {x : Str} {v : V} {u : Value} {Q : Unit → Shared → Prop} (I : Inv X pins σ H s) (hN : X.N.Nodup) (hi : X.N[i]? = some x) (hx : Loc X.env.scope x) (r : RelV v u)
    (h : ∀ s', Inv X pins (σ.set i (some v)) H s' → Q () s') (hf : X.fn x = true ∨ X.env.scope.names.lookup x = some .local := by first | exact .inl rfl | exact .inr rfl | assumption) : wpAny M A (storeName X.env x u) Q E s :=
  store_ok2 I hN hi hx r (fun s' I' _ => h s' I') hf
/-- behind a call or a block, the state as it is -/
theorem Inv.call' {s' : Shared} {ch : List Addr} (I : Inv X pins σ H s) (ho : s'.os = s.os) (u : Un (frs X.stack) ch H H' s.heap s'.heap) (hok : HOk X.prog X.w H' s'.heap) (hg : AllBare s'.gens)
    (hch : ∀ b ∈ ch, (b ∈ X.ex ∨ X.s₀.heap.objs.size ≤ b) ∧ b ≠ X.env.locals ∧ (∀ x c, X.env.cells.lookup x = some c → c ≠ b) ∧ ∀ p ∈ X.pn ++ pins, p.1 ≠ b) : Inv X pins σ H' s' := by
  obtain ⟨h', g', d', t', o'⟩ := s'
  have e : o' = s.os := ho
  subst e
  exact I.call (g' := g') (t' := t') (d' := d') u hok hg hch
end

/-! ### the judgements -/
/-- an exception: its class, its own dict's address (where it has one), the abstract heap behind it -/
abbrev XK := Value → Option Addr → Hp → Prop
abbrev St := List (Option V)
abbrev VK := V → Hp → Prop
/-- an expression's reading; a test's; an argument list's -/
abbrev TE := St → Hp → VK → Prop
abbrev TT := St → Hp → (Bool → Hp → Prop) → Prop
abbrev TA := St → Hp → (List V → Hp → Prop) → Prop
/-- what is wanted behind a statement -/
structure Ends where
  nx : St → Hp → Prop
  rt : VK
  bk : St → Hp → Prop := fun _ _ => False
  ct : St → Hp → Prop := fun _ _ => False
abbrev TS := Ends → St → Hp → Prop

def EP (X : Cx) (pins : List (Addr × Obj)) (σ : St) (Q : VK) (u : Value) (s' : Shared) : Prop := ∃ v H', Inv X pins σ H' s' ∧ RelV v u ∧ Q v H'
def TP (X : Cx) (pins : List (Addr × Obj)) (σ : St) (Q : Bool → Hp → Prop) (b : Bool) (s' : Shared) : Prop := ∃ H', Inv X pins σ H' s' ∧ Q b H'
def AP (X : Cx) (pins : List (Addr × Obj)) (σ : St) (Q : List V → Hp → Prop) (us : List Value) (s' : Shared) : Prop := ∃ vs H', Inv X pins σ H' s' ∧ Vals vs us ∧ Q vs H'
def SP (X : Cx) (pins : List (Addr × Obj)) (D : Ends) (f : Flow) (s' : Shared) : Prop :=
  match f with
  | .next => ∃ σ' H', Inv X pins σ' H' s' ∧ D.nx σ' H'
  | .brk => ∃ σ' H', Inv X pins σ' H' s' ∧ D.bk σ' H'
  | .cont => ∃ σ' H', Inv X pins σ' H' s' ∧ D.ct σ' H'
  | .ret u => ∃ v σ' H', Inv X pins σ' H' s' ∧ RelV v u ∧ D.rt v H'

def PE (X : Cx) (e : Expr) (t : TE) : Prop :=
  ∀ (pins : List (Addr × Obj)) (s : Shared) (σ : St) (H : Hp) (Q : VK), Inv X pins σ H s → t σ H Q → wpAny (model X.prog X.w) X.A (eval e X.env) (EP X pins σ Q) X.xe s
def PT (X : Cx) (e : Expr) (t : TT) : Prop :=
  ∀ (pins : List (Addr × Obj)) (s : Shared) (σ : St) (H : Hp) (Q : Bool → Hp → Prop), Inv X pins σ H s → t σ H Q → wpAny (model X.prog X.w) X.A (isTrue e X.env (eval e X.env)) (TP X pins σ Q) X.xe s
/-- a test whatever its 'whole' is (and, or) -/
def PW (X : Cx) (e : Expr) (t : TT) : Prop :=
  ∀ (whole : Sem Value) (pins : List (Addr × Obj)) (s : Shared) (σ : St) (H : Hp) (Q : Bool → Hp → Prop), Inv X pins σ H s → t σ H Q → wpAny (model X.prog X.w) X.A (isTrue e X.env whole) (TP X pins σ Q) X.xe s
theorem PW.pt {X : Cx} {e : Expr} {t : TT} (h : PW X e t) : PT X e t := h _
/-- an argument list (no star), from the left -/
def PA (X : Cx) (es : List Expr) (t : TA) : Prop :=
  ∀ (pos : Pos) (pins : List (Addr × Obj)) (s : Shared) (σ : St) (H : Hp) (Q : List V → Hp → Prop), Inv X pins σ H s → t σ H Q → wpAny (model X.prog X.w) X.A (spliced (backTo pos (starEach es X.env))) (AP X pins σ Q) X.xe s
def PS (X : Cx) (st : Stmt) (t : TS) : Prop :=
  ∀ (pins : List (Addr × Obj)) (s : Shared) (σ : St) (H : Hp) (D : Ends), Inv X pins σ H s → t D σ H → wpAny (model X.prog X.w) X.A (exec st X.env) (SP X pins D) X.xe s
def PSs (X : Cx) (st : List Stmt) (t : TS) : Prop :=
  ∀ (pins : List (Addr × Obj)) (s : Shared) (σ : St) (H : Hp) (D : Ends), Inv X pins σ H s → t D σ H → wpAny (model X.prog X.w) X.A (execs st X.env) (SP X pins D) X.xe s
/-- weaken the end -/
theorem thn {α : Type} {t : Sem α} {Q Q' : α → Shared → Prop} {M : Model} {A : Around} {E : Value → Shared → Prop} {s : Shared} (h : wpAny M A t Q E s) (hQ : ∀ a s, Q a s → Q' a s) : wpAny M A t Q' E s := wpAny_mono h hQ fun _ _ x => x
end L2

namespace L2
open PySem PySem.Spec PyProof.Rows
section
variable {X : Cx}

/-- two expressions in a row -/
theorem bin {a b : Expr} {ta tb : TE} (ha : PE X a ta) (hb : PE X b tb) {pins : List (Addr × Obj)} {s : Shared} {σ : St} {H : Hp} {R : V → V → Hp → Prop} (I : Inv X pins σ H s) (h : ta σ H fun x H1 => tb σ H1 fun y H2 => R x y H2)
    {α : Type} {Q : α → Shared → Prop} {f : Value → Value → Sem α}
    (hf : ∀ v u s2 x y H2, Inv X pins σ H2 s2 → RelV x v → RelV y u → R x y H2 → wpAny (model X.prog X.w) X.A (f v u) Q X.xe s2) :
    wpAny (model X.prog X.w) X.A (eval a X.env) (fun v s₁ => wpAny (model X.prog X.w) X.A (eval b X.env) (fun u s₂ => wpAny (model X.prog X.w) X.A (f v u) Q X.xe s₂) X.xe s₁) X.xe s := by
  refine thn (ha pins s σ H _ I h) fun v s1 ⟨x, H1, I1, r1, q1⟩ => ?_
  refine thn (hb pins s1 σ H1 _ I1 q1) fun u s2 ⟨y, H2, I2, r2, q2⟩ => ?_
  exact hf v u s2 x y H2 I2 r1 r2 q2

/-! ### names and constants -/
def tVar (i : Nat) : TE := fun σ H Q => ∃ v, σ[i]? = some (some v) ∧ Q v H
def tC (v : V) : TE := fun _ H Q => Q v H
theorem pe_var {i : Nat} {x : Str} {pos : Pos} (hN : X.N[i]? = some x) (hv : Vis X.env.scope x) (hd : (x == ("__debug__" : Str)) = false := by decide) (hcd : (x == ("__classdict__" : Str)) = false := by decide) : PE X (.Name x pos) (tVar i) := by
  intro pins s σ H Q I h
  obtain ⟨v, e, h⟩ := h
  obtain ⟨m, hn, hl⟩ := I.loc
  obtain ⟨u, r, l⟩ := hl i x v hN e hv
  have fin : EP X pins σ Q u s := ⟨v, H, I, r, h⟩
  rcases l with ⟨hk, hm⟩ | ⟨hk, c, hc, hcell⟩
  · exact wpAny_Name (wpAny_loadName_local I.ok.kind hk hn hm fin) hd
  · rcases hk with hk | hk
    · exact wpAny_Name (wpAny_loadName_cell I.ok.kind hk hc hcell fin) hd
    · exact wpAny_Name (wpAny_loadName_free I.ok.kind hk hc hcell fin hcd) hd
theorem pe_int {i j pos} : PE X (.Constant (.int i) j pos) (tC (.int i)) := fun _ _ _ H _ I h => wpAny_Constant_int ⟨.int i, H, I.tok _, ⟨_, rfl⟩, h⟩
theorem pe_bl {b j pos} : PE X (.Constant (.bool b) j pos) (tC (.bl b)) := fun _ _ _ H _ I h => Constant_bool ⟨.bl b, H, I, rfl, h⟩
theorem pe_non {j pos} : PE X (.Constant .none j pos) (tC .non) := fun _ _ _ H _ I h => Constant_none ⟨.non, H, I, rfl, h⟩
/-- a global name of the def -/
def Gl (X : Cx) (x : Str) : Prop := X.env.kindOf x = some .globalImplicit
theorem ld_glob {E : Value → Shared → Prop} {pins : List (Addr × Obj)} {s : Shared} {σ : St} {H : Hp} {x : Str} {u : Value} {pos : Pos} {Q : Value → Shared → Prop} (I : Inv X pins σ H s) (hg : Gl X x) (hm : X.mg x = some u) (h : Q u s)
    (hd : (x == ("__debug__" : Str)) = false := by decide) : wpAny (model X.prog X.w) X.A (eval (.Name x pos) X.env) Q E s :=
  Calls.Name_function_global I.ok.kind hg (Calls.loadGlobal_global (by rw [I.ok.glob]; exact I.mod.glob.keeps I.bk) hm h) hd
theorem ld_blt {E : Value → Shared → Prop} {pins : List (Addr × Obj)} {s : Shared} {σ : St} {H : Hp} {x : Str} {u : Value} {pos : Pos} {Q : Value → Shared → Prop} (I : Inv X pins σ H s) (hg : Gl X x) (hm : X.mg x = none) (hv : bootBuiltins x = some u) (h : Q u s)
    (hn : x ≠ "__name__" := by decide) (hd : (x == ("__debug__" : Str)) = false := by decide) : wpAny (model X.prog X.w) X.A (eval (.Name x pos) X.env) Q E s := by
  obtain ⟨mb, h1, h2⟩ := I.mod.blt
  exact Calls.Name_function_global I.ok.kind hg (Calls.loadGlobal_builtin (by rw [I.ok.glob]; exact I.mod.glob.keeps I.bk) hm (by rw [I.ok.blt]; exact h1.keeps I.bk) ((h2 x hn).trans hv) h) hd
theorem pe_bltn {x : Str} {v : V} {u : Value} {pos : Pos} (hg : Gl X x) (hm : X.mg x = none) (hv : bootBuiltins x = some u) (r : RelV v u) (hn : x ≠ "__name__" := by decide) (hd : (x == ("__debug__" : Str)) = false := by decide) : PE X (.Name x pos) (tC v) :=
  fun _ _ _ H _ I h => ld_blt I hg hm hv ⟨v, H, I, r, h⟩ hn hd

variable {a b : Expr} {ta tb : TE} {pos : Pos}
/-! ### comparisons -/
def PC (X : Cx) (op : CmpOp) (a b : Expr) (t : TE) : Prop :=
  ∀ (pins : List (Addr × Obj)) (s : Shared) (σ : St) (H : Hp) (Q : VK), Inv X pins σ H s → t σ H Q →
    wpAny (model X.prog X.w) X.A (eval a X.env) (fun v s₁ => wpAny (model X.prog X.w) X.A (eval b X.env) (fun u s₂ => wpAny (model X.prog X.w) X.A (compareOp op v u) (EP X pins σ Q) X.xe s₂) X.xe s₁) X.xe s
theorem nobehind (b : Expr) {op : CmpOp} (h : op ≠ .In) (h2 : op ≠ .NotIn) : behindInMarks op b = false := by
  have e1 : (op == CmpOp.In) = false := by cases op <;> first | rfl | exact absurd rfl h
  have e2 : (op == CmpOp.NotIn) = false := by cases op <;> first | rfl | exact absurd rfl h2
  cases b <;> simp [behindInMarks, e1, e2]
/-- a comparison as a value, as a test -/
def tB (t : TE) : TT := fun σ H Q => t σ H fun x H1 => ∃ c, x = .bl c ∧ Q c H1
theorem pt_cmp {op : CmpOp} {t : TE} (h : PC X op a b t) (h1 : behindInMarks op b = false := by first | exact nobehind _ (by decide) (by decide) | rfl) : PT X (.Compare a [op] [b] pos) (tB t) := by
  intro pins s σ H Q I hw
  refine wpAny_isTrue_Compare1 (thn (h pins s σ H _ I hw) fun v s1 h1 => thn h1 fun u s2 h2 => thn h2 fun c s3 ⟨x, H1, I1, r1, q1⟩ => ?_) h1
  obtain ⟨d, rfl, q⟩ := q1
  cases r1
  exact wpAny_truthy_bool ⟨H1, I1, q⟩
/-- an expression whose value is a bool, as a test -/
theorem pt_val {e : Expr} {t : TE} (h : PE X e t) (he : ∀ whole, isTrue e X.env whole = (do let v ← whole; standAt e.pos; holding [v] (truthy v)) := by intro _; rfl) : PT X e (tB t) := by
  intro pins s σ H Q I hw
  refine isTrue_plain (thn (h pins s σ H _ I hw) fun v s1 ⟨x, H1, I1, r1, q1⟩ => ?_) (he _)
  obtain ⟨d, rfl, q⟩ := q1
  cases r1
  exact wpAny_truthy_bool ⟨H1, I1, q⟩

/-! ### and, or, not -/
variable {tA tB' : TT} {rest : List Expr}
def tOr (t u : TT) : TT := fun σ H Q => t σ H fun c H1 => if c = true then Q true H1 else u σ H1 Q
def tNot (t : TT) : TT := fun σ H Q => t σ H fun c H1 => Q (!c) H1
theorem pw_or1 (ha : PT X a tA) : PW X (.BoolOp .Or [a] pos) tA := by
  intro wh pins s σ H Q I h
  refine isTrue_or (thn (ha pins s σ H Q I h) fun c s1 e => ?_)
  cases c with
  | false => exact isTrue_or_nil e
  | true => exact e
theorem pw_or (ha : PT X a tA) (hb : PW X (.BoolOp .Or (b :: rest) pos) tB') : PW X (.BoolOp .Or (a :: b :: rest) pos) (tOr tA tB') := by
  intro wh pins s σ H Q I h
  refine isTrue_or (thn (ha pins s σ H _ I h) fun c s1 ⟨H1, I1, q1⟩ => ?_)
  cases c with
  | true => exact ⟨H1, I1, q1⟩
  | false => exact hb wh pins s1 σ H1 Q I1 q1
theorem pt_not (ha : PT X a tA) : PT X (.UnaryOp .Not a pos) (tNot tA) := by
  intro pins s σ H Q I h
  exact isTrue_not (ha pins s σ H (fun c H1 => Q (!c) H1) I h)
/-- .. as values (bools) -/
def tAndV (ta tb : TE) : TE := fun σ H Q => ta σ H fun x H1 => ∃ c, x = .bl c ∧ if c = true then tb σ H1 Q else Q (.bl false) H1
def tNotV (ta : TE) : TE := fun σ H Q => ta σ H fun x H1 => ∃ c, x = .bl c ∧ Q (.bl (!c)) H1
theorem pe_one {op} {t : TE} (h : PE X a t) : PE X (.BoolOp op [a] pos) t := fun pins s σ H Q I hw => BoolOp_one (h pins s σ H Q I hw)
theorem pe_and (ha : PE X a ta) (hb : PE X (.BoolOp .And (b :: rest) pos) tb) : PE X (.BoolOp .And (a :: b :: rest) pos) (tAndV ta tb) := by
  intro pins s σ H Q I h
  refine BoolOp_and (thn (ha pins s σ H _ I h) fun v s1 ⟨x, H1, I1, r1, q1⟩ => ?_)
  obtain ⟨c, rfl, q1⟩ := q1
  cases r1
  refine wpAny_truthy_bool ?_
  cases c with
  | true => exact hb pins s1 σ H1 Q I1 q1
  | false => exact ⟨.bl false, H1, I1, rfl, q1⟩
theorem pe_not (ha : PE X a ta) : PE X (.UnaryOp .Not a pos) (tNotV ta) := by
  intro pins s σ H Q I h
  refine UnaryOp_ (thn (ha pins s σ H _ I h) fun v s1 ⟨x, H1, I1, r1, q1⟩ => ?_)
  obtain ⟨c, rfl, q1⟩ := q1
  cases r1
  exact not_of (wpAny_truthy_bool ⟨.bl (!c), H1, I1, rfl, q1⟩)
end
end L2

namespace L2
open PySem PySem.Spec PyProof.Rows

/-! ### a list, a tuple that is read: tracked, frozen, or an object of the module -/
def SqL (K : PySem.W.Frag) (H : Hp) (a : Addr) (xs : List V) : Prop :=
  Rd H a (.lst xs) ∨
    ∃ (o : Obj) (its : Array Value) (n : Nat), K.lookup a = some o ∧ o.cls = .type "list" ∧ o.dict = none ∧ o.data = .seq its n ∧ its.size ≤ sizeLine ∧ Vals xs its.toList
def SqT (K : PySem.W.Frag) (H : Hp) (a : Addr) (xs : List V) : Prop :=
  Rd H a (.tup xs) ∨
    ∃ (o : Obj) (its : Array Value) (n : Nat), K.lookup a = some o ∧ o.cls = .type "tuple" ∧ o.data = .seq its n ∧ its.size ≤ sizeLine ∧ Vals xs its.toList
def absV : Value → Option V
  | .none => some .non
  | .bool b => some (.bl b)
  | .int i _ => some (.int i)
  | .str x _ => some (.str x)
  | .bytes b _ => some (.byt b)
  | .float b _ => some (.flt b)
  | .ref a => some (.ref a)
  | .type n => some (.ty n)
  | _ => none
theorem RelV.abs {x : V} {u : Value} (r : RelV x u) : absV u = some x := by
  cases x with
  | non => cases r; rfl
  | bl _ => cases r; rfl
  | int _ => obtain ⟨t, rfl⟩ := r; rfl
  | str _ => obtain ⟨t, rfl⟩ := r; rfl
  | byt _ => obtain ⟨t, rfl⟩ := r; rfl
  | flt _ => obtain ⟨t, rfl⟩ := r; rfl
  | ref _ => cases r; rfl
  | ty _ => cases r; rfl
theorem RelV.inj {x y : V} {u : Value} (r : RelV x u) (q : RelV y u) : x = y := Option.some.inj (r.abs.symm.trans q.abs)
theorem Vals.inj : ∀ {xs ys : List V} {us : List Value}, Vals xs us → Vals ys us → xs = ys
  | _, _, _, .nil, .nil => rfl
  | _, _, _, .cons r t, .cons r' t' => by rw [r.inj r', Vals.inj t t']
section
variable {X : Cx} {pins : List (Addr × Obj)} {σ : St} {H : Hp} {s : Shared} {a : Addr} {xs ys : List V}
theorem SqL.of {K : PySem.W.Frag} (h : H a = some (.lst xs)) : SqL K H a xs := .inl (.inl h)
theorem SqT.of {K : PySem.W.Frag} (h : H a = some (.tup xs)) : SqT K H a xs := .inl (.inl h)
theorem Inv.list (I : Inv X pins σ H s) (h : SqL X.K H a xs) : ∃ its : List Value, Vals xs its ∧ PlainL s.heap a its.toArray ∧ xs.length ≤ sizeLine := by
  rcases h with h | ⟨o, its, n, hk, hc, hd, hs, hz, r⟩
  · obtain ⟨z, its, n, r, e⟩ := h.ok I.hok
    exact ⟨its, r, ⟨_, n, e, rfl, rfl, rfl⟩, z⟩
  · refine ⟨its.toList, r, ⟨o, n, I.kIn a o hk, hc, hd, by simpa using hs⟩, ?_⟩
    have e := r.length
    simp only [Array.length_toList] at e
    omega
theorem Inv.tuple (I : Inv X pins σ H s) (h : SqT X.K H a xs) : ∃ its : List Value, Vals xs its ∧ IsTup s.heap a its.toArray ∧ xs.length ≤ sizeLine := by
  rcases h with h | ⟨o, its, n, hk, hc, hs, hz, r⟩
  · obtain ⟨z, its, r, p⟩ := h.ok I.hok
    exact ⟨its, r, p, z⟩
  · refine ⟨its.toList, r, ⟨o, I.kIn a o hk, hc, n, by simpa using hs⟩, ?_⟩
    have e := r.length
    simp only [Array.length_toList] at e
    omega
theorem Inv.list_inj (I : Inv X pins σ H s) (h : SqL X.K H a xs) (h' : SqL X.K H a ys) : xs = ys := by
  obtain ⟨its, r, ⟨o, n, e, _, _, d⟩, _⟩ := I.list h
  obtain ⟨its', r', ⟨o', n', e', _, _, d'⟩, _⟩ := I.list h'
  rw [e] at e'; cases e'
  rw [d] at d'
  injection d' with d1 _
  have : its = its' := by simpa using congrArg Array.toList d1
  subst this
  exact r.inj r'
end

/-! ### another wish about exceptions -/
abbrev Cx.wish (X : Cx) (E : Value → Shared → Prop) : Cx := { X with xe := E }
/-- no exception leaves -/
abbrev Cx.nox (X : Cx) : Cx := X.wish fun _ _ => False
theorem Cx.Ok.wish {X : Cx} (ok : X.Ok) (E : Value → Shared → Prop) : (X.wish E).Ok :=
  ⟨ok.mod, ok.kind, ok.glob, ok.blt, ok.above, ok.inj, ok.has, ok.cab, ok.hd, ok.frames, ok.stk, ok.exf, ok.bs, ok.bsz, ok.noex, ok.exfs, ok.funs, ok.frf⟩
theorem Cx.Ok.unwish {X : Cx} {E : Value → Shared → Prop} (ok : (X.wish E).Ok) : X.Ok :=
  ⟨ok.mod, ok.kind, ok.glob, ok.blt, ok.above, ok.inj, ok.has, ok.cab, ok.hd, ok.frames, ok.stk, ok.exf, ok.bs, ok.bsz, ok.noex, ok.exfs, ok.funs, ok.frf⟩
section
variable {X : Cx} {pins : List (Addr × Obj)} {σ : St} {H : Hp} {s : Shared} {E : Value → Shared → Prop}
theorem Inv.wish (I : Inv X pins σ H s) (E : Value → Shared → Prop) : Inv (X.wish E) pins σ H s := ⟨I.ok.wish E, I.os, I.bare, I.base, I.loc, I.cell, I.free, I.freeC, I.pin, I.hok, I.len⟩
theorem Inv.unwish (I : Inv (X.wish E) pins σ H s) : Inv X pins σ H s := ⟨I.ok.unwish, I.os, I.bare, I.base, I.loc, I.cell, I.free, I.freeC, I.pin, I.hok, I.len⟩
theorem SP.unwish {D : Ends} {f : Flow} {s' : Shared} (h : SP (X.wish E) pins D f s') : SP X pins D f s' := by
  cases f with
  | next => obtain ⟨σ', H', I, q⟩ := h; exact ⟨σ', H', I.unwish, q⟩
  | brk => obtain ⟨σ', H', I, q⟩ := h; exact ⟨σ', H', I.unwish, q⟩
  | cont => obtain ⟨σ', H', I, q⟩ := h; exact ⟨σ', H', I.unwish, q⟩
  | ret u => obtain ⟨v, σ', H', I, r, q⟩ := h; exact ⟨v, σ', H', I.unwish, r, q⟩
theorem PSs.nox {st : List Stmt} {t : TS} (h : PSs X.nox st t) : PSs X st t := fun pins s σ H D I hw =>
  wpAny_mono (h pins s σ H D (I.wish _) hw) (fun _ _ q => q.unwish) fun _ _ z => False.elim z
end

/-! ### blocks and small statements -/
section
variable {X : Cx} {st : Stmt} {rest : List Stmt} {t u : TS} {e : Expr} {te : TE} {pos : Pos}
def tNext : TS := fun D σ H => D.nx σ H
def tSeq (t u : TS) : TS := fun D σ H => t { D with nx := u D } σ H
theorem pss_nil : PSs X [] tNext := fun _ _ σ H _ I h => wpAny_execs_nil ⟨σ, H, I, h⟩
theorem pss_cons (h1 : PS X st t) (h2 : PSs X rest u) : PSs X (st :: rest) (tSeq t u) := by
  intro pins s σ H D I h
  refine wpAny_execs_cons (thn (h1 pins s σ H { D with nx := u D } I h) fun f s1 q => ?_)
  cases f with
  | next =>
    obtain ⟨σ', H', I', q⟩ := q
    exact h2 pins s1 σ' H' D I' q
  | ret v => exact q
  | brk => exact q
  | cont => exact q
theorem pss_one (h1 : PS X st t) : PSs X [st] t := by
  intro pins s σ H D I h
  refine wpAny_execs_cons (thn (h1 pins s σ H D I h) fun f s1 q => ?_)
  cases f with
  | next => exact wpAny_execs_nil q
  | ret v => exact q
  | brk => exact q
  | cont => exact q
/-- in a def's body nothing is shown -/
theorem Inv.quiet {pins : List (Addr × Obj)} {σ : St} {H : Hp} {s : Shared} (I : Inv X pins σ H s) : interactive X.env = false := by simp [interactive, I.ok.kind]
/-- an expression whose value is dropped -/
def tDrop (te : TE) : TS := fun D σ H => te σ H fun _ H1 => D.nx σ H1
theorem ps_expr (he : PE X e te) (hs : swapsWith e none pos.line X.env = pure false := by rfl) : PS X (.Expr e pos) (tDrop te) := by
  intro pins s σ H D I h
  exact wpAny_Expr_any (thn (he pins s σ H _ I h) fun v s1 ⟨x, H1, I1, r1, q1⟩ => ⟨σ, H1, I1, q1⟩) I.quiet hs
def tRet (te : TE) : TS := fun D σ H => te σ H D.rt
theorem ps_ret (he : PE X e te) : PS X (.Return (some e) pos) (tRet te) := by
  intro pins s σ H D I h
  exact wpAny_Return_some (thn (he pins s σ H _ I h) fun v s1 ⟨x, H1, I1, r1, q1⟩ => ⟨x, σ, H1, I1, r1, q1⟩)
def tIfS (c : TT) (t u : TS) : TS := fun D σ H => c σ H fun b H1 => if b = true then t D σ H1 else u D σ H1
theorem ps_if {c : Expr} {a b : List Stmt} {tc : TT} (hc : PT X c tc) (ha : PSs X a t) (hb : PSs X b u) : PS X (.If c a b pos) (tIfS tc t u) := by
  intro pins s σ H D I h
  refine wpAny_If (thn (hc pins s σ H _ I h) fun d s1 ⟨H1, I1, q1⟩ => ?_)
  cases d with
  | true => exact ha pins s1 σ H1 D I1 q1
  | false => exact hb pins s1 σ H1 D I1 q1
end

/-! ### targets -/
abbrev TG := V → St → Hp → (St → Hp → Prop) → Prop
abbrev TGs := List V → St → Hp → (St → Hp → Prop) → Prop
def PG (X : Cx) (target : Expr) (t : TG) : Prop :=
  ∀ (pins : List (Addr × Obj)) (s : Shared) (σ : St) (H : Hp) (v : V) (u : Value) (Q : St → Hp → Prop), Inv X pins σ H s → RelV v u → t v σ H Q →
    wpAny (model X.prog X.w) X.A (assign target X.env u) (fun _ s' => ∃ σ' H', Inv X pins σ' H' s' ∧ Q σ' H') X.xe s
/-- several targets, one after another -/
def PGs (X : Cx) (ts : List Expr) (t : TGs) : Prop :=
  ∀ (pins : List (Addr × Obj)) (s : Shared) (σ : St) (H : Hp) (vs : List V) (us : List Value) (Q : St → Hp → Prop), Inv X pins σ H s → Vals vs us → t vs σ H Q →
    wpAny (model X.prog X.w) X.A (assignInOrder ((assignEach ts X.env).map (·.2)) us) (fun _ s' => ∃ σ' H', Inv X pins σ' H' s' ∧ Q σ' H') X.xe s
/-- o[i] = v, by values -/
abbrev TSet := V → V → V → Hp → (Hp → Prop) → Prop
def PSet (X : Cx) (t : TSet) : Prop :=
  ∀ (pins : List (Addr × Obj)) (s : Shared) (σ : St) (H : Hp) (o i v : V) (ov iv u : Value) (Q : Hp → Prop), Inv X pins σ H s → RelV o ov → RelV i iv → RelV v u → t o i v H Q →
    wpAny (model X.prog X.w) X.A (setItem ov iv u) (fun _ s' => ∃ H', Inv X pins σ H' s' ∧ Q H') X.xe s
section
variable {X : Cx} {pos : Pos}
def gName (i : Nat) : TG := fun v σ H Q => Q (σ.set i (some v)) H
theorem pg_name {i : Nat} {x : Str} (hN : X.N.Nodup) (hi : X.N[i]? = some x) (hx : Loc X.env.scope x) (hf : X.fn x = true ∨ X.env.scope.names.lookup x = some .local := by first | exact .inl rfl | exact .inr rfl | assumption) : PG X (.Name x pos) (gName i) := by
  intro pins s σ H v u Q I r h
  exact wpAny_assign_Name (store_ok I hN hi hx r (fun s' I' => ⟨_, H, I', h⟩) hf)
def gNil : TGs := fun vs σ H Q => vs = [] ∧ Q σ H
def gCons (t : TG) (u : TGs) : TGs := fun vs σ H Q => ∃ v r, vs = v :: r ∧ t v σ H fun σ' H' => u r σ' H' Q
theorem pgs_nil : PGs X [] gNil := by
  intro pins s σ H vs us Q I r h
  obtain ⟨e, h⟩ := h
  subst e
  cases r
  exact assignInOrder_nil ⟨σ, H, I, h⟩
theorem pgs_cons {e : Expr} {es : List Expr} {t : TG} {u : TGs} (h1 : PG X e t) (h2 : PGs X es u)
    (hs : (assignEach (e :: es) X.env).map (·.2) = assign e X.env :: (assignEach es X.env).map (·.2) := by rfl) : PGs X (e :: es) (gCons t u) := by
  intro pins s σ H vs us Q I r h
  obtain ⟨v, vr, e1, h⟩ := h
  subst e1
  cases r with
  | cons r rr =>
    rw [hs]
    refine assignInOrder_cons (thn (h1 pins s σ H _ _ _ I r h) fun _ s1 ⟨σ1, H1, I1, q1⟩ => ?_)
    exact h2 pins s1 σ1 H1 _ _ Q I1 rr q1
/-- (a, b, ..) = a tuple of that length -/
def gTup (K : PySem.W.Frag) (n : Nat) (t : TGs) : TG := fun v σ H Q => ∃ a xs, v = .ref a ∧ SqT K H a xs ∧ xs.length = n ∧ t xs σ H Q
theorem pg_tup {es : List Expr} {k : Nat} {t : TGs} {n : Nat} (hc : X.calm = true) (h : PGs X es t)
    (hn : (assignEach es X.env).length = n := by rfl) (hst : (assignEach es X.env).findIdx? (·.1) = none := by rfl) : PG X (.Tuple es k pos) (gTup X.K n t) := by
  intro pins s σ H v u Q I r hw
  obtain ⟨a, xs, e1, hq, hl, hw⟩ := hw
  subst e1
  cases r
  obtain ⟨its, rv, ht, hz⟩ := I.tuple hq
  refine assign_Tuple_tuple (I.ok.hd hc) ht (by simp [hn, ← hl, rv.length]) hst fun h' hx => ?_
  have I1 : Inv X pins σ H { s with heap := h' } := I.kept (t' := s.toks) fun b o e => hx b o (Nat.ne_of_lt (Heap.lt_size e)) e
  exact h pins _ σ H xs _ Q I1 (by simpa using rv) hw
/-- o[i] = .. -/
def gSub (to ti : TE) (t : TSet) : TG := fun v σ H Q => to σ H fun o H1 => ti σ H1 fun i H2 => t o i v H2 fun H3 => Q σ H3
theorem pg_sub {o i : Expr} {to ti : TE} {t : TSet} (ho : PE X o to) (hi : PE X i ti) (hs : PSet X t)
    (ha : ∀ v, assign (.Subscript o i pos) X.env v = (do
      let ov ← holding [v] (eval o X.env)
      let iv ← holding [v, ov] (eval i X.env)
      standAt pos
      holding [v, ov, iv] (setItem ov iv v)
      release [v, ov, iv] []) := by intro _; rfl) : PG X (.Subscript o i pos) (gSub to ti t) := by
  intro pins s σ H v u Q I r h
  rw [ha]
  refine wpAny_bind (wpAny_holding (thn (ho pins s σ H _ I h) fun ov s1 ⟨x, H1, I1, r1, q1⟩ => ?_))
  refine wpAny_bind (wpAny_holding (thn (hi pins s1 σ H1 _ I1 q1) fun iv s2 ⟨y, H2, I2, r2, q2⟩ => ?_))
  refine wpAny_bind (wpAny_standAt (wpAny_bind (wpAny_holding (thn (hs pins s2 σ H2 x y v ov iv u _ I2 r1 r2 r q2) fun _ s3 ⟨H3, I3, q3⟩ => ?_))))
  exact wpAny_release ⟨σ, H3, I3, q3⟩
/-- target = value -/
def tAsg (te : TE) (g : TG) : TS := fun D σ H => te σ H fun x H1 => g x σ H1 D.nx
theorem ps_asg {tg e : Expr} {te : TE} {g : TG} (he : PE X e te) (hg : PG X tg g) (hs : swapsWithSole [tg] e pos.line X.env = pure false := by rfl) (hw : swappedStores [tg] e X.env = pure none := by rfl)
    (h1 : (assignEach [tg] X.env).map (·.2) = [assign tg X.env] := by rfl) : PS X (.Assign [tg] e pos) (tAsg te g) := by
  intro pins s σ H D I h
  refine wpAny_Assign_stores (thn (he pins s σ H _ I h) fun v s1 ⟨x, H1, I1, r1, q1⟩ => ?_) hs hw
  rw [h1]
  exact thn (hg pins s1 σ H1 x v _ I1 r1 q1) fun _ s2 q => q
/-- name = value -/
theorem ps_set {i : Nat} {x : Str} {e : Expr} {te : TE} {pos' : Pos} (hN : X.N.Nodup) (hi : X.N[i]? = some x) (hx : Loc X.env.scope x) (he : PE X e te) (hs : swapsWith e (some (.Name x pos')) pos.line X.env = pure false := by rfl) (hf : X.fn x = true ∨ X.env.scope.names.lookup x = some .local := by first | exact .inl rfl | exact .inr rfl | assumption) :
    PS X (.Assign [.Name x pos'] e pos) (tAsg te (gName i)) := by
  intro pins s σ H D I h
  refine wpAny_Assign_Name (thn (he pins s σ H _ I h) fun v s1 ⟨y, H1, I1, r1, q1⟩ => ?_) hs
  exact store_ok I1 hN hi hx r1 (fun s2 I2 => ⟨_, H1, I2, q1⟩) hf
end

/-! ### while -/
section
variable {X : Cx} {pos : Pos}
/-- the invariant W with its measure -/
def tWhile (c : TT) (tb : TS) : TS := fun D σ H => ∃ W : Nat → St → Hp → Prop, (∃ m, W m σ H) ∧ ∀ m σ H, W m σ H →
  c σ H fun b H1 => if b = true then ∃ N : St → Hp → Prop, (∀ σ' H', N σ' H' → ∃ m', m' < m ∧ W m' σ' H') ∧ tb { D with nx := N, ct := N, bk := D.nx } σ H1 else D.nx σ H1
theorem ps_while {c : Expr} {body : List Stmt} {tc : TT} {tb : TS} (hp : PassesOwn (model X.prog X.w) X.A X.env X.xe) (hc : PT X c tc) (hb : PSs X body tb) : PS X (.While c body [] pos) (tWhile tc tb) := by
  intro pins s σ H D I h
  obtain ⟨W, ⟨m0, w0⟩, turn⟩ := h
  refine wpAny_While (codeAny_whileLoop (fun n s' => ∃ σ' H', Inv X pins σ' H' s' ∧ W n σ' H') ?_ m0 ⟨σ, H, I, w0⟩)
  rintro n s1 ⟨σ1, H1, I1, w1⟩
  refine wpAny_passesOwn hp (thn (hc pins s1 σ1 H1 _ I1 (turn n σ1 H1 w1)) fun b s2 ⟨H2, I2, q2⟩ => ?_)
  cases b with
  | true =>
    obtain ⟨N, hN, q2⟩ := q2
    rw [if_pos rfl]
    refine wpAny_passesOwn hp (thn (hb pins s2 σ1 H2 _ I2 q2) fun f s3 q3 => ?_)
    cases f with
    | next =>
      obtain ⟨σ3, H3, I3, n3⟩ := q3
      obtain ⟨m', hm, w3⟩ := hN σ3 H3 n3
      exact ⟨m', hm, σ3, H3, I3, w3⟩
    | cont =>
      obtain ⟨σ3, H3, I3, n3⟩ := q3
      obtain ⟨m', hm, w3⟩ := hN σ3 H3 n3
      exact ⟨m', hm, σ3, H3, I3, w3⟩
    | brk => exact q3
    | ret v => exact q3
  | false =>
    rw [if_neg Bool.false_ne_true]
    exact wpAny_execs_nil ⟨σ1, H2, I2, q2⟩
end

/-! ### what a loop or a comprehension walks -/
/-- at turn i: it yields x (the heap may grow), or it stops -/
structure It where
  go : Nat → Hp → Prop
  yld : Nat → Hp → V → Hp → Prop
  stop : Nat → Hp → Prop
/-- the iterator's own objects may turn: they are not the frame's, not pinned, younger than the entry (or a comprehension's own) -/
def FpOk (X : Cx) (pins : List (Addr × Obj)) (H : Hp) (b : Addr) : Prop :=
  H b = none ∧ b ≠ X.env.locals ∧ b ∉ X.fs ∧ (b ∈ X.ex ∨ X.s₀.heap.objs.size ≤ b) ∧ (∀ x c, X.env.cells.lookup x = some c → c ≠ b) ∧ ∀ p ∈ X.pn ++ pins, p.1 ≠ b
theorem Inv.fpOk {X : Cx} {pins : List (Addr × Obj)} {σ : St} {H H' : Hp} {s : Shared} {b : Addr} (I : Inv X pins σ H s) (hb : s.heap.objs.size ≤ b) (hn : H' b = none) : FpOk X pins H' b := by
  refine ⟨hn, Nat.ne_of_gt (Nat.lt_of_lt_of_le I.lt hb), I.nofs hb, .inr (Nat.le_trans I.sz hb), fun x c e z => ?_, fun p hp z => ?_⟩
  · obtain ⟨v, q⟩ := I.cell x c e
    exact absurd (Nat.lt_of_lt_of_le q.lt (by rw [z]; exact hb)) (Nat.lt_irrefl _)
  · exact absurd (Nat.lt_of_lt_of_le (Heap.lt_size (I.pin p hp).1) (by rw [z]; exact hb)) (Nat.lt_irrefl _)
structure Turn (P : Program) (w : World) (K : PySem.W.Frag) (tg : Expr) (J : It) (fp : List Addr) (it : Addr) (tn : Nat → Heap → Prop) : Prop where
  mem : it ∈ fp
  obj : ∀ i h, tn i h → ∀ b ∈ fp, ∃ o, h.get? b = some o ∧ ∀ v, o.data ≠ .cell v
  keep : ∀ i h h', tn i h → (∀ b ∈ fp, ∀ o, h.get? b = some o → h'.get? b = some o) → tn i h'
  item : ∀ (X : Cx), X.prog = P → X.w = w → X.K = K → X.calm = true → ∀ (i : Nat) (pins : List (Addr × Obj)) (s : Shared) (σ : St) (H : Hp) (E : Value → Shared → Prop), Inv X pins σ H s → (∀ b ∈ fp, FpOk X pins H b) → tn i s.heap → J.go i H →
    wpAny (model P w) X.A (pyNext (.ref it)) (fun r s1 => ∃ u, r = some u ∧
      wpAny (model P w) X.A (letOwnedTupleGo tg (.ref it) u) (fun _ s2 => ∃ x H', Inv X pins σ H' s2 ∧ RelV x u ∧ J.yld i H x H' ∧ tn (i + 1) s2.heap ∧ ∀ b ∈ fp, H' b = none) E s1) E s
  done : ∀ (X : Cx), X.prog = P → X.w = w → X.K = K → X.calm = true → ∀ (i : Nat) (pins : List (Addr × Obj)) (s : Shared) (σ : St) (H : Hp) (E : Value → Shared → Prop), Inv X pins σ H s → (∀ b ∈ fp, FpOk X pins H b) → tn i s.heap → J.stop i H →
    wpAny (model P w) X.A (pyNext (.ref it)) (fun r s1 => r = none ∧ Inv X pins σ H s1) E s
  self : ∀ (A : Around) (i : Nat) (s : Shared) (Q : Value → Shared → Prop) (E : Value → Shared → Prop), tn i s.heap → Q (.ref it) s → wpAny (model P w) A (pyIter (.ref it)) Q E s
abbrev TI := St → Hp → (It → Hp → Prop) → Prop
/-- an iterator has come -/
def PIE (X : Cx) (pins : List (Addr × Obj)) (σ : St) (tg : Expr) (R : It → Hp → Prop) (itv : Value) (s2 : Shared) : Prop :=
  ∃ (it : Addr) (fp : List Addr) (tn : Nat → Heap → Prop) (J : It) (H' : Hp), itv = .ref it ∧ Inv X pins σ H' s2 ∧ Turn X.prog X.w X.K tg J fp it tn ∧ tn 0 s2.heap ∧ (∀ b ∈ fp, FpOk X pins H' b) ∧ R J H'
def PI (X : Cx) (tg iter : Expr) (wi : TI) : Prop :=
  ∀ (pins : List (Addr × Obj)) (s : Shared) (σ : St) (H : Hp) (R : It → Hp → Prop), Inv X pins σ H s → wi σ H R →
    wpAny (model X.prog X.w) X.A (eval iter X.env) (fun v s1 => wpAny (model X.prog X.w) X.A (pyIter v) (PIE X pins σ tg R) X.xe s1) X.xe s

/-- the step ahead of the store is nothing for an iterator that keeps no tuple -/
theorem go_of {M : Model} {A : Around} {E : Value → Shared → Prop} {s : Shared} {tg : Expr} {it : Addr} {u : Value} {o : Obj} {n : String} {vs : Array Value} {Q : Unit → Shared → Prop} (ho : s.heap.get? it = some o) (hc : o.cls = .type n) (hd : o.data = .fields vs)
    (hn : ["enumerate", "zip", "dict_itemiterator", "dict_reverseitemiterator", "odict_iterator", "itertools.zip_longest", "itertools.pairwise"].contains n = false) (hQ : Q () s) : wpAny M A (letOwnedTupleGo tg (.ref it) u) Q E s := by
  unfold letOwnedTupleGo
  cases tg <;> first
    | exact wpAny_pure hQ
    | (cases u <;> first
        | exact wpAny_pure hQ
        | (refine wpAny_bind (wpAny_load ho ?_)
           rw [hc, hd]
           show wpAny M A (if (["enumerate", "zip", "dict_itemiterator", "dict_reverseitemiterator", "odict_iterator", "itertools.zip_longest", "itertools.pairwise"].contains n && vs[0]? == some (rawInt _)) = true then _ else _) Q E s
           rw [if_neg (by intro h; rw [hn, Bool.false_and] at h; cases h)]
           exact wpAny_pure hQ))

/-- the list at a, as it stands at each turn (a loop may append to it) -/
def Itl (K : PySem.W.Frag) (a : Addr) : It :=
  ⟨fun i H => ∃ xs x, SqL K H a xs ∧ xs[i]? = some x, fun i H x H' => H' = H ∧ ∀ xs, SqL K H a xs → xs[i]? = some x, fun i H => ∃ xs, SqL K H a xs ∧ xs.length ≤ i⟩
/-- lo, lo + 1, .. (n of them) -/
def Itr (lo : Int) (n : Nat) : It := ⟨fun i _ => i < n, fun i H x H' => H' = H ∧ x = .int (lo + i), fun i _ => n ≤ i⟩
theorem turn_list {P : Program} {w : World} {K : PySem.W.Frag} {tg : Expr} (a it : Addr) : Turn P w K tg (Itl K a) [it] it (fun i h => h.IsListIter it a i) where
  mem := by simp
  obj := fun i h st b hb => by
    have e : b = it := by simpa using hb
    subst e
    obtain ⟨o, e, c, d⟩ := st
    exact ⟨o, e, fun v z => by rw [d] at z; cases z⟩
  keep := fun i h h' st k => st.at fun o e => k it (by simp) o e
  item := by
    intro X hP hw hK hc i pins s σ H E I hf st hg
    subst hP hw hK
    obtain ⟨xs, x, hq, hx⟩ := hg
    obtain ⟨its, rv, p, hz⟩ := I.list hq
    obtain ⟨u, hu, ru⟩ := rv.get hx
    obtain ⟨f0, f1, f2, f3, f4, f5⟩ := hf it (by simp)
    refine wpAny_pyNext_list_item st p.isList (x := u) (by simpa using hu) fun h' st' sb => ?_
    have I1 : Inv X pins σ H { s with heap := h' } := I.turned (t' := s.toks) (fun b o hb e => (sb.2 b hb).trans e) f0 f1 f3 f4 f5
    obtain ⟨o, e, c, d⟩ := id st'
    exact ⟨u, rfl, go_of (s := { s with heap := h' }) e c d (by decide) ⟨x, H, I1, ru, ⟨rfl, fun ys hy => by rw [I.list_inj hy hq]; exact hx⟩, st', fun b hb => (hf b hb).1⟩⟩
  done := by
    intro X hP hw hK hc i pins s σ H E I hf st hg
    subst hP hw hK
    obtain ⟨xs, hq, hx⟩ := hg
    obtain ⟨its, rv, p, hz⟩ := I.list hq
    obtain ⟨f0, f1, f2, f3, f4, f5⟩ := hf it (by simp)
    have hl := rv.length
    exact wpAny_pyNext_list_end (I.ok.hd hc) st p.isList (by simp; omega) fun h' eb => ⟨rfl, I.turned (t' := s.toks) (fun b o hb e => eb b o hb e) f0 f1 f3 f4 f5⟩
  self := fun _ _ _ _ _ st h => wpAny_pyIter_listiter st h
theorem turn_range {P : Program} {w : World} {K : PySem.W.Frag} {tg : Expr} (it : Addr) (lo : Int) (n : Nat) : Turn P w K tg (Itr lo n) [it] it (fun i h => IsRangeIter h it (lo + (i : Nat) * 1) ((n : Int) - (i : Nat)) 1) where
  mem := by simp
  obj := fun i h st b hb => by
    have e : b = it := by simpa using hb
    subst e
    exact ⟨_, st, fun v z => by
      have z' : Data.fields _ = Data.cell v := z
      cases z'⟩
  keep := fun i h h' st k => k it (by simp) _ st
  item := by
    intro X hP hw hK hc i pins s σ H E I hf st hg
    subst hP hw hK
    obtain ⟨f0, f1, f2, f3, f4, f5⟩ := hf it (by simp)
    have W := Walks.range (prog := X.prog) (w := X.w) (I.ok.hd hc) it lo 1 n
    refine W.item i s _ _ hg st fun v h' tk hv st' kk => ?_
    obtain ⟨t, rfl⟩ := hv
    have I1 : Inv X pins σ H { s with heap := h', toks := tk } := I.turned (fun b o hb e => kk b o (by simpa using hb) e) f0 f1 f3 f4 f5
    refine ⟨_, rfl, go_of (s := { s with heap := h', toks := tk }) (n := "range_iterator") st' rfl rfl (by decide) ⟨.int (lo + i), H, I1, ⟨t, ?_⟩, ⟨rfl, rfl⟩, st', fun b hb => (hf b hb).1⟩⟩
    rw [Int.mul_one]
  done := by
    intro X hP hw hK hc i pins s σ H E I hf st hg
    subst hP hw hK
    obtain ⟨f0, f1, f2, f3, f4, f5⟩ := hf it (by simp)
    exact wpAny_pyNext_range_end (I.ok.hd hc) st (by have : n ≤ i := hg; omega) fun h' eb => ⟨rfl, I.turned (t' := s.toks) (fun b o hb e => eb b o hb e) f0 f1 f3 f4 f5⟩
  self := fun _ _ _ _ _ st h => wpAny_pyIter_rangeiter st h
end L2

namespace L2
open PySem PySem.Spec PyProof.Rows
section
variable {X : Cx} {tg : Expr}
def iList (K : PySem.W.Frag) (tl : TE) : TI := fun σ H R => tl σ H fun x H1 => ∃ a, x = .ref a ∧ (∃ xs, SqL K H1 a xs) ∧ R (Itl K a) H1
theorem pi_list {l : Expr} {tl : TE} (hl : PE X l tl) : PI X tg l (iList X.K tl) := by
  intro pins s σ H R I h
  refine thn (hl pins s σ H _ I h) fun v s1 ⟨x, H1, I1, r1, q1⟩ => ?_
  obtain ⟨a, e, ⟨xs, hq⟩, q⟩ := q1
  subst e
  cases r1
  obtain ⟨its, rv, p, hz⟩ := I1.list hq
  refine wpAny_pyIter_list p.isList ?_
  refine ⟨s1.heap.objs.size, [s1.heap.objs.size], _, _, H1, rfl, I1.kept (t' := s1.toks) fun b o e => Heap.get?_push_of_some _ e, turn_list a _, ⟨_, Heap.get?_push_size _ rfl, rfl, rfl⟩, fun b hb => ?_, q⟩
  have e : b = s1.heap.objs.size := by simpa using hb
  subst e
  exact I1.fpOk (Nat.le_refl _) (I1.hok.fresh (Nat.le_refl _))
/-- a range object just made, walked -/
theorem range_it {pins : List (Addr × Obj)} {σ : St} {H : Hp} {s : Shared} {R : It → Hp → Prop} {E : Value → Shared → Prop} {lo hi : Int} {t u v : Tok} {tk : Nat} (I : Inv X pins σ H s) (h1 : -(2 ^ 62) ≤ lo) (h2 : lo < 2 ^ 62) (h3 : -(2 ^ 62) ≤ hi) (h4 : hi < 2 ^ 62)
    (q : R (Itr lo (hi - lo).toNat) H) : wpAny (model X.prog X.w) X.A (pyIter (.ref s.heap.objs.size)) (PIE X pins σ tg R) E { s with heap := s.heap.push { cls := .type "range", data := .fields #[.int lo t, .int hi u, .int 1 v] }, toks := tk } := by
  refine wpAny_pyIter_range (IsRange.new ..) (small_one h1 h2 h3 h4) ?_
  have I1 : Inv X pins σ H { s with heap := s.heap.push { cls := .type "range", data := .fields #[.int lo t, .int hi u, .int 1 v] }, toks := tk } := I.kept fun b o e => Heap.get?_push_of_some _ e
  refine ⟨(s.heap.push { cls := .type "range", data := .fields #[.int lo t, .int hi u, .int 1 v] }).objs.size, [(s.heap.push { cls := .type "range", data := .fields #[.int lo t, .int hi u, .int 1 v] }).objs.size], _, _, H, rfl,
    I1.kept (t' := tk) fun b o e => Heap.get?_push_of_some _ e, turn_range _ lo (hi - lo).toNat, ?_, fun b hb => ?_, q⟩
  · have e1 : lo + ((0 : Nat) : Int) * 1 = lo := by simp
    have e2 : (((hi - lo).toNat : Nat) : Int) - ((0 : Nat) : Int) = Builtin.Range.rangeSize lo hi 1 := by rw [rangeSize_one]; split <;> omega
    show IsRangeIter _ _ (lo + ((0 : Nat) : Int) * 1) ((((hi - lo).toNat : Nat) : Int) - ((0 : Nat) : Int)) 1
    rw [e1, e2]
    exact Heap.get?_push_size _ rfl
  · have e : b = (s.heap.push { cls := .type "range", data := .fields #[.int lo t, .int hi u, .int 1 v] }).objs.size := by simpa using hb
    subst e
    exact I1.fpOk (Nat.le_refl _) (I1.hok.fresh (Nat.le_refl _))
def iRng1 (ta : TA) : TI := fun σ H R => ta σ H fun vs H1 => ∃ j : Int, vs = [.int j] ∧ -(2 ^ 62) ≤ j ∧ j < 2 ^ 62 ∧ R (Itr 0 j.toNat) H1
theorem pi_range1 {a : Expr} {ta : TA} {p pos : Pos} (hg : Gl X "range") (hm : X.mg "range" = none) (ha : PA X [a] ta) (hs : starEach [a] X.env = [(false, eval a X.env)] := by rfl) : PI X tg (.Call (.Name "range" p) [a] [] pos) (iRng1 ta) := by
  intro pins s σ H R I h
  refine Call_ (ld_blt I hg hm boot_range (PyProof.Rows.callWith_type1 (thn (ha pos pins s σ H _ I h) fun us s1 ⟨vs, H1, I1, r1, q1⟩ => ?_) hs rfl))
  obtain ⟨j, e, q1, q2, q⟩ := q1
  subst e
  cases r1 with
  | cons r rr =>
    cases rr
    obtain ⟨t, rfl⟩ := r
    exact call_range_1 (range_it I1 (by omega) (by omega) q1 q2 (by simpa using q))
/-! ### for -/
/-- W: the invariant by the turn and a measure; N: what the body is to reach -/
def tFor (wi : TI) (g : TG) (tb : TS) : TS := fun D σ H => wi σ H fun J H1 => ∃ W : Nat → Nat → St → Hp → Prop, (∃ m, W 0 m σ H1) ∧ ∀ i m σ H, W i m σ H →
  (J.stop i H ∧ D.nx σ H) ∨ (J.go i H ∧ ∃ N : St → Hp → Prop, (∀ σ' H', N σ' H' → ∃ m', m' < m ∧ W (i + 1) m' σ' H') ∧ ∀ x H', J.yld i H x H' → g x σ H' fun σ2 H2 => tb { D with nx := N, ct := N, bk := D.nx } σ2 H2)
/-- the records at fp as they stand -/
def pinsAt (fp : List Addr) (h : Heap) : List (Addr × Obj) := fp.filterMap fun b => (h.get? b).map fun o => (b, o)
theorem mem_pinsAt {fp : List Addr} {h : Heap} {b : Addr} {o : Obj} (hb : b ∈ fp) (e : h.get? b = some o) : (b, o) ∈ pinsAt fp h := List.mem_filterMap.mpr ⟨b, hb, by rw [e]; rfl⟩
theorem of_pinsAt {fp : List Addr} {h : Heap} {p : Addr × Obj} (hp : p ∈ pinsAt fp h) : p.1 ∈ fp ∧ h.get? p.1 = some p.2 := by
  obtain ⟨b, hb, e⟩ := List.mem_filterMap.mp hp
  cases q : h.get? b with
  | none => rw [q] at e; cases e
  | some o =>
    rw [q] at e
    have e' : (b, o) = p := Option.some.inj e
    subst e'
    exact ⟨hb, q⟩
theorem Inv.pinned {pins : List (Addr × Obj)} {σ : St} {H : Hp} {s : Shared} {fp : List Addr} (I : Inv X pins σ H s) (hf : ∀ b ∈ fp, FpOk X pins H b) (ho : ∀ b ∈ fp, ∃ o, s.heap.get? b = some o ∧ ∀ v, o.data ≠ .cell v) : Inv X (pins ++ pinsAt fp s.heap) σ H s :=
  I.pins_of fun p hp => (List.mem_append.mp hp).elim (fun z => I.pin p (List.mem_append_right _ z)) fun z => by
    obtain ⟨hb, e⟩ := of_pinsAt z
    obtain ⟨f0, f1, f2, _⟩ := hf p.1 hb
    obtain ⟨o, e', d⟩ := ho p.1 hb
    rw [e] at e'; cases e'
    exact ⟨e, f0, f1, f2, d⟩
theorem Inv.unpinned {pins pl : List (Addr × Obj)} {σ : St} {H : Hp} {s : Shared} (I : Inv X (pins ++ pl) σ H s) : Inv X pins σ H s := I.pins_of fun p hp => I.pin p (List.mem_append_right _ (List.mem_append_left _ hp))
theorem ps_for {iter : Expr} {body : List Stmt} {wi : TI} {g : TG} {tb : TS} {pos : Pos} (hp : PassesOwn (model X.prog X.w) X.A X.env X.xe) (hc : X.calm = true) (hi : PI X tg iter wi) (hg : PG X tg g) (hb : PSs X body tb)
    (hs : ∀ x, foldedSetIterable iter X.env x = pure x := by intro _; rfl) : PS X (.For tg iter body [] pos) (tFor wi g tb) := by
  intro pins s σ H D I h
  refine wpAny_For (thn (hi pins s σ H _ I h) fun v s1 h1 => thn h1 fun itv s2 h2 => ?_) hs
  obtain ⟨it, fp, tn, J, H2, e, I2, T, st2, f2, W, ⟨m0, w0⟩, turn⟩ := h2
  subst e
  -- what stays true of the iterator's objects through the loop
  have stat : ∀ {H' : Hp}, (∀ b ∈ fp, H' b = none) → ∀ b ∈ fp, FpOk X pins H' b := fun hn b hb => ⟨hn b hb, (f2 b hb).2⟩
  refine codeAny_forLoop_any (fun n s' => ∃ i σ' H', Inv X pins σ' H' s' ∧ tn i s'.heap ∧ (∀ b ∈ fp, H' b = none) ∧ W i n σ' H') ?_ m0 ⟨0, σ, H2, I2, st2, fun b hb => (f2 b hb).1, w0⟩
  rintro n s3 ⟨i, σ3, H3, I3, st3, fr3, w3⟩
  rcases turn i n σ3 H3 w3 with ⟨stop, qn⟩ | ⟨go, N, hN, step⟩
  · refine wpAny_passesOwn hp (thn (T.done X rfl rfl rfl hc i pins s3 σ3 H3 X.xe I3 (stat fr3) st3 stop) fun r s4 ⟨hr, I4⟩ => ?_)
    subst hr
    exact wpAny_execs_nil ⟨σ3, H3, I4, qn⟩
  · refine wpAny_passesOwn hp (thn (T.item X rfl rfl rfl hc i pins s3 σ3 H3 X.xe I3 (stat fr3) st3 go) fun r s4 ⟨u, hr, h4⟩ => ?_)
    subst hr
    refine wpAny_passesOwn hp (thn h4 fun _ s5 ⟨x, H5, I5, r5, y5, st5, fr5⟩ => ?_)
    have I5' := I5.pinned (stat fr5) (T.obj _ _ st5)
    refine wpAny_passesOwn hp (thn (hg _ s5 σ3 H5 x u _ I5' r5 (step x H5 y5)) fun _ s6 ⟨σ6, H6, I6, q6⟩ => ?_)
    refine wpAny_passesOwn hp (thn (hb _ s6 σ6 H6 _ I6 q6) fun f s7 q7 => ?_)
    have again : ∀ {σ7 : St} {H7 : Hp}, Inv X (pins ++ pinsAt fp s5.heap) σ7 H7 s7 → N σ7 H7 → ∃ m, m < n ∧ ∃ i σ' H', Inv X pins σ' H' s7 ∧ tn i s7.heap ∧ (∀ b ∈ fp, H' b = none) ∧ W i m σ' H' := fun {σ7 H7} I7 n7 => by
      obtain ⟨m', hm, w7⟩ := hN σ7 H7 n7
      refine ⟨m', hm, i + 1, σ7, H7, I7.unpinned, T.keep _ _ _ st5 fun b hb o e => (I7.pin (b, o) (List.mem_append_right _ (List.mem_append_right _ (mem_pinsAt hb e)))).1, fun b hb => ?_, w7⟩
      obtain ⟨o, e, d⟩ := T.obj _ _ st5 b hb
      exact (I7.pin (b, o) (List.mem_append_right _ (List.mem_append_right _ (mem_pinsAt hb e)))).2.1
    cases f with
    | next => obtain ⟨σ7, H7, I7, n7⟩ := q7; exact again I7 n7
    | cont => obtain ⟨σ7, H7, I7, n7⟩ := q7; exact again I7 n7
    | brk => obtain ⟨σ7, H7, I7, q7⟩ := q7; exact ⟨σ7, H7, I7.unpinned, q7⟩
    | ret v => obtain ⟨x7, σ7, H7, I7, r7, q7⟩ := q7; exact ⟨x7, σ7, H7, I7.unpinned, r7, q7⟩
end

/-! ### the forms one uses -/
/-- over a list that the body leaves as it is -/
theorem for_list {K : PySem.W.Frag} {a : Addr} {xs : List V} {g : TG} {tb : TS} {D : Ends} {σ : St} {H : Hp} (Pv : Nat → St → Hp → Prop) (h0 : Pv 0 σ H) (hl : ∀ i σ H, i ≤ xs.length → Pv i σ H → SqL K H a xs)
    (hs : ∀ i x σ H, xs[i]? = some x → Pv i σ H → g x σ H fun σ2 H2 => tb { D with nx := Pv (i + 1), ct := Pv (i + 1), bk := D.nx } σ2 H2) (hd : ∀ σ H, Pv xs.length σ H → D.nx σ H) :
    ∃ W : Nat → Nat → St → Hp → Prop, (∃ m, W 0 m σ H) ∧ ∀ i m σ H, W i m σ H →
      ((Itl K a).stop i H ∧ D.nx σ H) ∨ ((Itl K a).go i H ∧ ∃ N : St → Hp → Prop, (∀ σ' H', N σ' H' → ∃ m', m' < m ∧ W (i + 1) m' σ' H') ∧ ∀ x H', (Itl K a).yld i H x H' → g x σ H' fun σ2 H2 => tb { D with nx := N, ct := N, bk := D.nx } σ2 H2) := by
  refine ⟨fun i m σ H => m = xs.length - i ∧ i ≤ xs.length ∧ Pv i σ H, ⟨xs.length, by simp, Nat.zero_le _, h0⟩, ?_⟩
  rintro i m σ H ⟨rfl, hi, p⟩
  have q := hl i σ H hi p
  by_cases hlt : i < xs.length
  · refine .inr ⟨⟨xs, xs[i], q, by simp [hlt]⟩, Pv (i + 1), fun σ' H' p' => ⟨xs.length - (i + 1), by omega, rfl, hlt, p'⟩, fun x H' y => ?_⟩
    obtain ⟨e, y⟩ := y
    subst e
    exact hs i x σ _ (y xs q) p
  · have e : i = xs.length := by omega
    subst e
    exact .inl ⟨⟨xs, q, Nat.le_refl _⟩, hd σ H p⟩
theorem for_range {lo : Int} {n : Nat} {g : TG} {tb : TS} {D : Ends} {σ : St} {H : Hp} (Pv : Nat → St → Hp → Prop) (h0 : Pv 0 σ H)
    (hs : ∀ i σ H, i < n → Pv i σ H → g (.int (lo + i)) σ H fun σ2 H2 => tb { D with nx := Pv (i + 1), ct := Pv (i + 1), bk := D.nx } σ2 H2) (hd : ∀ σ H, Pv n σ H → D.nx σ H) :
    ∃ W : Nat → Nat → St → Hp → Prop, (∃ m, W 0 m σ H) ∧ ∀ i m σ H, W i m σ H →
      ((Itr lo n).stop i H ∧ D.nx σ H) ∨ ((Itr lo n).go i H ∧ ∃ N : St → Hp → Prop, (∀ σ' H', N σ' H' → ∃ m', m' < m ∧ W (i + 1) m' σ' H') ∧ ∀ x H', (Itr lo n).yld i H x H' → g x σ H' fun σ2 H2 => tb { D with nx := N, ct := N, bk := D.nx } σ2 H2) := by
  refine ⟨fun i m σ H => m = n - i ∧ i ≤ n ∧ Pv i σ H, ⟨n, by simp, Nat.zero_le _, h0⟩, ?_⟩
  rintro i m σ H ⟨rfl, hi, p⟩
  by_cases hlt : i < n
  · refine .inr ⟨hlt, Pv (i + 1), fun σ' H' p' => ⟨n - (i + 1), by omega, rfl, hlt, p'⟩, fun x H' y => ?_⟩
    obtain ⟨e, y⟩ := y
    subst e y
    exact hs i σ _ hlt p
  · have e : i = n := by omega
    subst e
    exact .inl ⟨Nat.le_refl _, hd σ H p⟩
end L2

namespace L2
open PySem PySem.Spec PyProof.Rows

abbrev R2 := V → V → Hp → VK → Prop
/-- a two-place operation on values: f is binaryOp op, inplaceOp op or compareOp op -/
def OpR (X : Cx) (f : Value → Value → Sem Value) (r : R2) : Prop :=
  ∀ (pins : List (Addr × Obj)) (s : Shared) (σ : St) (H : Hp) (x y : V) (v u : Value) (Q : VK), Inv X pins σ H s → RelV x v → RelV y u → r x y H Q →
    wpAny (model X.prog X.w) X.A (f v u) (EP X pins σ Q) X.xe s
/-- a one-place operation -/
def UnR (X : Cx) (f : Value → Sem Value) (r : V → Hp → VK → Prop) : Prop :=
  ∀ (pins : List (Addr × Obj)) (s : Shared) (σ : St) (H : Hp) (x : V) (v : Value) (Q : VK), Inv X pins σ H s → RelV x v → r x H Q →
    wpAny (model X.prog X.w) X.A (f v) (EP X pins σ Q) X.xe s
/-- a call of a value that is known (a builtin, a type) with values -/
def CallR (X : Cx) (f : Value) (r : List V → Hp → VK → Prop) : Prop :=
  ∀ (pins : List (Addr × Obj)) (s : Shared) (σ : St) (H : Hp) (xs : List V) (us : List Value) (Q : VK), Inv X pins σ H s → Vals xs us → r xs H Q →
    wpAny (model X.prog X.w) X.A (call f us) (EP X pins σ Q) X.xe s
def tOp (r : R2) (ta tb : TE) : TE := fun σ H Q => ta σ H fun x H1 => tb σ H1 fun y H2 => r x y H2 Q
def tUn (r : V → Hp → VK → Prop) (ta : TE) : TE := fun σ H Q => ta σ H fun x H1 => r x H1 Q
/-- ints in, under C, and a value out -/
def rI (C : Int → Int → Prop) (g : Int → Int → V) : R2 := fun x y H Q => ∃ i j, x = .int i ∧ y = .int j ∧ C i j ∧ Q (g i j) H
def rI0 (g : Int → Int → V) : R2 := fun x y H Q => ∃ i j, x = .int i ∧ y = .int j ∧ Q (g i j) H
def rU (g : Int → V) : V → Hp → VK → Prop := fun x H Q => ∃ i, x = .int i ∧ Q (g i) H

section
variable {X : Cx} {a b c : Expr} {ta tb tc : TE} {pos : Pos}

theorem binT (ha : PE X a ta) (hb : PE X b tb) {pins : List (Addr × Obj)} {s : Shared} {σ : St} {H : Hp} {R : V → V → Hp → Prop} (I : Inv X pins σ H s)
    (h : ta σ H fun x H1 => tb σ H1 fun y H2 => R x y H2) {Q : Value → Shared → Prop} {f : Value → Value → Sem Value}
    (hf : ∀ v u s2 x y H2, Inv X pins σ H2 s2 → RelV x v → RelV y u → R x y H2 → wpAny (model X.prog X.w) X.A (f v u) Q X.xe s2) :
    wpAny (model X.prog X.w) X.A (eval a X.env) (fun v s₁ => wpAny (model X.prog X.w) X.A (eval b X.env) (fun u s₂ => wpAny (model X.prog X.w) X.A (f v u) Q X.xe s₂) X.xe s₁) X.xe s := by
  refine thn (ha pins s σ H _ I h) fun v s1 ⟨x, H1, I1, r1, q1⟩ => ?_
  refine thn (hb pins s1 σ H1 _ I1 q1) fun u s2 ⟨y, H2, I2, r2, q2⟩ => ?_
  exact hf v u s2 x y H2 I2 r1 r2 q2

theorem pe_op {op : Operator} {r : R2} (ho : OpR X (binaryOp op) r) (ha : PE X a ta) (hb : PE X b tb) : PE X (.BinOp a op b pos) (tOp r ta tb) := by
  intro pins s σ H Q I h
  exact wpAny_BinOp (binT ha hb I h fun v u s2 x y H2 I2 rx ry q => ho pins s2 σ H2 x y v u Q I2 rx ry q)
theorem pe_un {op : UnaryOp} {r : V → Hp → VK → Prop} (ho : UnR X (unaryOp op) r) (ha : PE X a ta) : PE X (.UnaryOp op a pos) (tUn r ta) := by
  intro pins s σ H Q I h
  exact UnaryOp_ (thn (ha pins s σ H _ I h) fun v s1 ⟨x, H1, I1, r1, q1⟩ => ho pins s1 σ H1 x v Q I1 r1 q1)
/-! ### ints -/
theorem opI {f : Value → Value → Sem Value} {C : Int → Int → Prop} {g : Int → Int → Int}
    (rule : ∀ (i j : Int) (t u : Tok) (s : Shared) (Q : Value → Shared → Prop) (E : Value → Shared → Prop), C i j → Q (.int (g i j) s.toks) { s with toks := s.toks + 1 } → wpAny (model X.prog X.w) X.A (f (.int i t) (.int j u)) Q E s) :
    OpR X f (rI C fun i j => .int (g i j)) := by
  intro pins s σ H x y v u Q I rx ry h
  obtain ⟨i, j, rfl, rfl, hc, q⟩ := h
  obtain ⟨t, rfl⟩ := rx
  obtain ⟨t', rfl⟩ := ry
  exact rule i j t t' s _ _ hc ⟨.int (g i j), H, I.tok _, ⟨_, rfl⟩, q⟩
theorem opI0 {f : Value → Value → Sem Value} {g : Int → Int → Int}
    (rule : ∀ (i j : Int) (t u : Tok) (s : Shared) (Q : Value → Shared → Prop) (E : Value → Shared → Prop), Q (.int (g i j) s.toks) { s with toks := s.toks + 1 } → wpAny (model X.prog X.w) X.A (f (.int i t) (.int j u)) Q E s) :
    OpR X f (rI0 fun i j => .int (g i j)) := by
  intro pins s σ H x y v u Q I rx ry h
  obtain ⟨i, j, rfl, rfl, q⟩ := h
  obtain ⟨t, rfl⟩ := rx
  obtain ⟨t', rfl⟩ := ry
  exact rule i j t t' s _ _ ⟨.int (g i j), H, I.tok _, ⟨_, rfl⟩, q⟩
theorem opB0 {f : Value → Value → Sem Value} {g : Int → Int → Bool}
    (rule : ∀ (i j : Int) (t u : Tok) (s : Shared) (Q : Value → Shared → Prop) (E : Value → Shared → Prop), Q (.bool (g i j)) s → wpAny (model X.prog X.w) X.A (f (.int i t) (.int j u)) Q E s) :
    OpR X f (rI0 fun i j => .bl (g i j)) := by
  intro pins s σ H x y v u Q I rx ry h
  obtain ⟨i, j, rfl, rfl, q⟩ := h
  obtain ⟨t, rfl⟩ := rx
  obtain ⟨t', rfl⟩ := ry
  exact rule i j t t' s _ _ ⟨.bl (g i j), H, I, rfl, q⟩

def CDiv (i j : Int) : Prop := 0 < j ∧ j < 1073741824
def CMul (i j : Int) : Prop := (-(2 ^ 64) < i ∧ i < 2 ^ 64) ∨ (-(2 ^ 64) < j ∧ j < 2 ^ 64)
theorem CMul.ok {i j : Int} (h : CMul i j) : IntMulOk i j := by
  rcases h with ⟨h1, h2⟩ | ⟨h1, h2⟩
  · exact .of_left (intBits_le_64 h1 h2)
  · exact .of_right (intBits_le_64 h1 h2)
theorem op_add : OpR X (binaryOp .Add) (rI0 fun i j => .int (i + j)) := opI0 fun _ _ _ _ _ _ _ q => add_int q
theorem op_sub : OpR X (binaryOp .Sub) (rI0 fun i j => .int (i - j)) := opI0 fun _ _ _ _ _ _ _ q => sub_int q
theorem op_mul : OpR X (binaryOp .Mult) (rI CMul fun i j => .int (i * j)) := opI fun _ _ _ _ _ _ _ hc q => mul_int q hc.ok
/-- // by a positive divisor -/
theorem op_fdiv : OpR X (binaryOp .FloorDiv) (rI CDiv fun i j => .int (i / j)) := opI fun i j _ _ _ _ _ hc q => by
  have h1 : (0 : Int) < j := hc.1
  have h2 : j < 1073741824 := hc.2
  exact floordiv_int (by omega) (by rw [Int.fdiv_eq_ediv_of_nonneg i (by omega)]; exact q) (.inl (PyProof.noPylong_small (by omega)))
/-- % by a positive divisor of any size -/
theorem op_mod : OpR X (binaryOp .Mod) (rI (fun _ j => 0 < j) fun i j => .int (i % j)) := opI fun i j _ _ _ _ _ hc q => by
  have h1 : (0 : Int) < j := hc
  exact mod_int' (by omega) (by rw [Int.fmod_eq_emod_of_nonneg i (by omega)]; exact q)
theorem unI {f : Value → Sem Value} {g : Int → Int}
    (rule : ∀ (i : Int) (t : Tok) (s : Shared) (Q : Value → Shared → Prop) (E : Value → Shared → Prop), Q (.int (g i) s.toks) { s with toks := s.toks + 1 } → wpAny (model X.prog X.w) X.A (f (.int i t)) Q E s) :
    UnR X f (rU fun i => .int (g i)) := by
  intro pins s σ H x v Q I rx h
  obtain ⟨i, rfl, q⟩ := h
  obtain ⟨t, rfl⟩ := rx
  exact rule i t s _ _ ⟨.int (g i), H, I.tok _, ⟨_, rfl⟩, q⟩
theorem un_neg : UnR X (unaryOp .USub) (rU fun i => .int (-i)) := unI fun _ _ _ _ _ q => neg_int q
end

/-! ### comparisons -/
/-- the scalars that == tells apart as data does -/
def scal : V → V → Bool
  | .non, .non => true | .non, .int _ => true | .int _, .non => true | .non, .bl _ => true | .bl _, .non => true | .non, .str _ => true | .str _, .non => true
  | .int _, .int _ => true | .bl _, .bl _ => true | .str _, .str _ => true | .byt _, .byt _ => true
  | .int _, .str _ => true | .str _, .int _ => true | .bl _, .str _ => true | .str _, .bl _ => true
  | _, _ => false
def rEq : R2 := fun x y H Q => scal x y = true ∧ Q (.bl (decide (x = y))) H
theorem dec_int {i j : Int} : decide (V.int i = V.int j) = (i == j) := by
  rw [Bool.eq_iff_iff]
  simp
theorem dec_bl {i j : Bool} : decide (V.bl i = V.bl j) = (i == j) := by
  rw [Bool.eq_iff_iff]
  simp
theorem dec_str {i j : Str} : decide (V.str i = V.str j) = (i == j) := by
  rw [Bool.eq_iff_iff]
  simp
theorem dec_byt {i j : Array UInt8} : decide (V.byt i = V.byt j) = (i.toList == j.toList) := by
  rw [Bool.eq_iff_iff]
  cases i
  cases j
  simp

section
variable {X : Cx} {a b c : Expr} {ta tb tc : TE} {pos : Pos}
theorem fin_bl {pins : List (Addr × Obj)} {σ : St} {H : Hp} {s : Shared} {Q : VK} {k k' : Bool} (I : Inv X pins σ H s) (q : Q (.bl k) H) (e : k = k') : EP X pins σ Q (.bool k') s := by
  subst e
  exact ⟨.bl k, H, I, rfl, q⟩
theorem op_eq : OpR X (compareOp .Eq) rEq := by
  intro pins s σ H x y v u Q I rx ry h
  obtain ⟨hs, q⟩ := h
  cases x with
  | non =>
    cases rx
    cases y with
    | non => cases ry; exact PySem.EqNone.eq_none_none (fin_bl I q (by simp))
    | bl j => cases ry; exact PySem.EqNone.eq_none_bool (fin_bl I q (by simp))
    | int j => obtain ⟨t', rfl⟩ := ry; exact PySem.EqNone.eq_none_int (fin_bl I q (by simp))
    | str j => obtain ⟨t', rfl⟩ := ry; exact PySem.EqNone.eq_none_str (fin_bl I q (by simp))
    | _ => exact absurd (show false = true from hs) Bool.false_ne_true
  | bl i =>
    cases rx
    cases y with
    | non => cases ry; exact PySem.EqNone.eq_bool_none (fin_bl I q (by simp))
    | bl j => cases ry; exact eq_bool (fin_bl I q dec_bl)
    | str j => obtain ⟨t', rfl⟩ := ry; exact PySem.EqMixed.eq_bool_str (fin_bl I q (by simp))
    | _ => exact absurd (show false = true from hs) Bool.false_ne_true
  | int i =>
    obtain ⟨t, rfl⟩ := rx
    cases y with
    | non => cases ry; exact PySem.EqNone.eq_int_none (fin_bl I q (by simp))
    | int j => obtain ⟨t', rfl⟩ := ry; exact eq_int (fin_bl I q dec_int)
    | str j => obtain ⟨t', rfl⟩ := ry; exact PySem.EqMixed.eq_int_str (fin_bl I q (by simp))
    | _ => exact absurd (show false = true from hs) Bool.false_ne_true
  | str i =>
    obtain ⟨t, rfl⟩ := rx
    cases y with
    | non => cases ry; exact PySem.EqNone.eq_str_none (fin_bl I q (by simp))
    | bl j => cases ry; exact PySem.EqMixed.eq_str_bool (fin_bl I q (by simp))
    | int j => obtain ⟨t', rfl⟩ := ry; exact PySem.EqMixed.eq_str_int (fin_bl I q (by simp))
    | str j => obtain ⟨t', rfl⟩ := ry; exact eq_str (fin_bl I q dec_str)
    | _ => exact absurd (show false = true from hs) Bool.false_ne_true
  | byt i =>
    obtain ⟨t, rfl⟩ := rx
    cases y with
    | byt j => obtain ⟨t', rfl⟩ := ry; exact PySem.W.eq_bytes (fin_bl I q dec_byt)
    | _ => exact absurd (show false = true from hs) Bool.false_ne_true
  | _ => cases y <;> exact absurd (show false = true from hs) Bool.false_ne_true
theorem op_lt : OpR X (compareOp .Lt) (rI0 fun i j => .bl (decide (i < j))) := opB0 fun _ _ _ _ _ _ _ q => lt_int q
theorem op_le : OpR X (compareOp .LtE) (rI0 fun i j => .bl (decide (i ≤ j))) := opB0 fun _ _ _ _ _ _ _ q => le_int q
theorem op_gt : OpR X (compareOp .Gt) (rI0 fun i j => .bl (decide (j < i))) := opB0 fun _ _ _ _ _ _ _ q => gt_int q
theorem nomark (b : Expr) {op : CmpOp} (h : op ≠ .In := by decide) (h2 : op ≠ .NotIn := by decide) : behindInMarks op b = false := by
  have e1 : (op == CmpOp.In) = false := by cases op <;> first | rfl | exact absurd rfl h
  have e2 : (op == CmpOp.NotIn) = false := by cases op <;> first | rfl | exact absurd rfl h2
  cases b <;> simp [behindInMarks, e1, e2]
/-- a comparison as a value; hm: nomark b, or (for in, not in) by with_unfolding_all rfl -/
theorem pe_cmpR {op : CmpOp} {r : R2} (ho : OpR X (compareOp op) r) (ha : PE X a ta) (hb : PE X b tb) (hm : behindInMarks op b = false) : PE X (.Compare a [op] [b] pos) (tOp r ta tb) := by
  intro pins s σ H Q I h
  exact wpAny_Compare1 (binT ha hb I h fun v u s2 x y H2 I2 rx ry q => ho pins s2 σ H2 x y v u Q I2 rx ry q) hm
/-- a reading of a value as a test -/
def tTest (t : TE) : TT := fun σ H Q => t σ H fun x H' => ∃ k, x = .bl k ∧ Q k H'
theorem pt_cmpR {op : CmpOp} {r : R2} (ho : OpR X (compareOp op) r) (ha : PE X a ta) (hb : PE X b tb) (hm : behindInMarks op b = false) : PT X (.Compare a [op] [b] pos) (tTest (tOp r ta tb)) := by
  intro pins s σ H Q I h
  refine wpAny_isTrue_Compare1 (thn (ha pins s σ H _ I h) fun v s1 ⟨x, H1, I1, r1, q1⟩ => thn (hb pins s1 σ H1 _ I1 q1) fun u s2 ⟨y, H2, I2, r2, q2⟩ =>
    thn (ho pins s2 σ H2 x y v u _ I2 r1 r2 q2) fun c s3 ⟨z, H3, I3, r3, k, e, q3⟩ => ?_) hm
  subst e
  cases r3
  exact wpAny_truthy_bool ⟨H3, I3, q3⟩
/-- a op1 b op2 c -/
def tChain (r r' : R2) (ta tb tc : TE) : TE := fun σ H Q => ta σ H fun x H1 => tb σ H1 fun y H2 => r x y H2 fun z H3 => ∃ k, z = .bl k ∧
  (if k = true then tc σ H3 fun w' H4 => r' y w' H4 Q else Q (.bl false) H3)
theorem pe_chain {op op' : CmpOp} {r r' : R2} (ho : OpR X (compareOp op) r) (ho' : OpR X (compareOp op') r') (ha : PE X a ta) (hb : PE X b tb) (hc : PE X c tc)
    (hm : lastMarks [op, op'] [b, c] = false := by with_unfolding_all rfl) : PE X (.Compare a [op, op'] [b, c] pos) (tChain r r' ta tb tc) := by
  intro pins s σ H Q I h
  refine Compare_chain (thn (ha pins s σ H _ I h) fun v s1 ⟨x, H1, I1, r1, q1⟩ => chain_link (thn (hb pins s1 σ H1 _ I1 q1) fun u s2 ⟨y, H2, I2, r2, q2⟩ =>
    thn (ho pins s2 σ H2 x y v u _ I2 r1 r2 q2) fun d s3 ⟨z, H3, I3, r3, k, e, q3⟩ => ?_)) hm
  subst e
  cases r3
  refine wpAny_truthy_bool ?_
  cases k with
  | false => exact ite_ff ⟨.bl false, H3, I3, rfl, q3⟩
  | true => exact ite_tt (chain_last (thn (hc pins s3 σ H3 _ I3 q3) fun w' s4 ⟨z', H4, I4, r4, q4⟩ => ho' pins s4 σ H4 y z' u w' Q I4 r2 r4 q4))
theorem line63 : (sizeLine : Nat) < 2 ^ 63 := by rw [sizeLine_eq]; decide
/-! ### scalar builtins, by CallR -/
theorem vals1 {x : V} {us : List Value} (r : Vals [x] us) : ∃ u, us = [u] ∧ RelV x u := by
  cases r with
  | cons r1 r2 => cases r2; exact ⟨_, rfl, r1⟩
theorem vals2 {x y : V} {us : List Value} (r : Vals [x, y] us) : ∃ u w', us = [u, w'] ∧ RelV x u ∧ RelV y w' := by
  cases r with
  | cons r1 r2 =>
    cases r2 with
    | cons r3 r4 => cases r4; exact ⟨_, _, rfl, r1, r3⟩
theorem call_abs : CallR X (.builtin "abs") (fun xs H Q => ∃ i, xs = [.int i] ∧ Q (.int (if i < 0 then -i else i)) H) := by
  intro pins s σ H xs us Q I r h
  obtain ⟨i, rfl, q⟩ := h
  obtain ⟨u, rfl, t, rfl⟩ := vals1 r
  exact call_abs_int fun u tk => ⟨.int (if i < 0 then -i else i), H, I.tok _, ⟨_, rfl⟩, q⟩
theorem call_int1 : CallR X (.type "int") (fun xs H Q => (∃ i, xs = [.int i] ∧ Q (.int i) H) ∨ ∃ k, xs = [.bl k] ∧ Q (.int (if k then 1 else 0)) H) := by
  intro pins s σ H xs us Q I r h
  rcases h with ⟨i, rfl, q⟩ | ⟨k, rfl, q⟩
  · obtain ⟨u, rfl, t, rfl⟩ := vals1 r
    exact call_int_int ⟨.int i, H, I, ⟨_, rfl⟩, q⟩
  · obtain ⟨u, rfl, r1⟩ := vals1 r
    cases r1
    exact call_int_bool ⟨.int (if k then 1 else 0), H, I.tok _, ⟨_, rfl⟩, q⟩
end
end L2

namespace L2
open PySem PySem.Spec PyProof.Rows

/-! ### an instance, its attributes a map -/
structure ObjM (h : Heap) (x dx C : Addr) (mA : Str → Option Value) : Prop where
  obj : h.get? x = some (PySem.W.instObj C dx)
  ns : h.Ns1 dx mA
  ne : dx ≠ x

theorem lookIn_ns {h : Heap} {dx : Addr} {mA : Str → Option Value} (n : h.Ns1 dx mA) : ∃ od, h.get? dx = some od ∧ ∀ name, PySem.W.lookIn name od = some (mA name) := by
  obtain ⟨o, es, ep, ho, hd, hk, _, hm⟩ := n
  refine ⟨o, ho, fun name => ?_⟩
  have e := hm name
  unfold nsFind findBy at e
  rw [← Array.find?_toList] at e
  unfold PySem.W.lookIn
  rw [hd]
  dsimp only
  split
  · rename_i y q
    rw [q] at e
    exact congrArg some e
  · rename_i q
    rw [q] at e
    have a : es.toList.any (·.refKey) = false := by
      rw [List.any_eq_false]
      intro y hy
      obtain ⟨z, t, hkey⟩ := hk y (Array.mem_toList_iff.mp hy)
      simp [DictEntry.refKey, hkey]
    have a' : ¬ es.toList.any (·.refKey) = true := by rw [a]; exact Bool.false_ne_true
    rw [if_neg a']
    exact congrArg some e

theorem ObjM.look {h : Heap} {x dx C : Addr} {mA : Str → Option Value} (I : ObjM h x dx C mA) : ∃ od, PySem.W.InstAt h x (PySem.W.instObj C dx) C (some od) ∧ ∀ name, PySem.W.lookIn name od = some (mA name) :=
  let ⟨od, ho, hl⟩ := lookIn_ns I.ns
  ⟨od, ⟨I.obj, rfl, rfl, ho⟩, hl⟩

section
variable {prog : Program} {w : World} {A : Around} {E : Value → Shared → Prop} {s : Shared} {K : PySem.W.Frag} {x dx C f : Addr} {mA : Str → Option Value} {name : Str} {v : Value}

theorem get_map {expr : Bool} {Q : Value → Shared → Prop} (X : K.In s.heap) (I : ObjM s.heap x dx C mA) (hg : PySem.W.plainGet K C name = true) (hh : PySem.W.hasDictIn K C = true)
    (ha : PySem.W.findIn K (.ref C) name = some none) (hv : mA name = some v) (hv' : PySem.W.handedIn v = true) (h : Q v { s with toks := s.toks + 1 }) :
    wpAny (model prog w) A (getAttr (.ref x) name expr) Q E s := by
  obtain ⟨od, J, hl⟩ := I.look
  exact PySem.W.get_value X J (PySem.W.plainGet_of hg).1 (PySem.W.findObj_own hh ha rfl (by rw [hl, hv])) hv' h

theorem get_meth {pl : Sem Bool} {Q : Value × List Value → Shared → Prop} (X : K.In s.heap) (I : ObjM s.heap x dx C mA) (hg : PySem.W.plainGet K C name = true)
    (hf : PySem.W.findIn K (.ref C) name = some (some (.ref f))) (ht : PySem.W.isFn K (.ref f) = true) (hv : mA name = none) (h : Q (.ref f, [.ref x]) s) :
    wpAny (model prog w) A (getMethod (.ref x) name pl) Q E s := by
  obtain ⟨od, J, hl⟩ := I.look
  exact PySem.W.method_fn X J (PySem.W.plainGet_of hg).1 (PySem.W.plainGet_of hg).2 hf (beq_iff_eq.mp ht) (by show (PySem.W.lookIn name od).map (·.isSome) = some false; rw [hl, hv]; rfl) h

theorem set_map {ns : List Str} {Q : Unit → Shared → Prop} (X : K.In s.heap) (I : ObjM s.heap x dx C mA)
    (hs : PySem.W.findIn K (.ref C) "__setattr__" = some (some (.builtin "object.__setattr__"))) (hp : PySem.W.plainOver K C = true) (ht : PySem.W.takerIn K C name = some none) (hh : PySem.W.hasDictIn K C = true)
    (hw : PySem.Within mA ns) (hsz : ns.length ≤ sizeLine)
    (h : ∀ h', ObjM h' x dx C (fun y => if y = name then some v else mA y) → Heap.SameBut dx s.heap h' → Q () { s with heap := h', toks := s.toks + 2 }) :
    wpAny (model prog w) A (setAttr (.ref x) name v) Q E s := by
  obtain ⟨od, J, hl⟩ := I.look
  refine PySem.W.set_plain X J hs (PySem.W.osa_open (s := { s with toks := s.toks + 1 }) (r := none) X J hp ht fun b => ?_)
  obtain ⟨cd, hc, hd'⟩ := PySem.W.any_some hh
  have hx : s.heap.get? x = some ⟨.ref C, some dx, .plain, #[]⟩ := I.obj
  refine wpAny_bind (wpAny_pure (wpAny_bind (wpAny_bind (wpAny_loadPart hx (wpAny_bind (PySem.W.Looks.here (s := { s with toks := s.toks + 1 }) (PySem.W.looks_clsIn X hc) ?_))))))
  rw [hd']
  refine wpAny_pure (a := some dx) (wpAny_bind (wpAny_pure (wpAny_bind ?_)))
  refine wpAny_nsSet1 (s := { s with toks := s.toks + 1 }) I.ns fun h' hn2 hs2 => ?_
  obtain ⟨oD, esD, epD, hoD, hdD, hcD⟩ := hn2.count (PySem.Within.cons name v hw)
  refine wpAny_bind (wpAny_lookBehind hoD (by rw [hdD]; exact pastItsLine_dict (Nat.le_trans hcD (by rw [List.length_cons]; omega))) ?_)
  exact wpAny_pure (h _ ⟨(hs2.2 _ (Ne.symm I.ne)).trans I.obj, hn2, I.ne⟩ hs2)

/-- C(..): the dict at the heap's end, the instance behind it; then its __init__ -/
theorem make_map {R : Result → Shared → Prop} {vs : List Value} {kw : List (Str × Value)} (X : K.In s.heap) (hm : PySem.W.makesIn K C = true)
    (hi : PySem.W.findIn K (.ref C) "__init__" = some (some (.ref f))) (hf : PySem.W.typeIn K (.ref f) = some (.type "function"))
    (h : codeAny (model prog w) (A.under (.builtin "type.__call__" ⟨.ref C :: vs, kw⟩)) (.call (.ref f) ⟨.ref (s.heap.objs.size + 1) :: vs, kw⟩) (PySem.W.InitBack (s.heap.objs.size + 1) R)
      { s with heap := (s.heap.push PySem.W.emptyDict).push (PySem.W.instObj C s.heap.objs.size) }) :
    codeAny (model prog w) A (.call (.ref C) ⟨vs, kw⟩) R s := by
  obtain ⟨hh, g, d, t, os⟩ := s
  exact PySem.W.make_core (PySem.W.makes_of X hm) (PySem.W.looks_findIn X hi) (fun self => PySem.W.bind_fn X self hf) (.inl rfl) h
end

/-! ### the attributes as a list of pairs -/
def putF (f : Str) (v : V) : List (Str × V) → List (Str × V)
  | [] => [(f, v)]
  | (g, x) :: r => if g = f then (g, v) :: r else (g, x) :: putF f v r
theorem lookup_putF (f g : Str) (v : V) : ∀ fs : List (Str × V), (putF f v fs).lookup g = if g = f then some v else fs.lookup g
  | [] => by
    show List.lookup g [(f, v)] = _
    by_cases h : g = f
    · have hb : (g == f) = true := beq_iff_eq.mpr h
      simp only [List.lookup, hb, if_pos h]
    · have hb : (g == f) = false := beq_eq_false_iff_ne.mpr h
      simp only [List.lookup, hb, if_neg h]
  | (k, x) :: r => by
    have ih := lookup_putF f g v r
    rw [show putF f v ((k, x) :: r) = (if k = f then (k, v) :: r else (k, x) :: putF f v r) from rfl]
    by_cases hk : k = f
    · rw [if_pos hk]
      by_cases h : g = k
      · have hb : (g == k) = true := beq_iff_eq.mpr h
        simp only [List.lookup, hb, if_pos (h.trans hk)]
      · have hb : (g == k) = false := beq_eq_false_iff_ne.mpr h
        simp only [List.lookup, hb, if_neg (fun e : g = f => h (e.trans hk.symm))]
    · rw [if_neg hk]
      by_cases h : g = k
      · have hb : (g == k) = true := beq_iff_eq.mpr h
        simp only [List.lookup, hb, if_neg (fun e : g = f => hk (h.symm.trans e))]
      · have hb : (g == k) = false := beq_eq_false_iff_ne.mpr h
        simp only [List.lookup, hb]
        exact ih
theorem keys_putF (f : Str) (v : V) : ∀ fs : List (Str × V), f ∈ (putF f v fs).map (·.1) ∧ ∀ g, g ∈ fs.map (·.1) → g ∈ (putF f v fs).map (·.1)
  | [] => ⟨by simp [putF], fun g h => by simp at h⟩
  | (k, x) :: r => by
    obtain ⟨i1, i2⟩ := keys_putF f v r
    rw [show putF f v ((k, x) :: r) = (if k = f then (k, v) :: r else (k, x) :: putF f v r) from rfl]
    by_cases hk : k = f
    · rw [if_pos hk]
      subst hk
      exact ⟨by simp, fun g h => by simpa using h⟩
    · rw [if_neg hk]
      refine ⟨?_, fun g h => ?_⟩
      · rw [List.map_cons]
        exact List.mem_cons_of_mem _ i1
      · rw [List.map_cons] at h ⊢
        rcases List.mem_cons.mp h with e | e
        · exact List.mem_cons.mpr (.inl e)
        · exact List.mem_cons_of_mem _ (i2 g e)
theorem length_putF (f : Str) (v : V) : ∀ fs : List (Str × V), (putF f v fs).length ≤ fs.length + 1
  | [] => by simp [putF]
  | (k, x) :: r => by
    have ih := length_putF f v r
    rw [show putF f v ((k, x) :: r) = (if k = f then (k, v) :: r else (k, x) :: putF f v r) from rfl]
    by_cases hk : k = f
    · rw [if_pos hk, List.length_cons, List.length_cons]; omega
    · rw [if_neg hk, List.length_cons, List.length_cons]; omega

theorem RelO.some_of {v : V} {o : Option Value} (r : RelO (some v) o) : ∃ u, o = some u ∧ RelV v u := by
  cases o with
  | none => exact (show False from r).elim
  | some u => exact ⟨u, rfl, r⟩
theorem RelO.none_of {o : Option Value} (r : RelO none o) : o = none := by
  cases o with
  | none => rfl
  | some u => exact (show False from r).elim
theorem handed_of {v : V} {u : Value} (r : RelV v u) : PySem.W.handedIn u = true := by
  cases v with
  | non => cases (show u = Value.none from r); rfl
  | bl b => cases (show u = Value.bool b from r); rfl
  | int i => obtain ⟨t, e⟩ := (show ∃ t, u = Value.int i t from r); cases e; rfl
  | str x => obtain ⟨t, e⟩ := (show ∃ t, u = Value.str x t from r); cases e; rfl
  | byt b => obtain ⟨t, e⟩ := (show ∃ t, u = Value.bytes b t from r); cases e; rfl
  | flt b => obtain ⟨t, e⟩ := (show ∃ t, u = Value.float b t from r); cases e; rfl
  | ref a => cases (show u = Value.ref a from r); rfl
  | ty n => cases (show u = Value.type n from r); rfl

section
variable {P : Program} {w : World} {H H' : Hp} {h h' : Heap} {a C dx : Addr} {fs fs' : List (Str × V)}
theorem ins_get (hok : HOk P w H h) (e : H a = some (.ins C dx fs)) : ∃ mA, ObjM h a dx C mA ∧ (∀ f, RelO (fs.lookup f) (mA f)) ∧ PySem.Within mA (fs.map (·.1)) ∧ fs.length ≤ 1000 ∧ H dx = some (.own a) := by
  obtain ⟨d, z, ne, ob, mA, n, r, q⟩ := (show ObjOk P w H h a (.ins C dx fs) from hok a _ e)
  exact ⟨mA, ⟨ob, n, ne⟩, r, q, z, d⟩
end

/-! ### what of the text a class must have -/
structure Cls (K : PySem.W.Frag) (C : Addr) : Prop where
  pg : PySem.W.plainGet K C Str.empty = true
  hd : PySem.W.hasDictIn K C = true
  po : PySem.W.plainOver K C = true
  sa : PySem.W.findIn K (.ref C) "__setattr__" = some (some (.builtin "object.__setattr__"))
theorem Cls.get {K : PySem.W.Frag} {C : Addr} (c : Cls K C) (f : Str) : PySem.W.plainGet K C f = true := c.pg
/-- no class of it has the name -/
def NoAttr (K : PySem.W.Frag) (C : Addr) (f : Str) : Prop := PySem.W.findIn K (.ref C) f = some none
theorem NoAttr.taker {K : PySem.W.Frag} {C : Addr} {f : Str} (n : NoAttr K C f) : PySem.W.takerIn K C f = some none := by
  unfold PySem.W.takerIn
  rw [show PySem.W.findIn K (.ref C) f = some none from n]
  rfl
/-- a method: a plain def of the class or of one above it -/
structure Meth (K : PySem.W.Frag) (C : Addr) (m : Str) (f : Addr) : Prop where
  at_ : PySem.W.findIn K (.ref C) m = some (some (.ref f))
  fn : PySem.W.isFn K (.ref f) = true
  kp : PySem.W.keepIn K (.ref f) = true

section
variable {X : Cx} {pins : List (Addr × Obj)} {σ : St} {H : Hp} {s : Shared} {a C dx : Addr} {fs : List (Str × V)} {f : Str} {v : V} {A : Around} {E : Value → Shared → Prop}

theorem getattr_ok {b : Bool} {Q : Value → Shared → Prop} (I : Inv X pins σ H s) (e : H a = some (.ins C dx fs)) (c : Cls X.K C) (n : NoAttr X.K C f) (l : fs.lookup f = some v)
    (h : ∀ u s', Inv X pins σ H s' → RelV v u → Q u s') : wpAny (model X.prog X.w) A (getAttr (.ref a) f b) Q E s := by
  obtain ⟨mA, O, r, _, _, _⟩ := ins_get I.hok e
  obtain ⟨u, hu, ru⟩ := RelO.some_of (v := v) (o := mA f) (by rw [← l]; exact r f)
  exact get_map I.kIn O (c.get f) c.hd n hu (handed_of ru) (h u _ (I.tok _) ru)

theorem getmeth_ok {m : Str} {g : Addr} {pl : Sem Bool} {Q : Value × List Value → Shared → Prop} (I : Inv X pins σ H s) (e : H a = some (.ins C dx fs)) (c : Cls X.K C) (k : Meth X.K C m g) (l : fs.lookup m = none)
    (h : Q (.ref g, [.ref a]) s) : wpAny (model X.prog X.w) A (getMethod (.ref a) m pl) Q E s := by
  obtain ⟨mA, O, r, _, _, _⟩ := ins_get I.hok e
  have hn : mA m = none := RelO.none_of (by rw [← l]; exact r m)
  exact get_meth I.kIn O (c.get m) k.at_ k.fn hn h

theorem setattr_ok {y : V} {u : Value} {Q : Unit → Shared → Prop} (I : Inv X pins σ H s) (e : H a = some (.ins C dx fs)) (c : Cls X.K C) (n : NoAttr X.K C f) (hl : fs.length < 1000) (ry : RelV y u)
    (h : ∀ s', Inv X pins σ (upd H a (.ins C dx (putF f y fs))) s' → Q () s') : wpAny (model X.prog X.w) A (setAttr (.ref a) f u) Q E s := by
  obtain ⟨mA, O, r, wi, _, ho⟩ := ins_get I.hok e
  have hz : (fs.map (·.1)).length ≤ sizeLine := by rw [List.length_map, sizeLine_eq]; omega
  refine set_map I.kIn O c.sa c.po n.taker c.hd wi hz fun h' O' sb => h _ ?_
  have hd : ∃ o, h'.get? dx = some o := let ⟨o, _, _, e', _⟩ := O'.ns; ⟨o, e'⟩
  refine I.write (x := a) (e := dx) (by rw [e]; exact True.intro) (.inr ho) (fun b q hb z => (sb.2 b hb).trans z) hd ?_
  refine ⟨by rw [upd_ne O.ne]; exact ho, ?_, O.ne, O'.obj, _, O'.ns, fun g => ?_, fun g hg => ?_⟩
  · have := length_putF f y fs; omega
  · show RelO ((putF f y fs).lookup g) (if g = f then some u else mA g)
    rw [lookup_putF]
    by_cases q : g = f
    · rw [if_pos q, if_pos q]; exact ry
    · rw [if_neg q, if_neg q]; exact r g
  · by_cases q : g = f
    · rw [q]; exact (keys_putF f y fs).1
    · refine (keys_putF f y fs).2 g (wi g fun z => hg ?_)
      show (if g = f then some u else mA g) = none
      rw [if_neg q]; exact z

/-- a new instance, tracked, without attributes -/
theorem Inv.made (I : Inv X pins σ H s) : Inv X pins σ (upd (upd H s.heap.objs.size (.own (s.heap.objs.size + 1))) (s.heap.objs.size + 1) (.ins C s.heap.objs.size []))
    { s with heap := (s.heap.push PySem.W.emptyDict).push (PySem.W.instObj C s.heap.objs.size) } := by
  have e1 : (s.heap.push PySem.W.emptyDict).get? s.heap.objs.size = some PySem.W.emptyDict := Heap.get?_push_size s.heap rfl
  have e2 : ((s.heap.push PySem.W.emptyDict).push (PySem.W.instObj C s.heap.objs.size)).get? (s.heap.objs.size + 1) = some (PySem.W.instObj C s.heap.objs.size) := by
    have := Heap.get?_push_size (s.heap.push PySem.W.emptyDict) (o := PySem.W.instObj C s.heap.objs.size) rfl
    rwa [Heap.size_push] at this
  have e3 : (s.heap.push PySem.W.emptyDict).Ns s.heap.objs.size (fun _ => none) := ⟨PySem.W.emptyDict, #[], _, e1, rfl, (fun e he => absurd he (by simp)), fun _ => rfl⟩
  have I1 := I.laid (a := s.heap.objs.size) (o := .own (s.heap.objs.size + 1)) (h' := s.heap.push PySem.W.emptyDict) (t' := s.toks) (fun b u q => Heap.get?_push_of_some _ q) (Nat.le_refl _) ⟨_, e1⟩
  refine I1.laid (a := s.heap.objs.size + 1) (o := .ins C s.heap.objs.size []) (t' := s.toks) (fun b u q => Heap.get?_push_of_some _ q) (Nat.le_of_eq (Heap.size_push _ _)) ?_
  have ne : s.heap.objs.size ≠ s.heap.objs.size + 1 := Nat.ne_of_lt (Nat.lt_succ_self _)
  refine ⟨by rw [upd_ne ne, upd_same], Nat.zero_le _, ne, e2, fun _ => none, (Heap.Ns1.of_empty e3).at fun o q => Heap.get?_push_of_some _ q, fun _ => True.intro, fun y hy => absurd rfl hy⟩

/-- e.f where nothing but the object is asked: through attributeBase (super) and the last hold -/
theorem attr_of {prog : Program} {w : World} {env : Env} {e : Expr} {f : Str} {pos : Pos} {s : Shared} {Q : Value → Shared → Prop} (hb : attributeBase e f env (eval e env) = eval e env)
    (h : wpAny (model prog w) A (eval e env) (fun o s₁ => wpAny (model prog w) A (getAttr o f true) Q E s₁) E s) : wpAny (model prog w) A (eval (.Attribute e f pos) env) Q E s :=
  Attribute_any_ h (by rw [arm_eval_Attribute, hb])
end

/-! ### readings and rules -/
/-- e.f, an attribute of the instance -/
def tFld (K : PySem.W.Frag) (ta : TE) (f : Str) : TE := fun σ H Q => ta σ H fun x H1 => ∃ a C dx fs v, x = .ref a ∧ H1 a = some (.ins C dx fs) ∧ Cls K C ∧ NoAttr K C f ∧ fs.lookup f = some v ∧ Q v H1
/-- e.f = value -/
def sFld (K : PySem.W.Frag) (ta tv : TE) (f : Str) : TS := fun D σ H => tv σ H fun y H1 => ta σ H1 fun x H2 => ∃ a C dx fs, x = .ref a ∧ H2 a = some (.ins C dx fs) ∧ Cls K C ∧ NoAttr K C f ∧ fs.length < 1000 ∧
  D.nx σ (upd H2 a (.ins C dx (putF f y fs)))
section
variable {X : Cx} {o e value : Expr} {f : Str} {pos pos' tpos : Pos} {ta tv : TE}
theorem pe_fld (he : PE X e ta) (hb : attributeBase e f X.env (eval e X.env) = eval e X.env) : PE X (.Attribute e f pos) (tFld X.K ta f) := by
  intro pins s σ H Q I h
  refine attr_of hb (thn (he pins s σ H _ I h) fun u s1 ⟨x, H1, I1, rx, a, C, dx, fs, v, ex, ea, c, n, l, q⟩ => ?_)
  subst ex
  obtain rfl : u = Value.ref a := rx
  exact getattr_ok I1 ea c n l fun u' s2 I2 ru => ⟨v, H1, I2, ru, q⟩
theorem ps_fld (ha : PE X o ta) (hv : PE X value tv) (hs : swapsWith value (some (.Attribute o f pos')) pos.line X.env = pure false) : PS X (.Assign [.Attribute o f pos'] value pos) (sFld X.K ta tv f) := by
  intro pins s σ H D I h
  refine plainObj_wpAny_Assign_Attribute (thn (hv pins s σ H _ I h) fun u s1 ⟨y, H1, I1, ry, q⟩ => thn (ha pins s1 σ H1 _ I1 q) fun ov s2 ⟨x, H2, I2, rx, a, C, dx, fs, ex, ea, c, n, l, q2⟩ => ?_) hs
  subst ex
  obtain rfl : ov = Value.ref a := rx
  exact setattr_ok I2 ea c n l ry fun s3 I3 => ⟨σ, _, I3, q2⟩
/-- what is between an instance and its method: the tree of a method call -/
theorem methcall_of {pl : Sem Bool} {m : Str} {apos : Pos} {args : List Expr} {pins : List (Addr × Obj)} {s : Shared} {σ : St} {H : Hp} {Q : Value → Shared → Prop} {te : TE} (he : PE X e te) (I : Inv X pins σ H s)
    (h : te σ H fun x H1 => ∃ a C dx fs g, x = .ref a ∧ H1 a = some (.ins C dx fs) ∧ Cls X.K C ∧ Meth X.K C m g ∧ fs.lookup m = none ∧
      ∀ s1, Inv X pins σ H1 s1 → wpAny (model X.prog X.w) X.A (callWith pos (.ref g) [.ref a] (backTo pos (starEach args X.env)) (backToKw pos (keywordEach [] X.env))) Q X.xe s1)
    (ht : eval (.Call (.Attribute e m apos) args [] pos) X.env = (do
      let ov ← eval e X.env
      standAt apos.atName
      let (f, first) ← holding [ov] (getMethod ov m pl)
      callWith pos f first (backTo pos (starEach args X.env)) (backToKw pos (keywordEach [] X.env)))) :
    wpAny (model X.prog X.w) X.A (eval (.Call (.Attribute e m apos) args [] pos) X.env) Q X.xe s := by
  refine PySem.W.methodCall_KW (pl := pl) (thn (he pins s σ H _ I h) fun u s1 ⟨x, H1, I1, rx, a, C, dx, fs, g, ex, ea, c, k, l, q⟩ => ?_) ht
  subst ex
  obtain rfl : u = Value.ref a := rx
  exact getmeth_ok I1 ea c k l (q s1 I1)
end

/-! ### isinstance -/
section
variable {X : Cx} {pins : List (Addr × Obj)} {σ : St} {H : Hp} {s : Shared} {A : Around} {E : Value → Shared → Prop} {Q : Value → Shared → Prop} {c : Value} {b : Bool}
/-- the type of a value, as the fragment's deciders take it; for an instance its class -/
inductive TyOf (K : PySem.W.Frag) (H : Hp) : V → Value → Prop where
  | non : TyOf K H .non (.type "NoneType")
  | bl (x : Bool) : TyOf K H (.bl x) (.type "bool")
  | int (i : Int) : TyOf K H (.int i) (.type "int")
  | str (x : Str) : TyOf K H (.str x) (.type "str")
  | flt (x : UInt64) : TyOf K H (.flt x) (.type "float")
  | lst {a : Addr} {xs : List V} (e : H a = some (.lst xs)) : TyOf K H (.ref a) (.type "list")
  | frz {a : Addr} {o : Obj} {xs : List V} (e : H a = some (.frz o (.lst xs))) : TyOf K H (.ref a) (.type "list")
  | tup {a : Addr} {xs : List V} (e : H a = some (.tup xs)) : TyOf K H (.ref a) (.type "tuple")
  | dK {a : Addr} {kvs : List (Key × V)} (e : H a = some (.dK kvs)) : TyOf K H (.ref a) (.type "dict")
  | dT {a : Addr} {kvs : List (List Key × V)} (e : H a = some (.dT kvs)) : TyOf K H (.ref a) (.type "dict")
  | ins {a C dx : Addr} {fs : List (Str × V)} (e : H a = some (.ins C dx fs)) (cl : Cls K C) (ha : PySem.W.findIn K (.ref C) "__class__" = some (some (.builtin "object.__class__")))
      (hn : PySem.W.specialIn K (.builtin "object.__class__") "__get__" = some (some (.builtin "getset_descriptor.__get__"))) (htk : PySem.W.takesIn K (.builtin "object.__class__") = some true)
      (hm : PySem.W.mroIn K C (.type "object") = some true) : TyOf K H (.ref a) (.ref C)
/-- isinstance(x, c) for one class c, a built-in or an own one: kitOne's answer -/
theorem isinst_ok {x : V} {u t : Value} (I : Inv X pins σ H s) (rx : RelV x u) (ty : TyOf X.K H x t) (e : PySem.W.kitOne X.K t c = some b) (h : ∀ tk, Q (.bool b) { s with toks := tk }) :
    wpAny (model X.prog X.w) A (call (.builtin "isinstance") [u, c]) Q E s := by
  cases ty with
  | non => cases (show u = Value.none from rx); exact PySem.W.kia_one PySem.W.kitx_none I.kIn True.intro e (fun z => nomatch z) h
  | bl y => cases (show u = Value.bool y from rx); exact PySem.W.kia_one PySem.W.kitx_bool I.kIn True.intro e (fun z => nomatch z) h
  | int i => obtain ⟨t, q⟩ := (show ∃ t, u = Value.int i t from rx); cases q; exact PySem.W.kia_one PySem.W.kitx_int I.kIn True.intro e (fun z => nomatch z) h
  | str y => obtain ⟨t, q⟩ := (show ∃ t, u = Value.str y t from rx); cases q; exact PySem.W.kia_one PySem.W.kitx_str I.kIn True.intro e (fun z => nomatch z) h
  | flt y => obtain ⟨t, q⟩ := (show ∃ t, u = Value.float y t from rx); cases q; exact PySem.W.kia_one PySem.W.kitx_float I.kIn True.intro e (fun z => nomatch z) h
  | @lst a xs ea =>
    cases (show u = Value.ref a from rx)
    obtain ⟨_, _, n, _, h1⟩ := (show ObjOk X.prog X.w H s.heap a (.lst xs) from I.hok a _ ea)
    exact PySem.W.kia_one PySem.W.kitx_list I.kIn ⟨_, h1, rfl⟩ e (fun z => nomatch z) h
  | @frz a ob xs ea =>
    cases (show u = Value.ref a from rx)
    obtain ⟨_, _, _, n, _, h1⟩ := (show ObjOk X.prog X.w H s.heap a (.frz ob (.lst xs)) from I.hok a _ ea)
    exact PySem.W.kia_one PySem.W.kitx_list I.kIn ⟨_, h1, rfl⟩ e (fun z => nomatch z) h
  | @tup a xs ea =>
    cases (show u = Value.ref a from rx)
    obtain ⟨_, _, _, p⟩ := (show ObjOk X.prog X.w H s.heap a (.tup xs) from I.hok a _ ea)
    obtain ⟨o, h1, h2, _⟩ := p
    exact PySem.W.kia_one PySem.W.kitx_tuple I.kIn ⟨o, h1, h2⟩ e (fun z => nomatch z) h
  | @dK a kvs ea =>
    cases (show u = Value.ref a from rx)
    obtain ⟨_, _, vs, _, p⟩ := (show ObjOk X.prog X.w H s.heap a (.dK kvs) from I.hok a _ ea)
    obtain ⟨o, es, ep, h1, h2, _⟩ := p
    exact PySem.W.kia_one PySem.W.kitx_dict I.kIn ⟨o, h1, h2.1⟩ e (fun z => nomatch z) h
  | @dT a kvs ea =>
    cases (show u = Value.ref a from rx)
    obtain ⟨_, _, xs, _, o, es, ep, h1, h2, _⟩ := (show ObjOk X.prog X.w H s.heap a (.dT kvs) from I.hok a _ ea)
    exact PySem.W.kia_one PySem.W.kitx_dict I.kIn ⟨o, h1, h2.1⟩ e (fun z => nomatch z) h
  | @ins a C dx fs ea cl ha hn htk hm =>
    cases (show u = Value.ref a from rx)
    obtain ⟨mA, O, _⟩ := ins_get I.hok ea
    obtain ⟨od, J, _⟩ := O.look
    exact PySem.W.kia_one (PySem.W.kitx_own (cl.get _) cl.hd ha hn htk hm) I.kIn J e (fun z => nomatch z) h
end
end L2

namespace L2
open PySem PySem.Spec PyProof.Rows

/-! ### room -/
structure Room (k : Nat) (A : Around) : Prop where
  hd : A.handled = none
  dp : A.depth + 3 * k + 5 < recursionLimit
  un : A.units + 16 * k + 200 < cLine
theorem Room.mono {j k : Nat} {A : Around} (r : Room k A) (h : j ≤ k) : Room j A := ⟨r.hd, by have := r.dp; omega, by have := r.un; omega⟩
theorem Room.deeper {k : Nat} {A : Around} (r : Room (k + 1) A) (env : Env) : Room k (A.deeper env) :=
  ⟨r.hd, by have := r.dp; show A.depth + 1 + 3 * k + 5 < _; omega, by have := r.un; show A.units + 3 + 16 * k + 200 < _; omega⟩
theorem Room.in1 {k : Nat} {A : Around} (r : Room (k + 1) A) : Room k A.in1 :=
  ⟨r.hd, by have := r.dp; show A.depth + 3 * k + 5 < _; omega, by have := r.un; show A.units + 1 + 16 * k + 200 < _; omega⟩
theorem make_depth {A : Around} {C : Addr} {us : List Value} {kw : List (Str × Value)} : (A.under (.builtin "type.__call__" ⟨.ref C :: us, kw⟩)).depth = A.depth + 1 := by
  first | rfl | simp [Around.under, Code.weight, Code.isCreation, Code.isGuard, Code.isCaller, Code.frames, Code.isFrame, guardIds]
theorem make_units {A : Around} {C : Addr} {us : List Value} {kw : List (Str × Value)} : (A.under (.builtin "type.__call__" ⟨.ref C :: us, kw⟩)).units = A.units + 1 := by
  first | rfl | simp [Around.under, Code.cUnits, Code.frames, Code.isFrame]
theorem Room.make {k : Nat} {A : Around} (r : Room (k + 1) A) (C : Addr) (us : List Value) (kw : List (Str × Value)) : Room k (A.under (.builtin "type.__call__" ⟨.ref C :: us, kw⟩)) :=
  ⟨r.hd, by have := r.dp; rw [make_depth]; omega, by have := r.un; rw [make_units]; omega⟩
theorem Room.depth {k : Nat} {A : Around} (r : Room k A) : A.depth < recursionLimit := by have := r.dp; omega
theorem Room.units {k : Nat} {A : Around} (r : Room k A) : A.units + 64 < cLine := by have := r.un; omega
/-! ### argument lists and displays -/
def tNil : TA := fun _ H Q => Q [] H
def tCons (ta : TE) (tr : TA) : TA := fun σ H Q => ta σ H fun x H1 => tr σ H1 fun xs H2 => Q (x :: xs) H2
section
variable {X : Cx} {e : Expr} {es : List Expr} {te : TE} {t : TA} {pos : Pos}
theorem pa_nil : PA X [] tNil := fun _ _ _ _ H Q I h => Calls.spliced_nil ⟨[], H, I, .nil, h⟩
theorem pa_cons (ha : PE X e te) (hr : PA X es t) (hs : starEach (e :: es) X.env = (false, eval e X.env) :: starEach es X.env := by rfl) : PA X (e :: es) (tCons te t) := by
  intro pos pins s σ H Q I h
  rw [hs]
  show wpAny _ _ (spliced ((false, eval e X.env) :: backTo pos (starEach es X.env))) _ _ s
  refine Calls.spliced_cons (thn (ha pins s σ H _ I h) fun u s1 ⟨x, H1, I1, r1, q1⟩ => ?_)
  exact thn (hr pos pins s1 σ H1 _ I1 q1) fun us s2 ⟨xs, H2, I2, r2, q2⟩ => ⟨x :: xs, H2, I2, .cons r1 r2, q2⟩

def tLst (t : TA) : TE := fun σ H Q => t σ H fun xs H1 => xs.length ≤ sizeLine ∧ ∀ p, H1 p = none → Q (.ref p) (upd H1 p (.lst xs))
theorem pe_lst (h : PA X es t) : PE X (.List es pos) (tLst t) := by
  intro pins s σ H Q I hq
  refine wpAny_List_spliced (thn (h pos pins s σ H _ I hq) fun us s1 ⟨xs, H1, I1, r, z, q⟩ => ⟨by rw [← r.length]; exact z, ?_⟩)
  have hf : H1 s1.heap.objs.size = none := I1.hok.fresh (Nat.le_refl _)
  refine ⟨.ref s1.heap.objs.size, upd H1 s1.heap.objs.size (.lst xs), I1.laid (t' := s1.toks) (fun b u e => Heap.get?_push_of_some _ e) (Nat.le_refl _) ?_, rfl, q _ hf⟩
  exact ⟨z, us, 0, r, Heap.get?_push_size _ rfl⟩
end

/-! ### what a def promises -/
/-- a def's promise: the bound arguments in the parameters' order, the heap, the wanted end, the wanted exception -/
abbrev Sp := List V → Hp → VK → XK → Prop
/-- how an exception lies behind a call (file 08 gives it): the callers' frames, abstract heap and state ahead of the call, the wish, the exception, the state -/
abbrev CXT := List Env → Hp → Shared → XK → Value → Shared → Prop

/-- the state at a call -/
structure Env0 (P : Program) (w : World) (K : PySem.W.Frag) (mg : Str → Option Value) (base : Heap) (A : Around) (outer : List Env) (s : Shared) (H : Hp) : Prop where
  frames : A.frames = some outer
  mod : Mod K mg base
  bs : ∀ b o, base.get? b = some o → s.heap.get? b = some o ∧ H b = none
  bsz : base.objs.size ≤ s.heap.objs.size
  funs : s.heap.FunFrames base outer
  frf : ∀ b ∈ frs outer, H b = none
  hok : HOk P w H s.heap
  bare : AllBare s.gens
/-- a call's end -/
def CE (outer : List Env) (P : Program) (w : World) (H : Hp) (s : Shared) (Q : VK) (u : Value) (s' : Shared) : Prop :=
  ∃ v H', s'.os = s.os ∧ AllBare s'.gens ∧ Un (frs outer) [] H H' s.heap s'.heap ∧ HOk P w H' s'.heap ∧ RelV v u ∧ Q v H'
def CR (CX : CXT) (outer : List Env) (P : Program) (w : World) (H : Hp) (s : Shared) (Q : VK) (E : XK) (r : Result) (s' : Shared) : Prop :=
  match r with
  | .ok (.ret u) => CE outer P w H s Q u s'
  | .ok _ => False
  | .error e => CX outer H s E e s'
structure FnOk (P : Program) (w : World) (K : PySem.W.Frag) (mg : Str → Option Value) (base : Heap) (CX : CXT) (k : Nat) (f : Addr) (fd : FuncData) (ps : List Str) (sp : Sp) : Prop where
  len : ∀ vs H Q E, sp vs H Q E → vs.length = ps.length
  run : ∀ (A : Around) (outer : List Env) (s : Shared) (H : Hp) (args : Args) (us : List Value) (vs : List V) (Q : VK) (E : XK), Room k A → Env0 P w K mg base A outer s H → BindsTo s fd args (ps.zip us) → Vals vs us → sp vs H Q E →
    codeAny (model P w) A (.call (.ref f) args) (CR CX outer P w H s Q E) s
theorem FnOk.mono {P : Program} {w : World} {K : PySem.W.Frag} {mg : Str → Option Value} {base : Heap} {CX : CXT} {j k : Nat} {f : Addr} {fd : FuncData} {ps : List Str} {sp : Sp} (F : FnOk P w K mg base CX j f fd ps sp) (h : j ≤ k) :
    FnOk P w K mg base CX k f fd ps sp := ⟨F.len, fun A outer s H args us vs Q E hr => F.run A outer s H args us vs Q E (hr.mono h)⟩
theorem Env0.make {P : Program} {w : World} {K : PySem.W.Frag} {mg : Str → Option Value} {base : Heap} {A : Around} {outer : List Env} {s : Shared} {H : Hp} (e : Env0 P w K mg base A outer s H) (C : Addr) (us : List Value) (kw : List (Str × Value)) :
    Env0 P w K mg base (A.under (.builtin "type.__call__" ⟨.ref C :: us, kw⟩)) outer s H := ⟨by first | exact e.frames | (simpa [Around.under, Code.envs, Code.isFrame, pushEnvs] using e.frames), e.mod, e.bs, e.bsz, e.funs, e.frf, e.hok, e.bare⟩
theorem Env0.in1 {P : Program} {w : World} {K : PySem.W.Frag} {mg : Str → Option Value} {base : Heap} {A : Around} {outer : List Env} {s : Shared} {H : Hp} (e : Env0 P w K mg base A outer s H) :
    Env0 P w K mg base A.in1 outer s H := ⟨e.frames, e.mod, e.bs, e.bsz, e.funs, e.frf, e.hok, e.bare⟩

section
variable {X : Cx} {pins : List (Addr × Obj)} {σ : St} {H : Hp} {s s' : Shared}
/-- from a body: what a callee wants -/
theorem Inv.env0 (I : Inv X pins σ H s) : Env0 X.prog X.w X.K X.mg X.base X.A X.stack s H :=
  ⟨I.ok.frames, I.ok.mod, I.bs, Nat.le_trans I.ok.bsz I.sz, I.stack, I.stkFree, I.hok, I.bare⟩
/-- behind a call -/
theorem Inv.after {Q : VK} {u : Value} (I : Inv X pins σ H s) (h : CE X.stack X.prog X.w H s Q u s') : EP X pins σ Q u s' := by
  obtain ⟨v, H', os, bare, un, hok, r, q⟩ := h
  obtain ⟨hh, g, d, t, os'⟩ := s'
  obtain rfl : os' = s.os := os
  exact ⟨v, H', I.call (h' := hh) (g' := g) (d' := d) (t' := t) (ch := []) un hok bare (fun b z => absurd z (by simp)), r, q⟩
end

/-! ### calls -/
/-- f(..): the written arguments, then the defaults dvs; E: what is wanted of an exception -/
def tCall (sp : Sp) (dvs : List V) (E : XK) (t : TA) : TE := fun σ H Q => t σ H fun vs H1 => sp (vs ++ dvs) H1 Q E
/-- o.m(..) of an instance of the class at C -/
def tMeth (C : Addr) (m : Str) (sp : Sp) (dvs : List V) (E : XK) (ta : TE) (t : TA) : TE := fun σ H Q => ta σ H fun x H1 => ∃ a dx fs, x = .ref a ∧ H1 a = some (.ins C dx fs) ∧ fs.lookup m = none ∧
  t σ H1 fun vs H2 => sp (x :: (vs ++ dvs)) H2 Q E
/-- C(..): a new instance and its dict, then __init__ -/
def tMake (C : Addr) (sp : Sp) (dvs : List V) (E : XK) (t : TA) : TE := fun σ H Q => t σ H fun vs H1 => ∀ x dx, H1 x = none → H1 dx = none → dx ≠ x →
  sp (.ref x :: (vs ++ dvs)) (upd (upd H1 dx (.own x)) x (.ins C dx [])) (fun v H2 => v = .non ∧ Q (.ref x) H2) E

/-- how the parameters are bound: us the positional arguments, kw the keywords' values by name, ds the defaults that fill up -/
def Binds (K : PySem.W.Frag) (fd : FuncData) (ps : List Str) (ds : List Value) : Prop :=
  ∀ (s : Shared) (us : List Value), K.In s.heap → (us ++ ds).length = ps.length → BindsTo s fd ⟨us, []⟩ (ps.zip (us ++ ds))
/-- every parameter is given -/
theorem Binds.all {K : PySem.W.Frag} {fd : FuncData} {ps : List Str} (h : ∀ us : List Value, us.length = ps.length → bindArgs fd ⟨us, []⟩ = pure (ps.zip us)) : Binds K fd ps [] := fun s us _ hl => by
  rw [List.append_nil] at hl ⊢
  exact .of_eq (h us hl)

/-- an exception of a callee reaches what this body wants of exceptions -/
def Passes (CX : CXT) (X : Cx) (E : XK) : Prop := ∀ (pins : List (Addr × Obj)) (σ : St) (H : Hp) (s : Shared) (e : Value) (s' : Shared), Inv X pins σ H s → CX X.stack H s E e s' → X.xe e s'

section
variable {X : Cx} {CX : CXT} {k : Nat} {f C : Addr} {fd : FuncData} {ps : List Str} {sp : Sp} {dvs : List V} {ds : List Value} {E : XK} {x m : Str} {p pos apos : Pos} {e o : Expr} {es : List Expr} {ta : TE} {t : TA}

/-- the callee runs -/
theorem run_fn {pins : List (Addr × Obj)} {σ : St} {H : Hp} {s : Shared} {Q : VK} {us : List Value} {vs : List V} (F : FnOk X.prog X.w X.K X.mg X.base CX k f fd ps sp) (hr : Room k X.A) (hb : Binds X.K fd ps ds) (hd : Vals dvs ds) (hx : Passes CX X E)
    (I : Inv X pins σ H s) (r : Vals vs us) (h : sp (vs ++ dvs) H Q E) : wpAny (model X.prog X.w) X.A (call (.ref f) us) (EP X pins σ Q) X.xe s := by
  have r2 : Vals (vs ++ dvs) (us ++ ds) := r.append hd
  have hl : (us ++ ds).length = ps.length := by rw [← r2.length]; exact F.len _ _ _ _ h
  refine wpAny_call (codeAny_mono (F.run X.A X.stack s H ⟨us, []⟩ (us ++ ds) (vs ++ dvs) Q E hr I.env0 (hb s us I.kIn hl) r2 h) fun r s' hq => ?_)
  cases r with
  | error e => exact hx pins σ H s e s' I hq
  | ok fl =>
    cases fl with
    | ret u => exact I.after hq
    | next => exact False.elim hq
    | brk => exact False.elim hq
    | cont => exact False.elim hq

theorem pe_call (F : FnOk X.prog X.w X.K X.mg X.base CX k f fd ps sp) (hr : Room k X.A) (hg : Gl X x) (hm : X.mg x = some (.ref f)) (hk : PySem.W.keepIn X.K (.ref f) = true) (hb : Binds X.K fd ps ds) (hd : Vals dvs ds) (hx : Passes CX X E)
    (ha : PA X (e :: es) t) (hdb : (x == ("__debug__" : Str)) = false := by decide) (he : starEach (e :: es) X.env = (false, eval e X.env) :: starEach es X.env := by rfl) (hpl : (backTo pos (starEach es X.env)).any (·.1) = false := by rfl) :
    PE X (.Call (.Name x p) (e :: es) [] pos) (tCall sp dvs E t) := by
  intro pins s σ H Q I h
  refine wpAny_Call_Name_kw (ld_glob I hg hm ?_ hdb)
  refine PySem.W.callWith_K (h₀ := X.base) I.ok.mod.kin hk (thn (ha pos pins s σ H _ I h) fun us s1 ⟨vs, H1, I1, r, q⟩ => ⟨I1.kIn, ?_⟩) he hpl
  exact run_fn F hr hb hd hx I1 r q
/-- o.m(e, ..) -/
theorem pe_meth {pl : Sem Bool} (he : PE X o ta) (c : Cls X.K C) (hm : Meth X.K C m f) (F : FnOk X.prog X.w X.K X.mg X.base CX k f fd ps sp) (hr : Room k X.A) (hb : Binds X.K fd ps ds) (hd : Vals dvs ds) (hx : Passes CX X E) (ha : PA X (e :: es) t)
    (hst : starEach (e :: es) X.env = (false, eval e X.env) :: starEach es X.env := by rfl) (hpl : (backTo pos (starEach es X.env)).any (·.1) = false := by rfl)
    (ht : eval (.Call (.Attribute o m apos) (e :: es) [] pos) X.env = (do
      let ov ← eval o X.env
      standAt apos.atName
      let (f, first) ← holding [ov] (getMethod ov m pl)
      callWith pos f first (backTo pos (starEach (e :: es) X.env)) (backToKw pos (keywordEach [] X.env))) := by rfl) :
    PE X (.Call (.Attribute o m apos) (e :: es) [] pos) (tMeth C m sp dvs E ta t) := by
  intro pins s σ H Q I h
  refine PySem.W.methodCall_KW (pl := pl) (thn (he pins s σ H _ I h) fun u s1 ⟨x, H1, I1, rx, a, dx, fs, ex, ea, l, q⟩ => ?_) ht
  subst ex
  obtain rfl : u = Value.ref a := rx
  refine getmeth_ok I1 ea c hm l ?_
  refine PySem.W.callWith_K (first := [.ref a]) (h₀ := X.base) I.ok.mod.kin hm.kp (thn (ha pos pins s1 σ H1 _ I1 q) fun us s2 ⟨vs, H2, I2, r, q2⟩ => ⟨I2.kIn, ?_⟩) hst hpl
  exact run_fn (us := .ref a :: us) (vs := .ref a :: vs) F hr hb hd hx I2 (.cons rfl r) q2
/-- o.m() -/
theorem pe_meth0 {pl : Sem Bool} (he : PE X o ta) (c : Cls X.K C) (hm : Meth X.K C m f) (F : FnOk X.prog X.w X.K X.mg X.base CX k f fd ps sp) (hr : Room k X.A) (hb : Binds X.K fd ps ds) (hd : Vals dvs ds) (hx : Passes CX X E)
    (ht : eval (.Call (.Attribute o m apos) [] [] pos) X.env = (do
      let ov ← eval o X.env
      standAt apos.atName
      let (f, first) ← holding [ov] (getMethod ov m pl)
      callWith pos f first (backTo pos (starEach [] X.env)) (backToKw pos (keywordEach [] X.env))) := by rfl) :
    PE X (.Call (.Attribute o m apos) [] [] pos) (tMeth C m sp dvs E ta tNil) := by
  intro pins s σ H Q I h
  refine PySem.W.methodCall_KW (pl := pl) (thn (he pins s σ H _ I h) fun u s1 ⟨x, H1, I1, rx, a, dx, fs, ex, ea, l, q⟩ => ?_) ht
  subst ex
  obtain rfl : u = Value.ref a := rx
  refine getmeth_ok I1 ea c hm l ?_
  exact PySem.W.callWith_K0 (first := [.ref a]) I1.kIn hm.kp (run_fn (us := [.ref a]) (vs := [.ref a]) F hr hb hd hx I1 (.cons rfl .nil) q)

/-- what a class must have to be made -/
structure Mk (K : PySem.W.Frag) (C f : Addr) : Prop where
  makes : PySem.W.makesIn K C = true
  init : PySem.W.findIn K (.ref C) "__init__" = some (some (.ref f))
  fn : PySem.W.isFn K (.ref f) = true
  kp : PySem.W.keepIn K (.ref C) = true

theorem run_make {pins : List (Addr × Obj)} {σ : St} {H : Hp} {s : Shared} {Q : VK} {us : List Value} {vs : List V} (M : Mk X.K C f) (F : FnOk X.prog X.w X.K X.mg X.base CX k f fd ps sp) (hr : Room (k + 1) X.A) (hb : Binds X.K fd ps ds) (hd : Vals dvs ds)
    (hx : Passes CX X E) (I : Inv X pins σ H s) (r : Vals vs us)
    (h : ∀ x dx, H x = none → H dx = none → dx ≠ x → sp (.ref x :: (vs ++ dvs)) (upd (upd H dx (.own x)) x (.ins C dx [])) (fun v H2 => v = .non ∧ Q (.ref x) H2) E) :
    wpAny (model X.prog X.w) X.A (call (.ref C) us) (EP X pins σ Q) X.xe s := by
  have hq := h (s.heap.objs.size + 1) s.heap.objs.size (I.hok.fresh (Nat.le_succ _)) (I.hok.fresh (Nat.le_refl _)) (Nat.ne_of_lt (Nat.lt_succ_self _))
  have I2 := Inv.made (C := C) I
  have r2 : Vals (V.ref (s.heap.objs.size + 1) :: (vs ++ dvs)) (Value.ref (s.heap.objs.size + 1) :: (us ++ ds)) := .cons rfl (r.append hd)
  have hl : (Value.ref (s.heap.objs.size + 1) :: us ++ ds).length = ps.length := by
    have e := r2.length
    rw [F.len _ _ _ _ hq] at e
    exact e.symm
  refine wpAny_call (make_map (f := f) I.kIn M.makes M.init (beq_iff_eq.mp M.fn) (codeAny_mono (F.run _ X.stack _ _ ⟨Value.ref (s.heap.objs.size + 1) :: us, []⟩ (Value.ref (s.heap.objs.size + 1) :: (us ++ ds)) _ _ E (hr.make C us [])
    (I2.env0.make C us []) (hb _ (Value.ref (s.heap.objs.size + 1) :: us) I2.kIn hl) r2 hq) fun r s' hq' => ?_))
  cases r with
  | error e => exact hx pins σ _ _ e s' I2 hq'
  | ok fl =>
    cases fl with
    | ret u =>
      obtain ⟨v, H', I3, rv, ev, q3⟩ := I2.after hq'
      subst ev
      exact ⟨rv, ⟨V.ref (s.heap.objs.size + 1), H', I3, rfl, q3⟩⟩
    | next => exact False.elim hq'
    | brk => exact False.elim hq'
    | cont => exact False.elim hq'
theorem pe_make (M : Mk X.K C f) (F : FnOk X.prog X.w X.K X.mg X.base CX k f fd ps sp) (hr : Room (k + 1) X.A) (hg : Gl X x) (hm : X.mg x = some (.ref C)) (hb : Binds X.K fd ps ds) (hd : Vals dvs ds) (hx : Passes CX X E)
    (ha : PA X (e :: es) t) (hdb : (x == ("__debug__" : Str)) = false := by decide) (he : starEach (e :: es) X.env = (false, eval e X.env) :: starEach es X.env := by rfl) (hpl : (backTo pos (starEach es X.env)).any (·.1) = false := by rfl) :
    PE X (.Call (.Name x p) (e :: es) [] pos) (tMake C sp dvs E t) := by
  intro pins s σ H Q I h
  refine wpAny_Call_Name_kw (ld_glob I hg hm ?_ hdb)
  refine PySem.W.callWith_K (h₀ := X.base) I.ok.mod.kin M.kp (thn (ha pos pins s σ H _ I h) fun us s1 ⟨vs, H1, I1, r, q⟩ => ⟨I1.kIn, ?_⟩) he hpl
  exact run_make M F hr hb hd hx I1 r q
end

/-! ### keywords -/
/-- the values of the keywords, from the left -/
def PK (X : Cx) (kws : List Keyword) (t : TA) : Prop :=
  ∀ (pos : Pos) (pins : List (Addr × Obj)) (s : Shared) (σ : St) (H : Hp) (Q : List V → Hp → Prop), Inv X pins σ H s → t σ H Q → wpAny (model X.prog X.w) X.A (evalAll ((backToKw pos (keywordEach kws X.env)).map (·.2))) (AP X pins σ Q) X.xe s
section
variable {X : Cx} {CX : CXT} {k : Nat} {f C : Addr} {fd : FuncData} {ps ks : List Str} {sp : Sp} {E : XK} {x m : Str} {p pos apos kpos : Pos} {e o : Expr} {es : List Expr} {kws : List Keyword} {te ta : TE} {t tk : TA} {nm : Option Str}
theorem pk_nil : PK X [] tNil := fun _ _ _ _ H Q I h => wpAny_evalAll_nil ⟨[], H, I, .nil, h⟩
theorem pk_cons (ha : PE X e te) (hr : PK X kws t) : PK X (⟨nm, e, kpos⟩ :: kws) (tCons te t) := by
  intro pos pins s σ H Q I h
  show wpAny _ _ (evalAll ((do let v ← eval e X.env; standAt pos; pure v) :: (backToKw pos (keywordEach kws X.env)).map (·.2))) _ _ s
  refine wpAny_evalAll_cons (wpAny_bind (thn (ha pins s σ H _ I h) fun u s1 ⟨x, H1, I1, r1, q1⟩ => wpAny_bind (wpAny_standAt (wpAny_pure ?_))))
  exact thn (hr pos pins s1 σ H1 _ I1 q1) fun us s2 ⟨xs, H2, I2, r2, q2⟩ => ⟨x :: xs, H2, I2, .cons r1 r2, q2⟩

variable {g : List Value → List Value → List Value} {gV : List V → List V → List V}
end

/-! ### a def's body keeps its promise -/
/-- names: the parameters first -/
structure FnScope (N P : List Str) (sc : Scope) : Prop where
  kind : sc.kind = .function
  co : sc.isCoroutine = false
  gen : sc.isGenerator = false
  nd : N.Nodup
  pre : N.take P.length = P
  par : ∀ x ∈ P, sc.names.lookup x = some .local ∨ sc.names.lookup x = some .cell
  nofree : ∀ y ∈ sc.names, y.2 ≠ .free

theorem bindL_out {kindOf : Str → Option NameKind} {x : Str} : ∀ {binds : List (Str × Value)} {m : Str → Option Value}, (∀ v, (x, v) ∉ binds) → bindL kindOf binds m x = m x
  | [], _, _ => rfl
  | (n, v) :: r, m, h => by
    unfold bindL
    rw [bindL_out fun w hw => h w (List.mem_cons_of_mem _ hw)]
    split
    · have : x ≠ n := by rintro rfl; exact h v List.mem_cons_self
      simp [this]
    · rfl
theorem bindC_out {kindOf : Str → Option NameKind} {x : Str} : ∀ {binds : List (Str × Value)} {m : Str → Option Value}, (∀ v, (x, v) ∉ binds) → bindC kindOf binds m x = m x
  | [], _, _ => rfl
  | (n, v) :: r, m, h => by
    unfold bindC
    rw [bindC_out fun w hw => h w (List.mem_cons_of_mem _ hw)]
    split
    · rfl
    · have : x ≠ n := by rintro rfl; exact h v List.mem_cons_self
      simp [this]
theorem bindL_get {kindOf : Str → Option NameKind} {x : Str} {v : Value} : ∀ {P : List Str} {vs : List Value} {i : Nat} {m : Str → Option Value}, P.Nodup → P[i]? = some x → vs[i]? = some v → kindOf x = some .local →
    bindL kindOf (P.zip vs) m x = some v
  | [], _, _, _, _, h, _, _ => by simp at h
  | _ :: _, [], _, _, _, _, h, _ => by simp at h
  | p :: P, w :: vs, 0, m, nd, h1, h2, hk => by
    simp at h1 h2; subst h1; subst h2
    show bindL kindOf ((p, w) :: P.zip vs) m p = _
    unfold bindL
    rw [bindL_out fun v hv => (List.nodup_cons.mp nd).1 (List.of_mem_zip hv).1, if_pos hk]
    simp
  | p :: P, w :: vs, i + 1, m, nd, h1, h2, hk => by
    show bindL kindOf ((p, w) :: P.zip vs) m x = _
    unfold bindL
    exact bindL_get (i := i) (List.nodup_cons.mp nd).2 (by simpa using h1) (by simpa using h2) hk
theorem bindC_get {kindOf : Str → Option NameKind} {x : Str} {v : Value} : ∀ {P : List Str} {vs : List Value} {i : Nat} {m : Str → Option Value}, P.Nodup → P[i]? = some x → vs[i]? = some v → kindOf x ≠ some .local →
    bindC kindOf (P.zip vs) m x = some v
  | [], _, _, _, _, h, _, _ => by simp at h
  | _ :: _, [], _, _, _, _, h, _ => by simp at h
  | p :: P, w :: vs, 0, m, nd, h1, h2, hk => by
    simp at h1 h2; subst h1; subst h2
    show bindC kindOf ((p, w) :: P.zip vs) m p = _
    unfold bindC
    rw [bindC_out fun v hv => (List.nodup_cons.mp nd).1 (List.of_mem_zip hv).1, if_neg hk]
    simp
  | p :: P, w :: vs, i + 1, m, nd, h1, h2, hk => by
    show bindC kindOf ((p, w) :: P.zip vs) m x = _
    unfold bindC
    exact bindC_get (i := i) (List.nodup_cons.mp nd).2 (by simpa using h1) (by simpa using h2) hk

/-- the names' values at the entry -/
def start (N : List Str) (vs : List V) : St := vs.map some ++ List.replicate (N.length - vs.length) none

/-- the context of a def's body, at its entry; an exception leaves the frame, then lies as CX says -/
def cxOf (CX : CXT) (P : Program) (w : World) (K : PySem.W.Frag) (mg : Str → Option Value) (base : Heap) (N : List Str) (qual : Str) (scope : Scope) (f : Addr) (cd : Value) (A : Around) (outer : List Env) (s : Shared) (H : Hp) (E : XK) : Cx where
  prog := P
  w := w
  K := K
  mg := mg
  base := base
  A := A.deeper (envOfC qual scope s.heap.objs.size f cd)
  N := N
  s₀ := s
  H₀ := H
  env := envOfC qual scope s.heap.objs.size f cd
  outer := outer
  stack := envOfC qual scope s.heap.objs.size f cd :: outer
  ex := []
  calm := true
  fn := fun _ => true
  pn := []
  xe := fun e s' => wpAny (model P w) (A.deeper (envOfC qual scope s.heap.objs.size f cd)) (leaving (envOfC qual scope s.heap.objs.size f cd) e) (fun _ s'' => CX outer H s E e s'') (fun e' s'' => CX outer H s E e' s'') s'

theorem cell_has {sc : Scope} {n : Nat} {x : Str} (h : sc.names.lookup x = some .cell) : ∃ c, (cellsFrom n sc.names []).lookup x = some c := by
  have q := PySem.W.cellsFrom_some sc.names n [] (.inl h)
  exact Option.isSome_iff_exists.mp q

theorem inv_start {CX : CXT} {P : Program} {w : World} {K : PySem.W.Frag} {mg : Str → Option Value} {base : Heap} {N ps : List Str} {qual : Str} {scope : Scope} {f : Addr} {cd : Value} {A : Around} {outer : List Env} {s s1 : Shared} {H : Hp} {E : XK} {us : List Value} {vs : List V}
    (S : FnScope N ps scope) (hd : A.handled = none) (e0 : Env0 P w K mg base A outer s H) (hl : vs.length = ps.length) (r : Vals vs us)
    (x : InCallC s s.heap.objs.size (bindL (envOfC qual scope s.heap.objs.size f cd).kindOf (ps.zip us) fun _ => none) (cellsFrom (s.heap.objs.size + 1) scope.names []) (bindC (envOfC qual scope s.heap.objs.size f cd).kindOf (ps.zip us) fun _ => none) s1) :
    Inv (cxOf CX P w K mg base N qual scope f cd A outer s H E) [] (start N vs) H s1 := by
  have hpl : ps.length ≤ N.length := by have := congrArg List.length S.pre; rw [List.length_take] at this; omega
  obtain ⟨h1, tk, rfl, hk⟩ := x.done
  have noA : ∀ b : Addr, b ∉ (cxOf CX P w K mg base N qual scope f cd A outer s H E).ex := fun b z => absurd (show b ∈ ([] : List Addr) from z) (by simp)
  refine ⟨⟨e0.mod, S.kind, rfl, rfl, Nat.le_refl _, fun y z c h1 h2 => ?_, fun y hy => ?_, fun y c _ h => ?_, fun _ => hd, Around.frames_deeper e0.frames, .inr ⟨rfl, rfl⟩, fun b z => absurd z (noA b), e0.bs, e0.bsz, fun b _ _ => noA b, fun b z => absurd z (noA b), e0.funs, e0.frf⟩,
    rfl, e0.bare, Un.kept hk, ⟨_, x.toInCall.ns, fun i y v h1 h2 h3 => ?_⟩, fun y c h => ⟨_, x.cell y c h⟩, e0.hok.fresh (Nat.le_refl _), fun y c h => ?_, fun p hp => absurd (show p ∈ ([] : List (Addr × Obj)) from hp) (by simp), e0.hok.kept hk, ?_⟩
  · exact name_of_addr x.apart (PySem.mem_of_lookup h1) (PySem.mem_of_lookup h2)
  · have hy : scope.names.lookup y = some .cell ∨ scope.names.lookup y = some .free := hy
    rcases hy with hy | hy
    · exact cell_has hy
    · exact absurd rfl (S.nofree _ (PySem.mem_of_lookup hy))
  · exact Nat.le_of_lt (x.above y c (PySem.mem_of_lookup h))
  · have hi : i < vs.length := by
      unfold start at h2
      by_cases hi : i < vs.length
      · exact hi
      · rw [List.getElem?_append_right (by simpa using hi)] at h2
        rw [List.getElem?_replicate] at h2
        split at h2 <;> cases h2
    have ha : vs[i]? = some v := by
      unfold start at h2
      rw [List.getElem?_append_left (by simpa using hi), List.getElem?_map] at h2
      cases e : vs[i]? with
      | none => rw [e] at h2; cases h2
      | some a => rw [e] at h2; cases h2; rfl
    obtain ⟨u, hu, rv⟩ := r.get ha
    have hp : ps[i]? = some y := by
      rw [← S.pre, List.getElem?_take_of_lt (by omega)]; exact h1
    have ndP : ps.Nodup := by rw [← S.pre]; exact S.nd.sublist (List.take_sublist _ _)
    refine ⟨u, rv, ?_⟩
    rcases S.par y (List.mem_of_getElem? hp) with k | k
    · exact .inl ⟨k, bindL_get ndP hp hu k⟩
    · obtain ⟨c, e⟩ := cell_has (n := s.heap.objs.size + 1) k
      refine .inr ⟨.inl k, c, e, ?_⟩
      have q := x.cell y c e
      rw [bindC_get ndP hp hu (by show scope.names.lookup y ≠ _; rw [k]; decide)] at q
      exact q
  · exact e0.hok.fresh (Nat.le_of_lt (x.above y c (PySem.mem_of_lookup h)))
  · unfold start
    show _ = N.length
    rw [List.length_append, List.length_map, List.length_replicate]
    omega

/-- THE RULE: a def (or a method) of the text, by its body. The body's reading t is chosen for each entry; it is run at the parameters' values -/
theorem fn_of {CX : CXT} {P : Program} {w : World} {K : PySem.W.Frag} {mg : Str → Option Value} {base : Heap} {k : Nat} {f : Addr} {name qual : Str} {params : Arguments} {body : List Stmt} {scope : Scope} {dV kV doc pm cdv ct oc : Value} {an od : Option Addr}
    {osl : Array (Option Value)} {N ps : List Str} {sp : Sp} (lk : K.lookup f = some ⟨oc, od, .func (PySem.W.fnOf name qual params body scope dV kV doc pm an cdv ct), osl⟩) (hcd : PySem.W.codeIn K cdv qual = true) (S : FnScope N ps scope)
    (len : ∀ vs H Q E, sp vs H Q E → vs.length = ps.length)
    (hbody : ∀ (A : Around) (outer : List Env) (s : Shared) (H : Hp) (vs : List V) (Q : VK) (E : XK), Room k (A.deeper (envOfC qual scope s.heap.objs.size f cdv)) → sp vs H Q E →
      ∃ t, PSs (cxOf CX P w K mg base N qual scope f cdv A outer s H E) body t ∧ t { nx := fun _ H' => Q .non H', rt := Q } (start N vs) H) :
    FnOk P w K mg base CX (k + 1) f (PySem.W.fnOf name qual params body scope dV kV doc pm an cdv ct) ps sp := by
  refine ⟨len, fun A outer s H args us vs Q E hr e0 hb r hsp => ?_⟩
  have hl := len _ _ _ _ hsp
  have KX : K.In s.heap := e0.mod.kin.keeps fun b o e => (e0.bs b o e).1
  have lim : s.heap.NoLimit := e0.mod.nolimit.keeps fun b o e => (e0.bs b o e).1
  have hkind : ∀ y ∈ ps.zip us, scope.names.lookup y.1 = some .local ∨ (scope.names.lookup y.1 = some .cell ∧ ((cellsFrom (s.heap.objs.size + 1) scope.names []).lookup y.1).isSome = true) := fun ⟨n, v⟩ hy => by
    rcases S.par n (List.of_mem_zip hy).1 with q | q
    · exact .inl q
    · exact .inr ⟨q, PySem.W.cellsFrom_some _ _ _ (.inl q)⟩
  refine codeAny_call_function hr.depth (KX _ _ lk) rfl S.co S.gen rfl (PySem.W.codeRec_of KX hcd) (hb _ _ _ _ ?_)
  refine wpAny_newFunctionEnv_cells S.kind hkind fun env he s1 x => ?_
  subst he
  refine ⟨lim.keeps x.toInCall.keep, codeAny_func ?_⟩
  obtain ⟨t, ht, hq⟩ := hbody A outer s H vs Q E (hr.deeper _) hsp
  have I : Inv (cxOf CX P w K mg base N qual scope f cdv A outer s H E) [] (start N vs) H s1 := inv_start S hr.hd e0 hl r x
  refine wpAny_mono (ht [] s1 (start N vs) H _ I hq) (fun fl s' hs => ?_) fun e s' hs => hs
  have fin : ∀ {σ' : St} {H' : Hp} {v : V} {u : Value}, Inv (cxOf CX P w K mg base N qual scope f cdv A outer s H E) [] σ' H' s' → RelV v u → Q v H' → CE outer P w H s Q u s' :=
    fun {σ' H' v u} J rv q => ⟨v, H', J.os, J.bare, J.base, J.hok, rv, q⟩
  cases fl with
  | ret u =>
    obtain ⟨v, σ', H', J, rv, q⟩ := hs
    exact fin J rv q
  | next =>
    obtain ⟨σ', H', J, q⟩ := hs
    exact fin (v := V.non) (u := Value.none) J rfl q
  | brk =>
    obtain ⟨_, _, _, q⟩ := hs
    exact False.elim q
  | cont =>
    obtain ⟨_, _, _, q⟩ := hs
    exact False.elim q
end L2

namespace L2
open PySem PySem.Spec PyProof.Rows
section
variable {X : Cx} {x : Str} {p pos : Pos} {e : Expr} {es : List Expr} {t : TA} {id T : String} {r : List V → Hp → VK → Prop}

def tCB (r : List V → Hp → VK → Prop) (t : TA) : TE := fun σ H Q => t σ H fun vs H1 => r vs H1 Q
/-- f(e, ..), f a built-in function -/
theorem pe_callB (hc : CallR X (.builtin id) r) (hg : Gl X x) (hm : X.mg x = none) (hv : bootBuiltins x = some (.builtin id)) (ha : PA X (e :: es) t) (hn : x ≠ "__name__" := by decide) (hdb : (x == ("__debug__" : Str)) = false := by decide)
    (he : starEach (e :: es) X.env = (false, eval e X.env) :: starEach es X.env := by rfl) (hpl : (backTo pos (starEach es X.env)).any (·.1) = false := by rfl) : PE X (.Call (.Name x p) (e :: es) [] pos) (tCB r t) := by
  intro pins s σ H Q I h
  refine wpAny_Call_Name_kw (ld_blt I hg hm hv ?_ hn hdb)
  exact PyProof.Rows.callWith_builtin1 (thn (ha pos pins s σ H _ I h) fun us s1 ⟨vs, H1, I1, r1, q1⟩ => hc pins s1 σ H1 vs us Q I1 r1 q1) he hpl
/-- T(e, ..), T a built-in type -/
theorem pe_callTy (hc : CallR X (.type T) r) (hg : Gl X x) (hm : X.mg x = none) (hv : bootBuiltins x = some (.type T)) (ha : PA X (e :: es) t) (hn : x ≠ "__name__" := by decide) (hdb : (x == ("__debug__" : Str)) = false := by decide)
    (he : starEach (e :: es) X.env = (false, eval e X.env) :: starEach es X.env := by rfl) (hpl : (backTo pos (starEach es X.env)).any (·.1) = false := by rfl) : PE X (.Call (.Name x p) (e :: es) [] pos) (tCB r t) := by
  intro pins s σ H Q I h
  refine wpAny_Call_Name_kw (ld_blt I hg hm hv ?_ hn hdb)
  exact PyProof.Rows.callWith_type1 (thn (ha pos pins s σ H _ I h) fun us s1 ⟨vs, H1, I1, r1, q1⟩ => hc pins s1 σ H1 vs us Q I1 r1 q1) he hpl
end
end L2

namespace HT
open PySem PyProof.Rows

section
open PySem.SeqAt
open PySem.AutoSeq1 (wpAny_loadPart')
open PySem.MeetsSeq PySem.MeetsSeq2 PySem.MeetsSeq3

end

section
variable {prog : Program} {w : World} {A : Around} {E : Value → Shared → Prop} {s : Shared}

/-! ### t[a:b], not the whole -/
/-- a slice's bound as a place among n (d where it is left out) -/
def sIx (n d : Nat) : Option Int → Nat
  | none => d
  | some v => if v < 0 then (v + (n : Int)).toNat else min v.toNat n
theorem sIx_nat (n d k : Nat) : sIx n d (some (k : Int)) = min k n := by
  show (if (k : Int) < 0 then ((k : Int) + (n : Int)).toNat else min (k : Int).toNat n) = min k n
  rw [if_neg (by omega), Int.toNat_natCast]
end
end HT

namespace L2
open PySem PySem.Spec PyProof.Rows

/-! ### the parts of a slice -/
abbrev TO := St → Hp → (Option Int → Hp → Prop) → Prop
/-- a slice's part (left out, or an int) -/
def PO (X : Cx) (e : Option Expr) (t : TO) : Prop :=
  ∀ (pins : List (Addr × Obj)) (s : Shared) (σ : St) (H : Hp) (Q : Option Int → Hp → Prop), Inv X pins σ H s → t σ H Q →
    wpAny (model X.prog X.w) X.A (evalPart e X.env) (fun u s' => ∃ o H', Inv X pins σ H' s' ∧ IsPart u o ∧ Q o H') X.xe s
def tNoPart : TO := fun _ H Q => Q none H
def tPart (t : TE) : TO := fun σ H Q => t σ H fun x H1 => ∃ i, x = .int i ∧ Q (some i) H1

section
variable {X : Cx} {e : Expr} {te : TE} {lo hi : Option Expr} {tl th : TO} {pos p2 : Pos}

theorem po_none : PO X none tNoPart := by
  intro pins s σ H Q I h
  rw [evalPart_none]
  exact wpAny_pure ⟨none, H, I, .none, h⟩
theorem po_some (h : PE X e te) : PO X (some e) (tPart te) := by
  intro pins s σ H Q I hw
  rw [evalPart_some]
  refine thn (h pins s σ H _ I hw) fun u s1 ⟨x, H1, I1, r1, q1⟩ => ?_
  obtain ⟨i, rfl, q⟩ := q1
  obtain ⟨t, rfl⟩ := r1
  exact ⟨some i, H1, I1, .int i t, q⟩

/-- what a slice of a value is, by values: the slice object stands at sl -/
def SlR (X : Cx) (r : V → Option Int → Option Int → Hp → VK → Prop) : Prop :=
  ∀ (pins : List (Addr × Obj)) (s : Shared) (σ : St) (H : Hp) (x : V) (v vl vu : Value) (lo hi : Option Int) (sl : Addr) (Q : VK), Inv X pins σ H s → RelV x v → s.heap.IsSliceOf sl vl vu .none → IsPart vl lo → IsPart vu hi → r x lo hi H Q →
    ∃ T id, typeLookup (.type T) "__getitem__" = pure (some (.builtin id)) ∧ s.TypeIs v T ∧ wpAny (model X.prog X.w) X.A (getItem v (.ref sl)) (EP X pins σ Q) X.xe s
def tSl (r : V → Option Int → Option Int → Hp → VK → Prop) (te : TE) (tl th : TO) : TE := fun σ H Q => te σ H fun x H1 => tl σ H1 fun l H2 => th σ H2 fun u H3 => r x l u H3 Q
/-- a[lo:hi], any a -/
theorem pe_slice {r : V → Option Int → Option Int → Hp → VK → Prop} (hr : SlR X r) (he : PE X e te) (hl : PO X lo tl) (hu : PO X hi th) : PE X (.Subscript e (.Slice lo hi none p2) pos) (tSl r te tl th) := by
  intro pins s σ H Q I h
  refine Subscript_ (thn (he pins s σ H _ I h) fun v s1 ⟨x, H1, I1, r1, q1⟩ => ?_)
  refine wpAny_Slice (thn (hl pins s1 σ H1 _ I1 q1) fun vl s2 ⟨l, H2, I2, pl, q2⟩ => thn (hu pins s2 σ H2 _ I2 q2) fun vu s3 ⟨u, H3, I3, pu, q3⟩ => ?_)
  rw [evalPart_none]
  refine wpAny_pure ?_
  have I4 : Inv X pins σ H3 { s3 with heap := s3.heap.push { cls := .type "slice", data := .fields #[vl, vu, .none] } } := I3.kept (t' := s3.toks) fun b ob q => Heap.get?_push_of_some _ q
  obtain ⟨T, id, hT, ht, hg⟩ := hr pins { s3 with heap := s3.heap.push { cls := .type "slice", data := .fields #[vl, vu, .none] } } σ H3 x v vl vu l u s3.heap.objs.size Q I4 r1 (Heap.IsSliceOf.new ..) pl pu q3
  show wpAny (model X.prog X.w) X.A (subscriptTail e (.Slice lo hi none p2) v (.ref s3.heap.objs.size)) (EP X pins σ Q) X.xe { s3 with heap := s3.heap.push { cls := .type "slice", data := .fields #[vl, vu, .none] } }
  exact tail_any (ops := [.ref s3.heap.objs.size, v]) ht hT hg (by with_unfolding_all rfl)

/-- the items of xs[lo:hi] -/
def cutV (xs : List V) (lo hi : Option Int) : List V := (xs.drop (HT.sIx xs.length 0 lo)).take (HT.sIx xs.length xs.length hi - HT.sIx xs.length 0 lo)
theorem cutV_length (xs : List V) (lo hi : Option Int) : (cutV xs lo hi).length ≤ xs.length := by
  unfold cutV
  rw [List.length_take, List.length_drop]
  omega
end
end L2

namespace L2
open PySem PySem.Spec PyProof.Rows

/-! ### places -/
/-- the place that an index of any sign means -/
def ixN (n : Nat) (i : Int) : Option Nat := if 0 ≤ i then (if i < n then some i.toNat else none) else if -(n : Int) ≤ i then some (i + n).toNat else none
def atI {α : Type} (xs : List α) (i : Int) : Option α := (ixN xs.length i).bind fun j => xs[j]?
theorem ixN_seq {n : Nat} {i : Int} {j : Nat} (h : ixN n i = some j) : seqIndex? i n = some j ∧ j < n ∧ -(n : Int) ≤ i ∧ i < n := by
  unfold ixN at h
  by_cases h0 : 0 ≤ i
  · rw [if_pos h0] at h
    by_cases h1 : i < n
    · rw [if_pos h1] at h
      have e : i.toNat = j := Option.some.inj h
      exact ⟨by rw [seqIndex_of h0 h1, e], by omega, by omega, h1⟩
    · rw [if_neg h1] at h; cases h
  · rw [if_neg h0] at h
    by_cases h1 : -(n : Int) ≤ i
    · rw [if_pos h1] at h
      have e : (i + n).toNat = j := Option.some.inj h
      exact ⟨by rw [seqIndex_neg (by omega) h1, e], by omega, h1, by omega⟩
    · rw [if_neg h1] at h; cases h
theorem atI_get {α : Type} {xs : List α} {i : Int} {v : α} (h : atI xs i = some v) : ∃ j, seqIndex? i xs.length = some j ∧ xs[j]? = some v ∧ j < xs.length ∧ -(xs.length : Int) ≤ i ∧ i < xs.length := by
  unfold atI at h
  cases e : ixN xs.length i with
  | none => rw [e] at h; cases h
  | some j =>
    rw [e] at h
    obtain ⟨h1, h2, h3, h4⟩ := ixN_seq e
    exact ⟨j, h1, h, h2, h3, h4⟩
theorem atI_nat {α : Type} {xs : List α} {j : Nat} {v : α} (h : xs[j]? = some v) : atI xs (j : Int) = some v := by
  have hj : j < xs.length := (List.getElem?_eq_some_iff.mp h).1
  have e : ixN xs.length (j : Int) = some j := by
    unfold ixN
    rw [if_pos (by omega), if_pos (by omega)]; simp
  unfold atI; rw [e]; exact h
/-! ### what may be subscripted -/
/-- what stands as an index of a plain subscript -/
def PlainIx (b : Expr) : Prop := ∀ o i, subscripted b false o i = operate [o, i] (getItem o i)
/-- a subscript by values -/
def IxR (X : Cx) (r : R2) : Prop :=
  ∀ (value slice : Expr) (pins : List (Addr × Obj)) (s : Shared) (σ : St) (H : Hp) (x y : V) (v u : Value) (Q : VK), Inv X pins σ H s → RelV x v → RelV y u → r x y H Q →
    subscripted slice false v u = operate [v, u] (getItem v u) → wpAny (model X.prog X.w) X.A (subscriptTail value slice v u) (EP X pins σ Q) X.xe s
/-- a call of a builtin's method by values: the receiver, the arguments -/
def MtR (X : Cx) (id : String) (r : V → List V → Hp → VK → Prop) : Prop :=
  ∀ (pins : List (Addr × Obj)) (s : Shared) (σ : St) (H : Hp) (x : V) (xs : List V) (v : Value) (us : List Value) (Q : VK), Inv X pins σ H s → RelV x v → Vals xs us → r x xs H Q →
    wpAny (model X.prog X.w) X.A (call (.builtin id) (v :: us)) (EP X pins σ Q) X.xe s
section
variable {X : Cx} {a b : Expr} {ta tb : TE} {pos : Pos}
/-- a[b] -/
theorem pe_ix {r : R2} (hr : IxR X r) (ha : PE X a ta) (hb : PE X b tb) (hs : PlainIx b) : PE X (.Subscript a b pos) (tOp r ta tb) := by
  intro pins s σ H Q I h
  exact Subscript_ (binT ha hb I h fun v u s2 x y H2 I2 rx ry q => hr a b pins s2 σ H2 x y v u Q I2 rx ry q (hs _ _))

def rIxL (K : PySem.W.Frag) : R2 := fun x y H Q => ∃ p xs i v, x = .ref p ∧ y = .int i ∧ SqL K H p xs ∧ atI xs i = some v ∧ Q v H
def rIxT (K : PySem.W.Frag) : R2 := fun x y H Q => ∃ p xs i v, x = .ref p ∧ y = .int i ∧ SqT K H p xs ∧ atI xs i = some v ∧ Q v H
theorem ix_list : IxR X (rIxL X.K) := by
  intro value slice pins s σ H x y v u Q I rx ry h hs
  obtain ⟨p, xs, i, z, rfl, rfl, hq, he, q⟩ := h
  cases rx
  obtain ⟨t, rfl⟩ := ry
  obtain ⟨its, r, pl, hz⟩ := I.list hq
  obtain ⟨j, h1, h2, h3, h4, h5⟩ := atI_get he
  obtain ⟨w, ew, rw'⟩ := r.get h2
  have hl := r.length
  have hn := line63
  have fin : EP X pins σ Q w s := ⟨z, H, I, rw', q⟩
  by_cases h0 : 0 ≤ i
  · have hj : i.toNat = j := by
      rw [seqIndex_of h0 h5] at h1
      exact Option.some.inj h1
    exact item_listR pl.isList h0 (by omega) (by rw [hj]; simpa using ew) fin hs
  · have hj : (i + (its.toArray.size : Int)).toNat = j := by
      rw [seqIndex_neg (by omega) h4] at h1
      rw [List.size_toArray, ← hl]
      exact Option.some.inj h1
    exact subscriptTail_builtinR (x := w) pl.isList.typeIs slot_list_getitem.lookup
      (wpAny_getItem_list_neg (Q := fun r s' => r = w ∧ EP X pins σ Q r s') pl.isList (by omega) (by rw [List.size_toArray] <;> omega) (by omega) (by rw [hj]; simpa using ew) ⟨rfl, fin⟩) hs
theorem ix_tup : IxR X (rIxT X.K) := by
  intro value slice pins s σ H x y v u Q I rx ry h hs
  obtain ⟨p, xs, i, z, rfl, rfl, hq, he, q⟩ := h
  cases rx
  obtain ⟨t, rfl⟩ := ry
  obtain ⟨its, r, pl, hz⟩ := I.tuple hq
  obtain ⟨j, h1, h2, h3, h4, h5⟩ := atI_get he
  obtain ⟨w, ew, rw'⟩ := r.get h2
  have hl := r.length
  have hn := line63
  have fin : EP X pins σ Q w s := ⟨z, H, I, rw', q⟩
  exact subscriptTail_builtinR (x := w) pl.typeIs slot_tuple_getitem.lookup
    (getItem_tuple (j := j) (Q := fun r s' => r = w ∧ EP X pins σ Q r s') pl (by omega) (by omega) (by rw [List.size_toArray, ← hl]; exact h1) (by simpa using ew) ⟨rfl, fin⟩) hs
/-! ### xs[i] = v, any sign -/
/-- the list's object behind a store -/
theorem mapSeq_set (its : List Value) (n j : Nat) (u : Value) : Obj.mapSeq (·.setIfInBounds j u) { cls := .type "list", data := .seq its.toArray n } = { cls := .type "list", data := .seq (its.set j u).toArray n } := by
  simp [Obj.mapSeq]
theorem Inv.lst {pins : List (Addr × Obj)} {σ : St} {H : Hp} {s : Shared} {p : Addr} {xs : List V} (I : Inv X pins σ H s) (h : H p = some (.lst xs)) :
    ∃ (its : List Value) (n : Nat), Vals xs its ∧ s.heap.get? p = some { cls := .type "list", data := .seq its.toArray n } ∧ xs.length ≤ sizeLine := by
  obtain ⟨z, its, n, r, e⟩ := I.hok p _ h
  exact ⟨its, n, r, e, z⟩
/-- the list at p is written by an update of its object -/
theorem Inv.lstUpd {pins : List (Addr × Obj)} {σ : St} {H : Hp} {s : Shared} {p : Addr} {xs ys : List V} {its its' : List Value} {n n' : Nat} {f : Obj → Obj} (I : Inv X pins σ H s) (h : H p = some (.lst xs))
    (ho : s.heap.get? p = some { cls := .type "list", data := .seq its.toArray n }) (hf : f { cls := .type "list", data := .seq its.toArray n } = { cls := .type "list", data := .seq its'.toArray n' }) (r : Vals ys its') (hz : ys.length ≤ sizeLine) (t : Nat) :
    Inv X pins σ (upd H p (.lst ys)) { s with heap := s.heap.update p f, toks := t } := by
  have e : (s.heap.update p f).get? p = some { cls := .type "list", data := .seq its'.toArray n' } := by
    rw [Heap.get?_update_self f ho (by rw [hf] <;> rfl), hf]
  refine I.write (x := p) (e := p) (by rw [h]; trivial) (.inl rfl) (fun b u hb q => (Heap.get?_update_other _ _ (Ne.symm hb)).trans q) ⟨_, e⟩ ?_
  exact ⟨hz, its', n', r, e⟩
def rSetL : V → V → V → Hp → (Hp → Prop) → Prop := fun o i v H Q => ∃ p xs k j, o = .ref p ∧ i = .int k ∧ H p = some (.lst xs) ∧ ixN xs.length k = some j ∧ Q (upd H p (.lst (xs.set j v)))
theorem set_list : PSet X rSetL := by
  intro pins s σ H o i v ov iv u Q I ro ri rv h
  obtain ⟨p, xs, k, j, rfl, rfl, hp, hj, q⟩ := h
  cases ro
  obtain ⟨t, rfl⟩ := ri
  obtain ⟨its, n, r, ho, hz⟩ := I.lst hp
  obtain ⟨h1, h2, h3, h4⟩ := ixN_seq hj
  have hl := r.length
  have hn := line63
  have I' : Inv X pins σ (upd H p (.lst (xs.set j v))) { s with heap := s.heap.update p (Obj.mapSeq (·.setIfInBounds j u)) } :=
    I.lstUpd hp ho (mapSeq_set its n j u) (r.set rv j) (by rw [List.length_set]; exact hz) s.toks
  by_cases h0 : 0 ≤ k
  · have hk : k.toNat = j := by
      rw [seqIndex_of h0 h4] at h1
      exact Option.some.inj h1
    exact PySem.W.ki_setAt ho h0 (by omega) (by rw [List.size_toArray, ← hl]; exact h4) (by rw [hk]; exact ⟨_, I', q⟩)
  · have hk : (k + (its.toArray.size : Int)).toNat = j := by
      rw [seqIndex_neg (by omega) h3] at h1
      rw [List.size_toArray, ← hl]
      exact Option.some.inj h1
    exact PySem.W.ki_setBack ho (by omega) (by rw [List.size_toArray, ← hl]; exact h3) (by omega) (by rw [hk]; exact ⟨_, I', q⟩)

/-! ### slices -/
theorem slice_bounds (lo hi : Option Int) (n : Nat) : (sliceBounds lo hi none n).1 = ((HT.sIx n 0 lo : Nat) : Int) ∧ (sliceBounds lo hi none n).2.1 = ((HT.sIx n n hi : Nat) : Int) ∧ (sliceBounds lo hi none n).2.2 = 1 := by
  refine ⟨?_, ?_, rfl⟩
  · cases lo with
    | none => simp [sliceBounds, HT.sIx]
    | some i =>
      simp only [sliceBounds, HT.sIx, Option.getD_none, show (1 : Int) > 0 by decide, if_true]
      by_cases h : i < 0
      · simp only [h, if_true] <;> omega
      · simp only [h, if_false] <;> omega
  · cases hi with
    | none => simp [sliceBounds, HT.sIx]
    | some i =>
      simp only [sliceBounds, HT.sIx, Option.getD_none, show (1 : Int) > 0 by decide, if_true]
      by_cases h : i < 0
      · simp only [h, if_true] <;> omega
      · simp only [h, if_false] <;> omega
theorem slicePick_cut (its : List Value) (lo hi : Option Int) : slicePick its.toArray lo hi none = ((its.drop (HT.sIx its.length 0 lo)).take (HT.sIx its.length its.length hi - HT.sIx its.length 0 lo)).toArray := by
  obtain ⟨h1, h2, h3⟩ := slice_bounds lo hi its.toArray.size
  unfold slicePick
  rw [h1, h2, h3]
  simp only [sliceRange_one, pick_run, List.size_toArray] <;> rfl
/-- xs[lo:hi] of a list: a new list -/
def rSlL (K : PySem.W.Frag) : V → Option Int → Option Int → Hp → VK → Prop := fun x lo hi H Q => ∃ a xs, x = .ref a ∧ SqL K H a xs ∧ ∀ p, H p = none → Q (.ref p) (upd H p (.lst (cutV xs lo hi)))
theorem sl_list : SlR X (rSlL X.K) := by
  intro pins s σ H x v vl vu lo hi sl Q I rx hs pl pu h
  obtain ⟨a, xs, rfl, hx, q⟩ := h
  cases rx
  obtain ⟨its, r, ht, hz⟩ := I.list hx
  have hlen := r.length
  refine ⟨"list", _, slot_list_getitem.lookup, ht.isList.typeIs, ?_⟩
  refine wpAny_getItem_list_slice ht.isList hs pl pu .none (by simp) ?_ (by rw [List.size_toArray] <;> omega)
  rw [slicePick_cut, ← hlen]
  refine ⟨.ref s.heap.objs.size, _, I.laid (t' := s.toks) (o := .lst (cutV xs lo hi)) (fun b ob q => Heap.get?_push_of_some _ q) (Nat.le_refl _) ?_, rfl, q _ (I.hok.fresh (Nat.le_refl _))⟩
  exact ⟨Nat.le_trans (cutV_length xs lo hi) hz, _, 0, (r.drop (HT.sIx xs.length 0 lo)).take (HT.sIx xs.length xs.length hi - HT.sIx xs.length 0 lo), Heap.get?_push_size _ rfl⟩

/-! ### in, not in: flat items -/
def flatV : V → Bool
  | .non => true
  | .bl _ => true
  | .int _ => true
  | .str _ => true
  | _ => false
/-- == of flat values -/
def eqV : V → V → Bool
  | .non, .non => true
  | .bl a, .bl b => a == b
  | .bl a, .int b => (if a then 1 else 0) == b
  | .int a, .bl b => a == (if b then 1 else 0)
  | .int a, .int b => a == b
  | .str a, .str b => a == b
  | _, _ => false
theorem eqAt_V {A : Around} {s : Shared} {y x : V} {u v : Value} (ry : RelV y u) (rx : RelV x v) (fy : flatV y = true) (fx : flatV x = true) : SeqAt.EqAt A s u v (eqV y x) := by
  cases y with
  | non =>
    cases ry
    cases x with
    | non => cases rx; exact SeqAt.EqAt.same _
    | bl b => cases rx; exact SeqAt.EqAt.none_bool b
    | int b => obtain ⟨t, rfl⟩ := rx; exact SeqAt.EqAt.none_int b t
    | str b => obtain ⟨t, rfl⟩ := rx; exact SeqAt.EqAt.none_str b t
    | _ => exact absurd (show false = true from fx) Bool.false_ne_true
  | bl a =>
    cases ry
    cases x with
    | non => cases rx; exact SeqAt.EqAt.bool_none a
    | bl b => cases rx; exact SeqAt.EqAt.bool_bool a b
    | int b => obtain ⟨t, rfl⟩ := rx; exact SeqAt.EqAt.bool_int a b t
    | str b => obtain ⟨t, rfl⟩ := rx; exact SeqAt.EqAt.bool_str a b t
    | _ => exact absurd (show false = true from fx) Bool.false_ne_true
  | int a =>
    obtain ⟨t', rfl⟩ := ry
    cases x with
    | non => cases rx; exact SeqAt.EqAt.int_none a t'
    | bl b => cases rx; exact SeqAt.EqAt.int_bool a t' b
    | int b => obtain ⟨t, rfl⟩ := rx; exact SeqAt.EqAt.int_int a t' b t
    | str b => obtain ⟨t, rfl⟩ := rx; exact SeqAt.EqAt.int_str a t' b t
    | _ => exact absurd (show false = true from fx) Bool.false_ne_true
  | str a =>
    obtain ⟨t', rfl⟩ := ry
    cases x with
    | non => cases rx; exact SeqAt.EqAt.str_none a t'
    | bl b => cases rx; exact SeqAt.EqAt.str_bool a t' b
    | int b => obtain ⟨t, rfl⟩ := rx; exact SeqAt.EqAt.str_int a t' b t
    | str b => obtain ⟨t, rfl⟩ := rx; exact SeqAt.EqAt.str_str a t' b t
    | _ => exact absurd (show false = true from fx) Bool.false_ne_true
  | _ => exact absurd (show false = true from fy) Bool.false_ne_true
/-! ### len, list(x), tuple(x) of any list or tuple that is read -/
theorem call_len_seq : CallR X (.builtin "len") (fun xs H Q => ∃ p ys, xs = [.ref p] ∧ (SqL X.K H p ys ∨ SqT X.K H p ys) ∧ Q (.int ys.length) H) := by
  intro pins s σ H xs us Q I r h
  obtain ⟨p, ys, rfl, hq, q⟩ := h
  obtain ⟨u, rfl, rx⟩ := vals1 r
  cases rx
  have hn := line63
  rcases hq with hq | hq
  · obtain ⟨its, r', pl, hz⟩ := I.list hq
    have hlen := r'.length
    exact Calls.call_len_list pl.isList (by simp only [List.size_toArray] <;> omega) ⟨.int ys.length, H, I.tok _, ⟨s.toks + 1, by rw [List.size_toArray, hlen]⟩, q⟩
  · obtain ⟨its, r', pl, hz⟩ := I.tuple hq
    have hlen := r'.length
    exact len_tuple pl (by simp only [List.size_toArray] <;> omega) ⟨.int ys.length, H, I.tok _, ⟨s.toks + 1, by rw [List.size_toArray, hlen]⟩, q⟩
theorem call_list_of : CallR X (.type "list") (fun xs H Q => ∃ p ys, xs = [.ref p] ∧ (SqL X.K H p ys ∨ SqT X.K H p ys) ∧ ∀ l, H l = none → Q (.ref l) (upd H l (.lst ys))) := by
  intro pins s σ H xs us Q I r h
  obtain ⟨p, ys, rfl, hq, q⟩ := h
  obtain ⟨u, rfl, rx⟩ := vals1 r
  cases rx
  have fin : ∀ (its : List Value), Vals ys its → ys.length ≤ sizeLine → ∀ (h' : Heap) (c' : Nat), (∀ b o', s.heap.get? b = some o' → h'.get? b = some o') →
      h'.get? s.heap.objs.size = some { cls := .type "list", dict := none, data := .seq its.toArray c', slots := #[] } → EP X pins σ Q (.ref s.heap.objs.size) { s with heap := h' } := fun its r' hz h' c' kp e =>
    ⟨.ref s.heap.objs.size, _, I.laid (t' := s.toks) kp (Nat.le_refl _) (show ObjOk X.prog X.w _ h' _ (.lst ys) from ⟨hz, its, c', r', e⟩), rfl, q _ (I.hok.fresh (Nat.le_refl _))⟩
  rcases hq with hq | hq
  · obtain ⟨its, r', pl, hz⟩ := I.list hq
    have hlen := r'.length
    obtain ⟨o, ho, hc, n, hd⟩ := pl.isList
    exact call_list_seq p (.inl rfl) ho hc hd (fun h' c' kp e => fin its r' hz h' c' kp e) (by simp only [List.size_toArray] <;> omega)
  · obtain ⟨its, r', pl, hz⟩ := I.tuple hq
    have hlen := r'.length
    obtain ⟨o, ho, hc, n, hd⟩ := pl
    exact call_list_seq p (.inr rfl) ho hc hd (fun h' c' kp e => fin its r' hz h' c' kp e) (by simp only [List.size_toArray] <;> omega)
theorem call_tuple_of : CallR X (.type "tuple") (fun xs H Q => ∃ p ys, xs = [.ref p] ∧ ((SqL X.K H p ys ∧ ∀ l, H l = none → Q (.ref l) (upd H l (.tup ys))) ∨ (SqT X.K H p ys ∧ Q (.ref p) H))) := by
  intro pins s σ H xs us Q I r h
  obtain ⟨p, ys, rfl, h⟩ := h
  obtain ⟨u, rfl, rx⟩ := vals1 r
  cases rx
  rcases h with ⟨hq, q⟩ | ⟨hq, q⟩
  · obtain ⟨its, r', pl, hz⟩ := I.list hq
    have hlen := r'.length
    refine call_tuple_list pl.isList (fun h' kp => ?_) (by simp only [List.size_toArray] <;> omega)
    have I1 : Inv X pins σ H { s with heap := h' } := I.kept (t' := s.toks) kp
    have I2 : Inv X pins σ (upd H h'.objs.size (.tup ys)) { s with heap := h'.push { cls := .type "tuple", data := .seq its.toArray } } :=
      I1.laid (t' := s.toks) (fun b o e => Heap.get?_push_of_some _ e) (Nat.le_refl _) (show ObjOk X.prog X.w _ _ _ (.tup ys) from ⟨hz, its, r', IsTup.new _ _⟩)
    exact ⟨.ref h'.objs.size, _, I2, rfl, q _ (I1.hok.fresh (Nat.le_refl _))⟩
  · obtain ⟨its, r', pl, hz⟩ := I.tuple hq
    exact call_tuple_same pl ⟨.ref p, H, I, rfl, q⟩

/-! ### the call of a builtin's method: o.m(..) -/
/-- the value is of that builtin type -/
def tyV (K : PySem.W.Frag) (T : String) (x : V) (H : Hp) : Prop := match x with
  | .str _ => T = "str"
  | .int _ => T = "int"
  | .ref p => (T = "list" ∧ ∃ xs, SqL K H p xs) ∨ (T = "tuple" ∧ ∃ o, K.lookup p = some o ∧ o.cls = .type "tuple" ∧ o.dict = none) ∨
      (T = "dict" ∧ ((∃ kvs, H p = some (.dK kvs)) ∨ ∃ kvs, H p = some (.dT kvs))) ∨ (T = "set" ∧ ∃ S n, H p = some (.set S n))
  | _ => False
theorem tyV_is {pins : List (Addr × Obj)} {σ : St} {H : Hp} {s : Shared} {T : String} {x : V} {v : Value} (I : Inv X pins σ H s) (r : RelV x v) (ty : tyV X.K T x H) :
    s.TypeIs v T ∧ ∀ a, v = .ref a → ∃ ob, s.heap.get? a = some ob ∧ ob.dict = none := by
  cases x with
  | str z =>
    obtain ⟨t, rfl⟩ := r
    cases (show T = "str" from ty)
    exact ⟨typeIs_str s z t, fun _ e => nomatch e⟩
  | int i =>
    obtain ⟨t, rfl⟩ := r
    cases (show T = "int" from ty)
    exact ⟨typeIs_int s i t, fun _ e => nomatch e⟩
  | ref p =>
    cases r
    rcases ty with ⟨rfl, xs, hq⟩ | ⟨rfl, o, hk, hc, hd⟩ | ⟨rfl, hk⟩ | ⟨rfl, S, n, hk⟩
    · obtain ⟨its, _, pl, _⟩ := I.list hq
      refine ⟨pl.isList.typeIs, fun a e => ?_⟩
      cases e
      obtain ⟨o, n, e, c, hd, _⟩ := pl
      exact ⟨o, e, hd⟩
    · refine ⟨⟨o, I.kIn p o hk, hc⟩, fun a e => ?_⟩
      cases e
      exact ⟨o, I.kIn _ o hk, hd⟩
    · have z : ∃ o, s.heap.get? p = some o ∧ o.ExactDict := by
        rcases hk with ⟨kvs, hk⟩ | ⟨kvs, hk⟩
        · obtain ⟨_, _, _, _, o, _, _, e, ex, _⟩ := I.hok p _ hk
          exact ⟨o, e, ex⟩
        · obtain ⟨_, _, _, _, o, _, _, e, ex, _⟩ := I.hok p _ hk
          exact ⟨o, e, ex⟩
      obtain ⟨o, e, ex⟩ := z
      refine ⟨⟨o, e, ex.1⟩, fun a e2 => ?_⟩
      cases e2
      exact ⟨o, e, ex.2.1⟩
    · obtain ⟨o, _, _, _, e, ex, _⟩ := I.hok p _ hk
      refine ⟨⟨o, e, ex.1⟩, fun a e2 => ?_⟩
      cases e2
      exact ⟨o, e, ex.2.1⟩
  | _ => exact False.elim ty
def tBM0 (K : PySem.W.Frag) (T : String) (r : V → List V → Hp → VK → Prop) (to : TE) : TE := fun σ H Q => to σ H fun x H1 => tyV K T x H1 ∧ r x [] H1 Q
def tBM (K : PySem.W.Frag) (T : String) (r : V → List V → Hp → VK → Prop) (to : TE) (t : TA) : TE := fun σ H Q => to σ H fun x H1 => tyV K T x H1 ∧ t σ H1 fun xs H2 => r x xs H2 Q
variable {o e : Expr} {es : List Expr} {to : TE} {t : TA} {name : Str} {apos cpos : Pos} {T id : String} {r : V → List V → Hp → VK → Prop}
theorem pe_bm0 (pa : PlainAttrs T) (slot : Slot T name id) (hty : typeOf (.builtin id) = pure (.type "method_descriptor")) (hm : MtR X id r) (ho : PE X o to)
    (hbase : attributeBase o name X.env (eval o X.env) = eval o X.env := by rfl) (hline : (apos.endLine == cpos.line) = true := by rfl) : PE X (.Call (.Attribute o name apos) [] [] cpos) (tBM0 X.K T r to) := by
  intro pins s σ H Q I h
  refine wpAny_Call_method0_late hbase hline (thn (ho pins s σ H _ I h) fun v s1 ⟨x, H1, I1, r1, ty, q1⟩ => ?_)
  obtain ⟨h1, h2⟩ := tyV_is I1 r1 ty
  exact ⟨T, id, pa, slot, hty, h1, h2, Calls.callWith_builtin rfl (PySem.evalArgs_none (hm pins s1 σ H1 x [] v [] Q I1 r1 .nil q1))⟩
theorem pe_bm (pa : PlainAttrs T) (slot : Slot T name id) (hty : typeOf (.builtin id) = pure (.type "method_descriptor")) (hm : MtR X id r) (ho : PE X o to) (ha : PA X (e :: es) t)
    (hbase : attributeBase o name X.env (eval o X.env) = eval o X.env := by rfl)
    (hfew : ((backTo cpos (starEach (e :: es) X.env)).all (fun x => !x.1) && (backToKw cpos (keywordEach [] X.env)).all (fun x => x.1.isSome)
      && decide ((e :: es).length + ([] : List Keyword).length + (if ([] : List Keyword).isEmpty then 0 else 1) < 30)) = true := by rfl)
    (hline : (apos.endLine == cpos.line) = true := by rfl) (hs : starEach (e :: es) X.env = (false, eval e X.env) :: starEach es X.env := by rfl) (hplain : (backTo cpos (starEach es X.env)).any (·.1) = false := by rfl) :
    PE X (.Call (.Attribute o name apos) (e :: es) [] cpos) (tBM X.K T r to t) := by
  intro pins s σ H Q I h
  refine wpAny_Call_method_late hbase hfew hline rfl (thn (ho pins s σ H _ I h) fun v s1 ⟨x, H1, I1, r1, ty, q1⟩ => ?_)
  obtain ⟨h1, h2⟩ := tyV_is I1 r1 ty
  refine ⟨T, id, pa, slot, hty, h1, h2, ?_⟩
  have hA := ha cpos pins s1 σ H1 _ I1 q1
  rw [hs] at hA ⊢
  refine Calls.callWith_builtin (by show (false || (backTo cpos (starEach es X.env)).any (·.1)) = false; rw [hplain] <;> rfl) (Calls.evalArgs_plain ?_)
  exact thn hA fun us s2 ⟨vs, H2, I2, r2, q2⟩ => hm pins s2 σ H2 x vs v us Q I2 r1 r2 q2
/- xs.append(e), list.index on a module's tuple .. are MtR facts of 06m -/
end
end L2

namespace L2
open PySem PySem.Spec PyProof.Rows

def MtM (X : Cx) (id : String) (r : V → List V → Hp → VK → Prop) : Prop :=
  ∀ (pins : List (Addr × Obj)) (s : Shared) (σ : St) (H : Hp) (x : V) (xs : List V) (v : Value) (us : List Value) (Q : VK), Inv X pins σ H s → RelV x v → Vals xs us → r x xs H Q →
    wpAny (model X.prog X.w) X.A (call (.builtin id) (v :: us)) (EP X pins σ Q) X.xe s

/-! ### lists of values -/
theorem Vals.one : ∀ {x : V} {us : List Value}, Vals [x] us → ∃ u, us = [u] ∧ RelV x u
  | _, _, .cons r .nil => ⟨_, rfl, r⟩
theorem Vals.zero : ∀ {us : List Value}, Vals [] us → us = []
  | _, .nil => rfl
theorem Vals.dropLast {xs : List V} {us : List Value} (h : Vals xs us) : Vals xs.dropLast us.dropLast := by
  induction h with
  | nil => exact .nil
  | cons r t ih =>
    cases t with
    | nil => exact .nil
    | cons q t' => exact .cons r ih
theorem Vals.eraseIdx : ∀ {xs : List V} {us : List Value} (i : Nat), Vals xs us → Vals (xs.eraseIdx i) (us.eraseIdx i)
  | _, _, _, .nil => .nil
  | _, _, 0, .cons _ t => t
  | _, _, i + 1, .cons r t => .cons r (Vals.eraseIdx i t)
theorem Vals.reverse {xs : List V} {us : List Value} (h : Vals xs us) : Vals xs.reverse us.reverse := by
  induction h with
  | nil => exact .nil
  | cons r t ih => rw [List.reverse_cons, List.reverse_cons]; exact Vals.append ih (.cons r .nil)
theorem Vals.rep {xs : List V} {us : List Value} (h : Vals xs us) : ∀ k : Nat, Vals (List.replicate k xs).flatten (List.replicate k us).flatten
  | 0 => .nil
  | k + 1 => by
    rw [List.replicate_succ, List.replicate_succ, List.flatten_cons, List.flatten_cons]
    exact Vals.append h (Vals.rep h k)
theorem erase_last {α : Type} (l : List α) : l.eraseIdx (l.length - 1) = l.dropLast := by
  induction l with
  | nil => rfl
  | cons a r ih =>
    cases r with
    | nil => rfl
    | cons b r =>
      have e : (a :: b :: r).length - 1 = ((b :: r).length - 1) + 1 := by
        have h1 : (a :: b :: r).length = r.length + 2 := rfl
        have h2 : (b :: r).length = r.length + 1 := rfl
        omega
      rw [e, List.eraseIdx_cons_succ, ih]
      all_goals rfl
theorem foldl_rep (its : List Value) : ∀ (k : Nat) (acc : List Value),
    List.foldl (fun x1 x2 => x1 ++ x2) acc.toArray (List.replicate k its.toArray) = (acc ++ (List.replicate k its).flatten).toArray
  | 0, acc => by simp
  | k + 1, acc => by
    have e : acc.toArray ++ its.toArray = (acc ++ its).toArray := by simp
    have e2 : (acc ++ its) ++ (List.replicate k its).flatten = acc ++ (List.replicate (k + 1) its).flatten := by
      rw [List.replicate_succ, List.flatten_cons, List.append_assoc]
    rw [← e2, ← foldl_rep its k (acc ++ its), ← e, List.replicate_succ, List.foldl_cons]

section
variable {X : Cx} {pins : List (Addr × Obj)} {σ : St} {H : Hp} {s : Shared} {l b : Addr} {xs ys zs : List V}

/-! ### the two steps: a tracked list is rewritten, a new list is laid -/
theorem Inv.lset {its its' : List Value} {n : Nat} {f : Array Value → Array Value} {t' : Nat} (I : Inv X pins σ H s) (hH : H l = some (.lst xs))
    (e : s.heap.get? l = some { cls := .type "list", data := .seq its.toArray n }) (hf : f its.toArray = its'.toArray) (hv : Vals ys its') (hz : ys.length ≤ sizeLine) :
    Inv X pins σ (upd H l (.lst ys)) { s with heap := s.heap.update l (Obj.mapSeq f), toks := t' } := by
  have q := PySem.IsL.update e f
  rw [hf] at q
  refine I.write (x := l) (e := l) (by rw [hH]; exact trivial) (.inl rfl) (fun b' u hb hu => (Heap.get?_update_other s.heap (Obj.mapSeq f) (Ne.symm hb)).trans hu) ⟨_, q⟩ ?_
  exact ⟨hz, its', _, hv, q⟩
theorem Inv.lnew {its : List Value} {t' : Nat} (I : Inv X pins σ H s) (hv : Vals ys its) (hz : ys.length ≤ sizeLine) :
    Inv X pins σ (upd H s.heap.objs.size (.lst ys)) { s with heap := s.heap.push { cls := .type "list", data := .seq its.toArray }, toks := t' } :=
  I.laid (fun _ _ q => Heap.get?_push_of_some _ q) (Nat.le_refl _) ⟨hz, its, 0, hv, Heap.get?_push_size _ rfl⟩
theorem Inv.fresh (I : Inv X pins σ H s) : H s.heap.objs.size = none := I.hok.fresh (Nat.le_refl _)
theorem Inv.lstM (I : Inv X pins σ H s) (hH : H l = some (.lst xs)) : xs.length ≤ sizeLine ∧ ∃ (its : List Value) (n : Nat), Vals xs its ∧ xs.length = its.length ∧ s.heap.get? l = some { cls := .type "list", data := .seq its.toArray n } := by
  obtain ⟨z, its, n, r, e⟩ := I.hok l _ hH
  exact ⟨z, its, n, r, r.length, e⟩

theorem notLongL {n : Nat} (h : n ≤ sizeLine) : Builtin.List.listTooLong n = false := by
  unfold Builtin.List.listTooLong
  exact decide_eq_false (by omega)
end

section
variable {X : Cx}

/-! ### methods -/
def rAppend : V → List V → Hp → VK → Prop := fun x vs H Q => ∃ l xs y, x = .ref l ∧ vs = [y] ∧ H l = some (.lst xs) ∧ xs.length < sizeLine ∧ Q .non (upd H l (.lst (xs ++ [y])))
theorem mt_append : MtM X "list.append" rAppend := by
  intro pins s σ H x vs v us Q I rx rv h
  obtain ⟨l, xs, y, rfl, rfl, hH, hz, q⟩ := h
  cases rx
  obtain ⟨u, rfl, ru⟩ := rv.one
  obtain ⟨z, its, n, r, hl, e⟩ := I.lstM hH
  refine call_meets F.slot_list_append ⟨_, e, rfl⟩ F.entry_list_append (F.args_list_append_2 _ _) (PySem.list_append l its.toArray n u (by rw [List.size_toArray]; omega)) ⟨e, ?_⟩
  refine ⟨.non, _, I.lset (its' := its ++ [u]) hH e (by simp) (r.append (.cons ru .nil)) ?_, rfl, q⟩
  rw [List.length_append, List.length_singleton]
  omega

def rExtend : V → List V → Hp → VK → Prop := fun x vs H Q => ∃ l b xs zs, x = .ref l ∧ vs = [.ref b] ∧ H l = some (.lst xs) ∧ H b = some (.lst zs) ∧ xs.length + zs.length ≤ sizeLine ∧ Q .non (upd H l (.lst (xs ++ zs)))
theorem mt_extend : MtM X "list.extend" rExtend := by
  intro pins s σ H x vs v us Q I rx rv h
  obtain ⟨l, b, xs, zs, rfl, rfl, hH, hB, hz, q⟩ := h
  cases rx
  obtain ⟨u, rfl, ru⟩ := rv.one
  cases ru
  obtain ⟨z, its, n, r, hl, e⟩ := I.lstM hH
  obtain ⟨z2, its2, n2, r2, hl2, e2⟩ := I.lstM hB
  have hsz : its.toArray.size + its2.toArray.size ≤ sizeLine := by rw [List.size_toArray, List.size_toArray]; omega
  have hlong : ¬ (!its.toArray.isEmpty && Builtin.List.listTooLong (its.toArray.size + its2.toArray.size)) = true := by
    rw [notLongL hsz, Bool.and_false]
    exact Bool.false_ne_true
  refine call_meets F.slot_list_extend ⟨_, e, rfl⟩ F.entry_list_extend (F.args_list_extend_2 _ _)
    (AutoSeq1.list_extend_list_list_0 l its.toArray n b its2.toArray n2 hlong (by rw [List.size_toArray]; omega) (by omega)) ⟨e, e2, ?_⟩
  refine ⟨.non, _, I.lset (its' := its ++ its2) hH e (by simp) (r.append r2) ?_, rfl, q⟩
  rw [List.length_append]
  omega

def rPop : V → List V → Hp → VK → Prop := fun x vs H Q => ∃ l xs y, x = .ref l ∧ vs = [] ∧ H l = some (.lst xs) ∧ xs[xs.length - 1]? = some y ∧ Q y (upd H l (.lst xs.dropLast))
theorem mt_pop : MtM X "list.pop" rPop := by
  intro pins s σ H x vs v us Q I rx rv h
  obtain ⟨l, xs, y, rfl, rfl, hH, hy, q⟩ := h
  cases rx
  have hus := rv.zero
  subst hus
  obtain ⟨z, its, n, r, hl, e⟩ := I.lstM hH
  obtain ⟨u, hu, ru⟩ := r.get hy
  have hy' : its.toArray[its.toArray.size - 1]? = some u := by
    show its.toArray[its.length - 1]? = some u
    rw [← Array.getElem?_toList, ← hl]
    exact hu
  refine call_meets F.slot_list_pop ⟨_, e, rfl⟩ F.entry_list_pop (F.args_list_pop_1 _) (MeetsSeq.list_pop_last l its.toArray n u hy' (by rw [List.size_toArray]; omega)) ⟨e, ?_⟩
  refine ⟨y, _, I.lset (its' := its.dropLast) hH e ?_ r.dropLast ?_, ru, q⟩
  · show its.toArray.eraseIdxIfInBounds (its.toArray.size - 1) = its.dropLast.toArray
    rw [List.size_toArray, List.eraseIdxIfInBounds_toArray, erase_last]
  · rw [List.length_dropLast]
    omega

def rReverse : V → List V → Hp → VK → Prop := fun x vs H Q => ∃ l xs, x = .ref l ∧ vs = [] ∧ H l = some (.lst xs) ∧ Q .non (upd H l (.lst xs.reverse))
theorem mt_reverse : MtM X "list.reverse" rReverse := by
  intro pins s σ H x vs v us Q I rx rv h
  obtain ⟨l, xs, rfl, rfl, hH, q⟩ := h
  cases rx
  have hus := rv.zero
  subst hus
  obtain ⟨z, its, n, r, hl, e⟩ := I.lstM hH
  refine call_meets F.slot_list_reverse ⟨_, e, rfl⟩ F.entry_list_reverse (F.args_list_reverse_1 _) (AutoSeq1.list_reverse_list_0 l its.toArray n (by rw [List.size_toArray]; omega)) ⟨e, ?_⟩
  refine ⟨.non, _, I.lset (its' := its.reverse) hH e (by simp) r.reverse ?_, rfl, q⟩
  rw [List.length_reverse]
  omega

/-! ### list + list, list += list, list * int -/
def rCat : R2 := fun x y H Q => ∃ l b xs zs, x = .ref l ∧ y = .ref b ∧ H l = some (.lst xs) ∧ H b = some (.lst zs) ∧ xs.length + zs.length ≤ sizeLine ∧ ∀ p, H p = none → Q (.ref p) (upd H p (.lst (xs ++ zs)))
theorem op_cat : OpR X (binaryOp .Add) rCat := by
  intro pins s σ H x y v u Q I rx ry h
  obtain ⟨l, b, xs, zs, rfl, rfl, hH, hB, hz, q⟩ := h
  cases rx
  cases ry
  obtain ⟨z, its, n, r, hl, e⟩ := I.lstM hH
  obtain ⟨z2, its2, n2, r2, hl2, e2⟩ := I.lstM hB
  refine PySem.P.add_list e e2 ?_ (by rw [List.size_toArray, List.size_toArray]; omega)
  have ea : its.toArray ++ its2.toArray = (its ++ its2).toArray := by simp
  rw [ea]
  exact ⟨.ref _, _, I.lnew (t' := s.toks) (r.append r2) (by rw [List.length_append]; omega), rfl, q _ I.fresh⟩
/-- a list times an int (a negative one is nothing) -/
def rRep : R2 := fun x y H Q => ∃ l k xs, x = .ref l ∧ y = .int k ∧ H l = some (.lst xs) ∧ -(2 ^ 63) ≤ k ∧ k < 2 ^ 63 ∧ xs.length * k.toNat ≤ sizeLine ∧
  ∀ p, H p = none → Q (.ref p) (upd H p (.lst (List.replicate k.toNat xs).flatten))
theorem len_rep {α : Type} (xs : List α) (k : Nat) : (List.replicate k xs).flatten.length = k * xs.length := by
  induction k with
  | zero => simp
  | succ k ih => rw [List.replicate_succ, List.flatten_cons, List.length_append, ih, Nat.succ_mul, Nat.add_comm]
theorem op_rep : OpR X (binaryOp .Mult) rRep := by
  intro pins s σ H x y v u Q I rx ry h
  obtain ⟨l, k, xs, rfl, rfl, hH, h1, h2, hz, q⟩ := h
  cases rx
  obtain ⟨t, rfl⟩ := ry
  obtain ⟨z, its, n, r, hl, e⟩ := I.lstM hH
  have hlen : its.toArray.size * k.toNat ≤ sizeLine := by rw [List.size_toArray, ← hl]; exact hz
  have hcap : ¬ its.toArray.size * k.toNat > (2 ^ 63 - 1) / 8 := by
    have : (sizeLine : Nat) ≤ (2 ^ 63 - 1) / 8 := by decide
    omega
  have hfit : ¬ (!Builtin.List.listFitsIndex k) = true := by
    rw [fitsIndex_both h1 h2]
    exact Bool.false_ne_true
  have hlong : ¬ Builtin.List.listTooLong (its.toArray.size * k.toNat) = true := by
    rw [notLongL hlen]
    exact Bool.false_ne_true
  have hnew : List.foldl (fun x1 x2 => x1 ++ x2) #[] (List.replicate (if its.toArray.isEmpty = true then 0 else k.toNat) its.toArray) = (List.replicate k.toNat its).flatten.toArray := by
    have f0 : ∀ m : Nat, List.foldl (fun x1 x2 => x1 ++ x2) #[] (List.replicate m its.toArray) = (List.replicate m its).flatten.toArray := fun m => by
      have := foldl_rep its m []
      rw [List.nil_append] at this
      exact this
    rw [f0]
    cases its with
    | nil => simp
    | cons a r' => rw [if_neg (by simp)]
  refine wpAny_binaryOp_repeat_ref (T := "list") (U := "int") (by decide) ⟨_, e, rfl⟩ (fun s' => typeIs_int s' k t) noFill_list_mul F.fills_int_mul F.slot_int_rmul repeat_list F.slot_int_index.lookup
    (call_meets F.slot_int_rmul (typeIs_int s k t) F.entry_int_rmul (F.args_int_rmul_2 _ _) (int___rmul___int_list k t l its.toArray n)
      ⟨e, rfl, ⟨_, e, rfl⟩, call_meets F.slot_list_mul ⟨_, e, rfl⟩ F.entry_list_mul (F.args_list_mul_2 _ _) (AutoListH.list___mul___list_int_3 l its.toArray n k t hfit hcap hlong) ⟨e, ?_⟩⟩)
  rw [hnew]
  exact ⟨.ref _, _, I.lnew (t' := s.toks) (r.rep k.toNat) (by rw [len_rep, Nat.mul_comm]; exact hz), rfl, q _ I.fresh⟩

end

/-! ### xs[a:b] = ys -/
section
variable {prog : Program} {w : World} {A : Around} {E : Value → Shared → Prop} {s : Shared}
end

section
variable {X : Cx}
end
end L2

namespace Att
open PySem PySem.W PySem.Calls PyProof.Rows

/-! ### the script -/
theorem ints_of_wellAll {P : Params} {h : Heap} : ∀ (ns : List Int) (vs : List Value), WellAll P h vs (ns.map WData.int) → IntsAre vs ns := by
  intro ns
  induction ns with
  | nil =>
    intro vs w
    rw [List.map_nil] at w
    cases w
    exact .nil
  | cons n ns ih =>
    intro vs w
    rw [List.map_cons] at w
    cases w with
    | cons a b =>
      cases a
      exact .cons _ _ (ih _ b)

theorem script_of {l : OpenLaw} {n : Nat} (hn : l.most = some n) {P : Params} {h : Heap} {args : List WData} {vals : List Value}
    (hpre : l.row.toRowW.claim.pre args = true) (hwl : WellAll P h vals args) :
    ∃ a vs ns, vals = [Value.ref a] ∧ args = [WData.list (ns.map WData.int)] ∧ h.get? a = some { cls := .type "list", data := .seq vs.toArray } ∧ IntsAre vs ns ∧ ns.length ≤ n := by
  have hsh : WShape.hasAll [] args [.list .int] = true := (pre_splitW hpre).1
  have hc : l.pre.holds [] { args := args } = true := (pre_splitW hpre).2
  obtain ⟨d, r, rfl, h1, h2⟩ := hasAllW_cons hsh
  obtain rfl := hasAllW_nil h2
  obtain ⟨xs, rfl, h3⟩ := hasW_list h1
  obtain ⟨ns, rfl⟩ := items_int h3
  have hlen : ns.length ≤ n := by
    unfold OpenLaw.pre at hc
    have h4 : (WTm.not (.lt (.lit (.int (n : Int))) (.len (.arg 0)))).holds [] { args := [.list (ns.map .int)] } = true := by
      have h4 := (holds_andW hc).1
      rw [hn] at h4
      exact h4
    have h5 := condW_of h4 (w_not (w_lt w_lit (w_len_list (w_arg rfl))))
    rw [List.length_map] at h5
    refine Nat.le_of_not_lt fun q => ?_
    have q' : (n : Int) < ((ns.length : Nat) : Int) := by omega
    first
      | (rw [decide_eq_true q'] at h5; exact absurd h5 (by decide))
      | (simp at h5; omega)
  cases hwl with
  | cons w1 w2 =>
    cases w2
    cases w1 with
    | list ho hall => exact ⟨_, _, ns, rfl, rfl, ho, ints_of_wellAll ns _ hall, hlen⟩

theorem post_true (l : OpenLaw) (args : List WData) : l.row.toRowW.claim.post args (.bool true) args = true :=
  postW_of (r := l.row.toRowW) (X := (true == true))
    (show WShape.has [] (.bool true) .bool = true by first | rfl | decide | simp [WShape.has, WShape.arms, WShape.armsAll])
    (show (WTm.eq .res (.lit (.bool true))).value [] { args := args, res := some (.bool true), after := args } = some (.bool (true == true)) from w_eq_bool (w_res rfl) w_lit) rfl

/-- the same from a codeAny of the CALL (for a layer whose function contracts speak of calls) -/
theorem attach_call {l : OpenLaw} {n : Nat} {q : Program} {loose : List Str} {XP : (Str → Option Value) → Heap → Prop} {YP : World → Heap → Prop} {d : DefRec}
    (hn : l.most = some n) (hdf : d.params.defaults = [])
    (call : ∀ (w : World) (s₀ s₁ : Shared) (mg mb : Str → Option Value) (fa : Addr) (o : Obj) (pm cd doc : Value) (a : Addr) (vs : List Value) (ns : List Int),
      Ground q loose [] XP w s₀ mg mb s₁.heap → YP w s₁.heap →
      s₁.heap.get? fa = some o → o.data = .func (docDef d.name d.params d.body d.scope pm cd doc) → s₁.heap.CodeRec cd d.name → mg d.name = some (.ref fa) →
      s₁.heap.get? a = some { cls := .type "list", data := .seq vs.toArray } → IntsAre vs ns → ns.length ≤ n → s₁.gens = #[] →
      codeAny (model l.prog w) callerA (.call (.ref fa) ⟨[.ref a], []⟩) (fun r s' => r = .ok (.ret (.bool true)) ∧ OldK s₁.heap s'.heap ∧ s'.os = s₁.os ∧ AllBare s'.gens) s₁) :
    WalkO q loose XP YP l.row.toRowW d [] (fun f vs => PySem.call f vs) := by
  intro w s₀ s₁ mg mb G Y fa o pm cd doc dV kV ho hd hcd hD hmg hg args vals as hpre hlay hrd hwl hlo
  obtain rfl : dV = .none := Dflts.none hD hdf
  obtain rfl : kV = .none := Dflts.noKw hD
  obtain ⟨a, vs, ns, rfl, rfl, hobj, hints, hlen⟩ := script_of hn hpre hwl
  refine enter_call (codeAny_mono (call w s₀ s₁ mg mb fa o pm cd doc a vs ns G Y ho (fd_plain hd) hcd hmg hobj hints hlen hg) fun r s' hq => ?_)
  obtain ⟨rfl, h2, h3, h4⟩ := hq
  exact ⟨.inl ⟨.bool true, .bool true, [], rfl, fun _ => rfl, .bool true, post_true l _, fun _ => ⟨List.Pairwise.nil, fun _ hm => (nomatch hm)⟩⟩, h2, h3, h4⟩

/-! ### rules over ANY heap (no ledger) from facts about the written part K: the library's own take a ledger (News) for what they write -/
section
variable {prog : Program} {w : World} {A : Around} {E : Value → Shared → Prop} {s : Shared} {K : Frag}

end
end Att

namespace L2
open PySem PySem.Spec PyProof.Rows

theorem vals_ints : ∀ {vs : List Value} {ns : List Int}, IntsAre vs ns → Vals (ns.map V.int) vs
  | _, _, .nil => .nil
  | _, _, .cons n t h => .cons ⟨t, rfl⟩ (vals_ints h)

/-- nothing is tracked but the script, known to the object (or it is an object of the module) -/
def Only (H : Hp) : Prop := ∀ b, H b = none ∨ ∃ o xs, H b = some (.frz o (.lst xs))

/-- THE HEAD: the law's promise, at the heap behind the top. F, the promise of the law's def, may use that base is part of the heap (so K.In base, base.Ns mainGlobals mg stand in Mod) -/
theorem law_call {P : Program} {w : World} {K : PySem.W.Frag} {mg mb : Str → Option Value} {CX : CXT} {k : Nat} {fa a : Addr} {fd : FuncData} {x : Str} {sp : Sp} {s₁ : Shared} {vs : List Value} {ns : List Int}
    (KX : K.In s₁.heap) (hns : s₁.heap.Ns mainGlobals mg) (hb : s₁.heap.Ns builtinsNs mb) (hbb : ∀ x : Str, x ≠ "__name__" → mb x = bootBuiltins x) (hlim : s₁.heap.NoLimit) (hg : s₁.gens = #[])
    (ha : s₁.heap.get? a = some { cls := .type "list", data := .seq vs.toArray }) (hi : IntsAre vs ns) (hl : ns.length ≤ sizeLine) (hr : Room k callerA)
    (F : ∀ base : Heap, K.In base → base.Ns mainGlobals mg → FnOk P w K mg base CX k fa fd [x] sp) (hbind : ∀ (s : Shared) (u : Value), BindsTo s fd ⟨[u], []⟩ [(x, u)])
    (hsp : ∀ H : Hp, Only H → SqL K H a (ns.map V.int) → sp [.ref a] H (fun v _ => v = .bl true) fun _ _ _ => False)
    (hCX : ∀ H e s', CX [] H s₁ (fun _ _ _ => False) e s' → False) :
    codeAny (model P w) callerA (.call (.ref fa) ⟨[.ref a], []⟩) (fun r s' => r = .ok (.ret (.bool true)) ∧ OldK s₁.heap s'.heap ∧ s'.os = s₁.os ∧ AllBare s'.gens) s₁ := by
  have rv := vals_ints hi
  have lenV := hi.length
  -- from an abstract heap in which nothing but the script may be tracked
  have core : ∀ H : Hp, Only H → SqL K H a (ns.map V.int) → HOk P w H s₁.heap → (∀ b, H b ≠ none → b = a) → (H a ≠ none → K.lookup a = none) →
      codeAny (model P w) callerA (.call (.ref fa) ⟨[.ref a], []⟩) (fun r s' => r = .ok (.ret (.bool true)) ∧ OldK s₁.heap s'.heap ∧ s'.os = s₁.os ∧ AllBare s'.gens) s₁ := by
    intro H hO hS hok hA hK
    have base_of : ∀ {b : Addr} {o : Obj}, s₁.heap.get? b = some o → H b = none → (hidT s₁.heap H).get? b = some o := fun e n => hidT_get e n
    have noA : ∀ {b : Addr} {o : Obj} {es : Array DictEntry} {ep : Nat}, s₁.heap.get? b = some o → o.data = .dict es ep → H b = none := fun {b o es ep} e d => by
      cases q : H b with
      | none => rfl
      | some u =>
        have e' : b = a := hA b (by rw [q]; simp)
        subst e'
        rw [ha] at e; cases e
        have d' : Data.seq vs.toArray _ = Data.dict es ep := d
        cases d'
    have nsK : ∀ {b : Addr} {m : Str → Option Value}, s₁.heap.Ns b m → (hidT s₁.heap H).Ns b m := fun {b m} ⟨o, es, ep, e, d, r⟩ => ⟨o, es, ep, base_of e (noA e d), d, r⟩
    have hKb : K.In (hidT s₁.heap H) := fun b o e => base_of (KX b o e) (by
      cases q : H b with
      | none => rfl
      | some u =>
        have e' : b = a := hA b (by rw [q]; simp)
        subst e'
        rw [hK (by rw [q]; simp)] at e; cases e)
    have hM : Mod K mg (hidT s₁.heap H) := ⟨hKb, nsK hns, ⟨mb, nsK hb, hbb⟩, let ⟨mc, h1, h2⟩ := hlim; ⟨mc, nsK h1, h2⟩⟩
    have e0 : Env0 P w K mg (hidT s₁.heap H) callerA [] s₁ H := ⟨rfl, hM, fun b o e => of_hidT e, Nat.le_of_eq (hidT_size _ _), trivial, fun b hb => absurd (show b ∈ ([] : List Addr) from hb) (by simp), hok, .of_eq hg⟩
    refine codeAny_mono ((F _ hKb (nsK hns)).run callerA [] s₁ H ⟨[.ref a], []⟩ [.ref a] [.ref a] _ _ hr e0 (hbind s₁ (.ref a)) (.cons rfl .nil) (hsp H hO hS)) fun r s' h => ?_
    cases r with
    | error e => exact (hCX H e s' h).elim
    | ok fl =>
      cases fl with
      | next => exact False.elim h
      | brk => exact False.elim h
      | cont => exact False.elim h
      | ret u =>
        obtain ⟨v, H', os, bare, un, hok', r', q⟩ := h
        have q' : v = .bl true := q
        subst q'
        obtain rfl : u = Value.bool true := r'
        refine ⟨rfl, OldK.of_keep fun b o e => ?_, os, bare⟩
        cases q : H b with
        | none => exact un.keep b o e q (by intro z; exact absurd (show b ∈ ([] : List Addr) from z) (by simp)) (by simp)
        | some u =>
          rcases hO b with z | ⟨ob, xs, z⟩
          · rw [q] at z; cases z
          · have z2 := un.frzs b ob _ z
            obtain ⟨e1, _⟩ := hok b _ z
            obtain ⟨e2, _⟩ := hok' b _ z2
            rw [e] at e1; cases e1
            exact e2
  cases hk : K.lookup a with
  | some o =>
    -- the script is one of the module's own objects
    have e := KX a o hk
    rw [ha] at e
    cases e
    refine core (fun _ => none) (fun _ => .inl rfl) (.inr ⟨_, vs.toArray, _, hk, rfl, rfl, rfl, by rw [List.size_toArray, lenV]; exact hl, by simpa using rv⟩) (fun b u z => by have z' : (none : Option HO) = some u := z; cases z') (fun b z => absurd rfl z) fun z => absurd rfl z
  | none =>
    refine core (fun b => if b = a then some (.frz { cls := .type "list", data := .seq vs.toArray } (.lst (ns.map V.int))) else none) (fun b => ?_) (.inl (.inr ⟨{ cls := .type "list", data := .seq vs.toArray }, if_pos rfl⟩)) (fun b u z => ?_) (fun b z => ?_) fun _ => hk
    · by_cases hb : b = a
      · exact .inr ⟨_, _, if_pos hb⟩
      · exact .inl (if_neg hb)
    · by_cases hb : b = a
      · have z' := (if_pos hb).symm.trans z
        cases z'
        subst hb
        exact ⟨ha, by rw [List.length_map]; exact hl, vs, _, rv, ha⟩
      · have z' := (if_neg hb).symm.trans z
        cases z'
    · by_cases hb : b = a
      · exact hb
      · exact absurd (if_neg hb) z
end L2

namespace L2
open PySem PySem.Spec PyProof.Rows

/-- the goal that k_head leaves (case hc), from the law's promise. F gives the function object fd (K's own) once, then the promise over every base -/
theorem walk_of {l : PySem.W.OpenLaw} {n k : Nat} {q : Program} {loose : List Str} {XP : (Str → Option Value) → Heap → Prop} {YP : World → Heap → Prop} {d : DefRec} {K : Params → PySem.W.Frag} {CX : World → CXT} {sp : World → Sp} {x : Str}
    (hn : l.most = some n) (hn2 : n ≤ sizeLine) (hdf : d.params.defaults = []) (hr : Room k callerA)
    (hY : ∀ (w : World) (h : Heap), YP w h → (K w.params).In h)
    (F : ∀ (w : World) (mg : Str → Option Value) (fa : Addr) (h : Heap), (K w.params).In h → h.Ns mainGlobals mg → mg d.name = some (.ref fa) →
      ∃ fd : FuncData, (∀ (s : Shared) (u : Value), BindsTo s fd ⟨[u], []⟩ [(x, u)]) ∧
        ∀ base : Heap, (K w.params).In base → base.Ns mainGlobals mg → FnOk l.prog w (K w.params) mg base (CX w) k fa fd [x] (sp w))
    (hsp : ∀ (w : World) (H : Hp) (a : Addr) (ns : List Int), ns.length ≤ n → Only H → SqL (K w.params) H a (ns.map V.int) → sp w [.ref a] H (fun v _ => v = .bl true) fun _ _ _ => False)
    (hCX : ∀ (w : World) (H : Hp) (s : Shared) (e : Value) (s' : Shared), CX w [] H s (fun _ _ _ => False) e s' → False) :
    PySem.W.WalkO q loose XP YP l.row.toRowW d [] (fun f vs => PySem.call f vs) := by
  refine Att.attach_call hn hdf fun w s₀ s₁ mg mb fa o pm cd doc a vs ns G Y ho hd hcd hmg hobj hints hlen hg => ?_
  have KX := hY w _ Y
  obtain ⟨fd, hb, hF⟩ := F w mg fa _ KX G.T.g hmg
  exact law_call KX G.T.g G.T.b G.T.builtins G.T.nolimit hg hobj hints (Nat.le_trans hlen hn2) hr hF hb (fun H hO hS => hsp w H a ns hlen hO hS) fun H e s' => hCX w H s₁ e s'
end L2



/-! SHORT WORDS over the layer: a def of the text, its body, what a loop and a test want. -/
namespace L2
open PySem PySem.Spec PyProof.Rows

/-! ### the text by places -/
/-- the j-th statement of a class's body -/
def inClass (s : Stmt) (j : Nat) : Stmt := match s with
  | .ClassDef _ _ _ body _ _ _ _ _ _ _ => body.getD j (.Pass ⟨0, 0, 0, 0⟩)
  | _ => .Pass ⟨0, 0, 0, 0⟩
def defArgs (s : Stmt) : Arguments := match s with
  | .FunctionDef _ a _ _ _ _ _ _ _ _ => a
  | _ => { posonlyargs := [], args := [], vararg := none, kwonlyargs := [], kw_defaults := [], kwarg := none, defaults := [] }
def defBody (s : Stmt) : List Stmt := match s with
  | .FunctionDef _ _ b _ _ _ _ _ _ _ => b
  | _ => []
def defScope (s : Stmt) : Scope := match s with
  | .FunctionDef _ _ _ _ _ _ sc _ _ _ => sc
  | _ => { kind := .function, names := [], isGenerator := false, isCoroutine := false }

/-! ### no exception leaves a def -/
abbrev CX0 : CXT := fun _ _ _ _ _ _ => False
abbrev E0 : XK := fun _ _ _ => False
theorem pass0 {X : Cx} : Passes CX0 X E0 := fun _ _ _ _ _ _ _ h => h.elim

/-! ### a def (or method) of the text as it stands behind the top -/
structure Fun (K : PySem.W.Frag) (x qual : Str) (st : Stmt) (f : Addr) (fd : FuncData) : Prop where
  ex : ∃ (oc : Value) (od : Option Addr) (kV doc pm : Value) (an : Option Addr) (cdv ct : Value) (osl : Array (Option Value)),
    fd = PySem.W.fnOf x qual (defArgs st) (defBody st) (defScope st) .none kV doc pm an cdv ct ∧ K.lookup f = some ⟨oc, od, .func fd, osl⟩ ∧ PySem.W.codeIn K cdv qual = true
  kp : PySem.W.keepIn K (.ref f) = true
section
variable {P : Program} {w : World} {K : PySem.W.Frag} {mg : Str → Option Value} {base : Heap}
/-- THE RULE for a def: its body as a term of rules, and the reading of that term -/
theorem Fun.ok {x qual : Str} {st : Stmt} {f : Addr} {fd : FuncData} {N ps : List Str} {k : Nat} {sp : Sp} (F : Fun K x qual st f fd) (S : FnScope N ps (defScope st)) (len : ∀ vs H Q E, sp vs H Q E → vs.length = ps.length)
    (hbody : ∀ (cdv : Value) (A : Around) (outer : List Env) (s : Shared) (H : Hp) (vs : List V) (Q : VK) (E : XK), Room k (A.deeper (envOfC qual (defScope st) s.heap.objs.size f cdv)) → sp vs H Q E →
      ∃ t, PSs (cxOf CX0 P w K mg base N qual (defScope st) f cdv A outer s H E).nox (defBody st) t ∧ t { nx := fun _ H' => Q .non H', rt := Q } (start N vs) H) : FnOk P w K mg base CX0 (k + 1) f fd ps sp := by
  obtain ⟨oc, od, kV, doc, pm, an, cdv, ct, osl, rfl, lk, hcd⟩ := F.ex
  refine fn_of lk hcd S len fun A outer s H vs Q E hr hsp => ?_
  obtain ⟨t, h, q⟩ := hbody cdv A outer s H vs Q E hr hsp
  exact ⟨t, h.nox, q⟩
/-- how its arguments bind (no defaults): h is «fun _ _ _ _ _ _ us hl => match us, hl with | [_, _], _ => rfl», one _ a parameter -/
theorem Fun.binds {x qual : Str} {st : Stmt} {f : Addr} {fd : FuncData} {ps : List Str} (F : Fun K x qual st f fd)
    (h : ∀ (kV doc pm : Value) (an : Option Addr) (cdv ct : Value) (us : List Value), us.length = ps.length → bindArgs (PySem.W.fnOf x qual (defArgs st) (defBody st) (defScope st) .none kV doc pm an cdv ct) ⟨us, []⟩ = pure (ps.zip us)) : Binds K fd ps [] := by
  obtain ⟨oc, od, kV, doc, pm, an, cdv, ct, osl, rfl, lk, hcd⟩ := F.ex
  exact .all (h kV doc pm an cdv ct)
theorem fun_mk {x qual : Str} {st : Stmt} {f : Addr} {oc : Value} {od an : Option Addr} {osl : Array (Option Value)} {kV doc pm cdv ct : Value} (l : K.lookup f = some ⟨oc, od, .func (PySem.W.fnOf x qual (defArgs st) (defBody st) (defScope st) .none kV doc pm an cdv ct), osl⟩)
    (c : PySem.W.codeIn K cdv qual = true) (k : PySem.W.keepIn K (.ref f) = true) : Fun K x qual st f (PySem.W.fnOf x qual (defArgs st) (defBody st) (defScope st) .none kV doc pm an cdv ct) := ⟨⟨oc, od, kV, doc, pm, an, cdv, ct, osl, rfl, l, c⟩, k⟩
end
theorem small1000 {n : Nat} (h : n ≤ 1000) : n < sizeLine := Nat.lt_of_le_of_lt h (by decide)

/-! ### expressions in short: the name that stands in the i-th slot -/
section
variable {X : Cx}
theorem pv (i : Nat) {x : Str} {pos : Pos} (hN : X.N[i]? = some x := by rfl) (hv : Vis X.env.scope x := by first | exact Or.inl rfl | exact Or.inr (Or.inl rfl) | exact Or.inr (Or.inr rfl)) (hd : (x == ("__debug__" : Str)) = false := by decide)
    (hcd : (x == ("__classdict__" : Str)) = false := by decide) : PE X (.Name x pos) (tVar i) := pe_var hN hv hd hcd
end

/-! ### tests -/
theorem iteF {A B : Prop} (h : B) : if false = true then A else B := by
  rw [if_neg Bool.false_ne_true]
  exact h
theorem iteT {A B : Prop} (h : A) : if true = true then A else B := by
  rw [if_pos rfl]
  exact h
/-! ### heaps -/
/-- all that was tracked is as it was -/
def Same (H H' : Hp) : Prop := ∀ b o, H b = some o → H' b = some o
theorem Same.refl (H : Hp) : Same H H := fun _ _ h => h
theorem Same.trans {H H1 H2 : Hp} (a : Same H H1) (b : Same H1 H2) : Same H H2 := fun c o h => b c o (a c o h)
theorem Same.free {H H' : Hp} (e : Same H H') {l : Addr} (h : H' l = Option.none) : H l = Option.none := by
  cases q : H l with
  | none => rfl
  | some o =>
    rw [e l o q] at h
    cases h
theorem Same.seq {K : PySem.W.Frag} {H H' : Hp} {a : Addr} {xs : List V} (e : Same H H') (h : SqL K H a xs) : SqL K H' a xs := by
  rcases h with (h | ⟨o, h⟩) | h
  · exact .inl (.inl (e _ _ h))
  · exact .inl (.inr ⟨o, e _ _ h⟩)
  · exact .inr h

end L2


section
set_option Elab.async false
set_option linter.all false
set_option maxRecDepth 100000
set_option maxHeartbeats 4000000
/-! My own rules behind the layer: list comprehensions. -/
namespace L2
open PySem PySem.Spec PyProof.Rows

/-! ### the loop of a comprehension, no exception within -/
section
variable {prog : Program} {w : World} {A : Around} {R : Result → Shared → Prop} {s : Shared}
/-- the tests of a clause -/
def lcTests (ifs : List Expr) (env : Env) : Sem Bool :=
  forIn ifs true fun c r => if r = true then do let ok ← isTrue c env (eval c env); pure (ForInStep.yield ok) else pure (ForInStep.yield r)
theorem lc_loop {elt tg iter : Expr} {ifs : List Expr} {scope : Scope} {pos : Pos} {it acc : Value} {env : Env} (J : Nat → Shared → Prop)
    (turn : ∀ n s, J n s → wpAny (model prog w) A (pyNext it) (fun r s1 => match r with
      | none => R (.ok .next) s1
      | some v => wpAny (model prog w) A (letOwnedTupleGo tg it v) (fun _ s2 => wpAny (model prog w) A (assign tg env v) (fun _ s3 => wpAny (model prog w) A (lcTests ifs env) (fun ok s4 =>
          if ok = true then wpAny (model prog w) A (eval elt env) (fun x s5 => wpAny (model prog w) A (call (.builtin "list.append") [acc, x]) (fun _ s6 => ∃ m, m < n ∧ J m s6) (fun _ _ => False) s5) (fun _ _ => False) s4
          else ∃ m, m < n ∧ J m s4) (fun _ _ => False) s3) (fun _ _ => False) s2) (fun _ _ => False) s1) (fun _ _ => False) s)
    (n : Nat) (h : J n s) : codeAny (model prog w) A (.compLoop (.ListComp elt [⟨tg, iter, ifs, 0⟩] scope pos) 0 it acc env) R s := by
  refine codeAny_loop rfl J (fun n s hJ => ?_) n h
  show wpAny _ A (Sem.onRaise (compTurn (.ListComp elt [⟨tg, iter, ifs, 0⟩] scope pos) 0 it acc env) _) _ _ s
  refine wpAny_noted ?_
  rw [compTurn_list]
  refine wpAny_bind (wpAny_standAt (wpAny_bind (wpAny_mono (turn n s hJ) (fun r s1 h1 => ?_) (fun _ _ z => z.elim))))
  cases r with
  | none => exact wpAny_pure h1
  | some v =>
    refine wpAny_bind (wpAny_mono h1 (fun _ s2 h2 => wpAny_bind (wpAny_mono h2 (fun _ s3 h3 => wpAny_bind (wpAny_mono h3 (fun ok s4 h4 => ?_) (fun _ _ z => z.elim))) (fun _ _ z => z.elim))) (fun _ _ z => z.elim))
    cases ok with
    | false => exact wpAny_pure ⟨rfl, h4⟩
    | true => exact wpAny_bind (wpAny_bind (wpAny_mono h4 (fun x s5 h5 => wpAny_bind (wpAny_mono h5 (fun _ s6 h6 => wpAny_pure (wpAny_pure ⟨rfl, h6⟩)) (fun _ _ z => z.elim))) (fun _ _ z => z.elim)))
end

/-! ### the closure of a comprehension's block -/
def cloGo (env : Env) : List (Str × NameKind) → List (Str × Addr) → List (Str × Addr)
  | [], cs => cs
  | y :: r, cs => if y.2 = .free then cloGo env r ((y.1, (env.cells.lookup y.1).getD 0) :: cs) else cloGo env r cs
theorem clo_run {env : Env} (f : Str × NameKind → List (Str × Addr) → Sem (ForInStep (List (Str × Addr))))
    (h1 : ∀ y cs c, y.2 = .free → env.cells.lookup y.1 = some c → f y cs = pure (.yield ((y.1, c) :: cs))) (h2 : ∀ y cs, y.2 ≠ .free → f y cs = pure (.yield cs)) :
    ∀ (ns : List (Str × NameKind)) (cs : List (Str × Addr)), (∀ y ∈ ns, y.2 = .free → ∃ c, env.cells.lookup y.1 = some c) → forIn ns cs f = (pure (cloGo env ns cs) : Sem (List (Str × Addr)))
  | [], cs, _ => by simp [cloGo]
  | y :: r, cs, h => by
    have hr : ∀ z ∈ r, z.2 = .free → ∃ c, env.cells.lookup z.1 = some c := fun z hz => h z (List.mem_cons_of_mem _ hz)
    rw [List.forIn_cons]
    by_cases hy : y.2 = .free
    · obtain ⟨c, hc⟩ := h y List.mem_cons_self hy
      rw [h1 y cs c hy hc]
      simp only [cloGo, if_pos hy, hc, Option.getD_some]
      exact clo_run f h1 h2 r _ hr
    · rw [h2 y cs hy]
      simp only [cloGo, if_neg hy]
      exact clo_run f h1 h2 r _ hr
theorem closure_eq {scope : Scope} {env : Env} (h : ∀ y ∈ scope.names, y.2 = .free → ∃ c, env.cells.lookup y.1 = some c) : closureFor scope env = pure (cloGo env scope.names []) := by
  unfold closureFor
  dsimp only
  rw [clo_run (env := env) _ (fun y cs c hy hc => ?_) (fun y cs hy => ?_) scope.names [] h]
  · rfl
  · obtain ⟨n, k⟩ := y
    dsimp only at hy hc ⊢
    subst hy
    simp only [cellOf, hc, beq_self_eq_true, if_true]
    rfl
  · obtain ⟨n, k⟩ := y
    have e : (k == NameKind.free) = false := by simpa using hy
    simp only [e, Bool.false_eq_true, if_false]
theorem cloGo_sub {env : Env} : ∀ (ns : List (Str × NameKind)) (cs : List (Str × Addr)) (x : Str) (c : Addr), (∀ y ∈ ns, y.2 = .free → ∃ c, env.cells.lookup y.1 = some c) →
    (∀ z d, cs.lookup z = some d → env.cells.lookup z = some d) → (cloGo env ns cs).lookup x = some c → env.cells.lookup x = some c
  | [], cs, x, c, _, hc, h => hc x c h
  | y :: r, cs, x, c, hy, hc, h => by
    have hr : ∀ z ∈ r, z.2 = .free → ∃ c, env.cells.lookup z.1 = some c := fun z hz => hy z (List.mem_cons_of_mem _ hz)
    unfold cloGo at h
    split at h
    · rename_i hk
      obtain ⟨d, hd⟩ := hy y List.mem_cons_self hk
      rw [hd] at h
      refine cloGo_sub r _ x c hr (fun z e hz => ?_) h
      rw [List.lookup_cons] at hz
      split at hz
      · rename_i hzy
        cases hz
        rw [eq_of_beq hzy]; exact hd
      · exact hc z e hz
    · exact cloGo_sub r _ x c hr hc h
theorem cloGo_keep {env : Env} : ∀ (ns : List (Str × NameKind)) (cs : List (Str × Addr)) (x : Str), (cs.lookup x).isSome = true → ((cloGo env ns cs).lookup x).isSome = true
  | [], _, _, h => h
  | y :: r, cs, x, h => by
    unfold cloGo
    split
    · refine cloGo_keep r _ x ?_
      rw [List.lookup_cons]
      split
      · rfl
      · exact h
    · exact cloGo_keep r _ x h
theorem cloGo_has {env : Env} : ∀ (ns : List (Str × NameKind)) (cs : List (Str × Addr)) (x : Str), (x, NameKind.free) ∈ ns → ((cloGo env ns cs).lookup x).isSome = true
  | [], _, _, h => by simp at h
  | y :: r, cs, x, h => by
    rcases List.mem_cons.mp h with e | e
    · subst e
      unfold cloGo
      rw [if_pos rfl]
      exact cloGo_keep r _ x (by simp)
    · unfold cloGo
      split
      · exact cloGo_has r _ x e
      · exact cloGo_has r _ x e
theorem relabel_of {scope : Scope} {env : Env} {x : Str} {k : NameKind} (h : (relabel scope env).names.lookup x = some k) : (x, k) ∈ scope.names ∨ ((x, NameKind.free) ∈ scope.names ∧ k = NameKind.cell) := by
  have m := PySem.mem_of_lookup h
  obtain ⟨⟨n, k'⟩, hm, e⟩ := List.mem_map.mp m
  dsimp only at e
  split at e
  · rename_i hk
    cases e
    simp only [Bool.and_eq_true, beq_iff_eq] at hk
    rw [hk.1.1] at hm
    exact .inr ⟨hm, rfl⟩
  · cases e
    exact .inl hm
theorem relabel_free {scope : Scope} {env : Env} (hk : env.scope.kind = .function) {x : Str} (hx : env.kindOf x = some .cell) (h : scope.names.lookup x = some .free) : (relabel scope env).names.lookup x = some .cell := by
  unfold relabel
  show (scope.names.map _).lookup x = some NameKind.cell
  generalize scope.names = ns at h
  induction ns with
  | nil => simp at h
  | cons y r ih =>
    obtain ⟨n, k⟩ := y
    rw [List.lookup_cons] at h
    rw [List.map_cons]
    split at h
    · rename_i hn
      cases h
      rw [← eq_of_beq hn]
      simp [hk, hx]
    · rename_i hn
      dsimp only
      split
      · rw [List.lookup_cons, hn]; exact ih h
      · rw [List.lookup_cons, hn]; exact ih h

/-! ### the block's context -/
def cxLc (X : Cx) (scope : Scope) (N : List Str) (C : Addr) (s : Shared) (H : Hp) (fp : List Addr) : Cx :=
  { X with N := N, s₀ := s, H₀ := H, env := compEnvC scope (cloGo X.env scope.names []) C X.env, outer := X.stack, ex := fp, fn := fun _ => false, pn := [], xe := fun _ _ => False }
/-- what must hold of the scopes: N₀, sc₀ are the def's; N the block's names: x, then those from around, which stand in the def's slots ix -/
structure LcScope (N₀ : List Str) (sc₀ sc : Scope) (x : Str) (N : List Str) (ix : List Nat) : Prop where
  kind : sc.kind = .function
  nocell : ∀ y ∈ sc.names, y.2 ≠ .cell
  names : ∀ y ∈ sc.names, y.2 = .local → sc.names.lookup y.1 = some .local
  free : ∀ y ∈ sc.names, y.2 = .free → sc₀.names.lookup y.1 = some .cell
  nd : N.Nodup
  hd : N.head? = some x
  loc : sc.names.lookup x = some .local
  len : N.length = ix.length + 1
  at_ : ∀ p ∈ N.tail.zip ix, N₀[p.2]? = some p.1 ∧ sc.names.lookup p.1 = some .free
/-- the values of the names from around -/
def frV (σ : St) (ix : List Nat) : St := ix.map fun j => (σ[j]?).getD none
def PIf (X : Cx) (ifs : List Expr) (t : TT) : Prop :=
  ∀ (pins : List (Addr × Obj)) (s : Shared) (σ : St) (H : Hp) (Q : Bool → Hp → Prop), Inv X pins σ H s → t σ H Q → wpAny (model X.prog X.w) X.A (lcTests ifs X.env) (TP X pins σ Q) X.xe s
def tYes : TT := fun _ H Q => Q true H
theorem pif_nil {X : Cx} : PIf X [] tYes := fun pins s σ H Q I h => wpAny_tests_nil ⟨H, I, h⟩
theorem pif_one {X : Cx} {c : Expr} {t : TT} (h : PT X c t) : PIf X [c] t := fun pins s σ H Q I hw => wpAny_tests_one (h pins s σ H Q I hw)
/-- what is told of a comprehension: J the walked thing, H the heap at its begin -/
def rdLc (J : It) (H1 : Hp) (fr : St) (tc : TT) (te : TE) (Q : VK) : Prop := ∀ D, H1 D = none → ∃ W : Nat → Nat → Hp → Prop, (∃ m, W 0 m (upd H1 D (.lst []))) ∧ ∀ i m H, W i m H →
  (J.stop i H ∧ Q (.ref D) H) ∨ (J.go i H ∧ ∀ x H', J.yld i H x H' → tc (some x :: fr) H' fun b H3 =>
    if b = true then te (some x :: fr) H3 fun y H4 => ∃ ys, H4 D = some (.lst ys) ∧ ys.length < sizeLine ∧ ∃ m', m' < m ∧ W (i + 1) m' (upd H4 D (.lst (ys ++ [y]))) else ∃ m', m' < m ∧ W (i + 1) m' H3)
def tLc (wi : TI) (ix : List Nat) (tc : TT) (te : TE) : TE := fun σ H Q => wi σ H fun J H1 => rdLc J H1 (frV σ ix) tc te Q

section
variable {X : Cx} {scope : Scope} {N : List Str} {ix : List Nat} {x : Str} {px : Pos} {elt iter : Expr} {ifs : List Expr} {tc : TT} {te : TE} {pos : Pos}
theorem lc_ok {pins : List (Addr × Obj)} {σ : St} {H2 : Hp} {s2 : Shared} {J : It} {fp : List Addr} {it : Addr} {tn : Nat → Heap → Prop} {tg : Expr} (L : LcScope X.N X.env.scope scope x N ix) (I2 : Inv X pins σ H2 s2)
    (T : Turn X.prog X.w X.K tg J fp it tn) (st2 : tn 0 s2.heap) (f2 : ∀ b ∈ fp, FpOk X pins H2 b) {C : Addr} {s3 s4 : Shared} {H3 : Hp} (I3 : Inv X pins σ H3 s3) (I4 : Inv X pins σ H3 s4) (hle : s2.heap.objs.size ≤ s3.heap.objs.size)
    (hC : C = s3.heap.objs.size) (ho : s4.os = s3.os) (kp : ∀ b u, s3.heap.get? b = some u → s4.heap.get? b = some u) {m : Str → Option Value} (hns : s4.heap.Ns C m) : Inv (cxLc X scope N C s3 H3 fp) [] (none :: frV σ ix) H3 s4 := by
  have hfree : ∀ y ∈ scope.names, y.2 = .free → ∃ c, X.env.cells.lookup y.1 = some c := fun y hy hf => I2.ok.has y.1 (.inl (L.free y hy hf))
  have sub : ∀ y c, (cloGo X.env scope.names []).lookup y = some c → X.env.cells.lookup y = some c := fun y c h => cloGo_sub _ _ y c hfree (fun _ _ z => by simp at z) h
  have lt2 : ∀ b ∈ fp, b < s2.heap.objs.size := fun b hb => by obtain ⟨o, e, _⟩ := T.obj _ _ st2 b hb; exact Heap.lt_size e
  have okY : (cxLc X scope N C s3 H3 fp).Ok := by
    refine ⟨I2.ok.mod, L.kind, I2.ok.glob, I2.ok.blt, Nat.le_of_eq hC.symm, fun y z c h1 h2 => I2.ok.inj y z c (sub y c h1) (sub z c h2), fun y hy => ?_, fun y c z _ => ?_, I2.ok.hd, I2.ok.frames, .inl rfl, fun b hb => ⟨?_, fun y c h => (f2 b hb).2.2.2.2.1 y c (sub y c h)⟩,
      I3.bs, Nat.le_trans I3.ok.bsz I3.sz, fun b o e hb => ?_, fun b hb z => ?_, I3.stack, I3.stkFree⟩
    · have hk : (y, NameKind.free) ∈ scope.names := by
        rcases hy with hy | hy
        · rcases relabel_of hy with q | q
          · exact absurd rfl (L.nocell _ q)
          · exact q.1
        · rcases relabel_of hy with q | q
          · exact q
          · exact absurd q.2 (by decide)
      exact Option.isSome_iff_exists.mp (cloGo_has _ _ y hk)
    · cases (show false = true from z)
    · have l := lt2 b hb
      show b ≠ C
      rw [hC]
      exact Nat.ne_of_lt (Nat.lt_of_lt_of_le l hle)
    · rcases (f2 b hb).2.2.2.1 with q | q
      · exact I2.ok.noex b o e q
      · exact absurd (Nat.lt_of_lt_of_le (Heap.lt_size e) (Nat.le_trans I2.ok.bsz q)) (Nat.lt_irrefl _)
    · rcases List.mem_cons.mp (I2.stkSub b z) with q | q
      · exact (f2 b hb).2.1 q
      · exact (f2 b hb).2.2.1 q
  refine ⟨okY, ho, I4.bare, Un.kept kp, ⟨m, hns, fun i y v h1 h2 h3 => ?_⟩, fun y c e => I4.cell y c (sub y c e), ?_, fun y c e => I4.freeC y c (sub y c e), fun p hp => absurd (show p ∈ ([] : List (Addr × Obj)) from hp) (by simp), I4.hok, ?_⟩
  · cases i with
    | zero => cases (show some none = some (some v) from h2)
    | succ k =>
      have h2 : (frV σ ix)[k]? = some (some v) := h2
      have h1 : N[k + 1]? = some y := h1
      unfold frV at h2
      rw [List.getElem?_map] at h2
      cases hj : ix[k]? with
      | none => rw [hj] at h2; cases h2
      | some j =>
        rw [hj] at h2
        have h2 : (σ[j]?).getD none = some v := Option.some.inj h2
        have h2' : σ[j]? = some (some v) := by
          cases e : σ[j]? with
          | none => rw [e] at h2; cases h2
          | some z => rw [e] at h2; exact congrArg some h2
        have ht : N.tail[k]? = some y := by rw [List.getElem?_tail]; exact h1
        have hz : (y, j) ∈ N.tail.zip ix := List.mem_of_getElem? (i := k) (by rw [List.getElem?_zip_eq_some]; exact ⟨ht, hj⟩)
        obtain ⟨q1, q2⟩ := L.at_ _ hz
        have hm := PySem.mem_of_lookup q2
        have hcell := L.free _ hm rfl
        obtain ⟨m', hn', hl'⟩ := I4.loc
        obtain ⟨u, r, lk⟩ := hl' j y v q1 h2' (.inr (.inl hcell))
        refine ⟨u, r, .inr ⟨.inl (relabel_free I2.ok.kind hcell q2), ?_⟩⟩
        rcases lk with lk | ⟨_, c, e, z⟩
        · rw [show X.env.kindOf y = some .cell from hcell] at lk
          cases lk.1
        · obtain ⟨c', e'⟩ := Option.isSome_iff_exists.mp (cloGo_has (env := X.env) scope.names [] y hm)
          have e2 := sub y c' e'
          rw [e] at e2
          cases e2
          exact ⟨c, e', z⟩
  · show H3 C = none
    exact I3.hok.fresh (Nat.le_of_eq hC.symm)
  · show (none :: frV σ ix).length = N.length
    rw [L.len]
    simp [frV]
theorem lc_run {tgt : Expr} (htg : tgt = .Name x px) {pins : List (Addr × Obj)} {σ : St} {H2 : Hp} {s2 : Shared} {J : It} {fp : List Addr} {it : Addr} {tn : Nat → Heap → Prop} (hc : X.calm = true) (L : LcScope X.N X.env.scope scope x N ix) (I2 : Inv X pins σ H2 s2)
    (T : Turn X.prog X.w X.K tgt J fp it tn) (st2 : tn 0 s2.heap) (f2 : ∀ b ∈ fp, FpOk X pins H2 b)
    (hif : ∀ C s H, PIf (cxLc X scope N C s H fp) ifs tc) (he : ∀ C s H, PE (cxLc X scope N C s H fp) elt te) {Q : VK} (rd : rdLc J H2 (frV σ ix) tc te Q) {RR : Value → Addr → Result → Shared → Prop} {E : Value → Shared → Prop}
    (fin : ∀ D C H' s' m, Inv X pins σ H' s' → s2.heap.objs.size ≤ C → H' C = none → s'.heap.Ns C m → Q (.ref D) H' → RR (.ref D) C (.ok .next) s') :
    wpAny (model X.prog X.w) X.A (newList []) (fun acc s3 => wpAny (model X.prog X.w) X.A (newFunctionEnv scope X.env.globals (cloGo X.env scope.names []) [] X.env.qual none .none (some X.env)) (fun cenv s4 =>
      codeAny (model X.prog X.w) X.A (.compStart (.ListComp elt [⟨tgt, iter, ifs, 0⟩] scope pos) 0 (.ref it) acc { cenv with scope := relabel scope X.env }) (RR acc cenv.locals) s4) E s3) E s2 := by
  refine wpAny_newObj_type (wpAny_newFunctionEnv L.nocell (by intro y hy; simp at hy) (fun h1 hns hsb => ?_) L.kind)
  dsimp only at hns hsb ⊢
  have I3 : Inv X pins σ (upd H2 s2.heap.objs.size (.lst [])) { s2 with heap := s2.heap.push { cls := .type "list", dict := none, data := .seq ([] : List Value).toArray } } := I2.lnew (its := []) (t' := s2.toks) .nil (Nat.zero_le _)
  generalize hH3 : s2.heap.push { cls := .type "list", dict := none, data := .seq ([] : List Value).toArray } = h3 at hns hsb I3 ⊢
  have hsz : h3.objs.size = s2.heap.objs.size + 1 := by rw [← hH3, Heap.size_push]
  have kp34 : ∀ b u, h3.get? b = some u → h1.get? b = some u := fun b u e => hsb.extBut b u (Nat.ne_of_lt (Heap.lt_size e)) (Heap.get?_push_of_some _ e)
  have I4 : Inv X pins σ (upd H2 s2.heap.objs.size (.lst [])) { s2 with heap := h1, toks := s2.toks + ([] : List (Str × Value)).length } := I3.kept (t' := s2.toks + ([] : List (Str × Value)).length) kp34
  have kp24 : ∀ b u, s2.heap.get? b = some u → h1.get? b = some u := fun b u e => kp34 b u (by rw [← hH3]; exact Heap.get?_push_of_some _ e)
  have IY := lc_ok (C := h3.objs.size) (s3 := { s2 with heap := h3 }) L I2 T st2 f2 I3 I4 (by show s2.heap.objs.size ≤ h3.objs.size; omega) rfl rfl kp34 hns
  have fD : H2 s2.heap.objs.size = none := I2.hok.fresh (Nat.le_refl _)
  have lt2 : ∀ b ∈ fp, b < s2.heap.objs.size := fun b hb => by obtain ⟨o, e, _⟩ := T.obj _ _ st2 b hb; exact Heap.lt_size e
  have st4 : tn 0 h1 := T.keep _ _ _ st2 fun b _ o e => kp24 b o e
  have stat : ∀ {pn : List (Addr × Obj)} {H' : Hp}, pn = [] → (∀ b ∈ fp, H' b = none) → ∀ b ∈ fp, FpOk (cxLc X scope N h3.objs.size { s2 with heap := h3 } (upd H2 s2.heap.objs.size (.lst [])) fp) pn H' b := fun hp hn b hb => by
    subst hp
    exact ⟨hn b hb, (IY.ok.exf b hb).1, IY.ok.exfs b hb, .inl hb, (IY.ok.exf b hb).2, fun p hp => absurd (show p ∈ ([] : List (Addr × Obj)) from hp) (by simp)⟩
  obtain ⟨W, ⟨m0, w0⟩, turn⟩ := rd _ fD
  have loop : codeAny (model X.prog X.w) X.A (.compLoop (.ListComp elt [⟨tgt, iter, ifs, 0⟩] scope pos) 0 (.ref it) (.ref s2.heap.objs.size) (compEnvC scope (cloGo X.env scope.names []) h3.objs.size X.env)) (RR (.ref s2.heap.objs.size) h3.objs.size)
      { s2 with heap := h1, toks := s2.toks + ([] : List (Str × Value)).length } := by
    refine lc_loop (fun n s' => ∃ i H', Inv (cxLc X scope N h3.objs.size { s2 with heap := h3 } (upd H2 s2.heap.objs.size (.lst [])) fp) [] (none :: frV σ ix) H' s' ∧ tn i s'.heap ∧ (∀ b ∈ fp, H' b = none) ∧ W i n H') ?_ m0
      ⟨0, _, IY, st4, fun b hb => by rw [upd_ne (Nat.ne_of_lt (lt2 b hb))]; exact (f2 b hb).1, w0⟩
    rintro n s5 ⟨i, H5, I5, st5, fr5, w5⟩
    rcases turn i n H5 w5 with ⟨stop, q⟩ | ⟨go, step⟩
    · refine thn (T.done (cxLc X scope N h3.objs.size { s2 with heap := h3 } (upd H2 s2.heap.objs.size (.lst [])) fp) rfl rfl rfl hc i [] s5 _ H5 (fun _ _ => False) I5 (stat rfl fr5) st5 stop) fun r s6 ⟨hr, I6⟩ => ?_
      subst hr
      obtain ⟨m6, hn6, _⟩ := I6.loc
      have u1 : Un (frs X.stack) fp H2 (upd H2 s2.heap.objs.size (.lst [])) s2.heap h3 := Un.laid (fun b u e => by rw [← hH3]; exact Heap.get?_push_of_some _ e) (Nat.le_refl _) fD
      have back : Inv X pins σ H5 s6 := I2.call' (ch := fp) (I6.os.trans rfl) (u1.trans I6.base) I6.hok I6.bare fun b hb => ⟨(f2 b hb).2.2.2.1, (f2 b hb).2.1, (f2 b hb).2.2.2.2.1, (f2 b hb).2.2.2.2.2⟩
      exact fin _ _ H5 s6 m6 back (by omega) I6.free hn6 q
    · refine thn (T.item (cxLc X scope N h3.objs.size { s2 with heap := h3 } (upd H2 s2.heap.objs.size (.lst [])) fp) rfl rfl rfl hc i [] s5 _ H5 (fun _ _ => False) I5 (stat rfl fr5) st5 go) fun r s6 ⟨u, hr, h6⟩ => ?_
      subst hr
      refine thn h6 fun _ s7 ⟨y, H7, I7, r7, y7, st7, fr7⟩ => ?_
      have I7' := I7.pinned (stat rfl fr7) (T.obj _ _ st7)
      have hg : PG (cxLc X scope N h3.objs.size { s2 with heap := h3 } (upd H2 s2.heap.objs.size (.lst [])) fp) tgt (gName 0) := by
        rw [htg]
        have hi : N[0]? = some x := by have := L.hd; rwa [List.head?_eq_getElem?] at this
        exact pg_name L.nd hi (.inl (lookup_relabel_local L.loc)) (.inr (lookup_relabel_local L.loc))
      refine thn (hg _ s7 _ H7 y u (fun σ' H' => σ' = some y :: frV σ ix ∧ H' = H7) I7' r7 ⟨rfl, rfl⟩) fun _ s8 ⟨σ8, H8, I8, e8, e8'⟩ => ?_
      subst e8 e8'
      refine thn (hif _ _ _ _ s8 _ _ _ I8 (step y _ y7)) fun ok s9 ⟨H9, I9, q9⟩ => ?_
      have again : ∀ {sz : Shared} {Hz : Hp} {m' : Nat}, Inv (cxLc X scope N h3.objs.size { s2 with heap := h3 } (upd H2 s2.heap.objs.size (.lst [])) fp) ([] ++ pinsAt fp s7.heap) (some y :: frV σ ix) Hz sz → m' < n → W (i + 1) m' Hz →
          ∃ m, m < n ∧ ∃ i H', Inv (cxLc X scope N h3.objs.size { s2 with heap := h3 } (upd H2 s2.heap.objs.size (.lst [])) fp) [] (none :: frV σ ix) H' sz ∧ tn i sz.heap ∧ (∀ b ∈ fp, H' b = none) ∧ W i m H' := fun {sz Hz m'} Iz hm wz => by
        refine ⟨m', hm, i + 1, Hz, Iz.unpinned.weak (by simp) (fun j v e => ?_), T.keep _ _ _ st7 fun b hb o e => (Iz.pin (b, o) (List.mem_append_right _ (List.mem_append_right _ (mem_pinsAt hb e)))).1, fun b hb => ?_, wz⟩
        · cases j with
          | zero => cases e
          | succ j => exact e
        · obtain ⟨o, e, d⟩ := T.obj _ _ st7 b hb
          exact (Iz.pin (b, o) (List.mem_append_right _ (List.mem_append_right _ (mem_pinsAt hb e)))).2.1
      cases ok with
      | false =>
        obtain ⟨m', hm, wz⟩ := q9
        exact again I9 hm wz
      | true =>
        refine thn (he _ _ _ _ s9 _ _ _ I9 q9) fun xv s10 ⟨z, H10, I10, r10, ys, hD, hl, m', hm, wz⟩ => ?_
        refine thn (mt_append _ s10 _ H10 (.ref s2.heap.objs.size) [z] (.ref s2.heap.objs.size) [xv] (fun _ Hz => Hz = upd H10 s2.heap.objs.size (.lst (ys ++ [z]))) I10 rfl (.cons r10 .nil) ⟨_, ys, z, rfl, rfl, hD, hl, rfl⟩) fun _ s11 ⟨_, H11, I11, _, q11⟩ => ?_
        subst q11
        exact again I11 hm wz
  exact codeAny_compStart_list loop (T.self X.A 0 _ _ _ st4 loop)
/-- [elt for x in iter if ..] -/
theorem pe_lc {wi : TI} (hc : X.calm = true) (L : LcScope X.N X.env.scope scope x N ix) (hi : PI X (.Name x px) iter wi) (hif : ∀ C s H fp, PIf (cxLc X scope N C s H fp) ifs tc) (he : ∀ C s H fp, PE (cxLc X scope N C s H fp) elt te)
    (hs : ∀ z, foldedSetIterable iter X.env z = pure z := by intro _; rfl) : PE X (.ListComp elt [⟨.Name x px, iter, ifs, 0⟩] scope pos) (tLc wi ix tc te) := by
  intro pins s σ H Q I h
  have hfree : ∀ y ∈ scope.names, y.2 = .free → ∃ c, X.env.cells.lookup y.1 = some c := fun y hy hf => I.ok.has y.1 (.inl (L.free y hy hf))
  rw [eval_ListComp]
  refine wpAny_comprehension_free (use := none) rfl hs (closure_eq hfree) L.kind L.names (thn (hi pins s σ H _ I h) fun v s1 h1 => thn h1 fun itv s2 h2 => ?_)
  obtain ⟨it, fp, tn, J, H2, e, I2, T, st2, f2, rd⟩ := h2
  subst e
  refine lc_run (RR := fun acc C => compPost (model X.prog X.w) X.A X.xe none _ acc C) rfl hc L I2 T st2 f2 (fun C s H => hif C s H fp) (fun C s H => he C s H fp) rd fun D C H' s' m I' hC hf hn q => ?_
  refine ⟨m, hn, fun h' hsb => ⟨.ref D, H', ?_, rfl, q⟩⟩
  have l2 := I2.lt
  refine I'.turned (t' := s'.toks) (it := C) (fun b o hb e => hsb.extBut b o hb e) hf (Nat.ne_of_gt (Nat.lt_of_lt_of_le l2 hC)) (.inr (Nat.le_trans I2.sz hC)) (fun y c e => ?_) fun p hp => ?_
  · obtain ⟨v, hv⟩ := I2.cell y c e
    exact Nat.ne_of_lt (Nat.lt_of_lt_of_le hv.lt hC)
  · exact Nat.ne_of_lt (Nat.lt_of_lt_of_le (Heap.lt_size (I2.pin p hp).1) hC)
/-- name = [elt for x in iter if ..] -/
theorem ps_setlc {wi : TI} {i : Nat} {y : Str} {py spos : Pos} (hc : X.calm = true) (L : LcScope X.N X.env.scope scope x N ix) (hN : X.N.Nodup) (hy : X.N[i]? = some y) (hl : X.env.scope.names.lookup y = some .local)
    (hi : PI X (.Name x px) iter wi) (hif : ∀ C s H fp, PIf (cxLc X scope N C s H fp) ifs tc) (he : ∀ C s H fp, PE (cxLc X scope N C s H fp) elt te)
    (hsw : swapsWith (.ListComp elt [⟨.Name x px, iter, ifs, 0⟩] scope pos) (some (.Name y py)) spos.line X.env = pure true := by rfl)
    (hs : ∀ z, foldedSetIterable iter X.env z = pure z := by intro _; rfl) : PS X (.Assign [.Name y py] (.ListComp elt [⟨.Name x px, iter, ifs, 0⟩] scope pos) spos) (tAsg (tLc wi ix tc te) (gName i)) := by
  intro pins s σ H D I h
  have hfree : ∀ y ∈ scope.names, y.2 = .free → ∃ c, X.env.cells.lookup y.1 = some c := fun y hy hf => I.ok.has y.1 (.inl (L.free y hy hf))
  rw [exec_Assign_Name_used _ _ _ _ hsw]
  refine wpAny_bind (wpAny_standAt (wpAny_bind ?_))
  show wpAny _ X.A (do let _ ← comprehension (.ListComp elt [⟨.Name x px, iter, ifs, 0⟩] scope pos) scope X.env _ (newList []) false (eval iter X.env) (some (assign (.Name y py) X.env))) _ _ s
  refine wpAny_bind (thn (Q := fun _ s' => SP X pins D .next s') (wpAny_comprehension_free (use := some (assign (.Name y py) X.env)) rfl hs (closure_eq hfree) L.kind L.names (thn (hi pins s σ H _ I h) fun v s1 h1 => thn h1 fun itv s2 h2 => ?_)) fun _ s' hq => wpAny_pure (wpAny_pure hq))
  obtain ⟨it, fp, tn, J, H2, e, I2, T, st2, f2, rd⟩ := h2
  subst e
  refine lc_run (RR := fun acc C => compPost (model X.prog X.w) X.A X.xe (some (assign (.Name y py) X.env)) _ acc C) rfl hc L I2 T st2 f2 (fun C s H => hif C s H fp) (fun C s H => he C s H fp) rd fun Da C H' s' m I' hC hf hn q => ?_
  have l2 := I2.lt
  have nC : C ≠ X.env.locals := Nat.ne_of_gt (Nat.lt_of_lt_of_le l2 hC)
  have nF : C ∉ X.fs := I2.nofs hC
  obtain ⟨oC, es, ep, hget, hdat, hrest⟩ := id hn
  have Ip : Inv X (pins ++ [(C, oC)]) σ H' s' := I'.pins_of fun p hp => (List.mem_append.mp hp).elim (fun z => I'.pin p (List.mem_append_right _ z)) fun z => by
    have e : p = (C, oC) := by simpa using z
    subst e
    exact ⟨hget, hf, nC, nF, fun v z => by rw [hdat] at z; cases z⟩
  have hg : PG X (.Name y py) (gName i) := pg_name hN hy (.inl hl) (.inr hl)
  show wpAny _ X.A (assign (.Name y py) X.env (.ref Da)) _ _ s'
  refine thn (hg _ s' σ H' (.ref Da) (.ref Da) D.nx Ip rfl q) fun _ s'' ⟨σ'', H'', I'', q''⟩ => ?_
  obtain ⟨g1, g2, _⟩ := I''.pin (C, oC) (List.mem_append_right _ (List.mem_append_right _ (by simp)))
  refine ⟨m, ⟨oC, es, ep, g1, hdat, hrest⟩, fun h' hsb => ⟨σ'', H'', ?_, q''⟩⟩
  refine I''.unpinned.turned (t' := s''.toks) (it := C) (fun b o hb e => hsb.extBut b o hb e) g2 nC (.inr (Nat.le_trans I2.sz hC)) (fun y c e => ?_) fun p hp => ?_
  · obtain ⟨v, hv⟩ := I2.cell y c e
    exact Nat.ne_of_lt (Nat.lt_of_lt_of_le hv.lt hC)
  · exact Nat.ne_of_lt (Nat.lt_of_lt_of_le (Heap.lt_size (I2.pin p hp).1) hC)
end

/-! ### the form one uses: nothing that was tracked is changed -/
theorem same_upd {H : Hp} {D : Addr} {o : HO} (h : H D = none) : Same H (upd H D o) := fun b u e => by rw [upd_ne (ne_of_none e h)]; exact e
theorem lc_same {J : It} {H1 : Hp} {fr : St} {tc : TT} {te : TE} {Q : VK} (n : Nat) (item : Nat → V) (acc : Nat → List V) (h0 : acc 0 = []) (hz : ∀ i, i < n → (acc i).length < sizeLine)
    (hgo : ∀ i H, i < n → Same H1 H → J.go i H) (hy : ∀ i H x H', i < n → Same H1 H → J.yld i H x H' → x = item i ∧ H' = H) (hst : ∀ H, Same H1 H → J.stop n H)
    (turn : ∀ i H (R : Hp → Prop) (A : VK), i < n → Same H1 H → (acc (i + 1) = acc i → ∀ H', Same H H' → R H') → (∀ y H', acc (i + 1) = acc i ++ [y] → Same H H' → A y H') →
      tc (some (item i) :: fr) H fun b H3 => if b = true then te (some (item i) :: fr) H3 A else R H3)
    (fin : ∀ D H, H1 D = none → Same H1 H → H D = some (.lst (acc n)) → Q (.ref D) H) : rdLc J H1 fr tc te Q := by
  intro D hD
  refine ⟨fun i m H => i ≤ n ∧ m = n - i ∧ Same H1 H ∧ H D = some (.lst (acc i)), ⟨n, Nat.zero_le _, rfl, same_upd hD, by rw [upd_same, h0]⟩, ?_⟩
  rintro i m H ⟨hi, rfl, sm, hl⟩
  by_cases h : i = n
  · subst h
    exact .inl ⟨hst H sm, fin D H hD sm hl⟩
  · have hlt : i < n := Nat.lt_of_le_of_ne hi h
    refine .inr ⟨hgo i H hlt sm, fun x H' hyl => ?_⟩
    obtain ⟨rfl, rfl⟩ := hy i H x H' hlt sm hyl
    refine turn i H' _ _ hlt sm (fun ea H3 s3 => ?_) (fun y H4 ea s4 => ?_)
    · exact ⟨n - (i + 1), by omega, by omega, rfl, sm.trans s3, by rw [ea]; exact s3 _ _ hl⟩
    · refine ⟨acc i, s4 _ _ hl, hz i hlt, n - (i + 1), by omega, by omega, rfl, fun b u e => ?_, by rw [upd_same, ea]⟩
      rw [upd_ne (ne_of_none e hD)]
      exact s4 _ _ (sm _ _ e)
/-- over range(a, a + n) -/
theorem lc_range {lo : Int} {n : Nat} {H1 : Hp} {fr : St} {tc : TT} {te : TE} {Q : VK} (acc : Nat → List V) (h0 : acc 0 = []) (hz : ∀ i, i < n → (acc i).length < sizeLine)
    (turn : ∀ (i : Nat) H (R : Hp → Prop) (A : VK), i < n → Same H1 H → (acc (i + 1) = acc i → ∀ H', Same H H' → R H') → (∀ y H', acc (i + 1) = acc i ++ [y] → Same H H' → A y H') →
      tc (some (.int (lo + i)) :: fr) H fun b H3 => if b = true then te (some (.int (lo + i)) :: fr) H3 A else R H3)
    (fin : ∀ D H, H1 D = none → Same H1 H → H D = some (.lst (acc n)) → Q (.ref D) H) : rdLc (Itr lo n) H1 fr tc te Q :=
  lc_same n (fun i => .int (lo + i)) acc h0 hz (fun i H hi _ => hi) (fun i H x H' _ _ h => ⟨h.2, h.1⟩) (fun H _ => Nat.le_refl n) turn fin
end L2
end

section
set_option Elab.async false
set_option linter.all false
set_option maxRecDepth 100000
set_option maxHeartbeats 4000000
/-! My own rules behind the layer: callees in one piece, texts, isinstance. -/
namespace L2
open PySem PySem.Spec PyProof.Rows

/-! ### Python's own names -/
theorem b_int : bootBuiltins "int" = some (.type "int") := by decide +kernel
theorem b_bool : bootBuiltins "bool" = some (.type "bool") := by decide +kernel
theorem b_list : bootBuiltins "list" = some (.type "list") := by decide +kernel
theorem b_tuple : bootBuiltins "tuple" = some (.type "tuple") := by decide +kernel
theorem b_dict : bootBuiltins "dict" = some (.type "dict") := by decide +kernel
theorem b_len : bootBuiltins "len" = some (.builtin "len") := by decide +kernel
theorem b_isinstance : bootBuiltins "isinstance" = some (.builtin "isinstance") := by decide +kernel
theorem b_sorted : bootBuiltins "sorted" = some (.builtin "sorted") := by decide +kernel
/-! ### a callee in one piece -/
structure Cal (P : Program) (w : World) (K : PySem.W.Frag) (mg : Str → Option Value) (base : Heap) (name : Str) (k : Nat) (ps : List Str) (sp : Sp) : Prop where
  ex : ∃ (f : Addr) (fd : FuncData), FnOk P w K mg base CX0 k f fd ps sp ∧ Binds K fd ps [] ∧ mg name = some (.ref f) ∧ PySem.W.keepIn K (.ref f) = true
section
variable {X : Cx} {k : Nat} {ps : List Str} {sp : Sp} {name m : Str} {p pos apos : Pos} {e o : Expr} {es : List Expr} {ta : TE} {t : TA}
theorem pe_fn (C : Cal X.prog X.w X.K X.mg X.base name k ps sp) (hr : Room k X.A) (ha : PA X (e :: es) t) (hg : Gl X name := by rfl) (hdb : (name == ("__debug__" : Str)) = false := by decide)
    (he : starEach (e :: es) X.env = (false, eval e X.env) :: starEach es X.env := by rfl) (hpl : (backTo pos (starEach es X.env)).any (·.1) = false := by rfl) : PE X (.Call (.Name name p) (e :: es) [] pos) (tCall sp [] E0 t) := by
  obtain ⟨f, fd, F, b, hm, hk⟩ := C.ex
  exact pe_call F hr hg hm hk b .nil pass0 ha hdb he hpl
end

/-! ### isinstance by one of Python's own kinds -/
section
variable {X : Cx}
def rIsi (K : PySem.W.Frag) : List V → Hp → VK → Prop := fun xs H Q => ∃ x n t b, xs = [x, .ty n] ∧ TyOf K H x t ∧ PySem.W.kitOne K t (.type n) = some b ∧ Q (.bl b) H
theorem call_isinst : CallR X (.builtin "isinstance") (rIsi X.K) := by
  intro pins s σ H xs us Q I r h
  obtain ⟨x, n, t, b, rfl, ty, e, q⟩ := h
  obtain ⟨u, w', rfl, ru, rw'⟩ := vals2 r
  cases (show w' = Value.type n from rw')
  exact isinst_ok I ru ty e fun tk => ⟨.bl b, H, I.tok tk, rfl, q⟩
end

section
variable {X : Cx}
end
end L2
end

section
set_option Elab.async false
set_option linter.all false
namespace L2
open PySem
def nostar : Expr → Bool
  | .Starred .. => false
  | _ => true
theorem starEach_of {e : Expr} {es : List Expr} {env : Env} (h : nostar e = true) : starEach (e :: es) env = (false, eval e env) :: starEach es env := by
  cases e <;> first | rfl | cases h
section
variable {X : Cx} {e : Expr} {es : List Expr} {te : TE} {t : TA}
end
section
variable {X : Cx} {e : Expr} {es : List Expr} {te : TE} {t : TA}
theorem pa_d (ha : PE X e te) (hr : PA X es t) (hs : nostar e = true) : PA X (e :: es) (tCons te t) := pa_cons ha hr (starEach_of hs)
end
section
variable {X : Cx} {e a b : Expr} {es : List Expr} {te ta tb : TE} {t : TA} {pos : Pos} {st : Stmt} {rest : List Stmt} {u u2 : TS}
end
theorem us1 {P : List Value → Prop} (h : ∀ a, P [a]) : ∀ us : List Value, us.length = 1 → P us
  | [_], _ => h _
theorem us2 {P : List Value → Prop} (h : ∀ a b, P [a, b]) : ∀ us : List Value, us.length = 2 → P us
  | [_, _], _ => h _ _
theorem us3 {P : List Value → Prop} (h : ∀ a b c, P [a, b, c]) : ∀ us : List Value, us.length = 3 → P us
  | [_, _, _], _ => h _ _ _
end L2
end

section
set_option Elab.async false
set_option linter.all false
set_option maxRecDepth 100000
/-! Readings, step by step, from behind. -/
namespace L2
open PySem PySem.Spec PyProof.Rows
section
variable {σ : St} {H : Hp} {D : Ends} {Q : VK} {t u : TS} {te ta tb : TE} {QB : Bool → Hp → Prop}
theorem r_seq (h : t { D with nx := u D } σ H) : tSeq t u D σ H := h
theorem r_next (h : D.nx σ H) : tNext D σ H := h
theorem r_asg {g : TG} (h : te σ H fun x H1 => g x σ H1 D.nx) : tAsg te g D σ H := h
theorem r_gname {i : Nat} {v : V} {R : St → Hp → Prop} (h : R (σ.set i (some v)) H) : gName i v σ H R := h
theorem r_ret (h : te σ H D.rt) : tRet te D σ H := h
theorem r_drop (h : te σ H fun _ H1 => D.nx σ H1) : tDrop te D σ H := h
theorem r_ifs {c : TT} (h : c σ H fun b H1 => if b = true then t D σ H1 else u D σ H1) : tIfS c t u D σ H := h
theorem r_var {i : Nat} {v : V} (e : σ[i]? = some (some v)) (h : Q v H) : tVar i σ H Q := ⟨v, e, h⟩
theorem r_c {v : V} (h : Q v H) : tC v σ H Q := h
theorem r_op {r : R2} (h : ta σ H fun x H1 => tb σ H1 fun y H2 => r x y H2 Q) : tOp r ta tb σ H Q := h
theorem r_un {r : V → Hp → VK → Prop} (h : ta σ H fun x H1 => r x H1 Q) : tUn r ta σ H Q := h
theorem r_rU {g : Int → V} {i : Int} (h : Q (g i) H) : rU g (.int i) H Q := ⟨i, rfl, h⟩
theorem r_rI0 {g : Int → Int → V} {i j : Int} (h : Q (g i j) H) : rI0 g (.int i) (.int j) H Q := ⟨i, j, rfl, rfl, h⟩
theorem r_rEq {x y : V} (e : scal x y = true) (h : Q (.bl (decide (x = y))) H) : rEq x y H Q := ⟨e, h⟩
theorem r_test (h : te σ H fun x H' => ∃ k, x = .bl k ∧ QB k H') : tTest te σ H QB := h
theorem r_tB (h : te σ H fun x H' => ∃ k, x = .bl k ∧ QB k H') : tB te σ H QB := h
theorem r_bl {k : Bool} {P : Bool → Prop} (h : P k) : ∃ k', V.bl k = .bl k' ∧ P k' := ⟨k, rfl, h⟩
theorem r_not {c : TT} (h : c σ H fun b H1 => QB (!b) H1) : tNot c σ H QB := h
theorem r_or {c d : TT} (h : c σ H fun b H1 => if b = true then QB true H1 else d σ H1 QB) : tOr c d σ H QB := h
theorem r_andV (h : ta σ H fun x H1 => ∃ c, x = .bl c ∧ if c = true then tb σ H1 Q else Q (.bl false) H1) : tAndV ta tb σ H Q := h
theorem r_notV (h : ta σ H fun x H1 => ∃ c, x = .bl c ∧ Q (.bl (!c)) H1) : tNotV ta σ H Q := h
theorem r_chain {r r' : R2} {tc : TE} (h : ta σ H fun x H1 => tb σ H1 fun y H2 => r x y H2 fun z H3 => ∃ k, z = .bl k ∧ (if k = true then tc σ H3 fun w' H4 => r' y w' H4 Q else Q (.bl false) H3)) : tChain r r' ta tb tc σ H Q := h
theorem r_yes (h : QB true H) : tYes σ H QB := h
variable {tA tR : TA} {QA : List V → Hp → Prop}
theorem r_nil (h : QA [] H) : tNil σ H QA := h
theorem r_cons (h : te σ H fun x H1 => tR σ H1 fun xs H2 => QA (x :: xs) H2) : tCons te tR σ H QA := h
theorem r_call {sp : Sp} {E : XK} (h : tA σ H fun vs H1 => sp (vs ++ []) H1 Q E) : tCall sp [] E tA σ H Q := h
theorem r_cB {r : List V → Hp → VK → Prop} (h : tA σ H fun vs H1 => r vs H1 Q) : tCB r tA σ H Q := h
theorem r_lst (h : tA σ H fun xs H1 => xs.length ≤ sizeLine ∧ ∀ p, H1 p = none → Q (.ref p) (upd H1 p (.lst xs))) : tLst tA σ H Q := h
theorem r_bm {K : PySem.W.Frag} {T : String} {r : V → List V → Hp → VK → Prop} (h : te σ H fun x H1 => tyV K T x H1 ∧ tA σ H1 fun xs H2 => r x xs H2 Q) : tBM K T r te tA σ H Q := h
theorem r_sl {r : V → Option Int → Option Int → Hp → VK → Prop} {tl th : TO} (h : te σ H fun x H1 => tl σ H1 fun l H2 => th σ H2 fun u H3 => r x l u H3 Q) : tSl r te tl th σ H Q := h
theorem r_nopart {QO : Option Int → Hp → Prop} (h : QO none H) : tNoPart σ H QO := h
theorem r_part {QO : Option Int → Hp → Prop} (h : te σ H fun x H1 => ∃ i, x = .int i ∧ QO (some i) H1) : tPart te σ H QO := h
theorem r_int {P : Int → Prop} {i : Int} (h : P i) : ∃ j, V.int i = .int j ∧ P j := ⟨i, rfl, h⟩
/-- for: what is walked first -/
def forB (J : It) (g : TG) (tb : TS) (D : Ends) (σ : St) (H1 : Hp) : Prop := ∃ W : Nat → Nat → St → Hp → Prop, (∃ m, W 0 m σ H1) ∧ ∀ i m σ H, W i m σ H →
  (J.stop i H ∧ D.nx σ H) ∨ (J.go i H ∧ ∃ N : St → Hp → Prop, (∀ σ' H', N σ' H' → ∃ m', m' < m ∧ W (i + 1) m' σ' H') ∧ ∀ x H', J.yld i H x H' → g x σ H' fun σ2 H2 => tb { D with nx := N, ct := N, bk := D.nx } σ2 H2)
theorem r_for {wi : TI} {g : TG} (h : wi σ H fun J H1 => forB J g t D σ H1) : tFor wi g t D σ H := h
theorem r_rng1 {R : It → Hp → Prop} (h : tA σ H fun vs H1 => ∃ j : Int, vs = [.int j] ∧ -(2 ^ 62) ≤ j ∧ j < 2 ^ 62 ∧ R (Itr 0 j.toNat) H1) : iRng1 tA σ H R := h
theorem r_ilist {K : PySem.W.Frag} {R : It → Hp → Prop} (h : te σ H fun x H1 => ∃ a, x = .ref a ∧ (∃ xs, SqL K H1 a xs) ∧ R (Itl K a) H1) : iList K te σ H R := h
theorem r_lc {wi : TI} {ix : List Nat} {tc : TT} (h : wi σ H fun J H1 => rdLc J H1 (frV σ ix) tc te Q) : tLc wi ix tc te σ H Q := h
/-- items of lists, tuples, texts -/
theorem r_ixL {K : PySem.W.Frag} {p : Addr} {xs : List V} {i : Int} {v : V} (hs : SqL K H p xs) (e : atI xs i = some v) (h : Q v H) : rIxL K (.ref p) (.int i) H Q := ⟨p, xs, i, v, rfl, rfl, hs, e, h⟩
theorem r_ixT {K : PySem.W.Frag} {p : Addr} {xs : List V} {i : Int} {v : V} (hs : SqT K H p xs) (e : atI xs i = some v) (h : Q v H) : rIxT K (.ref p) (.int i) H Q := ⟨p, xs, i, v, rfl, rfl, hs, e, h⟩
theorem r_append {l : Addr} {xs : List V} {y : V} (hl : H l = some (.lst xs)) (hz : xs.length < sizeLine) (h : Q .non (upd H l (.lst (xs ++ [y])))) : rAppend (.ref l) [y] H Q := ⟨l, xs, y, rfl, rfl, hl, hz, h⟩
end
/-- while, by a word and a measure; r_turn goes into the body -/
theorem while_rd {c : TT} {tb : TS} {D : Ends} {σ : St} {H : Hp} (Pv : St → Hp → Prop) (μ : St → Hp → Nat) (h0 : Pv σ H)
    (hs : ∀ m σ H, Pv σ H → μ σ H = m → c σ H fun b H1 => if b = true then ∃ N : St → Hp → Prop, (∀ σ' H', N σ' H' → ∃ m', m' < m ∧ (Pv σ' H' ∧ μ σ' H' = m')) ∧ tb { D with nx := N, ct := N, bk := D.nx } σ H1 else D.nx σ H1) : tWhile c tb D σ H :=
  ⟨fun m σ H => Pv σ H ∧ μ σ H = m, ⟨_, h0, rfl⟩, fun m σ H h => hs m σ H h.1 h.2⟩
theorem r_turn {tb : TS} {rt : VK} {bk : St → Hp → Prop} {σ : St} {H1 : Hp} {Pv : St → Hp → Prop} {μ : St → Hp → Nat} {m : Nat}
    (h : tb { nx := fun σ' H' => Pv σ' H' ∧ μ σ' H' < m, rt := rt, bk := bk, ct := fun σ' H' => Pv σ' H' ∧ μ σ' H' < m } σ H1) :
    ∃ N : St → Hp → Prop, (∀ σ' H', N σ' H' → ∃ m', m' < m ∧ (Pv σ' H' ∧ μ σ' H' = m')) ∧ tb { nx := N, rt := rt, bk := bk, ct := N } σ H1 := ⟨_, fun σ' H' z => ⟨_, z.2, z.1, rfl⟩, h⟩
section
variable {H : Hp} {Q : VK} {g : Int → Int → V} {i j : Int}
theorem r_mod (c : 0 < j) (h : Q (g i j) H) : rI (fun _ j => 0 < j) g (.int i) (.int j) H Q := ⟨i, j, rfl, rfl, c, h⟩
theorem r_div (c1 : 0 < j) (c2 : j < 1073741824) (h : Q (g i j) H) : rI CDiv g (.int i) (.int j) H Q := ⟨i, j, rfl, rfl, ⟨c1, c2⟩, h⟩
theorem r_mulR (c1 : -(2 ^ 64) < j) (c2 : j < 2 ^ 64) (h : Q (g i j) H) : rI CMul g (.int i) (.int j) H Q := ⟨i, j, rfl, rfl, .inr ⟨c1, c2⟩, h⟩
theorem r_mulL (c1 : -(2 ^ 64) < i) (c2 : i < 2 ^ 64) (h : Q (g i j) H) : rI CMul g (.int i) (.int j) H Q := ⟨i, j, rfl, rfl, .inl ⟨c1, c2⟩, h⟩
end
theorem iteP {c A B : Prop} [Decidable c] (h1 : c → A) (h2 : ¬ c → B) : if decide c = true then A else B := by
  by_cases h : c
  · rw [decide_eq_true h, if_pos rfl]
    exact h1 h
  · rw [decide_eq_false h, if_neg Bool.false_ne_true]
    exact h2 h
/-! ### an if whose ways meet behind it -/
def tIfJ (c : TT) (t u : TS) : TS := fun D σ H => ∃ J : St → Hp → Prop, (∀ σ H, J σ H → D.nx σ H) ∧ c σ H fun b H1 => if b = true then t { D with nx := J } σ H1 else u { D with nx := J } σ H1
theorem ps_ifJ {X : Cx} {c : Expr} {a b : List Stmt} {tc : TT} {t u : TS} {pos : Pos} (hc : PT X c tc) (ha : PSs X a t) (hb : PSs X b u) : PS X (.If c a b pos) (tIfJ tc t u) := by
  intro pins s σ H D I h
  obtain ⟨J, hJ, h⟩ := h
  refine thn (ps_if hc ha hb pins s σ H { D with nx := J } I h) fun f s' q => ?_
  cases f with
  | next =>
    obtain ⟨σ', H', I', q'⟩ := q
    exact ⟨σ', H', I', hJ _ _ q'⟩
  | brk => exact q
  | cont => exact q
  | ret u => exact q
theorem r_ifJ {c : TT} {t u : TS} {D : Ends} {σ : St} {H : Hp} (J : St → Hp → Prop) (h : c σ H fun b H1 => if b = true then t { D with nx := J } σ H1 else u { D with nx := J } σ H1) (hJ : ∀ σ H, J σ H → D.nx σ H) : tIfJ c t u D σ H := ⟨J, hJ, h⟩
end L2
end

section
set_option Elab.async false
set_option linter.all false
set_option maxRecDepth 100000
set_option maxHeartbeats 4000000
/-! My own rules behind the layer: ranges by steps, texts walked and cut, sums, counts, tuples compared. -/
namespace L2
open PySem PySem.Spec PyProof.Rows

section
variable {X : Cx} {tg : Expr}
end
section
variable {X : Cx} {tg : Expr}
end
section
variable {X : Cx}
end
end L2
end

section
set_option Elab.async false
set_option linter.all false
set_option maxRecDepth 100000
set_option maxHeartbeats 4000000
/-! zip and enumerate; comprehensions over pairs. -/
namespace L2
open PySem PySem.Spec PyProof.Rows
theorem b_zip : bootBuiltins "zip" = some (.type "zip") := by decide +kernel
theorem b_enumerate : bootBuiltins "enumerate" = some (.type "enumerate") := by decide +kernel

/-- several records of ours have turned, a new tuple stands -/
theorem Inv.turnT {X : Cx} {pins : List (Addr × Obj)} {σ : List (Option V)} {H : Hp} {s : Shared} {h' : Heap} {t' : Nat} {wr : List Addr} {T : Addr} {xs : List V} {us : List Value} (I : Inv X pins σ H s)
    (k : ∀ b o, b ∉ wr → s.heap.get? b = some o → h'.get? b = some o) (hf : ∀ b ∈ wr, FpOk X pins H b) (hT : s.heap.objs.size ≤ T) (hI : h'.IsTuple T us.toArray) (rv : Vals xs us) (hz : xs.length ≤ sizeLine) :
    Inv X pins σ (upd H T (.tup xs)) { s with heap := h', toks := t' } := by
  have hn : H T = none := I.hok.fresh hT
  have nT : ∀ b u, H b = some u → b ≠ T := fun b u e => ne_of_none e hn
  have nW : ∀ b u, H b = some u → b ∉ wr := fun b u e z => by rw [(hf b z).1] at e; cases e
  refine I.step (g' := s.gens) (d' := s.drawn) (ch := wr) (fun b hb => ?_) (fun b o _ _ hc e _ => k b o hc e) (fun b o _ _ hc e _ => ⟨o.slots, k b o hc e⟩) (fun b o hc e n => ?_)
    (fun b o hc e => ⟨o, k b o hc e⟩) (fun b xs e => by rw [upd_ne (nT _ _ e)]; exact e) (fun b o u e => by rw [upd_ne (nT _ _ e)]; exact e) (fun b ps e => ⟨#[], by rw [upd_ne (nT _ _ e), e]; simp⟩) (fun m hm => ?_) (fun b u e => ?_) I.bare
  · obtain ⟨_, f1, _, f3, f4, f5⟩ := hf b hb
    exact ⟨f3, f1, f4, f5⟩
  · rw [upd_ne (Nat.ne_of_lt (Nat.lt_of_lt_of_le (Heap.lt_size e) hT))]
    exact n
  · obtain ⟨o, es, ep, ho, r⟩ := hm
    exact ⟨o, es, ep, k _ o (fun z => (hf _ z).2.1 rfl) ho, r⟩
  · by_cases hb : b = T
    · subst hb
      rw [upd_same] at e
      cases e
      exact ⟨hz, us, rv, hI⟩
    · rw [upd_ne hb] at e
      refine (I.hok b u e).stay (fun c v hc q => k c v ?_ q) (fun c q => by rw [upd_ne (nT _ _ q)]; exact q) fun c ys q => by rw [upd_ne (nT _ _ q)]; exact q
      rcases hc with z | z
      · rw [z]; exact nW b u e
      · exact nW c _ z
/-- .. and no new one -/
theorem Inv.turnW {X : Cx} {pins : List (Addr × Obj)} {σ : List (Option V)} {H : Hp} {s : Shared} {h' : Heap} {t' : Nat} {wr : List Addr} (I : Inv X pins σ H s)
    (k : ∀ b o, b ∉ wr → s.heap.get? b = some o → h'.get? b = some o) (hf : ∀ b ∈ wr, FpOk X pins H b) : Inv X pins σ H { s with heap := h', toks := t' } := by
  have nW : ∀ b u, H b = some u → b ∉ wr := fun b u e z => by rw [(hf b z).1] at e; cases e
  refine I.step (g' := s.gens) (d' := s.drawn) (ch := wr) (fun b hb => ?_) (fun b o _ _ hc e _ => k b o hc e) (fun b o _ _ hc e _ => ⟨o.slots, k b o hc e⟩) (fun b o hc e n => n)
    (fun b o hc e => ⟨o, k b o hc e⟩) (fun _ _ e => e) (fun _ _ _ e => e) (fun b ps e => ⟨#[], by rw [e]; simp⟩) (fun m hm => ?_) (fun b u e => ?_) I.bare
  · obtain ⟨_, f1, _, f3, f4, f5⟩ := hf b hb
    exact ⟨f3, f1, f4, f5⟩
  · obtain ⟨o, es, ep, ho, r⟩ := hm
    exact ⟨o, es, ep, k _ o (fun z => (hf _ z).2.1 rfl) ho, r⟩
  · refine (I.hok b u e).stay (fun c v hc q => k c v ?_ q) (fun _ q => q) fun _ _ q => q
    rcases hc with z | z
    · rw [z]; exact nW b u e
    · exact nW c _ z
theorem cls_ne {h : Heap} {a b : Addr} {o u : Obj} (h1 : h.get? a = some o) (h2 : h.get? b = some u) (d : o.cls ≠ u.cls) : a ≠ b := fun e => by
  subst e
  rw [h1] at h2
  cases h2
  exact d rfl
/-- the pairs of two lists -/
def Itz (K : PySem.W.Frag) (a b : Addr) : It :=
  ⟨fun i H => ∃ xs ys x y, SqL K H a xs ∧ SqL K H b ys ∧ xs[i]? = some x ∧ ys[i]? = some y,
   fun i H v H' => ∃ t x y, H t = none ∧ v = .ref t ∧ (∀ xs, SqL K H a xs → xs[i]? = some x) ∧ (∀ ys, SqL K H b ys → ys[i]? = some y) ∧ H' = upd H t (.tup [x, y]),
   fun i H => ∃ xs ys, SqL K H a xs ∧ SqL K H b ys ∧ i = min xs.length ys.length⟩
def StZ (z TI TO i1 i2 l1 l2 : Addr) (i : Nat) (h : Heap) : Prop := IsZip h z TI TO .none ∧ IsPair h TI (.ref i1) (.ref i2) ∧ (∃ a b, IsPair h TO a b) ∧ h.IsListIter i1 l1 i ∧ h.IsListIter i2 l2 i
structure ApartZ (z TI TO i1 i2 : Addr) : Prop where
  TIz : TI ≠ z
  TOz : TO ≠ z
  i1z : i1 ≠ z
  i2z : i2 ≠ z
  TITO : TI ≠ TO
  TIi1 : TI ≠ i1
  TIi2 : TI ≠ i2
  TOi1 : TO ≠ i1
  TOi2 : TO ≠ i2
  i12 : i1 ≠ i2
theorem apartZ {h : Heap} {z TI TO i1 i2 a b : Addr} {i : Nat} {xs ys : Array Value} (D : ApartZ z TI TO i1 i2) (st : StZ z TI TO i1 i2 a b i h) (ha : h.IsList a xs) (hb : h.IsList b ys) : ZipApart z TI TO i1 i2 a b := by
  obtain ⟨hz, hTI, ⟨u, v, hTO⟩, ⟨o1, e1, c1, _⟩, ⟨o2, e2, c2, _⟩⟩ := st
  obtain ⟨oa, ea, ca, _⟩ := ha
  obtain ⟨ob, eb, cb, _⟩ := hb
  refine ⟨D.TIz, D.TOz, D.i1z, D.i2z, D.TITO, D.TIi1, D.TIi2, D.TOi1, D.TOi2, D.i12, cls_ne ea hz ?_, cls_ne ea hTO ?_, cls_ne ea e1 ?_, cls_ne ea e2 ?_, cls_ne eb hz ?_, cls_ne eb hTO ?_, cls_ne eb e1 ?_, cls_ne eb e2 ?_⟩
  · rw [ca]; exact show Value.type "list" ≠ Value.type "zip" by decide
  · rw [ca]; exact show Value.type "list" ≠ Value.type "tuple" by decide
  · rw [ca, c1]; decide
  · rw [ca, c2]; decide
  · rw [cb]; exact show Value.type "list" ≠ Value.type "zip" by decide
  · rw [cb]; exact show Value.type "list" ≠ Value.type "tuple" by decide
  · rw [cb, c1]; decide
  · rw [cb, c2]; decide
theorem apartZ_new (n : Nat) : ApartZ (n + 4) (n + 2) (n + 3) n (n + 1) := by
  constructor <;> (intro h; have h : (_ : Nat) = _ := h; omega)
theorem le_z2 {n c : Nat} (h : c = n + 1 ∨ c = n) : n ≤ c := by omega
theorem ne_z1 (n : Nat) : n + 1 ≠ n := by omega
theorem turn_zip {P : Program} {w : World} {K : PySem.W.Frag} {elts : List Expr} {k : Nat} {pos : Pos} (z TI TO i1 i2 a b : Addr) (D : ApartZ z TI TO i1 i2) :
    Turn P w K (.Tuple elts k pos) (Itz K a b) [z, TI, TO, i1, i2] z (StZ z TI TO i1 i2 a b) where
  mem := by simp
  obj := fun i h st c hc => by
    obtain ⟨hz, hTI, ⟨u, v, hTO⟩, ⟨o1, e1, c1, d1⟩, ⟨o2, e2, c2, d2⟩⟩ := st
    simp only [List.mem_cons, List.not_mem_nil, or_false] at hc
    rcases hc with rfl | rfl | rfl | rfl | rfl
    · exact ⟨_, hz, fun v z => by cases z⟩
    · exact ⟨_, hTI, fun v z => by cases z⟩
    · exact ⟨_, hTO, fun v z => by cases z⟩
    · exact ⟨_, e1, fun v z => by rw [d1] at z; cases z⟩
    · exact ⟨_, e2, fun v z => by rw [d2] at z; cases z⟩
  keep := fun i h h' st kk => by
    obtain ⟨hz, hTI, ⟨u, v, hTO⟩, h1, h2⟩ := st
    exact ⟨kk _ (by simp) _ hz, kk _ (by simp) _ hTI, ⟨u, v, kk _ (by simp) _ hTO⟩, h1.at fun o e => kk _ (by simp) o e, h2.at fun o e => kk _ (by simp) o e⟩
  item := by
    intro X hP hw hK hc i pins s σ H E I hf st hg
    subst hP hw hK
    obtain ⟨xs, ys, x, y, ha, hb, hx, hy⟩ := hg
    obtain ⟨its, rv, p, hz⟩ := I.list ha
    obtain ⟨its2, rv2, p2, hz2⟩ := I.list hb
    have W := WalksT.zip2 (prog := X.prog) (w := X.w) (A := X.A) (I.ok.hd hc) z TI TO i1 i2 a b (apartZ D st p.isList p2.isList) its.toArray its2.toArray
    obtain ⟨u1, hu1, ru1⟩ := rv.get hx
    obtain ⟨u2, hu2, ru2⟩ := rv2.get hy
    have l1 := (List.getElem?_eq_some_iff.mp hu1).1
    have l2 := (List.getElem?_eq_some_iff.mp hu2).1
    obtain ⟨s1, s2, s3, s4, s5⟩ := id st
    refine W.item i s _ _ (by simp; omega) ⟨s1, s2, s3, s4, s5, p.isList, p2.isList⟩ fun T vals h' tk hv hT hTu mid kk => ?_
    obtain ⟨v1, v2, e1, e2, rfl⟩ := hv
    have e1 : v1 = u1 := by have := e1; simp only [List.getElem?_toArray] at this; rw [hu1] at this; exact (Option.some.inj this).symm
    have e2 : v2 = u2 := by have := e2; simp only [List.getElem?_toArray] at this; rw [hu2] at this; exact (Option.some.inj this).symm
    subst e1 e2
    have nT := W.apart i T h' mid
    refine ⟨.ref T, rfl, W.go elts k pos i T { s with heap := h', toks := tk } _ _ mid fun h'' st'' kk2 => ?_⟩
    have hTu2 : h''.IsTuple T ([v1, v2] : List Value).toArray := by
      obtain ⟨o, e, r⟩ := hTu
      exact ⟨o, kk2 T o nT e, r⟩
    have I2 : Inv X pins σ (upd H T (.tup [x, y])) { s with heap := h'', toks := tk } := I.turnT (t' := tk) (fun b o hb e => kk2 b o hb (kk b o hb e)) (fun b hb => hf b (by simp at hb ⊢; rcases hb with rfl | rfl | rfl | rfl <;> simp)) hT hTu2 (.cons ru1 (.cons ru2 .nil)) (show 2 ≤ sizeLine by decide)
    refine ⟨.ref T, _, I2, rfl, ⟨T, x, y, I.hok.fresh hT, rfl, fun xs' h => by rw [I.list_inj h ha]; exact hx, fun ys' h => by rw [I.list_inj h hb]; exact hy, rfl⟩, ⟨st''.1, st''.2.1, st''.2.2.1, st''.2.2.2.1, st''.2.2.2.2.1⟩, fun c hc' => ?_⟩
    have hlt : c < s.heap.objs.size := by
      obtain ⟨q, ⟨t1, t2, t3⟩⟩ : c ∈ [z, TI, TO, i1, i2] ∧ (IsZip s.heap z TI TO .none ∧ IsPair s.heap TI (.ref i1) (.ref i2) ∧ True) := ⟨hc', s1, s2, trivial⟩
      obtain ⟨u, v, s3⟩ := s3
      obtain ⟨o4, s4, _⟩ := s4
      obtain ⟨o5, s5, _⟩ := s5
      simp only [List.mem_cons, List.not_mem_nil, or_false] at hc'
      rcases hc' with rfl | rfl | rfl | rfl | rfl
      · exact Heap.lt_size s1
      · exact Heap.lt_size s2
      · exact Heap.lt_size s3
      · exact Heap.lt_size s4
      · exact Heap.lt_size s5
    rw [upd_ne (Nat.ne_of_lt (Nat.lt_of_lt_of_le hlt hT))]
    exact (hf c hc').1
  done := by
    intro X hP hw hK hc i pins s σ H E I hf st hg
    subst hP hw hK
    obtain ⟨xs, ys, ha, hb, hi⟩ := hg
    obtain ⟨its, rv, p, hz⟩ := I.list ha
    obtain ⟨its2, rv2, p2, hz2⟩ := I.list hb
    have W := WalksT.zip2 (prog := X.prog) (w := X.w) (A := X.A) (I.ok.hd hc) z TI TO i1 i2 a b (apartZ D st p.isList p2.isList) its.toArray its2.toArray
    have hl := rv.length
    have hl2 := rv2.length
    have hi2 : i = min its.toArray.size its2.toArray.size := by rw [hi, hl, hl2]; simp
    obtain ⟨s1, s2, s3, s4, s5⟩ := id st
    refine W.done s _ _ (by rw [← hi2]; exact ⟨s1, s2, s3, s4, s5, p.isList, p2.isList⟩) fun h' tk kk => ⟨rfl, ?_⟩
    exact I.turnW (t' := tk) kk fun b hb => hf b (by simp at hb ⊢; rcases hb with rfl | rfl | rfl | rfl <;> simp)
  self := fun _ _ _ _ _ st h => wpAny_pyIter_zip st.1 h
section
variable {X : Cx} {elts : List Expr} {k : Nat} {tpos : Pos}
end
/-- the numbered items of a list -/
def Ite (K : PySem.W.Frag) (a : Addr) : It :=
  ⟨fun i H => ∃ xs x, SqL K H a xs ∧ xs[i]? = some x,
   fun i H v H' => ∃ t x, H t = none ∧ v = .ref t ∧ (∀ xs, SqL K H a xs → xs[i]? = some x) ∧ H' = upd H t (.tup [.int i, x]),
   fun i H => ∃ xs, SqL K H a xs ∧ i = xs.length⟩
def StE (e it l : Addr) (i : Nat) (h : Heap) : Prop := (∃ old, IsEnum h e it i old) ∧ h.IsListIter it l i
theorem turn_enum {P : Program} {w : World} {K : PySem.W.Frag} {elts : List Expr} {k : Nat} {pos : Pos} (e it a : Addr) (D : e ≠ it) :
    Turn P w K (.Tuple elts k pos) (Ite K a) [e, it] e (StE e it a) where
  mem := by simp
  obj := fun i h st c hc => by
    obtain ⟨⟨old, he⟩, ⟨o1, e1, c1, d1⟩⟩ := st
    simp only [List.mem_cons, List.not_mem_nil, or_false] at hc
    rcases hc with rfl | rfl
    · exact ⟨_, he, fun v z => by cases z⟩
    · exact ⟨_, e1, fun v z => by rw [d1] at z; cases z⟩
  keep := fun i h h' st kk => by
    obtain ⟨⟨old, he⟩, h1⟩ := st
    exact ⟨⟨old, kk _ (by simp) _ he⟩, h1.at fun o e => kk _ (by simp) o e⟩
  item := by
    intro X hP hw hK hc i pins s σ H E I hf st hg
    subst hP hw hK
    obtain ⟨xs, x, ha, hx⟩ := hg
    obtain ⟨its, rv, p, hz⟩ := I.list ha
    obtain ⟨⟨old, s1⟩, s2⟩ := id st
    have n1 : a ≠ e := by obtain ⟨oa, ea, ca, _⟩ := p.isList; exact cls_ne ea s1 (by rw [ca]; exact show Value.type "list" ≠ Value.type "enumerate" by decide)
    have n2 : a ≠ it := by obtain ⟨oa, ea, ca, _⟩ := p.isList; obtain ⟨o1, e1, c1, _⟩ := s2; exact cls_ne ea e1 (by rw [ca, c1]; decide)
    have W := WalksT.enumerate (prog := X.prog) (w := X.w) (A := X.A) (I.ok.hd hc) e it a D n1 n2 its.toArray
    obtain ⟨u1, hu1, ru1⟩ := rv.get hx
    have l1 := (List.getElem?_eq_some_iff.mp hu1).1
    refine W.item i s _ _ (by simpa using l1) ⟨⟨old, s1⟩, s2, p.isList⟩ fun T vals h' tk hv hT hTu mid kk => ?_
    obtain ⟨t, v1, e1, rfl⟩ := hv
    have e1 : v1 = u1 := by have := e1; simp only [List.getElem?_toArray] at this; rw [hu1] at this; exact (Option.some.inj this).symm
    subst e1
    have nT := W.apart i T h' mid
    refine ⟨.ref T, rfl, W.go elts k pos i T { s with heap := h', toks := tk } _ _ mid fun h'' st'' kk2 => ?_⟩
    have hTu2 : h''.IsTuple T ([Value.int (i : Int) t, v1] : List Value).toArray := by
      obtain ⟨o, e, r⟩ := hTu
      exact ⟨o, kk2 T o nT e, r⟩
    have I2 : Inv X pins σ (upd H T (.tup [.int i, x])) { s with heap := h'', toks := tk } := I.turnT (t' := tk) (fun b o hb e => kk2 b o hb (kk b o hb e)) (fun b hb => hf b hb) hT hTu2 (.cons ⟨t, rfl⟩ (.cons ru1 .nil)) (show 2 ≤ sizeLine by decide)
    refine ⟨.ref T, _, I2, rfl, ⟨T, x, I.hok.fresh hT, rfl, fun xs' h => by rw [I.list_inj h ha]; exact hx, rfl⟩, ⟨?_, st''.2.1⟩, fun c hc' => ?_⟩
    · exact st''.1
    have hlt : c < s.heap.objs.size := by
      obtain ⟨o5, s5, _⟩ := s2
      simp only [List.mem_cons, List.not_mem_nil, or_false] at hc'
      rcases hc' with rfl | rfl
      · exact Heap.lt_size s1
      · exact Heap.lt_size s5
    rw [upd_ne (Nat.ne_of_lt (Nat.lt_of_lt_of_le hlt hT))]
    exact (hf c hc').1
  done := by
    intro X hP hw hK hc i pins s σ H E I hf st hg
    subst hP hw hK
    obtain ⟨xs, ha, hi⟩ := hg
    obtain ⟨its, rv, p, hz⟩ := I.list ha
    obtain ⟨⟨old, s1⟩, s2⟩ := id st
    have n1 : a ≠ e := by obtain ⟨oa, ea, ca, _⟩ := p.isList; exact cls_ne ea s1 (by rw [ca]; exact show Value.type "list" ≠ Value.type "enumerate" by decide)
    have n2 : a ≠ it := by obtain ⟨oa, ea, ca, _⟩ := p.isList; obtain ⟨o1, e1, c1, _⟩ := s2; exact cls_ne ea e1 (by rw [ca, c1]; decide)
    have W := WalksT.enumerate (prog := X.prog) (w := X.w) (A := X.A) (I.ok.hd hc) e it a D n1 n2 its.toArray
    have hl := rv.length
    have hi2 : i = its.toArray.size := by rw [hi, hl]; simp
    refine W.done s _ _ (by rw [← hi2]; exact ⟨⟨old, s1⟩, s2, p.isList⟩) fun h' tk kk => ⟨rfl, ?_⟩
    exact I.turnW (t' := tk) kk fun b hb => hf b hb
  self := fun _ _ _ _ _ st h => wpAny_pyIter_enum (Classical.choose_spec st.1) h
section
variable {X : Cx} {elts : List Expr} {k : Nat} {tpos : Pos}
def iEnum (K : PySem.W.Frag) (ta : TA) : TI := fun σ H R => ta σ H fun vs H1 => ∃ a, vs = [.ref a] ∧ (∃ xs, SqL K H1 a xs) ∧ R (Ite K a) H1
theorem pi_enum {a : Expr} {ta : TA} {p pos : Pos} (hg : Gl X "enumerate") (hm : X.mg "enumerate" = none) (ha : PA X [a] ta) (hs : starEach [a] X.env = [(false, eval a X.env)] := by rfl) :
    PI X (.Tuple elts k tpos) (.Call (.Name "enumerate" p) [a] [] pos) (iEnum X.K ta) := by
  intro pins s σ H R I h
  refine Call_ (ld_blt I hg hm b_enumerate (PyProof.Rows.callWith_type1 (thn (ha pos pins s σ H _ I h) fun us s1 ⟨vs, H1, I1, r1, q1⟩ => ?_) hs rfl))
  obtain ⟨a, e, ⟨xs, hx⟩, q⟩ := q1
  subst e
  obtain ⟨u, rfl, ru⟩ := vals1 r1
  cases ru
  obtain ⟨its, rv, p, hz⟩ := I1.list hx
  refine call_enumerate_list p.isList fun h' g1 g2 hsz kk => ?_
  refine wpAny_pyIter_enum (s := { s1 with heap := h' }) g1 ?_
  refine ⟨s1.heap.objs.size + 1, [s1.heap.objs.size + 1, s1.heap.objs.size], _, _, H1, rfl, I1.kept (t' := s1.toks) kk,
    turn_enum _ _ a (ne_z1 _), ⟨⟨_, g1⟩, g2⟩, fun c hc => ?_, q⟩
  have hle : s1.heap.objs.size ≤ c := by
    simp only [List.mem_cons, List.not_mem_nil, or_false] at hc
    exact le_z2 hc
  exact I1.fpOk hle (I1.hok.fresh hle)
end
end L2
end

section
set_option Elab.async false
set_option linter.all false
set_option maxRecDepth 100000
set_option maxHeartbeats 4000000
/-! Comprehensions over pairs. -/
namespace L2
open PySem PySem.Spec PyProof.Rows
section
variable {X : Cx} {scope : Scope} {N : List Str} {ix : List Nat} {x1 x2 : Str} {px px2 ppos : Pos} {kk : Nat} {elt iter : Expr} {ifs : List Expr} {tc : TT} {te : TE} {pos : Pos}
end
theorem r_ienum {K : PySem.W.Frag} {tA : TA} {σ : St} {H : Hp} {R : It → Hp → Prop} (h : tA σ H fun vs H1 => ∃ a, vs = [.ref a] ∧ (∃ xs, SqL K H1 a xs) ∧ R (Ite K a) H1) : iEnum K tA σ H R := h
theorem r_gtup2 {K : PySem.W.Frag} {σ : St} {H : Hp} {R : St → Hp → Prop} {a : Addr} {x y : V} {i j : Nat} (hs : SqT K H a [x, y]) (h : R ((σ.set i (some x)).set j (some y)) H) : gTup K 2 (gCons (gName i) (gCons (gName j) gNil)) (.ref a) σ H R :=
  ⟨a, [x, y], rfl, hs, rfl, x, [y], rfl, y, [], rfl, rfl, h⟩
theorem for_enum {K : PySem.W.Frag} {a : Addr} {xs : List V} {i1 i2 : Nat} {tb : TS} {D : Ends} {σ : St} {H : Hp} (Pv : Nat → St → Hp → Prop) (h0 : Pv 0 σ H) (hl : ∀ i σ H, i ≤ xs.length → Pv i σ H → SqL K H a xs)
    (step : ∀ i x σ H t, xs[i]? = some x → Pv i σ H → H t = none → tb { D with nx := Pv (i + 1), ct := Pv (i + 1), bk := D.nx } ((σ.set i1 (some (.int i))).set i2 (some x)) (upd H t (.tup [.int i, x])))
    (fin : ∀ σ H, Pv xs.length σ H → D.nx σ H) : forB (Ite K a) (gTup K 2 (gCons (gName i1) (gCons (gName i2) gNil))) tb D σ H := by
  refine ⟨fun i m σ H => i ≤ xs.length ∧ m = xs.length - i ∧ Pv i σ H, ⟨_, Nat.zero_le _, rfl, h0⟩, ?_⟩
  rintro i m σ H ⟨hi, rfl, hp⟩
  by_cases h : i = xs.length
  · exact .inl ⟨⟨xs, hl i σ H hi hp, h⟩, fin σ H (h ▸ hp)⟩
  · have hlt : i < xs.length := Nat.lt_of_le_of_ne hi h
    refine .inr ⟨⟨xs, xs[i], hl i σ H hi hp, by simp⟩, Pv (i + 1), fun σ' H' q => ⟨xs.length - (i + 1), by omega, hlt, rfl, q⟩, fun v H' hy => ?_⟩
    obtain ⟨t, x, hn, rfl, hx, rfl⟩ := hy
    exact r_gtup2 (SqT.of upd_same) (step i x σ H t (hx xs (hl i σ H hi hp)) hp hn)
end L2
end

section
set_option Elab.async false
set_option linter.all false
set_option maxRecDepth 100000
set_option maxHeartbeats 4000000
/-! The numbered signs of a text. -/
namespace L2
open PySem PySem.Spec PyProof.Rows
section
variable {X : Cx} {elts : List Expr} {k : Nat} {tpos : Pos}
end
end L2
end

section
set_option Elab.async false
set_option linter.all false
set_option maxRecDepth 100000
set_option maxHeartbeats 4000000
/-! My own rules behind the layer: objects in one piece, sums, counts, numbers by two, texts turned about. -/
namespace L2
open PySem PySem.Spec PyProof.Rows
/-! ### classes and methods in one piece -/
structure Mth (P : Program) (w : World) (K : PySem.W.Frag) (mg : Str → Option Value) (base : Heap) (C : Addr) (m : Str) (k : Nat) (ps : List Str) (sp : Sp) : Prop where
  ex : ∃ (f : Addr) (fd : FuncData), FnOk P w K mg base CX0 k f fd ps sp ∧ Binds K fd ps [] ∧ Meth K C m f
  cl : Cls K C
section
variable {X : Cx} {k : Nat} {C : Addr} {ps : List Str} {sp : Sp} {name m : Str} {p pos apos : Pos} {e o : Expr} {es : List Expr} {ta : TE} {t : TA} {pl : Sem Bool}
theorem pe_mt (M : Mth X.prog X.w X.K X.mg X.base C m k ps sp) (hr : Room k X.A) (ho : PE X o ta) (ha : PA X (e :: es) t)
    (hst : starEach (e :: es) X.env = (false, eval e X.env) :: starEach es X.env := by rfl) (hpl : (backTo pos (starEach es X.env)).any (·.1) = false := by rfl)
    (ht : eval (.Call (.Attribute o m apos) (e :: es) [] pos) X.env = (do
      let ov ← eval o X.env
      standAt apos.atName
      let (f, first) ← holding [ov] (getMethod ov m pl)
      callWith pos f first (backTo pos (starEach (e :: es) X.env)) (backToKw pos (keywordEach [] X.env))) := by rfl) :
    PE X (.Call (.Attribute o m apos) (e :: es) [] pos) (tMeth C m sp [] E0 ta t) := by
  obtain ⟨f, fd, F, b, hm⟩ := M.ex
  exact pe_meth ho M.cl hm F hr b .nil pass0 ha hst hpl ht
theorem pe_mt0 (M : Mth X.prog X.w X.K X.mg X.base C m k ps sp) (hr : Room k X.A) (ho : PE X o ta)
    (ht : eval (.Call (.Attribute o m apos) [] [] pos) X.env = (do
      let ov ← eval o X.env
      standAt apos.atName
      let (f, first) ← holding [ov] (getMethod ov m pl)
      callWith pos f first (backTo pos (starEach [] X.env)) (backToKw pos (keywordEach [] X.env))) := by rfl) :
    PE X (.Call (.Attribute o m apos) [] [] pos) (tMeth C m sp [] E0 ta tNil) := by
  obtain ⟨f, fd, F, b, hm⟩ := M.ex
  exact pe_meth0 ho M.cl hm F hr b .nil pass0 ht
end
section
variable {σ : St} {H : Hp} {D : Ends} {Q : VK} {te ta tv : TE} {tA : TA} {K : PySem.W.Frag}
theorem r_fld {f : Str} (h : te σ H fun x H1 => ∃ a C dx fs v, x = .ref a ∧ H1 a = some (.ins C dx fs) ∧ Cls K C ∧ NoAttr K C f ∧ fs.lookup f = some v ∧ Q v H1) : tFld K te f σ H Q := h
theorem r_sfld {f : Str} (h : tv σ H fun y H1 => ta σ H1 fun x H2 => ∃ a C dx fs, x = .ref a ∧ H2 a = some (.ins C dx fs) ∧ Cls K C ∧ NoAttr K C f ∧ fs.length < 1000 ∧ D.nx σ (upd H2 a (.ins C dx (putF f y fs)))) : sFld K ta tv f D σ H := h
theorem r_sfldE {a C dx : Addr} {fs : List (Str × V)} {f : Str} {R : Hp → Prop} {y : V} (h : H a = some (.ins C dx fs)) (c : Cls K C) (n : NoAttr K C f) (l : fs.length < 1000) (q : R (upd H a (.ins C dx (putF f y fs)))) :
    ∃ a' C' dx' fs', V.ref a = .ref a' ∧ H a' = some (.ins C' dx' fs') ∧ Cls K C' ∧ NoAttr K C' f ∧ fs'.length < 1000 ∧ R (upd H a' (.ins C' dx' (putF f y fs'))) := ⟨a, C, dx, fs, rfl, h, c, n, l, q⟩
theorem r_make {C : Addr} {sp : Sp} {E : XK} (h : tA σ H fun vs H1 => ∀ x dx, H1 x = none → H1 dx = none → dx ≠ x → sp (.ref x :: (vs ++ [])) (upd (upd H1 dx (.own x)) x (.ins C dx [])) (fun v H2 => v = .non ∧ Q (.ref x) H2) E) : tMake C sp [] E tA σ H Q := h
theorem r_meth {C : Addr} {m : Str} {sp : Sp} {E : XK} (h : ta σ H fun x H1 => ∃ a dx fs, x = .ref a ∧ H1 a = some (.ins C dx fs) ∧ fs.lookup m = none ∧ tA σ H1 fun vs H2 => sp (x :: (vs ++ [])) H2 Q E) : tMeth C m sp [] E ta tA σ H Q := h
end
/-! ### str.count -/
section
variable {X : Cx}
end
/-! ### int(text, 2) -/
namespace IB
open PySem.NumText PySem.Calls
def v2 (cs : List Nat) : Nat := cs.foldl (fun a c => a * 2 + (c - 48)) 0
end IB
section
variable {X : Cx}
end
end L2
end

section
set_option Elab.async false
set_option linter.all false
set_option maxRecDepth 100000
set_option maxHeartbeats 4000000
/-! My own rules behind the layer: texts turned about, things of one form compared, list(range(n)). -/
namespace L2
open PySem PySem.Spec PyProof.Rows
section
variable {X : Cx} {e : Expr} {te : TE} {p1 p2 p3 pos : Pos} {j : Nat}
end
/-! ### things of one form -/
inductive SameD (K : PySem.W.Frag) (H : Hp) : Nat → V → V → Prop where
  | flat {n : Nat} {x : V} (h : flatV x = true) : SameD K H n x x
  | tup {n : Nat} {a b : Addr} {xs ys : List V} (h1 : SqT K H a xs) (h2 : SqT K H b ys) (hl : xs.length = ys.length) (h : ∀ (j : Nat) (x y : V), xs[j]? = some x → ys[j]? = some y → SameD K H n x y) : SameD K H (n + 1) (.ref a) (.ref b)
  | lst {n : Nat} {a b : Addr} {xs ys : List V} (h1 : SqL K H a xs) (h2 : SqL K H b ys) (hl : xs.length = ys.length) (h : ∀ (j : Nat) (x y : V), xs[j]? = some x → ys[j]? = some y → SameD K H n x y) : SameD K H (n + 1) (.ref a) (.ref b)
theorem eqV_self {x : V} (h : flatV x = true) : eqV x x = true := by
  cases x <;> first | rfl | (simp [eqV]; done) | cases h
theorem SameD.flats {K : PySem.W.Frag} {H : Hp} {n : Nat} {xs : List V} (h : xs.all flatV = true) : ∀ (j : Nat) (x y : V), xs[j]? = some x → xs[j]? = some y → SameD K H n x y := fun j x y h1 h2 => by
  rw [h1] at h2
  cases h2
  exact .flat (List.all_eq_true.mp h x (List.mem_of_getElem? h1))
theorem SameD.tups {K : PySem.W.Frag} {H : Hp} {n : Nat} {a b : Addr} {xs : List V} (h1 : SqT K H a xs) (h2 : SqT K H b xs) (h : xs.all flatV = true) : SameD K H (n + 1) (.ref a) (.ref b) := .tup h1 h2 rfl (SameD.flats h)
theorem SameD.lsts {K : PySem.W.Frag} {H : Hp} {n : Nat} {a b : Addr} {xs : List V} (h1 : SqL K H a xs) (h2 : SqL K H b xs) (h : xs.all flatV = true) : SameD K H (n + 1) (.ref a) (.ref b) := .lst h1 h2 rfl (SameD.flats h)
section
variable {X : Cx} {pins : List (Addr × Obj)} {σ : St} {H : Hp} {s : Shared}
theorem all_true {n : Nat} {e : Nat → Bool} (h : ∀ j, e j = true) : (List.range n).all e = true := by simp [h]
mutual
theorem SameD.eqAt (I : Inv X pins σ H s) : ∀ {n : Nat} {x y : V} {A : Around} {u v : Value}, A.units + n < cLine → SameD X.K H n x y → RelV x u → RelV y v → SeqAt.EqAt A s u v true
  | _, _, _, A, u, v, hu, .flat h, ru, rv => by
    have := eqAt_V (A := A) (s := s) ru rv h h
    rw [eqV_self h] at this
    exact this
  | n + 1, .ref a, .ref b, A, u, v, hu, .tup (xs := xs) (ys := ys) h1 h2 hl h, ru, rv => by
    cases ru; cases rv
    by_cases hab : a = b
    · subst hab; exact SeqAt.EqAt.same _
    · obtain ⟨is, r1, p1, _⟩ := I.tuple h1
      obtain ⟨js, r2, p2, _⟩ := I.tuple h2
      have l1 := r1.length; have l2 := r2.length
      have := SeqAt.RcAt.tuples (A := A) (e := fun _ => true) p1 p2 (by omega) fun j a1 a2 => SameD.items I (by show A.units + 1 + n < cLine; omega) h r1 r2 j (by simpa using a1) (by simpa using a2)
      refine SeqAt.EqAt.of_refs hab ?_
      rw [all_true fun _ => rfl] at this
      simpa [← l1, ← l2, hl] using this
  | n + 1, .ref a, .ref b, A, u, v, hu, .lst (xs := xs) (ys := ys) h1 h2 hl h, ru, rv => by
    cases ru; cases rv
    by_cases hab : a = b
    · subst hab; exact SeqAt.EqAt.same _
    · obtain ⟨is, r1, p1, _⟩ := I.list h1
      obtain ⟨js, r2, p2, _⟩ := I.list h2
      have l1 := r1.length; have l2 := r2.length
      have := SeqAt.RcAt.lists (A := A) (e := fun _ => true) p1.isList p2.isList (by simp; omega) (by omega) fun j a1 a2 => SameD.items I (by show A.units + 1 + n < cLine; omega) h r1 r2 j (by simpa using a1) (by simpa using a2)
      refine SeqAt.EqAt.of_refs hab ?_
      rw [all_true fun _ => rfl] at this
      exact this
theorem SameD.items (I : Inv X pins σ H s) {n : Nat} {A : Around} {xs ys : List V} {us vs : List Value} (hu : A.units + n < cLine) (h : ∀ (j : Nat) (x y : V), xs[j]? = some x → ys[j]? = some y → SameD X.K H n x y) (r1 : Vals xs us) (r2 : Vals ys vs) (j : Nat) (h1 : j < us.length) (h2 : j < vs.length) :
    SeqAt.EqAt A s us[j] vs[j] true := by
  have l1 := r1.length; have l2 := r2.length
  obtain ⟨x, ex⟩ : ∃ x, xs[j]? = some x := ⟨_, List.getElem?_eq_getElem (by omega)⟩
  obtain ⟨y, ey⟩ : ∃ y, ys[j]? = some y := ⟨_, List.getElem?_eq_getElem (by omega)⟩
  obtain ⟨u, eu, ru⟩ := r1.get ex
  obtain ⟨v, ev, rv⟩ := r2.get ey
  rw [List.getElem?_eq_getElem h1] at eu
  rw [List.getElem?_eq_getElem h2] at ev
  cases eu; cases ev
  exact SameD.eqAt I hu (h j x y ex ey) ru rv
end
end
def rSame (K : PySem.W.Frag) (r : Bool) : R2 := fun x y H Q => ∃ a b, x = .ref a ∧ y = .ref b ∧ SameD K H 60 x y ∧ Q (.bl r) H
section
variable {X : Cx}
theorem op_eqD (hu : X.A.units + 60 < cLine) : OpR X (compareOp .Eq) (rSame X.K true) := by
  intro pins s σ H x y v u Q I rx ry h
  obtain ⟨a, b, rfl, rfl, hs, q⟩ := h
  cases rx; cases ry
  cases hs with
  | flat h => cases h
  | @tup n _ _ xs ys h1 h2 hl h =>
    obtain ⟨is, r1, p1, _⟩ := I.tuple h1
    obtain ⟨js, r2, p2, _⟩ := I.tuple h2
    have l1 := r1.length; have l2 := r2.length
    have := SeqAt.RcAt.tuples (A := X.A) (e := fun _ => true) p1 p2 (by omega) fun j a1 a2 => SameD.items I (by show X.A.units + 1 + 59 < cLine; omega) h r1 r2 j (by simpa using a1) (by simpa using a2)
    rw [all_true fun _ => rfl] at this
    refine this _ _ _ _ ⟨.bl true, H, I, ?_, q⟩
    simp [RelV, ← l1, ← l2, hl]
  | @lst n _ _ xs ys h1 h2 hl h =>
    obtain ⟨is, r1, p1, _⟩ := I.list h1
    obtain ⟨js, r2, p2, _⟩ := I.list h2
    have l1 := r1.length; have l2 := r2.length
    have := SeqAt.RcAt.lists (A := X.A) (e := fun _ => true) p1.isList p2.isList (by simp; omega) (by omega) fun j a1 a2 => SameD.items I (by show X.A.units + 1 + 59 < cLine; omega) h r1 r2 j (by simpa using a1) (by simpa using a2)
    rw [all_true fun _ => rfl] at this
    exact this _ _ _ _ ⟨.bl true, H, I, rfl, q⟩
theorem op_neD (hu : X.A.units + 60 < cLine) : OpR X (compareOp .NotEq) (rSame X.K false) := by
  intro pins s σ H x y v u Q I rx ry h
  obtain ⟨a, b, rfl, rfl, hs, q⟩ := h
  cases rx; cases ry
  cases hs with
  | flat h => cases h
  | @tup n _ _ xs ys h1 h2 hl h =>
    obtain ⟨is, r1, p1, _⟩ := I.tuple h1
    obtain ⟨js, r2, p2, _⟩ := I.tuple h2
    have l1 := r1.length; have l2 := r2.length
    have := SeqAt.RcNeAt.tuples (A := X.A) (e := fun _ => true) p1 p2 (by omega) fun j a1 a2 => SameD.items I (by show X.A.units + 1 + 59 < cLine; omega) h r1 r2 j (by simpa using a1) (by simpa using a2)
    rw [all_true fun _ => rfl] at this
    refine this _ _ _ _ ⟨.bl false, H, I, ?_, q⟩
    simp [RelV, ← l1, ← l2, hl]
  | @lst n _ _ xs ys h1 h2 hl h =>
    obtain ⟨is, r1, p1, _⟩ := I.list h1
    obtain ⟨js, r2, p2, _⟩ := I.list h2
    have l1 := r1.length; have l2 := r2.length
    have := SeqAt.RcNeAt.lists (A := X.A) (e := fun _ => true) p1.isList p2.isList (by simp; omega) (by omega) fun j a1 a2 => SameD.items I (by show X.A.units + 1 + 59 < cLine; omega) h r1 r2 j (by simpa using a1) (by simpa using a2)
    rw [all_true fun _ => rfl] at this
    exact this _ _ _ _ ⟨.bl false, H, I, rfl, q⟩
end
theorem r_same {K : PySem.W.Frag} {H : Hp} {Q : VK} {a b : Addr} {r : Bool} (h : SameD K H 60 (.ref a) (.ref b)) (q : Q (.bl r) H) : rSame K r (.ref a) (.ref b) H Q := ⟨a, b, rfl, rfl, h, q⟩
theorem hu60 {A : Around} {k : Nat} (hr : Room k A) : A.units + 60 < cLine := by have := hr.units; omega
end L2
end

section
set_option Elab.async false
set_option linter.all false
set_option maxRecDepth 100000
set_option maxHeartbeats 4000000
/-! Lists of flat things compared. -/
namespace L2
open PySem PySem.Spec PyProof.Rows
section
variable {X : Cx} {pins : List (Addr × Obj)} {σ : St} {H : Hp} {s : Shared}
end
section
variable {X : Cx}
end
end L2
end

section
set_option Elab.async false
set_option linter.all false
set_option maxRecDepth 100000
set_option maxHeartbeats 4000000
/-! range downwards; list.index of ints. -/
namespace L2
open PySem PySem.Spec PyProof.Rows
section
variable {X : Cx} {tg : Expr}
end
end L2
end

section
set_option Elab.async false
set_option linter.all false
set_option maxRecDepth 100000
set_option maxHeartbeats 4000000
/-! sorted of fewer than 64 texts. -/
namespace L2
open PySem PySem.Spec PyProof.Rows
section
variable {X : Cx}
end
end L2
end

section
set_option Elab.async false
set_option linter.all false
set_option maxRecDepth 100000
set_option maxHeartbeats 4000000
/-! My own rules behind the layer: any slice of a tuple, ints of the top, small readings. -/
namespace L2
open PySem PySem.Spec PyProof.Rows
section
variable {prog : Program} {w : World} {A : Around} {E : Value → Shared → Prop} {s : Shared}
end
section
variable {X : Cx}
end
section
variable {σ : St} {H : Hp} {D : Ends} {Q : VK} {te : TE} {QB : Bool → Hp → Prop} {tA : TA}
theorem r_bm0 {K : PySem.W.Frag} {T : String} {r : V → List V → Hp → VK → Prop} (h : te σ H fun x H1 => tyV K T x H1 ∧ r x [] H1 Q) : tBM0 K T r te σ H Q := h
end
theorem iteNT {A B : Prop} (h : B) : if (!true) = true then A else B := by
  rw [if_neg (by decide)]
  exact h
theorem iteNF {A B : Prop} (h : A) : if (!false) = true then A else B := by
  rw [if_pos (by decide)]
  exact h
/-! ### heaps that differ at one place -/
def SameBut (x : Addr) (H H' : Hp) : Prop := ∀ b o, b ≠ x → H b = some o → H' b = some o
theorem Same.but {H H' : Hp} {x : Addr} (h : Same H H') : SameBut x H H' := fun b o _ e => h b o e
theorem SameBut.trans {H H1 H2 : Hp} {x : Addr} (a : SameBut x H H1) (b : SameBut x H1 H2) : SameBut x H H2 := fun c o n h => b c o n (a c o n h)
theorem sameBut_upd {H : Hp} {x : Addr} {o : HO} : SameBut x H (upd H x o) := fun b u n e => by rw [upd_ne n]; exact e
end L2
end

section
set_option Elab.async false
set_option linter.all false
set_option maxRecDepth 100000
set_option maxHeartbeats 4000000
/-! Comprehensions whose items are new things. -/
namespace L2
open PySem PySem.Spec PyProof.Rows
end L2
end

section
set_option Elab.async false
set_option linter.all false
set_option maxRecDepth 100000
set_option maxHeartbeats 4000000
/-! min and max of a list of ints, with and without a default; abs. -/
namespace L2
open PySem PySem.Spec PyProof.Rows
theorem b_abs : bootBuiltins "abs" = some (.builtin "abs") := by decide +kernel
section
variable {X : Cx}
end
/-! ### with a default -/
section
variable {prog : Program} {w : World} {A : Around} {R : Result → Shared → Prop} {I S : Addr} {fp wr : List Addr} {n : Nat} {P : Nat → Value → Prop} {St : Nat → Heap → Prop} {d : Value}
end
section
variable {prog : Program} {w : World} {A : Around} {E : Value → Shared → Prop} {s : Shared}
end
section
variable {X : Cx} {x : Str} {p pos : Pos} {e : Expr} {es : List Expr} {kws : List Keyword} {t tk : TA} {id : String} {ks : List Str}
end
end L2
namespace L2
open PySem PySem.Spec PyProof.Rows
end L2
end

section
set_option Elab.async false
set_option linter.all false
set_option maxRecDepth 100000
set_option maxHeartbeats 4000000
/-! What flies keeps its dict. -/
namespace L2
open PySem PySem.Spec PyProof.Rows
/-- a tree that calls nothing and changes no object's dict -/
def Kd {α : Type} : Sem α → Prop
  | .pure _ => True
  | .raise _ => True
  | .unsupported _ => True
  | .finish _ => True
  | .rule _ k => Kd (k ())
  | .at _ k => Kd (k ())
  | .load _ _ k => ∀ o, Kd (k o)
  | .update _ _ f k => (∀ o, (f o).dict = o.dict ∧ (f o).isFreed = o.isFreed) ∧ Kd (k ())
  | .alloc _ k => ∀ a, Kd (k a)
  | .loadIfAlive _ k => ∀ o, Kd (k o)
  | .point _ k => Kd (k ())
  | .fresh k => ∀ t, Kd (k t)
  | .ask k => ∀ x, Kd (k x)
  | .stack k => ∀ x, Kd (k x)
  | .handled _ k => ∀ x, Kd (k x)
  | .thread k => ∀ x, Kd (k x)
  | _ => False
theorem Kd.bind {α β : Type} {m : Sem α} {f : α → Sem β} (h : Kd m) (hf : ∀ a, Kd (f a)) : Kd (m >>= f) := by
  show Kd (m.bind f)
  induction m <;> first | exact hf _ | exact h.elim | exact trivial | skip
  all_goals (rename_i ih; first | exact ih _ h | exact fun o => ih o (h o) | exact ⟨h.1, ih _ h.2⟩)
def DictK (h h' : Heap) : Prop := ∀ b o, h.get? b = some o → ∃ o', h'.get? b = some o' ∧ o'.dict = o.dict
theorem DictK.refl (h : Heap) : DictK h h := fun _ o e => ⟨o, e, rfl⟩
theorem DictK.trans {h1 h2 h3 : Heap} (a : DictK h1 h2) (b : DictK h2 h3) : DictK h1 h3 := fun x o e => by
  obtain ⟨o1, e1, d1⟩ := a x o e
  obtain ⟨o2, e2, d2⟩ := b x o1 e1
  exact ⟨o2, e2, d2.trans d1⟩
theorem dictK_push (h : Heap) (o : Obj) : DictK h (h.push o) := fun _ u e => ⟨u, Heap.get?_push_of_some _ e, rfl⟩
theorem dictK_upd {h : Heap} {a : Addr} {f : Obj → Obj} (hf : ∀ o, (f o).dict = o.dict ∧ (f o).isFreed = o.isFreed) : DictK h (h.update a f) := fun b o e => by
  by_cases hb : b = a
  · subst hb
    have fr := (Heap.get?_some_iff.mp e).2
    exact ⟨f o, Heap.get?_update_self f e (by rw [(hf o).2]; exact fr), (hf o).1⟩
  · exact ⟨o, (Heap.get?_update_other _ _ (Ne.symm hb)).trans e, rfl⟩
theorem kd_wp {α : Type} {M : Model} {Γ : PySem.Ctx} {m : Sem α} : ∀ {Q : α → Pos → Shared → Prop} {E : Value → Pos → Shared → Prop} {p : Pos} {s : Shared}, Kd m → Sem.wp M Γ m Q E p s → Sem.wp M Γ m (fun a p' s' => Q a p' s' ∧ DictK s.heap s'.heap) E p s := by
  induction m with
  | pure x => exact fun _ h => ⟨h, DictK.refl _⟩
  | raise v => exact fun _ h => h
  | unsupported => exact fun _ h => h
  | finish => exact fun _ h => h
  | rule _ k ih => exact fun q h => ih _ q h
  | «at» _ k ih => exact fun q h => ih _ q h
  | load a _ k ih =>
    intro Q E p s q h
    obtain ⟨o, ho, h⟩ := h
    exact ⟨o, ho, ih o (q o) h⟩
  | update a _ f k ih =>
    intro Q E p s q h
    obtain ⟨ha, h⟩ := h
    exact ⟨ha, Sem.wp_mono _ _ _ (fun _ _ _ z => ⟨z.1, (dictK_upd q.1).trans z.2⟩) (fun _ _ _ z => z) _ _ (ih _ q.2 h)⟩
  | alloc o k ih =>
    intro Q E p s q h
    exact Sem.wp_mono _ _ _ (fun _ _ _ z => ⟨z.1, (dictK_push _ o).trans z.2⟩) (fun _ _ _ z => z) _ _ (ih _ (q _) h)
  | loadIfAlive _ k ih => exact fun q h => ih _ (q _) h
  | point _ k ih => exact fun q h => ih _ q h
  | fresh k ih => exact fun q h => ih _ (q _) h
  | ask k ih => exact fun q h => ih _ (q _) h
  | stack k ih => exact fun q h => ih _ (q _) h
  | handled _ k ih => exact fun q h => ih _ (q _) h
  | thread k ih => exact fun q h => ih _ (q _) h
  | _ => exact fun q => q.elim
theorem kd_any {α : Type} {M : Model} {A : Around} {m : Sem α} {Q : α → Shared → Prop} {E : Value → Shared → Prop} {s : Shared} (q : Kd m) (h : wpAny M A m Q E s) : wpAny M A m (fun a s' => Q a s' ∧ DictK s.heap s'.heap) E s := fun Γ p hΓ => kd_wp q (h Γ p hΓ)
theorem kd_load (a : Addr) : Kd (load a) := fun _ => trivial
theorem kd_fieldsOf (v : Value) : Kd (fieldsOf v) := by
  unfold fieldsOf
  split
  · exact Kd.bind (kd_load _) fun o => by split <;> exact trivial
  · exact trivial
theorem kd_field (v : Value) (i : Nat) : Kd (field v i) := Kd.bind (kd_fieldsOf v) fun a => by split <;> exact trivial
theorem kd_mapF (f : Array Value → Array Value) (o : Obj) : (Obj.mapFields f o).dict = o.dict ∧ (Obj.mapFields f o).isFreed = o.isFreed := by
  obtain ⟨c, d, dt, sl⟩ := o
  cases dt <;> exact ⟨rfl, rfl⟩
theorem kd_setField (v : Value) (i : Nat) (x : Value) : Kd (setField v i x) := by
  unfold setField
  split
  · unfold updateField
    refine Kd.bind (kd_load _) fun o => ?_
    split
    · split
      · exact ⟨kd_mapF _, trivial⟩
      · exact trivial
    · exact trivial
  · exact trivial
theorem kd_setFlight (e : Value) (f : Option Addr) : Kd (setFlight e f) := by
  unfold setFlight
  refine Kd.bind (kd_field _ _) fun tb => ?_
  split
  · exact kd_setField _ _ _
  · exact trivial
theorem kd_ready : ∀ l : List Env, Kd (readyFrames l)
  | [] => trivial
  | env :: outer => by
    unfold readyFrames
    split
    · rename_i f hf
      refine Kd.bind (kd_load _) fun o => ?_
      split
      · exact trivial
      · refine Kd.bind ?_ fun i => Kd.bind ?_ fun b => ⟨fun o => ?_, kd_ready outer⟩
        · unfold behindIsImport
          split
          · exact trivial
          · split
            · exact trivial
            · exact Kd.bind (kd_field _ _) fun _ => trivial
        · unfold keptBack
          split
          · split
            · exact trivial
            · refine Kd.bind ?_ fun _ => trivial
              unfold underTheClaimsCaller
              exact fun _ => trivial
          · exact trivial
        · obtain ⟨c, d, dt, sl⟩ := o
          cases dt <;> exact ⟨rfl, rfl⟩
    · exact trivial
theorem kd_frameOf (env : Env) : Kd (PySem.frameOf env) := by
  unfold PySem.frameOf
  refine Kd.bind (fun _ => trivial) fun l => Kd.bind ?_ fun o => ?_
  · unfold frameObject
    split
    · exact trivial
    · exact Kd.bind (kd_ready _) fun _ => trivial
  · split <;> exact trivial
theorem kd_place (f : Addr) (b : Bool) : Kd (entryPlaceOf f b) := by
  unfold entryPlaceOf
  refine Kd.bind (fun _ => trivial) fun l => ?_
  split <;> exact trivial
theorem kd_entry (a b c d e : Value) (l : List Value) : Kd (EntryCells.newEntry a b c d e l) := by
  unfold EntryCells.newEntry newFields
  generalize ([a, b, c, d, e] ++ if l.isEmpty = true then List.replicate 6 Value.none else l).toArray = vs
  unfold newObj
  dsimp only
  have as_is : Kd (newObjAsIs (.type "traceback") (.fields vs) none) := Kd.bind (m := alloc _) (fun _ => trivial) fun _ => trivial
  split
  · exact Kd.bind (m := unsupported _) trivial fun _ => as_is
  · exact as_is
theorem kd_note (e : Value) (env : Env) : Kd (noteFrame e env) := by
  unfold noteFrame
  have jp : ∀ (f : Addr) (head : Value), Kd (do
      let a ← PySem.frameOf env
      let b ← entryPlaceOf f (head != Value.none)
      let c ← EntryCells.newEntry head a Value.none (rawInt ↑f) Value.none b
      setField e 1 c) := fun f head => Kd.bind (kd_frameOf _) fun _ => Kd.bind (kd_place _ _) fun _ => Kd.bind (kd_entry _ _ _ _ _ _) fun _ => kd_setField _ _ _
  split
  · refine Kd.bind (kd_field _ _) fun head => ?_
    dsimp only
    split
    · refine Kd.bind (kd_field _ _) fun v => ?_
      split
      · exact trivial
      · exact Kd.bind (kd_setField _ _ _) fun _ => jp _ _
    · exact jp _ _
  · exact trivial
theorem kd_leaving (e : Value) (env : Env) : Kd (leaving env e) := Kd.bind (kd_note _ _) fun _ => kd_setFlight _ _
end L2
end

section
set_option Elab.async false
set_option linter.all false
set_option maxRecDepth 100000
set_option maxHeartbeats 4000000
/-! Exceptions that carry their dict: raised, passed on, caught. -/
namespace L2
open PySem PySem.Spec PyProof.Rows
/-! ### flights with the dict -/
def FlyD (B : Heap) (l : List Env) (e : Addr) (cls a0 : Value) (od : Option Addr) (h : Heap) : Prop := Heap.FlyingW B l e cls a0 h ∧ ∃ o, h.get? e = some o ∧ o.dict = od
theorem FlyD.first {B h : Heap} {l : List Env} {e : Addr} {cls a0 : Value} {od : Option Addr} (x : FlyD B l e cls a0 od h) : ∃ oe vs, h.get? e = some oe ∧ oe.cls = cls ∧ oe.data = .fields vs ∧ oe.dict = od := by
  obtain ⟨f, o, ho, hd⟩ := x
  obtain ⟨oe, vs, he, hc, hv, _⟩ := f.first
  rw [ho] at he
  cases he
  exact ⟨o, vs, ho, hc, hv, hd⟩
section
variable {M : Model} {A : Around} {E : Value → Shared → Prop} {s : Shared} {B : Heap} {env : Env} {outer l : List Env} {L e : Addr} {cls a0 : Value} {od : Option Addr} {Q : Unit → Shared → Prop}
theorem dict_on {h h' : Heap} (k : DictK h h') (x : ∃ o, h.get? e = some o ∧ o.dict = od) : ∃ o, h'.get? e = some o ∧ o.dict = od := by
  obtain ⟨o, ho, hd⟩ := x
  obtain ⟨o2, ho2, hd2⟩ := k e o ho
  exact ⟨o2, ho2, hd2.trans hd⟩
theorem leaves_onD (hfr : A.frames = some (env :: outer)) (hf : env.frame = some L) (fl : FlyD B (env :: outer) e cls a0 od s.heap) (q : ∀ h', FlyD B outer e cls a0 od h' → s.heap.UpToSlots h' → Q () { s with heap := h' }) : wpAny M A (leaving env (.ref e)) Q E s := by
  refine wpAny_mono (kd_any (kd_leaving _ _) (wpAny_leaves_onW (Q := fun _ s' => ∃ h', s' = { s with heap := h' } ∧ Heap.FlyingW B outer e cls a0 h' ∧ s.heap.UpToSlots h') hfr hf fl.1 fun h' f u => ⟨h', rfl, f, u⟩)) (fun _ s' z => ?_) fun _ _ z => z
  obtain ⟨⟨h', rfl, f, u⟩, k⟩ := z
  exact q h' ⟨f, dict_on k fl.2⟩ u
end
end L2
namespace L2
open PySem PySem.Spec PyProof.Rows
/-- an exception of a class of the text lies behind a call: e is new, so is all that is neither kept in B, nor a frame; B stays -/
structure Flies (outer : List Env) (H' : Hp) (h h' : Heap) (e C : Addr) (od : Option Addr) : Prop where
  new : h.get? e = none
  unt : H' e = none
  fly : ∃ a0 B, FlyD B outer e (.ref C) a0 od h' ∧ ∀ b o, h'.get? b = some o → B.get? b = none → b = e ∨ b ∈ frs outer ∨ (h.get? b = none ∧ H' b = none)
theorem ObjOk.there {P : Program} {w : World} {H : Hp} {h : Heap} {a : Addr} {o : HO} (x : ObjOk P w H h a o) : ∃ ob, h.get? a = some ob := by
  cases o with
  | lst xs => obtain ⟨_, _, _, _, e⟩ := x; exact ⟨_, e⟩
  | tup xs => obtain ⟨_, _, _, o, e, _⟩ := x; exact ⟨_, e⟩
  | dK kvs => obtain ⟨_, _, _, _, o, _, _, e, _⟩ := x; exact ⟨_, e⟩
  | dT kvs => obtain ⟨_, _, _, _, o, _, _, e, _⟩ := x; exact ⟨_, e⟩
  | set S n => obtain ⟨o, _, _, _, e, _⟩ := x; exact ⟨_, e⟩
  | ins C dx fs => obtain ⟨_, _, _, e, _⟩ := x; exact ⟨_, e⟩
  | own y => exact x
  | xd fs => obtain ⟨_, ⟨_, _, _, e, _⟩, _⟩ := x; exact ⟨_, e⟩
  | rng lo hi => obtain ⟨_, _, _, e⟩ := x; exact ⟨_, e⟩
  | frz ob u => obtain ⟨e, _⟩ := x; exact ⟨_, e⟩
  | tbl ps => exact ⟨_, (show h.get? a = some _ from x)⟩
  | met f y => exact ⟨_, (show h.get? a = some _ from x)⟩
  | ext φ => obtain ⟨_, e, _⟩ := x; exact e
def CXE (P : Program) (w : World) : CXT := fun outer H s E ex s' => ∃ e C od H', ex = .ref e ∧ s'.os = s.os ∧ AllBare s'.gens ∧ Un (frs outer) [] H H' s.heap s'.heap ∧ HOk P w H' s'.heap ∧ (∀ b ∈ frs outer, H' b = none) ∧ Flies outer H' s.heap s'.heap e C od ∧ E (.ref C) od H'
/-- what changes the frames' slots, the exception and new untracked things alone keeps the heap's promise -/
theorem hok_fly {P : Program} {w : World} {H : Hp} {h h' : Heap} {B : Heap} {outer : List Env} {e : Addr} {n : Heap} (ok : HOk P w H h) (st : B.StaysIn h') (he : H e = none) (hf : ∀ b ∈ frs outer, H b = none)
    (hB : ∀ b o, h.get? b = some o → B.get? b = none → b = e ∨ b ∈ frs outer ∨ (n.get? b = none ∧ H b = none)) (hBh : ∀ b o, B.get? b = some o → h.get? b = some o) : HOk P w H h' := fun a u ea => by
  have tr : ∀ b v, H b = some v → ∀ o, h.get? b = some o → h'.get? b = some o := fun b v ev o eo => by
    cases q : B.get? b with
    | some o' =>
      have := hBh b o' q
      rw [eo] at this
      cases this
      exact st b o q
    | none =>
      rcases hB b o eo q with z | z | z
      · rw [z, he] at ev; cases ev
      · rw [hf b z] at ev; cases ev
      · rw [z.2] at ev; cases ev
  refine (ok a u ea).stay (fun b o hb q => ?_) (fun _ q => q) fun _ _ q => q
  rcases hb with z | z
  · subst z; exact tr b u ea o q
  · exact tr b _ z o q
section
variable {P : Program} {w : World} {K : PySem.W.Frag} {mg : Str → Option Value} {base : Heap} {N : List Str} {qual : Str} {scope : Scope} {f : Addr} {cd : Value} {A : Around} {outer : List Env} {s₀ : Shared} {H₀ : Hp} {E : XK}
/-- out of a def's frame -/
theorem fly_out {pins : List (Addr × Obj)} {σ : St} {H H' : Hp} {s : Shared} {e C : Addr} {od : Option Addr} {a0 : Value} {B h1 h2 : Heap} {g : Array GenState} {d : Drawn} {t : Nat} {CX : CXT} (I : Inv (cxOf CX P w K mg base N qual scope f cd A outer s₀ H₀ E) pins σ H s)
    (un : Un (frs (cxOf CX P w K mg base N qual scope f cd A outer s₀ H₀ E).stack) [] H H' s.heap h1) (hok : HOk P w H' h1) (hfr : ∀ b ∈ frs (cxOf CX P w K mg base N qual scope f cd A outer s₀ H₀ E).stack, H' b = none) (hg : AllBare g)
    (hn : s.heap.get? e = none) (hu : H' e = none) (hB : ∀ b o, h1.get? b = some o → B.get? b = none → b = e ∨ b ∈ frs (cxOf CX P w K mg base N qual scope f cd A outer s₀ H₀ E).stack ∨ (s.heap.get? b = none ∧ H' b = none)) (hBh : B.StaysIn h1)
    (fl : FlyD B outer e (.ref C) a0 od h2) (up : h1.UpToSlots h2) (q : E (.ref C) od H') : CXE P w outer H₀ s₀ E (.ref e) { s with heap := h2, gens := g, drawn := d, toks := t } := by
  have hBst : B.StaysIn h2 := fl.1.1
  have st : ∀ b, b ∈ frs (cxOf CX P w K mg base N qual scope f cd A outer s₀ H₀ E).stack → b = s₀.heap.objs.size ∨ b ∈ frs outer := fun b hb => by
    rcases List.mem_cons.mp (I.stkSub b hb) with z | z
    · exact .inl z
    · exact .inr z
  have so : ∀ b, b ∈ frs outer → b ∈ frs (cxOf CX P w K mg base N qual scope f cd A outer s₀ H₀ E).stack := fun b hb => List.mem_cons_of_mem _ hb
  have neL : ∀ b o, s₀.heap.get? b = some o → b ≠ s₀.heap.objs.size := fun b o z => Nat.ne_of_lt (Heap.lt_size z)
  have inS : ∀ b o, s₀.heap.get? b = some o → ∃ o', s.heap.get? b = some o' := fun b o z => I.base.there b o z (by intro y; cases y)
  have in1 : ∀ b o, s.heap.get? b = some o → ∃ o', h1.get? b = some o' := fun b o z => un.there b o z (by simp)
  have fz : ∀ b ∈ frs (cxOf CX P w K mg base N qual scope f cd A outer s₀ H₀ E).stack, ∀ o, h1.get? b = some o → ∃ sl, h2.get? b = some { o with slots := sl } := fun b hb o z => by
    refine up b o z fun vs y => ?_
    obtain ⟨_, o', ho', hd⟩ := I.stack.mem hb
    obtain ⟨sl, z2⟩ := un.any ho' (I.stkFree b hb) (by simp)
    rw [z] at z2
    cases z2
    exact hd vs y
  have keep1 : ∀ b o, s.heap.get? b = some o → h1.get? b = some o → b ∉ frs (cxOf CX P w K mg base N qual scope f cd A outer s₀ H₀ E).stack → h2.get? b = some o := fun b o z z1 nf => by
    cases y : B.get? b with
    | some o' =>
      have := hBh b o' y
      rw [z1] at this
      cases this
      exact hBst b o y
    | none =>
      rcases hB b o z1 y with r | r | r
      · rw [r, hn] at z; cases z
      · exact absurd r nf
      · rw [r.1] at z; cases z
  refine ⟨e, C, od, H', rfl, I.os, hg, ⟨fun b o z n nf _ => ?_, fun b o z n nf _ => ?_, fun b o z n _ => ?_, fun b o z _ => ?_, fun b xs z => un.tups b xs (I.base.tups b xs z), fun b o u z => un.frzs b o u (I.base.frzs b o u z), fun b ps z => ?_⟩, ?_, fun b hb => hfr b (so b hb), ⟨?_, hu, a0, B, fl, fun b o z y => ?_⟩, q⟩
  · have z1 := I.base.keep b o z n nf (by intro y; cases y)
    have n1 := I.base.free b o z n (by intro y; cases y)
    have nf1 : b ∉ frs (cxOf CX P w K mg base N qual scope f cd A outer s₀ H₀ E).stack := fun y => (st b y).elim (neL b o z) nf
    exact keep1 b o z1 (un.keep b o z1 n1 nf1 (by simp)) nf1
  · obtain ⟨sl, z1⟩ := I.base.slot b o z n nf (by intro y; cases y)
    have n1 := I.base.free b o z n (by intro y; cases y)
    obtain ⟨sl2, z2⟩ := un.any z1 n1 (by simp)
    obtain ⟨sl3, z3⟩ := fz b (so b nf) _ z2
    exact ⟨sl3, z3⟩
  · obtain ⟨o', z1⟩ := inS b o z
    exact un.free b o' z1 (I.base.free b o z n (by intro y; cases y)) (by simp)
  · obtain ⟨o1, z1⟩ := inS b o z
    obtain ⟨o2, z2⟩ := in1 b o1 z1
    cases y : B.get? b with
    | some o' => exact ⟨o', hBst b o' y⟩
    | none =>
      rcases hB b o2 z2 y with r | r | r
      · rw [r, hn] at z1; cases z1
      · obtain ⟨sl, z3⟩ := fz b r o2 z2
        exact ⟨_, z3⟩
      · rw [r.1] at z1; cases z1
  · obtain ⟨m1, e1⟩ := I.base.tbls b ps z
    obtain ⟨m2, e2⟩ := un.tbls b _ e1
    exact ⟨m1 ++ m2, by rw [e2, Array.append_assoc]⟩
  · exact hok_fly (n := s.heap) (e := e) (outer := (cxOf CX P w K mg base N qual scope f cd A outer s₀ H₀ E).stack) hok hBst hu hfr hB hBh
  · cases y : s₀.heap.get? e with
    | none => rfl
    | some o =>
      obtain ⟨o', z⟩ := inS e o y
      rw [hn] at z; cases z
  · cases y1 : h1.get? b with
    | none =>
      refine .inr (.inr ⟨?_, ?_⟩)
      · cases y2 : s₀.heap.get? b with
        | none => rfl
        | some o0 =>
          obtain ⟨o1, z1⟩ := inS b o0 y2
          obtain ⟨o2, z2⟩ := in1 b o1 z1
          rw [y1] at z2; cases z2
      · cases y2 : H' b with
        | none => rfl
        | some v =>
          have := (hok b v y2).there
          obtain ⟨o2, z2⟩ := this
          rw [y1] at z2; cases z2
    | some o1 =>
      rcases hB b o1 y1 y with r | r | r
      · exact .inl r
      · rcases st b r with r2 | r2
        · refine .inr (.inr ⟨?_, hfr b r⟩)
          cases y2 : s₀.heap.get? b with
          | none => rfl
          | some o0 => exact absurd r2 (neL b o0 y2)
        · exact .inr (.inl r2)
      · refine .inr (.inr ⟨?_, r.2⟩)
        cases y2 : s₀.heap.get? b with
        | none => rfl
        | some o0 =>
          obtain ⟨o1, z1⟩ := inS b o0 y2
          rw [r.1] at z1; cases z1
/-- a callee's exception passes on -/
theorem pass_on {CX : CXT} (hCX : CX = CXE P w) : Passes (CXE P w) (cxOf CX P w K mg base N qual scope f cd A outer s₀ H₀ E) E := by
  subst hCX
  intro pins σ H s ex s' I h
  obtain ⟨e, C, od, H', rfl, ho, hg, un, hok, hfr, ⟨hn, hu, a0, B, fl, hB⟩, q⟩ := h
  show wpAny (model P w) (A.deeper (envOfC qual scope s₀.heap.objs.size f cd)) (leaving (envOfC qual scope s₀.heap.objs.size f cd) (.ref e)) _ _ s'
  refine leaves_onD (L := s₀.heap.objs.size) I.ok.frames rfl fl fun h2 fl2 up => ?_
  obtain ⟨hp, g, d, t, os⟩ := s'
  have ho : os = s.os := ho
  subst ho
  exact fly_out (s := s) (g := g) (d := d) (t := t) I un hok hfr hg hn hu hB fl.1.1 fl2 up q
end
/-! ### raise C(..), C an own class over ValueError without an __init__ -/
abbrev veMro : List Value := [.type "ValueError", .type "Exception", .type "BaseException", .type "object"]
theorem exc_obj {K : PySem.W.Frag} {h : Heap} {C : Addr} {bB : List Value} {nid : String} (X : K.In h) (q : PySem.W.excIn K C bB nid = true) :
    ∃ bm N nm qn bs hdct sn sub ab col dd k0 k1 k2 k3 k5 mN, h.get? C = some (excClassObj nm qn C N bs bm hdct sn sub ab col dd k0 k1 k2 k3 k5 nid) ∧ h.Ns N mN ∧ mN "__init__" = none ∧ OwnTail h bB bm := by
  unfold PySem.W.excIn at q
  split at q
  case h_2 => exact Bool.noConfusion q
  case h_1 d1 c1 l1 look =>
    split at q
    case h_2 => exact Bool.noConfusion q
    case h_1 C2 m2 r0 r1 r2 r3 nn r5 eqm eqs =>
      simp only [Bool.and_eq_true, beq_iff_eq, Bool.not_eq_true'] at q
      obtain ⟨⟨⟨⟨⟨w1, w2⟩, w3⟩, w4⟩, w5⟩, w6⟩ := q
      subst w1 w2
      obtain ⟨x1, x2, x3, x4, x5, x6, x7, x8, x9, x10, x11⟩ := c1
      dsimp only at eqm w3 w5 w6
      subst eqm w3
      have l2 : l1 = #[r0, r1, r2, r3, some (.builtin nn), r5] := by
        have := congrArg List.toArray eqs
        simpa using this
      subst l2
      exact ⟨m2, x4, x1, x5, x2, x6, x7, x8, x9, x10, d1, r0, r1, r2, r3, r5, h.nsMap x4, X _ _ look, .of_isNs (PySem.W.isNs_of_in X w5), PySem.W.nsMap_none_of_in X w5 w6, PySem.W.tail_of_in X w4⟩
section
variable {P : Program} {w : World} {K : PySem.W.Frag} {mg : Str → Option Value} {base : Heap} {N : List Str} {qual : Str} {scope : Scope} {f : Addr} {cd : Value} {A : Around} {outer : List Env} {s₀ : Shared} {H₀ : Hp} {E : XK}
end
end L2
namespace L2
open PySem PySem.Spec PyProof.Rows
section
variable {X : Cx} {pins : List (Addr × Obj)} {σ : St} {H : Hp} {s : Shared} {A' : Around} {c : Bool} {xe' : Value → Shared → Prop}
end
/-! ### where an exception lands -/
section
variable {X : Cx} {pins : List (Addr × Obj)} {σ : St} {H H' : Hp} {s s' : Shared} {e C : Addr} {B h1 h2 : Heap}
end
def PSAt (X : Cx) (pins : List (Addr × Obj)) (σ : St) (st : Stmt) (t : TS) : Prop := ∀ (s : Shared) (H : Hp) (D : Ends), Inv X pins σ H s → t D σ H → wpAny (model X.prog X.w) X.A (exec st X.env) (SP X pins D) X.xe s
def PEAt (X : Cx) (pins : List (Addr × Obj)) (σ : St) (e : Expr) (t : TE) : Prop := ∀ (s : Shared) (H : Hp) (Q : VK), Inv X pins σ H s → t σ H Q → wpAny (model X.prog X.w) X.A (eval e X.env) (EP X pins σ Q) X.xe s
section
variable {X : Cx} {pins : List (Addr × Obj)} {σ : St} {pos : Pos} {e : Expr} {te : TE} {t u : TS}
theorem PE.at (h : PE X e te) : PEAt X pins σ e te := fun s H Q I q => h pins s σ H Q I q
theorem PS.at {st : Stmt} (h : PS X st t) : PSAt X pins σ st t := fun s H D I q => h pins s σ H D I q
end
/-! ### callees that refuse -/
theorem passE0 {P : Program} {w : World} {X : Cx} : Passes (CXE P w) X E0 := fun _ _ _ _ _ _ _ h => by
  obtain ⟨_, _, _, _, _, _, _, _, _, _, _, z⟩ := h
  exact z.elim
structure CalE (P : Program) (w : World) (K : PySem.W.Frag) (mg : Str → Option Value) (base : Heap) (name : Str) (k : Nat) (ps : List Str) (sp : Sp) : Prop where
  ex : ∃ (f : Addr) (fd : FuncData), FnOk P w K mg base (CXE P w) k f fd ps sp ∧ Binds K fd ps [] ∧ mg name = some (.ref f) ∧ PySem.W.keepIn K (.ref f) = true
structure MkrE (P : Program) (w : World) (K : PySem.W.Frag) (mg : Str → Option Value) (base : Heap) (name : Str) (C : Addr) (k : Nat) (ps : List Str) (sp : Sp) : Prop where
  ex : ∃ (f : Addr) (fd : FuncData), FnOk P w K mg base (CXE P w) k f fd ps sp ∧ Binds K fd ps [] ∧ Mk K C f ∧ mg name = some (.ref C)
section
variable {X : Cx} {k : Nat} {C : Addr} {ps : List Str} {sp : Sp} {name m : Str} {p pos apos : Pos} {e o : Expr} {es : List Expr} {ta : TE} {t : TA} {pl : Sem Bool} {E : XK} {pins : List (Addr × Obj)} {σ : St} {CX : CXT} {f : Addr} {fd : FuncData}
theorem pe_fnE (C : CalE X.prog X.w X.K X.mg X.base name k ps sp) (hr : Room k X.A) (hx : Passes (CXE X.prog X.w) X E) (ha : PA X (e :: es) t) (hg : Gl X name := by rfl) (hdb : (name == ("__debug__" : Str)) = false := by decide)
    (he : starEach (e :: es) X.env = (false, eval e X.env) :: starEach es X.env := by rfl) (hpl : (backTo pos (starEach es X.env)).any (·.1) = false := by rfl) : PE X (.Call (.Name name p) (e :: es) [] pos) (tCall sp [] E t) := by
  obtain ⟨f, fd, F, b, hm, hk⟩ := C.ex
  exact pe_call F hr hg hm hk b .nil hx ha hdb he hpl
theorem pe_mkE (M : MkrE X.prog X.w X.K X.mg X.base name C k ps sp) (hr : Room (k + 1) X.A) (hx : Passes (CXE X.prog X.w) X E) (ha : PA X (e :: es) t) (hg : Gl X name := by rfl) (hdb : (name == ("__debug__" : Str)) = false := by decide)
    (he : starEach (e :: es) X.env = (false, eval e X.env) :: starEach es X.env := by rfl) (hpl : (backTo pos (starEach es X.env)).any (·.1) = false := by rfl) : PE X (.Call (.Name name p) (e :: es) [] pos) (tMake C sp [] E t) := by
  obtain ⟨f, fd, F, b, M, hm⟩ := M.ex
  exact pe_make M F hr hg hm b .nil hx ha hdb he hpl
end
section
variable {X : Cx} {k : Nat} {C : Addr} {ps : List Str} {sp : Sp} {name : Str} {p pos : Pos} {e : Expr} {es : List Expr} {t : TA} {E : XK} {pins : List (Addr × Obj)} {σ : St}
end
section
variable {X : Cx} {i : Nat} {n x : Str} {C0 : Value} {np hpos pos : Pos} {body suite : List Stmt} {b0 : Stmt} {tb : XK → TS} {th : TS}
end
/-! ### a def that may refuse -/
section
variable {P : Program} {w : World} {K : PySem.W.Frag} {mg : Str → Option Value} {base : Heap}
theorem Fun.okE {x qual : Str} {st : Stmt} {f : Addr} {fd : FuncData} {N ps : List Str} {k : Nat} {sp : Sp} (F : Fun K x qual st f fd) (S : FnScope N ps (defScope st)) (len : ∀ vs H Q E, sp vs H Q E → vs.length = ps.length)
    (hbody : ∀ (cdv : Value) (A : Around) (outer : List Env) (s : Shared) (H : Hp) (vs : List V) (Q : VK) (E : XK), Room k (A.deeper (envOfC qual (defScope st) s.heap.objs.size f cdv)) → sp vs H Q E →
      ∃ t, PSs (cxOf (CXE P w) P w K mg base N qual (defScope st) f cdv A outer s H E) (defBody st) t ∧ t { nx := fun _ H' => Q .non H', rt := Q } (start N vs) H) : FnOk P w K mg base (CXE P w) (k + 1) f fd ps sp := by
  obtain ⟨oc, od, kV, doc, pm, an, cdv, ct, osl, rfl, lk, hcd⟩ := F.ex
  exact fn_of lk hcd S len fun A outer s H vs Q E hr hsp => hbody cdv A outer s H vs Q E hr hsp
end
/-! ### a def that is called within an except suite -/
structure RoomU (k : Nat) (A : Around) : Prop where
  dp : A.depth + 3 * k + 5 < recursionLimit
  un : A.units + 16 * k + 200 < cLine
theorem Room.u {k : Nat} {A : Around} (r : Room k A) : RoomU k A := ⟨r.dp, r.un⟩
section
variable {P : Program} {w : World} {K : PySem.W.Frag} {mg : Str → Option Value} {base : Heap}
end
theorem ix_listK (K : PySem.W.Frag) {X : Cx} (h : X.K = K := by rfl) : IxR X (rIxL K) := by
  subst h
  exact ix_list
end L2
namespace L2
open PySem PySem.Spec PySem.W PyProof.Rows Builtin.Getset_descriptor
/-- what an own class over ValueError has -/
structure ExcK (K : PySem.W.Frag) (D : Addr) : Prop where
  ga : findIn K (.ref D) "__getattribute__" = some (some (.builtin "BaseException.__getattribute__"))
  gx : findIn K (.ref D) "__getattr__" = some none
  ca : findIn K (.ref D) "__class__" = some (some (.builtin "object.__class__"))
  sp : specialIn K (.builtin "object.__class__") "__get__" = some (some (.builtin "getset_descriptor.__get__"))
  tk : takesIn K (.builtin "object.__class__") = some true
  mo : mroIn K D (.type "object") = some true
  mb : mroIn K D (.type "BaseException") = some true
theorem ExcK.cl {K : PySem.W.Frag} {D : Addr} (Z : ExcK K D) : (clsIn K D).isSome = true := by
  obtain ⟨cd, a, _⟩ := Option.bind_eq_some_iff.mp Z.mo
  rw [a]
  rfl
section
variable {prog : Program} {w : World} {A : Around} {E : Value → Shared → Prop} {s : Shared} {K : PySem.W.Frag} {x D : Addr} {ox : Obj} {od0 : Option Obj} {od : Option Addr}
end
end L2
namespace L2
open PySem PySem.Spec PyProof.Rows
section
variable {X : Cx}
end
theorem inv_big {X : Cx} {pins : List (Addr × Obj)} {σ : St} {H : Hp} {s : Shared} (I : Inv X pins σ H s) : sysModules < s.heap.objs.size :=
  Nat.lt_trans (by decide) (show mainGlobals < s.heap.objs.size from (I.mod.glob.keeps I.bk).lt)
def tDNew : TE := fun _ H Q => ∀ p, H p = none → Q (.ref p) (upd H p (.dK []))
theorem dict_new {P : Program} {w : World} {H : Hp} (h : Heap) (hb : sysModules < h.objs.size) : ObjOk P w H (h.push { cls := .type "dict", data := .dict #[] }) h.objs.size (.dK []) :=
  ⟨Nat.zero_le _, beq_eq_false_iff_ne.mpr (Ne.symm (Nat.ne_of_lt hb)), [], .nil, Heap.DictOf.new h⟩
theorem pe_dnew {X : Cx} {pos : Pos} : PE X (.Dict [] [] pos) tDNew := fun pins s σ H Q I h =>
  wpAny_Dict_empty ⟨.ref s.heap.objs.size, _, I.laid (a := s.heap.objs.size) (o := .dK []) (t' := s.toks) (fun _ _ q => Heap.get?_push_of_some _ q) (Nat.le_refl _) (dict_new s.heap (inv_big I)), rfl, h _ (I.hok.fresh (Nat.le_refl _))⟩
theorem r_dnew {σ : St} {H : Hp} {Q : VK} (h : ∀ p, H p = none → Q (.ref p) (upd H p (.dK []))) : tDNew σ H Q := h
end L2
end

section
set_option Elab.async false
set_option linter.all false
set_option maxRecDepth 100000
set_option maxHeartbeats 4000000
/-! Own errors over ValueError with an __init__ of their own. -/
namespace L2
open PySem PySem.Spec PySem.W PyProof.Rows
/-- the object of an exception that was made and does not fly -/
abbrev xObj (C t : Addr) (od : Option Addr) : Obj := { cls := .ref C, dict := od, data := .fields #[.ref t, .none, .none, .none, .bool false, .none] }
/-- what an own error C over W with an __init__ at f has -/
structure OwnX (K : PySem.W.Frag) (W C f : Addr) : Prop where
  wex : excIn K W veMro "ValueError.__new__" = true
  ob : ∃ nm qn N bs sn sub ab col dd k0 k1 k2 k3 k5, K.lookup C = some (excClassObj nm qn C N bs (.ref W :: veMro) true sn sub ab col dd k0 k1 k2 k3 k5 "ValueError.__new__")
  ini : findIn K (.ref C) "__init__" = some (some (.ref f))
  fn : typeIn K (.ref f) = some (.type "function")
  sa : findIn K (.ref C) "__setattr__" = some (some (.builtin "object.__setattr__"))
  pl : findIn K (.ref C) "place" = some none
section
variable {prog : Program} {w : World} {A : Around} {E : Value → Shared → Prop} {s : Shared} {K : PySem.W.Frag} {W C f e t : Addr} {od : Option Addr}
theorem own_tail {h : Heap} (X : K.In h) (q : excIn K W veMro "ValueError.__new__" = true) : OwnTail h veMro (.ref W :: veMro) := by
  obtain ⟨bm, N, nm, qn, bs, hdct, sn, sub, ab, col, dd, k0, k1, k2, k3, k5, mN, hC, hN, hni, hT⟩ := exc_obj X q
  exact .own hC hN hni .base
/-- WoodError.__init__(e, text) -/
theorem binit_call {v : Value} {Q : Value → Shared → Prop} (O : OwnX K W C f) (X : K.In s.heap) (he : s.heap.get? e = some (xObj C t od))
    (q : ∀ h' t', (∀ b o, b ≠ e → s.heap.get? b = some o → h'.get? b = some o) → h'.get? e = some (xObj C t' od) → Q .none { s with heap := h' }) : wpAny (model prog w) A (call (.builtin "ValueError.__init__") [.ref e, v]) Q E s := by
  obtain ⟨hh, g, d, tk, os⟩ := s
  obtain ⟨nm, qn, N, bs, sn, sub, ab, col, dd, k0, k1, k2, k3, k5, lk⟩ := O.ob
  have hC := X _ _ lk
  have T := own_tail X O.wex
  have B := PySem.F.excBase_ValueError
  refine wpAny_call (codeAny_call_builtin B.init.plain B.initEntry (wpAny_check_init_subT B T hC he rfl ?_))
  wp_walk
  refine q _ hh.objs.size (fun b o hb z => ?_) ?_
  · exact (Heap.get?_update_other _ _ (Ne.symm hb)).trans (Heap.get?_push_of_some _ z)
  · exact Heap.get?_update_self _ (Heap.get?_push_of_some _ he) rfl
/-- e.place = v -/
theorem own_store {v : Value} {Q : Unit → Shared → Prop} (O : OwnX K W C f) (Z : ExcK K C) (X : K.In s.heap) (he : s.heap.get? e = some (xObj C t none))
    (q : ∀ h' dx tk, (∀ b o, b ≠ e → s.heap.get? b = some o → h'.get? b = some o) → h'.get? e = some (xObj C t (some dx)) → dx ≠ e → s.heap.objs.size ≤ dx → h'.Ns1 dx (fun y => if y = "place" then some v else none) → Q () { s with heap := h', toks := tk }) :
    wpAny (model prog w) A (setAttr (.ref e) "place" v) Q E s := by
  obtain ⟨hh, g, d, tk, os⟩ := s
  have X : K.In hh := X
  have he : hh.get? e = some (xObj C t none) := he
  obtain ⟨nm, qn, N, bs, sn, sub, ab, col, dd, k0, k1, k2, k3, k5, lk⟩ := O.ob
  have SF := PySem.F.store_object
  have J : InstAt hh e (xObj C t none) C none := ⟨he, rfl, rfl, True.intro⟩
  have hc : clsIn K C = some ⟨nm, bs, .ref C :: .ref W :: veMro, N, qn, true, sn, sub, ab, col, false⟩ := by
    unfold clsIn
    rw [lk]
  have isO : Looks (model prog w) hh (isInstance (.ref e) (.type "object")) true := J.type.andThen (looks_mroIn X Z.mo)
  have hm : Looks (model prog w) hh (mroOf (.ref C)) (.ref C :: .ref W :: veMro) := (looks_clsIn X hc).andThen .now
  refine set_plain X J O.sa ?_
  refine codeAny_call_builtin SF.slot.plain SF.entry (@check_slot (model prog w) _ _ ⟨hh, g, d, tk + 1, os⟩ "object.__setattr__" "object" "__setattr__" (.ref e) [.str "place" tk, v] [] _ SF.kind SF.split isO (SF.args (.ref e) (.str "place" tk) v) ?_)
  rw [osa_eq, refuse_eq]
  refine wpAny_bind (wpAny_bind (J.type.here (wpAny_bind (hm.here ?_))))
  rw [refuseLoop_ref, refuseLoop_ref, show refuseLoop (.ref e) "__setattr__" veMro = pure () from PySem.F.store_ValueError.passes _]
  refine wpAny_pure (wpAny_bind (J.type.here (wpAny_bind ((looks_findIn X O.pl).here (wpAny_bind ?_)))))
  refine wpAny_pure ?_
  show wpAny _ _ (Builtin.ObjectAttr.storeInOwnDict (.ref e) (.ref C) (.str "place" tk) "place" v false) _ _ _
  have hcl := X _ _ lk
  have he1 : (hh.push emptyDict).get? e = some (xObj C t none) := Heap.get?_push_of_some _ he
  have hes : e ≠ hh.objs.size := Nat.ne_of_lt (Heap.lt_size he)
  refine wpAny_bind (wpAny_pure (wpAny_bind ?_))
  refine wpAny_bind (wpAny_loadPart he (wpAny_bind ((looks_clsIn X hc).here ?_)))
  show wpAny _ _ (do
    let d ← alloc { cls := Value.type "dict", data := Data.dict #[] }
    update e fun o => { cls := o.cls, dict := some d, data := o.data, slots := o.slots }
    dictMade (.ref C) e d) _ _ _
  refine wpAny_bind (wpAny_alloc' (wpAny_bind (wpAny_update' he1 (wpAny_pure ?_))))
  show wpAny _ _ (Builtin.ObjectAttr.storeInDict hh.objs.size (.str "place" tk) "place" v) _ _ _
  have hd2 : ((hh.push emptyDict).update e fun o => { cls := o.cls, dict := some hh.objs.size, data := o.data, slots := o.slots }).get? hh.objs.size = some emptyDict :=
    (Heap.get?_update_other _ _ hes).trans (Heap.get?_push_size hh rfl)
  have hn2 : ((hh.push emptyDict).update e fun o => { cls := o.cls, dict := some hh.objs.size, data := o.data, slots := o.slots }).Ns hh.objs.size (fun _ => none) := ⟨_, #[], _, hd2, rfl, (fun en hen => absurd hen (by simp)), fun _ => rfl⟩
  have he2 : ((hh.push emptyDict).update e fun o => { cls := o.cls, dict := some hh.objs.size, data := o.data, slots := o.slots }).get? e = some (xObj C t (some hh.objs.size)) := Heap.get?_update_self _ he1 rfl
  have hk2 : ∀ b o, b ≠ e → hh.get? b = some o → ((hh.push emptyDict).update e fun o => { cls := o.cls, dict := some hh.objs.size, data := o.data, slots := o.slots }).get? b = some o := fun b o hb z => (Heap.get?_update_other _ _ (Ne.symm hb)).trans (Heap.get?_push_of_some _ z)
  unfold Builtin.ObjectAttr.storeInDict Builtin.ObjectAttr.newKeyGuard
  refine wpAny_bind (wpAny_pure (wpAny_bind (wpAny_nsSet1 (Heap.Ns1.of_empty hn2) fun h' hn' hs => ?_)))
  obtain ⟨ob1, es1, ep1, at1, da1, ct1⟩ := hn'.count (Within.cons "place" v Within.nil)
  refine wpAny_bind (wpAny_lookBehind at1 (da1 ▸ pastItsLine_dict (Nat.le_trans ct1 (by decide))) ?_)
  refine wpAny_pure ?_
  refine q h' hh.objs.size _ (fun b o hb z => (hs.2 b (Nat.ne_of_lt (Heap.lt_size z))).trans (hk2 b o hb z)) ((hs.2 e hes).trans he2) (Ne.symm hes) (Nat.le_refl _) ?_
  obtain ⟨o', es, ep, e1, e2, e3, eu, e4⟩ := hn'
  exact ⟨o', es, ep, e1, e2, e3, eu, fun y => by rw [e4 y]⟩
/-- C(..): made, then its __init__ -/
theorem own_call {rest : List Value} {Q : Value → Shared → Prop} (O : OwnX K W C f) (X : K.In s.heap) (hr : rest.length ≤ sizeLine)
    (q : ∀ h' e, Heap.MadeExcOf s.heap h' e (.ref C) rest → s.heap.objs.size ≤ e → wpAny (model prog w) (A.under (.builtin "type.__call__" ⟨.ref C :: rest, []⟩)) (call (.ref f) (.ref e :: rest)) (fun r s' => r = .none ∧ Q (.ref e) s') E { s with heap := h' }) :
    wpAny (model prog w) A (call (.ref C) rest) Q E s := by
  obtain ⟨hh, g, d, tk, os⟩ := s
  have X : K.In hh := X
  obtain ⟨nm, qn, N, bs, sn, sub, ab, col, dd, k0, k1, k2, k3, k5, lk⟩ := O.ob
  have hC : hh.get? C = _ := X _ _ lk
  have T := own_tail X O.wex
  have B := PySem.F.excBase_ValueError
  have f1 := tc_lookup
  have f2 := tc_bind (.ref C)
  have tC : (⟨hh, g, d, tk, os⟩ : Shared).TypeIs (.ref C) "type" := ⟨_, hC, rfl⟩
  refine wpAny_call (codeAny_of_tree ?_)
  show wpAny _ _ (callAny (.ref C) _) _ _ _
  repeat (any_goals (first | assumption | with_reducible refine wpAny_loadPart_at hC ?_ | wp_step))
  refine ⟨rfl, codeAny_call_builtin_at (Code.quiet_builtin _ (by decide +kernel)) entry_typeCall (wpAny_check_type_call_sub hC ?_)⟩
  repeat (first | with_reducible refine wpAny_loadPart_at hC ?_ | with_reducible refine wpAny_madeBy_exc hC ?_ | wp_step)
  refine codeAny_call_builtin_code (Code.quiet_builtin _ B.quiet) (wpAny_check_new_subT B T hC (codeAny_exc_new_subT B T hC ?_ hr))
  show wpAny _ _ _ _ _ _
  have hget : ((hh.push { cls := .type "tuple", data := .seq rest.toArray }).push (xObj C hh.objs.size none)).get? (hh.objs.size + 1) = some (xObj C hh.objs.size none) := by heap_get
  have kp : ∀ b o, hh.get? b = some o → ((hh.push { cls := .type "tuple", data := .seq rest.toArray }).push (xObj C hh.objs.size none)).get? b = some o := fun b o z => Heap.get?_push_of_some _ (Heap.get?_push_of_some _ z)
  have hC₁ := kp _ _ hC
  have hcC : (Value.ref C :: .ref W :: veMro).contains (.ref C) = true := by simp
  have X1 : K.In ((hh.push { cls := .type "tuple", data := .seq rest.toArray }).push (xObj C hh.objs.size none)) := fun b o z => kp b o (X b o z)
  have mx : Heap.MadeExcOf hh ((hh.push { cls := .type "tuple", data := .seq rest.toArray }).push (xObj C hh.objs.size none)) (hh.objs.size + 1) (.ref C) rest := by
    refine ⟨kp, Heap.get?_none_of_le (Nat.le_succ _), hh.objs.size, hget, Heap.get?_none_of_le (Nat.le_refl _), ?_⟩
    exact Heap.get?_push_of_some _ (Heap.get?_push_size hh rfl)
  have J : InstAt ((hh.push { cls := .type "tuple", data := .seq rest.toArray }).push (xObj C hh.objs.size none)) (hh.objs.size + 1) (xObj C hh.objs.size none) C none := ⟨hget, rfl, rfl, True.intro⟩
  unfold isInstance
  repeat (first | with_reducible refine wpAny_loadPart_at hget ?_ | (with_reducible refine wpAny_isSubtype_exc hC₁ ?_; rw [hcC]) | wp_step)
  refine wpAny_isSubtype_exc hC₁ ?_
  rw [hcC]
  rw [if_neg (by decide)]
  refine wpAny_bind (wpAny_holding (special_fn X1 J O.ini O.fn ?_))
  refine wpAny_mono (q _ _ mx (Nat.le_succ _)) (fun v s' z => ?_) fun _ _ z => z
  obtain ⟨rfl, z⟩ := z
  exact wpAny_pure z
end
end L2
end

section
set_option Elab.async false
set_option linter.all false
set_option maxRecDepth 100000
set_option maxHeartbeats 4000000
/-! Own errors with an __init__: the rules of the layer. -/
namespace L2
open PySem PySem.Spec PySem.W PyProof.Rows
/-- an exception while its __init__ is at work -/
def IsRaw (e C : Addr) (od : Option Addr) (h : Heap) : Prop := ∃ t, h.get? e = some (xObj C t od)
def rawX (e C : Addr) (od : Option Addr) : HO := .ext (IsRaw e C od)
theorem raw_ok {P : Program} {w : World} {H : Hp} {h : Heap} {e C : Addr} {od : Option Addr} (x : IsRaw e C od h) : ObjOk P w H h e (rawX e C od) :=
  ⟨x, let ⟨_, z⟩ := x; ⟨_, z⟩, fun _ _ ⟨t, z⟩ k => ⟨t, k _ z⟩⟩
structure BaseX (K : PySem.W.Frag) (mg : Str → Option Value) (x : Str) (W : Addr) : Prop where
  at_ : mg x = some (.ref W)
  ga : specialIn K (.ref W) "__getattribute__" = some (some (.builtin "type.__getattribute__"))
  rd : readsIn K W (.type "type") = true
  ini : findCls K (.ref W) (.type "type") "__init__" = some (.val (.builtin "ValueError.__init__"))
theorem upd_id {H : Hp} {e : Addr} {o : HO} (h : H e = some o) : upd H e o = H := by
  funext b
  by_cases hb : b = e
  · subst hb; rw [upd_same, h]
  · rw [upd_ne hb]
section
variable {X : Cx} {x : Str} {W C f : Addr} {np apos pos p1 p2 pos' : Pos} {a o e value : Expr} {as : List Expr} {t : TA} {te ta tv : TE} {pl : Sem Bool}
/-- WoodError.__init__(self, text) -/
def tBinit (K : PySem.W.Frag) (W : Addr) (t : TA) : TE := fun σ H Q => t σ H fun vs H1 => ∃ e C f od z, vs = [.ref e, .str z] ∧ H1 e = some (rawX e C od) ∧ OwnX K W C f ∧ Q .non H1
theorem pe_binit (B : BaseX X.K X.mg x W) (hg : Gl X x) (ha : PA X (a :: as) t) (hdb : (x == ("__debug__" : Str)) = false := by decide)
    (he : backTo pos (starEach (a :: as) X.env) = (false, eval a X.env) :: backTo pos (starEach as X.env) := by rfl) (hpl : (backTo pos (starEach (a :: as) X.env)).any (·.1) = false := by rfl)
    (ht : eval (.Call (.Attribute (.Name x np) "__init__" apos) (a :: as) [] pos) X.env = (do
      let ov ← eval (.Name x np) X.env
      standAt apos.atName
      let (f, first) ← holding [ov] (getMethod ov "__init__" pl)
      callWith pos f first (backTo pos (starEach (a :: as) X.env)) (backToKw pos (keywordEach [] X.env))) := by rfl) :
    PE X (.Call (.Attribute (.Name x np) "__init__" apos) (a :: as) [] pos) (tBinit X.K W t) := by
  intro pins s σ H Q I h
  refine methodCall_KW (ld_glob I hg B.at_ ?_ hdb) ht
  refine method_cls I.kIn B.ga (cls_value I.kIn B.rd B.ini rfl ?_)
  refine Calls.callWith_builtin hpl ?_
  have hs := ha pos pins _ σ H _ (I.tok (s.toks + 1)) h
  rw [he] at hs ⊢
  refine Calls.evalArgs_plain (thn hs fun us s1 ⟨vs, H1, I1, r, e, C, f, od, z, ev, hx, O, q⟩ => ?_)
  subst ev
  obtain ⟨u, u2, rfl, ru, ru2⟩ := vals2 r
  obtain rfl : u = Value.ref e := ru
  obtain ⟨⟨t0, h0⟩, _, _⟩ := (show ObjOk X.prog X.w H1 s1.heap e (rawX e C od) from I1.hok e _ hx)
  refine binit_call O I1.kIn h0 fun h' t' hk he' => ⟨.non, H1, ?_, rfl, q⟩
  have z := I1.write (x := e) (e := e) (o := rawX e C od) (h' := h') (t' := s1.toks) (by rw [hx]; exact True.intro) (.inl rfl) hk ⟨_, he'⟩ (raw_ok ⟨t', he'⟩)
  rw [upd_id hx] at z
  exact z
/-- a text with one number in it -/
def tFstr (te : TE) : TE := fun σ H Q => te σ H fun v H1 => ∃ i : Int, v = .int i ∧ i.natAbs < 10 ^ 12 ∧ ∀ z, Q (.str z) H1
theorem log_small {n : Nat} (h : n < 10 ^ 12) : n.log2 < 1920 := by
  have : n.log2 < 40 := by
    by_cases h0 : n = 0
    · subst h0; decide
    · exact (Nat.log2_lt h0).mpr (Nat.lt_of_lt_of_le h (by decide))
  omega
theorem pe_fstr {c : Str} {j : Nat} (hc : c.length ≤ 1000) (he : PE X e te) : PE X (.JoinedStr [.Constant (.str c) j p1, .FormattedValue e (-1) none p2] pos) (tFstr te) := by
  intro pins s σ H Q I h
  have sl : 2000 ≤ sizeLine := by decide
  refine JoinedStr_many (joinParts_cons (Calls.Constant_str ⟨?_, joinParts_cons (FormattedValue_plain (thn (he pins _ σ H _ (I.tok _) h) fun u s1 ⟨v, H1, I1, r, i, ev, hi, q⟩ => ?_))⟩))
  · rw [strLen_append]
    show 0 + c.length ≤ _
    omega
  · subst ev
    obtain ⟨tk, rfl⟩ := r
    have hl := int_text_length_le10 (k := 12) (by decide) hi
    have hz : (Str.empty ++ c ++ (Str.ofString (toString i))).length ≤ sizeLine := by
      rw [strLen_append, strLen_append]
      show 0 + c.length + _ ≤ _
      have : (Str.ofString (toString i)).length ≤ 13 := by rw [PySem.ofString_length]; exact hl
      omega
    refine formatField_int_small (log_small hi) ⟨hz, joinParts_nil ⟨.str _, H1, I1.tok _, ⟨_, rfl⟩, q _⟩ hz⟩
/-- self.place = v -/
def sPlace (K : PySem.W.Frag) (ta tv : TE) : TS := fun D σ H => tv σ H fun y H1 => ta σ H1 fun x H2 => ∃ e W C f, x = .ref e ∧ H2 e = some (rawX e C none) ∧ OwnX K W C f ∧ ExcK K C ∧
  ∀ dx, H2 dx = none → D.nx σ (upd (upd H2 dx (.xd [("place", y)])) e (rawX e C (some dx)))
theorem ps_place (ha : PE X o ta) (hv : PE X value tv) (hs : swapsWith value (some (.Attribute o "place" pos')) pos.line X.env = pure false := by rfl) : PS X (.Assign [.Attribute o "place" pos'] value pos) (sPlace X.K ta tv) := by
  intro pins s σ H D I h
  refine plainObj_wpAny_Assign_Attribute (thn (hv pins s σ H _ I h) fun u s1 ⟨y, H1, I1, ry, q⟩ => thn (ha pins s1 σ H1 _ I1 q) fun ov s2 ⟨x, H2, I2, rx, e, W, C, f, ex, hx, O, Z, q2⟩ => ?_) hs
  subst ex
  obtain rfl : ov = Value.ref e := rx
  obtain ⟨⟨t0, h0⟩, _, _⟩ := (show ObjOk X.prog X.w H2 s2.heap e (rawX e C none) from I2.hok e _ hx)
  refine own_store O Z I2.kIn h0 fun h' dx tk hk he' hne hsz hn => ⟨σ, _, ?_, q2 dx (I2.hok.fresh hsz)⟩
  have fr := I2.hok.fresh hsz
  have nb : ∀ b ob, s2.heap.get? b = some ob → b ≠ dx := fun b ob z => Nat.ne_of_lt (Nat.lt_of_lt_of_le (Heap.lt_size z) hsz)
  have nt : ∀ {b : Addr} {u : HO}, H2 b = some u → b ≠ dx := fun z => ne_of_none z fr
  have ne : ∀ {b : Addr}, H2 b = none → b ≠ e := fun z y => by rw [y, hx] at z; cases z
  have mv : ∀ {b : Addr}, b ≠ e → b ≠ dx → upd (upd H2 dx (.xd [("place", y)])) e (rawX e C (some dx)) b = H2 b := fun z z2 => by rw [upd_ne z, upd_ne z2]
  have xt : ∀ {b : Addr} {u : HO}, H2 b = some u → u ≠ rawX e C none → b ≠ e := fun z n y => by rw [y, hx] at z; cases z; exact n rfl
  refine I2.un (t' := tk) ⟨fun b ob z n _ _ => hk b ob (ne n) z, fun b ob z n _ _ => ⟨ob.slots, hk b ob (ne n) z⟩, fun b ob z n _ => by rw [mv (ne n) (nb b ob z)]; exact n, fun b ob z _ => ?_, fun b xs z => ?_, fun b ob u z => ?_, fun b ps z => ?_⟩ fun b ob z => ?_
  · by_cases hb : b = e
    · subst hb; exact ⟨_, he'⟩
    · exact ⟨ob, hk b ob hb z⟩
  · rw [mv (xt z (by intro y; cases y)) (nt z)]; exact z
  · rw [mv (xt z (by intro y; cases y)) (nt z)]; exact z
  · exact ⟨#[], by rw [mv (xt z (by intro y; cases y)) (nt z)]; simpa using z⟩
  · by_cases hb : b = e
    · subst hb
      rw [upd_same] at z
      cases z
      exact raw_ok ⟨t0, he'⟩
    · rw [upd_ne hb] at z
      by_cases hb2 : b = dx
      · subst hb2
        rw [upd_same] at z
        cases z
        refine ⟨_, hn, fun f => ?_⟩
        by_cases hf : f = "place"
        · subst hf
          simpa [RelO] using ry
        · have : List.lookup f [(("place" : Str), y)] = none := by
            rw [List.lookup, show (f == ("place" : Str)) = false from beq_eq_false_iff_ne.mpr hf]
            rfl
          rw [this]
          simp [RelO, hf]
      · rw [upd_ne hb2] at z
        refine (I2.hok b ob z).stay (fun c w' hc y => hk c w' ?_ y) (fun c y => ?_) fun c xs y => ?_
        · rcases hc with rfl | hc
          · exact hb
          · exact xt hc (by intro y; cases y)
        · rw [mv (xt y (by intro y; cases y)) (nt y)]; exact y
        · rw [mv (xt y (by intro y; cases y)) (nt y)]; exact y
end
/-! ### raise C(i) -/
section
variable {M : Model} {prog : Program} {w : World} {A : Around} {E : Value → Shared → Prop} {s : Shared} {env : Env} {K : PySem.W.Frag} {W C f : Addr}
theorem raise_own {x : Sem Value} {Q : Flow → Shared → Prop} (O : OwnX K W C f) (hh : A.handled = none) (q : wpAny M A x (fun v s₁ => ∃ e t od, v = .ref e ∧ K.In s₁.heap ∧ s₁.heap.get? e = some (xObj C t od) ∧ E (.ref e) s₁) E s) :
    wpAny M A (raiseStmt env (some x) none) Q E s := by
  have cB : (Value.ref C :: .ref W :: veMro).contains (.type "BaseException") = true := by simp [veMro]
  unfold raiseStmt
  refine wpAny_bind (thn q fun v s₁ ⟨e, t, od, ev, X, hx, hE⟩ => ?_)
  subst ev
  obtain ⟨nm, qn, N, bs, sn, sub, ab, col, dd, k0, k1, k2, k3, k5, lk⟩ := O.ob
  have hC := X _ _ lk
  obtain ⟨hp, g, d, tk, os⟩ := s₁
  repeat (first | with_reducible refine wpAny_loadPart_at hx ?_ | with_reducible refine wpAny_loadPart_at hC ?_ | (with_reducible refine wpAny_isSubtype_exc hC ?_; rw [cB]) | wp_step)
  exact wpAny_raiseNew_none hh hE
theorem Raise_own {x : Str} {np cpos pos : Pos} {args : List Expr} {Q : Flow → Shared → Prop} (O : OwnX K W C f) (hh : A.handled = none) (hplain : (backTo cpos (starEach args env)).any (·.1) = false)
    (q : wpAny (model prog w) A (eval (.Name x np) env) (fun v s₁ => v = .ref C ∧ wpAny (model prog w) A (evalArgs (.ref C) true (backTo cpos (starEach args env)) []) (fun a s₂ => a.kw = [] ∧ a.pos.length ≤ sizeLine ∧ K.In s₂.heap ∧
      ∀ h' e, Heap.MadeExcOf s₂.heap h' e (.ref C) a.pos → s₂.heap.objs.size ≤ e → wpAny (model prog w) (A.under (.builtin "type.__call__" ⟨.ref C :: a.pos, []⟩)) (call (.ref f) (.ref e :: a.pos)) (fun r s₃ => r = .none ∧ ∃ t od, K.In s₃.heap ∧ s₃.heap.get? e = some (xObj C t od) ∧ E (.ref e) s₃) E { s₂ with heap := h' }) E s₁) E s) :
    wpAny (model prog w) A (exec (.Raise (some (.Call (.Name x np) args [] cpos)) none pos) env) Q E s := by
  rw [arm_exec_Raise]
  simp only [evalOpt, Option.map]
  refine wpAny_bind (wpAny_standAt (raise_own O hh (wpAny_bind (thn (wpAny_Call_ofName (thn q fun v s₁ q1 => ?_)) fun v s₃ q3 => wpAny_bind (wpAny_standAt (wpAny_pure q3))))))
  obtain ⟨rfl, q1⟩ := q1
  unfold callWith
  refine wpAny_bind (wpAny_holding (thn q1 fun a s₂ q2 => wpAny_bind (wpAny_standAt ?_)))
  obtain ⟨ap, ak⟩ := a
  obtain ⟨hk, hl, X, q2⟩ := q2
  obtain rfl : ak = [] := hk
  obtain ⟨nm, qn, N, bs, sn, sub, ab, col, dd, k0, k1, k2, k3, k5, lk⟩ := O.ob
  obtain ⟨hp, g, d, tk, os⟩ := s₂
  simp only [hplain]
  refine wpAny_bind (wpAny_keeperOf_exc (X _ _ lk) ?_)
  refine wpAny_bind (own_call O X hl fun h' e mx he => thn (q2 h' e mx he) fun r s₃ q3 => ⟨q3.1, wpAny_bind (wpAny_holding (wpAny_point (wpAny_pure ?_)))⟩)
  obtain ⟨_, t, od, X3, h3, q3⟩ := q3
  exact ⟨e, t, od, rfl, X3, h3, q3⟩
end
/-- what an own error's __init__(self, place) does -/
def spInit (C : Addr) : Sp := fun vs H Q _ => ∃ (e : Addr) (i : Int), vs = [.ref e, .int i] ∧ H e = some (rawX e C none) ∧ i.natAbs < 10 ^ 12 ∧ ∀ dx, H dx = none → Q .non (upd (upd H dx (.xd [("place", .int i)])) e (rawX e C (some dx)))
structure ExcI (P : Program) (w : World) (K : PySem.W.Frag) (mg : Str → Option Value) (base : Heap) (name : Str) (W C : Addr) (k : Nat) (ps : List Str) : Prop where
  ex : ∃ (f : Addr) (fd : FuncData), FnOk P w K mg base CX0 k f fd ps (spInit C) ∧ Binds K fd ps [] ∧ OwnX K W C f
  at_ : mg name = some (.ref C)
  ek : ExcK K C
def tRaiseI (C : Addr) (E : XK) (t : TA) : TS := fun _ σ H => t σ H fun vs H1 => ∃ i : Int, vs = [.int i] ∧ i.natAbs < 10 ^ 12 ∧ ∀ dx, H1 dx = none → E (.ref C) (some dx) (upd H1 dx (.xd [("place", .int i)]))
section
variable {P : Program} {w : World} {K : PySem.W.Frag} {mg : Str → Option Value} {base : Heap} {N : List Str} {qual : Str} {scope : Scope} {f : Addr} {cd : Value} {A : Around} {outer : List Env} {s₀ : Shared} {H₀ : Hp} {E : XK}
theorem raise_from {pins : List (Addr × Obj)} {σ : St} {H H' : Hp} {s s3 : Shared} {e C t : Addr} {od : Option Addr} (I : Inv (cxOf (CXE P w) P w K mg base N qual scope f cd A outer s₀ H₀ E) pins σ H s) (hn : s.heap.get? e = none) (ho : s3.os = s.os) (hg : AllBare s3.gens)
    (un : Un (frs (cxOf (CXE P w) P w K mg base N qual scope f cd A outer s₀ H₀ E).stack) [] H H' s.heap s3.heap) (hok : HOk P w H' s3.heap) (hu : H' e = none) (he : s3.heap.get? e = some (xObj C t od)) (q : E (.ref C) od H') :
    (cxOf (CXE P w) P w K mg base N qual scope f cd A outer s₀ H₀ E).xe (.ref e) s3 := by
  show wpAny (model P w) (A.deeper (envOfC qual scope s₀.heap.objs.size f cd)) (leaving (envOfC qual scope s₀.heap.objs.size f cd) (.ref e)) _ _ _
  have I3 := I.call' ho un hok hg (by simp)
  have hfr : ∀ b ∈ frs (cxOf (CXE P w) P w K mg base N qual scope f cd A outer s₀ H₀ E).stack, H' b = none := I3.stkFree
  have hin : ∀ env ∈ (cxOf (CXE P w) P w K mg base N qual scope f cd A outer s₀ H₀ E).stack, ∀ b, env.frame = some b → b ∈ e :: frs (cxOf (CXE P w) P w K mg base N qual scope f cd A outer s₀ H₀ E).stack := fun env he b hb => List.mem_cons_of_mem _ (List.mem_filterMap.mpr ⟨env, he, hb⟩)
  have hen : (PySem.W.hideAll s3.heap (e :: frs (cxOf (CXE P w) P w K mg base N qual scope f cd A outer s₀ H₀ E).stack)).get? e = none := PySem.W.hideAll_none _ List.mem_cons_self
  have hBh : (PySem.W.hideAll s3.heap (e :: frs (cxOf (CXE P w) P w K mg base N qual scope f cd A outer s₀ H₀ E).stack)).StaysIn s3.heap := fun b o z => PySem.W.of_hideAll _ z
  refine wpAny_mono (kd_any (kd_leaving _ _) (wpAny_leaving_firstW (L := s₀.heap.objs.size) (outer := outer) (base := PySem.W.hideAll s3.heap (e :: frs (cxOf (CXE P w) P w K mg base N qual scope f cd A outer s₀ H₀ E).stack)) (a0 := .ref t)
    (Q := fun _ s' => ∃ h2, s' = { s3 with heap := h2 } ∧ Heap.LeftW (PySem.W.hideAll s3.heap (e :: frs (cxOf (CXE P w) P w K mg base N qual scope f cd A outer s₀ H₀ E).stack)) (envOfC qual scope s₀.heap.objs.size f cd :: outer) e (.ref C) (.ref t) s3.heap h2)
    I.ok.frames (PySem.W.funFrames_hide I3.stack hin) rfl he hBh hen rfl rfl rfl fun h2 L => ⟨h2, rfl, L⟩)) (fun _ s' z => ?_) fun _ _ z => z
  obtain ⟨⟨h2, rfl, k1, ⟨_, _, k2⟩, k3, k4⟩, kd⟩ := z
  obtain ⟨hp, g, d, tt, os⟩ := s3
  have ho : os = s.os := ho
  subst ho
  refine fly_out (s := s) (g := g) (d := d) (t := tt) (h1 := hp) I un hok hfr hg hn hu (fun b o z y => ?_) hBh (⟨⟨k1, hen, k2, k3⟩, dict_on kd ⟨_, he, rfl⟩⟩ : FlyD _ outer e (.ref C) (.ref t) od h2) k4 q
  by_cases hb : b ∈ e :: frs (cxOf (CXE P w) P w K mg base N qual scope f cd A outer s₀ H₀ E).stack
  · rcases List.mem_cons.mp hb with z | z
    · exact .inl z
    · exact .inr (.inl z)
  · rw [PySem.W.hideAll_get _ z hb] at y
    cases y
theorem ps_raiseI {x : Str} {W C : Addr} {k : Nat} {ps : List Str} {np cpos pos : Pos} {a : Expr} {as : List Expr} {t : TA} (Y : ExcI P w K mg base x W C k ps) (hr : Room (k + 1) (cxOf (CXE P w) P w K mg base N qual scope f cd A outer s₀ H₀ E).A) (hg : Gl (cxOf (CXE P w) P w K mg base N qual scope f cd A outer s₀ H₀ E) x)
    (ha : PA (cxOf (CXE P w) P w K mg base N qual scope f cd A outer s₀ H₀ E) (a :: as) t) (hdb : (x == ("__debug__" : Str)) = false := by decide)
    (he : starEach (a :: as) (cxOf (CXE P w) P w K mg base N qual scope f cd A outer s₀ H₀ E).env = (false, eval a (cxOf (CXE P w) P w K mg base N qual scope f cd A outer s₀ H₀ E).env) :: starEach as (cxOf (CXE P w) P w K mg base N qual scope f cd A outer s₀ H₀ E).env := by rfl)
    (hpl : (backTo cpos (starEach as (cxOf (CXE P w) P w K mg base N qual scope f cd A outer s₀ H₀ E).env)).any (·.1) = false := by rfl) :
    PS (cxOf (CXE P w) P w K mg base N qual scope f cd A outer s₀ H₀ E) (.Raise (some (.Call (.Name x np) (a :: as) [] cpos)) none pos) (tRaiseI C E t) := by
  intro pins s σ H D I h
  obtain ⟨fi, fd, F, B, O⟩ := Y.ex
  refine Raise_own O (I.ok.hd rfl) ?_ ?_
  · rw [he]
    show ((false || (backTo cpos (starEach as _)).any (·.1))) = false
    rw [hpl]
    rfl
  refine ld_glob I hg Y.at_ ⟨rfl, ?_⟩ hdb
  have hs := ha cpos pins s σ H _ I h
  rw [he] at hs ⊢
  refine Calls.evalArgs_plain (thn hs fun us s2 ⟨vs, H1, I1, r, i, ev, hi, q⟩ => ⟨rfl, ?_, I1.kIn, fun h1 e mx hsz => ?_⟩)
  · have := r.length
    subst ev
    show us.length ≤ sizeLine
    rw [← this]
    show 1 ≤ sizeLine
    decide
  subst ev
  have new : H1 e = none := I1.hok.fresh hsz
  obtain ⟨t, het, _⟩ := mx.there
  have I2 := I1.laid (a := e) (o := rawX e C none) (t' := s2.toks) mx.keeps hsz (raw_ok ⟨t, het⟩)
  have hl : (Value.ref e :: us).length = ps.length := by
    rw [← F.len [.ref e, .int i] (upd H1 e (rawX e C none)) (fun _ _ => True) E0 ⟨e, i, rfl, upd_same, hi, fun _ _ => True.intro⟩]
    show us.length + 1 = _
    rw [← r.length]
    rfl
  refine wpAny_call (codeAny_mono (F.run _ _ _ (upd H1 e (rawX e C none)) ⟨.ref e :: us, []⟩ (.ref e :: us) [.ref e, .int i] (fun v H2 => v = .non ∧ ∃ dx, upd H1 e (rawX e C none) dx = none ∧ H2 = upd (upd (upd H1 e (rawX e C none)) dx (.xd [("place", .int i)])) e (rawX e C (some dx))) E0
    (hr.make C us []) (I2.env0.make C us []) (by have := B _ (Value.ref e :: us) I2.kIn (by simpa using hl); simpa using this) (.cons rfl r) ⟨e, i, rfl, upd_same, hi, fun dx hd => ⟨rfl, dx, hd, rfl⟩⟩) fun r' s3 hq => ?_)
  cases r' with
  | error x => exact hq.elim
  | ok fl =>
    cases fl with
    | next => exact hq.elim
    | brk => exact hq.elim
    | cont => exact hq.elim
    | ret u =>
      obtain ⟨v, H3, ho, hg3, un, hok, rv, evn, dx, hd, eH⟩ := hq
      subst evn
      obtain rfl : u = Value.none := rv
      have hde : dx ≠ e := fun z => by rw [z, upd_same] at hd; cases hd
      have hd1 : H1 dx = none := by rw [upd_ne hde] at hd; exact hd
      have e3 : H3 e = some (rawX e C (some dx)) := by rw [eH, upd_same]
      obtain ⟨⟨t3, he3⟩, _, _⟩ := (show ObjOk P w H3 s3.heap e (rawX e C (some dx)) from hok e _ e3)
      have mv : ∀ b, b ≠ e → H3 b = upd H1 dx (.xd [("place", .int i)]) b := fun b hb => by
        rw [eH, upd_ne hb]
        by_cases h2 : b = dx
        · subst h2; rw [upd_same, upd_same]
        · rw [upd_ne h2, upd_ne h2, upd_ne hb]
      have hu : upd H1 dx (.xd [("place", .int i)]) e = none := by rw [upd_ne (Ne.symm hde)]; exact new
      have nb : ∀ b o, s2.heap.get? b = some o → b ≠ e := fun b o z y => by rw [y, mx.new] at z; cases z
      have nt : ∀ {b : Addr} {o : HO}, H1 b = some o → b ≠ e := fun z => ne_of_none z new
      have m1 : ∀ b, b ≠ e → upd H1 e (rawX e C none) b = H1 b := fun b hb => upd_ne hb
      have I3 := I2.call' ho un hok hg3 (by simp)
      refine ⟨rfl, t3, some dx, I3.kIn, he3, raise_from (H' := upd H1 dx (.xd [("place", .int i)])) I1 mx.new ho hg3 ⟨fun b o z n nf nx => ?_, fun b o z n nf nx => ?_, fun b o z n nx => ?_, fun b o z nx => ?_, fun b xs z => ?_, fun b o u z => ?_, fun b ps z => ?_⟩ (fun b o z => ?_) hu he3 (q dx hd1)⟩
      · exact un.keep b o (mx.keeps b o z) (by rw [m1 b (nb b o z)]; exact n) nf nx
      · exact un.slot b o (mx.keeps b o z) (by rw [m1 b (nb b o z)]; exact n) nf nx
      · rw [← mv b (nb b o z)]; exact un.free b o (mx.keeps b o z) (by rw [m1 b (nb b o z)]; exact n) nx
      · exact un.there b o (mx.keeps b o z) nx
      · rw [← mv b (nt z)]; exact un.tups b xs (by rw [m1 b (nt z)]; exact z)
      · rw [← mv b (nt z)]; exact un.frzs b o u (by rw [m1 b (nt z)]; exact z)
      · rw [← mv b (nt z)]; exact un.tbls b ps (by rw [m1 b (nt z)]; exact z)
      · have hb : b ≠ e := fun y => by rw [y, hu] at z; cases z
        rw [← mv b hb] at z
        refine (hok b o z).stay (fun _ _ _ y => y) (fun c y => ?_) fun c xs y => ?_
        · rw [← mv c (fun y2 => by rw [y2, e3] at y; cases y)]; exact y
        · rw [← mv c (fun y2 => by rw [y2, e3] at y; cases y)]; exact y
end
end L2
end

section
set_option Elab.async false
set_option linter.all false
set_option maxRecDepth 100000
set_option maxHeartbeats 4000000
/-! list.count and list.index of flat items; readings of the rules for own errors. -/
namespace L2
open PySem PySem.Spec PyProof.Rows
section
variable {X : Cx}
end
section
variable {σ : St} {H : Hp} {D : Ends} {Q : VK} {te ta tv : TE} {t : TA} {K : PySem.W.Frag} {W C : Addr} {E : XK}
theorem r_binit (h : t σ H fun vs H1 => ∃ e C f od z, vs = [.ref e, .str z] ∧ H1 e = some (rawX e C od) ∧ OwnX K W C f ∧ Q .non H1) : tBinit K W t σ H Q := h
theorem r_fstr (h : te σ H fun v H1 => ∃ i : Int, v = .int i ∧ i.natAbs < 10 ^ 12 ∧ ∀ z, Q (.str z) H1) : tFstr te σ H Q := h
theorem r_splace (h : tv σ H fun y H1 => ta σ H1 fun x H2 => ∃ e W C f, x = .ref e ∧ H2 e = some (rawX e C none) ∧ OwnX K W C f ∧ ExcK K C ∧ ∀ dx, H2 dx = none → D.nx σ (upd (upd H2 dx (.xd [("place", y)])) e (rawX e C (some dx)))) : sPlace K ta tv D σ H := h
theorem r_raiseI (h : t σ H fun vs H1 => ∃ i : Int, vs = [.int i] ∧ i.natAbs < 10 ^ 12 ∧ ∀ dx, H1 dx = none → E (.ref C) (some dx) (upd H1 dx (.xd [("place", .int i)]))) : tRaiseI C E t D σ H := h
end
section
variable {X : Cx} {e a b : Expr} {te ta tb : TE} {pos : Pos}
end
end L2
end

section
set_option Elab.async false
set_option linter.all false
set_option maxRecDepth 100000
set_option maxHeartbeats 4000000
/-! Texts parted, a sign's place in a text, numbers written and read; an except clause without a name. -/
namespace L2
open PySem PySem.Spec PyProof.Rows
open Builtin.Str (occurrences partsBetween)
section
variable {X : Cx}
end
section
variable {X : Cx} {x : Str} {C0 : Value} {np hpos pos : Pos} {body suite : List Stmt} {b0 : Stmt} {tb : XK → TS} {th : TS}
end
end L2
end

section
set_option Elab.async false
set_option linter.all false
set_option maxRecDepth 100000
set_option maxHeartbeats 4000000
/-! Two lists that are read, one behind the other. -/
namespace L2
open PySem PySem.Spec PyProof.Rows
end L2
end

section
set_option Elab.async false
set_option linter.all false
set_option maxRecDepth 100000
set_option maxHeartbeats 4000000
/-! Lists with the very same items compared; a list by steps. -/
namespace L2
open PySem PySem.Spec PyProof.Rows
section
variable {X : Cx}
end
theorem vals_pick {xs : List V} {us : List Value} (r : Vals xs us) : ∀ is : List Nat, Vals (is.filterMap fun i => xs[i]?) (is.filterMap fun i => us[i]?)
  | [] => .nil
  | i :: is => by
    have ih := vals_pick r is
    have l := r.length
    by_cases h : i < us.length
    · obtain ⟨u, eu, ru⟩ := r.get (List.getElem?_eq_getElem (show i < xs.length by omega))
      rw [List.filterMap_cons, List.filterMap_cons, List.getElem?_eq_getElem (show i < xs.length by omega), eu]
      exact .cons ru ih
    · rw [List.filterMap_cons, List.filterMap_cons, List.getElem?_eq_none (show us.length ≤ i by omega), List.getElem?_eq_none (show xs.length ≤ i by omega)]
      exact ih
section
variable {X : Cx} {e st : Expr} {te ts : TE} {pos p2 : Pos}
end
end L2
end

section
set_option Elab.async false
set_option linter.all false
set_option maxRecDepth 100000
set_option maxHeartbeats 4000000
/-! A zip has no keys; its next one while the last pair is still held. -/
namespace L2
open PySem PySem.Spec PyProof.Rows
theorem entry_zip_ga : entryFor table "zip.__getattribute__" = some Builtin.«object.__getattribute__» :=
  entryFor_alias (id' := "object.__getattribute__") (by kernel_rfl) (by first | rfl | decide +kernel) (by decide +kernel) (by kernel_rfl)
theorem lk_zip_keys : typeLookup (.type "zip") "keys" = pure none := by rw [typeLookup_type, builtinLookup_eq_fast]; kernel_rfl
theorem lk_zip_hook : typeLookup (.type "zip") "__getattr__" = pure none := by rw [typeLookup_type, builtinLookup_eq_fast]; kernel_rfl
abbrev zObj (vs : Array Value) : Obj := { cls := .type "zip", dict := none, data := .fields vs, slots := #[] }
theorem meets_keys (a : Addr) (vs : Array Value) (u : Tok) : Meets (Builtin.«object.__getattribute__» ⟨[.ref a, .str "keys" u], []⟩) (fun A R s => s.heap.get? a = some (zObj vs) ∧ raisesAttr (.ref a) "keys" A R s) :=
  Meets.of_wp fun prog w A R s hs => by
    obtain ⟨hp, g, d, tk, os⟩ := s
    obtain ⟨hx, hs⟩ := hs
    have hT : (⟨hp, g, d, tk, os⟩ : Shared).TypeIs (.ref a) "zip" := ⟨_, hx, rfl⟩
    have f4 := lk_zip_keys
    repeat (any_goals (first | assumption | with_reducible refine wpAny_loadPart_at hx ?_ | wp_step))
    exact wpAny_raiseAttrError hs.1 hs.2 (by decide +kernel)
section
variable {prog : Program} {w : World} {A : Around} {E : Value → Shared → Prop} {s : Shared}
theorem no_keys {a : Addr} {vs : Array Value} {Q : Option Value → Shared → Prop} (hx : s.heap.get? a = some (zObj vs)) (hA : A.handled = none) (q : ∀ h' tk, (∀ b o, s.heap.get? b = some o → h'.get? b = some o) → Q none { s with heap := h', toks := tk }) :
    wpAny (model prog w) A (getAttr? (.ref a) "keys") Q E s := by
  obtain ⟨hp, g, d, tk, os⟩ := s
  have hT : ∀ tk', (⟨hp, g, d, tk', os⟩ : Shared).TypeIs (.ref a) "zip" := fun _ => ⟨_, hx, rfl⟩
  have f1 := sub_AttributeError
  have f3 := PySem.F.slot_zip_getattribute.lookup
  have f4 := PySem.F.slot_zip_getattribute.bind (.ref a)
  have f5 := lk_zip_hook
  unfold getAttr? getAttrBy? getAttrBy
  repeat (any_goals (first | assumption | exact hT _ | ((with_reducible show wpAny _ _ (call (Value.builtin "zip.__getattribute__") _ _) _ _ _); refine call_meets PySem.F.slot_zip_getattribute (hT _) entry_zip_ga (PySem.F.args_zip_getattribute_2 _ _) (meets_keys a vs _) ⟨hx, hA, fun h' tk' e hx' => ?_⟩) | wp_step))
  obtain ⟨t', u', he⟩ := hx'.there
  show wpAny _ _ (getattributeRaised _ _ _ _ _ _ _) _ _ _
  unfold getattributeRaised
  repeat (any_goals (first | assumption | wp_step))
  exact q _ _ hx'.keeps
end
end L2
end

section
set_option Elab.async false
set_option linter.all false
set_option maxRecDepth 100000
set_option maxHeartbeats 4000000
/-! dict(zip(a, b)) of two lists. -/
namespace L2
open PySem PySem.Spec PyProof.Rows
abbrev zHeld (h : Heap) (z TI TO T : Addr) (c : Bool) : Prop := h.get? z = some (zObj #[rawInt T, .bool c, .bool false, .ref TI, .ref TO])
section
variable {prog : Program} {w : World} {A : Around} {E : Value → Shared → Prop} {s : Shared}
theorem wp_alive {a : Addr} {Q : Option Obj → Shared → Prop} (h : Q (s.heap.get? a) s) : wpAny (model prog w) A (loadIfAlive a) Q E s := fun Γ p hΓ => by
  show Sem.wp _ _ (.loadIfAlive a _) _ _ _ _
  rw [Sem.wp_loadIfAlive]
  exact h
theorem held_free {z TI TO T : Addr} {c : Bool} {oT : Obj} {Q : Bool → Shared → Prop} (hz : zHeld s.heap z TI TO T c) (hT : s.heap.get? T = some oT) (q : ∀ h', zHeld h' z TI TO T true → Heap.SameBut z s.heap h' → Q false { s with heap := h' }) :
    wpAny (model prog w) A (Builtin.SmallTypes.ownedTupleIsFree (.ref z)) Q E s := by
  unfold Builtin.SmallTypes.ownedTupleIsFree
  refine wpAny_bind (wpAny_field hz rfl (x := rawInt T) rfl ?_)
  show wpAny _ _ (loadIfAlive (Int.toNat (T : Int)) >>= _) _ _ _
  refine wpAny_bind (wp_alive ?_)
  rw [Int.toNat_natCast, hT]
  show wpAny _ _ (field (.ref z) 1 >>= _) _ _ _
  refine wpAny_bind (wpAny_field hz rfl (x := .bool c) rfl ?_)
  cases c with
  | true =>
    exact wpAny_pure (q s.heap hz (Heap.SameBut.refl _ _))
  | false =>
    refine wpAny_bind (wpAny_setField_rec hz (by simp) fun h₁ hz₁ hs₁ => ?_)
    exact wpAny_pure (q h₁ hz₁ hs₁)
theorem held_item {z TI TO T i1 i2 l1 l2 : Addr} {k1 k2 : Nat} {xs ys : Array Value} {x y : Value} {c : Bool} {oT : Obj} {Q : Value → Shared → Prop} (D : ZipApart z TI TO i1 i2 l1 l2)
    (hz : zHeld s.heap z TI TO T c) (hT : s.heap.get? T = some oT) (hTI : IsPair s.heap TI (.ref i1) (.ref i2)) (h1 : s.heap.IsListIter i1 l1 k1) (h2 : s.heap.IsListIter i2 l2 k2) (hl1 : s.heap.IsList l1 xs) (hl2 : s.heap.IsList l2 ys) (hx : xs[k1]? = some x) (hy : ys[k2]? = some y)
    (hQ : ∀ h', zHeld h' z TI TO T true → h'.IsListIter i1 l1 (k1 + 1) → h'.IsListIter i2 l2 (k2 + 1) → IsPair h' s.heap.objs.size x y → h'.objs.size = s.heap.objs.size + 1 → (∀ b o, b ≠ z → b ≠ i1 → b ≠ i2 → s.heap.get? b = some o → h'.get? b = some o) → Q (.ref s.heap.objs.size) { s with heap := h' }) :
    wpAny (model prog w) A (Builtin.«zip.__next__» ⟨[.ref z], []⟩) (fun fin s' => ∃ v, fin = .done (.ret v) ∧ Q v s') E s := by
  show wpAny _ _ (field (.ref z) 2 >>= _) _ _ _
  refine wpAny_bind (wpAny_field hz rfl (x := .bool false) rfl ?_)
  show wpAny _ _ (field (.ref z) 3 >>= _) _ _ _
  refine wpAny_bind (wpAny_field hz rfl (x := .ref TI) rfl ?_)
  refine wpAny_bind (wpAny_seqItems hTI rfl ?_)
  show wpAny _ _ (Builtin.SmallTypes.ownedTupleIsFree (.ref z) >>= _) _ _ _
  refine wpAny_bind (held_free hz hT fun h₁ hz₁ hs₁ => ?_)
  rw [if_neg (by decide)]
  refine wpAny_bind ?_
  rw [← Array.forIn_toList]
  simp only [List.forIn_cons, List.forIn_nil]
  refine wpAny_bind (wpAny_bind (wpAny_holding ?_))
  show wpAny _ _ (Builtin.SmallTypes.nextOf (.ref i1) >>= _) _ _ _
  refine wpAny_bind (wpAny_nextOf_list_item (h1.extBut hs₁.extBut D.i1z) (hl1.extBut hs₁.extBut D.l1z) hx fun h₂ h1₂ hs₂ => wpAny_pure ?_)
  refine wpAny_pure ?_
  refine wpAny_bind (wpAny_bind (wpAny_holding ?_))
  show wpAny _ _ (Builtin.SmallTypes.nextOf (.ref i2) >>= _) _ _ _
  refine wpAny_bind (wpAny_nextOf_list_item ((h2.extBut hs₁.extBut D.i2z).extBut hs₂.extBut D.i12.symm) ((hl2.extBut hs₁.extBut D.l2z).extBut hs₂.extBut D.l2i1) hy fun h₄ h2₄ hs₄ => wpAny_pure ?_)
  refine wpAny_pure (wpAny_pure ?_)
  have hsz : h₄.objs.size = s.heap.objs.size := by rw [hs₄.1, hs₂.1, hs₁.1]
  have kp : ∀ b o, b ≠ z → b ≠ i1 → b ≠ i2 → s.heap.get? b = some o → h₄.get? b = some o := fun b o b1 b2 b3 e => hs₄.extBut _ _ b3 (hs₂.extBut _ _ b2 (hs₁.extBut _ _ b1 e))
  have hz₄ : zHeld h₄ z TI TO T true := hs₄.extBut _ _ D.i2z.symm (hs₂.extBut _ _ D.i1z.symm hz₁)
  show wpAny _ _ (newTuple [x, y] >>= _) _ _ _
  refine wpAny_bind (wpAny_newTuple (wpAny_pure ⟨_, rfl, ?_⟩))
  have hp : h₄.objs.size = s.heap.objs.size := hsz
  rw [hp]
  refine hQ _ (Heap.get?_push_of_some _ hz₄) ((h1₂.extBut hs₄.extBut D.i12).at fun o e => Heap.get?_push_of_some _ e) (h2₄.at fun o e => Heap.get?_push_of_some _ e) ?_ (by rw [Heap.size_push, hp]) fun b o b1 b2 b3 e => Heap.get?_push_of_some _ (kp b o b1 b2 b3 e)
  rw [← hp]
  exact Heap.get?_push_size _ rfl
theorem held_next {z TI TO T i1 i2 l1 l2 : Addr} {k1 k2 : Nat} {xs ys : Array Value} {x y : Value} {c : Bool} {oT : Obj} {Q : Option Value → Shared → Prop} (D : ZipApart z TI TO i1 i2 l1 l2)
    (hz : zHeld s.heap z TI TO T c) (hT : s.heap.get? T = some oT) (hTI : IsPair s.heap TI (.ref i1) (.ref i2)) (h1 : s.heap.IsListIter i1 l1 k1) (h2 : s.heap.IsListIter i2 l2 k2) (hl1 : s.heap.IsList l1 xs) (hl2 : s.heap.IsList l2 ys) (hx : xs[k1]? = some x) (hy : ys[k2]? = some y)
    (hQ : ∀ h', zHeld h' z TI TO T true → h'.IsListIter i1 l1 (k1 + 1) → h'.IsListIter i2 l2 (k2 + 1) → IsPair h' s.heap.objs.size x y → h'.objs.size = s.heap.objs.size + 1 → (∀ b o, b ≠ z → b ≠ i1 → b ≠ i2 → s.heap.get? b = some o → h'.get? b = some o) → Q (some (.ref s.heap.objs.size)) { s with heap := h' }) :
    wpAny (model prog w) A (pyNext (.ref z)) Q E s := by
  have hTy : s.TypeIs (.ref z) "zip" := ⟨_, hz, rfl⟩
  unfold pyNext
  exact wpAny_bind (wpAny_attempt (wpAny_callSpecial?_slot (name := Str.ofString "__next__") hTy PySem.F.slot_zip_next
    (wpAny_call_entry PySem.F.slot_zip_next hTy PySem.F.entry_zip_next
      (held_item D hz hT hTI h1 h2 hl1 hl2 hx hy fun h' a1 a2 a3 a4 a5 a6 => wpAny_pure (hQ h' a1 a2 a3 a4 a5 a6)) (PySem.F.args_zip_next_1 _))))
theorem held_end {z TI TO T i1 i2 l1 l2 : Addr} {k1 : Nat} {xs : Array Value} {c : Bool} {oT : Obj} {Q : Option Value → Shared → Prop} (hh : A.handled = none) (D : ZipApart z TI TO i1 i2 l1 l2)
    (hz : zHeld s.heap z TI TO T c) (hT : s.heap.get? T = some oT) (hTI : IsPair s.heap TI (.ref i1) (.ref i2)) (h1 : s.heap.IsListIter i1 l1 k1) (hl1 : s.heap.IsList l1 xs) (hx : xs[k1]? = none)
    (hQ : ∀ h', (∀ b o, b ≠ z → b ≠ i1 → b ≠ i2 → s.heap.get? b = some o → h'.get? b = some o) → Q none { s with heap := h' }) :
    wpAny (model prog w) A (pyNext (.ref z)) Q E s := by
  have hTy : s.TypeIs (.ref z) "zip" := ⟨_, hz, rfl⟩
  unfold pyNext
  refine wpAny_bind (wpAny_attempt (wpAny_callSpecial?_slot (name := Str.ofString "__next__") hTy PySem.F.slot_zip_next
    (wpAny_call_entry PySem.F.slot_zip_next hTy PySem.F.entry_zip_next ?_ (PySem.F.args_zip_next_1 _))))
  show wpAny _ _ (field (.ref z) 2 >>= _) _ _ _
  refine wpAny_bind (wpAny_field hz rfl (x := .bool false) rfl ?_)
  show wpAny _ _ (field (.ref z) 3 >>= _) _ _ _
  refine wpAny_bind (wpAny_field hz rfl (x := .ref TI) rfl ?_)
  refine wpAny_bind (wpAny_seqItems hTI rfl ?_)
  show wpAny _ _ (Builtin.SmallTypes.ownedTupleIsFree (.ref z) >>= _) _ _ _
  refine wpAny_bind (held_free hz hT fun h₁ hz₁ hs₁ => ?_)
  rw [if_neg (by decide)]
  refine wpAny_bind ?_
  rw [← Array.forIn_toList]
  simp only [List.forIn_cons, List.forIn_nil]
  refine wpAny_bind (wpAny_bind (wpAny_holding ?_))
  show wpAny _ _ (Builtin.SmallTypes.nextOf (.ref i1) >>= _) _ _ _
  refine wpAny_bind (wpAny_nextOf_list_end hh (h1.extBut hs₁.extBut D.i1z) (hl1.extBut hs₁.extBut D.l1z) hx fun h₂ e hs₂ he => ?_)
  obtain ⟨oe, hoe, hce⟩ := he
  show wpAny _ _ (isInstance (.ref e) (.type "StopIteration") >>= _) _ _ _
  refine wpAny_bind (wpAny_isInstance (T := "StopIteration") (b := true) ⟨oe, hoe, hce⟩ isSubtype_stop ?_)
  exact wpAny_pure (hQ _ fun b o b1 b2 b3 e => hs₂ _ _ b2 (hs₁.extBut _ _ b1 e))
end
end L2
end

section
set_option Elab.async false
set_option linter.all false
set_option maxRecDepth 100000
set_option maxHeartbeats 4000000
/-! dict(zip(a, b)) of two lists of the same length: the loop. -/
namespace L2
open PySem PySem.Spec PyProof.Rows
section
variable {prog : Program} {w : World} {A : Around} {E : Value → Shared → Prop} {R : Result → Shared → Prop}
theorem plain_upd_loop : plainId "dict.update.loop" = true := by decide +kernel
theorem entry_upd_loop : entryFor table "dict.update.loop" = some Builtin.«dict.update.loop» := entryFor_of_tree (by kernel_rfl)
theorem pair_items {s : Shared} {T : Addr} {x y : Value} {Q : List Value → Shared → Prop} (hT : IsPair s.heap T x y) (h : Q [x, y] s) : wpAny (model prog w) A (Builtin.Dict.pairItems (.ref T)) Q E s := by
  have ty : s.TypeIs (.ref T) "tuple" := ⟨_, hT, rfl⟩
  unfold Builtin.Dict.pairItems
  refine wpAny_bind (wpAny_typeOf ty ?_)
  rw [if_pos (by decide)]
  exact wpAny_bind (wpAny_seqItems hT rfl (wpAny_pure h))
/-- what the loop over a zip needs of the addresses -/
structure DzA (d z TI TO i1 i2 l1 l2 : Addr) : Prop where
  za : ZipApart z TI TO i1 i2 l1 l2
  dz : d ≠ z
  dI : d ≠ TI
  dO : d ≠ TO
  d1 : d ≠ i1
  d2 : d ≠ i2
  dl : d ≠ l1
  dm : d ≠ l2
end
end L2
end

section
set_option Elab.async false
set_option linter.all false
set_option maxRecDepth 100000
set_option maxHeartbeats 4000000
/-! dict(zip(a, b)) and d.update(e): the rules. -/
namespace L2
open PySem PySem.Spec PyProof.Rows

theorem kv_length : ∀ {kvs : List (Key × V)} {vs : List (Key × Value)}, KV kvs vs → kvs.length = vs.length
  | _, _, .nil => rfl
  | _, _, .cons _ t => congrArg (· + 1) (kv_length t)
section
variable {X : Cx}
end
end L2
end

section
set_option Elab.async false
set_option linter.all false
set_option maxRecDepth 100000
set_option maxHeartbeats 4000000
/-! list(range(n)); defs whose last parameter has a default, called with all of them. -/
namespace L2
open PySem PySem.Spec PyProof.Rows
theorem vals_of_at : ∀ {xs : List V} {us : List Value}, xs.length = us.length → (∀ (i : Nat) x u, xs[i]? = some x → us[i]? = some u → RelV x u) → Vals xs us
  | [], [], _, _ => .nil
  | x :: xs, u :: us, hl, h => .cons (h 0 x u rfl rfl) (vals_of_at (Nat.succ.inj hl) fun i y v e1 e2 => h (i + 1) y v e1 e2)
section
variable {X : Cx}
def tLRng (ta : TA) : TE := fun σ H Q => ta σ H fun vs H1 => ∃ j : Nat, vs = [.int j] ∧ j ≤ 100000 ∧ ∀ p, H1 p = none → Q (.ref p) (upd H1 p (.lst ((List.range j).map fun i : Nat => V.int i)))
theorem pe_lrange {a : Expr} {ta : TA} {p q pos pos2 : Pos} (hcal : X.calm = true) (hg : Gl X "list") (hm : X.mg "list" = none) (hg2 : Gl X "range") (hm2 : X.mg "range" = none) (ha : PA X [a] ta)
    (hs : starEach [a] X.env = [(false, eval a X.env)] := by rfl)
    (hs3 : starEach [Expr.Call (.Name "range" q) [a] [] pos2] X.env = [(false, eval (.Call (.Name "range" q) [a] [] pos2) X.env)] := by rfl) :
    PE X (.Call (.Name "list" p) [.Call (.Name "range" q) [a] [] pos2] [] pos) (tLRng ta) := by
  intro pins s σ H Q I h
  refine wpAny_Call_Name_kw (ld_blt I hg hm b_list (PyProof.Rows.callWith_type1 ?_ hs3 rfl) (by decide) (by decide))
  rw [hs3]
  refine Calls.spliced_cons ?_
  show wpAny _ _ (eval (Expr.Call (.Name "range" q) [a] [] pos2) X.env) _ _ _
  refine wpAny_Call_Name_kw (ld_blt I hg2 hm2 boot_range (PyProof.Rows.callWith_type1 (thn (ha pos2 pins s σ H _ I h) fun us s1 ⟨vs, H1, I1, r1, q1⟩ => ?_) hs rfl) (by decide) (by decide))
  obtain ⟨j, e, hj, q⟩ := q1
  subst e
  obtain ⟨u, rfl, t, rfl⟩ := vals1 r1
  refine call_range_1 (Calls.spliced_nil ?_)
  have e2 : Builtin.Range.rangeSize 0 (j : Int) 1 = j := by rw [rangeSize_one]; split <;> omega
  refine call_list_range (I1.ok.hd hcal) (IsRange.new ..) (small_one (by omega) (by omega) (by omega) (by omega)) e2 (by omega) fun h' tk acc c kp ho it => ?_
  have hv : Vals ((List.range j).map fun i : Nat => V.int i) acc.toList := vals_of_at (by rw [List.length_map, List.length_range, Array.length_toList, it.1]) fun i x u e1 e3 => by
    have hi : i < j := by have := (List.getElem?_eq_some_iff.mp e1).1; simpa using this
    rw [List.getElem?_map, List.getElem?_range hi] at e1
    cases e1
    have e4 : acc[i]? = some u := by rw [← Array.getElem?_toList]; exact e3
    obtain ⟨t, e5⟩ := it.2 i u e4
    exact ⟨t, by rw [e5]; simp⟩
  have up : ∀ b o, s1.heap.get? b = some o → h'.get? b = some o := fun b o e => kp _ _ (Heap.get?_push_of_some _ e)
  have hle : s1.heap.objs.size ≤ (s1.heap.push { cls := .type "range", data := .fields #[.int 0 s1.toks, .int j t, .int 1 (s1.toks + 1)] }).objs.size := by rw [Heap.size_push]; omega
  refine ⟨.ref _, _, I1.laid (t' := tk) (o := .lst _) up hle ⟨?_, acc.toList, c, hv, ho⟩, rfl, q _ (I1.hok.fresh hle)⟩
  rw [List.length_map, List.length_range]
  exact Nat.le_of_lt (Nat.lt_of_le_of_lt hj (by decide))
theorem r_lrng {σ : St} {H : Hp} {Q : VK} {ta : TA} (h : ta σ H fun vs H1 => ∃ j : Nat, vs = [.int j] ∧ j ≤ 100000 ∧ ∀ p, H1 p = none → Q (.ref p) (upd H1 p (.lst ((List.range j).map fun i : Nat => V.int i)))) : tLRng ta σ H Q := h
end
/-! ### a def with one default -/
structure FunD (K : PySem.W.Frag) (x qual : Str) (st : Stmt) (f : Addr) (fd : FuncData) : Prop where
  ex : ∃ (oc : Value) (od : Option Addr) (T : Addr) (kV doc pm : Value) (an : Option Addr) (cdv ct : Value) (osl : Array (Option Value)) (o : Obj) (v : Value) (n : Nat),
    fd = PySem.W.fnOf x qual (defArgs st) (defBody st) (defScope st) (.ref T) kV doc pm an cdv ct ∧ K.lookup f = some ⟨oc, od, .func fd, osl⟩ ∧ PySem.W.codeIn K cdv qual = true ∧ K.lookup T = some o ∧ o.data = .seq #[v] n
section
variable {P : Program} {w : World} {K : PySem.W.Frag} {mg : Str → Option Value} {base : Heap}
theorem FunD.okE {x qual : Str} {st : Stmt} {f : Addr} {fd : FuncData} {N ps : List Str} {k : Nat} {sp : Sp} (F : FunD K x qual st f fd) (S : FnScope N ps (defScope st)) (len : ∀ vs H Q E, sp vs H Q E → vs.length = ps.length)
    (hbody : ∀ (cdv : Value) (A : Around) (outer : List Env) (s : Shared) (H : Hp) (vs : List V) (Q : VK) (E : XK), Room k (A.deeper (envOfC qual (defScope st) s.heap.objs.size f cdv)) → sp vs H Q E →
      ∃ t, PSs (cxOf (CXE P w) P w K mg base N qual (defScope st) f cdv A outer s H E) (defBody st) t ∧ t { nx := fun _ H' => Q .non H', rt := Q } (start N vs) H) : FnOk P w K mg base (CXE P w) (k + 1) f fd ps sp := by
  obtain ⟨oc, od, T, kV, doc, pm, an, cdv, ct, osl, o, v, n, rfl, lk, hcd, _⟩ := F.ex
  exact fn_of lk hcd S len fun A outer s H vs Q E hr hsp => hbody cdv A outer s H vs Q E hr hsp
theorem FunD.binds {x qual : Str} {st : Stmt} {f : Addr} {fd : FuncData} {ps : List Str} (F : FunD K x qual st f fd)
    (h : ∀ (T : Addr) (kV doc pm : Value) (an : Option Addr) (cdv ct : Value) (us : List Value), us.length = ps.length → ∃ k, bindArgs (PySem.W.fnOf x qual (defArgs st) (defBody st) (defScope st) (.ref T) kV doc pm an cdv ct) ⟨us, []⟩ = seqItems? (.ref T) >>= k ∧ ∀ v, k (some #[v]) = pure (ps.zip us)) : Binds K fd ps [] := by
  obtain ⟨oc, od, T, kV, doc, pm, an, cdv, ct, osl, o, v, n, rfl, lk, hcd, hT, hd⟩ := F.ex
  intro s us KX hl
  rw [List.append_nil] at hl ⊢
  obtain ⟨k, h1, h2⟩ := h T kV doc pm an cdv ct us hl
  exact BindsTo.of_defaults rfl (KX _ _ hT) hd h1 (h2 v)
theorem fun_mkD {x qual : Str} {st : Stmt} {f T : Addr} {oc : Value} {od an : Option Addr} {osl : Array (Option Value)} {kV doc pm cdv ct v : Value} {o : Obj} {n : Nat} (l : K.lookup f = some ⟨oc, od, .func (PySem.W.fnOf x qual (defArgs st) (defBody st) (defScope st) (.ref T) kV doc pm an cdv ct), osl⟩)
    (c : PySem.W.codeIn K cdv qual = true) (hT : K.lookup T = some o) (hd : o.data = .seq #[v] n) : FunD K x qual st f (PySem.W.fnOf x qual (defArgs st) (defBody st) (defScope st) (.ref T) kV doc pm an cdv ct) := ⟨⟨oc, od, T, kV, doc, pm, an, cdv, ct, osl, o, v, n, rfl, l, c, hT, hd⟩⟩
end
end L2
namespace L2
open PySem PySem.Spec PyProof.Rows
section
variable {σ : St} {H : Hp}
theorem r_gsub {to ti : TE} {t : TSet} {v : V} {R : St → Hp → Prop} (h : to σ H fun o H1 => ti σ H1 fun i H2 => t o i v H2 fun H3 => R σ H3) : gSub to ti t v σ H R := h
theorem ixN_nat {n j : Nat} (h : j < n) : ixN n (j : Int) = some j := by
  unfold ixN
  rw [if_pos (by omega), if_pos (by omega)]
  simp
theorem r_setL {p : Addr} {xs : List V} {j : Nat} {i : Int} {v : V} {R : Hp → Prop} (h : H p = some (.lst xs)) (hi : i = j) (hj : j < xs.length) (q : R (upd H p (.lst (xs.set j v)))) : rSetL (.ref p) (.int i) v H R :=
  ⟨p, xs, i, j, rfl, rfl, h, by rw [hi]; exact ixN_nat hj, q⟩
end
end L2
end

section
set_option Elab.async false
set_option linter.all false
set_option maxRecDepth 100000
set_option maxHeartbeats 4000000
namespace L2
open PySem PySem.Spec PyProof.Rows
/-! ### lists of pairs as tables -/
section
variable {κ : Type} [DecidableEq κ]
def valV (kvs : List (κ × V)) (k : κ) : Option V := (kvs.find? fun kv => decide (kv.1 = k)).map (·.2)
/-- in its place, or at the end -/
def putK (kvs : List (κ × V)) (k : κ) (v : V) : List (κ × V) :=
  if (kvs.any fun kv => decide (kv.1 = k)) = true then kvs.map (fun kv => if kv.1 = k then (kv.1, v) else kv) else kvs ++ [(k, v)]
theorem valV_pos {p : κ × V} {r : List (κ × V)} {k : κ} (e : p.1 = k) : valV (p :: r) k = some p.2 := by simp [valV, List.find?_cons, e]
theorem valV_neg {p : κ × V} {r : List (κ × V)} {k : κ} (e : ¬ p.1 = k) : valV (p :: r) k = valV r k := by simp [valV, List.find?_cons, e]
theorem valV_any (k : κ) : ∀ kvs : List (κ × V), (kvs.any fun kv => decide (kv.1 = k)) = (valV kvs k).isSome
  | [] => rfl
  | p :: r => by
    rw [List.any_cons]
    by_cases e : p.1 = k
    · simp only [valV_pos e, decide_eq_true e, Bool.true_or, Option.isSome_some]
    · rw [valV_neg e, decide_eq_false e, Bool.false_or]; exact valV_any k r
theorem valV_map (k j : κ) (y : V) : ∀ kvs : List (κ × V), valV (kvs.map fun kv => if kv.1 = k then (kv.1, y) else kv) j = (valV kvs j).map fun x => if j = k then y else x
  | [] => rfl
  | p :: r => by
    have ih := valV_map k j y r
    rw [List.map_cons]
    by_cases h : p.1 = k
    · rw [if_pos h]
      by_cases e : p.1 = j
      · rw [valV_pos (p := (p.1, y)) e, valV_pos e, Option.map_some, if_pos (e.symm.trans h)]
      · rw [valV_neg (p := (p.1, y)) e, valV_neg e, ih]
    · rw [if_neg h]
      by_cases e : p.1 = j
      · rw [valV_pos (p := p) e, valV_pos e, Option.map_some, if_neg (fun z => h (e.trans z))]
      · rw [valV_neg (p := p) e, valV_neg e, ih]
theorem valV_snoc (k j : κ) (y : V) : ∀ kvs : List (κ × V), valV kvs k = none → valV (kvs ++ [(k, y)]) j = if j = k then some y else valV kvs j
  | [], _ => by
    by_cases e : k = j
    · rw [if_pos e.symm]; exact valV_pos (p := (k, y)) e
    · rw [if_neg (fun z => e z.symm)]; exact valV_neg (p := (k, y)) e
  | p :: r, hn => by
    rw [List.cons_append]
    have hk : ¬ p.1 = k := fun z => by rw [valV_pos z] at hn; cases hn
    rw [valV_neg hk] at hn
    have ih := valV_snoc k j y r hn
    by_cases e : p.1 = j
    · rw [valV_pos e, valV_pos e, if_neg (fun z => hk (e.trans z))]
    · rw [valV_neg e, valV_neg e, ih]
theorem valV_put (kvs : List (κ × V)) (k j : κ) (y : V) : valV (putK kvs k y) j = if j = k then some y else valV kvs j := by
  unfold putK
  by_cases a : (kvs.any fun kv => decide (kv.1 = k)) = true
  · rw [if_pos a, valV_map]
    rw [valV_any] at a
    by_cases e : j = k
    · obtain ⟨x, hx⟩ := Option.isSome_iff_exists.mp a
      rw [if_pos e, e, hx, Option.map_some, if_pos rfl]
    · rw [if_neg e]
      cases valV kvs j with
      | none => rfl
      | some x => rw [Option.map_some, if_neg e]
  · rw [if_neg a]
    refine valV_snoc k j y kvs ?_
    rw [valV_any] at a
    cases q : valV kvs k with
    | none => rfl
    | some x => rw [q] at a; exact (a rfl).elim
theorem length_putK (kvs : List (κ × V)) (k : κ) (v : V) : (putK kvs k v).length ≤ kvs.length + 1 := by
  unfold putK
  split
  · rw [List.length_map]; omega
  · rw [List.length_append, List.length_cons, List.length_nil]; omega
theorem putK_new {kvs : List (κ × V)} {k : κ} (v : V) (h : valV kvs k = none) : putK kvs k v = kvs ++ [(k, v)] := by
  unfold putK
  rw [valV_any, h]
  exact if_neg (by decide)

theorem RelO.isSome_eq {o : Option V} {u : Option Value} (r : RelO o u) : o.isSome = u.isSome := by
  cases o with
  | none => cases u with
    | none => rfl
    | some _ => exact (show False from r).elim
  | some _ => cases u with
    | none => exact (show False from r).elim
    | some _ => rfl
/-- raw tables of the same keys -/
theorem KV.val {kvs : List (κ × V)} {vs : List (κ × Value)} (r : KV kvs vs) (k : κ) : RelO (valV kvs k) (valueAt vs k) := by
  unfold KV at r
  induction r with
  | nil => exact True.intro
  | @cons p q ps qs h t ih =>
    obtain ⟨h1, h2⟩ := h
    by_cases e : p.1 = k
    · have e' : q.1 = k := h1.symm.trans e
      have b : valueAt (q :: qs) k = some q.2 := by simp [valueAt, List.find?_cons, e']
      rw [valV_pos e, b]; exact h2
    · have e' : ¬ q.1 = k := fun z => e (h1.trans z)
      have b : valueAt (q :: qs) k = valueAt qs k := by simp [valueAt, List.find?_cons, e']
      rw [valV_neg e, b]; exact ih
theorem KV.any {kvs : List (κ × V)} {vs : List (κ × Value)} (r : KV kvs vs) (k : κ) : (kvs.any fun kv => decide (kv.1 = k)) = vs.any fun kv => decide (kv.1 = k) := by
  unfold KV at r
  induction r with
  | nil => rfl
  | cons h t ih => rw [List.any_cons, List.any_cons, ih, h.1]
theorem KV.repl {kvs : List (κ × V)} {vs : List (κ × Value)} (r : KV kvs vs) (k : κ) {y : V} {u : Value} (ry : RelV y u) :
    KV (kvs.map fun kv => if kv.1 = k then (kv.1, y) else kv) (vs.map fun kv => if kv.1 = k then (kv.1, u) else kv) := by
  unfold KV at r ⊢
  induction r with
  | nil => exact .nil
  | @cons p q ps qs h t ih =>
    rw [List.map_cons, List.map_cons]
    refine .cons ?_ ih
    obtain ⟨h1, h2⟩ := h
    by_cases e : p.1 = k
    · rw [if_pos e, if_pos (h1.symm.trans e)]; exact ⟨h1, ry⟩
    · rw [if_neg e, if_neg (fun z => e (h1.trans z))]; exact ⟨h1, h2⟩
theorem KV.put {kvs : List (κ × V)} {vs : List (κ × Value)} (r : KV kvs vs) (k : κ) {y : V} {u : Value} (ry : RelV y u) : KV (putK kvs k y) (stored vs k u) := by
  unfold putK stored
  rw [r.any k]
  by_cases e : (vs.any fun kv => decide (kv.1 = k)) = true
  · rw [if_pos e, if_pos e]; exact r.repl k ry
  · rw [if_neg e, if_neg e]; exact Paired.snoc r ⟨rfl, ry⟩
theorem KV.length {kvs : List (κ × V)} {vs : List (κ × Value)} (r : KV kvs vs) : kvs.length = vs.length := Paired.length r
end


/-! ### a tracked dict, its keys ints and texts or tuples of these -/
theorem kV_is {P : Program} {w : World} {k : Key} {u : Value} (r : RelV (kV k) u) : (mixKind P w).is k u = true := by
  cases k with
  | inl i => obtain ⟨t, e⟩ := (show ∃ t, u = Value.int i t from r); subst e; exact mixKind_int P w i t
  | inr x => obtain ⟨t, e⟩ := (show ∃ t, u = Value.str x t from r); subst e; exact mixKind_str P w x t
/-- raw entries of a dict with tuple keys -/
abbrev KT (H : Hp) : List (List Key × V) → List (List Key × Addr × Value) → Prop := Paired fun p q => p.1 = q.1 ∧ H q.2.1 = some (.tup (p.1.map kV)) ∧ RelV p.2 q.2.2
theorem KT.keeps {H H' : Hp} {kvs : List (List Key × V)} {xs : List (List Key × Addr × Value)} (r : KT H kvs xs) (ht : ∀ b ys, H b = some (.tup ys) → H' b = some (.tup ys)) : KT H' kvs xs :=
  Paired.mapP r fun _ _ z => ⟨z.1, ht _ _ z.2.1, z.2.2⟩

section
variable {P : Program} {w : World} {H : Hp} {h : Heap} {a : Addr}
theorem rd_of {u : HO} (ok : HOk P w H h) (e : Rd H a u) : ObjOk P w H h a u := e.ok ok
theorem dk_rd {kvs : List (Key × V)} (ok : HOk P w H h) (e : Rd H a (.dK kvs)) : kvs.length ≤ sizeLine ∧ (a == sysModules) = false ∧ ∃ vs, KV kvs vs ∧ h.DictOf (mixKind P w) a vs :=
  show ObjOk P w H h a (.dK kvs) from rd_of ok e
theorem dk_of {kvs : List (Key × V)} (ok : HOk P w H h) (e : H a = some (.dK kvs)) : kvs.length ≤ sizeLine ∧ (a == sysModules) = false ∧ ∃ vs, KV kvs vs ∧ h.DictOf (mixKind P w) a vs := dk_rd ok (.inl e)
end

/-- what the dict at a holds at the key y -/
def DGet (H : Hp) (a : Addr) (y : V) (r : Option V) : Prop :=
  (∃ kvs k, Rd H a (.dK kvs) ∧ y = kV k ∧ r = valV kvs k) ∨ ∃ kvs k b, Rd H a (.dT kvs) ∧ y = .ref b ∧ H b = some (.tup (k.map kV)) ∧ r = valV kvs k
/-- the heap behind a[y] = v -/
def DPut (H : Hp) (a : Addr) (y v : V) (H' : Hp) : Prop :=
  (∃ kvs k, H a = some (.dK kvs) ∧ y = kV k ∧ kvs.length < sizeLine ∧ H' = upd H a (.dK (putK kvs k v))) ∨
  ∃ kvs k b, H a = some (.dT kvs) ∧ y = .ref b ∧ H b = some (.tup (k.map kV)) ∧ kvs.length < sizeLine ∧ H' = upd H a (.dT (putK kvs k v))
theorem DGet.k {H : Hp} {a : Addr} {kvs : List (Key × V)} {k : Key} (e : H a = some (.dK kvs)) : DGet H a (kV k) (valV kvs k) := .inl ⟨kvs, k, .inl e, rfl, rfl⟩
theorem DGet.t {H : Hp} {a b : Addr} {kvs : List (List Key × V)} {k : List Key} (e : H a = some (.dT kvs)) (eb : H b = some (.tup (k.map kV))) : DGet H a (.ref b) (valV kvs k) := .inr ⟨kvs, k, b, .inl e, rfl, eb, rfl⟩
theorem DPut.k {H : Hp} {a : Addr} {kvs : List (Key × V)} {k : Key} {v : V} (e : H a = some (.dK kvs)) (hl : kvs.length < sizeLine) : DPut H a (kV k) v (upd H a (.dK (putK kvs k v))) := .inl ⟨kvs, k, e, rfl, hl, rfl⟩
theorem DPut.t {H : Hp} {a b : Addr} {kvs : List (List Key × V)} {k : List Key} {v : V} (e : H a = some (.dT kvs)) (eb : H b = some (.tup (k.map kV))) (hl : kvs.length < sizeLine) :
    DPut H a (.ref b) v (upd H a (.dT (putK kvs k v))) := .inr ⟨kvs, k, b, e, rfl, eb, hl, rfl⟩


section
variable {X : Cx} {pins : List (Addr × Obj)} {σ : St} {H : Hp} {s : Shared} {a : Addr} {y v : V} {u r : Value} {o : Option V} {A : Around} {E : Value → Shared → Prop}

/-- a dict's object is replaced -/
theorem d_write {h' : Heap} {t' : Nat} {ob : HO} (I : Inv X pins σ H s) (mu : Mut (H a)) (hs : Heap.SameBut a s.heap h') (he : ∃ q, h'.get? a = some q) (new : ObjOk X.prog X.w (upd H a ob) h' a ob) :
    Inv X pins σ (upd H a ob) { s with heap := h', toks := t' } :=
  I.write (x := a) (e := a) mu (.inl rfl) (fun b q hb z => (hs.2 b hb).trans z) he new
theorem dk_new {P : Program} {w : World} {H' : Hp} {h' : Heap} {kvs : List (Key × V)} {vs : List (Key × Value)} (z : kvs.length ≤ sizeLine) (hd : (a == sysModules) = false) (rel : KV kvs vs) (dd : h'.DictOf (mixKind P w) a vs) :
    ObjOk P w H' h' a (.dK kvs) := ⟨z, hd, vs, rel, dd⟩
end

section
variable {X : Cx} {pins : List (Addr × Obj)} {σ : St} {H : Hp} {s : Shared} {a : Addr} {kvs : List (Key × V)} {k : Key} {u : Value} {A : Around} {E : Value → Shared → Prop}
end


section
variable {X : Cx} {o i e value : Expr} {pos pos' tpos : Pos} {td ty tv : TE}
end


def mergeK (kvs more : List (Key × V)) : List (Key × V) := more.foldl (fun acc kv => putK acc kv.1 kv.2) kvs
theorem KV.merge : ∀ {more : List (Key × V)} {rs : List (Key × Value)} {kvs : List (Key × V)} {vs : List (Key × Value)}, KV more rs → KV kvs vs → KV (mergeK kvs more) (merged vs rs) := by
  intro more rs kvs vs r
  unfold KV at r
  induction r generalizing kvs vs with
  | nil => intro q; exact q
  | @cons p q ps qs h t ih =>
    intro r0
    have e : KV (putK kvs p.1 p.2) (stored vs q.1 q.2) := by
      have := r0.put p.1 h.2
      rw [← h.1]; exact this
    exact ih e
theorem length_mergeK : ∀ (more kvs : List (Key × V)), (mergeK kvs more).length ≤ kvs.length + more.length
  | [], kvs => by show kvs.length ≤ kvs.length + 0; omega
  | p :: r, kvs => by
    have h1 := length_mergeK r (putK kvs p.1 p.2)
    have h2 := length_putK kvs p.1 p.2
    show (mergeK (putK kvs p.1 p.2) r).length ≤ _
    rw [List.length_cons]; omega

end L2
end

section
set_option Elab.async false
set_option linter.all false
/-! Orders: rounds, shortcuts, the way back. -/
namespace TW
def nx (ns : List Nat) (x : Nat) : Nat := ns[x]?.getD 0
def itr (ns : List Nat) : Nat → Nat → Nat
  | 0, x => x
  | j + 1, x => nx ns (itr ns j x)
/-- each number below the length, once -/
structure Ord (ns : List Nat) : Prop where
  lt : ∀ x ∈ ns, x < ns.length
  nd : ns.Nodup
theorem at_nx {ns : List Nat} {x : Nat} (h : x < ns.length) : ns[x]? = some (nx ns x) := by
  unfold nx
  rw [List.getElem?_eq_getElem h]
  rfl
theorem itr_add (ns : List Nat) (a b x : Nat) : itr ns (a + b) x = itr ns a (itr ns b x) := by
  induction a with
  | zero => rw [Nat.zero_add]; rfl
  | succ a ih => rw [Nat.succ_add]; show nx ns _ = nx ns _; rw [ih]
section
variable {ns : List Nat} (o : Ord ns)
include o
theorem nx_lt {x : Nat} (h : x < ns.length) : nx ns x < ns.length := o.lt _ (List.mem_of_getElem? (at_nx h))
theorem nx_inj {x y : Nat} (hx : x < ns.length) (hy : y < ns.length) (h : nx ns x = nx ns y) : x = y := by
  have e1 := at_nx hx
  have e2 := at_nx hy
  rw [h] at e1
  rcases Nat.lt_trichotomy x y with hl | hl | hl
  · exact absurd (List.mem_of_getElem? e1) fun _ => (List.pairwise_iff_getElem.mp o.nd) x y hx hy hl (by
      rw [List.getElem?_eq_getElem hx] at e1
      rw [List.getElem?_eq_getElem hy] at e2
      exact (Option.some.inj e1).trans (Option.some.inj e2).symm)
  · exact hl
  · exact absurd (List.mem_of_getElem? e1) fun _ => (List.pairwise_iff_getElem.mp o.nd) y x hy hx hl (by
      rw [List.getElem?_eq_getElem hx] at e1
      rw [List.getElem?_eq_getElem hy] at e2
      exact (Option.some.inj e2).trans (Option.some.inj e1).symm)
theorem itr_lt {x : Nat} (h : x < ns.length) : ∀ j, itr ns j x < ns.length
  | 0 => h
  | j + 1 => nx_lt o (itr_lt h j)
theorem itr_inj {x y : Nat} (hx : x < ns.length) (hy : y < ns.length) : ∀ j, itr ns j x = itr ns j y → x = y
  | 0, h => h
  | j + 1, h => itr_inj hx hy j (nx_inj o (itr_lt o hx j) (itr_lt o hy j) h)
end
theorem few_below : ∀ (n : Nat) (l : List Nat), l.Nodup → (∀ x ∈ l, x < n) → l.length ≤ n
  | 0, [], _, _ => Nat.le_refl _
  | 0, x :: l, _, h => absurd (h x List.mem_cons_self) (Nat.not_lt_zero _)
  | n + 1, l, hn, h => by
    by_cases hm : n ∈ l
    · have h1 := few_below n (l.erase n) (hn.erase n) fun x hx => by
        have h2 := (hn.mem_erase_iff).mp hx
        have := h x h2.2
        omega
      rw [List.length_erase_of_mem hm] at h1
      omega
    · have := few_below n l hn fun x hx => by
        have := h x hx
        have : x ≠ n := fun e => hm (e ▸ hx)
        omega
      omega
theorem nodup_map_range {n : Nat} {f : Nat → Nat} (h : ∀ i j, i < j → j < n → f i ≠ f j) : ((List.range n).map f).Nodup := by
  rw [List.Nodup, List.pairwise_iff_getElem]
  intro i j hi hj hij
  rw [List.length_map, List.length_range] at hi hj
  rw [List.getElem_map, List.getElem_map, List.getElem_range, List.getElem_range]
  exact h i j hij hj
def per (ns : List Nat) (x : Nat) : Nat := (((List.range ns.length).find? fun j => itr ns (j + 1) x == x).getD 0) + 1
section
variable {ns : List Nat} (o : Ord ns)
include o
theorem ret_ex {x : Nat} (h : x < ns.length) : ∃ j, j < ns.length ∧ itr ns (j + 1) x = x := by
  refine Classical.byContradiction fun hc => ?_
  have hne : ∀ j, j < ns.length → itr ns (j + 1) x ≠ x := fun j hj e => hc ⟨j, hj, e⟩
  have h1 := few_below ns.length ((List.range (ns.length + 1)).map fun i => itr ns i x) (nodup_map_range fun i j hij hj e => by
    have e1 : j = i + ((j - i - 1) + 1) := by omega
    have e2 : itr ns i (itr ns ((j - i - 1) + 1) x) = itr ns i x := by rw [← itr_add, ← e1]; exact e.symm
    exact hne (j - i - 1) (by omega) (itr_inj o (itr_lt o h _) h i e2)) (fun y hy => by
    obtain ⟨i, _, rfl⟩ := List.mem_map.mp hy
    exact itr_lt o h i)
  rw [List.length_map, List.length_range] at h1
  omega
theorem per_spec {x : Nat} (h : x < ns.length) : itr ns (per ns x) x = x ∧ 0 < per ns x ∧ per ns x ≤ ns.length ∧ ∀ j, 0 < j → j < per ns x → itr ns j x ≠ x := by
  obtain ⟨j, hj, e⟩ := ret_ex o h
  unfold per
  cases hf : (List.range ns.length).find? fun j => itr ns (j + 1) x == x with
  | none =>
    have := List.find?_eq_none.mp hf j (List.mem_range.mpr hj)
    rw [beq_iff_eq] at this
    exact absurd e this
  | some k =>
    obtain ⟨h1, i, hi, e1, h2⟩ := List.find?_eq_some_iff_getElem.mp hf
    rw [List.length_range] at hi
    rw [List.getElem_range] at e1
    subst e1
    refine ⟨beq_iff_eq.mp h1, Nat.succ_pos _, hi, fun j' h0 hl e' => ?_⟩
    have hl : j' < i + 1 := hl
    have := h2 (j' - 1) (by omega)
    rw [List.getElem_range, Nat.sub_add_cancel h0] at this
    simp [e'] at this
theorem itr_ne {x a b : Nat} (h : x < ns.length) (hab : a < b) (hb : b < per ns x) : itr ns a x ≠ itr ns b x := fun e => by
  have e1 : b = a + (b - a) := by omega
  rw [e1, itr_add] at e
  exact (per_spec o h).2.2.2 (b - a) (by omega) (by omega) (itr_inj o (itr_lt o h _) h a e.symm)
end
/-- the round from x on -/
def cyc (ns : List Nat) (x : Nat) : List Nat := (List.range (per ns x)).map fun i => itr ns i x
theorem cyc_len {ns : List Nat} {x : Nat} : (cyc ns x).length = per ns x := by unfold cyc; rw [List.length_map, List.length_range]
theorem mem_cyc {ns : List Nat} {x y : Nat} : y ∈ cyc ns x ↔ ∃ i, i < per ns x ∧ itr ns i x = y := by
  unfold cyc
  rw [List.mem_map]
  exact ⟨fun ⟨i, hi, e⟩ => ⟨i, List.mem_range.mp hi, e⟩, fun ⟨i, hi, e⟩ => ⟨i, List.mem_range.mpr hi, e⟩⟩
def rnds (ns : List Nat) : Nat → List (List Nat)
  | 0 => []
  | k + 1 => if k ∈ (rnds ns k).flatten then rnds ns k else rnds ns k ++ [cyc ns k]
section
variable {ns : List Nat} (o : Ord ns)
include o
theorem cyc_nodup {x : Nat} (h : x < ns.length) : (cyc ns x).Nodup := nodup_map_range fun i j hij hj => itr_ne o h hij hj
theorem cyc_self {x : Nat} (h : x < ns.length) : x ∈ cyc ns x := mem_cyc.mpr ⟨0, (per_spec o h).2.1, rfl⟩
theorem cyc_nx {x y : Nat} (h : x < ns.length) (hy : y ∈ cyc ns x) : nx ns y ∈ cyc ns x := by
  obtain ⟨i, hi, rfl⟩ := mem_cyc.mp hy
  by_cases hl : i + 1 < per ns x
  · exact mem_cyc.mpr ⟨i + 1, hl, rfl⟩
  · have e : itr ns (i + 1) x = x := by rw [show i + 1 = per ns x by omega]; exact (per_spec o h).1
    have : nx ns (itr ns i x) = x := e
    rw [this]
    exact cyc_self o h
theorem cyc_itr {x y : Nat} (h : x < ns.length) (hy : y ∈ cyc ns x) : ∀ j, itr ns j y ∈ cyc ns x
  | 0 => hy
  | j + 1 => cyc_nx o h (cyc_itr h hy j)
theorem cyc_meet {x k y : Nat} (hx : x < ns.length) (hk : k < ns.length) (h1 : y ∈ cyc ns x) (h2 : y ∈ cyc ns k) : k ∈ cyc ns x := by
  obtain ⟨i, hi, rfl⟩ := mem_cyc.mp h2
  have := cyc_itr o hx h1 (per ns k - i)
  rw [← itr_add, Nat.sub_add_cancel (by omega), (per_spec o hk).1] at this
  exact this
theorem rnds_spec : ∀ k, k ≤ ns.length → (∀ R ∈ rnds ns k, ∃ c, c < k ∧ R = cyc ns c) ∧ (rnds ns k).flatten.Nodup ∧ ∀ x, x < k → x ∈ (rnds ns k).flatten
  | 0, _ => ⟨(fun R hR => by cases hR), List.nodup_nil, fun x hx => absurd hx (Nat.not_lt_zero _)⟩
  | k + 1, hk => by
    obtain ⟨h1, h2, h3⟩ := rnds_spec k (by omega)
    unfold rnds
    by_cases hm : k ∈ (rnds ns k).flatten
    · rw [if_pos hm]
      refine ⟨fun R hR => let ⟨c, hc, e⟩ := h1 R hR; ⟨c, by omega, e⟩, h2, fun x hx => ?_⟩
      rcases Nat.lt_or_eq_of_le (Nat.le_of_lt_succ hx) with h | h
      · exact h3 x h
      · rw [h]; exact hm
    · rw [if_neg hm]
      refine ⟨fun R hR => ?_, ?_, fun x hx => ?_⟩
      · rcases List.mem_append.mp hR with hR | hR
        · obtain ⟨c, hc, e⟩ := h1 R hR
          exact ⟨c, by omega, e⟩
        · exact ⟨k, Nat.lt_succ_self _, List.mem_singleton.mp hR⟩
      · rw [List.flatten_append, List.nodup_append]
        refine ⟨h2, by rw [List.flatten_singleton]; exact cyc_nodup o (by omega), fun y hy z hz e => ?_⟩
        subst e
        rw [List.flatten_singleton] at hz
        obtain ⟨R, hR, hyR⟩ := List.mem_flatten.mp hy
        obtain ⟨c, hc, rfl⟩ := h1 R hR
        exact hm (List.mem_flatten.mpr ⟨_, hR, cyc_meet o (by omega) (by omega) hyR hz⟩)
      · rw [List.flatten_append, List.mem_append, List.flatten_singleton]
        rcases Nat.lt_or_eq_of_le (Nat.le_of_lt_succ hx) with h | h
        · exact .inl (h3 x h)
        · rw [h]; exact .inr (cyc_self o (by omega))
/-- going round from a place that was not met, nothing met is found before the round is closed -/
theorem round_new {k j : Nat} (hk : k < ns.length) (hm : k ∉ (rnds ns k).flatten) (hj : j < per ns k) : itr ns j k ∉ (rnds ns k).flatten ∧ itr ns j k ∉ (List.range j).map fun i => itr ns i k := by
  refine ⟨fun hy => ?_, fun hy => ?_⟩
  · obtain ⟨R, hR, hyR⟩ := List.mem_flatten.mp hy
    obtain ⟨c, hc, rfl⟩ := (rnds_spec o k (by omega)).1 R hR
    exact hm (List.mem_flatten.mpr ⟨_, hR, cyc_meet o (by omega) hk hyR (mem_cyc.mpr ⟨j, hj, rfl⟩)⟩)
  · obtain ⟨i, hi, e⟩ := List.mem_map.mp hy
    exact itr_ne o hk (List.mem_range.mp hi) hj e
theorem round_end {k : Nat} (hk : k < ns.length) : itr ns (per ns k) k ∈ (List.range (per ns k)).map fun i => itr ns i k := by
  rw [(per_spec o hk).1]
  exact cyc_self o hk
end
/-! ### shortcuts -/
def marks (st : Nat) (R : List Nat) : List Nat := (List.range ((R.length + st - 1) / st)).map fun k => R[k * st]?.getD 0
def rot (l : List Nat) : List Nat := l.drop (l.length - 1) ++ l.take (l.length - 1)
def prs (st : Nat) (R : List Nat) : List (Nat × Nat) := if st < R.length then (marks st R).zip (rot (marks st R)) else []
def jmp (st : Nat) (rs : List (List Nat)) : List (Nat × Nat) := rs.flatMap (prs st)
def look (kvs : List (Nat × Nat)) (x : Nat) : Option Nat := (kvs.find? fun p => decide (p.1 = x)).map (·.2)
theorem look_none {kvs : List (Nat × Nat)} {x : Nat} (h : x ∉ kvs.map (·.1)) : look kvs x = none := by
  unfold look
  rw [List.find?_eq_none.mpr fun p hp e => h (List.mem_map.mpr ⟨p, hp, of_decide_eq_true e⟩)]
  rfl
theorem rot_len (l : List Nat) : (rot l).length = l.length := by
  unfold rot
  rw [List.length_append, List.length_drop, List.length_take]
  omega
theorem rot_at {l : List Nat} {k : Nat} (hk : k < l.length) : (rot l)[k]? = l[if k = 0 then l.length - 1 else k - 1]? := by
  unfold rot
  by_cases h0 : k = 0
  · rw [if_pos h0, h0, List.getElem?_append_left (by rw [List.length_drop]; omega), List.getElem?_drop]
    rfl
  · rw [if_neg h0, List.getElem?_append_right (by rw [List.length_drop]; omega), List.length_drop, List.getElem?_take, if_pos (by omega)]
    congr 1
    omega
theorem marks_len (st : Nat) (R : List Nat) : (marks st R).length = (R.length + st - 1) / st := by unfold marks; rw [List.length_map, List.length_range]
theorem mul_div_lt {a st k : Nat} (hs : 0 < st) : k < (a + st - 1) / st ↔ k * st < a := by
  rw [Nat.lt_iff_add_one_le, Nat.le_div_iff_mul_le hs, Nat.add_mul]
  omega
theorem marks_at {st k : Nat} {R : List Nat} (hs : 0 < st) (h : k * st < R.length) : (marks st R)[k]? = some R[k * st] := by
  unfold marks
  rw [List.getElem?_map, List.getElem?_range ((mul_div_lt hs).mpr h), Option.map_some, List.getElem?_eq_getElem h]
  rfl
theorem mem_marks {st x : Nat} {R : List Nat} (hs : 0 < st) : x ∈ marks st R ↔ ∃ k, k * st < R.length ∧ R[k * st]? = some x := by
  constructor
  · intro h
    obtain ⟨k, hk⟩ := List.getElem?_of_mem h
    have hl := (List.getElem?_eq_some_iff.mp hk).1
    rw [marks_len, mul_div_lt hs] at hl
    rw [marks_at hs hl] at hk
    exact ⟨k, hl, by rw [List.getElem?_eq_getElem hl]; exact hk⟩
  · rintro ⟨k, hk, e⟩
    have := marks_at hs hk
    rw [← List.getElem?_eq_getElem hk, e] at this
    exact List.mem_of_getElem? this
theorem marks_nodup {st : Nat} {R : List Nat} (hs : 0 < st) (h : R.Nodup) : (marks st R).Nodup := by
  rw [List.Nodup, List.pairwise_iff_getElem]
  intro i j hi hj hij
  have hi' := hi
  have hj' := hj
  rw [marks_len, mul_div_lt hs] at hi' hj'
  have e1 := marks_at hs hi'
  have e2 := marks_at hs hj'
  rw [List.getElem?_eq_getElem hi] at e1
  rw [List.getElem?_eq_getElem hj] at e2
  rw [Option.some.inj e1, Option.some.inj e2]
  exact (List.pairwise_iff_getElem.mp h) _ _ hi' hj' (Nat.mul_lt_mul_of_pos_right hij hs)
theorem prs_keys {st : Nat} {R : List Nat} : (prs st R).map (·.1) = if st < R.length then marks st R else [] := by
  unfold prs
  split
  · rw [List.map_fst_zip (by rw [rot_len]; exact Nat.le_refl _)]
  · rfl
theorem prs_sub {st x : Nat} {R : List Nat} (hs : 0 < st) (h : x ∈ (prs st R).map (·.1)) : x ∈ R := by
  rw [prs_keys] at h
  split at h
  · obtain ⟨k, _, e⟩ := (mem_marks hs).mp h
    exact List.mem_of_getElem? e
  · cases h
theorem jmp_sub {st x : Nat} (hs : 0 < st) {rs : List (List Nat)} (h : x ∈ (jmp st rs).map (·.1)) : x ∈ rs.flatten := by
  obtain ⟨p, hp, rfl⟩ := List.mem_map.mp h
  obtain ⟨R, hR, hpR⟩ := List.mem_flatMap.mp hp
  exact List.mem_flatten.mpr ⟨R, hR, prs_sub hs (List.mem_map_of_mem hpR)⟩
theorem jmp_nodup {st : Nat} (hs : 0 < st) : ∀ {rs : List (List Nat)}, rs.flatten.Nodup → ((jmp st rs).map (·.1)).Nodup
  | [], _ => List.nodup_nil
  | R :: rs, h => by
    rw [List.flatten_cons, List.nodup_append] at h
    unfold jmp
    rw [List.flatMap_cons, List.map_append, List.nodup_append]
    refine ⟨?_, jmp_nodup hs h.2.1, fun x hx y hy => h.2.2 x (prs_sub hs hx) y (jmp_sub hs hy)⟩
    rw [prs_keys]
    split
    · exact marks_nodup hs h.1
    · exact List.nodup_nil
theorem jmp_snoc (st : Nat) (rs : List (List Nat)) (R : List Nat) : jmp st (rs ++ [R]) = jmp st rs ++ prs st R := by
  unfold jmp
  rw [List.flatMap_append, List.flatMap_cons, List.flatMap_nil, List.append_nil]
theorem rnds_lt {ns : List Nat} (o : Ord ns) {k x : Nat} (hk : k ≤ ns.length) (h : x ∈ (rnds ns k).flatten) : x < ns.length := by
  obtain ⟨R, hR, hx⟩ := List.mem_flatten.mp h
  obtain ⟨c, hc, rfl⟩ := (rnds_spec o k hk).1 R hR
  obtain ⟨i, _, rfl⟩ := mem_cyc.mp hx
  exact itr_lt o (by omega) i
theorem jmp_len {ns : List Nat} (o : Ord ns) {st k : Nat} (hs : 0 < st) (hk : k ≤ ns.length) : (jmp st (rnds ns k)).length ≤ ns.length := by
  have := few_below ns.length ((jmp st (rnds ns k)).map (·.1)) (jmp_nodup hs (rnds_spec o k hk).2.1) fun x hx => rnds_lt o hk (jmp_sub hs hx)
  rw [List.length_map] at this
  exact this
theorem ord_perm {ns : List Nat} {n : Nat} (h : ns.Perm (List.range n)) : Ord ns := by
  have hl : ns.length = n := by rw [h.length_eq, List.length_range]
  refine ⟨fun x hx => ?_, h.nodup_iff.mpr List.nodup_range⟩
  rw [hl]
  exact List.mem_range.mp (h.mem_iff.mp hx)
theorem ord_shift (n c : Nat) : Ord ((List.range n).map fun k => (k + 1 + c) % n) := by
  refine ⟨fun x hx => ?_, nodup_map_range fun i j hij hj e => ?_⟩
  · obtain ⟨k, hk, rfl⟩ := List.mem_map.mp hx
    rw [List.length_map, List.length_range]
    exact Nat.mod_lt _ (by have := List.mem_range.mp hk; omega)
  · have e1 := Nat.sub_mod_eq_zero_of_mod_eq e.symm
    rw [show j + 1 + c - (i + 1 + c) = j - i by omega] at e1
    rw [Nat.mod_eq_of_lt (by omega)] at e1
    omega
theorem ord_surj {ns : List Nat} (o : Ord ns) {x : Nat} (h : x < ns.length) : ∃ k, k < ns.length ∧ nx ns k = x := by
  obtain ⟨h1, h2, _⟩ := per_spec o h
  refine ⟨itr ns (per ns x - 1) x, itr_lt o h _, ?_⟩
  have e : itr ns (per ns x - 1 + 1) x = x := by rw [Nat.sub_add_cancel h2]; exact h1
  exact e
theorem ord_turn {ns fs : List Nat} (o : Ord ns) (hl : fs.length = ns.length) (h : ∀ k, k < ns.length → fs[nx ns k]? = some (nx ns ((k + 1) % ns.length))) : Ord fs := by
  have key : ∀ x, x < fs.length → ∃ k, k < ns.length ∧ nx ns k = x ∧ fs[x]? = some (nx ns ((k + 1) % ns.length)) := fun x hx => by
    obtain ⟨k, hk, e⟩ := ord_surj o (x := x) (by omega)
    exact ⟨k, hk, e, by rw [← e]; exact h k hk⟩
  refine ⟨fun y hy => ?_, ?_⟩
  · obtain ⟨x, hx⟩ := List.getElem?_of_mem hy
    obtain ⟨k, hk, _, e⟩ := key x (List.getElem?_eq_some_iff.mp hx).1
    rw [hx] at e
    rw [Option.some.inj e, hl]
    exact nx_lt o (Nat.mod_lt _ (by omega))
  · rw [List.Nodup, List.pairwise_iff_getElem]
    intro i j hi hj hij e
    obtain ⟨a, ha, ea, fa⟩ := key i hi
    obtain ⟨b, hb, eb, fb⟩ := key j hj
    rw [List.getElem?_eq_getElem hi] at fa
    rw [List.getElem?_eq_getElem hj] at fb
    have e1 := nx_inj o (Nat.mod_lt _ (by omega)) (Nat.mod_lt _ (by omega)) ((Option.some.inj fa).symm.trans (e.trans (Option.some.inj fb)))
    have e2 : a = b := by
      by_cases h1 : a + 1 < ns.length
      · by_cases h2 : b + 1 < ns.length
        · rw [Nat.mod_eq_of_lt h1, Nat.mod_eq_of_lt h2] at e1; omega
        · rw [Nat.mod_eq_of_lt h1, show b + 1 = ns.length by omega, Nat.mod_self] at e1; omega
      · by_cases h2 : b + 1 < ns.length
        · rw [Nat.mod_eq_of_lt h2, show a + 1 = ns.length by omega, Nat.mod_self] at e1; omega
        · omega
    rw [← ea, ← eb, e2] at hij
    omega
/-- the same by the places that the step divides -/
theorem marks_filter (st : Nat) (hs : 0 < st) (R : List Nat) : ((List.range R.length).filter fun k => k % st == 0).map (fun k => R[k]?.getD 0) = marks st R := by
  have key : ∀ n, (List.range n).filter (fun k => k % st == 0) = (List.range ((n + st - 1) / st)).map (· * st) := fun n => by
    induction n with
    | zero => rw [Nat.zero_add, Nat.div_eq_of_lt (by omega)]; rfl
    | succ n ih =>
      rw [List.range_succ, List.filter_append, ih]
      have hd := Nat.div_add_mod n st
      have hm := Nat.mod_lt n hs
      have d3 : st * (n / st) = n / st * st := Nat.mul_comm _ _
      have e2 : (n + 1 + st - 1) / st = n / st + 1 := by
        rw [show n + 1 + st - 1 = n + st by omega, Nat.add_div_right _ hs]
      by_cases h0 : n % st = 0
      · have e1 : (n + st - 1) / st = n / st := Nat.div_eq_of_lt_le (by omega) (by rw [Nat.add_mul]; omega)
        have e3 : [n].filter (fun k => k % st == 0) = [n / st * st] := by
          rw [show n / st * st = n by omega]
          simp [h0]
        rw [e1, e2, List.range_succ, List.map_append, e3]
        rfl
      · have e1 : (n + st - 1) / st = n / st + 1 := Nat.div_eq_of_lt_le (by rw [Nat.add_mul]; omega) (by rw [Nat.add_mul, Nat.add_mul]; omega)
        have e3 : [n].filter (fun k => k % st == 0) = [] := by simp [h0]
        rw [e1, e2, e3, List.append_nil]
  rw [key, List.map_map]
  rfl
/-! ### going round, as a program does -/
def seg (ns : List Nat) (j k : Nat) : List Nat := (List.range j).map fun i => itr ns i k
def rl (ns : List Nat) (k : Nat) : Nat := if k ∈ (rnds ns k).flatten then 0 else per ns k
theorem seg_succ (ns : List Nat) (j k : Nat) : seg ns (j + 1) k = seg ns j k ++ [itr ns j k] := by
  unfold seg
  rw [List.range_succ, List.map_append]
  rfl
theorem seg_len (ns : List Nat) (j k : Nat) : (seg ns j k).length = j := by unfold seg; rw [List.length_map, List.length_range]
theorem rnds_len (ns : List Nat) : ∀ k, (rnds ns k).length ≤ k
  | 0 => Nat.le_refl _
  | k + 1 => by
    have := rnds_len ns k
    unfold rnds
    split
    · omega
    · rw [List.length_append]
      simp
      omega
section
variable {ns : List Nat} (o : Ord ns) {k j : Nat} (hk : k < ns.length)
include o hk
theorem rl_le : rl ns k ≤ ns.length := by
  unfold rl
  split
  · exact Nat.zero_le _
  · exact (per_spec o hk).2.2.1
theorem rl_stop (hj : j ≤ rl ns k) : itr ns j k ∈ (rnds ns k).flatten ++ seg ns j k ↔ j = rl ns k := by
  unfold rl at hj ⊢
  split at hj
  · rename_i hm
    rw [if_pos hm]
    have : j = 0 := by omega
    subst this
    exact ⟨fun _ => rfl, fun _ => List.mem_append_left _ hm⟩
  · rename_i hm
    rw [if_neg hm]
    constructor
    · intro h
      rcases Nat.lt_or_eq_of_le hj with hl | hl
      · have := round_new o hk hm hl
        rcases List.mem_append.mp h with h | h
        · exact absurd h this.1
        · exact absurd h this.2
      · exact hl
    · intro h
      rw [h]
      exact List.mem_append_right _ (round_end o hk)
theorem rnds_next : rnds ns (k + 1) = if 0 < (seg ns (rl ns k) k).length then rnds ns k ++ [seg ns (rl ns k) k] else rnds ns k := by
  rw [seg_len]
  show (if k ∈ (rnds ns k).flatten then _ else _) = _
  unfold rl
  by_cases hm : k ∈ (rnds ns k).flatten
  · rw [if_pos hm, if_pos hm, if_neg (Nat.lt_irrefl _)]
  · rw [if_neg hm, if_neg hm, if_pos (per_spec o hk).2.1]
    rfl
theorem flat_next : (rnds ns (k + 1)).flatten = (rnds ns k).flatten ++ seg ns (rl ns k) k := by
  rw [rnds_next o hk]
  split
  · rw [List.flatten_append, List.flatten_singleton]
  · rename_i h
    rw [List.length_eq_zero_iff.mp (show (seg ns (rl ns k) k).length = 0 by omega), List.append_nil]
end
/-- which are met -/
def MetB (ms : List Bool) (S : List Nat) (n : Nat) : Prop := ms.length = n ∧ ∀ (i : Nat) b, ms[i]? = some b → (b = true ↔ i ∈ S)
theorem metB_none (n : Nat) : MetB (List.replicate n false) [] n := by
  refine ⟨List.length_replicate, fun i b h => ?_⟩
  rw [List.getElem?_replicate] at h
  split at h
  · cases h
    exact ⟨fun z => by (cases z), fun h => by (cases h)⟩
  · cases h
theorem MetB.put {ms : List Bool} {S : List Nat} {n y : Nat} (h : MetB ms S n) : MetB (ms.set y true) (S ++ [y]) n := by
  refine ⟨by rw [List.length_set]; exact h.1, fun i b hb => ?_⟩
  rw [List.getElem?_set] at hb
  by_cases e : y = i
  · rw [if_pos e] at hb
    split at hb
    · cases hb
      exact ⟨fun _ => by rw [e]; simp, fun _ => rfl⟩
    · cases hb
  · rw [if_neg e] at hb
    rw [h.2 i b hb, List.mem_append, List.mem_singleton]
    exact ⟨fun h => .inl h, fun h => h.resolve_right fun z => e z.symm⟩
end TW
end

section
set_option Elab.async false
set_option linter.all false
set_option maxRecDepth 100000
set_option maxHeartbeats 4000000
/-! Dicts with their content: dict(zip(a, b)), d.update(e), x in d, d[k], d[k] = v; xs[::st]; a class called with a default left out. -/
namespace L2
open PySem PySem.Spec PyProof.Rows
def mrgI (vs : List (Key × Value)) : List Int → List Value → List (Key × Value)
  | k :: ks, u :: us => mrgI (stored vs (.inl k) u) ks us
  | _, _ => vs
theorem mrgI_nil {vs : List (Key × Value)} : ∀ (ks : List Int), mrgI vs ks [] = vs
  | [] => rfl
  | _ :: _ => rfl
theorem mrgI_at {vs : List (Key × Value)} {ks : List Int} {us : List Value} {i : Nat} {n : Int} {u : Value} (h1 : ks[i]? = some n) (h2 : us[i]? = some u) : mrgI vs (ks.drop i) (us.drop i) = mrgI (stored vs (.inl n) u) (ks.drop (i + 1)) (us.drop (i + 1)) := by
  obtain ⟨l1, e1⟩ := List.getElem?_eq_some_iff.mp h1
  obtain ⟨l2, e2⟩ := List.getElem?_eq_some_iff.mp h2
  rw [List.drop_eq_getElem_cons l1, List.drop_eq_getElem_cons l2, e1, e2]
  rfl
section
variable {prog : Program} {w : World} {A : Around} {E : Value → Shared → Prop} {R : Result → Shared → Prop}
/-- from the second pair on -/
theorem upd_goX {d z TI TO i1 i2 l1 l2 T : Addr} {xs ys : Array Value} {ks : List Int} (D : DzA d z TI TO i1 i2 l1 l2) (hTz : T ≠ z) (hT1 : T ≠ i1) (hT2 : T ≠ i2) (hTd : T ≠ d) (hh : A.handled = none) (he : xs.size = ys.size)
    (hk : ∀ (i : Nat) x, xs[i]? = some x → ∃ n t, ks[i]? = some n ∧ x = Value.int n t) : ∀ (m i : Nat) (s : Shared) (tk : Tok) (c : Bool) (vs : List (Key × Value)) (oT : Obj), xs.size - i = m → i ≤ xs.size → zHeld s.heap z TI TO T c → s.heap.get? T = some oT → IsPair s.heap TI (.ref i1) (.ref i2) →
      s.heap.IsListIter i1 l1 i → s.heap.IsListIter i2 l2 i → s.heap.IsList l1 xs → s.heap.IsList l2 ys → s.heap.DictOf (mixKind prog w) d vs → vs.length + (xs.size - i) ≤ sizeLine →
      (∀ h' k vs', h'.DictOf (mixKind prog w) d vs' → vs' = mrgI vs (ks.drop i) (ys.toList.drop i) → (∀ b o, b ≠ z → b ≠ i1 → b ≠ i2 → b ≠ d → s.heap.get? b = some o → h'.get? b = some o) → R (.ok (.ret .none)) { s with heap := h', toks := k }) →
      codeAny (model prog w) A (.builtin "dict.update.loop" ⟨[.ref d, .ref z, .int i tk, .none], []⟩) R s := by
  intro m
  induction m with
  | zero =>
    intro i s tk c vs oT hm hi hz hT hTI h1 h2 hl1 hl2 hd hsz q
    refine codeAny_builtin entry_upd_loop ?_
    rw [Around.under_plainId plain_upd_loop _]
    show wpAny _ A.in1 (pyNext (.ref z) >>= _) _ _ s
    refine wpAny_bind (held_end (by exact hh) D.za hz hT hTI h1 hl1 (Array.getElem?_eq_none (by omega)) fun h' kp => ?_)
    show wpAny _ A.in1 (Builtin.Dict.addKeywords d [] >>= _) _ _ _
    refine wpAny_bind (wpAny_pure (wpAny_pure ?_))
    obtain ⟨o, es, ep, ho, r⟩ := hd
    exact q h' s.toks vs ⟨o, es, ep, kp _ _ D.dz D.d1 D.d2 ho, r⟩ (by rw [List.drop_of_length_le (l := ys.toList) (by rw [Array.length_toList]; omega), mrgI_nil]) fun b o b1 b2 b3 _ e => kp b o b1 b2 b3 e
  | succ m ih =>
    intro i s tk c vs oT hm hi hz hT hTI h1 h2 hl1 hl2 hd hsz q
    obtain ⟨x, hx⟩ : ∃ x, xs[i]? = some x := ⟨_, Array.getElem?_eq_getElem (show i < xs.size by omega)⟩
    obtain ⟨y, hy⟩ : ∃ y, ys[i]? = some y := ⟨_, Array.getElem?_eq_getElem (show i < ys.size by omega)⟩
    obtain ⟨n, t, hn, rfl⟩ := hk i x hx
    refine codeAny_builtin entry_upd_loop ?_
    rw [Around.under_plainId plain_upd_loop _]
    show wpAny _ A.in1 (pyNext (.ref z) >>= _) _ _ s
    refine wpAny_bind (held_next D.za hz hT hTI h1 h2 hl1 hl2 hx hy fun h' hz' h1' h2' hp hsz' kp => ?_)
    have hd' : h'.DictOf (mixKind prog w) d vs := by
      obtain ⟨o, es, ep, ho, r⟩ := hd
      exact ⟨o, es, ep, kp _ _ D.dz D.d1 D.d2 ho, r⟩
    show wpAny _ A.in1 (holding _ _ >>= _) _ _ _
    refine wpAny_bind (wpAny_holding (wpAny_bind (wpAny_tryCatch (pair_items hp ?_))))
    show wpAny _ A.in1 (holding _ (dictSet d (.int n t) y)) _ _ _
    refine wpAny_holding (wpAny_dictSet_pairs (knd := mixKind prog w) (k := .inl n) (mixKind_int prog w n t) hd' (fun h2 dd' hs => ?_) (by omega))
    have k2 : ∀ b o, b ≠ z → b ≠ i1 → b ≠ i2 → b ≠ d → s.heap.get? b = some o → h2.get? b = some o := fun b o b1 b2 b3 b4 e => (hs.2 b b4).trans (kp b o b1 b2 b3 e)
    have st : ∀ b o, b ≠ d → h'.get? b = some o → h2.get? b = some o := fun b o b4 e => (hs.2 b b4).trans e
    have hln := stored_length_le vs (Sum.inl n : Key) y
    refine wpAny_pure ⟨plainId_quiet plain_upd_loop _, ?_⟩
    refine ih (i + 1) _ _ true _ oT (by omega) (by omega) (st _ _ D.dz.symm hz') (k2 _ _ hTz hT1 hT2 hTd hT) (k2 _ _ D.za.TIz D.za.TIi1 D.za.TIi2 D.dI.symm hTI) (h1'.at fun o e => st _ o D.d1.symm e) (h2'.at fun o e => st _ o D.d2.symm e)
      (hl1.at fun o e => k2 _ o D.za.l1z D.za.l1i1 D.za.l1i2 D.dl.symm e) (hl2.at fun o e => k2 _ o D.za.l2z D.za.l2i1 D.za.l2i2 D.dm.symm e) dd' (by omega) fun h3 k vs' hd3 e3 kp3 => ?_
    exact q h3 k vs' hd3 (by rw [e3, mrgI_at hn (show ys.toList[i]? = some y by rw [Array.getElem?_toList]; exact hy)]) fun b o b1 b2 b3 b4 e => kp3 b o b1 b2 b3 b4 (k2 b o b1 b2 b3 b4 e)
/-- from the first pair on -/
theorem upd_firstX {s : Shared} {tk : Tok} {d z TI TO i1 i2 l1 l2 : Addr} {a b : Value} {xs ys : Array Value} {ks : List Int} {vs : List (Key × Value)} (D : DzA d z TI TO i1 i2 l1 l2) (hh : A.handled = none) (he : xs.size = ys.size)
    (hk : ∀ (i : Nat) x, xs[i]? = some x → ∃ n t, ks[i]? = some n ∧ x = Value.int n t) (hz : IsZip s.heap z TI TO .none) (hTO : IsPair s.heap TO a b) (hTI : IsPair s.heap TI (.ref i1) (.ref i2))
    (h1 : s.heap.IsListIter i1 l1 0) (h2 : s.heap.IsListIter i2 l2 0) (hl1 : s.heap.IsList l1 xs) (hl2 : s.heap.IsList l2 ys) (hd : s.heap.DictOf (mixKind prog w) d vs) (hsz : vs.length + xs.size ≤ sizeLine)
    (q : ∀ h' k vs', h'.DictOf (mixKind prog w) d vs' → vs' = mrgI vs ks ys.toList → (∀ b o, b ≠ z → b ≠ TO → b ≠ i1 → b ≠ i2 → b ≠ d → s.heap.get? b = some o → h'.get? b = some o) → R (.ok (.ret .none)) { s with heap := h', toks := k }) :
    codeAny (model prog w) A (.builtin "dict.update.loop" ⟨[.ref d, .ref z, .int 0 tk, .none], []⟩) R s := by
  refine codeAny_builtin entry_upd_loop ?_
  rw [Around.under_plainId plain_upd_loop _]
  show wpAny _ A.in1 (pyNext (.ref z) >>= _) _ _ s
  rcases Nat.eq_zero_or_pos xs.size with h0 | h0
  · refine wpAny_bind (wpAny_pyNext_zip_end (by exact hh) D.za hz hTI hTO h1 h2 hl1 hl2 (.inl (Array.getElem?_eq_none (by omega))) fun h' kp => ?_)
    show wpAny _ A.in1 (Builtin.Dict.addKeywords d [] >>= _) _ _ _
    refine wpAny_bind (wpAny_pure (wpAny_pure ?_))
    obtain ⟨o, es, ep, ho, r⟩ := hd
    exact q h' s.toks vs ⟨o, es, ep, kp _ _ D.dz D.dO D.d1 D.d2 ho, r⟩ (by rw [show ys.toList = [] from List.length_eq_zero_iff.mp (by rw [Array.length_toList]; omega), mrgI_nil]) fun b o b1 b2 b3 b4 _ e => kp b o b1 b2 b3 b4 e
  · obtain ⟨x, hx⟩ : ∃ x, xs[0]? = some x := ⟨_, Array.getElem?_eq_getElem h0⟩
    obtain ⟨y, hy⟩ : ∃ y, ys[0]? = some y := ⟨_, Array.getElem?_eq_getElem (show 0 < ys.size by omega)⟩
    obtain ⟨n, t, hn, rfl⟩ := hk 0 x hx
    refine wpAny_bind (wpAny_pyNext_zip_item D.za hz hTI hTO h1 h2 hl1 hl2 hx hy fun h' hz' _ h1' h2' hp hsz' kp => ?_)
    have hd' : h'.DictOf (mixKind prog w) d vs := by
      obtain ⟨o, es, ep, ho, r⟩ := hd
      exact ⟨o, es, ep, kp _ _ D.dz D.dO D.d1 D.d2 ho, r⟩
    have lt : ∀ {c o}, s.heap.get? c = some o → s.heap.objs.size ≠ c := fun e => Nat.ne_of_gt (Heap.lt_size e)
    have ltd : s.heap.objs.size ≠ d := by
      obtain ⟨o, es, ep, ho, r⟩ := hd
      exact lt ho
    show wpAny _ A.in1 (holding _ _ >>= _) _ _ _
    refine wpAny_bind (wpAny_holding (wpAny_bind (wpAny_tryCatch (pair_items hp ?_))))
    show wpAny _ A.in1 (holding _ (dictSet d (.int n t) y)) _ _ _
    refine wpAny_holding (wpAny_dictSet_pairs (knd := mixKind prog w) (k := .inl n) (mixKind_int prog w n t) hd' (fun hb dd' hs => ?_) (by omega))
    have k2 : ∀ b o, b ≠ z → b ≠ TO → b ≠ i1 → b ≠ i2 → b ≠ d → s.heap.get? b = some o → hb.get? b = some o := fun b o b1 b2 b3 b5 b4 e => (hs.2 b b4).trans (kp b o b1 b2 b3 b5 e)
    have st : ∀ b o, b ≠ d → h'.get? b = some o → hb.get? b = some o := fun b o b4 e => (hs.2 b b4).trans e
    have hln := stored_length_le vs (Sum.inl n : Key) y
    refine wpAny_pure ⟨plainId_quiet plain_upd_loop _, ?_⟩
    refine upd_goX D (T := s.heap.objs.size) (lt hz) (by obtain ⟨_, e, _⟩ := h1; exact lt e) (by obtain ⟨_, e, _⟩ := h2; exact lt e) ltd hh he hk _ 1 _ _ false _ _ rfl h0 (st _ _ D.dz.symm hz') (st _ _ ltd hp) (k2 _ _ D.za.TIz D.za.TITO D.za.TIi1 D.za.TIi2 D.dI.symm hTI) (h1'.at fun o e => st _ o D.d1.symm e) (h2'.at fun o e => st _ o D.d2.symm e)
      (hl1.at fun o e => k2 _ o D.za.l1z D.za.l1TO D.za.l1i1 D.za.l1i2 D.dl.symm e) (hl2.at fun o e => k2 _ o D.za.l2z D.za.l2TO D.za.l2i1 D.za.l2i2 D.dm.symm e) dd' (by omega) fun h3 k vs' hd3 e3 kp3 => ?_
    exact q h3 k vs' hd3 (by rw [e3]; exact (mrgI_at (i := 0) hn (show ys.toList[0]? = some y by rw [Array.getElem?_toList]; exact hy)).symm) fun b o b1 b2 b3 b5 b4 e => kp3 b o b1 b3 b5 b4 (k2 b o b1 b2 b3 b5 b4 e)
theorem call_dict_zipX {s : Shared} {z TI TO i1 i2 l1 l2 : Addr} {a b : Value} {xs ys : Array Value} {ks : List Int} {Q : Value → Shared → Prop} (D : ZipApart z TI TO i1 i2 l1 l2) (hh : A.handled = none) (he : xs.size = ys.size)
    (hk : ∀ (i : Nat) x, xs[i]? = some x → ∃ n t, ks[i]? = some n ∧ x = Value.int n t) (hz : IsZip s.heap z TI TO .none) (hTO : IsPair s.heap TO a b) (hTI : IsPair s.heap TI (.ref i1) (.ref i2))
    (h1 : s.heap.IsListIter i1 l1 0) (h2 : s.heap.IsListIter i2 l2 0) (hl1 : s.heap.IsList l1 xs) (hl2 : s.heap.IsList l2 ys) (hsz : xs.size ≤ sizeLine)
    (q : ∀ h' k vs', h'.DictOf (mixKind prog w) s.heap.objs.size vs' → vs' = mrgI [] ks ys.toList → (∀ b o, b ≠ z → b ≠ TO → b ≠ i1 → b ≠ i2 → s.heap.get? b = some o → h'.get? b = some o) → Q (.ref s.heap.objs.size) { s with heap := h', toks := k }) :
    wpAny (model prog w) A (call (.type "dict") [.ref z]) Q E s := by
  refine callType_codes (Q₁ := fun obj s₁ => obj = .ref s.heap.objs.size ∧ s₁ = { s with heap := s.heap.push { cls := .type "dict", data := .dict #[] } }) PySem.F.kt_called_dict (PySem.F.kt_typeCall_dict_1 _) PySem.F.entry_dict_init (kt_code_dict_new _ ⟨rfl, rfl⟩) ?_
  rintro obj s₁ ⟨rfl, rfl⟩
  have hnew : (s.heap.push { cls := .type "dict", data := .dict #[] }).DictOf (mixKind prog w) s.heap.objs.size [] := Heap.DictOf.new s.heap
  have up : ∀ b o, s.heap.get? b = some o → (s.heap.push { cls := .type "dict", data := .dict #[] }).get? b = some o := fun b o e => Heap.get?_push_of_some _ e
  have lt : ∀ {c o}, s.heap.get? c = some o → s.heap.objs.size ≠ c := fun e => Nat.ne_of_gt (Heap.lt_size e)
  refine ⟨hnew.typeIs, PySem.F.args_dict_init_2 _ _, ?_⟩
  unfold Builtin.«dict.__init__»
  refine wpAny_bind ?_
  unfold Builtin.Dict.selfAndRest
  refine wpAny_bind (wpAny_notOrdered_dict hnew.typeIs ?_)
  show wpAny _ _ (pure (s.heap.objs.size, [Value.ref z])) _ _ _
  refine wpAny_pure ?_
  show wpAny _ _ (Builtin.Dict.updateFrom "dict.__init__" s.heap.objs.size (.ref z) [] .none) _ _ _
  unfold Builtin.Dict.updateFrom
  have hz' := up _ _ hz
  refine wpAny_bind (wpAny_typeOf (T := "zip") ⟨_, hz', rfl⟩ ?_)
  rw [if_pos (by decide)]
  refine wpAny_bind (no_keys hz' (by exact hh) fun h' tk kp => ?_)
  rw [if_pos (by rfl)]
  refine wpAny_bind (wpAny_rule (wpAny_bind (wpAny_pyIter_zip (kp _ _ hz') ?_)))
  have up2 : ∀ b o, s.heap.get? b = some o → h'.get? b = some o := fun b o e => kp _ _ (up b o e)
  have hd' : h'.DictOf (mixKind prog w) s.heap.objs.size [] := by
    obtain ⟨o, es, ep, ho, r⟩ := hnew
    exact ⟨o, es, ep, kp _ _ ho, r⟩
  refine wpAny_pure ⟨plainId_quiet plain_upd_loop _, ?_⟩
  refine upd_firstX (a := a) (b := b) (vs := []) ⟨D, lt hz, lt hTI, lt hTO, ?_, ?_, ?_, ?_⟩ (by exact hh) he hk (up2 _ _ hz) (up2 _ _ hTO) (up2 _ _ hTI) (h1.at fun o e => up2 _ o e) (h2.at fun o e => up2 _ o e) (hl1.at fun o e => up2 _ o e) (hl2.at fun o e => up2 _ o e) hd' (by simpa using hsz) fun h3 k vs' hd3 e3 kp3 => ?_
  · obtain ⟨_, e, _⟩ := h1; exact lt e
  · obtain ⟨_, e, _⟩ := h2; exact lt e
  · obtain ⟨_, e, _⟩ := hl1; exact lt e
  · obtain ⟨_, e, _⟩ := hl2; exact lt e
  · exact ⟨rfl, q h3 k vs' hd3 e3 fun b o b1 b2 b3 b4 e => kp3 b o b1 b2 b3 b4 (lt e).symm (up2 _ _ e)⟩
end
end L2
end

section
set_option Elab.async false
set_option linter.all false
set_option maxRecDepth 100000
set_option maxHeartbeats 4000000
/-! Dicts with their content: the rules. -/
namespace L2
open PySem PySem.Spec PyProof.Rows
def mrgV (kvs : List (Key × V)) : List Int → List V → List (Key × V)
  | k :: ks, y :: ys => mrgV (putK kvs (.inl k) y) ks ys
  | _, _ => kvs
theorem kv_mrg : ∀ {ks : List Int} {ys : List V} {us : List Value} {kvs : List (Key × V)} {vs : List (Key × Value)}, KV kvs vs → Vals ys us → KV (mrgV kvs ks ys) (mrgI vs ks us)
  | [], _, _, _, _, h, _ => h
  | _ :: _, _, _, _, _, h, .nil => h
  | k :: ks, y :: ys, u :: us, kvs, vs, h, .cons r t => by
    show KV (mrgV (putK kvs (.inl k) y) ks ys) (mrgI (stored vs (.inl k) u) ks us)
    exact kv_mrg (h.put (.inl k) r) t
section
variable {X : Cx}
def tDZipX (K : PySem.W.Frag) (ta : TA) : TE := fun σ H Q => ta σ H fun vs H1 => ∃ a b ns ys, vs = [.ref a, .ref b] ∧ SqL K H1 a (List.map V.int ns) ∧ SqL K H1 b ys ∧ ns.length = ys.length ∧ (mrgV [] ns ys).length ≤ ns.length ∧ ∀ p, H1 p = none → Q (.ref p) (upd H1 p (.dK (mrgV [] ns ys)))
theorem pe_dzipX {a b : Expr} {ta : TA} {p q pos pos2 : Pos} (hcal : X.calm = true) (hg : Gl X "dict") (hm : X.mg "dict" = none) (hg2 : Gl X "zip") (hm2 : X.mg "zip" = none) (ha : PA X [a, b] ta)
    (hs : starEach [a, b] X.env = [(false, eval a X.env), (false, eval b X.env)] := by rfl) (hs2 : starEach [b] X.env = [(false, eval b X.env)] := by rfl)
    (hs3 : starEach [Expr.Call (.Name "zip" q) [a, b] [] pos2] X.env = [(false, eval (.Call (.Name "zip" q) [a, b] [] pos2) X.env)] := by rfl) :
    PE X (.Call (.Name "dict" p) [.Call (.Name "zip" q) [a, b] [] pos2] [] pos) (tDZipX X.K ta) := by
  intro pins s σ H Q I h
  refine wpAny_Call_Name_kw (ld_blt I hg hm b_dict (PyProof.Rows.callWith_type1 ?_ hs3 rfl) (by decide) (by decide))
  rw [hs3]
  refine Calls.spliced_cons ?_
  show wpAny _ _ (eval (Expr.Call (.Name "zip" q) [a, b] [] pos2) X.env) _ _ _
  refine wpAny_Call_Name_kw (ld_blt I hg2 hm2 b_zip (PyProof.Rows.callWith_type1 (thn (ha pos2 pins s σ H _ I h) fun us s1 ⟨vs, H1, I1, r1, q1⟩ => ?_) (by rw [hs, hs2]) (by rw [hs2]; rfl)) (by decide) (by decide))
  obtain ⟨a, b, ns, ys, e, hx, hy, hl, hml, q⟩ := q1
  subst e
  obtain ⟨u, v, rfl, ru, rv⟩ := vals2 r1
  cases ru
  cases rv
  obtain ⟨its, rv, p, hz⟩ := I1.list hx
  obtain ⟨its2, rv2, p2, hz2⟩ := I1.list hy
  have l1 := rv.length
  have l2 := rv2.length
  rw [List.length_map] at l1
  refine call_zip_2 p.isList p2.isList fun h' g1 g2 g3 g4 g5 hsz kk => ?_
  refine Calls.spliced_nil ?_
  have A1 : h'.IsList a its.toArray := p.isList.at fun o e => kk _ o e
  have A2 : h'.IsList b its2.toArray := p2.isList.at fun o e => kk _ o e
  have D := apartZ (apartZ_new _) (⟨g1, g2, ⟨_, _, g3⟩, g4, g5⟩ : StZ _ _ _ _ _ a b 0 h') A1 A2
  refine call_dict_zipX (s := { s1 with heap := h' }) (ks := ns) D (I1.ok.hd hcal) (by simp; omega) (fun i x e => ?_) g1 g3 g2 g4 g5 A1 A2 (by simp; rw [List.length_map] at hz; omega) fun h2 k vs' d2 ev kp => ?_
  · have e' : its[i]? = some x := by simpa using e
    have li := (List.getElem?_eq_some_iff.mp e').1
    have hn : (List.map V.int ns)[i]? = some (.int (ns[i]'(by omega))) := by rw [List.getElem?_map, List.getElem?_eq_getElem (by omega)]; rfl
    obtain ⟨u, hu, t, rfl⟩ := rv.get hn
    rw [e'] at hu
    cases hu
    exact ⟨_, _, List.getElem?_eq_getElem (by omega), rfl⟩
  · have hk : KV (mrgV [] ns ys) vs' := by rw [ev]; exact kv_mrg .nil rv2
    have hle : s1.heap.objs.size ≤ h'.objs.size := by omega
    refine ⟨.ref h'.objs.size, _, I1.laid (a := h'.objs.size) (o := .dK (mrgV [] ns ys)) (t' := k) (fun b o e => ?_) hle ⟨?_, ?_, vs', hk, d2⟩, rfl, q _ (I1.hok.fresh hle)⟩
    · have lt := Heap.lt_size e
      have ne : ∀ c, s1.heap.objs.size ≤ c → b ≠ c := fun c hc z => Nat.lt_irrefl _ (Nat.lt_of_lt_of_le lt (z ▸ hc))
      exact kp b o (ne _ (Nat.le_add_right _ _)) (ne _ (Nat.le_add_right _ _)) (ne _ (Nat.le_refl _)) (ne _ (Nat.le_add_right _ _)) (kk _ _ e)
    · rw [List.length_map] at hz; omega
    · exact beq_eq_false_iff_ne.mpr (Ne.symm (Nat.ne_of_lt (Nat.lt_of_lt_of_le (inv_big I1) hle)))
theorem r_dzipX {σ : St} {H : Hp} {Q : VK} {ta : TA} {K : PySem.W.Frag} (h : ta σ H fun vs H1 => ∃ a b ns ys, vs = [.ref a, .ref b] ∧ SqL K H1 a (List.map V.int ns) ∧ SqL K H1 b ys ∧ ns.length = ys.length ∧ (mrgV [] ns ys).length ≤ ns.length ∧ ∀ p, H1 p = none → Q (.ref p) (upd H1 p (.dK (mrgV [] ns ys)))) : tDZipX K ta σ H Q := h
/-- d.update(e), d and e dicts -/
def rUpdateX : V → List V → Hp → VK → Prop := fun x vs H Q => ∃ a b kvs kvs2, x = .ref a ∧ vs = [.ref b] ∧ a ≠ b ∧ H a = some (.dK kvs) ∧ H b = some (.dK kvs2) ∧ kvs.length + kvs2.length ≤ sizeLine ∧ Q .non (upd H a (.dK (mergeK kvs kvs2)))
theorem mt_updateX : MtM X "dict.update" rUpdateX := by
  intro pins s σ H x vs v us Q I rx rv h
  obtain ⟨a, b, kvs, kvs2, rfl, rfl, hne, hA, hB, hz, q⟩ := h
  cases rx
  obtain ⟨u, rfl, ru⟩ := vals1 rv
  cases ru
  obtain ⟨z1, m1, v1, k1, d1⟩ := (show ObjOk X.prog X.w H s.heap a (.dK kvs) from I.hok a _ hA)
  obtain ⟨z2, m2, v2, k2, d2⟩ := (show ObjOk X.prog X.w H s.heap b (.dK kvs2) from I.hok b _ hB)
  have e1 := kv_length k1
  have e2 := kv_length k2
  refine call_meetsIn PySem.F.slot_dict_update d1.typeIs PySem.F.entry_dict_update (PySem.F.args_dict_update_2 _ _) (meets_dict_update (mixKind X.prog X.w) a b hne m2)
    ⟨v1, v2, d1, d2, by omega, fun h' dd _ hs => ?_⟩
  have lm := length_mergeK kvs2 kvs
  refine ⟨.non, _, I.write (x := a) (e := a) (o := .dK (mergeK kvs kvs2)) (t' := s.toks) (by rw [hA]; trivial) (.inl rfl) (fun b u hb e => (hs.2 b hb).trans e) ?_ ⟨by omega, m1, _, k2.merge k1, dd⟩, rfl, q⟩
  obtain ⟨o, es, ep, ho, r⟩ := dd
  exact ⟨o, ho⟩
theorem r_updateX {H : Hp} {a b : Addr} {kvs kvs2 : List (Key × V)} {Q : VK} (hn : a ≠ b) (h1 : H a = some (.dK kvs)) (h2 : H b = some (.dK kvs2)) (hz : kvs.length + kvs2.length ≤ sizeLine) (q : Q .non (upd H a (.dK (mergeK kvs kvs2)))) : rUpdateX (.ref a) [.ref b] H Q :=
  ⟨a, b, kvs, kvs2, rfl, rfl, hn, h1, h2, hz, q⟩
def rNotInD : R2 := fun x y H Q => ∃ d kvs k, x = .int k ∧ y = .ref d ∧ H d = some (.dK kvs) ∧ Q (.bl (!(valV kvs (.inl k)).isSome)) H
theorem op_notInD : OpR X (compareOp .NotIn) rNotInD := by
  intro pins s σ H x y v u Q I rx ry h
  obtain ⟨d, kvs, k, rfl, rfl, hd, q⟩ := h
  cases ry
  obtain ⟨z, hs, vs, rel, dd⟩ := dk_of I.hok hd
  refine wpAny_notIn_of (kV_is (k := .inl k) rx) hs dd.mapOf ?_
  refine ⟨.bl _, H, I.tok _, ?_, q⟩
  rw [(rel.val (.inl k)).isSome_eq]
  rfl
theorem r_notInD {H : Hp} {Q : VK} {d : Addr} {kvs : List (Key × V)} {k : Int} (hd : H d = some (.dK kvs)) (q : Q (.bl (!(valV kvs (.inl k)).isSome)) H) : rNotInD (.int k) (.ref d) H Q := ⟨d, kvs, k, rfl, rfl, hd, q⟩
def rSetD : TSet := fun o i v H Q => ∃ d kvs k, o = .ref d ∧ i = .int k ∧ H d = some (.dK kvs) ∧ kvs.length < sizeLine ∧ Q (upd H d (.dK (putK kvs (.inl k) v)))
theorem set_dict : PSet X rSetD := by
  intro pins s σ H o i v ov iv u Q I ro ri rv h
  obtain ⟨d, kvs, k, rfl, rfl, hd, hl, q⟩ := h
  cases ro
  obtain ⟨z, hm, vs, rel, dd⟩ := dk_of I.hok hd
  have hz : vs.length ≤ sizeLine := by rw [← rel.length]; exact z
  have hl : (putK kvs (.inl k) v).length ≤ sizeLine := by have := length_putK kvs (.inl k : Key) v; omega
  refine wpAny_setItem_pairs (hsz := hz) (kV_is (k := .inl k) ri) dd fun h' dd' hs => ⟨_, ?_, q⟩
  have he : ∃ q, h'.get? d = some q := let ⟨q, _, _, hq, _⟩ := dd'; ⟨q, hq⟩
  exact d_write I (by rw [hd]; exact True.intro) hs he (dk_new hl hm (rel.put (.inl k) rv) dd')
theorem r_setD {H : Hp} {d : Addr} {kvs : List (Key × V)} {k : Int} {v : V} {R : Hp → Prop} (hd : H d = some (.dK kvs)) (hl : kvs.length < sizeLine) (q : R (upd H d (.dK (putK kvs (.inl k) v)))) : rSetD (.ref d) (.int k) v H R := ⟨d, kvs, k, rfl, rfl, hd, hl, q⟩
end
/-! ### xs[::st], with its content -/
theorem step_range (st : Nat) (n : Nat) (hs : 0 < st) : sliceRange (sliceBounds none none (some (st : Int)) n).1 (sliceBounds none none (some (st : Int)) n).2.1 (sliceBounds none none (some (st : Int)) n).2.2 = (List.range ((n + st - 1) / st)).map (· * st) := by
  have h0 : (st : Int) > 0 := by omega
  have e : sliceBounds none none (some (st : Int)) n = (0, (n : Int), (st : Int)) := by simp [sliceBounds, h0]; omega
  rw [e]
  unfold sliceRange
  dsimp only
  rw [if_pos h0]
  have e2 : (if (0 : Int) < (n : Int) then ((n : Int) - 0 + st - 1) / (st : Int) else 0).toNat = (n + st - 1) / st := by
    split
    · rw [show (n : Int) - 0 + st - 1 = ((n + st - 1 : Nat) : Int) by omega, ← Int.natCast_ediv, Int.toNat_natCast]
    · rw [show n = 0 by omega, Nat.zero_add, Nat.div_eq_of_lt (by omega)]
      rfl
  rw [e2]
  refine List.map_congr_left fun k _ => ?_
  rw [Int.zero_add, ← Int.natCast_mul, Int.toNat_natCast, Nat.mul_comm]
def pick (st : Nat) (xs : List V) : List V := ((List.range ((xs.length + st - 1) / st)).map (· * st)).filterMap fun i => xs[i]?
def tStepX (K : PySem.W.Frag) (te ts : TE) : TE := fun σ H Q => te σ H fun x H1 => ts σ H1 fun y H2 => ∃ a xs, ∃ st : Nat, x = .ref a ∧ y = .int st ∧ 0 < st ∧ SqL K H2 a xs ∧ ∀ p, H2 p = none → Q (.ref p) (upd H2 p (.lst (pick st xs)))
section
variable {X : Cx} {e st : Expr} {te ts : TE} {pos p2 : Pos}
theorem pe_stepX (he : PE X e te) (hst : PE X st ts) : PE X (.Subscript e (.Slice none none (some st) p2) pos) (tStepX X.K te ts) := by
  intro pins s σ H Q I h
  refine Subscript_ (thn (he pins s σ H _ I h) fun v s1 ⟨x, H1, I1, r1, q1⟩ => ?_)
  refine wpAny_Slice ?_
  rw [evalPart_none]
  refine wpAny_pure ?_
  refine wpAny_pure ?_
  rw [evalPart_some]
  refine thn (hst pins s1 σ H1 _ I1 q1) fun u s3 ⟨y, H3, I3, r3, a, xs, k, ex, ey, hk, hs, q⟩ => ?_
  subst ex ey
  obtain rfl : v = Value.ref a := r1
  obtain ⟨t, rfl⟩ := r3
  have I4 : Inv X pins σ H3 { s3 with heap := s3.heap.push { cls := .type "slice", data := .fields #[.none, .none, .int k t] } } := I3.kept (t' := s3.toks) fun b ob q => Heap.get?_push_of_some _ q
  obtain ⟨its, r, pl, hz⟩ := I4.list hs
  have e1 := r.length
  show wpAny (model X.prog X.w) X.A (subscriptTail e (.Slice none none (some st) p2) (.ref a) (.ref s3.heap.objs.size)) (EP X pins σ Q) X.xe { s3 with heap := s3.heap.push { cls := .type "slice", data := .fields #[.none, .none, .int k t] } }
  refine tail_any (ops := [.ref a, .ref s3.heap.objs.size]) pl.isList.typeIs list_getitem_lookup ?_ (by with_unfolding_all rfl)
  refine wpAny_getItem_list_slice pl.isList (Heap.IsSliceOf.new ..) .none .none (.int k t) (by intro z; have := Option.some.inj z; omega) ?_ (by rw [List.size_toArray]; omega)
  have hp : slicePick its.toArray none none (some (k : Int)) = ((((List.range ((its.length + k - 1) / k)).map (· * k))).filterMap fun i => its[i]?).toArray := by
    rw [← step_range k its.length hk]
    unfold slicePick
    simp
  have hlen : (pick k xs).length ≤ xs.length := by
    have := slicePick_size_le its.toArray none none (some (k : Int))
    rw [hp, List.size_toArray, ← (vals_pick r _).length, List.size_toArray, ← e1] at this
    exact this
  rw [hp, ← e1]
  exact ⟨.ref _, _, I4.lnew (t' := s3.toks) (vals_pick r _) (Nat.le_trans hlen hz), rfl, q _ (I4.hok.fresh (Nat.le_refl _))⟩
theorem r_stepX {K : PySem.W.Frag} {σ : St} {H : Hp} {Q : VK} (h : te σ H fun x H1 => ts σ H1 fun y H2 => ∃ a xs, ∃ st : Nat, x = .ref a ∧ y = .int st ∧ 0 < st ∧ SqL K H2 a xs ∧ ∀ p, H2 p = none → Q (.ref p) (upd H2 p (.lst (pick st xs)))) : tStepX K te ts σ H Q := h
end
/-! ### a class called with its last argument left out -/
structure MkrED (P : Program) (w : World) (K : PySem.W.Frag) (mg : Str → Option Value) (base : Heap) (name : Str) (C : Addr) (k : Nat) (ps : List Str) (sp : Sp) (dvs : List V) : Prop where
  ex : ∃ (f : Addr) (fd : FuncData) (ds : List Value), FnOk P w K mg base (CXE P w) k f fd ps sp ∧ Binds K fd ps ds ∧ Vals dvs ds ∧ Mk K C f ∧ mg name = some (.ref C)
section
variable {X : Cx} {k : Nat} {C : Addr} {ps : List Str} {sp : Sp} {dvs : List V} {name m : Str} {p pos apos : Pos} {e o : Expr} {es : List Expr} {ta : TE} {t : TA} {E : XK}
theorem pe_mkED (M : MkrED X.prog X.w X.K X.mg X.base name C k ps sp dvs) (hr : Room (k + 1) X.A) (hx : Passes (CXE X.prog X.w) X E) (ha : PA X (e :: es) t) (hg : Gl X name := by rfl) (hdb : (name == ("__debug__" : Str)) = false := by decide)
    (he : starEach (e :: es) X.env = (false, eval e X.env) :: starEach es X.env := by rfl) (hpl : (backTo pos (starEach es X.env)).any (·.1) = false := by rfl) : PE X (.Call (.Name name p) (e :: es) [] pos) (tMake C sp dvs E t) := by
  obtain ⟨f, fd, ds, F, b, rd, M, hm⟩ := M.ex
  exact pe_make M F hr hg hm b rd hx ha hdb he hpl
end
theorem FunD.bindsD {K : PySem.W.Frag} {x qual : Str} {st : Stmt} {T : Addr} {ps : List Str} {kV doc pm cdv ct v : Value} {an : Option Addr} {o : Obj} {n m : Nat} (hT : K.lookup T = some o) (hd : o.data = .seq #[v] n) (hm : ps.length = m + 1)
    (h : ∀ (us : List Value), us.length = m → ∃ k, bindArgs (PySem.W.fnOf x qual (defArgs st) (defBody st) (defScope st) (.ref T) kV doc pm an cdv ct) ⟨us, []⟩ = seqItems? (.ref T) >>= k ∧ k (some #[v]) = pure (ps.zip (us ++ [v]))) : Binds K (PySem.W.fnOf x qual (defArgs st) (defBody st) (defScope st) (.ref T) kV doc pm an cdv ct) ps [v] := by
  intro s us KX hl
  obtain ⟨k, h1, h2⟩ := h us (by rw [List.length_append, hm] at hl; exact Nat.succ.inj hl)
  exact BindsTo.of_defaults rfl (KX _ _ hT) hd h1 h2
end L2
end

section
set_option Elab.async false
set_option linter.all false
set_option maxRecDepth 100000
set_option maxHeartbeats 4000000
/-! A class called with its last argument by name. -/
namespace L2
open PySem PySem.Spec PyProof.Rows
structure MkrEK (P : Program) (w : World) (K : PySem.W.Frag) (mg : Str → Option Value) (base : Heap) (name : Str) (C : Addr) (k : Nat) (ps : List Str) (sp : Sp) (ks : List Str) : Prop where
  ex : ∃ (f : Addr) (fd : FuncData), FnOk P w K mg base (CXE P w) k f fd ps sp ∧ (∀ (s : Shared) (us ws : List Value), K.In s.heap → ws.length = ks.length → (us ++ ws).length = ps.length → BindsTo s fd ⟨us, ks.zip ws⟩ (ps.zip (us ++ ws))) ∧ Mk K C f ∧ mg name = some (.ref C)
def tMakeK (C : Addr) (sp : Sp) (n : Nat) (E : XK) (t tk : TA) : TE := fun σ H Q => t σ H fun vs H1 => tk σ H1 fun zs H2 => zs.length = n ∧ ∀ x dx, H2 x = none → H2 dx = none → dx ≠ x →
  sp (.ref x :: (vs ++ zs)) (upd (upd H2 dx (.own x)) x (.ins C dx [])) (fun v H3 => v = .non ∧ Q (.ref x) H3) E
section
variable {X : Cx} {k : Nat} {C : Addr} {ps ks : List Str} {sp : Sp} {name : Str} {p pos : Pos} {e : Expr} {es : List Expr} {kws : List Keyword} {t tk : TA} {E : XK}
theorem r_makeK {σ : St} {H : Hp} {Q : VK} {n : Nat} (h : t σ H fun vs H1 => tk σ H1 fun zs H2 => zs.length = n ∧ ∀ x dx, H2 x = none → H2 dx = none → dx ≠ x →
  sp (.ref x :: (vs ++ zs)) (upd (upd H2 dx (.own x)) x (.ins C dx [])) (fun v H3 => v = .non ∧ Q (.ref x) H3) E) : tMakeK C sp n E t tk σ H Q := h
theorem pe_mkEK (M : MkrEK X.prog X.w X.K X.mg X.base name C k ps sp ks) (hr : Room (k + 1) X.A) (hx : Passes (CXE X.prog X.w) X E) (ha : PA X (e :: es) t) (hkw : PK X kws tk) (hg : Gl X name := by rfl)
    (hall : (backToKw pos (keywordEach kws X.env)).all (·.1.isSome) = true := by rfl) (hks : (backToKw pos (keywordEach kws X.env)).filterMap (·.1) = ks := by rfl)
    (hdb : (name == ("__debug__" : Str)) = false := by decide) (he : starEach (e :: es) X.env = (false, eval e X.env) :: starEach es X.env := by rfl)
    (hpl : ((backTo pos (starEach (e :: es) X.env)).any (·.1) || (backToKw pos (keywordEach kws X.env)).any (·.1.isNone)) = false := by rfl) :
    PE X (.Call (.Name name p) (e :: es) kws pos) (tMakeK C sp ks.length E t tk) := by
  obtain ⟨f, fd, F, hb, M, hm⟩ := M.ex
  intro pins s0 σ H0 Q I0 h
  refine wpAny_Call_Name_kw (ld_glob I0 hg hm ?_ hdb)
  refine PySem.W.callWith_KW (h₀ := X.base) I0.ok.mod.kin M.kp hall (thn (ha pos pins s0 σ H0 _ I0 h) fun us s1 ⟨vs, H1, I1, r, q⟩ => ?_) hpl he
  refine thn (hkw pos pins s1 σ H1 _ I1 q) fun ws s ⟨zs, H, I, rz, hn, h⟩ => ⟨I.kIn, ?_⟩
  rw [hks]
  have hq := h (s.heap.objs.size + 1) s.heap.objs.size (I.hok.fresh (Nat.le_succ _)) (I.hok.fresh (Nat.le_refl _)) (Nat.ne_of_lt (Nat.lt_succ_self _))
  have I2 := Inv.made (C := C) I
  have r2 : Vals (V.ref (s.heap.objs.size + 1) :: (vs ++ zs)) (Value.ref (s.heap.objs.size + 1) :: (us ++ ws)) := .cons rfl (r.append rz)
  have hl : (Value.ref (s.heap.objs.size + 1) :: us ++ ws).length = ps.length := by
    have e := r2.length
    rw [F.len _ _ _ _ hq] at e
    exact e.symm
  refine wpAny_call (make_map (f := f) I.kIn M.makes M.init (beq_iff_eq.mp M.fn) (codeAny_mono (F.run _ X.stack _ _ ⟨Value.ref (s.heap.objs.size + 1) :: us, ks.zip ws⟩ (Value.ref (s.heap.objs.size + 1) :: (us ++ ws)) _ _ E (hr.make C us (ks.zip ws))
    (I2.env0.make C us (ks.zip ws)) (hb _ (Value.ref (s.heap.objs.size + 1) :: us) ws I2.kIn (by rw [← rz.length]; exact hn) hl) r2 hq) fun r s' hq' => ?_))
  cases r with
  | error e => exact hx pins σ _ _ e s' I2 hq'
  | ok fl =>
    cases fl with
    | ret u =>
      obtain ⟨v, H', I3, rv, ev, q3⟩ := I2.after hq'
      subst ev
      exact ⟨rv, ⟨V.ref (s.heap.objs.size + 1), H', I3, rfl, q3⟩⟩
    | next => exact False.elim hq'
    | brk => exact False.elim hq'
    | cont => exact False.elim hq'
end
theorem FunD.bindsK {K : PySem.W.Frag} {x qual : Str} {st : Stmt} {T : Addr} {ps : List Str} {kn : Str} {kV doc pm cdv ct v : Value} {an : Option Addr} {o : Obj} {n m : Nat} (hT : K.lookup T = some o) (hd : o.data = .seq #[v] n) (hm : ps.length = m + 1)
    (h : ∀ (us : List Value), us.length = m → ∀ ws : List Value, ws.length = 1 → ∃ k, bindArgs (PySem.W.fnOf x qual (defArgs st) (defBody st) (defScope st) (.ref T) kV doc pm an cdv ct) ⟨us, [kn].zip ws⟩ = seqItems? (.ref T) >>= k ∧ k (some #[v]) = pure (ps.zip (us ++ ws))) :
    ∀ (s : Shared) (us ws : List Value), K.In s.heap → ws.length = [kn].length → (us ++ ws).length = ps.length → BindsTo s (PySem.W.fnOf x qual (defArgs st) (defBody st) (defScope st) (.ref T) kV doc pm an cdv ct) ⟨us, [kn].zip ws⟩ (ps.zip (us ++ ws)) := by
  intro s us ws KX hw hl
  obtain ⟨k, h1, h2⟩ := h us (by rw [List.length_append, hw, hm] at hl; exact Nat.succ.inj hl) ws hw
  exact BindsTo.of_defaults rfl (KX _ _ hT) hd h1 h2
end L2
end

section
set_option Elab.async false
set_option linter.all false
/-! A stable sort, told by merging; the laws that a merge sort in place needs. -/
namespace TW
section
variable {α : Type} (lt : α → α → Bool)
def mg : List α → List α → List α
  | [], ys => ys
  | x :: xs, [] => x :: xs
  | x :: xs, y :: ys => if lt y x = true then y :: mg (x :: xs) ys else x :: mg xs (y :: ys)
termination_by xs ys => xs.length + ys.length
theorem mg_nil (ys : List α) : mg lt [] ys = ys := by rw [mg]
theorem mg_nil' (xs : List α) : mg lt xs [] = xs := by cases xs <;> rw [mg]
theorem mg_cons (x y : α) (xs ys : List α) : mg lt (x :: xs) (y :: ys) = if lt y x = true then y :: mg lt (x :: xs) ys else x :: mg lt xs (y :: ys) := by rw [mg]
theorem mg_b {x y : α} {xs ys : List α} (h : lt y x = true) : mg lt (x :: xs) (y :: ys) = y :: mg lt (x :: xs) ys := by rw [mg_cons, if_pos h]
theorem mg_a {x y : α} {xs ys : List α} (h : lt y x = false) : mg lt (x :: xs) (y :: ys) = x :: mg lt xs (y :: ys) := by rw [mg_cons, if_neg (by rw [h]; decide)]
theorem mg_head_a {ys : List α} : ∀ {as xs : List α}, (∀ a ∈ as, ∀ y ∈ ys, lt y a = false) → mg lt (as ++ xs) ys = as ++ mg lt xs ys
  | [], _, _ => rfl
  | a :: as, xs, h => by
    cases ys with
    | nil => rw [mg_nil', mg_nil']
    | cons y ys =>
      rw [List.cons_append, mg_a lt (h a List.mem_cons_self y List.mem_cons_self), mg_head_a fun b hb => h b (List.mem_cons_of_mem _ hb)]
      rfl
theorem mg_head_b {xs : List α} : ∀ {bs ys : List α}, (∀ b ∈ bs, ∀ x ∈ xs, lt b x = true) → mg lt xs (bs ++ ys) = bs ++ mg lt xs ys
  | [], _, _ => rfl
  | b :: bs, ys, h => by
    cases xs with
    | nil => rw [mg_nil, mg_nil]
    | cons x xs =>
      rw [List.cons_append, mg_b lt (h b List.mem_cons_self x List.mem_cons_self), mg_head_b fun c hc => h c (List.mem_cons_of_mem _ hc)]
      rfl
theorem mg_tail_a {as : List α} : ∀ (xs ys : List α), (∀ a ∈ as, ∀ y ∈ ys, lt y a = true) → mg lt (xs ++ as) ys = mg lt xs ys ++ as
  | [], ys, h => by
    have := mg_head_b lt (xs := as) (bs := ys) (ys := []) fun b hb x hx => h x hx b hb
    rw [List.append_nil, mg_nil'] at this
    rw [List.nil_append, this, mg_nil]
  | x :: xs, [], h => by rw [mg_nil', mg_nil']
  | x :: xs, y :: ys, h => by
    rw [List.cons_append, mg_cons, mg_cons]
    split
    · have := mg_tail_a (x :: xs) ys fun a ha z hz => h a ha z (List.mem_cons_of_mem _ hz)
      rw [List.cons_append] at this
      rw [this]
      rfl
    · rw [mg_tail_a xs (y :: ys) h]
      rfl
termination_by xs ys => xs.length + ys.length
theorem mg_tail_b {bs : List α} : ∀ (xs ys : List α), (∀ b ∈ bs, ∀ x ∈ xs, lt b x = false) → mg lt xs (ys ++ bs) = mg lt xs ys ++ bs
  | [], ys, h => by rw [mg_nil, mg_nil]
  | x :: xs, [], h => by
    have := mg_head_a lt (ys := bs) (as := x :: xs) (xs := []) fun a ha y hy => h y hy a ha
    rw [List.append_nil, mg_nil] at this
    rw [List.nil_append, this, mg_nil']
  | x :: xs, y :: ys, h => by
    rw [List.cons_append, mg_cons, mg_cons]
    split
    · rw [mg_tail_b (x :: xs) ys h]
      rfl
    · have := mg_tail_b xs (y :: ys) fun b hb z hz => h b hb z (List.mem_cons_of_mem _ hz)
      rw [List.cons_append] at this
      rw [this]
      rfl
termination_by xs ys => xs.length + ys.length
theorem mg_perm : ∀ (xs ys : List α), (mg lt xs ys).Perm (xs ++ ys)
  | [], ys => by rw [mg_nil]; exact List.Perm.refl _
  | x :: xs, [] => by rw [mg_nil', List.append_nil]
  | x :: xs, y :: ys => by
    rw [mg_cons]
    split
    · exact ((mg_perm (x :: xs) ys).cons y).trans List.perm_middle.symm
    · exact (mg_perm xs (y :: ys)).cons x
termination_by xs ys => xs.length + ys.length
def Srt (l : List α) : Prop := l.Pairwise fun a b => lt b a = false
/-- a strict order whose incomparable ones are alike -/
structure Swo : Prop where
  irr : ∀ a, lt a a = false
  tr : ∀ a b c, lt a b = true → lt b c = true → lt a c = true
  ng : ∀ a b c, lt a c = true → lt a b = true ∨ lt b c = true
variable {lt}
section
variable (o : Swo lt)
include o
theorem Swo.asy {a b : α} (h : lt a b = true) : lt b a = false := by
  cases e : lt b a with
  | false => rfl
  | true => have := o.tr _ _ _ h e; rw [o.irr] at this; cases this
theorem Swo.le {a b c : α} (h1 : lt b a = false) (h2 : lt c b = false) : lt c a = false := by
  cases e : lt c a with
  | false => rfl
  | true =>
    rcases o.ng c b a e with h | h
    · rw [h2] at h; cases h
    · rw [h1] at h; cases h
theorem Swo.ltle {a b c : α} (h1 : lt a b = true) (h2 : lt c b = false) : lt a c = true := by
  rcases o.ng a c b h1 with h | h
  · exact h
  · rw [h2] at h; cases h
theorem Swo.lelt {a b c : α} (h1 : lt b a = false) (h2 : lt b c = true) : lt a c = true := by
  rcases o.ng b a c h2 with h | h
  · rw [h1] at h; cases h
  · exact h
theorem mg_assoc : ∀ a b c : List α, mg lt (mg lt a b) c = mg lt a (mg lt b c)
  | [], b, c => by rw [mg_nil, mg_nil]
  | x :: a, [], c => by rw [mg_nil', mg_nil]
  | x :: a, y :: b, [] => by rw [mg_nil', mg_nil']
  | x :: a, y :: b, z :: c => by
    cases h1 : lt y x with
    | true =>
      cases h2 : lt z y with
      | true =>
        have ih := mg_assoc (x :: a) (y :: b) c
        rw [mg_b lt h1] at ih ⊢
        rw [mg_b lt h2, mg_b lt h2, mg_b lt (o.tr _ _ _ h2 h1), ih]
      | false =>
        have ih := mg_assoc (x :: a) b (z :: c)
        rw [mg_b lt h1, mg_a lt h2, mg_a lt h2, mg_b lt h1, ih]
    | false =>
      cases h3 : lt z x with
      | true =>
        have h2 : lt z y = true := by
          rcases o.ng z y x h3 with h | h
          · exact h
          · rw [h1] at h; cases h
        have ih := mg_assoc (x :: a) (y :: b) c
        rw [mg_a lt h1] at ih ⊢
        rw [mg_b lt h3, mg_b lt h2, mg_b lt h3, ih]
      | false =>
        have ih := mg_assoc a (y :: b) (z :: c)
        rw [mg_a lt h1, mg_a lt h3, ih]
        cases h2 : lt z y with
        | true => rw [mg_b lt h2, mg_a lt h3]
        | false => rw [mg_a lt h2, mg_a lt h1]
termination_by a b c => a.length + b.length + c.length
theorem srt_mg : ∀ {xs ys : List α}, Srt lt xs → Srt lt ys → Srt lt (mg lt xs ys)
  | [], ys, _, h => by rw [mg_nil]; exact h
  | x :: xs, [], h, _ => by rw [mg_nil']; exact h
  | x :: xs, y :: ys, h1, h2 => by
    have a1 := List.pairwise_cons.mp h1
    have a2 := List.pairwise_cons.mp h2
    rw [mg_cons]
    split
    · rename_i hl
      refine List.pairwise_cons.mpr ⟨fun z hz => ?_, srt_mg h1 a2.2⟩
      rcases List.mem_append.mp ((mg_perm lt _ _).mem_iff.mp hz) with hz | hz
      · rcases List.mem_cons.mp hz with rfl | hz
        · exact o.asy hl
        · exact o.le (o.asy hl) (a1.1 z hz)
      · exact a2.1 z hz
    · rename_i hl
      have hl : lt y x = false := by simpa using hl
      refine List.pairwise_cons.mpr ⟨fun z hz => ?_, srt_mg a1.2 h2⟩
      rcases List.mem_append.mp ((mg_perm lt _ _).mem_iff.mp hz) with hz | hz
      · exact a1.1 z hz
      · rcases List.mem_cons.mp hz with rfl | hz
        · exact hl
        · exact o.le hl (a2.1 z hz)
termination_by xs ys => xs.length + ys.length
end
variable (lt)
def ssort (l : List α) : List α := l.foldl (fun a x => mg lt a [x]) []
theorem ssort_snoc (l : List α) (x : α) : ssort lt (l ++ [x]) = mg lt (ssort lt l) [x] := by unfold ssort; rw [List.foldl_append]; rfl
theorem ssort_perm (l : List α) : (ssort lt l).Perm l := by
  have key : ∀ (l a : List α), (l.foldl (fun a x => mg lt a [x]) a).Perm (a ++ l) := fun l => by
    induction l with
    | nil => intro a; rw [List.append_nil]; exact List.Perm.refl _
    | cons x l ih =>
      intro a
      refine (ih _).trans ?_
      refine ((mg_perm lt a [x]).append_right l).trans ?_
      rw [List.append_assoc]
      exact List.Perm.refl _
  exact key l []
theorem ssort_len (l : List α) : (ssort lt l).length = l.length := (ssort_perm lt l).length_eq
theorem snoc_ind {P : List α → Prop} (h0 : P []) (h1 : ∀ l x, P l → P (l ++ [x])) (l : List α) : P l := by
  have key : ∀ n, ∀ l : List α, l.length = n → P l := fun n => by
    induction n with
    | zero => intro l h; rw [List.length_eq_zero_iff.mp h]; exact h0
    | succ n ih =>
      intro l h
      have hne : l ≠ [] := fun e => by rw [e] at h; cases h
      rw [← List.dropLast_concat_getLast hne]
      exact h1 _ _ (ih _ (by rw [List.length_dropLast]; omega))
  exact key _ l rfl
variable {lt}
theorem ssort_app (o : Swo lt) (a : List α) (b : List α) : ssort lt (a ++ b) = mg lt (ssort lt a) (ssort lt b) := by
  induction b using snoc_ind with
  | h0 => rw [List.append_nil]; exact (mg_nil' lt _).symm
  | h1 l x ih => rw [← List.append_assoc, ssort_snoc, ssort_snoc, ih, mg_assoc o]
theorem ssort_srt (o : Swo lt) (a : List α) : Srt lt (ssort lt a) := by
  induction a using snoc_ind with
  | h0 => exact List.Pairwise.nil
  | h1 l x ih => rw [ssort_snoc]; exact srt_mg o ih (List.pairwise_singleton _ _)
theorem ssort_id {a : List α} (h : Srt lt a) : ssort lt a = a := by
  induction a using snoc_ind with
  | h0 => rfl
  | h1 l x ih =>
    have hp := List.pairwise_append.mp h
    rw [ssort_snoc, ih hp.1]
    have := mg_head_a lt (ys := [x]) (as := l) (xs := []) fun a ha y hy => by rw [List.mem_singleton.mp hy]; exact hp.2.2 a ha x (List.mem_singleton.mpr rfl)
    rw [List.append_nil, mg_nil] at this
    exact this
theorem mg_map {β : Type} {lt' : β → β → Bool} {f : α → β} (h : ∀ a b, lt' (f a) (f b) = lt a b) : ∀ xs ys : List α, mg lt' (xs.map f) (ys.map f) = (mg lt xs ys).map f
  | [], ys => by rw [mg_nil]; exact mg_nil _ _
  | x :: xs, [] => by rw [mg_nil']; exact mg_nil' _ _
  | x :: xs, y :: ys => by
    rw [List.map_cons, List.map_cons, mg_cons, mg_cons, h]
    split
    · have := mg_map h (x :: xs) ys
      rw [List.map_cons] at this
      rw [this]
      rfl
    · have := mg_map h xs (y :: ys)
      rw [List.map_cons] at this
      rw [this]
      rfl
termination_by xs ys => xs.length + ys.length
theorem ssort_map {β : Type} {lt' : β → β → Bool} {f : α → β} (h : ∀ a b, lt' (f a) (f b) = lt a b) (l : List α) : ssort lt' (l.map f) = (ssort lt l).map f := by
  induction l using snoc_ind with
  | h0 => rfl
  | h1 l x ih =>
    rw [List.map_append, List.map_cons, List.map_nil, ssort_snoc, ssort_snoc, ih]
    exact mg_map h _ [x]
end
end TW
end

section
set_option Elab.async false
set_option linter.all false
/-! Merging in place: what stays true step by step. -/
namespace TW
section
variable {α : Type} {lt : α → α → Bool}
theorem drop_at {l : List α} {i : Nat} {x : α} (h : l[i]? = some x) : l.drop i = x :: l.drop (i + 1) := by
  obtain ⟨hl, e⟩ := List.getElem?_eq_some_iff.mp h
  rw [List.drop_eq_getElem_cons hl, e]
theorem take_at {l : List α} {i : Nat} {x : α} (h : l[i]? = some x) : l.take (i + 1) = l.take i ++ [x] := by rw [List.take_add_one, h]; rfl
theorem srt_at {l : List α} (h : Srt lt l) {i j : Nat} {x y : α} (hij : i < j) (hx : l[i]? = some x) (hy : l[j]? = some y) : lt y x = false := by
  obtain ⟨h1, e1⟩ := List.getElem?_eq_some_iff.mp hx
  obtain ⟨h2, e2⟩ := List.getElem?_eq_some_iff.mp hy
  have := (List.pairwise_iff_getElem.mp h) i j h1 h2 hij
  rw [e1, e2] at this
  exact this
theorem srt_le (o : Swo lt) {l : List α} (h : Srt lt l) {i j : Nat} {x y : α} (hij : i ≤ j) (hx : l[i]? = some x) (hy : l[j]? = some y) : lt y x = false := by
  rcases Nat.lt_or_eq_of_le hij with hl | hl
  · exact srt_at h hl hx hy
  · rw [hl, hy] at hx
    cases hx
    exact o.irr _
theorem mem_drop {l : List α} {i : Nat} {x : α} (h : x ∈ l.drop i) : ∃ j, i ≤ j ∧ l[j]? = some x := by
  obtain ⟨k, hk⟩ := List.getElem?_of_mem h
  rw [List.getElem?_drop] at hk
  exact ⟨i + k, Nat.le_add_right _ _, hk⟩
theorem mem_take {l : List α} {i : Nat} {x : α} (h : x ∈ l.take i) : ∃ j, j < i ∧ l[j]? = some x := by
  obtain ⟨k, hk⟩ := List.getElem?_of_mem h
  rw [List.getElem?_take] at hk
  split at hk
  · exact ⟨k, by assumption, hk⟩
  · cases hk
theorem mem_stretch {l : List α} {i k : Nat} {x : α} (h : x ∈ (l.drop i).take k) : ∃ j, j < k ∧ l[i + j]? = some x := by
  obtain ⟨j, hj, e⟩ := mem_take h
  rw [List.getElem?_drop] at e
  exact ⟨j, hj, e⟩
theorem drop_split (l : List α) (i k : Nat) : l.drop i = (l.drop i).take k ++ l.drop (i + k) := by
  rw [← List.drop_drop, List.take_append_drop]
/-! ### from below -/
variable (o : Swo lt) {la lb out : List α} {ia ib : Nat}
def MI (lt : α → α → Bool) (la lb out : List α) (ia ib : Nat) : Prop := out ++ mg lt (la.drop ia) (lb.drop ib) = mg lt la lb
theorem MI.b {x y : α} (h : MI lt la lb out ia ib) (hx : la[ia]? = some x) (hy : lb[ib]? = some y) (hl : lt y x = true) : MI lt la lb (out ++ [y]) ia (ib + 1) := by
  unfold MI at h ⊢
  rw [← h, drop_at hx, drop_at hy, mg_b lt hl, List.append_assoc]
  rfl
theorem MI.a {x y : α} (h : MI lt la lb out ia ib) (hx : la[ia]? = some x) (hy : lb[ib]? = some y) (hl : lt y x = false) : MI lt la lb (out ++ [x]) (ia + 1) ib := by
  unfold MI at h ⊢
  rw [← h, drop_at hx, drop_at hy, mg_a lt hl, List.append_assoc]
  rfl
theorem MI.doneB (h : MI lt la lb out ia ib) (hb : lb.length ≤ ib) : out ++ la.drop ia ++ lb.drop ib = mg lt la lb := by
  unfold MI at h
  rw [← h, List.drop_of_length_le hb, mg_nil', List.append_nil]
theorem MI.doneA (h : MI lt la lb out ia ib) (hb : la.length ≤ ia) : out ++ la.drop ia ++ lb.drop ib = mg lt la lb := by
  unfold MI at h
  rw [← h, List.drop_of_length_le hb, mg_nil, List.append_nil]
theorem MI.lastA (h : MI lt la lb out ia ib) {x : α} (hx : la[ia]? = some x) (he : la.length ≤ ia + 1) (hl : ∀ y ∈ lb, lt y x = true) : out ++ lb.drop ib ++ la.drop ia = mg lt la lb := by
  unfold MI at h
  have e := mg_head_b lt (xs := la.drop ia) (bs := lb.drop ib) (ys := []) fun b hb z hz => by
    rw [drop_at hx, List.drop_of_length_le he] at hz
    rw [List.mem_singleton.mp hz]
    exact hl b (List.mem_of_mem_drop hb)
  rw [List.append_nil, mg_nil'] at e
  rw [← h, e, List.append_assoc]
include o in
theorem MI.as (h : MI lt la lb out ia ib) (sb : Srt lt lb) {k : Nat} {y : α} (hy : lb[ib]? = some y) (hk : ∀ i x, i < k → la[ia + i]? = some x → lt y x = false) : MI lt la lb (out ++ (la.drop ia).take k) (ia + k) ib := by
  unfold MI at h ⊢
  rw [← h]
  conv => rhs; rw [drop_split la ia k]
  rw [mg_head_a lt fun a ha z hz => ?_, List.append_assoc]
  obtain ⟨i, hi, e⟩ := mem_stretch ha
  obtain ⟨j, hj, e2⟩ := mem_drop hz
  exact o.le (hk i a hi e) (srt_le o sb hj hy e2)
include o in
theorem MI.bs (h : MI lt la lb out ia ib) (sa : Srt lt la) {k : Nat} {x : α} (hx : la[ia]? = some x) (hk : ∀ i y, i < k → lb[ib + i]? = some y → lt y x = true) : MI lt la lb (out ++ (lb.drop ib).take k) ia (ib + k) := by
  unfold MI at h ⊢
  rw [← h]
  conv => rhs; rw [drop_split lb ib k]
  rw [mg_head_b lt fun b hb z hz => ?_, List.append_assoc]
  obtain ⟨i, hi, e⟩ := mem_stretch hb
  obtain ⟨j, hj, e2⟩ := mem_drop hz
  exact o.ltle (hk i b hi e) (srt_le o sa hj hx e2)
/-! ### from above -/
variable {na nb : Nat}
def MH (lt : α → α → Bool) (la lb out : List α) (na nb : Nat) : Prop := mg lt (la.take na) (lb.take nb) ++ out.reverse = mg lt la lb
theorem take_split (l : List α) {c n : Nat} (h : c ≤ n) : l.take n = l.take c ++ (l.drop c).take (n - c) := by
  rw [show n = c + (n - c) by omega, List.take_add]
  congr 2
  omega
include o in
theorem MH.as (h : MH lt la lb out na nb) (sb : Srt lt lb) {c : Nat} {y : α} (hc : c ≤ na) (hn : 0 < nb) (hy : lb[nb - 1]? = some y) (hk : ∀ i x, c ≤ i → i < na → la[i]? = some x → lt y x = true) : MH lt la lb (out ++ ((la.drop c).take (na - c)).reverse) c nb := by
  unfold MH at h ⊢
  rw [← h, take_split la hc, mg_tail_a lt _ _ fun a ha z hz => ?_, List.reverse_append, List.reverse_reverse, List.append_assoc]
  obtain ⟨i, hi, e⟩ := mem_stretch ha
  obtain ⟨j, hj, e2⟩ := mem_take hz
  exact o.lelt (srt_le o sb (show j ≤ nb - 1 by omega) e2 hy) (hk (c + i) a (by omega) (by omega) e)
include o in
theorem MH.bs (h : MH lt la lb out na nb) (sa : Srt lt la) {c : Nat} {x : α} (hc : c ≤ nb) (hn : 0 < na) (hx : la[na - 1]? = some x) (hk : ∀ i y, c ≤ i → i < nb → lb[i]? = some y → lt y x = false) : MH lt la lb (out ++ ((lb.drop c).take (nb - c)).reverse) na c := by
  unfold MH at h ⊢
  rw [← h, take_split lb hc, mg_tail_b lt _ _ fun b hb z hz => ?_, List.reverse_append, List.reverse_reverse, List.append_assoc]
  obtain ⟨i, hi, e⟩ := mem_stretch hb
  obtain ⟨j, hj, e2⟩ := mem_take hz
  exact o.le (srt_le o sa (show j ≤ na - 1 by omega) e2 hx) (hk (c + i) b (by omega) (by omega) e)
theorem one_stretch {l : List α} {c n : Nat} {x : α} (hn : n = c + 1) (h : l[c]? = some x) : ((l.drop c).take (n - c)).reverse = [x] := by
  rw [hn, show c + 1 - c = 1 by omega, drop_at h]
  rfl
include o in
theorem MH.a {x y : α} (h : MH lt la lb out na nb) (sb : Srt lt lb) (hna : 0 < na) (hnb : 0 < nb) (hx : la[na - 1]? = some x) (hy : lb[nb - 1]? = some y) (hl : lt y x = true) : MH lt la lb (out ++ [x]) (na - 1) nb := by
  have := h.as o sb (c := na - 1) (by omega) hnb hy fun i z h1 h2 e => by
    have : i = na - 1 := by omega
    rw [this, hx] at e
    cases e
    exact hl
  rw [one_stretch (by omega) hx] at this
  exact this
include o in
theorem MH.b {x y : α} (h : MH lt la lb out na nb) (sa : Srt lt la) (hna : 0 < na) (hnb : 0 < nb) (hx : la[na - 1]? = some x) (hy : lb[nb - 1]? = some y) (hl : lt y x = false) : MH lt la lb (out ++ [y]) na (nb - 1) := by
  have := h.bs o sa (c := nb - 1) (by omega) hna hx fun i z h1 h2 e => by
    have : i = nb - 1 := by omega
    rw [this, hy] at e
    cases e
    exact hl
  rw [one_stretch (by omega) hy] at this
  exact this
theorem MH.doneA (h : MH lt la lb out 0 nb) : la.take 0 ++ lb.take nb ++ out.reverse = mg lt la lb := by
  unfold MH at h
  rw [← h, List.take_zero, mg_nil, List.nil_append]
theorem MH.doneB (h : MH lt la lb out na 0) : la.take na ++ lb.take 0 ++ out.reverse = mg lt la lb := by
  unfold MH at h
  rw [← h, List.take_zero, mg_nil', List.append_nil]
theorem MH.firstB (h : MH lt la lb out na 1) {y : α} (hy : lb[0]? = some y) (hl : ∀ x ∈ la, lt y x = true) : lb.take 1 ++ la.take na ++ out.reverse = mg lt la lb := by
  unfold MH at h
  have e := mg_head_b lt (xs := la.take na) (bs := lb.take 1) (ys := []) fun b hb z hz => by
    rw [take_at hy, List.take_zero, List.nil_append] at hb
    rw [List.mem_singleton.mp hb]
    exact hl z (List.mem_of_mem_take hz)
  rw [List.append_nil, mg_nil'] at e
  rw [← h, e]
end
end TW
end

section
set_option Elab.async false
set_option linter.all false
set_option maxRecDepth 100000
set_option maxHeartbeats 4000000
/-! The sort of lists, of any length: searching by leaps. -/
namespace L2
open PySem PySem.Spec PyProof.Rows
def gallopX : Bool → Keyed → Array Keyed → Nat → Nat → Nat → StateT SortSt Sem (Option Nat) := sortPriv% PySem.Builtin.gallop
def beyX (left : Bool) (key : Keyed) (arr : Array Keyed) (base i : Nat) : StateT SortSt Sem (Option Bool) := do
  let x ← elem' arr (base + i)
  if left = true then lt' x key else do
    let r ← lt' key x
    pure (r.map fun x => !x)
section
variable {prog : Program} {w : World} {A : Around} {E : Value → Shared → Prop} {s : Shared}
/-- what is told of two things' comparison -/
def LtOk (prog : Program) (w : World) (A : Around) (E : Value → Shared → Prop) (s : Shared) (kd : SortKind) (P : Keyed → Prop) (blt : Keyed → Keyed → Bool) : Prop :=
  ∀ (x y : Keyed) (st : SortSt) (Q : Option Bool → SortSt → Prop), P x → P y → kindOf st = kd → Q (some (blt x y)) st → wpS (model prog w) A E s (lt' x y) Q st
theorem wpS_elem {arr : Array Keyed} {i : Nat} {p : Keyed} {st : SortSt} {Q : Keyed → SortSt → Prop} (e : arr[i]? = some p) (h : Q p st) : wpS (model prog w) A E s (elem' arr i) Q st := by
  rw [elem'_eq, e]
  exact wpS_pure h
variable {kd : SortKind} {P : Keyed → Prop} {blt : Keyed → Keyed → Bool} (L : LtOk prog w A E s kd P blt)
include L
def beyB (blt : Keyed → Keyed → Bool) (left : Bool) (key x : Keyed) : Bool := if left = true then blt x key else !(blt key x)
theorem wpS_bey {left : Bool} {key x : Keyed} {arr : Array Keyed} {base i : Nat} {st : SortSt} {Q : Option Bool → SortSt → Prop} (hk : kindOf st = kd) (hP : P key) (hx : arr[base + i]? = some x) (hPx : P x) (h : Q (some (beyB blt left key x)) st) :
    wpS (model prog w) A E s (beyX left key arr base i) Q st := by
  unfold beyX
  refine wpS_bind (wpS_elem hx ?_)
  cases left with
  | true => exact L _ _ _ _ hPx hP hk h
  | false => exact wpS_bind (L _ _ _ _ hP hPx hk (wpS_pure h))
theorem wpS_gallop {left : Bool} {key : Keyed} {arr : Array Keyed} {base n hint : Nat} {bey : Nat → Bool} {st : SortSt} {Q : Option Nat → SortSt → Prop} (hk : kindOf st = kd) (hP : P key) (hh : hint < n)
    (hb : ∀ i, i < n → ∃ x, arr[base + i]? = some x ∧ P x ∧ beyB blt left key x = bey i) (mono : ∀ i j, i ≤ j → j < n → bey j = true → bey i = true)
    (h : ∀ c, c ≤ n → (∀ i, i < c → bey i = true) → (∀ i, c ≤ i → i < n → bey i = false) → Q (some c) st) : wpS (model prog w) A E s (gallopX left key arr base n hint) Q st := by
  have hB : ∀ (i : Nat) (R : Option Bool → SortSt → Prop), i < n → R (some (bey i)) st → wpS (model prog w) A E s (beyX left key arr base i) R st := fun i R hi r => by
    obtain ⟨x, e1, e2, e3⟩ := hb i hi
    exact wpS_bey L hk hP e1 e2 (by rw [e3]; exact r)
  have monoF : ∀ i j, i ≤ j → j < n → bey i = false → bey j = false := fun i j h1 h2 h3 => by
    cases e : bey j with
    | false => rfl
    | true => rw [mono i j h1 h2 e] at h3; cases h3
  refine wpS_bind (hB hint _ hh ?_)
  dsimp only
  -- the last part: halving
  have last : ∀ (lo hi : Nat) (F : Nat → Option (Option Nat) × Nat × Nat → StateT SortSt Sem (ForInStep (Option (Option Nat) × Nat × Nat))),
      (∀ x lo hi, F x (none, lo, hi) = if lo ≥ hi then pure (ForInStep.done (none, lo, hi)) else do
        let r ← beyX left key arr base (lo + (hi - lo) / 2)
        match r with
        | some more => if more = true then pure (ForInStep.yield (none, lo + (hi - lo) / 2 + 1, hi)) else pure (ForInStep.yield (none, lo, lo + (hi - lo) / 2))
        | x => pure (ForInStep.done (some none, lo, hi))) →
      lo ≤ hi → hi ≤ n → (∀ i, i < lo → bey i = true) → (∀ i, hi ≤ i → i < n → bey i = false) →
      wpS (model prog w) A E s (forIn [:n] (none, lo, hi) F) (fun r st' => r.1 = none ∧ st' = st ∧ r.2.2 ≤ n ∧ (∀ i, i < r.2.2 → bey i = true) ∧ (∀ i, r.2.2 ≤ i → i < n → bey i = false)) st := by
    intro lo hi F hF hle hin h1 h2
    refine wpS_forRange (I := fun x c st' => ∃ lo hi, c = (none, lo, hi) ∧ st' = st ∧ lo ≤ hi ∧ hi ≤ n ∧ hi - lo + x ≤ n ∧ (∀ i, i < lo → bey i = true) ∧ (∀ i, hi ≤ i → i < n → bey i = false)) ?_ ?_ ⟨lo, hi, rfl, rfl, hle, hin, by omega, h1, h2⟩
    · rintro x c st' _ hx ⟨lo, hi, rfl, rfl, hle, hin, hd, h1, h2⟩
      rw [hF]
      by_cases hge : lo ≥ hi
      · rw [if_pos hge]
        exact wpS_pure ⟨rfl, rfl, hin, fun i hi' => h1 i (by dsimp only at hi'; omega), h2⟩
      · rw [if_neg hge]
        refine wpS_bind (hB _ _ (by omega) ?_)
        dsimp only
        cases e : bey (lo + (hi - lo) / 2) with
        | true =>
          rw [if_pos rfl]
          exact wpS_pure ⟨_, _, rfl, rfl, by omega, hin, by omega, fun i hi' => mono i _ (by omega) (by omega) e, h2⟩
        | false =>
          rw [if_neg (by decide)]
          exact wpS_pure ⟨_, _, rfl, rfl, by omega, by omega, by omega, h1, fun i hi1 hi2 => monoF _ i hi1 hi2 e⟩
    · rintro c st' ⟨lo, hi, rfl, rfl, hle, hin, hd, h1, h2⟩
      have : max 0 n = n := by omega
      rw [this] at hd
      exact ⟨rfl, rfl, hin, fun i hi' => h1 i (by dsimp only at hi'; omega), h2⟩
  cases e0 : bey hint with
  | true =>
    rw [if_pos rfl]
    refine wpS_bind (wpS_mono (wpS_forRange (I := fun x c st' => ∃ lo of, c = (none, lo, of) ∧ st' = st ∧ lo < of ∧ x + 1 ≤ of ∧ lo < n - hint ∧ bey (hint + lo) = true)
      (Q := fun c st' => ∃ lo of, c = (none, lo, of) ∧ st' = st ∧ lo < of ∧ lo < n - hint ∧ bey (hint + lo) = true ∧ (n - hint ≤ of ∨ (of < n - hint ∧ bey (hint + of) = false))) ?_ ?_ ⟨0, 1, rfl, rfl, by omega, by omega, by omega, e0⟩) ?_)
    · rintro x c st' _ hx ⟨lo, of, rfl, rfl, h1, h2, h3, h4⟩
      dsimp only
      by_cases hge : of ≥ n - hint
      · rw [if_pos hge]
        exact wpS_pure ⟨lo, of, rfl, rfl, h1, h3, h4, .inl hge⟩
      · rw [if_neg hge]
        refine wpS_bind (hB _ _ (by omega) ?_)
        dsimp only
        cases e : bey (hint + of) with
        | true => exact wpS_pure ⟨of, 2 * of + 1, rfl, rfl, by omega, by omega, by omega, e⟩
        | false => exact wpS_pure ⟨lo, of, rfl, rfl, h1, h3, h4, .inr ⟨by omega, e⟩⟩
    · rintro c st' ⟨lo, of, rfl, rfl, h1, h2, h3, h4⟩
      exact ⟨lo, of, rfl, rfl, h1, h3, h4, .inl (by have : max 0 n = n := by omega
                                                    omega)⟩
    · rintro c st' ⟨lo, of, rfl, rfl, h1, h3, h4, h5⟩
      dsimp only
      refine wpS_bind (wpS_mono (last _ _ _ (fun x lo hi => rfl) ?_ ?_ ?_ ?_) ?_)
      · omega
      · omega
      · intro i hi
        exact mono i (hint + lo) (by omega) (by omega) h4
      · intro i hi1 hi2
        rcases h5 with h5 | ⟨h5, h6⟩
        · omega
        · exact monoF (hint + of) i (by omega) hi2 h6
      · rintro ⟨r, lo2, hi2⟩ st' ⟨e1, e2, e3, e4, e5⟩
        dsimp only at e1 e2 e3 e4 e5
        subst e1 e2
        exact wpS_pure (h hi2 e3 e4 e5)
  | false =>
    rw [if_neg (by decide)]
    refine wpS_bind (wpS_mono (wpS_forRange (I := fun x c st' => ∃ lo of, c = (none, lo, of) ∧ st' = st ∧ lo < of ∧ x + 1 ≤ of ∧ lo < hint + 1 ∧ bey (hint - lo) = false)
      (Q := fun c st' => ∃ lo of, c = (none, lo, of) ∧ st' = st ∧ lo < of ∧ lo < hint + 1 ∧ bey (hint - lo) = false ∧ (hint + 1 ≤ of ∨ (of < hint + 1 ∧ bey (hint - of) = true))) ?_ ?_ ⟨0, 1, rfl, rfl, by omega, by omega, by omega, e0⟩) ?_)
    · rintro x c st' _ hx ⟨lo, of, rfl, rfl, h1, h2, h3, h4⟩
      dsimp only
      by_cases hge : of ≥ hint + 1
      · rw [if_pos hge]
        exact wpS_pure ⟨lo, of, rfl, rfl, h1, h3, h4, .inl hge⟩
      · rw [if_neg hge]
        refine wpS_bind (hB _ _ (by omega) ?_)
        dsimp only
        cases e : bey (hint - of) with
        | true => exact wpS_pure ⟨lo, of, rfl, rfl, h1, h3, h4, .inr ⟨by omega, e⟩⟩
        | false => exact wpS_pure ⟨of, 2 * of + 1, rfl, rfl, by omega, by omega, by omega, e⟩
    · rintro c st' ⟨lo, of, rfl, rfl, h1, h2, h3, h4⟩
      exact ⟨lo, of, rfl, rfl, h1, h3, h4, .inl (by have : max 0 n = n := by omega
                                                    omega)⟩
    · rintro c st' ⟨lo, of, rfl, rfl, h1, h3, h4, h5⟩
      dsimp only
      refine wpS_bind (wpS_mono (last _ _ _ (fun x lo hi => rfl) ?_ ?_ ?_ ?_) ?_)
      · omega
      · omega
      · intro i hi
        rcases h5 with h5 | ⟨h5, h6⟩
        · omega
        · exact mono i (hint - of) (by omega) (by omega) h6
      · intro i hi1 hi2
        exact monoF (hint - lo) i (by omega) hi2 h4
      · rintro ⟨r, lo2, hi2⟩ st' ⟨e1, e2, e3, e4, e5⟩
        dsimp only at e1 e2 e3 e4 e5
        subst e1 e2
        exact wpS_pure (h hi2 e3 e4 e5)
end
end L2
end

section
set_option Elab.async false
set_option linter.all false
set_option maxRecDepth 100000
set_option maxHeartbeats 4000000
/-! The sort of lists: merging from below. -/
namespace L2
open PySem PySem.Spec PyProof.Rows TW
def mergeLoX : Array Keyed → Array Keyed → StateT SortSt Sem (Array Keyed) := sortPriv% PySem.Builtin.mergeLo
abbrev setG (st : SortSt) (g : Nat) : SortSt := SortSt.mk' (kindOf st) (arrOf st) (pendingOf st) g (failedOf st)
theorem ar_push (out : Array Keyed) (x : Keyed) : (out.push x).toList = out.toList ++ [x] := Array.toList_push ..
theorem ar_ext (out a : Array Keyed) (i k : Nat) : (out ++ a.extract i (i + k)).toList = out.toList ++ (a.toList.drop i).take k := by
  rw [Array.toList_append, Array.toList_extract, List.extract_eq_take_drop]
  congr 2
  omega
theorem ar_rest (a : Array Keyed) (i : Nat) : (a.extract i a.size).toList = a.toList.drop i := by
  rw [Array.toList_extract, List.extract_eq_take_drop, List.take_of_length_le (by rw [List.length_drop, Array.length_toList]; exact Nat.le_refl _)]
theorem ar_at {a : Array Keyed} {i : Nat} {x : Keyed} (h : a[i]? = some x) : a.toList[i]? = some x := by rw [Array.getElem?_toList]; exact h
theorem ar_get {a : Array Keyed} {i : Nat} (h : i < a.size) : ∃ x, a[i]? = some x := ⟨_, Array.getElem?_eq_getElem h⟩
section
variable {prog : Program} {w : World} {A : Around} {E : Value → Shared → Prop} {s : Shared}
theorem wpS_setG {g : Nat} {st : SortSt} {Q : Unit → SortSt → Prop} (h : Q () (setG st g)) : wpS (model prog w) A E s ((sortPriv% PySem.Builtin.setMinGallop) g) Q st := wpS_modify h
variable {kd : SortKind} {P : Keyed → Prop} {blt : Keyed → Keyed → Bool} (L : LtOk prog w A E s kd P blt) (o : Swo blt)
include L o
theorem wpS_mergeLo {a b : Array Keyed} {st : SortSt} {Q : Array Keyed → SortSt → Prop} (hk : kindOf st = kd) (ha : 0 < a.size) (hb : 0 < b.size) (pa : ∀ x ∈ a.toList, P x) (pb : ∀ x ∈ b.toList, P x) (sa : Srt blt a.toList) (sb : Srt blt b.toList)
    (hf : ∀ x y, a[0]? = some x → b[0]? = some y → blt y x = true) (hl : ∀ x, a[a.size - 1]? = some x → ∀ y ∈ b.toList, blt y x = true)
    (h : ∀ r g, r.toList = mg blt a.toList b.toList → Q r (setG st g)) : wpS (model prog w) A E s (mergeLoX a b) Q st := by
  have la : a.toList.length = a.size := Array.length_toList
  have lb : b.toList.length = b.size := Array.length_toList
  have PA : ∀ {i x}, a[i]? = some x → P x := fun e => pa _ (List.mem_of_getElem? (ar_at e))
  have PB : ∀ {i x}, b[i]? = some x → P x := fun e => pb _ (List.mem_of_getElem? (ar_at e))
  obtain ⟨b0, eb0⟩ := ar_get hb
  obtain ⟨a0, ea0⟩ := ar_get ha
  have h0 : MI blt a.toList b.toList [b0] 0 1 := (show MI blt a.toList b.toList [] 0 0 from rfl).b (ar_at ea0) (ar_at eb0) (hf _ _ ea0 eb0)
  have fin1 : ∀ {out : Array Keyed} {ia ib : Nat}, MI blt a.toList b.toList out.toList ia ib → b.size ≤ ib → (out ++ a.extract ia a.size ++ b.extract ib b.size).toList = mg blt a.toList b.toList := fun m e => by
    rw [Array.toList_append, Array.toList_append, ar_rest, ar_rest]
    exact m.doneB (by rw [lb]; exact e)
  have fin2 : ∀ {out : Array Keyed} {ia ib : Nat}, MI blt a.toList b.toList out.toList ia ib → a.size ≤ ia → (out ++ a.extract ia a.size ++ b.extract ib b.size).toList = mg blt a.toList b.toList := fun m e => by
    rw [Array.toList_append, Array.toList_append, ar_rest, ar_rest]
    exact m.doneA (by rw [la]; exact e)
  have fin3 : ∀ {out : Array Keyed} {ia ib : Nat}, MI blt a.toList b.toList out.toList ia ib → ia + 1 = a.size → (out ++ b.extract ib b.size ++ a.extract ia a.size).toList = mg blt a.toList b.toList := fun {out ia ib} m e => by
    obtain ⟨x, ex⟩ := ar_get (show ia < a.size by omega)
    rw [Array.toList_append, Array.toList_append, ar_rest, ar_rest]
    exact m.lastA (ar_at ex) (by rw [la]; omega) (hl x (by rw [← e]; exact ex))
  refine wpS_bind (wpS_lift (wpAny_rule ⟨rfl, ?_⟩))
  try dsimp only
  refine wpS_bind (wpS_elem eb0 ?_)
  try dsimp only
  by_cases c1 : (1 == b.size) = true
  · rw [if_pos c1]
    exact wpS_pure (h _ (gallopOf st) (fin1 (out := #[b0]) h0 (by rw [beq_iff_eq] at c1; omega)))
  rw [if_neg c1]
  by_cases c2 : (0 + 1 == a.size) = true
  · rw [if_pos c2]
    exact wpS_pure (h _ (gallopOf st) (fin3 (out := #[b0]) h0 (by rw [beq_iff_eq] at c2; omega)))
  rw [if_neg c2]
  rw [beq_iff_eq] at c1 c2
  refine wpS_bind (wpS_get ?_)
  refine wpS_bind (wpS_mono (wpS_forRange
    (I := fun x c st' => ∃ (out : Array Keyed) (ia ib g g' : Nat), c = (none, out, ia, ib, g) ∧ st' = setG st g' ∧ MI blt a.toList b.toList out.toList ia ib ∧ ia + 1 < a.size ∧ ib < b.size ∧ x ≤ ia + ib)
    (Q := fun c st' => ∃ (r : Array Keyed) (g' : Nat), c.1 = some r ∧ st' = setG st g' ∧ r.toList = mg blt a.toList b.toList) ?_ ?_ ⟨#[b0], 0, 1, _, gallopOf st, rfl, rfl, h0, by omega, by omega, Nat.zero_le _⟩) ?_)
  · rintro x c st' _ hx ⟨out, ia, ib, g, g', rfl, rfl, m, hia, hib, hpr⟩
    try dsimp only
    refine wpS_bind (wpS_mono (wpS_forRange
      (I := fun y c st' => ∃ (out : Array Keyed) (ia' ib' ac bc : Nat), c = (none, out, ia', ib', ac, bc) ∧ st' = setG st g' ∧ MI blt a.toList b.toList out.toList ia' ib' ∧ ia' + 1 < a.size ∧ ib' < b.size ∧ y + (ia + ib) ≤ ia' + ib')
      (Q := fun c st' => st' = setG st g' ∧ ((∃ r : Array Keyed, ∃ cc, c = (some r, cc) ∧ r.toList = mg blt a.toList b.toList) ∨ ∃ (out : Array Keyed) (ia' ib' ac bc : Nat), c = (none, out, ia', ib', ac, bc) ∧ MI blt a.toList b.toList out.toList ia' ib' ∧ ia' + 1 < a.size ∧ ib' < b.size ∧ ia + ib + 1 ≤ ia' + ib')) ?_ ?_ ⟨out, ia, ib, 0, 0, rfl, rfl, m, hia, hib, by omega⟩) ?_)
    · rintro y c st' _ hy ⟨out, ia, ib, ac, bc, rfl, rfl, m, hia, hib, hpr⟩
      try dsimp only
      obtain ⟨xa, ea⟩ := ar_get (show ia < a.size by omega)
      obtain ⟨xb, eb⟩ := ar_get hib
      refine wpS_bind (wpS_elem eb (wpS_bind (wpS_elem ea (wpS_bind (L _ _ _ _ (PB eb) (PA ea) hk ?_)))))
      try dsimp only
      cases hlt : blt xb xa with
      | true =>
        rw [if_pos rfl]
        refine wpS_bind (wpS_elem eb ?_)
        try dsimp only
        have m' : MI blt a.toList b.toList (out.push xb).toList ia (ib + 1) := by rw [ar_push]; exact m.b (ar_at ea) (ar_at eb) hlt
        by_cases c3 : (ib + 1 == b.size) = true
        · rw [if_pos c3]
          exact wpS_pure ⟨rfl, .inl ⟨_, _, rfl, fin1 m' (by rw [beq_iff_eq] at c3; omega)⟩⟩
        · rw [if_neg c3]
          rw [beq_iff_eq] at c3
          by_cases c4 : bc + 1 ≥ g
          · rw [if_pos c4]
            exact wpS_pure ⟨rfl, .inr ⟨_, _, _, _, _, rfl, m', hia, by omega, by omega⟩⟩
          · rw [if_neg c4]
            exact wpS_pure ⟨_, _, _, _, _, rfl, rfl, m', hia, by omega, by omega⟩
      | false =>
        rw [if_neg (by decide)]
        refine wpS_bind (wpS_elem ea ?_)
        try dsimp only
        have m' : MI blt a.toList b.toList (out.push xa).toList (ia + 1) ib := by rw [ar_push]; exact m.a (ar_at ea) (ar_at eb) hlt
        by_cases c3 : (ia + 1 + 1 == a.size) = true
        · rw [if_pos c3]
          exact wpS_pure ⟨rfl, .inl ⟨_, _, rfl, fin3 m' (by rw [beq_iff_eq] at c3; omega)⟩⟩
        · rw [if_neg c3]
          rw [beq_iff_eq] at c3
          by_cases c4 : ac + 1 ≥ g
          · rw [if_pos c4]
            exact wpS_pure ⟨rfl, .inr ⟨_, _, _, _, _, rfl, m', by omega, hib, by omega⟩⟩
          · rw [if_neg c4]
            exact wpS_pure ⟨_, _, _, _, _, rfl, rfl, m', by omega, hib, by omega⟩
    · rintro c st' ⟨out, ia', ib', ac, bc, rfl, rfl, m, hia', hib', hpr'⟩
      exfalso
      have : max 0 (a.size + b.size) = a.size + b.size := by omega
      omega
    · rintro c st' ⟨rfl, ⟨r, cc, rfl, hr⟩ | ⟨out, ia1, ib1, ac, bc, rfl, m1, hia1, hib1, hpr1⟩⟩
      · dsimp only
        exact wpS_pure ⟨r, g', rfl, rfl, hr⟩
      · dsimp only
        refine wpS_bind (wpS_lift (wpAny_rule ⟨rfl, ?_⟩))
        try dsimp only
        refine wpS_bind (wpS_mono (wpS_forRange
          (I := fun y c st' => ∃ (out : Array Keyed) (ia' ib' mg' ac bc g2 : Nat), c = (none, out, ia', ib', mg', ac, bc) ∧ st' = setG st g2 ∧ MI blt a.toList b.toList out.toList ia' ib' ∧ ia' + 1 < a.size ∧ ib' < b.size ∧ y + (ia1 + ib1) ≤ ia' + ib')
          (Q := fun c st' => ∃ g2, st' = setG st g2 ∧ ((∃ r : Array Keyed, ∃ cc, c = (some r, cc) ∧ r.toList = mg blt a.toList b.toList) ∨ ∃ (out : Array Keyed) (ia' ib' mg' ac bc : Nat), c = (none, out, ia', ib', mg', ac, bc) ∧ MI blt a.toList b.toList out.toList ia' ib' ∧ ia' + 1 < a.size ∧ ib' < b.size ∧ ia1 + ib1 ≤ ia' + ib')) ?_ ?_ ⟨out, ia1, ib1, _, ac, bc, g', rfl, rfl, m1, hia1, hib1, by omega⟩) ?_)
        · rintro y c st' _ hy ⟨out, ia, ib, mg', ac, bc, g2, rfl, rfl, m, hia, hib, hpr⟩
          try dsimp only
          obtain ⟨xb, eb⟩ := ar_get hib
          by_cases cg : mg' > 1
          case' pos => rw [if_pos cg]
          case' neg => rw [if_neg cg]
          all_goals
            refine wpS_bind (wpS_setG (wpS_bind (wpS_elem eb ?_)))
            have gb : ∀ i, i < a.size - ia → ∃ x, a[ia + i]? = some x ∧ P x ∧ beyB blt false xb x = (fun i => match a[ia + i]? with | some x => !(blt xb x) | none => false) i := fun i hi => by
              obtain ⟨x, ex⟩ := ar_get (show ia + i < a.size by omega)
              exact ⟨x, ex, PA ex, by dsimp only; rw [ex]; rfl⟩
            have gm : ∀ i j, i ≤ j → j < a.size - ia → (fun i => match a[ia + i]? with | some x => !(blt xb x) | none => false) j = true → (fun i => match a[ia + i]? with | some x => !(blt xb x) | none => false) i = true := fun i j hij hj e => by
              obtain ⟨x, ex⟩ := ar_get (show ia + i < a.size by omega)
              obtain ⟨z, ez⟩ := ar_get (show ia + j < a.size by omega)
              try dsimp only at e ⊢
              rw [ex]
              rw [ez] at e
              try dsimp only at e ⊢
              cases e1 : blt xb x with
              | false => rfl
              | true =>
                have := o.ltle e1 (srt_le o sa (show ia + i ≤ ia + j by omega) (ar_at ex) (ar_at ez))
                rw [this] at e
                cases e
            refine wpS_bind (wpS_gallop L hk (PB eb) (show 0 < a.size - ia by omega) gb gm (fun c hc1 hc2 hc3 => ?_))
            have hA1 : ∀ i x, i < c → a.toList[ia + i]? = some x → blt xb x = false := fun i x hi ex => by
              rw [Array.getElem?_toList] at ex
              have := hc2 i hi
              try dsimp only at this
              rw [ex] at this
              simpa using this
            have hA2 : ∀ i x, c ≤ i → a[ia + i]? = some x → blt xb x = true := fun i x hi ex => by
              have hl := (Array.getElem?_eq_some_iff.mp ex).1
              have := hc3 i hi (by omega)
              try dsimp only at this
              rw [ex] at this
              simpa using this
            have m2 : MI blt a.toList b.toList (out ++ a.extract ia (ia + c)).toList (ia + c) ib := by rw [ar_ext]; exact m.as o sb (ar_at eb) hA1
            try dsimp only
            by_cases hc0 : c > 0
            case' pos =>
              rw [if_pos hc0]
              by_cases c5 : (ia + c + 1 == a.size) = true
              · rw [if_pos c5]
                exact wpS_pure ⟨_, rfl, .inl ⟨_, _, rfl, fin3 m2 (by rw [beq_iff_eq] at c5; omega)⟩⟩
              rw [if_neg c5]
              by_cases c6 : (ia + c == a.size) = true
              · rw [if_pos c6]
                exact wpS_pure ⟨_, rfl, .inl ⟨_, _, rfl, fin2 m2 (by rw [beq_iff_eq] at c6; omega)⟩⟩
              rw [if_neg c6]
              rw [beq_iff_eq] at c5 c6
              have hi2 : ia + c + 1 < a.size := by omega
              have hA3 : ∀ x, a[ia + c]? = some x → blt xb x = true := fun x ex => hA2 c x (Nat.le_refl _) ex
              have hp2 : y + (ia1 + ib1) ≤ ia + c + ib := by omega
              clear hA1 hA2 hc1 hc2 hc3 hc0 c5 c6
              generalize out ++ a.extract ia (ia + c) = out2 at *
              generalize ia + c = ia2 at *
            case' neg =>
              rw [if_neg hc0]
              have e0 : c = 0 := by omega
              have hi2 : ia + 1 < a.size := by omega
              have hA3 : ∀ x, a[ia]? = some x → blt xb x = true := fun x ex => hA2 0 x (by omega) ex
              have hp2 : y + (ia1 + ib1) ≤ ia + ib := by omega
              clear hA1 hA2 hc1 hc2 hc3 hc0 m2
              have m2 := m
              clear m
              generalize out = out2 at *
              generalize ia = ia2 at *
            all_goals
              obtain ⟨xa, ea⟩ := ar_get (show ia2 < a.size by omega)
              refine wpS_bind (wpS_elem eb ?_)
              have m3 : MI blt a.toList b.toList (out2.push xb).toList ia2 (ib + 1) := by rw [ar_push]; exact m2.b (ar_at ea) (ar_at eb) (hA3 xa ea)
              try dsimp only
              by_cases c7 : (ib + 1 == b.size) = true
              · rw [if_pos c7]
                exact wpS_pure ⟨_, rfl, .inl ⟨_, _, rfl, fin1 m3 (by rw [beq_iff_eq] at c7; omega)⟩⟩
              rw [if_neg c7]
              rw [beq_iff_eq] at c7
              refine wpS_bind (wpS_elem ea ?_)
              have gb : ∀ i, i < b.size - (ib + 1) → ∃ x, b[ib + 1 + i]? = some x ∧ P x ∧ beyB blt true xa x = (fun i => match b[ib + 1 + i]? with | some x => blt x xa | none => false) i := fun i hi => by
                obtain ⟨x, ex⟩ := ar_get (show ib + 1 + i < b.size by omega)
                exact ⟨x, ex, PB ex, by dsimp only; rw [ex]; rfl⟩
              have gm : ∀ i j, i ≤ j → j < b.size - (ib + 1) → (fun i => match b[ib + 1 + i]? with | some x => blt x xa | none => false) j = true → (fun i => match b[ib + 1 + i]? with | some x => blt x xa | none => false) i = true := fun i j hij hj e => by
                obtain ⟨x, ex⟩ := ar_get (show ib + 1 + i < b.size by omega)
                obtain ⟨z, ez⟩ := ar_get (show ib + 1 + j < b.size by omega)
                try dsimp only at e ⊢
                rw [ex]
                rw [ez] at e
                try dsimp only at e ⊢
                exact o.lelt (srt_le o sb (show ib + 1 + i ≤ ib + 1 + j by omega) (ar_at ex) (ar_at ez)) e
              refine wpS_bind (wpS_gallop L hk (PA ea) (show 0 < b.size - (ib + 1) by omega) gb gm (fun d hd1 hd2 hd3 => ?_))
              have hB1 : ∀ i x, i < d → b.toList[ib + 1 + i]? = some x → blt x xa = true := fun i x hi ex => by
                rw [Array.getElem?_toList] at ex
                have := hd2 i hi
                try dsimp only at this
                rw [ex] at this
                exact this
              have hB2 : ∀ i x, d ≤ i → b[ib + 1 + i]? = some x → blt x xa = false := fun i x hi ex => by
                have hl := (Array.getElem?_eq_some_iff.mp ex).1
                have := hd3 i hi (by omega)
                try dsimp only at this
                rw [ex] at this
                exact this
              have m4 : MI blt a.toList b.toList (out2.push xb ++ b.extract (ib + 1) (ib + 1 + d)).toList ia2 (ib + 1 + d) := by rw [ar_ext]; exact m3.bs o sa (ar_at ea) hB1
              try dsimp only
              by_cases hd0 : d > 0
              case' pos =>
                rw [if_pos hd0]
                by_cases c8 : (ib + 1 + d == b.size) = true
                · rw [if_pos c8]
                  exact wpS_pure ⟨_, rfl, .inl ⟨_, _, rfl, fin1 m4 (by rw [beq_iff_eq] at c8; omega)⟩⟩
                rw [if_neg c8]
                rw [beq_iff_eq] at c8
                have hi4 : ib + 1 + d < b.size := by omega
                have hB3 : ∀ x, b[ib + 1 + d]? = some x → blt x xa = false := fun x ex => hB2 d x (Nat.le_refl _) ex
                have hp4 : y + (ia1 + ib1) + 1 ≤ ia2 + (ib + 1 + d) := by omega
                clear hB1 hB2 hd1 hd2 hd3 hd0 c8
                generalize out2.push xb ++ b.extract (ib + 1) (ib + 1 + d) = out4 at *
                generalize ib + 1 + d = ib4 at *
              case' neg =>
                rw [if_neg hd0]
                have hi4 : ib + 1 < b.size := by omega
                have hB3 : ∀ x, b[ib + 1]? = some x → blt x xa = false := fun x ex => hB2 0 x (by omega) ex
                have hp4 : y + (ia1 + ib1) + 1 ≤ ia2 + (ib + 1) := by omega
                clear hB1 hB2 hd1 hd2 hd3 hd0 m4
                have m4 := m3
                clear m3
                generalize out2.push xb = out4 at *
                generalize ib + 1 = ib4 at *
              all_goals
                obtain ⟨xb4, eb4⟩ := ar_get hi4
                refine wpS_bind (wpS_elem ea ?_)
                have m5 : MI blt a.toList b.toList (out4.push xa).toList (ia2 + 1) ib4 := by rw [ar_push]; exact m4.a (ar_at ea) (ar_at eb4) (hB3 xb4 eb4)
                try dsimp only
                by_cases c9 : (ia2 + 1 + 1 == a.size) = true
                · rw [if_pos c9]
                  exact wpS_pure ⟨_, rfl, .inl ⟨_, _, rfl, fin3 m5 (by rw [beq_iff_eq] at c9; omega)⟩⟩
                rw [if_neg c9]
                rw [beq_iff_eq] at c9
                by_cases c10 : (decide (c < 7) && decide (d < 7)) = true
                · rw [if_pos c10]
                  exact wpS_pure ⟨_, rfl, .inr ⟨_, _, _, _, _, _, rfl, m5, by omega, hi4, by omega⟩⟩
                · rw [if_neg c10]
                  exact wpS_pure ⟨_, _, _, _, _, _, _, rfl, rfl, m5, by omega, hi4, by omega⟩
        · rintro c st' ⟨out, ia', ib', mg', ac, bc, g2, rfl, rfl, m, hia', hib', hpr'⟩
          exfalso
          have : max 0 (a.size + b.size) = a.size + b.size := by omega
          omega
        · rintro c st' ⟨g2, rfl, ⟨r, cc, rfl, hr⟩ | ⟨out, ia2, ib2, mg2, ac, bc, rfl, m2, hia2, hib2, hpr2⟩⟩
          · dsimp only
            exact wpS_pure ⟨r, g2, rfl, rfl, hr⟩
          · dsimp only
            refine wpS_bind (wpS_setG (wpS_pure ⟨_, _, _, _, _, rfl, rfl, m2, hia2, hib2, by omega⟩))
  · rintro c st' ⟨out, ia, ib, g, g', rfl, rfl, m, hia, hib, hpr⟩
    exfalso
    have : max 0 (a.size + b.size) = a.size + b.size := by omega
    omega
  · rintro ⟨c, cc⟩ st' ⟨r, g', e, rfl, hr⟩
    try dsimp only at e
    subst e
    try dsimp only
    exact wpS_pure (h r g' hr)
end
end L2
end

section
set_option Elab.async false
set_option linter.all false
set_option maxRecDepth 100000
set_option maxHeartbeats 4000000
/-! The sort of lists: merging from above. -/
namespace L2
open PySem PySem.Spec PyProof.Rows TW
def mergeHiX : Array Keyed → Array Keyed → StateT SortSt Sem (Array Keyed) := sortPriv% PySem.Builtin.mergeHi
theorem ar_fore (a : Array Keyed) (n : Nat) : (a.extract 0 n).toList = a.toList.take n := by
  rw [Array.toList_extract, List.extract_eq_take_drop, List.drop_zero, Nat.sub_zero]
theorem ar_rev (out a : Array Keyed) (c n : Nat) : (out ++ (a.extract c n).reverse).toList = out.toList ++ ((a.toList.drop c).take (n - c)).reverse := by
  rw [Array.toList_append, Array.toList_reverse, Array.toList_extract, List.extract_eq_take_drop]
section
variable {prog : Program} {w : World} {A : Around} {E : Value → Shared → Prop} {s : Shared}
variable {kd : SortKind} {P : Keyed → Prop} {blt : Keyed → Keyed → Bool} (L : LtOk prog w A E s kd P blt) (o : Swo blt)
include L o
theorem wpS_mergeHi {a b : Array Keyed} {st : SortSt} {Q : Array Keyed → SortSt → Prop} (hk : kindOf st = kd) (ha : 0 < a.size) (hb : 0 < b.size) (pa : ∀ x ∈ a.toList, P x) (pb : ∀ x ∈ b.toList, P x) (sa : Srt blt a.toList) (sb : Srt blt b.toList)
    (hf : ∀ y, b[0]? = some y → ∀ x ∈ a.toList, blt y x = true) (hl : ∀ x, a[a.size - 1]? = some x → ∀ y ∈ b.toList, blt y x = true)
    (h : ∀ r g, r.toList = mg blt a.toList b.toList → Q r (setG st g)) : wpS (model prog w) A E s (mergeHiX a b) Q st := by
  have la : a.toList.length = a.size := Array.length_toList
  have lb : b.toList.length = b.size := Array.length_toList
  have PA : ∀ {i x}, a[i]? = some x → P x := fun e => pa _ (List.mem_of_getElem? (ar_at e))
  have PB : ∀ {i x}, b[i]? = some x → P x := fun e => pb _ (List.mem_of_getElem? (ar_at e))
  obtain ⟨b0, eb0⟩ := ar_get hb
  obtain ⟨al, eal⟩ := ar_get (show a.size - 1 < a.size by omega)
  have h0 : MH blt a.toList b.toList [al] (a.size - 1) b.size := by
    have e := mg_tail_a blt (as := [al]) (a.toList.take (a.size - 1)) b.toList fun x hx y hy => by rw [List.mem_singleton.mp hx]; exact hl al eal y hy
    rw [← take_at (ar_at eal), Nat.sub_add_cancel ha, ← la, List.take_length] at e
    unfold MH
    rw [← lb, List.take_length, e, la]
    rfl
  have finA : ∀ {out : Array Keyed} {na nb : Nat}, MH blt a.toList b.toList out.toList na nb → na = 0 → (a.extract 0 na ++ b.extract 0 nb ++ out.reverse).toList = mg blt a.toList b.toList := fun m e => by
    subst e
    rw [Array.toList_append, Array.toList_append, ar_fore, ar_fore, Array.toList_reverse]
    exact m.doneA
  have finB : ∀ {out : Array Keyed} {na nb : Nat}, MH blt a.toList b.toList out.toList na nb → nb = 0 → (a.extract 0 na ++ b.extract 0 nb ++ out.reverse).toList = mg blt a.toList b.toList := fun m e => by
    subst e
    rw [Array.toList_append, Array.toList_append, ar_fore, ar_fore, Array.toList_reverse]
    exact m.doneB
  have finF : ∀ {out : Array Keyed} {na nb : Nat}, MH blt a.toList b.toList out.toList na nb → nb = 1 → (b.extract 0 nb ++ a.extract 0 na ++ out.reverse).toList = mg blt a.toList b.toList := fun m e => by
    subst e
    rw [Array.toList_append, Array.toList_append, ar_fore, ar_fore, Array.toList_reverse]
    exact m.firstB (ar_at eb0) (hf b0 eb0)
  refine wpS_bind (wpS_lift (wpAny_rule ⟨rfl, ?_⟩))
  try dsimp only
  refine wpS_bind (wpS_elem eal ?_)
  try dsimp only
  by_cases c1 : (a.size - 1 == 0) = true
  · rw [if_pos c1]
    exact wpS_pure (h _ (gallopOf st) (finA (out := #[al]) h0 (by rw [beq_iff_eq] at c1; exact c1)))
  rw [if_neg c1]
  by_cases c2 : (b.size == 1) = true
  · rw [if_pos c2]
    exact wpS_pure (h _ (gallopOf st) (finF (out := #[al]) h0 (by rw [beq_iff_eq] at c2; exact c2)))
  rw [if_neg c2]
  rw [beq_iff_eq] at c1 c2
  refine wpS_bind (wpS_get ?_)
  refine wpS_bind (wpS_mono (wpS_forRange
    (I := fun x c st' => ∃ (out : Array Keyed) (na nb g g' : Nat), c = (none, na, nb, out, g) ∧ st' = setG st g' ∧ MH blt a.toList b.toList out.toList na nb ∧ 0 < na ∧ na ≤ a.size ∧ 1 < nb ∧ nb ≤ b.size ∧ x + (na + nb) ≤ a.size + b.size)
    (Q := fun c st' => ∃ (r : Array Keyed) (g' : Nat), c.1 = some r ∧ st' = setG st g' ∧ r.toList = mg blt a.toList b.toList) ?_ ?_ ⟨#[al], a.size - 1, b.size, _, gallopOf st, rfl, rfl, h0, by omega, by omega, by omega, by omega, by omega⟩) ?_)
  · rintro x c st' _ hx ⟨out, na, nb, g, g', rfl, rfl, m, hna, hna2, hnb, hnb2, hpr⟩
    try dsimp only
    refine wpS_bind (wpS_mono (wpS_forRange
      (I := fun y c st' => ∃ (out : Array Keyed) (na' nb' ac bc : Nat), c = (none, na', nb', out, ac, bc) ∧ st' = setG st g' ∧ MH blt a.toList b.toList out.toList na' nb' ∧ 0 < na' ∧ na' ≤ a.size ∧ 1 < nb' ∧ nb' ≤ b.size ∧ y + (na' + nb') ≤ na + nb)
      (Q := fun c st' => st' = setG st g' ∧ ((∃ r : Array Keyed, ∃ cc, c = (some r, cc) ∧ r.toList = mg blt a.toList b.toList) ∨ ∃ (out : Array Keyed) (na' nb' ac bc : Nat), c = (none, na', nb', out, ac, bc) ∧ MH blt a.toList b.toList out.toList na' nb' ∧ 0 < na' ∧ na' ≤ a.size ∧ 1 < nb' ∧ nb' ≤ b.size ∧ na' + nb' + 1 ≤ na + nb)) ?_ ?_ ⟨out, na, nb, 0, 0, rfl, rfl, m, hna, hna2, hnb, hnb2, by omega⟩) ?_)
    · rintro y c st' _ hy ⟨out, na, nb, ac, bc, rfl, rfl, m, hna, hna2, hnb, hnb2, hpr⟩
      try dsimp only
      obtain ⟨xa, ea⟩ := ar_get (show na - 1 < a.size by omega)
      obtain ⟨xb, eb⟩ := ar_get (show nb - 1 < b.size by omega)
      refine wpS_bind (wpS_elem eb (wpS_bind (wpS_elem ea (wpS_bind (L _ _ _ _ (PB eb) (PA ea) hk ?_)))))
      try dsimp only
      cases hlt : blt xb xa with
      | true =>
        rw [if_pos rfl]
        refine wpS_bind (wpS_elem ea ?_)
        try dsimp only
        have m' : MH blt a.toList b.toList (out.push xa).toList (na - 1) nb := by rw [ar_push]; exact m.a o sb hna (by omega) (ar_at ea) (ar_at eb) hlt
        by_cases c3 : (na - 1 == 0) = true
        · rw [if_pos c3]
          exact wpS_pure ⟨rfl, .inl ⟨_, _, rfl, finA m' (by rw [beq_iff_eq] at c3; exact c3)⟩⟩
        · rw [if_neg c3]
          rw [beq_iff_eq] at c3
          by_cases c4 : ac + 1 ≥ g
          · rw [if_pos c4]
            exact wpS_pure ⟨rfl, .inr ⟨_, _, _, _, _, rfl, m', by omega, by omega, hnb, hnb2, by omega⟩⟩
          · rw [if_neg c4]
            exact wpS_pure ⟨_, _, _, _, _, rfl, rfl, m', by omega, by omega, hnb, hnb2, by omega⟩
      | false =>
        rw [if_neg (by decide)]
        refine wpS_bind (wpS_elem eb ?_)
        try dsimp only
        have m' : MH blt a.toList b.toList (out.push xb).toList na (nb - 1) := by rw [ar_push]; exact m.b o sa hna (by omega) (ar_at ea) (ar_at eb) hlt
        by_cases c3 : (nb - 1 == 1) = true
        · rw [if_pos c3]
          exact wpS_pure ⟨rfl, .inl ⟨_, _, rfl, finF m' (by rw [beq_iff_eq] at c3; exact c3)⟩⟩
        · rw [if_neg c3]
          rw [beq_iff_eq] at c3
          by_cases c4 : bc + 1 ≥ g
          · rw [if_pos c4]
            exact wpS_pure ⟨rfl, .inr ⟨_, _, _, _, _, rfl, m', hna, hna2, by omega, by omega, by omega⟩⟩
          · rw [if_neg c4]
            exact wpS_pure ⟨_, _, _, _, _, rfl, rfl, m', hna, hna2, by omega, by omega, by omega⟩
    · rintro c st' ⟨out, na', nb', ac, bc, rfl, rfl, m, h1, h2, h3, h4, h5⟩
      exfalso
      have : max 0 (a.size + b.size) = a.size + b.size := by omega
      omega
    · rintro c st' ⟨rfl, ⟨r, cc, rfl, hr⟩ | ⟨out, na1, nb1, ac, bc, rfl, m1, q1, q2, q3, q4, q5⟩⟩
      · try dsimp only
        exact wpS_pure ⟨r, g', rfl, rfl, hr⟩
      · try dsimp only
        refine wpS_bind (wpS_lift (wpAny_rule ⟨rfl, ?_⟩))
        try dsimp only
        refine wpS_bind (wpS_mono (wpS_forRange
          (I := fun y c st' => ∃ (out : Array Keyed) (na' nb' mg' ac bc g2 : Nat), c = (none, na', nb', out, mg', ac, bc) ∧ st' = setG st g2 ∧ MH blt a.toList b.toList out.toList na' nb' ∧ 0 < na' ∧ na' ≤ a.size ∧ 1 < nb' ∧ nb' ≤ b.size ∧ y + (na' + nb') ≤ na1 + nb1)
          (Q := fun c st' => ∃ g2, st' = setG st g2 ∧ ((∃ r : Array Keyed, ∃ cc, c = (some r, cc) ∧ r.toList = mg blt a.toList b.toList) ∨ ∃ (out : Array Keyed) (na' nb' mg' ac bc : Nat), c = (none, na', nb', out, mg', ac, bc) ∧ MH blt a.toList b.toList out.toList na' nb' ∧ 0 < na' ∧ na' ≤ a.size ∧ 1 < nb' ∧ nb' ≤ b.size ∧ na' + nb' ≤ na1 + nb1)) ?_ ?_ ⟨out, na1, nb1, _, ac, bc, g', rfl, rfl, m1, q1, q2, q3, q4, by omega⟩) ?_)
        · rintro y c st' _ hy ⟨out, na, nb, mg', ac, bc, g2, rfl, rfl, m, hna, hna2, hnb, hnb2, hpr⟩
          try dsimp only
          obtain ⟨xb, eb⟩ := ar_get (show nb - 1 < b.size by omega)
          by_cases cg : mg' > 1
          case' pos => rw [if_pos cg]
          case' neg => rw [if_neg cg]
          all_goals
            refine wpS_bind (wpS_setG (wpS_bind (wpS_elem eb ?_)))
            have gb : ∀ i, i < na → ∃ x, a[0 + i]? = some x ∧ P x ∧ beyB blt false xb x = (fun i => match a[0 + i]? with | some x => !(blt xb x) | none => false) i := fun i hi => by
              obtain ⟨x, ex⟩ := ar_get (show 0 + i < a.size by omega)
              exact ⟨x, ex, PA ex, by dsimp only; rw [ex]; rfl⟩
            have gm : ∀ i j, i ≤ j → j < na → (fun i => match a[0 + i]? with | some x => !(blt xb x) | none => false) j = true → (fun i => match a[0 + i]? with | some x => !(blt xb x) | none => false) i = true := fun i j hij hj e => by
              obtain ⟨x, ex⟩ := ar_get (show 0 + i < a.size by omega)
              obtain ⟨z, ez⟩ := ar_get (show 0 + j < a.size by omega)
              dsimp only at e ⊢
              rw [ex]
              rw [ez] at e
              try dsimp only at e ⊢
              cases e1 : blt xb x with
              | false => rfl
              | true =>
                have := o.ltle e1 (srt_le o sa (show 0 + i ≤ 0 + j by omega) (ar_at ex) (ar_at ez))
                rw [this] at e
                cases e
            refine wpS_bind (wpS_gallop L hk (PB eb) (show na - 1 < na by omega) gb gm (fun c hc1 hc2 hc3 => ?_))
            have hA1 : ∀ i x, i < c → a[i]? = some x → blt xb x = false := fun i x hi ex => by
              have := hc2 i hi
              try dsimp only at this
              rw [Nat.zero_add, ex] at this
              simpa using this
            have hA2 : ∀ i x, c ≤ i → i < na → a.toList[i]? = some x → blt xb x = true := fun i x hi1 hi2 ex => by
              rw [Array.getElem?_toList] at ex
              have := hc3 i hi1 hi2
              try dsimp only at this
              rw [Nat.zero_add, ex] at this
              simpa using this
            have m2 : MH blt a.toList b.toList (out ++ (a.extract c na).reverse).toList c nb := by rw [ar_rev]; exact m.as o sb hc1 (by omega) (ar_at eb) hA2
            try dsimp only
            by_cases hc0 : na - c > 0
            case' pos =>
              rw [if_pos hc0]
              by_cases c5 : (c == 0) = true
              · rw [if_pos c5]
                exact wpS_pure ⟨_, rfl, .inl ⟨_, _, rfl, finA m2 (by rw [beq_iff_eq] at c5; exact c5)⟩⟩
              rw [if_neg c5]
              rw [beq_iff_eq] at c5
              have hi2 : 0 < c := by omega
              have hA3 : ∀ x, a[c - 1]? = some x → blt xb x = false := fun x ex => hA1 (c - 1) x (by omega) ex
              have hp2 : y + (c + nb) ≤ na1 + nb1 := by omega
              have hq2 : c ≤ a.size := by omega
              clear hA1 hA2 hc2 hc3 hc0 c5
              generalize out ++ (a.extract c na).reverse = out2 at *
              generalize hk2 : na - c = kk at *
              generalize c = na2 at *
            case' neg =>
              rw [if_neg hc0]
              have e0 : c = na := by omega
              have hi2 : 0 < na := hna
              have hA3 : ∀ x, a[na - 1]? = some x → blt xb x = false := fun x ex => hA1 (na - 1) x (by omega) ex
              have hp2 : y + (na + nb) ≤ na1 + nb1 := by omega
              have hq2 : na ≤ a.size := hna2
              clear hA1 hA2 hc2 hc3 hc0 m2
              have m2 := m
              clear m
              generalize hk2 : na - c = kk at *
              generalize out = out2 at *
              generalize na = na2 at *
            all_goals
              obtain ⟨xa, ea⟩ := ar_get (show na2 - 1 < a.size by omega)
              refine wpS_bind (wpS_elem eb ?_)
              have m3 : MH blt a.toList b.toList (out2.push xb).toList na2 (nb - 1) := by rw [ar_push]; exact m2.b o sa hi2 (by omega) (ar_at ea) (ar_at eb) (hA3 xa ea)
              try dsimp only
              by_cases c7 : (nb - 1 == 1) = true
              · rw [if_pos c7]
                exact wpS_pure ⟨_, rfl, .inl ⟨_, _, rfl, finF m3 (by rw [beq_iff_eq] at c7; exact c7)⟩⟩
              rw [if_neg c7]
              rw [beq_iff_eq] at c7
              refine wpS_bind (wpS_elem ea ?_)
              have gb : ∀ i, i < nb - 1 → ∃ x, b[0 + i]? = some x ∧ P x ∧ beyB blt true xa x = (fun i => match b[0 + i]? with | some x => blt x xa | none => false) i := fun i hi => by
                obtain ⟨x, ex⟩ := ar_get (show 0 + i < b.size by omega)
                exact ⟨x, ex, PB ex, by dsimp only; rw [ex]; rfl⟩
              have gm : ∀ i j, i ≤ j → j < nb - 1 → (fun i => match b[0 + i]? with | some x => blt x xa | none => false) j = true → (fun i => match b[0 + i]? with | some x => blt x xa | none => false) i = true := fun i j hij hj e => by
                obtain ⟨x, ex⟩ := ar_get (show 0 + i < b.size by omega)
                obtain ⟨z, ez⟩ := ar_get (show 0 + j < b.size by omega)
                dsimp only at e ⊢
                rw [ex]
                rw [ez] at e
                try dsimp only at e ⊢
                exact o.lelt (srt_le o sb (show 0 + i ≤ 0 + j by omega) (ar_at ex) (ar_at ez)) e
              refine wpS_bind (wpS_gallop L hk (PA ea) (show nb - 1 - 1 < nb - 1 by omega) gb gm (fun d hd1 hd2 hd3 => ?_))
              have hB1 : ∀ i x, i < d → b[i]? = some x → blt x xa = true := fun i x hi ex => by
                have := hd2 i hi
                try dsimp only at this
                rw [Nat.zero_add, ex] at this
                exact this
              have hB2 : ∀ i x, d ≤ i → i < nb - 1 → b.toList[i]? = some x → blt x xa = false := fun i x hi1 hi2 ex => by
                rw [Array.getElem?_toList] at ex
                have := hd3 i hi1 hi2
                try dsimp only at this
                rw [Nat.zero_add, ex] at this
                exact this
              have m4 : MH blt a.toList b.toList (out2.push xb ++ (b.extract d (nb - 1)).reverse).toList na2 d := by rw [ar_rev]; exact m3.bs o sa hd1 hi2 (ar_at ea) hB2
              try dsimp only
              by_cases hd0 : nb - 1 - d > 0
              case' pos =>
                rw [if_pos hd0]
                by_cases c8 : (d == 1) = true
                · rw [if_pos c8]
                  exact wpS_pure ⟨_, rfl, .inl ⟨_, _, rfl, finF m4 (by rw [beq_iff_eq] at c8; exact c8)⟩⟩
                rw [if_neg c8]
                by_cases c9 : (d == 0) = true
                · rw [if_pos c9]
                  exact wpS_pure ⟨_, rfl, .inl ⟨_, _, rfl, finB m4 (by rw [beq_iff_eq] at c9; exact c9)⟩⟩
                rw [if_neg c9]
                rw [beq_iff_eq] at c8 c9
                have hi4 : 1 < d := by omega
                have hB3 : ∀ x, b[d - 1]? = some x → blt x xa = true := fun x ex => hB1 (d - 1) x (by omega) ex
                have hp4 : y + (na2 + d) + 1 ≤ na1 + nb1 := by omega
                have hq4 : d ≤ b.size := by omega
                clear hB1 hB2 hd2 hd3 hd0 c8 c9
                generalize out2.push xb ++ (b.extract d (nb - 1)).reverse = out4 at *
                generalize hk4 : nb - 1 - d = kd4 at *
                generalize d = nb4 at *
              case' neg =>
                rw [if_neg hd0]
                have hi4 : 1 < nb - 1 := by omega
                have hB3 : ∀ x, b[nb - 1 - 1]? = some x → blt x xa = true := fun x ex => hB1 (nb - 1 - 1) x (by omega) ex
                have hp4 : y + (na2 + (nb - 1)) + 1 ≤ na1 + nb1 := by omega
                have hq4 : nb - 1 ≤ b.size := by omega
                clear hB1 hB2 hd2 hd3 hd0 m4
                have m4 := m3
                clear m3
                generalize hk4 : nb - 1 - d = kd4 at *
                generalize out2.push xb = out4 at *
                generalize nb - 1 = nb4 at *
              all_goals
                obtain ⟨xb4, eb4⟩ := ar_get (show nb4 - 1 < b.size by omega)
                refine wpS_bind (wpS_elem ea ?_)
                have m5 : MH blt a.toList b.toList (out4.push xa).toList (na2 - 1) nb4 := by rw [ar_push]; exact m4.a o sb hi2 (by omega) (ar_at ea) (ar_at eb4) (hB3 xb4 eb4)
                try dsimp only
                by_cases c9 : (na2 - 1 == 0) = true
                · rw [if_pos c9]
                  exact wpS_pure ⟨_, rfl, .inl ⟨_, _, rfl, finA m5 (by rw [beq_iff_eq] at c9; exact c9)⟩⟩
                rw [if_neg c9]
                rw [beq_iff_eq] at c9
                by_cases c10 : (decide (kk < 7) && decide (kd4 < 7)) = true
                · rw [if_pos c10]
                  exact wpS_pure ⟨_, rfl, .inr ⟨_, _, _, _, _, _, rfl, m5, by omega, by omega, hi4, hq4, by omega⟩⟩
                · rw [if_neg c10]
                  exact wpS_pure ⟨_, _, _, _, _, _, _, rfl, rfl, m5, by omega, by omega, hi4, hq4, by omega⟩
        · rintro c st' ⟨out, na', nb', mg', ac, bc, g2, rfl, rfl, m, h1, h2, h3, h4, h5⟩
          exfalso
          have : max 0 (a.size + b.size) = a.size + b.size := by omega
          omega
        · rintro c st' ⟨g2, rfl, ⟨r, cc, rfl, hr⟩ | ⟨out, na2, nb2, mg2, ac, bc, rfl, m2, r1, r2, r3, r4, r5⟩⟩
          · try dsimp only
            exact wpS_pure ⟨r, g2, rfl, rfl, hr⟩
          · try dsimp only
            refine wpS_bind (wpS_setG (wpS_pure ⟨_, _, _, _, _, rfl, rfl, m2, r1, r2, r3, r4, by omega⟩))
  · rintro c st' ⟨out, na, nb, g, g', rfl, rfl, m, h1, h2, h3, h4, h5⟩
    exfalso
    have : max 0 (a.size + b.size) = a.size + b.size := by omega
    omega
  · rintro ⟨c, cc⟩ st' ⟨r, g', e, rfl, hr⟩
    dsimp only at e
    subst e
    try dsimp only
    exact wpS_pure (h r g' hr)
end
end L2
end

section
set_option Elab.async false
set_option linter.all false
set_option maxRecDepth 100000
set_option maxHeartbeats 4000000
/-! The sort of lists: what the array's moves do to its list; two runs merged. -/
namespace L2
open PySem PySem.Spec PyProof.Rows TW
theorem bubble_list {xs : Array Keyed} {src d : Nat} (hs : src < xs.size) (hd : d ≤ src) {x : Keyed} (hx : xs[src]? = some x) :
    (bubble xs src d).toList = xs.toList.take (src - d) ++ [x] ++ (xs.toList.drop (src - d)).take d ++ xs.toList.drop (src + 1) := by
  have hl : xs.toList.length = xs.size := Array.length_toList
  refine List.ext_getElem? fun k => ?_
  rw [Array.getElem?_toList, getElem?_bubble hs d hd k]
  simp only [List.getElem?_append, List.getElem?_take, List.getElem?_drop, List.length_append, List.length_take, List.length_drop, List.length_singleton, hl, Array.getElem?_toList]
  by_cases h1 : k = src - d
  · rw [if_pos h1, hx, if_pos (by omega), if_pos (by omega), if_neg (by omega), h1, show src - d - min (src - d) xs.size = 0 by omega]
    rfl
  · rw [if_neg h1]
    by_cases h2 : src - d < k ∧ k ≤ src
    · rw [if_pos h2, if_pos (by omega), if_neg (by omega), if_pos (by omega)]
      congr 1
      omega
    · rw [if_neg h2]
      by_cases h3 : k < src - d
      · rw [if_pos (by omega), if_pos (by omega), if_pos (by omega), if_pos h3]
      · rw [if_neg (by omega)]
        congr 1
        omega
theorem mirror_list {xs : Array Keyed} {i j : Nat} (hij : i ≤ j) (hj : j ≤ xs.size) :
    (mirror xs i j ((j - i) / 2)).toList = xs.toList.take i ++ ((xs.toList.drop i).take (j - i)).reverse ++ xs.toList.drop j := by
  have hl : xs.toList.length = xs.size := Array.length_toList
  refine List.ext_getElem? fun k => ?_
  rw [Array.getElem?_toList, getElem?_mirror_all (i := i) hj k]
  have hll : ((xs.toList.drop i).take (j - i)).length = j - i := by rw [List.length_take, List.length_drop, hl]; omega
  by_cases h1 : i ≤ k ∧ k < j
  · rw [if_pos h1, List.getElem?_append_left (by rw [List.length_append, List.length_reverse, hll, List.length_take, hl]; omega), List.getElem?_append_right (by rw [List.length_take, hl]; omega), List.length_take, hl,
      List.getElem?_reverse (by rw [hll]; omega), hll, List.getElem?_take, if_pos (by omega), List.getElem?_drop, Array.getElem?_toList]
    congr 1
    omega
  · rw [if_neg h1]
    by_cases h2 : k < i
    · rw [List.getElem?_append_left (by rw [List.length_append, List.length_reverse, hll, List.length_take, hl]; omega), List.getElem?_append_left (by rw [List.length_take, hl]; omega), List.getElem?_take, if_pos h2, Array.getElem?_toList]
    · rw [List.getElem?_append_right (by rw [List.length_append, List.length_reverse, hll, List.length_take, hl]; omega), List.length_append, List.length_reverse, hll, List.length_take, hl, List.getElem?_drop, Array.getElem?_toList]
      congr 1
      omega
theorem fold_set (sa : Nat) : ∀ (l : List Keyed) (k : Nat) (xs : Array Keyed), sa + k + l.length ≤ xs.size →
    ((l.zipIdx k).foldl (fun a q => a.setIfInBounds (sa + q.2) q.1) xs).toList = xs.toList.take (sa + k) ++ l ++ xs.toList.drop (sa + k + l.length)
  | [], k, xs, h => by
    rw [List.zipIdx_nil, List.foldl_nil, List.append_nil, List.length_nil, Nat.add_zero, List.take_append_drop]
  | p :: l, k, xs, h => by
    have hl : xs.toList.length = xs.size := Array.length_toList
    rw [List.length_cons] at h
    rw [List.zipIdx_cons, List.foldl_cons, fold_set sa l (k + 1) _ (by rw [Array.size_setIfInBounds]; omega), Array.toList_setIfInBounds, List.length_cons]
    have e1 : (xs.toList.set (sa + k) p).take (sa + (k + 1)) = xs.toList.take (sa + k) ++ [p] := by
      rw [show sa + (k + 1) = sa + k + 1 by omega, take_at (x := p) (by rw [List.getElem?_set, if_pos rfl, if_pos (by omega)]), List.take_set_of_le (by omega)]
    have e2 : (xs.toList.set (sa + k) p).drop (sa + (k + 1) + l.length) = xs.toList.drop (sa + k + (l.length + 1)) := by
      rw [List.drop_set_of_lt (by omega)]
      congr 1
      omega
    rw [e1, e2, List.append_assoc, List.append_assoc, List.append_assoc]
    rfl
end L2
end

section
set_option Elab.async false
set_option linter.all false
set_option maxRecDepth 100000
set_option maxHeartbeats 4000000
/-! The sort of lists: two neighbouring runs merged. -/
namespace L2
open PySem PySem.Spec PyProof.Rows TW
section
variable {prog : Program} {w : World} {A : Around} {E : Value → Shared → Prop} {s : Shared}
theorem wpS_set {σ : Type} {M : Model} {st st' : σ} {Q : PUnit → σ → Prop} (h : Q ⟨⟩ st') : wpS M A E s (set st' : StateT σ Sem PUnit) Q st := by
  unfold wpS
  rw [StateT.run_set]
  exact wpAny_pure ⟨rfl, h⟩
theorem stretch_at {l : List Keyed} {i n j : Nat} (h : j < n) : ((l.drop i).take n)[j]? = l[i + j]? := by rw [List.getElem?_take, if_pos h, List.getElem?_drop]
theorem stretch_len {l : List Keyed} {i n : Nat} (h : i + n ≤ l.length) : ((l.drop i).take n).length = n := by rw [List.length_take, List.length_drop]; omega
theorem ext_list (a : Array Keyed) (i j : Nat) : (a.extract i j).toList = (a.toList.drop i).take (j - i) := by rw [Array.toList_extract, List.extract_eq_take_drop]
variable {kd : SortKind} {P : Keyed → Prop} {blt : Keyed → Keyed → Bool} (L : LtOk prog w A E s kd P blt) (o : Swo blt)
include L o
theorem wpS_mergeAt {st : SortSt} {i sa na nb p p' : Nat} {Q : Bool → SortSt → Prop} (hk : kindOf st = kd) (hf : failedOf st = none) (h1 : (pendingOf st)[i]? = some (sa, na, p)) (h2 : (pendingOf st)[i + 1]? = some (sa + na, nb, p')) (hn : 0 < na) (hm : 0 < nb)
    (hsz : sa + na + nb ≤ (arrOf st).size) (hP : ∀ x ∈ (arrOf st).toList, P x) (sU : Srt blt (((arrOf st).toList.drop sa).take na)) (sW : Srt blt (((arrOf st).toList.drop (sa + na)).take nb))
    (h : ∀ st' : SortSt, kindOf st' = kd → failedOf st' = none → pendingOf st' = ((pendingOf st).setIfInBounds i (sa, na + nb, p)).eraseIdxIfInBounds (i + 1) →
      (arrOf st').toList = (arrOf st).toList.take sa ++ mg blt (((arrOf st).toList.drop sa).take na) (((arrOf st).toList.drop (sa + na)).take nb) ++ (arrOf st).toList.drop (sa + na + nb) → Q true st') :
    wpS (model prog w) A E s (mergeAt' i) Q st := by
  have hl : (arrOf st).toList.length = (arrOf st).size := Array.length_toList
  have PA : ∀ {i x}, (arrOf st)[i]? = some x → P x := fun e => hP _ (List.mem_of_getElem? (ar_at e))
  have lU : (((arrOf st).toList.drop sa).take na).length = na := stretch_len (by omega)
  have lW : (((arrOf st).toList.drop (sa + na)).take nb).length = nb := stretch_len (by omega)
  have whole : (arrOf st).toList.take sa ++ (((arrOf st).toList.drop sa).take na ++ ((arrOf st).toList.drop (sa + na)).take nb) ++ (arrOf st).toList.drop (sa + na + nb) = (arrOf st).toList := by
    rw [← List.append_assoc, List.append_assoc, ← drop_split, List.append_assoc, ← drop_split, List.take_append_drop]
  refine wpS_bind (wpS_get ?_)
  rw [h1, h2]
  dsimp only
  obtain ⟨w0, e0⟩ := ar_get (show sa + na < (arrOf st).size by omega)
  refine wpS_bind (wpS_set ?_)
  refine wpS_bind (wpS_elem e0 ?_)
  have gb : ∀ j, j < na → ∃ x, (arrOf st)[sa + j]? = some x ∧ P x ∧ beyB blt false w0 x = (fun j => match (arrOf st)[sa + j]? with | some x => !(blt w0 x) | none => false) j := fun j hj => by
    obtain ⟨x, ex⟩ := ar_get (show sa + j < (arrOf st).size by omega)
    exact ⟨x, ex, PA ex, by dsimp only; rw [ex]; rfl⟩
  have gm : ∀ j j', j ≤ j' → j' < na → (fun j => match (arrOf st)[sa + j]? with | some x => !(blt w0 x) | none => false) j' = true → (fun j => match (arrOf st)[sa + j]? with | some x => !(blt w0 x) | none => false) j = true := fun j j' hij hj e => by
    obtain ⟨x, ex⟩ := ar_get (show sa + j < (arrOf st).size by omega)
    obtain ⟨z, ez⟩ := ar_get (show sa + j' < (arrOf st).size by omega)
    dsimp only at e ⊢
    rw [ex]
    rw [ez] at e
    try dsimp only at e ⊢
    cases e1 : blt w0 x with
    | false => rfl
    | true =>
      have := o.ltle e1 (srt_le o sU hij (by rw [stretch_at (by omega)]; exact ar_at ex) (by rw [stretch_at hj]; exact ar_at ez))
      rw [this] at e
      cases e
  refine wpS_bind (wpS_gallop L hk (PA e0) hn gb gm (fun c hc1 hc2 hc3 => ?_))
  have hA1 : ∀ j x, j < c → (arrOf st)[sa + j]? = some x → blt w0 x = false := fun j x hj ex => by
    have := hc2 j hj
    try dsimp only at this
    rw [ex] at this
    simpa using this
  have hA2 : ∀ j x, c ≤ j → j < na → (arrOf st)[sa + j]? = some x → blt w0 x = true := fun j x hj1 hj2 ex => by
    have := hc3 j hj1 hj2
    try dsimp only at this
    rw [ex] at this
    simpa using this
  clear gb gm hc2 hc3
  -- the first c stay ahead of all
  have hw0 : (((arrOf st).toList.drop (sa + na)).take nb)[0]? = some w0 := by rw [stretch_at hm]; exact ar_at e0
  have eU : mg blt (((arrOf st).toList.drop sa).take na) (((arrOf st).toList.drop (sa + na)).take nb) = ((arrOf st).toList.drop sa).take c ++ mg blt (((arrOf st).toList.drop (sa + c)).take (na - c)) (((arrOf st).toList.drop (sa + na)).take nb) := by
    have e1 : ((arrOf st).toList.drop sa).take na = ((arrOf st).toList.drop sa).take c ++ ((arrOf st).toList.drop (sa + c)).take (na - c) := by
      rw [take_split _ hc1, List.drop_drop]
    rw [e1, mg_head_a blt fun x hx y hy => ?_]
    obtain ⟨j, hj, ex⟩ := mem_stretch hx
    obtain ⟨j', ey⟩ := List.getElem?_of_mem hy
    rw [Array.getElem?_toList] at ex
    exact o.le (hA1 j x hj ex) (srt_le o sW (Nat.zero_le j') hw0 ey)
  try dsimp only
  by_cases c1 : (na - c == 0) = true
  · rw [if_pos c1]
    rw [beq_iff_eq] at c1
    refine wpS_pure (h _ hk hf rfl ?_)
    have : c = na := by omega
    rw [eU, this, Nat.sub_self, List.take_zero, mg_nil, whole]
  rw [if_neg c1]
  rw [beq_iff_eq] at c1
  have ia : sa + c + (na - c) - 1 = sa + na - 1 := by omega
  obtain ⟨al, eal⟩ := ar_get (show sa + na - 1 < (arrOf st).size by omega)
  refine wpS_bind (wpS_elem (by rw [ia]; exact eal) ?_)
  have gb : ∀ j, j < nb → ∃ x, (arrOf st)[sa + na + j]? = some x ∧ P x ∧ beyB blt true al x = (fun j => match (arrOf st)[sa + na + j]? with | some x => blt x al | none => false) j := fun j hj => by
    obtain ⟨x, ex⟩ := ar_get (show sa + na + j < (arrOf st).size by omega)
    exact ⟨x, ex, PA ex, by dsimp only; rw [ex]; rfl⟩
  have gm : ∀ j j', j ≤ j' → j' < nb → (fun j => match (arrOf st)[sa + na + j]? with | some x => blt x al | none => false) j' = true → (fun j => match (arrOf st)[sa + na + j]? with | some x => blt x al | none => false) j = true := fun j j' hij hj e => by
    obtain ⟨x, ex⟩ := ar_get (show sa + na + j < (arrOf st).size by omega)
    obtain ⟨z, ez⟩ := ar_get (show sa + na + j' < (arrOf st).size by omega)
    dsimp only at e ⊢
    rw [ex]
    rw [ez] at e
    try dsimp only at e ⊢
    exact o.lelt (srt_le o sW hij (by rw [stretch_at (by omega)]; exact ar_at ex) (by rw [stretch_at hj]; exact ar_at ez)) e
  refine wpS_bind (wpS_gallop L hk (PA eal) (show nb - 1 < nb by omega) gb gm (fun d hd1 hd2 hd3 => ?_))
  have hB1 : ∀ j x, j < d → (arrOf st)[sa + na + j]? = some x → blt x al = true := fun j x hj ex => by
    have := hd2 j hj
    try dsimp only at this
    rw [ex] at this
    exact this
  have hB2 : ∀ j x, d ≤ j → j < nb → (arrOf st)[sa + na + j]? = some x → blt x al = false := fun j x hj1 hj2 ex => by
    have := hd3 j hj1 hj2
    try dsimp only at this
    rw [ex] at this
    exact this
  clear gb gm hd2 hd3
  have lX : (((arrOf st).toList.drop (sa + c)).take (na - c)).length = na - c := stretch_len (by omega)
  have lY : (((arrOf st).toList.drop (sa + na)).take d).length = d := stretch_len (by omega)
  have sX : Srt blt (((arrOf st).toList.drop (sa + c)).take (na - c)) := by
    have e1 : ((arrOf st).toList.drop sa).take na = ((arrOf st).toList.drop sa).take c ++ ((arrOf st).toList.drop (sa + c)).take (na - c) := by
      rw [take_split _ hc1, List.drop_drop]
    rw [e1] at sU
    exact (List.pairwise_append.mp sU).2.1
  have eW1 : ((arrOf st).toList.drop (sa + na)).take nb = ((arrOf st).toList.drop (sa + na)).take d ++ ((arrOf st).toList.drop (sa + na + d)).take (nb - d) := by
    rw [take_split _ hd1, List.drop_drop]
  have sY : Srt blt (((arrOf st).toList.drop (sa + na)).take d) := by
    rw [eW1] at sW
    exact (List.pairwise_append.mp sW).1
  have hal : (((arrOf st).toList.drop (sa + c)).take (na - c))[na - c - 1]? = some al := by
    rw [stretch_at (by omega), show sa + c + (na - c - 1) = sa + na - 1 by omega]
    exact ar_at eal
  have eW : mg blt (((arrOf st).toList.drop (sa + c)).take (na - c)) (((arrOf st).toList.drop (sa + na)).take nb) = mg blt (((arrOf st).toList.drop (sa + c)).take (na - c)) (((arrOf st).toList.drop (sa + na)).take d) ++ ((arrOf st).toList.drop (sa + na + d)).take (nb - d) := by
    rw [eW1, mg_tail_b blt _ _ fun y hy x hx => ?_]
    obtain ⟨j, hj, ey⟩ := mem_stretch hy
    obtain ⟨j', ex⟩ := List.getElem?_of_mem hx
    have hj' := (List.getElem?_eq_some_iff.mp ex).1
    rw [lX] at hj'
    rw [Array.getElem?_toList, Nat.add_assoc] at ey
    exact o.le (srt_le o sX (show j' ≤ na - c - 1 by omega) ex hal) (hB2 (d + j) y (by omega) (by omega) ey)
  try dsimp only
  by_cases c2 : (d == 0) = true
  · rw [if_pos c2]
    rw [beq_iff_eq] at c2
    refine wpS_pure (h _ hk hf rfl ?_)
    rw [eU, eW, c2, List.take_zero, mg_nil', Nat.add_zero, Nat.sub_zero]
    have e1 : ((arrOf st).toList.drop sa).take na = ((arrOf st).toList.drop sa).take c ++ ((arrOf st).toList.drop (sa + c)).take (na - c) := by
      rw [take_split _ hc1, List.drop_drop]
    rw [← List.append_assoc (((arrOf st).toList.drop sa).take c), ← e1]
    exact whole.symm
  rw [if_neg c2]
  rw [beq_iff_eq] at c2
  -- both stretches
  have xL : ((arrOf st).extract (sa + c) (sa + na)).toList = ((arrOf st).toList.drop (sa + c)).take (na - c) := by
    rw [ext_list, show sa + na - (sa + c) = na - c by omega]
  have yL : ((arrOf st).extract (sa + na) (sa + na + d)).toList = ((arrOf st).toList.drop (sa + na)).take d := by
    rw [ext_list, show sa + na + d - (sa + na) = d by omega]
  have xS : ((arrOf st).extract (sa + c) (sa + na)).size = na - c := by rw [← Array.length_toList, xL, lX]
  have yS : ((arrOf st).extract (sa + na) (sa + na + d)).size = d := by rw [← Array.length_toList, yL, lY]
  have x0 : ∀ {i x}, ((arrOf st).extract (sa + c) (sa + na))[i]? = some x → i < na - c ∧ (arrOf st)[sa + c + i]? = some x := fun {i x} e => by
    have hi := (Array.getElem?_eq_some_iff.mp e).1
    rw [xS] at hi
    have := ar_at e
    rw [xL, stretch_at hi, Array.getElem?_toList] at this
    exact ⟨hi, this⟩
  have y0 : ∀ {i x}, ((arrOf st).extract (sa + na) (sa + na + d))[i]? = some x → i < d ∧ (arrOf st)[sa + na + i]? = some x := fun {i x} e => by
    have hi := (Array.getElem?_eq_some_iff.mp e).1
    rw [yS] at hi
    have := ar_at e
    rw [yL, stretch_at hi, Array.getElem?_toList] at this
    exact ⟨hi, this⟩
  have hlast : ∀ x, ((arrOf st).extract (sa + c) (sa + na))[((arrOf st).extract (sa + c) (sa + na)).size - 1]? = some x → ∀ y ∈ ((arrOf st).extract (sa + na) (sa + na + d)).toList, blt y x = true := fun x ex y hy => by
    obtain ⟨_, e2⟩ := x0 ex
    rw [xS, show sa + c + (na - c - 1) = sa + na - 1 by omega, eal] at e2
    cases e2
    rw [yL] at hy
    obtain ⟨j, hj, ey⟩ := mem_stretch hy
    rw [Array.getElem?_toList] at ey
    exact hB1 j y hj ey
  have hfirst : ∀ y, ((arrOf st).extract (sa + na) (sa + na + d))[0]? = some y → ∀ x ∈ ((arrOf st).extract (sa + c) (sa + na)).toList, blt y x = true := fun y ey x hx => by
    obtain ⟨_, e2⟩ := y0 ey
    rw [Nat.add_zero, e0] at e2
    cases e2
    rw [xL] at hx
    obtain ⟨j, hj, ex⟩ := mem_stretch hx
    rw [Array.getElem?_toList, Nat.add_assoc] at ex
    exact hA2 (c + j) x (by omega) (by omega) ex
  have fin : ∀ (r : Array Keyed) (st1 : SortSt), r.toList = mg blt ((arrOf st).extract (sa + c) (sa + na)).toList ((arrOf st).extract (sa + na) (sa + na + d)).toList → kindOf st1 = kd → failedOf st1 = none →
      pendingOf st1 = ((pendingOf st).setIfInBounds i (sa, na + nb, p)).eraseIdxIfInBounds (i + 1) → arrOf st1 = arrOf st →
      Q true (setArr st1 (r.toList.zipIdx.foldl (fun a q => a.setIfInBounds (sa + c + q.2) q.1) (arrOf st1))) := fun r st1 hr q1 q2 q3 q4 => by
    refine h _ q1 q2 q3 ?_
    show (r.toList.zipIdx.foldl (fun a q => a.setIfInBounds (sa + c + q.2) q.1) (arrOf st1)).toList = _
    have lr : r.toList.length = na - c + d := by rw [hr, (mg_perm blt _ _).length_eq, List.length_append, xL, yL, lX, lY]
    rw [q4, fold_set (sa + c) r.toList 0 (arrOf st) (by rw [lr]; omega), Nat.add_zero, lr, hr, xL, yL, eU, eW]
    have e3 : (arrOf st).toList.take (sa + c) = (arrOf st).toList.take sa ++ ((arrOf st).toList.drop sa).take c := by rw [List.take_add]
    have e4 : (arrOf st).toList.drop (sa + c + (na - c + d)) = ((arrOf st).toList.drop (sa + na + d)).take (nb - d) ++ (arrOf st).toList.drop (sa + na + nb) := by
      rw [show sa + c + (na - c + d) = sa + na + d by omega, show sa + na + nb = sa + na + d + (nb - d) by omega]
      exact drop_split _ _ _
    rw [e3, e4]
    simp only [List.append_assoc]
  have pX : ∀ x ∈ ((arrOf st).extract (sa + c) (sa + na)).toList, P x := fun x hx => by rw [xL] at hx; exact hP x (List.mem_of_mem_drop (List.mem_of_mem_take hx))
  have pY : ∀ x ∈ ((arrOf st).extract (sa + na) (sa + na + d)).toList, P x := fun x hx => by rw [yL] at hx; exact hP x (List.mem_of_mem_drop (List.mem_of_mem_take hx))
  have done : ∀ (r : Array Keyed) (g : Nat), r.toList = mg blt ((arrOf st).extract (sa + c) (sa + na)).toList ((arrOf st).extract (sa + na) (sa + na + d)).toList →
      Q (failedOf st).isNone (setArr (SortSt.mk' (kindOf st) (arrOf st) (((pendingOf st).setIfInBounds i (sa, na + nb, p)).eraseIdxIfInBounds (i + 1)) g (failedOf st)) (r.toList.zipIdx.foldl (fun a q => a.setIfInBounds (sa + c + q.2) q.1) (arrOf st))) := fun r g hr => by
    have := fin r (SortSt.mk' (kindOf st) (arrOf st) (((pendingOf st).setIfInBounds i (sa, na + nb, p)).eraseIdxIfInBounds (i + 1)) g (failedOf st)) hr hk hf rfl rfl
    rw [show (failedOf st).isNone = true by rw [hf]; rfl]
    exact this
  by_cases c3 : na - c ≤ d
  · rw [if_pos c3]
    refine wpS_bind (wpS_mergeLo L o hk (by rw [xS]; omega) (by rw [yS]; omega) pX pY (by rw [xL]; exact sX) (by rw [yL]; exact sY) (fun x y ex ey => hfirst y ey x (List.mem_of_getElem? (ar_at ex))) hlast fun r g hr => ?_)
    exact wpS_bind (wpS_modify (wpS_bind (wpS_get (wpS_pure (done r g hr)))))
  · rw [if_neg c3]
    refine wpS_bind (wpS_mergeHi L o hk (by rw [xS]; omega) (by rw [yS]; omega) pX pY (by rw [xL]; exact sX) (by rw [yL]; exact sY) hfirst hlast fun r g hr => ?_)
    exact wpS_bind (wpS_modify (wpS_bind (wpS_get (wpS_pure (done r g hr)))))
end
end L2
end

section
set_option Elab.async false
set_option linter.all false
set_option maxRecDepth 100000
set_option maxHeartbeats 4000000
/-! The sort of lists: a run found. -/
namespace L2
open PySem PySem.Spec PyProof.Rows TW
theorem srt_snoc {blt : Keyed → Keyed → Bool} (o : Swo blt) {l : List Keyed} {x y : Keyed} (h : Srt blt l) (hy : l[l.length - 1]? = some y) (hx : blt x y = false) : Srt blt (l ++ [x]) := by
  refine List.pairwise_append.mpr ⟨h, List.pairwise_singleton _ _, fun a ha b hb => ?_⟩
  rw [List.mem_singleton.mp hb]
  obtain ⟨j, hj⟩ := List.getElem?_of_mem ha
  have hl := (List.getElem?_eq_some_iff.mp hj).1
  exact o.le (srt_le o h (show j ≤ l.length - 1 by omega) hj hy) hx
theorem mirror_mid {xs : Array Keyed} {U V W : List Keyed} {i j : Nat} (e : xs.toList = U ++ V ++ W) (hi : i = U.length) (hj : j = U.length + V.length) : (mirror xs i j ((j - i) / 2)).toList = U ++ V.reverse ++ W := by
  have hl : xs.size = U.length + V.length + W.length := by rw [← Array.length_toList, e, List.length_append, List.length_append]
  rw [mirror_list (by omega) (by omega), e, hi, hj]
  have e1 : (U ++ V ++ W).take U.length = U := by rw [List.append_assoc, List.take_append_of_le_length (Nat.le_refl _), List.take_length]
  have e2 : (U ++ V ++ W).drop U.length = V ++ W := by rw [List.append_assoc, List.drop_append_of_le_length (Nat.le_refl _), List.drop_length, List.nil_append]
  have e3 : (U ++ V ++ W).drop (U.length + V.length) = W := by rw [← List.drop_drop, e2, List.drop_append_of_le_length (Nat.le_refl _), List.drop_length, List.nil_append]
  rw [e1, e2, e3, Nat.add_sub_cancel_left, List.take_append_of_le_length (Nat.le_refl _), List.take_length]
theorem ssort_grow {blt : Keyed → Keyed → Bool} (o : Swo blt) {a b : List Keyed} (h : Srt blt (ssort blt a ++ b)) : ssort blt (a ++ b) = ssort blt a ++ b := by
  have hp := List.pairwise_append.mp h
  rw [ssort_app o, ssort_id hp.2.1]
  have := mg_head_a blt (ys := b) (as := ssort blt a) (xs := []) fun x hx y hy => hp.2.2 x hx y hy
  rw [List.append_nil, mg_nil] at this
  exact this
section
variable {prog : Program} {w : World} {A : Around} {E : Value → Shared → Prop} {s : Shared}
variable {kd : SortKind} {P : Keyed → Prop} {blt : Keyed → Keyed → Bool} (L : LtOk prog w A E s kd P blt) (o : Swo blt)
include L
theorem wpS_ltAtX {st : SortSt} {i j : Nat} {x y : Keyed} {Q : Option Bool → SortSt → Prop} (hk : kindOf st = kd) (hi : (arrOf st)[i]? = some x) (hj : (arrOf st)[j]? = some y) (px : P x) (py : P y) (h : Q (some (blt x y)) st) :
    wpS (model prog w) A E s (ltAt' i j) Q st := by
  rw [ltAt'_eq]
  refine wpS_bind (wpS_get ?_)
  exact wpS_bind (wpS_elem hi (wpS_bind (wpS_elem hj (L _ _ _ _ px py hk h))))
include o
/-- on as long as it rises -/
theorem wpS_rise {st : SortSt} {lo a nrem : Nat} {T C D : List Keyed} {F : Nat → Option (Option Nat) × Nat → StateT SortSt Sem (ForInStep (Option (Option Nat) × Nat))} {Q : Option (Option Nat) × Nat → SortSt → Prop}
    (hF : ∀ x n, F x (none, n) = (do
      let r ← ltAt' (lo + n) (lo + n - 1)
      match r with
      | some smaller => if smaller = true then pure (ForInStep.done (none, n)) else pure (ForInStep.yield (none, n + 1))
      | x => pure (ForInStep.done (some none, n))))
    (hk : kindOf st = kd) (hP : ∀ x ∈ (arrOf st).toList, P x) (hT : T.length = lo) (hD : D.length = nrem) (ha : 1 ≤ a) (han : a ≤ nrem) (hC : C.length = a) (e : (arrOf st).toList = T ++ C ++ D.drop a) (sC : Srt blt C)
    (h : ∀ n, a ≤ n → n ≤ nrem → Srt blt (C ++ (D.drop a).take (n - a)) → (n = nrem ∨ ∃ x y, (C ++ D.drop a)[n]? = some x ∧ (C ++ D.drop a)[n - 1]? = some y ∧ blt x y = true) → Q (none, n) st) :
    wpS (model prog w) A E s (forIn [a:nrem] (none, a) F) Q st := by
  have hl : (C ++ D.drop a).length = nrem := by rw [List.length_append, List.length_drop]; omega
  have at_ : ∀ j, (arrOf st)[lo + j]? = (C ++ D.drop a)[j]? := fun j => by
    rw [← Array.getElem?_toList, e, List.append_assoc, List.getElem?_append_right (by omega), hT, Nat.add_sub_cancel_left]
  have ctk : ∀ n, a ≤ n → n ≤ nrem → C ++ (D.drop a).take (n - a) = (C ++ D.drop a).take n := fun n h1 h2 => by
    rw [List.take_append, List.take_of_length_le (l := C) (by omega), hC]
  refine wpS_forRange (I := fun x c st' => st' = st ∧ c = (none, x) ∧ Srt blt ((C ++ D.drop a).take x)) ?_ ?_ ⟨rfl, rfl, ?_⟩
  · rintro x c st' hx1 hx2 ⟨rfl, rfl, hs⟩
    rw [hF]
    obtain ⟨u, eu⟩ : ∃ u, (C ++ D.drop a)[x]? = some u := ⟨_, List.getElem?_eq_getElem (by omega)⟩
    obtain ⟨v, ev⟩ : ∃ v, (C ++ D.drop a)[x - 1]? = some v := ⟨_, List.getElem?_eq_getElem (by omega)⟩
    have pu : (arrOf st')[lo + x]? = some u := by rw [at_]; exact eu
    have pv : (arrOf st')[lo + x - 1]? = some v := by rw [show lo + x - 1 = lo + (x - 1) by omega, at_]; exact ev
    refine wpS_bind (wpS_ltAtX L hk pu pv (hP _ (List.mem_of_getElem? (ar_at pu))) (hP _ (List.mem_of_getElem? (ar_at pv))) ?_)
    dsimp only
    cases hb : blt u v with
    | true =>
      rw [if_pos rfl]
      exact wpS_pure (h x hx1 (by omega) (by rw [ctk x hx1 (by omega)]; exact hs) (.inr ⟨u, v, eu, ev, hb⟩))
    | false =>
      rw [if_neg (by decide)]
      refine wpS_pure ⟨rfl, rfl, ?_⟩
      rw [take_at eu]
      refine srt_snoc o hs ?_ hb
      rw [List.length_take, hl, show min x nrem - 1 = x - 1 by omega, List.getElem?_take, if_pos (by omega)]
      exact ev
  · rintro c st' ⟨rfl, rfl, hs⟩
    have : max a nrem = nrem := by omega
    rw [this] at hs ⊢
    exact h nrem han (Nat.le_refl _) (by rw [ctk nrem han (Nat.le_refl _)]; exact hs) (.inl rfl)
  · rw [← ctk a (Nat.le_refl _) han, Nat.sub_self, List.take_zero, List.append_nil]
    exact sC
theorem wpS_countRunX {st : SortSt} {lo nrem : Nat} {Q : Option Nat → SortSt → Prop} (hk : kindOf st = kd) (hP : ∀ x ∈ (arrOf st).toList, P x) (hn : lo + nrem = (arrOf st).size) (h1 : 1 ≤ nrem)
    (h : ∀ m (xs : Array Keyed), 1 ≤ m → m ≤ nrem → xs.toList = (arrOf st).toList.take lo ++ ssort blt (((arrOf st).toList.drop lo).take m) ++ ((arrOf st).toList.drop lo).drop m → Q (some m) (setArr st xs)) :
    wpS (model prog w) A E s (countRun' lo nrem) Q st := by
  have hl : (arrOf st).toList.length = (arrOf st).size := Array.length_toList
  generalize hT : (arrOf st).toList.take lo = T at *
  generalize hD : (arrOf st).toList.drop lo = D at *
  have e : (arrOf st).toList = T ++ D := by rw [← hT, ← hD, List.take_append_drop]
  have lT : T.length = lo := by rw [← hT, List.length_take]; omega
  have lD : D.length = nrem := by rw [← hD, List.length_drop]; omega
  obtain ⟨d0, e0⟩ : ∃ d0, D[0]? = some d0 := ⟨_, List.getElem?_eq_getElem (by omega)⟩
  have eD : D.take 1 ++ D.drop 1 = D := List.take_append_drop 1 D
  refine wpS_bind (wpS_rise L o (T := T) (C := D.take 1) (D := D) (fun x n => rfl) hk hP lT lD (Nat.le_refl 1) h1 (by rw [List.length_take]; omega) (by rw [List.append_assoc, eD]; exact e) (by rw [take_at e0]; exact List.pairwise_singleton _ _) fun n hn1 hn2 sn hor => ?_)
  have etk : D.take 1 ++ (D.drop 1).take (n - 1) = D.take n := by rw [show n = 1 + (n - 1) by omega, List.take_add, Nat.add_sub_cancel_left]
  rw [etk] at sn
  rw [eD] at hor
  dsimp only
  have PD : ∀ y ∈ D, P y := fun y hy => hP y (by rw [e]; exact List.mem_append_right _ hy)
  by_cases c1 : (n == nrem) = true
  · rw [if_pos c1]
    refine wpS_pure (h n (arrOf st) hn1 hn2 ?_)
    rw [ssort_id sn, List.append_assoc, List.take_append_drop]
    exact e
  rw [if_neg c1]
  rw [beq_iff_eq] at c1
  obtain ⟨x, y, ex, ey, hxy⟩ := hor.resolve_left c1
  have lDn : (D.take n).length = n := by rw [List.length_take]; omega
  by_cases hgt : n > 1
  case' pos =>
    rw [if_pos hgt]
    have a0 : (arrOf st)[lo]? = some d0 := by rw [← Array.getElem?_toList, e, List.getElem?_append_right (by omega), lT, Nat.sub_self]; exact e0
    have ay : (arrOf st)[lo + n - 1]? = some y := by rw [← Array.getElem?_toList, e, List.getElem?_append_right (by omega), lT, show lo + n - 1 - lo = n - 1 by omega]; exact ey
    refine wpS_bind (wpS_ltAtX L hk a0 ay (PD _ (List.mem_of_getElem? e0)) (PD _ (List.mem_of_getElem? ey)) ?_)
    dsimp only
    by_cases hrose : blt d0 y = true
    · rw [if_pos hrose]
      refine wpS_pure (h n (arrOf st) hn1 hn2 ?_)
      rw [ssort_id sn, List.append_assoc, List.take_append_drop]
      exact e
    rw [if_neg hrose]
    have hrose : blt d0 y = false := by simpa using hrose
    have key : ∀ j z, j < n → D[j]? = some z → blt z y = false := fun j z hj ez => by
      have h2 := srt_le o sn (Nat.zero_le j) (by rw [List.getElem?_take, if_pos (by omega)]; exact e0) (by rw [List.getElem?_take, if_pos hj]; exact ez)
      cases hc : blt z y with
      | false => rfl
      | true =>
        rcases o.ng z d0 y hc with h3 | h3
        · rw [h2] at h3; cases h3
        · rw [hrose] at h3; cases h3
    have hall : ∀ z ∈ D.take n, blt x z = true := fun z hz => by
      obtain ⟨j, hj, ez⟩ := mem_take hz
      exact o.ltle hxy (key j z hj ez)
    refine wpS_bind (wpS_reverse ?_)
    have m1 := mirror_mid (xs := arrOf st) (U := T) (V := D.take n) (W := D.drop n) (i := lo) (j := lo + n) (by rw [List.append_assoc, List.take_append_drop]; exact e) lT.symm (by rw [lDn, lT])
    generalize mirror (arrOf st) lo (lo + n) ((lo + n - lo) / 2) = xs1 at *
  case' neg =>
    rw [if_neg hgt]
    have n1 : n = 1 := by omega
    have hall : ∀ z ∈ D.take n, blt x z = true := fun z hz => by
      obtain ⟨j, hj, ez⟩ := mem_take hz
      have : j = n - 1 := by omega
      rw [this, ey] at ez
      cases ez
      exact hxy
    have m1 : (arrOf st).toList = T ++ (D.take n).reverse ++ D.drop n := by
      rw [n1, take_at e0, List.take_zero, List.nil_append, List.reverse_singleton, e, List.append_assoc]
      show T ++ D = T ++ (d0 :: D.drop (0 + 1))
      rw [← drop_at e0, List.drop_zero]
    show wpS _ _ _ _ _ _ (setArr st (arrOf st))
    generalize arrOf st = xs1 at m1 ⊢
  all_goals
    refine wpS_bind (wpS_lift (wpAny_rule ⟨rfl, ?_⟩))
    refine wpS_bind (wpS_mono (wpS_forRange
      (I := fun u c st' => ∃ (neq : Nat) (xs : Array Keyed) (hd tl : List Keyed), c = (none, u, neq) ∧ st' = setArr st xs ∧ xs.toList = T ++ (hd ++ tl) ++ D.drop u ∧ (hd ++ tl).length = u ∧ tl.length = neq + 1 ∧ ssort blt (D.take u) = tl ++ hd.reverse ∧ (∀ a ∈ hd, ∀ b ∈ tl, blt b a = true) ∧ (∀ a ∈ tl, ∀ b ∈ tl, blt a b = false))
      (Q := fun c st' => ∃ (m neq : Nat) (xs : Array Keyed) (hd tl : List Keyed), c = (none, m, neq) ∧ n + 1 ≤ m ∧ m ≤ nrem ∧ st' = setArr st xs ∧ xs.toList = T ++ (hd ++ tl) ++ D.drop m ∧ (hd ++ tl).length = m ∧ tl.length = neq + 1 ∧ ssort blt (D.take m) = tl ++ hd.reverse) ?_ ?_ ⟨0, xs1, (D.take n).reverse, [x], rfl, rfl, ?_, ?_, rfl, ?_, ?_, ?_⟩) ?_)
    · rintro u c st' hu1 hu2 ⟨neq, xs, hd, tl, rfl, rfl, q1, q2, q3, q4, q5, q6⟩
      dsimp only
      obtain ⟨v, ev⟩ : ∃ v, D[u]? = some v := ⟨_, List.getElem?_eq_getElem (by omega)⟩
      obtain ⟨t, et⟩ : ∃ t, tl[tl.length - 1]? = some t := ⟨_, List.getElem?_eq_getElem (by omega)⟩
      have htl := List.mem_of_getElem? et
      have PT : ∀ z ∈ tl, P z := fun z hz => PD z (List.mem_of_mem_take ((ssort_perm blt (D.take u)).mem_iff.mp (by rw [q4]; exact List.mem_append_left _ hz)))
      have pv : (arrOf (setArr st xs))[lo + u]? = some v := by
        show xs[lo + u]? = some v
        rw [← Array.getElem?_toList, q1, List.getElem?_append_right (by rw [List.length_append]; omega), List.length_append, q2, lT, Nat.sub_self, List.getElem?_drop, Nat.add_zero]
        exact ev
      have pt : (arrOf (setArr st xs))[lo + u - 1]? = some t := by
        show xs[lo + u - 1]? = some t
        rw [← Array.getElem?_toList, q1, List.append_assoc, List.getElem?_append_right (by omega), lT, List.getElem?_append_left (by rw [q2]; omega), List.getElem?_append_right (by rw [List.length_append] at q2; omega)]
        rw [List.length_append] at q2
        rw [show lo + u - 1 - lo - hd.length = tl.length - 1 by omega]
        exact et
      refine wpS_bind (wpS_ltAtX L hk pv pt (PD _ (List.mem_of_getElem? ev)) (PT _ htl) ?_)
      dsimp only
      have esn : ssort blt (D.take (u + 1)) = mg blt (tl ++ hd.reverse) [v] := by rw [take_at ev, ssort_snoc, q4]
      have edr := drop_at ev
      cases hs : blt v t with
      | true =>
        rw [if_pos rfl]
        have v1 : ∀ z ∈ tl, blt v z = true := fun z hz => o.ltle hs (q6 z hz t htl)
        have v2 : ∀ z ∈ hd, blt v z = true := fun z hz => o.tr _ _ _ hs (q5 z hz t htl)
        have e5 : ssort blt (D.take (u + 1)) = [v] ++ (hd ++ tl.reverse).reverse := by
          rw [esn, List.reverse_append, List.reverse_reverse]
          have := mg_head_b blt (xs := tl ++ hd.reverse) (bs := [v]) (ys := []) fun b hb z hz => by
            rw [List.mem_singleton.mp hb]
            rcases List.mem_append.mp hz with hz | hz
            · exact v1 z hz
            · exact v2 z (List.mem_reverse.mp hz)
          rw [List.append_nil, mg_nil'] at this
          exact this
        have fin : ∀ ys : Array Keyed, ys.toList = T ++ (hd ++ tl.reverse) ++ D.drop u → ∃ (neq' : Nat) (xs' : Array Keyed) (hd' tl' : List Keyed), ((none, u + 1, 0) : Option (Option Nat) × Nat × Nat) = (none, u + 1, neq') ∧ setArr st ys = setArr st xs' ∧ xs'.toList = T ++ (hd' ++ tl') ++ D.drop (u + 1) ∧ (hd' ++ tl').length = u + 1 ∧ tl'.length = neq' + 1 ∧ ssort blt (D.take (u + 1)) = tl' ++ hd'.reverse ∧ (∀ a ∈ hd', ∀ b ∈ tl', blt b a = true) ∧ (∀ a ∈ tl', ∀ b ∈ tl', blt a b = false) := fun ys ey => by
          refine ⟨0, ys, hd ++ tl.reverse, [v], rfl, rfl, ?_, ?_, rfl, e5, ?_, ?_⟩
          · rw [ey, edr]
            simp only [List.append_assoc, List.cons_append, List.nil_append]
          · rw [List.length_append, List.length_append, List.length_reverse, ← List.length_append, q2]
            rfl
          · intro a ha b hb
            rw [List.mem_singleton.mp hb]
            rcases List.mem_append.mp ha with ha | ha
            · exact v2 a ha
            · exact v1 a (List.mem_reverse.mp ha)
          · intro a ha b hb
            rw [List.mem_singleton.mp ha, List.mem_singleton.mp hb]
            exact o.irr v
        by_cases hq : neq > 0
        · rw [if_pos hq]
          refine wpS_bind (wpS_reverse (wpS_pure (fin _ ?_)))
          have hlen : hd.length + tl.length = u := by rw [← List.length_append]; exact q2
          have := mirror_mid (xs := xs) (U := T ++ hd) (V := tl) (W := D.drop u) (i := lo + u - (neq + 1)) (j := lo + u) (by rw [q1]; simp only [List.append_assoc]) (by rw [List.length_append]; omega) (by rw [List.length_append]; omega)
          show (mirror xs _ _ _).toList = _
          rw [this]
          simp only [List.append_assoc]
        · rw [if_neg hq]
          refine wpS_pure (fin _ ?_)
          have : tl.reverse = tl := by
            obtain ⟨z, rfl⟩ := List.length_eq_one_iff.mp (show tl.length = 1 by omega)
            rfl
          rw [this]
          exact q1
      | false =>
        rw [if_neg (by decide)]
        refine wpS_bind (wpS_ltAtX L hk pt pv (PT _ htl) (PD _ (List.mem_of_getElem? ev)) ?_)
        dsimp only
        cases hg : blt t v with
        | true =>
          rw [if_pos rfl]
          exact wpS_pure ⟨u, neq, xs, hd, tl, rfl, hu1, by omega, rfl, q1, q2, q3, q4⟩
        | false =>
          rw [if_neg (by decide)]
          have v1 : ∀ z ∈ tl, blt v z = false := fun z hz => o.le (q6 t htl z hz) hs
          have v3 : ∀ z ∈ tl, blt z v = false := fun z hz => o.le hg (q6 z hz t htl)
          have v2 : ∀ z ∈ hd, blt v z = true := fun z hz => o.lelt hg (q5 z hz t htl)
          refine wpS_pure ⟨neq + 1, xs, hd, tl ++ [v], rfl, rfl, ?_, ?_, ?_, ?_, ?_, ?_⟩
          · rw [q1, edr]
            simp only [List.append_assoc, List.cons_append, List.nil_append]
          · rw [← List.append_assoc, List.length_append, q2]
            rfl
          · rw [List.length_append, q3]
            rfl
          · rw [esn, mg_head_a blt fun a ha z hz => by rw [List.mem_singleton.mp hz]; exact v1 a ha]
            have := mg_head_b blt (xs := hd.reverse) (bs := [v]) (ys := []) fun b hb z hz => by
              rw [List.mem_singleton.mp hb]
              exact v2 z (List.mem_reverse.mp hz)
            rw [List.append_nil, mg_nil'] at this
            rw [this, List.append_assoc]
          · intro a ha b hb
            rcases List.mem_append.mp hb with hb | hb
            · exact q5 a ha b hb
            · rw [List.mem_singleton.mp hb]; exact v2 a ha
          · intro a ha b hb
            rcases List.mem_append.mp ha with ha | ha
            · rcases List.mem_append.mp hb with hb | hb
              · exact q6 a ha b hb
              · rw [List.mem_singleton.mp hb]; exact v3 a ha
            · rw [List.mem_singleton.mp ha]
              rcases List.mem_append.mp hb with hb | hb
              · exact v1 b hb
              · rw [List.mem_singleton.mp hb]; exact o.irr v
    · rintro c st' ⟨neq, xs, hd, tl, rfl, rfl, q1, q2, q3, q4, q5, q6⟩
      have hmx : max (n + 1) nrem = nrem := by omega
      rw [hmx] at q1 q2 q4 ⊢
      exact ⟨nrem, neq, xs, hd, tl, rfl, by omega, Nat.le_refl _, rfl, q1, q2, q3, q4⟩
    · rw [m1, drop_at ex]
      simp only [List.append_assoc, List.cons_append, List.nil_append]
    · rw [List.length_append, List.length_reverse, lDn]
      rfl
    · rw [take_at ex, ssort_snoc, ssort_id sn, List.reverse_reverse]
      have := mg_head_b blt (xs := D.take n) (bs := [x]) (ys := []) fun b hb z hz => by
        rw [List.mem_singleton.mp hb]
        exact hall z hz
      rw [List.append_nil, mg_nil'] at this
      exact this
    · intro a ha b hb
      rw [List.mem_singleton.mp hb]
      exact hall a (List.mem_reverse.mp ha)
    · intro a ha b hb
      rw [List.mem_singleton.mp ha, List.mem_singleton.mp hb]
      exact o.irr x
    · rintro c st' ⟨m, neq, xs, hd, tl, rfl, hm1, hm2, rfl, q1, q2, q3, q4⟩
      dsimp only
      have hlen : hd.length + tl.length = m := by rw [← List.length_append]; exact q2
      have last : ∀ ys : Array Keyed, ys.toList = T ++ (tl ++ hd.reverse) ++ D.drop m → ∀ F : Nat → Option (Option Nat) × Nat → StateT SortSt Sem (ForInStep (Option (Option Nat) × Nat)),
          (∀ x n, F x (none, n) = (do
            let r ← ltAt' (lo + n) (lo + n - 1)
            match r with
            | some smaller => if smaller = true then pure (ForInStep.done (none, n)) else pure (ForInStep.yield (none, n + 1))
            | x => pure (ForInStep.done (some none, n)))) →
          wpS (model prog w) A E s (forIn [m:nrem] (none, m) F) (fun r st' => ∃ m', r = (none, m') ∧ Q (some m') st') (setArr st ys) := fun ys ey F hF => by
        have sC : Srt blt (tl ++ hd.reverse) := by rw [← q4]; exact ssort_srt o _
        refine wpS_rise L o (T := T) (C := tl ++ hd.reverse) (D := D) hF hk ?_ lT lD (by omega) hm2 (by rw [List.length_append, List.length_reverse]; omega) ey sC fun n' hn1' hn2' sn' _ => ⟨n', rfl, h n' ys (by omega) hn2' ?_⟩
        · intro z hz
          have hz : z ∈ ys.toList := hz
          rw [ey] at hz
          rcases List.mem_append.mp hz with hz | hz
          · rcases List.mem_append.mp hz with hz | hz
            · exact hP z (by rw [e]; exact List.mem_append_left _ hz)
            · rw [← q4] at hz
              exact PD z (List.mem_of_mem_take ((ssort_perm blt _).mem_iff.mp hz))
          · exact PD z (List.mem_of_mem_drop hz)
        · rw [← q4] at sn'
          have e7 : D.take n' = D.take m ++ (D.drop m).take (n' - m) := by rw [take_split D hn1']
          rw [e7, ssort_grow o sn', ey, q4]
          have e8 : D.drop m = (D.drop m).take (n' - m) ++ D.drop n' := by
            have := drop_split D m (n' - m)
            rw [show m + (n' - m) = n' by omega] at this
            exact this
          conv => lhs; rw [e8]
          simp only [List.append_assoc]
      by_cases hq : neq > 0
      · rw [if_pos hq]
        have r1 := mirror_mid (xs := xs) (U := T ++ hd) (V := tl) (W := D.drop m) (i := lo + m - (neq + 1)) (j := lo + m) (by rw [q1]; simp only [List.append_assoc]) (by rw [List.length_append]; omega) (by rw [List.length_append]; omega)
        refine wpS_bind (wpS_reverse ?_)
        refine wpS_bind (wpS_reverse ?_)
        have r2 := mirror_mid (xs := mirror xs (lo + m - (neq + 1)) (lo + m) ((lo + m - (lo + m - (neq + 1))) / 2)) (U := T) (V := hd ++ tl.reverse) (W := D.drop m) (i := lo) (j := lo + m) (by rw [r1]; simp only [List.append_assoc]) lT.symm (by rw [List.length_append, List.length_reverse]; omega)
        rw [List.reverse_append, List.reverse_reverse] at r2
        refine wpS_bind (wpS_mono (last _ r2 _ (fun x n => rfl)) ?_)
        rintro c st' ⟨m', rfl, hQ⟩
        exact wpS_pure hQ
      · rw [if_neg hq]
        have hrv : tl.reverse = tl := by
          obtain ⟨z, rfl⟩ := List.length_eq_one_iff.mp (show tl.length = 1 by omega)
          rfl
        refine wpS_bind (wpS_reverse ?_)
        have r2 := mirror_mid (xs := xs) (U := T) (V := hd ++ tl) (W := D.drop m) (i := lo) (j := lo + m) q1 lT.symm (by rw [q2]; omega)
        rw [List.reverse_append, hrv] at r2
        refine wpS_bind (wpS_mono (last _ r2 _ (fun x n => rfl)) ?_)
        rintro c st' ⟨m', rfl, hQ⟩
        exact wpS_pure hQ
end
end L2
end

section
set_option Elab.async false
set_option linter.all false
set_option maxRecDepth 100000
set_option maxHeartbeats 4000000
/-! The sort of lists: insertion; the runs, from the first to the last. -/
namespace L2
open PySem PySem.Spec PyProof.Rows TW
def PendL : Nat → List (List Keyed) → List (Nat × Nat × Nat) → Prop
  | _, [], [] => True
  | s, g :: gs, (s', n, _) :: q => s' = s ∧ n = g.length ∧ PendL (s + g.length) gs q
  | _, _, _ => False
theorem pendL_app : ∀ {s : Nat} {A B : List (List Keyed)} {q : List (Nat × Nat × Nat)}, PendL s (A ++ B) q → ∃ q1 q2, q = q1 ++ q2 ∧ q1.length = A.length ∧ PendL s A q1 ∧ PendL (s + A.flatten.length) B q2
  | s, [], B, q, h => ⟨[], q, rfl, rfl, trivial, h⟩
  | s, g :: A, B, (s', n, p) :: q, h => by
    obtain ⟨h1, h2, h3⟩ := h
    obtain ⟨q1, q2, e, l, a, b⟩ := pendL_app h3
    refine ⟨(s', n, p) :: q1, q2, by rw [e]; rfl, by rw [List.length_cons, l]; rfl, ⟨h1, h2, a⟩, ?_⟩
    rw [List.flatten_cons, List.length_append, ← Nat.add_assoc]
    exact b
  | s, g :: A, B, [], h => h.elim
theorem pendL_join : ∀ {s : Nat} {A B : List (List Keyed)} {q1 q2 : List (Nat × Nat × Nat)}, PendL s A q1 → PendL (s + A.flatten.length) B q2 → PendL s (A ++ B) (q1 ++ q2)
  | s, [], B, [], q2, _, h => h
  | s, g :: A, B, (s', n, p) :: q1, q2, ⟨h1, h2, h3⟩, h => ⟨h1, h2, pendL_join h3 (by rw [List.flatten_cons, List.length_append, ← Nat.add_assoc] at h; exact h)⟩
  | s, [], B, _ :: _, q2, h, _ => h.elim
  | s, g :: A, B, [], q2, h, _ => h.elim
theorem pendL_len {s : Nat} {A : List (List Keyed)} {q : List (Nat × Nat × Nat)} (h : PendL s A q) : q.length = A.length := by
  rw [show A = A ++ [] by rw [List.append_nil]] at h
  obtain ⟨q1, q2, e, l, _, b⟩ := pendL_app h
  cases q2 with
  | nil => rw [e, List.append_nil, l]
  | cons x r => exact b.elim
theorem set_erase {α : Type} {q1 q2 : List α} {x y z : α} {i : Nat} (h : q1.length = i) : ((q1 ++ x :: y :: q2).set i z).eraseIdx (i + 1) = q1 ++ z :: q2 := by
  subst h
  rw [List.set_append_right _ _ (Nat.le_refl _), Nat.sub_self, List.set_cons_zero, List.eraseIdx_append_of_length_le (Nat.le_succ _), show q1.length.succ - q1.length = 1 by omega]
  rfl
theorem pendL_modify {pw : Nat} : ∀ {s : Nat} {A : List (List Keyed)} {q : List (Nat × Nat × Nat)} (i : Nat), PendL s A q → PendL s A (q.modify i fun x => (x.1, x.2.1, pw))
  | _, [], [], i, _ => by cases i <;> trivial
  | _, g :: A, (s', n, p) :: q, 0, ⟨h1, h2, h3⟩ => ⟨h1, h2, h3⟩
  | _, g :: A, (s', n, p) :: q, i + 1, ⟨h1, h2, h3⟩ => ⟨h1, h2, pendL_modify i h3⟩
  | _, [], _ :: _, _, h => h.elim
  | _, _ :: _, [], _, h => h.elim
theorem flat_len (blt : Keyed → Keyed → Bool) : ∀ A : List (List Keyed), ((A.map (ssort blt)).flatten).length = A.flatten.length
  | [] => rfl
  | g :: A => by rw [List.map_cons, List.flatten_cons, List.flatten_cons, List.length_append, List.length_append, ssort_len, flat_len blt A]
theorem flat_mem (blt : Keyed → Keyed → Bool) {x : Keyed} : ∀ {A : List (List Keyed)}, x ∈ (A.map (ssort blt)).flatten → x ∈ A.flatten
  | [], h => h
  | g :: A, h => by
    rw [List.map_cons, List.flatten_cons] at h
    rw [List.flatten_cons]
    rcases List.mem_append.mp h with h | h
    · exact List.mem_append_left _ ((ssort_perm blt g).mem_iff.mp h)
    · exact List.mem_append_right _ (flat_mem blt h)
theorem mid_split {U V W : List Keyed} : (U ++ (V ++ W)).take U.length = U ∧ (U ++ (V ++ W)).drop U.length = V ++ W ∧ ((U ++ (V ++ W)).drop U.length).take V.length = V ∧ (U ++ (V ++ W)).drop (U.length + V.length) = W := by
  have e2 : (U ++ (V ++ W)).drop U.length = V ++ W := by rw [List.drop_append_of_le_length (Nat.le_refl _), List.drop_length, List.nil_append]
  refine ⟨by rw [List.take_append_of_le_length (Nat.le_refl _), List.take_length], e2, ?_, ?_⟩
  · rw [e2, List.take_append_of_le_length (Nat.le_refl _), List.take_length]
  · rw [← List.drop_drop, e2, List.drop_append_of_le_length (Nat.le_refl _), List.drop_length, List.nil_append]
structure SI (kd : SortKind) (blt : Keyed → Keyed → Bool) (l0 : List Keyed) (segs : List (List Keyed)) (lo : Nat) (st : SortSt) : Prop where
  ne : ∀ g ∈ segs, g ≠ []
  all : segs.flatten ++ l0.drop lo = l0
  len : segs.flatten.length = lo
  arr : (arrOf st).toList = (segs.map (ssort blt)).flatten ++ l0.drop lo
  pend : PendL 0 segs (pendingOf st).toList
  kind : kindOf st = kd
  fail : failedOf st = none
theorem SI.few {kd : SortKind} {blt : Keyed → Keyed → Bool} {l0 : List Keyed} {segs : List (List Keyed)} {lo : Nat} {st : SortSt} (h : SI kd blt l0 segs lo st) : segs.length ≤ lo := by
  have key : ∀ A : List (List Keyed), (∀ g ∈ A, g ≠ []) → A.length ≤ A.flatten.length := fun A => by
    induction A with
    | nil => intro _; exact Nat.le_refl _
    | cons g A ih =>
      intro hn
      have h1 := ih fun x hx => hn x (List.mem_cons_of_mem _ hx)
      have h2 := List.length_pos_iff.mpr (hn g List.mem_cons_self)
      rw [List.flatten_cons, List.length_append, List.length_cons]
      omega
  have := key segs h.ne
  rw [h.len] at this
  exact this
theorem SI.size {kd : SortKind} {blt : Keyed → Keyed → Bool} {l0 : List Keyed} {segs : List (List Keyed)} {lo : Nat} {st : SortSt} (h : SI kd blt l0 segs lo st) : (arrOf st).size = l0.length := by
  rw [← Array.length_toList, h.arr, List.length_append, flat_len]
  have := congrArg List.length h.all
  rw [List.length_append] at this
  exact this
theorem SI.mem {kd : SortKind} {blt : Keyed → Keyed → Bool} {l0 : List Keyed} {segs : List (List Keyed)} {lo : Nat} {st : SortSt} (h : SI kd blt l0 segs lo st) {x : Keyed} (hx : x ∈ (arrOf st).toList) : x ∈ l0 := by
  rw [h.arr] at hx
  rw [← h.all]
  rcases List.mem_append.mp hx with hx | hx
  · exact List.mem_append_left _ (flat_mem blt hx)
  · exact List.mem_append_right _ hx
section
variable {prog : Program} {w : World} {A : Around} {E : Value → Shared → Prop} {s : Shared}
variable {kd : SortKind} {P : Keyed → Prop} {blt : Keyed → Keyed → Bool} (L : LtOk prog w A E s kd P blt) (o : Swo blt)
include L o
theorem wpS_binarySortX {st : SortSt} {lo n ok : Nat} {T D : List Keyed} {Q : Bool → SortSt → Prop} (hk : kindOf st = kd) (hP : ∀ x ∈ D, P x) (hT : T.length = lo) (hok : 1 ≤ ok) (hn : ok ≤ n) (hD : n ≤ D.length)
    (e : (arrOf st).toList = T ++ ssort blt (D.take ok) ++ D.drop ok) (h : ∀ xs : Array Keyed, xs.toList = T ++ ssort blt (D.take n) ++ D.drop n → Q true (setArr st xs)) :
    wpS (model prog w) A E s (binarySort' lo n ok) Q st := by
  have hmx : max ok 1 = ok := by omega
  refine wpS_bind (wpS_mono (wpS_forRange (I := fun k c st' => c = (none, ()) ∧ k ≤ n ∧ ∃ xs : Array Keyed, st' = setArr st xs ∧ xs.toList = T ++ ssort blt (D.take k) ++ D.drop k)
    (Q := fun c st' => c = (none, ()) ∧ ∃ xs : Array Keyed, st' = setArr st xs ∧ xs.toList = T ++ ssort blt (D.take n) ++ D.drop n) ?_ ?_ ⟨rfl, by omega, arrOf st, rfl, by rw [hmx]; exact e⟩) ?_)
  · rintro k c st' hk1 hk2 ⟨rfl, _, xs, rfl, ex⟩
    dsimp only
    obtain ⟨v, ev⟩ : ∃ v, D[k]? = some v := ⟨_, List.getElem?_eq_getElem (by omega)⟩
    have lS : (ssort blt (D.take k)).length = k := by rw [ssort_len, List.length_take]; omega
    have sS := ssort_srt o (D.take k)
    have pS : ∀ x ∈ ssort blt (D.take k), P x := fun x hx => hP x (List.mem_of_mem_take ((ssort_perm blt _).mem_iff.mp hx))
    have esn : ssort blt (D.take (k + 1)) = mg blt (ssort blt (D.take k)) [v] := by rw [take_at ev, ssort_snoc]
    generalize ssort blt (D.take k) = S at *
    have pv : xs[lo + k]? = some v := by
      rw [← Array.getElem?_toList, ex, List.getElem?_append_right (by rw [List.length_append]; omega), List.length_append, lS, hT, Nat.sub_self, List.getElem?_drop, Nat.add_zero]
      exact ev
    have pm : ∀ m, m < k → xs[lo + m]? = S[m]? := fun m hm => by
      rw [← Array.getElem?_toList, ex, List.append_assoc, List.getElem?_append_right (by omega), hT, Nat.add_sub_cancel_left, List.getElem?_append_left (by omega)]
    refine wpS_bind (wpS_mono (wpS_forRange (I := fun x c st' => ∃ l r, c = (none, l, r) ∧ st' = setArr st xs ∧ l ≤ r ∧ r ≤ k ∧ r - l + x ≤ k ∧ (∀ i z, i < l → S[i]? = some z → blt v z = false) ∧ (∀ i z, r ≤ i → S[i]? = some z → blt v z = true))
      (Q := fun c st' => ∃ l r, c = (none, l, r) ∧ st' = setArr st xs ∧ l ≤ k ∧ (∀ i z, i < l → S[i]? = some z → blt v z = false) ∧ (∀ i z, l ≤ i → S[i]? = some z → blt v z = true)) ?_ ?_ ⟨0, k, rfl, rfl, by omega, by omega, by omega, ?_, ?_⟩) ?_)
    · rintro x c st' _ hx ⟨l, r, rfl, rfl, q1, q2, q3, q4, q5⟩
      dsimp only
      by_cases hge : l ≥ r
      · rw [if_pos hge]
        exact wpS_pure ⟨l, r, rfl, rfl, by omega, q4, fun i z hi ez => q5 i z (by omega) ez⟩
      · rw [if_neg hge]
        obtain ⟨z, ez⟩ : ∃ z, S[(l + r) / 2]? = some z := ⟨_, List.getElem?_eq_getElem (by omega)⟩
        refine wpS_bind (wpS_ltAtX L hk pv (by show xs[_]? = _; rw [pm _ (by omega)]; exact ez) (hP _ (List.mem_of_getElem? ev)) (pS _ (List.mem_of_getElem? ez)) ?_)
        dsimp only
        cases hb : blt v z with
        | true =>
          rw [if_pos rfl]
          exact wpS_pure ⟨_, _, rfl, rfl, by omega, by omega, by omega, q4, fun i z' hi ez' => o.ltle hb (srt_le o sS hi ez ez')⟩
        | false =>
          rw [if_neg (by decide)]
          exact wpS_pure ⟨_, _, rfl, rfl, by omega, by omega, by omega, (fun i z' hi ez' => o.le (srt_le o sS (show i ≤ (l + r) / 2 by omega) ez' ez) hb), q5⟩
    · rintro c st' ⟨l, r, rfl, rfl, q1, q2, q3, q4, q5⟩
      have : max 0 k = k := by omega
      rw [this] at q3
      exact ⟨l, r, rfl, rfl, by omega, q4, fun i z hi ez => q5 i z (by omega) ez⟩
    · intro i z hi
      omega
    · intro i z hi ez
      have := (List.getElem?_eq_some_iff.mp ez).1
      omega
    · rintro c st' ⟨l, r, rfl, rfl, q1, q4, q5⟩
      dsimp only
      refine wpS_bind (?_ : wpS (model prog w) A E s (moveDown' (lo + k) (lo + l)) _ _)
      rw [moveDown'_eq]
      refine wpS_modify (wpS_pure ⟨rfl, by omega, bubble xs (lo + k) (lo + k - (lo + l)), rfl, ?_⟩)
      have hsz : xs.size = lo + D.length := by
        rw [← Array.length_toList, ex, List.length_append, List.length_append, lS, hT, List.length_drop]
        omega
      rw [bubble_list (by omega) (by omega) pv, show lo + k - (lo + k - (lo + l)) = lo + l by omega, show lo + k - (lo + l) = k - l by omega, ex]
      have hl : T.length + (S.take l).length = lo + l := by rw [List.length_take]; omega
      have e1 : T ++ S ++ D.drop k = (T ++ S.take l) ++ (S.drop l ++ D.drop k) := by
        conv => lhs; rw [← List.take_append_drop l S]
        simp only [List.append_assoc]
      have hl2 : (S.drop l).length = k - l := by rw [List.length_drop, lS]
      obtain ⟨m1, m2, m3, m4⟩ := mid_split (U := T ++ S.take l) (V := S.drop l) (W := D.drop k)
      rw [List.length_append, hl] at m1 m2 m3 m4
      rw [hl2] at m3 m4
      have e2 : (T ++ S ++ D.drop k).drop (lo + k + 1) = D.drop (k + 1) := by
        rw [← List.drop_drop, e1, show lo + k = lo + l + (k - l) by omega, m4, List.drop_drop]
      rw [e2, e1, m1, m3, esn]
      have hS : S = S.take l ++ S.drop l := (List.take_append_drop l S).symm
      conv => rhs; rw [hS]
      rw [mg_head_a blt fun a ha y hy => ?_]
      · have := mg_head_b blt (xs := S.drop l) (bs := [v]) (ys := []) fun b hb z hz => by
          rw [List.mem_singleton.mp hb]
          obtain ⟨j, hj, ez⟩ := mem_drop hz
          exact q5 j z hj ez
        rw [List.append_nil, mg_nil'] at this
        rw [this]
        simp only [List.append_assoc]
      · rw [List.mem_singleton.mp hy]
        obtain ⟨j, hj, ez⟩ := mem_take ha
        exact q4 j a hj ez
  · rintro c st' ⟨rfl, hle, xs, rfl, ex⟩
    rw [hmx] at hle ex
    have : max ok n = n := by omega
    rw [this] at ex
    exact ⟨rfl, xs, rfl, ex⟩
  · rintro c st' ⟨rfl, xs, rfl, ex⟩
    exact wpS_pure (h xs ex)
theorem wpS_mergeSI {l0 : List Keyed} {segs : List (List Keyed)} {lo i : Nat} {st : SortSt} {Q : Bool → SortSt → Prop} (hP : ∀ x ∈ l0, P x) (S : SI kd blt l0 segs lo st) (hi : i + 1 < segs.length)
    (h : ∀ segs' st', segs'.length + 1 = segs.length → SI kd blt l0 segs' lo st' → Q true st') : wpS (model prog w) A E s (mergeAt' i) Q st := by
  obtain ⟨A1, g, g', B, rfl, hA⟩ : ∃ A1 g g' B, segs = A1 ++ g :: g' :: B ∧ A1.length = i := by
    refine ⟨segs.take i, segs[i], segs[i + 1], segs.drop (i + 2), ?_, by rw [List.length_take]; omega⟩
    rw [← List.drop_eq_getElem_cons, ← List.drop_eq_getElem_cons, List.take_append_drop]
  obtain ⟨q1, q2, eq, lq, p1, p2⟩ := pendL_app S.pend
  obtain ⟨s1, n1, w1, q3, rfl⟩ : ∃ s1 n1 w1 q3, q2 = (s1, n1, w1) :: q3 := by
    cases q2 with
    | nil => exact p2.elim
    | cons t r => exact ⟨t.1, t.2.1, t.2.2, r, rfl⟩
  obtain ⟨es1, en1, p3⟩ := p2
  obtain ⟨s2, n2, w2, q4, rfl⟩ : ∃ s2 n2 w2 q4, q3 = (s2, n2, w2) :: q4 := by
    cases q3 with
    | nil => exact p3.elim
    | cons t r => exact ⟨t.1, t.2.1, t.2.2, r, rfl⟩
  obtain ⟨es2, en2, p4⟩ := p3
  rw [Nat.zero_add] at es1 es2 p4
  subst es1 en1 es2 en2
  have hg : g ≠ [] := S.ne g (by simp)
  have hg' : g' ≠ [] := S.ne g' (by simp)
  have earr : (arrOf st).toList = (A1.map (ssort blt)).flatten ++ (ssort blt g ++ (ssort blt g' ++ ((B.map (ssort blt)).flatten ++ l0.drop lo))) := by
    rw [S.arr, List.map_append, List.map_cons, List.map_cons, List.flatten_append, List.flatten_cons, List.flatten_cons]
    simp only [List.append_assoc]
  have lA : ((A1.map (ssort blt)).flatten).length = A1.flatten.length := flat_len blt A1
  have lg : (ssort blt g).length = g.length := ssort_len blt g
  have lg' : (ssort blt g').length = g'.length := ssort_len blt g'
  obtain ⟨m1, m2, m3, m4⟩ := mid_split (U := (A1.map (ssort blt)).flatten) (V := ssort blt g) (W := ssort blt g' ++ ((B.map (ssort blt)).flatten ++ l0.drop lo))
  rw [← earr, lA] at m1 m2 m3 m4
  rw [lg] at m3 m4
  obtain ⟨_, _, m5, m6⟩ := mid_split (U := (A1.map (ssort blt)).flatten ++ ssort blt g) (V := ssort blt g') (W := (B.map (ssort blt)).flatten ++ l0.drop lo)
  rw [List.append_assoc, ← earr, List.length_append, lA, lg, lg'] at m5 m6
  have hsz : A1.flatten.length + g.length + g'.length ≤ (arrOf st).size := by
    rw [← Array.length_toList, earr]
    simp only [List.length_append, lA, lg, lg']
    omega
  have i1 : (pendingOf st)[i]? = some (A1.flatten.length, g.length, w1) := by
    rw [← Array.getElem?_toList, eq, List.getElem?_append_right (by omega), lq, hA, Nat.sub_self]
    rfl
  have i2 : (pendingOf st)[i + 1]? = some (A1.flatten.length + g.length, g'.length, w2) := by
    rw [← Array.getElem?_toList, eq, List.getElem?_append_right (by omega), lq, hA, show i + 1 - i = 1 by omega]
    rfl
  refine wpS_mergeAt L o S.kind S.fail i1 i2 (List.length_pos_iff.mpr hg) (List.length_pos_iff.mpr hg') hsz (fun x hx => hP x (S.mem hx)) (by rw [m3]; exact ssort_srt o _) (by rw [m5]; exact ssort_srt o _) fun st' k1 k2 k3 k4 => ?_
  refine h (A1 ++ (g ++ g') :: B) st' (by simp only [List.length_append, List.length_cons]; omega) ⟨fun x hx => ?_, ?_, ?_, ?_, ?_, k1, k2⟩
  · rcases List.mem_append.mp hx with hx | hx
    · exact S.ne x (List.mem_append_left _ hx)
    · rcases List.mem_cons.mp hx with rfl | hx
      · exact fun e => hg (List.append_eq_nil_iff.mp e).1
      · exact S.ne x (List.mem_append_right _ (List.mem_cons_of_mem _ (List.mem_cons_of_mem _ hx)))
  · have := S.all
    simp only [List.flatten_append, List.flatten_cons, List.append_assoc] at this ⊢
    exact this
  · have := S.len
    simp only [List.flatten_append, List.flatten_cons, List.length_append] at this ⊢
    omega
  · rw [k4, m1, m3, m5, m6, ← ssort_app o, List.map_append, List.map_cons, List.flatten_append, List.flatten_cons]
    simp only [List.append_assoc]
  · rw [k3, Array.toList_eraseIdxIfInBounds, Array.toList_setIfInBounds, eq, set_erase (by omega)]
    refine pendL_join p1 ⟨by rw [Nat.zero_add], by rw [List.length_append], ?_⟩
    rw [Nat.zero_add, List.length_append, ← Nat.add_assoc]
    exact p4
theorem wpS_sortRunsX {l0 : List Keyed} {st : SortSt} {Q : Unit → SortSt → Prop} (hk : kindOf st = kd) (hf : failedOf st = none) (hp : pendingOf st = #[]) (e : (arrOf st).toList = l0) (hP : ∀ x ∈ l0, P x) (h2 : 1 ≤ l0.length)
    (h : ∀ st' : SortSt, failedOf st' = none → (arrOf st').toList = ssort blt l0 → Q () st') : wpS (model prog w) A E s sortRuns' Q st := by
  have hsz : (arrOf st).size = l0.length := by rw [← Array.length_toList, e]
  have S0 : SI kd blt l0 [] 0 st := ⟨(fun g hg => by cases hg), by rw [List.drop_zero]; rfl, rfl, by rw [e, List.drop_zero]; rfl, by rw [hp]; trivial, hk, hf⟩
  refine wpS_bind (wpS_get ?_)
  dsimp only
  generalize (arrOf st).size = sz at *
  subst hsz
  generalize (sortPriv% PySem.Builtin.minRun) l0.length l0.length 0 = mr
  refine wpS_bind (wpS_mono (wpS_forRange (I := fun x c st' => ∃ lo segs, c = (none, lo) ∧ x ≤ lo ∧ lo ≤ l0.length ∧ SI kd blt l0 segs lo st')
    (Q := fun c st' => ∃ segs, c = (none, l0.length) ∧ SI kd blt l0 segs l0.length st') ?_ ?_ ⟨0, [], rfl, Nat.le_refl _, Nat.zero_le _, S0⟩) ?_)
  · rintro x c st1 _ hx ⟨lo, segs, rfl, hxl, hlo, S⟩
    dsimp only
    by_cases hge : lo ≥ l0.length
    · rw [if_pos hge]
      have : lo = l0.length := by omega
      subst this
      exact wpS_pure ⟨segs, rfl, S⟩
    rw [if_neg hge]
    have lF : ((segs.map (ssort blt)).flatten).length = lo := by rw [flat_len, S.len]
    have dlo : (arrOf st1).toList.drop lo = l0.drop lo := by rw [S.arr, List.drop_append_of_le_length (by omega), List.drop_of_length_le (by omega), List.nil_append]
    have tlo : (arrOf st1).toList.take lo = (segs.map (ssort blt)).flatten := by rw [S.arr, List.take_append_of_le_length (by omega), List.take_of_length_le (by omega)]
    have lD : (l0.drop lo).length = l0.length - lo := List.length_drop
    have hD : ∀ x ∈ l0.drop lo, P x := fun x hx => hP x (List.mem_of_mem_drop hx)
    refine wpS_bind (wpS_countRunX L o S.kind (fun x hx => hP x (S.mem hx)) (by rw [S.size]; omega) (by omega) fun m xs hm1 hm2 ex => ?_)
    rw [dlo, tlo] at ex
    dsimp only
    by_cases hlt : m < mr
    case' pos =>
      rw [if_pos hlt]
      refine wpS_bind (wpS_lift (wpAny_rule ⟨rfl, ?_⟩))
      refine wpS_bind (wpS_binarySortX L o (st := setArr st1 xs) (lo := lo) (n := min (l0.length - lo) mr) (ok := m) (T := (segs.map (ssort blt)).flatten) (D := l0.drop lo) S.kind hD lF hm1 (by omega) (by omega) ex fun xs2 ex2 => ?_)
      rw [if_neg (by decide)]
      have hn1 : 1 ≤ min (l0.length - lo) mr := by omega
      have hn2 : min (l0.length - lo) mr ≤ l0.length - lo := by omega
      clear ex
      have ex := ex2
      clear ex2 hm1 hm2 hlt
      have hm1 := hn1
      have hm2 := hn2
      clear hn1 hn2
      generalize min (l0.length - lo) mr = n at *
      show wpS _ _ _ _ _ _ (setArr st1 xs2)
      generalize xs2 = xs3 at *
    case' neg =>
      rw [if_neg hlt]
      clear hlt
      generalize m = n at *
      generalize xs = xs3 at *
    all_goals
      have hl0' : ((l0.take lo ++ (ssort blt ((l0.drop lo).take n) ++ (l0.drop lo).drop n)).drop lo) = ssort blt ((l0.drop lo).take n) ++ (l0.drop lo).drop n := by
        rw [List.drop_append_of_le_length (by rw [List.length_take]; omega), List.drop_of_length_le (by rw [List.length_take]; omega), List.nil_append]
      have hsf : segs.flatten = l0.take lo := by
        have := congrArg (List.take lo) S.all
        rw [List.take_append_of_le_length (by rw [S.len]; exact Nat.le_refl _), List.take_of_length_le (by rw [S.len]; exact Nat.le_refl _)] at this
        exact this
      have S' : SI kd blt (l0.take lo ++ (ssort blt ((l0.drop lo).take n) ++ (l0.drop lo).drop n)) segs lo (setArr st1 xs3) :=
        ⟨S.ne, by rw [hl0', hsf], S.len, by show xs3.toList = _; rw [ex, hl0', List.append_assoc], S.pend, S.kind, S.fail⟩
      have hP' : ∀ x ∈ l0.take lo ++ (ssort blt ((l0.drop lo).take n) ++ (l0.drop lo).drop n), P x := fun x hx => by
        rcases List.mem_append.mp hx with hx | hx
        · exact hP x (List.mem_of_mem_take hx)
        · rcases List.mem_append.mp hx with hx | hx
          · exact hD x (List.mem_of_mem_take ((ssort_perm blt _).mem_iff.mp hx))
          · exact hD x (List.mem_of_mem_drop hx)
      have fin : ∀ (segs' : List (List Keyed)) (st3 : SortSt) (q : Array (Nat × Nat × Nat)), SI kd blt (l0.take lo ++ (ssort blt ((l0.drop lo).take n) ++ (l0.drop lo).drop n)) segs' lo st3 → PendL 0 segs' q.toList →
          SI kd blt l0 (segs' ++ [(l0.drop lo).take n]) (lo + n) (setPending st3 (q.push (lo, n, 0))) := fun segs' st3 q S3 hq => by
        have hsf' : segs'.flatten = l0.take lo := by
          have := congrArg (List.take lo) S3.all
          rw [List.take_append_of_le_length (by rw [S3.len]; exact Nat.le_refl _), List.take_of_length_le (by rw [S3.len]; exact Nat.le_refl _), List.take_append_of_le_length (by rw [List.length_take]; omega), List.take_of_length_le (l := l0.take lo) (by rw [List.length_take]; omega)] at this
          exact this
        have ln : ((l0.drop lo).take n).length = n := by rw [List.length_take]; omega
        refine ⟨fun g hg => ?_, ?_, ?_, ?_, ?_, S3.kind, S3.fail⟩
        · rcases List.mem_append.mp hg with hg | hg
          · exact S3.ne g hg
          · rw [List.mem_singleton.mp hg]
            exact fun z => by rw [z] at ln; simp at ln; omega
        · rw [List.flatten_append, List.flatten_singleton, hsf', ← List.drop_drop, List.append_assoc, List.take_append_drop, List.take_append_drop]
        · rw [List.flatten_append, List.flatten_singleton, List.length_append, S3.len, ln]
        · show (arrOf st3).toList = _
          rw [S3.arr, hl0', List.map_append, List.map_cons, List.map_nil, List.flatten_append, List.flatten_singleton, ← List.drop_drop, List.append_assoc]
        · show PendL 0 _ (q.push (lo, n, 0)).toList
          rw [Array.toList_push]
          refine pendL_join hq ⟨?_, ln.symm, trivial⟩
          rw [Nat.zero_add, S3.len]
      refine wpS_bind (wpS_get ?_)
      dsimp only
      cases hb : (pendingOf (setArr st1 xs3)).back? with
      | none =>
        dsimp only
        exact wpS_bind (wpS_modify (wpS_pure ⟨lo + n, _, rfl, by omega, by omega, fin segs (setArr st1 xs3) (pendingOf st1) S' S.pend⟩))
      | some t =>
        obtain ⟨s1, n1, w1⟩ := t
        dsimp only
        generalize (sortPriv% PySem.Builtin.power) l0.length (2 * s1 + n1) (2 * s1 + n1 + n1 + n) l0.length = pw
        refine wpS_bind (wpS_mono (wpS_forRange (I := fun x c st' => c = (none, ()) ∧ ∃ segs', SI kd blt (l0.take lo ++ (ssort blt ((l0.drop lo).take n) ++ (l0.drop lo).drop n)) segs' lo st')
          (Q := fun c st' => c = (none, ()) ∧ ∃ segs', SI kd blt (l0.take lo ++ (ssort blt ((l0.drop lo).take n) ++ (l0.drop lo).drop n)) segs' lo st') ?_ ?_ ⟨rfl, segs, S'⟩) ?_)
        · rintro y c st4 _ hy ⟨rfl, segs', S4⟩
          refine wpS_bind (wpS_get ?_)
          try dsimp only
          have hpl : (pendingOf st4).size = segs'.length := by rw [← Array.length_toList]; exact pendL_len S4.pend
          by_cases c1 : (pendingOf st4).size > 1
          · rw [if_pos c1]
            obtain ⟨t, et⟩ : ∃ t, (pendingOf st4)[(pendingOf st4).size - 2]? = some t := ⟨_, Array.getElem?_eq_getElem (by omega)⟩
            rw [et]
            obtain ⟨a1, a2, older⟩ := t
            dsimp only
            by_cases c2 : older ≤ pw
            · rw [if_pos c2]
              exact wpS_pure ⟨rfl, segs', S4⟩
            · rw [if_neg c2]
              refine wpS_bind (wpS_mergeSI L o (i := (pendingOf st4).size - 2) hP' S4 (by omega) fun segs5 st5 _ S5 => ?_)
              exact wpS_pure ⟨rfl, segs5, S5⟩
          · rw [if_neg c1]
            exact wpS_pure ⟨rfl, segs', S4⟩
        · rintro c st4 ⟨rfl, segs', S4⟩
          exact ⟨rfl, segs', S4⟩
        · rintro c st4 ⟨rfl, segs', S4⟩
          try dsimp only
          refine wpS_bind (wpS_modify (wpS_bind (wpS_modify (wpS_pure ⟨lo + n, _, rfl, by omega, by omega, fin segs' st4 ((pendingOf st4).modify ((pendingOf st4).size - 1) fun x => (x.1, x.2.1, pw)) S4 ?_⟩))))
          rw [Array.toList_modify]
          exact pendL_modify _ S4.pend
  · rintro c st1 ⟨lo, segs, rfl, hxl, hlo, S⟩
    have : max 0 l0.length = l0.length := by omega
    rw [this] at hxl
    have : lo = l0.length := by omega
    subst this
    exact ⟨segs, rfl, S⟩
  · rintro c st1 ⟨segs, rfl, S⟩
    dsimp only
    refine wpS_bind (wpS_mono (wpS_forRange (I := fun x c st' => c = (none, ()) ∧ ∃ segs, segs.length + x ≤ l0.length ∧ SI kd blt l0 segs l0.length st')
      (Q := fun c st' => c = (none, ()) ∧ ∃ segs, segs.length ≤ 1 ∧ SI kd blt l0 segs l0.length st') ?_ ?_ ⟨rfl, segs, S.few, S⟩) ?_)
    · rintro x c st1 _ hx ⟨rfl, segs, hl, S⟩
      refine wpS_bind (wpS_get ?_)
      try dsimp only
      have hpl : (pendingOf st1).size = segs.length := by rw [← Array.length_toList]; exact pendL_len S.pend
      by_cases c1 : (pendingOf st1).size ≤ 1
      · rw [if_pos c1]
        exact wpS_pure ⟨rfl, segs, by omega, S⟩
      rw [if_neg c1]
      have h9 : ∀ c : Bool, (if c = true then (pendingOf st1).size - 2 - 1 else (pendingOf st1).size - 2) ≤ (pendingOf st1).size - 2 := fun c => by
        cases c
        · exact Nat.le_refl _
        · exact Nat.sub_le _ _
      refine wpS_bind (wpS_mergeSI L o hP S (Nat.lt_of_le_of_lt (Nat.succ_le_succ (h9 _)) (by omega)) fun segs' st2 hl2 S2 => ?_)
      exact wpS_pure ⟨rfl, segs', by omega, S2⟩
    · rintro c st1 ⟨rfl, segs, hl, S⟩
      have : max 0 l0.length = l0.length := by omega
      rw [this] at hl
      exact ⟨rfl, segs, by omega, S⟩
    · rintro c st1 ⟨rfl, segs, hl, S⟩
      refine wpS_pure (h st1 S.fail ?_)
      have hlen := S.len
      have hall := S.all
      rw [List.drop_length, List.append_nil] at hall
      obtain ⟨g, rfl⟩ : ∃ g, segs = [g] := by
        cases segs with
        | nil => rw [List.flatten_nil, List.length_nil] at hlen; omega
        | cons g r =>
          rw [List.length_cons] at hl
          exact ⟨g, by rw [List.length_eq_zero_iff.mp (show r.length = 0 by omega)]⟩
      rw [List.flatten_singleton] at hall
      rw [S.arr, List.drop_length, List.append_nil, List.map_cons, List.map_nil, List.flatten_singleton, hall]
end
end L2
end

section
set_option Elab.async false
set_option linter.all false
set_option maxRecDepth 100000
set_option maxHeartbeats 4000000
/-! sorted(d.items()), keys and values whole numbers. -/
namespace L2
open PySem PySem.Spec PyProof.Rows TW
def ltP (a b : Int × Int) : Bool := decide (a.1 < b.1) || (decide (a.1 = b.1) && decide (a.2 < b.2))
theorem ltP_iff {a b : Int × Int} : ltP a b = true ↔ a.1 < b.1 ∨ (a.1 = b.1 ∧ a.2 < b.2) := by
  unfold ltP
  rw [Bool.or_eq_true, Bool.and_eq_true, decide_eq_true_iff, decide_eq_true_iff, decide_eq_true_iff]
theorem ltP_no {a b : Int × Int} (h : ¬ (a.1 < b.1 ∨ (a.1 = b.1 ∧ a.2 < b.2))) : ltP a b = false := Bool.eq_false_iff.mpr fun z => h (ltP_iff.mp z)
theorem swo_ltP {α : Type} (F : α → Int × Int) : Swo fun x y => ltP (F x) (F y) := by
  refine ⟨fun a => ltP_no (by omega), fun a b c h1 h2 => ?_, fun a b c h1 => ?_⟩
  · rw [ltP_iff] at h1 h2 ⊢
    omega
  · rw [ltP_iff] at h1
    by_cases h : ltP (F a) (F b) = true
    · exact .inl h
    · refine .inr (ltP_iff.mpr ?_)
      rw [ltP_iff] at h
      omega
/-- a tuple of two whole numbers, by its address -/
def Is2 (h : Heap) (v : Value) (q : Int × Int) : Prop := ∃ a t u o n, v = .ref a ∧ h.get? a = some o ∧ o.cls = .type "tuple" ∧ o.data = .seq #[.int q.1 t, .int q.2 u] n
section
variable {prog : Program} {w : World} {A : Around} {E : Value → Shared → Prop} {s : Shared}
theorem eq_ints {a b : Int} {t u : Tok} {Q : Bool → Shared → Prop} {E : Value → Shared → Prop} (h : Q (a == b) s) : wpAny (model prog w) A (eqBool (.int a t) (.int b u)) Q E s := SeqAt.EqAt.int_int a t b u prog w _ _ h
theorem ltOk_tups {F : Value → Int × Int} : LtOk prog w A E s (tuples' true) (fun x => Is2 s.heap x.1 (F x.1)) (fun x y => ltP (F x.1) (F y.1)) := by
  intro x y st Q hx hy hk h
  obtain ⟨x1, x2⟩ := x
  obtain ⟨y1, y2⟩ := y
  obtain ⟨a, t, u, o1, n1, e1, g1, c1, d1⟩ := hx
  obtain ⟨b, t', u', o2, n2, e2, g2, c2, d2⟩ := hy
  dsimp only at e1 e2 d1 d2 h
  rw [lt'_eq]
  refine wpS_bind (wpS_get ?_)
  rw [hk]
  refine wpS_bind (wpS_lift (wpAny_attempt ?_))
  have fin : wpAny (model prog w) A (keyLt' (tuples' true) x1 y1) (fun b s' => s' = s ∧ b = ltP (F x1) (F y1)) (fun _ _ => False) s := by
    rw [e1, e2]
    refine PySem.W.kat_lt g1 d1 g2 d2 ?_
    rw [← e1, ← e2]
    show PySem.W.KatLex _ _ _ _ _ _ [(.int (F x1).1 t, .int (F y1).1 t'), (.int (F x1).2 u, .int (F y1).2 u')] 0 s
    refine PySem.W.kat_cons (eq_ints ?_)
    by_cases h1 : (F x1).1 = (F y1).1
    · rw [show ((F x1).1 == (F y1).1) = true by simpa using h1]
      refine PySem.W.kat_yes (PySem.W.kat_cons (eq_ints ?_))
      by_cases h2 : (F x1).2 = (F y1).2
      · rw [show ((F x1).2 == (F y1).2) = true by simpa using h2]
        refine PySem.W.kat_yes (PySem.W.kat_nil ⟨rfl, ?_⟩)
        rw [ltP_no (by omega)]
        rfl
      · rw [show ((F x1).2 == (F y1).2) = false by simpa using h2]
        refine PySem.W.kat_no (PySem.W.kat_one _ _ (PyProof.Rows.lt_int ⟨rfl, ?_⟩))
        by_cases h3 : (F x1).2 < (F y1).2
        · rw [decide_eq_true h3, ltP_iff.mpr (.inr ⟨h1, h3⟩)]
        · rw [decide_eq_false h3, ltP_no (by omega)]
    · rw [show ((F x1).1 == (F y1).1) = false by simpa using h1]
      refine PySem.W.kat_no (oneLt_int ⟨rfl, ?_⟩)
      by_cases h3 : (F x1).1 < (F y1).1
      · rw [decide_eq_true h3, ltP_iff.mpr (.inl h3)]
      · rw [decide_eq_false h3, ltP_no (by omega)]
  refine wpAny_mono fin (fun c s' ⟨e3, e4⟩ => ?_) fun _ _ z => z.elim
  subst e3 e4
  exact ⟨rfl, wpS_pure h⟩
theorem is2_kind {vs : List Value} {Q : SortKind → Shared → Prop} (hv : ∀ v ∈ vs, ∃ q, Is2 s.heap v q) (hne : 0 < vs.length) (h : Q (tuples' true) s) : wpAny (model prog w) A (keyKind' vs.toArray) Q E s := by
  have key : ∀ vs : List Value, (∀ v ∈ vs, ∃ q, Is2 s.heap v q) → ∃ fs, PySem.W.KatTups s.heap vs fs ∧ fs.length = vs.length ∧ ∀ v ∈ fs, ∃ n t, v = Value.int n t := fun vs => by
    induction vs with
    | nil => exact fun _ => ⟨[], trivial, rfl, fun v hv => by cases hv⟩
    | cons v vs ih =>
      intro hv
      obtain ⟨fs, h1, h2, h3⟩ := ih fun x hx => hv x (List.mem_cons_of_mem _ hx)
      obtain ⟨q, a, t, u, o, n, rfl, g, c, d⟩ := hv v List.mem_cons_self
      refine ⟨Value.int q.1 t :: fs, PySem.W.KatTups.cons g c d rfl h1, by rw [List.length_cons, List.length_cons, h2], fun x hx => ?_⟩
      rcases List.mem_cons.mp hx with rfl | hx
      · exact ⟨_, _, rfl⟩
      · exact h3 x hx
  obtain ⟨fs, h1, h2, h3⟩ := key vs hv
  refine PySem.W.kat_kind (T := .type "int") h1 (by omega) (fun v hv => ?_) (by rfl) h
  obtain ⟨n, t, rfl⟩ := h3 v hv
  exact PySem.W.Looks.now
theorem Is2.keep {h h' : Heap} {v : Value} {q : Int × Int} (x : Is2 h v q) (k : ∀ b o, h.get? b = some o → o.cls = .type "tuple" → h'.get? b = some o) : Is2 h' v q := by
  obtain ⟨a, t, u, o, n, e, g, c, d⟩ := x
  exact ⟨a, t, u, o, n, e, k _ _ g c, c, d⟩
theorem list_sort_tups {a : Addr} {vs : List Value} {n : Nat} {F : Value → Int × Int} {R : Fin → Shared → Prop} (ho : s.heap.get? a = some (seqObj "list" vs.toArray n)) (hv : ∀ v ∈ vs, Is2 s.heap v (F v)) (hz : vs.length ≤ sizeLine)
    (h : ∀ out : Array Value, out.toList = ssort (fun x y => ltP (F x) (F y)) vs → R (.done (.ret .none)) { s with heap := sortedHeap s.heap a vs out }) :
    wpAny (model prog w) A (Builtin.«list.sort» ⟨[.ref a], []⟩) R E s := by
  rw [list_sort_plain]
  have ha : a < s.heap.objs.size := Heap.lt_size ho
  refine wpAny_bind (listItems_at ho rfl ?_)
  refine wpAny_bind (listUpdate_at ho rfl ?_ (by simpa using hz) (by simp))
  obtain ⟨e1, ho1⟩ : ∃ e1, (s.heap.update a (Obj.mapSeq fun _ => #[])).get? a = some (seqObj "list" #[] e1) := ⟨_, get?_update_seq ho (fun _ => #[])⟩
  refine wpAny_bind (seqEpoch_at ho1 rfl ?_)
  refine wpAny_bind (wpAny_newTuple ?_)
  refine wpAny_bind (wpAny_newList ?_)
  refine wpAny_holding ?_
  have ho6 : (((s.heap.update a (Obj.mapSeq fun _ => #[])).push (seqObj "tuple" vs.toArray 0)).push (seqObj "list" #[] 0)).get? a = some (seqObj "list" #[] e1) := by
    rw [Heap.get?_push_ne _ _ _ (by rw [size_push', Heap.size_update]; exact Nat.ne_of_lt (Nat.lt_succ_of_lt ha)), Heap.get?_push_ne _ _ _ (by rw [Heap.size_update]; exact Nat.ne_of_lt ha)]
    exact ho1
  have hv6 : ∀ v ∈ vs, Is2 (((s.heap.update a (Obj.mapSeq fun _ => #[])).push (seqObj "tuple" vs.toArray 0)).push (seqObj "list" #[] 0)) v (F v) := fun v hvm => (hv v hvm).keep fun b o e c => by
    have hb : b ≠ a := fun z => by
      rw [z, ho] at e
      cases e
      have c : Value.type "list" = Value.type "tuple" := c
      injection c with c
      exact absurd c (by decide)
    exact Heap.get?_push_of_some _ (Heap.get?_push_of_some _ ((Heap.get?_update_other _ _ (Ne.symm hb)).trans e))
  show wpAny (model prog w) A _ R E { s with heap := ((s.heap.update a (Obj.mapSeq fun _ => #[])).push (seqObj "tuple" vs.toArray 0)).push (seqObj "list" #[] 0) }
  dsimp only
  have hsz : vs.toArray.size = vs.length := by simp
  have ez : (vs.toArray.zip vs.toArray).toList = vs.map fun v => (v, v) := by
    rw [Array.toList_zip]
    generalize vs = l
    induction l with
    | nil => rfl
    | cons x l ih => exact congrArg _ ih
  have fin : ∀ st' : SortSt, (arrOf st').toList = ssort (fun x y : Keyed => ltP (F x.1) (F y.1)) (vs.map fun v => (v, v)) → R (.done (.ret .none)) { s with heap := sortedHeap s.heap a vs ((arrOf st').map (·.2)) } := fun st' e => by
    refine h _ ?_
    rw [Array.toList_map, e, ssort_map (lt := fun x y => ltP (F x) (F y)) (f := fun v => ((v, v) : Keyed)) fun _ _ => rfl, List.map_map]
    exact List.map_id _
  have szo : ∀ st' : SortSt, (arrOf st').toList = ssort (fun x y : Keyed => ltP (F x.1) (F y.1)) (vs.map fun v => (v, v)) → ((arrOf st').map (·.2)).size ≤ sizeLine + 1 := fun st' e => by
    rw [Array.size_map, ← Array.length_toList, e, ssort_len, List.length_map]
    omega
  by_cases h2 : vs.toArray.size < 2
  · rw [if_pos h2, if_pos h2]
    refine wpAny_bind (wpAny_pure ?_)
    rw [StateT.run_pure]
    refine wpAny_bind (wpAny_pure ?_)
    dsimp only
    have e0 : (arrOf (SortSt.mk' general' (vs.toArray.zip vs.toArray) #[] 7 none)).toList = ssort (fun x y : Keyed => ltP (F x.1) (F y.1)) (vs.map fun v => (v, v)) := by
      show (vs.toArray.zip vs.toArray).toList = _
      rw [ez]
      refine (ssort_id ?_).symm
      have hl : (vs.map fun v => ((v, v) : Keyed)).length < 2 := by rw [List.length_map]; omega
      match (vs.map fun v => ((v, v) : Keyed)), hl with
      | [], _ => exact List.Pairwise.nil
      | [x], _ => exact List.pairwise_singleton _ _
    refine wpAny_bind (seqEpoch_at ho6 rfl ?_)
    refine wpAny_bind (listUpdate_at ho6 rfl ?_ (hsz2 := szo _ e0))
    simp only [bne_self_eq_false, Bool.false_eq_true, if_false]
    exact wpAny_pure (fin _ e0)
  · rw [if_neg h2, if_neg h2]
    refine wpAny_bind (is2_kind (fun v hvm => ⟨_, hv6 v hvm⟩) (by omega) ?_)
    refine wpAny_bind (wpAny_mono (wpS_sortRunsX (P := fun x => Is2 _ x.1 (F x.1)) (ltOk_tups (F := F)) (swo_ltP fun x : Keyed => F x.1) (l0 := vs.map fun v => (v, v)) (st := SortSt.mk' (tuples' true) (vs.toArray.zip vs.toArray) #[] 7 none)
      (Q := fun _ st' => failedOf st' = none ∧ (arrOf st').toList = ssort (fun x y : Keyed => ltP (F x.1) (F y.1)) (vs.map fun v => (v, v))) rfl rfl rfl ez (fun x hx => ?_) (by rw [List.length_map]; omega) fun st' a1 a2 => ⟨a1, a2⟩) ?_ fun _ _ e => e)
    · obtain ⟨v, hvm, rfl⟩ := List.mem_map.mp hx
      exact hv6 v hvm
    rintro ⟨⟨⟩, st'⟩ s' ⟨rfl, hf, hs⟩
    dsimp only
    refine wpAny_bind (seqEpoch_at ho6 rfl ?_)
    refine wpAny_bind (listUpdate_at ho6 rfl ?_ (hsz2 := szo _ hs))
    rw [hf]
    simp only [bne_self_eq_false, Bool.false_eq_true, if_false]
    exact wpAny_pure (fin st' hs)
end
end L2
end

section
set_option Elab.async false
set_option linter.all false
set_option maxRecDepth 100000
set_option maxHeartbeats 4000000
/-! sorted(d.items()): the rule. -/
namespace L2
open PySem PySem.Spec PyProof.Rows TW
/-- several new objects at once -/
def both (N H : Hp) : Hp := fun b => match N b with | some o => some o | none => H b
theorem both_new {N H : Hp} {b : Addr} {o : HO} (h : N b = some o) : both N H b = some o := by unfold both; rw [h]
theorem both_old {N H : Hp} {b : Addr} (h : N b = none) : both N H b = H b := by unfold both; rw [h]
theorem both_same {N H : Hp} (h : ∀ b o, N b = some o → H b = none) : Same H (both N H) := fun b o e => by
  cases hN : N b with
  | none => rw [both_old hN]; exact e
  | some u => rw [h b u hN] at e; cases e
theorem Inv.laidAll {X : Cx} {pins : List (Addr × Obj)} {σ : St} {H N : Hp} {s : Shared} {h' : Heap} {t' : Nat} (I : Inv X pins σ H s) (k : ∀ b u, s.heap.get? b = some u → h'.get? b = some u) (hp : ∀ b o, N b = some o → s.heap.objs.size ≤ b)
    (new : ∀ b o, N b = some o → ObjOk X.prog X.w (both N H) h' b o) : Inv X pins σ (both N H) { s with heap := h', toks := t' } := by
  have hn : ∀ b o, N b = some o → H b = none := fun b o e => I.hok.fresh (hp b o e)
  have sm := both_same hn
  have old : ∀ b u, s.heap.get? b = some u → N b = none := fun b u e => by
    cases hN : N b with
    | none => rfl
    | some o => exact absurd (Heap.lt_size e) (Nat.not_lt.mpr (hp b o hN))
  refine I.un ⟨fun b u q _ _ _ => k b u q, fun b u q _ _ _ => ⟨u.slots, k b u q⟩, fun b u q n _ => by rw [both_old (old b u q)]; exact n, fun b u q _ => ⟨u, k b u q⟩, fun b xs q => sm _ _ q, fun b u xs q => sm _ _ q, fun b ps q => ⟨#[], by rw [sm _ _ q]; simp⟩⟩ fun b o e => ?_
  cases hN : N b with
  | some u =>
    rw [both_new hN] at e
    cases e
    exact new b _ hN
  | none =>
    rw [both_old hN] at e
    exact (I.hok b o e).stay (fun c v _ q => k c v q) (fun c q => sm _ _ q) fun c xs q => sm _ _ q
def val2 (h : Heap) : Value → Int × Int
  | .ref a => match h.get? a with
    | some o => match o.data with
      | .seq xs _ => match xs.toList with
        | [.int k _, .int x _] => (k, x)
        | _ => (0, 0)
      | _ => (0, 0)
    | none => (0, 0)
  | _ => (0, 0)
theorem is2_val {h : Heap} {v : Value} {q : Int × Int} (x : Is2 h v q) : val2 h v = q := by
  obtain ⟨a, t, u, o, n, rfl, g, _, d⟩ := x
  unfold val2
  dsimp only
  rw [g]
  dsimp only
  rw [d]
def adr : Value → Addr
  | .ref a => a
  | _ => 0
def TupsAt (H : Hp) (as : List Addr) (qs : List (Int × Int)) : Prop := as.length = qs.length ∧ ∀ (i : Nat) a q, as[i]? = some a → qs[i]? = some q → H a = some (.tup [.int q.1, .int q.2])
theorem TupsAt.same {H H' : Hp} {as : List Addr} {qs : List (Int × Int)} (h : TupsAt H as qs) (s : Same H H') : TupsAt H' as qs := ⟨h.1, fun i a q e1 e2 => s _ _ (h.2 i a q e1 e2)⟩
abbrev kvI (ks : List (Int × Int)) : List (Key × V) := ks.map fun q => ((Sum.inl q.1 : Key), V.int q.2)
theorem kvI_at {ks : List (Int × Int)} {vs : List (Key × Value)} (h : KV (kvI ks) vs) {i : Nat} {k : Key} {x : Value} (e : vs[i]? = some (k, x)) : ∃ q u, ks[i]? = some q ∧ k = .inl q.1 ∧ x = .int q.2 u := by
  have key : ∀ (ks : List (Int × Int)) (vs : List (Key × Value)) (i : Nat), KV (kvI ks) vs → vs[i]? = some (k, x) → ∃ q u, ks[i]? = some q ∧ k = .inl q.1 ∧ x = .int q.2 u := fun ks => by
    induction ks with
    | nil => intro vs i h e; cases h; cases e
    | cons q ks ih =>
      intro vs i h e
      cases h with
      | cons h1 t =>
        cases i with
        | zero =>
          obtain ⟨h2, u, h3⟩ := h1
          cases e
          exact ⟨q, u, rfl, h2.symm, h3⟩
        | succ i => exact ih _ i t e
  exact key ks vs i h e
section
variable {X : Cx}
def tSortI (td : TE) : TE := fun σ H Q => td σ H fun x H1 => ∃ d ks, x = .ref d ∧ H1 d = some (.dK (kvI ks)) ∧ ∀ p as H', Same H1 H' → H1 p = none → H' p = some (.lst (as.map V.ref)) → TupsAt H' as (ssort ltP ks) → Q (.ref p) H'
theorem r_sortI {σ : St} {H : Hp} {Q : VK} {td : TE} (h : td σ H fun x H1 => ∃ d ks, x = .ref d ∧ H1 d = some (.dK (kvI ks)) ∧ ∀ p as H', Same H1 H' → H1 p = none → H' p = some (.lst (as.map V.ref)) → TupsAt H' as (ssort ltP ks) → Q (.ref p) H') : tSortI td σ H Q := h
theorem pe_sortI {o : Expr} {td : TE} {p pos apos pos2 : Pos} (hcal : X.calm = true) (hg : Gl X "sorted") (hm : X.mg "sorted" = none) (ho : PE X o td)
    (hbase : attributeBase o "items" X.env (eval o X.env) = eval o X.env := by rfl) (hline : (apos.endLine == pos2.line) = true := by rfl)
    (hs : starEach [Expr.Call (.Attribute o "items" apos) [] [] pos2] X.env = [(false, eval (.Call (.Attribute o "items" apos) [] [] pos2) X.env)] := by rfl) :
    PE X (.Call (.Name "sorted" p) [.Call (.Attribute o "items" apos) [] [] pos2] [] pos) (tSortI td) := by
  intro pins s σ H Q I h
  refine wpAny_Call_Name_kw (ld_blt I hg hm b_sorted (PyProof.Rows.callWith_builtin1 ?_ hs rfl) (by decide) (by decide))
  rw [hs]
  refine Calls.spliced_cons ?_
  show wpAny _ _ (eval (Expr.Call (.Attribute o "items" apos) [] [] pos2) X.env) _ _ _
  refine wpAny_Call_method0_late hbase hline (thn (ho pins s σ H _ I h) fun v s1 ⟨x, H1, I1, r1, d, ks, ex, hd, q⟩ => ?_)
  subst ex
  obtain rfl : v = Value.ref d := r1
  obtain ⟨z, hsm, vs, rel, dd⟩ := dk_of I1.hok hd
  have hlk : ks.length = vs.length := by have := rel.length; rw [List.length_map] at this; exact this
  have hnd : ∀ b, Value.ref d = .ref b → ∃ ob, s1.heap.get? b = some ob ∧ ob.dict = none := fun b e => by
    cases e
    obtain ⟨ob, _, _, h1, h2, _⟩ := dd
    exact ⟨ob, h1, h2.2.1⟩
  refine ⟨"dict", "dict.items", PySem.F.plainAttrs_dict, PySem.F.slot_dict_items, PySem.F.type_dict_items, dd.typeIs, hnd, Calls.callWith_builtin rfl (PySem.evalArgs_none ?_)⟩
  refine call_meetsIn PySem.F.slot_dict_items dd.typeIs PySem.F.entry_dict_items (PySem.F.args_dict_items_1 _) (meets_dict_items (mixKind X.prog X.w) d hsm) ⟨⟨vs, dd⟩, ?_⟩
  refine Calls.spliced_nil ?_
  -- the view stands; now it is sorted
  have up : ∀ b ob, s1.heap.get? b = some ob → (s1.heap.push { cls := .type "dict_items", data := .fields #[.ref d] }).get? b = some ob := fun b ob e => Heap.get?_push_of_some _ e
  have dd2 : (s1.heap.push { cls := .type "dict_items", data := .fields #[.ref d] }).DictOf (mixKind X.prog X.w) d vs := by
    obtain ⟨ob, es, ep, h1, r⟩ := dd
    exact ⟨ob, es, ep, up _ _ h1, r⟩
  obtain ⟨ep, dat⟩ := dd2.dictAt
  have hview : (s1.heap.push { cls := .type "dict_items", data := .fields #[.ref d] }).IsItemsView s1.heap.objs.size d := ⟨_, Heap.get?_push_size _ rfl, rfl, rfl⟩
  refine Calls.call_function_entry kind_sorted plain_sorted entry_sorted (args_sorted1 _) ?_
  unfold Builtin.«sorted»
  refine wpAny_bind (m := checkCount "sorted" 1 1 _) (wpAny_pure ?_)
  have hvz : vs.length ≤ sizeLine := by rw [← rel.length]; exact z
  refine wpAny_bind (PySem.W.kdx_collect (knd := mixKind X.prog X.w) (kvs := vs) (ep := ep) (I1.ok.hd hcal) hview dat hvz fun h' tk as hk hl hG => ?_)
  have hkeep : ∀ b ob, s1.heap.get? b = some ob → h'.get? b = some ob := fun b ob e => hk b ob (up b ob e)
  have hsz : (s1.heap.push { cls := .type "dict_items", data := .fields #[.ref d] }).objs.size = s1.heap.objs.size + 1 := Heap.size_push ..
  have hle : s1.heap.objs.size + 1 ≤ h'.objs.size := Heap.lt_size (hk s1.heap.objs.size { cls := .type "dict_items", data := .fields #[.ref d] } (Heap.get?_push_size _ rfl))
  have hab : ∀ a ∈ as, s1.heap.objs.size ≤ a ∧ a < h'.objs.size := fun a ha => ⟨by
    have h9 : (s1.heap.push { cls := .type "dict_items", data := .fields #[.ref d] }).objs.size < a := hG.above a ha
    rw [hsz] at h9
    omega, hG.there ha⟩
  have h2 : ∀ (j : Nat) a, as[j]? = some a → ∃ q, ks[j]? = some q ∧ Is2 h' (.ref a) q := fun j a e => by
    obtain ⟨key, k, x, e1, e2, e3⟩ := hG.pairs j a e
    obtain ⟨q, u, e4, rfl, rfl⟩ := kvI_at rel e1
    obtain ⟨t, rfl⟩ : ∃ t, key = Value.int q.1 t := by
      rcases keyIs_shape (k := (Sum.inl q.1 : Key)) (v := key) e2 with ⟨i, t, h1, h2⟩ | ⟨x, t, h1, h2⟩
      · cases h1; exact ⟨t, h2⟩
      · cases h1
    exact ⟨q, e4, a, t, u, _, 0, rfl, e3, rfl, rfl⟩
  have hzL : (as.map Value.ref).length ≤ sizeLine := by rw [List.length_map, hl]; exact hvz
  refine wpAny_bind (wpAny_newList ?_ hzL)
  have hoL : (h'.push (seqObj "list" (as.map Value.ref).toArray 0)).get? h'.objs.size = some (seqObj "list" (as.map Value.ref).toArray 0) := Heap.get?_push_size _ rfl
  have hI2 : ∀ v ∈ as.map Value.ref, Is2 (h'.push (seqObj "list" (as.map Value.ref).toArray 0)) v (val2 h' v) := fun v hv => by
    obtain ⟨a, ha, rfl⟩ := List.mem_map.mp hv
    obtain ⟨j, hj⟩ := List.getElem?_of_mem ha
    obtain ⟨q, _, hq⟩ := h2 j a hj
    rw [is2_val hq]
    exact hq.keep fun b ob e _ => Heap.get?_push_of_some _ e
  refine wpAny_bind (wpAny_holding (wpAny_call_entry slot_list_sort ⟨_, hoL, rfl⟩ entry_list_sort (list_sort_tups hoL hI2 hzL fun out eo => ⟨_, rfl, ?_⟩) (args_list_sort _)))
  refine wpAny_pure ⟨_, rfl, ?_⟩
  -- what stands now
  have hmap : (as.map Value.ref).map (val2 h') = ks := by
    refine List.ext_getElem? fun j => ?_
    rw [List.getElem?_map, List.getElem?_map]
    cases e : as[j]? with
    | none =>
      have : as.length ≤ j := List.getElem?_eq_none_iff.mp e
      rw [List.getElem?_eq_none (by omega)]
      rfl
    | some a =>
      obtain ⟨q, e1, hq⟩ := h2 j a e
      rw [e1, Option.map_some, Option.map_some, is2_val hq]
  have hout : out.toList.map (val2 h') = ssort ltP ks := by rw [eo, ← ssort_map (f := val2 h') (lt' := ltP) fun _ _ => rfl, hmap]
  have hperm : out.toList.Perm (as.map Value.ref) := by rw [eo]; exact ssort_perm _ _
  have href : ∀ v ∈ out.toList, ∃ a ∈ as, v = .ref a := fun v hv => by
    obtain ⟨a, ha, rfl⟩ := List.mem_map.mp (hperm.mem_iff.mp hv)
    exact ⟨a, ha, rfl⟩
  have hadr : (out.toList.map adr).map Value.ref = out.toList := by
    rw [List.map_map]
    conv => rhs; rw [← List.map_id out.toList]
    refine List.map_congr_left fun v hv => ?_
    obtain ⟨a, _, rfl⟩ := href v hv
    rfl
  have hfin : ∀ b ob, b ≠ h'.objs.size → h'.get? b = some ob → (sortedHeap (h'.push (seqObj "list" (as.map Value.ref).toArray 0)) h'.objs.size (as.map Value.ref) out).get? b = some ob := fun b ob hb e => by
    rw [sortedHeap_old hb (by rw [size_push']; exact Nat.lt_succ_of_lt (Heap.lt_size e))]
    exact Heap.get?_push_of_some _ e
  obtain ⟨e9, hat⟩ := sortedHeap_at (out := out) hoL
  let N : Hp := fun b => if b = h'.objs.size then some (.lst ((out.toList.map adr).map V.ref)) else if b ∈ as then some (.tup [.int (val2 h' (.ref b)).1, .int (val2 h' (.ref b)).2]) else none
  have hN0 : N h'.objs.size = some (.lst ((out.toList.map adr).map V.ref)) := if_pos rfl
  have hN1 : ∀ a ∈ as, N a = some (.tup [.int (val2 h' (.ref a)).1, .int (val2 h' (.ref a)).2]) := fun a ha => by
    show (if a = h'.objs.size then _ else _) = _
    rw [if_neg (Nat.ne_of_lt (hab a ha).2), if_pos ha]
  have hlen : (out.toList.map adr).length = ks.length := by
    rw [List.length_map, hperm.length_eq, List.length_map]
    omega
  have hNp : ∀ b u, N b = some u → s1.heap.objs.size ≤ b := fun b u e => by
    have e : (if b = h'.objs.size then some (HO.lst ((out.toList.map adr).map V.ref)) else if b ∈ as then some (.tup [.int (val2 h' (.ref b)).1, .int (val2 h' (.ref b)).2]) else none) = some u := e
    split at e
    · rename_i hb
      rw [hb]
      exact Nat.le_of_succ_le hle
    · split at e
      · rename_i hb
        exact (hab b hb).1
      · cases e
  have Ifin : Inv X pins σ (both N H1) { s1 with heap := sortedHeap (h'.push (seqObj "list" (as.map Value.ref).toArray 0)) h'.objs.size (as.map Value.ref) out, toks := tk } := by
    refine I1.laidAll (fun b u e => hfin b u (Nat.ne_of_lt (Nat.lt_of_lt_of_le (Heap.lt_size e) (Nat.le_of_succ_le hle))) (hkeep b u e)) hNp fun b u e => ?_
    have e : (if b = h'.objs.size then some (HO.lst ((out.toList.map adr).map V.ref)) else if b ∈ as then some (.tup [.int (val2 h' (.ref b)).1, .int (val2 h' (.ref b)).2]) else none) = some u := e
    split at e
    · rename_i hb
      cases e
      rw [hb]
      refine ⟨by rw [List.length_map, hlen, hlk]; exact hvz, out.toList, e9, ?_, by rw [hat]⟩
      have key : ∀ l : List Addr, Vals (l.map V.ref) (l.map Value.ref) := fun l => by
        induction l with
        | nil => exact .nil
        | cons a l ih => exact .cons rfl ih
      have := key (out.toList.map adr)
      rw [hadr] at this
      exact this
    · split at e
      · rename_i hb0 hb
        cases e
        obtain ⟨j, hj⟩ := List.getElem?_of_mem hb
        obtain ⟨q, _, hq⟩ := h2 j b hj
        rw [is2_val hq]
        obtain ⟨a, t, u, ob, n, e1, g, c, dt⟩ := hq
        cases e1
        exact ⟨Nat.le_of_lt (small1000 (by simp)), [.int q.1 t, .int q.2 u], .cons ⟨t, rfl⟩ (.cons ⟨u, rfl⟩ .nil), ob, hfin _ _ hb0 g, c, n, dt⟩
      · cases e
  refine ⟨.ref h'.objs.size, both N H1, Ifin, rfl, q h'.objs.size (out.toList.map adr) (both N H1) (both_same fun b u e => I1.hok.fresh (hNp b u e)) (I1.hok.fresh (by omega)) (both_new hN0) ⟨by rw [hlen, ssort_len], fun i a qq e1 e2 => ?_⟩⟩
  rw [List.getElem?_map] at e1
  cases ev : out.toList[i]? with
  | none => rw [ev] at e1; cases e1
  | some v =>
    rw [ev] at e1
    cases e1
    obtain ⟨a, ha, rfl⟩ := href v (List.mem_of_getElem? ev)
    rw [← hout, List.getElem?_map, ev] at e2
    cases e2
    exact both_new (hN1 a ha)
end
end L2
end

section
/-! Tightwood, the mathematics of words: bits as lists of truths, their worth, how many are true, where they are. -/
namespace TW
end TW
end

section
/-! Tightwood, the mathematics of rows: words of 32, blocks of 256, counts ahead. -/
namespace TW
end TW
end

section
/-! Tightwood, the mathematics of rows: words told as signs again. -/
namespace TW
end TW
end

section
/-! Tightwood, the mathematics of counts: places of a bit, word by word. -/
namespace TW
end TW
end

section
set_option Elab.async false
set_option linter.all false
/-! How many texts of m signs lead from k open knots to none; the first one of each even row is the count of woods. -/
namespace TW
end TW
end

section
set_option Elab.async false
set_option linter.all false
/-! Rows whose heights stay within a cap. -/
namespace TW
end TW
end

section
set_option Elab.async false
set_option linter.all false
/-! Woods by the depths of their knots; their rows; their numbers. -/
namespace TW
end TW
end

section
set_option Elab.async false
set_option linter.all false
/-! A number leads to its row; woods beside or upon one another. -/
namespace TW
end TW
end

section
set_option Elab.async false
set_option linter.all false
/-! The next row. -/
namespace TW
/-- the height behind a beginning -/
def hN : Nat → List Bool → Nat
  | h, [] => h
  | h, false :: s => hN (h - 1) s
  | h, true :: s => hN (h + 1) s
end TW
end

section
set_option linter.all false
/-! Numbers as rows of signs, the greatest first; how many are needed. -/
namespace TW
/-- the k lowest bits of N, the greatest first -/
def pb (N k : Nat) : List Bool := (List.range k).map fun i => decide (N / 2 ^ (k - 1 - i) % 2 = 1)
end TW
end

set_option Elab.async false
set_option linter.all false
set_option maxRecDepth 100000
set_option maxHeartbeats 4000000
local macro_rules | `(tactic| walk_at "rd") => `(tactic| repeat (first | with_reducible refine L2.r_seq ?_ | with_reducible refine L2.r_next ?_ | with_reducible refine L2.r_asg ?_ | with_reducible refine L2.r_gname ?_ | with_reducible refine L2.r_ret ?_ | with_reducible refine L2.r_retN ?_ | with_reducible refine L2.r_drop ?_ | with_reducible refine L2.r_ifs ?_ | with_reducible refine L2.r_test ?_ | with_reducible refine L2.r_tB ?_ | with_reducible refine L2.r_not ?_ | with_reducible refine L2.r_and ?_ | with_reducible refine L2.r_or ?_ | with_reducible refine L2.r_isN ?_ | with_reducible refine L2.r_notN ?_ | with_reducible refine L2.r_op ?_ | with_reducible refine L2.r_un ?_ | with_reducible refine L2.r_rU ?_ | with_reducible refine L2.r_c ?_ | with_reducible refine L2.r_rI0 ?_ | with_reducible refine L2.r_ipI ?_ | with_reducible refine L2.r_bl ?_ | with_reducible refine L2.r_int ?_ | with_reducible refine L2.r_nil ?_ | with_reducible refine L2.r_cons ?_ | with_reducible refine L2.r_call ?_ | with_reducible refine L2.r_cB ?_ | with_reducible refine L2.r_lst ?_ | with_reducible refine L2.r_tup ?_ | with_reducible refine L2.r_bm ?_ | with_reducible refine L2.r_bm0 ?_ | with_reducible refine L2.r_sl ?_ | with_reducible refine L2.r_nopart ?_ | with_reducible refine L2.r_part ?_ | with_reducible refine L2.r_for ?_ | with_reducible refine L2.r_rng1 ?_ | with_reducible refine L2.r_rng2 ?_ | with_reducible refine L2.r_rng3 ?_ | with_reducible refine L2.r_ilist ?_ | with_reducible refine L2.r_itup ?_ | with_reducible refine L2.r_istr ?_ | with_reducible refine L2.r_lc ?_ | with_reducible refine L2.r_yes ?_ | with_reducible refine L2.r_ifE ?_ | with_reducible refine L2.r_chain ?_ | with_reducible refine L2.r_andV ?_ | with_reducible refine L2.r_orV ?_ | with_reducible refine L2.r_notV ?_ | with_reducible refine L2.r_fld ?_ | with_reducible refine L2.r_sfld ?_ | with_reducible refine L2.r_make ?_ | with_reducible refine L2.r_meth ?_ | with_reducible refine L2.r_rev ?_ | with_reducible refine L2.r_cBK ?_ | with_reducible refine L2.r_izip ?_ | with_reducible refine L2.r_ienum ?_ | with_reducible refine L2.r_lc2 ?_ | with_reducible refine L2.r_ienumS ?_ | with_reducible refine L2.r_rngD ?_ | with_reducible refine L2.r_dnew ?_ | with_reducible refine L2.r_binit ?_ | with_reducible refine L2.r_fstr ?_ | with_reducible refine L2.r_splace ?_ | with_reducible refine L2.r_place ?_ | with_reducible refine L2.r_raiseI ?_ | with_reducible refine L2.r_gsub ?_ | with_reducible refine L2.r_lrng ?_ | with_reducible refine L2.r_dzipX ?_ | with_reducible refine L2.r_stepX ?_ | with_reducible refine L2.r_sortI ?_ | with_reducible refine L2.r_makeK ?_ | with_reducible refine L2.r_mod (by decide) ?_ | with_reducible refine L2.r_shr (by decide) ?_ | with_reducible refine L2.r_div (by decide) (by decide) ?_ | with_reducible refine L2.r_mulR (by decide) (by decide) ?_ | with_reducible refine L2.r_mulL (by decide) (by decide) ?_ | with_reducible refine L2.r_rEq rfl ?_ | with_reducible refine L2.r_rNe rfl ?_ | with_reducible refine L2.iteT ?_ | with_reducible refine L2.iteF ?_ | with_reducible refine L2.iteNT ?_ | with_reducible refine L2.iteNF ?_ | refine L2.r_var rfl ?_ | refine L2.r_aug rfl ?_ | dsimp only))
namespace TK
open PySem L2 TW
def top (i : Nat) : Stmt := PySem.Challenge.pw_tightwood_k62_shortcuts_laid.main.body.getD i (.Pass ⟨0, 0, 0, 0⟩)
abbrev s_NoOrder_init : Stmt := inClass (top 2) 0
theorem sc_NoOrder_init : FnScope ["self", "place"] ["self", "place"] (defScope s_NoOrder_init) := ⟨rfl, rfl, rfl, by decide +kernel, rfl, by decide +kernel, by decide +kernel⟩
abbrev s_is_whole : Stmt := top 4
theorem sc_is_whole : FnScope ["thing"] ["thing"] (defScope s_is_whole) := ⟨rfl, rfl, rfl, by decide +kernel, rfl, by decide +kernel, by decide +kernel⟩
abbrev s_is_within : Stmt := top 5
theorem sc_is_within : FnScope ["thing", "low", "high"] ["thing", "low", "high"] (defScope s_is_within) := ⟨rfl, rfl, rfl, by decide +kernel, rfl, by decide +kernel, by decide +kernel⟩
abbrev s_check_order : Stmt := top 7
theorem sc_check_order : FnScope ["order", "met", "place", "number"] ["order"] (defScope s_check_order) := ⟨rfl, rfl, rfl, by decide +kernel, rfl, by decide +kernel, by decide +kernel⟩
abbrev s_rounds_of : Stmt := top 8
theorem sc_rounds_of : FnScope ["order", "rounds", "met", "least", "places", "place"] ["order"] (defScope s_rounds_of) := ⟨rfl, rfl, rfl, by decide +kernel, rfl, by decide +kernel, by decide +kernel⟩
abbrev s_shortcuts_of : Stmt := top 9
theorem sc_shortcuts_of : FnScope ["order", "step", "shortcuts", "places", "marked"] ["order", "step"] (defScope s_shortcuts_of) := ⟨rfl, rfl, rfl, by decide +kernel, rfl, by decide +kernel, by decide +kernel⟩
abbrev s_Shortcuts_init : Stmt := inClass (top 10) 0
theorem sc_Shortcuts_init : FnScope ["self", "order", "step"] ["self", "order", "step"] (defScope s_Shortcuts_init) := ⟨rfl, rfl, rfl, by decide +kernel, rfl, by decide +kernel, by decide +kernel⟩
abbrev s_Shortcuts_there : Stmt := inClass (top 10) 1
theorem sc_Shortcuts_there : FnScope ["self", "place"] ["self", "place"] (defScope s_Shortcuts_there) := ⟨rfl, rfl, rfl, by decide +kernel, rfl, by decide +kernel, by decide +kernel⟩
abbrev s_Shortcuts_shortcuts : Stmt := inClass (top 10) 3
theorem sc_Shortcuts_shortcuts : FnScope ["self"] ["self"] (defScope s_Shortcuts_shortcuts) := ⟨rfl, rfl, rfl, by decide +kernel, rfl, by decide +kernel, by decide +kernel⟩
abbrev s_law_cell_at : Stmt := top 12
theorem sc_law_cell_at : FnScope ["_law_script", "_law_k"] ["_law_script", "_law_k"] (defScope s_law_cell_at) := ⟨rfl, rfl, rfl, by decide +kernel, rfl, by decide +kernel, by decide +kernel⟩
abbrev s_law_whole : Stmt := top 13
theorem sc_law_whole : FnScope ["_law_found"] ["_law_found"] (defScope s_law_whole) := ⟨rfl, rfl, rfl, by decide +kernel, rfl, by decide +kernel, by decide +kernel⟩
abbrev s_law_mixed : Stmt := top 14
theorem sc_law_mixed : FnScope ["_law_cell", "_law_k", "_law_once"] ["_law_cell", "_law_k"] (defScope s_law_mixed) := ⟨rfl, rfl, rfl, by decide +kernel, rfl, by decide +kernel, by decide +kernel⟩
abbrev s_law_digits : Stmt := top 15
theorem sc_law_digits : FnScope ["_law_script", "_law_at", "_law_many", "_law_left", "_law_found", "_law_k"] ["_law_script", "_law_at", "_law_many"] (defScope s_law_digits) := ⟨rfl, rfl, rfl, by decide +kernel, rfl, by decide +kernel, by decide +kernel⟩
abbrev s_law_order : Stmt := top 16
theorem sc_law_order : FnScope ["_law_digits_here", "_law_found", "_law_left", "_law_digit", "_law_at"] ["_law_digits_here"] (defScope s_law_order) := ⟨rfl, rfl, rfl, by decide +kernel, rfl, by decide +kernel, by decide +kernel⟩
abbrev s_law_turned : Stmt := top 17
theorem sc_law_turned : FnScope ["_law_order_here", "_law_number", "_law_many", "_law_k", "_law_found"] ["_law_order_here", "_law_number"] (defScope s_law_turned) := ⟨rfl, rfl, rfl, by decide +kernel, rfl, by decide +kernel, by decide +kernel⟩
theorem lc_law_turned_0 : LcScope ["_law_order_here", "_law_number", "_law_many", "_law_k", "_law_found"] (defScope s_law_turned) { kind := .function, names := [(".0", .local), ("_law_k", .local), ("_law_many", .free), ("_law_number", .free)], isGenerator := false, isCoroutine := false, more := [] } "_law_k" ["_law_k", "_law_many", "_law_number"] [2, 1] := ⟨rfl, by decide +kernel, by decide +kernel, by decide +kernel, by decide +kernel, rfl, rfl, rfl, by decide +kernel⟩
abbrev s_law_great : Stmt := top 18
theorem sc_law_great : FnScope ["_law_number", "_law_many"] ["_law_number"] (defScope s_law_great) := ⟨rfl, rfl, rfl, by decide +kernel, rfl, by decide +kernel, by decide +kernel⟩
theorem lc_law_great_0 : LcScope ["_law_number", "_law_many"] (defScope s_law_great) { kind := .function, names := [(".0", .local), ("_law_k", .local), ("_law_many", .free)], isGenerator := false, isCoroutine := false, more := [] } "_law_k" ["_law_k", "_law_many"] [1] := ⟨rfl, by decide +kernel, by decide +kernel, by decide +kernel, by decide +kernel, rfl, rfl, rfl, by decide +kernel⟩
abbrev s_law_jumps : Stmt := top 19
theorem sc_law_jumps : FnScope ["_law_order_here", "_law_pace", "_law_found", "_law_met", "_law_start", "_law_around", "_law_here", "_law_k", "_law_marks"] ["_law_order_here", "_law_pace"] (defScope s_law_jumps) := ⟨rfl, rfl, rfl, by decide +kernel, rfl, by decide +kernel, by decide +kernel⟩
theorem lc_law_jumps_0 : LcScope ["_law_order_here", "_law_pace", "_law_found", "_law_met", "_law_start", "_law_around", "_law_here", "_law_k", "_law_marks"] (defScope s_law_jumps) { kind := .function, names := [(".0", .local), ("_law_k", .local), ("_law_around", .free), ("_law_pace", .free)], isGenerator := false, isCoroutine := false, more := [] } "_law_k" ["_law_k", "_law_around", "_law_pace"] [5, 1] := ⟨rfl, by decide +kernel, by decide +kernel, by decide +kernel, by decide +kernel, rfl, rfl, rfl, by decide +kernel⟩
abbrev s_law : Stmt := top 20
theorem sc_law : FnScope ["_law_script", "_law_many", "_law_number", "_law_order_here", "_law_pace", "_law_handed", "_law_ways", "_law_due", "_law_found", "_law_one"] ["_law_script"] (defScope s_law) := ⟨rfl, rfl, rfl, by decide +kernel, rfl, by decide +kernel, by decide +kernel⟩
theorem lc_law_0 : LcScope ["_law_script", "_law_many", "_law_number", "_law_order_here", "_law_pace", "_law_handed", "_law_ways", "_law_due", "_law_found", "_law_one"] (defScope s_law) { kind := .function, names := [(".0", .local), ("_law_k", .local), ("_law_ways", .free)], isGenerator := false, isCoroutine := false, more := [] } "_law_k" ["_law_k", "_law_ways"] [6] := ⟨rfl, by decide +kernel, by decide +kernel, by decide +kernel, by decide +kernel, rfl, rfl, rfl, by decide +kernel⟩
/-- ints -/
abbrev nV (ns : List Nat) : List V := ns.map fun n : Nat => V.int n
theorem few {n : Nat} (h : n ≤ 1000) : n ≤ sizeLine := Nat.le_of_lt (small1000 h)
theorem small20000 {n : Nat} (h : n ≤ 100000) : n < sizeLine := Nat.lt_of_le_of_lt h (by decide)
theorem at_lt {α : Type} {l : List α} {i : Nat} {b : α} (h : l[i]? = some b) : i < l.length := (List.getElem?_eq_some_iff.mp h).1

/-- a thing of any of the kinds that are handed in -/
def isI : V → Bool
  | .int _ => true
  | _ => false
def inI : V → Int → Int → Bool
  | .int i, lo, hi => decide (lo ≤ i) && decide (i ≤ hi)
  | _, _, _ => false
theorem inI_int (i lo hi : Int) : inI (.int i) lo hi = (decide (lo ≤ i) && decide (i ≤ hi)) := rfl
def Any (K : PySem.W.Frag) (H : Hp) (x : V) : Prop := ∃ t b1 b2, TyOf K H x t ∧ PySem.W.kitOne K t (.type "int") = some b1 ∧ PySem.W.kitOne K t (.type "bool") = some b2 ∧ (b1 && !b2) = isI x
section
variable {K : PySem.W.Frag} {H H' : Hp}
theorem any_int (i : Int) : Any K H (.int i) := ⟨_, true, false, .int i, by rfl, by rfl, rfl⟩
theorem TyOf.same {x : V} {t : Value} (s : Same H H') (h : TyOf K H x t) : TyOf K H' x t := by
  cases h with
  | non => exact .non
  | bl b => exact .bl b
  | int i => exact .int i
  | str z => exact .str z
  | flt z => exact .flt z
  | lst e => exact .lst (s _ _ e)
  | frz e => exact .frz (s _ _ e)
  | tup e => exact .tup (s _ _ e)
  | dK e => exact .dK (s _ _ e)
  | dT e => exact .dT (s _ _ e)
  | ins e cl ha hn htk hm => exact .ins (s _ _ e) cl ha hn htk hm
theorem Any.same {x : V} (s : Same H H') (h : Any K H x) : Any K H' x := let ⟨t, b1, b2, h1, r⟩ := h; ⟨t, b1, b2, TyOf.same s h1, r⟩
theorem isI_of {x : V} (h : isI x = true) : ∃ i, x = .int i := by cases x <;> first | exact ⟨_, rfl⟩ | cases h
theorem inI_of {x : V} {lo hi : Int} (h : inI x lo hi = true) : ∃ i, x = .int i ∧ lo ≤ i ∧ i ≤ hi := by
  cases x <;> first | cases h | skip
  rename_i i
  have h : (decide (lo ≤ i) && decide (i ≤ hi)) = true := h
  rw [Bool.and_eq_true] at h
  exact ⟨i, rfl, of_decide_eq_true h.1, of_decide_eq_true h.2⟩
end
theorem same_made {H5 H6 : Hp} {xb dxb C : Addr} (nb1 : H5 xb = none) (nb2 : H5 dxb = none) (s6 : SameBut xb (upd (upd H5 dxb (.own xb)) xb (.ins C dxb [])) H6) : Same H5 H6 := fun b u e => by
  have e1 : b ≠ xb := ne_of_none e nb1
  have e2 : b ≠ dxb := ne_of_none e nb2
  exact s6 _ _ e1 (by rw [upd_ne e1, upd_ne e2]; exact e)
theorem push_same {H H1 : Hp} {a : Addr} {o : HO} (s : Same H H1) (h : H a = none) : Same H (upd H1 a o) := fun b u e => by
  rw [upd_ne (ne_of_none e h)]
  exact s _ _ e
theorem small12 {i : Nat} (h : i ≤ 10000) : ((i : Int)).natAbs < 10 ^ 12 := by
  have : (10000 : Nat) < 10 ^ 12 := by decide
  omega
/-- this place of an order is as it must be, seen from the left -/
def Good1 (xs : List V) (k : Nat) : Prop := ∃ n : Nat, xs[k]? = some (.int n) ∧ n < xs.length ∧ ∀ j, j < k → xs[j]? ≠ some (.int n)
def FaultP (xs : List V) (k : Nat) : Prop := k < xs.length ∧ ¬ Good1 xs k ∧ ∀ j, j < k → Good1 xs j
def GoodP (xs : List V) : Prop := ∀ j, j < xs.length → Good1 xs j
theorem faultP_good {xs : List V} {k : Nat} (h1 : FaultP xs k) (h2 : GoodP xs) : False := h1.2.1 (h2 k h1.1)
/-- which numbers stood ahead of a place -/
def Met (xs : List V) (k : Nat) (ms : List Bool) : Prop := ms.length = xs.length ∧ ∀ (i : Nat) b, ms[i]? = some b → (b = true ↔ ∃ j, j < k ∧ xs[j]? = some (.int i))
theorem met_none (xs : List V) : Met xs 0 (List.replicate xs.length false) := by
  refine ⟨List.length_replicate, fun i b h => ?_⟩
  rw [List.getElem?_replicate] at h
  split at h
  · cases h
    exact ⟨fun z => by (cases z), fun ⟨j, hj, _⟩ => absurd hj (Nat.not_lt_zero _)⟩
  · cases h
theorem met_next {xs : List V} {k n : Nat} {ms : List Bool} (h : Met xs k ms) (hk : xs[k]? = some (.int n)) : Met xs (k + 1) (ms.set n true) := by
  refine ⟨by rw [List.length_set]; exact h.1, fun i b hb => ?_⟩
  rw [List.getElem?_set] at hb
  by_cases e : n = i
  · rw [if_pos e] at hb
    split at hb
    · cases hb
      exact ⟨fun _ => ⟨k, Nat.lt_succ_self _, by rw [hk, e]⟩, fun _ => rfl⟩
    · cases hb
  · rw [if_neg e] at hb
    rw [h.2 i b hb]
    constructor
    · rintro ⟨j, hj, hx⟩
      exact ⟨j, by omega, hx⟩
    · rintro ⟨j, hj, hx⟩
      rcases Nat.lt_or_eq_of_le (Nat.le_of_lt_succ hj) with h1 | h1
      · exact ⟨j, h1, hx⟩
      · rw [h1, hk] at hx
        have := V.int.inj (Option.some.inj hx)
        omega
theorem bl_set (ms : List Bool) (n : Nat) (b : Bool) : (ms.map V.bl).set n (.bl b) = (ms.set n b).map V.bl := by rw [List.map_set]
theorem bl_rep (n : Nat) : (List.replicate n [V.bl false]).flatten = (List.replicate n false).map V.bl := by
  induction n with
  | zero => rfl
  | succ n ih => rw [List.replicate_succ, List.flatten_cons, ih, List.replicate_succ]; rfl
theorem bl_at {ms : List Bool} {i : Nat} {b : Bool} (h : ms[i]? = some b) : (ms.map V.bl)[i]? = some (.bl b) := by
  rw [List.getElem?_map, h]
  rfl
/-- a refusal with NoOrder at its place -/
def NoOd (C : Addr) (H : Hp) (E : XK) (xs : List V) : Prop := ∀ k : Nat, FaultP xs k → ∀ dx H', Same H H' → H dx = none → H' dx = some (.xd [("place", .int k)]) → E (.ref C) (some dx) H'

abbrev kvJ (J : List (Nat × Nat)) : List (Key × V) := J.map fun p => ((Sum.inl (p.1 : Int) : Key), V.int p.2)
theorem val_kvJ (x : Nat) : ∀ J : List (Nat × Nat), valV (kvJ J) (.inl (x : Int)) = (look J x).map fun q : Nat => V.int q
  | [] => rfl
  | p :: J => by
    have ih := val_kvJ x J
    rw [show kvJ (p :: J) = ((Sum.inl (p.1 : Int) : Key), V.int p.2) :: kvJ J from rfl]
    by_cases e : p.1 = x
    · rw [valV_pos (by rw [e])]
      unfold look
      rw [List.find?_cons, decide_eq_true e]
      rfl
    · rw [valV_neg (fun z => e (by have := Sum.inl.inj z; omega)), ih]
      unfold look
      rw [List.find?_cons, decide_eq_false e]
theorem put_kvJ {J : List (Nat × Nat)} {k v : Nat} (h : k ∉ J.map (·.1)) : putK (kvJ J) (.inl (k : Int)) (.int v) = kvJ (J ++ [(k, v)]) := by
  rw [putK_new _ (by rw [val_kvJ, look_none h]; rfl)]
  show _ = List.map _ _
  rw [List.map_append]
  rfl
theorem merge_kvJ : ∀ (B A : List (Nat × Nat)), ((A ++ B).map (·.1)).Nodup → mergeK (kvJ A) (kvJ B) = kvJ (A ++ B)
  | [], A, _ => by rw [List.append_nil]; rfl
  | (k, v) :: B, A, h => by
    have hk : k ∉ A.map (·.1) := fun hm => by
      rw [List.map_append, List.nodup_append] at h
      exact h.2.2 k hm k (by simp) rfl
    show mergeK (putK (kvJ A) (.inl (k : Int)) (.int v)) (kvJ B) = _
    rw [put_kvJ hk, merge_kvJ B (A ++ [(k, v)]) (by rw [List.append_assoc]; exact h), List.append_assoc]
    rfl
theorem mrg_kvJ : ∀ (ks ys : List Nat) (A : List (Nat × Nat)), (A.map (·.1) ++ ks).Nodup → ks.length = ys.length → mrgV (kvJ A) (ks.map fun n : Nat => (n : Int)) (nV ys) = kvJ (A ++ ks.zip ys)
  | [], _, A, _, _ => by rw [List.zip_nil_left, List.append_nil]; rfl
  | k :: ks, [], A, _, h => by cases h
  | k :: ks, y :: ys, A, h, hl => by
    have hk : k ∉ A.map (·.1) := fun hm => by
      rw [List.nodup_append] at h
      exact h.2.2 k hm k (by simp) rfl
    show mrgV (putK (kvJ A) (.inl (k : Int)) (.int y)) (ks.map fun n : Nat => (n : Int)) (nV ys) = _
    rw [put_kvJ hk, mrg_kvJ ks ys (A ++ [(k, y)]) (by rw [List.map_append, List.append_assoc]; exact h) (Nat.succ.inj hl), List.append_assoc]
    rfl
theorem fm_some {α β : Type} {f : α → Option β} {g : α → β} : ∀ {l : List α}, (∀ x ∈ l, f x = some (g x)) → l.filterMap f = l.map g
  | [], _ => rfl
  | x :: l, h => by
    rw [List.filterMap_cons, h x List.mem_cons_self, List.map_cons]
    show g x :: l.filterMap f = _
    rw [fm_some fun y hy => h y (List.mem_cons_of_mem _ hy)]
theorem pick_nV {st : Nat} (hs : 0 < st) (R : List Nat) : pick st (nV R) = nV (marks st R) := by
  unfold pick marks
  rw [List.filterMap_map, List.length_map, fm_some (g := fun k => V.int (R[k * st]?.getD 0 : Nat)) fun k hk => ?_]
  · rw [show nV ((List.range ((R.length + st - 1) / st)).map fun k => R[k * st]?.getD 0) = ((List.range ((R.length + st - 1) / st)).map fun k => R[k * st]?.getD 0).map (fun n : Nat => V.int n) from rfl, List.map_map]
    rfl
  · have hl := (mul_div_lt hs).mp (List.mem_range.mp hk)
    show (R.map fun n : Nat => V.int n)[k * st]? = _
    rw [List.getElem?_map, List.getElem?_eq_getElem hl]
    rfl
theorem cut_last (xs : List V) : cutV xs (some (-1)) none = xs.drop (xs.length - 1) := by
  have e : (if (-1 : Int) < 0 then ((-1 : Int) + (xs.length : Int)).toNat else min (-1 : Int).toNat xs.length) = xs.length - 1 := by rw [if_pos (by decide)]; omega
  show List.take (xs.length - (if (-1 : Int) < 0 then ((-1 : Int) + (xs.length : Int)).toNat else min (-1 : Int).toNat xs.length)) (List.drop (if (-1 : Int) < 0 then ((-1 : Int) + (xs.length : Int)).toNat else min (-1 : Int).toNat xs.length) xs) = _
  rw [e, List.take_of_length_le (by rw [List.length_drop]; omega)]
theorem cut_init (xs : List V) : cutV xs none (some (-1)) = xs.take (xs.length - 1) := by
  have e : (if (-1 : Int) < 0 then ((-1 : Int) + (xs.length : Int)).toNat else min (-1 : Int).toNat xs.length) = xs.length - 1 := by rw [if_pos (by decide)]; omega
  show List.take ((if (-1 : Int) < 0 then ((-1 : Int) + (xs.length : Int)).toNat else min (-1 : Int).toNat xs.length) - 0) (List.drop 0 xs) = _
  rw [e, Nat.sub_zero, List.drop_zero]
theorem turn_nV (l : List Nat) : cutV (nV l) (some (-1)) none ++ cutV (nV l) none (some (-1)) = nV (rot l) := by
  rw [cut_last, cut_init, List.length_map]
  unfold rot
  show _ = List.map _ _
  rw [List.map_append, List.map_drop, List.map_take]
theorem vN {a b : Nat} : V.int (a : Int) = V.int (b : Int) ↔ a = b := ⟨fun h => by have := V.int.inj h; omega, fun h => by rw [h]⟩
theorem nV_at {l : List Nat} {i n : Nat} (h : l[i]? = some n) : (nV l)[i]? = some (.int n) := by
  rw [List.getElem?_map, h]
  rfl
theorem nV_snoc (l : List Nat) (n : Nat) : nV l ++ [V.int n] = nV (l ++ [n]) := by
  show _ = List.map _ _
  rw [List.map_append]
  rfl
theorem nx_nV {ns : List Nat} {x : Nat} (h : x < ns.length) : (nV ns)[x]? = some (.int (nx ns x)) := nV_at (at_nx h)
def RsAt (H : Hp) (rs : List Addr) (Rs : List (List Nat)) : Prop := rs.length = Rs.length ∧ ∀ (i : Nat) r R, rs[i]? = some r → Rs[i]? = some R → H r = some (.lst (nV R))
theorem RsAt.same {H H' : Hp} {rs : List Addr} {Rs : List (List Nat)} (h : RsAt H rs Rs) (s : Same H H') : RsAt H' rs Rs := ⟨h.1, fun i r R e1 e2 => s _ _ (h.2 i r R e1 e2)⟩
theorem RsAt.upd {H : Hp} {rs : List Addr} {Rs : List (List Nat)} {a : Addr} {o : HO} (h : RsAt H rs Rs) (hn : ∀ r ∈ rs, r ≠ a) : RsAt (upd H a o) rs Rs := ⟨h.1, fun i r R e1 e2 => by
  rw [upd_ne (hn r (List.mem_of_getElem? e1))]
  exact h.2 i r R e1 e2⟩
theorem RsAt.is {H : Hp} {rs : List Addr} {Rs : List (List Nat)} (h : RsAt H rs Rs) {r : Addr} (hr : r ∈ rs) : ∃ R ∈ Rs, H r = some (.lst (nV R)) := by
  obtain ⟨i, hi⟩ := List.getElem?_of_mem hr
  have hl := (List.getElem?_eq_some_iff.mp hi).1
  rw [h.1] at hl
  exact ⟨Rs[i], List.getElem_mem hl, h.2 i r _ hi (List.getElem?_eq_getElem hl)⟩
theorem RsAt.snoc {H : Hp} {rs : List Addr} {Rs : List (List Nat)} {a : Addr} {R : List Nat} (h : RsAt H rs Rs) (ha : H a = some (.lst (nV R))) : RsAt H (rs ++ [a]) (Rs ++ [R]) := by
  refine ⟨by rw [List.length_append, List.length_append, h.1]; rfl, fun i r R' e1 e2 => ?_⟩
  by_cases hi : i < rs.length
  · rw [List.getElem?_append_left hi] at e1
    rw [List.getElem?_append_left (by rw [← h.1]; exact hi)] at e2
    exact h.2 i r R' e1 e2
  · rw [List.getElem?_append_right (by omega)] at e1
    rw [List.getElem?_append_right (by rw [← h.1]; omega), ← h.1] at e2
    have hl := (List.getElem?_eq_some_iff.mp e1).1
    have e0 : i - rs.length = 0 := by simp at hl; omega
    rw [e0] at e1 e2
    cases e1
    cases e2
    exact ha
def lenAt (H : Hp) (a : Addr) : Nat := match H a with | some (.lst xs) => xs.length | _ => 0
theorem lenAt_of {H : Hp} {a : Addr} {xs : List V} (h : H a = some (.lst xs)) : lenAt H a = xs.length := by unfold lenAt; rw [h]

structure Z_Shortcuts (K : PySem.W.Frag) (C : Addr) : Prop where
  cl : Cls K C
  n_onward : NoAttr K C "onward"
  n_leaps : NoAttr K C "leaps"
structure Txt (K : PySem.W.Frag) (mg : Str → Option Value) (C_WoodError : Addr) (C_NoOrder : Addr) : Prop where
  g_WoodError : mg "WoodError" = some (.ref C_WoodError)
  g_NoOrder : mg "NoOrder" = some (.ref C_NoOrder)
  ex_WoodError : PySem.W.excIn K C_WoodError veMro "ValueError.__new__" = true
  bg_WoodError : PySem.W.specialIn K (.ref C_WoodError) "__getattribute__" = some (some (.builtin "type.__getattribute__"))
  br_WoodError : PySem.W.readsIn K C_WoodError (.type "type") = true
  bi_WoodError : PySem.W.findCls K (.ref C_WoodError) (.type "type") "__init__" = some (.val (.builtin "ValueError.__init__"))
  sa_NoOrder : PySem.W.findIn K (.ref C_NoOrder) "__setattr__" = some (some (.builtin "object.__setattr__"))
  pl_NoOrder : PySem.W.findIn K (.ref C_NoOrder) "place" = some none
  ga_NoOrder : PySem.W.findIn K (.ref C_NoOrder) "__getattribute__" = some (some (.builtin "BaseException.__getattribute__"))
  gx_NoOrder : PySem.W.findIn K (.ref C_NoOrder) "__getattr__" = some none
  ca_NoOrder : PySem.W.findIn K (.ref C_NoOrder) "__class__" = some (some (.builtin "object.__class__"))
  sp_NoOrder : PySem.W.specialIn K (.builtin "object.__class__") "__get__" = some (some (.builtin "getset_descriptor.__get__"))
  tk_NoOrder : PySem.W.takesIn K (.builtin "object.__class__") = some true
  mo_NoOrder : PySem.W.mroIn K C_NoOrder (.type "object") = some true
  mb_NoOrder : PySem.W.mroIn K C_NoOrder (.type "BaseException") = some true
  em_NoOrder : PySem.W.exmOne K (.ref C_NoOrder) (.ref C_WoodError) = some true
  em2_NoOrder : PySem.W.exmOne K (.ref C_NoOrder) (.ref C_NoOrder) = some true
  n_range : mg "range" = none
  n_len : mg "len" = none
  n_int : mg "int" = none
  n_bool : mg "bool" = none
  n_isinstance : mg "isinstance" = none
  n_list : mg "list" = none
  n_tuple : mg "tuple" = none
  n_zip : mg "zip" = none
  n_enumerate : mg "enumerate" = none
  n_dict : mg "dict" = none
  n_abs : mg "abs" = none
  n_sorted : mg "sorted" = none
  ow_NoOrder : ∃ f, OwnX K C_WoodError C_NoOrder f
theorem Txt.bw {K : PySem.W.Frag} {mg : Str → Option Value} {C_WoodError : Addr} {C_NoOrder : Addr} (T : Txt K mg C_WoodError C_NoOrder) : BaseX K mg "WoodError" C_WoodError := ⟨T.g_WoodError, T.bg_WoodError, T.br_WoodError, T.bi_WoodError⟩
theorem Txt.k_NoOrder {K : PySem.W.Frag} {mg : Str → Option Value} {C_WoodError : Addr} {C_NoOrder : Addr} (T : Txt K mg C_WoodError C_NoOrder) : ExcK K C_NoOrder := ⟨T.ga_NoOrder, T.gx_NoOrder, T.ca_NoOrder, T.sp_NoOrder, T.tk_NoOrder, T.mo_NoOrder, T.mb_NoOrder⟩
section
variable {P : Program} {w : World} {K : PySem.W.Frag} {mg : Str → Option Value} {base : Heap} {C_Shortcuts C_WoodError C_NoOrder : Addr}
theorem ok_NoOrder_init {f : Addr} {fd : FuncData} (F : Fun K "__init__" "NoOrder.__init__" s_NoOrder_init f fd) (T : Txt K mg C_WoodError C_NoOrder) : FnOk P w K mg base CX0 1 f fd ["self", "place"] (spInit C_NoOrder) := by
  refine F.ok sc_NoOrder_init (fun vs H Q E h => ?_) (fun cdv A outer s H vs Q E hr h => ?_)
  · obtain ⟨e, i, rfl, _⟩ := h
    rfl
  · obtain ⟨e, i, rfl, he, hi, q⟩ := h
    obtain ⟨fo, O⟩ := T.ow_NoOrder
    refine ⟨_, (pss_cons (ps_expr (pe_binit T.bw rfl (pa_d (pv 0) (pa_d (pe_fstr (by decide) (pv 1)) pa_nil rfl) rfl)))
      (pss_one (ps_place (pv 0) (pv 1)))), ?_⟩
    walk_at "rd"
    refine ⟨hi, fun z => ?_⟩
    walk_at "rd"
    refine ⟨e, C_NoOrder, fo, none, z, rfl, he, O, ?_⟩
    walk_at "rd"
    refine ⟨e, _, C_NoOrder, fo, rfl, he, O, T.k_NoOrder, fun dx hd => ?_⟩
    walk_at "rd"
    exact q dx hd

def spWhole0 (K : PySem.W.Frag) : Sp := fun vs H Q _ => ∃ x, vs = [x] ∧ Any K H x ∧ Q (.bl (isI x)) H
theorem ok_is_whole {f : Addr} {fd : FuncData} (F : Fun K "is_whole" "is_whole" s_is_whole f fd) (T : Txt K mg C_WoodError C_NoOrder) : FnOk P w K mg base CX0 1 f fd ["thing"] (spWhole0 K) := by
  refine F.ok sc_is_whole (fun vs H Q E h => ?_) (fun cdv A outer s H vs Q E hr h => ?_)
  · obtain ⟨x, rfl, _⟩ := h
    rfl
  · obtain ⟨x, rfl, ⟨t, b1, b2, ty, k1, k2, e⟩, q⟩ := h
    refine ⟨_, (pss_one (ps_ret (pe_and (pe_callB call_isinst (by rfl) T.n_isinstance b_isinstance (pa_d (pv 0) (pa_d (pe_bltn (v := .ty "int") rfl T.n_int b_int rfl) pa_nil rfl) rfl)) (pe_one (pe_not (pe_callB call_isinst (by rfl) T.n_isinstance b_isinstance (pa_d (pv 0) (pa_d (pe_bltn (v := .ty "bool") rfl T.n_bool b_bool rfl) pa_nil rfl) rfl))))))), ?_⟩
    walk_at "rd"
    refine ⟨_, _, _, _, rfl, ty, k1, ?_⟩
    rw [← e] at q
    cases b1 with
    | false =>
      walk_at "rd"
      exact q
    | true =>
      walk_at "rd"
      refine ⟨_, _, _, _, rfl, ty, k2, ?_⟩
      walk_at "rd"
      exact q

def spWithin (K : PySem.W.Frag) : Sp := fun vs H Q _ => ∃ x lo hi, vs = [x, .int lo, .int hi] ∧ Any K H x ∧ Q (.bl (inI x lo hi)) H
theorem ok_is_within {f : Addr} {fd : FuncData} (F : Fun K "is_within" "is_within" s_is_within f fd) (T : Txt K mg C_WoodError C_NoOrder) (c_is_whole : Cal P w K mg base "is_whole" 1 ["thing"] (spWhole0 K)) : FnOk P w K mg base CX0 2 f fd ["thing", "low", "high"] (spWithin K) := by
  refine F.ok sc_is_within (fun vs H Q E h => ?_) (fun cdv A outer s H vs Q E hr h => ?_)
  · obtain ⟨x, lo, hi, rfl, _⟩ := h
    rfl
  · obtain ⟨x, lo, hi, rfl, ha, q⟩ := h
    refine ⟨_, (pss_one (ps_ret (pe_and (pe_fn c_is_whole (hr.mono (by decide : 1 ≤ _)) (pa_d (pv 0) pa_nil rfl)) (pe_one (pe_chain op_le op_le (pv 1) (pv 0) (pv 2)))))), ?_⟩
    walk_at "rd"
    refine ⟨x, rfl, ha, ?_⟩
    cases hx : isI x with
    | false =>
      walk_at "rd"
      have : inI x lo hi = false := by cases x <;> first | rfl | cases hx
      rw [this] at q
      exact q
    | true =>
      obtain ⟨i, rfl⟩ := isI_of hx
      walk_at "rd"
      have e : inI (.int i) lo hi = (decide (lo ≤ i) && decide (i ≤ hi)) := rfl
      rw [e] at q
      refine iteP (fun h1 => ?_) (fun h1 => ?_)
      · walk_at "rd"
        rw [decide_eq_true h1] at q
        exact q
      · walk_at "rd"
        rw [decide_eq_false h1] at q
        exact q

def spCheck (K : PySem.W.Frag) (C : Addr) : Sp := fun vs H Q E => ∃ (a : Addr) (xs : List V), vs = [.ref a] ∧ H a = some (.lst xs) ∧ (∀ x ∈ xs, Any K H x) ∧ xs.length ≤ 5000 ∧ (GoodP xs → ∀ H', Same H H' → Q .non H') ∧ NoOd C H E xs
theorem ok_check_order {f : Addr} {fd : FuncData} (F : Fun K "check_order" "check_order" s_check_order f fd) (T : Txt K mg C_WoodError C_NoOrder) (x_NoOrder : ExcI P w K mg base "NoOrder" C_WoodError C_NoOrder 1 ["self", "place"]) (c_is_within : Cal P w K mg base "is_within" 2 ["thing", "low", "high"] (spWithin K)) : FnOk P w K mg base (CXE P w) 3 f fd ["order"] (spCheck K C_NoOrder) := by
  refine F.okE sc_check_order (fun vs H Q E h => ?_) (fun cdv A outer s H vs Q E hr h => ?_)
  · obtain ⟨a, xs, rfl, _⟩ := h
    rfl
  · obtain ⟨a, xs, rfl, ha, hA, hn, q, qe⟩ := h
    refine ⟨_, (pss_cons (ps_set (i := 1) sc_check_order.nd rfl (Or.inl rfl) (pe_op op_rep (pe_lst (pa_d pe_bl pa_nil rfl)) (pe_callB call_len_seq (by rfl) T.n_len b_len (pa_d (pv 0) pa_nil rfl))))
      (pss_one (ps_for PassesOwn.leaving rfl (pi_enum rfl T.n_enumerate (pa_d (pv 0) pa_nil rfl)) (pg_tup rfl (pgs_cons (pg_name (i := 2) sc_check_order.nd rfl (Or.inl rfl)) (pgs_cons (pg_name (i := 3) sc_check_order.nd rfl (Or.inl rfl)) pgs_nil)))
      (pss_cons (ps_if (PW.pt (pw_or (pt_not (pt_val (pe_fn c_is_within (hr.mono (by decide : 2 ≤ _)) (pa_d (pv 3) (pa_d pe_int (pa_d (pe_op op_sub (pe_callB call_len_seq (by rfl) T.n_len b_len (pa_d (pv 0) pa_nil rfl)) pe_int) pa_nil rfl) rfl) rfl)))) (pw_or1 (pt_val (pe_ix ix_list (pv 1) (pv 3) (fun _ _ => rfl)))))) (pss_one (ps_raiseI x_NoOrder (hr.mono (by decide : 2 ≤ _)) rfl (pa_d (pv 2) pa_nil rfl)))
      pss_nil)
      (pss_one (ps_asg pe_bl (pg_sub (pv 1) (pv 3) set_list))))))), ?_⟩
    walk_at "rd"
    refine ⟨few (by simp), fun p hp => ?_⟩
    have t0 := same_upd (o := .lst [V.bl false]) hp
    walk_at "rd"
    refine ⟨a, _, rfl, .inl (SqL.of (t0 _ _ ha)), ?_⟩
    walk_at "rd"
    refine ⟨p, xs.length, _, rfl, rfl, upd_same, by omega, by omega, Nat.le_of_lt (small20000 (by simp; omega)), fun m hm => ?_⟩
    have hm0 := t0.free hm
    have t1 := t0.trans (same_upd (o := .lst (List.replicate ((xs.length : Nat) : Int).toNat [V.bl false]).flatten) hm)
    have hM : (upd (upd H p (.lst [V.bl false])) m (.lst (List.replicate ((xs.length : Nat) : Int).toNat [V.bl false]).flatten)) m = some (.lst ((List.replicate xs.length false).map V.bl)) := by
      rw [upd_same, Int.toNat_natCast, bl_rep]
    generalize (upd (upd H p (.lst [V.bl false])) m (.lst (List.replicate ((xs.length : Nat) : Int).toNat [V.bl false]).flatten)) = H0 at *
    walk_at "rd"
    refine ⟨a, rfl, ⟨_, SqL.of (t1 _ _ ha)⟩, ?_⟩
    refine for_enum (xs := xs) (fun k σ H1 => (∃ (ms : List Bool) (v2 v3 : Option V), σ = [some (.ref a), some (.ref m), v2, v3] ∧ Met xs k ms ∧ H1 m = some (.lst (ms.map V.bl))) ∧ (∀ j, j < k → Good1 xs j) ∧ Same H H1) ?_ (fun k σ H1 _ h => SqL.of (h.2.2 _ _ ha)) ?_ ?_
    · exact ⟨⟨_, _, _, rfl, met_none xs, hM⟩, (fun j hj => absurd hj (Nat.not_lt_zero _)), t1⟩
    · rintro k x σ H1 t hx ⟨⟨ms, v2, v3, rfl, hms, hm1⟩, hg, s1⟩ ht
      have hk := at_lt hx
      have st := same_upd (o := .tup [.int k, x]) ht
      have hm2 := st _ _ hm1
      have s2 := s1.trans st
      generalize upd H1 t (.tup [.int k, x]) = H2 at *
      have sm : ((k : Nat) : Int).natAbs < 10 ^ 12 := small12 (by omega)
      have out : ∀ H3, Same H H3 → ¬ Good1 xs k → ∀ dx, H3 dx = none → E (.ref C_NoOrder) (some dx) (upd H3 dx (.xd [("place", .int (k : Nat))])) := fun H3 s3 hb dx hx3 =>
        qe k ⟨hk, hb, hg⟩ dx _ (s3.trans (same_upd hx3)) (s3.free hx3) upd_same
      walk_at "rd"
      refine ⟨a, _, rfl, .inl (SqL.of (s2 _ _ ha)), ?_⟩
      walk_at "rd"
      refine ⟨x, 0, _, rfl, (hA x (List.mem_of_getElem? hx)).same s2, ?_⟩
      cases hin : inI x 0 ((xs.length : Int) - 1) with
      | false =>
        walk_at "rd"
        refine ⟨_, rfl, sm, out H2 s2 ?_⟩
        rintro ⟨n, h1, h2, _⟩
        rw [hx] at h1
        obtain rfl := Option.some.inj h1
        rw [inI_int, decide_eq_true (by omega), decide_eq_true (by omega)] at hin
        cases hin
      | true =>
        obtain ⟨i, rfl, h0, h1⟩ := inI_of hin
        obtain ⟨n, rfl⟩ : ∃ n : Nat, i = (n : Int) := ⟨i.toNat, by omega⟩
        have hnl : n < xs.length := by omega
        obtain ⟨b, hb⟩ : ∃ b, ms[n]? = some b := ⟨_, List.getElem?_eq_getElem (by rw [hms.1]; exact hnl)⟩
        walk_at "rd"
        refine r_ixL (SqL.of hm2) (atI_nat (bl_at hb)) ?_
        cases b with
        | true =>
          walk_at "rd"
          refine ⟨_, rfl, sm, out H2 s2 ?_⟩
          rintro ⟨n', h1, h2, h3⟩
          rw [hx] at h1
          have e := V.int.inj (Option.some.inj h1)
          obtain ⟨j, hj, hxj⟩ := (hms.2 n true hb).mp rfl
          exact h3 j hj (by rw [hxj, e])
        | false =>
          walk_at "rd"
          refine r_setL hm2 rfl (by rw [List.length_map, hms.1]; exact hnl) ?_
          rw [bl_set]
          walk_at "rd"
          refine ⟨⟨_, _, _, rfl, met_next hms hx, upd_same⟩, fun j hj => ?_, push_same s2 hm0⟩
          rcases Nat.lt_or_eq_of_le (Nat.le_of_lt_succ hj) with h1 | h1
          · exact hg j h1
          · rw [h1]
            refine ⟨n, hx, hnl, fun i hi e => ?_⟩
            have := (hms.2 n false hb).mpr ⟨i, hi, e⟩
            cases this
    · rintro σ H1 ⟨⟨ms, v2, v3, rfl, hms, hm1⟩, hg, s1⟩
      exact q hg H1 s1

def isF : V → Bool
  | .bl false => true
  | _ => false
def fAt (H : Hp) (m : Addr) : Nat := match H m with | some (.lst xs) => xs.countP isF | _ => 0
theorem countF (ms : List Bool) : (ms.map V.bl).countP isF = ms.count false := by
  induction ms with
  | nil => rfl
  | cons b r ih => cases b <;> simp [isF, List.countP_cons, List.count_cons, ih]
theorem fAt_of {H : Hp} {m : Addr} {ms : List Bool} (h : H m = some (.lst (ms.map V.bl))) : fAt H m = ms.count false := by
  unfold fAt
  rw [h]
  exact countF ms
theorem cnt_set : ∀ {ms : List Bool} {y : Nat}, ms[y]? = some false → (ms.set y true).count false + 1 = ms.count false
  | [], _, h => by cases h
  | b :: r, 0, h => by
    cases h
    simp
  | b :: r, y + 1, h => by
    have ih := cnt_set (ms := r) (y := y) h
    rw [List.set_cons_succ, List.count_cons, List.count_cons]
    omega
def spRoundsX : Sp := fun vs H Q _ => ∃ (t : Addr) (ns : List Nat), vs = [.ref t] ∧ H t = some (.tup (nV ns)) ∧ Ord ns ∧ ns.length ≤ 5000 ∧
  ∀ p (rs : List Addr) H', Same H H' → H p = none → H' p = some (.lst (rs.map V.ref)) → RsAt H' rs (rnds ns ns.length) → Q (.ref p) H'
theorem ok_rounds_of {f : Addr} {fd : FuncData} (F : Fun K "rounds_of" "rounds_of" s_rounds_of f fd) (T : Txt K mg C_WoodError C_NoOrder) : FnOk P w K mg base CX0 1 f fd ["order"] spRoundsX := by
  refine F.ok sc_rounds_of (fun vs H Q E h => ?_) (fun cdv A outer s H vs Q E hr h => ?_)
  · obtain ⟨t, ns, rfl, _⟩ := h
    rfl
  · obtain ⟨t, ns, rfl, ht, ho, hn, q⟩ := h
    have hlV : (nV ns).length = ns.length := by rw [List.length_map]
    refine ⟨_, (pss_cons (ps_set (i := 1) sc_rounds_of.nd rfl (Or.inl rfl) (pe_lst pa_nil))
      (pss_cons (ps_set (i := 2) sc_rounds_of.nd rfl (Or.inl rfl) (pe_op op_rep (pe_lst (pa_d pe_bl pa_nil rfl)) (pe_callB call_len_seq (by rfl) T.n_len b_len (pa_d (pv 0) pa_nil rfl))))
      (pss_cons (ps_for PassesOwn.never rfl (pi_range1 rfl T.n_range (pa_d (pe_callB call_len_seq (by rfl) T.n_len b_len (pa_d (pv 0) pa_nil rfl)) pa_nil rfl)) (pg_name (i := 3) sc_rounds_of.nd rfl (Or.inl rfl))
      (pss_cons (ps_set (i := 4) sc_rounds_of.nd rfl (Or.inl rfl) (pe_lst pa_nil))
      (pss_cons (ps_set (i := 5) sc_rounds_of.nd rfl (Or.inl rfl) (pv 3))
      (pss_cons (ps_while PassesOwn.never (pt_not (pt_val (pe_ix ix_list (pv 2) (pv 5) (fun _ _ => rfl))))
      (pss_cons (ps_asg pe_bl (pg_sub (pv 2) (pv 5) set_list))
      (pss_cons (ps_expr (pe_bm PySem.F.plainAttrs_list PySem.F.slot_list_append PySem.F.type_list_append mt_append (pv 4) (pa_d (pv 5) pa_nil rfl)))
      (pss_one (ps_set (i := 5) sc_rounds_of.nd rfl (Or.inl rfl) (pe_ix ix_tup (pv 0) (pv 5) (fun _ _ => rfl)))))))
      (pss_one (ps_if (pt_cmpR op_gt (pe_callB call_len_seq (by rfl) T.n_len b_len (pa_d (pv 4) pa_nil rfl)) pe_int (nomark _)) (pss_one (ps_expr (pe_bm PySem.F.plainAttrs_list PySem.F.slot_list_append PySem.F.type_list_append mt_append (pv 1) (pa_d (pv 4) pa_nil rfl))))
      pss_nil))))))
      (pss_one (ps_ret (pv 1)))))), ?_⟩
    walk_at "rd"
    refine ⟨Nat.zero_le _, fun p hp => ?_⟩
    have t0 := same_upd (o := .lst []) hp
    have e0 : upd H p (.lst []) p = some (.lst []) := upd_same
    generalize upd H p (.lst []) = H0 at *
    walk_at "rd"
    refine ⟨few (by simp), fun p1 hp1 => ?_⟩
    have t1 := same_upd (o := .lst [V.bl false]) hp1
    have s1 := t0.trans t1
    have e1 := t1 _ _ e0
    have f1 : upd H0 p1 (.lst [V.bl false]) p1 = some (.lst [V.bl false]) := upd_same
    generalize upd H0 p1 (.lst [V.bl false]) = H1 at *
    walk_at "rd"
    refine ⟨t, _, rfl, .inr (SqT.of (s1 _ _ ht)), ?_⟩
    walk_at "rd"
    refine ⟨p1, _, _, rfl, rfl, f1, by omega, by rw [hlV]; omega, Nat.le_of_lt (small20000 (by simp; omega)), fun m hm => ?_⟩
    have t2 := same_upd (o := .lst (List.replicate (((nV ns).length : Nat) : Int).toNat [V.bl false]).flatten) hm
    have s2 := s1.trans t2
    have hm0 := s1.free hm
    have e2 := t2 _ _ e1
    have hpm : p ≠ m := ne_of_none e1 hm
    have hM : (upd H1 m (.lst (List.replicate (((nV ns).length : Nat) : Int).toNat [V.bl false]).flatten)) m = some (.lst ((List.replicate ns.length false).map V.bl)) := by
      rw [upd_same, Int.toNat_natCast, hlV, bl_rep]
    generalize (upd H1 m (.lst (List.replicate (((nV ns).length : Nat) : Int).toNat [V.bl false]).flatten)) = H2 at *
    walk_at "rd"
    refine ⟨t, _, rfl, .inr (SqT.of (s2 _ _ ht)), ?_⟩
    walk_at "rd"
    refine ⟨_, rfl, by omega, by rw [hlV]; omega, ?_⟩
    rw [hlV, Int.toNat_natCast]
    refine for_range (fun i σ H3 => ∃ (rs : List Addr) (ms : List Bool) (v3 v4 v5 : Option V), σ = [some (.ref t), some (.ref p), some (.ref m), v3, v4, v5] ∧ H3 p = some (.lst (rs.map V.ref)) ∧ RsAt H3 rs (rnds ns i) ∧ (∀ r ∈ rs, r ≠ p ∧ r ≠ m) ∧ H3 m = some (.lst (ms.map V.bl)) ∧ MetB ms (rnds ns i).flatten ns.length ∧ Same H H3) ?_ ?_ ?_
    · exact ⟨[], _, _, _, _, rfl, e2, ⟨rfl, fun i r R e => by cases e⟩, (fun r hr => by cases hr), hM, metB_none _, s2⟩
    · rintro i σ H3 hi ⟨rs, ms, v3, v4, v5, rfl, hp3, hrs, hne, hm3, hml, s3⟩
      have hrl := rnds_len ns i
      rw [← hrs.1] at hrl
      walk_at "rd"
      refine ⟨Nat.zero_le _, fun a ha => ?_⟩
      have ta := same_upd (o := .lst []) ha
      have ha0 := s3.free ha
      have hap : a ≠ p := (ne_of_none hp3 ha).symm
      have ham : a ≠ m := (ne_of_none hm3 ha).symm
      have har : ∀ r ∈ rs, r ≠ a := fun r hr => by obtain ⟨_, _, e⟩ := hrs.is hr; exact ne_of_none e ha
      have s4 := s3.trans ta
      have hp4 := ta _ _ hp3
      have hm4 := ta _ _ hm3
      have hrs4 := hrs.same ta
      have ha4 : upd H3 a (.lst []) a = some (.lst []) := upd_same
      generalize upd H3 a (.lst []) = H4 at *
      walk_at "rd"
      have hrn := rl_le ho hi
      refine while_rd (fun σ H5 => ∃ (ms : List Bool) (j : Nat), σ = [some (.ref t), some (.ref p), some (.ref m), some (.int (0 + (i : Int))), some (.ref a), some (.int (itr ns j i))] ∧ j ≤ rl ns i ∧ H5 p = some (.lst (rs.map V.ref)) ∧ RsAt H5 rs (rnds ns i) ∧ H5 m = some (.lst (ms.map V.bl)) ∧ MetB ms ((rnds ns i).flatten ++ seg ns j i) ns.length ∧ H5 a = some (.lst (nV (seg ns j i))) ∧ Same H H5) (fun _ H5 => fAt H5 m)
        ⟨ms, 0, by simp [itr], Nat.zero_le _, hp4, hrs4, hm4, by rw [show seg ns 0 i = [] from rfl, List.append_nil]; exact hml, ha4, s4⟩ ?_
      rintro z σ H5 ⟨ms, j, rfl, hj, hp5, hrs5, hm5, hml5, ha5, s5⟩ hz
      rw [fAt_of hm5] at hz
      have hy := itr_lt ho hi j
      have hsl := seg_len ns j i
      obtain ⟨b, hb5⟩ : ∃ b, ms[itr ns j i]? = some b := ⟨_, List.getElem?_eq_getElem (by rw [hml5.1]; exact hy)⟩
      have hbm := hml5.2 _ b hb5
      rw [rl_stop ho hi hj] at hbm
      walk_at "rd"
      refine r_ixL (SqL.of hm5) (atI_nat (bl_at hb5)) ?_
      cases b with
      | false =>
        have hlt : j < rl ns i := by
          rcases Nat.lt_or_eq_of_le hj with h | h
          · exact h
          · have := hbm.mpr h
            cases this
        walk_at "rd"
        refine r_turn ?_
        walk_at "rd"
        refine r_setL hm5 rfl (by rw [List.length_map, hml5.1]; exact hy) ?_
        rw [bl_set]
        have hct := cnt_set hb5
        have hm6 : upd H5 m (.lst ((ms.set (itr ns j i) true).map V.bl)) m = some (.lst ((ms.set (itr ns j i) true).map V.bl)) := upd_same
        have s6 := push_same (o := .lst ((ms.set (itr ns j i) true).map V.bl)) s5 hm0
        have ha6 : upd H5 m (.lst ((ms.set (itr ns j i) true).map V.bl)) a = some (.lst (nV (seg ns j i))) := by rw [upd_ne ham]; exact ha5
        have hp6 : upd H5 m (.lst ((ms.set (itr ns j i) true).map V.bl)) p = some (.lst (rs.map V.ref)) := by rw [upd_ne hpm]; exact hp5
        have hrs6 : RsAt (upd H5 m (.lst ((ms.set (itr ns j i) true).map V.bl))) rs (rnds ns i) := hrs5.upd fun r hr => (hne r hr).2
        generalize upd H5 m (.lst ((ms.set (itr ns j i) true).map V.bl)) = H6 at *
        walk_at "rd"
        refine ⟨.inl ⟨rfl, _, SqL.of ha6⟩, ?_⟩
        walk_at "rd"
        refine r_append ha6 (by rw [List.length_map]; exact small20000 (by omega)) ?_
        walk_at "rd"
        refine r_ixT (SqT.of ((push_same s6 ha0) _ _ ht)) (atI_nat (nx_nV hy)) ?_
        walk_at "rd"
        refine ⟨⟨ms.set (itr ns j i) true, j + 1, rfl, hlt, by rw [upd_ne hap.symm]; exact hp6, hrs6.upd har, by rw [upd_ne ham.symm]; exact hm6, by rw [seg_succ, ← List.append_assoc]; exact hml5.put, by rw [upd_same, nV_snoc, seg_succ], push_same s6 ha0⟩, ?_⟩
        rw [fAt_of (ms := ms.set (itr ns j i) true) (by rw [upd_ne ham.symm]; exact hm6)]
        omega
      | true =>
        have hjr := hbm.mp rfl
        have en := rnds_next ho hi
        have ef := flat_next ho hi
        rw [← hjr] at en ef
        walk_at "rd"
        refine ⟨a, _, rfl, .inl (SqL.of ha5), ?_⟩
        walk_at "rd"
        rw [List.length_map]
        refine iteP (fun hl => ?_) (fun hl => ?_)
        · walk_at "rd"
          rw [if_pos (by omega)] at en
          refine ⟨.inl ⟨rfl, _, SqL.of hp5⟩, ?_⟩
          walk_at "rd"
          refine r_append hp5 (by rw [List.length_map]; exact small20000 (by omega)) ?_
          walk_at "rd"
          refine ⟨rs ++ [a], ms, _, _, _, rfl, by rw [upd_same, List.map_append]; rfl, ?_, fun r hr => ?_, by rw [upd_ne hpm.symm]; exact hm5, by rw [ef]; exact hml5, push_same s5 hp⟩
          · rw [en]
            exact (hrs5.upd fun r hr => (hne r hr).1).snoc (by rw [upd_ne hap]; exact ha5)
          · rcases List.mem_append.mp hr with hr | hr
            · exact hne r hr
            · rw [List.mem_singleton.mp hr]
              exact ⟨hap, ham⟩
        · walk_at "rd"
          rw [if_neg (by omega)] at en
          exact ⟨rs, ms, _, _, _, rfl, hp5, by rw [en]; exact hrs5, hne, hm5, by rw [ef]; exact hml5, s5⟩
    · rintro σ H3 ⟨rs, ms, v3, v4, v5, rfl, hp3, hrs, hne, hm3, hml, s3⟩
      walk_at "rd"
      exact q p rs H3 s3 hp hp3 hrs

theorem line25 {n : Nat} (h : n ≤ 10000000) : n ≤ sizeLine := Nat.le_trans h (by decide)
def jOf (ns : List Nat) (st : Nat) : List (Nat × Nat) := jmp st (rnds ns ns.length)
def spShortX : Sp := fun vs H Q _ => ∃ (t : Addr) (ns : List Nat) (st : Nat), vs = [.ref t, .int st] ∧ H t = some (.tup (nV ns)) ∧ Ord ns ∧ ns.length ≤ 3000 ∧ 0 < st ∧
  ∀ d H', Same H H' → H d = none → H' d = some (.dK (kvJ (jOf ns st))) → Q (.ref d) H'
theorem flat_take {rs : List (List Nat)} (k : Nat) (h : rs.flatten.Nodup) : (rs.take k).flatten.Nodup := by
  rw [← List.take_append_drop k rs, List.flatten_append, List.nodup_append] at h
  exact h.1
theorem ok_shortcuts_of {f : Addr} {fd : FuncData} (F : Fun K "shortcuts_of" "shortcuts_of" s_shortcuts_of f fd) (T : Txt K mg C_WoodError C_NoOrder) (c_rounds_of : Cal P w K mg base "rounds_of" 1 ["order"] spRoundsX) : FnOk P w K mg base CX0 2 f fd ["order", "step"] spShortX := by
  refine F.ok sc_shortcuts_of (fun vs H Q E h => ?_) (fun cdv A outer s H vs Q E hr h => ?_)
  · obtain ⟨t, ns, st, rfl, _⟩ := h
    rfl
  · obtain ⟨t, ns, st, rfl, ht, ho, hn, hst, q⟩ := h
    refine ⟨_, (pss_cons (ps_set (i := 2) sc_shortcuts_of.nd rfl (Or.inl rfl) pe_dnew)
      (pss_cons (ps_for PassesOwn.never rfl (pi_list (pe_fn c_rounds_of (hr.mono (by decide : 1 ≤ _)) (pa_d (pv 0) pa_nil rfl))) (pg_name (i := 3) sc_shortcuts_of.nd rfl (Or.inl rfl))
      (pss_one (ps_if (pt_cmpR op_gt (pe_callB call_len_seq (by rfl) T.n_len b_len (pa_d (pv 3) pa_nil rfl)) (pv 1) (nomark _)) (pss_cons (ps_set (i := 4) sc_shortcuts_of.nd rfl (Or.inl rfl) (pe_stepX (pv 3) (pv 1)))
      (pss_one (ps_expr (pe_bm PySem.F.plainAttrs_dict PySem.F.slot_dict_update PySem.F.type_dict_update mt_updateX (pv 2) (pa_d (pe_dzipX rfl rfl T.n_dict rfl T.n_zip (pa_d (pv 4) (pa_d (pe_op op_cat (pe_slice sl_list (pv 4) (po_some (pe_un un_neg pe_int)) po_none) (pe_slice sl_list (pv 4) po_none (po_some (pe_un un_neg pe_int)))) pa_nil rfl) rfl)) pa_nil rfl)))))
      pss_nil)))
      (pss_one (ps_ret (pv 2))))), ?_⟩
    walk_at "rd"
    intro d hd
    have t0 := same_upd (o := .dK []) hd
    have e0 : upd H d (.dK []) d = some (.dK []) := upd_same
    generalize upd H d (.dK []) = H0 at *
    walk_at "rd"
    refine ⟨t, ns, rfl, t0 _ _ ht, ho, by omega, fun p rs H1 s1 f1 e1 hrs => ?_⟩
    have s01 := t0.trans s1
    obtain ⟨hr1, hr2, hr3⟩ := rnds_spec ho ns.length (Nat.le_refl _)
    have hrl := rnds_len ns ns.length
    refine ⟨p, rfl, ⟨_, SqL.of e1⟩, ?_⟩
    refine for_list (xs := rs.map V.ref) (fun i σ H2 => ∃ (v3 v4 : Option V), σ = [some (.ref t), some (.int st), some (.ref d), v3, v4] ∧ H2 d = some (.dK (kvJ (jmp st ((rnds ns ns.length).take i)))) ∧ H2 p = some (.lst (rs.map V.ref)) ∧ RsAt H2 rs (rnds ns ns.length) ∧ Same H H2) ?_ (fun k σ H2 _ h => by obtain ⟨_, _, _, _, h, _⟩ := h; exact SqL.of h) ?_ ?_
    · exact ⟨_, _, rfl, s1 _ _ e0, e1, hrs, s01⟩
    · rintro i x σ H2 hx ⟨v3, v4, rfl, hd2, hp2, hrs2, s2⟩
      have hi := at_lt hx
      rw [List.length_map] at hi
      rw [List.getElem?_map] at hx
      obtain ⟨r, hr, rfl⟩ : ∃ r, rs[i]? = some r ∧ V.ref r = x := by
        cases e : rs[i]? with
        | none => rw [e] at hx; cases hx
        | some r => rw [e] at hx; exact ⟨r, rfl, Option.some.inj hx⟩
      have hi2 : i < (rnds ns ns.length).length := by rw [← hrs2.1]; exact hi
      have hRi : (rnds ns ns.length)[i]? = some (rnds ns ns.length)[i] := List.getElem?_eq_getElem hi2
      have hqr := hrs2.2 i r _ hr hRi
      have htk : (rnds ns ns.length).take (i + 1) = (rnds ns ns.length).take i ++ [(rnds ns ns.length)[i]] := by rw [List.take_add_one, hRi]; rfl
      have hfn := flat_take (i + 1) hr2
      have hjn := jmp_nodup hst hfn
      rw [htk, jmp_snoc] at hjn
      have hjl : (jmp st ((rnds ns ns.length).take i)).length ≤ 3000 := by
        have h1 := few_below ns.length ((jmp st ((rnds ns ns.length).take i)).map (·.1)) (jmp_nodup hst (flat_take i hr2)) fun x hx => by
          obtain ⟨R, hR, hxR⟩ := List.mem_flatten.mp (jmp_sub hst hx)
          exact rnds_lt ho (Nat.le_refl _) (List.mem_flatten.mpr ⟨R, List.mem_of_mem_take hR, hxR⟩)
        rw [List.length_map] at h1
        omega
      obtain ⟨c, hc, hRc⟩ := hr1 _ (List.getElem_mem hi2)
      have hRl : (rnds ns ns.length)[i].length ≤ 3000 := by rw [hRc, cyc_len]; have := (per_spec ho hc).2.2.1; omega
      have hRn : (rnds ns ns.length)[i].Nodup := by rw [hRc]; exact cyc_nodup ho hc
      generalize (rnds ns ns.length)[i] = R at *
      walk_at "rd"
      refine ⟨r, _, rfl, .inl (SqL.of hqr), ?_⟩
      walk_at "rd"
      rw [List.length_map]
      refine iteP (fun hlg => ?_) (fun hlg => ?_)
      · have hlg : st < R.length := by omega
        walk_at "rd"
        refine ⟨r, _, st, rfl, rfl, hst, SqL.of hqr, fun a ha => ?_⟩
        rw [pick_nV hst]
        have hmd := marks_nodup hst hRn
        have hml : (marks st R).length ≤ 3000 := by
          rw [marks_len]
          exact Nat.le_trans (Nat.div_le_of_le_mul (by
            have : 1 * R.length ≤ st * R.length := Nat.mul_le_mul_right _ hst
            have : R.length ≤ st * R.length := by omega
            have h4 : st * 1 ≤ st * R.length := Nat.mul_le_mul_left _ (by omega)
            rcases Nat.lt_or_ge 1 st with h5 | h5
            · have : R.length + st ≤ st * R.length + 1 := by
                have h6 : (st - 1) * 1 ≤ (st - 1) * R.length := Nat.mul_le_mul_left _ (by omega)
                have h7 : st * R.length = (st - 1) * R.length + R.length := by rw [Nat.sub_mul, Nat.one_mul]; omega
                omega
              omega
            · have : st = 1 := by omega
              subst this
              omega)) hRl
        have hpr : prs st R = (marks st R).zip (rot (marks st R)) := by unfold prs; rw [if_pos hlg]
        generalize hmk : marks st R = mk at *
        have t3 := same_upd (o := .lst (nV mk)) ha
        have s3 := s2.trans t3
        have ha3 : upd H2 a (.lst (nV mk)) a = some (.lst (nV mk)) := upd_same
        have hd3 := t3 _ _ hd2
        have hp3 := t3 _ _ hp2
        have hrs3 := hrs2.same t3
        generalize upd H2 a (.lst (nV mk)) = H3 at *
        walk_at "rd"
        refine ⟨.inr (.inr (.inl ⟨rfl, .inl ⟨_, hd3⟩⟩)), ?_⟩
        walk_at "rd"
        refine ⟨a, _, rfl, SqL.of ha3, fun b1 hb1 => ?_⟩
        have t4 := same_upd (o := .lst (cutV (nV mk) (some (-1)) none)) hb1
        have hb4 : upd H3 b1 (.lst (cutV (nV mk) (some (-1)) none)) b1 = some (.lst (cutV (nV mk) (some (-1)) none)) := upd_same
        have ha4 := t4 _ _ ha3
        have s4 := s3.trans t4
        have hd4 := t4 _ _ hd3
        have hp4 := t4 _ _ hp3
        have hrs4 := hrs3.same t4
        generalize upd H3 b1 (.lst (cutV (nV mk) (some (-1)) none)) = H4 at *
        walk_at "rd"
        refine ⟨a, _, rfl, SqL.of ha4, fun b2 hb2 => ?_⟩
        have t5 := same_upd (o := .lst (cutV (nV mk) none (some (-1)))) hb2
        have hb5 : upd H4 b2 (.lst (cutV (nV mk) none (some (-1)))) b2 = some (.lst (cutV (nV mk) none (some (-1)))) := upd_same
        have ha5 := t5 _ _ ha4
        have hc5 := t5 _ _ hb4
        have s5 := s4.trans t5
        have hd5 := t5 _ _ hd4
        have hp5 := t5 _ _ hp4
        have hrs5 := hrs4.same t5
        generalize upd H4 b2 (.lst (cutV (nV mk) none (some (-1)))) = H5 at *
        have hlen := congrArg List.length (turn_nV mk)
        rw [List.length_append, List.length_map, rot_len] at hlen
        walk_at "rd"
        refine ⟨b1, b2, _, _, rfl, rfl, hc5, hb5, line25 (by omega), fun c hc => ?_⟩
        rw [turn_nV]
        have t6 := same_upd (o := .lst (nV (rot mk))) hc
        have hc6 : upd H5 c (.lst (nV (rot mk))) c = some (.lst (nV (rot mk))) := upd_same
        have ha6 := t6 _ _ ha5
        have s6 := s5.trans t6
        have hd6 := t6 _ _ hd5
        have hp6 := t6 _ _ hp5
        have hrs6 := hrs5.same t6
        generalize upd H5 c (.lst (nV (rot mk))) = H6 at *
        have emr : mrgV [] (mk.map fun n : Nat => (n : Int)) (nV (rot mk)) = kvJ (prs st R) := by
          rw [hpr]
          exact mrg_kvJ mk (rot mk) [] hmd (rot_len mk).symm
        have hpl : (prs st R).length ≤ mk.length := by rw [hpr, List.length_zip, rot_len]; omega
        refine ⟨a, c, mk.map (fun n : Nat => (n : Int)), nV (rot mk), rfl, by rw [List.map_map]; exact SqL.of ha6, SqL.of hc6, by rw [List.length_map, List.length_map, rot_len], by rw [emr, List.length_map, List.length_map]; exact hpl, fun g hg => ?_⟩
        rw [emr]
        have t7 := same_upd (o := .dK (kvJ (prs st R))) hg
        have hg7 : upd H6 g (.dK (kvJ (prs st R))) g = some (.dK (kvJ (prs st R))) := upd_same
        have s7 := s6.trans t7
        have hd7 := t7 _ _ hd6
        have hp7 := t7 _ _ hp6
        have hrs7 := hrs6.same t7
        have hdg : d ≠ g := ne_of_none hd6 hg
        generalize upd H6 g (.dK (kvJ (prs st R))) = H7 at *
        walk_at "rd"
        refine r_updateX hdg hd7 hg7 (line25 (by rw [List.length_map, List.length_map]; omega)) ?_
        walk_at "rd"
        rw [merge_kvJ _ _ hjn]
        refine ⟨_, _, rfl, by rw [upd_same, htk, jmp_snoc], ?_, hrs7.upd fun r hr e => ?_, push_same s7 hd⟩
        · have hne : p ≠ d := ne_of hp7 hd7 (by intro z; cases z)
          rw [upd_ne hne]
          exact hp7
        · obtain ⟨_, _, er⟩ := hrs7.is hr
          rw [e, hd7] at er
          cases er
      · walk_at "rd"
        have hpr : prs st R = [] := by unfold prs; rw [if_neg (by omega)]
        exact ⟨_, _, rfl, by rw [htk, jmp_snoc, hpr, List.append_nil]; exact hd2, hp2, hrs2, s2⟩
    · rintro σ H2 ⟨v3, v4, rfl, hd2, hp2, hrs2, s2⟩
      walk_at "rd"
      rw [List.length_map, hrs2.1, List.take_of_length_le (Nat.le_refl _)] at hd2
      exact q d H2 s2 hd hd2

theorem ord_goodP {ns : List Nat} (o : Ord ns) : GoodP (nV ns) := fun j hj => by
  rw [List.length_map] at hj
  refine ⟨ns[j], nV_at (List.getElem?_eq_getElem hj), by rw [List.length_map]; exact o.lt _ (List.getElem_mem hj), fun i hi e => ?_⟩
  rw [nV_at (List.getElem?_eq_getElem (show i < ns.length by omega))] at e
  have := V.int.inj (Option.some.inj e)
  exact (List.pairwise_iff_getElem.mp o.nd) i j (by omega) hj hi (by omega)
/-- an order with its shortcuts -/
def IsShX (C : Addr) (H : Hp) (x : Addr) (ns : List Nat) (st : Nat) : Prop := ∃ dx t d, H x = some (.ins C dx [("onward", .ref t), ("leaps", .ref d)]) ∧ H t = some (.tup (nV ns)) ∧ H d = some (.dK (kvJ (jOf ns st)))
theorem IsShX.same {C x : Addr} {H H' : Hp} {ns : List Nat} {st : Nat} (s : Same H H') (h : IsShX C H x ns st) : IsShX C H' x ns st := by
  obtain ⟨dx, t, d, h1, h2, h3⟩ := h
  exact ⟨dx, t, d, s _ _ h1, s _ _ h2, s _ _ h3⟩
def spShInitX (K : PySem.W.Frag) (CN C : Addr) : Sp := fun vs H Q E => ∃ (x dx a : Addr) (ns : List Nat) (st : Nat), vs = [.ref x, .ref a, .int st] ∧ H x = some (.ins C dx []) ∧ H a = some (.lst (nV ns)) ∧ Ord ns ∧ ns.length ≤ 3000 ∧ 0 < st ∧
  ∀ H', SameBut x H H' → IsShX C H' x ns st → Q .non H'
theorem ok_Shortcuts_init {f : Addr} {fd : FuncData} (F : FunD K "__init__" "Shortcuts.__init__" s_Shortcuts_init f fd) (T : Txt K mg C_WoodError C_NoOrder) (Z : Z_Shortcuts K C_Shortcuts) (c_check_order : CalE P w K mg base "check_order" 3 ["order"] (spCheck K C_NoOrder))
    (c_shortcuts_of : Cal P w K mg base "shortcuts_of" 2 ["order", "step"] spShortX) : FnOk P w K mg base (CXE P w) 4 f fd ["self", "order", "step"] (spShInitX K C_NoOrder C_Shortcuts) := by
  refine F.okE sc_Shortcuts_init (fun vs H Q E h => ?_) (fun cdv A outer s H vs Q E hr h => ?_)
  · obtain ⟨x, dx, a, ns, st, rfl, _⟩ := h
    rfl
  · obtain ⟨x, dx, a, ns, st, rfl, hx, ha, ho, hn, hst, q⟩ := h
    refine ⟨_, (pss_cons (ps_expr (pe_fnE c_check_order (hr.mono (by decide : 3 ≤ _)) (pass_on rfl) (pa_d (pv 1) pa_nil rfl)))
      (pss_cons (ps_fld (pv 0) (pe_callTy call_tuple_of (by rfl) T.n_tuple b_tuple (pa_d (pv 1) pa_nil rfl)) rfl)
      (pss_one (ps_fld (pv 0) (pe_fn c_shortcuts_of (hr.mono (by decide : 2 ≤ _)) (pa_d (pe_fld (pv 0) rfl) (pa_d (pv 2) pa_nil rfl) rfl)) rfl)))), ?_⟩
    walk_at "rd"
    refine ⟨a, nV ns, rfl, ha, fun y hy => ?_, by rw [List.length_map]; omega, fun hG H1 s1 => ?_, fun k hf => (faultP_good hf (ord_goodP ho)).elim⟩
    · obtain ⟨n, _, rfl⟩ := List.mem_map.mp hy
      exact any_int _
    have hx1 := s1 _ _ hx
    have ha1 := s1 _ _ ha
    walk_at "rd"
    refine ⟨a, _, rfl, .inl ⟨SqL.of ha1, fun t ht => ?_⟩⟩
    have t2 := same_upd (o := .tup (nV ns)) ht
    have hx2 := t2 _ _ hx1
    have ht2 : upd H1 t (.tup (nV ns)) t = some (.tup (nV ns)) := upd_same
    have s2 := s1.trans t2
    generalize upd H1 t (.tup (nV ns)) = H2 at *
    have htx : t ≠ x := ne_of ht2 hx2 (by intro z; cases z)
    walk_at "rd"
    refine r_sfldE hx2 Z.cl Z.n_onward (by decide) ?_
    have hx3 : upd H2 x (.ins C_Shortcuts dx (putF "onward" (.ref t) [])) x = some (.ins C_Shortcuts dx [("onward", .ref t)]) := upd_same
    have ht3 : upd H2 x (.ins C_Shortcuts dx (putF "onward" (.ref t) [])) t = some (.tup (nV ns)) := by rw [upd_ne htx]; exact ht2
    have s3 := s2.but.trans (sameBut_upd (H := H2) (x := x) (o := .ins C_Shortcuts dx (putF "onward" (.ref t) [])))
    generalize upd H2 x (.ins C_Shortcuts dx (putF "onward" (.ref t) [])) = H3 at *
    walk_at "rd"
    refine ⟨x, C_Shortcuts, dx, _, .ref t, rfl, hx3, Z.cl, Z.n_onward, rfl, ?_⟩
    walk_at "rd"
    refine ⟨t, ns, st, rfl, ht3, ho, hn, hst, fun d H4 s4 f4 e4 => ?_⟩
    have hdx : d ≠ x := ne_of e4 (s4 _ _ hx3) (by intro z; cases z)
    walk_at "rd"
    refine r_sfldE (s4 _ _ hx3) Z.cl Z.n_leaps (show 1 < 1000 by decide) ?_
    walk_at "rd"
    exact q _ ((s3.trans s4.but).trans sameBut_upd) ⟨dx, t, d, upd_same, by rw [upd_ne htx]; exact s4 _ _ ht3, by rw [upd_ne hdx]; exact e4⟩

def spThereX (C : Addr) : Sp := fun vs H Q _ => ∃ (x : Addr) (ns : List Nat) (st k : Nat), vs = [.ref x, .int k] ∧ IsShX C H x ns st ∧ k < ns.length ∧ Q (.int (nx ns k)) H
theorem ok_Shortcuts_there {f : Addr} {fd : FuncData} (F : Fun K "there" "Shortcuts.there" s_Shortcuts_there f fd) (T : Txt K mg C_WoodError C_NoOrder) (Z : Z_Shortcuts K C_Shortcuts) : FnOk P w K mg base CX0 1 f fd ["self", "place"] (spThereX C_Shortcuts) := by
  refine F.ok sc_Shortcuts_there (fun vs H Q E h => ?_) (fun cdv A outer s H vs Q E hr h => ?_)
  · obtain ⟨x, ns, st, k, rfl, _⟩ := h
    rfl
  · obtain ⟨x, ns, st, k, rfl, ⟨dx, t, d, hx, ht, hd⟩, hk, q⟩ := h
    refine ⟨_, (pss_one (ps_ret (pe_ix ix_tup (pe_fld (pv 0) rfl) (pv 1) (fun _ _ => rfl)))), ?_⟩
    walk_at "rd"
    refine ⟨x, C_Shortcuts, dx, _, .ref t, rfl, hx, Z.cl, Z.n_onward, rfl, ?_⟩
    walk_at "rd"
    exact r_ixT (SqT.of ht) (atI_nat (nx_nV hk)) q

def jI (J : List (Nat × Nat)) : List (Int × Int) := J.map fun p => ((p.1 : Int), (p.2 : Int))
theorem kvJ_I (J : List (Nat × Nat)) : kvJ J = kvI (jI J) := by
  unfold jI
  show J.map _ = List.map _ (List.map _ J)
  rw [List.map_map]
  rfl
def spShorts (C : Addr) : Sp := fun vs H Q _ => ∃ (x : Addr) (ns : List Nat) (st : Nat), vs = [.ref x] ∧ IsShX C H x ns st ∧ ∀ p as H', Same H H' → H p = none → H' p = some (.lst (as.map V.ref)) → TupsAt H' as (ssort ltP (jI (jOf ns st))) → Q (.ref p) H'
theorem ok_Shortcuts_shortcuts {f : Addr} {fd : FuncData} (F : Fun K "shortcuts" "Shortcuts.shortcuts" s_Shortcuts_shortcuts f fd) (T : Txt K mg C_WoodError C_NoOrder) (Z : Z_Shortcuts K C_Shortcuts) : FnOk P w K mg base CX0 1 f fd ["self"] (spShorts C_Shortcuts) := by
  refine F.ok sc_Shortcuts_shortcuts (fun vs H Q E h => ?_) (fun cdv A outer s H vs Q E hr h => ?_)
  · obtain ⟨x, ns, st, rfl, _⟩ := h
    rfl
  · obtain ⟨x, ns, st, rfl, ⟨dx, t, d, hx, ht, hd⟩, q⟩ := h
    refine ⟨_, (pss_one (ps_ret (pe_sortI rfl rfl T.n_sorted (pe_fld (pv 0) rfl)))), ?_⟩
    walk_at "rd"
    refine ⟨x, C_Shortcuts, dx, _, .ref d, rfl, hx, Z.cl, Z.n_leaps, rfl, ?_⟩
    refine ⟨d, jI (jOf ns st), rfl, by rw [hd, kvJ_I], fun p as H' s' f' e' t' => ?_⟩
    walk_at "rd"
    exact q p as H' s' f' e' t'

def spCell (K : PySem.W.Frag) : Sp := fun vs H Q _ => ∃ (a : Addr) (ns : List Int) (k : Nat), vs = [.ref a, .int k] ∧ SqL K H a (ns.map V.int) ∧ ∀ c : Int, Q (.int c) H
theorem ok_law_cell_at {f : Addr} {fd : FuncData} (F : Fun K "_law_cell_at" "_law_cell_at" s_law_cell_at f fd) (T : Txt K mg C_WoodError C_NoOrder) : FnOk P w K mg base CX0 1 f fd ["_law_script", "_law_k"] (spCell K) := by
  refine F.ok sc_law_cell_at (fun vs H Q E h => ?_) (fun cdv A outer s H vs Q E hr h => ?_)
  · obtain ⟨a, ns, k, rfl, _⟩ := h
    rfl
  · obtain ⟨a, ns, k, rfl, hS, q⟩ := h
    refine ⟨_, (pss_cons (ps_if (pt_cmpR op_lt (pv 1) (pe_callB call_len_seq (by rfl) T.n_len b_len (pa_d (pv 0) pa_nil rfl)) (nomark _)) (pss_one (ps_ret (pe_ix ix_list (pv 0) (pv 1) (fun _ _ => rfl))))
      pss_nil)
      (pss_one (ps_ret pe_int))), ?_⟩
    walk_at "rd"
    refine ⟨a, _, rfl, .inl hS, ?_⟩
    walk_at "rd"
    rw [List.length_map]
    refine iteP (fun hb => ?_) (fun hb => ?_)
    · walk_at "rd"
      have hk : k < ns.length := by omega
      refine r_ixL hS (v := .int ns[k]) ?_ (q _)
      refine atI_nat ?_
      rw [List.getElem?_map, List.getElem?_eq_getElem hk]
      rfl
    · walk_at "rd"
      exact q 0

theorem ok_law_whole {f : Addr} {fd : FuncData} (F : Fun K "_law_whole" "_law_whole" s_law_whole f fd) (T : Txt K mg C_WoodError C_NoOrder) : FnOk P w K mg base CX0 1 f fd ["_law_found"] (spWhole0 K) := by
  refine F.ok sc_law_whole (fun vs H Q E h => ?_) (fun cdv A outer s H vs Q E hr h => ?_)
  · obtain ⟨x, rfl, _⟩ := h
    rfl
  · obtain ⟨x, rfl, ⟨t, b1, b2, ty, k1, k2, e⟩, q⟩ := h
    refine ⟨_, (pss_one (ps_ret (pe_and (pe_callB call_isinst (by rfl) T.n_isinstance b_isinstance (pa_d (pv 0) (pa_d (pe_bltn (v := .ty "int") rfl T.n_int b_int rfl) pa_nil rfl) rfl)) (pe_one (pe_not (pe_callB call_isinst (by rfl) T.n_isinstance b_isinstance (pa_d (pv 0) (pa_d (pe_bltn (v := .ty "bool") rfl T.n_bool b_bool rfl) pa_nil rfl) rfl))))))), ?_⟩
    walk_at "rd"
    refine ⟨_, _, _, _, rfl, ty, k1, ?_⟩
    rw [← e] at q
    cases b1 with
    | false =>
      walk_at "rd"
      exact q
    | true =>
      walk_at "rd"
      refine ⟨_, _, _, _, rfl, ty, k2, ?_⟩
      walk_at "rd"
      exact q

def spMixed : Sp := fun vs H Q _ => ∃ c k : Int, vs = [.int c, .int k] ∧ 0 ≤ k ∧ k ≤ 1000 ∧ ∀ r : Int, 0 ≤ r → r < 2147483587 → Q (.int r) H
theorem ok_law_mixed {f : Addr} {fd : FuncData} (F : Fun K "_law_mixed" "_law_mixed" s_law_mixed f fd) (T : Txt K mg C_WoodError C_NoOrder) : FnOk P w K mg base CX0 1 f fd ["_law_cell", "_law_k"] spMixed := by
  refine F.ok sc_law_mixed (fun vs H Q E h => ?_) (fun cdv A outer s H vs Q E hr h => ?_)
  · obtain ⟨c, k, rfl, _⟩ := h
    rfl
  · obtain ⟨c, k, rfl, h0, h1, q⟩ := h
    refine ⟨_, (pss_cons (ps_set (i := 2) sc_law_mixed.nd rfl (Or.inl rfl) (pe_op op_mod (pe_op op_mul (pe_op op_add (pe_op op_mod (pv 0) pe_int) pe_int) (pe_op op_add pe_int (pe_op op_mul (pe_op op_mul pe_int (pv 1)) (pv 1)))) pe_int))
      (pss_one (ps_ret (pe_op op_mod (pe_op op_mul (pe_op op_add (pv 2) (pe_op op_mul pe_int (pv 1))) (pe_op op_add pe_int (pe_op op_mul pe_int (pv 1)))) pe_int)))), ?_⟩
    walk_at "rd"
    refine r_mulR (by omega) (by omega) ?_
    walk_at "rd"
    have b1 := Int.emod_nonneg c (show (2147483647 : Int) ≠ 0 by decide)
    have b2 := Int.emod_lt_of_pos c (show (0 : Int) < 2147483647 by decide)
    refine r_mulL (by omega) (by omega) ?_
    walk_at "rd"
    refine r_mulR (by omega) (by omega) ?_
    walk_at "rd"
    exact q _ (Int.emod_nonneg _ (by decide)) (Int.emod_lt_of_pos _ (by decide))

def spDigits (K : PySem.W.Frag) : Sp := fun vs H Q _ => ∃ (a : Addr) (ns : List Int) (k : Nat) (m : Int), vs = [.ref a, .int k, .int m] ∧ SqL K H a (ns.map V.int) ∧ 0 ≤ m ∧ m ≤ 100 ∧ ∀ p (ds : List Int) H', Same H H' → H p = none → H' p = some (.lst (ds.map V.int)) → ds.length = m.toNat → Q (.ref p) H'
theorem ok_law_digits {f : Addr} {fd : FuncData} (F : Fun K "_law_digits" "_law_digits" s_law_digits f fd) (T : Txt K mg C_WoodError C_NoOrder) (c_law_cell_at : Cal P w K mg base "_law_cell_at" 1 ["_law_script", "_law_k"] (spCell K)) (c_law_mixed : Cal P w K mg base "_law_mixed" 1 ["_law_cell", "_law_k"] spMixed) :
    FnOk P w K mg base CX0 2 f fd ["_law_script", "_law_at", "_law_many"] (spDigits K) := by
  refine F.ok sc_law_digits (fun vs H Q E h => ?_) (fun cdv A outer s H vs Q E hr h => ?_)
  · obtain ⟨a, ns, k, m, rfl, _⟩ := h
    rfl
  · obtain ⟨a, ns, k, m, rfl, hS, h0, h1, q⟩ := h
    refine ⟨_, (pss_cons (ps_set (i := 3) sc_law_digits.nd rfl (Or.inl rfl) (pe_op op_mul (pe_callB call_abs (by rfl) T.n_abs b_abs (pa_d (pe_fn c_law_cell_at (hr.mono (by decide : 1 ≤ _)) (pa_d (pv 0) (pa_d (pe_op op_add (pv 1) pe_int) pa_nil rfl) rfl)) pa_nil rfl)) (pe_op op_sub pe_int (pe_op op_mod (pe_fn c_law_cell_at (hr.mono (by decide : 1 ≤ _)) (pa_d (pv 0) (pa_d (pv 1) pa_nil rfl) rfl)) pe_int))))
      (pss_cons (ps_set (i := 4) sc_law_digits.nd rfl (Or.inl rfl) (pe_lst pa_nil))
      (pss_cons (ps_for PassesOwn.never rfl (pi_range1 rfl T.n_range (pa_d (pv 2) pa_nil rfl)) (pg_name (i := 5) sc_law_digits.nd rfl (Or.inl rfl))
      (pss_one (ps_if (pt_cmpR op_gt (pv 3) pe_int (nomark _)) (pss_cons (ps_expr (pe_bm PySem.F.plainAttrs_list PySem.F.slot_list_append PySem.F.type_list_append mt_append (pv 4) (pa_d (pe_op op_mod (pv 3) pe_int) pa_nil rfl)))
      (pss_one (ps_set (i := 3) sc_law_digits.nd rfl (Or.inl rfl) (pe_op op_fdiv (pv 3) pe_int))))
      (pss_one (ps_expr (pe_bm PySem.F.plainAttrs_list PySem.F.slot_list_append PySem.F.type_list_append mt_append (pv 4) (pa_d (pe_op op_mod (pe_fn c_law_mixed (hr.mono (by decide : 1 ≤ _)) (pa_d (pe_fn c_law_cell_at (hr.mono (by decide : 1 ≤ _)) (pa_d (pv 0) (pa_d (pe_op op_add (pe_op op_add (pv 1) pe_int) (pe_op op_mod (pv 5) pe_int)) pa_nil rfl) rfl)) (pa_d (pv 5) pa_nil rfl) rfl)) pe_int) pa_nil rfl)))))))
      (pss_one (ps_ret (pv 4)))))), ?_⟩
    walk_at "rd"
    refine ⟨a, ns, k + 1, rfl, hS, fun c1 => ?_⟩
    walk_at "rd"
    refine ⟨_, rfl, ?_⟩
    walk_at "rd"
    refine ⟨a, ns, k, rfl, hS, fun c2 => ?_⟩
    walk_at "rd"
    refine r_mulR (by omega) (by omega) ?_
    walk_at "rd"
    refine ⟨Nat.zero_le _, fun p hp => ?_⟩
    walk_at "rd"
    refine ⟨m, rfl, by omega, by omega, ?_⟩
    have s0 : Same H (upd H p (.lst [])) := same_upd hp
    have push : ∀ {H1 : Hp} {o : HO}, Same H H1 → Same H (upd H1 p o) := fun s1 b u e => by rw [upd_ne (ne_of_none e hp)]; exact s1 _ _ e
    have z1 : ∀ {l : List Int} {i : Nat}, l.length = i → i < m.toNat → (l.map V.int).length < sizeLine := fun e hi => by
      rw [List.length_map, e]
      exact small1000 (by omega)
    refine for_range (fun i σ H1 => ∃ (ds : List Int) (x : Int) (v5 : Option V), σ = [some (.ref a), some (.int k), some (.int m), some (.int x), some (.ref p), v5] ∧ ds.length = i ∧ H1 p = some (.lst (ds.map V.int)) ∧ Same H H1) ⟨[], _, _, rfl, rfl, upd_same, s0⟩ ?_ ?_
    · rintro i σ H1 hi ⟨ds, x, v5, rfl, hd, hH, sm⟩
      walk_at "rd"
      refine iteP (fun hb => ?_) (fun hb => ?_)
      · walk_at "rd"
        refine ⟨.inl ⟨rfl, _, SqL.of hH⟩, ?_⟩
        walk_at "rd"
        refine r_append hH (z1 hd hi) ?_
        walk_at "rd"
        exact ⟨ds ++ [x % 64], _, _, rfl, by rw [List.length_append, hd]; rfl, by rw [upd_same, List.map_append]; rfl, push sm⟩
      · walk_at "rd"
        refine ⟨.inl ⟨rfl, _, SqL.of hH⟩, ?_⟩
        walk_at "rd"
        refine ⟨a, ns, k + 1 + i % 9, ?_, sm.seq hS, fun c3 => ?_⟩
        · rw [show (k : Int) + 1 + (0 + (i : Int)) % 9 = ((k + 1 + i % 9 : Nat) : Int) by omega]
          rfl
        walk_at "rd"
        refine ⟨c3, _, rfl, by omega, by omega, fun r _ _ => ?_⟩
        walk_at "rd"
        refine r_append hH (z1 hd hi) ?_
        walk_at "rd"
        exact ⟨ds ++ [r % 64], _, _, rfl, by rw [List.length_append, hd]; rfl, by rw [upd_same, List.map_append]; rfl, push sm⟩
    · rintro σ H1 ⟨ds, x, v5, rfl, hd, hH, sm⟩
      walk_at "rd"
      exact q p ds H1 sm hp hH hd

theorem cut_to (xs : List V) (m : Nat) : cutV xs none (some (m : Int)) = xs.take m := by
  unfold cutV
  rw [HT.sIx_nat]
  show List.take (min m xs.length - 0) (List.drop 0 xs) = _
  rw [List.drop_zero, Nat.sub_zero]
  by_cases h : m ≤ xs.length
  · rw [Nat.min_eq_left h]
  · rw [Nat.min_eq_right (by omega), List.take_of_length_le (Nat.le_refl _), List.take_of_length_le (by omega)]
theorem cut_from (xs : List V) (m : Nat) : cutV xs (some (m : Int)) none = xs.drop m := by
  unfold cutV
  rw [HT.sIx_nat]
  show List.take (xs.length - min m xs.length) (List.drop (min m xs.length) xs) = _
  rw [List.take_of_length_le (by rw [List.length_drop]; omega)]
  by_cases h : m ≤ xs.length
  · rw [Nat.min_eq_left h]
  · rw [Nat.min_eq_right (by omega), List.drop_of_length_le (Nat.le_refl _), List.drop_of_length_le (by omega)]
theorem emod_to (r : Int) {n : Nat} (h : 0 < n) : ∃ k : Nat, r % (n : Int) = (k : Int) ∧ k < n := by
  have h0 := Int.emod_nonneg r (show (n : Int) ≠ 0 by omega)
  have h1 := Int.emod_lt_of_pos r (show (0 : Int) < (n : Int) by omega)
  exact ⟨(r % (n : Int)).toNat, by omega, by omega⟩
def spOrderX : Sp := fun vs H Q _ => ∃ (a : Addr) (ds : List Int), vs = [.ref a] ∧ H a = some (.lst (ds.map V.int)) ∧ ds.length ≤ 100 ∧ ∀ p (ns : List Nat) H', Same H H' → H p = none → H' p = some (.lst (nV ns)) → Ord ns → ns.length = ds.length → Q (.ref p) H'
theorem ok_law_order {f : Addr} {fd : FuncData} (F : Fun K "_law_order" "_law_order" s_law_order f fd) (T : Txt K mg C_WoodError C_NoOrder) : FnOk P w K mg base CX0 1 f fd ["_law_digits_here"] spOrderX := by
  refine F.ok sc_law_order (fun vs H Q E h => ?_) (fun cdv A outer s H vs Q E hr h => ?_)
  · obtain ⟨a, ds, rfl, _⟩ := h
    rfl
  · obtain ⟨a, ds, rfl, ha, hn, q⟩ := h
    refine ⟨_, (pss_cons (ps_set (i := 1) sc_law_order.nd rfl (Or.inl rfl) (pe_lst pa_nil))
      (pss_cons (ps_set (i := 2) sc_law_order.nd rfl (Or.inl rfl) (pe_lrange rfl rfl T.n_list rfl T.n_range (pa_d (pe_callB call_len_seq (by rfl) T.n_len b_len (pa_d (pv 0) pa_nil rfl)) pa_nil rfl)))
      (pss_cons (ps_for PassesOwn.never rfl (pi_list (pv 0)) (pg_name (i := 3) sc_law_order.nd rfl (Or.inl rfl))
      (pss_cons (ps_set (i := 4) sc_law_order.nd rfl (Or.inl rfl) (pe_op op_mod (pv 3) (pe_callB call_len_seq (by rfl) T.n_len b_len (pa_d (pv 2) pa_nil rfl))))
      (pss_cons (ps_expr (pe_bm PySem.F.plainAttrs_list PySem.F.slot_list_append PySem.F.type_list_append mt_append (pv 1) (pa_d (pe_ix ix_list (pv 2) (pv 4) (fun _ _ => rfl)) pa_nil rfl)))
      (pss_one (ps_set (i := 2) sc_law_order.nd rfl (Or.inl rfl) (pe_op op_cat (pe_slice sl_list (pv 2) po_none (po_some (pv 4))) (pe_slice sl_list (pv 2) (po_some (pe_op op_add (pv 4) pe_int)) po_none)))))))
      (pss_one (ps_ret (pv 1)))))), ?_⟩
    walk_at "rd"
    refine ⟨Nat.zero_le _, fun p hp => ?_⟩
    have t0 := same_upd (o := .lst []) hp
    have e0 : upd H p (.lst []) p = some (.lst []) := upd_same
    generalize upd H p (.lst []) = H0 at *
    walk_at "rd"
    refine ⟨a, _, rfl, .inl (SqL.of (t0 _ _ ha)), ?_⟩
    rw [List.length_map]
    refine ⟨ds.length, rfl, by omega, fun l hl => ?_⟩
    have t1 := same_upd (o := .lst ((List.range ds.length).map fun i : Nat => V.int i)) hl
    have e1 : upd H0 l (.lst ((List.range ds.length).map fun i : Nat => V.int i)) l = some (.lst (nV (List.range ds.length))) := upd_same
    have f1 := t1 _ _ e0
    have s1 := t0.trans t1
    have hlp : l ≠ p := (ne_of_none e0 hl).symm
    generalize upd H0 l (.lst ((List.range ds.length).map fun i : Nat => V.int i)) = H1 at *
    walk_at "rd"
    refine ⟨a, rfl, ⟨_, SqL.of (s1 _ _ ha)⟩, ?_⟩
    refine for_list (xs := ds.map V.int) (fun k σ H2 => ∃ (ns ms : List Nat) (l : Addr) (v3 v4 : Option V), σ = [some (.ref a), some (.ref p), some (.ref l), v3, v4] ∧ H2 p = some (.lst (nV ns)) ∧ ns.length = k ∧ H2 l = some (.lst (nV ms)) ∧ ms.length = ds.length - k ∧ l ≠ p ∧ (ns ++ ms).Perm (List.range ds.length) ∧ Same H H2) ?_ (fun k σ H2 _ h => by obtain ⟨_, _, _, _, _, _, _, _, _, _, _, _, s2⟩ := h; exact SqL.of (s2 _ _ ha)) ?_ ?_
    · exact ⟨[], _, l, _, _, rfl, f1, rfl, e1, by rw [List.length_range]; omega, hlp, List.Perm.refl _, s1⟩
    · rintro k x σ H2 hx ⟨ns, ms, l, v3, v4, rfl, hp2, hnl, hl2, hml, hlp, hpm, s2⟩
      have hk := at_lt hx
      rw [List.length_map] at hk
      rw [List.getElem?_map] at hx
      obtain ⟨d, rfl⟩ : ∃ d, V.int d = x := by
        cases e : ds[k]? with
        | none => rw [e] at hx; cases hx
        | some d => rw [e] at hx; exact ⟨d, Option.some.inj hx⟩
      walk_at "rd"
      refine ⟨l, _, rfl, .inl (SqL.of hl2), ?_⟩
      rw [List.length_map]
      refine r_mod (by omega) ?_
      obtain ⟨j, ej, hj⟩ := emod_to d (n := ms.length) (by omega)
      walk_at "rd"
      refine ⟨.inl ⟨rfl, _, SqL.of hp2⟩, ?_⟩
      walk_at "rd"
      refine r_ixL (SqL.of hl2) (v := .int (ms[j] : Nat)) (by rw [ej]; exact atI_nat (nV_at (List.getElem?_eq_getElem hj))) ?_
      walk_at "rd"
      refine r_append hp2 (by rw [List.length_map]; exact small1000 (by omega)) ?_
      have hl3 : upd H2 p (.lst (nV ns ++ [V.int (ms[j] : Nat)])) l = some (.lst (nV ms)) := by rw [upd_ne hlp]; exact hl2
      have hp3 : upd H2 p (.lst (nV ns ++ [V.int (ms[j] : Nat)])) p = some (.lst (nV (ns ++ [ms[j]]))) := by rw [upd_same, nV_snoc]
      have s3 := push_same (o := .lst (nV ns ++ [V.int (ms[j] : Nat)])) s2 hp
      generalize upd H2 p (.lst (nV ns ++ [V.int (ms[j] : Nat)])) = H3 at *
      walk_at "rd"
      rw [ej]
      refine ⟨l, _, rfl, SqL.of hl3, fun b1 hb1 => ?_⟩
      rw [cut_to]
      have t4 := same_upd (o := .lst ((nV ms).take j)) hb1
      have hb4 : upd H3 b1 (.lst ((nV ms).take j)) b1 = some (.lst ((nV ms).take j)) := upd_same
      have hl4 := t4 _ _ hl3
      have hp4 := t4 _ _ hp3
      have s4 := s3.trans t4
      generalize upd H3 b1 (.lst ((nV ms).take j)) = H4 at *
      walk_at "rd"
      refine ⟨l, _, rfl, SqL.of hl4, fun b2 hb2 => ?_⟩
      rw [show ((j : Nat) : Int) + 1 = ((j + 1 : Nat) : Int) by omega, cut_from]
      have t5 := same_upd (o := .lst ((nV ms).drop (j + 1))) hb2
      have hb5 : upd H4 b2 (.lst ((nV ms).drop (j + 1))) b2 = some (.lst ((nV ms).drop (j + 1))) := upd_same
      have hc5 := t5 _ _ hb4
      have hp5 := t5 _ _ hp4
      have s5 := s4.trans t5
      generalize upd H4 b2 (.lst ((nV ms).drop (j + 1))) = H5 at *
      have hlt : ((nV ms).take j).length = j := by rw [List.length_take, List.length_map]; omega
      have hld : ((nV ms).drop (j + 1)).length = ms.length - (j + 1) := by rw [List.length_drop, List.length_map]
      walk_at "rd"
      refine ⟨b1, b2, _, _, rfl, rfl, hc5, hb5, few (by omega), fun c hc => ?_⟩
      walk_at "rd"
      refine ⟨ns ++ [ms[j]], ms.take j ++ ms.drop (j + 1), c, _, _, rfl, ?_, by rw [List.length_append, hnl]; rfl, ?_, ?_, (ne_of_none hp5 hc).symm, ?_, s5.trans (same_upd hc)⟩
      · exact (same_upd hc) _ _ hp5
      · rw [upd_same]
        show _ = some (HO.lst (List.map _ _))
        rw [List.map_append, List.map_take, List.map_drop]
      · rw [List.length_append, List.length_take, List.length_drop]
        omega
      · refine List.Perm.trans ?_ hpm
        rw [List.append_assoc]
        refine List.Perm.append_left _ ?_
        have e := List.take_append_drop j ms
        rw [List.drop_eq_getElem_cons hj] at e
        have e2 : ms.Perm (ms[j] :: (ms.take j ++ ms.drop (j + 1))) := by
          have := List.perm_middle (a := ms[j]) (l₁ := ms.take j) (l₂ := ms.drop (j + 1))
          rw [e] at this
          exact this
        exact e2.symm
    · rintro σ H2 ⟨ns, ms, l, v3, v4, rfl, hp2, hnl, hl2, hml, hlp, hpm, s2⟩
      walk_at "rd"
      rw [List.length_map] at hml hnl
      rw [List.length_eq_zero_iff.mp (show ms.length = 0 by omega), List.append_nil] at hpm
      exact q p ns H2 s2 hp hp2 (ord_perm hpm) hnl

theorem emodN {i : Int} {k n : Nat} (h : i = (k : Int)) : i % (n : Int) = ((k % n : Nat) : Int) := by rw [h, Int.natCast_emod]
theorem nV_small3 {l : List Nat} (h : l.length ≤ 5000) : (nV l).length < sizeLine := by rw [List.length_map]; exact small20000 (by omega)
theorem sh_snoc (g : Nat → Nat) (i : Nat) : nV ((List.range (i + 1)).map g) = nV ((List.range i).map g) ++ [V.int (g i : Nat)] := by rw [List.range_succ, List.map_append, nV_snoc]; rfl
def spTurned : Sp := fun vs H Q _ => ∃ (a : Addr) (ns : List Nat) (m : Int), vs = [.ref a, .int m] ∧ H a = some (.lst (nV ns)) ∧ Ord ns ∧ ns.length ≤ 100 ∧ 0 ≤ m ∧ ∀ p fs H', Same H H' → H' p = some (.lst (nV fs)) → Ord fs → fs.length = ns.length → Q (.ref p) H'
theorem ok_law_turned {f : Addr} {fd : FuncData} (F : Fun K "_law_turned" "_law_turned" s_law_turned f fd) (T : Txt K mg C_WoodError C_NoOrder) : FnOk P w K mg base CX0 1 f fd ["_law_order_here", "_law_number"] spTurned := by
  refine F.ok sc_law_turned (fun vs H Q E h => ?_) (fun cdv A outer s H vs Q E hr h => ?_)
  · obtain ⟨a, ns, m, rfl, _⟩ := h
    rfl
  · obtain ⟨a, ns, m, rfl, ha, ho, hn, hm, q⟩ := h
    refine ⟨_, (pss_cons (ps_set (i := 2) sc_law_turned.nd rfl (Or.inr rfl) (pe_callB call_len_seq (by rfl) T.n_len b_len (pa_d (pv 0) pa_nil rfl)))
      (pss_cons (ps_if (PW.pt (pw_or (pt_cmpR op_eq (pe_op op_mod (pv 1) pe_int) pe_int (nomark _)) (pw_or1 (pt_cmpR op_eq (pv 2) pe_int (nomark _))))) (pss_one (ps_ret (pv 0)))
      pss_nil)
      (pss_cons (ps_if (pt_cmpR op_eq (pe_op op_mod (pv 1) pe_int) pe_int (nomark _)) (pss_one (ps_ret (pe_lc rfl lc_law_turned_0 (pi_range1 rfl T.n_range (pa_d (pv 2) pa_nil rfl)) (fun _ _ _ _ => pif_nil) (fun _ _ _ _ => (pe_op op_mod (pe_op op_add (pe_op op_add (pv 0) pe_int) (pe_op op_mod (pe_op op_fdiv (pv 2) pe_int) pe_int)) (pv 1))))))
      pss_nil)
      (pss_cons (ps_set (i := 4) sc_law_turned.nd rfl (Or.inl rfl) (pe_op op_rep (pe_lst (pa_d pe_int pa_nil rfl)) (pv 2)))
      (pss_cons (ps_for PassesOwn.never rfl (pi_range1 rfl T.n_range (pa_d (pv 2) pa_nil rfl)) (pg_name (i := 3) sc_law_turned.nd rfl (Or.inl rfl))
      (pss_one (ps_asg (pe_ix ix_list (pv 0) (pe_op op_mod (pe_op op_add (pv 3) pe_int) (pv 2)) (fun _ _ => rfl)) (pg_sub (pv 4) (pe_ix ix_list (pv 0) (pv 3) (fun _ _ => rfl)) set_list))))
      (pss_one (ps_ret (pv 4)))))))), ?_⟩
    walk_at "rd"
    refine ⟨a, _, rfl, .inl (SqL.of ha), ?_⟩
    rw [List.length_map]
    walk_at "rd"
    refine iteP (fun _ => ?_) (fun h3 => ?_)
    · walk_at "rd"
      exact q a ns H (Same.refl _) ha ho rfl
    walk_at "rd"
    refine iteP (fun _ => ?_) (fun h0 => ?_)
    · walk_at "rd"
      exact q a ns H (Same.refl _) ha ho rfl
    have hn0 : 0 < ns.length := by
      rcases Nat.eq_zero_or_pos ns.length with h | h
      · exact absurd (by rw [h]; rfl) h0
      · exact h
    walk_at "rd"
    refine iteP (fun _ => ?_) (fun h1 => ?_)
    · walk_at "rd"
      refine ⟨_, rfl, by omega, by omega, ?_⟩
      rw [Int.toNat_natCast]
      have c0 := Int.emod_nonneg (m / 3) (show (7 : Int) ≠ 0 by decide)
      obtain ⟨c, hc⟩ : ∃ c : Nat, m / 3 % 7 = (c : Int) := ⟨(m / 3 % 7).toNat, by omega⟩
      refine lc_range (fun i => nV ((List.range i).map fun k => (k + 1 + c) % ns.length)) rfl (fun i hi => nV_small3 (by rw [List.length_map, List.length_range]; omega)) (fun i H1 R B hi s1 kR kA => ?_) (fun D H1 hD s1 hl1 => ?_)
      · walk_at "rd"
        refine r_mod (by omega) ?_
        rw [hc, emodN (k := i + 1 + c) (by omega)]
        exact kA _ _ (sh_snoc _ _) (Same.refl _)
      · walk_at "rd"
        exact q D _ H1 s1 hl1 (ord_shift _ _) (by rw [List.length_map, List.length_range])
    walk_at "rd"
    refine ⟨few (by simp), fun p1 hp1 => ?_⟩
    have t1 := same_upd (o := .lst [V.int 0]) hp1
    have f1 : upd H p1 (.lst [V.int 0]) p1 = some (.lst [V.int 0]) := upd_same
    generalize upd H p1 (.lst [V.int 0]) = H1 at *
    walk_at "rd"
    refine ⟨p1, _, _, rfl, rfl, f1, by omega, by omega, Nat.le_of_lt (small20000 (by simp; omega)), fun p hp => ?_⟩
    have t2 := same_upd (o := .lst (List.replicate ((ns.length : Nat) : Int).toNat [V.int 0]).flatten) hp
    have s2 := t1.trans t2
    have hp0 := t1.free hp
    have e2 : upd H1 p (.lst (List.replicate ((ns.length : Nat) : Int).toNat [V.int 0]).flatten) p = some (.lst (nV (List.replicate ns.length 0))) := by
      rw [upd_same, Int.toNat_natCast]
      congr 2
      generalize ns.length = n
      induction n with
      | zero => rfl
      | succ n ih => rw [List.replicate_succ, List.flatten_cons, ih, List.replicate_succ]; rfl
    generalize upd H1 p (.lst (List.replicate ((ns.length : Nat) : Int).toNat [V.int 0]).flatten) = H2 at *
    walk_at "rd"
    refine ⟨_, rfl, by omega, by omega, ?_⟩
    rw [Int.toNat_natCast]
    refine for_range (fun k σ H3 => ∃ (fs : List Nat) (v3 : Option V), σ = [some (.ref a), some (.int m), some (.int (ns.length : Nat)), v3, some (.ref p)] ∧ H3 p = some (.lst (nV fs)) ∧ fs.length = ns.length ∧ (∀ j, j < k → fs[nx ns j]? = some (nx ns ((j + 1) % ns.length))) ∧ Same H H3) ?_ ?_ ?_
    · exact ⟨_, _, rfl, e2, List.length_replicate, (fun j hj => absurd hj (Nat.not_lt_zero _)), s2⟩
    · rintro k σ H3 hk ⟨fs, v3, rfl, hp3, hfl, hf, s3⟩
      walk_at "rd"
      refine r_mod (by omega) ?_
      rw [emodN (k := k + 1) (by omega)]
      walk_at "rd"
      refine r_ixL (SqL.of (s3 _ _ ha)) (atI_nat (nx_nV (Nat.mod_lt _ hn0))) ?_
      walk_at "rd"
      rw [show (0 + (k : Int)) = (k : Int) by omega]
      refine r_ixL (SqL.of (s3 _ _ ha)) (atI_nat (nx_nV hk)) ?_
      walk_at "rd"
      refine r_setL hp3 rfl (by rw [List.length_map, hfl]; exact nx_lt ho hk) ?_
      walk_at "rd"
      refine ⟨fs.set (nx ns k) (nx ns ((k + 1) % ns.length)), _, rfl, ?_, by rw [List.length_set]; exact hfl, fun j hj => ?_, push_same s3 hp0⟩
      · rw [upd_same]
        show _ = some (HO.lst (List.map _ _))
        rw [List.map_set]
      · rw [List.getElem?_set]
        rcases Nat.lt_or_eq_of_le (Nat.le_of_lt_succ hj) with h | h
        · rw [if_neg fun e => by have := nx_inj ho hk (by omega) e; omega]
          exact hf j h
        · rw [h, if_pos rfl, if_pos (by rw [hfl]; exact nx_lt ho hk)]
    · rintro σ H3 ⟨fs, v3, rfl, hp3, hfl, hf, s3⟩
      walk_at "rd"
      exact q p fs H3 s3 hp3 (ord_turn ho hfl hf) hfl

theorem lens_of (N : Int) (h : 0 ≤ N) (b : Bool) : ∃ n : Nat, atI [V.int (61 + N / 8 % 140), V.int 1100] (if b = true then 1 else 0) = some (.int n) ∧ n ≤ 1100 ∧ 0 < n := by
  have b1 := Int.emod_nonneg (N / 8) (show (140 : Int) ≠ 0 by decide)
  have b2 := Int.emod_lt_of_pos (N / 8) (show (0 : Int) < 140 by decide)
  cases b with
  | false =>
    refine ⟨(61 + N / 8 % 140).toNat, ?_, by omega, by omega⟩
    rw [Int.toNat_of_nonneg (by omega)]
    exact atI_nat (j := 0) rfl
  | true => exact ⟨1100, atI_nat (j := 1) rfl, by omega, by omega⟩
def spGreat : Sp := fun vs H Q _ => ∃ (m : Int), vs = [.int m] ∧ 0 ≤ m ∧ ∀ p fs H', Same H H' → H' p = some (.lst (nV fs)) → Ord fs → fs.length ≤ 1100 → 0 < fs.length → Q (.ref p) H'
theorem ok_law_great {f : Addr} {fd : FuncData} (F : Fun K "_law_great" "_law_great" s_law_great f fd) (T : Txt K mg C_WoodError C_NoOrder) : FnOk P w K mg base CX0 1 f fd ["_law_number"] spGreat := by
  refine F.ok sc_law_great (fun vs H Q E h => ?_) (fun cdv A outer s H vs Q E hr h => ?_)
  · obtain ⟨m, rfl, _⟩ := h
    rfl
  · obtain ⟨m, rfl, hm, q⟩ := h
    refine ⟨_, (pss_cons (ps_set (i := 1) sc_law_great.nd rfl (Or.inr rfl) (pe_ix ix_list (pe_lst (pa_d (pe_op op_add pe_int (pe_op op_mod (pe_op op_fdiv (pv 0) pe_int) pe_int)) (pa_d pe_int pa_nil rfl) rfl)) (pe_callTy call_int1 (by rfl) T.n_int b_int (pa_d (pe_cmpR op_eq (pe_op op_mod (pv 0) pe_int) pe_int (nomark _)) pa_nil rfl)) (fun _ _ => rfl)))
      (pss_one (ps_ret (pe_lc rfl lc_law_great_0 (pi_range1 rfl T.n_range (pa_d (pv 1) pa_nil rfl)) (fun _ _ _ _ => pif_nil) (fun _ _ _ _ => (pe_op op_mod (pe_op op_add (pv 0) pe_int) (pv 1))))))), ?_⟩
    walk_at "rd"
    refine ⟨few (by simp), fun p1 h1 => ?_⟩
    have t1 := same_upd (o := .lst [V.int (61 + m / 8 % 140), V.int 1100]) h1
    have e1 : upd H p1 (.lst [V.int (61 + m / 8 % 140), V.int 1100]) p1 = some (.lst [V.int (61 + m / 8 % 140), V.int 1100]) := upd_same
    generalize upd H p1 (.lst [V.int (61 + m / 8 % 140), V.int 1100]) = H1 at *
    walk_at "rd"
    refine .inr ⟨_, rfl, ?_⟩
    obtain ⟨n, hat, hn1, hn0⟩ := lens_of m hm (decide (V.int (m % 8) = V.int 0))
    refine r_ixL (SqL.of e1) hat ?_
    walk_at "rd"
    refine ⟨_, rfl, by omega, by omega, ?_⟩
    rw [Int.toNat_natCast]
    refine lc_range (fun i => nV ((List.range i).map fun k => (k + 1 + 0) % n)) rfl (fun i hi => nV_small3 (by rw [List.length_map, List.length_range]; omega)) (fun i H2 R B hi s2 kR kA => ?_) (fun D H2 hD s2 hl2 => ?_)
    · walk_at "rd"
      refine r_mod (by omega) ?_
      rw [emodN (k := i + 1 + 0) (by omega)]
      exact kA _ _ (sh_snoc _ _) (Same.refl _)
    · walk_at "rd"
      exact q D _ H2 (t1.trans s2) hl2 (ord_shift _ _) (by rw [List.length_map, List.length_range]; omega) (by rw [List.length_map, List.length_range]; omega)

theorem atI_end {xs : List V} {v : V} (h : xs[xs.length - 1]? = some v) : atI xs (-1) = some v := by
  have hl := at_lt h
  unfold atI ixN
  rw [if_neg (by decide), if_pos (by omega)]
  show xs[((-1 : Int) + (xs.length : Int)).toNat]? = _
  rw [show ((-1 : Int) + (xs.length : Int)).toNat = xs.length - 1 by omega]
  exact h
/-- which are met, in a dict -/
def MetD (kvs : List (Key × V)) (S : List Nat) : Prop := ∀ x : Nat, (valV kvs (.inl (x : Int))).isSome = true ↔ x ∈ S
theorem MetD.put {kvs : List (Key × V)} {S : List Nat} {y : Nat} {v : V} (h : MetD kvs S) : MetD (putK kvs (.inl (y : Int)) v) (S ++ [y]) := fun x => by
  rw [valV_put, List.mem_append, List.mem_singleton, ← h x]
  by_cases e : x = y
  · rw [if_pos (by rw [e])]
    exact ⟨fun _ => .inr e, fun _ => rfl⟩
  · rw [if_neg fun z => e (by have := Sum.inl.inj z; omega)]
    exact ⟨.inl, fun z => z.resolve_right e⟩
theorem metD_not {kvs : List (Key × V)} {S : List Nat} {x : Nat} (h : MetD kvs S) (hx : x ∉ S) : (valV kvs (.inl (x : Int))).isSome = false := by
  cases e : (valV kvs (.inl (x : Int))).isSome with
  | false => rfl
  | true => exact absurd ((h x).mp e) hx
theorem fl_snoc {st : Nat} {R : List Nat} {i : Nat} (hi : i < R.length) : ((List.range (i + 1)).filter fun k => k % st == 0).map (fun k => R[k]?.getD 0) = ((List.range i).filter fun k => k % st == 0).map (fun k => R[k]?.getD 0) ++ if i % st = 0 then [R[i]] else [] := by
  rw [List.range_succ, List.filter_append, List.map_append]
  congr 1
  by_cases h : i % st = 0
  · rw [if_pos h]
    simp [h, hi]
  · rw [if_neg h]
    simp [h]
def spJumps : Sp := fun vs H Q _ => ∃ (a : Addr) (ns : List Nat) (st : Nat), vs = [.ref a, .int st] ∧ H a = some (.lst (nV ns)) ∧ Ord ns ∧ ns.length ≤ 3000 ∧ 0 < st ∧
  ∀ d H', Same H H' → H d = none → H' d = some (.dK (kvJ (jOf ns st))) → Q (.ref d) H'
theorem ok_law_jumps {f : Addr} {fd : FuncData} (F : Fun K "_law_jumps" "_law_jumps" s_law_jumps f fd) (T : Txt K mg C_WoodError C_NoOrder) : FnOk P w K mg base CX0 1 f fd ["_law_order_here", "_law_pace"] spJumps := by
  refine F.ok sc_law_jumps (fun vs H Q E h => ?_) (fun cdv A outer s H vs Q E hr h => ?_)
  · obtain ⟨a, ns, st, rfl, _⟩ := h
    rfl
  · obtain ⟨a, ns, st, rfl, ha, ho, hn, hst, q⟩ := h
    refine ⟨_, (pss_cons (ps_set (i := 2) sc_law_jumps.nd rfl (Or.inl rfl) pe_dnew)
      (pss_cons (ps_set (i := 3) sc_law_jumps.nd rfl (Or.inl rfl) pe_dnew)
      (pss_cons (ps_for PassesOwn.never rfl (pi_range1 rfl T.n_range (pa_d (pe_callB call_len_seq (by rfl) T.n_len b_len (pa_d (pv 0) pa_nil rfl)) pa_nil rfl)) (pg_name (i := 4) sc_law_jumps.nd rfl (Or.inl rfl))
      (pss_one (ps_if (pt_cmpR op_notInD (pv 4) (pv 3) rfl) (pss_cons (ps_set (i := 5) sc_law_jumps.nd rfl (Or.inr rfl) (pe_lst pa_nil))
      (pss_cons (ps_set (i := 6) sc_law_jumps.nd rfl (Or.inl rfl) (pv 4))
      (pss_cons (ps_while PassesOwn.never (pt_cmpR op_notInD (pv 6) (pv 3) rfl)
      (pss_cons (ps_asg pe_bl (pg_sub (pv 3) (pv 6) set_dict))
      (pss_cons (ps_expr (pe_bm PySem.F.plainAttrs_list PySem.F.slot_list_append PySem.F.type_list_append mt_append (pv 5) (pa_d (pv 6) pa_nil rfl)))
      (pss_one (ps_set (i := 6) sc_law_jumps.nd rfl (Or.inl rfl) (pe_ix ix_list (pv 0) (pv 6) (fun _ _ => rfl)))))))
      (pss_one (ps_if (pt_cmpR op_gt (pe_callB call_len_seq (by rfl) T.n_len b_len (pa_d (pv 5) pa_nil rfl)) (pv 1) (nomark _)) (pss_cons (ps_setlc (i := 8) rfl lc_law_jumps_0 sc_law_jumps.nd rfl rfl (pi_range1 rfl T.n_range (pa_d (pe_callB call_len_seq (by rfl) T.n_len b_len (pa_d (pv 5) pa_nil rfl)) pa_nil rfl)) (fun _ _ _ _ => pif_one (pt_cmpR op_eq (pe_op op_mod (pv 0) (pv 2)) pe_int (nomark _))) (fun _ _ _ _ => (pe_ix (ix_listK K) (pv 1) (pv 0) (fun _ _ => rfl))))
      (pss_one (ps_for PassesOwn.never rfl (pi_range1 rfl T.n_range (pa_d (pe_callB call_len_seq (by rfl) T.n_len b_len (pa_d (pv 8) pa_nil rfl)) pa_nil rfl)) (pg_name (i := 7) sc_law_jumps.nd rfl (Or.inl rfl))
      (pss_one (ps_asg (pe_ix ix_list (pv 8) (pe_op op_sub (pv 7) pe_int) (fun _ _ => rfl)) (pg_sub (pv 2) (pe_ix ix_list (pv 8) (pv 7) (fun _ _ => rfl)) set_dict))))))
      pss_nil)))))
      pss_nil)))
      (pss_one (ps_ret (pv 2)))))), ?_⟩
    walk_at "rd"
    intro d hd
    have t0 := same_upd (o := .dK []) hd
    have d0 : upd H d (.dK []) d = some (.dK []) := upd_same
    generalize upd H d (.dK []) = H0 at *
    walk_at "rd"
    intro m hm
    have hm0 := t0.free hm
    have hdm : d ≠ m := ne_of_none d0 hm
    have t1 := same_upd (o := .dK []) hm
    have s1 := t0.trans t1
    have d1 := t1 _ _ d0
    have m1 : upd H0 m (.dK []) m = some (.dK []) := upd_same
    generalize upd H0 m (.dK []) = H1 at *
    walk_at "rd"
    refine ⟨a, _, rfl, .inl (SqL.of (s1 _ _ ha)), ?_⟩
    rw [List.length_map]
    refine ⟨_, rfl, by omega, by omega, ?_⟩
    rw [Int.toNat_natCast]
    refine for_range (fun i σ H2 => ∃ (kvs : List (Key × V)) (v4 v5 v6 v7 v8 : Option V), σ = [some (.ref a), some (.int st), some (.ref d), some (.ref m), v4, v5, v6, v7, v8] ∧ H2 d = some (.dK (kvJ (jmp st (rnds ns i)))) ∧ H2 m = some (.dK kvs) ∧ MetD kvs (rnds ns i).flatten ∧ kvs.length ≤ (rnds ns i).flatten.length ∧ Same H H2) ?_ ?_ ?_
    · exact ⟨[], _, _, _, _, _, rfl, d1, m1, fun x => ⟨fun h => by (cases h), fun h => by (cases h)⟩, Nat.zero_le _, s1⟩
    · rintro i σ H2 hi ⟨kvs, v4, v5, v6, v7, v8, rfl, hd2, hm2, hM, hkl, s2⟩
      have hi4 := few_below ns.length _ (rnds_spec ho i (by omega)).2.1 fun x hx => rnds_lt ho (by omega) hx
      walk_at "rd"
      rw [show (0 + (i : Int)) = (i : Int) by omega]
      refine r_notInD hm2 ?_
      by_cases hin : i ∈ (rnds ns i).flatten
      · rw [(hM i).mpr hin, show (!true) = false from rfl]
        walk_at "rd"
        have en : rnds ns (i + 1) = rnds ns i := by
          show (if i ∈ (rnds ns i).flatten then _ else _) = _
          rw [if_pos hin]
        rw [en]
        exact ⟨kvs, _, _, _, _, _, rfl, hd2, hm2, hM, hkl, s2⟩
      · have en : rnds ns (i + 1) = rnds ns i ++ [cyc ns i] := by
          show (if i ∈ (rnds ns i).flatten then _ else _) = _
          rw [if_neg hin]
        rw [metD_not hM hin, show (!false) = true from rfl]
        walk_at "rd"
        refine ⟨Nat.zero_le _, fun r hr => ?_⟩
        have t3 := same_upd (o := .lst []) hr
        have hr0 := s2.free hr
        have hrd : r ≠ d := (ne_of_none hd2 hr).symm
        have hrm : r ≠ m := (ne_of_none hm2 hr).symm
        have s3 := s2.trans t3
        have hd3 := t3 _ _ hd2
        have hm3 := t3 _ _ hm2
        have hr3 : upd H2 r (.lst []) r = some (.lst []) := upd_same
        generalize upd H2 r (.lst []) = H3 at *
        obtain ⟨pp1, pp2, pp3, _⟩ := per_spec ho hi
        walk_at "rd"
        refine while_rd (fun σ H4 => ∃ (kvs2 : List (Key × V)) (j : Nat), σ = [some (.ref a), some (.int st), some (.ref d), some (.ref m), some (.int i), some (.ref r), some (.int (itr ns j i)), v7, v8] ∧ j ≤ per ns i ∧ H4 d = some (.dK (kvJ (jmp st (rnds ns i)))) ∧ H4 m = some (.dK kvs2) ∧ MetD kvs2 ((rnds ns i).flatten ++ seg ns j i) ∧ kvs2.length ≤ kvs.length + j ∧ H4 r = some (.lst (nV (seg ns j i))) ∧ Same H H4) (fun _ H4 => per ns i - lenAt H4 r)
          ⟨kvs, 0, rfl, Nat.zero_le _, hd3, hm3, by rw [show seg ns 0 i = [] from rfl, List.append_nil]; exact hM, Nat.le_refl _, hr3, s3⟩ ?_
        rintro z σ H4 ⟨kvs2, j, rfl, hj, hd4, hm4, hM4, hkl4, hr4, s4⟩ hz
        have hsl := seg_len ns j i
        rw [lenAt_of hr4, List.length_map, hsl] at hz
        walk_at "rd"
        refine r_notInD hm4 ?_
        by_cases hlt : j < per ns i
        · have hnew : itr ns j i ∉ (rnds ns i).flatten ++ seg ns j i := fun h => by
            have := round_new ho hi hin hlt
            rcases List.mem_append.mp h with h | h
            · exact this.1 h
            · exact this.2 h
          rw [metD_not hM4 hnew, show (!false) = true from rfl]
          walk_at "rd"
          refine r_turn ?_
          walk_at "rd"
          refine r_setD hm4 (small20000 (by omega)) ?_
          have hlp := length_putK kvs2 (.inl ((itr ns j i : Nat) : Int) : Key) (V.bl true)
          have hM5 := hM4.put (y := itr ns j i) (v := V.bl true)
          generalize putK kvs2 (.inl ((itr ns j i : Nat) : Int) : Key) (V.bl true) = kvs3 at *
          have s5 := push_same (o := .dK kvs3) s4 hm0
          have hm5 : upd H4 m (.dK kvs3) m = some (.dK kvs3) := upd_same
          have hr5 : upd H4 m (.dK kvs3) r = some (.lst (nV (seg ns j i))) := by rw [upd_ne hrm]; exact hr4
          have hd5 : upd H4 m (.dK kvs3) d = some (.dK (kvJ (jmp st (rnds ns i)))) := by rw [upd_ne hdm]; exact hd4
          generalize upd H4 m (.dK kvs3) = H5 at *
          walk_at "rd"
          refine ⟨.inl ⟨rfl, _, SqL.of hr5⟩, ?_⟩
          walk_at "rd"
          refine r_append hr5 (by rw [List.length_map]; exact small20000 (by omega)) ?_
          walk_at "rd"
          refine r_ixL (SqL.of ((push_same s5 hr0) _ _ ha)) (atI_nat (nx_nV (itr_lt ho hi j))) ?_
          walk_at "rd"
          refine ⟨⟨kvs3, j + 1, rfl, hlt, by rw [upd_ne hrd.symm]; exact hd5, by rw [upd_ne hrm.symm]; exact hm5, by rw [seg_succ, ← List.append_assoc]; exact hM5, by omega, by rw [upd_same, nV_snoc, seg_succ], push_same s5 hr0⟩, ?_⟩
          rw [lenAt_of upd_same, List.length_append, List.length_map, hsl]
          simp
          omega
        · obtain rfl : j = per ns i := by omega
          have hcy : seg ns (per ns i) i = cyc ns i := rfl
          have hin2 : itr ns (per ns i) i ∈ (rnds ns i).flatten ++ seg ns (per ns i) i := List.mem_append_right _ (round_end ho hi)
          rw [(hM4 _).mpr hin2, show (!true) = false from rfl]
          rw [hcy] at hM4 hr4
          have hnd := jmp_nodup hst (rnds_spec ho (i + 1) hi).2.1
          have hfl : (rnds ns (i + 1)).flatten = (rnds ns i).flatten ++ cyc ns i := by rw [en, List.flatten_append, List.flatten_singleton]
          rw [en, jmp_snoc] at hnd
          have hjl := jmp_len ho hst (show i ≤ ns.length by omega)
          have hcl : (cyc ns i).length = per ns i := cyc_len
          walk_at "rd"
          refine ⟨r, _, rfl, .inl (SqL.of hr4), ?_⟩
          walk_at "rd"
          rw [List.length_map, hcl]
          refine iteP (fun hlg => ?_) (fun hlg => ?_)
          · have hlg : st < (cyc ns i).length := by omega
            have hpr : prs st (cyc ns i) = (marks st (cyc ns i)).zip (rot (marks st (cyc ns i))) := by unfold prs; rw [if_pos hlg]
            walk_at "rd"
            refine ⟨r, _, rfl, .inl (SqL.of hr4), ?_⟩
            rw [List.length_map, hcl]
            refine ⟨_, rfl, by omega, by omega, ?_⟩
            rw [Int.toNat_natCast]
            refine lc_range (fun k => nV (((List.range k).filter fun k => k % st == 0).map fun k => (cyc ns i)[k]?.getD 0)) rfl (fun k hk => nV_small3 ?_) (fun k H6 R B hk s6 kR kA => ?_) (fun D H6 hD s6 hl6 => ?_)
            · rw [List.length_map]
              have := List.length_filter_le (fun k => k % st == 0) (List.range k)
              rw [List.length_range] at this
              omega
            · walk_at "rd"
              rw [show (0 + (k : Int)) = (k : Int) by omega]
              refine r_mod (by omega) ?_
              rw [emodN (k := k) rfl]
              have hk2 : k < (cyc ns i).length := by omega
              have sn := fl_snoc (st := st) hk2
              walk_at "rd"
              refine iteP (fun h0 => ?_) (fun h0 => ?_)
              · walk_at "rd"
                refine r_ixL (SqL.of (s6 _ _ hr4)) (atI_nat (nV_at (List.getElem?_eq_getElem hk2))) ?_
                refine kA _ _ ?_ (Same.refl _)
                have h0 : k % st = 0 := vN.mp h0
                show nV _ = nV _ ++ _
                rw [sn, if_pos h0, nV_snoc]
              · refine kR ?_ _ (Same.refl _)
                show nV _ = nV _
                rw [sn, if_neg fun z => h0 (vN.mpr z), List.append_nil]
            · have hmk := marks_filter st hst (cyc ns i)
              rw [hcl] at hmk
              rw [hmk] at hl6
              have s46 := s4.trans s6
              have hd6 := s6 _ _ hd4
              have hm6 := s6 _ _ hm4
              have hDd : D ≠ d := (ne_of_none hd4 hD).symm
              have hml : (marks st (cyc ns i)).length ≤ 3000 := by
                have h1 := few_below ns.length (marks st (cyc ns i)) (marks_nodup hst (cyc_nodup ho hi)) fun x hx => by
                  obtain ⟨k, _, e⟩ := (mem_marks hst).mp hx
                  obtain ⟨j, _, rfl⟩ := mem_cyc.mp (List.mem_of_getElem? e)
                  exact itr_lt ho hi j
                omega
              have hD0 := s4.free hD
              generalize marks st (cyc ns i) = mk at *
              walk_at "rd"
              refine ⟨D, _, rfl, .inl (SqL.of hl6), ?_⟩
              rw [List.length_map]
              refine ⟨_, rfl, by omega, by omega, ?_⟩
              rw [Int.toNat_natCast]
              refine for_range (fun k σ H7 => ∃ (v7 : Option V), σ = [some (.ref a), some (.int st), some (.ref d), some (.ref m), some (.int i), some (.ref r), some (.int (itr ns (per ns i) i)), v7, some (.ref D)] ∧ H7 d = some (.dK (kvJ (jmp st (rnds ns i) ++ (mk.zip (rot mk)).take k))) ∧ H7 D = some (.lst (nV mk)) ∧ H7 m = some (.dK kvs2) ∧ Same H H7) ?_ ?_ ?_
              · exact ⟨_, rfl, by rw [List.take_zero, List.append_nil]; exact hd6, hl6, hm6, s46⟩
              · rintro k σ H7 hk ⟨v7, rfl, hd7, hD7, hm7, s7⟩
                rw [hpr] at hnd
                have hkz : k < (mk.zip (rot mk)).length := by rw [List.length_zip, rot_len]; omega
                have hz1 : (mk.zip (rot mk))[k]? = some (mk[k], (rot mk)[k]'(by rw [rot_len]; exact hk)) := by
                  rw [List.getElem?_zip_eq_some]
                  exact ⟨List.getElem?_eq_getElem hk, List.getElem?_eq_getElem (by rw [rot_len]; exact hk)⟩
                have hro := rot_at hk
                rw [List.getElem?_eq_getElem (show k < (rot mk).length by rw [rot_len]; exact hk)] at hro
                have htk : (mk.zip (rot mk)).take (k + 1) = (mk.zip (rot mk)).take k ++ [(mk[k], (rot mk)[k]'(by rw [rot_len]; exact hk))] := by rw [List.take_add_one, hz1]; rfl
                have hkn : mk[k] ∉ (jmp st (rnds ns i) ++ (mk.zip (rot mk)).take k).map (·.1) := fun hmem => by
                  have h1 : ((jmp st (rnds ns i) ++ (mk.zip (rot mk)).take (k + 1)).map (·.1)).Nodup := by
                    refine hnd.sublist (List.Sublist.map _ (List.Sublist.append_left (List.take_sublist _ _) _))
                  rw [htk, ← List.append_assoc, List.map_append, List.nodup_append] at h1
                  exact h1.2.2 _ hmem _ (by simp) rfl
                have hlv : (jmp st (rnds ns i) ++ (mk.zip (rot mk)).take k).length ≤ 10000 := by
                  rw [List.length_append, List.length_take]
                  omega
                generalize (rot mk)[k]'(by rw [rot_len]; exact hk) = v at *
                walk_at "rd"
                rw [show (0 + (k : Int)) = (k : Int) by omega]
                have hix : atI (nV mk) ((k : Int) - 1) = some (.int v) := by
                  by_cases h0 : k = 0
                  · rw [if_pos h0] at hro
                    rw [h0]
                    exact atI_end (by rw [List.length_map]; exact nV_at hro.symm)
                  · rw [if_neg h0] at hro
                    rw [show (k : Int) - 1 = ((k - 1 : Nat) : Int) by omega]
                    exact atI_nat (nV_at hro.symm)
                refine r_ixL (SqL.of hD7) hix ?_
                walk_at "rd"
                refine r_ixL (SqL.of hD7) (atI_nat (nV_at (List.getElem?_eq_getElem hk))) ?_
                walk_at "rd"
                refine r_setD hd7 (by rw [List.length_map]; exact small20000 (by omega)) ?_
                rw [put_kvJ hkn]
                walk_at "rd"
                exact ⟨_, rfl, by rw [upd_same, htk, List.append_assoc], by rw [upd_ne hDd]; exact hD7, by rw [upd_ne hdm.symm]; exact hm7, push_same s7 hd⟩
              · rintro σ H7 ⟨v7, rfl, hd7, hD7, hm7, s7⟩
                walk_at "rd"
                refine ⟨kvs2, _, _, _, _, _, rfl, ?_, hm7, by rw [hfl]; exact hM4, by rw [hfl, List.length_append]; omega, s7⟩
                rw [en, jmp_snoc, hpr]
                rw [List.take_of_length_le (by rw [List.length_zip, rot_len]; omega)] at hd7
                exact hd7
          · walk_at "rd"
            have hpr : prs st (cyc ns i) = [] := by unfold prs; rw [if_neg (by omega)]
            exact ⟨kvs2, _, _, _, _, _, rfl, by rw [en, jmp_snoc, hpr, List.append_nil]; exact hd4, hm4, by rw [hfl]; exact hM4, by rw [hfl, List.length_append]; omega, s4⟩
    · rintro σ H2 ⟨kvs, v4, v5, v6, v7, v8, rfl, hd2, hm2, hM, hkl, s2⟩
      walk_at "rd"
      exact q d H2 s2 hd hd2

theorem pace_of {N : Int} (h : 0 ≤ N) : ∃ st : Nat, atI [V.int (1 + N / 64 % 64), V.int (1 + N / 64 % 9), V.int 16] (N % 3) = some (.int st) ∧ 0 < st ∧ st ≤ 64 := by
  have b1 := Int.emod_nonneg (N / 64) (show (64 : Int) ≠ 0 by decide)
  have b2 := Int.emod_lt_of_pos (N / 64) (show (0 : Int) < 64 by decide)
  have b3 := Int.emod_nonneg (N / 64) (show (9 : Int) ≠ 0 by decide)
  have b4 := Int.emod_lt_of_pos (N / 64) (show (0 : Int) < 9 by decide)
  have b5 := Int.emod_nonneg N (show (3 : Int) ≠ 0 by decide)
  have b6 := Int.emod_lt_of_pos N (show (0 : Int) < 3 by decide)
  have key : N % 3 = ((0 : Nat) : Int) ∨ N % 3 = ((1 : Nat) : Int) ∨ N % 3 = ((2 : Nat) : Int) := by omega
  rcases key with e | e | e
  · refine ⟨(1 + N / 64 % 64).toNat, ?_, by omega, by omega⟩
    rw [e, Int.toNat_of_nonneg (by omega)]
    exact atI_nat rfl
  · refine ⟨(1 + N / 64 % 9).toNat, ?_, by omega, by omega⟩
    rw [e, Int.toNat_of_nonneg (by omega)]
    exact atI_nat rfl
  · refine ⟨16, ?_, by omega, by omega⟩
    rw [e]
    exact atI_nat rfl
theorem IsShX.put {C x h : Addr} {H : Hp} {ns : List Nat} {st : Nat} {xs ys : List V} (s : IsShX C H x ns st) (hh : H h = some (.lst xs)) : IsShX C (upd H h (.lst ys)) x ns st := by
  obtain ⟨dx, t, d, h1, h2, h3⟩ := s
  exact ⟨dx, t, d, by rw [upd_ne (ne_of h1 hh (by intro z; cases z))]; exact h1, by rw [upd_ne (ne_of h2 hh (by intro z; cases z))]; exact h2, by rw [upd_ne (ne_of h3 hh (by intro z; cases z))]; exact h3⟩
theorem flat_nV (l : List Nat) : (nV l).all flatV = true := List.all_eq_true.mpr fun x hx => by
  obtain ⟨n, _, rfl⟩ := List.mem_map.mp hx
  rfl
theorem same_tups {K : PySem.W.Frag} {H : Hp} {a b : Addr} {as bs : List Addr} {qs : List (Int × Int)} (h1 : H a = some (.lst (as.map V.ref))) (h2 : H b = some (.lst (bs.map V.ref))) (t1 : TupsAt H as qs) (t2 : TupsAt H bs qs) : SameD K H 60 (.ref a) (.ref b) := by
  refine .lst (n := 59) (SqL.of h1) (SqL.of h2) (by rw [List.length_map, List.length_map, t1.1, t2.1]) fun j x y e1 e2 => ?_
  rw [List.getElem?_map] at e1 e2
  cases ea : as[j]? with
  | none => rw [ea] at e1; cases e1
  | some c =>
    cases eb : bs[j]? with
    | none => rw [eb] at e2; cases e2
    | some d =>
      rw [ea] at e1
      rw [eb] at e2
      cases e1
      cases e2
      have hl := (List.getElem?_eq_some_iff.mp ea).1
      rw [t1.1] at hl
      have hq : qs[j]? = some qs[j] := List.getElem?_eq_getElem hl
      exact SameD.tups (n := 58) (SqT.of (t1.2 j c _ ea hq)) (SqT.of (t2.2 j d _ eb hq)) rfl
def spLaw (K : PySem.W.Frag) : Sp := fun vs H Q _ => ∃ (a : Addr) (ns : List Int), vs = [.ref a] ∧ SqL K H a (ns.map V.int) ∧ ns.length ≤ 63 ∧ ∀ H', Q (.bl true) H'
theorem ok_law {f : Addr} {fd : FuncData} (F : Fun K "law" "law" s_law f fd) (T : Txt K mg C_WoodError C_NoOrder) (Z : Z_Shortcuts K C_Shortcuts) (c_Shortcuts : MkrE P w K mg base "Shortcuts" C_Shortcuts 4 ["self", "order", "step"] (spShInitX K C_NoOrder C_Shortcuts)) (c_ShortcutsD : MkrED P w K mg base "Shortcuts" C_Shortcuts 4 ["self", "order", "step"] (spShInitX K C_NoOrder C_Shortcuts) [.int 16])
    (c_ShortcutsK : MkrEK P w K mg base "Shortcuts" C_Shortcuts 4 ["self", "order", "step"] (spShInitX K C_NoOrder C_Shortcuts) ["step"])
    (m_Shortcuts_there : Mth P w K mg base C_Shortcuts "there" 1 ["self", "place"] (spThereX C_Shortcuts)) (m_Shortcuts_shortcuts : Mth P w K mg base C_Shortcuts "shortcuts" 1 ["self"] (spShorts C_Shortcuts))
    (c_law_cell_at : Cal P w K mg base "_law_cell_at" 1 ["_law_script", "_law_k"] (spCell K)) (c_law_whole : Cal P w K mg base "_law_whole" 1 ["_law_found"] (spWhole0 K))
    (c_law_mixed : Cal P w K mg base "_law_mixed" 1 ["_law_cell", "_law_k"] spMixed) (c_law_digits : Cal P w K mg base "_law_digits" 2 ["_law_script", "_law_at", "_law_many"] (spDigits K)) (c_law_order : Cal P w K mg base "_law_order" 1 ["_law_digits_here"] spOrderX)
    (c_law_turned : Cal P w K mg base "_law_turned" 1 ["_law_order_here", "_law_number"] spTurned) (c_law_great : Cal P w K mg base "_law_great" 1 ["_law_number"] spGreat) (c_law_jumps : Cal P w K mg base "_law_jumps" 1 ["_law_order_here", "_law_pace"] spJumps) :
    FnOk P w K mg base CX0 6 f fd ["_law_script"] (spLaw K) := by
  refine F.ok sc_law (fun vs H Q E h => ?_) (fun cdv A outer s H vs Q E hr h => ?_)
  · obtain ⟨a, ns, rfl, _⟩ := h
    rfl
  · obtain ⟨a, ns, rfl, hS, hlen, q⟩ := h
    refine ⟨_, (pss_cons (ps_set (i := 1) sc_law.nd rfl (Or.inl rfl) (pe_op op_mod (pe_fn c_law_mixed (hr.mono (by decide : 1 ≤ _)) (pa_d (pe_fn c_law_cell_at (hr.mono (by decide : 1 ≤ _)) (pa_d (pv 0) (pa_d pe_int pa_nil rfl) rfl)) (pa_d pe_int pa_nil rfl) rfl)) pe_int))
      (pss_cons (ps_set (i := 2) sc_law.nd rfl (Or.inl rfl) (pe_fn c_law_mixed (hr.mono (by decide : 1 ≤ _)) (pa_d (pe_fn c_law_cell_at (hr.mono (by decide : 1 ≤ _)) (pa_d (pv 0) (pa_d pe_int pa_nil rfl) rfl)) (pa_d pe_int pa_nil rfl) rfl)))
      (pss_cons (ps_set (i := 3) sc_law.nd rfl (Or.inl rfl) (pe_fn c_law_turned (hr.mono (by decide : 1 ≤ _)) (pa_d (pe_fn c_law_order (hr.mono (by decide : 1 ≤ _)) (pa_d (pe_fn c_law_digits (hr.mono (by decide : 2 ≤ _)) (pa_d (pv 0) (pa_d pe_int (pa_d (pv 1) pa_nil rfl) rfl) rfl)) pa_nil rfl)) (pa_d (pe_op op_fdiv (pv 2) pe_int) pa_nil rfl) rfl)))
      (pss_cons (ps_ifJ (pt_cmpR op_eq (pe_op op_mod (pe_op op_fdiv (pv 2) pe_int) pe_int) pe_int (nomark _)) (pss_one (ps_set (i := 3) sc_law.nd rfl (Or.inl rfl) (pe_fn c_law_great (hr.mono (by decide : 1 ≤ _)) (pa_d (pe_op op_fdiv (pv 2) pe_int) pa_nil rfl))))
      pss_nil)
      (pss_cons (ps_set (i := 4) sc_law.nd rfl (Or.inl rfl) (pe_ix ix_list (pe_lst (pa_d (pe_op op_add pe_int (pe_op op_mod (pe_op op_fdiv (pv 2) pe_int) pe_int)) (pa_d (pe_op op_add pe_int (pe_op op_mod (pe_op op_fdiv (pv 2) pe_int) pe_int)) (pa_d pe_int pa_nil rfl) rfl) rfl)) (pe_op op_mod (pv 2) pe_int) (fun _ _ => rfl)))
      (pss_cons (ps_set (i := 5) sc_law.nd rfl (Or.inl rfl) (pe_callTy call_list_of (by rfl) T.n_list b_list (pa_d (pv 3) pa_nil rfl)))
      (pss_cons (ps_ifJ (pt_cmpR op_eq (pv 4) pe_int (nomark _)) (pss_one (ps_set (i := 6) sc_law.nd rfl (Or.inr rfl) (pe_mkED c_ShortcutsD (hr.mono (by decide : 5 ≤ _)) passE0 (pa_d (pv 5) pa_nil rfl))))
      (pss_one (ps_if (pt_cmpR op_eq (pe_op op_mod (pv 2) pe_int) pe_int (nomark _)) (pss_one (ps_set (i := 6) sc_law.nd rfl (Or.inr rfl) (pe_mkEK c_ShortcutsK (hr.mono (by decide : 5 ≤ _)) passE0 (pa_d (pv 5) pa_nil rfl) (pk_cons (pv 4) pk_nil))))
      (pss_one (ps_set (i := 6) sc_law.nd rfl (Or.inr rfl) (pe_mkE c_Shortcuts (hr.mono (by decide : 5 ≤ _)) passE0 (pa_d (pv 5) (pa_d (pv 4) pa_nil rfl) rfl)))))))
      (pss_cons (ps_expr (pe_bm0 PySem.F.plainAttrs_list PySem.F.slot_list_reverse PySem.F.type_list_reverse mt_reverse (pv 5)))
      (pss_cons (ps_set (i := 7) sc_law.nd rfl (Or.inl rfl) (pe_sortI rfl rfl T.n_sorted (pe_fn c_law_jumps (hr.mono (by decide : 1 ≤ _)) (pa_d (pv 3) (pa_d (pv 4) pa_nil rfl) rfl))))
      (pss_cons (ps_set (i := 8) sc_law.nd rfl (Or.inl rfl) (pe_mt0 m_Shortcuts_shortcuts (hr.mono (by decide : 1 ≤ _)) (pv 6)))
      (pss_cons (ps_if (PW.pt (pw_or (pt_not (pt_val (pe_callB call_isinst (by rfl) T.n_isinstance b_isinstance (pa_d (pv 8) (pa_d (pe_bltn (v := .ty "list") rfl T.n_list b_list rfl) pa_nil rfl) rfl)))) (pw_or1 (pt_cmpR (op_neD (hu60 hr)) (pv 8) (pv 7) (nomark _))))) (pss_one (ps_ret pe_bl))
      pss_nil)
      (pss_cons (ps_for PassesOwn.never rfl (pi_list (pv 8)) (pg_name (i := 9) sc_law.nd rfl (Or.inl rfl))
      (pss_one (ps_if (PW.pt (pw_or (pt_not (pt_val (pe_callB call_isinst (by rfl) T.n_isinstance b_isinstance (pa_d (pv 9) (pa_d (pe_bltn (v := .ty "tuple") rfl T.n_tuple b_tuple rfl) pa_nil rfl) rfl)))) (pw_or (pt_not (pt_val (pe_fn c_law_whole (hr.mono (by decide : 1 ≤ _)) (pa_d (pe_ix ix_tup (pv 9) pe_int (fun _ _ => rfl)) pa_nil rfl)))) (pw_or1 (pt_not (pt_val (pe_fn c_law_whole (hr.mono (by decide : 1 ≤ _)) (pa_d (pe_ix ix_tup (pv 9) pe_int (fun _ _ => rfl)) pa_nil rfl)))))))) (pss_one (ps_ret pe_bl))
      pss_nil)))
      (pss_cons (ps_expr (pe_bm PySem.F.plainAttrs_list PySem.F.slot_list_append PySem.F.type_list_append mt_append (pv 8) (pa_d pe_non pa_nil rfl)))
      (pss_cons (ps_if (pt_cmpR (op_neD (hu60 hr)) (pe_mt0 m_Shortcuts_shortcuts (hr.mono (by decide : 1 ≤ _)) (pv 6)) (pv 7) (nomark _)) (pss_one (ps_ret pe_bl))
      pss_nil)
      (pss_one (ps_ret (pe_cmpR (op_eqD (hu60 hr)) (pe_lc rfl lc_law_0 (pi_range1 rfl T.n_range (pa_d (pe_callB call_len_seq (by rfl) T.n_len b_len (pa_d (pv 3) pa_nil rfl)) pa_nil rfl)) (fun _ _ _ _ => pif_nil) (fun _ _ _ _ => (pe_mt m_Shortcuts_there (hr.mono (by decide : 1 ≤ _)) (pv 1) (pa_d (pv 0) pa_nil rfl)))) (pv 3) (nomark _)))))))))))))))))), ?_⟩
    walk_at "rd"
    refine ⟨a, ns, 0, rfl, hS, fun c0 => ?_⟩
    walk_at "rd"
    refine ⟨c0, 1, rfl, by decide, by decide, fun r0 _ _ => ?_⟩
    walk_at "rd"
    obtain ⟨m, em, hm⟩ := emod_to r0 (n := 61) (by decide)
    rw [show ((61 : Nat) : Int) = 61 by rfl] at em
    rw [em]
    refine ⟨a, ns, 1, rfl, hS, fun c1 => ?_⟩
    walk_at "rd"
    refine ⟨c1, 2, rfl, by decide, by decide, fun N hN0 hN1 => ?_⟩
    walk_at "rd"
    refine ⟨a, ns, 2, _, rfl, hS, by omega, by omega, fun p1 ds H1 s1 f1 e1 hl1 => ?_⟩
    walk_at "rd"
    refine ⟨p1, ds, rfl, e1, by omega, fun p2 os H2 s2 f2 e2 ho2 hl2 => ?_⟩
    walk_at "rd"
    refine ⟨p2, os, _, rfl, e2, ho2, by omega, by omega, fun p3 fs H3 s3 e3 ho3 hl3 => ?_⟩
    have s13 := (s1.trans s2).trans s3
    walk_at "rd"
    refine r_ifJ (fun σ H4 => ∃ (o : Addr) (fs : List Nat), σ = [some (.ref a), some (.int (m : Int)), some (.int N), some (.ref o), none, none, none, none, none, none] ∧ H4 o = some (.lst (nV fs)) ∧ Ord fs ∧ fs.length ≤ 1100 ∧ Same H H4) ?_ ?_
    · walk_at "rd"
      refine iteP (fun _ => ?_) (fun _ => ?_)
      · walk_at "rd"
        refine ⟨_, rfl, by omega, fun p5 gs H5 s5 e5 ho5 hl5 hg5 => ?_⟩
        walk_at "rd"
        exact ⟨p5, gs, rfl, e5, ho5, hl5, s13.trans s5⟩
      · walk_at "rd"
        exact ⟨p3, fs, rfl, e3, ho3, by omega, s13⟩
    clear e3 ho3 hl3 s13 s3
    rintro σ H5 ⟨o, fs, rfl, e5, ho5, hl5, s5⟩
    walk_at "rd"
    refine ⟨few (by simp), fun p6 h6 => ?_⟩
    obtain ⟨st, hat, hst0, hst1⟩ := pace_of hN0
    have t6 := same_upd (o := .lst [V.int (1 + N / 64 % 64), V.int (1 + N / 64 % 9), V.int 16]) h6
    have e6 : upd H5 p6 (.lst [V.int (1 + N / 64 % 64), V.int (1 + N / 64 % 9), V.int 16]) p6 = some (.lst [V.int (1 + N / 64 % 64), V.int (1 + N / 64 % 9), V.int 16]) := upd_same
    generalize upd H5 p6 (.lst [V.int (1 + N / 64 % 64), V.int (1 + N / 64 % 9), V.int 16]) = H6 at *
    walk_at "rd"
    refine r_ixL (SqL.of e6) hat ?_
    have o6 := t6 _ _ e5
    have s6 := s5.trans t6
    walk_at "rd"
    refine ⟨o, _, rfl, .inl (SqL.of o6), fun h hh => ?_⟩
    have t7 := same_upd (o := .lst (nV fs)) hh
    have h7 : upd H6 h (.lst (nV fs)) h = some (.lst (nV fs)) := upd_same
    have o7 := t7 _ _ o6
    have hh0 := s6.free hh
    have hoh : o ≠ h := ne_of_none o6 hh
    have s7 := s6.trans t7
    generalize upd H6 h (.lst (nV fs)) = H7 at *
    walk_at "rd"
    refine r_ifJ (fun σ H9 => ∃ x : Addr, σ = [some (.ref a), some (.int (m : Int)), some (.int N), some (.ref o), some (.int st), some (.ref h), some (.ref x), none, none, none] ∧ IsShX C_Shortcuts H9 x fs st ∧ H9 h = some (.lst (nV fs)) ∧ H9 o = some (.lst (nV fs)) ∧ Same H H9) ?_ ?_
    · walk_at "rd"
      refine iteP (fun h16 => ?_) (fun _ => ?_)
      · obtain rfl : st = 16 := by have := V.int.inj h16; omega
        walk_at "rd"
        intro x2 dx2 m1 m2 m3
        have sm2 : Same H7 (upd (upd H7 dx2 (.own x2)) x2 (.ins C_Shortcuts dx2 [])) := same_made m1 m2 (Same.refl _).but
        refine ⟨x2, dx2, h, fs, 16, rfl, upd_same, sm2 _ _ h7, ho5, by omega, hst0, fun H9 s9 hSh9 => ⟨rfl, ?_⟩⟩
        have s89 := same_made m1 m2 s9
        walk_at "rd"
        exact ⟨x2, rfl, hSh9, s89 _ _ h7, s89 _ _ o7, s7.trans s89⟩
      · walk_at "rd"
        refine iteP (fun _ => ?_) (fun _ => ?_)
        · walk_at "rd"
          refine ⟨rfl, fun x2 dx2 m1 m2 m3 => ?_⟩
          have sm2 : Same H7 (upd (upd H7 dx2 (.own x2)) x2 (.ins C_Shortcuts dx2 [])) := same_made m1 m2 (Same.refl _).but
          refine ⟨x2, dx2, h, fs, st, rfl, upd_same, sm2 _ _ h7, ho5, by omega, hst0, fun H9 s9 hSh9 => ⟨rfl, ?_⟩⟩
          have s89 := same_made m1 m2 s9
          walk_at "rd"
          exact ⟨x2, rfl, hSh9, s89 _ _ h7, s89 _ _ o7, s7.trans s89⟩
        · walk_at "rd"
          intro x2 dx2 m1 m2 m3
          have sm2 : Same H7 (upd (upd H7 dx2 (.own x2)) x2 (.ins C_Shortcuts dx2 [])) := same_made m1 m2 (Same.refl _).but
          refine ⟨x2, dx2, h, fs, st, rfl, upd_same, sm2 _ _ h7, ho5, by omega, hst0, fun H9 s9 hSh9 => ⟨rfl, ?_⟩⟩
          have s89 := same_made m1 m2 s9
          walk_at "rd"
          exact ⟨x2, rfl, hSh9, s89 _ _ h7, s89 _ _ o7, s7.trans s89⟩
    rintro σ H9 ⟨x, rfl, hSh, h9, o9, s9⟩
    walk_at "rd"
    refine ⟨.inl ⟨rfl, _, SqL.of h9⟩, ?_⟩
    walk_at "rd"
    refine ⟨h, _, rfl, rfl, h9, ?_⟩
    have hSh := hSh.put (ys := (nV fs).reverse) h9
    have o10 : upd H9 h (.lst (nV fs).reverse) o = some (.lst (nV fs)) := by rw [upd_ne hoh]; exact o9
    have s10 := push_same (o := .lst (nV fs).reverse) s9 hh0
    generalize upd H9 h (.lst (nV fs).reverse) = H10 at *
    walk_at "rd"
    refine ⟨o, fs, st, rfl, o10, ho5, by omega, hst0, fun dj H11 s11 f11 j11 => ?_⟩
    refine ⟨dj, jI (jOf fs st), rfl, by rw [j11, kvJ_I], fun pd ad H12 s12 f12 d12 t12 => ?_⟩
    have o12 := s12 _ _ (s11 _ _ o10)
    have hSh := (hSh.same s11).same s12
    obtain ⟨dx, tt, dd, hx, htt, hdd⟩ := hSh
    have hSh : IsShX C_Shortcuts H12 x fs st := ⟨dx, tt, dd, hx, htt, hdd⟩
    walk_at "rd"
    refine ⟨x, dx, _, rfl, hx, rfl, ?_⟩
    walk_at "rd"
    refine ⟨x, fs, st, rfl, hSh, fun pf af H13 s13 f13 e13 t13 => ?_⟩
    have hpl : af.length ≤ 1100 := by
      rw [t13.1, ssort_len]
      unfold jI
      rw [List.length_map]
      exact Nat.le_trans (jmp_len ho5 hst0 (Nat.le_refl _)) hl5
    walk_at "rd"
    refine ⟨_, _, _, _, rfl, .lst e13, by rfl, ?_⟩
    walk_at "rd"
    refine r_same (same_tups e13 (s13 _ _ d12) t13 (t12.same s13)) ?_
    walk_at "rd"
    refine ⟨pf, rfl, ⟨_, SqL.of e13⟩, ?_⟩
    refine for_list (xs := af.map V.ref) (fun k σ H14 => ∃ v9 : Option V, σ = [some (.ref a), some (.int (m : Int)), some (.int N), some (.ref o), some (.int st), some (.ref h), some (.ref x), some (.ref pd), some (.ref pf), v9] ∧ Same H13 H14) ?_ (fun k σ H14 _ h => by obtain ⟨_, _, h⟩ := h; exact SqL.of (h _ _ e13)) ?_ ?_
    · exact ⟨_, rfl, Same.refl _⟩
    · rintro k y σ H14 hy ⟨v9, rfl, s14⟩
      rw [List.getElem?_map] at hy
      obtain ⟨c, hc, rfl⟩ : ∃ c, af[k]? = some c ∧ V.ref c = y := by
        cases e : af[k]? with
        | none => rw [e] at hy; cases hy
        | some c => rw [e] at hy; exact ⟨c, rfl, Option.some.inj hy⟩
      have hl := (List.getElem?_eq_some_iff.mp hc).1
      rw [t13.1] at hl
      have hct := s14 _ _ (t13.2 k c _ hc (List.getElem?_eq_getElem hl))
      generalize (ssort ltP (jI (jOf fs st)))[k] = qq at hct
      walk_at "rd"
      refine ⟨_, _, _, _, rfl, .tup hct, by rfl, ?_⟩
      walk_at "rd"
      refine r_ixT (SqT.of hct) (atI_nat (j := 0) rfl) ?_
      walk_at "rd"
      refine ⟨_, rfl, any_int _, ?_⟩
      rw [show isI (V.int qq.1) = true from rfl]
      walk_at "rd"
      refine r_ixT (SqT.of hct) (atI_nat (j := 1) rfl) ?_
      walk_at "rd"
      refine ⟨_, rfl, any_int _, ?_⟩
      rw [show isI (V.int qq.2) = true from rfl]
      walk_at "rd"
      exact ⟨_, rfl, s14⟩
    · rintro σ H14 ⟨v9, rfl, s14⟩
      walk_at "rd"
      have e14 := s14 _ _ e13
      refine ⟨.inl ⟨rfl, _, SqL.of e14⟩, ?_⟩
      walk_at "rd"
      refine r_append e14 (by rw [List.length_map]; exact small20000 (by omega)) ?_
      have s24 := push_same (o := .lst (af.map V.ref ++ [V.non])) (s13.trans s14) f13
      have d15 := s24 _ _ d12
      have hS15 := hSh.same s24
      have o15 := s24 _ _ o12
      have hx15 := s24 _ _ hx
      have t15 := t12.same s24
      generalize upd H14 pf (.lst (af.map V.ref ++ [V.non])) = H15 at *
      walk_at "rd"
      refine ⟨x, dx, _, rfl, hx15, rfl, ?_⟩
      walk_at "rd"
      refine ⟨x, fs, st, rfl, hS15, fun pg ag H16 s16 f16 e16 t16 => ?_⟩
      walk_at "rd"
      refine r_same (same_tups e16 (s16 _ _ d15) t16 (t15.same s16)) ?_
      have o16 := s16 _ _ o15
      have hS16 := hS15.same s16
      have hx16 := s16 _ _ hx15
      walk_at "rd"
      refine ⟨o, _, rfl, .inl (SqL.of o16), ?_⟩
      rw [List.length_map]
      refine ⟨_, rfl, by omega, by omega, ?_⟩
      rw [Int.toNat_natCast]
      refine lc_range (fun i => nV (fs.take i)) (by rw [List.take_zero]; rfl) (fun i hi => nV_small3 (by rw [List.length_take]; omega)) (fun i H17 R B hi s17 kR kA => ?_) (fun D H17 hD s17 hl17 => ?_)
      · walk_at "rd"
        rw [show (0 + (i : Int)) = (i : Int) by omega]
        refine ⟨x, dx, _, rfl, s17 _ _ hx16, rfl, ?_⟩
        walk_at "rd"
        refine ⟨x, fs, st, i, rfl, hS16.same s17, hi, ?_⟩
        refine kA _ _ ?_ (Same.refl _)
        show nV _ = nV _ ++ _
        rw [nV_snoc, List.take_add_one, at_nx hi]
        rfl
      · rw [List.take_of_length_le (Nat.le_refl _)] at hl17
        walk_at "rd"
        refine r_same (SameD.lsts (SqL.of hl17) (SqL.of (s17 _ _ o16)) (flat_nV _)) ?_
        walk_at "rd"
        exact q H17

end
set_option maxHeartbeats 8000000 in
theorem all_mk {l : PySem.W.OpenLaw} {w : World} {K : PySem.W.Frag} {h : Heap} {mg : Str → Option Value} {fa : Addr} (X : K.In h) (G : h.Ns mainGlobals mg) (hfa : mg "law" = some (.ref fa))
    {C_Shortcuts : Addr}
    {f0 : Addr} {od0 an0 : Option Addr} {sl0 : Array (Option Value)} {oc0 kV0 dc0 pm0 cd0 ct0 : Value}
    {f1 : Addr} {od1 an1 : Option Addr} {sl1 : Array (Option Value)} {oc1 kV1 dc1 pm1 cd1 ct1 : Value}
    {f2 : Addr} {od2 an2 : Option Addr} {sl2 : Array (Option Value)} {oc2 kV2 dc2 pm2 cd2 ct2 : Value}
    {f3 : Addr} {od3 an3 : Option Addr} {sl3 : Array (Option Value)} {oc3 kV3 dc3 pm3 cd3 ct3 : Value}
    {f4 : Addr} {od4 an4 : Option Addr} {sl4 : Array (Option Value)} {oc4 kV4 dc4 pm4 cd4 ct4 : Value}
    {f5 : Addr} {od5 an5 : Option Addr} {sl5 : Array (Option Value)} {oc5 kV5 dc5 pm5 cd5 ct5 : Value}
    {f6 : Addr} {od6 an6 : Option Addr} {sl6 : Array (Option Value)} {oc6 kV6 dc6 pm6 cd6 ct6 : Value}
    {T6 : Addr} {oT6 : Obj} {vT6 : Value} {nT6 : Nat}
    {f7 : Addr} {od7 an7 : Option Addr} {sl7 : Array (Option Value)} {oc7 kV7 dc7 pm7 cd7 ct7 : Value}
    {f8 : Addr} {od8 an8 : Option Addr} {sl8 : Array (Option Value)} {oc8 kV8 dc8 pm8 cd8 ct8 : Value}
    {f9 : Addr} {od9 an9 : Option Addr} {sl9 : Array (Option Value)} {oc9 kV9 dc9 pm9 cd9 ct9 : Value}
    {f10 : Addr} {od10 an10 : Option Addr} {sl10 : Array (Option Value)} {oc10 kV10 dc10 pm10 cd10 ct10 : Value}
    {f11 : Addr} {od11 an11 : Option Addr} {sl11 : Array (Option Value)} {oc11 kV11 dc11 pm11 cd11 ct11 : Value}
    {f12 : Addr} {od12 an12 : Option Addr} {sl12 : Array (Option Value)} {oc12 kV12 dc12 pm12 cd12 ct12 : Value}
    {f13 : Addr} {od13 an13 : Option Addr} {sl13 : Array (Option Value)} {oc13 kV13 dc13 pm13 cd13 ct13 : Value}
    {f14 : Addr} {od14 an14 : Option Addr} {sl14 : Array (Option Value)} {oc14 kV14 dc14 pm14 cd14 ct14 : Value}
    {f15 : Addr} {od15 an15 : Option Addr} {sl15 : Array (Option Value)} {oc15 kV15 dc15 pm15 cd15 ct15 : Value}
    {f16 : Addr} {od16 an16 : Option Addr} {sl16 : Array (Option Value)} {oc16 kV16 dc16 pm16 cd16 ct16 : Value}
    {f17 : Addr} {od17 an17 : Option Addr} {sl17 : Array (Option Value)} {oc17 kV17 dc17 pm17 cd17 ct17 : Value}
    {C_WoodError : Addr}
    {C_NoOrder : Addr}
    {nm_NoOrder qn_NoOrder : Str} {N_NoOrder : Addr} {bs_NoOrder : List Value} {sn_NoOrder : List Str} {sub_NoOrder : List Value} {ab_NoOrder : Bool} {col_NoOrder : Option Bool} {dd_NoOrder : Option Addr} {k0_NoOrder k1_NoOrder k2_NoOrder k3_NoOrder k5_NoOrder : Option Value}
    (a_Shortcuts : PySem.W.nsIn K mainGlobals "Shortcuts" = some (some (.ref C_Shortcuts)))
    (pg_Shortcuts : PySem.W.plainGet K C_Shortcuts Str.empty = true)
    (hd_Shortcuts : PySem.W.hasDictIn K C_Shortcuts = true)
    (po_Shortcuts : PySem.W.plainOver K C_Shortcuts = true)
    (sa_Shortcuts : PySem.W.findIn K (.ref C_Shortcuts) "__setattr__" = some (some (.builtin "object.__setattr__")))
    (mk_Shortcuts : PySem.W.makesIn K C_Shortcuts = true)
    (kc_Shortcuts : PySem.W.keepIn K (.ref C_Shortcuts) = true)
    (n_Shortcuts_onward : PySem.W.findIn K (.ref C_Shortcuts) "onward" = some none)
    (n_Shortcuts_leaps : PySem.W.findIn K (.ref C_Shortcuts) "leaps" = some none)
    (i0 : PySem.W.isFn K (.ref f0) = true)
    (a0 : PySem.W.findIn K (.ref C_NoOrder) "__init__" = some (some (.ref f0))) (l0 : K.lookup f0 = some ⟨oc0, od0, .func (PySem.W.fnOf "__init__" "NoOrder.__init__" (defArgs s_NoOrder_init) (defBody s_NoOrder_init) (defScope s_NoOrder_init) .none kV0 dc0 pm0 an0 cd0 ct0), sl0⟩) (c0 : PySem.W.codeIn K cd0 "NoOrder.__init__" = true) (k0 : PySem.W.keepIn K (.ref f0) = true)
    (a1 : PySem.W.nsIn K mainGlobals "is_whole" = some (some (.ref f1))) (l1 : K.lookup f1 = some ⟨oc1, od1, .func (PySem.W.fnOf "is_whole" "is_whole" (defArgs s_is_whole) (defBody s_is_whole) (defScope s_is_whole) .none kV1 dc1 pm1 an1 cd1 ct1), sl1⟩) (c1 : PySem.W.codeIn K cd1 "is_whole" = true) (k1 : PySem.W.keepIn K (.ref f1) = true)
    (a2 : PySem.W.nsIn K mainGlobals "is_within" = some (some (.ref f2))) (l2 : K.lookup f2 = some ⟨oc2, od2, .func (PySem.W.fnOf "is_within" "is_within" (defArgs s_is_within) (defBody s_is_within) (defScope s_is_within) .none kV2 dc2 pm2 an2 cd2 ct2), sl2⟩) (c2 : PySem.W.codeIn K cd2 "is_within" = true) (k2 : PySem.W.keepIn K (.ref f2) = true)
    (a3 : PySem.W.nsIn K mainGlobals "check_order" = some (some (.ref f3))) (l3 : K.lookup f3 = some ⟨oc3, od3, .func (PySem.W.fnOf "check_order" "check_order" (defArgs s_check_order) (defBody s_check_order) (defScope s_check_order) .none kV3 dc3 pm3 an3 cd3 ct3), sl3⟩) (c3 : PySem.W.codeIn K cd3 "check_order" = true) (k3 : PySem.W.keepIn K (.ref f3) = true)
    (a4 : PySem.W.nsIn K mainGlobals "rounds_of" = some (some (.ref f4))) (l4 : K.lookup f4 = some ⟨oc4, od4, .func (PySem.W.fnOf "rounds_of" "rounds_of" (defArgs s_rounds_of) (defBody s_rounds_of) (defScope s_rounds_of) .none kV4 dc4 pm4 an4 cd4 ct4), sl4⟩) (c4 : PySem.W.codeIn K cd4 "rounds_of" = true) (k4 : PySem.W.keepIn K (.ref f4) = true)
    (a5 : PySem.W.nsIn K mainGlobals "shortcuts_of" = some (some (.ref f5))) (l5 : K.lookup f5 = some ⟨oc5, od5, .func (PySem.W.fnOf "shortcuts_of" "shortcuts_of" (defArgs s_shortcuts_of) (defBody s_shortcuts_of) (defScope s_shortcuts_of) .none kV5 dc5 pm5 an5 cd5 ct5), sl5⟩) (c5 : PySem.W.codeIn K cd5 "shortcuts_of" = true) (k5 : PySem.W.keepIn K (.ref f5) = true)
    (i6 : PySem.W.isFn K (.ref f6) = true)
    (a6 : PySem.W.findIn K (.ref C_Shortcuts) "__init__" = some (some (.ref f6))) (l6 : K.lookup f6 = some ⟨oc6, od6, .func (PySem.W.fnOf "__init__" "Shortcuts.__init__" (defArgs s_Shortcuts_init) (defBody s_Shortcuts_init) (defScope s_Shortcuts_init) (.ref T6) kV6 dc6 pm6 an6 cd6 ct6), sl6⟩) (c6 : PySem.W.codeIn K cd6 "Shortcuts.__init__" = true) (k6 : PySem.W.keepIn K (.ref f6) = true)
    (lT6 : K.lookup T6 = some oT6) (dT6 : oT6.data = .seq #[vT6] nT6)
    (eT6 : RelV (.int 16) vT6)
    (i7 : PySem.W.isFn K (.ref f7) = true)
    (a7 : PySem.W.findIn K (.ref C_Shortcuts) "there" = some (some (.ref f7))) (l7 : K.lookup f7 = some ⟨oc7, od7, .func (PySem.W.fnOf "there" "Shortcuts.there" (defArgs s_Shortcuts_there) (defBody s_Shortcuts_there) (defScope s_Shortcuts_there) .none kV7 dc7 pm7 an7 cd7 ct7), sl7⟩) (c7 : PySem.W.codeIn K cd7 "Shortcuts.there" = true) (k7 : PySem.W.keepIn K (.ref f7) = true)
    (i8 : PySem.W.isFn K (.ref f8) = true)
    (a8 : PySem.W.findIn K (.ref C_Shortcuts) "shortcuts" = some (some (.ref f8))) (l8 : K.lookup f8 = some ⟨oc8, od8, .func (PySem.W.fnOf "shortcuts" "Shortcuts.shortcuts" (defArgs s_Shortcuts_shortcuts) (defBody s_Shortcuts_shortcuts) (defScope s_Shortcuts_shortcuts) .none kV8 dc8 pm8 an8 cd8 ct8), sl8⟩) (c8 : PySem.W.codeIn K cd8 "Shortcuts.shortcuts" = true) (k8 : PySem.W.keepIn K (.ref f8) = true)
    (a9 : PySem.W.nsIn K mainGlobals "_law_cell_at" = some (some (.ref f9))) (l9 : K.lookup f9 = some ⟨oc9, od9, .func (PySem.W.fnOf "_law_cell_at" "_law_cell_at" (defArgs s_law_cell_at) (defBody s_law_cell_at) (defScope s_law_cell_at) .none kV9 dc9 pm9 an9 cd9 ct9), sl9⟩) (c9 : PySem.W.codeIn K cd9 "_law_cell_at" = true) (k9 : PySem.W.keepIn K (.ref f9) = true)
    (a10 : PySem.W.nsIn K mainGlobals "_law_whole" = some (some (.ref f10))) (l10 : K.lookup f10 = some ⟨oc10, od10, .func (PySem.W.fnOf "_law_whole" "_law_whole" (defArgs s_law_whole) (defBody s_law_whole) (defScope s_law_whole) .none kV10 dc10 pm10 an10 cd10 ct10), sl10⟩) (c10 : PySem.W.codeIn K cd10 "_law_whole" = true) (k10 : PySem.W.keepIn K (.ref f10) = true)
    (a11 : PySem.W.nsIn K mainGlobals "_law_mixed" = some (some (.ref f11))) (l11 : K.lookup f11 = some ⟨oc11, od11, .func (PySem.W.fnOf "_law_mixed" "_law_mixed" (defArgs s_law_mixed) (defBody s_law_mixed) (defScope s_law_mixed) .none kV11 dc11 pm11 an11 cd11 ct11), sl11⟩) (c11 : PySem.W.codeIn K cd11 "_law_mixed" = true) (k11 : PySem.W.keepIn K (.ref f11) = true)
    (a12 : PySem.W.nsIn K mainGlobals "_law_digits" = some (some (.ref f12))) (l12 : K.lookup f12 = some ⟨oc12, od12, .func (PySem.W.fnOf "_law_digits" "_law_digits" (defArgs s_law_digits) (defBody s_law_digits) (defScope s_law_digits) .none kV12 dc12 pm12 an12 cd12 ct12), sl12⟩) (c12 : PySem.W.codeIn K cd12 "_law_digits" = true) (k12 : PySem.W.keepIn K (.ref f12) = true)
    (a13 : PySem.W.nsIn K mainGlobals "_law_order" = some (some (.ref f13))) (l13 : K.lookup f13 = some ⟨oc13, od13, .func (PySem.W.fnOf "_law_order" "_law_order" (defArgs s_law_order) (defBody s_law_order) (defScope s_law_order) .none kV13 dc13 pm13 an13 cd13 ct13), sl13⟩) (c13 : PySem.W.codeIn K cd13 "_law_order" = true) (k13 : PySem.W.keepIn K (.ref f13) = true)
    (a14 : PySem.W.nsIn K mainGlobals "_law_turned" = some (some (.ref f14))) (l14 : K.lookup f14 = some ⟨oc14, od14, .func (PySem.W.fnOf "_law_turned" "_law_turned" (defArgs s_law_turned) (defBody s_law_turned) (defScope s_law_turned) .none kV14 dc14 pm14 an14 cd14 ct14), sl14⟩) (c14 : PySem.W.codeIn K cd14 "_law_turned" = true) (k14 : PySem.W.keepIn K (.ref f14) = true)
    (a15 : PySem.W.nsIn K mainGlobals "_law_great" = some (some (.ref f15))) (l15 : K.lookup f15 = some ⟨oc15, od15, .func (PySem.W.fnOf "_law_great" "_law_great" (defArgs s_law_great) (defBody s_law_great) (defScope s_law_great) .none kV15 dc15 pm15 an15 cd15 ct15), sl15⟩) (c15 : PySem.W.codeIn K cd15 "_law_great" = true) (k15 : PySem.W.keepIn K (.ref f15) = true)
    (a16 : PySem.W.nsIn K mainGlobals "_law_jumps" = some (some (.ref f16))) (l16 : K.lookup f16 = some ⟨oc16, od16, .func (PySem.W.fnOf "_law_jumps" "_law_jumps" (defArgs s_law_jumps) (defBody s_law_jumps) (defScope s_law_jumps) .none kV16 dc16 pm16 an16 cd16 ct16), sl16⟩) (c16 : PySem.W.codeIn K cd16 "_law_jumps" = true) (k16 : PySem.W.keepIn K (.ref f16) = true)
    (a17 : PySem.W.nsIn K mainGlobals "law" = some (some (.ref f17))) (l17 : K.lookup f17 = some ⟨oc17, od17, .func (PySem.W.fnOf "law" "law" (defArgs s_law) (defBody s_law) (defScope s_law) .none kV17 dc17 pm17 an17 cd17 ct17), sl17⟩) (c17 : PySem.W.codeIn K cd17 "law" = true) (k17 : PySem.W.keepIn K (.ref f17) = true)
    (z_range : PySem.W.nsIn K mainGlobals "range" = some none)
    (z_len : PySem.W.nsIn K mainGlobals "len" = some none)
    (z_int : PySem.W.nsIn K mainGlobals "int" = some none)
    (z_bool : PySem.W.nsIn K mainGlobals "bool" = some none)
    (z_isinstance : PySem.W.nsIn K mainGlobals "isinstance" = some none)
    (z_list : PySem.W.nsIn K mainGlobals "list" = some none)
    (z_tuple : PySem.W.nsIn K mainGlobals "tuple" = some none)
    (z_zip : PySem.W.nsIn K mainGlobals "zip" = some none)
    (z_enumerate : PySem.W.nsIn K mainGlobals "enumerate" = some none)
    (z_dict : PySem.W.nsIn K mainGlobals "dict" = some none)
    (z_abs : PySem.W.nsIn K mainGlobals "abs" = some none)
    (z_sorted : PySem.W.nsIn K mainGlobals "sorted" = some none)
    (eg_WoodError : PySem.W.nsIn K mainGlobals "WoodError" = some (some (.ref C_WoodError)))
    (eg_NoOrder : PySem.W.nsIn K mainGlobals "NoOrder" = some (some (.ref C_NoOrder)))
    (ex_WoodError : PySem.W.excIn K C_WoodError veMro "ValueError.__new__" = true)
    (bg_WoodError : PySem.W.specialIn K (.ref C_WoodError) "__getattribute__" = some (some (.builtin "type.__getattribute__")))
    (br_WoodError : PySem.W.readsIn K C_WoodError (.type "type") = true)
    (bi_WoodError : PySem.W.findCls K (.ref C_WoodError) (.type "type") "__init__" = some (.val (.builtin "ValueError.__init__")))
    (sa_NoOrder : PySem.W.findIn K (.ref C_NoOrder) "__setattr__" = some (some (.builtin "object.__setattr__")))
    (pl_NoOrder : PySem.W.findIn K (.ref C_NoOrder) "place" = some none)
    (ga_NoOrder : PySem.W.findIn K (.ref C_NoOrder) "__getattribute__" = some (some (.builtin "BaseException.__getattribute__")))
    (gx_NoOrder : PySem.W.findIn K (.ref C_NoOrder) "__getattr__" = some none)
    (ca_NoOrder : PySem.W.findIn K (.ref C_NoOrder) "__class__" = some (some (.builtin "object.__class__")))
    (sp_NoOrder : PySem.W.specialIn K (.builtin "object.__class__") "__get__" = some (some (.builtin "getset_descriptor.__get__")))
    (tk_NoOrder : PySem.W.takesIn K (.builtin "object.__class__") = some true)
    (mo_NoOrder : PySem.W.mroIn K C_NoOrder (.type "object") = some true)
    (mb_NoOrder : PySem.W.mroIn K C_NoOrder (.type "BaseException") = some true)
    (em_NoOrder : PySem.W.exmOne K (.ref C_NoOrder) (.ref C_WoodError) = some true)
    (em2_NoOrder : PySem.W.exmOne K (.ref C_NoOrder) (.ref C_NoOrder) = some true)
    (ob_NoOrder : K.lookup C_NoOrder = some (excClassObj nm_NoOrder qn_NoOrder C_NoOrder N_NoOrder bs_NoOrder (.ref C_WoodError :: veMro) true sn_NoOrder sub_NoOrder ab_NoOrder col_NoOrder dd_NoOrder k0_NoOrder k1_NoOrder k2_NoOrder k3_NoOrder k5_NoOrder "ValueError.__new__"))
    : ∃ fd : FuncData, (∀ (s : Shared) (v : Value), BindsTo s fd ⟨[v], []⟩ [("_law_script", v)]) ∧ ∀ base : Heap, K.In base → base.Ns mainGlobals mg → FnOk l.prog w K mg base CX0 6 fa fd ["_law_script"] (spLaw K) := by
  have e := hfa.symm.trans (PySem.W.mg_of X G a17)
  cases e
  have O_NoOrder : OwnX K C_WoodError C_NoOrder f0 := ⟨ex_WoodError, ⟨_, _, _, _, _, _, _, _, _, _, _, _, _, _, ob_NoOrder⟩, a0, beq_iff_eq.mp i0, sa_NoOrder, pl_NoOrder⟩
  have T : Txt K mg C_WoodError C_NoOrder := ⟨PySem.W.mg_of X G eg_WoodError, PySem.W.mg_of X G eg_NoOrder, ex_WoodError, bg_WoodError, br_WoodError, bi_WoodError, sa_NoOrder, pl_NoOrder, ga_NoOrder, gx_NoOrder, ca_NoOrder, sp_NoOrder, tk_NoOrder, mo_NoOrder, mb_NoOrder, em_NoOrder, em2_NoOrder, PySem.W.mg_none_of X G z_range, PySem.W.mg_none_of X G z_len, PySem.W.mg_none_of X G z_int, PySem.W.mg_none_of X G z_bool, PySem.W.mg_none_of X G z_isinstance, PySem.W.mg_none_of X G z_list, PySem.W.mg_none_of X G z_tuple, PySem.W.mg_none_of X G z_zip, PySem.W.mg_none_of X G z_enumerate, PySem.W.mg_none_of X G z_dict, PySem.W.mg_none_of X G z_abs, PySem.W.mg_none_of X G z_sorted, ⟨_, O_NoOrder⟩⟩
  have Z_Shortcuts : Z_Shortcuts K C_Shortcuts := ⟨⟨pg_Shortcuts, hd_Shortcuts, po_Shortcuts, sa_Shortcuts⟩, n_Shortcuts_onward, n_Shortcuts_leaps⟩
  have F0 := fun_mk (st := s_NoOrder_init) l0 c0 k0
  have b0 := F0.binds (ps := ["self", "place"]) fun _ _ _ _ _ _ => us2 fun _ _ => rfl
  have F1 := fun_mk (st := s_is_whole) l1 c1 k1
  have b1 := F1.binds (ps := ["thing"]) fun _ _ _ _ _ _ => us1 fun _ => rfl
  have F2 := fun_mk (st := s_is_within) l2 c2 k2
  have b2 := F2.binds (ps := ["thing", "low", "high"]) fun _ _ _ _ _ _ => us3 fun _ _ _ => rfl
  have F3 := fun_mk (st := s_check_order) l3 c3 k3
  have b3 := F3.binds (ps := ["order"]) fun _ _ _ _ _ _ => us1 fun _ => rfl
  have F4 := fun_mk (st := s_rounds_of) l4 c4 k4
  have b4 := F4.binds (ps := ["order"]) fun _ _ _ _ _ _ => us1 fun _ => rfl
  have F5 := fun_mk (st := s_shortcuts_of) l5 c5 k5
  have b5 := F5.binds (ps := ["order", "step"]) fun _ _ _ _ _ _ => us2 fun _ _ => rfl
  have F6 := fun_mkD (st := s_Shortcuts_init) l6 c6 lT6 dT6
  have b6 := F6.binds (ps := ["self", "order", "step"]) fun _ _ _ _ _ _ _ us hl => match us, hl with | [_, _, _], _ => ⟨_, rfl, fun _ => rfl⟩
  have F7 := fun_mk (st := s_Shortcuts_there) l7 c7 k7
  have b7 := F7.binds (ps := ["self", "place"]) fun _ _ _ _ _ _ => us2 fun _ _ => rfl
  have F8 := fun_mk (st := s_Shortcuts_shortcuts) l8 c8 k8
  have b8 := F8.binds (ps := ["self"]) fun _ _ _ _ _ _ => us1 fun _ => rfl
  have F9 := fun_mk (st := s_law_cell_at) l9 c9 k9
  have b9 := F9.binds (ps := ["_law_script", "_law_k"]) fun _ _ _ _ _ _ => us2 fun _ _ => rfl
  have F10 := fun_mk (st := s_law_whole) l10 c10 k10
  have b10 := F10.binds (ps := ["_law_found"]) fun _ _ _ _ _ _ => us1 fun _ => rfl
  have F11 := fun_mk (st := s_law_mixed) l11 c11 k11
  have b11 := F11.binds (ps := ["_law_cell", "_law_k"]) fun _ _ _ _ _ _ => us2 fun _ _ => rfl
  have F12 := fun_mk (st := s_law_digits) l12 c12 k12
  have b12 := F12.binds (ps := ["_law_script", "_law_at", "_law_many"]) fun _ _ _ _ _ _ => us3 fun _ _ _ => rfl
  have F13 := fun_mk (st := s_law_order) l13 c13 k13
  have b13 := F13.binds (ps := ["_law_digits_here"]) fun _ _ _ _ _ _ => us1 fun _ => rfl
  have F14 := fun_mk (st := s_law_turned) l14 c14 k14
  have b14 := F14.binds (ps := ["_law_order_here", "_law_number"]) fun _ _ _ _ _ _ => us2 fun _ _ => rfl
  have F15 := fun_mk (st := s_law_great) l15 c15 k15
  have b15 := F15.binds (ps := ["_law_number"]) fun _ _ _ _ _ _ => us1 fun _ => rfl
  have F16 := fun_mk (st := s_law_jumps) l16 c16 k16
  have b16 := F16.binds (ps := ["_law_order_here", "_law_pace"]) fun _ _ _ _ _ _ => us2 fun _ _ => rfl
  have F17 := fun_mk (st := s_law) l17 c17 k17
  refine ⟨PySem.W.fnOf "law" "law" (defArgs s_law) (defBody s_law) (defScope s_law) .none kV17 dc17 pm17 an17 cd17 ct17, fun s v => .of_eq rfl, fun base _ _ => ?_⟩
  have V0 : ExcI l.prog w K mg base "NoOrder" C_WoodError C_NoOrder 1 ["self", "place"] := ⟨⟨f0, _, ok_NoOrder_init F0 T, b0, O_NoOrder⟩, T.g_NoOrder, T.k_NoOrder⟩
  have V1 : Cal l.prog w K mg base "is_whole" 1 ["thing"] (spWhole0 K) := ⟨⟨f1, _, ok_is_whole F1 T, b1, PySem.W.mg_of X G a1, k1⟩⟩
  have V2 : Cal l.prog w K mg base "is_within" 2 ["thing", "low", "high"] (spWithin K) := ⟨⟨f2, _, ok_is_within F2 T V1, b2, PySem.W.mg_of X G a2, k2⟩⟩
  have V3 : CalE l.prog w K mg base "check_order" 3 ["order"] (spCheck K C_NoOrder) := ⟨⟨f3, _, ok_check_order F3 T V0 V2, b3, PySem.W.mg_of X G a3, k3⟩⟩
  have V4 : Cal l.prog w K mg base "rounds_of" 1 ["order"] spRoundsX := ⟨⟨f4, _, ok_rounds_of F4 T, b4, PySem.W.mg_of X G a4, k4⟩⟩
  have V5 : Cal l.prog w K mg base "shortcuts_of" 2 ["order", "step"] spShortX := ⟨⟨f5, _, ok_shortcuts_of F5 T V4, b5, PySem.W.mg_of X G a5, k5⟩⟩
  have V6 : MkrE l.prog w K mg base "Shortcuts" C_Shortcuts 4 ["self", "order", "step"] (spShInitX K C_NoOrder C_Shortcuts) := ⟨⟨f6, _, ok_Shortcuts_init F6 T Z_Shortcuts V3 V5, b6, ⟨mk_Shortcuts, a6, i6, kc_Shortcuts⟩, PySem.W.mg_of X G a_Shortcuts⟩⟩
  have b6K := FunD.bindsK (x := "__init__") (qual := "Shortcuts.__init__") (st := s_Shortcuts_init) (ps := ["self", "order", "step"]) (kn := "step") (kV := kV6) (doc := dc6) (pm := pm6) (cdv := cd6) (ct := ct6) (an := an6) lT6 dT6 rfl (us2 fun _ _ => us1 fun _ => ⟨_, rfl, rfl⟩)
  have V6K : MkrEK l.prog w K mg base "Shortcuts" C_Shortcuts 4 ["self", "order", "step"] (spShInitX K C_NoOrder C_Shortcuts) ["step"] := ⟨⟨f6, _, ok_Shortcuts_init F6 T Z_Shortcuts V3 V5, b6K, ⟨mk_Shortcuts, a6, i6, kc_Shortcuts⟩, PySem.W.mg_of X G a_Shortcuts⟩⟩
  have b6D := FunD.bindsD (x := "__init__") (qual := "Shortcuts.__init__") (st := s_Shortcuts_init) (ps := ["self", "order", "step"]) (kV := kV6) (doc := dc6) (pm := pm6) (cdv := cd6) (ct := ct6) (an := an6) lT6 dT6 rfl (us2 fun _ _ => ⟨_, rfl, rfl⟩)
  have V6D : MkrED l.prog w K mg base "Shortcuts" C_Shortcuts 4 ["self", "order", "step"] (spShInitX K C_NoOrder C_Shortcuts) [.int 16] := ⟨⟨f6, _, _, ok_Shortcuts_init F6 T Z_Shortcuts V3 V5, b6D, .cons eT6 .nil, ⟨mk_Shortcuts, a6, i6, kc_Shortcuts⟩, PySem.W.mg_of X G a_Shortcuts⟩⟩
  have V7 : Mth l.prog w K mg base C_Shortcuts "there" 1 ["self", "place"] (spThereX C_Shortcuts) := ⟨⟨f7, _, ok_Shortcuts_there F7 T Z_Shortcuts, b7, ⟨a7, i7, k7⟩⟩, Z_Shortcuts.cl⟩
  have V8 : Mth l.prog w K mg base C_Shortcuts "shortcuts" 1 ["self"] (spShorts C_Shortcuts) := ⟨⟨f8, _, ok_Shortcuts_shortcuts F8 T Z_Shortcuts, b8, ⟨a8, i8, k8⟩⟩, Z_Shortcuts.cl⟩
  have V9 : Cal l.prog w K mg base "_law_cell_at" 1 ["_law_script", "_law_k"] (spCell K) := ⟨⟨f9, _, ok_law_cell_at F9 T, b9, PySem.W.mg_of X G a9, k9⟩⟩
  have V10 : Cal l.prog w K mg base "_law_whole" 1 ["_law_found"] (spWhole0 K) := ⟨⟨f10, _, ok_law_whole F10 T, b10, PySem.W.mg_of X G a10, k10⟩⟩
  have V11 : Cal l.prog w K mg base "_law_mixed" 1 ["_law_cell", "_law_k"] spMixed := ⟨⟨f11, _, ok_law_mixed F11 T, b11, PySem.W.mg_of X G a11, k11⟩⟩
  have V12 : Cal l.prog w K mg base "_law_digits" 2 ["_law_script", "_law_at", "_law_many"] (spDigits K) := ⟨⟨f12, _, ok_law_digits F12 T V9 V11, b12, PySem.W.mg_of X G a12, k12⟩⟩
  have V13 : Cal l.prog w K mg base "_law_order" 1 ["_law_digits_here"] spOrderX := ⟨⟨f13, _, ok_law_order F13 T, b13, PySem.W.mg_of X G a13, k13⟩⟩
  have V14 : Cal l.prog w K mg base "_law_turned" 1 ["_law_order_here", "_law_number"] spTurned := ⟨⟨f14, _, ok_law_turned F14 T, b14, PySem.W.mg_of X G a14, k14⟩⟩
  have V15 : Cal l.prog w K mg base "_law_great" 1 ["_law_number"] spGreat := ⟨⟨f15, _, ok_law_great F15 T, b15, PySem.W.mg_of X G a15, k15⟩⟩
  have V16 : Cal l.prog w K mg base "_law_jumps" 1 ["_law_order_here", "_law_pace"] spJumps := ⟨⟨f16, _, ok_law_jumps F16 T, b16, PySem.W.mg_of X G a16, k16⟩⟩
  exact ok_law F17 T Z_Shortcuts V6 V6D V6K V7 V8 V9 V10 V11 V12 V13 V14 V15 V16
theorem walk {l : PySem.W.OpenLaw} {q : Program} {loose : List Str} {XP : (Str → Option Value) → Heap → Prop} {YP : World → Heap → Prop} {d : DefRec} {K : Params → PySem.W.Frag} (hn : l.most = some 63) (hdf : d.params.defaults = [])
    (hY : ∀ (w : World) (h : Heap), YP w h → (K w.params).In h)
    (F : ∀ (w : World) (mg : Str → Option Value) (fa : Addr) (h : Heap), (K w.params).In h → h.Ns mainGlobals mg → mg d.name = some (.ref fa) →
      ∃ fd : FuncData, (∀ (s : Shared) (u : Value), BindsTo s fd ⟨[u], []⟩ [("_law_script", u)]) ∧ ∀ base : Heap, (K w.params).In base → base.Ns mainGlobals mg → FnOk l.prog w (K w.params) mg base CX0 6 fa fd ["_law_script"] (spLaw (K w.params))) :
    PySem.W.WalkO q loose XP YP l.row.toRowW d [] (fun f vs => PySem.call f vs) :=
  L2.walk_of (n := 63) (k := 6) (x := "_law_script") (CX := fun _ => CX0) (sp := fun w => spLaw (K w.params)) hn (by decide) hdf ⟨rfl, by decide, by decide⟩ hY F (fun _ _ a ns hl _ hS => ⟨a, ns, rfl, hS, hl, fun _ => rfl⟩) fun _ _ _ _ _ z => z
end TK
open PySem PySem.W PyProof.Rows
set_option maxRecDepth 100000 in
set_option maxHeartbeats 0 in
theorem PySem.Challenge.cw_tightwood_k62_shortcuts_laid_holds : PySem.Challenge.rw_tightwood_k62_shortcuts_laid.Holds := by
  w_on; o_law; k_head; (case hw => w_witness2)
  k_fill
  refine TK.walk (l := PySem.Challenge.rw_tightwood_k62_shortcuts_laid) rfl rfl (fun w h Y => PySem.W.kIn_of Y) ?F
  case F =>
    intro w mg fa h KX G hmg
    refine' TK.all_mk KX G hmg ?a_Shortcuts ?pg_Shortcuts ?hd_Shortcuts ?po_Shortcuts ?sa_Shortcuts ?mk_Shortcuts ?kc_Shortcuts ?n_Shortcuts_onward ?n_Shortcuts_leaps ?i0 ?a0 ?l0 ?c0 ?k0 ?a1 ?l1 ?c1 ?k1 ?a2 ?l2 ?c2 ?k2 ?a3 ?l3 ?c3 ?k3 ?a4 ?l4 ?c4 ?k4 ?a5 ?l5 ?c5 ?k5 ?i6 ?a6 ?l6 ?c6 ?k6 ?lT6 ?dT6 ?eT6 ?i7 ?a7 ?l7 ?c7 ?k7 ?i8 ?a8 ?l8 ?c8 ?k8 ?a9 ?l9 ?c9 ?k9 ?a10 ?l10 ?c10 ?k10 ?a11 ?l11 ?c11 ?k11 ?a12 ?l12 ?c12 ?k12 ?a13 ?l13 ?c13 ?k13 ?a14 ?l14 ?c14 ?k14 ?a15 ?l15 ?c15 ?k15 ?a16 ?l16 ?c16 ?k16 ?a17 ?l17 ?c17 ?k17 ?z_range ?z_len ?z_int ?z_bool ?z_isinstance ?z_list ?z_tuple ?z_zip ?z_enumerate ?z_dict ?z_abs ?z_sorted ?eg_WoodError ?eg_NoOrder ?ex_WoodError ?bg_WoodError ?br_WoodError ?bi_WoodError ?sa_NoOrder ?pl_NoOrder ?ga_NoOrder ?gx_NoOrder ?ca_NoOrder ?sp_NoOrder ?tk_NoOrder ?mo_NoOrder ?mb_NoOrder ?em_NoOrder ?em2_NoOrder ?ob_NoOrder
    (case eg_WoodError => k_is)
    (case eg_NoOrder => k_is)
    (case a_Shortcuts => k_is)
    (case pg_Shortcuts => k_is)
    (case hd_Shortcuts => k_is)
    (case po_Shortcuts => k_is)
    (case sa_Shortcuts => k_is)
    (case mk_Shortcuts => k_is)
    (case kc_Shortcuts => k_is)
    (case n_Shortcuts_onward => k_is)
    (case n_Shortcuts_leaps => k_is)
    (case a0 => k_is)
    (case l0 => k_is)
    (case c0 => k_is)
    (case k0 => k_is)
    (case i0 => k_is)
    (case a1 => k_is)
    (case l1 => k_is)
    (case c1 => k_is)
    (case k1 => k_is)
    (case a2 => k_is)
    (case l2 => k_is)
    (case c2 => k_is)
    (case k2 => k_is)
    (case a3 => k_is)
    (case l3 => k_is)
    (case c3 => k_is)
    (case k3 => k_is)
    (case a4 => k_is)
    (case l4 => k_is)
    (case c4 => k_is)
    (case k4 => k_is)
    (case a5 => k_is)
    (case l5 => k_is)
    (case c5 => k_is)
    (case k5 => k_is)
    (case a6 => k_is)
    (case l6 => k_is)
    (case c6 => k_is)
    (case k6 => k_is)
    (case i6 => k_is)
    (case lT6 => k_is)
    (case dT6 => rfl)
    (case eT6 => exact ⟨_, rfl⟩)
    (case a7 => k_is)
    (case l7 => k_is)
    (case c7 => k_is)
    (case k7 => k_is)
    (case i7 => k_is)
    (case a8 => k_is)
    (case l8 => k_is)
    (case c8 => k_is)
    (case k8 => k_is)
    (case i8 => k_is)
    (case a9 => k_is)
    (case l9 => k_is)
    (case c9 => k_is)
    (case k9 => k_is)
    (case a10 => k_is)
    (case l10 => k_is)
    (case c10 => k_is)
    (case k10 => k_is)
    (case a11 => k_is)
    (case l11 => k_is)
    (case c11 => k_is)
    (case k11 => k_is)
    (case a12 => k_is)
    (case l12 => k_is)
    (case c12 => k_is)
    (case k12 => k_is)
    (case a13 => k_is)
    (case l13 => k_is)
    (case c13 => k_is)
    (case k13 => k_is)
    (case a14 => k_is)
    (case l14 => k_is)
    (case c14 => k_is)
    (case k14 => k_is)
    (case a15 => k_is)
    (case l15 => k_is)
    (case c15 => k_is)
    (case k15 => k_is)
    (case a16 => k_is)
    (case l16 => k_is)
    (case c16 => k_is)
    (case k16 => k_is)
    (case a17 => k_is)
    (case l17 => k_is)
    (case c17 => k_is)
    (case k17 => k_is)
    (case z_range => k_is)
    (case z_len => k_is)
    (case z_int => k_is)
    (case z_bool => k_is)
    (case z_isinstance => k_is)
    (case z_list => k_is)
    (case z_tuple => k_is)
    (case z_zip => k_is)
    (case z_enumerate => k_is)
    (case z_dict => k_is)
    (case z_abs => k_is)
    (case z_sorted => k_is)
    (case ex_WoodError => k_exc)
    (case bg_WoodError => k_is)
    (case br_WoodError => k_is)
    (case bi_WoodError => k_is)
    (case sa_NoOrder => k_is)
    (case pl_NoOrder => k_is)
    (case ga_NoOrder => k_is)
    (case gx_NoOrder => k_is)
    (case ca_NoOrder => k_is)
    (case sp_NoOrder => k_is)
    (case tk_NoOrder => k_is)
    (case mo_NoOrder => k_is)
    (case mb_NoOrder => k_is)
    (case em_NoOrder => kts_exm)
    (case em2_NoOrder => kts_exm)
    (case ob_NoOrder => k_is)
#print axioms PySem.Challenge.cw_tightwood_k62_shortcuts_laid_holds
