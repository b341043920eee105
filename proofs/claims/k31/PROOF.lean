import PyProof.Rows.All
import Wide.All
import OpenK.AllK
import Wide.FinOn
import Lean
import PyProof.EqAt
import PyProof.EqKinds
import PyProof.TupleCall
import KE.KNestM
import KE.KTryMore
import OpenK.KCls
import PyProof.Draws
import PyProof.EnumMake
import PyProof.EnumStmt
import PyProof.InstStoreFacts
import PyProof.ListRange
import PyProof.ObjNew
import PyProof.Rows.SeqMore
import PyProof.Rows.StrItems
import PyProof.Rows.StrSplitAre
import PyProof.StrCalls2
import PyProof.WalksEnum
import PyProof.ZipIter
import PySem.Challenge.RW_tightwood_k31_woods_or_none
set_option Elab.async false
set_option linter.all false
set_option maxRecDepth 100000
/-! THE HAND LAYER, for ints, bools, texts, own classes, LISTS and tuples (index, slices, in, append, pop ..), calls, loops. Paste it whole ahead of your own text; what your proof does not reach may be deleted. -/
namespace L2
open PySem PySem.Spec PyProof.Rows

/-- a key: an int or a str -/
abbrev Key := Sum Int Str
def keyIs : Key → Value → Bool
  | .inl k, v => Value.isInt k v
  | .inr x, v => Value.isStrOf x v
def keyH (w : World) : Key → Int
  | .inl k => hashInt k
  | .inr x => hashStr w x
theorem keyIs_shape : ∀ {k : Key} {v : Value}, keyIs k v = true → (∃ i t, k = Sum.inl i ∧ v = Value.int i t) ∨ (∃ x t, k = Sum.inr x ∧ v = Value.str x t)
  | .inl i, v, h => by
    obtain ⟨t, e⟩ := Value.isInt_shape (k := i) (v := v) h
    exact .inl ⟨i, t, rfl, e⟩
  | .inr x, v, h => by
    obtain ⟨t, e⟩ := Value.isStrOf_shape (x := x) (v := v) h
    exact .inr ⟨x, t, rfl, e⟩
theorem key_ll (a b : Int) : decide ((Sum.inl a : Key) = Sum.inl b) = (a == b) := by
  by_cases e : a = b
  · subst e; simp
  · have h : ¬ (Sum.inl a : Key) = Sum.inl b := fun q => e (Sum.inl.inj q)
    rw [decide_eq_false h]
    exact (beq_eq_false_iff_ne.mpr e).symm
theorem key_rr (a b : Str) : decide ((Sum.inr a : Key) = Sum.inr b) = decide (a = b) := by
  by_cases e : a = b
  · subst e; simp
  · have h : ¬ (Sum.inr a : Key) = Sum.inr b := fun q => e (Sum.inr.inj q)
    rw [decide_eq_false h, decide_eq_false e]
theorem key_lr (a : Int) (b : Str) : decide ((Sum.inl a : Key) = Sum.inr b) = false := decide_eq_false (fun q => nomatch q)
theorem key_rl (a : Str) (b : Int) : decide ((Sum.inr a : Key) = Sum.inl b) = false := decide_eq_false (fun q => nomatch q)

def mixKind (prog : Program) (w : World) : PySem.KeyKind prog w Key where
  is := keyIs
  hash := keyH w
  inj := fun v a b ha hb => by
    rcases keyIs_shape ha with ⟨i, t, rfl, rfl⟩ | ⟨x, t, rfl, rfl⟩
    · rcases keyIs_shape hb with ⟨j, u, rfl, e⟩ | ⟨y, u, rfl, e⟩
      · injection e with e1 _; rw [e1]
      · exact nomatch e
    · rcases keyIs_shape hb with ⟨j, u, rfl, e⟩ | ⟨y, u, rfl, e⟩
      · exact nomatch e
      · injection e with e1 _; rw [e1]
  byValue := fun k v h => by
    rcases keyIs_shape h with ⟨i, t, rfl, rfl⟩ | ⟨x, t, rfl, rfl⟩ <;> rfl
  pyHash := fun hv h => by
    rcases keyIs_shape hv with ⟨i, t, rfl, rfl⟩ | ⟨x, t, rfl, rfl⟩
    · exact wpAny_pyHash_int h
    · exact wpAny_pyHash_str h
  eqBool := fun hu hv h => by
    rcases keyIs_shape hu with ⟨i, t, rfl, rfl⟩ | ⟨x, t, rfl, rfl⟩
    · rcases keyIs_shape hv with ⟨j, u, rfl, rfl⟩ | ⟨y, u, rfl, rfl⟩
      · rw [key_ll] at h; exact wpAny_eqBool_int h
      · rw [key_lr] at h; exact SeqAt.EqAt.int_str i t y u _ _ _ _ h
    · rcases keyIs_shape hv with ⟨j, u, rfl, rfl⟩ | ⟨y, u, rfl, rfl⟩
      · rw [key_rl] at h; exact SeqAt.EqAt.str_int x t j u _ _ _ _ h
      · rw [key_rr] at h; exact wpAny_eqBool_str h
  «strs» := fun k x t v h => by
    rcases keyIs_shape h with ⟨i, u, rfl, e⟩ | ⟨y, u, rfl, e⟩
    · exact nomatch e
    · injection e with e1 _
      subst e1
      cases v <;> rfl

end L2

namespace L2
open PySem PySem.Spec PyProof.Rows

/-- a value, without the heap -/
inductive V where
  | non | bl (b : Bool) | int (i : Int) | str (x : Str) | byt (b : Array UInt8) | flt (b : UInt64) | ref (a : Addr) | ty (n : String)
  deriving DecidableEq

def RelV : V → Value → Prop
  | .non, u => u = Value.none
  | .bl b, u => u = Value.bool b
  | .int i, u => ∃ t, u = Value.int i t
  | .str x, u => ∃ t, u = Value.str x t
  | .byt b, u => ∃ t, u = Value.bytes b t
  | .flt b, u => ∃ t, u = Value.float b t
  | .ref a, u => u = Value.ref a
  | .ty n, u => u = Value.type n

abbrev Vals : List V → List Value → Prop := Paired RelV
theorem Vals.length {xs : List V} {us : List Value} (r : Vals xs us) : xs.length = us.length := Paired.length r
theorem Vals.get : ∀ {xs : List V} {us : List Value} {i : Nat} {x : V}, Vals xs us → xs[i]? = some x → ∃ u, us[i]? = some u ∧ RelV x u
  | _, _, _, _, .nil, e => by simp at e
  | _, _, 0, _, .cons r _, e => by simp at e; subst e; exact ⟨_, rfl, r⟩
  | _, _, i + 1, x, .cons _ t, e => by
    obtain ⟨u, h1, h2⟩ := Vals.get (i := i) (x := x) t (by simpa using e)
    exact ⟨u, by simpa using h1, h2⟩
theorem Vals.set {x : V} {u : Value} (r : RelV x u) : ∀ {xs : List V} {us : List Value} (i : Nat), Vals xs us → Vals (xs.set i x) (us.set i u)
  | _, _, _, .nil => .nil
  | _, _, 0, .cons _ t => .cons r t
  | _, _, i + 1, .cons q t => .cons q (Vals.set r i t)
theorem Vals.append : ∀ {xs ys : List V} {us ws : List Value}, Vals xs us → Vals ys ws → Vals (xs ++ ys) (us ++ ws)
  | _, _, _, _, .nil, s => s
  | _, _, _, _, .cons r t, s => .cons r (Vals.append t s)
theorem Vals.take : ∀ {xs : List V} {us : List Value} (n : Nat), Vals xs us → Vals (xs.take n) (us.take n)
  | _, _, 0, _ => .nil
  | _, _, _ + 1, .nil => .nil
  | _, _, n + 1, .cons r t => .cons r (Vals.take n t)
theorem Vals.drop : ∀ {xs : List V} {us : List Value} (n : Nat), Vals xs us → Vals (xs.drop n) (us.drop n)
  | _, _, 0, r => r
  | _, _, _ + 1, .nil => .nil
  | _, _, n + 1, .cons _ t => Vals.drop n t
def RelO : Option V → Option Value → Prop
  | some v, some u => RelV v u
  | none, none => True
  | _, _ => False
def KV {κ : Type} : List (κ × V) → List (κ × Value) → Prop := Paired fun (p : κ × V) (q : κ × Value) => p.1 = q.1 ∧ RelV p.2 q.2

/-- a key of a dict (00_mix): an int or a text -/
def kV : Key → V
  | .inl i => .int i
  | .inr x => .str x

/-- what stands at a tracked address -/
inductive HO where
  /-- a list -/
  | lst (xs : List V)
  /-- a tuple (never changes) -/
  | tup (xs : List V)
  /-- a dict whose keys are ints and texts; one whose keys are tuples of ints and texts (the empty one is both) -/
  | dK (kvs : List (Key × V)) | dT (kvs : List (List Key × V))
  /-- a set of ints: its members, its size -/
  | set (S : Int → Bool) (n : Nat)
  /-- an instance of the class at C, its dict at dx, its attributes -/
  | ins (C dx : Addr) (fs : List (Str × V))
  /-- the dict of the instance at x -/
  | own (x : Addr)
  /-- the dict of an exception -/
  | xd (fs : List (Str × V))
  /-- a bound method, f of x -/
  | met (f x : Addr)
  /-- a range object lo, lo + 1, .. below hi -/
  | rng (lo hi : Int)
  /-- a thing that is known to the object (the script; a dict while a loop walks it): read, never written while it is so -/
  | frz (o : Obj) (u : HO)
  /-- a code object's table -/
  | tbl (ps : Array Value)
  /-- any other thing, by what is true of its one object (a def of one's own: SetO a S n := HO.ext fun h => ..) -/
  | ext (φ : Heap → Prop)

abbrev Hp := Addr → Option HO
def upd (H : Hp) (a : Addr) (o : HO) : Hp := fun b => if b = a then some o else H b
theorem upd_same {H : Hp} {a : Addr} {o : HO} : upd H a o a = some o := by unfold upd; rw [if_pos rfl]
theorem upd_ne {H : Hp} {a b : Addr} {o : HO} (h : b ≠ a) : upd H a o b = H b := by unfold upd; rw [if_neg h]
theorem upd_upd {H : Hp} {a : Addr} {o u : HO} : upd (upd H a o) a u = upd H a u := by
  funext b; unfold upd; split <;> rfl
/-- two objects of different content stand apart -/
theorem ne_of {H : Hp} {a b : Addr} {o u : HO} (h : H a = some o) (h' : H b = some u) (d : o ≠ u) : a ≠ b := by
  intro e; subst e; rw [h] at h'; exact d (Option.some.inj h')
theorem ne_of_none {H : Hp} {a b : Addr} {o : HO} (h : H a = some o) (h' : H b = none) : a ≠ b := by
  intro e; subst e; rw [h] at h'; cases h'

section
variable (P : Program) (w : World)
def ObjOk (H : Hp) (h : Heap) (a : Addr) : HO → Prop
  | .lst xs => xs.length ≤ sizeLine ∧ ∃ (its : List Value) (n : Nat), Vals xs its ∧ h.get? a = some { cls := .type "list", data := .seq its.toArray n }
  | .tup xs => xs.length ≤ sizeLine ∧ ∃ its : List Value, Vals xs its ∧ IsTup h a its.toArray
  | .dK kvs => kvs.length ≤ sizeLine ∧ (a == sysModules) = false ∧ ∃ vs, KV kvs vs ∧ h.DictOf (mixKind P w) a vs
  | .dT kvs => kvs.length ≤ sizeLine ∧ (a == sysModules) = false ∧ ∃ xs : List (List Key × Addr × Value),
      Paired (fun (p : List Key × V) (q : List Key × Addr × Value) => p.1 = q.1 ∧ H q.2.1 = some (.tup (p.1.map kV)) ∧ RelV p.2 q.2.2) kvs xs ∧
      ∃ o es ep, h.get? a = some o ∧ o.ExactDict ∧ o.data = .dict es ep ∧ es.toList = xs.map (entryOfKey (tupleKind (mixKind P w))) ∧ (xs.map (·.1)).Nodup
  | .set S n => h.SetOf (intKind P w) a S n
  | .ins C dx fs => H dx = some (.own a) ∧ fs.length ≤ 1000 ∧ dx ≠ a ∧ h.get? a = some (PySem.W.instObj C dx) ∧
      ∃ mA, h.Ns1 dx mA ∧ (∀ f, RelO (fs.lookup f) (mA f)) ∧ PySem.Within mA (fs.map (·.1))
  | .own _ => ∃ o, h.get? a = some o
  | .xd fs => ∃ mA, h.Ns1 a mA ∧ ∀ f, RelO (fs.lookup f) (mA f)
  | .rng lo hi => ∃ t u v, h.get? a = some { cls := .type "range", data := .fields #[.int lo t, .int hi u, .int 1 v] }
  | .frz o u => h.get? a = some o ∧ ObjOk H h a u
  | .tbl ps => h.get? a = some { cls := .none, data := .fields ps }
  | .met f x => h.get? a = some (PySem.W.methodObj (.ref f) (.ref x))
  | .ext φ => φ h ∧ (∃ o, h.get? a = some o) ∧ ∀ h1 h2 : Heap, φ h1 → (∀ o, h1.get? a = some o → h2.get? a = some o) → φ h2
/-- the abstract heap is held -/
def HOk (H : Hp) (h : Heap) : Prop := ∀ a o, H a = some o → ObjOk P w H h a o
end

section
variable {P : Program} {w : World} {H H' : Hp} {h h' : Heap} {a : Addr} {o : HO}
theorem ObjOk.lt (x : ObjOk P w H h a o) : a < h.objs.size := by
  cases o with
  | lst xs => obtain ⟨_, _, _, _, e⟩ := x; exact Heap.lt_size e
  | tup xs => obtain ⟨_, _, _, p⟩ := x; exact p.lt
  | dK kvs => obtain ⟨_, _, _, _, o, _, _, e, _⟩ := x; exact Heap.lt_size e
  | dT kvs => obtain ⟨_, _, _, _, o, _, _, e, _⟩ := x; exact Heap.lt_size e
  | set S n => obtain ⟨o, _, _, _, e, _⟩ := x; exact Heap.lt_size e
  | ins C dx fs => obtain ⟨_, _, _, e, _⟩ := x; exact Heap.lt_size e
  | own y => obtain ⟨_, e⟩ := x; exact Heap.lt_size e
  | xd fs => obtain ⟨_, ⟨_, _, _, e, _⟩, _⟩ := x; exact Heap.lt_size e
  | rng lo hi => obtain ⟨_, _, _, e⟩ := x; exact Heap.lt_size e
  | frz ob u => obtain ⟨e, _⟩ := x; exact Heap.lt_size e
  | tbl ps => exact Heap.lt_size (show h.get? a = some _ from x)
  | met f y => exact Heap.lt_size (show h.get? a = some _ from x)
  | ext φ => obtain ⟨_, ⟨_, e⟩, _⟩ := x; exact Heap.lt_size e
theorem Paired.mapP {α β : Type} {F G : α → β → Prop} : ∀ {l₁ : List α} {l₂ : List β}, Paired F l₁ l₂ → (∀ a b, F a b → G a b) → Paired G l₁ l₂
  | _, _, .nil, _ => .nil
  | _, _, .cons r t, f => .cons (f _ _ r) (Paired.mapP t f)
/-- what an object's description leans on: its own object, its own dict, the tuples -/
theorem ObjOk.stay (x : ObjOk P w H h a o) (k : ∀ b u, (b = a ∨ H b = some (.own a)) → h.get? b = some u → h'.get? b = some u)
    (ho : ∀ b, H b = some (.own a) → H' b = some (.own a)) (ht : ∀ b xs, H b = some (.tup xs) → H' b = some (.tup xs)) : ObjOk P w H' h' a o := by
  induction o with
  | lst xs => obtain ⟨z, its, n, r, e⟩ := x; exact ⟨z, its, n, r, k _ _ (.inl rfl) e⟩
  | tup xs => obtain ⟨z, its, r, ob, e, c⟩ := x; exact ⟨z, its, r, ob, k _ _ (.inl rfl) e, c⟩
  | dK kvs => obtain ⟨z, y, vs, r, ob, es, ep, e, c⟩ := x; exact ⟨z, y, vs, r, ob, es, ep, k _ _ (.inl rfl) e, c⟩
  | dT kvs =>
    obtain ⟨z, y, xs, r, ob, es, ep, e, c⟩ := x
    exact ⟨z, y, xs, Paired.mapP r fun p q z => ⟨z.1, ht _ _ z.2.1, z.2.2⟩, ob, es, ep, k _ _ (.inl rfl) e, c⟩
  | set S n => obtain ⟨ob, es, ep, t, e, c⟩ := x; exact ⟨ob, es, ep, t, k _ _ (.inl rfl) e, c⟩
  | ins C dx fs =>
    obtain ⟨d, z, ne, e, mA, ⟨od, es, ep, e2, c⟩, r⟩ := x
    exact ⟨ho _ d, z, ne, k _ _ (.inl rfl) e, mA, ⟨od, es, ep, k _ _ (.inr d) e2, c⟩, r⟩
  | own y => obtain ⟨ob, e⟩ := x; exact ⟨ob, k _ _ (.inl rfl) e⟩
  | xd fs => obtain ⟨mA, ⟨od, es, ep, e, c⟩, r⟩ := x; exact ⟨mA, ⟨od, es, ep, k _ _ (.inl rfl) e, c⟩, r⟩
  | rng lo hi => obtain ⟨t, u, v, e⟩ := x; exact ⟨t, u, v, k _ _ (.inl rfl) e⟩
  | frz ob u ih => obtain ⟨e, q⟩ := x; exact ⟨k _ _ (.inl rfl) e, ih q⟩
  | tbl ps =>
    have e : h.get? a = some { cls := .none, data := .fields ps } := x
    show h'.get? a = some { cls := .none, data := .fields ps }
    exact k a _ (.inl rfl) e
  | met f y =>
    have e : h.get? a = some (PySem.W.methodObj (.ref f) (.ref y)) := x
    show h'.get? a = some (PySem.W.methodObj (.ref f) (.ref y))
    exact k a _ (.inl rfl) e
  | ext φ => obtain ⟨p, ⟨o, e⟩, st⟩ := x; exact ⟨st _ _ p fun o q => k _ _ (.inl rfl) q, ⟨o, k _ _ (.inl rfl) e⟩, st⟩
theorem HOk.lt (x : HOk P w H h) (e : H a = some o) : a < h.objs.size := (x a o e).lt
theorem HOk.fresh (x : HOk P w H h) (e : h.objs.size ≤ a) : H a = none := by
  cases q : H a with
  | none => rfl
  | some u => exact absurd (Nat.lt_of_lt_of_le (x.lt q) e) (Nat.lt_irrefl _)
/-- every object of the heap is kept -/
theorem HOk.kept (x : HOk P w H h) (k : ∀ b u, h.get? b = some u → h'.get? b = some u) : HOk P w H h' := fun a o e =>
  (x a o e).stay (fun b u _ q => k b u q) (fun _ q => q) fun _ _ q => q
/-- a new object is laid and tracked -/
theorem HOk.laid (x : HOk P w H h) (k : ∀ b u, h.get? b = some u → h'.get? b = some u) (hp : h.objs.size ≤ a) (new : ObjOk P w (upd H a o) h' a o) : HOk P w (upd H a o) h' := fun b u e => by
  have hn := x.fresh hp
  by_cases hb : b = a
  · subst hb; rw [upd_same] at e; cases e; exact new
  · rw [upd_ne hb] at e
    exact (x b u e).stay (fun c v _ q => k c v q) (fun c q => by rw [upd_ne (ne_of_none q hn)]; exact q) fun c xs q => by rw [upd_ne (ne_of_none q hn)]; exact q
end

/-- what may be read as u: it is u, or a known u -/
def Rd (H : Hp) (a : Addr) (u : HO) : Prop := H a = some u ∨ ∃ o, H a = some (.frz o u)
theorem Rd.ok {P : Program} {w : World} {H : Hp} {h : Heap} {a : Addr} {u : HO} (r : Rd H a u) (x : HOk P w H h) : ObjOk P w H h a u := by
  rcases r with r | ⟨o, r⟩
  · exact x a u r
  · obtain ⟨_, q⟩ := x a _ r
    exact q
/-- what may be written -/
def Mut : Option HO → Prop
  | some (.lst _) => True
  | some (.dK _) => True
  | some (.dT _) => True
  | some (.set _ _) => True
  | some (.ins _ _ _) => True
  | some (.ext _) => True
  | _ => False
section
variable {P : Program} {w : World} {H : Hp} {h h' : Heap} {x e : Addr} {o' : HO}
/-- the object at e is changed: x itself, or the dict of the instance x -/
theorem HOk.write (ok : HOk P w H h) (mu : Mut (H x)) (he : e = x ∨ H e = some (.own x)) (k : ∀ b u, b ≠ e → h.get? b = some u → h'.get? b = some u) (heo : ∃ u, h'.get? e = some u)
    (new : ObjOk P w (upd H x o') h' x o') : HOk P w (upd H x o') h' := fun b u q => by
  have nown : ∀ c y, H c = some (.own y) → c ≠ x := fun c y r z => by subst z; rw [r] at mu; exact mu
  have ntup : ∀ c xs, H c = some (.tup xs) → c ≠ x := fun c xs r z => by subst z; rw [r] at mu; exact mu
  by_cases hb : b = x
  · subst hb; rw [upd_same] at q; cases q; exact new
  · rw [upd_ne hb] at q
    by_cases hbe : b = e
    · have q' : H b = some (.own x) := by
        rcases he with z | z
        · exact absurd (hbe.trans z) hb
        · rw [hbe]; exact z
      rw [q] at q'; cases q'
      obtain ⟨v, hv⟩ := heo
      exact ⟨v, by rw [hbe]; exact hv⟩
    · refine (ok b u q).stay (fun c v hc r => k c v ?_ r) (fun c r => by rw [upd_ne (nown c b r)]; exact r) fun c xs r => by rw [upd_ne (ntup c xs r)]; exact r
      rcases hc with rfl | hc
      · exact hbe
      · rintro rfl
        rcases he with z | z
        · exact nown c b hc z
        · rw [hc] at z; cases z; exact hb rfl
end

/-! ### kept unless tracked; of the frames at fs (the callers') the slots may change (an exception that passes writes there); of the records at ex (iterators) nothing is said -/
structure Un (fs ex : List Addr) (H H' : Hp) (h h' : Heap) : Prop where
  keep : ∀ b o, h.get? b = some o → H b = none → b ∉ fs → b ∉ ex → h'.get? b = some o
  slot : ∀ b o, h.get? b = some o → H b = none → b ∈ fs → b ∉ ex → ∃ sl, h'.get? b = some { o with slots := sl }
  free : ∀ b o, h.get? b = some o → H b = none → b ∉ ex → H' b = none
  there : ∀ b o, h.get? b = some o → b ∉ ex → ∃ o', h'.get? b = some o'
  tups : ∀ b xs, H b = some (.tup xs) → H' b = some (.tup xs)
  frzs : ∀ b o u, H b = some (.frz o u) → H' b = some (.frz o u)
  tbls : ∀ b ps, H b = some (.tbl ps) → ∃ more, H' b = some (.tbl (ps ++ more))
section
variable {fs fs' ex ex' : List Addr} {H H1 H2 : Hp} {h h1 h2 h' : Heap} {a x e : Addr} {o : HO}
theorem Un.any (u : Un fs ex H H1 h h1) {b : Addr} {ob : Obj} (q : h.get? b = some ob) (n : H b = none) (hx : b ∉ ex) : ∃ sl, h1.get? b = some { ob with slots := sl } := by
  by_cases hb : b ∈ fs
  · exact u.slot b ob q n hb hx
  · exact ⟨ob.slots, u.keep b ob q n hb hx⟩
theorem Un.trans (a : Un fs ex H H1 h h1) (b : Un fs ex H1 H2 h1 h2) : Un fs ex H H2 h h2 where
  keep := fun c ob q n hc hx => b.keep c ob (a.keep c ob q n hc hx) (a.free c ob q n hx) hc hx
  slot := fun c ob q n hc hx => by
    obtain ⟨sl, e1⟩ := a.slot c ob q n hc hx
    obtain ⟨sl', e2⟩ := b.slot c _ e1 (a.free c ob q n hx) hc hx
    exact ⟨sl', e2⟩
  free := fun c ob q n hx => by
    obtain ⟨o', e1⟩ := a.there c ob q hx
    exact b.free c o' e1 (a.free c ob q n hx) hx
  there := fun c ob q hx => by
    obtain ⟨o', e1⟩ := a.there c ob q hx
    exact b.there c o' e1 hx
  tups := fun c xs q => b.tups c xs (a.tups c xs q)
  frzs := fun c ob xs q => b.frzs c ob xs (a.frzs c ob xs q)
  tbls := fun c ps q => by
    obtain ⟨m1, e1⟩ := a.tbls c ps q
    obtain ⟨m2, e2⟩ := b.tbls c _ e1
    exact ⟨m1 ++ m2, by rw [e2, Array.append_assoc]⟩
theorem Un.kept (k : ∀ b u, h.get? b = some u → h'.get? b = some u) : Un fs ex H H h h' :=
  ⟨fun b ob q _ _ _ => k b ob q, fun b ob q _ _ _ => ⟨ob.slots, k b ob q⟩, fun _ _ _ n _ => n, fun b ob q _ => ⟨ob, k b ob q⟩, fun _ _ q => q, fun _ _ _ q => q, fun _ ps q => ⟨#[], by rw [q]; simp⟩⟩
theorem Un.refl : Un fs ex H H h h := Un.kept fun _ _ q => q
theorem Un.laid (k : ∀ b u, h.get? b = some u → h'.get? b = some u) (hp : h.objs.size ≤ a) (hn : H a = none) : Un fs ex H (upd H a o) h h' where
  keep := fun b u q _ _ _ => k b u q
  slot := fun b u q _ _ _ => ⟨u.slots, k b u q⟩
  free := fun b u q n _ => by rw [upd_ne (Nat.ne_of_lt (Nat.lt_of_lt_of_le (Heap.lt_size q) hp))]; exact n
  there := fun b u q _ => ⟨u, k b u q⟩
  tups := fun b xs q => by rw [upd_ne (ne_of_none q hn)]; exact q
  frzs := fun b u xs q => by rw [upd_ne (ne_of_none q hn)]; exact q
  tbls := fun b ps q => ⟨#[], by rw [upd_ne (ne_of_none q hn), q]; simp⟩
theorem Un.write (mu : Mut (H x)) (he : e = x ∨ H e = some (.own x)) (k : ∀ b u, b ≠ e → h.get? b = some u → h'.get? b = some u) (heo : ∃ u, h'.get? e = some u) : Un fs ex H (upd H x o) h h' := by
  have hx : ∀ b, H b = none → b ≠ x := fun b n z => by subst z; rw [n] at mu; exact mu
  have hb : ∀ b, H b = none → b ≠ e := fun b n z => by
    subst z
    rcases he with r | r
    · exact hx b n r
    · rw [n] at r; cases r
  have hm : ∀ b u, H b = some u → ¬ Mut (some u) → b ≠ x := fun b u q nm z => by subst z; rw [q] at mu; exact nm mu
  refine ⟨fun b u q n _ _ => k b u (hb b n) q, fun b u q n _ _ => ⟨u.slots, k b u (hb b n) q⟩, fun b u q n _ => by rw [upd_ne (hx b n)]; exact n, fun b u q _ => ?_,
    fun b xs q => by rw [upd_ne (hm b _ q fun z => z)]; exact q, fun b u xs q => by rw [upd_ne (hm b _ q fun z => z)]; exact q, fun b ps q => ⟨#[], by rw [upd_ne (hm b _ q fun z => z), q]; simp⟩⟩
  by_cases hbe : b = e
  · subst hbe; exact heo
  · exact ⟨u, k b u hbe q⟩
end

/-! ### the heap without what is tracked -/
def trk (h : Heap) (H : Hp) : List Addr := (List.range h.objs.size).filter fun a => (H a).isSome
def hidT (h : Heap) (H : Hp) : Heap := PySem.W.hideAll h (trk h H)
theorem hidT_size (h : Heap) (H : Hp) : (hidT h H).objs.size = h.objs.size := PySem.W.hideAll_size _ _
theorem hidT_get {h : Heap} {H : Hp} {b : Addr} {o : Obj} (e : h.get? b = some o) (n : H b = none) : (hidT h H).get? b = some o :=
  PySem.W.hideAll_get _ e fun hm => by
    have q : (H b).isSome = true := (List.mem_filter.mp hm).2
    rw [n] at q; simp at q
theorem of_hidT {h : Heap} {H : Hp} {b : Addr} {o : Obj} (e : (hidT h H).get? b = some o) : h.get? b = some o ∧ H b = none := by
  have e' : h.get? b = some o := PySem.W.of_hideAll (trk h H) e
  refine ⟨e', ?_⟩
  cases q : H b with
  | none => rfl
  | some x =>
    have hm : b ∈ trk h H := List.mem_filter.mpr ⟨List.mem_range.mpr (Heap.lt_size e'), by simp [q]⟩
    have z : (hidT h H).get? b = none := PySem.W.hideAll_none (trk h H) hm
    rw [z] at e; cases e

/-! ### OpenK's ledger, filled with every new object but one -/
def allNews (g h : Heap) (L : Addr) : List (Addr × Obj) := (List.range h.objs.size).filterMap fun a => if a = L ∨ (g.get? a).isSome = true then none else (h.get? a).map fun o => (a, o)
def rest (g h : Heap) (L d : Addr) : List (Addr × Obj) := (allNews g h L).filter fun p => decide (p.1 ≠ d)
end L2

namespace L2
open PySem PySem.Spec PyProof.Rows

/-- the module's facts, over the base: the heap at the law's entry without what is tracked there -/
structure Mod (K : PySem.W.Frag) (mg : Str → Option Value) (base : Heap) : Prop where
  kin : K.In base
  glob : base.Ns mainGlobals mg
  blt : ∃ mb, base.Ns builtinsNs mb ∧ ∀ x : Str, x ≠ "__name__" → mb x = bootBuiltins x
  nolimit : base.NoLimit

/-- the context: a def's body (or a comprehension's block) running. base: fixed through the whole law; s₀, H₀: the entry; outer: the frames whose slots others may change (a def's callers); stack: all frames that run;
   ex: iterators that were made ahead of the entry and are walked here (a comprehension's); fn: the names whose cells were made at the entry (a def: all; a comprehension's block: its own); calm: not within an except suite; pn: pins that every state bears; xe: what is wanted of an exception that leaves the code -/
structure Cx where
  prog : Program
  w : World
  K : PySem.W.Frag
  mg : Str → Option Value
  base : Heap
  A : Around
  N : List Str
  s₀ : Shared
  H₀ : Hp
  env : Env
  outer : List Env
  stack : List Env
  ex : List Addr
  fn : Str → Bool
  calm : Bool
  pn : List (Addr × Obj)
  xe : Value → Shared → Prop
/-- the callers' frames -/
def frs (l : List Env) : List Addr := l.filterMap (·.frame)
abbrev Cx.fs (X : Cx) : List Addr := frs X.outer

def Vis (sc : Scope) (x : Str) : Prop := sc.names.lookup x = some .local ∨ sc.names.lookup x = some .cell ∨ sc.names.lookup x = some .free
def Loc (sc : Scope) (x : Str) : Prop := sc.names.lookup x = some .local ∨ sc.names.lookup x = some .cell
def Look (env : Env) (h : Heap) (m : Str → Option Value) (x : Str) (u : Value) : Prop :=
  (env.kindOf x = some .local ∧ m x = some u) ∨ ((env.kindOf x = some .cell ∨ env.kindOf x = some .free) ∧ ∃ c, env.cells.lookup x = some c ∧ h.IsCell c (some u))

structure Cx.Ok (X : Cx) : Prop where
  mod : Mod X.K X.mg X.base
  kind : X.env.scope.kind = .function
  glob : X.env.globals = mainGlobals
  blt : X.env.builtins = builtinsNs
  above : X.s₀.heap.objs.size ≤ X.env.locals
  inj : ∀ x y c, X.env.cells.lookup x = some c → X.env.cells.lookup y = some c → x = y
  has : ∀ x, (X.env.kindOf x = some .cell ∨ X.env.kindOf x = some .free) → ∃ c, X.env.cells.lookup x = some c
  cab : ∀ x c, X.fn x = true → X.env.cells.lookup x = some c → X.s₀.heap.objs.size ≤ c
  hd : X.calm = true → X.A.handled = none
  frames : X.A.frames = some X.stack
  stk : X.stack = X.outer ∨ (X.stack = X.env :: X.outer ∧ X.env.frame = some X.env.locals)
  exf : ∀ b ∈ X.ex, b ≠ X.env.locals ∧ ∀ x c, X.env.cells.lookup x = some c → c ≠ b
  bs : ∀ b o, X.base.get? b = some o → X.s₀.heap.get? b = some o ∧ X.H₀ b = none
  bsz : X.base.objs.size ≤ X.s₀.heap.objs.size
  noex : ∀ b o, X.base.get? b = some o → b ∉ X.ex
  exfs : ∀ b ∈ X.ex, b ∉ X.fs
  funs : X.s₀.heap.FunFrames X.base X.outer
  frf : ∀ b ∈ X.fs, X.H₀ b = none

structure Inv (X : Cx) (pins : List (Addr × Obj)) (σ : List (Option V)) (H : Hp) (s : Shared) : Prop where
  ok : X.Ok
  os : s.os = X.s₀.os
  bare : AllBare s.gens
  base : Un X.fs X.ex X.H₀ H X.s₀.heap s.heap
  loc : ∃ m, s.heap.Ns X.env.locals m ∧ ∀ (i : Nat) (x : Str) (v : V), X.N[i]? = some x → σ[i]? = some (some v) → Vis X.env.scope x → ∃ u, RelV v u ∧ Look X.env s.heap m x u
  cell : ∀ x c, X.env.cells.lookup x = some c → ∃ v, s.heap.IsCell c v
  free : H X.env.locals = none
  freeC : ∀ x c, X.env.cells.lookup x = some c → H c = none
  pin : ∀ p ∈ X.pn ++ pins, s.heap.get? p.1 = some p.2 ∧ H p.1 = none ∧ p.1 ≠ X.env.locals ∧ p.1 ∉ X.fs ∧ ∀ v, p.2.data ≠ .cell v
  hok : HOk X.prog X.w H s.heap
  len : σ.length = X.N.length

section
variable {X : Cx} {pins : List (Addr × Obj)} {σ : List (Option V)} {H H' : Hp} {s : Shared} {h' : Heap}

theorem Cx.Ok.nofr (ok : X.Ok) {b : Addr} {o : Obj} (e : X.base.get? b = some o) : b ∉ X.fs := fun hb => by
  have := (ok.funs.mem hb).1
  rw [e] at this; cases this
theorem Inv.bs (I : Inv X pins σ H s) : ∀ b o, X.base.get? b = some o → s.heap.get? b = some o ∧ H b = none := fun b o e =>
  ⟨I.base.keep b o (I.ok.bs b o e).1 (I.ok.bs b o e).2 (I.ok.nofr e) (I.ok.noex b o e), I.base.free b o (I.ok.bs b o e).1 (I.ok.bs b o e).2 (I.ok.noex b o e)⟩
theorem Inv.bk (I : Inv X pins σ H s) : ∀ b o, X.base.get? b = some o → s.heap.get? b = some o := fun b o e => (I.bs b o e).1
theorem Inv.mod (I : Inv X pins σ H s) : Mod X.K X.mg X.base := I.ok.mod
theorem Inv.kIn (I : Inv X pins σ H s) : X.K.In s.heap := I.ok.mod.kin.keeps I.bk
theorem Inv.nolimit (I : Inv X pins σ H s) : s.heap.NoLimit := I.ok.mod.nolimit.keeps I.bk
/-- the frame over the base: for OpenK's rules (K.In X.base is I.mod.kin) -/
theorem Inv.fr (I : Inv X pins σ H s) : ∃ m, Fr X.base X.env.locals s.heap m :=
  let ⟨m, hn, _⟩ := I.loc
  ⟨m, hn, I.bk, Nat.le_trans I.ok.bsz I.ok.above⟩
theorem Inv.lt (I : Inv X pins σ H s) : X.env.locals < s.heap.objs.size := let ⟨_, hn, _⟩ := I.loc; hn.lt
theorem Inv.sz (I : Inv X pins σ H s) : X.s₀.heap.objs.size ≤ s.heap.objs.size := Nat.le_trans I.ok.above (Nat.le_of_lt I.lt)
theorem Inv.nofs (I : Inv X pins σ H s) {a : Addr} (h : s.heap.objs.size ≤ a) : a ∉ X.fs := fun hb => by
  obtain ⟨_, o, ho, _⟩ := I.ok.funs.mem hb
  exact absurd (Nat.lt_of_lt_of_le (Heap.lt_size ho) (Nat.le_trans I.sz h)) (Nat.lt_irrefl _)
theorem Inv.cne (I : Inv X pins σ H s) : ∀ x c, X.env.cells.lookup x = some c → c ≠ X.env.locals := fun x c e z => by
  obtain ⟨v, o, ho, hd⟩ := I.cell x c e
  obtain ⟨m, ⟨o', es, ep, ho', hd', _⟩, _⟩ := I.loc
  rw [z, ho'] at ho; cases ho; rw [hd'] at hd; cases hd
theorem Inv.funs (I : Inv X pins σ H s) : s.heap.FunFrames X.base X.outer := by
  have all : ∀ (l : List Env), (∀ b ∈ frs l, b ∈ X.fs) → X.s₀.heap.FunFrames X.base l → s.heap.FunFrames X.base l := by
    intro l
    induction l with
    | nil => intro _ _; trivial
    | cons env r ih =>
      intro hs hl
      obtain ⟨hk, ⟨L, o, hf, hn, ho, hd⟩, hr⟩ := hl
      have hL : L ∈ X.fs := hs L (by unfold frs; rw [List.filterMap_cons, hf]; exact List.mem_cons_self)
      obtain ⟨sl, e⟩ := I.base.slot L o ho (I.ok.frf L hL) hL fun z => I.ok.exfs L z hL
      exact ⟨hk, ⟨L, _, hf, hn, e, hd⟩, ih (fun b hb => hs b (by unfold frs; rw [List.filterMap_cons, hf]; exact List.mem_cons_of_mem _ hb)) hr⟩
  exact all X.outer (fun _ hb => hb) I.ok.funs

/-- the frames that run, for a call -/
theorem Inv.stack (I : Inv X pins σ H s) : s.heap.FunFrames X.base X.stack := by
  rcases I.ok.stk with e | ⟨e, hf⟩
  · rw [e]; exact I.funs
  · rw [e]
    obtain ⟨m, hn, _⟩ := I.loc
    refine .cons (by rw [I.ok.kind]; decide) hf hn ?_ I.funs
    exact Heap.get?_none_of_le (Nat.le_trans I.ok.bsz I.ok.above)
theorem Inv.stkSub (I : Inv X pins σ H s) : ∀ b ∈ frs X.stack, b ∈ X.env.locals :: X.fs := fun b hb => by
  rcases I.ok.stk with e | ⟨e, hf⟩
  · rw [e] at hb; exact List.mem_cons_of_mem _ hb
  · rw [e] at hb
    unfold frs at hb
    rw [List.filterMap_cons, hf] at hb
    exact hb
theorem Inv.stkFree (I : Inv X pins σ H s) : ∀ b ∈ frs X.stack, H b = none := fun b hb => by
  rcases List.mem_cons.mp (I.stkSub b hb) with e | hb
  · rw [e]; exact I.free
  · obtain ⟨_, o, ho, _⟩ := I.ok.funs.mem hb
    exact I.base.free b o ho (I.ok.frf b hb) fun z => I.ok.exfs b z hb

/-- THE STEP: the untracked objects but the frame and the records at ch are kept (the callers' frames up to slots), the frame's map is kept, the new abstract heap is held -/
theorem Inv.step {g' : Array GenState} {t' : Nat} {d' : Drawn} {ch : List Addr} (I : Inv X pins σ H s)
    (hch : ∀ b ∈ ch, (b ∈ X.ex ∨ X.s₀.heap.objs.size ≤ b) ∧ b ≠ X.env.locals ∧ (∀ x c, X.env.cells.lookup x = some c → c ≠ b) ∧ ∀ p ∈ X.pn ++ pins, p.1 ≠ b)
    (keep : ∀ b o, b ≠ X.env.locals → b ∉ X.fs → b ∉ ch → s.heap.get? b = some o → H b = none → h'.get? b = some o)
    (slot : ∀ b o, b ≠ X.env.locals → b ∈ X.fs → b ∉ ch → s.heap.get? b = some o → H b = none → ∃ sl, h'.get? b = some { o with slots := sl }) (free : ∀ b o, b ∉ ch → s.heap.get? b = some o → H b = none → H' b = none)
    (there : ∀ b o, b ∉ ch → s.heap.get? b = some o → ∃ o', h'.get? b = some o')
    (tups : ∀ b xs, H b = some (.tup xs) → H' b = some (.tup xs)) (frzs : ∀ b o u, H b = some (.frz o u) → H' b = some (.frz o u)) (tbls : ∀ b ps, H b = some (.tbl ps) → ∃ more, H' b = some (.tbl (ps ++ more)))
    (ns : ∀ m, s.heap.Ns X.env.locals m → h'.Ns X.env.locals m) (hok : HOk X.prog X.w H' h') (hg : AllBare g') :
    Inv X pins σ H' { s with heap := h', gens := g', drawn := d', toks := t' } := by
  have neL : ∀ b o, X.s₀.heap.get? b = some o → b ≠ X.env.locals := fun b o e => Nat.ne_of_lt (Nat.lt_of_lt_of_le (Heap.lt_size e) I.ok.above)
  have neC : ∀ b o, X.s₀.heap.get? b = some o → b ∉ X.ex → b ∉ ch := fun b o e hx hb => by
    rcases (hch b hb).1 with z | z
    · exact hx z
    · exact absurd (Nat.lt_of_lt_of_le (Heap.lt_size e) z) (Nat.lt_irrefl _)
  have cellK : ∀ x c, X.env.cells.lookup x = some c → ∀ v, s.heap.IsCell c v → h'.IsCell c v := fun x c e v ⟨o, ho, hd⟩ => by
    have nch : c ∉ ch := fun z => (hch c z).2.2.1 x c e rfl
    by_cases hc : c ∈ X.fs
    · obtain ⟨sl, q⟩ := slot c o (I.cne x c e) hc nch ho (I.freeC x c e)
      exact ⟨_, q, hd⟩
    · exact ⟨o, keep c o (I.cne x c e) hc nch ho (I.freeC x c e), hd⟩
  refine ⟨I.ok, I.os, hg, ⟨fun b o e n hb hx => ?_, fun b o e n hb hx => ?_, fun b o e n hx => ?_, fun b o e hx => ?_, fun b xs e => tups b xs (I.base.tups b xs e), fun b o xs e => frzs b o xs (I.base.frzs b o xs e), fun b ps e => ?_⟩, ?_, fun x c e => ?_, ?_, fun x c e => ?_, fun p hp => ?_, hok, I.len⟩
  · exact keep b o (neL b o e) hb (neC b o e hx) (I.base.keep b o e n hb hx) (I.base.free b o e n hx)
  · obtain ⟨sl, e1⟩ := I.base.slot b o e n hb hx
    obtain ⟨sl', e2⟩ := slot b _ (neL b o e) hb (neC b o e hx) e1 (I.base.free b o e n hx)
    exact ⟨sl', e2⟩
  · obtain ⟨o', e1⟩ := I.base.there b o e hx
    exact free b o' (neC b o e hx) e1 (I.base.free b o e n hx)
  · obtain ⟨o', e1⟩ := I.base.there b o e hx
    exact there b o' (neC b o e hx) e1
  · obtain ⟨m1, e1⟩ := I.base.tbls b ps e
    obtain ⟨m2, e2⟩ := tbls b _ e1
    exact ⟨m1 ++ m2, by rw [e2, Array.append_assoc]⟩
  · obtain ⟨m, hn, hl⟩ := I.loc
    refine ⟨m, ns m hn, fun i x v e1 e2 e3 => ?_⟩
    obtain ⟨u, r, l⟩ := hl i x v e1 e2 e3
    refine ⟨u, r, ?_⟩
    rcases l with l | ⟨k, c, e, z⟩
    · exact .inl l
    · exact .inr ⟨k, c, e, cellK x c e _ z⟩
  · obtain ⟨v, z⟩ := I.cell x c e
    exact ⟨v, cellK x c e v z⟩
  · obtain ⟨m, ⟨o, _, _, ho, _⟩, _⟩ := I.loc
    exact free _ o (fun z => (hch _ z).2.1 rfl) ho I.free
  · obtain ⟨v, o, ho, hd⟩ := I.cell x c e
    exact free c o (fun z => (hch c z).2.2.1 x c e rfl) ho (I.freeC x c e)
  · obtain ⟨e, n, ne, nf, d⟩ := I.pin p hp
    have nch : p.1 ∉ ch := fun z => (hch p.1 z).2.2.2 p hp rfl
    exact ⟨keep p.1 p.2 ne nf nch e n, free p.1 p.2 nch e n, ne, nf, d⟩
/-- .. where the frame's own object is kept too -/
theorem Inv.un {t' : Nat} (I : Inv X pins σ H s) (u : Un X.fs [] H H' s.heap h') (hok : HOk X.prog X.w H' h') : Inv X pins σ H' { s with heap := h', toks := t' } := by
  obtain ⟨m, ⟨o, es, ep, ho, r⟩, _⟩ := id I.loc
  obtain ⟨sl, hL⟩ := u.any ho I.free (by simp)
  exact I.step (g' := s.gens) (d' := s.drawn) (ch := []) (fun _ z => nomatch z) (fun b o _ hb _ e n => u.keep b o e n hb (by simp)) (fun b o _ hb _ e n => u.slot b o e n hb (by simp)) (fun b o _ e n => u.free b o e n (by simp)) (fun b o _ e => u.there b o e (by simp)) u.tups u.frzs u.tbls (fun m' hm => by
    obtain ⟨o', es', ep', ho', r'⟩ := hm
    rw [ho] at ho'; cases ho'
    exact ⟨_, es', ep', hL, r'⟩) hok I.bare
/-- behind a call (or a comprehension's block): the slots of this frame may have changed too, the records at ch may have turned -/
theorem Inv.call {g' : Array GenState} {t' : Nat} {d' : Drawn} {ch : List Addr} (I : Inv X pins σ H s) (u : Un (frs X.stack) ch H H' s.heap h') (hok : HOk X.prog X.w H' h') (hg : AllBare g')
    (hch : ∀ b ∈ ch, (b ∈ X.ex ∨ X.s₀.heap.objs.size ≤ b) ∧ b ≠ X.env.locals ∧ (∀ x c, X.env.cells.lookup x = some c → c ≠ b) ∧ ∀ p ∈ X.pn ++ pins, p.1 ≠ b) :
    Inv X pins σ H' { s with heap := h', gens := g', drawn := d', toks := t' } := by
  obtain ⟨m, ⟨o, es, ep, ho, r⟩, _⟩ := id I.loc
  obtain ⟨sl, hL⟩ := u.any ho I.free fun z => (hch _ z).2.1 rfl
  exact I.step (ch := ch) hch (fun b o hL hb hc e n => u.keep b o e n (fun z => (List.mem_cons.mp (I.stkSub b z)).elim hL hb) hc) (fun b o _ _ hc e n => u.any e n hc) (fun b o hc e n => u.free b o e n hc) (fun b o hc e => u.there b o e hc) u.tups u.frzs u.tbls (fun m' hm => by
    obtain ⟨o', es', ep', ho', r'⟩ := hm
    rw [ho] at ho'; cases ho'
    exact ⟨_, es', ep', hL, r'⟩) hok hg
/-- an untracked record of ours (an iterator) has turned -/
theorem Inv.turned {t' : Nat} {it : Addr} (I : Inv X pins σ H s) (k : ∀ b o, b ≠ it → s.heap.get? b = some o → h'.get? b = some o) (hn : H it = none) (hL : it ≠ X.env.locals)
    (h1 : it ∈ X.ex ∨ X.s₀.heap.objs.size ≤ it) (h2 : ∀ x c, X.env.cells.lookup x = some c → c ≠ it) (h3 : ∀ p ∈ X.pn ++ pins, p.1 ≠ it) : Inv X pins σ H { s with heap := h', toks := t' } := by
  have nit : ∀ b u, H b = some u → b ≠ it := fun b u e z => by rw [z, hn] at e; cases e
  refine I.step (g' := s.gens) (d' := s.drawn) (ch := [it]) (fun b hb => ?_) (fun b o _ _ hc e _ => k b o (fun z => hc (by simp [z])) e) (fun b o _ _ hc e _ => ⟨o.slots, k b o (fun z => hc (by simp [z])) e⟩) (fun _ _ _ _ n => n)
    (fun b o hc e => ⟨o, k b o (fun z => hc (by simp [z])) e⟩) (fun _ _ e => e) (fun _ _ _ e => e) (fun b ps e => ⟨#[], by rw [e]; simp⟩) (fun m hm => ?_) (fun b u e => ?_) I.bare
  · have e : b = it := by simpa using hb
    subst e
    exact ⟨h1, hL, h2, h3⟩
  · obtain ⟨o, es, ep, ho, r⟩ := hm
    exact ⟨o, es, ep, k _ o (Ne.symm hL) ho, r⟩
  · refine (I.hok b u e).stay (fun c v hc q => k c v ?_ q) (fun _ q => q) fun _ _ q => q
    rcases hc with z | z
    · rw [z]; exact nit b u e
    · exact nit c _ z
theorem Inv.tok (I : Inv X pins σ H s) (t : Nat) : Inv X pins σ H { s with toks := t } := I.un (h' := s.heap) (t' := t) Un.refl I.hok
/-- all objects kept -/
theorem Inv.kept {t' : Nat} (I : Inv X pins σ H s) (k : ∀ b u, s.heap.get? b = some u → h'.get? b = some u) : Inv X pins σ H { s with heap := h', toks := t' } := I.un (Un.kept k) (I.hok.kept k)
/-- a new object laid and tracked -/
theorem Inv.laid {a : Addr} {o : HO} {t' : Nat} (I : Inv X pins σ H s) (k : ∀ b u, s.heap.get? b = some u → h'.get? b = some u) (hp : s.heap.objs.size ≤ a) (new : ObjOk X.prog X.w (upd H a o) h' a o) :
    Inv X pins σ (upd H a o) { s with heap := h', toks := t' } := I.un (Un.laid k hp (I.hok.fresh hp)) (I.hok.laid k hp new)
/-- an object written -/
theorem Inv.write {x e : Addr} {o : HO} {t' : Nat} (I : Inv X pins σ H s) (mu : Mut (H x)) (he : e = x ∨ H e = some (.own x)) (k : ∀ b u, b ≠ e → s.heap.get? b = some u → h'.get? b = some u) (heo : ∃ u, h'.get? e = some u)
    (new : ObjOk X.prog X.w (upd H x o) h' x o) : Inv X pins σ (upd H x o) { s with heap := h', toks := t' } := I.un (Un.write mu he k heo) (I.hok.write mu he k heo new)
/-- forgetting slots, pins -/
theorem Inv.weak {σ' : List (Option V)} (I : Inv X pins σ H s) (hl : σ'.length = σ.length) (w : ∀ (i : Nat) v, σ'[i]? = some (some v) → σ[i]? = some (some v)) : Inv X pins σ' H s :=
  ⟨I.ok, I.os, I.bare, I.base, let ⟨m, hn, hl'⟩ := I.loc; ⟨m, hn, fun i x v e1 e2 e3 => hl' i x v e1 (w i v e2) e3⟩, I.cell, I.free, I.freeC, I.pin, I.hok, hl.trans I.len⟩
theorem Inv.pins_of {pins' : List (Addr × Obj)} (I : Inv X pins σ H s) (h : ∀ p ∈ pins', s.heap.get? p.1 = some p.2 ∧ H p.1 = none ∧ p.1 ≠ X.env.locals ∧ p.1 ∉ X.fs ∧ ∀ v, p.2.data ≠ .cell v) : Inv X pins' σ H s :=
  ⟨I.ok, I.os, I.bare, I.base, I.loc, I.cell, I.free, I.freeC, fun p hp => (List.mem_append.mp hp).elim (fun z => I.pin p (List.mem_append_left _ z)) (h p), I.hok, I.len⟩

theorem nodup_ix {N : List Str} (hN : N.Nodup) {i j : Nat} {x : Str} (a : N[i]? = some x) (b : N[j]? = some x) : i = j := by
  obtain ⟨h1, e1⟩ := List.getElem?_eq_some_iff.mp a
  obtain ⟨h2, e2⟩ := List.getElem?_eq_some_iff.mp b
  exact (List.getElem_inj hN).mp (e1.trans e2.symm)

/-- a name is stored; what changed -/
theorem store_ok2 {M : Model} {A : Around} {E : Value → Shared → Prop} {i : Nat} {x : Str} {v : V} {u : Value} {Q : Unit → Shared → Prop} (I : Inv X pins σ H s) (hN : X.N.Nodup) (hi : X.N[i]? = some x) (hx : Loc X.env.scope x) (r : RelV v u)
    (h : ∀ s', Inv X pins (σ.set i (some v)) H s' → (∃ a, Heap.SameBut a s.heap s'.heap ∧ (a = X.env.locals ∨ X.env.cells.lookup x = some a)) → Q () s') (hf : X.fn x = true ∨ X.env.scope.names.lookup x = some .local := by first | exact .inl rfl | exact .inr rfl | assumption) : wpAny M A (storeName X.env x u) Q E s := by
  obtain ⟨m, hn, hl⟩ := id I.loc
  have hcls : (X.env.scope.kind == .class || (X.env.scope.kind == .module && X.env.locals != X.env.globals)) = false := by rw [I.ok.kind]; rfl
  have hiσ : i < σ.length := by rw [I.len]; exact (List.getElem?_eq_some_iff.mp hi).1
  have cne := I.cne
  have tracked : ∀ {a : Addr} {h' : Heap}, (∃ o, s.heap.get? a = some o ∧ H a = none) → Heap.SameBut a s.heap h' → HOk X.prog X.w H h' := fun {a h'} ha hs b ob e => by
    obtain ⟨_, _, hfree⟩ := ha
    refine (I.hok b ob e).stay (fun c w' hc q => (hs.2 c ?_).trans q) (fun _ q => q) fun _ _ q => q
    rintro rfl
    rcases hc with rfl | hc
    · rw [hfree] at e; cases e
    · rw [hfree] at hc; cases hc
  rcases hx with hk | hk
  · refine wpAny_storeName_local hk hn (fun h' hn' hs => ?_) hcls
    obtain ⟨oL, _, _, hoL, _⟩ := id hn
    refine h _ ⟨I.ok, I.os, I.bare, ⟨fun b o e n hb hx => ?_, fun b o e n hb hx => ?_, I.base.free, fun b o e hx => ?_, I.base.tups, I.base.frzs, I.base.tbls⟩, ⟨_, hn', fun j y v' e1 e2 e3 => ?_⟩, fun y c e => ?_, I.free, I.freeC, fun p hp => ?_, tracked ⟨oL, hoL, I.free⟩ hs, by simpa using I.len⟩ ⟨_, hs, .inl rfl⟩
    · exact (hs.2 b (Nat.ne_of_lt (Nat.lt_of_lt_of_le (Heap.lt_size e) I.ok.above))).trans (I.base.keep b o e n hb hx)
    · obtain ⟨sl, e1⟩ := I.base.slot b o e n hb hx
      exact ⟨sl, (hs.2 b (Nat.ne_of_lt (Nat.lt_of_lt_of_le (Heap.lt_size e) I.ok.above))).trans e1⟩
    · obtain ⟨o', e1⟩ := I.base.there b o e hx
      exact ⟨o', (hs.2 b (Nat.ne_of_lt (Nat.lt_of_lt_of_le (Heap.lt_size e) I.ok.above))).trans e1⟩
    · by_cases hj : j = i
      · subst hj
        rw [hi] at e1; cases e1
        rw [List.getElem?_set_self hiσ] at e2
        cases e2
        exact ⟨u, r, .inl ⟨hk, by simp⟩⟩
      · rw [List.getElem?_set_ne (Ne.symm hj)] at e2
        obtain ⟨u', r', q⟩ := hl j y v' e1 e2 e3
        refine ⟨u', r', ?_⟩
        rcases q with ⟨k, e⟩ | ⟨k, c, e, z⟩
        · refine .inl ⟨k, ?_⟩
          have : y ≠ x := fun e => hj (nodup_ix hN e1 (e ▸ hi))
          simp [this, e]
        · exact .inr ⟨k, c, e, z.sameBut hs (cne y c e)⟩
    · obtain ⟨w', z⟩ := I.cell y c e
      exact ⟨w', z.sameBut hs (cne y c e)⟩
    · obtain ⟨e, n, ne, nf, d⟩ := I.pin p hp
      exact ⟨(hs.2 p.1 ne).trans e, n, ne, nf, d⟩
  · have hfn : X.fn x = true := by
      rcases hf with z | z
      · exact z
      · rw [z] at hk; cases hk
    obtain ⟨c, hc⟩ := I.ok.has x (.inl hk)
    obtain ⟨w', z⟩ := I.cell x c hc
    refine wpAny_storeName_cell I.ok.kind hk hc z (fun h' hc' hs => ?_)
    obtain ⟨oc, hoc, hocd⟩ := id z
    refine h { s with heap := h' } ⟨I.ok, I.os, I.bare, ⟨fun b o e n hb hx => ?_, fun b o e n hb hx => ?_, I.base.free, fun b o e hx => ?_, I.base.tups, I.base.frzs, I.base.tbls⟩, ⟨m, hn.sameBut hs (Ne.symm (cne x c hc)), fun j y v' e1 e2 e3 => ?_⟩, fun y c' e => ?_, I.free, I.freeC, fun p hp => ?_, tracked ⟨oc, hoc, I.freeC x c hc⟩ hs, by simpa using I.len⟩ ⟨c, hs, .inr hc⟩
    · exact (hs.2 b (Nat.ne_of_lt (Nat.lt_of_lt_of_le (Heap.lt_size e) (I.ok.cab x c hfn hc)))).trans (I.base.keep b o e n hb hx)
    · obtain ⟨sl, e1⟩ := I.base.slot b o e n hb hx
      exact ⟨sl, (hs.2 b (Nat.ne_of_lt (Nat.lt_of_lt_of_le (Heap.lt_size e) (I.ok.cab x c hfn hc)))).trans e1⟩
    · obtain ⟨o', e1⟩ := I.base.there b o e hx
      exact ⟨o', (hs.2 b (Nat.ne_of_lt (Nat.lt_of_lt_of_le (Heap.lt_size e) (I.ok.cab x c hfn hc)))).trans e1⟩
    · by_cases hj : j = i
      · subst hj
        rw [hi] at e1; cases e1
        rw [List.getElem?_set_self hiσ] at e2
        cases e2
        exact ⟨u, r, .inr ⟨.inl hk, c, hc, hc'⟩⟩
      · rw [List.getElem?_set_ne (Ne.symm hj)] at e2
        obtain ⟨u', r', q⟩ := hl j y v' e1 e2 e3
        refine ⟨u', r', ?_⟩
        rcases q with q | ⟨k, c', e, z'⟩
        · exact .inl q
        · refine .inr ⟨k, c', e, z'.sameBut hs ?_⟩
          rintro rfl
          exact hj (nodup_ix hN e1 (I.ok.inj _ _ _ e hc ▸ hi))
    · by_cases hcc : c' = c
      · subst hcc; exact ⟨_, hc'⟩
      · obtain ⟨w2, z2⟩ := I.cell y c' e
        exact ⟨w2, z2.sameBut hs hcc⟩
    · obtain ⟨e, n, ne, nf, d⟩ := I.pin p hp
      refine ⟨(hs.2 p.1 ?_).trans e, n, ne, nf, d⟩
      intro q
      rw [q, hoc] at e
      have q' : oc = p.2 := Option.some.inj e
      exact d w' (by rw [← q']; exact hocd)
theorem store_ok {M : Model} {A : Around} {E : Value → Shared → Prop} {i : Nat} {x : Str} {v : V} {u : Value} {Q : Unit → Shared → Prop} (I : Inv X pins σ H s) (hN : X.N.Nodup) (hi : X.N[i]? = some x) (hx : Loc X.env.scope x) (r : RelV v u)
    (h : ∀ s', Inv X pins (σ.set i (some v)) H s' → Q () s') (hf : X.fn x = true ∨ X.env.scope.names.lookup x = some .local := by first | exact .inl rfl | exact .inr rfl | assumption) : wpAny M A (storeName X.env x u) Q E s :=
  store_ok2 I hN hi hx r (fun s' I' _ => h s' I') hf
/-- behind a call or a block, the state as it is -/
theorem Inv.call' {s' : Shared} {ch : List Addr} (I : Inv X pins σ H s) (ho : s'.os = s.os) (u : Un (frs X.stack) ch H H' s.heap s'.heap) (hok : HOk X.prog X.w H' s'.heap) (hg : AllBare s'.gens)
    (hch : ∀ b ∈ ch, (b ∈ X.ex ∨ X.s₀.heap.objs.size ≤ b) ∧ b ≠ X.env.locals ∧ (∀ x c, X.env.cells.lookup x = some c → c ≠ b) ∧ ∀ p ∈ X.pn ++ pins, p.1 ≠ b) : Inv X pins σ H' s' := by
  obtain ⟨h', g', d', t', o'⟩ := s'
  have e : o' = s.os := ho
  subst e
  exact I.call (g' := g') (t' := t') (d' := d') u hok hg hch
end

/-! ### the judgements -/
/-- an exception: its class, its own dict's address (where it has one), the abstract heap behind it -/
abbrev XK := Value → Option Addr → Hp → Prop
abbrev St := List (Option V)
abbrev VK := V → Hp → Prop
/-- an expression's reading; a test's; an argument list's -/
abbrev TE := St → Hp → VK → Prop
abbrev TT := St → Hp → (Bool → Hp → Prop) → Prop
abbrev TA := St → Hp → (List V → Hp → Prop) → Prop
/-- what is wanted behind a statement -/
structure Ends where
  nx : St → Hp → Prop
  rt : VK
  bk : St → Hp → Prop := fun _ _ => False
  ct : St → Hp → Prop := fun _ _ => False
abbrev TS := Ends → St → Hp → Prop

def EP (X : Cx) (pins : List (Addr × Obj)) (σ : St) (Q : VK) (u : Value) (s' : Shared) : Prop := ∃ v H', Inv X pins σ H' s' ∧ RelV v u ∧ Q v H'
def TP (X : Cx) (pins : List (Addr × Obj)) (σ : St) (Q : Bool → Hp → Prop) (b : Bool) (s' : Shared) : Prop := ∃ H', Inv X pins σ H' s' ∧ Q b H'
def AP (X : Cx) (pins : List (Addr × Obj)) (σ : St) (Q : List V → Hp → Prop) (us : List Value) (s' : Shared) : Prop := ∃ vs H', Inv X pins σ H' s' ∧ Vals vs us ∧ Q vs H'
def SP (X : Cx) (pins : List (Addr × Obj)) (D : Ends) (f : Flow) (s' : Shared) : Prop :=
  match f with
  | .next => ∃ σ' H', Inv X pins σ' H' s' ∧ D.nx σ' H'
  | .brk => ∃ σ' H', Inv X pins σ' H' s' ∧ D.bk σ' H'
  | .cont => ∃ σ' H', Inv X pins σ' H' s' ∧ D.ct σ' H'
  | .ret u => ∃ v σ' H', Inv X pins σ' H' s' ∧ RelV v u ∧ D.rt v H'

def PE (X : Cx) (e : Expr) (t : TE) : Prop :=
  ∀ (pins : List (Addr × Obj)) (s : Shared) (σ : St) (H : Hp) (Q : VK), Inv X pins σ H s → t σ H Q → wpAny (model X.prog X.w) X.A (eval e X.env) (EP X pins σ Q) X.xe s
def PT (X : Cx) (e : Expr) (t : TT) : Prop :=
  ∀ (pins : List (Addr × Obj)) (s : Shared) (σ : St) (H : Hp) (Q : Bool → Hp → Prop), Inv X pins σ H s → t σ H Q → wpAny (model X.prog X.w) X.A (isTrue e X.env (eval e X.env)) (TP X pins σ Q) X.xe s
/-- a test whatever its 'whole' is (and, or) -/
def PW (X : Cx) (e : Expr) (t : TT) : Prop :=
  ∀ (whole : Sem Value) (pins : List (Addr × Obj)) (s : Shared) (σ : St) (H : Hp) (Q : Bool → Hp → Prop), Inv X pins σ H s → t σ H Q → wpAny (model X.prog X.w) X.A (isTrue e X.env whole) (TP X pins σ Q) X.xe s
theorem PW.pt {X : Cx} {e : Expr} {t : TT} (h : PW X e t) : PT X e t := h _
/-- an argument list (no star), from the left -/
def PA (X : Cx) (es : List Expr) (t : TA) : Prop :=
  ∀ (pos : Pos) (pins : List (Addr × Obj)) (s : Shared) (σ : St) (H : Hp) (Q : List V → Hp → Prop), Inv X pins σ H s → t σ H Q → wpAny (model X.prog X.w) X.A (spliced (backTo pos (starEach es X.env))) (AP X pins σ Q) X.xe s
def PS (X : Cx) (st : Stmt) (t : TS) : Prop :=
  ∀ (pins : List (Addr × Obj)) (s : Shared) (σ : St) (H : Hp) (D : Ends), Inv X pins σ H s → t D σ H → wpAny (model X.prog X.w) X.A (exec st X.env) (SP X pins D) X.xe s
def PSs (X : Cx) (st : List Stmt) (t : TS) : Prop :=
  ∀ (pins : List (Addr × Obj)) (s : Shared) (σ : St) (H : Hp) (D : Ends), Inv X pins σ H s → t D σ H → wpAny (model X.prog X.w) X.A (execs st X.env) (SP X pins D) X.xe s
/-- weaken the end -/
theorem thn {α : Type} {t : Sem α} {Q Q' : α → Shared → Prop} {M : Model} {A : Around} {E : Value → Shared → Prop} {s : Shared} (h : wpAny M A t Q E s) (hQ : ∀ a s, Q a s → Q' a s) : wpAny M A t Q' E s := wpAny_mono h hQ fun _ _ x => x
end L2

namespace L2
open PySem PySem.Spec PyProof.Rows
section
variable {X : Cx}

/-- two expressions in a row -/
theorem bin {a b : Expr} {ta tb : TE} (ha : PE X a ta) (hb : PE X b tb) {pins : List (Addr × Obj)} {s : Shared} {σ : St} {H : Hp} {R : V → V → Hp → Prop} (I : Inv X pins σ H s) (h : ta σ H fun x H1 => tb σ H1 fun y H2 => R x y H2)
    {α : Type} {Q : α → Shared → Prop} {f : Value → Value → Sem α}
    (hf : ∀ v u s2 x y H2, Inv X pins σ H2 s2 → RelV x v → RelV y u → R x y H2 → wpAny (model X.prog X.w) X.A (f v u) Q X.xe s2) :
    wpAny (model X.prog X.w) X.A (eval a X.env) (fun v s₁ => wpAny (model X.prog X.w) X.A (eval b X.env) (fun u s₂ => wpAny (model X.prog X.w) X.A (f v u) Q X.xe s₂) X.xe s₁) X.xe s := by
  refine thn (ha pins s σ H _ I h) fun v s1 ⟨x, H1, I1, r1, q1⟩ => ?_
  refine thn (hb pins s1 σ H1 _ I1 q1) fun u s2 ⟨y, H2, I2, r2, q2⟩ => ?_
  exact hf v u s2 x y H2 I2 r1 r2 q2

/-! ### names and constants -/
def tVar (i : Nat) : TE := fun σ H Q => ∃ v, σ[i]? = some (some v) ∧ Q v H
def tC (v : V) : TE := fun _ H Q => Q v H
theorem pe_var {i : Nat} {x : Str} {pos : Pos} (hN : X.N[i]? = some x) (hv : Vis X.env.scope x) (hd : (x == ("__debug__" : Str)) = false := by decide) (hcd : (x == ("__classdict__" : Str)) = false := by decide) : PE X (.Name x pos) (tVar i) := by
  intro pins s σ H Q I h
  obtain ⟨v, e, h⟩ := h
  obtain ⟨m, hn, hl⟩ := I.loc
  obtain ⟨u, r, l⟩ := hl i x v hN e hv
  have fin : EP X pins σ Q u s := ⟨v, H, I, r, h⟩
  rcases l with ⟨hk, hm⟩ | ⟨hk, c, hc, hcell⟩
  · exact wpAny_Name (wpAny_loadName_local I.ok.kind hk hn hm fin) hd
  · rcases hk with hk | hk
    · exact wpAny_Name (wpAny_loadName_cell I.ok.kind hk hc hcell fin) hd
    · exact wpAny_Name (wpAny_loadName_free I.ok.kind hk hc hcell fin hcd) hd
theorem pe_int {i j pos} : PE X (.Constant (.int i) j pos) (tC (.int i)) := fun _ _ _ H _ I h => wpAny_Constant_int ⟨.int i, H, I.tok _, ⟨_, rfl⟩, h⟩
theorem pe_bl {b j pos} : PE X (.Constant (.bool b) j pos) (tC (.bl b)) := fun _ _ _ H _ I h => Constant_bool ⟨.bl b, H, I, rfl, h⟩
theorem pe_non {j pos} : PE X (.Constant .none j pos) (tC .non) := fun _ _ _ H _ I h => Constant_none ⟨.non, H, I, rfl, h⟩
theorem pe_str {x j pos} : PE X (.Constant (.str x) j pos) (tC (.str x)) := fun _ _ _ H _ I h => Calls.Constant_str ⟨.str x, H, I.tok _, ⟨_, rfl⟩, h⟩

/-- a global name of the def -/
def Gl (X : Cx) (x : Str) : Prop := X.env.kindOf x = some .globalImplicit
theorem ld_glob {E : Value → Shared → Prop} {pins : List (Addr × Obj)} {s : Shared} {σ : St} {H : Hp} {x : Str} {u : Value} {pos : Pos} {Q : Value → Shared → Prop} (I : Inv X pins σ H s) (hg : Gl X x) (hm : X.mg x = some u) (h : Q u s)
    (hd : (x == ("__debug__" : Str)) = false := by decide) : wpAny (model X.prog X.w) X.A (eval (.Name x pos) X.env) Q E s :=
  Calls.Name_function_global I.ok.kind hg (Calls.loadGlobal_global (by rw [I.ok.glob]; exact I.mod.glob.keeps I.bk) hm h) hd
theorem ld_blt {E : Value → Shared → Prop} {pins : List (Addr × Obj)} {s : Shared} {σ : St} {H : Hp} {x : Str} {u : Value} {pos : Pos} {Q : Value → Shared → Prop} (I : Inv X pins σ H s) (hg : Gl X x) (hm : X.mg x = none) (hv : bootBuiltins x = some u) (h : Q u s)
    (hn : x ≠ "__name__" := by decide) (hd : (x == ("__debug__" : Str)) = false := by decide) : wpAny (model X.prog X.w) X.A (eval (.Name x pos) X.env) Q E s := by
  obtain ⟨mb, h1, h2⟩ := I.mod.blt
  exact Calls.Name_function_global I.ok.kind hg (Calls.loadGlobal_builtin (by rw [I.ok.glob]; exact I.mod.glob.keeps I.bk) hm (by rw [I.ok.blt]; exact h1.keeps I.bk) ((h2 x hn).trans hv) h) hd
/-- a module's constant, a class, a function, as a value -/
theorem pe_glob {x : Str} {v : V} {u : Value} {pos : Pos} (hg : Gl X x) (hm : X.mg x = some u) (r : RelV v u) (hd : (x == ("__debug__" : Str)) = false := by decide) : PE X (.Name x pos) (tC v) :=
  fun _ _ _ H _ I h => ld_glob I hg hm ⟨v, H, I, r, h⟩ hd
theorem pe_bltn {x : Str} {v : V} {u : Value} {pos : Pos} (hg : Gl X x) (hm : X.mg x = none) (hv : bootBuiltins x = some u) (r : RelV v u) (hn : x ≠ "__name__" := by decide) (hd : (x == ("__debug__" : Str)) = false := by decide) : PE X (.Name x pos) (tC v) :=
  fun _ _ _ H _ I h => ld_blt I hg hm hv ⟨v, H, I, r, h⟩ hn hd

variable {a b : Expr} {ta tb : TE} {pos : Pos}
/-! ### comparisons -/
def PC (X : Cx) (op : CmpOp) (a b : Expr) (t : TE) : Prop :=
  ∀ (pins : List (Addr × Obj)) (s : Shared) (σ : St) (H : Hp) (Q : VK), Inv X pins σ H s → t σ H Q →
    wpAny (model X.prog X.w) X.A (eval a X.env) (fun v s₁ => wpAny (model X.prog X.w) X.A (eval b X.env) (fun u s₂ => wpAny (model X.prog X.w) X.A (compareOp op v u) (EP X pins σ Q) X.xe s₂) X.xe s₁) X.xe s
theorem nobehind (b : Expr) {op : CmpOp} (h : op ≠ .In) (h2 : op ≠ .NotIn) : behindInMarks op b = false := by
  have e1 : (op == CmpOp.In) = false := by cases op <;> first | rfl | exact absurd rfl h
  have e2 : (op == CmpOp.NotIn) = false := by cases op <;> first | rfl | exact absurd rfl h2
  cases b <;> simp [behindInMarks, e1, e2]
/-- is None -/
def tIsN (ta : TE) : TE := fun σ H Q => ta σ H fun x H1 => Q (.bl (decide (x = .non))) H1
def tNotN (ta : TE) : TE := fun σ H Q => ta σ H fun x H1 => Q (.bl (!decide (x = .non))) H1
theorem RelV.none_iff {x : V} {v : Value} (r : RelV x v) : (v == Value.none) = decide (x = .non) := by
  cases x with
  | non => cases r; rfl
  | bl _ => cases r; rfl
  | int _ => obtain ⟨t, rfl⟩ := r; rfl
  | str _ => obtain ⟨t, rfl⟩ := r; rfl
  | byt _ => obtain ⟨t, rfl⟩ := r; rfl
  | flt _ => obtain ⟨t, rfl⟩ := r; rfl
  | ref _ => cases r; rfl
  | ty _ => cases r; rfl
theorem pc_isN {j pos'} (ha : PE X a ta) : PC X .Is a (.Constant .none j pos') (tIsN ta) := by
  intro pins s σ H Q I h
  refine thn (ha pins s σ H _ I h) fun v s1 ⟨x, H1, I1, r1, q1⟩ => ?_
  exact Constant_none (is_none_gen ⟨.bl _, H1, I1, by rw [r1.none_iff]; rfl, q1⟩)
theorem pc_notN {j pos'} (ha : PE X a ta) : PC X .IsNot a (.Constant .none j pos') (tNotN ta) := by
  intro pins s σ H Q I h
  refine thn (ha pins s σ H _ I h) fun v s1 ⟨x, H1, I1, r1, q1⟩ => ?_
  exact Constant_none (isnot_none_gen ⟨.bl _, H1, I1, by rw [r1.none_iff]; rfl, q1⟩)
/-- a comparison as a value, as a test -/
def tB (t : TE) : TT := fun σ H Q => t σ H fun x H1 => ∃ c, x = .bl c ∧ Q c H1
theorem pt_cmp {op : CmpOp} {t : TE} (h : PC X op a b t) (h1 : behindInMarks op b = false := by first | exact nobehind _ (by decide) (by decide) | rfl) : PT X (.Compare a [op] [b] pos) (tB t) := by
  intro pins s σ H Q I hw
  refine wpAny_isTrue_Compare1 (thn (h pins s σ H _ I hw) fun v s1 h1 => thn h1 fun u s2 h2 => thn h2 fun c s3 ⟨x, H1, I1, r1, q1⟩ => ?_) h1
  obtain ⟨d, rfl, q⟩ := q1
  cases r1
  exact wpAny_truthy_bool ⟨H1, I1, q⟩
/-- an expression whose value is a bool, as a test -/
theorem pt_val {e : Expr} {t : TE} (h : PE X e t) (he : ∀ whole, isTrue e X.env whole = (do let v ← whole; standAt e.pos; holding [v] (truthy v)) := by intro _; rfl) : PT X e (tB t) := by
  intro pins s σ H Q I hw
  refine isTrue_plain (thn (h pins s σ H _ I hw) fun v s1 ⟨x, H1, I1, r1, q1⟩ => ?_) (he _)
  obtain ⟨d, rfl, q⟩ := q1
  cases r1
  exact wpAny_truthy_bool ⟨H1, I1, q⟩

/-! ### and, or, not -/
variable {tA tB' : TT} {rest : List Expr}
def tAnd (t u : TT) : TT := fun σ H Q => t σ H fun c H1 => if c = true then u σ H1 Q else Q false H1
def tOr (t u : TT) : TT := fun σ H Q => t σ H fun c H1 => if c = true then Q true H1 else u σ H1 Q
def tNot (t : TT) : TT := fun σ H Q => t σ H fun c H1 => Q (!c) H1
theorem pw_and1 (ha : PT X a tA) : PW X (.BoolOp .And [a] pos) tA := by
  intro wh pins s σ H Q I h
  refine isTrue_and (thn (ha pins s σ H Q I h) fun c s1 e => ?_)
  cases c with
  | true => exact isTrue_and_nil e
  | false => exact e
theorem pw_or1 (ha : PT X a tA) : PW X (.BoolOp .Or [a] pos) tA := by
  intro wh pins s σ H Q I h
  refine isTrue_or (thn (ha pins s σ H Q I h) fun c s1 e => ?_)
  cases c with
  | false => exact isTrue_or_nil e
  | true => exact e
theorem pw_and (ha : PT X a tA) (hb : PW X (.BoolOp .And (b :: rest) pos) tB') : PW X (.BoolOp .And (a :: b :: rest) pos) (tAnd tA tB') := by
  intro wh pins s σ H Q I h
  refine isTrue_and (thn (ha pins s σ H _ I h) fun c s1 ⟨H1, I1, q1⟩ => ?_)
  cases c with
  | true => exact hb wh pins s1 σ H1 Q I1 q1
  | false => exact ⟨H1, I1, q1⟩
theorem pw_or (ha : PT X a tA) (hb : PW X (.BoolOp .Or (b :: rest) pos) tB') : PW X (.BoolOp .Or (a :: b :: rest) pos) (tOr tA tB') := by
  intro wh pins s σ H Q I h
  refine isTrue_or (thn (ha pins s σ H _ I h) fun c s1 ⟨H1, I1, q1⟩ => ?_)
  cases c with
  | true => exact ⟨H1, I1, q1⟩
  | false => exact hb wh pins s1 σ H1 Q I1 q1
theorem pt_not (ha : PT X a tA) : PT X (.UnaryOp .Not a pos) (tNot tA) := by
  intro pins s σ H Q I h
  exact isTrue_not (ha pins s σ H (fun c H1 => Q (!c) H1) I h)
/-- .. as values (bools) -/
def tAndV (ta tb : TE) : TE := fun σ H Q => ta σ H fun x H1 => ∃ c, x = .bl c ∧ if c = true then tb σ H1 Q else Q (.bl false) H1
def tNotV (ta : TE) : TE := fun σ H Q => ta σ H fun x H1 => ∃ c, x = .bl c ∧ Q (.bl (!c)) H1
theorem pe_one {op} {t : TE} (h : PE X a t) : PE X (.BoolOp op [a] pos) t := fun pins s σ H Q I hw => BoolOp_one (h pins s σ H Q I hw)
theorem pe_and (ha : PE X a ta) (hb : PE X (.BoolOp .And (b :: rest) pos) tb) : PE X (.BoolOp .And (a :: b :: rest) pos) (tAndV ta tb) := by
  intro pins s σ H Q I h
  refine BoolOp_and (thn (ha pins s σ H _ I h) fun v s1 ⟨x, H1, I1, r1, q1⟩ => ?_)
  obtain ⟨c, rfl, q1⟩ := q1
  cases r1
  refine wpAny_truthy_bool ?_
  cases c with
  | true => exact hb pins s1 σ H1 Q I1 q1
  | false => exact ⟨.bl false, H1, I1, rfl, q1⟩
theorem pe_not (ha : PE X a ta) : PE X (.UnaryOp .Not a pos) (tNotV ta) := by
  intro pins s σ H Q I h
  refine UnaryOp_ (thn (ha pins s σ H _ I h) fun v s1 ⟨x, H1, I1, r1, q1⟩ => ?_)
  obtain ⟨c, rfl, q1⟩ := q1
  cases r1
  exact not_of (wpAny_truthy_bool ⟨.bl (!c), H1, I1, rfl, q1⟩)
/-- a if t else b -/
def tIf (t : TT) (ta tb : TE) : TE := fun σ H Q => t σ H fun c H1 => if c = true then ta σ H1 Q else tb σ H1 Q
theorem pe_ifExp {c : Expr} (hc : PT X c tA) (ha : PE X a ta) (hb : PE X b tb) : PE X (.IfExp c a b pos) (tIf tA ta tb) := by
  intro pins s σ H Q I h
  refine wpAny_IfExp (thn (hc pins s σ H _ I h) fun d s1 ⟨H1, I1, q1⟩ => ?_)
  cases d with
  | true => exact ha pins s1 σ H1 Q I1 q1
  | false => exact hb pins s1 σ H1 Q I1 q1
end
end L2

namespace L2
open PySem PySem.Spec PyProof.Rows

/-! ### a list, a tuple that is read: tracked, frozen, or an object of the module -/
def SqL (K : PySem.W.Frag) (H : Hp) (a : Addr) (xs : List V) : Prop :=
  Rd H a (.lst xs) ∨
    ∃ (o : Obj) (its : Array Value) (n : Nat), K.lookup a = some o ∧ o.cls = .type "list" ∧ o.dict = none ∧ o.data = .seq its n ∧ its.size ≤ sizeLine ∧ Vals xs its.toList
def SqT (K : PySem.W.Frag) (H : Hp) (a : Addr) (xs : List V) : Prop :=
  Rd H a (.tup xs) ∨
    ∃ (o : Obj) (its : Array Value) (n : Nat), K.lookup a = some o ∧ o.cls = .type "tuple" ∧ o.data = .seq its n ∧ its.size ≤ sizeLine ∧ Vals xs its.toList
def absV : Value → Option V
  | .none => some .non
  | .bool b => some (.bl b)
  | .int i _ => some (.int i)
  | .str x _ => some (.str x)
  | .bytes b _ => some (.byt b)
  | .float b _ => some (.flt b)
  | .ref a => some (.ref a)
  | .type n => some (.ty n)
  | _ => none
theorem RelV.abs {x : V} {u : Value} (r : RelV x u) : absV u = some x := by
  cases x with
  | non => cases r; rfl
  | bl _ => cases r; rfl
  | int _ => obtain ⟨t, rfl⟩ := r; rfl
  | str _ => obtain ⟨t, rfl⟩ := r; rfl
  | byt _ => obtain ⟨t, rfl⟩ := r; rfl
  | flt _ => obtain ⟨t, rfl⟩ := r; rfl
  | ref _ => cases r; rfl
  | ty _ => cases r; rfl
theorem RelV.inj {x y : V} {u : Value} (r : RelV x u) (q : RelV y u) : x = y := Option.some.inj (r.abs.symm.trans q.abs)
theorem Vals.inj : ∀ {xs ys : List V} {us : List Value}, Vals xs us → Vals ys us → xs = ys
  | _, _, _, .nil, .nil => rfl
  | _, _, _, .cons r t, .cons r' t' => by rw [r.inj r', Vals.inj t t']
section
variable {X : Cx} {pins : List (Addr × Obj)} {σ : St} {H : Hp} {s : Shared} {a : Addr} {xs ys : List V}
theorem SqL.of {K : PySem.W.Frag} (h : H a = some (.lst xs)) : SqL K H a xs := .inl (.inl h)
theorem SqT.of {K : PySem.W.Frag} (h : H a = some (.tup xs)) : SqT K H a xs := .inl (.inl h)
theorem Inv.list (I : Inv X pins σ H s) (h : SqL X.K H a xs) : ∃ its : List Value, Vals xs its ∧ PlainL s.heap a its.toArray ∧ xs.length ≤ sizeLine := by
  rcases h with h | ⟨o, its, n, hk, hc, hd, hs, hz, r⟩
  · obtain ⟨z, its, n, r, e⟩ := h.ok I.hok
    exact ⟨its, r, ⟨_, n, e, rfl, rfl, rfl⟩, z⟩
  · refine ⟨its.toList, r, ⟨o, n, I.kIn a o hk, hc, hd, by simpa using hs⟩, ?_⟩
    have e := r.length
    simp only [Array.length_toList] at e
    omega
theorem Inv.tuple (I : Inv X pins σ H s) (h : SqT X.K H a xs) : ∃ its : List Value, Vals xs its ∧ IsTup s.heap a its.toArray ∧ xs.length ≤ sizeLine := by
  rcases h with h | ⟨o, its, n, hk, hc, hs, hz, r⟩
  · obtain ⟨z, its, r, p⟩ := h.ok I.hok
    exact ⟨its, r, p, z⟩
  · refine ⟨its.toList, r, ⟨o, I.kIn a o hk, hc, n, by simpa using hs⟩, ?_⟩
    have e := r.length
    simp only [Array.length_toList] at e
    omega
theorem Inv.list_inj (I : Inv X pins σ H s) (h : SqL X.K H a xs) (h' : SqL X.K H a ys) : xs = ys := by
  obtain ⟨its, r, ⟨o, n, e, _, _, d⟩, _⟩ := I.list h
  obtain ⟨its', r', ⟨o', n', e', _, _, d'⟩, _⟩ := I.list h'
  rw [e] at e'; cases e'
  rw [d] at d'
  injection d' with d1 _
  have : its = its' := by simpa using congrArg Array.toList d1
  subst this
  exact r.inj r'
theorem Inv.tuple_inj (I : Inv X pins σ H s) (h : SqT X.K H a xs) (h' : SqT X.K H a ys) : xs = ys := by
  obtain ⟨its, r, ⟨o, e, _, n, d⟩, _⟩ := I.tuple h
  obtain ⟨its', r', ⟨o', e', _, n', d'⟩, _⟩ := I.tuple h'
  rw [e] at e'; cases e'
  rw [d] at d'
  injection d' with d1 _
  have : its = its' := by simpa using congrArg Array.toList d1
  subst this
  exact r.inj r'
end

/-! ### another wish about exceptions -/
abbrev Cx.wish (X : Cx) (E : Value → Shared → Prop) : Cx := { X with xe := E }
/-- no exception leaves -/
abbrev Cx.nox (X : Cx) : Cx := X.wish fun _ _ => False
theorem Cx.Ok.wish {X : Cx} (ok : X.Ok) (E : Value → Shared → Prop) : (X.wish E).Ok :=
  ⟨ok.mod, ok.kind, ok.glob, ok.blt, ok.above, ok.inj, ok.has, ok.cab, ok.hd, ok.frames, ok.stk, ok.exf, ok.bs, ok.bsz, ok.noex, ok.exfs, ok.funs, ok.frf⟩
theorem Cx.Ok.unwish {X : Cx} {E : Value → Shared → Prop} (ok : (X.wish E).Ok) : X.Ok :=
  ⟨ok.mod, ok.kind, ok.glob, ok.blt, ok.above, ok.inj, ok.has, ok.cab, ok.hd, ok.frames, ok.stk, ok.exf, ok.bs, ok.bsz, ok.noex, ok.exfs, ok.funs, ok.frf⟩
section
variable {X : Cx} {pins : List (Addr × Obj)} {σ : St} {H : Hp} {s : Shared} {E : Value → Shared → Prop}
theorem Inv.wish (I : Inv X pins σ H s) (E : Value → Shared → Prop) : Inv (X.wish E) pins σ H s := ⟨I.ok.wish E, I.os, I.bare, I.base, I.loc, I.cell, I.free, I.freeC, I.pin, I.hok, I.len⟩
theorem Inv.unwish (I : Inv (X.wish E) pins σ H s) : Inv X pins σ H s := ⟨I.ok.unwish, I.os, I.bare, I.base, I.loc, I.cell, I.free, I.freeC, I.pin, I.hok, I.len⟩
theorem SP.unwish {D : Ends} {f : Flow} {s' : Shared} (h : SP (X.wish E) pins D f s') : SP X pins D f s' := by
  cases f with
  | next => obtain ⟨σ', H', I, q⟩ := h; exact ⟨σ', H', I.unwish, q⟩
  | brk => obtain ⟨σ', H', I, q⟩ := h; exact ⟨σ', H', I.unwish, q⟩
  | cont => obtain ⟨σ', H', I, q⟩ := h; exact ⟨σ', H', I.unwish, q⟩
  | ret u => obtain ⟨v, σ', H', I, r, q⟩ := h; exact ⟨v, σ', H', I.unwish, r, q⟩
theorem PSs.nox {st : List Stmt} {t : TS} (h : PSs X.nox st t) : PSs X st t := fun pins s σ H D I hw =>
  wpAny_mono (h pins s σ H D (I.wish _) hw) (fun _ _ q => q.unwish) fun _ _ z => False.elim z
end

/-! ### blocks and small statements -/
section
variable {X : Cx} {st : Stmt} {rest : List Stmt} {t u : TS} {e : Expr} {te : TE} {pos : Pos}
def tNext : TS := fun D σ H => D.nx σ H
def tSeq (t u : TS) : TS := fun D σ H => t { D with nx := u D } σ H
theorem pss_nil : PSs X [] tNext := fun _ _ σ H _ I h => wpAny_execs_nil ⟨σ, H, I, h⟩
theorem pss_cons (h1 : PS X st t) (h2 : PSs X rest u) : PSs X (st :: rest) (tSeq t u) := by
  intro pins s σ H D I h
  refine wpAny_execs_cons (thn (h1 pins s σ H { D with nx := u D } I h) fun f s1 q => ?_)
  cases f with
  | next =>
    obtain ⟨σ', H', I', q⟩ := q
    exact h2 pins s1 σ' H' D I' q
  | ret v => exact q
  | brk => exact q
  | cont => exact q
theorem pss_one (h1 : PS X st t) : PSs X [st] t := by
  intro pins s σ H D I h
  refine wpAny_execs_cons (thn (h1 pins s σ H D I h) fun f s1 q => ?_)
  cases f with
  | next => exact wpAny_execs_nil q
  | ret v => exact q
  | brk => exact q
  | cont => exact q
/-- in a def's body nothing is shown -/
theorem Inv.quiet {pins : List (Addr × Obj)} {σ : St} {H : Hp} {s : Shared} (I : Inv X pins σ H s) : interactive X.env = false := by simp [interactive, I.ok.kind]
/-- an expression whose value is dropped -/
def tDrop (te : TE) : TS := fun D σ H => te σ H fun _ H1 => D.nx σ H1
theorem ps_expr (he : PE X e te) (hs : swapsWith e none pos.line X.env = pure false := by rfl) : PS X (.Expr e pos) (tDrop te) := by
  intro pins s σ H D I h
  exact wpAny_Expr_any (thn (he pins s σ H _ I h) fun v s1 ⟨x, H1, I1, r1, q1⟩ => ⟨σ, H1, I1, q1⟩) I.quiet hs
def tRet (te : TE) : TS := fun D σ H => te σ H D.rt
theorem ps_ret (he : PE X e te) : PS X (.Return (some e) pos) (tRet te) := by
  intro pins s σ H D I h
  exact wpAny_Return_some (thn (he pins s σ H _ I h) fun v s1 ⟨x, H1, I1, r1, q1⟩ => ⟨x, σ, H1, I1, r1, q1⟩)
def tIfS (c : TT) (t u : TS) : TS := fun D σ H => c σ H fun b H1 => if b = true then t D σ H1 else u D σ H1
theorem ps_if {c : Expr} {a b : List Stmt} {tc : TT} (hc : PT X c tc) (ha : PSs X a t) (hb : PSs X b u) : PS X (.If c a b pos) (tIfS tc t u) := by
  intro pins s σ H D I h
  refine wpAny_If (thn (hc pins s σ H _ I h) fun d s1 ⟨H1, I1, q1⟩ => ?_)
  cases d with
  | true => exact ha pins s1 σ H1 D I1 q1
  | false => exact hb pins s1 σ H1 D I1 q1
/-- code that the proof never comes to -/
def tNever : TS := fun _ _ _ => False
theorem ps_never : PS X st tNever := fun _ _ _ _ _ _ h => h.elim
end

/-! ### targets -/
abbrev TG := V → St → Hp → (St → Hp → Prop) → Prop
abbrev TGs := List V → St → Hp → (St → Hp → Prop) → Prop
def PG (X : Cx) (target : Expr) (t : TG) : Prop :=
  ∀ (pins : List (Addr × Obj)) (s : Shared) (σ : St) (H : Hp) (v : V) (u : Value) (Q : St → Hp → Prop), Inv X pins σ H s → RelV v u → t v σ H Q →
    wpAny (model X.prog X.w) X.A (assign target X.env u) (fun _ s' => ∃ σ' H', Inv X pins σ' H' s' ∧ Q σ' H') X.xe s
/-- several targets, one after another -/
def PGs (X : Cx) (ts : List Expr) (t : TGs) : Prop :=
  ∀ (pins : List (Addr × Obj)) (s : Shared) (σ : St) (H : Hp) (vs : List V) (us : List Value) (Q : St → Hp → Prop), Inv X pins σ H s → Vals vs us → t vs σ H Q →
    wpAny (model X.prog X.w) X.A (assignInOrder ((assignEach ts X.env).map (·.2)) us) (fun _ s' => ∃ σ' H', Inv X pins σ' H' s' ∧ Q σ' H') X.xe s
/-- a op= b, by values -/
abbrev TIp := V → V → Hp → VK → Prop
def PIp (X : Cx) (op : Operator) (t : TIp) : Prop :=
  ∀ (pins : List (Addr × Obj)) (s : Shared) (σ : St) (H : Hp) (x y : V) (v u : Value) (Q : VK), Inv X pins σ H s → RelV x v → RelV y u → t x y H Q →
    wpAny (model X.prog X.w) X.A (inplaceOp op v u) (EP X pins σ Q) X.xe s
section
variable {X : Cx} {pos : Pos}
def gName (i : Nat) : TG := fun v σ H Q => Q (σ.set i (some v)) H
theorem pg_name {i : Nat} {x : Str} (hN : X.N.Nodup) (hi : X.N[i]? = some x) (hx : Loc X.env.scope x) (hf : X.fn x = true ∨ X.env.scope.names.lookup x = some .local := by first | exact .inl rfl | exact .inr rfl | assumption) : PG X (.Name x pos) (gName i) := by
  intro pins s σ H v u Q I r h
  exact wpAny_assign_Name (store_ok I hN hi hx r (fun s' I' => ⟨_, H, I', h⟩) hf)
def gNil : TGs := fun vs σ H Q => vs = [] ∧ Q σ H
def gCons (t : TG) (u : TGs) : TGs := fun vs σ H Q => ∃ v r, vs = v :: r ∧ t v σ H fun σ' H' => u r σ' H' Q
theorem pgs_nil : PGs X [] gNil := by
  intro pins s σ H vs us Q I r h
  obtain ⟨e, h⟩ := h
  subst e
  cases r
  exact assignInOrder_nil ⟨σ, H, I, h⟩
theorem pgs_cons {e : Expr} {es : List Expr} {t : TG} {u : TGs} (h1 : PG X e t) (h2 : PGs X es u)
    (hs : (assignEach (e :: es) X.env).map (·.2) = assign e X.env :: (assignEach es X.env).map (·.2) := by rfl) : PGs X (e :: es) (gCons t u) := by
  intro pins s σ H vs us Q I r h
  obtain ⟨v, vr, e1, h⟩ := h
  subst e1
  cases r with
  | cons r rr =>
    rw [hs]
    refine assignInOrder_cons (thn (h1 pins s σ H _ _ _ I r h) fun _ s1 ⟨σ1, H1, I1, q1⟩ => ?_)
    exact h2 pins s1 σ1 H1 _ _ Q I1 rr q1
/-- (a, b, ..) = a tuple of that length -/
def gTup (K : PySem.W.Frag) (n : Nat) (t : TGs) : TG := fun v σ H Q => ∃ a xs, v = .ref a ∧ SqT K H a xs ∧ xs.length = n ∧ t xs σ H Q
theorem pg_tup {es : List Expr} {k : Nat} {t : TGs} {n : Nat} (hc : X.calm = true) (h : PGs X es t)
    (hn : (assignEach es X.env).length = n := by rfl) (hst : (assignEach es X.env).findIdx? (·.1) = none := by rfl) : PG X (.Tuple es k pos) (gTup X.K n t) := by
  intro pins s σ H v u Q I r hw
  obtain ⟨a, xs, e1, hq, hl, hw⟩ := hw
  subst e1
  cases r
  obtain ⟨its, rv, ht, hz⟩ := I.tuple hq
  refine assign_Tuple_tuple (I.ok.hd hc) ht (by simp [hn, ← hl, rv.length]) hst fun h' hx => ?_
  have I1 : Inv X pins σ H { s with heap := h' } := I.kept (t' := s.toks) fun b o e => hx b o (Nat.ne_of_lt (Heap.lt_size e)) e
  exact h pins _ σ H xs _ Q I1 (by simpa using rv) hw
/-- target = value -/
def tAsg (te : TE) (g : TG) : TS := fun D σ H => te σ H fun x H1 => g x σ H1 D.nx
/-- name = value -/
theorem ps_set {i : Nat} {x : Str} {e : Expr} {te : TE} {pos' : Pos} (hN : X.N.Nodup) (hi : X.N[i]? = some x) (hx : Loc X.env.scope x) (he : PE X e te) (hs : swapsWith e (some (.Name x pos')) pos.line X.env = pure false := by rfl) (hf : X.fn x = true ∨ X.env.scope.names.lookup x = some .local := by first | exact .inl rfl | exact .inr rfl | assumption) :
    PS X (.Assign [.Name x pos'] e pos) (tAsg te (gName i)) := by
  intro pins s σ H D I h
  refine wpAny_Assign_Name (thn (he pins s σ H _ I h) fun v s1 ⟨y, H1, I1, r1, q1⟩ => ?_) hs
  exact store_ok I1 hN hi hx r1 (fun s2 I2 => ⟨_, H1, I2, q1⟩) hf
/-- name op= e -/
def tAug (i : Nat) (te : TE) (ti : TIp) : TS := fun D σ H => ∃ x, σ[i]? = some (some x) ∧ te σ H fun y H1 => ti x y H1 fun z H2 => D.nx (σ.set i (some z)) H2
theorem ps_aug {i : Nat} {x : Str} {e : Expr} {te : TE} {op : Operator} {ti : TIp} {pos' : Pos} (hN : X.N.Nodup) (hi : X.N[i]? = some x) (hx : Loc X.env.scope x) (he : PE X e te) (ho : PIp X op ti) (hf : X.fn x = true ∨ X.env.scope.names.lookup x = some .local := by first | exact .inl rfl | exact .inr rfl | assumption) :
    PS X (.AugAssign (.Name x pos') op e pos) (tAug i te ti) := by
  intro pins s σ H D I h
  obtain ⟨v, e1, h⟩ := h
  obtain ⟨m, hn, hl⟩ := I.loc
  have vis : Vis X.env.scope x := by rcases hx with k | k; exact .inl k; exact .inr (.inl k)
  obtain ⟨u, r, l⟩ := hl i x v hi e1 vis
  refine wpAny_AugAssign_Name ?_
  have go : wpAny (model X.prog X.w) X.A (eval e X.env) (fun w s₂ => wpAny (model X.prog X.w) X.A (inplaceOp op u w) (fun r s₃ => wpAny (model X.prog X.w) X.A (storeName X.env x r) (fun _ => SP X pins D .next) X.xe s₃) X.xe s₂) X.xe s := by
    refine thn (he pins s σ H _ I h) fun w s1 ⟨y, H1, I1, r1, q1⟩ => ?_
    refine thn (ho pins s1 σ H1 v y u w _ I1 r r1 q1) fun z s2 ⟨zv, H2, I2, r2, q2⟩ => ?_
    exact store_ok I2 hN hi hx r2 (fun s3 I3 => ⟨_, H2, I3, q2⟩) hf
  rcases l with ⟨hk, hm⟩ | ⟨hk, c, hc, hcell⟩
  · exact wpAny_loadName_local I.ok.kind hk hn hm go
  · rcases hk with hk | hk
    · exact wpAny_loadName_cell I.ok.kind hk hc hcell go
    · rcases hx with k | k
      · have : X.env.scope.names.lookup x = some .free := hk
        rw [k] at this; cases this
      · have : X.env.scope.names.lookup x = some .free := hk
        rw [k] at this; cases this
/-- ints -/
def ipI (f : Int → Int → Int) : TIp := fun x y H Q => ∃ i j, x = .int i ∧ y = .int j ∧ Q (.int (f i j)) H
theorem ip_add : PIp X .Add (ipI fun i j => i + j) := by
  intro pins s σ H x y v u Q I r1 r2 h
  obtain ⟨i, j, e1, e2, q⟩ := h
  subst e1; subst e2
  obtain ⟨t, rfl⟩ := r1
  obtain ⟨t', rfl⟩ := r2
  exact iadd_int ⟨.int _, H, I.tok _, ⟨_, rfl⟩, q⟩
end

/-! ### while -/
section
variable {X : Cx} {pos : Pos}
/-- the invariant W with its measure -/
def tWhile (c : TT) (tb : TS) : TS := fun D σ H => ∃ W : Nat → St → Hp → Prop, (∃ m, W m σ H) ∧ ∀ m σ H, W m σ H →
  c σ H fun b H1 => if b = true then ∃ N : St → Hp → Prop, (∀ σ' H', N σ' H' → ∃ m', m' < m ∧ W m' σ' H') ∧ tb { D with nx := N, ct := N, bk := D.nx } σ H1 else D.nx σ H1
theorem ps_while {c : Expr} {body : List Stmt} {tc : TT} {tb : TS} (hp : PassesOwn (model X.prog X.w) X.A X.env X.xe) (hc : PT X c tc) (hb : PSs X body tb) : PS X (.While c body [] pos) (tWhile tc tb) := by
  intro pins s σ H D I h
  obtain ⟨W, ⟨m0, w0⟩, turn⟩ := h
  refine wpAny_While (codeAny_whileLoop (fun n s' => ∃ σ' H', Inv X pins σ' H' s' ∧ W n σ' H') ?_ m0 ⟨σ, H, I, w0⟩)
  rintro n s1 ⟨σ1, H1, I1, w1⟩
  refine wpAny_passesOwn hp (thn (hc pins s1 σ1 H1 _ I1 (turn n σ1 H1 w1)) fun b s2 ⟨H2, I2, q2⟩ => ?_)
  cases b with
  | true =>
    obtain ⟨N, hN, q2⟩ := q2
    rw [if_pos rfl]
    refine wpAny_passesOwn hp (thn (hb pins s2 σ1 H2 _ I2 q2) fun f s3 q3 => ?_)
    cases f with
    | next =>
      obtain ⟨σ3, H3, I3, n3⟩ := q3
      obtain ⟨m', hm, w3⟩ := hN σ3 H3 n3
      exact ⟨m', hm, σ3, H3, I3, w3⟩
    | cont =>
      obtain ⟨σ3, H3, I3, n3⟩ := q3
      obtain ⟨m', hm, w3⟩ := hN σ3 H3 n3
      exact ⟨m', hm, σ3, H3, I3, w3⟩
    | brk => exact q3
    | ret v => exact q3
  | false =>
    rw [if_neg Bool.false_ne_true]
    exact wpAny_execs_nil ⟨σ1, H2, I2, q2⟩
end

/-! ### what a loop or a comprehension walks -/
/-- at turn i: it yields x (the heap may grow), or it stops -/
structure It where
  go : Nat → Hp → Prop
  yld : Nat → Hp → V → Hp → Prop
  stop : Nat → Hp → Prop
/-- the iterator's own objects may turn: they are not the frame's, not pinned, younger than the entry (or a comprehension's own) -/
def FpOk (X : Cx) (pins : List (Addr × Obj)) (H : Hp) (b : Addr) : Prop :=
  H b = none ∧ b ≠ X.env.locals ∧ b ∉ X.fs ∧ (b ∈ X.ex ∨ X.s₀.heap.objs.size ≤ b) ∧ (∀ x c, X.env.cells.lookup x = some c → c ≠ b) ∧ ∀ p ∈ X.pn ++ pins, p.1 ≠ b
theorem Inv.fpOk {X : Cx} {pins : List (Addr × Obj)} {σ : St} {H H' : Hp} {s : Shared} {b : Addr} (I : Inv X pins σ H s) (hb : s.heap.objs.size ≤ b) (hn : H' b = none) : FpOk X pins H' b := by
  refine ⟨hn, Nat.ne_of_gt (Nat.lt_of_lt_of_le I.lt hb), I.nofs hb, .inr (Nat.le_trans I.sz hb), fun x c e z => ?_, fun p hp z => ?_⟩
  · obtain ⟨v, q⟩ := I.cell x c e
    exact absurd (Nat.lt_of_lt_of_le q.lt (by rw [z]; exact hb)) (Nat.lt_irrefl _)
  · exact absurd (Nat.lt_of_lt_of_le (Heap.lt_size (I.pin p hp).1) (by rw [z]; exact hb)) (Nat.lt_irrefl _)
structure Turn (P : Program) (w : World) (K : PySem.W.Frag) (tg : Expr) (J : It) (fp : List Addr) (it : Addr) (tn : Nat → Heap → Prop) : Prop where
  mem : it ∈ fp
  obj : ∀ i h, tn i h → ∀ b ∈ fp, ∃ o, h.get? b = some o ∧ ∀ v, o.data ≠ .cell v
  keep : ∀ i h h', tn i h → (∀ b ∈ fp, ∀ o, h.get? b = some o → h'.get? b = some o) → tn i h'
  item : ∀ (X : Cx), X.prog = P → X.w = w → X.K = K → X.calm = true → ∀ (i : Nat) (pins : List (Addr × Obj)) (s : Shared) (σ : St) (H : Hp) (E : Value → Shared → Prop), Inv X pins σ H s → (∀ b ∈ fp, FpOk X pins H b) → tn i s.heap → J.go i H →
    wpAny (model P w) X.A (pyNext (.ref it)) (fun r s1 => ∃ u, r = some u ∧
      wpAny (model P w) X.A (letOwnedTupleGo tg (.ref it) u) (fun _ s2 => ∃ x H', Inv X pins σ H' s2 ∧ RelV x u ∧ J.yld i H x H' ∧ tn (i + 1) s2.heap ∧ ∀ b ∈ fp, H' b = none) E s1) E s
  done : ∀ (X : Cx), X.prog = P → X.w = w → X.K = K → X.calm = true → ∀ (i : Nat) (pins : List (Addr × Obj)) (s : Shared) (σ : St) (H : Hp) (E : Value → Shared → Prop), Inv X pins σ H s → (∀ b ∈ fp, FpOk X pins H b) → tn i s.heap → J.stop i H →
    wpAny (model P w) X.A (pyNext (.ref it)) (fun r s1 => r = none ∧ Inv X pins σ H s1) E s
  self : ∀ (A : Around) (i : Nat) (s : Shared) (Q : Value → Shared → Prop) (E : Value → Shared → Prop), tn i s.heap → Q (.ref it) s → wpAny (model P w) A (pyIter (.ref it)) Q E s
abbrev TI := St → Hp → (It → Hp → Prop) → Prop
/-- an iterator has come -/
def PIE (X : Cx) (pins : List (Addr × Obj)) (σ : St) (tg : Expr) (R : It → Hp → Prop) (itv : Value) (s2 : Shared) : Prop :=
  ∃ (it : Addr) (fp : List Addr) (tn : Nat → Heap → Prop) (J : It) (H' : Hp), itv = .ref it ∧ Inv X pins σ H' s2 ∧ Turn X.prog X.w X.K tg J fp it tn ∧ tn 0 s2.heap ∧ (∀ b ∈ fp, FpOk X pins H' b) ∧ R J H'
def PI (X : Cx) (tg iter : Expr) (wi : TI) : Prop :=
  ∀ (pins : List (Addr × Obj)) (s : Shared) (σ : St) (H : Hp) (R : It → Hp → Prop), Inv X pins σ H s → wi σ H R →
    wpAny (model X.prog X.w) X.A (eval iter X.env) (fun v s1 => wpAny (model X.prog X.w) X.A (pyIter v) (PIE X pins σ tg R) X.xe s1) X.xe s

/-- the step ahead of the store is nothing for an iterator that keeps no tuple -/
theorem go_of {M : Model} {A : Around} {E : Value → Shared → Prop} {s : Shared} {tg : Expr} {it : Addr} {u : Value} {o : Obj} {n : String} {vs : Array Value} {Q : Unit → Shared → Prop} (ho : s.heap.get? it = some o) (hc : o.cls = .type n) (hd : o.data = .fields vs)
    (hn : ["enumerate", "zip", "dict_itemiterator", "dict_reverseitemiterator", "odict_iterator", "itertools.zip_longest", "itertools.pairwise"].contains n = false) (hQ : Q () s) : wpAny M A (letOwnedTupleGo tg (.ref it) u) Q E s := by
  unfold letOwnedTupleGo
  cases tg <;> first
    | exact wpAny_pure hQ
    | (cases u <;> first
        | exact wpAny_pure hQ
        | (refine wpAny_bind (wpAny_load ho ?_)
           rw [hc, hd]
           show wpAny M A (if (["enumerate", "zip", "dict_itemiterator", "dict_reverseitemiterator", "odict_iterator", "itertools.zip_longest", "itertools.pairwise"].contains n && vs[0]? == some (rawInt _)) = true then _ else _) Q E s
           rw [if_neg (by intro h; rw [hn, Bool.false_and] at h; cases h)]
           exact wpAny_pure hQ))

/-- the list at a, as it stands at each turn (a loop may append to it) -/
def Itl (K : PySem.W.Frag) (a : Addr) : It :=
  ⟨fun i H => ∃ xs x, SqL K H a xs ∧ xs[i]? = some x, fun i H x H' => H' = H ∧ ∀ xs, SqL K H a xs → xs[i]? = some x, fun i H => ∃ xs, SqL K H a xs ∧ xs.length ≤ i⟩
def Itt (K : PySem.W.Frag) (a : Addr) : It :=
  ⟨fun i H => ∃ xs x, SqT K H a xs ∧ xs[i]? = some x, fun i H x H' => H' = H ∧ ∀ xs, SqT K H a xs → xs[i]? = some x, fun i H => ∃ xs, SqT K H a xs ∧ xs.length ≤ i⟩
/-- lo, lo + 1, .. (n of them) -/
def Itr (lo : Int) (n : Nat) : It := ⟨fun i _ => i < n, fun i H x H' => H' = H ∧ x = .int (lo + i), fun i _ => n ≤ i⟩
theorem turn_list {P : Program} {w : World} {K : PySem.W.Frag} {tg : Expr} (a it : Addr) : Turn P w K tg (Itl K a) [it] it (fun i h => h.IsListIter it a i) where
  mem := by simp
  obj := fun i h st b hb => by
    have e : b = it := by simpa using hb
    subst e
    obtain ⟨o, e, c, d⟩ := st
    exact ⟨o, e, fun v z => by rw [d] at z; cases z⟩
  keep := fun i h h' st k => st.at fun o e => k it (by simp) o e
  item := by
    intro X hP hw hK hc i pins s σ H E I hf st hg
    subst hP hw hK
    obtain ⟨xs, x, hq, hx⟩ := hg
    obtain ⟨its, rv, p, hz⟩ := I.list hq
    obtain ⟨u, hu, ru⟩ := rv.get hx
    obtain ⟨f0, f1, f2, f3, f4, f5⟩ := hf it (by simp)
    refine wpAny_pyNext_list_item st p.isList (x := u) (by simpa using hu) fun h' st' sb => ?_
    have I1 : Inv X pins σ H { s with heap := h' } := I.turned (t' := s.toks) (fun b o hb e => (sb.2 b hb).trans e) f0 f1 f3 f4 f5
    obtain ⟨o, e, c, d⟩ := id st'
    exact ⟨u, rfl, go_of (s := { s with heap := h' }) e c d (by decide) ⟨x, H, I1, ru, ⟨rfl, fun ys hy => by rw [I.list_inj hy hq]; exact hx⟩, st', fun b hb => (hf b hb).1⟩⟩
  done := by
    intro X hP hw hK hc i pins s σ H E I hf st hg
    subst hP hw hK
    obtain ⟨xs, hq, hx⟩ := hg
    obtain ⟨its, rv, p, hz⟩ := I.list hq
    obtain ⟨f0, f1, f2, f3, f4, f5⟩ := hf it (by simp)
    have hl := rv.length
    exact wpAny_pyNext_list_end (I.ok.hd hc) st p.isList (by simp; omega) fun h' eb => ⟨rfl, I.turned (t' := s.toks) (fun b o hb e => eb b o hb e) f0 f1 f3 f4 f5⟩
  self := fun _ _ _ _ _ st h => wpAny_pyIter_listiter st h
theorem turn_tuple {P : Program} {w : World} {K : PySem.W.Frag} {tg : Expr} (a it : Addr) : Turn P w K tg (Itt K a) [it] it (fun i h => h.IsTupleIter it a i) where
  mem := by simp
  obj := fun i h st b hb => by
    have e : b = it := by simpa using hb
    subst e
    obtain ⟨o, e, c, d⟩ := st
    exact ⟨o, e, fun v z => by rw [d] at z; cases z⟩
  keep := fun i h h' st k => st.at fun o e => k it (by simp) o e
  item := by
    intro X hP hw hK hc i pins s σ H E I hf st hg
    subst hP hw hK
    obtain ⟨xs, x, hq, hx⟩ := hg
    obtain ⟨its, rv, p, hz⟩ := I.tuple hq
    obtain ⟨u, hu, ru⟩ := rv.get hx
    obtain ⟨f0, f1, f2, f3, f4, f5⟩ := hf it (by simp)
    refine wpAny_pyNext_tuple_item st (show s.heap.IsTuple a its.toArray from p) (x := u) (by simpa using hu) fun h' st' sb => ?_
    have I1 : Inv X pins σ H { s with heap := h' } := I.turned (t' := s.toks) (fun b o hb e => (sb.2 b hb).trans e) f0 f1 f3 f4 f5
    obtain ⟨o, e, c, d⟩ := id st'
    exact ⟨u, rfl, go_of (s := { s with heap := h' }) e c d (by decide) ⟨x, H, I1, ru, ⟨rfl, fun ys hy => by rw [I.tuple_inj hy hq]; exact hx⟩, st', fun b hb => (hf b hb).1⟩⟩
  done := by
    intro X hP hw hK hc i pins s σ H E I hf st hg
    subst hP hw hK
    obtain ⟨xs, hq, hx⟩ := hg
    obtain ⟨its, rv, p, hz⟩ := I.tuple hq
    obtain ⟨f0, f1, f2, f3, f4, f5⟩ := hf it (by simp)
    have hl := rv.length
    exact wpAny_pyNext_tuple_end (I.ok.hd hc) st (show s.heap.IsTuple a its.toArray from p) (by simp; omega) fun h' eb => ⟨rfl, I.turned (t' := s.toks) (fun b o hb e => eb b o hb e) f0 f1 f3 f4 f5⟩
  self := fun _ _ _ _ _ st h => wpAny_pyIter_tupleiter st h
theorem turn_range {P : Program} {w : World} {K : PySem.W.Frag} {tg : Expr} (it : Addr) (lo : Int) (n : Nat) : Turn P w K tg (Itr lo n) [it] it (fun i h => IsRangeIter h it (lo + (i : Nat) * 1) ((n : Int) - (i : Nat)) 1) where
  mem := by simp
  obj := fun i h st b hb => by
    have e : b = it := by simpa using hb
    subst e
    exact ⟨_, st, fun v z => by
      have z' : Data.fields _ = Data.cell v := z
      cases z'⟩
  keep := fun i h h' st k => k it (by simp) _ st
  item := by
    intro X hP hw hK hc i pins s σ H E I hf st hg
    subst hP hw hK
    obtain ⟨f0, f1, f2, f3, f4, f5⟩ := hf it (by simp)
    have W := Walks.range (prog := X.prog) (w := X.w) (I.ok.hd hc) it lo 1 n
    refine W.item i s _ _ hg st fun v h' tk hv st' kk => ?_
    obtain ⟨t, rfl⟩ := hv
    have I1 : Inv X pins σ H { s with heap := h', toks := tk } := I.turned (fun b o hb e => kk b o (by simpa using hb) e) f0 f1 f3 f4 f5
    refine ⟨_, rfl, go_of (s := { s with heap := h', toks := tk }) (n := "range_iterator") st' rfl rfl (by decide) ⟨.int (lo + i), H, I1, ⟨t, ?_⟩, ⟨rfl, rfl⟩, st', fun b hb => (hf b hb).1⟩⟩
    rw [Int.mul_one]
  done := by
    intro X hP hw hK hc i pins s σ H E I hf st hg
    subst hP hw hK
    obtain ⟨f0, f1, f2, f3, f4, f5⟩ := hf it (by simp)
    exact wpAny_pyNext_range_end (I.ok.hd hc) st (by have : n ≤ i := hg; omega) fun h' eb => ⟨rfl, I.turned (t' := s.toks) (fun b o hb e => eb b o hb e) f0 f1 f3 f4 f5⟩
  self := fun _ _ _ _ _ st h => wpAny_pyIter_rangeiter st h
end L2

namespace L2
open PySem PySem.Spec PyProof.Rows
section
variable {X : Cx} {tg : Expr}
def iList (K : PySem.W.Frag) (tl : TE) : TI := fun σ H R => tl σ H fun x H1 => ∃ a, x = .ref a ∧ (∃ xs, SqL K H1 a xs) ∧ R (Itl K a) H1
def iTup (K : PySem.W.Frag) (tl : TE) : TI := fun σ H R => tl σ H fun x H1 => ∃ a, x = .ref a ∧ (∃ xs, SqT K H1 a xs) ∧ R (Itt K a) H1
theorem pi_list {l : Expr} {tl : TE} (hl : PE X l tl) : PI X tg l (iList X.K tl) := by
  intro pins s σ H R I h
  refine thn (hl pins s σ H _ I h) fun v s1 ⟨x, H1, I1, r1, q1⟩ => ?_
  obtain ⟨a, e, ⟨xs, hq⟩, q⟩ := q1
  subst e
  cases r1
  obtain ⟨its, rv, p, hz⟩ := I1.list hq
  refine wpAny_pyIter_list p.isList ?_
  refine ⟨s1.heap.objs.size, [s1.heap.objs.size], _, _, H1, rfl, I1.kept (t' := s1.toks) fun b o e => Heap.get?_push_of_some _ e, turn_list a _, ⟨_, Heap.get?_push_size _ rfl, rfl, rfl⟩, fun b hb => ?_, q⟩
  have e : b = s1.heap.objs.size := by simpa using hb
  subst e
  exact I1.fpOk (Nat.le_refl _) (I1.hok.fresh (Nat.le_refl _))
theorem pi_tup {l : Expr} {tl : TE} (hl : PE X l tl) : PI X tg l (iTup X.K tl) := by
  intro pins s σ H R I h
  refine thn (hl pins s σ H _ I h) fun v s1 ⟨x, H1, I1, r1, q1⟩ => ?_
  obtain ⟨a, e, ⟨xs, hq⟩, q⟩ := q1
  subst e
  cases r1
  obtain ⟨its, rv, p, hz⟩ := I1.tuple hq
  refine wpAny_pyIter_tuple (show s1.heap.IsTuple a its.toArray from p) ?_
  refine ⟨s1.heap.objs.size, [s1.heap.objs.size], _, _, H1, rfl, I1.kept (t' := s1.toks) fun b o e => Heap.get?_push_of_some _ e, turn_tuple a _, ⟨_, Heap.get?_push_size _ rfl, rfl, rfl⟩, fun b hb => ?_, q⟩
  have e : b = s1.heap.objs.size := by simpa using hb
  subst e
  exact I1.fpOk (Nat.le_refl _) (I1.hok.fresh (Nat.le_refl _))
/-- a range object just made, walked -/
theorem range_it {pins : List (Addr × Obj)} {σ : St} {H : Hp} {s : Shared} {R : It → Hp → Prop} {E : Value → Shared → Prop} {lo hi : Int} {t u v : Tok} {tk : Nat} (I : Inv X pins σ H s) (h1 : -(2 ^ 62) ≤ lo) (h2 : lo < 2 ^ 62) (h3 : -(2 ^ 62) ≤ hi) (h4 : hi < 2 ^ 62)
    (q : R (Itr lo (hi - lo).toNat) H) : wpAny (model X.prog X.w) X.A (pyIter (.ref s.heap.objs.size)) (PIE X pins σ tg R) E { s with heap := s.heap.push { cls := .type "range", data := .fields #[.int lo t, .int hi u, .int 1 v] }, toks := tk } := by
  refine wpAny_pyIter_range (IsRange.new ..) (small_one h1 h2 h3 h4) ?_
  have I1 : Inv X pins σ H { s with heap := s.heap.push { cls := .type "range", data := .fields #[.int lo t, .int hi u, .int 1 v] }, toks := tk } := I.kept fun b o e => Heap.get?_push_of_some _ e
  refine ⟨(s.heap.push { cls := .type "range", data := .fields #[.int lo t, .int hi u, .int 1 v] }).objs.size, [(s.heap.push { cls := .type "range", data := .fields #[.int lo t, .int hi u, .int 1 v] }).objs.size], _, _, H, rfl,
    I1.kept (t' := tk) fun b o e => Heap.get?_push_of_some _ e, turn_range _ lo (hi - lo).toNat, ?_, fun b hb => ?_, q⟩
  · have e1 : lo + ((0 : Nat) : Int) * 1 = lo := by simp
    have e2 : (((hi - lo).toNat : Nat) : Int) - ((0 : Nat) : Int) = Builtin.Range.rangeSize lo hi 1 := by rw [rangeSize_one]; split <;> omega
    show IsRangeIter _ _ (lo + ((0 : Nat) : Int) * 1) ((((hi - lo).toNat : Nat) : Int) - ((0 : Nat) : Int)) 1
    rw [e1, e2]
    exact Heap.get?_push_size _ rfl
  · have e : b = (s.heap.push { cls := .type "range", data := .fields #[.int lo t, .int hi u, .int 1 v] }).objs.size := by simpa using hb
    subst e
    exact I1.fpOk (Nat.le_refl _) (I1.hok.fresh (Nat.le_refl _))
def iRng1 (ta : TA) : TI := fun σ H R => ta σ H fun vs H1 => ∃ j : Int, vs = [.int j] ∧ -(2 ^ 62) ≤ j ∧ j < 2 ^ 62 ∧ R (Itr 0 j.toNat) H1
theorem pi_range1 {a : Expr} {ta : TA} {p pos : Pos} (hg : Gl X "range") (hm : X.mg "range" = none) (ha : PA X [a] ta) (hs : starEach [a] X.env = [(false, eval a X.env)] := by rfl) : PI X tg (.Call (.Name "range" p) [a] [] pos) (iRng1 ta) := by
  intro pins s σ H R I h
  refine Call_ (ld_blt I hg hm boot_range (PyProof.Rows.callWith_type1 (thn (ha pos pins s σ H _ I h) fun us s1 ⟨vs, H1, I1, r1, q1⟩ => ?_) hs rfl))
  obtain ⟨j, e, q1, q2, q⟩ := q1
  subst e
  cases r1 with
  | cons r rr =>
    cases rr
    obtain ⟨t, rfl⟩ := r
    exact call_range_1 (range_it I1 (by omega) (by omega) q1 q2 (by simpa using q))
/-! ### for -/
/-- W: the invariant by the turn and a measure; N: what the body is to reach -/
def tFor (wi : TI) (g : TG) (tb : TS) : TS := fun D σ H => wi σ H fun J H1 => ∃ W : Nat → Nat → St → Hp → Prop, (∃ m, W 0 m σ H1) ∧ ∀ i m σ H, W i m σ H →
  (J.stop i H ∧ D.nx σ H) ∨ (J.go i H ∧ ∃ N : St → Hp → Prop, (∀ σ' H', N σ' H' → ∃ m', m' < m ∧ W (i + 1) m' σ' H') ∧ ∀ x H', J.yld i H x H' → g x σ H' fun σ2 H2 => tb { D with nx := N, ct := N, bk := D.nx } σ2 H2)
/-- the records at fp as they stand -/
def pinsAt (fp : List Addr) (h : Heap) : List (Addr × Obj) := fp.filterMap fun b => (h.get? b).map fun o => (b, o)
theorem mem_pinsAt {fp : List Addr} {h : Heap} {b : Addr} {o : Obj} (hb : b ∈ fp) (e : h.get? b = some o) : (b, o) ∈ pinsAt fp h := List.mem_filterMap.mpr ⟨b, hb, by rw [e]; rfl⟩
theorem of_pinsAt {fp : List Addr} {h : Heap} {p : Addr × Obj} (hp : p ∈ pinsAt fp h) : p.1 ∈ fp ∧ h.get? p.1 = some p.2 := by
  obtain ⟨b, hb, e⟩ := List.mem_filterMap.mp hp
  cases q : h.get? b with
  | none => rw [q] at e; cases e
  | some o =>
    rw [q] at e
    have e' : (b, o) = p := Option.some.inj e
    subst e'
    exact ⟨hb, q⟩
theorem Inv.pinned {pins : List (Addr × Obj)} {σ : St} {H : Hp} {s : Shared} {fp : List Addr} (I : Inv X pins σ H s) (hf : ∀ b ∈ fp, FpOk X pins H b) (ho : ∀ b ∈ fp, ∃ o, s.heap.get? b = some o ∧ ∀ v, o.data ≠ .cell v) : Inv X (pins ++ pinsAt fp s.heap) σ H s :=
  I.pins_of fun p hp => (List.mem_append.mp hp).elim (fun z => I.pin p (List.mem_append_right _ z)) fun z => by
    obtain ⟨hb, e⟩ := of_pinsAt z
    obtain ⟨f0, f1, f2, _⟩ := hf p.1 hb
    obtain ⟨o, e', d⟩ := ho p.1 hb
    rw [e] at e'; cases e'
    exact ⟨e, f0, f1, f2, d⟩
theorem Inv.unpinned {pins pl : List (Addr × Obj)} {σ : St} {H : Hp} {s : Shared} (I : Inv X (pins ++ pl) σ H s) : Inv X pins σ H s := I.pins_of fun p hp => I.pin p (List.mem_append_right _ (List.mem_append_left _ hp))
theorem ps_for {iter : Expr} {body : List Stmt} {wi : TI} {g : TG} {tb : TS} {pos : Pos} (hp : PassesOwn (model X.prog X.w) X.A X.env X.xe) (hc : X.calm = true) (hi : PI X tg iter wi) (hg : PG X tg g) (hb : PSs X body tb)
    (hs : ∀ x, foldedSetIterable iter X.env x = pure x := by intro _; rfl) : PS X (.For tg iter body [] pos) (tFor wi g tb) := by
  intro pins s σ H D I h
  refine wpAny_For (thn (hi pins s σ H _ I h) fun v s1 h1 => thn h1 fun itv s2 h2 => ?_) hs
  obtain ⟨it, fp, tn, J, H2, e, I2, T, st2, f2, W, ⟨m0, w0⟩, turn⟩ := h2
  subst e
  -- what stays true of the iterator's objects through the loop
  have stat : ∀ {H' : Hp}, (∀ b ∈ fp, H' b = none) → ∀ b ∈ fp, FpOk X pins H' b := fun hn b hb => ⟨hn b hb, (f2 b hb).2⟩
  refine codeAny_forLoop_any (fun n s' => ∃ i σ' H', Inv X pins σ' H' s' ∧ tn i s'.heap ∧ (∀ b ∈ fp, H' b = none) ∧ W i n σ' H') ?_ m0 ⟨0, σ, H2, I2, st2, fun b hb => (f2 b hb).1, w0⟩
  rintro n s3 ⟨i, σ3, H3, I3, st3, fr3, w3⟩
  rcases turn i n σ3 H3 w3 with ⟨stop, qn⟩ | ⟨go, N, hN, step⟩
  · refine wpAny_passesOwn hp (thn (T.done X rfl rfl rfl hc i pins s3 σ3 H3 X.xe I3 (stat fr3) st3 stop) fun r s4 ⟨hr, I4⟩ => ?_)
    subst hr
    exact wpAny_execs_nil ⟨σ3, H3, I4, qn⟩
  · refine wpAny_passesOwn hp (thn (T.item X rfl rfl rfl hc i pins s3 σ3 H3 X.xe I3 (stat fr3) st3 go) fun r s4 ⟨u, hr, h4⟩ => ?_)
    subst hr
    refine wpAny_passesOwn hp (thn h4 fun _ s5 ⟨x, H5, I5, r5, y5, st5, fr5⟩ => ?_)
    have I5' := I5.pinned (stat fr5) (T.obj _ _ st5)
    refine wpAny_passesOwn hp (thn (hg _ s5 σ3 H5 x u _ I5' r5 (step x H5 y5)) fun _ s6 ⟨σ6, H6, I6, q6⟩ => ?_)
    refine wpAny_passesOwn hp (thn (hb _ s6 σ6 H6 _ I6 q6) fun f s7 q7 => ?_)
    have again : ∀ {σ7 : St} {H7 : Hp}, Inv X (pins ++ pinsAt fp s5.heap) σ7 H7 s7 → N σ7 H7 → ∃ m, m < n ∧ ∃ i σ' H', Inv X pins σ' H' s7 ∧ tn i s7.heap ∧ (∀ b ∈ fp, H' b = none) ∧ W i m σ' H' := fun {σ7 H7} I7 n7 => by
      obtain ⟨m', hm, w7⟩ := hN σ7 H7 n7
      refine ⟨m', hm, i + 1, σ7, H7, I7.unpinned, T.keep _ _ _ st5 fun b hb o e => (I7.pin (b, o) (List.mem_append_right _ (List.mem_append_right _ (mem_pinsAt hb e)))).1, fun b hb => ?_, w7⟩
      obtain ⟨o, e, d⟩ := T.obj _ _ st5 b hb
      exact (I7.pin (b, o) (List.mem_append_right _ (List.mem_append_right _ (mem_pinsAt hb e)))).2.1
    cases f with
    | next => obtain ⟨σ7, H7, I7, n7⟩ := q7; exact again I7 n7
    | cont => obtain ⟨σ7, H7, I7, n7⟩ := q7; exact again I7 n7
    | brk => obtain ⟨σ7, H7, I7, q7⟩ := q7; exact ⟨σ7, H7, I7.unpinned, q7⟩
    | ret v => obtain ⟨x7, σ7, H7, I7, r7, q7⟩ := q7; exact ⟨x7, σ7, H7, I7.unpinned, r7, q7⟩
end

/-! ### the forms one uses -/
/-- over a list that the body leaves as it is -/
theorem for_list {K : PySem.W.Frag} {a : Addr} {xs : List V} {g : TG} {tb : TS} {D : Ends} {σ : St} {H : Hp} (Pv : Nat → St → Hp → Prop) (h0 : Pv 0 σ H) (hl : ∀ i σ H, i ≤ xs.length → Pv i σ H → SqL K H a xs)
    (hs : ∀ i x σ H, xs[i]? = some x → Pv i σ H → g x σ H fun σ2 H2 => tb { D with nx := Pv (i + 1), ct := Pv (i + 1), bk := D.nx } σ2 H2) (hd : ∀ σ H, Pv xs.length σ H → D.nx σ H) :
    ∃ W : Nat → Nat → St → Hp → Prop, (∃ m, W 0 m σ H) ∧ ∀ i m σ H, W i m σ H →
      ((Itl K a).stop i H ∧ D.nx σ H) ∨ ((Itl K a).go i H ∧ ∃ N : St → Hp → Prop, (∀ σ' H', N σ' H' → ∃ m', m' < m ∧ W (i + 1) m' σ' H') ∧ ∀ x H', (Itl K a).yld i H x H' → g x σ H' fun σ2 H2 => tb { D with nx := N, ct := N, bk := D.nx } σ2 H2) := by
  refine ⟨fun i m σ H => m = xs.length - i ∧ i ≤ xs.length ∧ Pv i σ H, ⟨xs.length, by simp, Nat.zero_le _, h0⟩, ?_⟩
  rintro i m σ H ⟨rfl, hi, p⟩
  have q := hl i σ H hi p
  by_cases hlt : i < xs.length
  · refine .inr ⟨⟨xs, xs[i], q, by simp [hlt]⟩, Pv (i + 1), fun σ' H' p' => ⟨xs.length - (i + 1), by omega, rfl, hlt, p'⟩, fun x H' y => ?_⟩
    obtain ⟨e, y⟩ := y
    subst e
    exact hs i x σ _ (y xs q) p
  · have e : i = xs.length := by omega
    subst e
    exact .inl ⟨⟨xs, q, Nat.le_refl _⟩, hd σ H p⟩
theorem for_tup {K : PySem.W.Frag} {a : Addr} {xs : List V} {g : TG} {tb : TS} {D : Ends} {σ : St} {H : Hp} (Pv : Nat → St → Hp → Prop) (h0 : Pv 0 σ H) (hl : ∀ i σ H, i ≤ xs.length → Pv i σ H → SqT K H a xs)
    (hs : ∀ i x σ H, xs[i]? = some x → Pv i σ H → g x σ H fun σ2 H2 => tb { D with nx := Pv (i + 1), ct := Pv (i + 1), bk := D.nx } σ2 H2) (hd : ∀ σ H, Pv xs.length σ H → D.nx σ H) :
    ∃ W : Nat → Nat → St → Hp → Prop, (∃ m, W 0 m σ H) ∧ ∀ i m σ H, W i m σ H →
      ((Itt K a).stop i H ∧ D.nx σ H) ∨ ((Itt K a).go i H ∧ ∃ N : St → Hp → Prop, (∀ σ' H', N σ' H' → ∃ m', m' < m ∧ W (i + 1) m' σ' H') ∧ ∀ x H', (Itt K a).yld i H x H' → g x σ H' fun σ2 H2 => tb { D with nx := N, ct := N, bk := D.nx } σ2 H2) := by
  refine ⟨fun i m σ H => m = xs.length - i ∧ i ≤ xs.length ∧ Pv i σ H, ⟨xs.length, by simp, Nat.zero_le _, h0⟩, ?_⟩
  rintro i m σ H ⟨rfl, hi, p⟩
  have q := hl i σ H hi p
  by_cases hlt : i < xs.length
  · refine .inr ⟨⟨xs, xs[i], q, by simp [hlt]⟩, Pv (i + 1), fun σ' H' p' => ⟨xs.length - (i + 1), by omega, rfl, hlt, p'⟩, fun x H' y => ?_⟩
    obtain ⟨e, y⟩ := y
    subst e
    exact hs i x σ _ (y xs q) p
  · have e : i = xs.length := by omega
    subst e
    exact .inl ⟨⟨xs, q, Nat.le_refl _⟩, hd σ H p⟩
theorem for_range {lo : Int} {n : Nat} {g : TG} {tb : TS} {D : Ends} {σ : St} {H : Hp} (Pv : Nat → St → Hp → Prop) (h0 : Pv 0 σ H)
    (hs : ∀ i σ H, i < n → Pv i σ H → g (.int (lo + i)) σ H fun σ2 H2 => tb { D with nx := Pv (i + 1), ct := Pv (i + 1), bk := D.nx } σ2 H2) (hd : ∀ σ H, Pv n σ H → D.nx σ H) :
    ∃ W : Nat → Nat → St → Hp → Prop, (∃ m, W 0 m σ H) ∧ ∀ i m σ H, W i m σ H →
      ((Itr lo n).stop i H ∧ D.nx σ H) ∨ ((Itr lo n).go i H ∧ ∃ N : St → Hp → Prop, (∀ σ' H', N σ' H' → ∃ m', m' < m ∧ W (i + 1) m' σ' H') ∧ ∀ x H', (Itr lo n).yld i H x H' → g x σ H' fun σ2 H2 => tb { D with nx := N, ct := N, bk := D.nx } σ2 H2) := by
  refine ⟨fun i m σ H => m = n - i ∧ i ≤ n ∧ Pv i σ H, ⟨n, by simp, Nat.zero_le _, h0⟩, ?_⟩
  rintro i m σ H ⟨rfl, hi, p⟩
  by_cases hlt : i < n
  · refine .inr ⟨hlt, Pv (i + 1), fun σ' H' p' => ⟨n - (i + 1), by omega, rfl, hlt, p'⟩, fun x H' y => ?_⟩
    obtain ⟨e, y⟩ := y
    subst e y
    exact hs i σ _ hlt p
  · have e : i = n := by omega
    subst e
    exact .inl ⟨Nat.le_refl _, hd σ H p⟩
end L2

namespace L2
open PySem PySem.Spec PyProof.Rows

abbrev R2 := V → V → Hp → VK → Prop
/-- a two-place operation on values: f is binaryOp op, inplaceOp op or compareOp op -/
def OpR (X : Cx) (f : Value → Value → Sem Value) (r : R2) : Prop :=
  ∀ (pins : List (Addr × Obj)) (s : Shared) (σ : St) (H : Hp) (x y : V) (v u : Value) (Q : VK), Inv X pins σ H s → RelV x v → RelV y u → r x y H Q →
    wpAny (model X.prog X.w) X.A (f v u) (EP X pins σ Q) X.xe s
/-- a one-place operation -/
def UnR (X : Cx) (f : Value → Sem Value) (r : V → Hp → VK → Prop) : Prop :=
  ∀ (pins : List (Addr × Obj)) (s : Shared) (σ : St) (H : Hp) (x : V) (v : Value) (Q : VK), Inv X pins σ H s → RelV x v → r x H Q →
    wpAny (model X.prog X.w) X.A (f v) (EP X pins σ Q) X.xe s
/-- a call of a value that is known (a builtin, a type) with values -/
def CallR (X : Cx) (f : Value) (r : List V → Hp → VK → Prop) : Prop :=
  ∀ (pins : List (Addr × Obj)) (s : Shared) (σ : St) (H : Hp) (xs : List V) (us : List Value) (Q : VK), Inv X pins σ H s → Vals xs us → r xs H Q →
    wpAny (model X.prog X.w) X.A (call f us) (EP X pins σ Q) X.xe s
def tOp (r : R2) (ta tb : TE) : TE := fun σ H Q => ta σ H fun x H1 => tb σ H1 fun y H2 => r x y H2 Q
def tUn (r : V → Hp → VK → Prop) (ta : TE) : TE := fun σ H Q => ta σ H fun x H1 => r x H1 Q
/-- ints in, under C, and a value out -/
def rI (C : Int → Int → Prop) (g : Int → Int → V) : R2 := fun x y H Q => ∃ i j, x = .int i ∧ y = .int j ∧ C i j ∧ Q (g i j) H
def rI0 (g : Int → Int → V) : R2 := fun x y H Q => ∃ i j, x = .int i ∧ y = .int j ∧ Q (g i j) H
def rU (g : Int → V) : V → Hp → VK → Prop := fun x H Q => ∃ i, x = .int i ∧ Q (g i) H

section
variable {X : Cx} {a b c : Expr} {ta tb tc : TE} {pos : Pos}

theorem binT (ha : PE X a ta) (hb : PE X b tb) {pins : List (Addr × Obj)} {s : Shared} {σ : St} {H : Hp} {R : V → V → Hp → Prop} (I : Inv X pins σ H s)
    (h : ta σ H fun x H1 => tb σ H1 fun y H2 => R x y H2) {Q : Value → Shared → Prop} {f : Value → Value → Sem Value}
    (hf : ∀ v u s2 x y H2, Inv X pins σ H2 s2 → RelV x v → RelV y u → R x y H2 → wpAny (model X.prog X.w) X.A (f v u) Q X.xe s2) :
    wpAny (model X.prog X.w) X.A (eval a X.env) (fun v s₁ => wpAny (model X.prog X.w) X.A (eval b X.env) (fun u s₂ => wpAny (model X.prog X.w) X.A (f v u) Q X.xe s₂) X.xe s₁) X.xe s := by
  refine thn (ha pins s σ H _ I h) fun v s1 ⟨x, H1, I1, r1, q1⟩ => ?_
  refine thn (hb pins s1 σ H1 _ I1 q1) fun u s2 ⟨y, H2, I2, r2, q2⟩ => ?_
  exact hf v u s2 x y H2 I2 r1 r2 q2

theorem pe_op {op : Operator} {r : R2} (ho : OpR X (binaryOp op) r) (ha : PE X a ta) (hb : PE X b tb) : PE X (.BinOp a op b pos) (tOp r ta tb) := by
  intro pins s σ H Q I h
  exact wpAny_BinOp (binT ha hb I h fun v u s2 x y H2 I2 rx ry q => ho pins s2 σ H2 x y v u Q I2 rx ry q)
theorem pe_un {op : UnaryOp} {r : V → Hp → VK → Prop} (ho : UnR X (unaryOp op) r) (ha : PE X a ta) : PE X (.UnaryOp op a pos) (tUn r ta) := by
  intro pins s σ H Q I h
  exact UnaryOp_ (thn (ha pins s σ H _ I h) fun v s1 ⟨x, H1, I1, r1, q1⟩ => ho pins s1 σ H1 x v Q I1 r1 q1)
/-! ### ints -/
theorem opI {f : Value → Value → Sem Value} {C : Int → Int → Prop} {g : Int → Int → Int}
    (rule : ∀ (i j : Int) (t u : Tok) (s : Shared) (Q : Value → Shared → Prop) (E : Value → Shared → Prop), C i j → Q (.int (g i j) s.toks) { s with toks := s.toks + 1 } → wpAny (model X.prog X.w) X.A (f (.int i t) (.int j u)) Q E s) :
    OpR X f (rI C fun i j => .int (g i j)) := by
  intro pins s σ H x y v u Q I rx ry h
  obtain ⟨i, j, rfl, rfl, hc, q⟩ := h
  obtain ⟨t, rfl⟩ := rx
  obtain ⟨t', rfl⟩ := ry
  exact rule i j t t' s _ _ hc ⟨.int (g i j), H, I.tok _, ⟨_, rfl⟩, q⟩
theorem opI0 {f : Value → Value → Sem Value} {g : Int → Int → Int}
    (rule : ∀ (i j : Int) (t u : Tok) (s : Shared) (Q : Value → Shared → Prop) (E : Value → Shared → Prop), Q (.int (g i j) s.toks) { s with toks := s.toks + 1 } → wpAny (model X.prog X.w) X.A (f (.int i t) (.int j u)) Q E s) :
    OpR X f (rI0 fun i j => .int (g i j)) := by
  intro pins s σ H x y v u Q I rx ry h
  obtain ⟨i, j, rfl, rfl, q⟩ := h
  obtain ⟨t, rfl⟩ := rx
  obtain ⟨t', rfl⟩ := ry
  exact rule i j t t' s _ _ ⟨.int (g i j), H, I.tok _, ⟨_, rfl⟩, q⟩
theorem opB0 {f : Value → Value → Sem Value} {g : Int → Int → Bool}
    (rule : ∀ (i j : Int) (t u : Tok) (s : Shared) (Q : Value → Shared → Prop) (E : Value → Shared → Prop), Q (.bool (g i j)) s → wpAny (model X.prog X.w) X.A (f (.int i t) (.int j u)) Q E s) :
    OpR X f (rI0 fun i j => .bl (g i j)) := by
  intro pins s σ H x y v u Q I rx ry h
  obtain ⟨i, j, rfl, rfl, q⟩ := h
  obtain ⟨t, rfl⟩ := rx
  obtain ⟨t', rfl⟩ := ry
  exact rule i j t t' s _ _ ⟨.bl (g i j), H, I, rfl, q⟩

def CDiv (i j : Int) : Prop := 0 < j ∧ j < 1073741824
def CPow (i j : Int) : Prop := 0 ≤ j ∧ j ≤ 1000000 ∧ i.natAbs < 2 ^ 64
def CMul (i j : Int) : Prop := (-(2 ^ 64) < i ∧ i < 2 ^ 64) ∨ (-(2 ^ 64) < j ∧ j < 2 ^ 64)
theorem CMul.ok {i j : Int} (h : CMul i j) : IntMulOk i j := by
  rcases h with ⟨h1, h2⟩ | ⟨h1, h2⟩
  · exact .of_left (intBits_le_64 h1 h2)
  · exact .of_right (intBits_le_64 h1 h2)
theorem two_pow_nn (k : Nat) : (0 : Int) ≤ 2 ^ k := by
  rw [two_pow_cast]
  exact Int.natCast_nonneg _

theorem op_add : OpR X (binaryOp .Add) (rI0 fun i j => .int (i + j)) := opI0 fun _ _ _ _ _ _ _ q => add_int q
theorem op_sub : OpR X (binaryOp .Sub) (rI0 fun i j => .int (i - j)) := opI0 fun _ _ _ _ _ _ _ q => sub_int q
theorem op_mul : OpR X (binaryOp .Mult) (rI CMul fun i j => .int (i * j)) := opI fun _ _ _ _ _ _ _ hc q => mul_int q hc.ok
/-- // by a positive divisor -/
theorem op_fdiv : OpR X (binaryOp .FloorDiv) (rI CDiv fun i j => .int (i / j)) := opI fun i j _ _ _ _ _ hc q => by
  have h1 : (0 : Int) < j := hc.1
  have h2 : j < 1073741824 := hc.2
  exact floordiv_int (by omega) (by rw [Int.fdiv_eq_ediv_of_nonneg i (by omega)]; exact q) (.inl (PyProof.noPylong_small (by omega)))
/-- % by a positive divisor of any size -/
theorem op_mod : OpR X (binaryOp .Mod) (rI (fun _ j => 0 < j) fun i j => .int (i % j)) := opI fun i j _ _ _ _ _ hc q => by
  have h1 : (0 : Int) < j := hc
  exact mod_int' (by omega) (by rw [Int.fmod_eq_emod_of_nonneg i (by omega)]; exact q)
theorem op_shl : OpR X (binaryOp .LShift) (rI CPow fun i j => .int (i * 2 ^ j.toNat)) := opI fun _ _ _ _ _ _ _ hc q => lshift_int_small hc.1 hc.2.1 hc.2.2 q
theorem op_and : OpR X (binaryOp .BitAnd) (rI0 fun i j => .int (Builtin.bitAnd i j)) := opI0 fun _ _ _ _ _ _ _ q => and_int q
theorem iop_shr : OpR X (inplaceOp .RShift) (rI (fun _ j => 0 ≤ j) fun i j => .int (i / 2 ^ j.toNat)) := opI fun i j _ _ _ _ _ hc q =>
  irshift_int hc (by rw [Int.fdiv_eq_ediv_of_nonneg i (two_pow_nn _)]; exact q)
theorem unI {f : Value → Sem Value} {g : Int → Int}
    (rule : ∀ (i : Int) (t : Tok) (s : Shared) (Q : Value → Shared → Prop) (E : Value → Shared → Prop), Q (.int (g i) s.toks) { s with toks := s.toks + 1 } → wpAny (model X.prog X.w) X.A (f (.int i t)) Q E s) :
    UnR X f (rU fun i => .int (g i)) := by
  intro pins s σ H x v Q I rx h
  obtain ⟨i, rfl, q⟩ := h
  obtain ⟨t, rfl⟩ := rx
  exact rule i t s _ _ ⟨.int (g i), H, I.tok _, ⟨_, rfl⟩, q⟩
theorem un_neg : UnR X (unaryOp .USub) (rU fun i => .int (-i)) := unI fun _ _ _ _ _ q => neg_int q
end

/-! ### comparisons -/
/-- the scalars that == tells apart as data does -/
def scal : V → V → Bool
  | .non, .non => true | .non, .int _ => true | .int _, .non => true | .non, .bl _ => true | .bl _, .non => true | .non, .str _ => true | .str _, .non => true
  | .int _, .int _ => true | .bl _, .bl _ => true | .str _, .str _ => true | .byt _, .byt _ => true
  | .int _, .str _ => true | .str _, .int _ => true | .bl _, .str _ => true | .str _, .bl _ => true
  | _, _ => false
def rEq : R2 := fun x y H Q => scal x y = true ∧ Q (.bl (decide (x = y))) H
def rNe : R2 := fun x y H Q => scal x y = true ∧ Q (.bl (!decide (x = y))) H

theorem dec_int {i j : Int} : decide (V.int i = V.int j) = (i == j) := by
  rw [Bool.eq_iff_iff]
  simp
theorem dec_bl {i j : Bool} : decide (V.bl i = V.bl j) = (i == j) := by
  rw [Bool.eq_iff_iff]
  simp
theorem dec_str {i j : Str} : decide (V.str i = V.str j) = (i == j) := by
  rw [Bool.eq_iff_iff]
  simp
theorem dec_byt {i j : Array UInt8} : decide (V.byt i = V.byt j) = (i.toList == j.toList) := by
  rw [Bool.eq_iff_iff]
  cases i
  cases j
  simp

section
variable {X : Cx} {a b c : Expr} {ta tb tc : TE} {pos : Pos}
theorem fin_bl {pins : List (Addr × Obj)} {σ : St} {H : Hp} {s : Shared} {Q : VK} {k k' : Bool} (I : Inv X pins σ H s) (q : Q (.bl k) H) (e : k = k') : EP X pins σ Q (.bool k') s := by
  subst e
  exact ⟨.bl k, H, I, rfl, q⟩
theorem op_eq : OpR X (compareOp .Eq) rEq := by
  intro pins s σ H x y v u Q I rx ry h
  obtain ⟨hs, q⟩ := h
  cases x with
  | non =>
    cases rx
    cases y with
    | non => cases ry; exact PySem.EqNone.eq_none_none (fin_bl I q (by simp))
    | bl j => cases ry; exact PySem.EqNone.eq_none_bool (fin_bl I q (by simp))
    | int j => obtain ⟨t', rfl⟩ := ry; exact PySem.EqNone.eq_none_int (fin_bl I q (by simp))
    | str j => obtain ⟨t', rfl⟩ := ry; exact PySem.EqNone.eq_none_str (fin_bl I q (by simp))
    | _ => exact absurd (show false = true from hs) Bool.false_ne_true
  | bl i =>
    cases rx
    cases y with
    | non => cases ry; exact PySem.EqNone.eq_bool_none (fin_bl I q (by simp))
    | bl j => cases ry; exact eq_bool (fin_bl I q dec_bl)
    | str j => obtain ⟨t', rfl⟩ := ry; exact PySem.EqMixed.eq_bool_str (fin_bl I q (by simp))
    | _ => exact absurd (show false = true from hs) Bool.false_ne_true
  | int i =>
    obtain ⟨t, rfl⟩ := rx
    cases y with
    | non => cases ry; exact PySem.EqNone.eq_int_none (fin_bl I q (by simp))
    | int j => obtain ⟨t', rfl⟩ := ry; exact eq_int (fin_bl I q dec_int)
    | str j => obtain ⟨t', rfl⟩ := ry; exact PySem.EqMixed.eq_int_str (fin_bl I q (by simp))
    | _ => exact absurd (show false = true from hs) Bool.false_ne_true
  | str i =>
    obtain ⟨t, rfl⟩ := rx
    cases y with
    | non => cases ry; exact PySem.EqNone.eq_str_none (fin_bl I q (by simp))
    | bl j => cases ry; exact PySem.EqMixed.eq_str_bool (fin_bl I q (by simp))
    | int j => obtain ⟨t', rfl⟩ := ry; exact PySem.EqMixed.eq_str_int (fin_bl I q (by simp))
    | str j => obtain ⟨t', rfl⟩ := ry; exact eq_str (fin_bl I q dec_str)
    | _ => exact absurd (show false = true from hs) Bool.false_ne_true
  | byt i =>
    obtain ⟨t, rfl⟩ := rx
    cases y with
    | byt j => obtain ⟨t', rfl⟩ := ry; exact PySem.W.eq_bytes (fin_bl I q dec_byt)
    | _ => exact absurd (show false = true from hs) Bool.false_ne_true
  | _ => cases y <;> exact absurd (show false = true from hs) Bool.false_ne_true
theorem op_ne : OpR X (compareOp .NotEq) rNe := by
  intro pins s σ H x y v u Q I rx ry h
  obtain ⟨hs, q⟩ := h
  cases x with
  | non =>
    cases rx
    cases y with
    | non => cases ry; exact PySem.EqNone.ne_none_none (fin_bl I q (by simp))
    | bl j => cases ry; exact PySem.EqNone.ne_none_bool (fin_bl I q (by simp))
    | int j => obtain ⟨t', rfl⟩ := ry; exact PySem.EqNone.ne_none_int (fin_bl I q (by simp))
    | str j => obtain ⟨t', rfl⟩ := ry; exact PySem.EqNone.ne_none_str (fin_bl I q (by simp))
    | _ => exact absurd (show false = true from hs) Bool.false_ne_true
  | bl i =>
    cases rx
    cases y with
    | non => cases ry; exact PySem.EqNone.ne_bool_none (fin_bl I q (by simp))
    | bl j => cases ry; exact ne_bool (fin_bl I q (congrArg not dec_bl))
    | str j => obtain ⟨t', rfl⟩ := ry; exact PySem.EqMixed.ne_bool_str (fin_bl I q (by simp))
    | _ => exact absurd (show false = true from hs) Bool.false_ne_true
  | int i =>
    obtain ⟨t, rfl⟩ := rx
    cases y with
    | non => cases ry; exact PySem.EqNone.ne_int_none (fin_bl I q (by simp))
    | int j => obtain ⟨t', rfl⟩ := ry; exact ne_int (fin_bl I q (congrArg not dec_int))
    | str j => obtain ⟨t', rfl⟩ := ry; exact PySem.EqMixed.ne_int_str (fin_bl I q (by simp))
    | _ => exact absurd (show false = true from hs) Bool.false_ne_true
  | str i =>
    obtain ⟨t, rfl⟩ := rx
    cases y with
    | non => cases ry; exact PySem.EqNone.ne_str_none (fin_bl I q (by simp))
    | bl j => cases ry; exact PySem.EqMixed.ne_str_bool (fin_bl I q (by simp))
    | int j => obtain ⟨t', rfl⟩ := ry; exact PySem.EqMixed.ne_str_int (fin_bl I q (by simp))
    | str j => obtain ⟨t', rfl⟩ := ry; exact ne_str (fin_bl I q (congrArg not dec_str))
    | _ => exact absurd (show false = true from hs) Bool.false_ne_true
  | byt i =>
    obtain ⟨t, rfl⟩ := rx
    cases y with
    | byt j => obtain ⟨t', rfl⟩ := ry; exact PySem.W.ne_bytes (fin_bl I q (congrArg not dec_byt))
    | _ => exact absurd (show false = true from hs) Bool.false_ne_true
  | _ => cases y <;> exact absurd (show false = true from hs) Bool.false_ne_true

theorem op_lt : OpR X (compareOp .Lt) (rI0 fun i j => .bl (decide (i < j))) := opB0 fun _ _ _ _ _ _ _ q => lt_int q
theorem op_le : OpR X (compareOp .LtE) (rI0 fun i j => .bl (decide (i ≤ j))) := opB0 fun _ _ _ _ _ _ _ q => le_int q
theorem op_gt : OpR X (compareOp .Gt) (rI0 fun i j => .bl (decide (j < i))) := opB0 fun _ _ _ _ _ _ _ q => gt_int q
theorem op_ge : OpR X (compareOp .GtE) (rI0 fun i j => .bl (decide (j ≤ i))) := opB0 fun _ _ _ _ _ _ _ q => ge_int q
theorem nomark (b : Expr) {op : CmpOp} (h : op ≠ .In := by decide) (h2 : op ≠ .NotIn := by decide) : behindInMarks op b = false := by
  have e1 : (op == CmpOp.In) = false := by cases op <;> first | rfl | exact absurd rfl h
  have e2 : (op == CmpOp.NotIn) = false := by cases op <;> first | rfl | exact absurd rfl h2
  cases b <;> simp [behindInMarks, e1, e2]
/-- a comparison as a value; hm: nomark b, or (for in, not in) by with_unfolding_all rfl -/
theorem pe_cmpR {op : CmpOp} {r : R2} (ho : OpR X (compareOp op) r) (ha : PE X a ta) (hb : PE X b tb) (hm : behindInMarks op b = false) : PE X (.Compare a [op] [b] pos) (tOp r ta tb) := by
  intro pins s σ H Q I h
  exact wpAny_Compare1 (binT ha hb I h fun v u s2 x y H2 I2 rx ry q => ho pins s2 σ H2 x y v u Q I2 rx ry q) hm
/-- a reading of a value as a test -/
def tTest (t : TE) : TT := fun σ H Q => t σ H fun x H' => ∃ k, x = .bl k ∧ Q k H'
theorem pt_cmpR {op : CmpOp} {r : R2} (ho : OpR X (compareOp op) r) (ha : PE X a ta) (hb : PE X b tb) (hm : behindInMarks op b = false) : PT X (.Compare a [op] [b] pos) (tTest (tOp r ta tb)) := by
  intro pins s σ H Q I h
  refine wpAny_isTrue_Compare1 (thn (ha pins s σ H _ I h) fun v s1 ⟨x, H1, I1, r1, q1⟩ => thn (hb pins s1 σ H1 _ I1 q1) fun u s2 ⟨y, H2, I2, r2, q2⟩ =>
    thn (ho pins s2 σ H2 x y v u _ I2 r1 r2 q2) fun c s3 ⟨z, H3, I3, r3, k, e, q3⟩ => ?_) hm
  subst e
  cases r3
  exact wpAny_truthy_bool ⟨H3, I3, q3⟩
/-- a op1 b op2 c -/
def tChain (r r' : R2) (ta tb tc : TE) : TE := fun σ H Q => ta σ H fun x H1 => tb σ H1 fun y H2 => r x y H2 fun z H3 => ∃ k, z = .bl k ∧
  (if k = true then tc σ H3 fun w' H4 => r' y w' H4 Q else Q (.bl false) H3)
theorem pe_chain {op op' : CmpOp} {r r' : R2} (ho : OpR X (compareOp op) r) (ho' : OpR X (compareOp op') r') (ha : PE X a ta) (hb : PE X b tb) (hc : PE X c tc)
    (hm : lastMarks [op, op'] [b, c] = false := by with_unfolding_all rfl) : PE X (.Compare a [op, op'] [b, c] pos) (tChain r r' ta tb tc) := by
  intro pins s σ H Q I h
  refine Compare_chain (thn (ha pins s σ H _ I h) fun v s1 ⟨x, H1, I1, r1, q1⟩ => chain_link (thn (hb pins s1 σ H1 _ I1 q1) fun u s2 ⟨y, H2, I2, r2, q2⟩ =>
    thn (ho pins s2 σ H2 x y v u _ I2 r1 r2 q2) fun d s3 ⟨z, H3, I3, r3, k, e, q3⟩ => ?_)) hm
  subst e
  cases r3
  refine wpAny_truthy_bool ?_
  cases k with
  | false => exact ite_ff ⟨.bl false, H3, I3, rfl, q3⟩
  | true => exact ite_tt (chain_last (thn (hc pins s3 σ H3 _ I3 q3) fun w' s4 ⟨z', H4, I4, r4, q4⟩ => ho' pins s4 σ H4 y z' u w' Q I4 r2 r4 q4))
theorem line63 : (sizeLine : Nat) < 2 ^ 63 := by rw [sizeLine_eq]; decide
theorem op_add_str : OpR X (binaryOp .Add) (fun x y H Q => ∃ i j, x = .str i ∧ y = .str j ∧ i.length + j.length ≤ sizeLine ∧ Q (.str (i ++ j)) H) := by
  intro pins s σ H x y v u Q I rx ry h
  obtain ⟨i, j, rfl, rfl, hz, q⟩ := h
  obtain ⟨t, rfl⟩ := rx
  obtain ⟨t', rfl⟩ := ry
  exact add_str (fun t' tk => ⟨.str (i ++ j), H, I.tok _, ⟨_, rfl⟩, q⟩) hz
/-! ### scalar builtins, by CallR -/
theorem vals1 {x : V} {us : List Value} (r : Vals [x] us) : ∃ u, us = [u] ∧ RelV x u := by
  cases r with
  | cons r1 r2 => cases r2; exact ⟨_, rfl, r1⟩
theorem vals2 {x y : V} {us : List Value} (r : Vals [x, y] us) : ∃ u w', us = [u, w'] ∧ RelV x u ∧ RelV y w' := by
  cases r with
  | cons r1 r2 =>
    cases r2 with
    | cons r3 r4 => cases r4; exact ⟨_, _, rfl, r1, r3⟩
theorem call_abs : CallR X (.builtin "abs") (fun xs H Q => ∃ i, xs = [.int i] ∧ Q (.int (if i < 0 then -i else i)) H) := by
  intro pins s σ H xs us Q I r h
  obtain ⟨i, rfl, q⟩ := h
  obtain ⟨u, rfl, t, rfl⟩ := vals1 r
  exact call_abs_int fun u tk => ⟨.int (if i < 0 then -i else i), H, I.tok _, ⟨_, rfl⟩, q⟩
theorem call_max2 (hc : X.calm = true) : CallR X (.builtin "max") (fun xs H Q => ∃ i j, xs = [.int i, .int j] ∧ Q (.int (if j > i then j else i)) H) := by
  intro pins s σ H xs us Q I r h
  obtain ⟨i, j, rfl, q⟩ := h
  obtain ⟨u, w', rfl, ⟨t, rfl⟩, ⟨t', rfl⟩⟩ := vals2 r
  refine max_two_ints (I.ok.hd hc) fun h' tk k => ⟨_, H, I.kept k, ?_, q⟩
  by_cases hj : j > i
  · rw [if_pos hj, if_pos hj]; exact ⟨_, rfl⟩
  · rw [if_neg hj, if_neg hj]; exact ⟨_, rfl⟩
theorem call_min2 (hc : X.calm = true) : CallR X (.builtin "min") (fun xs H Q => ∃ i j, xs = [.int i, .int j] ∧ Q (.int (if j < i then j else i)) H) := by
  intro pins s σ H xs us Q I r h
  obtain ⟨i, j, rfl, q⟩ := h
  obtain ⟨u, w', rfl, ⟨t, rfl⟩, ⟨t', rfl⟩⟩ := vals2 r
  refine min_two_ints (I.ok.hd hc) fun h' tk k => ⟨_, H, I.kept k, ?_, q⟩
  by_cases hj : j < i
  · rw [if_pos hj, if_pos hj]; exact ⟨_, rfl⟩
  · rw [if_neg hj, if_neg hj]; exact ⟨_, rfl⟩
end
end L2

namespace L2
open PySem PySem.Spec PyProof.Rows

/-! ### an instance, its attributes a map -/
structure ObjM (h : Heap) (x dx C : Addr) (mA : Str → Option Value) : Prop where
  obj : h.get? x = some (PySem.W.instObj C dx)
  ns : h.Ns1 dx mA
  ne : dx ≠ x

theorem lookIn_ns {h : Heap} {dx : Addr} {mA : Str → Option Value} (n : h.Ns1 dx mA) : ∃ od, h.get? dx = some od ∧ ∀ name, PySem.W.lookIn name od = some (mA name) := by
  obtain ⟨o, es, ep, ho, hd, hk, _, hm⟩ := n
  refine ⟨o, ho, fun name => ?_⟩
  have e := hm name
  unfold nsFind findBy at e
  rw [← Array.find?_toList] at e
  unfold PySem.W.lookIn
  rw [hd]
  dsimp only
  split
  · rename_i y q
    rw [q] at e
    exact congrArg some e
  · rename_i q
    rw [q] at e
    have a : es.toList.any (·.refKey) = false := by
      rw [List.any_eq_false]
      intro y hy
      obtain ⟨z, t, hkey⟩ := hk y (Array.mem_toList_iff.mp hy)
      simp [DictEntry.refKey, hkey]
    have a' : ¬ es.toList.any (·.refKey) = true := by rw [a]; exact Bool.false_ne_true
    rw [if_neg a']
    exact congrArg some e

theorem ObjM.look {h : Heap} {x dx C : Addr} {mA : Str → Option Value} (I : ObjM h x dx C mA) : ∃ od, PySem.W.InstAt h x (PySem.W.instObj C dx) C (some od) ∧ ∀ name, PySem.W.lookIn name od = some (mA name) :=
  let ⟨od, ho, hl⟩ := lookIn_ns I.ns
  ⟨od, ⟨I.obj, rfl, rfl, ho⟩, hl⟩

section
variable {prog : Program} {w : World} {A : Around} {E : Value → Shared → Prop} {s : Shared} {K : PySem.W.Frag} {x dx C f : Addr} {mA : Str → Option Value} {name : Str} {v : Value}

theorem get_map {expr : Bool} {Q : Value → Shared → Prop} (X : K.In s.heap) (I : ObjM s.heap x dx C mA) (hg : PySem.W.plainGet K C name = true) (hh : PySem.W.hasDictIn K C = true)
    (ha : PySem.W.findIn K (.ref C) name = some none) (hv : mA name = some v) (hv' : PySem.W.handedIn v = true) (h : Q v { s with toks := s.toks + 1 }) :
    wpAny (model prog w) A (getAttr (.ref x) name expr) Q E s := by
  obtain ⟨od, J, hl⟩ := I.look
  exact PySem.W.get_value X J (PySem.W.plainGet_of hg).1 (PySem.W.findObj_own hh ha rfl (by rw [hl, hv])) hv' h

theorem get_meth {pl : Sem Bool} {Q : Value × List Value → Shared → Prop} (X : K.In s.heap) (I : ObjM s.heap x dx C mA) (hg : PySem.W.plainGet K C name = true)
    (hf : PySem.W.findIn K (.ref C) name = some (some (.ref f))) (ht : PySem.W.isFn K (.ref f) = true) (hv : mA name = none) (h : Q (.ref f, [.ref x]) s) :
    wpAny (model prog w) A (getMethod (.ref x) name pl) Q E s := by
  obtain ⟨od, J, hl⟩ := I.look
  exact PySem.W.method_fn X J (PySem.W.plainGet_of hg).1 (PySem.W.plainGet_of hg).2 hf (beq_iff_eq.mp ht) (by show (PySem.W.lookIn name od).map (·.isSome) = some false; rw [hl, hv]; rfl) h

theorem set_map {ns : List Str} {Q : Unit → Shared → Prop} (X : K.In s.heap) (I : ObjM s.heap x dx C mA)
    (hs : PySem.W.findIn K (.ref C) "__setattr__" = some (some (.builtin "object.__setattr__"))) (hp : PySem.W.plainOver K C = true) (ht : PySem.W.takerIn K C name = some none) (hh : PySem.W.hasDictIn K C = true)
    (hw : PySem.Within mA ns) (hsz : ns.length ≤ sizeLine)
    (h : ∀ h', ObjM h' x dx C (fun y => if y = name then some v else mA y) → Heap.SameBut dx s.heap h' → Q () { s with heap := h', toks := s.toks + 2 }) :
    wpAny (model prog w) A (setAttr (.ref x) name v) Q E s := by
  obtain ⟨od, J, hl⟩ := I.look
  refine PySem.W.set_plain X J hs (PySem.W.osa_open (s := { s with toks := s.toks + 1 }) (r := none) X J hp ht fun b => ?_)
  obtain ⟨cd, hc, hd'⟩ := PySem.W.any_some hh
  have hx : s.heap.get? x = some ⟨.ref C, some dx, .plain, #[]⟩ := I.obj
  refine wpAny_bind (wpAny_pure (wpAny_bind (wpAny_bind (wpAny_loadPart hx (wpAny_bind (PySem.W.Looks.here (s := { s with toks := s.toks + 1 }) (PySem.W.looks_clsIn X hc) ?_))))))
  rw [hd']
  refine wpAny_pure (a := some dx) (wpAny_bind (wpAny_pure (wpAny_bind ?_)))
  refine wpAny_nsSet1 (s := { s with toks := s.toks + 1 }) I.ns fun h' hn2 hs2 => ?_
  obtain ⟨oD, esD, epD, hoD, hdD, hcD⟩ := hn2.count (PySem.Within.cons name v hw)
  refine wpAny_bind (wpAny_lookBehind hoD (by rw [hdD]; exact pastItsLine_dict (Nat.le_trans hcD (by rw [List.length_cons]; omega))) ?_)
  exact wpAny_pure (h _ ⟨(hs2.2 _ (Ne.symm I.ne)).trans I.obj, hn2, I.ne⟩ hs2)

/-- C(..): the dict at the heap's end, the instance behind it; then its __init__ -/
theorem make_map {R : Result → Shared → Prop} {vs : List Value} {kw : List (Str × Value)} (X : K.In s.heap) (hm : PySem.W.makesIn K C = true)
    (hi : PySem.W.findIn K (.ref C) "__init__" = some (some (.ref f))) (hf : PySem.W.typeIn K (.ref f) = some (.type "function"))
    (h : codeAny (model prog w) (A.under (.builtin "type.__call__" ⟨.ref C :: vs, kw⟩)) (.call (.ref f) ⟨.ref (s.heap.objs.size + 1) :: vs, kw⟩) (PySem.W.InitBack (s.heap.objs.size + 1) R)
      { s with heap := (s.heap.push PySem.W.emptyDict).push (PySem.W.instObj C s.heap.objs.size) }) :
    codeAny (model prog w) A (.call (.ref C) ⟨vs, kw⟩) R s := by
  obtain ⟨hh, g, d, t, os⟩ := s
  exact PySem.W.make_core (PySem.W.makes_of X hm) (PySem.W.looks_findIn X hi) (fun self => PySem.W.bind_fn X self hf) (.inl rfl) h
end

/-! ### the attributes as a list of pairs -/
def putF (f : Str) (v : V) : List (Str × V) → List (Str × V)
  | [] => [(f, v)]
  | (g, x) :: r => if g = f then (g, v) :: r else (g, x) :: putF f v r
theorem lookup_putF (f g : Str) (v : V) : ∀ fs : List (Str × V), (putF f v fs).lookup g = if g = f then some v else fs.lookup g
  | [] => by
    show List.lookup g [(f, v)] = _
    by_cases h : g = f
    · have hb : (g == f) = true := beq_iff_eq.mpr h
      simp only [List.lookup, hb, if_pos h]
    · have hb : (g == f) = false := beq_eq_false_iff_ne.mpr h
      simp only [List.lookup, hb, if_neg h]
  | (k, x) :: r => by
    have ih := lookup_putF f g v r
    rw [show putF f v ((k, x) :: r) = (if k = f then (k, v) :: r else (k, x) :: putF f v r) from rfl]
    by_cases hk : k = f
    · rw [if_pos hk]
      by_cases h : g = k
      · have hb : (g == k) = true := beq_iff_eq.mpr h
        simp only [List.lookup, hb, if_pos (h.trans hk)]
      · have hb : (g == k) = false := beq_eq_false_iff_ne.mpr h
        simp only [List.lookup, hb, if_neg (fun e : g = f => h (e.trans hk.symm))]
    · rw [if_neg hk]
      by_cases h : g = k
      · have hb : (g == k) = true := beq_iff_eq.mpr h
        simp only [List.lookup, hb, if_neg (fun e : g = f => hk (h.symm.trans e))]
      · have hb : (g == k) = false := beq_eq_false_iff_ne.mpr h
        simp only [List.lookup, hb]
        exact ih
theorem keys_putF (f : Str) (v : V) : ∀ fs : List (Str × V), f ∈ (putF f v fs).map (·.1) ∧ ∀ g, g ∈ fs.map (·.1) → g ∈ (putF f v fs).map (·.1)
  | [] => ⟨by simp [putF], fun g h => by simp at h⟩
  | (k, x) :: r => by
    obtain ⟨i1, i2⟩ := keys_putF f v r
    rw [show putF f v ((k, x) :: r) = (if k = f then (k, v) :: r else (k, x) :: putF f v r) from rfl]
    by_cases hk : k = f
    · rw [if_pos hk]
      subst hk
      exact ⟨by simp, fun g h => by simpa using h⟩
    · rw [if_neg hk]
      refine ⟨?_, fun g h => ?_⟩
      · rw [List.map_cons]
        exact List.mem_cons_of_mem _ i1
      · rw [List.map_cons] at h ⊢
        rcases List.mem_cons.mp h with e | e
        · exact List.mem_cons.mpr (.inl e)
        · exact List.mem_cons_of_mem _ (i2 g e)
theorem length_putF (f : Str) (v : V) : ∀ fs : List (Str × V), (putF f v fs).length ≤ fs.length + 1
  | [] => by simp [putF]
  | (k, x) :: r => by
    have ih := length_putF f v r
    rw [show putF f v ((k, x) :: r) = (if k = f then (k, v) :: r else (k, x) :: putF f v r) from rfl]
    by_cases hk : k = f
    · rw [if_pos hk, List.length_cons, List.length_cons]; omega
    · rw [if_neg hk, List.length_cons, List.length_cons]; omega

theorem RelO.some_of {v : V} {o : Option Value} (r : RelO (some v) o) : ∃ u, o = some u ∧ RelV v u := by
  cases o with
  | none => exact (show False from r).elim
  | some u => exact ⟨u, rfl, r⟩
theorem RelO.none_of {o : Option Value} (r : RelO none o) : o = none := by
  cases o with
  | none => rfl
  | some u => exact (show False from r).elim
theorem handed_of {v : V} {u : Value} (r : RelV v u) : PySem.W.handedIn u = true := by
  cases v with
  | non => cases (show u = Value.none from r); rfl
  | bl b => cases (show u = Value.bool b from r); rfl
  | int i => obtain ⟨t, e⟩ := (show ∃ t, u = Value.int i t from r); cases e; rfl
  | str x => obtain ⟨t, e⟩ := (show ∃ t, u = Value.str x t from r); cases e; rfl
  | byt b => obtain ⟨t, e⟩ := (show ∃ t, u = Value.bytes b t from r); cases e; rfl
  | flt b => obtain ⟨t, e⟩ := (show ∃ t, u = Value.float b t from r); cases e; rfl
  | ref a => cases (show u = Value.ref a from r); rfl
  | ty n => cases (show u = Value.type n from r); rfl

section
variable {P : Program} {w : World} {H H' : Hp} {h h' : Heap} {a C dx : Addr} {fs fs' : List (Str × V)}
theorem ins_get (hok : HOk P w H h) (e : H a = some (.ins C dx fs)) : ∃ mA, ObjM h a dx C mA ∧ (∀ f, RelO (fs.lookup f) (mA f)) ∧ PySem.Within mA (fs.map (·.1)) ∧ fs.length ≤ 1000 ∧ H dx = some (.own a) := by
  obtain ⟨d, z, ne, ob, mA, n, r, q⟩ := (show ObjOk P w H h a (.ins C dx fs) from hok a _ e)
  exact ⟨mA, ⟨ob, n, ne⟩, r, q, z, d⟩
end

/-! ### what of the text a class must have -/
structure Cls (K : PySem.W.Frag) (C : Addr) : Prop where
  pg : PySem.W.plainGet K C Str.empty = true
  hd : PySem.W.hasDictIn K C = true
  po : PySem.W.plainOver K C = true
  sa : PySem.W.findIn K (.ref C) "__setattr__" = some (some (.builtin "object.__setattr__"))
theorem Cls.get {K : PySem.W.Frag} {C : Addr} (c : Cls K C) (f : Str) : PySem.W.plainGet K C f = true := c.pg
/-- no class of it has the name -/
def NoAttr (K : PySem.W.Frag) (C : Addr) (f : Str) : Prop := PySem.W.findIn K (.ref C) f = some none
theorem NoAttr.taker {K : PySem.W.Frag} {C : Addr} {f : Str} (n : NoAttr K C f) : PySem.W.takerIn K C f = some none := by
  unfold PySem.W.takerIn
  rw [show PySem.W.findIn K (.ref C) f = some none from n]
  rfl
/-- a method: a plain def of the class or of one above it -/
structure Meth (K : PySem.W.Frag) (C : Addr) (m : Str) (f : Addr) : Prop where
  at_ : PySem.W.findIn K (.ref C) m = some (some (.ref f))
  fn : PySem.W.isFn K (.ref f) = true
  kp : PySem.W.keepIn K (.ref f) = true

section
variable {X : Cx} {pins : List (Addr × Obj)} {σ : St} {H : Hp} {s : Shared} {a C dx : Addr} {fs : List (Str × V)} {f : Str} {v : V} {A : Around} {E : Value → Shared → Prop}

theorem getattr_ok {b : Bool} {Q : Value → Shared → Prop} (I : Inv X pins σ H s) (e : H a = some (.ins C dx fs)) (c : Cls X.K C) (n : NoAttr X.K C f) (l : fs.lookup f = some v)
    (h : ∀ u s', Inv X pins σ H s' → RelV v u → Q u s') : wpAny (model X.prog X.w) A (getAttr (.ref a) f b) Q E s := by
  obtain ⟨mA, O, r, _, _, _⟩ := ins_get I.hok e
  obtain ⟨u, hu, ru⟩ := RelO.some_of (v := v) (o := mA f) (by rw [← l]; exact r f)
  exact get_map I.kIn O (c.get f) c.hd n hu (handed_of ru) (h u _ (I.tok _) ru)

theorem getmeth_ok {m : Str} {g : Addr} {pl : Sem Bool} {Q : Value × List Value → Shared → Prop} (I : Inv X pins σ H s) (e : H a = some (.ins C dx fs)) (c : Cls X.K C) (k : Meth X.K C m g) (l : fs.lookup m = none)
    (h : Q (.ref g, [.ref a]) s) : wpAny (model X.prog X.w) A (getMethod (.ref a) m pl) Q E s := by
  obtain ⟨mA, O, r, _, _, _⟩ := ins_get I.hok e
  have hn : mA m = none := RelO.none_of (by rw [← l]; exact r m)
  exact get_meth I.kIn O (c.get m) k.at_ k.fn hn h

theorem setattr_ok {y : V} {u : Value} {Q : Unit → Shared → Prop} (I : Inv X pins σ H s) (e : H a = some (.ins C dx fs)) (c : Cls X.K C) (n : NoAttr X.K C f) (hl : fs.length < 1000) (ry : RelV y u)
    (h : ∀ s', Inv X pins σ (upd H a (.ins C dx (putF f y fs))) s' → Q () s') : wpAny (model X.prog X.w) A (setAttr (.ref a) f u) Q E s := by
  obtain ⟨mA, O, r, wi, _, ho⟩ := ins_get I.hok e
  have hz : (fs.map (·.1)).length ≤ sizeLine := by rw [List.length_map, sizeLine_eq]; omega
  refine set_map I.kIn O c.sa c.po n.taker c.hd wi hz fun h' O' sb => h _ ?_
  have hd : ∃ o, h'.get? dx = some o := let ⟨o, _, _, e', _⟩ := O'.ns; ⟨o, e'⟩
  refine I.write (x := a) (e := dx) (by rw [e]; exact True.intro) (.inr ho) (fun b q hb z => (sb.2 b hb).trans z) hd ?_
  refine ⟨by rw [upd_ne O.ne]; exact ho, ?_, O.ne, O'.obj, _, O'.ns, fun g => ?_, fun g hg => ?_⟩
  · have := length_putF f y fs; omega
  · show RelO ((putF f y fs).lookup g) (if g = f then some u else mA g)
    rw [lookup_putF]
    by_cases q : g = f
    · rw [if_pos q, if_pos q]; exact ry
    · rw [if_neg q, if_neg q]; exact r g
  · by_cases q : g = f
    · rw [q]; exact (keys_putF f y fs).1
    · refine (keys_putF f y fs).2 g (wi g fun z => hg ?_)
      show (if g = f then some u else mA g) = none
      rw [if_neg q]; exact z

/-- a new instance, tracked, without attributes -/
theorem Inv.made (I : Inv X pins σ H s) : Inv X pins σ (upd (upd H s.heap.objs.size (.own (s.heap.objs.size + 1))) (s.heap.objs.size + 1) (.ins C s.heap.objs.size []))
    { s with heap := (s.heap.push PySem.W.emptyDict).push (PySem.W.instObj C s.heap.objs.size) } := by
  have e1 : (s.heap.push PySem.W.emptyDict).get? s.heap.objs.size = some PySem.W.emptyDict := Heap.get?_push_size s.heap rfl
  have e2 : ((s.heap.push PySem.W.emptyDict).push (PySem.W.instObj C s.heap.objs.size)).get? (s.heap.objs.size + 1) = some (PySem.W.instObj C s.heap.objs.size) := by
    have := Heap.get?_push_size (s.heap.push PySem.W.emptyDict) (o := PySem.W.instObj C s.heap.objs.size) rfl
    rwa [Heap.size_push] at this
  have e3 : (s.heap.push PySem.W.emptyDict).Ns s.heap.objs.size (fun _ => none) := ⟨PySem.W.emptyDict, #[], _, e1, rfl, (fun e he => absurd he (by simp)), fun _ => rfl⟩
  have I1 := I.laid (a := s.heap.objs.size) (o := .own (s.heap.objs.size + 1)) (h' := s.heap.push PySem.W.emptyDict) (t' := s.toks) (fun b u q => Heap.get?_push_of_some _ q) (Nat.le_refl _) ⟨_, e1⟩
  refine I1.laid (a := s.heap.objs.size + 1) (o := .ins C s.heap.objs.size []) (t' := s.toks) (fun b u q => Heap.get?_push_of_some _ q) (Nat.le_of_eq (Heap.size_push _ _)) ?_
  have ne : s.heap.objs.size ≠ s.heap.objs.size + 1 := Nat.ne_of_lt (Nat.lt_succ_self _)
  refine ⟨by rw [upd_ne ne, upd_same], Nat.zero_le _, ne, e2, fun _ => none, (Heap.Ns1.of_empty e3).at fun o q => Heap.get?_push_of_some _ q, fun _ => True.intro, fun y hy => absurd rfl hy⟩

/-- e.f where nothing but the object is asked: through attributeBase (super) and the last hold -/
theorem attr_of {prog : Program} {w : World} {env : Env} {e : Expr} {f : Str} {pos : Pos} {s : Shared} {Q : Value → Shared → Prop} (hb : attributeBase e f env (eval e env) = eval e env)
    (h : wpAny (model prog w) A (eval e env) (fun o s₁ => wpAny (model prog w) A (getAttr o f true) Q E s₁) E s) : wpAny (model prog w) A (eval (.Attribute e f pos) env) Q E s :=
  Attribute_any_ h (by rw [arm_eval_Attribute, hb])
end

/-! ### readings and rules -/
/-- e.f, an attribute of the instance -/
def tFld (K : PySem.W.Frag) (ta : TE) (f : Str) : TE := fun σ H Q => ta σ H fun x H1 => ∃ a C dx fs v, x = .ref a ∧ H1 a = some (.ins C dx fs) ∧ Cls K C ∧ NoAttr K C f ∧ fs.lookup f = some v ∧ Q v H1
/-- e.f = value -/
def sFld (K : PySem.W.Frag) (ta tv : TE) (f : Str) : TS := fun D σ H => tv σ H fun y H1 => ta σ H1 fun x H2 => ∃ a C dx fs, x = .ref a ∧ H2 a = some (.ins C dx fs) ∧ Cls K C ∧ NoAttr K C f ∧ fs.length < 1000 ∧
  D.nx σ (upd H2 a (.ins C dx (putF f y fs)))
section
variable {X : Cx} {o e value : Expr} {f : Str} {pos pos' tpos : Pos} {ta tv : TE}
theorem pe_fld (he : PE X e ta) (hb : attributeBase e f X.env (eval e X.env) = eval e X.env) : PE X (.Attribute e f pos) (tFld X.K ta f) := by
  intro pins s σ H Q I h
  refine attr_of hb (thn (he pins s σ H _ I h) fun u s1 ⟨x, H1, I1, rx, a, C, dx, fs, v, ex, ea, c, n, l, q⟩ => ?_)
  subst ex
  obtain rfl : u = Value.ref a := rx
  exact getattr_ok I1 ea c n l fun u' s2 I2 ru => ⟨v, H1, I2, ru, q⟩
theorem ps_fld (ha : PE X o ta) (hv : PE X value tv) (hs : swapsWith value (some (.Attribute o f pos')) pos.line X.env = pure false) : PS X (.Assign [.Attribute o f pos'] value pos) (sFld X.K ta tv f) := by
  intro pins s σ H D I h
  refine plainObj_wpAny_Assign_Attribute (thn (hv pins s σ H _ I h) fun u s1 ⟨y, H1, I1, ry, q⟩ => thn (ha pins s1 σ H1 _ I1 q) fun ov s2 ⟨x, H2, I2, rx, a, C, dx, fs, ex, ea, c, n, l, q2⟩ => ?_) hs
  subst ex
  obtain rfl : ov = Value.ref a := rx
  exact setattr_ok I2 ea c n l ry fun s3 I3 => ⟨σ, _, I3, q2⟩
/-- what is between an instance and its method: the tree of a method call -/
theorem methcall_of {pl : Sem Bool} {m : Str} {apos : Pos} {args : List Expr} {pins : List (Addr × Obj)} {s : Shared} {σ : St} {H : Hp} {Q : Value → Shared → Prop} {te : TE} (he : PE X e te) (I : Inv X pins σ H s)
    (h : te σ H fun x H1 => ∃ a C dx fs g, x = .ref a ∧ H1 a = some (.ins C dx fs) ∧ Cls X.K C ∧ Meth X.K C m g ∧ fs.lookup m = none ∧
      ∀ s1, Inv X pins σ H1 s1 → wpAny (model X.prog X.w) X.A (callWith pos (.ref g) [.ref a] (backTo pos (starEach args X.env)) (backToKw pos (keywordEach [] X.env))) Q X.xe s1)
    (ht : eval (.Call (.Attribute e m apos) args [] pos) X.env = (do
      let ov ← eval e X.env
      standAt apos.atName
      let (f, first) ← holding [ov] (getMethod ov m pl)
      callWith pos f first (backTo pos (starEach args X.env)) (backToKw pos (keywordEach [] X.env)))) :
    wpAny (model X.prog X.w) X.A (eval (.Call (.Attribute e m apos) args [] pos) X.env) Q X.xe s := by
  refine PySem.W.methodCall_KW (pl := pl) (thn (he pins s σ H _ I h) fun u s1 ⟨x, H1, I1, rx, a, C, dx, fs, g, ex, ea, c, k, l, q⟩ => ?_) ht
  subst ex
  obtain rfl : u = Value.ref a := rx
  exact getmeth_ok I1 ea c k l (q s1 I1)
end

/-! ### isinstance -/
section
variable {X : Cx} {pins : List (Addr × Obj)} {σ : St} {H : Hp} {s : Shared} {A : Around} {E : Value → Shared → Prop} {Q : Value → Shared → Prop} {c : Value} {b : Bool}
/-- the type of a value, as the fragment's deciders take it; for an instance its class -/
inductive TyOf (K : PySem.W.Frag) (H : Hp) : V → Value → Prop where
  | non : TyOf K H .non (.type "NoneType")
  | bl (x : Bool) : TyOf K H (.bl x) (.type "bool")
  | int (i : Int) : TyOf K H (.int i) (.type "int")
  | str (x : Str) : TyOf K H (.str x) (.type "str")
  | flt (x : UInt64) : TyOf K H (.flt x) (.type "float")
  | lst {a : Addr} {xs : List V} (e : H a = some (.lst xs)) : TyOf K H (.ref a) (.type "list")
  | frz {a : Addr} {o : Obj} {xs : List V} (e : H a = some (.frz o (.lst xs))) : TyOf K H (.ref a) (.type "list")
  | tup {a : Addr} {xs : List V} (e : H a = some (.tup xs)) : TyOf K H (.ref a) (.type "tuple")
  | dK {a : Addr} {kvs : List (Key × V)} (e : H a = some (.dK kvs)) : TyOf K H (.ref a) (.type "dict")
  | dT {a : Addr} {kvs : List (List Key × V)} (e : H a = some (.dT kvs)) : TyOf K H (.ref a) (.type "dict")
  | ins {a C dx : Addr} {fs : List (Str × V)} (e : H a = some (.ins C dx fs)) (cl : Cls K C) (ha : PySem.W.findIn K (.ref C) "__class__" = some (some (.builtin "object.__class__")))
      (hn : PySem.W.specialIn K (.builtin "object.__class__") "__get__" = some (some (.builtin "getset_descriptor.__get__"))) (htk : PySem.W.takesIn K (.builtin "object.__class__") = some true)
      (hm : PySem.W.mroIn K C (.type "object") = some true) : TyOf K H (.ref a) (.ref C)
/-- isinstance(x, c) for one class c, a built-in or an own one: kitOne's answer -/
theorem isinst_ok {x : V} {u t : Value} (I : Inv X pins σ H s) (rx : RelV x u) (ty : TyOf X.K H x t) (e : PySem.W.kitOne X.K t c = some b) (h : ∀ tk, Q (.bool b) { s with toks := tk }) :
    wpAny (model X.prog X.w) A (call (.builtin "isinstance") [u, c]) Q E s := by
  cases ty with
  | non => cases (show u = Value.none from rx); exact PySem.W.kia_one PySem.W.kitx_none I.kIn True.intro e (fun z => nomatch z) h
  | bl y => cases (show u = Value.bool y from rx); exact PySem.W.kia_one PySem.W.kitx_bool I.kIn True.intro e (fun z => nomatch z) h
  | int i => obtain ⟨t, q⟩ := (show ∃ t, u = Value.int i t from rx); cases q; exact PySem.W.kia_one PySem.W.kitx_int I.kIn True.intro e (fun z => nomatch z) h
  | str y => obtain ⟨t, q⟩ := (show ∃ t, u = Value.str y t from rx); cases q; exact PySem.W.kia_one PySem.W.kitx_str I.kIn True.intro e (fun z => nomatch z) h
  | flt y => obtain ⟨t, q⟩ := (show ∃ t, u = Value.float y t from rx); cases q; exact PySem.W.kia_one PySem.W.kitx_float I.kIn True.intro e (fun z => nomatch z) h
  | @lst a xs ea =>
    cases (show u = Value.ref a from rx)
    obtain ⟨_, _, n, _, h1⟩ := (show ObjOk X.prog X.w H s.heap a (.lst xs) from I.hok a _ ea)
    exact PySem.W.kia_one PySem.W.kitx_list I.kIn ⟨_, h1, rfl⟩ e (fun z => nomatch z) h
  | @frz a ob xs ea =>
    cases (show u = Value.ref a from rx)
    obtain ⟨_, _, _, n, _, h1⟩ := (show ObjOk X.prog X.w H s.heap a (.frz ob (.lst xs)) from I.hok a _ ea)
    exact PySem.W.kia_one PySem.W.kitx_list I.kIn ⟨_, h1, rfl⟩ e (fun z => nomatch z) h
  | @tup a xs ea =>
    cases (show u = Value.ref a from rx)
    obtain ⟨_, _, _, p⟩ := (show ObjOk X.prog X.w H s.heap a (.tup xs) from I.hok a _ ea)
    obtain ⟨o, h1, h2, _⟩ := p
    exact PySem.W.kia_one PySem.W.kitx_tuple I.kIn ⟨o, h1, h2⟩ e (fun z => nomatch z) h
  | @dK a kvs ea =>
    cases (show u = Value.ref a from rx)
    obtain ⟨_, _, vs, _, p⟩ := (show ObjOk X.prog X.w H s.heap a (.dK kvs) from I.hok a _ ea)
    obtain ⟨o, es, ep, h1, h2, _⟩ := p
    exact PySem.W.kia_one PySem.W.kitx_dict I.kIn ⟨o, h1, h2.1⟩ e (fun z => nomatch z) h
  | @dT a kvs ea =>
    cases (show u = Value.ref a from rx)
    obtain ⟨_, _, xs, _, o, es, ep, h1, h2, _⟩ := (show ObjOk X.prog X.w H s.heap a (.dT kvs) from I.hok a _ ea)
    exact PySem.W.kia_one PySem.W.kitx_dict I.kIn ⟨o, h1, h2.1⟩ e (fun z => nomatch z) h
  | @ins a C dx fs ea cl ha hn htk hm =>
    cases (show u = Value.ref a from rx)
    obtain ⟨mA, O, _⟩ := ins_get I.hok ea
    obtain ⟨od, J, _⟩ := O.look
    exact PySem.W.kia_one (PySem.W.kitx_own (cl.get _) cl.hd ha hn htk hm) I.kIn J e (fun z => nomatch z) h
end
end L2

namespace L2
open PySem PySem.Spec PyProof.Rows

/-! ### room -/
structure Room (k : Nat) (A : Around) : Prop where
  hd : A.handled = none
  dp : A.depth + 3 * k + 5 < recursionLimit
  un : A.units + 16 * k + 200 < cLine
theorem Room.mono {j k : Nat} {A : Around} (r : Room k A) (h : j ≤ k) : Room j A := ⟨r.hd, by have := r.dp; omega, by have := r.un; omega⟩
theorem Room.deeper {k : Nat} {A : Around} (r : Room (k + 1) A) (env : Env) : Room k (A.deeper env) :=
  ⟨r.hd, by have := r.dp; show A.depth + 1 + 3 * k + 5 < _; omega, by have := r.un; show A.units + 3 + 16 * k + 200 < _; omega⟩
theorem Room.in1 {k : Nat} {A : Around} (r : Room (k + 1) A) : Room k A.in1 :=
  ⟨r.hd, by have := r.dp; show A.depth + 3 * k + 5 < _; omega, by have := r.un; show A.units + 1 + 16 * k + 200 < _; omega⟩
theorem make_depth {A : Around} {C : Addr} {us : List Value} {kw : List (Str × Value)} : (A.under (.builtin "type.__call__" ⟨.ref C :: us, kw⟩)).depth = A.depth + 1 := by
  first | rfl | simp [Around.under, Code.weight, Code.isCreation, Code.isGuard, Code.isCaller, Code.frames, Code.isFrame, guardIds]
theorem make_units {A : Around} {C : Addr} {us : List Value} {kw : List (Str × Value)} : (A.under (.builtin "type.__call__" ⟨.ref C :: us, kw⟩)).units = A.units + 1 := by
  first | rfl | simp [Around.under, Code.cUnits, Code.frames, Code.isFrame]
theorem Room.make {k : Nat} {A : Around} (r : Room (k + 1) A) (C : Addr) (us : List Value) (kw : List (Str × Value)) : Room k (A.under (.builtin "type.__call__" ⟨.ref C :: us, kw⟩)) :=
  ⟨r.hd, by have := r.dp; rw [make_depth]; omega, by have := r.un; rw [make_units]; omega⟩
theorem Room.depth {k : Nat} {A : Around} (r : Room k A) : A.depth < recursionLimit := by have := r.dp; omega
theorem Room.units {k : Nat} {A : Around} (r : Room k A) : A.units + 64 < cLine := by have := r.un; omega
/-! ### argument lists and displays -/
def tNil : TA := fun _ H Q => Q [] H
def tCons (ta : TE) (tr : TA) : TA := fun σ H Q => ta σ H fun x H1 => tr σ H1 fun xs H2 => Q (x :: xs) H2
section
variable {X : Cx} {e : Expr} {es : List Expr} {te : TE} {t : TA} {pos : Pos}
theorem pa_nil : PA X [] tNil := fun _ _ _ _ H Q I h => Calls.spliced_nil ⟨[], H, I, .nil, h⟩
theorem pa_cons (ha : PE X e te) (hr : PA X es t) (hs : starEach (e :: es) X.env = (false, eval e X.env) :: starEach es X.env := by rfl) : PA X (e :: es) (tCons te t) := by
  intro pos pins s σ H Q I h
  rw [hs]
  show wpAny _ _ (spliced ((false, eval e X.env) :: backTo pos (starEach es X.env))) _ _ s
  refine Calls.spliced_cons (thn (ha pins s σ H _ I h) fun u s1 ⟨x, H1, I1, r1, q1⟩ => ?_)
  exact thn (hr pos pins s1 σ H1 _ I1 q1) fun us s2 ⟨xs, H2, I2, r2, q2⟩ => ⟨x :: xs, H2, I2, .cons r1 r2, q2⟩

/-- a tuple, a list of written items -/
def tTup (t : TA) : TE := fun σ H Q => t σ H fun xs H1 => xs.length ≤ sizeLine ∧ ∀ p, H1 p = none → Q (.ref p) (upd H1 p (.tup xs))
def tLst (t : TA) : TE := fun σ H Q => t σ H fun xs H1 => xs.length ≤ sizeLine ∧ ∀ p, H1 p = none → Q (.ref p) (upd H1 p (.lst xs))
theorem pe_tup {x1} (h : PA X es t) : PE X (.Tuple es x1 pos) (tTup t) := by
  intro pins s σ H Q I hq
  refine wpAny_Tuple_spliced (thn (h pos pins s σ H _ I hq) fun us s1 ⟨xs, H1, I1, r, z, q⟩ => ⟨by rw [← r.length]; exact z, ?_⟩)
  have hf : H1 s1.heap.objs.size = none := I1.hok.fresh (Nat.le_refl _)
  refine ⟨.ref s1.heap.objs.size, upd H1 s1.heap.objs.size (.tup xs), I1.laid (t' := s1.toks) (fun b u e => Heap.get?_push_of_some _ e) (Nat.le_refl _) ?_, rfl, q _ hf⟩
  exact ⟨z, us, r, ⟨_, Heap.get?_push_size _ rfl, rfl, _, rfl⟩⟩
theorem pe_lst (h : PA X es t) : PE X (.List es pos) (tLst t) := by
  intro pins s σ H Q I hq
  refine wpAny_List_spliced (thn (h pos pins s σ H _ I hq) fun us s1 ⟨xs, H1, I1, r, z, q⟩ => ⟨by rw [← r.length]; exact z, ?_⟩)
  have hf : H1 s1.heap.objs.size = none := I1.hok.fresh (Nat.le_refl _)
  refine ⟨.ref s1.heap.objs.size, upd H1 s1.heap.objs.size (.lst xs), I1.laid (t' := s1.toks) (fun b u e => Heap.get?_push_of_some _ e) (Nat.le_refl _) ?_, rfl, q _ hf⟩
  exact ⟨z, us, 0, r, Heap.get?_push_size _ rfl⟩
end

/-! ### what a def promises -/
/-- a def's promise: the bound arguments in the parameters' order, the heap, the wanted end, the wanted exception -/
abbrev Sp := List V → Hp → VK → XK → Prop
/-- how an exception lies behind a call (file 08 gives it): the callers' frames, abstract heap and state ahead of the call, the wish, the exception, the state -/
abbrev CXT := List Env → Hp → Shared → XK → Value → Shared → Prop

/-- the state at a call -/
structure Env0 (P : Program) (w : World) (K : PySem.W.Frag) (mg : Str → Option Value) (base : Heap) (A : Around) (outer : List Env) (s : Shared) (H : Hp) : Prop where
  frames : A.frames = some outer
  mod : Mod K mg base
  bs : ∀ b o, base.get? b = some o → s.heap.get? b = some o ∧ H b = none
  bsz : base.objs.size ≤ s.heap.objs.size
  funs : s.heap.FunFrames base outer
  frf : ∀ b ∈ frs outer, H b = none
  hok : HOk P w H s.heap
  bare : AllBare s.gens
/-- a call's end -/
def CE (outer : List Env) (P : Program) (w : World) (H : Hp) (s : Shared) (Q : VK) (u : Value) (s' : Shared) : Prop :=
  ∃ v H', s'.os = s.os ∧ AllBare s'.gens ∧ Un (frs outer) [] H H' s.heap s'.heap ∧ HOk P w H' s'.heap ∧ RelV v u ∧ Q v H'
def CR (CX : CXT) (outer : List Env) (P : Program) (w : World) (H : Hp) (s : Shared) (Q : VK) (E : XK) (r : Result) (s' : Shared) : Prop :=
  match r with
  | .ok (.ret u) => CE outer P w H s Q u s'
  | .ok _ => False
  | .error e => CX outer H s E e s'
structure FnOk (P : Program) (w : World) (K : PySem.W.Frag) (mg : Str → Option Value) (base : Heap) (CX : CXT) (k : Nat) (f : Addr) (fd : FuncData) (ps : List Str) (sp : Sp) : Prop where
  len : ∀ vs H Q E, sp vs H Q E → vs.length = ps.length
  run : ∀ (A : Around) (outer : List Env) (s : Shared) (H : Hp) (args : Args) (us : List Value) (vs : List V) (Q : VK) (E : XK), Room k A → Env0 P w K mg base A outer s H → BindsTo s fd args (ps.zip us) → Vals vs us → sp vs H Q E →
    codeAny (model P w) A (.call (.ref f) args) (CR CX outer P w H s Q E) s
theorem Env0.make {P : Program} {w : World} {K : PySem.W.Frag} {mg : Str → Option Value} {base : Heap} {A : Around} {outer : List Env} {s : Shared} {H : Hp} (e : Env0 P w K mg base A outer s H) (C : Addr) (us : List Value) (kw : List (Str × Value)) :
    Env0 P w K mg base (A.under (.builtin "type.__call__" ⟨.ref C :: us, kw⟩)) outer s H := ⟨by first | exact e.frames | (simpa [Around.under, Code.envs, Code.isFrame, pushEnvs] using e.frames), e.mod, e.bs, e.bsz, e.funs, e.frf, e.hok, e.bare⟩
theorem Env0.in1 {P : Program} {w : World} {K : PySem.W.Frag} {mg : Str → Option Value} {base : Heap} {A : Around} {outer : List Env} {s : Shared} {H : Hp} (e : Env0 P w K mg base A outer s H) :
    Env0 P w K mg base A.in1 outer s H := ⟨e.frames, e.mod, e.bs, e.bsz, e.funs, e.frf, e.hok, e.bare⟩

section
variable {X : Cx} {pins : List (Addr × Obj)} {σ : St} {H : Hp} {s s' : Shared}
/-- from a body: what a callee wants -/
theorem Inv.env0 (I : Inv X pins σ H s) : Env0 X.prog X.w X.K X.mg X.base X.A X.stack s H :=
  ⟨I.ok.frames, I.ok.mod, I.bs, Nat.le_trans I.ok.bsz I.sz, I.stack, I.stkFree, I.hok, I.bare⟩
/-- behind a call -/
theorem Inv.after {Q : VK} {u : Value} (I : Inv X pins σ H s) (h : CE X.stack X.prog X.w H s Q u s') : EP X pins σ Q u s' := by
  obtain ⟨v, H', os, bare, un, hok, r, q⟩ := h
  obtain ⟨hh, g, d, t, os'⟩ := s'
  obtain rfl : os' = s.os := os
  exact ⟨v, H', I.call (h' := hh) (g' := g) (d' := d) (t' := t) (ch := []) un hok bare (fun b z => absurd z (by simp)), r, q⟩
end

/-! ### calls -/
/-- f(..): the written arguments, then the defaults dvs; E: what is wanted of an exception -/
def tCall (sp : Sp) (dvs : List V) (E : XK) (t : TA) : TE := fun σ H Q => t σ H fun vs H1 => sp (vs ++ dvs) H1 Q E
/-- o.m(..) of an instance of the class at C -/
def tMeth (C : Addr) (m : Str) (sp : Sp) (dvs : List V) (E : XK) (ta : TE) (t : TA) : TE := fun σ H Q => ta σ H fun x H1 => ∃ a dx fs, x = .ref a ∧ H1 a = some (.ins C dx fs) ∧ fs.lookup m = none ∧
  t σ H1 fun vs H2 => sp (x :: (vs ++ dvs)) H2 Q E
/-- C(..): a new instance and its dict, then __init__ -/
def tMake (C : Addr) (sp : Sp) (dvs : List V) (E : XK) (t : TA) : TE := fun σ H Q => t σ H fun vs H1 => ∀ x dx, H1 x = none → H1 dx = none → dx ≠ x →
  sp (.ref x :: (vs ++ dvs)) (upd (upd H1 dx (.own x)) x (.ins C dx [])) (fun v H2 => v = .non ∧ Q (.ref x) H2) E

/-- how the parameters are bound: us the positional arguments, kw the keywords' values by name, ds the defaults that fill up -/
def Binds (K : PySem.W.Frag) (fd : FuncData) (ps : List Str) (ds : List Value) : Prop :=
  ∀ (s : Shared) (us : List Value), K.In s.heap → (us ++ ds).length = ps.length → BindsTo s fd ⟨us, []⟩ (ps.zip (us ++ ds))
/-- every parameter is given -/
theorem Binds.all {K : PySem.W.Frag} {fd : FuncData} {ps : List Str} (h : ∀ us : List Value, us.length = ps.length → bindArgs fd ⟨us, []⟩ = pure (ps.zip us)) : Binds K fd ps [] := fun s us _ hl => by
  rw [List.append_nil] at hl ⊢
  exact .of_eq (h us hl)

/-- an exception of a callee reaches what this body wants of exceptions -/
def Passes (CX : CXT) (X : Cx) (E : XK) : Prop := ∀ (pins : List (Addr × Obj)) (σ : St) (H : Hp) (s : Shared) (e : Value) (s' : Shared), Inv X pins σ H s → CX X.stack H s E e s' → X.xe e s'

section
variable {X : Cx} {CX : CXT} {k : Nat} {f C : Addr} {fd : FuncData} {ps : List Str} {sp : Sp} {dvs : List V} {ds : List Value} {E : XK} {x m : Str} {p pos apos : Pos} {e o : Expr} {es : List Expr} {ta : TE} {t : TA}

/-- the callee runs -/
theorem run_fn {pins : List (Addr × Obj)} {σ : St} {H : Hp} {s : Shared} {Q : VK} {us : List Value} {vs : List V} (F : FnOk X.prog X.w X.K X.mg X.base CX k f fd ps sp) (hr : Room k X.A) (hb : Binds X.K fd ps ds) (hd : Vals dvs ds) (hx : Passes CX X E)
    (I : Inv X pins σ H s) (r : Vals vs us) (h : sp (vs ++ dvs) H Q E) : wpAny (model X.prog X.w) X.A (call (.ref f) us) (EP X pins σ Q) X.xe s := by
  have r2 : Vals (vs ++ dvs) (us ++ ds) := r.append hd
  have hl : (us ++ ds).length = ps.length := by rw [← r2.length]; exact F.len _ _ _ _ h
  refine wpAny_call (codeAny_mono (F.run X.A X.stack s H ⟨us, []⟩ (us ++ ds) (vs ++ dvs) Q E hr I.env0 (hb s us I.kIn hl) r2 h) fun r s' hq => ?_)
  cases r with
  | error e => exact hx pins σ H s e s' I hq
  | ok fl =>
    cases fl with
    | ret u => exact I.after hq
    | next => exact False.elim hq
    | brk => exact False.elim hq
    | cont => exact False.elim hq

theorem pe_call (F : FnOk X.prog X.w X.K X.mg X.base CX k f fd ps sp) (hr : Room k X.A) (hg : Gl X x) (hm : X.mg x = some (.ref f)) (hk : PySem.W.keepIn X.K (.ref f) = true) (hb : Binds X.K fd ps ds) (hd : Vals dvs ds) (hx : Passes CX X E)
    (ha : PA X (e :: es) t) (hdb : (x == ("__debug__" : Str)) = false := by decide) (he : starEach (e :: es) X.env = (false, eval e X.env) :: starEach es X.env := by rfl) (hpl : (backTo pos (starEach es X.env)).any (·.1) = false := by rfl) :
    PE X (.Call (.Name x p) (e :: es) [] pos) (tCall sp dvs E t) := by
  intro pins s σ H Q I h
  refine wpAny_Call_Name_kw (ld_glob I hg hm ?_ hdb)
  refine PySem.W.callWith_K (h₀ := X.base) I.ok.mod.kin hk (thn (ha pos pins s σ H _ I h) fun us s1 ⟨vs, H1, I1, r, q⟩ => ⟨I1.kIn, ?_⟩) he hpl
  exact run_fn F hr hb hd hx I1 r q
/-- o.m(e, ..) -/
theorem pe_meth {pl : Sem Bool} (he : PE X o ta) (c : Cls X.K C) (hm : Meth X.K C m f) (F : FnOk X.prog X.w X.K X.mg X.base CX k f fd ps sp) (hr : Room k X.A) (hb : Binds X.K fd ps ds) (hd : Vals dvs ds) (hx : Passes CX X E) (ha : PA X (e :: es) t)
    (hst : starEach (e :: es) X.env = (false, eval e X.env) :: starEach es X.env := by rfl) (hpl : (backTo pos (starEach es X.env)).any (·.1) = false := by rfl)
    (ht : eval (.Call (.Attribute o m apos) (e :: es) [] pos) X.env = (do
      let ov ← eval o X.env
      standAt apos.atName
      let (f, first) ← holding [ov] (getMethod ov m pl)
      callWith pos f first (backTo pos (starEach (e :: es) X.env)) (backToKw pos (keywordEach [] X.env))) := by rfl) :
    PE X (.Call (.Attribute o m apos) (e :: es) [] pos) (tMeth C m sp dvs E ta t) := by
  intro pins s σ H Q I h
  refine PySem.W.methodCall_KW (pl := pl) (thn (he pins s σ H _ I h) fun u s1 ⟨x, H1, I1, rx, a, dx, fs, ex, ea, l, q⟩ => ?_) ht
  subst ex
  obtain rfl : u = Value.ref a := rx
  refine getmeth_ok I1 ea c hm l ?_
  refine PySem.W.callWith_K (first := [.ref a]) (h₀ := X.base) I.ok.mod.kin hm.kp (thn (ha pos pins s1 σ H1 _ I1 q) fun us s2 ⟨vs, H2, I2, r, q2⟩ => ⟨I2.kIn, ?_⟩) hst hpl
  exact run_fn (us := .ref a :: us) (vs := .ref a :: vs) F hr hb hd hx I2 (.cons rfl r) q2
/-- o.m() -/
theorem pe_meth0 {pl : Sem Bool} (he : PE X o ta) (c : Cls X.K C) (hm : Meth X.K C m f) (F : FnOk X.prog X.w X.K X.mg X.base CX k f fd ps sp) (hr : Room k X.A) (hb : Binds X.K fd ps ds) (hd : Vals dvs ds) (hx : Passes CX X E)
    (ht : eval (.Call (.Attribute o m apos) [] [] pos) X.env = (do
      let ov ← eval o X.env
      standAt apos.atName
      let (f, first) ← holding [ov] (getMethod ov m pl)
      callWith pos f first (backTo pos (starEach [] X.env)) (backToKw pos (keywordEach [] X.env))) := by rfl) :
    PE X (.Call (.Attribute o m apos) [] [] pos) (tMeth C m sp dvs E ta tNil) := by
  intro pins s σ H Q I h
  refine PySem.W.methodCall_KW (pl := pl) (thn (he pins s σ H _ I h) fun u s1 ⟨x, H1, I1, rx, a, dx, fs, ex, ea, l, q⟩ => ?_) ht
  subst ex
  obtain rfl : u = Value.ref a := rx
  refine getmeth_ok I1 ea c hm l ?_
  exact PySem.W.callWith_K0 (first := [.ref a]) I1.kIn hm.kp (run_fn (us := [.ref a]) (vs := [.ref a]) F hr hb hd hx I1 (.cons rfl .nil) q)

/-- what a class must have to be made -/
structure Mk (K : PySem.W.Frag) (C f : Addr) : Prop where
  makes : PySem.W.makesIn K C = true
  init : PySem.W.findIn K (.ref C) "__init__" = some (some (.ref f))
  fn : PySem.W.isFn K (.ref f) = true
  kp : PySem.W.keepIn K (.ref C) = true

theorem run_make {pins : List (Addr × Obj)} {σ : St} {H : Hp} {s : Shared} {Q : VK} {us : List Value} {vs : List V} (M : Mk X.K C f) (F : FnOk X.prog X.w X.K X.mg X.base CX k f fd ps sp) (hr : Room (k + 1) X.A) (hb : Binds X.K fd ps ds) (hd : Vals dvs ds)
    (hx : Passes CX X E) (I : Inv X pins σ H s) (r : Vals vs us)
    (h : ∀ x dx, H x = none → H dx = none → dx ≠ x → sp (.ref x :: (vs ++ dvs)) (upd (upd H dx (.own x)) x (.ins C dx [])) (fun v H2 => v = .non ∧ Q (.ref x) H2) E) :
    wpAny (model X.prog X.w) X.A (call (.ref C) us) (EP X pins σ Q) X.xe s := by
  have hq := h (s.heap.objs.size + 1) s.heap.objs.size (I.hok.fresh (Nat.le_succ _)) (I.hok.fresh (Nat.le_refl _)) (Nat.ne_of_lt (Nat.lt_succ_self _))
  have I2 := Inv.made (C := C) I
  have r2 : Vals (V.ref (s.heap.objs.size + 1) :: (vs ++ dvs)) (Value.ref (s.heap.objs.size + 1) :: (us ++ ds)) := .cons rfl (r.append hd)
  have hl : (Value.ref (s.heap.objs.size + 1) :: us ++ ds).length = ps.length := by
    have e := r2.length
    rw [F.len _ _ _ _ hq] at e
    exact e.symm
  refine wpAny_call (make_map (f := f) I.kIn M.makes M.init (beq_iff_eq.mp M.fn) (codeAny_mono (F.run _ X.stack _ _ ⟨Value.ref (s.heap.objs.size + 1) :: us, []⟩ (Value.ref (s.heap.objs.size + 1) :: (us ++ ds)) _ _ E (hr.make C us [])
    (I2.env0.make C us []) (hb _ (Value.ref (s.heap.objs.size + 1) :: us) I2.kIn hl) r2 hq) fun r s' hq' => ?_))
  cases r with
  | error e => exact hx pins σ _ _ e s' I2 hq'
  | ok fl =>
    cases fl with
    | ret u =>
      obtain ⟨v, H', I3, rv, ev, q3⟩ := I2.after hq'
      subst ev
      exact ⟨rv, ⟨V.ref (s.heap.objs.size + 1), H', I3, rfl, q3⟩⟩
    | next => exact False.elim hq'
    | brk => exact False.elim hq'
    | cont => exact False.elim hq'
theorem pe_make (M : Mk X.K C f) (F : FnOk X.prog X.w X.K X.mg X.base CX k f fd ps sp) (hr : Room (k + 1) X.A) (hg : Gl X x) (hm : X.mg x = some (.ref C)) (hb : Binds X.K fd ps ds) (hd : Vals dvs ds) (hx : Passes CX X E)
    (ha : PA X (e :: es) t) (hdb : (x == ("__debug__" : Str)) = false := by decide) (he : starEach (e :: es) X.env = (false, eval e X.env) :: starEach es X.env := by rfl) (hpl : (backTo pos (starEach es X.env)).any (·.1) = false := by rfl) :
    PE X (.Call (.Name x p) (e :: es) [] pos) (tMake C sp dvs E t) := by
  intro pins s σ H Q I h
  refine wpAny_Call_Name_kw (ld_glob I hg hm ?_ hdb)
  refine PySem.W.callWith_K (h₀ := X.base) I.ok.mod.kin M.kp (thn (ha pos pins s σ H _ I h) fun us s1 ⟨vs, H1, I1, r, q⟩ => ⟨I1.kIn, ?_⟩) he hpl
  exact run_make M F hr hb hd hx I1 r q
end


/-! ### a def's body keeps its promise -/
/-- names: the parameters first -/
structure FnScope (N P : List Str) (sc : Scope) : Prop where
  kind : sc.kind = .function
  co : sc.isCoroutine = false
  gen : sc.isGenerator = false
  nd : N.Nodup
  pre : N.take P.length = P
  par : ∀ x ∈ P, sc.names.lookup x = some .local ∨ sc.names.lookup x = some .cell
  nofree : ∀ y ∈ sc.names, y.2 ≠ .free

theorem bindL_out {kindOf : Str → Option NameKind} {x : Str} : ∀ {binds : List (Str × Value)} {m : Str → Option Value}, (∀ v, (x, v) ∉ binds) → bindL kindOf binds m x = m x
  | [], _, _ => rfl
  | (n, v) :: r, m, h => by
    unfold bindL
    rw [bindL_out fun w hw => h w (List.mem_cons_of_mem _ hw)]
    split
    · have : x ≠ n := by rintro rfl; exact h v List.mem_cons_self
      simp [this]
    · rfl
theorem bindC_out {kindOf : Str → Option NameKind} {x : Str} : ∀ {binds : List (Str × Value)} {m : Str → Option Value}, (∀ v, (x, v) ∉ binds) → bindC kindOf binds m x = m x
  | [], _, _ => rfl
  | (n, v) :: r, m, h => by
    unfold bindC
    rw [bindC_out fun w hw => h w (List.mem_cons_of_mem _ hw)]
    split
    · rfl
    · have : x ≠ n := by rintro rfl; exact h v List.mem_cons_self
      simp [this]
theorem bindL_get {kindOf : Str → Option NameKind} {x : Str} {v : Value} : ∀ {P : List Str} {vs : List Value} {i : Nat} {m : Str → Option Value}, P.Nodup → P[i]? = some x → vs[i]? = some v → kindOf x = some .local →
    bindL kindOf (P.zip vs) m x = some v
  | [], _, _, _, _, h, _, _ => by simp at h
  | _ :: _, [], _, _, _, _, h, _ => by simp at h
  | p :: P, w :: vs, 0, m, nd, h1, h2, hk => by
    simp at h1 h2; subst h1; subst h2
    show bindL kindOf ((p, w) :: P.zip vs) m p = _
    unfold bindL
    rw [bindL_out fun v hv => (List.nodup_cons.mp nd).1 (List.of_mem_zip hv).1, if_pos hk]
    simp
  | p :: P, w :: vs, i + 1, m, nd, h1, h2, hk => by
    show bindL kindOf ((p, w) :: P.zip vs) m x = _
    unfold bindL
    exact bindL_get (i := i) (List.nodup_cons.mp nd).2 (by simpa using h1) (by simpa using h2) hk
theorem bindC_get {kindOf : Str → Option NameKind} {x : Str} {v : Value} : ∀ {P : List Str} {vs : List Value} {i : Nat} {m : Str → Option Value}, P.Nodup → P[i]? = some x → vs[i]? = some v → kindOf x ≠ some .local →
    bindC kindOf (P.zip vs) m x = some v
  | [], _, _, _, _, h, _, _ => by simp at h
  | _ :: _, [], _, _, _, _, h, _ => by simp at h
  | p :: P, w :: vs, 0, m, nd, h1, h2, hk => by
    simp at h1 h2; subst h1; subst h2
    show bindC kindOf ((p, w) :: P.zip vs) m p = _
    unfold bindC
    rw [bindC_out fun v hv => (List.nodup_cons.mp nd).1 (List.of_mem_zip hv).1, if_neg hk]
    simp
  | p :: P, w :: vs, i + 1, m, nd, h1, h2, hk => by
    show bindC kindOf ((p, w) :: P.zip vs) m x = _
    unfold bindC
    exact bindC_get (i := i) (List.nodup_cons.mp nd).2 (by simpa using h1) (by simpa using h2) hk

/-- the names' values at the entry -/
def start (N : List Str) (vs : List V) : St := vs.map some ++ List.replicate (N.length - vs.length) none

/-- the context of a def's body, at its entry; an exception leaves the frame, then lies as CX says -/
def cxOf (CX : CXT) (P : Program) (w : World) (K : PySem.W.Frag) (mg : Str → Option Value) (base : Heap) (N : List Str) (qual : Str) (scope : Scope) (f : Addr) (cd : Value) (A : Around) (outer : List Env) (s : Shared) (H : Hp) (E : XK) : Cx where
  prog := P
  w := w
  K := K
  mg := mg
  base := base
  A := A.deeper (envOfC qual scope s.heap.objs.size f cd)
  N := N
  s₀ := s
  H₀ := H
  env := envOfC qual scope s.heap.objs.size f cd
  outer := outer
  stack := envOfC qual scope s.heap.objs.size f cd :: outer
  ex := []
  calm := true
  fn := fun _ => true
  pn := []
  xe := fun e s' => wpAny (model P w) (A.deeper (envOfC qual scope s.heap.objs.size f cd)) (leaving (envOfC qual scope s.heap.objs.size f cd) e) (fun _ s'' => CX outer H s E e s'') (fun e' s'' => CX outer H s E e' s'') s'

theorem cell_has {sc : Scope} {n : Nat} {x : Str} (h : sc.names.lookup x = some .cell) : ∃ c, (cellsFrom n sc.names []).lookup x = some c := by
  have q := PySem.W.cellsFrom_some sc.names n [] (.inl h)
  exact Option.isSome_iff_exists.mp q

theorem inv_start {CX : CXT} {P : Program} {w : World} {K : PySem.W.Frag} {mg : Str → Option Value} {base : Heap} {N ps : List Str} {qual : Str} {scope : Scope} {f : Addr} {cd : Value} {A : Around} {outer : List Env} {s s1 : Shared} {H : Hp} {E : XK} {us : List Value} {vs : List V}
    (S : FnScope N ps scope) (hd : A.handled = none) (e0 : Env0 P w K mg base A outer s H) (hl : vs.length = ps.length) (r : Vals vs us)
    (x : InCallC s s.heap.objs.size (bindL (envOfC qual scope s.heap.objs.size f cd).kindOf (ps.zip us) fun _ => none) (cellsFrom (s.heap.objs.size + 1) scope.names []) (bindC (envOfC qual scope s.heap.objs.size f cd).kindOf (ps.zip us) fun _ => none) s1) :
    Inv (cxOf CX P w K mg base N qual scope f cd A outer s H E) [] (start N vs) H s1 := by
  have hpl : ps.length ≤ N.length := by have := congrArg List.length S.pre; rw [List.length_take] at this; omega
  obtain ⟨h1, tk, rfl, hk⟩ := x.done
  have noA : ∀ b : Addr, b ∉ (cxOf CX P w K mg base N qual scope f cd A outer s H E).ex := fun b z => absurd (show b ∈ ([] : List Addr) from z) (by simp)
  refine ⟨⟨e0.mod, S.kind, rfl, rfl, Nat.le_refl _, fun y z c h1 h2 => ?_, fun y hy => ?_, fun y c _ h => ?_, fun _ => hd, Around.frames_deeper e0.frames, .inr ⟨rfl, rfl⟩, fun b z => absurd z (noA b), e0.bs, e0.bsz, fun b _ _ => noA b, fun b z => absurd z (noA b), e0.funs, e0.frf⟩,
    rfl, e0.bare, Un.kept hk, ⟨_, x.toInCall.ns, fun i y v h1 h2 h3 => ?_⟩, fun y c h => ⟨_, x.cell y c h⟩, e0.hok.fresh (Nat.le_refl _), fun y c h => ?_, fun p hp => absurd (show p ∈ ([] : List (Addr × Obj)) from hp) (by simp), e0.hok.kept hk, ?_⟩
  · exact name_of_addr x.apart (PySem.mem_of_lookup h1) (PySem.mem_of_lookup h2)
  · have hy : scope.names.lookup y = some .cell ∨ scope.names.lookup y = some .free := hy
    rcases hy with hy | hy
    · exact cell_has hy
    · exact absurd rfl (S.nofree _ (PySem.mem_of_lookup hy))
  · exact Nat.le_of_lt (x.above y c (PySem.mem_of_lookup h))
  · have hi : i < vs.length := by
      unfold start at h2
      by_cases hi : i < vs.length
      · exact hi
      · rw [List.getElem?_append_right (by simpa using hi)] at h2
        rw [List.getElem?_replicate] at h2
        split at h2 <;> cases h2
    have ha : vs[i]? = some v := by
      unfold start at h2
      rw [List.getElem?_append_left (by simpa using hi), List.getElem?_map] at h2
      cases e : vs[i]? with
      | none => rw [e] at h2; cases h2
      | some a => rw [e] at h2; cases h2; rfl
    obtain ⟨u, hu, rv⟩ := r.get ha
    have hp : ps[i]? = some y := by
      rw [← S.pre, List.getElem?_take_of_lt (by omega)]; exact h1
    have ndP : ps.Nodup := by rw [← S.pre]; exact S.nd.sublist (List.take_sublist _ _)
    refine ⟨u, rv, ?_⟩
    rcases S.par y (List.mem_of_getElem? hp) with k | k
    · exact .inl ⟨k, bindL_get ndP hp hu k⟩
    · obtain ⟨c, e⟩ := cell_has (n := s.heap.objs.size + 1) k
      refine .inr ⟨.inl k, c, e, ?_⟩
      have q := x.cell y c e
      rw [bindC_get ndP hp hu (by show scope.names.lookup y ≠ _; rw [k]; decide)] at q
      exact q
  · exact e0.hok.fresh (Nat.le_of_lt (x.above y c (PySem.mem_of_lookup h)))
  · unfold start
    show _ = N.length
    rw [List.length_append, List.length_map, List.length_replicate]
    omega

/-- THE RULE: a def (or a method) of the text, by its body. The body's reading t is chosen for each entry; it is run at the parameters' values -/
theorem fn_of {CX : CXT} {P : Program} {w : World} {K : PySem.W.Frag} {mg : Str → Option Value} {base : Heap} {k : Nat} {f : Addr} {name qual : Str} {params : Arguments} {body : List Stmt} {scope : Scope} {dV kV doc pm cdv ct oc : Value} {an od : Option Addr}
    {osl : Array (Option Value)} {N ps : List Str} {sp : Sp} (lk : K.lookup f = some ⟨oc, od, .func (PySem.W.fnOf name qual params body scope dV kV doc pm an cdv ct), osl⟩) (hcd : PySem.W.codeIn K cdv qual = true) (S : FnScope N ps scope)
    (len : ∀ vs H Q E, sp vs H Q E → vs.length = ps.length)
    (hbody : ∀ (A : Around) (outer : List Env) (s : Shared) (H : Hp) (vs : List V) (Q : VK) (E : XK), Room k (A.deeper (envOfC qual scope s.heap.objs.size f cdv)) → sp vs H Q E →
      ∃ t, PSs (cxOf CX P w K mg base N qual scope f cdv A outer s H E) body t ∧ t { nx := fun _ H' => Q .non H', rt := Q } (start N vs) H) :
    FnOk P w K mg base CX (k + 1) f (PySem.W.fnOf name qual params body scope dV kV doc pm an cdv ct) ps sp := by
  refine ⟨len, fun A outer s H args us vs Q E hr e0 hb r hsp => ?_⟩
  have hl := len _ _ _ _ hsp
  have KX : K.In s.heap := e0.mod.kin.keeps fun b o e => (e0.bs b o e).1
  have lim : s.heap.NoLimit := e0.mod.nolimit.keeps fun b o e => (e0.bs b o e).1
  have hkind : ∀ y ∈ ps.zip us, scope.names.lookup y.1 = some .local ∨ (scope.names.lookup y.1 = some .cell ∧ ((cellsFrom (s.heap.objs.size + 1) scope.names []).lookup y.1).isSome = true) := fun ⟨n, v⟩ hy => by
    rcases S.par n (List.of_mem_zip hy).1 with q | q
    · exact .inl q
    · exact .inr ⟨q, PySem.W.cellsFrom_some _ _ _ (.inl q)⟩
  refine codeAny_call_function hr.depth (KX _ _ lk) rfl S.co S.gen rfl (PySem.W.codeRec_of KX hcd) (hb _ _ _ _ ?_)
  refine wpAny_newFunctionEnv_cells S.kind hkind fun env he s1 x => ?_
  subst he
  refine ⟨lim.keeps x.toInCall.keep, codeAny_func ?_⟩
  obtain ⟨t, ht, hq⟩ := hbody A outer s H vs Q E (hr.deeper _) hsp
  have I : Inv (cxOf CX P w K mg base N qual scope f cdv A outer s H E) [] (start N vs) H s1 := inv_start S hr.hd e0 hl r x
  refine wpAny_mono (ht [] s1 (start N vs) H _ I hq) (fun fl s' hs => ?_) fun e s' hs => hs
  have fin : ∀ {σ' : St} {H' : Hp} {v : V} {u : Value}, Inv (cxOf CX P w K mg base N qual scope f cdv A outer s H E) [] σ' H' s' → RelV v u → Q v H' → CE outer P w H s Q u s' :=
    fun {σ' H' v u} J rv q => ⟨v, H', J.os, J.bare, J.base, J.hok, rv, q⟩
  cases fl with
  | ret u =>
    obtain ⟨v, σ', H', J, rv, q⟩ := hs
    exact fin J rv q
  | next =>
    obtain ⟨σ', H', J, q⟩ := hs
    exact fin (v := V.non) (u := Value.none) J rfl q
  | brk =>
    obtain ⟨_, _, _, q⟩ := hs
    exact False.elim q
  | cont =>
    obtain ⟨_, _, _, q⟩ := hs
    exact False.elim q
end L2

namespace L2
open PySem PySem.Spec PyProof.Rows
section
variable {X : Cx} {x : Str} {p pos : Pos} {e : Expr} {es : List Expr} {t : TA} {id T : String} {r : List V → Hp → VK → Prop}

def tCB (r : List V → Hp → VK → Prop) (t : TA) : TE := fun σ H Q => t σ H fun vs H1 => r vs H1 Q
/-- f(e, ..), f a built-in function -/
theorem pe_callB (hc : CallR X (.builtin id) r) (hg : Gl X x) (hm : X.mg x = none) (hv : bootBuiltins x = some (.builtin id)) (ha : PA X (e :: es) t) (hn : x ≠ "__name__" := by decide) (hdb : (x == ("__debug__" : Str)) = false := by decide)
    (he : starEach (e :: es) X.env = (false, eval e X.env) :: starEach es X.env := by rfl) (hpl : (backTo pos (starEach es X.env)).any (·.1) = false := by rfl) : PE X (.Call (.Name x p) (e :: es) [] pos) (tCB r t) := by
  intro pins s σ H Q I h
  refine wpAny_Call_Name_kw (ld_blt I hg hm hv ?_ hn hdb)
  exact PyProof.Rows.callWith_builtin1 (thn (ha pos pins s σ H _ I h) fun us s1 ⟨vs, H1, I1, r1, q1⟩ => hc pins s1 σ H1 vs us Q I1 r1 q1) he hpl
/-- T(e, ..), T a built-in type -/
theorem pe_callTy (hc : CallR X (.type T) r) (hg : Gl X x) (hm : X.mg x = none) (hv : bootBuiltins x = some (.type T)) (ha : PA X (e :: es) t) (hn : x ≠ "__name__" := by decide) (hdb : (x == ("__debug__" : Str)) = false := by decide)
    (he : starEach (e :: es) X.env = (false, eval e X.env) :: starEach es X.env := by rfl) (hpl : (backTo pos (starEach es X.env)).any (·.1) = false := by rfl) : PE X (.Call (.Name x p) (e :: es) [] pos) (tCB r t) := by
  intro pins s σ H Q I h
  refine wpAny_Call_Name_kw (ld_blt I hg hm hv ?_ hn hdb)
  exact PyProof.Rows.callWith_type1 (thn (ha pos pins s σ H _ I h) fun us s1 ⟨vs, H1, I1, r1, q1⟩ => hc pins s1 σ H1 vs us Q I1 r1 q1) he hpl
end
end L2

namespace HT
open PySem PyProof.Rows

section
open PySem.SeqAt
open PySem.AutoSeq1 (wpAny_loadPart')
open PySem.MeetsSeq PySem.MeetsSeq2 PySem.MeetsSeq3

end

section
variable {prog : Program} {w : World} {A : Around} {E : Value → Shared → Prop} {s : Shared}

/-! ### t[a:b], not the whole -/
/-- a slice's bound as a place among n (d where it is left out) -/
def sIx (n d : Nat) : Option Int → Nat
  | none => d
  | some v => if v < 0 then (v + (n : Int)).toNat else min v.toNat n
theorem sIx_nat (n d k : Nat) : sIx n d (some (k : Int)) = min k n := by
  show (if (k : Int) < 0 then ((k : Int) + (n : Int)).toNat else min (k : Int).toNat n) = min k n
  rw [if_neg (by omega), Int.toNat_natCast]
theorem sIx_le (n d : Nat) (hd : d ≤ n) (o : Option Int) : sIx n d o ≤ n := by
  cases o with
  | none => exact hd
  | some v =>
    show (if v < 0 then (v + (n : Int)).toNat else min v.toNat n) ≤ n
    by_cases hv : v < 0
    · rw [if_pos hv]; omega
    · rw [if_neg hv]; exact Nat.min_le_right _ _
theorem clip_eq (v : Int) (n d : Nat) : (if v < 0 then max (v + (n : Int)) 0 else min v (n : Int)) = ((sIx n d (some v) : Nat) : Int) := by
  show (if v < 0 then max (v + (n : Int)) 0 else min v (n : Int)) = (((if v < 0 then (v + (n : Int)).toNat else min v.toNat n) : Nat) : Int)
  by_cases hv : v < 0
  · simp only [if_pos hv]; omega
  · simp only [if_neg hv]; omega
theorem adjust_gen (lo hi : Option Int) (n : Nat) : Builtin.Slice.sliceAdjust lo hi 1 (n : Int) = (((sIx n 0 lo : Nat) : Int), ((sIx n n hi : Nat) : Int)) := by
  have h1 : ¬ ((1 : Int) < 0) := by omega
  unfold Builtin.Slice.sliceAdjust
  simp only [h1, if_false]
  refine Prod.ext ?_ ?_
  · cases lo with
    | none => rfl
    | some v => exact clip_eq v n 0
  · cases hi with
    | none => rfl
    | some v => exact clip_eq v n n
theorem places_gen (i j : Nat) : Builtin.Slice.slicePlaces (i : Int) (j : Int) 1 = j - i := by
  unfold Builtin.Slice.slicePlaces
  have h1 : (1 : Int) > 0 := by omega
  simp only [h1, if_true, Int.ediv_one]
  split <;> omega
theorem slicePart_ {v : Value} {o : Option Int} {Q : Option Int → Shared → Prop} (p : IsPart v o) (h : Q o s) : wpAny (model prog w) A (Builtin.Slice.slicePartIndex v) Q E s := by
  cases p with
  | none => exact slicePart_none h
  | int i t => exact slicePart_int h
theorem sliceApplied_gen {sl : Addr} {vl vu : Value} {lo hi : Option Int} {n : Nat} {Q : Int × Int × Nat → Shared → Prop} (hs : s.heap.IsSliceOf sl vl vu .none) (pl : IsPart vl lo) (pu : IsPart vu hi)
    (h : Q (((sIx n 0 lo : Nat) : Int), 1, sIx n n hi - sIx n 0 lo) s) : wpAny (model prog w) A (Builtin.Slice.sliceApplied (.ref sl) (pure (n : Int))) Q E s := by
  obtain ⟨os, hos, hcs, hds⟩ := id hs
  unfold Builtin.Slice.sliceApplied Builtin.Slice.sliceFields
  refine wpAny_bind (wpAny_bind (wpAny_field hos hds (x := vl) rfl (wpAny_bind (wpAny_field hos hds (x := vu) rfl (wpAny_bind (wpAny_field hos hds (x := .none) rfl (wpAny_pure ?_)))))))
  refine wpAny_bind (slicePart_none ?_)
  show wpAny _ _ (if ((1 : Int) == 0) = true then _ else _) _ _ s
  rw [if_neg (by decide)]
  refine wpAny_bind (slicePart_ pl (wpAny_bind (slicePart_ pu (wpAny_bind (wpAny_pure ?_)))))
  show wpAny _ _ (match Builtin.Slice.sliceAdjust lo hi 1 (n : Int) with | (lo, hi) => pure (lo, (1 : Int), Builtin.Slice.slicePlaces lo hi 1)) _ _ s
  rw [adjust_gen lo hi n]
  show wpAny _ _ (pure (((sIx n 0 lo : Nat) : Int), (1 : Int), Builtin.Slice.slicePlaces ((sIx n 0 lo : Nat) : Int) ((sIx n n hi : Nat) : Int) 1)) _ _ s
  rw [places_gen]
  exact wpAny_pure h
theorem pick_gen (xs : Array Value) (i k : Nat) : ((List.range k).filterMap fun (m : Nat) => xs[((i : Int) + (m : Int) * 1).toNat]?).toArray = ((xs.toList.drop i).take k).toArray := by
  have e : (fun (m : Nat) => xs[((i : Int) + (m : Int) * 1).toNat]?) = fun m => xs[i + m]? := by
    funext m
    have : ((i : Int) + (m : Int) * 1).toNat = i + m := by omega
    rw [this]
  rw [e]
  have := pick_run xs i k
  rw [List.filterMap_map] at this
  have e2 : ((fun x => xs[x]?) ∘ fun x => i + x) = fun m => xs[i + m]? := rfl
  rw [e2] at this
  rw [this]

theorem getItem_tuple_cut {t sl : Addr} {items : Array Value} {vl vu : Value} {lo hi : Option Int} {Q : Value → Shared → Prop} (ht : IsTup s.heap t items) (hs : s.heap.IsSliceOf sl vl vu .none) (pl : IsPart vl lo) (pu : IsPart vu hi)
    (hw : ¬ (sIx items.size 0 lo = 0 ∧ sIx items.size items.size hi = items.size))
    (h : Q (.ref s.heap.objs.size) { s with heap := s.heap.push { cls := .type "tuple", data := .seq ((items.toList.drop (sIx items.size 0 lo)).take (sIx items.size items.size hi - sIx items.size 0 lo)).toArray } })
    (hsz : items.size ≤ sizeLine) : wpAny (model prog w) A (getItem (.ref t) (.ref sl)) Q E s := by
  have htake : sizeOk (.seq ((items.toList.drop (sIx items.size 0 lo)).take (sIx items.size items.size hi - sIx items.size 0 lo)).toArray) := by
    show ((items.toList.drop (sIx items.size 0 lo)).take (sIx items.size items.size hi - sIx items.size 0 lo)).toArray.size ≤ sizeLine
    rw [List.size_toArray, List.length_take, List.length_drop, Array.length_toList]
    omega
  have hj : sIx items.size items.size hi ≤ items.size := sIx_le _ _ (Nat.le_refl _) hi
  obtain ⟨os, hos, hcs, hds⟩ := id hs
  have hTs : s.TypeIs (.ref sl) "slice" := ⟨os, hos, hcs⟩
  unfold getItem
  try with_reducible refine wpAny_holding ?_
  first | refine wpAny_bind (wpAny_pure ?_) | skip
  refine wpAny_bind (wpAny_sequenceKey ht.typeIs (by decide) ?_)
  refine wpAny_bind (wpAny_callSpecial?_slot (name := Str.ofString "__getitem__") ht.typeIs PyProof.Rows.slot_tuple_getitem
    (wpAny_call_entry PyProof.Rows.slot_tuple_getitem ht.typeIs entry_tuple_getitem ?_ (args_tuple_getitem _ _)))
  show wpAny _ _ (Builtin.Tuple.tupleItemsOf (.ref t) >>= _) _ _ s
  refine wpAny_bind (tupleItemsOf_ ht ?_)
  refine wpAny_bind (wpAny_typeOf hTs ?_)
  rw [if_pos (by decide)]
  refine wpAny_bind (sliceApplied_gen hs pl pu ?_)
  have hno : ¬ ((((sIx items.size 0 lo : Nat) : Int) == 0 && (1 : Int) == 1 && (sIx items.size items.size hi - sIx items.size 0 lo) == items.size) = true) := by
    intro q
    rw [Bool.and_eq_true, Bool.and_eq_true] at q
    have q1 : ((sIx items.size 0 lo : Nat) : Int) = 0 := eq_of_beq q.1.1
    have q2 : sIx items.size items.size hi - sIx items.size 0 lo = items.size := eq_of_beq q.2
    exact hw ⟨by omega, by omega⟩
  show wpAny _ _ (if (((sIx items.size 0 lo : Nat) : Int) == 0 && (1 : Int) == 1 && (sIx items.size items.size hi - sIx items.size 0 lo) == items.size) = true then _ else _) _ _ s
  rw [if_neg hno, pick_gen]
  first
    | exact wpAny_bind (m := Builtin.Tuple.tupleExact _) (wpAny_newObj_type (wpAny_pure ⟨_, rfl, wpAny_pure h⟩) htake)
    | exact wpAny_bind (m := Builtin.Tuple.tupleExact _) (wpAny_newObj_type (wpAny_bind (wpAny_pure (wpAny_pure ⟨_, rfl, wpAny_pure h⟩))) htake)
    | exact wpAny_bind (wpAny_bind (m := Builtin.Tuple.tupleExact _) (wpAny_newObj_type (wpAny_pure (wpAny_pure ⟨_, rfl, wpAny_pure h⟩)) htake))
    | exact wpAny_bind (wpAny_bind (m := Builtin.Tuple.tupleExact _) (wpAny_newObj_type (wpAny_pure ⟨_, rfl, wpAny_pure h⟩) htake))
end
end HT

namespace L2
open PySem PySem.Spec PyProof.Rows

/-! ### the parts of a slice -/
abbrev TO := St → Hp → (Option Int → Hp → Prop) → Prop
/-- a slice's part (left out, or an int) -/
def PO (X : Cx) (e : Option Expr) (t : TO) : Prop :=
  ∀ (pins : List (Addr × Obj)) (s : Shared) (σ : St) (H : Hp) (Q : Option Int → Hp → Prop), Inv X pins σ H s → t σ H Q →
    wpAny (model X.prog X.w) X.A (evalPart e X.env) (fun u s' => ∃ o H', Inv X pins σ H' s' ∧ IsPart u o ∧ Q o H') X.xe s
def tNoPart : TO := fun _ H Q => Q none H
def tPart (t : TE) : TO := fun σ H Q => t σ H fun x H1 => ∃ i, x = .int i ∧ Q (some i) H1

theorem intsAre_of {ns : List Int} : ∀ {us : List Value}, Vals (ns.map V.int) us → IntsAre us ns := by
  induction ns with
  | nil => intro us r; rw [List.map_nil] at r; cases r; exact .nil
  | cons n ns ih =>
    intro us r
    rw [List.map_cons] at r
    cases r with
    | cons r1 r2 =>
      obtain ⟨t, e⟩ := r1
      subst e
      exact .cons n t (ih r2)

section
variable {X : Cx} {e : Expr} {te : TE} {lo hi : Option Expr} {tl th : TO} {pos p2 : Pos}

theorem po_none : PO X none tNoPart := by
  intro pins s σ H Q I h
  rw [evalPart_none]
  exact wpAny_pure ⟨none, H, I, .none, h⟩
theorem po_some (h : PE X e te) : PO X (some e) (tPart te) := by
  intro pins s σ H Q I hw
  rw [evalPart_some]
  refine thn (h pins s σ H _ I hw) fun u s1 ⟨x, H1, I1, r1, q1⟩ => ?_
  obtain ⟨i, rfl, q⟩ := q1
  obtain ⟨t, rfl⟩ := r1
  exact ⟨some i, H1, I1, .int i t, q⟩

/-- what a slice of a value is, by values: the slice object stands at sl -/
def SlR (X : Cx) (r : V → Option Int → Option Int → Hp → VK → Prop) : Prop :=
  ∀ (pins : List (Addr × Obj)) (s : Shared) (σ : St) (H : Hp) (x : V) (v vl vu : Value) (lo hi : Option Int) (sl : Addr) (Q : VK), Inv X pins σ H s → RelV x v → s.heap.IsSliceOf sl vl vu .none → IsPart vl lo → IsPart vu hi → r x lo hi H Q →
    ∃ T id, typeLookup (.type T) "__getitem__" = pure (some (.builtin id)) ∧ s.TypeIs v T ∧ wpAny (model X.prog X.w) X.A (getItem v (.ref sl)) (EP X pins σ Q) X.xe s
def tSl (r : V → Option Int → Option Int → Hp → VK → Prop) (te : TE) (tl th : TO) : TE := fun σ H Q => te σ H fun x H1 => tl σ H1 fun l H2 => th σ H2 fun u H3 => r x l u H3 Q
/-- a[lo:hi], any a -/
theorem pe_slice {r : V → Option Int → Option Int → Hp → VK → Prop} (hr : SlR X r) (he : PE X e te) (hl : PO X lo tl) (hu : PO X hi th) : PE X (.Subscript e (.Slice lo hi none p2) pos) (tSl r te tl th) := by
  intro pins s σ H Q I h
  refine Subscript_ (thn (he pins s σ H _ I h) fun v s1 ⟨x, H1, I1, r1, q1⟩ => ?_)
  refine wpAny_Slice (thn (hl pins s1 σ H1 _ I1 q1) fun vl s2 ⟨l, H2, I2, pl, q2⟩ => thn (hu pins s2 σ H2 _ I2 q2) fun vu s3 ⟨u, H3, I3, pu, q3⟩ => ?_)
  rw [evalPart_none]
  refine wpAny_pure ?_
  have I4 : Inv X pins σ H3 { s3 with heap := s3.heap.push { cls := .type "slice", data := .fields #[vl, vu, .none] } } := I3.kept (t' := s3.toks) fun b ob q => Heap.get?_push_of_some _ q
  obtain ⟨T, id, hT, ht, hg⟩ := hr pins { s3 with heap := s3.heap.push { cls := .type "slice", data := .fields #[vl, vu, .none] } } σ H3 x v vl vu l u s3.heap.objs.size Q I4 r1 (Heap.IsSliceOf.new ..) pl pu q3
  show wpAny (model X.prog X.w) X.A (subscriptTail e (.Slice lo hi none p2) v (.ref s3.heap.objs.size)) (EP X pins σ Q) X.xe { s3 with heap := s3.heap.push { cls := .type "slice", data := .fields #[vl, vu, .none] } }
  exact tail_any (ops := [.ref s3.heap.objs.size, v]) ht hT hg (by with_unfolding_all rfl)

/-- the items of xs[lo:hi] -/
def cutV (xs : List V) (lo hi : Option Int) : List V := (xs.drop (HT.sIx xs.length 0 lo)).take (HT.sIx xs.length xs.length hi - HT.sIx xs.length 0 lo)
theorem cutV_length (xs : List V) (lo hi : Option Int) : (cutV xs lo hi).length ≤ xs.length := by
  unfold cutV
  rw [List.length_take, List.length_drop]
  omega
/-- t[lo:hi], not the whole of it (the whole would be t itself) -/
def rSlT (K : PySem.W.Frag) : V → Option Int → Option Int → Hp → VK → Prop := fun x lo hi H Q => ∃ a xs, x = .ref a ∧ SqT K H a xs ∧
  ¬ (HT.sIx xs.length 0 lo = 0 ∧ HT.sIx xs.length xs.length hi = xs.length) ∧ ∀ p, H p = none → Q (.ref p) (upd H p (.tup (cutV xs lo hi)))
theorem sl_tup : SlR X (rSlT X.K) := by
  intro pins s σ H x v vl vu lo hi sl Q I rx hs pl pu h
  obtain ⟨a, xs, rfl, hx, hw, q⟩ := h
  cases rx
  obtain ⟨its, r, ht, hz⟩ := I.tuple hx
  have hlen : its.toArray.size = xs.length := by rw [List.size_toArray]; exact r.length.symm
  refine ⟨"tuple", _, PyProof.Rows.slot_tuple_getitem.lookup, ht.typeIs, ?_⟩
  refine HT.getItem_tuple_cut ht hs pl pu (by rw [hlen]; exact hw) ?_ (by rw [hlen]; exact hz)
  rw [hlen]
  refine ⟨.ref s.heap.objs.size, _, I.laid (t' := s.toks) (o := .tup (cutV xs lo hi)) (fun b ob q => Heap.get?_push_of_some _ q) (Nat.le_refl _) ?_, rfl, q _ (I.hok.fresh (Nat.le_refl _))⟩
  exact ⟨Nat.le_trans (cutV_length xs lo hi) hz, _, (r.drop (HT.sIx xs.length 0 lo)).take (HT.sIx xs.length xs.length hi - HT.sIx xs.length 0 lo), IsTup.new _ _⟩

end
end L2

namespace L2
open PySem PySem.Spec PyProof.Rows

/-! ### places -/
/-- the place that an index of any sign means -/
def ixN (n : Nat) (i : Int) : Option Nat := if 0 ≤ i then (if i < n then some i.toNat else none) else if -(n : Int) ≤ i then some (i + n).toNat else none
def atI {α : Type} (xs : List α) (i : Int) : Option α := (ixN xs.length i).bind fun j => xs[j]?
theorem ixN_seq {n : Nat} {i : Int} {j : Nat} (h : ixN n i = some j) : seqIndex? i n = some j ∧ j < n ∧ -(n : Int) ≤ i ∧ i < n := by
  unfold ixN at h
  by_cases h0 : 0 ≤ i
  · rw [if_pos h0] at h
    by_cases h1 : i < n
    · rw [if_pos h1] at h
      have e : i.toNat = j := Option.some.inj h
      exact ⟨by rw [seqIndex_of h0 h1, e], by omega, by omega, h1⟩
    · rw [if_neg h1] at h; cases h
  · rw [if_neg h0] at h
    by_cases h1 : -(n : Int) ≤ i
    · rw [if_pos h1] at h
      have e : (i + n).toNat = j := Option.some.inj h
      exact ⟨by rw [seqIndex_neg (by omega) h1, e], by omega, h1, by omega⟩
    · rw [if_neg h1] at h; cases h
theorem atI_get {α : Type} {xs : List α} {i : Int} {v : α} (h : atI xs i = some v) : ∃ j, seqIndex? i xs.length = some j ∧ xs[j]? = some v ∧ j < xs.length ∧ -(xs.length : Int) ≤ i ∧ i < xs.length := by
  unfold atI at h
  cases e : ixN xs.length i with
  | none => rw [e] at h; cases h
  | some j =>
    rw [e] at h
    obtain ⟨h1, h2, h3, h4⟩ := ixN_seq e
    exact ⟨j, h1, h, h2, h3, h4⟩
theorem atI_nat {α : Type} {xs : List α} {j : Nat} {v : α} (h : xs[j]? = some v) : atI xs (j : Int) = some v := by
  have hj : j < xs.length := (List.getElem?_eq_some_iff.mp h).1
  have e : ixN xs.length (j : Int) = some j := by
    unfold ixN
    rw [if_pos (by omega), if_pos (by omega)]; simp
  unfold atI; rw [e]; exact h
theorem atI_last {α : Type} (xs : List α) (v : α) : atI (xs ++ [v]) (-1) = some v := by
  have hl : (xs ++ [v]).length = xs.length + 1 := by simp
  have e : ixN (xs ++ [v]).length (-1) = some xs.length := by
    unfold ixN
    rw [hl, if_neg (by decide), if_pos (by omega)]
    congr 1
    omega
  unfold atI
  rw [e]
  show (xs ++ [v])[xs.length]? = some v
  simp

/-! ### what may be subscripted -/
/-- what stands as an index of a plain subscript -/
def PlainIx (b : Expr) : Prop := ∀ o i, subscripted b false o i = operate [o, i] (getItem o i)
/-- a subscript by values -/
def IxR (X : Cx) (r : R2) : Prop :=
  ∀ (value slice : Expr) (pins : List (Addr × Obj)) (s : Shared) (σ : St) (H : Hp) (x y : V) (v u : Value) (Q : VK), Inv X pins σ H s → RelV x v → RelV y u → r x y H Q →
    subscripted slice false v u = operate [v, u] (getItem v u) → wpAny (model X.prog X.w) X.A (subscriptTail value slice v u) (EP X pins σ Q) X.xe s
/-- a call of a builtin's method by values: the receiver, the arguments -/
def MtR (X : Cx) (id : String) (r : V → List V → Hp → VK → Prop) : Prop :=
  ∀ (pins : List (Addr × Obj)) (s : Shared) (σ : St) (H : Hp) (x : V) (xs : List V) (v : Value) (us : List Value) (Q : VK), Inv X pins σ H s → RelV x v → Vals xs us → r x xs H Q →
    wpAny (model X.prog X.w) X.A (call (.builtin id) (v :: us)) (EP X pins σ Q) X.xe s
section
variable {X : Cx} {a b : Expr} {ta tb : TE} {pos : Pos}
/-- a[b] -/
theorem pe_ix {r : R2} (hr : IxR X r) (ha : PE X a ta) (hb : PE X b tb) (hs : PlainIx b) : PE X (.Subscript a b pos) (tOp r ta tb) := by
  intro pins s σ H Q I h
  exact Subscript_ (binT ha hb I h fun v u s2 x y H2 I2 rx ry q => hr a b pins s2 σ H2 x y v u Q I2 rx ry q (hs _ _))

def rIxL (K : PySem.W.Frag) : R2 := fun x y H Q => ∃ p xs i v, x = .ref p ∧ y = .int i ∧ SqL K H p xs ∧ atI xs i = some v ∧ Q v H
def rIxT (K : PySem.W.Frag) : R2 := fun x y H Q => ∃ p xs i v, x = .ref p ∧ y = .int i ∧ SqT K H p xs ∧ atI xs i = some v ∧ Q v H
theorem ix_list : IxR X (rIxL X.K) := by
  intro value slice pins s σ H x y v u Q I rx ry h hs
  obtain ⟨p, xs, i, z, rfl, rfl, hq, he, q⟩ := h
  cases rx
  obtain ⟨t, rfl⟩ := ry
  obtain ⟨its, r, pl, hz⟩ := I.list hq
  obtain ⟨j, h1, h2, h3, h4, h5⟩ := atI_get he
  obtain ⟨w, ew, rw'⟩ := r.get h2
  have hl := r.length
  have hn := line63
  have fin : EP X pins σ Q w s := ⟨z, H, I, rw', q⟩
  by_cases h0 : 0 ≤ i
  · have hj : i.toNat = j := by
      rw [seqIndex_of h0 h5] at h1
      exact Option.some.inj h1
    exact item_listR pl.isList h0 (by omega) (by rw [hj]; simpa using ew) fin hs
  · have hj : (i + (its.toArray.size : Int)).toNat = j := by
      rw [seqIndex_neg (by omega) h4] at h1
      rw [List.size_toArray, ← hl]
      exact Option.some.inj h1
    exact subscriptTail_builtinR (x := w) pl.isList.typeIs slot_list_getitem.lookup
      (wpAny_getItem_list_neg (Q := fun r s' => r = w ∧ EP X pins σ Q r s') pl.isList (by omega) (by rw [List.size_toArray] <;> omega) (by omega) (by rw [hj]; simpa using ew) ⟨rfl, fin⟩) hs
theorem ix_tup : IxR X (rIxT X.K) := by
  intro value slice pins s σ H x y v u Q I rx ry h hs
  obtain ⟨p, xs, i, z, rfl, rfl, hq, he, q⟩ := h
  cases rx
  obtain ⟨t, rfl⟩ := ry
  obtain ⟨its, r, pl, hz⟩ := I.tuple hq
  obtain ⟨j, h1, h2, h3, h4, h5⟩ := atI_get he
  obtain ⟨w, ew, rw'⟩ := r.get h2
  have hl := r.length
  have hn := line63
  have fin : EP X pins σ Q w s := ⟨z, H, I, rw', q⟩
  exact subscriptTail_builtinR (x := w) pl.typeIs slot_tuple_getitem.lookup
    (getItem_tuple (j := j) (Q := fun r s' => r = w ∧ EP X pins σ Q r s') pl (by omega) (by omega) (by rw [List.size_toArray, ← hl]; exact h1) (by simpa using ew) ⟨rfl, fin⟩) hs
theorem Inv.lst {pins : List (Addr × Obj)} {σ : St} {H : Hp} {s : Shared} {p : Addr} {xs : List V} (I : Inv X pins σ H s) (h : H p = some (.lst xs)) :
    ∃ (its : List Value) (n : Nat), Vals xs its ∧ s.heap.get? p = some { cls := .type "list", data := .seq its.toArray n } ∧ xs.length ≤ sizeLine := by
  obtain ⟨z, its, n, r, e⟩ := I.hok p _ h
  exact ⟨its, n, r, e, z⟩
/-! ### slices -/
theorem slice_bounds (lo hi : Option Int) (n : Nat) : (sliceBounds lo hi none n).1 = ((HT.sIx n 0 lo : Nat) : Int) ∧ (sliceBounds lo hi none n).2.1 = ((HT.sIx n n hi : Nat) : Int) ∧ (sliceBounds lo hi none n).2.2 = 1 := by
  refine ⟨?_, ?_, rfl⟩
  · cases lo with
    | none => simp [sliceBounds, HT.sIx]
    | some i =>
      simp only [sliceBounds, HT.sIx, Option.getD_none, show (1 : Int) > 0 by decide, if_true]
      by_cases h : i < 0
      · simp only [h, if_true] <;> omega
      · simp only [h, if_false] <;> omega
  · cases hi with
    | none => simp [sliceBounds, HT.sIx]
    | some i =>
      simp only [sliceBounds, HT.sIx, Option.getD_none, show (1 : Int) > 0 by decide, if_true]
      by_cases h : i < 0
      · simp only [h, if_true] <;> omega
      · simp only [h, if_false] <;> omega
theorem slicePick_cut (its : List Value) (lo hi : Option Int) : slicePick its.toArray lo hi none = ((its.drop (HT.sIx its.length 0 lo)).take (HT.sIx its.length its.length hi - HT.sIx its.length 0 lo)).toArray := by
  obtain ⟨h1, h2, h3⟩ := slice_bounds lo hi its.toArray.size
  unfold slicePick
  rw [h1, h2, h3]
  simp only [sliceRange_one, pick_run, List.size_toArray] <;> rfl
/-- xs[lo:hi] of a list: a new list -/
def rSlL (K : PySem.W.Frag) : V → Option Int → Option Int → Hp → VK → Prop := fun x lo hi H Q => ∃ a xs, x = .ref a ∧ SqL K H a xs ∧ ∀ p, H p = none → Q (.ref p) (upd H p (.lst (cutV xs lo hi)))
theorem sl_list : SlR X (rSlL X.K) := by
  intro pins s σ H x v vl vu lo hi sl Q I rx hs pl pu h
  obtain ⟨a, xs, rfl, hx, q⟩ := h
  cases rx
  obtain ⟨its, r, ht, hz⟩ := I.list hx
  have hlen := r.length
  refine ⟨"list", _, slot_list_getitem.lookup, ht.isList.typeIs, ?_⟩
  refine wpAny_getItem_list_slice ht.isList hs pl pu .none (by simp) ?_ (by rw [List.size_toArray] <;> omega)
  rw [slicePick_cut, ← hlen]
  refine ⟨.ref s.heap.objs.size, _, I.laid (t' := s.toks) (o := .lst (cutV xs lo hi)) (fun b ob q => Heap.get?_push_of_some _ q) (Nat.le_refl _) ?_, rfl, q _ (I.hok.fresh (Nat.le_refl _))⟩
  exact ⟨Nat.le_trans (cutV_length xs lo hi) hz, _, 0, (r.drop (HT.sIx xs.length 0 lo)).take (HT.sIx xs.length xs.length hi - HT.sIx xs.length 0 lo), Heap.get?_push_size _ rfl⟩

/-! ### in, not in: flat items -/
def flatV : V → Bool
  | .non => true
  | .bl _ => true
  | .int _ => true
  | .str _ => true
  | _ => false
/-- == of flat values -/
def eqV : V → V → Bool
  | .non, .non => true
  | .bl a, .bl b => a == b
  | .bl a, .int b => (if a then 1 else 0) == b
  | .int a, .bl b => a == (if b then 1 else 0)
  | .int a, .int b => a == b
  | .str a, .str b => a == b
  | _, _ => false
theorem eqAt_V {A : Around} {s : Shared} {y x : V} {u v : Value} (ry : RelV y u) (rx : RelV x v) (fy : flatV y = true) (fx : flatV x = true) : SeqAt.EqAt A s u v (eqV y x) := by
  cases y with
  | non =>
    cases ry
    cases x with
    | non => cases rx; exact SeqAt.EqAt.same _
    | bl b => cases rx; exact SeqAt.EqAt.none_bool b
    | int b => obtain ⟨t, rfl⟩ := rx; exact SeqAt.EqAt.none_int b t
    | str b => obtain ⟨t, rfl⟩ := rx; exact SeqAt.EqAt.none_str b t
    | _ => exact absurd (show false = true from fx) Bool.false_ne_true
  | bl a =>
    cases ry
    cases x with
    | non => cases rx; exact SeqAt.EqAt.bool_none a
    | bl b => cases rx; exact SeqAt.EqAt.bool_bool a b
    | int b => obtain ⟨t, rfl⟩ := rx; exact SeqAt.EqAt.bool_int a b t
    | str b => obtain ⟨t, rfl⟩ := rx; exact SeqAt.EqAt.bool_str a b t
    | _ => exact absurd (show false = true from fx) Bool.false_ne_true
  | int a =>
    obtain ⟨t', rfl⟩ := ry
    cases x with
    | non => cases rx; exact SeqAt.EqAt.int_none a t'
    | bl b => cases rx; exact SeqAt.EqAt.int_bool a t' b
    | int b => obtain ⟨t, rfl⟩ := rx; exact SeqAt.EqAt.int_int a t' b t
    | str b => obtain ⟨t, rfl⟩ := rx; exact SeqAt.EqAt.int_str a t' b t
    | _ => exact absurd (show false = true from fx) Bool.false_ne_true
  | str a =>
    obtain ⟨t', rfl⟩ := ry
    cases x with
    | non => cases rx; exact SeqAt.EqAt.str_none a t'
    | bl b => cases rx; exact SeqAt.EqAt.str_bool a t' b
    | int b => obtain ⟨t, rfl⟩ := rx; exact SeqAt.EqAt.str_int a t' b t
    | str b => obtain ⟨t, rfl⟩ := rx; exact SeqAt.EqAt.str_str a t' b t
    | _ => exact absurd (show false = true from fx) Bool.false_ne_true
  | _ => exact absurd (show false = true from fy) Bool.false_ne_true
/-- the items' answers, read off the values (a value's own answer does not lean on its token) -/
def eqU (x : V) (u : Value) : Bool := match u with
  | .none => eqV .non x
  | .bool b => eqV (.bl b) x
  | .int i _ => eqV (.int i) x
  | .str z _ => eqV (.str z) x
  | _ => false
theorem eqU_of {x y : V} {u : Value} (r : RelV y u) (f : flatV y = true) : eqU x u = eqV y x := by
  cases y with
  | non => cases r; rfl
  | bl b => cases r; rfl
  | int i => obtain ⟨t, rfl⟩ := r; rfl
  | str z => obtain ⟨t, rfl⟩ := r; rfl
  | _ => exact absurd (show false = true from f) Bool.false_ne_true
theorem mem_eqAt {A : Around} {s : Shared} {x : V} {v : Value} (rx : RelV x v) (fx : flatV x = true) : ∀ {xs : List V} {us : List Value}, Vals xs us → xs.all flatV = true → ∀ u ∈ us, SeqAt.EqAt A s u v (eqU x u)
  | _, _, .nil, _ => fun u hu => by cases hu
  | y :: xs, u :: us, .cons r t, f => fun u' hu => by
    rw [List.all_cons, Bool.and_eq_true] at f
    rcases List.mem_cons.mp hu with rfl | hu
    · rw [eqU_of r f.1]; exact eqAt_V r rx f.1 fx
    · exact mem_eqAt rx fx t f.2 u' hu
theorem op_notIn_str : OpR X (compareOp .NotIn) (fun x y H Q => ∃ i j, x = .str i ∧ y = .str j ∧ Q (.bl (!(!(Builtin.Str.occurrences j i 0 j.length 1).isEmpty))) H) := by
  intro pins s σ H x y v u Q I rx ry h
  obtain ⟨i, j, rfl, rfl, q⟩ := h
  obtain ⟨t, rfl⟩ := rx
  obtain ⟨t', rfl⟩ := ry
  exact notIn_str ⟨.bl _, H, I, rfl, q⟩

/-! ### len, list(x), tuple(x) of any list or tuple that is read -/
theorem call_len_seq : CallR X (.builtin "len") (fun xs H Q => ∃ p ys, xs = [.ref p] ∧ (SqL X.K H p ys ∨ SqT X.K H p ys) ∧ Q (.int ys.length) H) := by
  intro pins s σ H xs us Q I r h
  obtain ⟨p, ys, rfl, hq, q⟩ := h
  obtain ⟨u, rfl, rx⟩ := vals1 r
  cases rx
  have hn := line63
  rcases hq with hq | hq
  · obtain ⟨its, r', pl, hz⟩ := I.list hq
    have hlen := r'.length
    exact Calls.call_len_list pl.isList (by simp only [List.size_toArray] <;> omega) ⟨.int ys.length, H, I.tok _, ⟨s.toks + 1, by rw [List.size_toArray, hlen]⟩, q⟩
  · obtain ⟨its, r', pl, hz⟩ := I.tuple hq
    have hlen := r'.length
    exact len_tuple pl (by simp only [List.size_toArray] <;> omega) ⟨.int ys.length, H, I.tok _, ⟨s.toks + 1, by rw [List.size_toArray, hlen]⟩, q⟩
theorem call_len_str : CallR X (.builtin "len") (fun xs H Q => ∃ z, xs = [.str z] ∧ z.length ≤ sizeLine ∧ Q (.int z.length) H) := by
  intro pins s σ H xs us Q I r h
  obtain ⟨z, rfl, hz, q⟩ := h
  obtain ⟨u, rfl, t, rfl⟩ := vals1 r
  have hn := line63
  exact len_str (by omega) ⟨.int z.length, H, I.tok _, ⟨_, rfl⟩, q⟩
theorem call_list_of : CallR X (.type "list") (fun xs H Q => ∃ p ys, xs = [.ref p] ∧ (SqL X.K H p ys ∨ SqT X.K H p ys) ∧ ∀ l, H l = none → Q (.ref l) (upd H l (.lst ys))) := by
  intro pins s σ H xs us Q I r h
  obtain ⟨p, ys, rfl, hq, q⟩ := h
  obtain ⟨u, rfl, rx⟩ := vals1 r
  cases rx
  have fin : ∀ (its : List Value), Vals ys its → ys.length ≤ sizeLine → ∀ (h' : Heap) (c' : Nat), (∀ b o', s.heap.get? b = some o' → h'.get? b = some o') →
      h'.get? s.heap.objs.size = some { cls := .type "list", dict := none, data := .seq its.toArray c', slots := #[] } → EP X pins σ Q (.ref s.heap.objs.size) { s with heap := h' } := fun its r' hz h' c' kp e =>
    ⟨.ref s.heap.objs.size, _, I.laid (t' := s.toks) kp (Nat.le_refl _) (show ObjOk X.prog X.w _ h' _ (.lst ys) from ⟨hz, its, c', r', e⟩), rfl, q _ (I.hok.fresh (Nat.le_refl _))⟩
  rcases hq with hq | hq
  · obtain ⟨its, r', pl, hz⟩ := I.list hq
    have hlen := r'.length
    obtain ⟨o, ho, hc, n, hd⟩ := pl.isList
    exact call_list_seq p (.inl rfl) ho hc hd (fun h' c' kp e => fin its r' hz h' c' kp e) (by simp only [List.size_toArray] <;> omega)
  · obtain ⟨its, r', pl, hz⟩ := I.tuple hq
    have hlen := r'.length
    obtain ⟨o, ho, hc, n, hd⟩ := pl
    exact call_list_seq p (.inr rfl) ho hc hd (fun h' c' kp e => fin its r' hz h' c' kp e) (by simp only [List.size_toArray] <;> omega)
theorem call_tuple_of : CallR X (.type "tuple") (fun xs H Q => ∃ p ys, xs = [.ref p] ∧ ((SqL X.K H p ys ∧ ∀ l, H l = none → Q (.ref l) (upd H l (.tup ys))) ∨ (SqT X.K H p ys ∧ Q (.ref p) H))) := by
  intro pins s σ H xs us Q I r h
  obtain ⟨p, ys, rfl, h⟩ := h
  obtain ⟨u, rfl, rx⟩ := vals1 r
  cases rx
  rcases h with ⟨hq, q⟩ | ⟨hq, q⟩
  · obtain ⟨its, r', pl, hz⟩ := I.list hq
    have hlen := r'.length
    refine call_tuple_list pl.isList (fun h' kp => ?_) (by simp only [List.size_toArray] <;> omega)
    have I1 : Inv X pins σ H { s with heap := h' } := I.kept (t' := s.toks) kp
    have I2 : Inv X pins σ (upd H h'.objs.size (.tup ys)) { s with heap := h'.push { cls := .type "tuple", data := .seq its.toArray } } :=
      I1.laid (t' := s.toks) (fun b o e => Heap.get?_push_of_some _ e) (Nat.le_refl _) (show ObjOk X.prog X.w _ _ _ (.tup ys) from ⟨hz, its, r', IsTup.new _ _⟩)
    exact ⟨.ref h'.objs.size, _, I2, rfl, q _ (I1.hok.fresh (Nat.le_refl _))⟩
  · obtain ⟨its, r', pl, hz⟩ := I.tuple hq
    exact call_tuple_same pl ⟨.ref p, H, I, rfl, q⟩

/-! ### the call of a builtin's method: o.m(..) -/
/-- the value is of that builtin type -/
def tyV (K : PySem.W.Frag) (T : String) (x : V) (H : Hp) : Prop := match x with
  | .str _ => T = "str"
  | .int _ => T = "int"
  | .ref p => (T = "list" ∧ ∃ xs, SqL K H p xs) ∨ (T = "tuple" ∧ ∃ o, K.lookup p = some o ∧ o.cls = .type "tuple" ∧ o.dict = none) ∨
      (T = "dict" ∧ ((∃ kvs, H p = some (.dK kvs)) ∨ ∃ kvs, H p = some (.dT kvs))) ∨ (T = "set" ∧ ∃ S n, H p = some (.set S n))
  | _ => False
theorem tyV_is {pins : List (Addr × Obj)} {σ : St} {H : Hp} {s : Shared} {T : String} {x : V} {v : Value} (I : Inv X pins σ H s) (r : RelV x v) (ty : tyV X.K T x H) :
    s.TypeIs v T ∧ ∀ a, v = .ref a → ∃ ob, s.heap.get? a = some ob ∧ ob.dict = none := by
  cases x with
  | str z =>
    obtain ⟨t, rfl⟩ := r
    cases (show T = "str" from ty)
    exact ⟨typeIs_str s z t, fun _ e => nomatch e⟩
  | int i =>
    obtain ⟨t, rfl⟩ := r
    cases (show T = "int" from ty)
    exact ⟨typeIs_int s i t, fun _ e => nomatch e⟩
  | ref p =>
    cases r
    rcases ty with ⟨rfl, xs, hq⟩ | ⟨rfl, o, hk, hc, hd⟩ | ⟨rfl, hk⟩ | ⟨rfl, S, n, hk⟩
    · obtain ⟨its, _, pl, _⟩ := I.list hq
      refine ⟨pl.isList.typeIs, fun a e => ?_⟩
      cases e
      obtain ⟨o, n, e, c, hd, _⟩ := pl
      exact ⟨o, e, hd⟩
    · refine ⟨⟨o, I.kIn p o hk, hc⟩, fun a e => ?_⟩
      cases e
      exact ⟨o, I.kIn _ o hk, hd⟩
    · have z : ∃ o, s.heap.get? p = some o ∧ o.ExactDict := by
        rcases hk with ⟨kvs, hk⟩ | ⟨kvs, hk⟩
        · obtain ⟨_, _, _, _, o, _, _, e, ex, _⟩ := I.hok p _ hk
          exact ⟨o, e, ex⟩
        · obtain ⟨_, _, _, _, o, _, _, e, ex, _⟩ := I.hok p _ hk
          exact ⟨o, e, ex⟩
      obtain ⟨o, e, ex⟩ := z
      refine ⟨⟨o, e, ex.1⟩, fun a e2 => ?_⟩
      cases e2
      exact ⟨o, e, ex.2.1⟩
    · obtain ⟨o, _, _, _, e, ex, _⟩ := I.hok p _ hk
      refine ⟨⟨o, e, ex.1⟩, fun a e2 => ?_⟩
      cases e2
      exact ⟨o, e, ex.2.1⟩
  | _ => exact False.elim ty
def tBM0 (K : PySem.W.Frag) (T : String) (r : V → List V → Hp → VK → Prop) (to : TE) : TE := fun σ H Q => to σ H fun x H1 => tyV K T x H1 ∧ r x [] H1 Q
def tBM (K : PySem.W.Frag) (T : String) (r : V → List V → Hp → VK → Prop) (to : TE) (t : TA) : TE := fun σ H Q => to σ H fun x H1 => tyV K T x H1 ∧ t σ H1 fun xs H2 => r x xs H2 Q
variable {o e : Expr} {es : List Expr} {to : TE} {t : TA} {name : Str} {apos cpos : Pos} {T id : String} {r : V → List V → Hp → VK → Prop}
theorem pe_bm0 (pa : PlainAttrs T) (slot : Slot T name id) (hty : typeOf (.builtin id) = pure (.type "method_descriptor")) (hm : MtR X id r) (ho : PE X o to)
    (hbase : attributeBase o name X.env (eval o X.env) = eval o X.env := by rfl) (hline : (apos.endLine == cpos.line) = true := by rfl) : PE X (.Call (.Attribute o name apos) [] [] cpos) (tBM0 X.K T r to) := by
  intro pins s σ H Q I h
  refine wpAny_Call_method0_late hbase hline (thn (ho pins s σ H _ I h) fun v s1 ⟨x, H1, I1, r1, ty, q1⟩ => ?_)
  obtain ⟨h1, h2⟩ := tyV_is I1 r1 ty
  exact ⟨T, id, pa, slot, hty, h1, h2, Calls.callWith_builtin rfl (PySem.evalArgs_none (hm pins s1 σ H1 x [] v [] Q I1 r1 .nil q1))⟩
theorem pe_bm (pa : PlainAttrs T) (slot : Slot T name id) (hty : typeOf (.builtin id) = pure (.type "method_descriptor")) (hm : MtR X id r) (ho : PE X o to) (ha : PA X (e :: es) t)
    (hbase : attributeBase o name X.env (eval o X.env) = eval o X.env := by rfl)
    (hfew : ((backTo cpos (starEach (e :: es) X.env)).all (fun x => !x.1) && (backToKw cpos (keywordEach [] X.env)).all (fun x => x.1.isSome)
      && decide ((e :: es).length + ([] : List Keyword).length + (if ([] : List Keyword).isEmpty then 0 else 1) < 30)) = true := by rfl)
    (hline : (apos.endLine == cpos.line) = true := by rfl) (hs : starEach (e :: es) X.env = (false, eval e X.env) :: starEach es X.env := by rfl) (hplain : (backTo cpos (starEach es X.env)).any (·.1) = false := by rfl) :
    PE X (.Call (.Attribute o name apos) (e :: es) [] cpos) (tBM X.K T r to t) := by
  intro pins s σ H Q I h
  refine wpAny_Call_method_late hbase hfew hline rfl (thn (ho pins s σ H _ I h) fun v s1 ⟨x, H1, I1, r1, ty, q1⟩ => ?_)
  obtain ⟨h1, h2⟩ := tyV_is I1 r1 ty
  refine ⟨T, id, pa, slot, hty, h1, h2, ?_⟩
  have hA := ha cpos pins s1 σ H1 _ I1 q1
  rw [hs] at hA ⊢
  refine Calls.callWith_builtin (by show (false || (backTo cpos (starEach es X.env)).any (·.1)) = false; rw [hplain] <;> rfl) (Calls.evalArgs_plain ?_)
  exact thn hA fun us s2 ⟨vs, H2, I2, r2, q2⟩ => hm pins s2 σ H2 x vs v us Q I2 r1 r2 q2
/- xs.append(e), list.index on a module's tuple .. are MtR facts of 06m -/
end
end L2

namespace L2
open PySem PySem.Spec PyProof.Rows

def MtM (X : Cx) (id : String) (r : V → List V → Hp → VK → Prop) : Prop :=
  ∀ (pins : List (Addr × Obj)) (s : Shared) (σ : St) (H : Hp) (x : V) (xs : List V) (v : Value) (us : List Value) (Q : VK), Inv X pins σ H s → RelV x v → Vals xs us → r x xs H Q →
    wpAny (model X.prog X.w) X.A (call (.builtin id) (v :: us)) (EP X pins σ Q) X.xe s

/-! ### lists of values -/
theorem Vals.one : ∀ {x : V} {us : List Value}, Vals [x] us → ∃ u, us = [u] ∧ RelV x u
  | _, _, .cons r .nil => ⟨_, rfl, r⟩
theorem Vals.zero : ∀ {us : List Value}, Vals [] us → us = []
  | _, .nil => rfl
theorem Vals.dropLast {xs : List V} {us : List Value} (h : Vals xs us) : Vals xs.dropLast us.dropLast := by
  induction h with
  | nil => exact .nil
  | cons r t ih =>
    cases t with
    | nil => exact .nil
    | cons q t' => exact .cons r ih
theorem Vals.rep {xs : List V} {us : List Value} (h : Vals xs us) : ∀ k : Nat, Vals (List.replicate k xs).flatten (List.replicate k us).flatten
  | 0 => .nil
  | k + 1 => by
    rw [List.replicate_succ, List.replicate_succ, List.flatten_cons, List.flatten_cons]
    exact Vals.append h (Vals.rep h k)
theorem erase_last {α : Type} (l : List α) : l.eraseIdx (l.length - 1) = l.dropLast := by
  induction l with
  | nil => rfl
  | cons a r ih =>
    cases r with
    | nil => rfl
    | cons b r =>
      have e : (a :: b :: r).length - 1 = ((b :: r).length - 1) + 1 := by
        have h1 : (a :: b :: r).length = r.length + 2 := rfl
        have h2 : (b :: r).length = r.length + 1 := rfl
        omega
      rw [e, List.eraseIdx_cons_succ, ih]
      all_goals rfl
theorem foldl_rep (its : List Value) : ∀ (k : Nat) (acc : List Value),
    List.foldl (fun x1 x2 => x1 ++ x2) acc.toArray (List.replicate k its.toArray) = (acc ++ (List.replicate k its).flatten).toArray
  | 0, acc => by simp
  | k + 1, acc => by
    have e : acc.toArray ++ its.toArray = (acc ++ its).toArray := by simp
    have e2 : (acc ++ its) ++ (List.replicate k its).flatten = acc ++ (List.replicate (k + 1) its).flatten := by
      rw [List.replicate_succ, List.flatten_cons, List.append_assoc]
    rw [← e2, ← foldl_rep its k (acc ++ its), ← e, List.replicate_succ, List.foldl_cons]

section
variable {X : Cx} {pins : List (Addr × Obj)} {σ : St} {H : Hp} {s : Shared} {l b : Addr} {xs ys zs : List V}

/-! ### the two steps: a tracked list is rewritten, a new list is laid -/
theorem Inv.lset {its its' : List Value} {n : Nat} {f : Array Value → Array Value} {t' : Nat} (I : Inv X pins σ H s) (hH : H l = some (.lst xs))
    (e : s.heap.get? l = some { cls := .type "list", data := .seq its.toArray n }) (hf : f its.toArray = its'.toArray) (hv : Vals ys its') (hz : ys.length ≤ sizeLine) :
    Inv X pins σ (upd H l (.lst ys)) { s with heap := s.heap.update l (Obj.mapSeq f), toks := t' } := by
  have q := PySem.IsL.update e f
  rw [hf] at q
  refine I.write (x := l) (e := l) (by rw [hH]; exact trivial) (.inl rfl) (fun b' u hb hu => (Heap.get?_update_other s.heap (Obj.mapSeq f) (Ne.symm hb)).trans hu) ⟨_, q⟩ ?_
  exact ⟨hz, its', _, hv, q⟩
theorem Inv.lnew {its : List Value} {t' : Nat} (I : Inv X pins σ H s) (hv : Vals ys its) (hz : ys.length ≤ sizeLine) :
    Inv X pins σ (upd H s.heap.objs.size (.lst ys)) { s with heap := s.heap.push { cls := .type "list", data := .seq its.toArray }, toks := t' } :=
  I.laid (fun _ _ q => Heap.get?_push_of_some _ q) (Nat.le_refl _) ⟨hz, its, 0, hv, Heap.get?_push_size _ rfl⟩
theorem Inv.fresh (I : Inv X pins σ H s) : H s.heap.objs.size = none := I.hok.fresh (Nat.le_refl _)
theorem Inv.lstM (I : Inv X pins σ H s) (hH : H l = some (.lst xs)) : xs.length ≤ sizeLine ∧ ∃ (its : List Value) (n : Nat), Vals xs its ∧ xs.length = its.length ∧ s.heap.get? l = some { cls := .type "list", data := .seq its.toArray n } := by
  obtain ⟨z, its, n, r, e⟩ := I.hok l _ hH
  exact ⟨z, its, n, r, r.length, e⟩

theorem notLongL {n : Nat} (h : n ≤ sizeLine) : Builtin.List.listTooLong n = false := by
  unfold Builtin.List.listTooLong
  exact decide_eq_false (by omega)
end

section
variable {X : Cx}

/-! ### methods -/
def rAppend : V → List V → Hp → VK → Prop := fun x vs H Q => ∃ l xs y, x = .ref l ∧ vs = [y] ∧ H l = some (.lst xs) ∧ xs.length < sizeLine ∧ Q .non (upd H l (.lst (xs ++ [y])))
theorem mt_append : MtM X "list.append" rAppend := by
  intro pins s σ H x vs v us Q I rx rv h
  obtain ⟨l, xs, y, rfl, rfl, hH, hz, q⟩ := h
  cases rx
  obtain ⟨u, rfl, ru⟩ := rv.one
  obtain ⟨z, its, n, r, hl, e⟩ := I.lstM hH
  refine call_meets F.slot_list_append ⟨_, e, rfl⟩ F.entry_list_append (F.args_list_append_2 _ _) (PySem.list_append l its.toArray n u (by rw [List.size_toArray]; omega)) ⟨e, ?_⟩
  refine ⟨.non, _, I.lset (its' := its ++ [u]) hH e (by simp) (r.append (.cons ru .nil)) ?_, rfl, q⟩
  rw [List.length_append, List.length_singleton]
  omega

def rExtend : V → List V → Hp → VK → Prop := fun x vs H Q => ∃ l b xs zs, x = .ref l ∧ vs = [.ref b] ∧ H l = some (.lst xs) ∧ H b = some (.lst zs) ∧ xs.length + zs.length ≤ sizeLine ∧ Q .non (upd H l (.lst (xs ++ zs)))
theorem mt_extend : MtM X "list.extend" rExtend := by
  intro pins s σ H x vs v us Q I rx rv h
  obtain ⟨l, b, xs, zs, rfl, rfl, hH, hB, hz, q⟩ := h
  cases rx
  obtain ⟨u, rfl, ru⟩ := rv.one
  cases ru
  obtain ⟨z, its, n, r, hl, e⟩ := I.lstM hH
  obtain ⟨z2, its2, n2, r2, hl2, e2⟩ := I.lstM hB
  have hsz : its.toArray.size + its2.toArray.size ≤ sizeLine := by rw [List.size_toArray, List.size_toArray]; omega
  have hlong : ¬ (!its.toArray.isEmpty && Builtin.List.listTooLong (its.toArray.size + its2.toArray.size)) = true := by
    rw [notLongL hsz, Bool.and_false]
    exact Bool.false_ne_true
  refine call_meets F.slot_list_extend ⟨_, e, rfl⟩ F.entry_list_extend (F.args_list_extend_2 _ _)
    (AutoSeq1.list_extend_list_list_0 l its.toArray n b its2.toArray n2 hlong (by rw [List.size_toArray]; omega) (by omega)) ⟨e, e2, ?_⟩
  refine ⟨.non, _, I.lset (its' := its ++ its2) hH e (by simp) (r.append r2) ?_, rfl, q⟩
  rw [List.length_append]
  omega

def rPop : V → List V → Hp → VK → Prop := fun x vs H Q => ∃ l xs y, x = .ref l ∧ vs = [] ∧ H l = some (.lst xs) ∧ xs[xs.length - 1]? = some y ∧ Q y (upd H l (.lst xs.dropLast))
theorem mt_pop : MtM X "list.pop" rPop := by
  intro pins s σ H x vs v us Q I rx rv h
  obtain ⟨l, xs, y, rfl, rfl, hH, hy, q⟩ := h
  cases rx
  have hus := rv.zero
  subst hus
  obtain ⟨z, its, n, r, hl, e⟩ := I.lstM hH
  obtain ⟨u, hu, ru⟩ := r.get hy
  have hy' : its.toArray[its.toArray.size - 1]? = some u := by
    show its.toArray[its.length - 1]? = some u
    rw [← Array.getElem?_toList, ← hl]
    exact hu
  refine call_meets F.slot_list_pop ⟨_, e, rfl⟩ F.entry_list_pop (F.args_list_pop_1 _) (MeetsSeq.list_pop_last l its.toArray n u hy' (by rw [List.size_toArray]; omega)) ⟨e, ?_⟩
  refine ⟨y, _, I.lset (its' := its.dropLast) hH e ?_ r.dropLast ?_, ru, q⟩
  · show its.toArray.eraseIdxIfInBounds (its.toArray.size - 1) = its.dropLast.toArray
    rw [List.size_toArray, List.eraseIdxIfInBounds_toArray, erase_last]
  · rw [List.length_dropLast]
    omega

/-! ### list + list, list += list, list * int -/
def rCat : R2 := fun x y H Q => ∃ l b xs zs, x = .ref l ∧ y = .ref b ∧ H l = some (.lst xs) ∧ H b = some (.lst zs) ∧ xs.length + zs.length ≤ sizeLine ∧ ∀ p, H p = none → Q (.ref p) (upd H p (.lst (xs ++ zs)))
theorem op_cat : OpR X (binaryOp .Add) rCat := by
  intro pins s σ H x y v u Q I rx ry h
  obtain ⟨l, b, xs, zs, rfl, rfl, hH, hB, hz, q⟩ := h
  cases rx
  cases ry
  obtain ⟨z, its, n, r, hl, e⟩ := I.lstM hH
  obtain ⟨z2, its2, n2, r2, hl2, e2⟩ := I.lstM hB
  refine PySem.P.add_list e e2 ?_ (by rw [List.size_toArray, List.size_toArray]; omega)
  have ea : its.toArray ++ its2.toArray = (its ++ its2).toArray := by simp
  rw [ea]
  exact ⟨.ref _, _, I.lnew (t' := s.toks) (r.append r2) (by rw [List.length_append]; omega), rfl, q _ I.fresh⟩
/-- a list times an int (a negative one is nothing) -/
def rRep : R2 := fun x y H Q => ∃ l k xs, x = .ref l ∧ y = .int k ∧ H l = some (.lst xs) ∧ -(2 ^ 63) ≤ k ∧ k < 2 ^ 63 ∧ xs.length * k.toNat ≤ sizeLine ∧
  ∀ p, H p = none → Q (.ref p) (upd H p (.lst (List.replicate k.toNat xs).flatten))
theorem len_rep {α : Type} (xs : List α) (k : Nat) : (List.replicate k xs).flatten.length = k * xs.length := by
  induction k with
  | zero => simp
  | succ k ih => rw [List.replicate_succ, List.flatten_cons, List.length_append, ih, Nat.succ_mul, Nat.add_comm]
theorem op_rep : OpR X (binaryOp .Mult) rRep := by
  intro pins s σ H x y v u Q I rx ry h
  obtain ⟨l, k, xs, rfl, rfl, hH, h1, h2, hz, q⟩ := h
  cases rx
  obtain ⟨t, rfl⟩ := ry
  obtain ⟨z, its, n, r, hl, e⟩ := I.lstM hH
  have hlen : its.toArray.size * k.toNat ≤ sizeLine := by rw [List.size_toArray, ← hl]; exact hz
  have hcap : ¬ its.toArray.size * k.toNat > (2 ^ 63 - 1) / 8 := by
    have : (sizeLine : Nat) ≤ (2 ^ 63 - 1) / 8 := by decide
    omega
  have hfit : ¬ (!Builtin.List.listFitsIndex k) = true := by
    rw [fitsIndex_both h1 h2]
    exact Bool.false_ne_true
  have hlong : ¬ Builtin.List.listTooLong (its.toArray.size * k.toNat) = true := by
    rw [notLongL hlen]
    exact Bool.false_ne_true
  have hnew : List.foldl (fun x1 x2 => x1 ++ x2) #[] (List.replicate (if its.toArray.isEmpty = true then 0 else k.toNat) its.toArray) = (List.replicate k.toNat its).flatten.toArray := by
    have f0 : ∀ m : Nat, List.foldl (fun x1 x2 => x1 ++ x2) #[] (List.replicate m its.toArray) = (List.replicate m its).flatten.toArray := fun m => by
      have := foldl_rep its m []
      rw [List.nil_append] at this
      exact this
    rw [f0]
    cases its with
    | nil => simp
    | cons a r' => rw [if_neg (by simp)]
  refine wpAny_binaryOp_repeat_ref (T := "list") (U := "int") (by decide) ⟨_, e, rfl⟩ (fun s' => typeIs_int s' k t) noFill_list_mul F.fills_int_mul F.slot_int_rmul repeat_list F.slot_int_index.lookup
    (call_meets F.slot_int_rmul (typeIs_int s k t) F.entry_int_rmul (F.args_int_rmul_2 _ _) (int___rmul___int_list k t l its.toArray n)
      ⟨e, rfl, ⟨_, e, rfl⟩, call_meets F.slot_list_mul ⟨_, e, rfl⟩ F.entry_list_mul (F.args_list_mul_2 _ _) (AutoListH.list___mul___list_int_3 l its.toArray n k t hfit hcap hlong) ⟨e, ?_⟩⟩)
  rw [hnew]
  exact ⟨.ref _, _, I.lnew (t' := s.toks) (r.rep k.toNat) (by rw [len_rep, Nat.mul_comm]; exact hz), rfl, q _ I.fresh⟩

end

/-! ### xs[a:b] = ys -/

end L2

namespace Att
open PySem PySem.W PySem.Calls PyProof.Rows

/-! ### the script -/
theorem ints_of_wellAll {P : Params} {h : Heap} : ∀ (ns : List Int) (vs : List Value), WellAll P h vs (ns.map WData.int) → IntsAre vs ns := by
  intro ns
  induction ns with
  | nil =>
    intro vs w
    rw [List.map_nil] at w
    cases w
    exact .nil
  | cons n ns ih =>
    intro vs w
    rw [List.map_cons] at w
    cases w with
    | cons a b =>
      cases a
      exact .cons _ _ (ih _ b)

theorem script_of {l : OpenLaw} {n : Nat} (hn : l.most = some n) {P : Params} {h : Heap} {args : List WData} {vals : List Value}
    (hpre : l.row.toRowW.claim.pre args = true) (hwl : WellAll P h vals args) :
    ∃ a vs ns, vals = [Value.ref a] ∧ args = [WData.list (ns.map WData.int)] ∧ h.get? a = some { cls := .type "list", data := .seq vs.toArray } ∧ IntsAre vs ns ∧ ns.length ≤ n := by
  have hsh : WShape.hasAll [] args [.list .int] = true := (pre_splitW hpre).1
  have hc : l.pre.holds [] { args := args } = true := (pre_splitW hpre).2
  obtain ⟨d, r, rfl, h1, h2⟩ := hasAllW_cons hsh
  obtain rfl := hasAllW_nil h2
  obtain ⟨xs, rfl, h3⟩ := hasW_list h1
  obtain ⟨ns, rfl⟩ := items_int h3
  have hlen : ns.length ≤ n := by
    unfold OpenLaw.pre at hc
    have h4 : (WTm.not (.lt (.lit (.int (n : Int))) (.len (.arg 0)))).holds [] { args := [.list (ns.map .int)] } = true := by
      have h4 := (holds_andW hc).1
      rw [hn] at h4
      exact h4
    have h5 := condW_of h4 (w_not (w_lt w_lit (w_len_list (w_arg rfl))))
    rw [List.length_map] at h5
    refine Nat.le_of_not_lt fun q => ?_
    have q' : (n : Int) < ((ns.length : Nat) : Int) := by omega
    first
      | (rw [decide_eq_true q'] at h5; exact absurd h5 (by decide))
      | (simp at h5; omega)
  cases hwl with
  | cons w1 w2 =>
    cases w2
    cases w1 with
    | list ho hall => exact ⟨_, _, ns, rfl, rfl, ho, ints_of_wellAll ns _ hall, hlen⟩

theorem post_true (l : OpenLaw) (args : List WData) : l.row.toRowW.claim.post args (.bool true) args = true :=
  postW_of (r := l.row.toRowW) (X := (true == true))
    (show WShape.has [] (.bool true) .bool = true by first | rfl | decide | simp [WShape.has, WShape.arms, WShape.armsAll])
    (show (WTm.eq .res (.lit (.bool true))).value [] { args := args, res := some (.bool true), after := args } = some (.bool (true == true)) from w_eq_bool (w_res rfl) w_lit) rfl

/-- the same from a codeAny of the CALL (for a layer whose function contracts speak of calls) -/
theorem attach_call {l : OpenLaw} {n : Nat} {q : Program} {loose : List Str} {XP : (Str → Option Value) → Heap → Prop} {YP : World → Heap → Prop} {d : DefRec}
    (hn : l.most = some n) (hdf : d.params.defaults = [])
    (call : ∀ (w : World) (s₀ s₁ : Shared) (mg mb : Str → Option Value) (fa : Addr) (o : Obj) (pm cd doc : Value) (a : Addr) (vs : List Value) (ns : List Int),
      Ground q loose [] XP w s₀ mg mb s₁.heap → YP w s₁.heap →
      s₁.heap.get? fa = some o → o.data = .func (docDef d.name d.params d.body d.scope pm cd doc) → s₁.heap.CodeRec cd d.name → mg d.name = some (.ref fa) →
      s₁.heap.get? a = some { cls := .type "list", data := .seq vs.toArray } → IntsAre vs ns → ns.length ≤ n → s₁.gens = #[] →
      codeAny (model l.prog w) callerA (.call (.ref fa) ⟨[.ref a], []⟩) (fun r s' => r = .ok (.ret (.bool true)) ∧ OldK s₁.heap s'.heap ∧ s'.os = s₁.os ∧ AllBare s'.gens) s₁) :
    WalkO q loose XP YP l.row.toRowW d [] (fun f vs => PySem.call f vs) := by
  intro w s₀ s₁ mg mb G Y fa o pm cd doc dV kV ho hd hcd hD hmg hg args vals as hpre hlay hrd hwl hlo
  obtain rfl : dV = .none := Dflts.none hD hdf
  obtain rfl : kV = .none := Dflts.noKw hD
  obtain ⟨a, vs, ns, rfl, rfl, hobj, hints, hlen⟩ := script_of hn hpre hwl
  refine enter_call (codeAny_mono (call w s₀ s₁ mg mb fa o pm cd doc a vs ns G Y ho (fd_plain hd) hcd hmg hobj hints hlen hg) fun r s' hq => ?_)
  obtain ⟨rfl, h2, h3, h4⟩ := hq
  exact ⟨.inl ⟨.bool true, .bool true, [], rfl, fun _ => rfl, .bool true, post_true l _, fun _ => ⟨List.Pairwise.nil, fun _ hm => (nomatch hm)⟩⟩, h2, h3, h4⟩

/-! ### rules over ANY heap (no ledger) from facts about the written part K: the library's own take a ledger (News) for what they write -/
section
variable {prog : Program} {w : World} {A : Around} {E : Value → Shared → Prop} {s : Shared} {K : Frag}

end
end Att

namespace L2
open PySem PySem.Spec PyProof.Rows

theorem vals_ints : ∀ {vs : List Value} {ns : List Int}, IntsAre vs ns → Vals (ns.map V.int) vs
  | _, _, .nil => .nil
  | _, _, .cons n t h => .cons ⟨t, rfl⟩ (vals_ints h)

/-- nothing is tracked but the script, known to the object (or it is an object of the module) -/
def Only (H : Hp) : Prop := ∀ b, H b = none ∨ ∃ o xs, H b = some (.frz o (.lst xs))

/-- THE HEAD: the law's promise, at the heap behind the top. F, the promise of the law's def, may use that base is part of the heap (so K.In base, base.Ns mainGlobals mg stand in Mod) -/
theorem law_call {P : Program} {w : World} {K : PySem.W.Frag} {mg mb : Str → Option Value} {CX : CXT} {k : Nat} {fa a : Addr} {fd : FuncData} {x : Str} {sp : Sp} {s₁ : Shared} {vs : List Value} {ns : List Int}
    (KX : K.In s₁.heap) (hns : s₁.heap.Ns mainGlobals mg) (hb : s₁.heap.Ns builtinsNs mb) (hbb : ∀ x : Str, x ≠ "__name__" → mb x = bootBuiltins x) (hlim : s₁.heap.NoLimit) (hg : s₁.gens = #[])
    (ha : s₁.heap.get? a = some { cls := .type "list", data := .seq vs.toArray }) (hi : IntsAre vs ns) (hl : ns.length ≤ sizeLine) (hr : Room k callerA)
    (F : ∀ base : Heap, K.In base → base.Ns mainGlobals mg → FnOk P w K mg base CX k fa fd [x] sp) (hbind : ∀ (s : Shared) (u : Value), BindsTo s fd ⟨[u], []⟩ [(x, u)])
    (hsp : ∀ H : Hp, Only H → SqL K H a (ns.map V.int) → sp [.ref a] H (fun v _ => v = .bl true) fun _ _ _ => False)
    (hCX : ∀ H e s', CX [] H s₁ (fun _ _ _ => False) e s' → False) :
    codeAny (model P w) callerA (.call (.ref fa) ⟨[.ref a], []⟩) (fun r s' => r = .ok (.ret (.bool true)) ∧ OldK s₁.heap s'.heap ∧ s'.os = s₁.os ∧ AllBare s'.gens) s₁ := by
  have rv := vals_ints hi
  have lenV := hi.length
  -- from an abstract heap in which nothing but the script may be tracked
  have core : ∀ H : Hp, Only H → SqL K H a (ns.map V.int) → HOk P w H s₁.heap → (∀ b, H b ≠ none → b = a) → (H a ≠ none → K.lookup a = none) →
      codeAny (model P w) callerA (.call (.ref fa) ⟨[.ref a], []⟩) (fun r s' => r = .ok (.ret (.bool true)) ∧ OldK s₁.heap s'.heap ∧ s'.os = s₁.os ∧ AllBare s'.gens) s₁ := by
    intro H hO hS hok hA hK
    have base_of : ∀ {b : Addr} {o : Obj}, s₁.heap.get? b = some o → H b = none → (hidT s₁.heap H).get? b = some o := fun e n => hidT_get e n
    have noA : ∀ {b : Addr} {o : Obj} {es : Array DictEntry} {ep : Nat}, s₁.heap.get? b = some o → o.data = .dict es ep → H b = none := fun {b o es ep} e d => by
      cases q : H b with
      | none => rfl
      | some u =>
        have e' : b = a := hA b (by rw [q]; simp)
        subst e'
        rw [ha] at e; cases e
        have d' : Data.seq vs.toArray _ = Data.dict es ep := d
        cases d'
    have nsK : ∀ {b : Addr} {m : Str → Option Value}, s₁.heap.Ns b m → (hidT s₁.heap H).Ns b m := fun {b m} ⟨o, es, ep, e, d, r⟩ => ⟨o, es, ep, base_of e (noA e d), d, r⟩
    have hKb : K.In (hidT s₁.heap H) := fun b o e => base_of (KX b o e) (by
      cases q : H b with
      | none => rfl
      | some u =>
        have e' : b = a := hA b (by rw [q]; simp)
        subst e'
        rw [hK (by rw [q]; simp)] at e; cases e)
    have hM : Mod K mg (hidT s₁.heap H) := ⟨hKb, nsK hns, ⟨mb, nsK hb, hbb⟩, let ⟨mc, h1, h2⟩ := hlim; ⟨mc, nsK h1, h2⟩⟩
    have e0 : Env0 P w K mg (hidT s₁.heap H) callerA [] s₁ H := ⟨rfl, hM, fun b o e => of_hidT e, Nat.le_of_eq (hidT_size _ _), trivial, fun b hb => absurd (show b ∈ ([] : List Addr) from hb) (by simp), hok, .of_eq hg⟩
    refine codeAny_mono ((F _ hKb (nsK hns)).run callerA [] s₁ H ⟨[.ref a], []⟩ [.ref a] [.ref a] _ _ hr e0 (hbind s₁ (.ref a)) (.cons rfl .nil) (hsp H hO hS)) fun r s' h => ?_
    cases r with
    | error e => exact (hCX H e s' h).elim
    | ok fl =>
      cases fl with
      | next => exact False.elim h
      | brk => exact False.elim h
      | cont => exact False.elim h
      | ret u =>
        obtain ⟨v, H', os, bare, un, hok', r', q⟩ := h
        have q' : v = .bl true := q
        subst q'
        obtain rfl : u = Value.bool true := r'
        refine ⟨rfl, OldK.of_keep fun b o e => ?_, os, bare⟩
        cases q : H b with
        | none => exact un.keep b o e q (by intro z; exact absurd (show b ∈ ([] : List Addr) from z) (by simp)) (by simp)
        | some u =>
          rcases hO b with z | ⟨ob, xs, z⟩
          · rw [q] at z; cases z
          · have z2 := un.frzs b ob _ z
            obtain ⟨e1, _⟩ := hok b _ z
            obtain ⟨e2, _⟩ := hok' b _ z2
            rw [e] at e1; cases e1
            exact e2
  cases hk : K.lookup a with
  | some o =>
    -- the script is one of the module's own objects
    have e := KX a o hk
    rw [ha] at e
    cases e
    refine core (fun _ => none) (fun _ => .inl rfl) (.inr ⟨_, vs.toArray, _, hk, rfl, rfl, rfl, by rw [List.size_toArray, lenV]; exact hl, by simpa using rv⟩) (fun b u z => by have z' : (none : Option HO) = some u := z; cases z') (fun b z => absurd rfl z) fun z => absurd rfl z
  | none =>
    refine core (fun b => if b = a then some (.frz { cls := .type "list", data := .seq vs.toArray } (.lst (ns.map V.int))) else none) (fun b => ?_) (.inl (.inr ⟨{ cls := .type "list", data := .seq vs.toArray }, if_pos rfl⟩)) (fun b u z => ?_) (fun b z => ?_) fun _ => hk
    · by_cases hb : b = a
      · exact .inr ⟨_, _, if_pos hb⟩
      · exact .inl (if_neg hb)
    · by_cases hb : b = a
      · have z' := (if_pos hb).symm.trans z
        cases z'
        subst hb
        exact ⟨ha, by rw [List.length_map]; exact hl, vs, _, rv, ha⟩
      · have z' := (if_neg hb).symm.trans z
        cases z'
    · by_cases hb : b = a
      · exact hb
      · exact absurd (if_neg hb) z
end L2

namespace L2
open PySem PySem.Spec PyProof.Rows

/-- the goal that k_head leaves (case hc), from the law's promise. F gives the function object fd (K's own) once, then the promise over every base -/
theorem walk_of {l : PySem.W.OpenLaw} {n k : Nat} {q : Program} {loose : List Str} {XP : (Str → Option Value) → Heap → Prop} {YP : World → Heap → Prop} {d : DefRec} {K : Params → PySem.W.Frag} {CX : World → CXT} {sp : World → Sp} {x : Str}
    (hn : l.most = some n) (hn2 : n ≤ sizeLine) (hdf : d.params.defaults = []) (hr : Room k callerA)
    (hY : ∀ (w : World) (h : Heap), YP w h → (K w.params).In h)
    (F : ∀ (w : World) (mg : Str → Option Value) (fa : Addr) (h : Heap), (K w.params).In h → h.Ns mainGlobals mg → mg d.name = some (.ref fa) →
      ∃ fd : FuncData, (∀ (s : Shared) (u : Value), BindsTo s fd ⟨[u], []⟩ [(x, u)]) ∧
        ∀ base : Heap, (K w.params).In base → base.Ns mainGlobals mg → FnOk l.prog w (K w.params) mg base (CX w) k fa fd [x] (sp w))
    (hsp : ∀ (w : World) (H : Hp) (a : Addr) (ns : List Int), ns.length ≤ n → Only H → SqL (K w.params) H a (ns.map V.int) → sp w [.ref a] H (fun v _ => v = .bl true) fun _ _ _ => False)
    (hCX : ∀ (w : World) (H : Hp) (s : Shared) (e : Value) (s' : Shared), CX w [] H s (fun _ _ _ => False) e s' → False) :
    PySem.W.WalkO q loose XP YP l.row.toRowW d [] (fun f vs => PySem.call f vs) := by
  refine Att.attach_call hn hdf fun w s₀ s₁ mg mb fa o pm cd doc a vs ns G Y ho hd hcd hmg hobj hints hlen hg => ?_
  have KX := hY w _ Y
  obtain ⟨fd, hb, hF⟩ := F w mg fa _ KX G.T.g hmg
  exact law_call KX G.T.g G.T.b G.T.builtins G.T.nolimit hg hobj hints (Nat.le_trans hlen hn2) hr hF hb (fun H hO hS => hsp w H a ns hlen hO hS) fun H e s' => hCX w H s₁ e s'
end L2



/-! SHORT WORDS over the layer: a def of the text, its body, what a loop and a test want. -/
namespace L2
open PySem PySem.Spec PyProof.Rows

/-! ### the text by places -/
/-- the j-th statement of a class's body -/
def inClass (s : Stmt) (j : Nat) : Stmt := match s with
  | .ClassDef _ _ _ body _ _ _ _ _ _ _ => body.getD j (.Pass ⟨0, 0, 0, 0⟩)
  | _ => .Pass ⟨0, 0, 0, 0⟩
def defArgs (s : Stmt) : Arguments := match s with
  | .FunctionDef _ a _ _ _ _ _ _ _ _ => a
  | _ => { posonlyargs := [], args := [], vararg := none, kwonlyargs := [], kw_defaults := [], kwarg := none, defaults := [] }
def defBody (s : Stmt) : List Stmt := match s with
  | .FunctionDef _ _ b _ _ _ _ _ _ _ => b
  | _ => []
def defScope (s : Stmt) : Scope := match s with
  | .FunctionDef _ _ _ _ _ _ sc _ _ _ => sc
  | _ => { kind := .function, names := [], isGenerator := false, isCoroutine := false }

/-! ### no exception leaves a def -/
abbrev CX0 : CXT := fun _ _ _ _ _ _ => False
abbrev E0 : XK := fun _ _ _ => False
theorem pass0 {X : Cx} : Passes CX0 X E0 := fun _ _ _ _ _ _ _ h => h.elim

/-! ### a def (or method) of the text as it stands behind the top -/
structure Fun (K : PySem.W.Frag) (x qual : Str) (st : Stmt) (f : Addr) (fd : FuncData) : Prop where
  ex : ∃ (oc : Value) (od : Option Addr) (kV doc pm : Value) (an : Option Addr) (cdv ct : Value) (osl : Array (Option Value)),
    fd = PySem.W.fnOf x qual (defArgs st) (defBody st) (defScope st) .none kV doc pm an cdv ct ∧ K.lookup f = some ⟨oc, od, .func fd, osl⟩ ∧ PySem.W.codeIn K cdv qual = true
  kp : PySem.W.keepIn K (.ref f) = true
section
variable {P : Program} {w : World} {K : PySem.W.Frag} {mg : Str → Option Value} {base : Heap}
/-- THE RULE for a def: its body as a term of rules, and the reading of that term -/
theorem Fun.ok {x qual : Str} {st : Stmt} {f : Addr} {fd : FuncData} {N ps : List Str} {k : Nat} {sp : Sp} (F : Fun K x qual st f fd) (S : FnScope N ps (defScope st)) (len : ∀ vs H Q E, sp vs H Q E → vs.length = ps.length)
    (hbody : ∀ (cdv : Value) (A : Around) (outer : List Env) (s : Shared) (H : Hp) (vs : List V) (Q : VK) (E : XK), Room k (A.deeper (envOfC qual (defScope st) s.heap.objs.size f cdv)) → sp vs H Q E →
      ∃ t, PSs (cxOf CX0 P w K mg base N qual (defScope st) f cdv A outer s H E).nox (defBody st) t ∧ t { nx := fun _ H' => Q .non H', rt := Q } (start N vs) H) : FnOk P w K mg base CX0 (k + 1) f fd ps sp := by
  obtain ⟨oc, od, kV, doc, pm, an, cdv, ct, osl, rfl, lk, hcd⟩ := F.ex
  refine fn_of lk hcd S len fun A outer s H vs Q E hr hsp => ?_
  obtain ⟨t, h, q⟩ := hbody cdv A outer s H vs Q E hr hsp
  exact ⟨t, h.nox, q⟩
/-- how its arguments bind (no defaults): h is «fun _ _ _ _ _ _ us hl => match us, hl with | [_, _], _ => rfl», one _ a parameter -/
theorem Fun.binds {x qual : Str} {st : Stmt} {f : Addr} {fd : FuncData} {ps : List Str} (F : Fun K x qual st f fd)
    (h : ∀ (kV doc pm : Value) (an : Option Addr) (cdv ct : Value) (us : List Value), us.length = ps.length → bindArgs (PySem.W.fnOf x qual (defArgs st) (defBody st) (defScope st) .none kV doc pm an cdv ct) ⟨us, []⟩ = pure (ps.zip us)) : Binds K fd ps [] := by
  obtain ⟨oc, od, kV, doc, pm, an, cdv, ct, osl, rfl, lk, hcd⟩ := F.ex
  exact .all (h kV doc pm an cdv ct)
theorem fun_mk {x qual : Str} {st : Stmt} {f : Addr} {oc : Value} {od an : Option Addr} {osl : Array (Option Value)} {kV doc pm cdv ct : Value} (l : K.lookup f = some ⟨oc, od, .func (PySem.W.fnOf x qual (defArgs st) (defBody st) (defScope st) .none kV doc pm an cdv ct), osl⟩)
    (c : PySem.W.codeIn K cdv qual = true) (k : PySem.W.keepIn K (.ref f) = true) : Fun K x qual st f (PySem.W.fnOf x qual (defArgs st) (defBody st) (defScope st) .none kV doc pm an cdv ct) := ⟨⟨oc, od, kV, doc, pm, an, cdv, ct, osl, rfl, l, c⟩, k⟩
end
theorem small1000 {n : Nat} (h : n ≤ 1000) : n < sizeLine := Nat.lt_of_le_of_lt h (by decide)

/-! ### expressions in short: the name that stands in the i-th slot -/
section
variable {X : Cx}
theorem pv (i : Nat) {x : Str} {pos : Pos} (hN : X.N[i]? = some x := by rfl) (hv : Vis X.env.scope x := by first | exact Or.inl rfl | exact Or.inr (Or.inl rfl) | exact Or.inr (Or.inr rfl)) (hd : (x == ("__debug__" : Str)) = false := by decide)
    (hcd : (x == ("__classdict__" : Str)) = false := by decide) : PE X (.Name x pos) (tVar i) := pe_var hN hv hd hcd
end

/-! ### tests -/
theorem iteF {A B : Prop} (h : B) : if false = true then A else B := by
  rw [if_neg Bool.false_ne_true]
  exact h
theorem iteT {A B : Prop} (h : A) : if true = true then A else B := by
  rw [if_pos rfl]
  exact h
/-! ### heaps -/
/-- all that was tracked is as it was -/
def Same (H H' : Hp) : Prop := ∀ b o, H b = some o → H' b = some o
theorem Same.refl (H : Hp) : Same H H := fun _ _ h => h
theorem Same.trans {H H1 H2 : Hp} (a : Same H H1) (b : Same H1 H2) : Same H H2 := fun c o h => b c o (a c o h)
theorem Same.free {H H' : Hp} (e : Same H H') {l : Addr} (h : H' l = Option.none) : H l = Option.none := by
  cases q : H l with
  | none => rfl
  | some o =>
    rw [e l o q] at h
    cases h
theorem Same.seq {K : PySem.W.Frag} {H H' : Hp} {a : Addr} {xs : List V} (e : Same H H') (h : SqL K H a xs) : SqL K H' a xs := by
  rcases h with (h | ⟨o, h⟩) | h
  · exact .inl (.inl (e _ _ h))
  · exact .inl (.inr ⟨o, e _ _ h⟩)
  · exact .inr h

end L2


section
set_option Elab.async false
set_option linter.all false
set_option maxRecDepth 100000
set_option maxHeartbeats 4000000
/-! My own rules behind the layer: list comprehensions. -/
namespace L2
open PySem PySem.Spec PyProof.Rows

/-! ### the loop of a comprehension, no exception within -/
section
variable {prog : Program} {w : World} {A : Around} {R : Result → Shared → Prop} {s : Shared}
/-- the tests of a clause -/
def lcTests (ifs : List Expr) (env : Env) : Sem Bool :=
  forIn ifs true fun c r => if r = true then do let ok ← isTrue c env (eval c env); pure (ForInStep.yield ok) else pure (ForInStep.yield r)
theorem lc_loop {elt tg iter : Expr} {ifs : List Expr} {scope : Scope} {pos : Pos} {it acc : Value} {env : Env} (J : Nat → Shared → Prop)
    (turn : ∀ n s, J n s → wpAny (model prog w) A (pyNext it) (fun r s1 => match r with
      | none => R (.ok .next) s1
      | some v => wpAny (model prog w) A (letOwnedTupleGo tg it v) (fun _ s2 => wpAny (model prog w) A (assign tg env v) (fun _ s3 => wpAny (model prog w) A (lcTests ifs env) (fun ok s4 =>
          if ok = true then wpAny (model prog w) A (eval elt env) (fun x s5 => wpAny (model prog w) A (call (.builtin "list.append") [acc, x]) (fun _ s6 => ∃ m, m < n ∧ J m s6) (fun _ _ => False) s5) (fun _ _ => False) s4
          else ∃ m, m < n ∧ J m s4) (fun _ _ => False) s3) (fun _ _ => False) s2) (fun _ _ => False) s1) (fun _ _ => False) s)
    (n : Nat) (h : J n s) : codeAny (model prog w) A (.compLoop (.ListComp elt [⟨tg, iter, ifs, 0⟩] scope pos) 0 it acc env) R s := by
  refine codeAny_loop rfl J (fun n s hJ => ?_) n h
  show wpAny _ A (Sem.onRaise (compTurn (.ListComp elt [⟨tg, iter, ifs, 0⟩] scope pos) 0 it acc env) _) _ _ s
  refine wpAny_noted ?_
  rw [compTurn_list]
  refine wpAny_bind (wpAny_standAt (wpAny_bind (wpAny_mono (turn n s hJ) (fun r s1 h1 => ?_) (fun _ _ z => z.elim))))
  cases r with
  | none => exact wpAny_pure h1
  | some v =>
    refine wpAny_bind (wpAny_mono h1 (fun _ s2 h2 => wpAny_bind (wpAny_mono h2 (fun _ s3 h3 => wpAny_bind (wpAny_mono h3 (fun ok s4 h4 => ?_) (fun _ _ z => z.elim))) (fun _ _ z => z.elim))) (fun _ _ z => z.elim))
    cases ok with
    | false => exact wpAny_pure ⟨rfl, h4⟩
    | true => exact wpAny_bind (wpAny_bind (wpAny_mono h4 (fun x s5 h5 => wpAny_bind (wpAny_mono h5 (fun _ s6 h6 => wpAny_pure (wpAny_pure ⟨rfl, h6⟩)) (fun _ _ z => z.elim))) (fun _ _ z => z.elim)))
end

/-! ### the closure of a comprehension's block -/
def cloGo (env : Env) : List (Str × NameKind) → List (Str × Addr) → List (Str × Addr)
  | [], cs => cs
  | y :: r, cs => if y.2 = .free then cloGo env r ((y.1, (env.cells.lookup y.1).getD 0) :: cs) else cloGo env r cs
theorem clo_run {env : Env} (f : Str × NameKind → List (Str × Addr) → Sem (ForInStep (List (Str × Addr))))
    (h1 : ∀ y cs c, y.2 = .free → env.cells.lookup y.1 = some c → f y cs = pure (.yield ((y.1, c) :: cs))) (h2 : ∀ y cs, y.2 ≠ .free → f y cs = pure (.yield cs)) :
    ∀ (ns : List (Str × NameKind)) (cs : List (Str × Addr)), (∀ y ∈ ns, y.2 = .free → ∃ c, env.cells.lookup y.1 = some c) → forIn ns cs f = (pure (cloGo env ns cs) : Sem (List (Str × Addr)))
  | [], cs, _ => by simp [cloGo]
  | y :: r, cs, h => by
    have hr : ∀ z ∈ r, z.2 = .free → ∃ c, env.cells.lookup z.1 = some c := fun z hz => h z (List.mem_cons_of_mem _ hz)
    rw [List.forIn_cons]
    by_cases hy : y.2 = .free
    · obtain ⟨c, hc⟩ := h y List.mem_cons_self hy
      rw [h1 y cs c hy hc]
      simp only [cloGo, if_pos hy, hc, Option.getD_some]
      exact clo_run f h1 h2 r _ hr
    · rw [h2 y cs hy]
      simp only [cloGo, if_neg hy]
      exact clo_run f h1 h2 r _ hr
theorem closure_eq {scope : Scope} {env : Env} (h : ∀ y ∈ scope.names, y.2 = .free → ∃ c, env.cells.lookup y.1 = some c) : closureFor scope env = pure (cloGo env scope.names []) := by
  unfold closureFor
  dsimp only
  rw [clo_run (env := env) _ (fun y cs c hy hc => ?_) (fun y cs hy => ?_) scope.names [] h]
  · rfl
  · obtain ⟨n, k⟩ := y
    dsimp only at hy hc ⊢
    subst hy
    simp only [cellOf, hc, beq_self_eq_true, if_true]
    rfl
  · obtain ⟨n, k⟩ := y
    have e : (k == NameKind.free) = false := by simpa using hy
    simp only [e, Bool.false_eq_true, if_false]
theorem cloGo_sub {env : Env} : ∀ (ns : List (Str × NameKind)) (cs : List (Str × Addr)) (x : Str) (c : Addr), (∀ y ∈ ns, y.2 = .free → ∃ c, env.cells.lookup y.1 = some c) →
    (∀ z d, cs.lookup z = some d → env.cells.lookup z = some d) → (cloGo env ns cs).lookup x = some c → env.cells.lookup x = some c
  | [], cs, x, c, _, hc, h => hc x c h
  | y :: r, cs, x, c, hy, hc, h => by
    have hr : ∀ z ∈ r, z.2 = .free → ∃ c, env.cells.lookup z.1 = some c := fun z hz => hy z (List.mem_cons_of_mem _ hz)
    unfold cloGo at h
    split at h
    · rename_i hk
      obtain ⟨d, hd⟩ := hy y List.mem_cons_self hk
      rw [hd] at h
      refine cloGo_sub r _ x c hr (fun z e hz => ?_) h
      rw [List.lookup_cons] at hz
      split at hz
      · rename_i hzy
        cases hz
        rw [eq_of_beq hzy]; exact hd
      · exact hc z e hz
    · exact cloGo_sub r _ x c hr hc h
theorem cloGo_keep {env : Env} : ∀ (ns : List (Str × NameKind)) (cs : List (Str × Addr)) (x : Str), (cs.lookup x).isSome = true → ((cloGo env ns cs).lookup x).isSome = true
  | [], _, _, h => h
  | y :: r, cs, x, h => by
    unfold cloGo
    split
    · refine cloGo_keep r _ x ?_
      rw [List.lookup_cons]
      split
      · rfl
      · exact h
    · exact cloGo_keep r _ x h
theorem cloGo_has {env : Env} : ∀ (ns : List (Str × NameKind)) (cs : List (Str × Addr)) (x : Str), (x, NameKind.free) ∈ ns → ((cloGo env ns cs).lookup x).isSome = true
  | [], _, _, h => by simp at h
  | y :: r, cs, x, h => by
    rcases List.mem_cons.mp h with e | e
    · subst e
      unfold cloGo
      rw [if_pos rfl]
      exact cloGo_keep r _ x (by simp)
    · unfold cloGo
      split
      · exact cloGo_has r _ x e
      · exact cloGo_has r _ x e
theorem relabel_of {scope : Scope} {env : Env} {x : Str} {k : NameKind} (h : (relabel scope env).names.lookup x = some k) : (x, k) ∈ scope.names ∨ ((x, NameKind.free) ∈ scope.names ∧ k = NameKind.cell) := by
  have m := PySem.mem_of_lookup h
  obtain ⟨⟨n, k'⟩, hm, e⟩ := List.mem_map.mp m
  dsimp only at e
  split at e
  · rename_i hk
    cases e
    simp only [Bool.and_eq_true, beq_iff_eq] at hk
    rw [hk.1.1] at hm
    exact .inr ⟨hm, rfl⟩
  · cases e
    exact .inl hm
theorem relabel_free {scope : Scope} {env : Env} (hk : env.scope.kind = .function) {x : Str} (hx : env.kindOf x = some .cell) (h : scope.names.lookup x = some .free) : (relabel scope env).names.lookup x = some .cell := by
  unfold relabel
  show (scope.names.map _).lookup x = some NameKind.cell
  generalize scope.names = ns at h
  induction ns with
  | nil => simp at h
  | cons y r ih =>
    obtain ⟨n, k⟩ := y
    rw [List.lookup_cons] at h
    rw [List.map_cons]
    split at h
    · rename_i hn
      cases h
      rw [← eq_of_beq hn]
      simp [hk, hx]
    · rename_i hn
      dsimp only
      split
      · rw [List.lookup_cons, hn]; exact ih h
      · rw [List.lookup_cons, hn]; exact ih h

/-! ### the block's context -/
def cxLc (X : Cx) (scope : Scope) (N : List Str) (C : Addr) (s : Shared) (H : Hp) (fp : List Addr) : Cx :=
  { X with N := N, s₀ := s, H₀ := H, env := compEnvC scope (cloGo X.env scope.names []) C X.env, outer := X.stack, ex := fp, fn := fun _ => false, pn := [], xe := fun _ _ => False }
/-- what must hold of the scopes: N₀, sc₀ are the def's; N the block's names: x, then those from around, which stand in the def's slots ix -/
structure LcScope (N₀ : List Str) (sc₀ sc : Scope) (x : Str) (N : List Str) (ix : List Nat) : Prop where
  kind : sc.kind = .function
  nocell : ∀ y ∈ sc.names, y.2 ≠ .cell
  names : ∀ y ∈ sc.names, y.2 = .local → sc.names.lookup y.1 = some .local
  free : ∀ y ∈ sc.names, y.2 = .free → sc₀.names.lookup y.1 = some .cell
  nd : N.Nodup
  hd : N.head? = some x
  loc : sc.names.lookup x = some .local
  len : N.length = ix.length + 1
  at_ : ∀ p ∈ N.tail.zip ix, N₀[p.2]? = some p.1 ∧ sc.names.lookup p.1 = some .free
/-- the values of the names from around -/
def frV (σ : St) (ix : List Nat) : St := ix.map fun j => (σ[j]?).getD none
def PIf (X : Cx) (ifs : List Expr) (t : TT) : Prop :=
  ∀ (pins : List (Addr × Obj)) (s : Shared) (σ : St) (H : Hp) (Q : Bool → Hp → Prop), Inv X pins σ H s → t σ H Q → wpAny (model X.prog X.w) X.A (lcTests ifs X.env) (TP X pins σ Q) X.xe s
def tYes : TT := fun _ H Q => Q true H
theorem pif_nil {X : Cx} : PIf X [] tYes := fun pins s σ H Q I h => wpAny_tests_nil ⟨H, I, h⟩
theorem pif_one {X : Cx} {c : Expr} {t : TT} (h : PT X c t) : PIf X [c] t := fun pins s σ H Q I hw => wpAny_tests_one (h pins s σ H Q I hw)
/-- what is told of a comprehension: J the walked thing, H the heap at its begin -/
def rdLc (J : It) (H1 : Hp) (fr : St) (tc : TT) (te : TE) (Q : VK) : Prop := ∀ D, H1 D = none → ∃ W : Nat → Nat → Hp → Prop, (∃ m, W 0 m (upd H1 D (.lst []))) ∧ ∀ i m H, W i m H →
  (J.stop i H ∧ Q (.ref D) H) ∨ (J.go i H ∧ ∀ x H', J.yld i H x H' → tc (some x :: fr) H' fun b H3 =>
    if b = true then te (some x :: fr) H3 fun y H4 => ∃ ys, H4 D = some (.lst ys) ∧ ys.length < sizeLine ∧ ∃ m', m' < m ∧ W (i + 1) m' (upd H4 D (.lst (ys ++ [y]))) else ∃ m', m' < m ∧ W (i + 1) m' H3)
def tLc (wi : TI) (ix : List Nat) (tc : TT) (te : TE) : TE := fun σ H Q => wi σ H fun J H1 => rdLc J H1 (frV σ ix) tc te Q

section
variable {X : Cx} {scope : Scope} {N : List Str} {ix : List Nat} {x : Str} {px : Pos} {elt iter : Expr} {ifs : List Expr} {tc : TT} {te : TE} {pos : Pos}
theorem lc_ok {pins : List (Addr × Obj)} {σ : St} {H2 : Hp} {s2 : Shared} {J : It} {fp : List Addr} {it : Addr} {tn : Nat → Heap → Prop} {tg : Expr} (L : LcScope X.N X.env.scope scope x N ix) (I2 : Inv X pins σ H2 s2)
    (T : Turn X.prog X.w X.K tg J fp it tn) (st2 : tn 0 s2.heap) (f2 : ∀ b ∈ fp, FpOk X pins H2 b) {C : Addr} {s3 s4 : Shared} {H3 : Hp} (I3 : Inv X pins σ H3 s3) (I4 : Inv X pins σ H3 s4) (hle : s2.heap.objs.size ≤ s3.heap.objs.size)
    (hC : C = s3.heap.objs.size) (ho : s4.os = s3.os) (kp : ∀ b u, s3.heap.get? b = some u → s4.heap.get? b = some u) {m : Str → Option Value} (hns : s4.heap.Ns C m) : Inv (cxLc X scope N C s3 H3 fp) [] (none :: frV σ ix) H3 s4 := by
  have hfree : ∀ y ∈ scope.names, y.2 = .free → ∃ c, X.env.cells.lookup y.1 = some c := fun y hy hf => I2.ok.has y.1 (.inl (L.free y hy hf))
  have sub : ∀ y c, (cloGo X.env scope.names []).lookup y = some c → X.env.cells.lookup y = some c := fun y c h => cloGo_sub _ _ y c hfree (fun _ _ z => by simp at z) h
  have lt2 : ∀ b ∈ fp, b < s2.heap.objs.size := fun b hb => by obtain ⟨o, e, _⟩ := T.obj _ _ st2 b hb; exact Heap.lt_size e
  have okY : (cxLc X scope N C s3 H3 fp).Ok := by
    refine ⟨I2.ok.mod, L.kind, I2.ok.glob, I2.ok.blt, Nat.le_of_eq hC.symm, fun y z c h1 h2 => I2.ok.inj y z c (sub y c h1) (sub z c h2), fun y hy => ?_, fun y c z _ => ?_, I2.ok.hd, I2.ok.frames, .inl rfl, fun b hb => ⟨?_, fun y c h => (f2 b hb).2.2.2.2.1 y c (sub y c h)⟩,
      I3.bs, Nat.le_trans I3.ok.bsz I3.sz, fun b o e hb => ?_, fun b hb z => ?_, I3.stack, I3.stkFree⟩
    · have hk : (y, NameKind.free) ∈ scope.names := by
        rcases hy with hy | hy
        · rcases relabel_of hy with q | q
          · exact absurd rfl (L.nocell _ q)
          · exact q.1
        · rcases relabel_of hy with q | q
          · exact q
          · exact absurd q.2 (by decide)
      exact Option.isSome_iff_exists.mp (cloGo_has _ _ y hk)
    · cases (show false = true from z)
    · have l := lt2 b hb
      show b ≠ C
      rw [hC]
      exact Nat.ne_of_lt (Nat.lt_of_lt_of_le l hle)
    · rcases (f2 b hb).2.2.2.1 with q | q
      · exact I2.ok.noex b o e q
      · exact absurd (Nat.lt_of_lt_of_le (Heap.lt_size e) (Nat.le_trans I2.ok.bsz q)) (Nat.lt_irrefl _)
    · rcases List.mem_cons.mp (I2.stkSub b z) with q | q
      · exact (f2 b hb).2.1 q
      · exact (f2 b hb).2.2.1 q
  refine ⟨okY, ho, I4.bare, Un.kept kp, ⟨m, hns, fun i y v h1 h2 h3 => ?_⟩, fun y c e => I4.cell y c (sub y c e), ?_, fun y c e => I4.freeC y c (sub y c e), fun p hp => absurd (show p ∈ ([] : List (Addr × Obj)) from hp) (by simp), I4.hok, ?_⟩
  · cases i with
    | zero => cases (show some none = some (some v) from h2)
    | succ k =>
      have h2 : (frV σ ix)[k]? = some (some v) := h2
      have h1 : N[k + 1]? = some y := h1
      unfold frV at h2
      rw [List.getElem?_map] at h2
      cases hj : ix[k]? with
      | none => rw [hj] at h2; cases h2
      | some j =>
        rw [hj] at h2
        have h2 : (σ[j]?).getD none = some v := Option.some.inj h2
        have h2' : σ[j]? = some (some v) := by
          cases e : σ[j]? with
          | none => rw [e] at h2; cases h2
          | some z => rw [e] at h2; exact congrArg some h2
        have ht : N.tail[k]? = some y := by rw [List.getElem?_tail]; exact h1
        have hz : (y, j) ∈ N.tail.zip ix := List.mem_of_getElem? (i := k) (by rw [List.getElem?_zip_eq_some]; exact ⟨ht, hj⟩)
        obtain ⟨q1, q2⟩ := L.at_ _ hz
        have hm := PySem.mem_of_lookup q2
        have hcell := L.free _ hm rfl
        obtain ⟨m', hn', hl'⟩ := I4.loc
        obtain ⟨u, r, lk⟩ := hl' j y v q1 h2' (.inr (.inl hcell))
        refine ⟨u, r, .inr ⟨.inl (relabel_free I2.ok.kind hcell q2), ?_⟩⟩
        rcases lk with lk | ⟨_, c, e, z⟩
        · rw [show X.env.kindOf y = some .cell from hcell] at lk
          cases lk.1
        · obtain ⟨c', e'⟩ := Option.isSome_iff_exists.mp (cloGo_has (env := X.env) scope.names [] y hm)
          have e2 := sub y c' e'
          rw [e] at e2
          cases e2
          exact ⟨c, e', z⟩
  · show H3 C = none
    exact I3.hok.fresh (Nat.le_of_eq hC.symm)
  · show (none :: frV σ ix).length = N.length
    rw [L.len]
    simp [frV]
theorem lc_run {tgt : Expr} (htg : tgt = .Name x px) {pins : List (Addr × Obj)} {σ : St} {H2 : Hp} {s2 : Shared} {J : It} {fp : List Addr} {it : Addr} {tn : Nat → Heap → Prop} (hc : X.calm = true) (L : LcScope X.N X.env.scope scope x N ix) (I2 : Inv X pins σ H2 s2)
    (T : Turn X.prog X.w X.K tgt J fp it tn) (st2 : tn 0 s2.heap) (f2 : ∀ b ∈ fp, FpOk X pins H2 b)
    (hif : ∀ C s H, PIf (cxLc X scope N C s H fp) ifs tc) (he : ∀ C s H, PE (cxLc X scope N C s H fp) elt te) {Q : VK} (rd : rdLc J H2 (frV σ ix) tc te Q) {RR : Value → Addr → Result → Shared → Prop} {E : Value → Shared → Prop}
    (fin : ∀ D C H' s' m, Inv X pins σ H' s' → s2.heap.objs.size ≤ C → H' C = none → s'.heap.Ns C m → Q (.ref D) H' → RR (.ref D) C (.ok .next) s') :
    wpAny (model X.prog X.w) X.A (newList []) (fun acc s3 => wpAny (model X.prog X.w) X.A (newFunctionEnv scope X.env.globals (cloGo X.env scope.names []) [] X.env.qual none .none (some X.env)) (fun cenv s4 =>
      codeAny (model X.prog X.w) X.A (.compStart (.ListComp elt [⟨tgt, iter, ifs, 0⟩] scope pos) 0 (.ref it) acc { cenv with scope := relabel scope X.env }) (RR acc cenv.locals) s4) E s3) E s2 := by
  refine wpAny_newObj_type (wpAny_newFunctionEnv L.nocell (by intro y hy; simp at hy) (fun h1 hns hsb => ?_) L.kind)
  dsimp only at hns hsb ⊢
  have I3 : Inv X pins σ (upd H2 s2.heap.objs.size (.lst [])) { s2 with heap := s2.heap.push { cls := .type "list", dict := none, data := .seq ([] : List Value).toArray } } := I2.lnew (its := []) (t' := s2.toks) .nil (Nat.zero_le _)
  generalize hH3 : s2.heap.push { cls := .type "list", dict := none, data := .seq ([] : List Value).toArray } = h3 at hns hsb I3 ⊢
  have hsz : h3.objs.size = s2.heap.objs.size + 1 := by rw [← hH3, Heap.size_push]
  have kp34 : ∀ b u, h3.get? b = some u → h1.get? b = some u := fun b u e => hsb.extBut b u (Nat.ne_of_lt (Heap.lt_size e)) (Heap.get?_push_of_some _ e)
  have I4 : Inv X pins σ (upd H2 s2.heap.objs.size (.lst [])) { s2 with heap := h1, toks := s2.toks + ([] : List (Str × Value)).length } := I3.kept (t' := s2.toks + ([] : List (Str × Value)).length) kp34
  have kp24 : ∀ b u, s2.heap.get? b = some u → h1.get? b = some u := fun b u e => kp34 b u (by rw [← hH3]; exact Heap.get?_push_of_some _ e)
  have IY := lc_ok (C := h3.objs.size) (s3 := { s2 with heap := h3 }) L I2 T st2 f2 I3 I4 (by show s2.heap.objs.size ≤ h3.objs.size; omega) rfl rfl kp34 hns
  have fD : H2 s2.heap.objs.size = none := I2.hok.fresh (Nat.le_refl _)
  have lt2 : ∀ b ∈ fp, b < s2.heap.objs.size := fun b hb => by obtain ⟨o, e, _⟩ := T.obj _ _ st2 b hb; exact Heap.lt_size e
  have st4 : tn 0 h1 := T.keep _ _ _ st2 fun b _ o e => kp24 b o e
  have stat : ∀ {pn : List (Addr × Obj)} {H' : Hp}, pn = [] → (∀ b ∈ fp, H' b = none) → ∀ b ∈ fp, FpOk (cxLc X scope N h3.objs.size { s2 with heap := h3 } (upd H2 s2.heap.objs.size (.lst [])) fp) pn H' b := fun hp hn b hb => by
    subst hp
    exact ⟨hn b hb, (IY.ok.exf b hb).1, IY.ok.exfs b hb, .inl hb, (IY.ok.exf b hb).2, fun p hp => absurd (show p ∈ ([] : List (Addr × Obj)) from hp) (by simp)⟩
  obtain ⟨W, ⟨m0, w0⟩, turn⟩ := rd _ fD
  have loop : codeAny (model X.prog X.w) X.A (.compLoop (.ListComp elt [⟨tgt, iter, ifs, 0⟩] scope pos) 0 (.ref it) (.ref s2.heap.objs.size) (compEnvC scope (cloGo X.env scope.names []) h3.objs.size X.env)) (RR (.ref s2.heap.objs.size) h3.objs.size)
      { s2 with heap := h1, toks := s2.toks + ([] : List (Str × Value)).length } := by
    refine lc_loop (fun n s' => ∃ i H', Inv (cxLc X scope N h3.objs.size { s2 with heap := h3 } (upd H2 s2.heap.objs.size (.lst [])) fp) [] (none :: frV σ ix) H' s' ∧ tn i s'.heap ∧ (∀ b ∈ fp, H' b = none) ∧ W i n H') ?_ m0
      ⟨0, _, IY, st4, fun b hb => by rw [upd_ne (Nat.ne_of_lt (lt2 b hb))]; exact (f2 b hb).1, w0⟩
    rintro n s5 ⟨i, H5, I5, st5, fr5, w5⟩
    rcases turn i n H5 w5 with ⟨stop, q⟩ | ⟨go, step⟩
    · refine thn (T.done (cxLc X scope N h3.objs.size { s2 with heap := h3 } (upd H2 s2.heap.objs.size (.lst [])) fp) rfl rfl rfl hc i [] s5 _ H5 (fun _ _ => False) I5 (stat rfl fr5) st5 stop) fun r s6 ⟨hr, I6⟩ => ?_
      subst hr
      obtain ⟨m6, hn6, _⟩ := I6.loc
      have u1 : Un (frs X.stack) fp H2 (upd H2 s2.heap.objs.size (.lst [])) s2.heap h3 := Un.laid (fun b u e => by rw [← hH3]; exact Heap.get?_push_of_some _ e) (Nat.le_refl _) fD
      have back : Inv X pins σ H5 s6 := I2.call' (ch := fp) (I6.os.trans rfl) (u1.trans I6.base) I6.hok I6.bare fun b hb => ⟨(f2 b hb).2.2.2.1, (f2 b hb).2.1, (f2 b hb).2.2.2.2.1, (f2 b hb).2.2.2.2.2⟩
      exact fin _ _ H5 s6 m6 back (by omega) I6.free hn6 q
    · refine thn (T.item (cxLc X scope N h3.objs.size { s2 with heap := h3 } (upd H2 s2.heap.objs.size (.lst [])) fp) rfl rfl rfl hc i [] s5 _ H5 (fun _ _ => False) I5 (stat rfl fr5) st5 go) fun r s6 ⟨u, hr, h6⟩ => ?_
      subst hr
      refine thn h6 fun _ s7 ⟨y, H7, I7, r7, y7, st7, fr7⟩ => ?_
      have I7' := I7.pinned (stat rfl fr7) (T.obj _ _ st7)
      have hg : PG (cxLc X scope N h3.objs.size { s2 with heap := h3 } (upd H2 s2.heap.objs.size (.lst [])) fp) tgt (gName 0) := by
        rw [htg]
        have hi : N[0]? = some x := by have := L.hd; rwa [List.head?_eq_getElem?] at this
        exact pg_name L.nd hi (.inl (lookup_relabel_local L.loc)) (.inr (lookup_relabel_local L.loc))
      refine thn (hg _ s7 _ H7 y u (fun σ' H' => σ' = some y :: frV σ ix ∧ H' = H7) I7' r7 ⟨rfl, rfl⟩) fun _ s8 ⟨σ8, H8, I8, e8, e8'⟩ => ?_
      subst e8 e8'
      refine thn (hif _ _ _ _ s8 _ _ _ I8 (step y _ y7)) fun ok s9 ⟨H9, I9, q9⟩ => ?_
      have again : ∀ {sz : Shared} {Hz : Hp} {m' : Nat}, Inv (cxLc X scope N h3.objs.size { s2 with heap := h3 } (upd H2 s2.heap.objs.size (.lst [])) fp) ([] ++ pinsAt fp s7.heap) (some y :: frV σ ix) Hz sz → m' < n → W (i + 1) m' Hz →
          ∃ m, m < n ∧ ∃ i H', Inv (cxLc X scope N h3.objs.size { s2 with heap := h3 } (upd H2 s2.heap.objs.size (.lst [])) fp) [] (none :: frV σ ix) H' sz ∧ tn i sz.heap ∧ (∀ b ∈ fp, H' b = none) ∧ W i m H' := fun {sz Hz m'} Iz hm wz => by
        refine ⟨m', hm, i + 1, Hz, Iz.unpinned.weak (by simp) (fun j v e => ?_), T.keep _ _ _ st7 fun b hb o e => (Iz.pin (b, o) (List.mem_append_right _ (List.mem_append_right _ (mem_pinsAt hb e)))).1, fun b hb => ?_, wz⟩
        · cases j with
          | zero => cases e
          | succ j => exact e
        · obtain ⟨o, e, d⟩ := T.obj _ _ st7 b hb
          exact (Iz.pin (b, o) (List.mem_append_right _ (List.mem_append_right _ (mem_pinsAt hb e)))).2.1
      cases ok with
      | false =>
        obtain ⟨m', hm, wz⟩ := q9
        exact again I9 hm wz
      | true =>
        refine thn (he _ _ _ _ s9 _ _ _ I9 q9) fun xv s10 ⟨z, H10, I10, r10, ys, hD, hl, m', hm, wz⟩ => ?_
        refine thn (mt_append _ s10 _ H10 (.ref s2.heap.objs.size) [z] (.ref s2.heap.objs.size) [xv] (fun _ Hz => Hz = upd H10 s2.heap.objs.size (.lst (ys ++ [z]))) I10 rfl (.cons r10 .nil) ⟨_, ys, z, rfl, rfl, hD, hl, rfl⟩) fun _ s11 ⟨_, H11, I11, _, q11⟩ => ?_
        subst q11
        exact again I11 hm wz
  exact codeAny_compStart_list loop (T.self X.A 0 _ _ _ st4 loop)
/-- [elt for x in iter if ..] -/
theorem pe_lc {wi : TI} (hc : X.calm = true) (L : LcScope X.N X.env.scope scope x N ix) (hi : PI X (.Name x px) iter wi) (hif : ∀ C s H fp, PIf (cxLc X scope N C s H fp) ifs tc) (he : ∀ C s H fp, PE (cxLc X scope N C s H fp) elt te)
    (hs : ∀ z, foldedSetIterable iter X.env z = pure z := by intro _; rfl) : PE X (.ListComp elt [⟨.Name x px, iter, ifs, 0⟩] scope pos) (tLc wi ix tc te) := by
  intro pins s σ H Q I h
  have hfree : ∀ y ∈ scope.names, y.2 = .free → ∃ c, X.env.cells.lookup y.1 = some c := fun y hy hf => I.ok.has y.1 (.inl (L.free y hy hf))
  rw [eval_ListComp]
  refine wpAny_comprehension_free (use := none) rfl hs (closure_eq hfree) L.kind L.names (thn (hi pins s σ H _ I h) fun v s1 h1 => thn h1 fun itv s2 h2 => ?_)
  obtain ⟨it, fp, tn, J, H2, e, I2, T, st2, f2, rd⟩ := h2
  subst e
  refine lc_run (RR := fun acc C => compPost (model X.prog X.w) X.A X.xe none _ acc C) rfl hc L I2 T st2 f2 (fun C s H => hif C s H fp) (fun C s H => he C s H fp) rd fun D C H' s' m I' hC hf hn q => ?_
  refine ⟨m, hn, fun h' hsb => ⟨.ref D, H', ?_, rfl, q⟩⟩
  have l2 := I2.lt
  refine I'.turned (t' := s'.toks) (it := C) (fun b o hb e => hsb.extBut b o hb e) hf (Nat.ne_of_gt (Nat.lt_of_lt_of_le l2 hC)) (.inr (Nat.le_trans I2.sz hC)) (fun y c e => ?_) fun p hp => ?_
  · obtain ⟨v, hv⟩ := I2.cell y c e
    exact Nat.ne_of_lt (Nat.lt_of_lt_of_le hv.lt hC)
  · exact Nat.ne_of_lt (Nat.lt_of_lt_of_le (Heap.lt_size (I2.pin p hp).1) hC)
/-- name = [elt for x in iter if ..] -/
theorem ps_setlc {wi : TI} {i : Nat} {y : Str} {py spos : Pos} (hc : X.calm = true) (L : LcScope X.N X.env.scope scope x N ix) (hN : X.N.Nodup) (hy : X.N[i]? = some y) (hl : X.env.scope.names.lookup y = some .local)
    (hi : PI X (.Name x px) iter wi) (hif : ∀ C s H fp, PIf (cxLc X scope N C s H fp) ifs tc) (he : ∀ C s H fp, PE (cxLc X scope N C s H fp) elt te)
    (hsw : swapsWith (.ListComp elt [⟨.Name x px, iter, ifs, 0⟩] scope pos) (some (.Name y py)) spos.line X.env = pure true := by rfl)
    (hs : ∀ z, foldedSetIterable iter X.env z = pure z := by intro _; rfl) : PS X (.Assign [.Name y py] (.ListComp elt [⟨.Name x px, iter, ifs, 0⟩] scope pos) spos) (tAsg (tLc wi ix tc te) (gName i)) := by
  intro pins s σ H D I h
  have hfree : ∀ y ∈ scope.names, y.2 = .free → ∃ c, X.env.cells.lookup y.1 = some c := fun y hy hf => I.ok.has y.1 (.inl (L.free y hy hf))
  rw [exec_Assign_Name_used _ _ _ _ hsw]
  refine wpAny_bind (wpAny_standAt (wpAny_bind ?_))
  show wpAny _ X.A (do let _ ← comprehension (.ListComp elt [⟨.Name x px, iter, ifs, 0⟩] scope pos) scope X.env _ (newList []) false (eval iter X.env) (some (assign (.Name y py) X.env))) _ _ s
  refine wpAny_bind (thn (Q := fun _ s' => SP X pins D .next s') (wpAny_comprehension_free (use := some (assign (.Name y py) X.env)) rfl hs (closure_eq hfree) L.kind L.names (thn (hi pins s σ H _ I h) fun v s1 h1 => thn h1 fun itv s2 h2 => ?_)) fun _ s' hq => wpAny_pure (wpAny_pure hq))
  obtain ⟨it, fp, tn, J, H2, e, I2, T, st2, f2, rd⟩ := h2
  subst e
  refine lc_run (RR := fun acc C => compPost (model X.prog X.w) X.A X.xe (some (assign (.Name y py) X.env)) _ acc C) rfl hc L I2 T st2 f2 (fun C s H => hif C s H fp) (fun C s H => he C s H fp) rd fun Da C H' s' m I' hC hf hn q => ?_
  have l2 := I2.lt
  have nC : C ≠ X.env.locals := Nat.ne_of_gt (Nat.lt_of_lt_of_le l2 hC)
  have nF : C ∉ X.fs := I2.nofs hC
  obtain ⟨oC, es, ep, hget, hdat, hrest⟩ := id hn
  have Ip : Inv X (pins ++ [(C, oC)]) σ H' s' := I'.pins_of fun p hp => (List.mem_append.mp hp).elim (fun z => I'.pin p (List.mem_append_right _ z)) fun z => by
    have e : p = (C, oC) := by simpa using z
    subst e
    exact ⟨hget, hf, nC, nF, fun v z => by rw [hdat] at z; cases z⟩
  have hg : PG X (.Name y py) (gName i) := pg_name hN hy (.inl hl) (.inr hl)
  show wpAny _ X.A (assign (.Name y py) X.env (.ref Da)) _ _ s'
  refine thn (hg _ s' σ H' (.ref Da) (.ref Da) D.nx Ip rfl q) fun _ s'' ⟨σ'', H'', I'', q''⟩ => ?_
  obtain ⟨g1, g2, _⟩ := I''.pin (C, oC) (List.mem_append_right _ (List.mem_append_right _ (by simp)))
  refine ⟨m, ⟨oC, es, ep, g1, hdat, hrest⟩, fun h' hsb => ⟨σ'', H'', ?_, q''⟩⟩
  refine I''.unpinned.turned (t' := s''.toks) (it := C) (fun b o hb e => hsb.extBut b o hb e) g2 nC (.inr (Nat.le_trans I2.sz hC)) (fun y c e => ?_) fun p hp => ?_
  · obtain ⟨v, hv⟩ := I2.cell y c e
    exact Nat.ne_of_lt (Nat.lt_of_lt_of_le hv.lt hC)
  · exact Nat.ne_of_lt (Nat.lt_of_lt_of_le (Heap.lt_size (I2.pin p hp).1) hC)
end

/-! ### the form one uses: nothing that was tracked is changed -/
theorem same_upd {H : Hp} {D : Addr} {o : HO} (h : H D = none) : Same H (upd H D o) := fun b u e => by rw [upd_ne (ne_of_none e h)]; exact e
theorem lc_same {J : It} {H1 : Hp} {fr : St} {tc : TT} {te : TE} {Q : VK} (n : Nat) (item : Nat → V) (acc : Nat → List V) (h0 : acc 0 = []) (hz : ∀ i, i < n → (acc i).length < sizeLine)
    (hgo : ∀ i H, i < n → Same H1 H → J.go i H) (hy : ∀ i H x H', i < n → Same H1 H → J.yld i H x H' → x = item i ∧ H' = H) (hst : ∀ H, Same H1 H → J.stop n H)
    (turn : ∀ i H (R : Hp → Prop) (A : VK), i < n → Same H1 H → (acc (i + 1) = acc i → ∀ H', Same H H' → R H') → (∀ y H', acc (i + 1) = acc i ++ [y] → Same H H' → A y H') →
      tc (some (item i) :: fr) H fun b H3 => if b = true then te (some (item i) :: fr) H3 A else R H3)
    (fin : ∀ D H, H1 D = none → Same H1 H → H D = some (.lst (acc n)) → Q (.ref D) H) : rdLc J H1 fr tc te Q := by
  intro D hD
  refine ⟨fun i m H => i ≤ n ∧ m = n - i ∧ Same H1 H ∧ H D = some (.lst (acc i)), ⟨n, Nat.zero_le _, rfl, same_upd hD, by rw [upd_same, h0]⟩, ?_⟩
  rintro i m H ⟨hi, rfl, sm, hl⟩
  by_cases h : i = n
  · subst h
    exact .inl ⟨hst H sm, fin D H hD sm hl⟩
  · have hlt : i < n := Nat.lt_of_le_of_ne hi h
    refine .inr ⟨hgo i H hlt sm, fun x H' hyl => ?_⟩
    obtain ⟨rfl, rfl⟩ := hy i H x H' hlt sm hyl
    refine turn i H' _ _ hlt sm (fun ea H3 s3 => ?_) (fun y H4 ea s4 => ?_)
    · exact ⟨n - (i + 1), by omega, by omega, rfl, sm.trans s3, by rw [ea]; exact s3 _ _ hl⟩
    · refine ⟨acc i, s4 _ _ hl, hz i hlt, n - (i + 1), by omega, by omega, rfl, fun b u e => ?_, by rw [upd_same, ea]⟩
      rw [upd_ne (ne_of_none e hD)]
      exact s4 _ _ (sm _ _ e)
/-- over a list that is read -/
theorem lc_list {K : PySem.W.Frag} {a : Addr} {xs : List V} {H1 : Hp} {fr : St} {tc : TT} {te : TE} {Q : VK} (hl : SqL K H1 a xs) (acc : Nat → List V) (h0 : acc 0 = []) (hz : ∀ i, i < xs.length → (acc i).length < sizeLine)
    (turn : ∀ (i : Nat) x H (R : Hp → Prop) (A : VK), xs[i]? = some x → Same H1 H → (acc (i + 1) = acc i → ∀ H', Same H H' → R H') → (∀ y H', acc (i + 1) = acc i ++ [y] → Same H H' → A y H') →
      tc (some x :: fr) H fun b H3 => if b = true then te (some x :: fr) H3 A else R H3)
    (fin : ∀ D H, H1 D = none → Same H1 H → H D = some (.lst (acc xs.length)) → Q (.ref D) H) : rdLc (Itl K a) H1 fr tc te Q := by
  refine lc_same xs.length (fun i => xs.getD i .non) acc h0 hz (fun i H hi sm => ⟨xs, xs[i], sm.seq hl, by simp [hi]⟩) (fun i H x H' hi sm h => ⟨?_, h.1⟩) (fun H sm => ⟨xs, sm.seq hl, Nat.le_refl _⟩) (fun i H R A hi sm => turn i _ H R A (by simp [hi]) sm) fin
  have := h.2 xs (sm.seq hl)
  simp [List.getD, this]
theorem Same.seqT {K : PySem.W.Frag} {H H' : Hp} {a : Addr} {xs : List V} (e : Same H H') (h : SqT K H a xs) : SqT K H' a xs := by
  rcases h with (h | ⟨o, h⟩) | h
  · exact .inl (.inl (e _ _ h))
  · exact .inl (.inr ⟨o, e _ _ h⟩)
  · exact .inr h
/-- over a tuple that is read -/
theorem lc_tup {K : PySem.W.Frag} {a : Addr} {xs : List V} {H1 : Hp} {fr : St} {tc : TT} {te : TE} {Q : VK} (hl : SqT K H1 a xs) (acc : Nat → List V) (h0 : acc 0 = []) (hz : ∀ i, i < xs.length → (acc i).length < sizeLine)
    (turn : ∀ (i : Nat) x H (R : Hp → Prop) (A : VK), xs[i]? = some x → Same H1 H → (acc (i + 1) = acc i → ∀ H', Same H H' → R H') → (∀ y H', acc (i + 1) = acc i ++ [y] → Same H H' → A y H') →
      tc (some x :: fr) H fun b H3 => if b = true then te (some x :: fr) H3 A else R H3)
    (fin : ∀ D H, H1 D = none → Same H1 H → H D = some (.lst (acc xs.length)) → Q (.ref D) H) : rdLc (Itt K a) H1 fr tc te Q := by
  refine lc_same xs.length (fun i => xs.getD i .non) acc h0 hz (fun i H hi sm => ⟨xs, xs[i], sm.seqT hl, by simp [hi]⟩) (fun i H x H' hi sm h => ⟨?_, h.1⟩) (fun H sm => ⟨xs, sm.seqT hl, Nat.le_refl _⟩) (fun i H R A hi sm => turn i _ H R A (by simp [hi]) sm) fin
  have := h.2 xs (sm.seqT hl)
  simp [List.getD, this]
end L2
end

section
set_option Elab.async false
set_option linter.all false
set_option maxRecDepth 100000
set_option maxHeartbeats 4000000
/-! My own rules behind the layer: callees in one piece, texts, isinstance. -/
namespace L2
open PySem PySem.Spec PyProof.Rows

/-! ### Python's own names -/
theorem b_int : bootBuiltins "int" = some (.type "int") := by decide +kernel
theorem b_str : bootBuiltins "str" = some (.type "str") := by decide +kernel
theorem b_bool : bootBuiltins "bool" = some (.type "bool") := by decide +kernel
theorem b_list : bootBuiltins "list" = some (.type "list") := by decide +kernel
theorem b_tuple : bootBuiltins "tuple" = some (.type "tuple") := by decide +kernel
theorem b_len : bootBuiltins "len" = some (.builtin "len") := by decide +kernel
theorem b_isinstance : bootBuiltins "isinstance" = some (.builtin "isinstance") := by decide +kernel
theorem b_sum : bootBuiltins "sum" = some (.builtin "sum") := by decide +kernel
theorem b_min : bootBuiltins "min" = some (.builtin "min") := by decide +kernel
theorem b_max : bootBuiltins "max" = some (.builtin "max") := by decide +kernel
/-! ### a callee in one piece -/
structure Cal (P : Program) (w : World) (K : PySem.W.Frag) (mg : Str → Option Value) (base : Heap) (name : Str) (k : Nat) (ps : List Str) (sp : Sp) : Prop where
  ex : ∃ (f : Addr) (fd : FuncData), FnOk P w K mg base CX0 k f fd ps sp ∧ Binds K fd ps [] ∧ mg name = some (.ref f) ∧ PySem.W.keepIn K (.ref f) = true
section
variable {X : Cx} {k : Nat} {ps : List Str} {sp : Sp} {name m : Str} {p pos apos : Pos} {e o : Expr} {es : List Expr} {ta : TE} {t : TA}
theorem pe_fn (C : Cal X.prog X.w X.K X.mg X.base name k ps sp) (hr : Room k X.A) (ha : PA X (e :: es) t) (hg : Gl X name := by rfl) (hdb : (name == ("__debug__" : Str)) = false := by decide)
    (he : starEach (e :: es) X.env = (false, eval e X.env) :: starEach es X.env := by rfl) (hpl : (backTo pos (starEach es X.env)).any (·.1) = false := by rfl) : PE X (.Call (.Name name p) (e :: es) [] pos) (tCall sp [] E0 t) := by
  obtain ⟨f, fd, F, b, hm, hk⟩ := C.ex
  exact pe_call F hr hg hm hk b .nil pass0 ha hdb he hpl
end

/-! ### isinstance by one of Python's own kinds -/
section
variable {X : Cx}
def rIsi (K : PySem.W.Frag) : List V → Hp → VK → Prop := fun xs H Q => ∃ x n t b, xs = [x, .ty n] ∧ TyOf K H x t ∧ PySem.W.kitOne K t (.type n) = some b ∧ Q (.bl b) H
theorem call_isinst : CallR X (.builtin "isinstance") (rIsi X.K) := by
  intro pins s σ H xs us Q I r h
  obtain ⟨x, n, t, b, rfl, ty, e, q⟩ := h
  obtain ⟨u, w', rfl, ru, rw'⟩ := vals2 r
  cases (show w' = Value.type n from rw')
  exact isinst_ok I ru ty e fun tk => ⟨.bl b, H, I.tok tk, rfl, q⟩
theorem kit_int_bool {K : PySem.W.Frag} : PySem.W.kitOne K (.type "int") (.type "bool") = some false := by rfl
theorem kit_int_int {K : PySem.W.Frag} : PySem.W.kitOne K (.type "int") (.type "int") = some true := by rfl
theorem kit_str_str {K : PySem.W.Frag} : PySem.W.kitOne K (.type "str") (.type "str") = some true := by rfl
end

/-! ### texts as lists of codes -/
theorem ext_cps {x y : Str} (h : x.cps.toList = y.cps.toList) : x = y := by
  obtain ⟨a⟩ := x
  obtain ⟨b⟩ := y
  have : a = b := Array.toList_inj.mp h
  rw [this]
/-- a text of one sign -/
def sgn (c : Nat) : Str := ⟨#[c]⟩
def repS (x : Str) (k : Nat) : Str := ⟨(List.replicate k x.cps.toList).flatten.toArray⟩
theorem repS_length (x : Str) (k : Nat) : (repS x k).length = k * x.length := by
  show (List.replicate k x.cps.toList).flatten.toArray.size = k * x.cps.size
  rw [List.size_toArray, len_rep]
  simp
theorem foldl_app (a : Array Nat) : ∀ (k : Nat) (acc : Array Nat), ((List.replicate k a).foldl (· ++ ·) acc).toList = acc.toList ++ (List.replicate k a.toList).flatten
  | 0, acc => by simp
  | k + 1, acc => by
    rw [List.replicate_succ, List.foldl_cons, foldl_app a k, List.replicate_succ]
    simp [List.append_assoc]
section
variable {X : Cx}
def rMulS : R2 := fun x y H Q => ∃ z k, x = .str z ∧ y = .int k ∧ -(2 ^ 40) < k ∧ k < 2 ^ 40 ∧ z.length * k.toNat ≤ sizeLine ∧ z.length ≤ sizeLine ∧ Q (.str (repS z k.toNat)) H
theorem op_mulS : OpR X (binaryOp .Mult) rMulS := by
  intro pins s σ H x y v u Q I rx ry h
  obtain ⟨z, k, rfl, rfl, k1, k2, hz, hz2, q⟩ := h
  obtain ⟨t, rfl⟩ := rx
  obtain ⟨t', rfl⟩ := ry
  have hs := line63
  have hs' := sizeLine_eq
  refine PySem.P.mul_str ?_ ?_ ?_ ?_
  · rw [decide_eq_false (by omega), decide_eq_false (by omega)]; rfl
  · intro h1 _ hgt
    have hk : k ≤ 2 ^ 40 := by omega
    have : (z.length : Int) ≤ (2 ^ 63 - 1) / k := by
      rw [Int.le_ediv_iff_mul_le (by omega)]
      have e : (z.length : Int) * k = ((z.length * k.toNat : Nat) : Int) := by
        rw [Int.natCast_mul, Int.toNat_of_nonneg (by omega)]
      rw [e]
      omega
    omega
  · intro _ _
    unfold Builtin.Str.tooLong
    simpa using hz
  · split
    · rename_i h1
      have e : repS z k.toNat = Str.empty := by
        rw [show k.toNat = 0 by omega]; rfl
      rw [e] at q
      exact ⟨by decide, .str Str.empty, H, I.tok _, ⟨_, rfl⟩, q⟩
    · rename_i h1
      split
      · rename_i h2
        have e : repS z k.toNat = z := by
          refine ext_cps ?_
          show (List.replicate k.toNat z.cps.toList).flatten.toArray.toList = _
          rcases Bool.or_eq_true_iff.mp h2 with h2 | h2
          · have : k = 1 := by simpa using h2
            subst this
            simp
          · have : z.length = 0 := by simpa using h2
            have e0 : z.cps.toList = [] := by
              have : z.cps.size = 0 := this
              simpa using this
            rw [e0]
            simp
        rw [e] at q
        exact ⟨.str z, H, I, ⟨_, rfl⟩, q⟩
      · have e : (⟨(List.replicate k.toNat z.cps).foldl (· ++ ·) #[]⟩ : Str) = repS z k.toNat := by
          refine ext_cps ?_
          show ((List.replicate k.toNat z.cps).foldl (· ++ ·) #[]).toList = _
          rw [foldl_app]
          simp [repS]
        refine ⟨?_, .str (repS z k.toNat), H, I.tok _, ⟨s.toks, by rw [e]⟩, q⟩
        rw [e, repS_length, Nat.mul_comm]
        exact hz
theorem strsAre_of {ys : List Str} : ∀ {us : List Value}, Vals (ys.map V.str) us → StrsAre us ys := by
  induction ys with
  | nil => intro us r; rw [List.map_nil] at r; cases r; exact .nil
  | cons y ys ih =>
    intro us r
    rw [List.map_cons] at r
    cases r with
    | cons r1 r2 =>
      obtain ⟨t, e⟩ := r1
      subst e
      exact .cons y t (ih r2)
/-- ''.join of a list that is read -/
def rJoin (K : PySem.W.Frag) : V → List V → Hp → VK → Prop := fun x vs H Q => ∃ sep p ys, x = .str sep ∧ vs = [.ref p] ∧ SqL K H p (ys.map V.str) ∧ (ys.map (·.length)).sum + ys.length * sep.length ≤ 16777216 ∧ Q (.str (Txt.join sep ys)) H
theorem mt_join : MtM X "str.join" (rJoin X.K) := by
  intro pins s σ H x vs v us Q I rx rv h
  obtain ⟨sep, p, ys, rfl, rfl, hp, hz, q⟩ := h
  obtain ⟨t, rfl⟩ := rx
  obtain ⟨u, rfl, ru⟩ := rv.one
  cases ru
  obtain ⟨its, r, pl, _⟩ := I.list hp
  exact join_list pl.isList (by simpa using strsAre_of r) hz fun t' k => ⟨.str (Txt.join sep ys), H, I.tok k, ⟨t', rfl⟩, q⟩
theorem fold_glue : ∀ (ys : List Str) (a : Array Nat), (ys.foldl (fun acc p => acc ++ ("" : Str).cps ++ p.cps) a).toList = a.toList ++ (ys.map fun y => y.cps.toList).flatten
  | [], a => by simp
  | y :: r, a => by
    rw [List.foldl_cons, fold_glue r]
    have e : ("" : Str).cps = #[] := rfl
    rw [e]
    simp [List.append_assoc]
theorem join_empty (ys : List Str) : (Txt.join ("" : Str) ys).cps.toList = (ys.map fun y => y.cps.toList).flatten := by
  show ((ys.drop 1).foldl (fun acc p => acc ++ ("" : Str).cps ++ p.cps) (ys.headD Str.empty).cps).toList = _
  rw [fold_glue]
  cases ys with
  | nil => rfl
  | cons y r => simp
end
end L2
end

section
set_option Elab.async false
set_option linter.all false
namespace L2
open PySem
def nostar : Expr → Bool
  | .Starred .. => false
  | _ => true
theorem starEach_of {e : Expr} {es : List Expr} {env : Env} (h : nostar e = true) : starEach (e :: es) env = (false, eval e env) :: starEach es env := by
  cases e <;> first | rfl | cases h
section
variable {X : Cx} {e : Expr} {es : List Expr} {te : TE} {t : TA}
theorem pa_d (ha : PE X e te) (hr : PA X es t) (hs : nostar e = true) : PA X (e :: es) (tCons te t) := pa_cons ha hr (starEach_of hs)
end
/-! rules whose promises are structures: the elaborator does not look into them -/
structure PAi (X : Cx) (es : List Expr) (t : TA) : Prop where
  h : PA X es t
structure PEi (X : Cx) (e : Expr) (t : TE) : Prop where
  h : PE X e t
structure PSi (X : Cx) (st : Stmt) (t : TS) : Prop where
  h : PS X st t
structure PSsI (X : Cx) (sts : List Stmt) (t : TS) : Prop where
  h : PSs X sts t
section
variable {X : Cx} {e a b : Expr} {es : List Expr} {te ta tb : TE} {t : TA} {pos : Pos} {st : Stmt} {rest : List Stmt} {u u2 : TS}
theorem ai_nil : PAi X [] tNil := ⟨pa_nil⟩
theorem ai_c (ha : PE X e te) (hr : PAi X es t) (hs : nostar e = true) : PAi X (e :: es) (tCons te t) := ⟨pa_d ha hr.h hs⟩
theorem ei_lst (h : PAi X es t) : PEi X (.List es pos) (tLst t) := ⟨pe_lst h.h⟩
theorem ei_ix {r : R2} (hr : IxR X r) (ha : PEi X a ta) (hb : PE X b tb) (hs : PlainIx b) : PEi X (.Subscript a b pos) (tOp r ta tb) := ⟨pe_ix hr ha.h hb hs⟩
theorem si (h : PS X st u) : PSi X st u := ⟨h⟩
theorem si_set {i : Nat} {x : Str} {pos' : Pos} (hN : X.N.Nodup) (hi : X.N[i]? = some x) (hx : Loc X.env.scope x) (he : PEi X e te) (hs : swapsWith e (some (.Name x pos')) pos.line X.env = pure false := by rfl) (hf : X.fn x = true ∨ X.env.scope.names.lookup x = some .local := by first | exact .inl rfl | exact .inr rfl | assumption) :
    PSi X (.Assign [.Name x pos'] e pos) (tAsg te (gName i)) := ⟨ps_set hN hi hx he.h hs hf⟩
theorem bi_cons (h1 : PSi X st u) (h2 : PSsI X rest u2) : PSsI X (st :: rest) (tSeq u u2) := ⟨pss_cons h1.h h2.h⟩
theorem bi_one (h1 : PSi X st u) : PSsI X [st] u := ⟨pss_one h1.h⟩
end
theorem us1 {P : List Value → Prop} (h : ∀ a, P [a]) : ∀ us : List Value, us.length = 1 → P us
  | [_], _ => h _
theorem us2 {P : List Value → Prop} (h : ∀ a b, P [a, b]) : ∀ us : List Value, us.length = 2 → P us
  | [_, _], _ => h _ _
theorem us3 {P : List Value → Prop} (h : ∀ a b c, P [a, b, c]) : ∀ us : List Value, us.length = 3 → P us
  | [_, _, _], _ => h _ _ _
theorem us4 {P : List Value → Prop} (h : ∀ a b c d, P [a, b, c, d]) : ∀ us : List Value, us.length = 4 → P us
  | [_, _, _, _], _ => h _ _ _ _
end L2
end

section
set_option Elab.async false
set_option linter.all false
set_option maxRecDepth 100000
/-! Readings, step by step, from behind. -/
namespace L2
open PySem PySem.Spec PyProof.Rows
section
variable {σ : St} {H : Hp} {D : Ends} {Q : VK} {t u : TS} {te ta tb : TE} {QB : Bool → Hp → Prop}
theorem r_seq (h : t { D with nx := u D } σ H) : tSeq t u D σ H := h
theorem r_next (h : D.nx σ H) : tNext D σ H := h
theorem r_asg {g : TG} (h : te σ H fun x H1 => g x σ H1 D.nx) : tAsg te g D σ H := h
theorem r_gname {i : Nat} {v : V} {R : St → Hp → Prop} (h : R (σ.set i (some v)) H) : gName i v σ H R := h
theorem r_ret (h : te σ H D.rt) : tRet te D σ H := h
theorem r_drop (h : te σ H fun _ H1 => D.nx σ H1) : tDrop te D σ H := h
theorem r_ifs {c : TT} (h : c σ H fun b H1 => if b = true then t D σ H1 else u D σ H1) : tIfS c t u D σ H := h
theorem r_aug {i : Nat} {ti : TIp} {x : V} (e : σ[i]? = some (some x)) (h : te σ H fun y H1 => ti x y H1 fun z H2 => D.nx (σ.set i (some z)) H2) : tAug i te ti D σ H := ⟨x, e, h⟩
theorem r_var {i : Nat} {v : V} (e : σ[i]? = some (some v)) (h : Q v H) : tVar i σ H Q := ⟨v, e, h⟩
theorem r_c {v : V} (h : Q v H) : tC v σ H Q := h
theorem r_op {r : R2} (h : ta σ H fun x H1 => tb σ H1 fun y H2 => r x y H2 Q) : tOp r ta tb σ H Q := h
theorem r_un {r : V → Hp → VK → Prop} (h : ta σ H fun x H1 => r x H1 Q) : tUn r ta σ H Q := h
theorem r_rU {g : Int → V} {i : Int} (h : Q (g i) H) : rU g (.int i) H Q := ⟨i, rfl, h⟩
theorem r_rI0 {g : Int → Int → V} {i j : Int} (h : Q (g i j) H) : rI0 g (.int i) (.int j) H Q := ⟨i, j, rfl, rfl, h⟩
theorem r_rI {C : Int → Int → Prop} {g : Int → Int → V} {i j : Int} (c : C i j) (h : Q (g i j) H) : rI C g (.int i) (.int j) H Q := ⟨i, j, rfl, rfl, c, h⟩
theorem r_ipI {f : Int → Int → Int} {i j : Int} (h : Q (.int (f i j)) H) : ipI f (.int i) (.int j) H Q := ⟨i, j, rfl, rfl, h⟩
theorem r_rEq {x y : V} (e : scal x y = true) (h : Q (.bl (decide (x = y))) H) : rEq x y H Q := ⟨e, h⟩
theorem r_rNe {x y : V} (e : scal x y = true) (h : Q (.bl (!decide (x = y))) H) : rNe x y H Q := ⟨e, h⟩
theorem r_test (h : te σ H fun x H' => ∃ k, x = .bl k ∧ QB k H') : tTest te σ H QB := h
theorem r_tB (h : te σ H fun x H' => ∃ k, x = .bl k ∧ QB k H') : tB te σ H QB := h
theorem r_bl {k : Bool} {P : Bool → Prop} (h : P k) : ∃ k', V.bl k = .bl k' ∧ P k' := ⟨k, rfl, h⟩
theorem r_not {c : TT} (h : c σ H fun b H1 => QB (!b) H1) : tNot c σ H QB := h
theorem r_and {c d : TT} (h : c σ H fun b H1 => if b = true then d σ H1 QB else QB false H1) : tAnd c d σ H QB := h
theorem r_or {c d : TT} (h : c σ H fun b H1 => if b = true then QB true H1 else d σ H1 QB) : tOr c d σ H QB := h
theorem r_andV (h : ta σ H fun x H1 => ∃ c, x = .bl c ∧ if c = true then tb σ H1 Q else Q (.bl false) H1) : tAndV ta tb σ H Q := h
theorem r_notV (h : ta σ H fun x H1 => ∃ c, x = .bl c ∧ Q (.bl (!c)) H1) : tNotV ta σ H Q := h
theorem r_ifE {c : TT} (h : c σ H fun b H1 => if b = true then ta σ H1 Q else tb σ H1 Q) : tIf c ta tb σ H Q := h
theorem r_isN (h : ta σ H fun x H1 => Q (.bl (decide (x = .non))) H1) : tIsN ta σ H Q := h
theorem r_notN (h : ta σ H fun x H1 => Q (.bl (!decide (x = .non))) H1) : tNotN ta σ H Q := h
theorem r_chain {r r' : R2} {tc : TE} (h : ta σ H fun x H1 => tb σ H1 fun y H2 => r x y H2 fun z H3 => ∃ k, z = .bl k ∧ (if k = true then tc σ H3 fun w' H4 => r' y w' H4 Q else Q (.bl false) H3)) : tChain r r' ta tb tc σ H Q := h
theorem r_yes (h : QB true H) : tYes σ H QB := h
variable {tA tR : TA} {QA : List V → Hp → Prop}
theorem r_nil (h : QA [] H) : tNil σ H QA := h
theorem r_cons (h : te σ H fun x H1 => tR σ H1 fun xs H2 => QA (x :: xs) H2) : tCons te tR σ H QA := h
theorem r_call {sp : Sp} {E : XK} (h : tA σ H fun vs H1 => sp (vs ++ []) H1 Q E) : tCall sp [] E tA σ H Q := h
theorem r_cB {r : List V → Hp → VK → Prop} (h : tA σ H fun vs H1 => r vs H1 Q) : tCB r tA σ H Q := h
theorem r_lst (h : tA σ H fun xs H1 => xs.length ≤ sizeLine ∧ ∀ p, H1 p = none → Q (.ref p) (upd H1 p (.lst xs))) : tLst tA σ H Q := h
theorem r_tup (h : tA σ H fun xs H1 => xs.length ≤ sizeLine ∧ ∀ p, H1 p = none → Q (.ref p) (upd H1 p (.tup xs))) : tTup tA σ H Q := h
theorem r_bm {K : PySem.W.Frag} {T : String} {r : V → List V → Hp → VK → Prop} (h : te σ H fun x H1 => tyV K T x H1 ∧ tA σ H1 fun xs H2 => r x xs H2 Q) : tBM K T r te tA σ H Q := h
theorem r_sl {r : V → Option Int → Option Int → Hp → VK → Prop} {tl th : TO} (h : te σ H fun x H1 => tl σ H1 fun l H2 => th σ H2 fun u H3 => r x l u H3 Q) : tSl r te tl th σ H Q := h
theorem r_nopart {QO : Option Int → Hp → Prop} (h : QO none H) : tNoPart σ H QO := h
theorem r_part {QO : Option Int → Hp → Prop} (h : te σ H fun x H1 => ∃ i, x = .int i ∧ QO (some i) H1) : tPart te σ H QO := h
theorem r_int {P : Int → Prop} {i : Int} (h : P i) : ∃ j, V.int i = .int j ∧ P j := ⟨i, rfl, h⟩
/-- for: what is walked first -/
def forB (J : It) (g : TG) (tb : TS) (D : Ends) (σ : St) (H1 : Hp) : Prop := ∃ W : Nat → Nat → St → Hp → Prop, (∃ m, W 0 m σ H1) ∧ ∀ i m σ H, W i m σ H →
  (J.stop i H ∧ D.nx σ H) ∨ (J.go i H ∧ ∃ N : St → Hp → Prop, (∀ σ' H', N σ' H' → ∃ m', m' < m ∧ W (i + 1) m' σ' H') ∧ ∀ x H', J.yld i H x H' → g x σ H' fun σ2 H2 => tb { D with nx := N, ct := N, bk := D.nx } σ2 H2)
theorem r_for {wi : TI} {g : TG} (h : wi σ H fun J H1 => forB J g t D σ H1) : tFor wi g t D σ H := h
theorem r_rng1 {R : It → Hp → Prop} (h : tA σ H fun vs H1 => ∃ j : Int, vs = [.int j] ∧ -(2 ^ 62) ≤ j ∧ j < 2 ^ 62 ∧ R (Itr 0 j.toNat) H1) : iRng1 tA σ H R := h
theorem r_ilist {K : PySem.W.Frag} {R : It → Hp → Prop} (h : te σ H fun x H1 => ∃ a, x = .ref a ∧ (∃ xs, SqL K H1 a xs) ∧ R (Itl K a) H1) : iList K te σ H R := h
theorem r_itup {K : PySem.W.Frag} {R : It → Hp → Prop} (h : te σ H fun x H1 => ∃ a, x = .ref a ∧ (∃ xs, SqT K H1 a xs) ∧ R (Itt K a) H1) : iTup K te σ H R := h
theorem r_lc {wi : TI} {ix : List Nat} {tc : TT} (h : wi σ H fun J H1 => rdLc J H1 (frV σ ix) tc te Q) : tLc wi ix tc te σ H Q := h
/-- items of lists, tuples, texts -/
theorem r_ixL {K : PySem.W.Frag} {p : Addr} {xs : List V} {i : Int} {v : V} (hs : SqL K H p xs) (e : atI xs i = some v) (h : Q v H) : rIxL K (.ref p) (.int i) H Q := ⟨p, xs, i, v, rfl, rfl, hs, e, h⟩
theorem r_ixT {K : PySem.W.Frag} {p : Addr} {xs : List V} {i : Int} {v : V} (hs : SqT K H p xs) (e : atI xs i = some v) (h : Q v H) : rIxT K (.ref p) (.int i) H Q := ⟨p, xs, i, v, rfl, rfl, hs, e, h⟩
theorem r_append {l : Addr} {xs : List V} {y : V} (hl : H l = some (.lst xs)) (hz : xs.length < sizeLine) (h : Q .non (upd H l (.lst (xs ++ [y])))) : rAppend (.ref l) [y] H Q := ⟨l, xs, y, rfl, rfl, hl, hz, h⟩
end
/-- while, by a word and a measure; r_turn goes into the body -/
theorem while_rd {c : TT} {tb : TS} {D : Ends} {σ : St} {H : Hp} (Pv : St → Hp → Prop) (μ : St → Hp → Nat) (h0 : Pv σ H)
    (hs : ∀ m σ H, Pv σ H → μ σ H = m → c σ H fun b H1 => if b = true then ∃ N : St → Hp → Prop, (∀ σ' H', N σ' H' → ∃ m', m' < m ∧ (Pv σ' H' ∧ μ σ' H' = m')) ∧ tb { D with nx := N, ct := N, bk := D.nx } σ H1 else D.nx σ H1) : tWhile c tb D σ H :=
  ⟨fun m σ H => Pv σ H ∧ μ σ H = m, ⟨_, h0, rfl⟩, fun m σ H h => hs m σ H h.1 h.2⟩
theorem r_turn {tb : TS} {rt : VK} {bk : St → Hp → Prop} {σ : St} {H1 : Hp} {Pv : St → Hp → Prop} {μ : St → Hp → Nat} {m : Nat}
    (h : tb { nx := fun σ' H' => Pv σ' H' ∧ μ σ' H' < m, rt := rt, bk := bk, ct := fun σ' H' => Pv σ' H' ∧ μ σ' H' < m } σ H1) :
    ∃ N : St → Hp → Prop, (∀ σ' H', N σ' H' → ∃ m', m' < m ∧ (Pv σ' H' ∧ μ σ' H' = m')) ∧ tb { nx := N, rt := rt, bk := bk, ct := N } σ H1 := ⟨_, fun σ' H' z => ⟨_, z.2, z.1, rfl⟩, h⟩
section
variable {H : Hp} {Q : VK} {g : Int → Int → V} {i j : Int}
theorem r_mod (c : 0 < j) (h : Q (g i j) H) : rI (fun _ j => 0 < j) g (.int i) (.int j) H Q := ⟨i, j, rfl, rfl, c, h⟩
theorem r_shr (c : 0 ≤ j) (h : Q (g i j) H) : rI (fun _ j => 0 ≤ j) g (.int i) (.int j) H Q := ⟨i, j, rfl, rfl, c, h⟩
theorem r_div (c1 : 0 < j) (c2 : j < 1073741824) (h : Q (g i j) H) : rI CDiv g (.int i) (.int j) H Q := ⟨i, j, rfl, rfl, ⟨c1, c2⟩, h⟩
theorem r_mulR (c1 : -(2 ^ 64) < j) (c2 : j < 2 ^ 64) (h : Q (g i j) H) : rI CMul g (.int i) (.int j) H Q := ⟨i, j, rfl, rfl, .inr ⟨c1, c2⟩, h⟩
theorem r_mulL (c1 : -(2 ^ 64) < i) (c2 : i < 2 ^ 64) (h : Q (g i j) H) : rI CMul g (.int i) (.int j) H Q := ⟨i, j, rfl, rfl, .inl ⟨c1, c2⟩, h⟩
end
theorem iteP {c A B : Prop} [Decidable c] (h1 : c → A) (h2 : ¬ c → B) : if decide c = true then A else B := by
  by_cases h : c
  · rw [decide_eq_true h, if_pos rfl]
    exact h1 h
  · rw [decide_eq_false h, if_neg Bool.false_ne_true]
    exact h2 h
theorem iteN {c A B : Prop} [Decidable c] (h1 : ¬ c → A) (h2 : c → B) : if (!decide c) = true then A else B := by
  by_cases h : c
  · rw [decide_eq_true h, if_neg (by decide)]
    exact h2 h
  · rw [decide_eq_false h, if_pos (by decide)]
    exact h1 h
/-! ### an if whose ways meet behind it -/
def tIfJ (c : TT) (t u : TS) : TS := fun D σ H => ∃ J : St → Hp → Prop, (∀ σ H, J σ H → D.nx σ H) ∧ c σ H fun b H1 => if b = true then t { D with nx := J } σ H1 else u { D with nx := J } σ H1
theorem ps_ifJ {X : Cx} {c : Expr} {a b : List Stmt} {tc : TT} {t u : TS} {pos : Pos} (hc : PT X c tc) (ha : PSs X a t) (hb : PSs X b u) : PS X (.If c a b pos) (tIfJ tc t u) := by
  intro pins s σ H D I h
  obtain ⟨J, hJ, h⟩ := h
  refine thn (ps_if hc ha hb pins s σ H { D with nx := J } I h) fun f s' q => ?_
  cases f with
  | next =>
    obtain ⟨σ', H', I', q'⟩ := q
    exact ⟨σ', H', I', hJ _ _ q'⟩
  | brk => exact q
  | cont => exact q
  | ret u => exact q
theorem r_ifJ {c : TT} {t u : TS} {D : Ends} {σ : St} {H : Hp} (J : St → Hp → Prop) (h : c σ H fun b H1 => if b = true then t { D with nx := J } σ H1 else u { D with nx := J } σ H1) (hJ : ∀ σ H, J σ H → D.nx σ H) : tIfJ c t u D σ H := ⟨J, hJ, h⟩
theorem atI_int {α : Type} {xs : List α} {i : Int} {v : α} (h0 : 0 ≤ i) (h : xs[i.toNat]? = some v) : atI xs i = some v := by
  have := atI_nat (xs := xs) (j := i.toNat) h
  rwa [Int.toNat_of_nonneg h0] at this
end L2
end

section
set_option Elab.async false
set_option linter.all false
set_option maxRecDepth 100000
set_option maxHeartbeats 4000000
/-! My own rules behind the layer: ranges by steps, texts walked and cut, sums, counts, tuples compared. -/
namespace L2
open PySem PySem.Spec PyProof.Rows

/-! ### range(lo, hi, st), st above 0 -/
def Itr3 (lo st : Int) (n : Nat) : It := ⟨fun i _ => i < n, fun i H x H' => H' = H ∧ x = .int (lo + i * st), fun i _ => n ≤ i⟩
def stepsN (lo hi st : Int) : Nat := ((hi - lo + st - 1) / st).toNat
theorem turn_range3 {P : Program} {w : World} {K : PySem.W.Frag} {tg : Expr} (it : Addr) (lo dt : Int) (n : Nat) : Turn P w K tg (Itr3 lo dt n) [it] it (fun i h => IsRangeIter h it (lo + (i : Nat) * dt) ((n : Int) - (i : Nat)) dt) where
  mem := by simp
  obj := fun i h st b hb => by
    have e : b = it := by simpa using hb
    subst e
    exact ⟨_, st, fun v z => by
      have z' : Data.fields _ = Data.cell v := z
      cases z'⟩
  keep := fun i h h' st k => k it (by simp) _ st
  item := by
    intro X hP hw hK hc i pins s σ H E I hf st hg
    subst hP hw hK
    obtain ⟨f0, f1, f2, f3, f4, f5⟩ := hf it (by simp)
    have W := Walks.range (prog := X.prog) (w := X.w) (I.ok.hd hc) it lo dt n
    refine W.item i s _ _ hg st fun v h' tk hv st' kk => ?_
    obtain ⟨t, rfl⟩ := hv
    have I1 : Inv X pins σ H { s with heap := h', toks := tk } := I.turned (fun b o hb e => kk b o (by simpa using hb) e) f0 f1 f3 f4 f5
    exact ⟨_, rfl, go_of (s := { s with heap := h', toks := tk }) (n := "range_iterator") st' rfl rfl (by decide) ⟨.int _, H, I1, ⟨t, rfl⟩, ⟨rfl, rfl⟩, st', fun b hb => (hf b hb).1⟩⟩
  done := by
    intro X hP hw hK hc i pins s σ H E I hf st hg
    subst hP hw hK
    obtain ⟨f0, f1, f2, f3, f4, f5⟩ := hf it (by simp)
    exact wpAny_pyNext_range_end (I.ok.hd hc) st (by have : n ≤ i := hg; omega) fun h' eb => ⟨rfl, I.turned (t' := s.toks) (fun b o hb e => eb b o hb e) f0 f1 f3 f4 f5⟩
  self := fun _ _ _ _ _ st h => wpAny_pyIter_rangeiter st h
theorem steps_size {lo hi st : Int} (h : 0 < st) : Builtin.Range.rangeSize lo hi st = (stepsN lo hi st : Int) := by
  unfold Builtin.Range.rangeSize stepsN
  rw [if_pos h]
  by_cases hl : lo < hi
  · rw [if_pos hl]
    have e : (hi - lo + st - 1) / st = (hi - lo - 1) / st + 1 := by
      rw [show hi - lo + st - 1 = (hi - lo - 1) + st * 1 by omega, Int.add_mul_ediv_left _ _ (by omega)]
    rw [e]
    have : 0 ≤ (hi - lo - 1) / st := Int.ediv_nonneg (by omega) (by omega)
    omega
  · rw [if_neg hl]
    have : (hi - lo + st - 1) / st ≤ 0 := by
      have := Int.ediv_le_ediv h (show hi - lo + st - 1 ≤ st - 1 by omega)
      rw [Int.ediv_eq_zero_of_lt (show 0 ≤ st - 1 by omega) (by omega)] at this
      exact this
    omega
theorem steps_small {lo hi st : Int} (h : 0 < st) (h1 : -(2 ^ 61) ≤ lo) (h2 : lo < 2 ^ 61) (h3 : -(2 ^ 61) ≤ hi) (h4 : hi < 2 ^ 61) (h5 : st < 2 ^ 61) : Builtin.Range.small lo hi st = true := by
  unfold Builtin.Range.small
  rw [steps_size h]
  have hb : (stepsN lo hi st : Int) * st ≤ hi - lo + st - 1 ∨ (stepsN lo hi st : Int) = 0 := by
    unfold stepsN
    by_cases hz : 0 ≤ (hi - lo + st - 1) / st
    · left
      rw [Int.toNat_of_nonneg hz]
      exact Int.ediv_mul_le _ (by omega)
    · right
      omega
  have hn : (stepsN lo hi st : Int) ≤ (stepsN lo hi st : Int) * st := by
    have := Int.mul_le_mul_of_nonneg_left (show (1 : Int) ≤ st by omega) (Int.natCast_nonneg (stepsN lo hi st))
    omega
  have hmul : lo + (stepsN lo hi st : Int) * st < 2 ^ 63 ∧ -(2 ^ 63) ≤ lo + (stepsN lo hi st : Int) * st := by
    have h0 : 0 ≤ (stepsN lo hi st : Int) * st := Int.mul_nonneg (Int.natCast_nonneg _) (by omega)
    rcases hb with hb | hb
    · omega
    · rw [hb] at h0 ⊢
      omega
  have h0 : 0 ≤ (stepsN lo hi st : Int) := Int.natCast_nonneg _
  have hs : (stepsN lo hi st : Int) < 2 ^ 63 := by
    rcases hb with hb | hb
    · omega
    · omega
  rw [if_pos h]
  simp only [Builtin.Range.rangeFitsLong, Bool.and_eq_true, Bool.or_eq_true, decide_eq_true_eq, beq_iff_eq]
  refine ⟨⟨⟨⟨?_, ?_⟩, ?_⟩, ?_⟩, .inr ?_⟩ <;> omega
section
variable {X : Cx} {tg : Expr}
def iRng3 (ta : TA) : TI := fun σ H R => ta σ H fun vs H1 => ∃ i j k : Int, vs = [.int i, .int j, .int k] ∧ (-(2 ^ 40) ≤ i ∧ i < 2 ^ 40 ∧ -(2 ^ 40) ≤ j ∧ j < 2 ^ 40 ∧ 0 < k ∧ k < 2 ^ 29) ∧ R (Itr3 i k (stepsN i j k)) H1
theorem pi_range3 {a b c : Expr} {ta : TA} {p pos : Pos} (hg : Gl X "range") (hm : X.mg "range" = none) (ha : PA X [a, b, c] ta) (hs : starEach [a, b, c] X.env = [(false, eval a X.env), (false, eval b X.env), (false, eval c X.env)] := by rfl)
    (hs2 : starEach [b, c] X.env = [(false, eval b X.env), (false, eval c X.env)] := by rfl) : PI X tg (.Call (.Name "range" p) [a, b, c] [] pos) (iRng3 ta) := by
  intro pins s σ H R I h
  refine Call_ (ld_blt I hg hm boot_range (PyProof.Rows.callWith_type1 (thn (ha pos pins s σ H _ I h) fun us s1 ⟨vs, H1, I1, r1, q1⟩ => ?_) (by rw [hs, hs2]) (by rw [hs2]; rfl)))
  obtain ⟨i, j, k, e, ⟨q1, q2, q3, q4, q5, q6⟩, q⟩ := q1
  subst e
  cases r1 with
  | cons r rr =>
    cases rr with
    | cons r' rr =>
      cases rr with
      | cons r'' rr =>
        cases rr
        obtain ⟨t, rfl⟩ := r
        obtain ⟨t', rfl⟩ := r'
        obtain ⟨t'', rfl⟩ := r''
        refine call_range_3 (by omega) ?_ (.inl (PyProof.noPylong_small (by omega)))
        refine wpAny_pyIter_range (IsRange.new ..) (steps_small q5 (by omega) (by omega) (by omega) (by omega) (by omega)) ?_
        have I2 : Inv X pins σ H1 { s1 with heap := s1.heap.push { cls := .type "range", data := .fields #[.int i t, .int j t', .int k t''] }, toks := s1.toks } := I1.kept fun b o e => Heap.get?_push_of_some _ e
        refine ⟨_, [_], _, _, H1, rfl, I2.kept (t' := s1.toks) fun b o e => Heap.get?_push_of_some _ e, turn_range3 _ i k (stepsN i j k), ?_, fun b hb => ?_, q⟩
        · have e1 : i + ((0 : Nat) : Int) * k = i := by simp
          have e2 : ((stepsN i j k : Nat) : Int) - ((0 : Nat) : Int) = Builtin.Range.rangeSize i j k := by rw [steps_size q5]; simp
          show IsRangeIter _ _ (i + ((0 : Nat) : Int) * k) (((stepsN i j k : Nat) : Int) - ((0 : Nat) : Int)) k
          rw [e1, e2]
          exact Heap.get?_push_size _ rfl
        · have e := List.mem_singleton.mp hb
          subst e
          exact I2.fpOk (Nat.le_refl _) (I2.hok.fresh (Nat.le_refl _))
end
/-- a loop by steps -/
theorem for_steps {lo st : Int} {n : Nat} {g : TG} {tb : TS} {D : Ends} {σ : St} {H : Hp} (Pv : Nat → St → Hp → Prop) (h0 : Pv 0 σ H)
    (hs : ∀ (i : Nat) σ H, i < n → Pv i σ H → g (.int (lo + i * st)) σ H fun σ2 H2 => tb { D with nx := Pv (i + 1), ct := Pv (i + 1), bk := D.nx } σ2 H2) (hd : ∀ σ H, Pv n σ H → D.nx σ H) : forB (Itr3 lo st n) g tb D σ H := by
  refine ⟨fun i m σ H => i ≤ n ∧ m = n - i ∧ Pv i σ H, ⟨n, Nat.zero_le _, rfl, h0⟩, ?_⟩
  rintro i m σ H ⟨hi, rfl, hP⟩
  by_cases h : i = n
  · subst h
    exact .inl ⟨Nat.le_refl _, hd σ H hP⟩
  · have hlt : i < n := Nat.lt_of_le_of_ne hi h
    refine .inr ⟨hlt, Pv (i + 1), fun σ' H' hN => ⟨n - (i + 1), by omega, hlt, rfl, hN⟩, fun x H' hy => ?_⟩
    obtain ⟨rfl, rfl⟩ := hy
    exact hs i σ _ hlt hP
theorem lc_steps {lo st : Int} {n : Nat} {H1 : Hp} {fr : St} {tc : TT} {te : TE} {Q : VK} (acc : Nat → List V) (h0 : acc 0 = []) (hz : ∀ i, i < n → (acc i).length < sizeLine)
    (turn : ∀ (i : Nat) H (R : Hp → Prop) (A : VK), i < n → Same H1 H → (acc (i + 1) = acc i → ∀ H', Same H H' → R H') → (∀ y H', acc (i + 1) = acc i ++ [y] → Same H H' → A y H') →
      tc (some (.int (lo + i * st)) :: fr) H fun b H3 => if b = true then te (some (.int (lo + i * st)) :: fr) H3 A else R H3)
    (fin : ∀ D H, H1 D = none → Same H1 H → H D = some (.lst (acc n)) → Q (.ref D) H) : rdLc (Itr3 lo st n) H1 fr tc te Q :=
  lc_same n (fun i => .int (lo + i * st)) acc h0 hz (fun i H hi _ => hi) (fun i H x H' _ _ h => ⟨h.2, h.1⟩) (fun H _ => Nat.le_refl n) turn fin

/-! ### a text walked sign by sign -/
def Its (z : Str) : It := ⟨fun i _ => i < z.cps.size, fun i H x H' => H' = H ∧ ∃ c, z.cps[i]? = some c ∧ x = .str (sgn c), fun i _ => z.cps.size ≤ i⟩
section
variable {X : Cx} {tg : Expr}
def iStr (tl : TE) : TI := fun σ H R => tl σ H fun x H1 => ∃ z, x = .str z ∧ R (Its z) H1
theorem turn_str {P : Program} {w : World} {K : PySem.W.Frag} {tg : Expr} {it : Addr} {z : Str} {ty : String} {t : Tok} (hty : ty = "str_ascii_iterator" ∨ ty = "str_iterator")
    (W : ∀ A' : Around, A'.handled = none → Walks P w A' it [it] [it] z.cps.size (SignAt z) (fun i h => h.IsStrIter it ty z t i))
    (hself : ∀ (A : Around) (i : Nat) (s : Shared) (Q : Value → Shared → Prop) (E : Value → Shared → Prop), s.heap.IsStrIter it ty z t i → Q (.ref it) s → wpAny (model P w) A (pyIter (.ref it)) Q E s) : Turn P w K tg (Its z) [it] it (fun i h => h.IsStrIter it ty z t i) where
  mem := by simp
  obj := fun i h st b hb => by
    have e : b = it := by simpa using hb
    subst e
    obtain ⟨o, e, c, d⟩ := st
    exact ⟨o, e, fun v z => by rw [d] at z; cases z⟩
  keep := fun i h h' st k => let ⟨o, ho, r⟩ := st; ⟨o, k it (by simp) o ho, r⟩
  item := by
    intro X hP hw hK hc i pins s σ H E I hf st hg
    subst hP hw hK
    obtain ⟨f0, f1, f2, f3, f4, f5⟩ := hf it (by simp)
    refine (W X.A (I.ok.hd hc)).item i s _ _ hg st fun v h' tk hv st' kk => ?_
    obtain ⟨c, u, hc', rfl⟩ := hv
    have I1 : Inv X pins σ H { s with heap := h', toks := tk } := I.turned (fun b o hb e => kk b o (by simpa using hb) e) f0 f1 f3 f4 f5
    obtain ⟨o, e, cc, d⟩ := id st'
    exact ⟨_, rfl, go_of (s := { s with heap := h', toks := tk }) e cc d (by rcases hty with rfl | rfl <;> decide) ⟨.str (sgn c), H, I1, ⟨u, rfl⟩, ⟨rfl, c, hc', rfl⟩, st', fun b hb => (hf b hb).1⟩⟩
  done := by
    intro X hP hw hK hc i pins s σ H E I hf st hg
    subst hP hw hK
    obtain ⟨f0, f1, f2, f3, f4, f5⟩ := hf it (by simp)
    rcases hty with rfl | rfl
    · exact wpAny_pyNext_ascii_end (I.ok.hd hc) st (Array.getElem?_eq_none hg) fun h' eb => ⟨rfl, I.turned (t' := s.toks) (fun b o hb e => eb b o hb e) f0 f1 f3 f4 f5⟩
    · exact wpAny_pyNext_wide_end (I.ok.hd hc) st (Array.getElem?_eq_none hg) fun h' eb => ⟨rfl, I.turned (t' := s.toks) (fun b o hb e => eb b o hb e) f0 f1 f3 f4 f5⟩
  self := fun A i s Q E st h => hself A i s Q E st h
theorem pi_str {l : Expr} {tl : TE} (hl : PE X l tl) : PI X tg l (iStr tl) := by
  intro pins s σ H R I h
  refine thn (hl pins s σ H _ I h) fun v s1 ⟨x, H1, I1, r1, q1⟩ => ?_
  obtain ⟨z, e, q⟩ := q1
  subst e
  obtain ⟨t, rfl⟩ := r1
  have fin : ∀ (o : Obj) (ty : String), (ty = "str_ascii_iterator" ∨ ty = "str_iterator") → (∀ A' : Around, A'.handled = none → Walks X.prog X.w A' s1.heap.objs.size [s1.heap.objs.size] [s1.heap.objs.size] z.cps.size (SignAt z) (fun i h => h.IsStrIter s1.heap.objs.size ty z t i)) →
      (∀ (A : Around) (i : Nat) (s : Shared) (Q : Value → Shared → Prop) (E : Value → Shared → Prop), s.heap.IsStrIter s1.heap.objs.size ty z t i → Q (.ref s1.heap.objs.size) s → wpAny (model X.prog X.w) A (pyIter (.ref s1.heap.objs.size)) Q E s) →
      (s1.heap.push o).IsStrIter s1.heap.objs.size ty z t 0 → PIE X pins σ tg R (.ref s1.heap.objs.size) { s1 with heap := s1.heap.push o } := fun o ty hty W hs h0 => by
    refine ⟨s1.heap.objs.size, [s1.heap.objs.size], _, _, H1, rfl, I1.kept (t' := s1.toks) fun b o e => Heap.get?_push_of_some _ e, turn_str hty W hs, h0, fun b hb => ?_, q⟩
    have e : b = s1.heap.objs.size := by simpa using hb
    subst e
    exact I1.fpOk (Nat.le_refl _) (I1.hok.fresh (Nat.le_refl _))
  cases ha : z.cps.all (· < 128)
  · exact wpAny_pyIter_wide ha (fin _ _ (.inr rfl) (fun A' hA => Walks.strWide hA _ z t) (fun A i s Q E st h => wpAny_pyIter_striter_wide st h) ⟨_, Heap.get?_push_size _ rfl, rfl, rfl⟩)
  · exact wpAny_pyIter_ascii ha (fin _ _ (.inl rfl) (fun A' hA => Walks.strAscii hA _ z t) (fun A i s Q E st h => wpAny_pyIter_striter_ascii st h) ⟨_, Heap.get?_push_size _ rfl, rfl, rfl⟩)
end
theorem r_istr {tl : TE} {σ : St} {H : Hp} {R : It → Hp → Prop} (h : tl σ H fun x H1 => ∃ z, x = .str z ∧ R (Its z) H1) : iStr tl σ H R := h
theorem r_rng3 {tA : TA} {σ : St} {H : Hp} {R : It → Hp → Prop} (h : tA σ H fun vs H1 => ∃ i j k : Int, vs = [.int i, .int j, .int k] ∧ (-(2 ^ 40) ≤ i ∧ i < 2 ^ 40 ∧ -(2 ^ 40) ≤ j ∧ j < 2 ^ 40 ∧ 0 < k ∧ k < 2 ^ 29) ∧ R (Itr3 i k (stepsN i j k)) H1) : iRng3 tA σ H R := h
/-! ### a text cut -/
def cutS (z : Str) (lo hi : Option Int) : Str := ⟨((z.cps.toList.drop (HT.sIx z.cps.size 0 lo)).take (HT.sIx z.cps.size z.cps.size hi - HT.sIx z.cps.size 0 lo)).toArray⟩
def rSlS : V → Option Int → Option Int → Hp → VK → Prop := fun x lo hi H Q => ∃ z, x = .str z ∧ z.length ≤ sizeLine ∧ Q (.str (cutS z lo hi)) H
theorem strIx (lo hi : Option Int) (n : Nat) : Builtin.Str.strSliceIndices lo hi 1 n = (List.range (HT.sIx n n hi - HT.sIx n 0 lo)).map (HT.sIx n 0 lo + ·) := by
  have e : Builtin.Str.strSliceIndices lo hi 1 n = sliceRange ((HT.sIx n 0 lo : Nat) : Int) ((HT.sIx n n hi : Nat) : Int) 1 := by
    unfold Builtin.Str.strSliceIndices
    dsimp only
    congr 1
    · cases lo with
      | none => simp [HT.sIx]
      | some i =>
        simp only [HT.sIx, show (1 : Int) > 0 by decide, if_true]
        by_cases h : i < 0
        · simp only [h, if_true]
          omega
        · simp only [h, if_false]
          omega
    · cases hi with
      | none => simp [HT.sIx]
      | some i =>
        simp only [HT.sIx, show (1 : Int) > 0 by decide, if_true]
        by_cases h : i < 0
        · simp only [h, if_true]
          omega
        · simp only [h, if_false]
          omega
  rw [e, sliceRange_one]
theorem cut_made (z : Str) (t : Tok) (l u : Option (Int × Tok)) : (sliceMade z t l u none = .val (.str z t) ∧ cutS z (l.map (·.1)) (u.map (·.1)) = z) ∨ sliceMade z t l u none = .str (cutS z (l.map (·.1)) (u.map (·.1))) := by
  have hp : slicePicked z l u none = (List.range (HT.sIx z.length z.length (u.map (·.1)) - HT.sIx z.length 0 (l.map (·.1)))).map (HT.sIx z.length 0 (l.map (·.1)) + ·) := strIx _ _ _
  have hc : (slicePicked z l u none).filterMap (z.cps[·]?) = (cutS z (l.map (·.1)) (u.map (·.1))).cps.toList := by
    rw [hp, pick_run]
    rfl
  unfold sliceMade
  split
  · rename_i hw
    left
    refine ⟨rfl, ext_cps ?_⟩
    have hlen : (slicePicked z l u none).length = z.length := by simpa using hw
    rw [hp, List.length_map, List.length_range] at hlen
    have h1 := HT.sIx_le z.length 0 (Nat.zero_le _) (l.map (·.1))
    have h2 := HT.sIx_le z.length z.length (Nat.le_refl _) (u.map (·.1))
    have e1 : HT.sIx z.length 0 (l.map (·.1)) = 0 ∨ z.length = 0 := by omega
    show ((z.cps.toList.drop (HT.sIx z.cps.size 0 (l.map (·.1)))).take _).toArray.toList = _
    rw [show z.cps.size = z.length from rfl] at *
    rcases e1 with e1 | e1
    · rw [e1, Nat.sub_zero] at hlen
      rw [e1, hlen, Nat.sub_zero, List.drop_zero, List.toList_toArray]
      exact List.take_of_length_le (by simp [Str.length])
    · have : z.cps.toList = [] := by
        have : z.cps.size = 0 := e1
        simpa using this
      rw [this]
      simp
  · right
    rw [hc]
section
variable {X : Cx}
theorem sl_str : SlR X rSlS := by
  intro pins s σ H x v vl vu lo hi sl Q I rx hs pl pu h
  obtain ⟨z, rfl, hz, q⟩ := h
  obtain ⟨t, rfl⟩ := rx
  refine ⟨"str", _, PySem.F.slot_str_getitem.lookup, typeIs_str _ _ _, ?_⟩
  obtain ⟨l, el, el'⟩ : ∃ l : Option (Int × Tok), vl = partValue l ∧ lo = l.map (·.1) := by
    cases pl with
    | none => exact ⟨none, rfl, rfl⟩
    | int i t => exact ⟨some (i, t), rfl, rfl⟩
  obtain ⟨u, eu, eu'⟩ : ∃ u : Option (Int × Tok), vu = partValue u ∧ hi = u.map (·.1) := by
    cases pu with
    | none => exact ⟨none, rfl, rfl⟩
    | int i t => exact ⟨some (i, t), rfl, rfl⟩
  subst el el' eu eu'
  refine wpAny_getItem_str_slice (l := l) (u := u) (st := none) hs rfl ?_
  rcases cut_made z t l u with ⟨e, e2⟩ | e
  · rw [e]
    rw [e2] at q
    exact ⟨.str z, H, I, ⟨t, rfl⟩, q⟩
  · rw [e]
    refine ⟨?_, .str _, H, I.tok _, ⟨_, rfl⟩, q⟩
    refine Nat.le_trans ?_ hz
    show (List.take _ (List.drop _ z.cps.toList)).toArray.size ≤ z.cps.size
    rw [List.size_toArray, List.length_take, List.length_drop]
    simp
    omega
/-- z[::-1] -/
def revS (z : Str) : Str := ⟨z.cps.toList.reverse.toArray⟩
def tRev (te : TE) : TE := fun σ H Q => te σ H fun x H1 => ∃ z, x = .str z ∧ z.length ≤ sizeLine ∧ Q (.str (revS z)) H1
end
end L2
end

section
set_option Elab.async false
set_option linter.all false
set_option maxRecDepth 100000
set_option maxHeartbeats 4000000
/-! zip and enumerate; comprehensions over pairs. -/
namespace L2
open PySem PySem.Spec PyProof.Rows
theorem b_zip : bootBuiltins "zip" = some (.type "zip") := by decide +kernel
theorem b_enumerate : bootBuiltins "enumerate" = some (.type "enumerate") := by decide +kernel

/-- several records of ours have turned, a new tuple stands -/
theorem Inv.turnT {X : Cx} {pins : List (Addr × Obj)} {σ : List (Option V)} {H : Hp} {s : Shared} {h' : Heap} {t' : Nat} {wr : List Addr} {T : Addr} {xs : List V} {us : List Value} (I : Inv X pins σ H s)
    (k : ∀ b o, b ∉ wr → s.heap.get? b = some o → h'.get? b = some o) (hf : ∀ b ∈ wr, FpOk X pins H b) (hT : s.heap.objs.size ≤ T) (hI : h'.IsTuple T us.toArray) (rv : Vals xs us) (hz : xs.length ≤ sizeLine) :
    Inv X pins σ (upd H T (.tup xs)) { s with heap := h', toks := t' } := by
  have hn : H T = none := I.hok.fresh hT
  have nT : ∀ b u, H b = some u → b ≠ T := fun b u e => ne_of_none e hn
  have nW : ∀ b u, H b = some u → b ∉ wr := fun b u e z => by rw [(hf b z).1] at e; cases e
  refine I.step (g' := s.gens) (d' := s.drawn) (ch := wr) (fun b hb => ?_) (fun b o _ _ hc e _ => k b o hc e) (fun b o _ _ hc e _ => ⟨o.slots, k b o hc e⟩) (fun b o hc e n => ?_)
    (fun b o hc e => ⟨o, k b o hc e⟩) (fun b xs e => by rw [upd_ne (nT _ _ e)]; exact e) (fun b o u e => by rw [upd_ne (nT _ _ e)]; exact e) (fun b ps e => ⟨#[], by rw [upd_ne (nT _ _ e), e]; simp⟩) (fun m hm => ?_) (fun b u e => ?_) I.bare
  · obtain ⟨_, f1, _, f3, f4, f5⟩ := hf b hb
    exact ⟨f3, f1, f4, f5⟩
  · rw [upd_ne (Nat.ne_of_lt (Nat.lt_of_lt_of_le (Heap.lt_size e) hT))]
    exact n
  · obtain ⟨o, es, ep, ho, r⟩ := hm
    exact ⟨o, es, ep, k _ o (fun z => (hf _ z).2.1 rfl) ho, r⟩
  · by_cases hb : b = T
    · subst hb
      rw [upd_same] at e
      cases e
      exact ⟨hz, us, rv, hI⟩
    · rw [upd_ne hb] at e
      refine (I.hok b u e).stay (fun c v hc q => k c v ?_ q) (fun c q => by rw [upd_ne (nT _ _ q)]; exact q) fun c ys q => by rw [upd_ne (nT _ _ q)]; exact q
      rcases hc with z | z
      · rw [z]; exact nW b u e
      · exact nW c _ z
/-- .. and no new one -/
theorem Inv.turnW {X : Cx} {pins : List (Addr × Obj)} {σ : List (Option V)} {H : Hp} {s : Shared} {h' : Heap} {t' : Nat} {wr : List Addr} (I : Inv X pins σ H s)
    (k : ∀ b o, b ∉ wr → s.heap.get? b = some o → h'.get? b = some o) (hf : ∀ b ∈ wr, FpOk X pins H b) : Inv X pins σ H { s with heap := h', toks := t' } := by
  have nW : ∀ b u, H b = some u → b ∉ wr := fun b u e z => by rw [(hf b z).1] at e; cases e
  refine I.step (g' := s.gens) (d' := s.drawn) (ch := wr) (fun b hb => ?_) (fun b o _ _ hc e _ => k b o hc e) (fun b o _ _ hc e _ => ⟨o.slots, k b o hc e⟩) (fun b o hc e n => n)
    (fun b o hc e => ⟨o, k b o hc e⟩) (fun _ _ e => e) (fun _ _ _ e => e) (fun b ps e => ⟨#[], by rw [e]; simp⟩) (fun m hm => ?_) (fun b u e => ?_) I.bare
  · obtain ⟨_, f1, _, f3, f4, f5⟩ := hf b hb
    exact ⟨f3, f1, f4, f5⟩
  · obtain ⟨o, es, ep, ho, r⟩ := hm
    exact ⟨o, es, ep, k _ o (fun z => (hf _ z).2.1 rfl) ho, r⟩
  · refine (I.hok b u e).stay (fun c v hc q => k c v ?_ q) (fun _ q => q) fun _ _ q => q
    rcases hc with z | z
    · rw [z]; exact nW b u e
    · exact nW c _ z
theorem cls_ne {h : Heap} {a b : Addr} {o u : Obj} (h1 : h.get? a = some o) (h2 : h.get? b = some u) (d : o.cls ≠ u.cls) : a ≠ b := fun e => by
  subst e
  rw [h1] at h2
  cases h2
  exact d rfl
/-- the pairs of two lists -/
def Itz (K : PySem.W.Frag) (a b : Addr) : It :=
  ⟨fun i H => ∃ xs ys x y, SqL K H a xs ∧ SqL K H b ys ∧ xs[i]? = some x ∧ ys[i]? = some y,
   fun i H v H' => ∃ t x y, H t = none ∧ v = .ref t ∧ (∀ xs, SqL K H a xs → xs[i]? = some x) ∧ (∀ ys, SqL K H b ys → ys[i]? = some y) ∧ H' = upd H t (.tup [x, y]),
   fun i H => ∃ xs ys, SqL K H a xs ∧ SqL K H b ys ∧ i = min xs.length ys.length⟩
def StZ (z TI TO i1 i2 l1 l2 : Addr) (i : Nat) (h : Heap) : Prop := IsZip h z TI TO .none ∧ IsPair h TI (.ref i1) (.ref i2) ∧ (∃ a b, IsPair h TO a b) ∧ h.IsListIter i1 l1 i ∧ h.IsListIter i2 l2 i
structure ApartZ (z TI TO i1 i2 : Addr) : Prop where
  TIz : TI ≠ z
  TOz : TO ≠ z
  i1z : i1 ≠ z
  i2z : i2 ≠ z
  TITO : TI ≠ TO
  TIi1 : TI ≠ i1
  TIi2 : TI ≠ i2
  TOi1 : TO ≠ i1
  TOi2 : TO ≠ i2
  i12 : i1 ≠ i2
theorem apartZ {h : Heap} {z TI TO i1 i2 a b : Addr} {i : Nat} {xs ys : Array Value} (D : ApartZ z TI TO i1 i2) (st : StZ z TI TO i1 i2 a b i h) (ha : h.IsList a xs) (hb : h.IsList b ys) : ZipApart z TI TO i1 i2 a b := by
  obtain ⟨hz, hTI, ⟨u, v, hTO⟩, ⟨o1, e1, c1, _⟩, ⟨o2, e2, c2, _⟩⟩ := st
  obtain ⟨oa, ea, ca, _⟩ := ha
  obtain ⟨ob, eb, cb, _⟩ := hb
  refine ⟨D.TIz, D.TOz, D.i1z, D.i2z, D.TITO, D.TIi1, D.TIi2, D.TOi1, D.TOi2, D.i12, cls_ne ea hz ?_, cls_ne ea hTO ?_, cls_ne ea e1 ?_, cls_ne ea e2 ?_, cls_ne eb hz ?_, cls_ne eb hTO ?_, cls_ne eb e1 ?_, cls_ne eb e2 ?_⟩
  · rw [ca]; exact show Value.type "list" ≠ Value.type "zip" by decide
  · rw [ca]; exact show Value.type "list" ≠ Value.type "tuple" by decide
  · rw [ca, c1]; decide
  · rw [ca, c2]; decide
  · rw [cb]; exact show Value.type "list" ≠ Value.type "zip" by decide
  · rw [cb]; exact show Value.type "list" ≠ Value.type "tuple" by decide
  · rw [cb, c1]; decide
  · rw [cb, c2]; decide
theorem apartZ_new (n : Nat) : ApartZ (n + 4) (n + 2) (n + 3) n (n + 1) := by
  constructor <;> (intro h; have h : (_ : Nat) = _ := h; omega)
theorem le_z5 {n c : Nat} (h : c = n + 4 ∨ c = n + 2 ∨ c = n + 3 ∨ c = n ∨ c = n + 1) : n ≤ c := by omega
theorem le_z2 {n c : Nat} (h : c = n + 1 ∨ c = n) : n ≤ c := by omega
theorem ne_z1 (n : Nat) : n + 1 ≠ n := by omega
theorem turn_zip {P : Program} {w : World} {K : PySem.W.Frag} {elts : List Expr} {k : Nat} {pos : Pos} (z TI TO i1 i2 a b : Addr) (D : ApartZ z TI TO i1 i2) :
    Turn P w K (.Tuple elts k pos) (Itz K a b) [z, TI, TO, i1, i2] z (StZ z TI TO i1 i2 a b) where
  mem := by simp
  obj := fun i h st c hc => by
    obtain ⟨hz, hTI, ⟨u, v, hTO⟩, ⟨o1, e1, c1, d1⟩, ⟨o2, e2, c2, d2⟩⟩ := st
    simp only [List.mem_cons, List.not_mem_nil, or_false] at hc
    rcases hc with rfl | rfl | rfl | rfl | rfl
    · exact ⟨_, hz, fun v z => by cases z⟩
    · exact ⟨_, hTI, fun v z => by cases z⟩
    · exact ⟨_, hTO, fun v z => by cases z⟩
    · exact ⟨_, e1, fun v z => by rw [d1] at z; cases z⟩
    · exact ⟨_, e2, fun v z => by rw [d2] at z; cases z⟩
  keep := fun i h h' st kk => by
    obtain ⟨hz, hTI, ⟨u, v, hTO⟩, h1, h2⟩ := st
    exact ⟨kk _ (by simp) _ hz, kk _ (by simp) _ hTI, ⟨u, v, kk _ (by simp) _ hTO⟩, h1.at fun o e => kk _ (by simp) o e, h2.at fun o e => kk _ (by simp) o e⟩
  item := by
    intro X hP hw hK hc i pins s σ H E I hf st hg
    subst hP hw hK
    obtain ⟨xs, ys, x, y, ha, hb, hx, hy⟩ := hg
    obtain ⟨its, rv, p, hz⟩ := I.list ha
    obtain ⟨its2, rv2, p2, hz2⟩ := I.list hb
    have W := WalksT.zip2 (prog := X.prog) (w := X.w) (A := X.A) (I.ok.hd hc) z TI TO i1 i2 a b (apartZ D st p.isList p2.isList) its.toArray its2.toArray
    obtain ⟨u1, hu1, ru1⟩ := rv.get hx
    obtain ⟨u2, hu2, ru2⟩ := rv2.get hy
    have l1 := (List.getElem?_eq_some_iff.mp hu1).1
    have l2 := (List.getElem?_eq_some_iff.mp hu2).1
    obtain ⟨s1, s2, s3, s4, s5⟩ := id st
    refine W.item i s _ _ (by simp; omega) ⟨s1, s2, s3, s4, s5, p.isList, p2.isList⟩ fun T vals h' tk hv hT hTu mid kk => ?_
    obtain ⟨v1, v2, e1, e2, rfl⟩ := hv
    have e1 : v1 = u1 := by have := e1; simp only [List.getElem?_toArray] at this; rw [hu1] at this; exact (Option.some.inj this).symm
    have e2 : v2 = u2 := by have := e2; simp only [List.getElem?_toArray] at this; rw [hu2] at this; exact (Option.some.inj this).symm
    subst e1 e2
    have nT := W.apart i T h' mid
    refine ⟨.ref T, rfl, W.go elts k pos i T { s with heap := h', toks := tk } _ _ mid fun h'' st'' kk2 => ?_⟩
    have hTu2 : h''.IsTuple T ([v1, v2] : List Value).toArray := by
      obtain ⟨o, e, r⟩ := hTu
      exact ⟨o, kk2 T o nT e, r⟩
    have I2 : Inv X pins σ (upd H T (.tup [x, y])) { s with heap := h'', toks := tk } := I.turnT (t' := tk) (fun b o hb e => kk2 b o hb (kk b o hb e)) (fun b hb => hf b (by simp at hb ⊢; rcases hb with rfl | rfl | rfl | rfl <;> simp)) hT hTu2 (.cons ru1 (.cons ru2 .nil)) (show 2 ≤ sizeLine by decide)
    refine ⟨.ref T, _, I2, rfl, ⟨T, x, y, I.hok.fresh hT, rfl, fun xs' h => by rw [I.list_inj h ha]; exact hx, fun ys' h => by rw [I.list_inj h hb]; exact hy, rfl⟩, ⟨st''.1, st''.2.1, st''.2.2.1, st''.2.2.2.1, st''.2.2.2.2.1⟩, fun c hc' => ?_⟩
    have hlt : c < s.heap.objs.size := by
      obtain ⟨q, ⟨t1, t2, t3⟩⟩ : c ∈ [z, TI, TO, i1, i2] ∧ (IsZip s.heap z TI TO .none ∧ IsPair s.heap TI (.ref i1) (.ref i2) ∧ True) := ⟨hc', s1, s2, trivial⟩
      obtain ⟨u, v, s3⟩ := s3
      obtain ⟨o4, s4, _⟩ := s4
      obtain ⟨o5, s5, _⟩ := s5
      simp only [List.mem_cons, List.not_mem_nil, or_false] at hc'
      rcases hc' with rfl | rfl | rfl | rfl | rfl
      · exact Heap.lt_size s1
      · exact Heap.lt_size s2
      · exact Heap.lt_size s3
      · exact Heap.lt_size s4
      · exact Heap.lt_size s5
    rw [upd_ne (Nat.ne_of_lt (Nat.lt_of_lt_of_le hlt hT))]
    exact (hf c hc').1
  done := by
    intro X hP hw hK hc i pins s σ H E I hf st hg
    subst hP hw hK
    obtain ⟨xs, ys, ha, hb, hi⟩ := hg
    obtain ⟨its, rv, p, hz⟩ := I.list ha
    obtain ⟨its2, rv2, p2, hz2⟩ := I.list hb
    have W := WalksT.zip2 (prog := X.prog) (w := X.w) (A := X.A) (I.ok.hd hc) z TI TO i1 i2 a b (apartZ D st p.isList p2.isList) its.toArray its2.toArray
    have hl := rv.length
    have hl2 := rv2.length
    have hi2 : i = min its.toArray.size its2.toArray.size := by rw [hi, hl, hl2]; simp
    obtain ⟨s1, s2, s3, s4, s5⟩ := id st
    refine W.done s _ _ (by rw [← hi2]; exact ⟨s1, s2, s3, s4, s5, p.isList, p2.isList⟩) fun h' tk kk => ⟨rfl, ?_⟩
    exact I.turnW (t' := tk) kk fun b hb => hf b (by simp at hb ⊢; rcases hb with rfl | rfl | rfl | rfl <;> simp)
  self := fun _ _ _ _ _ st h => wpAny_pyIter_zip st.1 h
section
variable {X : Cx} {elts : List Expr} {k : Nat} {tpos : Pos}
def iZip (K : PySem.W.Frag) (ta : TA) : TI := fun σ H R => ta σ H fun vs H1 => ∃ a b, vs = [.ref a, .ref b] ∧ (∃ xs, SqL K H1 a xs) ∧ (∃ ys, SqL K H1 b ys) ∧ R (Itz K a b) H1
theorem pi_zip {a b : Expr} {ta : TA} {p pos : Pos} (hg : Gl X "zip") (hm : X.mg "zip" = none) (ha : PA X [a, b] ta) (hs : starEach [a, b] X.env = [(false, eval a X.env), (false, eval b X.env)] := by rfl) (hs2 : starEach [b] X.env = [(false, eval b X.env)] := by rfl) :
    PI X (.Tuple elts k tpos) (.Call (.Name "zip" p) [a, b] [] pos) (iZip X.K ta) := by
  intro pins s σ H R I h
  refine Call_ (ld_blt I hg hm b_zip (PyProof.Rows.callWith_type1 (thn (ha pos pins s σ H _ I h) fun us s1 ⟨vs, H1, I1, r1, q1⟩ => ?_) (by rw [hs, hs2]) (by rw [hs2]; rfl)))
  obtain ⟨a, b, e, ⟨xs, hx⟩, ⟨ys, hy⟩, q⟩ := q1
  subst e
  obtain ⟨u, v, rfl, ru, rv⟩ := vals2 r1
  cases ru
  cases rv
  obtain ⟨its, rv, p, hz⟩ := I1.list hx
  obtain ⟨its2, rv2, p2, hz2⟩ := I1.list hy
  refine call_zip_2 p.isList p2.isList fun h' g1 g2 g3 g4 g5 hsz kk => ?_
  refine wpAny_pyIter_zip (s := { s1 with heap := h' }) g1 ?_
  refine ⟨s1.heap.objs.size + 4, [s1.heap.objs.size + 4, s1.heap.objs.size + 2, s1.heap.objs.size + 3, s1.heap.objs.size, s1.heap.objs.size + 1], _, _, H1, rfl, I1.kept (t' := s1.toks) kk,
    turn_zip _ _ _ _ _ a b (apartZ_new _), ⟨g1, g2, ⟨_, _, g3⟩, g4, g5⟩, fun c hc => ?_, q⟩
  have hle : s1.heap.objs.size ≤ c := by
    simp only [List.mem_cons, List.not_mem_nil, or_false] at hc
    exact le_z5 hc
  exact I1.fpOk hle (I1.hok.fresh hle)
end
/-- the numbered items of a list -/
def Ite (K : PySem.W.Frag) (a : Addr) : It :=
  ⟨fun i H => ∃ xs x, SqL K H a xs ∧ xs[i]? = some x,
   fun i H v H' => ∃ t x, H t = none ∧ v = .ref t ∧ (∀ xs, SqL K H a xs → xs[i]? = some x) ∧ H' = upd H t (.tup [.int i, x]),
   fun i H => ∃ xs, SqL K H a xs ∧ i = xs.length⟩
def StE (e it l : Addr) (i : Nat) (h : Heap) : Prop := (∃ old, IsEnum h e it i old) ∧ h.IsListIter it l i
theorem turn_enum {P : Program} {w : World} {K : PySem.W.Frag} {elts : List Expr} {k : Nat} {pos : Pos} (e it a : Addr) (D : e ≠ it) :
    Turn P w K (.Tuple elts k pos) (Ite K a) [e, it] e (StE e it a) where
  mem := by simp
  obj := fun i h st c hc => by
    obtain ⟨⟨old, he⟩, ⟨o1, e1, c1, d1⟩⟩ := st
    simp only [List.mem_cons, List.not_mem_nil, or_false] at hc
    rcases hc with rfl | rfl
    · exact ⟨_, he, fun v z => by cases z⟩
    · exact ⟨_, e1, fun v z => by rw [d1] at z; cases z⟩
  keep := fun i h h' st kk => by
    obtain ⟨⟨old, he⟩, h1⟩ := st
    exact ⟨⟨old, kk _ (by simp) _ he⟩, h1.at fun o e => kk _ (by simp) o e⟩
  item := by
    intro X hP hw hK hc i pins s σ H E I hf st hg
    subst hP hw hK
    obtain ⟨xs, x, ha, hx⟩ := hg
    obtain ⟨its, rv, p, hz⟩ := I.list ha
    obtain ⟨⟨old, s1⟩, s2⟩ := id st
    have n1 : a ≠ e := by obtain ⟨oa, ea, ca, _⟩ := p.isList; exact cls_ne ea s1 (by rw [ca]; exact show Value.type "list" ≠ Value.type "enumerate" by decide)
    have n2 : a ≠ it := by obtain ⟨oa, ea, ca, _⟩ := p.isList; obtain ⟨o1, e1, c1, _⟩ := s2; exact cls_ne ea e1 (by rw [ca, c1]; decide)
    have W := WalksT.enumerate (prog := X.prog) (w := X.w) (A := X.A) (I.ok.hd hc) e it a D n1 n2 its.toArray
    obtain ⟨u1, hu1, ru1⟩ := rv.get hx
    have l1 := (List.getElem?_eq_some_iff.mp hu1).1
    refine W.item i s _ _ (by simpa using l1) ⟨⟨old, s1⟩, s2, p.isList⟩ fun T vals h' tk hv hT hTu mid kk => ?_
    obtain ⟨t, v1, e1, rfl⟩ := hv
    have e1 : v1 = u1 := by have := e1; simp only [List.getElem?_toArray] at this; rw [hu1] at this; exact (Option.some.inj this).symm
    subst e1
    have nT := W.apart i T h' mid
    refine ⟨.ref T, rfl, W.go elts k pos i T { s with heap := h', toks := tk } _ _ mid fun h'' st'' kk2 => ?_⟩
    have hTu2 : h''.IsTuple T ([Value.int (i : Int) t, v1] : List Value).toArray := by
      obtain ⟨o, e, r⟩ := hTu
      exact ⟨o, kk2 T o nT e, r⟩
    have I2 : Inv X pins σ (upd H T (.tup [.int i, x])) { s with heap := h'', toks := tk } := I.turnT (t' := tk) (fun b o hb e => kk2 b o hb (kk b o hb e)) (fun b hb => hf b hb) hT hTu2 (.cons ⟨t, rfl⟩ (.cons ru1 .nil)) (show 2 ≤ sizeLine by decide)
    refine ⟨.ref T, _, I2, rfl, ⟨T, x, I.hok.fresh hT, rfl, fun xs' h => by rw [I.list_inj h ha]; exact hx, rfl⟩, ⟨?_, st''.2.1⟩, fun c hc' => ?_⟩
    · exact st''.1
    have hlt : c < s.heap.objs.size := by
      obtain ⟨o5, s5, _⟩ := s2
      simp only [List.mem_cons, List.not_mem_nil, or_false] at hc'
      rcases hc' with rfl | rfl
      · exact Heap.lt_size s1
      · exact Heap.lt_size s5
    rw [upd_ne (Nat.ne_of_lt (Nat.lt_of_lt_of_le hlt hT))]
    exact (hf c hc').1
  done := by
    intro X hP hw hK hc i pins s σ H E I hf st hg
    subst hP hw hK
    obtain ⟨xs, ha, hi⟩ := hg
    obtain ⟨its, rv, p, hz⟩ := I.list ha
    obtain ⟨⟨old, s1⟩, s2⟩ := id st
    have n1 : a ≠ e := by obtain ⟨oa, ea, ca, _⟩ := p.isList; exact cls_ne ea s1 (by rw [ca]; exact show Value.type "list" ≠ Value.type "enumerate" by decide)
    have n2 : a ≠ it := by obtain ⟨oa, ea, ca, _⟩ := p.isList; obtain ⟨o1, e1, c1, _⟩ := s2; exact cls_ne ea e1 (by rw [ca, c1]; decide)
    have W := WalksT.enumerate (prog := X.prog) (w := X.w) (A := X.A) (I.ok.hd hc) e it a D n1 n2 its.toArray
    have hl := rv.length
    have hi2 : i = its.toArray.size := by rw [hi, hl]; simp
    refine W.done s _ _ (by rw [← hi2]; exact ⟨⟨old, s1⟩, s2, p.isList⟩) fun h' tk kk => ⟨rfl, ?_⟩
    exact I.turnW (t' := tk) kk fun b hb => hf b hb
  self := fun _ _ _ _ _ st h => wpAny_pyIter_enum (Classical.choose_spec st.1) h
section
variable {X : Cx} {elts : List Expr} {k : Nat} {tpos : Pos}
def iEnum (K : PySem.W.Frag) (ta : TA) : TI := fun σ H R => ta σ H fun vs H1 => ∃ a, vs = [.ref a] ∧ (∃ xs, SqL K H1 a xs) ∧ R (Ite K a) H1
theorem pi_enum {a : Expr} {ta : TA} {p pos : Pos} (hg : Gl X "enumerate") (hm : X.mg "enumerate" = none) (ha : PA X [a] ta) (hs : starEach [a] X.env = [(false, eval a X.env)] := by rfl) :
    PI X (.Tuple elts k tpos) (.Call (.Name "enumerate" p) [a] [] pos) (iEnum X.K ta) := by
  intro pins s σ H R I h
  refine Call_ (ld_blt I hg hm b_enumerate (PyProof.Rows.callWith_type1 (thn (ha pos pins s σ H _ I h) fun us s1 ⟨vs, H1, I1, r1, q1⟩ => ?_) hs rfl))
  obtain ⟨a, e, ⟨xs, hx⟩, q⟩ := q1
  subst e
  obtain ⟨u, rfl, ru⟩ := vals1 r1
  cases ru
  obtain ⟨its, rv, p, hz⟩ := I1.list hx
  refine call_enumerate_list p.isList fun h' g1 g2 hsz kk => ?_
  refine wpAny_pyIter_enum (s := { s1 with heap := h' }) g1 ?_
  refine ⟨s1.heap.objs.size + 1, [s1.heap.objs.size + 1, s1.heap.objs.size], _, _, H1, rfl, I1.kept (t' := s1.toks) kk,
    turn_enum _ _ a (ne_z1 _), ⟨⟨_, g1⟩, g2⟩, fun c hc => ?_, q⟩
  have hle : s1.heap.objs.size ≤ c := by
    simp only [List.mem_cons, List.not_mem_nil, or_false] at hc
    exact le_z2 hc
  exact I1.fpOk hle (I1.hok.fresh hle)
end
end L2
end

section
set_option Elab.async false
set_option linter.all false
set_option maxRecDepth 100000
set_option maxHeartbeats 4000000
/-! Comprehensions over pairs. -/
namespace L2
open PySem PySem.Spec PyProof.Rows
/-- as LcScope, with two names of its own -/
structure LcScope2 (N₀ : List Str) (sc₀ sc : Scope) (x1 x2 : Str) (N : List Str) (ix : List Nat) : Prop where
  kind : sc.kind = .function
  nocell : ∀ y ∈ sc.names, y.2 ≠ .cell
  names : ∀ y ∈ sc.names, y.2 = .local → sc.names.lookup y.1 = some .local
  free : ∀ y ∈ sc.names, y.2 = .free → sc₀.names.lookup y.1 = some .cell
  nd : N.Nodup
  hd : N[0]? = some x1
  hd2 : N[1]? = some x2
  loc : sc.names.lookup x1 = some .local
  loc2 : sc.names.lookup x2 = some .local
  len : N.length = ix.length + 2
  at_ : ∀ p ∈ N.tail.tail.zip ix, N₀[p.2]? = some p.1 ∧ sc.names.lookup p.1 = some .free
def rdLc2 (K : PySem.W.Frag) (J : It) (H1 : Hp) (fr : St) (tc : TT) (te : TE) (Q : VK) : Prop := ∀ D, H1 D = none → ∃ W : Nat → Nat → Hp → Prop, (∃ m, W 0 m (upd H1 D (.lst []))) ∧ ∀ i m H, W i m H →
  (J.stop i H ∧ Q (.ref D) H) ∨ (J.go i H ∧ ∀ v H', J.yld i H v H' → ∃ a x y, v = .ref a ∧ SqT K H' a [x, y] ∧ tc (some x :: some y :: fr) H' fun b H3 =>
    if b = true then te (some x :: some y :: fr) H3 fun y H4 => ∃ ys, H4 D = some (.lst ys) ∧ ys.length < sizeLine ∧ ∃ m', m' < m ∧ W (i + 1) m' (upd H4 D (.lst (ys ++ [y]))) else ∃ m', m' < m ∧ W (i + 1) m' H3)
def tLc2 (K : PySem.W.Frag) (wi : TI) (ix : List Nat) (tc : TT) (te : TE) : TE := fun σ H Q => wi σ H fun J H1 => rdLc2 K J H1 (frV σ ix) tc te Q
section
variable {X : Cx} {scope : Scope} {N : List Str} {ix : List Nat} {x1 x2 : Str} {px px2 ppos : Pos} {kk : Nat} {elt iter : Expr} {ifs : List Expr} {tc : TT} {te : TE} {pos : Pos}
theorem lc_ok2 {pins : List (Addr × Obj)} {σ : St} {H2 : Hp} {s2 : Shared} {J : It} {fp : List Addr} {it : Addr} {tn : Nat → Heap → Prop} {tg : Expr} (L : LcScope2 X.N X.env.scope scope x1 x2 N ix) (I2 : Inv X pins σ H2 s2)
    (T : Turn X.prog X.w X.K tg J fp it tn) (st2 : tn 0 s2.heap) (f2 : ∀ b ∈ fp, FpOk X pins H2 b) {C : Addr} {s3 s4 : Shared} {H3 : Hp} (I3 : Inv X pins σ H3 s3) (I4 : Inv X pins σ H3 s4) (hle : s2.heap.objs.size ≤ s3.heap.objs.size)
    (hC : C = s3.heap.objs.size) (ho : s4.os = s3.os) (kp : ∀ b u, s3.heap.get? b = some u → s4.heap.get? b = some u) {m : Str → Option Value} (hns : s4.heap.Ns C m) : Inv (cxLc X scope N C s3 H3 fp) [] (none :: none :: frV σ ix) H3 s4 := by
  have hfree : ∀ y ∈ scope.names, y.2 = .free → ∃ c, X.env.cells.lookup y.1 = some c := fun y hy hf => I2.ok.has y.1 (.inl (L.free y hy hf))
  have sub : ∀ y c, (cloGo X.env scope.names []).lookup y = some c → X.env.cells.lookup y = some c := fun y c h => cloGo_sub _ _ y c hfree (fun _ _ z => by simp at z) h
  have lt2 : ∀ b ∈ fp, b < s2.heap.objs.size := fun b hb => by obtain ⟨o, e, _⟩ := T.obj _ _ st2 b hb; exact Heap.lt_size e
  have okY : (cxLc X scope N C s3 H3 fp).Ok := by
    refine ⟨I2.ok.mod, L.kind, I2.ok.glob, I2.ok.blt, Nat.le_of_eq hC.symm, fun y z c h1 h2 => I2.ok.inj y z c (sub y c h1) (sub z c h2), fun y hy => ?_, fun y c z _ => ?_, I2.ok.hd, I2.ok.frames, .inl rfl, fun b hb => ⟨?_, fun y c h => (f2 b hb).2.2.2.2.1 y c (sub y c h)⟩,
      I3.bs, Nat.le_trans I3.ok.bsz I3.sz, fun b o e hb => ?_, fun b hb z => ?_, I3.stack, I3.stkFree⟩
    · have hk : (y, NameKind.free) ∈ scope.names := by
        rcases hy with hy | hy
        · rcases relabel_of hy with q | q
          · exact absurd rfl (L.nocell _ q)
          · exact q.1
        · rcases relabel_of hy with q | q
          · exact q
          · exact absurd q.2 (by decide)
      exact Option.isSome_iff_exists.mp (cloGo_has _ _ y hk)
    · cases (show false = true from z)
    · have l := lt2 b hb
      show b ≠ C
      rw [hC]
      exact Nat.ne_of_lt (Nat.lt_of_lt_of_le l hle)
    · rcases (f2 b hb).2.2.2.1 with q | q
      · exact I2.ok.noex b o e q
      · exact absurd (Nat.lt_of_lt_of_le (Heap.lt_size e) (Nat.le_trans I2.ok.bsz q)) (Nat.lt_irrefl _)
    · rcases List.mem_cons.mp (I2.stkSub b z) with q | q
      · exact (f2 b hb).2.1 q
      · exact (f2 b hb).2.2.1 q
  refine ⟨okY, ho, I4.bare, Un.kept kp, ⟨m, hns, fun i y v h1 h2 h3 => ?_⟩, fun y c e => I4.cell y c (sub y c e), ?_, fun y c e => I4.freeC y c (sub y c e), fun p hp => absurd (show p ∈ ([] : List (Addr × Obj)) from hp) (by simp), I4.hok, ?_⟩
  · cases i with
    | zero => cases (show some none = some (some v) from h2)
    | succ k =>
     cases k with
     | zero => cases (show some none = some (some v) from h2)
     | succ k =>
      have h2 : (frV σ ix)[k]? = some (some v) := h2
      have h1 : N[k + 1 + 1]? = some y := h1
      unfold frV at h2
      rw [List.getElem?_map] at h2
      cases hj : ix[k]? with
      | none => rw [hj] at h2; cases h2
      | some j =>
        rw [hj] at h2
        have h2 : (σ[j]?).getD none = some v := Option.some.inj h2
        have h2' : σ[j]? = some (some v) := by
          cases e : σ[j]? with
          | none => rw [e] at h2; cases h2
          | some z => rw [e] at h2; exact congrArg some h2
        have ht : N.tail.tail[k]? = some y := by rw [List.getElem?_tail, List.getElem?_tail]; exact h1
        have hz : (y, j) ∈ N.tail.tail.zip ix := List.mem_of_getElem? (i := k) (by rw [List.getElem?_zip_eq_some]; exact ⟨ht, hj⟩)
        obtain ⟨q1, q2⟩ := L.at_ _ hz
        have hm := PySem.mem_of_lookup q2
        have hcell := L.free _ hm rfl
        obtain ⟨m', hn', hl'⟩ := I4.loc
        obtain ⟨u, r, lk⟩ := hl' j y v q1 h2' (.inr (.inl hcell))
        refine ⟨u, r, .inr ⟨.inl (relabel_free I2.ok.kind hcell q2), ?_⟩⟩
        rcases lk with lk | ⟨_, c, e, z⟩
        · rw [show X.env.kindOf y = some .cell from hcell] at lk
          cases lk.1
        · obtain ⟨c', e'⟩ := Option.isSome_iff_exists.mp (cloGo_has (env := X.env) scope.names [] y hm)
          have e2 := sub y c' e'
          rw [e] at e2
          cases e2
          exact ⟨c, e', z⟩
  · show H3 C = none
    exact I3.hok.fresh (Nat.le_of_eq hC.symm)
  · show (none :: none :: frV σ ix).length = N.length
    rw [L.len]
    simp [frV]
theorem lc_run2 {tgt : Expr} (htg : tgt = .Tuple [.Name x1 px, .Name x2 px2] kk ppos) {pins : List (Addr × Obj)} {σ : St} {H2 : Hp} {s2 : Shared} {J : It} {fp : List Addr} {it : Addr} {tn : Nat → Heap → Prop} (hc : X.calm = true) (L : LcScope2 X.N X.env.scope scope x1 x2 N ix) (I2 : Inv X pins σ H2 s2)
    (T : Turn X.prog X.w X.K tgt J fp it tn) (st2 : tn 0 s2.heap) (f2 : ∀ b ∈ fp, FpOk X pins H2 b)
    (hif : ∀ C s H, PIf (cxLc X scope N C s H fp) ifs tc) (he : ∀ C s H, PE (cxLc X scope N C s H fp) elt te) {Q : VK} (rd : rdLc2 X.K J H2 (frV σ ix) tc te Q) {RR : Value → Addr → Result → Shared → Prop} {E : Value → Shared → Prop}
    (fin : ∀ D C H' s' m, Inv X pins σ H' s' → s2.heap.objs.size ≤ C → H' C = none → s'.heap.Ns C m → Q (.ref D) H' → RR (.ref D) C (.ok .next) s') :
    wpAny (model X.prog X.w) X.A (newList []) (fun acc s3 => wpAny (model X.prog X.w) X.A (newFunctionEnv scope X.env.globals (cloGo X.env scope.names []) [] X.env.qual none .none (some X.env)) (fun cenv s4 =>
      codeAny (model X.prog X.w) X.A (.compStart (.ListComp elt [⟨tgt, iter, ifs, 0⟩] scope pos) 0 (.ref it) acc { cenv with scope := relabel scope X.env }) (RR acc cenv.locals) s4) E s3) E s2 := by
  refine wpAny_newObj_type (wpAny_newFunctionEnv L.nocell (by intro y hy; simp at hy) (fun h1 hns hsb => ?_) L.kind)
  dsimp only at hns hsb ⊢
  have I3 : Inv X pins σ (upd H2 s2.heap.objs.size (.lst [])) { s2 with heap := s2.heap.push { cls := .type "list", dict := none, data := .seq ([] : List Value).toArray } } := I2.lnew (its := []) (t' := s2.toks) .nil (Nat.zero_le _)
  generalize hH3 : s2.heap.push { cls := .type "list", dict := none, data := .seq ([] : List Value).toArray } = h3 at hns hsb I3 ⊢
  have hsz : h3.objs.size = s2.heap.objs.size + 1 := by rw [← hH3, Heap.size_push]
  have kp34 : ∀ b u, h3.get? b = some u → h1.get? b = some u := fun b u e => hsb.extBut b u (Nat.ne_of_lt (Heap.lt_size e)) (Heap.get?_push_of_some _ e)
  have I4 : Inv X pins σ (upd H2 s2.heap.objs.size (.lst [])) { s2 with heap := h1, toks := s2.toks + ([] : List (Str × Value)).length } := I3.kept (t' := s2.toks + ([] : List (Str × Value)).length) kp34
  have kp24 : ∀ b u, s2.heap.get? b = some u → h1.get? b = some u := fun b u e => kp34 b u (by rw [← hH3]; exact Heap.get?_push_of_some _ e)
  have IY := lc_ok2 (C := h3.objs.size) (s3 := { s2 with heap := h3 }) L I2 T st2 f2 I3 I4 (by show s2.heap.objs.size ≤ h3.objs.size; omega) rfl rfl kp34 hns
  have fD : H2 s2.heap.objs.size = none := I2.hok.fresh (Nat.le_refl _)
  have lt2 : ∀ b ∈ fp, b < s2.heap.objs.size := fun b hb => by obtain ⟨o, e, _⟩ := T.obj _ _ st2 b hb; exact Heap.lt_size e
  have st4 : tn 0 h1 := T.keep _ _ _ st2 fun b _ o e => kp24 b o e
  have stat : ∀ {pn : List (Addr × Obj)} {H' : Hp}, pn = [] → (∀ b ∈ fp, H' b = none) → ∀ b ∈ fp, FpOk (cxLc X scope N h3.objs.size { s2 with heap := h3 } (upd H2 s2.heap.objs.size (.lst [])) fp) pn H' b := fun hp hn b hb => by
    subst hp
    exact ⟨hn b hb, (IY.ok.exf b hb).1, IY.ok.exfs b hb, .inl hb, (IY.ok.exf b hb).2, fun p hp => absurd (show p ∈ ([] : List (Addr × Obj)) from hp) (by simp)⟩
  obtain ⟨W, ⟨m0, w0⟩, turn⟩ := rd _ fD
  have loop : codeAny (model X.prog X.w) X.A (.compLoop (.ListComp elt [⟨tgt, iter, ifs, 0⟩] scope pos) 0 (.ref it) (.ref s2.heap.objs.size) (compEnvC scope (cloGo X.env scope.names []) h3.objs.size X.env)) (RR (.ref s2.heap.objs.size) h3.objs.size)
      { s2 with heap := h1, toks := s2.toks + ([] : List (Str × Value)).length } := by
    refine lc_loop (fun n s' => ∃ i H', Inv (cxLc X scope N h3.objs.size { s2 with heap := h3 } (upd H2 s2.heap.objs.size (.lst [])) fp) [] (none :: none :: frV σ ix) H' s' ∧ tn i s'.heap ∧ (∀ b ∈ fp, H' b = none) ∧ W i n H') ?_ m0
      ⟨0, _, IY, st4, fun b hb => by rw [upd_ne (Nat.ne_of_lt (lt2 b hb))]; exact (f2 b hb).1, w0⟩
    rintro n s5 ⟨i, H5, I5, st5, fr5, w5⟩
    rcases turn i n H5 w5 with ⟨stop, q⟩ | ⟨go, step⟩
    · refine thn (T.done (cxLc X scope N h3.objs.size { s2 with heap := h3 } (upd H2 s2.heap.objs.size (.lst [])) fp) rfl rfl rfl hc i [] s5 _ H5 (fun _ _ => False) I5 (stat rfl fr5) st5 stop) fun r s6 ⟨hr, I6⟩ => ?_
      subst hr
      obtain ⟨m6, hn6, _⟩ := I6.loc
      have u1 : Un (frs X.stack) fp H2 (upd H2 s2.heap.objs.size (.lst [])) s2.heap h3 := Un.laid (fun b u e => by rw [← hH3]; exact Heap.get?_push_of_some _ e) (Nat.le_refl _) fD
      have back : Inv X pins σ H5 s6 := I2.call' (ch := fp) (I6.os.trans rfl) (u1.trans I6.base) I6.hok I6.bare fun b hb => ⟨(f2 b hb).2.2.2.1, (f2 b hb).2.1, (f2 b hb).2.2.2.2.1, (f2 b hb).2.2.2.2.2⟩
      exact fin _ _ H5 s6 m6 back (by omega) I6.free hn6 q
    · refine thn (T.item (cxLc X scope N h3.objs.size { s2 with heap := h3 } (upd H2 s2.heap.objs.size (.lst [])) fp) rfl rfl rfl hc i [] s5 _ H5 (fun _ _ => False) I5 (stat rfl fr5) st5 go) fun r s6 ⟨u, hr, h6⟩ => ?_
      subst hr
      refine thn h6 fun _ s7 ⟨y, H7, I7, r7, y7, st7, fr7⟩ => ?_
      have I7' := I7.pinned (stat rfl fr7) (T.obj _ _ st7)
      have hg : PG (cxLc X scope N h3.objs.size { s2 with heap := h3 } (upd H2 s2.heap.objs.size (.lst [])) fp) tgt (gTup X.K 2 (gCons (gName 0) (gCons (gName 1) gNil))) := by
        rw [htg]
        exact pg_tup hc (pgs_cons (pg_name L.nd L.hd (.inl (lookup_relabel_local L.loc)) (.inr (lookup_relabel_local L.loc))) (pgs_cons (pg_name L.nd L.hd2 (.inl (lookup_relabel_local L.loc2)) (.inr (lookup_relabel_local L.loc2))) pgs_nil))
      obtain ⟨ta, y1, y2, ey, hTu, hst⟩ := step y _ y7
      refine thn (hg _ s7 _ H7 y u (fun σ' H' => σ' = some y1 :: some y2 :: frV σ ix ∧ H' = H7) I7' r7 ⟨ta, [y1, y2], ey, hTu, rfl, y1, [y2], rfl, y2, [], rfl, rfl, rfl, rfl⟩) fun _ s8 ⟨σ8, H8, I8, e8, e8'⟩ => ?_
      subst e8 e8'
      refine thn (hif _ _ _ _ s8 _ _ _ I8 hst) fun ok s9 ⟨H9, I9, q9⟩ => ?_
      have again : ∀ {sz : Shared} {Hz : Hp} {m' : Nat}, Inv (cxLc X scope N h3.objs.size { s2 with heap := h3 } (upd H2 s2.heap.objs.size (.lst [])) fp) ([] ++ pinsAt fp s7.heap) (some y1 :: some y2 :: frV σ ix) Hz sz → m' < n → W (i + 1) m' Hz →
          ∃ m, m < n ∧ ∃ i H', Inv (cxLc X scope N h3.objs.size { s2 with heap := h3 } (upd H2 s2.heap.objs.size (.lst [])) fp) [] (none :: none :: frV σ ix) H' sz ∧ tn i sz.heap ∧ (∀ b ∈ fp, H' b = none) ∧ W i m H' := fun {sz Hz m'} Iz hm wz => by
        refine ⟨m', hm, i + 1, Hz, Iz.unpinned.weak (by simp) (fun j v e => ?_), T.keep _ _ _ st7 fun b hb o e => (Iz.pin (b, o) (List.mem_append_right _ (List.mem_append_right _ (mem_pinsAt hb e)))).1, fun b hb => ?_, wz⟩
        · cases j with
          | zero => cases e
          | succ j =>
            cases j with
            | zero => cases e
            | succ j => exact e
        · obtain ⟨o, e, d⟩ := T.obj _ _ st7 b hb
          exact (Iz.pin (b, o) (List.mem_append_right _ (List.mem_append_right _ (mem_pinsAt hb e)))).2.1
      cases ok with
      | false =>
        obtain ⟨m', hm, wz⟩ := q9
        exact again I9 hm wz
      | true =>
        refine thn (he _ _ _ _ s9 _ _ _ I9 q9) fun xv s10 ⟨z, H10, I10, r10, ys, hD, hl, m', hm, wz⟩ => ?_
        refine thn (mt_append _ s10 _ H10 (.ref s2.heap.objs.size) [z] (.ref s2.heap.objs.size) [xv] (fun _ Hz => Hz = upd H10 s2.heap.objs.size (.lst (ys ++ [z]))) I10 rfl (.cons r10 .nil) ⟨_, ys, z, rfl, rfl, hD, hl, rfl⟩) fun _ s11 ⟨_, H11, I11, _, q11⟩ => ?_
        subst q11
        exact again I11 hm wz
  exact codeAny_compStart_list loop (T.self X.A 0 _ _ _ st4 loop)
/-- name = [elt for x in iter if ..] -/
theorem ps_setlc2 {wi : TI} {i : Nat} {y : Str} {py spos : Pos} (hc : X.calm = true) (L : LcScope2 X.N X.env.scope scope x1 x2 N ix) (hN : X.N.Nodup) (hy : X.N[i]? = some y) (hl : X.env.scope.names.lookup y = some .local)
    (hi : PI X (.Tuple [.Name x1 px, .Name x2 px2] kk ppos) iter wi) (hif : ∀ C s H fp, PIf (cxLc X scope N C s H fp) ifs tc) (he : ∀ C s H fp, PE (cxLc X scope N C s H fp) elt te)
    (hsw : swapsWith (.ListComp elt [⟨.Tuple [.Name x1 px, .Name x2 px2] kk ppos, iter, ifs, 0⟩] scope pos) (some (.Name y py)) spos.line X.env = pure true := by rfl)
    (hs : ∀ z, foldedSetIterable iter X.env z = pure z := by intro _; rfl) : PS X (.Assign [.Name y py] (.ListComp elt [⟨.Tuple [.Name x1 px, .Name x2 px2] kk ppos, iter, ifs, 0⟩] scope pos) spos) (tAsg (tLc2 X.K wi ix tc te) (gName i)) := by
  intro pins s σ H D I h
  have hfree : ∀ y ∈ scope.names, y.2 = .free → ∃ c, X.env.cells.lookup y.1 = some c := fun y hy hf => I.ok.has y.1 (.inl (L.free y hy hf))
  rw [exec_Assign_Name_used _ _ _ _ hsw]
  refine wpAny_bind (wpAny_standAt (wpAny_bind ?_))
  show wpAny _ X.A (do let _ ← comprehension (.ListComp elt [⟨.Tuple [.Name x1 px, .Name x2 px2] kk ppos, iter, ifs, 0⟩] scope pos) scope X.env _ (newList []) false (eval iter X.env) (some (assign (.Name y py) X.env))) _ _ s
  refine wpAny_bind (thn (Q := fun _ s' => SP X pins D .next s') (wpAny_comprehension_free (use := some (assign (.Name y py) X.env)) rfl hs (closure_eq hfree) L.kind L.names (thn (hi pins s σ H _ I h) fun v s1 h1 => thn h1 fun itv s2 h2 => ?_)) fun _ s' hq => wpAny_pure (wpAny_pure hq))
  obtain ⟨it, fp, tn, J, H2, e, I2, T, st2, f2, rd⟩ := h2
  subst e
  refine lc_run2 (RR := fun acc C => compPost (model X.prog X.w) X.A X.xe (some (assign (.Name y py) X.env)) _ acc C) rfl hc L I2 T st2 f2 (fun C s H => hif C s H fp) (fun C s H => he C s H fp) rd fun Da C H' s' m I' hC hf hn q => ?_
  have l2 := I2.lt
  have nC : C ≠ X.env.locals := Nat.ne_of_gt (Nat.lt_of_lt_of_le l2 hC)
  have nF : C ∉ X.fs := I2.nofs hC
  obtain ⟨oC, es, ep, hget, hdat, hrest⟩ := id hn
  have Ip : Inv X (pins ++ [(C, oC)]) σ H' s' := I'.pins_of fun p hp => (List.mem_append.mp hp).elim (fun z => I'.pin p (List.mem_append_right _ z)) fun z => by
    have e : p = (C, oC) := by simpa using z
    subst e
    exact ⟨hget, hf, nC, nF, fun v z => by rw [hdat] at z; cases z⟩
  have hg : PG X (.Name y py) (gName i) := pg_name hN hy (.inl hl) (.inr hl)
  show wpAny _ X.A (assign (.Name y py) X.env (.ref Da)) _ _ s'
  refine thn (hg _ s' σ H' (.ref Da) (.ref Da) D.nx Ip rfl q) fun _ s'' ⟨σ'', H'', I'', q''⟩ => ?_
  obtain ⟨g1, g2, _⟩ := I''.pin (C, oC) (List.mem_append_right _ (List.mem_append_right _ (by simp)))
  refine ⟨m, ⟨oC, es, ep, g1, hdat, hrest⟩, fun h' hsb => ⟨σ'', H'', ?_, q''⟩⟩
  refine I''.unpinned.turned (t' := s''.toks) (it := C) (fun b o hb e => hsb.extBut b o hb e) g2 nC (.inr (Nat.le_trans I2.sz hC)) (fun y c e => ?_) fun p hp => ?_
  · obtain ⟨v, hv⟩ := I2.cell y c e
    exact Nat.ne_of_lt (Nat.lt_of_lt_of_le hv.lt hC)
  · exact Nat.ne_of_lt (Nat.lt_of_lt_of_le (Heap.lt_size (I2.pin p hp).1) hC)
end
/-! ### the forms one uses -/
theorem r_izip {K : PySem.W.Frag} {tA : TA} {σ : St} {H : Hp} {R : It → Hp → Prop} (h : tA σ H fun vs H1 => ∃ a b, vs = [.ref a, .ref b] ∧ (∃ xs, SqL K H1 a xs) ∧ (∃ ys, SqL K H1 b ys) ∧ R (Itz K a b) H1) : iZip K tA σ H R := h
theorem r_ienum {K : PySem.W.Frag} {tA : TA} {σ : St} {H : Hp} {R : It → Hp → Prop} (h : tA σ H fun vs H1 => ∃ a, vs = [.ref a] ∧ (∃ xs, SqL K H1 a xs) ∧ R (Ite K a) H1) : iEnum K tA σ H R := h
theorem r_lc2 {K : PySem.W.Frag} {σ : St} {H : Hp} {Q : VK} {wi : TI} {ix : List Nat} {tc : TT} {te : TE} (h : wi σ H fun J H1 => rdLc2 K J H1 (frV σ ix) tc te Q) : tLc2 K wi ix tc te σ H Q := h
theorem r_gtup2 {K : PySem.W.Frag} {σ : St} {H : Hp} {R : St → Hp → Prop} {a : Addr} {x y : V} {i j : Nat} (hs : SqT K H a [x, y]) (h : R ((σ.set i (some x)).set j (some y)) H) : gTup K 2 (gCons (gName i) (gCons (gName j) gNil)) (.ref a) σ H R :=
  ⟨a, [x, y], rfl, hs, rfl, x, [y], rfl, y, [], rfl, rfl, h⟩
theorem for_enum {K : PySem.W.Frag} {a : Addr} {xs : List V} {i1 i2 : Nat} {tb : TS} {D : Ends} {σ : St} {H : Hp} (Pv : Nat → St → Hp → Prop) (h0 : Pv 0 σ H) (hl : ∀ i σ H, i ≤ xs.length → Pv i σ H → SqL K H a xs)
    (step : ∀ i x σ H t, xs[i]? = some x → Pv i σ H → H t = none → tb { D with nx := Pv (i + 1), ct := Pv (i + 1), bk := D.nx } ((σ.set i1 (some (.int i))).set i2 (some x)) (upd H t (.tup [.int i, x])))
    (fin : ∀ σ H, Pv xs.length σ H → D.nx σ H) : forB (Ite K a) (gTup K 2 (gCons (gName i1) (gCons (gName i2) gNil))) tb D σ H := by
  refine ⟨fun i m σ H => i ≤ xs.length ∧ m = xs.length - i ∧ Pv i σ H, ⟨_, Nat.zero_le _, rfl, h0⟩, ?_⟩
  rintro i m σ H ⟨hi, rfl, hp⟩
  by_cases h : i = xs.length
  · exact .inl ⟨⟨xs, hl i σ H hi hp, h⟩, fin σ H (h ▸ hp)⟩
  · have hlt : i < xs.length := Nat.lt_of_le_of_ne hi h
    refine .inr ⟨⟨xs, xs[i], hl i σ H hi hp, by simp⟩, Pv (i + 1), fun σ' H' q => ⟨xs.length - (i + 1), by omega, hlt, rfl, q⟩, fun v H' hy => ?_⟩
    obtain ⟨t, x, hn, rfl, hx, rfl⟩ := hy
    exact r_gtup2 (SqT.of upd_same) (step i x σ H t (hx xs (hl i σ H hi hp)) hp hn)
end L2
end

section
set_option Elab.async false
set_option linter.all false
set_option maxRecDepth 100000
set_option maxHeartbeats 4000000
/-! The numbered signs of a text. -/
namespace L2
open PySem PySem.Spec PyProof.Rows
def Ites (z : Str) : It :=
  ⟨fun i _ => i < z.cps.size, fun i H v H' => ∃ t c, H t = none ∧ v = .ref t ∧ z.cps[i]? = some c ∧ H' = upd H t (.tup [.int i, .str (sgn c)]), fun i _ => i = z.cps.size⟩
theorem turn_enumS {P : Program} {w : World} {K : PySem.W.Frag} {elts : List Expr} {k : Nat} {pos : Pos} {e it : Addr} {z : Str} {ty : String} {t : Tok} (hne : e ≠ it)
    (D : ∀ A' : Around, A'.handled = none → Draws P w A' it [it] z.cps.size (fun i v => ∃ c u, z.cps[i]? = some c ∧ v = .str ⟨#[c]⟩ u) (fun i h => h.IsStrIter it ty z t i)) :
    Turn P w K (.Tuple elts k pos) (Ites z) [e, it] e (fun i h => (∃ old, IsEnum h e it i old) ∧ h.IsStrIter it ty z t i) where
  mem := by simp
  obj := fun i h st c hc => by
    obtain ⟨⟨old, he⟩, ⟨o1, e1, c1, d1⟩⟩ := st
    simp only [List.mem_cons, List.not_mem_nil, or_false] at hc
    rcases hc with rfl | rfl
    · exact ⟨_, he, fun v z => by cases z⟩
    · exact ⟨_, e1, fun v z => by rw [d1] at z; cases z⟩
  keep := fun i h h' st kk => by
    obtain ⟨⟨old, he⟩, ⟨o, ho, r⟩⟩ := st
    exact ⟨⟨old, kk _ (by simp) _ he⟩, ⟨o, kk _ (by simp) o ho, r⟩⟩
  item := by
    intro X hP hw hK hc i pins s σ H E I hf st hg
    subst hP hw hK
    have W := WalksT.enumerateD (D X.A.in1 (I.ok.hd hc)) e hne (by simpa using hne) (by simp)
    refine W.item i s _ _ hg st fun T vals h' tk hv hT hTu mid kk => ?_
    obtain ⟨t1, x, ⟨c, u, hc', rfl⟩, rfl⟩ := hv
    have nT := W.apart i T h' mid
    refine ⟨.ref T, rfl, W.go elts k pos i T { s with heap := h', toks := tk } _ _ mid fun h'' st'' kk2 => ?_⟩
    have hTu2 : h''.IsTuple T ([Value.int (i : Int) t1, Value.str ⟨#[c]⟩ u] : List Value).toArray := by
      obtain ⟨o, e, r⟩ := hTu
      exact ⟨o, kk2 T o nT e, r⟩
    have I2 : Inv X pins σ (upd H T (.tup [.int i, .str (sgn c)])) { s with heap := h'', toks := tk } := I.turnT (t' := tk) (fun b o hb e => kk2 b o hb (kk b o hb e)) (fun b hb => hf b hb) hT hTu2 (.cons ⟨t1, rfl⟩ (.cons ⟨u, rfl⟩ .nil)) (show 2 ≤ sizeLine by decide)
    refine ⟨.ref T, _, I2, rfl, ⟨T, c, I.hok.fresh hT, rfl, hc', rfl⟩, st'', fun b hb => ?_⟩
    have hlt : b < s.heap.objs.size := by
      obtain ⟨⟨old, s1⟩, ⟨o5, s5, _⟩⟩ := id st
      simp only [List.mem_cons, List.not_mem_nil, or_false] at hb
      rcases hb with rfl | rfl
      · exact Heap.lt_size s1
      · exact Heap.lt_size s5
    rw [upd_ne (Nat.ne_of_lt (Nat.lt_of_lt_of_le hlt hT))]
    exact (hf b hb).1
  done := by
    intro X hP hw hK hc i pins s σ H E I hf st hg
    subst hP hw hK
    have W := WalksT.enumerateD (D X.A.in1 (I.ok.hd hc)) e hne (by simpa using hne) (by simp)
    have hi : i = z.cps.size := hg
    refine W.done s _ _ (by rw [← hi]; exact st) fun h' tk kk => ⟨rfl, ?_⟩
    exact I.turnW (t' := tk) kk fun b hb => hf b hb
  self := fun _ _ _ _ _ st h => wpAny_pyIter_enum (Classical.choose_spec st.1) h
section
variable {X : Cx} {elts : List Expr} {k : Nat} {tpos : Pos}
def iEnumS (ta : TA) : TI := fun σ H R => ta σ H fun vs H1 => ∃ z, vs = [.str z] ∧ R (Ites z) H1
theorem pi_enumS {a : Expr} {ta : TA} {p pos : Pos} (hg : Gl X "enumerate") (hm : X.mg "enumerate" = none) (ha : PA X [a] ta) (hs : starEach [a] X.env = [(false, eval a X.env)] := by rfl) :
    PI X (.Tuple elts k tpos) (.Call (.Name "enumerate" p) [a] [] pos) (iEnumS ta) := by
  intro pins s σ H R I h
  refine Call_ (ld_blt I hg hm b_enumerate (PyProof.Rows.callWith_type1 (thn (ha pos pins s σ H _ I h) fun us s1 ⟨vs, H1, I1, r1, q1⟩ => ?_) hs rfl))
  obtain ⟨z, e, q⟩ := q1
  subst e
  obtain ⟨u, rfl, ⟨t, rfl⟩⟩ := vals1 r1
  refine call_enumerate_str fun h' g1 g2 hsz kk => ?_
  refine wpAny_pyIter_enum (s := { s1 with heap := h' }) g1 ?_
  have fin : ∀ ty : String, h'.IsStrIter s1.heap.objs.size ty z t 0 → (∀ A' : Around, A'.handled = none → Draws X.prog X.w A' s1.heap.objs.size [s1.heap.objs.size] z.cps.size (fun i v => ∃ c u, z.cps[i]? = some c ∧ v = .str ⟨#[c]⟩ u) (fun i h => h.IsStrIter s1.heap.objs.size ty z t i)) →
      PIE X pins σ (.Tuple elts k tpos) R (.ref (s1.heap.objs.size + 1)) { s1 with heap := h' } := fun ty g2 D => by
    refine ⟨s1.heap.objs.size + 1, [s1.heap.objs.size + 1, s1.heap.objs.size], _, _, H1, rfl, I1.kept (t' := s1.toks) kk, turn_enumS (ne_z1 _) D, ⟨⟨_, g1⟩, g2⟩, fun c hc => ?_, q⟩
    have hle : s1.heap.objs.size ≤ c := by
      simp only [List.mem_cons, List.not_mem_nil, or_false] at hc
      exact le_z2 hc
    exact I1.fpOk hle (I1.hok.fresh hle)
  by_cases ha : z.cps.all (· < 128) = true
  · have e : strIterType z = "str_ascii_iterator" := by unfold strIterType; rw [if_pos ha]
    exact fin _ (e ▸ g2) fun A' hA => Draws.strAscii hA _ z t
  · have e : strIterType z = "str_iterator" := by unfold strIterType; rw [if_neg ha]
    exact fin _ (e ▸ g2) fun A' hA => Draws.strWide hA _ z t
end
theorem r_ienumS {tA : TA} {σ : St} {H : Hp} {R : It → Hp → Prop} (h : tA σ H fun vs H1 => ∃ z, vs = [.str z] ∧ R (Ites z) H1) : iEnumS tA σ H R := h
theorem for_enumS {K : PySem.W.Frag} {z : Str} {i1 i2 : Nat} {tb : TS} {D : Ends} {σ : St} {H : Hp} (Pv : Nat → St → Hp → Prop) (h0 : Pv 0 σ H)
    (step : ∀ i c σ H t, z.cps[i]? = some c → Pv i σ H → H t = none → tb { D with nx := Pv (i + 1), ct := Pv (i + 1), bk := D.nx } ((σ.set i1 (some (.int i))).set i2 (some (.str (sgn c)))) (upd H t (.tup [.int i, .str (sgn c)])))
    (fin : ∀ σ H, Pv z.cps.size σ H → D.nx σ H) : forB (Ites z) (gTup K 2 (gCons (gName i1) (gCons (gName i2) gNil))) tb D σ H := by
  refine ⟨fun i m σ H => i ≤ z.cps.size ∧ m = z.cps.size - i ∧ Pv i σ H, ⟨_, Nat.zero_le _, rfl, h0⟩, ?_⟩
  rintro i m σ H ⟨hi, rfl, hp⟩
  by_cases h : i = z.cps.size
  · exact .inl ⟨h, fin σ H (h ▸ hp)⟩
  · have hlt : i < z.cps.size := Nat.lt_of_le_of_ne hi h
    refine .inr ⟨hlt, Pv (i + 1), fun σ' H' q => ⟨z.cps.size - (i + 1), by omega, hlt, rfl, q⟩, fun v H' hy => ?_⟩
    obtain ⟨t, c, hn, rfl, hx, rfl⟩ := hy
    exact r_gtup2 (SqT.of upd_same) (step i c σ H t hx hp hn)
end L2
end

section
set_option Elab.async false
set_option linter.all false
set_option maxRecDepth 100000
set_option maxHeartbeats 4000000
/-! My own rules behind the layer: objects in one piece, sums, counts, numbers by two, texts turned about. -/
namespace L2
open PySem PySem.Spec PyProof.Rows
/-! ### classes and methods in one piece -/
structure Mth (P : Program) (w : World) (K : PySem.W.Frag) (mg : Str → Option Value) (base : Heap) (C : Addr) (m : Str) (k : Nat) (ps : List Str) (sp : Sp) : Prop where
  ex : ∃ (f : Addr) (fd : FuncData), FnOk P w K mg base CX0 k f fd ps sp ∧ Binds K fd ps [] ∧ Meth K C m f
  cl : Cls K C
structure Mkr (P : Program) (w : World) (K : PySem.W.Frag) (mg : Str → Option Value) (base : Heap) (name : Str) (C : Addr) (k : Nat) (ps : List Str) (sp : Sp) : Prop where
  ex : ∃ (f : Addr) (fd : FuncData), FnOk P w K mg base CX0 k f fd ps sp ∧ Binds K fd ps [] ∧ Mk K C f ∧ mg name = some (.ref C)
section
variable {X : Cx} {k : Nat} {C : Addr} {ps : List Str} {sp : Sp} {name m : Str} {p pos apos : Pos} {e o : Expr} {es : List Expr} {ta : TE} {t : TA} {pl : Sem Bool}
theorem pe_mk (M : Mkr X.prog X.w X.K X.mg X.base name C k ps sp) (hr : Room (k + 1) X.A) (ha : PA X (e :: es) t) (hg : Gl X name := by rfl) (hdb : (name == ("__debug__" : Str)) = false := by decide)
    (he : starEach (e :: es) X.env = (false, eval e X.env) :: starEach es X.env := by rfl) (hpl : (backTo pos (starEach es X.env)).any (·.1) = false := by rfl) : PE X (.Call (.Name name p) (e :: es) [] pos) (tMake C sp [] E0 t) := by
  obtain ⟨f, fd, F, b, M, hm⟩ := M.ex
  exact pe_make M F hr hg hm b .nil pass0 ha hdb he hpl
theorem pe_mt (M : Mth X.prog X.w X.K X.mg X.base C m k ps sp) (hr : Room k X.A) (ho : PE X o ta) (ha : PA X (e :: es) t)
    (hst : starEach (e :: es) X.env = (false, eval e X.env) :: starEach es X.env := by rfl) (hpl : (backTo pos (starEach es X.env)).any (·.1) = false := by rfl)
    (ht : eval (.Call (.Attribute o m apos) (e :: es) [] pos) X.env = (do
      let ov ← eval o X.env
      standAt apos.atName
      let (f, first) ← holding [ov] (getMethod ov m pl)
      callWith pos f first (backTo pos (starEach (e :: es) X.env)) (backToKw pos (keywordEach [] X.env))) := by rfl) :
    PE X (.Call (.Attribute o m apos) (e :: es) [] pos) (tMeth C m sp [] E0 ta t) := by
  obtain ⟨f, fd, F, b, hm⟩ := M.ex
  exact pe_meth ho M.cl hm F hr b .nil pass0 ha hst hpl ht
theorem pe_mt0 (M : Mth X.prog X.w X.K X.mg X.base C m k ps sp) (hr : Room k X.A) (ho : PE X o ta)
    (ht : eval (.Call (.Attribute o m apos) [] [] pos) X.env = (do
      let ov ← eval o X.env
      standAt apos.atName
      let (f, first) ← holding [ov] (getMethod ov m pl)
      callWith pos f first (backTo pos (starEach [] X.env)) (backToKw pos (keywordEach [] X.env))) := by rfl) :
    PE X (.Call (.Attribute o m apos) [] [] pos) (tMeth C m sp [] E0 ta tNil) := by
  obtain ⟨f, fd, F, b, hm⟩ := M.ex
  exact pe_meth0 ho M.cl hm F hr b .nil pass0 ht
end
section
variable {σ : St} {H : Hp} {D : Ends} {Q : VK} {te ta tv : TE} {tA : TA} {K : PySem.W.Frag}
theorem r_fld {f : Str} (h : te σ H fun x H1 => ∃ a C dx fs v, x = .ref a ∧ H1 a = some (.ins C dx fs) ∧ Cls K C ∧ NoAttr K C f ∧ fs.lookup f = some v ∧ Q v H1) : tFld K te f σ H Q := h
theorem r_fldE {a C dx : Addr} {fs : List (Str × V)} {f : Str} {v : V} (h : H a = some (.ins C dx fs)) (c : Cls K C) (n : NoAttr K C f) (l : fs.lookup f = some v) (q : Q v H) :
    ∃ a' C' dx' fs' v', V.ref a = .ref a' ∧ H a' = some (.ins C' dx' fs') ∧ Cls K C' ∧ NoAttr K C' f ∧ fs'.lookup f = some v' ∧ Q v' H := ⟨a, C, dx, fs, v, rfl, h, c, n, l, q⟩
theorem r_sfld {f : Str} (h : tv σ H fun y H1 => ta σ H1 fun x H2 => ∃ a C dx fs, x = .ref a ∧ H2 a = some (.ins C dx fs) ∧ Cls K C ∧ NoAttr K C f ∧ fs.length < 1000 ∧ D.nx σ (upd H2 a (.ins C dx (putF f y fs)))) : sFld K ta tv f D σ H := h
theorem r_sfldE {a C dx : Addr} {fs : List (Str × V)} {f : Str} {R : Hp → Prop} {y : V} (h : H a = some (.ins C dx fs)) (c : Cls K C) (n : NoAttr K C f) (l : fs.length < 1000) (q : R (upd H a (.ins C dx (putF f y fs)))) :
    ∃ a' C' dx' fs', V.ref a = .ref a' ∧ H a' = some (.ins C' dx' fs') ∧ Cls K C' ∧ NoAttr K C' f ∧ fs'.length < 1000 ∧ R (upd H a' (.ins C' dx' (putF f y fs'))) := ⟨a, C, dx, fs, rfl, h, c, n, l, q⟩
theorem r_make {C : Addr} {sp : Sp} {E : XK} (h : tA σ H fun vs H1 => ∀ x dx, H1 x = none → H1 dx = none → dx ≠ x → sp (.ref x :: (vs ++ [])) (upd (upd H1 dx (.own x)) x (.ins C dx [])) (fun v H2 => v = .non ∧ Q (.ref x) H2) E) : tMake C sp [] E tA σ H Q := h
theorem r_meth {C : Addr} {m : Str} {sp : Sp} {E : XK} (h : ta σ H fun x H1 => ∃ a dx fs, x = .ref a ∧ H1 a = some (.ins C dx fs) ∧ fs.lookup m = none ∧ tA σ H1 fun vs H2 => sp (x :: (vs ++ [])) H2 Q E) : tMeth C m sp [] E ta tA σ H Q := h
end
/-! ### str.count -/
section
variable {X : Cx}
def cntS (z : Str) (c : Nat) : Nat := z.cps.toList.count c
theorem cnt_count (c : Nat) : ∀ l : List Nat, PyProof.Rows.cnt c l = (l.count c : Nat)
  | [] => rfl
  | n :: r => by
    rw [PyProof.Rows.cnt_cons, cnt_count c r, List.count_cons]
    by_cases h : n = c
    · subst h; simp; omega
    · simp [h]
/-- z.count(one sign) -/
def rCount : V → List V → Hp → VK → Prop := fun x vs H Q => ∃ z c, x = .str z ∧ vs = [.str (sgn c)] ∧ Q (.int (cntS z c : Nat)) H
theorem mt_count : MtM X "str.count" rCount := by
  intro pins s σ H x vs v us Q I rx rv h
  obtain ⟨z, c, rfl, rfl, q⟩ := h
  obtain ⟨t, rfl⟩ := rx
  obtain ⟨u, rfl, ru⟩ := rv.one
  obtain ⟨t', rfl⟩ := ru
  have e : Txt.count z (sgn c) = (cntS z c : Nat) := (PyProof.Rows.count_cnt z c).trans (cnt_count c _)
  refine SC.count ?_
  rw [e]
  exact ⟨.int (cntS z c : Nat), H, I.tok _, ⟨_, rfl⟩, q⟩
/-! ### sum of a list of ints -/
def rSum (K : PySem.W.Frag) : List V → Hp → VK → Prop := fun xs H Q => ∃ (p : Addr) (ns : List Int), xs = [.ref p] ∧ SqL K H p (ns.map V.int) ∧ Q (.int ns.sum) H
theorem call_sum (hc : X.calm = true) : CallR X (.builtin "sum") (rSum X.K) := by
  intro pins s σ H xs us Q I r h
  obtain ⟨p, ns, rfl, hp, q⟩ := h
  obtain ⟨u, rfl, ru⟩ := vals1 r
  cases ru
  obtain ⟨its, r, pl, _⟩ := I.list hp
  have hi := intsAre_of r
  obtain ⟨ys, e⟩ := hi.allInts.items
  have hl := pl.isList
  have hs : (numsOf its).sum = ns.sum := by rw [hi.numsOf]
  rw [e] at hl
  refine sum_intListG (I.ok.hd hc) hl fun h' tk t' hk => ?_
  refine ⟨.int ns.sum, H, I.kept hk, ⟨t', ?_⟩, q⟩
  rw [preSum_eq, List.take_of_length_le (by simp), ← hs]
  have e2 := nums_intItems ys
  rw [← e] at e2
  rw [show its = its.toArray.toList from rfl, e2]
end
/-! ### int(text, 2) -/
namespace IB
open PySem.NumText PySem.Calls
def bits (cs : List Nat) : Prop := ∀ c ∈ cs, c = 48 ∨ c = 49
def v2 (cs : List Nat) : Nat := cs.foldl (fun a c => a * 2 + (c - 48)) 0
theorem step_bit {c : Nat} (ds : Array Nat) (b : Bool) (h : c = 48 ∨ c = 49) : step 2 (ds, b) c = some (ds.push (c - 48), true) := by rcases h with rfl | rfl <;> rfl
theorem foldM_bits : ∀ (cs : List Nat) (ds : Array Nat), bits cs → cs.foldlM (step 2) (ds, true) = some (cs.foldl (fun acc c => acc.push (c - 48)) ds, true)
  | [], ds, _ => rfl
  | c :: cs, ds, h => by
    rw [List.foldlM_cons, step_bit ds true (h c List.mem_cons_self)]
    exact foldM_bits cs _ fun d hd => h d (List.mem_cons_of_mem _ hd)
theorem digits_bits {cs : List Nat} (h : bits cs) (hne : cs ≠ []) : digits? 2 cs = some (cs.foldl (fun acc c => acc.push (c - 48)) #[]) := by
  cases cs with
  | nil => exact absurd rfl hne
  | cons c cs =>
    unfold digits?
    rw [List.foldlM_cons, step_bit #[] false (h c List.mem_cons_self)]
    show ((cs.foldlM (step 2) (#[].push (c - 48), true)).bind _) = _
    rw [foldM_bits cs _ fun d hd => h d (List.mem_cons_of_mem _ hd)]
    rfl
theorem push_fold2 : ∀ (cs : List Nat) (ds : Array Nat), (cs.foldl (fun acc c => acc.push (c - 48)) ds).foldl (fun acc d => acc * 2 + d) 0 = cs.foldl (fun acc c => acc * 2 + (c - 48)) (ds.foldl (fun acc d => acc * 2 + d) 0)
  | [], ds => rfl
  | c :: cs, ds => by
    rw [List.foldl_cons, push_fold2 cs, List.foldl_cons, Array.foldl_push]
theorem drop_bits {cs : List Nat} (h : bits cs) : cs.dropWhile blank = cs := by
  cases cs with
  | nil => rfl
  | cons c cs =>
    rw [List.dropWhile_cons, if_neg]
    rcases h c List.mem_cons_self with rfl | rfl <;> decide
theorem sign_bits {cs : List Nat} (h : bits cs) : sign cs = (false, cs) := by
  cases cs with
  | nil => rfl
  | cons c cs => rcases h c List.mem_cons_self with rfl | rfl <;> rfl
theorem based_bits {cs : List Nat} (h : bits cs) : based 2 cs = (2, false, cs) := by
  have hp : prefix? cs = none := by
    match cs, h with
    | [], _ => rfl
    | [c], h => rcases h c List.mem_cons_self with rfl | rfl <;> rfl
    | c :: d :: r, h =>
      rcases h c List.mem_cons_self with rfl | rfl
      · rcases h d (List.mem_cons_of_mem _ List.mem_cons_self) with rfl | rfl <;> rfl
      · rfl
  unfold based
  rw [hp]
  rfl
theorem read_bits {cs : List Nat} (h : bits cs) (hne : cs ≠ []) : (int_private% "readNumeral") 0 2 cs = (int_private% "Numeral.value") (v2 cs : Nat) := by
  refine (readNumeral_eq 0 2 cs).trans ?_
  have hr : bits cs.reverse := fun c hc => h c (List.mem_reverse.mp hc)
  rw [drop_bits h, sign_bits h]
  dsimp only
  rw [based_bits h]
  dsimp only
  rw [drop_bits hr, List.reverse_reverse, digits_bits h hne]
  have e : (cs.foldl (fun acc c => acc.push (c - 48)) #[]).foldl (fun acc d => acc * 2 + d) 0 = v2 cs := push_fold2 cs #[]
  unfold judge
  dsimp only
  rw [e]
  rfl
theorem wp_text {M : Model} {A : Around} {E : Value → Shared → Prop} {s : Shared} {Q : Value → Shared → Prop} {v : Value} {text : List Nat} {n : Int}
    (hs : (text.takeWhile (· != 0)).length ≤ 640) (hr : (int_private% "readNumeral") 0 2 (text.takeWhile (· != 0)) = (int_private% "Numeral.value") n)
    (ha : ((text.takeWhile (· != 0)).length == text.length) = true) (h : Q (.int n s.toks) { s with toks := s.toks + 1 }) :
    wpAny M A ((int_private% "intFromText") v text 2) Q E s := by
  obtain ⟨hp, g, d, tk, os⟩ := s
  repeat (any_goals (first
    | assumption
    | (with_reducible refine wpAny_ite_true (decide_eq_true hs) ?_)
    | (with_reducible refine wpAny_ite_true (decide_eq_true ha) ?_)
    | wp_step))
  all_goals (try rw [hr])
  all_goals (try dsimp only)
  repeat (any_goals (first
    | assumption
    | (with_reducible refine wpAny_ite_true (decide_eq_true hs) ?_)
    | (with_reducible refine wpAny_ite_true (decide_eq_true ha) ?_)
    | wp_step))
theorem typeCall_int_2 (a b : Value) : checkTypeCall "int" ⟨[a, b], []⟩ = pure () := by kernel_rfl
theorem newCall_int_2 (a b : Value) : checkBuiltinCall "int.__new__" ⟨[.type "int", a, b], []⟩ = pure () := by kernel_rfl
structure Hid (p : Prop) : Prop where
  out : p
theorem numText_bits {x : Str} (h : bits x.cps.toList) : (if x.cps.all (· < 128) then x.cps.toList else Unicode.numberText x.cps.toList) = x.cps.toList := by
  rw [if_pos]
  rw [Array.all_eq_true']
  intro c hc
  have := h c (by simpa using hc)
  rcases this with rfl | rfl <;> decide
theorem seen_bits {cs : List Nat} (h : bits cs) : cs.takeWhile (· != 0) = cs := takeWhile_all fun c hc => by rcases h c hc with rfl | rfl <;> decide
set_option maxHeartbeats 4000000 in
theorem gives_bits {x : Str} {u v : Tok} (hl : x.length ≤ 640) (hb : bits x.cps.toList) (hne : x.cps.toList ≠ []) : Gives (Builtin.«int.__new__» ⟨[.type "int", .str x u, .int 2 v], []⟩) (.int (v2 x.cps.toList : Nat)) :=
  .of_wp fun M A E s Q h => by
    obtain ⟨hp, g, d, tk, os⟩ := s
    have f1 := F.conv_sub_int
    have f2 := F.madeHere_int
    have f6 : typeOf (.str x u) = pure (.type "str") := rfl
    have hs : ((x.cps.toList).takeWhile (· != 0)).length ≤ 640 := by rw [seen_bits hb]; simpa [Str.length] using hl
    have hr := read_bits hb hne
    rw [← seen_bits hb] at hr
    rw [seen_bits hb] at hr
    have hr : (int_private% "readNumeral") 0 2 ((x.cps.toList).takeWhile (· != 0)) = (int_private% "Numeral.value") (v2 x.cps.toList : Nat) := by rw [seen_bits hb]; exact hr
    have ha : (((x.cps.toList).takeWhile (· != 0)).length == (x.cps.toList).length) = true := by rw [seen_bits hb]; simp
    have ht := numText_bits hb
    have hk := Hid.mk (And.intro hs (And.intro hr (And.intro ha ht)))
    clear hs hr hl ha ht hne
    repeat (any_goals (first
      | assumption
      | ((with_reducible show wpAny _ _ ((int_private% "intFromText") _ _ _) _ _ _); rw [hk.out.2.2.2]; refine wp_text hk.out.1 hk.out.2.1 hk.out.2.2.1 ?_)
      | wp_step))
    all_goals first | exact ⟨_, rfl, h⟩ | skip
end IB
section
variable {X : Cx}
def rInt2 : List V → Hp → VK → Prop := fun xs H Q => ∃ z, xs = [.str z, .int 2] ∧ z.length ≤ 640 ∧ IB.bits z.cps.toList ∧ z.cps.toList ≠ [] ∧ Q (.int (IB.v2 z.cps.toList : Nat)) H
theorem call_int_base : CallR X (.type "int") rInt2 := by
  intro pins s σ H xs us Q I r h
  obtain ⟨z, rfl, hl, hb, hne, q⟩ := h
  obtain ⟨u, w', rfl, ru, rw'⟩ := vals2 r
  obtain ⟨t, rfl⟩ := ru
  obtain ⟨t', rfl⟩ := rw'
  exact callType_new F.called_int F.newNe_int (IB.typeCall_int_2 _ _) (IB.newCall_int_2 _ _) (fun obj => F.args_object_init_3 obj _ _) F.entry_int_new (IB.gives_bits hl hb hne).meets (show (Made.int _).post _ s from ⟨rfl, .int (IB.v2 z.cps.toList : Nat), H, I.tok _, ⟨_, rfl⟩, q⟩)
end
end L2
end

section
set_option Elab.async false
set_option linter.all false
set_option maxRecDepth 100000
set_option maxHeartbeats 4000000
/-! My own rules behind the layer: texts turned about, things of one form compared, list(range(n)). -/
namespace L2
open PySem PySem.Spec PyProof.Rows
/-! ### z[::-1] -/
theorem range_down (n : Nat) : Builtin.Str.strSliceIndices none none (-1) n = (List.range n).map fun k => n - 1 - k := by
  unfold Builtin.Str.strSliceIndices
  dsimp only
  rw [if_neg (by decide), if_neg (by decide)]
  unfold sliceRange
  dsimp only
  rw [if_neg (by decide)]
  have e : (if ((n : Int) - 1 > -1) then ((n : Int) - 1 - -1 - -1 - 1) / (- -1) else 0).toNat = n := by
    split
    · simp
    · omega
  rw [e]
  refine List.map_congr_left fun k hk => ?_
  have := List.mem_range.mp hk
  omega
theorem pick_down (l : List Nat) : ∀ n, n ≤ l.length → ((List.range n).map fun k => n - 1 - k).filterMap (l[·]?) = (l.take n).reverse
  | 0, _ => by simp
  | n + 1, h => by
    have hl : n < l.length := h
    rw [List.range_succ_eq_map, List.map_cons, List.map_map, List.filterMap_cons]
    have e : ((fun k => n + 1 - 1 - k) ∘ Nat.succ) = fun k => n - 1 - k := by
      funext k
      show n + 1 - 1 - (k + 1) = n - 1 - k
      omega
    rw [e, show n + 1 - 1 - 0 = n by omega, List.getElem?_eq_getElem hl]
    dsimp only
    rw [pick_down l n (by omega), List.take_add_one, List.getElem?_eq_getElem hl, Option.toList_some, List.reverse_append]
    rfl
section
variable {X : Cx} {e : Expr} {te : TE} {p1 p2 p3 pos : Pos} {j : Nat}
theorem revS_length (z : Str) : (revS z).length = z.length := by
  show z.cps.toList.reverse.toArray.size = z.cps.size
  simp
theorem pe_srev {x1} (he : PE X e te) : PE X (.Subscript e (.Slice none none (some (.UnaryOp .USub (.Constant (.int 1) x1 p1) p2)) p3) pos) (tRev te) := by
  intro pins s σ H Q I h
  refine Subscript_ (thn (he pins s σ H _ I h) fun v s1 ⟨x, H1, I1, r1, q1⟩ => ?_)
  obtain ⟨z, rfl, hz, q⟩ := q1
  obtain ⟨t, rfl⟩ := r1
  refine wpAny_Slice ?_
  rw [evalPart_none]
  refine wpAny_pure (wpAny_pure ?_)
  rw [evalPart_some]
  have hm : PE X (.UnaryOp .USub (.Constant (.int 1) x1 p1) p2) (tUn (rU fun i => .int (-i)) (tC (.int 1))) := pe_un un_neg pe_int
  refine thn (hm pins s1 σ H1 (fun y H2 => y = .int (-1) ∧ H2 = H1) I1 ⟨1, rfl, rfl, rfl⟩) fun w s2 ⟨y, H2, I2, r2, e2, e3⟩ => ?_
  subst e2 e3
  obtain ⟨t2, rfl⟩ := r2
  have I4 : Inv X pins σ H2 { s2 with heap := s2.heap.push { cls := .type "slice", data := .fields #[.none, .none, .int (-1) t2] } } := I2.kept (t' := s2.toks) fun b ob q => Heap.get?_push_of_some _ q
  have hs : (s2.heap.push { cls := .type "slice", data := .fields #[.none, .none, .int (-1) t2] }).IsSlice s2.heap.objs.size none none (some (-1, t2)) := ⟨_, Heap.get?_push_size _ rfl, rfl, rfl⟩
  refine tail_any (ops := [.ref s2.heap.objs.size, .str z t]) (typeIs_str _ _ _) PySem.F.slot_str_getitem.lookup ?_ (by with_unfolding_all rfl)
  refine wpAny_getItem_str_slice hs rfl ?_
  have em : sliceMade z t none none (some (-1, t2)) = .str (revS z) := by
    unfold sliceMade
    rw [if_neg (by simp)]
    show Made.str ⟨((Builtin.Str.strSliceIndices none none (-1) z.length).filterMap (z.cps[·]?)).toArray⟩ = _
    rw [range_down]
    have := pick_down z.cps.toList z.cps.toList.length (Nat.le_refl _)
    have e1 : z.cps.toList.length = z.length := by simp [Str.length]
    rw [e1] at this
    have e2 : (fun i : Nat => z.cps[i]?) = fun i : Nat => z.cps.toList[i]? := by funext i; simp
    rw [e2, this, List.take_of_length_le (by simp [Str.length])]
    rfl
  rw [em]
  refine ⟨?_, .str (revS z), H2, I4.tok _, ⟨_, rfl⟩, q⟩
  show (revS z).length ≤ _
  rw [revS_length]
  exact hz
end
theorem r_rev {te : TE} {σ : St} {H : Hp} {Q : VK} (h : te σ H fun x H1 => ∃ z, x = .str z ∧ z.length ≤ sizeLine ∧ Q (.str (revS z)) H1) : tRev te σ H Q := h
/-! ### things of one form -/
inductive SameD (K : PySem.W.Frag) (H : Hp) : Nat → V → V → Prop where
  | flat {n : Nat} {x : V} (h : flatV x = true) : SameD K H n x x
  | tup {n : Nat} {a b : Addr} {xs ys : List V} (h1 : SqT K H a xs) (h2 : SqT K H b ys) (hl : xs.length = ys.length) (h : ∀ (j : Nat) (x y : V), xs[j]? = some x → ys[j]? = some y → SameD K H n x y) : SameD K H (n + 1) (.ref a) (.ref b)
  | lst {n : Nat} {a b : Addr} {xs ys : List V} (h1 : SqL K H a xs) (h2 : SqL K H b ys) (hl : xs.length = ys.length) (h : ∀ (j : Nat) (x y : V), xs[j]? = some x → ys[j]? = some y → SameD K H n x y) : SameD K H (n + 1) (.ref a) (.ref b)
theorem eqV_self {x : V} (h : flatV x = true) : eqV x x = true := by
  cases x <;> first | rfl | (simp [eqV]; done) | cases h
theorem SameD.flats {K : PySem.W.Frag} {H : Hp} {n : Nat} {xs : List V} (h : xs.all flatV = true) : ∀ (j : Nat) (x y : V), xs[j]? = some x → xs[j]? = some y → SameD K H n x y := fun j x y h1 h2 => by
  rw [h1] at h2
  cases h2
  exact .flat (List.all_eq_true.mp h x (List.mem_of_getElem? h1))
theorem SameD.tups {K : PySem.W.Frag} {H : Hp} {n : Nat} {a b : Addr} {xs : List V} (h1 : SqT K H a xs) (h2 : SqT K H b xs) (h : xs.all flatV = true) : SameD K H (n + 1) (.ref a) (.ref b) := .tup h1 h2 rfl (SameD.flats h)
theorem flat_ints (ns : List Int) : (ns.map V.int).all flatV = true := by simp [List.all_eq_true, flatV]
section
variable {X : Cx} {pins : List (Addr × Obj)} {σ : St} {H : Hp} {s : Shared}
theorem all_true {n : Nat} {e : Nat → Bool} (h : ∀ j, e j = true) : (List.range n).all e = true := by simp [h]
mutual
theorem SameD.eqAt (I : Inv X pins σ H s) : ∀ {n : Nat} {x y : V} {A : Around} {u v : Value}, A.units + n < cLine → SameD X.K H n x y → RelV x u → RelV y v → SeqAt.EqAt A s u v true
  | _, _, _, A, u, v, hu, .flat h, ru, rv => by
    have := eqAt_V (A := A) (s := s) ru rv h h
    rw [eqV_self h] at this
    exact this
  | n + 1, .ref a, .ref b, A, u, v, hu, .tup (xs := xs) (ys := ys) h1 h2 hl h, ru, rv => by
    cases ru; cases rv
    by_cases hab : a = b
    · subst hab; exact SeqAt.EqAt.same _
    · obtain ⟨is, r1, p1, _⟩ := I.tuple h1
      obtain ⟨js, r2, p2, _⟩ := I.tuple h2
      have l1 := r1.length; have l2 := r2.length
      have := SeqAt.RcAt.tuples (A := A) (e := fun _ => true) p1 p2 (by omega) fun j a1 a2 => SameD.items I (by show A.units + 1 + n < cLine; omega) h r1 r2 j (by simpa using a1) (by simpa using a2)
      refine SeqAt.EqAt.of_refs hab ?_
      rw [all_true fun _ => rfl] at this
      simpa [← l1, ← l2, hl] using this
  | n + 1, .ref a, .ref b, A, u, v, hu, .lst (xs := xs) (ys := ys) h1 h2 hl h, ru, rv => by
    cases ru; cases rv
    by_cases hab : a = b
    · subst hab; exact SeqAt.EqAt.same _
    · obtain ⟨is, r1, p1, _⟩ := I.list h1
      obtain ⟨js, r2, p2, _⟩ := I.list h2
      have l1 := r1.length; have l2 := r2.length
      have := SeqAt.RcAt.lists (A := A) (e := fun _ => true) p1.isList p2.isList (by simp; omega) (by omega) fun j a1 a2 => SameD.items I (by show A.units + 1 + n < cLine; omega) h r1 r2 j (by simpa using a1) (by simpa using a2)
      refine SeqAt.EqAt.of_refs hab ?_
      rw [all_true fun _ => rfl] at this
      exact this
theorem SameD.items (I : Inv X pins σ H s) {n : Nat} {A : Around} {xs ys : List V} {us vs : List Value} (hu : A.units + n < cLine) (h : ∀ (j : Nat) (x y : V), xs[j]? = some x → ys[j]? = some y → SameD X.K H n x y) (r1 : Vals xs us) (r2 : Vals ys vs) (j : Nat) (h1 : j < us.length) (h2 : j < vs.length) :
    SeqAt.EqAt A s us[j] vs[j] true := by
  have l1 := r1.length; have l2 := r2.length
  obtain ⟨x, ex⟩ : ∃ x, xs[j]? = some x := ⟨_, List.getElem?_eq_getElem (by omega)⟩
  obtain ⟨y, ey⟩ : ∃ y, ys[j]? = some y := ⟨_, List.getElem?_eq_getElem (by omega)⟩
  obtain ⟨u, eu, ru⟩ := r1.get ex
  obtain ⟨v, ev, rv⟩ := r2.get ey
  rw [List.getElem?_eq_getElem h1] at eu
  rw [List.getElem?_eq_getElem h2] at ev
  cases eu; cases ev
  exact SameD.eqAt I hu (h j x y ex ey) ru rv
end
end
theorem hu60 {A : Around} {k : Nat} (hr : Room k A) : A.units + 60 < cLine := by have := hr.units; omega
end L2
end

section
set_option Elab.async false
set_option linter.all false
set_option maxRecDepth 100000
set_option maxHeartbeats 4000000
/-! Lists of flat things compared. -/
namespace L2
open PySem PySem.Spec PyProof.Rows
def eqL (xs ys : List V) : Bool := decide (xs.length = ys.length) && (List.range xs.length).all fun j => eqV (xs.getD j .non) (ys.getD j .non)
def rEqL (K : PySem.W.Frag) (n : Bool) : R2 := fun x y H Q => ∃ a b xs ys, x = .ref a ∧ y = .ref b ∧ SqL K H a xs ∧ SqL K H b ys ∧ xs.all flatV = true ∧ ys.all flatV = true ∧ Q (.bl (n != eqL xs ys)) H
section
variable {X : Cx} {pins : List (Addr × Obj)} {σ : St} {H : Hp} {s : Shared}
theorem eqL_items {A : Around} {xs ys : List V} {us vs : List Value} (f1 : xs.all flatV = true) (f2 : ys.all flatV = true) (r1 : Vals xs us) (r2 : Vals ys vs) (j : Nat) (h1 : j < us.length) (h2 : j < vs.length) :
    SeqAt.EqAt A s us[j] vs[j] (eqV (xs.getD j .non) (ys.getD j .non)) := by
  have l1 := r1.length; have l2 := r2.length
  have e1 : xs[j]? = some (xs[j]'(by omega)) := List.getElem?_eq_getElem _
  have e2 : ys[j]? = some (ys[j]'(by omega)) := List.getElem?_eq_getElem _
  obtain ⟨u, eu, ru⟩ := r1.get e1
  obtain ⟨v, ev, rv⟩ := r2.get e2
  rw [List.getElem?_eq_getElem h1] at eu
  rw [List.getElem?_eq_getElem h2] at ev
  cases eu; cases ev
  simp only [List.getD, e1, e2, Option.getD_some]
  exact eqAt_V ru rv (List.all_eq_true.mp f1 _ (List.mem_of_getElem? e1)) (List.all_eq_true.mp f2 _ (List.mem_of_getElem? e2))
end
section
variable {X : Cx}
theorem op_eqL (hu : X.A.units + 60 < cLine) : OpR X (compareOp .Eq) (rEqL X.K false) := by
  intro pins s σ H x y v u Q I rx ry h
  obtain ⟨a, b, xs, ys, rfl, rfl, h1, h2, f1, f2, q⟩ := h
  cases rx; cases ry
  obtain ⟨is, r1, p1, _⟩ := I.list h1
  obtain ⟨js, r2, p2, _⟩ := I.list h2
  have l1 := r1.length; have l2 := r2.length
  by_cases hl : xs.length = ys.length
  · have := SeqAt.RcAt.lists (A := X.A) (e := fun j => eqV (xs.getD j .non) (ys.getD j .non)) p1.isList p2.isList (by simp; omega) (by omega) fun j a1 a2 => eqL_items (s := s) f1 f2 r1 r2 j (by simpa using a1) (by simpa using a2)
    refine this _ _ _ _ ⟨.bl (false != eqL xs ys), H, I, ?_, q⟩
    unfold eqL
    rw [decide_eq_true hl]
    simp [RelV, ← l1]
  · have := SeqAt.RcAt.lists_lengths (A := X.A) p1.isList p2.isList (by simp; omega) (by omega)
    refine this _ _ _ _ ⟨.bl (false != eqL xs ys), H, I, ?_, q⟩
    unfold eqL
    rw [decide_eq_false hl]
    simp [RelV]
theorem op_neL (hu : X.A.units + 60 < cLine) : OpR X (compareOp .NotEq) (rEqL X.K true) := by
  intro pins s σ H x y v u Q I rx ry h
  obtain ⟨a, b, xs, ys, rfl, rfl, h1, h2, f1, f2, q⟩ := h
  cases rx; cases ry
  obtain ⟨is, r1, p1, _⟩ := I.list h1
  obtain ⟨js, r2, p2, _⟩ := I.list h2
  have l1 := r1.length; have l2 := r2.length
  by_cases hl : xs.length = ys.length
  · have := SeqAt.RcNeAt.lists (A := X.A) (e := fun j => eqV (xs.getD j .non) (ys.getD j .non)) p1.isList p2.isList (by simp; omega) (by omega) fun j a1 a2 => eqL_items (s := s) f1 f2 r1 r2 j (by simpa using a1) (by simpa using a2)
    refine this _ _ _ _ ⟨.bl (true != eqL xs ys), H, I, ?_, q⟩
    unfold eqL
    rw [decide_eq_true hl]
    simp [RelV, ← l1]
  · have := SeqAt.RcNeAt.lists_lengths (A := X.A) p1.isList p2.isList (by simp; omega) (by omega)
    refine this _ _ _ _ ⟨.bl (true != eqL xs ys), H, I, ?_, q⟩
    unfold eqL
    rw [decide_eq_false hl]
    simp [RelV]
end
theorem eqL_ints (ns ms : List Int) : eqL (ns.map V.int) (ms.map V.int) = decide (ns = ms) := by
  unfold eqL
  rw [List.length_map, List.length_map]
  by_cases hl : ns.length = ms.length
  · rw [decide_eq_true hl, Bool.true_and]
    by_cases h : ns = ms
    · subst h
      rw [decide_eq_true rfl, List.all_eq_true]
      intro j hj
      have hj : j < ns.length := List.mem_range.mp hj
      simp [List.getD, hj, eqV]
    · rw [decide_eq_false h]
      refine Bool.eq_false_iff.mpr fun hc => h (List.ext_getElem hl fun j h1 h2 => ?_)
      have := List.all_eq_true.mp hc j (List.mem_range.mpr h1)
      simp [List.getD, h1, h2, eqV] at this
      exact this
  · rw [decide_eq_false hl, Bool.false_and, decide_eq_false]
    intro e
    exact hl (by rw [e])
theorem r_eqI {K : PySem.W.Frag} {H : Hp} {Q : VK} {a b : Addr} {ns ms : List Int} (h1 : SqL K H a (ns.map V.int)) (h2 : SqL K H b (ms.map V.int)) (q : Q (.bl (decide (ns = ms))) H) : rEqL K false (.ref a) (.ref b) H Q := by
  refine ⟨a, b, _, _, rfl, rfl, h1, h2, flat_ints _, flat_ints _, ?_⟩
  rw [eqL_ints]
  cases hd : decide (ns = ms) <;> (rw [hd] at q; exact q)
theorem r_neI {K : PySem.W.Frag} {H : Hp} {Q : VK} {a b : Addr} {ns ms : List Int} (h1 : SqL K H a (ns.map V.int)) (h2 : SqL K H b (ms.map V.int)) (q : Q (.bl (!decide (ns = ms))) H) : rEqL K true (.ref a) (.ref b) H Q := by
  refine ⟨a, b, _, _, rfl, rfl, h1, h2, flat_ints _, flat_ints _, ?_⟩
  rw [eqL_ints]
  cases hd : decide (ns = ms) <;> (rw [hd] at q; exact q)
end L2
end

section
set_option Elab.async false
set_option linter.all false
set_option maxRecDepth 100000
set_option maxHeartbeats 4000000
/-! range downwards; list.index of ints. -/
namespace L2
open PySem PySem.Spec PyProof.Rows
end L2
end

section
set_option Elab.async false
set_option linter.all false
set_option maxRecDepth 100000
set_option maxHeartbeats 4000000
/-! My own rules behind the layer: any slice of a tuple, ints of the top, small readings. -/
namespace L2
open PySem PySem.Spec PyProof.Rows
section
variable {prog : Program} {w : World} {A : Around} {E : Value → Shared → Prop} {s : Shared}
theorem getItem_tuple_whole {t sl : Addr} {items : Array Value} {vl vu : Value} {lo hi : Option Int} {Q : Value → Shared → Prop} (ht : IsTup s.heap t items) (hs : s.heap.IsSliceOf sl vl vu .none) (pl : IsPart vl lo) (pu : IsPart vu hi)
    (h1 : HT.sIx items.size 0 lo = 0) (h2 : HT.sIx items.size items.size hi = items.size) (h : Q (.ref t) s) : wpAny (model prog w) A (getItem (.ref t) (.ref sl)) Q E s := by
  obtain ⟨os, hos, hcs, hds⟩ := id hs
  have hTs : s.TypeIs (.ref sl) "slice" := ⟨os, hos, hcs⟩
  unfold getItem
  try with_reducible refine wpAny_holding ?_
  first | refine wpAny_bind (wpAny_pure ?_) | skip
  refine wpAny_bind (wpAny_sequenceKey ht.typeIs (by decide) ?_)
  refine wpAny_bind (wpAny_callSpecial?_slot (name := Str.ofString "__getitem__") ht.typeIs PyProof.Rows.slot_tuple_getitem
    (wpAny_call_entry PyProof.Rows.slot_tuple_getitem ht.typeIs entry_tuple_getitem ?_ (args_tuple_getitem _ _)))
  show wpAny _ _ (Builtin.Tuple.tupleItemsOf (.ref t) >>= _) _ _ s
  refine wpAny_bind (tupleItemsOf_ ht ?_)
  refine wpAny_bind (wpAny_typeOf hTs ?_)
  rw [if_pos (by decide)]
  refine wpAny_bind (HT.sliceApplied_gen hs pl pu ?_)
  show wpAny _ _ (if (((HT.sIx items.size 0 lo : Nat) : Int) == 0 && (1 : Int) == 1 && (HT.sIx items.size items.size hi - HT.sIx items.size 0 lo) == items.size) = true then _ else _) _ _ s
  rw [if_pos (by rw [h1, h2]; simp)]
  refine wpAny_bind (wpAny_bind (wpAny_typeOf ht.typeIs (wpAny_pure ?_)))
  rw [if_pos (by decide)]
  refine wpAny_bind (wpAny_rule ?_)
  exact wpAny_bind (wpAny_pure (wpAny_pure ⟨_, rfl, wpAny_pure h⟩))
end
section
variable {X : Cx}
/-- t[lo:hi], the whole or not -/
def rSlA (K : PySem.W.Frag) : V → Option Int → Option Int → Hp → VK → Prop := fun x lo hi H Q => ∃ a xs, x = .ref a ∧ SqT K H a xs ∧ ∀ p H', Same H H' → SqT K H' p (cutV xs lo hi) → Q (.ref p) H'
theorem sl_tupA : SlR X (rSlA X.K) := by
  intro pins s σ H x v vl vu lo hi sl Q I rx hs pl pu h
  obtain ⟨a, xs, rfl, hx, q⟩ := h
  by_cases hw : HT.sIx xs.length 0 lo = 0 ∧ HT.sIx xs.length xs.length hi = xs.length
  · cases rx
    obtain ⟨its, r, ht, hz⟩ := I.tuple hx
    have hlen : its.toArray.size = xs.length := by rw [List.size_toArray]; exact r.length.symm
    refine ⟨"tuple", _, PyProof.Rows.slot_tuple_getitem.lookup, ht.typeIs, ?_⟩
    refine getItem_tuple_whole ht hs pl pu (by rw [hlen]; exact hw.1) (by rw [hlen]; exact hw.2) ⟨.ref a, H, I, rfl, q a H (Same.refl _) ?_⟩
    have : cutV xs lo hi = xs := by
      unfold cutV
      rw [hw.1, hw.2]
      simp
    rw [this]
    exact hx
  · exact sl_tup pins s σ H _ v vl vu lo hi sl Q I rx hs pl pu ⟨a, xs, rfl, hx, hw, fun p hp => q p _ (same_upd hp) (SqT.of upd_same)⟩
theorem pe_globI {x : Str} {i : Int} {pos : Pos} (hg : Gl X x) (hm : ∃ t, X.mg x = some (.int i t)) (hd : (x == ("__debug__" : Str)) = false := by decide) : PE X (.Name x pos) (tC (.int i)) := by
  obtain ⟨t, h⟩ := hm
  exact pe_glob hg h ⟨t, rfl⟩ hd
end
section
variable {σ : St} {H : Hp} {D : Ends} {Q : VK} {te : TE} {QB : Bool → Hp → Prop} {tA : TA}
theorem r_bm0 {K : PySem.W.Frag} {T : String} {r : V → List V → Hp → VK → Prop} (h : te σ H fun x H1 => tyV K T x H1 ∧ r x [] H1 Q) : tBM0 K T r te σ H Q := h
theorem r_slS {z : Str} {lo hi : Option Int} (h1 : z.length ≤ sizeLine) (h : Q (.str (cutS z lo hi)) H) : rSlS (.str z) lo hi H Q := ⟨z, rfl, h1, h⟩
end
theorem iteNT {A B : Prop} (h : B) : if (!true) = true then A else B := by
  rw [if_neg (by decide)]
  exact h
theorem iteNF {A B : Prop} (h : A) : if (!false) = true then A else B := by
  rw [if_pos (by decide)]
  exact h
/-! ### heaps that differ at one place -/
def SameBut (x : Addr) (H H' : Hp) : Prop := ∀ b o, b ≠ x → H b = some o → H' b = some o
theorem Same.but {H H' : Hp} {x : Addr} (h : Same H H') : SameBut x H H' := fun b o _ e => h b o e
theorem SameBut.trans {H H1 H2 : Hp} {x : Addr} (a : SameBut x H H1) (b : SameBut x H1 H2) : SameBut x H H2 := fun c o n h => b c o n (a c o n h)
def NotSq (H : Hp) (x : Addr) : Prop := ∀ u, ¬ Rd H x (.tup u) ∧ ¬ Rd H x (.lst u)
theorem notSq_ins {H : Hp} {x C dx : Addr} {fs : List (Str × V)} (h : H x = some (.ins C dx fs)) : NotSq H x := fun u => by
  constructor <;> (rintro (e | ⟨o, e⟩) <;> (rw [h] at e; cases e))
theorem sameBut_upd {H : Hp} {x : Addr} {o : HO} : SameBut x H (upd H x o) := fun b u n e => by rw [upd_ne n]; exact e
end L2
end

section
set_option Elab.async false
set_option linter.all false
set_option maxRecDepth 100000
set_option maxHeartbeats 4000000
/-! Comprehensions whose items are new things. -/
namespace L2
open PySem PySem.Spec PyProof.Rows
theorem lc_new {J : It} {H1 : Hp} {fr : St} {tc : TT} {te : TE} {Q : VK} (n : Nat) (item : Nat → V) (Pv : Nat → List V → Hp → Prop) (h0 : ∀ H, Same H1 H → Pv 0 [] H)
    (stab : ∀ i ys H D xs o, H D = some (.lst xs) → Pv i ys H → Pv i ys (upd H D o)) (hz : ∀ i ys H, i < n → Pv i ys H → ys.length < sizeLine)
    (hgo : ∀ i H, i < n → Same H1 H → J.go i H) (hy : ∀ i H x H', i < n → Same H1 H → J.yld i H x H' → x = item i ∧ H' = H) (hst : ∀ H, Same H1 H → J.stop n H)
    (turn : ∀ i ys H (A : VK) (R : Hp → Prop), i < n → Same H1 H → Pv i ys H → (∀ y H', Same H H' → Pv (i + 1) (ys ++ [y]) H' → A y H') → tc (some (item i) :: fr) H fun b H3 => if b = true then te (some (item i) :: fr) H3 A else R H3)
    (fin : ∀ D ys H, H1 D = none → Same H1 H → Pv n ys H → H D = some (.lst ys) → Q (.ref D) H) : rdLc J H1 fr tc te Q := by
  intro D hD
  refine ⟨fun i m H => i ≤ n ∧ m = n - i ∧ Same H1 H ∧ ∃ ys, H D = some (.lst ys) ∧ Pv i ys H, ⟨n, Nat.zero_le _, rfl, same_upd hD, [], upd_same, h0 _ (same_upd hD)⟩, ?_⟩
  rintro i m H ⟨hi, rfl, sm, ys, hl, hp⟩
  by_cases h : i = n
  · subst h
    exact .inl ⟨hst H sm, fin D ys H hD sm hp hl⟩
  · have hlt : i < n := Nat.lt_of_le_of_ne hi h
    refine .inr ⟨hgo i H hlt sm, fun x H' hyl => ?_⟩
    obtain ⟨rfl, rfl⟩ := hy i H x H' hlt sm hyl
    refine turn i ys H' _ _ hlt sm hp (fun y H4 s4 hp4 => ?_)
    refine ⟨ys, s4 _ _ hl, hz i ys _ hlt hp, n - (i + 1), by omega, by omega, rfl, fun b u e => ?_, ys ++ [y], upd_same, stab _ _ _ _ _ _ (s4 _ _ hl) hp4⟩
    rw [upd_ne (ne_of_none e hD)]
    exact s4 _ _ (sm _ _ e)
theorem lc_stepsN {lo st : Int} {n : Nat} {H1 : Hp} {fr : St} {tc : TT} {te : TE} {Q : VK} (Pv : Nat → List V → Hp → Prop) (h0 : ∀ H, Same H1 H → Pv 0 [] H)
    (stab : ∀ i ys H D xs o, H D = some (.lst xs) → Pv i ys H → Pv i ys (upd H D o)) (hz : ∀ i ys H, i < n → Pv i ys H → ys.length < sizeLine)
    (turn : ∀ (i : Nat) ys H (A : VK) (R : Hp → Prop), i < n → Same H1 H → Pv i ys H → (∀ y H', Same H H' → Pv (i + 1) (ys ++ [y]) H' → A y H') → tc (some (.int (lo + i * st)) :: fr) H fun b H3 => if b = true then te (some (.int (lo + i * st)) :: fr) H3 A else R H3)
    (fin : ∀ D ys H, H1 D = none → Same H1 H → Pv n ys H → H D = some (.lst ys) → Q (.ref D) H) : rdLc (Itr3 lo st n) H1 fr tc te Q :=
  lc_new n (fun i => .int (lo + i * st)) Pv h0 stab hz (fun i H hi _ => hi) (fun i H x H' _ _ h => ⟨h.2, h.1⟩) (fun H _ => Nat.le_refl n) turn fin
/-- a comprehension within a comprehension, of no names from around but globals -/
theorem pe_lcIn {X : Cx} {sc : Scope} {N : List Str} {C : Addr} {s0 : Shared} {H0 : Hp} {fp : List Addr} {scope : Scope} {x : Str} {N2 : List Str} {ix : List Nat} {px pos : Pos} {elt iter : Expr} {ifs : List Expr} {tc : TT} {te : TE} {wi : TI}
    (hc : X.calm = true) (L : ∀ sc₀, LcScope N sc₀ scope x N2 ix) (hi : PI (cxLc X sc N C s0 H0 fp) (.Name x px) iter wi)
    (hif : ∀ C' s' H' fp', PIf (cxLc (cxLc X sc N C s0 H0 fp) scope N2 C' s' H' fp') ifs tc) (he : ∀ C' s' H' fp', PE (cxLc (cxLc X sc N C s0 H0 fp) scope N2 C' s' H' fp') elt te)
    (hs : ∀ z, foldedSetIterable iter (cxLc X sc N C s0 H0 fp).env z = pure z := by intro _; rfl) : PE (cxLc X sc N C s0 H0 fp) (.ListComp elt [⟨.Name x px, iter, ifs, 0⟩] scope pos) (tLc wi ix tc te) :=
  pe_lc (X := cxLc X sc N C s0 H0 fp) hc (L _) hi hif he hs
theorem pi_tupK (K : PySem.W.Frag) {X : Cx} {tg l : Expr} {tl : TE} (hl : PE X l tl) (h : X.K = K := by rfl) : PI X tg l (iTup K tl) := by
  subst h
  exact pi_tup hl
theorem call_sumK (K : PySem.W.Frag) {X : Cx} (hc : X.calm = true) (h : X.K = K := by rfl) : CallR X (.builtin "sum") (rSum K) := by
  subst h
  exact call_sum hc
theorem sl_tupAK (K : PySem.W.Frag) {X : Cx} (h : X.K = K := by rfl) : SlR X (rSlA K) := by
  subst h
  exact sl_tupA
end L2
end

section
set_option Elab.async false
set_option linter.all false
set_option maxRecDepth 100000
set_option maxHeartbeats 4000000
/-! min and max of a list of ints, with and without a default; abs. -/
namespace L2
open PySem PySem.Spec PyProof.Rows
theorem b_abs : bootBuiltins "abs" = some (.builtin "abs") := by decide +kernel
/-- the least of a list of ints; the other way about: the greatest -/
def IsLeast (ns : List Int) (m : Int) : Prop := m ∈ ns ∧ ∀ a ∈ ns, m ≤ a
def IsMost (ns : List Int) (m : Int) : Prop := m ∈ ns ∧ ∀ a ∈ ns, a ≤ m
section
variable {X : Cx}
def rMin1 (K : PySem.W.Frag) : List V → Hp → VK → Prop := fun xs H Q => ∃ (p : Addr) (ns : List Int), xs = [.ref p] ∧ SqL K H p (ns.map V.int) ∧ ns ≠ [] ∧ ∀ m, IsLeast ns m → Q (.int m) H
def rMax1 (K : PySem.W.Frag) : List V → Hp → VK → Prop := fun xs H Q => ∃ (p : Addr) (ns : List Int), xs = [.ref p] ∧ SqL K H p (ns.map V.int) ∧ ns ≠ [] ∧ ∀ m, IsMost ns m → Q (.int m) H
/-- the ints of a tracked list, with their marks -/
theorem ints_of {pins : List (Addr × Obj)} {s : Shared} {σ : St} {H : Hp} {p : Addr} {ns : List Int} (I : Inv X pins σ H s) (hp : SqL X.K H p (ns.map V.int)) : ∃ ys : Array (Int × Tok), s.heap.IsList p (intItems ys) ∧ ns = ys.toList.map (·.1) := by
  obtain ⟨its, r, pl, _⟩ := I.list hp
  have hi := intsAre_of r
  obtain ⟨ys, e⟩ := hi.allInts.items
  have hl := pl.isList
  rw [e] at hl
  exact ⟨ys, hl, by rw [← hi.numsOf, ← nums_intItems, ← e]⟩
theorem least_of {ys : Array (Int × Tok)} {v : Value} (hz : 0 < ys.size) (hv : (intItems ys)[argBest (fun i j => decide (numAt ys i < numAt ys j)) (ys.size - 1)]? = some v) : ∃ m t, v = .int m t ∧ IsLeast (ys.toList.map (·.1)) m := by
  obtain ⟨t, rfl⟩ := intItems_at hv
  obtain ⟨h1, h2⟩ := argBest_lt (numAt ys) (ys.size - 1)
  refine ⟨_, t, rfl, ?_, fun a ha => ?_⟩
  · rw [numAt_eq]
    exact getD_mem (by rw [List.length_map, Array.length_toList]; omega)
  · obtain ⟨j, hj, rfl⟩ := mem_getD ha
    rw [List.length_map, Array.length_toList] at hj
    rw [← numAt_eq]
    exact h2 j (by omega)
theorem most_of {ys : Array (Int × Tok)} {v : Value} (hz : 0 < ys.size) (hv : (intItems ys)[argBest (fun i j => decide (numAt ys i > numAt ys j)) (ys.size - 1)]? = some v) : ∃ m t, v = .int m t ∧ IsMost (ys.toList.map (·.1)) m := by
  obtain ⟨t, rfl⟩ := intItems_at hv
  obtain ⟨h1, h2⟩ := argBest_gt (numAt ys) (ys.size - 1)
  refine ⟨_, t, rfl, ?_, fun a ha => ?_⟩
  · rw [numAt_eq]
    exact getD_mem (by rw [List.length_map, Array.length_toList]; omega)
  · obtain ⟨j, hj, rfl⟩ := mem_getD ha
    rw [List.length_map, Array.length_toList] at hj
    rw [← numAt_eq]
    exact h2 j (by omega)
theorem size_of_ne {ns : List Int} {ys : Array (Int × Tok)} (e : ns = ys.toList.map (·.1)) (h : ns ≠ []) : 0 < ys.size := by
  rcases Nat.eq_zero_or_pos ys.size with z | z
  · exfalso
    apply h
    rw [e, List.eq_nil_of_length_eq_zero (l := ys.toList) (by rw [Array.length_toList]; exact z)]
    rfl
  · exact z
theorem call_min1 (hc : X.calm = true) : CallR X (.builtin "min") (rMin1 X.K) := by
  intro pins s σ H xs us Q I r h
  obtain ⟨p, ns, rfl, hp, hne, q⟩ := h
  obtain ⟨u, rfl, ru⟩ := vals1 r
  cases ru
  obtain ⟨ys, hl, e⟩ := ints_of I hp
  have hz := size_of_ne e hne
  refine min_intList (I.ok.hd hc) hl hz fun v h' tk hv hk => ?_
  obtain ⟨m, t, rfl, hm⟩ := least_of hz hv
  exact ⟨.int m, H, I.kept hk, ⟨t, rfl⟩, q m (e ▸ hm)⟩
theorem call_max1 (hc : X.calm = true) : CallR X (.builtin "max") (rMax1 X.K) := by
  intro pins s σ H xs us Q I r h
  obtain ⟨p, ns, rfl, hp, hne, q⟩ := h
  obtain ⟨u, rfl, ru⟩ := vals1 r
  cases ru
  obtain ⟨ys, hl, e⟩ := ints_of I hp
  have hz := size_of_ne e hne
  refine max_intList (I.ok.hd hc) hl hz fun v h' tk hv hk => ?_
  obtain ⟨m, t, rfl, hm⟩ := most_of hz hv
  exact ⟨.int m, H, I.kept hk, ⟨t, rfl⟩, q m (e ▸ hm)⟩
end
/-! ### with a default -/
end L2
namespace L2
open PySem PySem.Spec PyProof.Rows
/-- a loop along a text -/
theorem for_str {z : Str} {g : TG} {tb : TS} {D : Ends} {σ : St} {H : Hp} (Pv : Nat → St → Hp → Prop) (h0 : Pv 0 σ H)
    (hs : ∀ (i c : Nat) σ H, z.cps[i]? = some c → Pv i σ H → g (.str (sgn c)) σ H fun σ2 H2 => tb { D with nx := Pv (i + 1), ct := Pv (i + 1), bk := D.nx } σ2 H2) (hd : ∀ σ H, Pv z.cps.size σ H → D.nx σ H) : forB (Its z) g tb D σ H := by
  refine ⟨fun i m σ H => i ≤ z.cps.size ∧ m = z.cps.size - i ∧ Pv i σ H, ⟨_, Nat.zero_le _, rfl, h0⟩, ?_⟩
  rintro i m σ H ⟨hi, rfl, hP⟩
  by_cases h : i = z.cps.size
  · subst h
    exact .inl ⟨Nat.le_refl _, hd σ H hP⟩
  · have hlt : i < z.cps.size := Nat.lt_of_le_of_ne hi h
    refine .inr ⟨hlt, Pv (i + 1), fun σ' H' hN => ⟨z.cps.size - (i + 1), by omega, hlt, rfl, hN⟩, fun x H' hy => ?_⟩
    obtain ⟨rfl, c, hc, rfl⟩ := hy
    exact hs i c σ _ hc hP
end L2
end

section
set_option Elab.async false
set_option linter.all false
set_option maxRecDepth 100000
set_option maxHeartbeats 4000000
/-! What flies keeps its dict. -/
namespace L2
open PySem PySem.Spec PyProof.Rows
/-- a tree that calls nothing and changes no object's dict -/
def Kd {α : Type} : Sem α → Prop
  | .pure _ => True
  | .raise _ => True
  | .unsupported _ => True
  | .finish _ => True
  | .rule _ k => Kd (k ())
  | .at _ k => Kd (k ())
  | .load _ _ k => ∀ o, Kd (k o)
  | .update _ _ f k => (∀ o, (f o).dict = o.dict ∧ (f o).isFreed = o.isFreed) ∧ Kd (k ())
  | .alloc _ k => ∀ a, Kd (k a)
  | .loadIfAlive _ k => ∀ o, Kd (k o)
  | .point _ k => Kd (k ())
  | .fresh k => ∀ t, Kd (k t)
  | .ask k => ∀ x, Kd (k x)
  | .stack k => ∀ x, Kd (k x)
  | .handled _ k => ∀ x, Kd (k x)
  | .thread k => ∀ x, Kd (k x)
  | _ => False
theorem Kd.bind {α β : Type} {m : Sem α} {f : α → Sem β} (h : Kd m) (hf : ∀ a, Kd (f a)) : Kd (m >>= f) := by
  show Kd (m.bind f)
  induction m <;> first | exact hf _ | exact h.elim | exact trivial | skip
  all_goals (rename_i ih; first | exact ih _ h | exact fun o => ih o (h o) | exact ⟨h.1, ih _ h.2⟩)
def DictK (h h' : Heap) : Prop := ∀ b o, h.get? b = some o → ∃ o', h'.get? b = some o' ∧ o'.dict = o.dict
theorem DictK.refl (h : Heap) : DictK h h := fun _ o e => ⟨o, e, rfl⟩
theorem DictK.trans {h1 h2 h3 : Heap} (a : DictK h1 h2) (b : DictK h2 h3) : DictK h1 h3 := fun x o e => by
  obtain ⟨o1, e1, d1⟩ := a x o e
  obtain ⟨o2, e2, d2⟩ := b x o1 e1
  exact ⟨o2, e2, d2.trans d1⟩
theorem dictK_push (h : Heap) (o : Obj) : DictK h (h.push o) := fun _ u e => ⟨u, Heap.get?_push_of_some _ e, rfl⟩
theorem dictK_upd {h : Heap} {a : Addr} {f : Obj → Obj} (hf : ∀ o, (f o).dict = o.dict ∧ (f o).isFreed = o.isFreed) : DictK h (h.update a f) := fun b o e => by
  by_cases hb : b = a
  · subst hb
    have fr := (Heap.get?_some_iff.mp e).2
    exact ⟨f o, Heap.get?_update_self f e (by rw [(hf o).2]; exact fr), (hf o).1⟩
  · exact ⟨o, (Heap.get?_update_other _ _ (Ne.symm hb)).trans e, rfl⟩
theorem kd_wp {α : Type} {M : Model} {Γ : PySem.Ctx} {m : Sem α} : ∀ {Q : α → Pos → Shared → Prop} {E : Value → Pos → Shared → Prop} {p : Pos} {s : Shared}, Kd m → Sem.wp M Γ m Q E p s → Sem.wp M Γ m (fun a p' s' => Q a p' s' ∧ DictK s.heap s'.heap) E p s := by
  induction m with
  | pure x => exact fun _ h => ⟨h, DictK.refl _⟩
  | raise v => exact fun _ h => h
  | unsupported => exact fun _ h => h
  | finish => exact fun _ h => h
  | rule _ k ih => exact fun q h => ih _ q h
  | «at» _ k ih => exact fun q h => ih _ q h
  | load a _ k ih =>
    intro Q E p s q h
    obtain ⟨o, ho, h⟩ := h
    exact ⟨o, ho, ih o (q o) h⟩
  | update a _ f k ih =>
    intro Q E p s q h
    obtain ⟨ha, h⟩ := h
    exact ⟨ha, Sem.wp_mono _ _ _ (fun _ _ _ z => ⟨z.1, (dictK_upd q.1).trans z.2⟩) (fun _ _ _ z => z) _ _ (ih _ q.2 h)⟩
  | alloc o k ih =>
    intro Q E p s q h
    exact Sem.wp_mono _ _ _ (fun _ _ _ z => ⟨z.1, (dictK_push _ o).trans z.2⟩) (fun _ _ _ z => z) _ _ (ih _ (q _) h)
  | loadIfAlive _ k ih => exact fun q h => ih _ (q _) h
  | point _ k ih => exact fun q h => ih _ q h
  | fresh k ih => exact fun q h => ih _ (q _) h
  | ask k ih => exact fun q h => ih _ (q _) h
  | stack k ih => exact fun q h => ih _ (q _) h
  | handled _ k ih => exact fun q h => ih _ (q _) h
  | thread k ih => exact fun q h => ih _ (q _) h
  | _ => exact fun q => q.elim
theorem kd_any {α : Type} {M : Model} {A : Around} {m : Sem α} {Q : α → Shared → Prop} {E : Value → Shared → Prop} {s : Shared} (q : Kd m) (h : wpAny M A m Q E s) : wpAny M A m (fun a s' => Q a s' ∧ DictK s.heap s'.heap) E s := fun Γ p hΓ => kd_wp q (h Γ p hΓ)
theorem kd_load (a : Addr) : Kd (load a) := fun _ => trivial
theorem kd_fieldsOf (v : Value) : Kd (fieldsOf v) := by
  unfold fieldsOf
  split
  · exact Kd.bind (kd_load _) fun o => by split <;> exact trivial
  · exact trivial
theorem kd_field (v : Value) (i : Nat) : Kd (field v i) := Kd.bind (kd_fieldsOf v) fun a => by split <;> exact trivial
theorem kd_mapF (f : Array Value → Array Value) (o : Obj) : (Obj.mapFields f o).dict = o.dict ∧ (Obj.mapFields f o).isFreed = o.isFreed := by
  obtain ⟨c, d, dt, sl⟩ := o
  cases dt <;> exact ⟨rfl, rfl⟩
theorem kd_setField (v : Value) (i : Nat) (x : Value) : Kd (setField v i x) := by
  unfold setField
  split
  · unfold updateField
    refine Kd.bind (kd_load _) fun o => ?_
    split
    · split
      · exact ⟨kd_mapF _, trivial⟩
      · exact trivial
    · exact trivial
  · exact trivial
theorem kd_setFlight (e : Value) (f : Option Addr) : Kd (setFlight e f) := by
  unfold setFlight
  refine Kd.bind (kd_field _ _) fun tb => ?_
  split
  · exact kd_setField _ _ _
  · exact trivial
theorem kd_ready : ∀ l : List Env, Kd (readyFrames l)
  | [] => trivial
  | env :: outer => by
    unfold readyFrames
    split
    · rename_i f hf
      refine Kd.bind (kd_load _) fun o => ?_
      split
      · exact trivial
      · refine Kd.bind ?_ fun i => Kd.bind ?_ fun b => ⟨fun o => ?_, kd_ready outer⟩
        · unfold behindIsImport
          split
          · exact trivial
          · split
            · exact trivial
            · exact Kd.bind (kd_field _ _) fun _ => trivial
        · unfold keptBack
          split
          · split
            · exact trivial
            · refine Kd.bind ?_ fun _ => trivial
              unfold underTheClaimsCaller
              exact fun _ => trivial
          · exact trivial
        · obtain ⟨c, d, dt, sl⟩ := o
          cases dt <;> exact ⟨rfl, rfl⟩
    · exact trivial
theorem kd_frameOf (env : Env) : Kd (PySem.frameOf env) := by
  unfold PySem.frameOf
  refine Kd.bind (fun _ => trivial) fun l => Kd.bind ?_ fun o => ?_
  · unfold frameObject
    split
    · exact trivial
    · exact Kd.bind (kd_ready _) fun _ => trivial
  · split <;> exact trivial
theorem kd_place (f : Addr) (b : Bool) : Kd (entryPlaceOf f b) := by
  unfold entryPlaceOf
  refine Kd.bind (fun _ => trivial) fun l => ?_
  split <;> exact trivial
theorem kd_entry (a b c d e : Value) (l : List Value) : Kd (EntryCells.newEntry a b c d e l) := by
  unfold EntryCells.newEntry newFields
  generalize ([a, b, c, d, e] ++ if l.isEmpty = true then List.replicate 6 Value.none else l).toArray = vs
  unfold newObj
  dsimp only
  have as_is : Kd (newObjAsIs (.type "traceback") (.fields vs) none) := Kd.bind (m := alloc _) (fun _ => trivial) fun _ => trivial
  split
  · exact Kd.bind (m := unsupported _) trivial fun _ => as_is
  · exact as_is
theorem kd_note (e : Value) (env : Env) : Kd (noteFrame e env) := by
  unfold noteFrame
  have jp : ∀ (f : Addr) (head : Value), Kd (do
      let a ← PySem.frameOf env
      let b ← entryPlaceOf f (head != Value.none)
      let c ← EntryCells.newEntry head a Value.none (rawInt ↑f) Value.none b
      setField e 1 c) := fun f head => Kd.bind (kd_frameOf _) fun _ => Kd.bind (kd_place _ _) fun _ => Kd.bind (kd_entry _ _ _ _ _ _) fun _ => kd_setField _ _ _
  split
  · refine Kd.bind (kd_field _ _) fun head => ?_
    dsimp only
    split
    · refine Kd.bind (kd_field _ _) fun v => ?_
      split
      · exact trivial
      · exact Kd.bind (kd_setField _ _ _) fun _ => jp _ _
    · exact jp _ _
  · exact trivial
theorem kd_leaving (e : Value) (env : Env) : Kd (leaving env e) := Kd.bind (kd_note _ _) fun _ => kd_setFlight _ _
end L2
end

section
set_option Elab.async false
set_option linter.all false
set_option maxRecDepth 100000
set_option maxHeartbeats 4000000
/-! Exceptions that carry their dict: raised, passed on, caught. -/
namespace L2
open PySem PySem.Spec PyProof.Rows
/-! ### flights with the dict -/
def FlyD (B : Heap) (l : List Env) (e : Addr) (cls a0 : Value) (od : Option Addr) (h : Heap) : Prop := Heap.FlyingW B l e cls a0 h ∧ ∃ o, h.get? e = some o ∧ o.dict = od
def HeldD (B : Heap) (l : List Env) (e : Addr) (cls a0 : Value) (od : Option Addr) (L : Addr) (h : Heap) : Prop := Heap.HeldW B l e cls a0 L h ∧ ∃ o, h.get? e = some o ∧ o.dict = od
theorem FlyD.first {B h : Heap} {l : List Env} {e : Addr} {cls a0 : Value} {od : Option Addr} (x : FlyD B l e cls a0 od h) : ∃ oe vs, h.get? e = some oe ∧ oe.cls = cls ∧ oe.data = .fields vs ∧ oe.dict = od := by
  obtain ⟨f, o, ho, hd⟩ := x
  obtain ⟨oe, vs, he, hc, hv, _⟩ := f.first
  rw [ho] at he
  cases he
  exact ⟨o, vs, ho, hc, hv, hd⟩
section
variable {M : Model} {A : Around} {E : Value → Shared → Prop} {s : Shared} {B : Heap} {env : Env} {outer l : List Env} {L e : Addr} {cls a0 : Value} {od : Option Addr} {Q : Unit → Shared → Prop}
theorem dict_on {h h' : Heap} (k : DictK h h') (x : ∃ o, h.get? e = some o ∧ o.dict = od) : ∃ o, h'.get? e = some o ∧ o.dict = od := by
  obtain ⟨o, ho, hd⟩ := x
  obtain ⟨o2, ho2, hd2⟩ := k e o ho
  exact ⟨o2, ho2, hd2.trans hd⟩
theorem leaves_onD (hfr : A.frames = some (env :: outer)) (hf : env.frame = some L) (fl : FlyD B (env :: outer) e cls a0 od s.heap) (q : ∀ h', FlyD B outer e cls a0 od h' → s.heap.UpToSlots h' → Q () { s with heap := h' }) : wpAny M A (leaving env (.ref e)) Q E s := by
  refine wpAny_mono (kd_any (kd_leaving _ _) (wpAny_leaves_onW (Q := fun _ s' => ∃ h', s' = { s with heap := h' } ∧ Heap.FlyingW B outer e cls a0 h' ∧ s.heap.UpToSlots h') hfr hf fl.1 fun h' f u => ⟨h', rfl, f, u⟩)) (fun _ s' z => ?_) fun _ _ z => z
  obtain ⟨⟨h', rfl, f, u⟩, k⟩ := z
  exact q h' ⟨f, dict_on k fl.2⟩ u
theorem looks_onD (hfr : A.frames = some (env :: outer)) (hf : env.frame = some L) (fl : FlyD B (env :: outer) e cls a0 od s.heap) (q : ∀ h', HeldD B (env :: outer) e cls a0 od L h' → s.heap.UpToSlots h' → Q () { s with heap := h' }) : wpAny M A (noteFrame (.ref e) env) Q E s := by
  refine wpAny_mono (kd_any (kd_note _ _) (wpAny_looks_onW (Q := fun _ s' => ∃ h', s' = { s with heap := h' } ∧ Heap.HeldW B (env :: outer) e cls a0 L h' ∧ s.heap.UpToSlots h') hfr hf fl.1 fun h' f u => ⟨h', rfl, f, u⟩)) (fun _ s' z => ?_) fun _ _ z => z
  obtain ⟨⟨h', rfl, f, u⟩, k⟩ := z
  exact q h' ⟨f, dict_on k fl.2⟩ u
theorem landsD (hh : HeldD B l e cls a0 od L s.heap) (q : ∀ h', FlyD B l e cls a0 od h' → s.heap.UpToSlots h' → Q () { s with heap := h' }) : wpAny M A (setFlight (.ref e) none) Q E s := by
  refine wpAny_mono (kd_any (kd_setFlight _ _) (wpAny_landsW (Q := fun _ s' => ∃ h', s' = { s with heap := h' } ∧ Heap.FlyingW B l e cls a0 h' ∧ s.heap.UpToSlots h') hh.1 fun h' f u => ⟨h', rfl, f, u⟩)) (fun _ s' z => ?_) fun _ _ z => z
  obtain ⟨⟨h', rfl, f, u⟩, k⟩ := z
  exact q h' ⟨f, dict_on k hh.2⟩ u
theorem againD (fl : FlyD B l e cls a0 od s.heap) (q : ∀ h', FlyD B l e cls a0 od h' → s.heap.UpToSlots h' → Q () { s with heap := h' }) : wpAny M A (setFlight (.ref e) none) Q E s := by
  refine wpAny_mono (kd_any (kd_setFlight _ _) (lands_againW (Q := fun _ s' => ∃ h', s' = { s with heap := h' } ∧ Heap.FlyingW B l e cls a0 h' ∧ s.heap.UpToSlots h') fl.1 fun h' f u => ⟨h', rfl, f, u⟩)) (fun _ s' z => ?_) fun _ _ z => z
  obtain ⟨⟨h', rfl, f, u⟩, k⟩ := z
  exact q h' ⟨f, dict_on k fl.2⟩ u
theorem leaves_madeD {h : Heap} {args : List Value} (hfr : A.frames = some (env :: outer)) (hf : env.frame = some L) (hkb : B.StaysIn h) (hl : h.FunFrames B (env :: outer)) (hx : Heap.MadeExcOf h s.heap e cls args)
    (q : ∀ h' t, FlyD B outer e cls (.ref t) none h' → s.heap.UpToSlots h' → Q () { s with heap := h' }) : wpAny M A (leaving env (.ref e)) Q E s := by
  refine wpAny_mono (kd_any (kd_leaving _ _) (wpAny_leaves_madeW (Q := fun _ s' => ∃ h' t, s' = { s with heap := h' } ∧ Heap.FlyingW B outer e cls (.ref t) h' ∧ s.heap.UpToSlots h') hfr hf hkb hl hx fun h' t f _ _ u => ⟨h', t, rfl, f, u⟩)) (fun _ s' z => ?_) fun _ _ z => z
  obtain ⟨⟨h', t, rfl, f, u⟩, k⟩ := z
  obtain ⟨_, he, _⟩ := hx.there
  exact q h' t ⟨f, dict_on k ⟨_, he, rfl⟩⟩ u
end
end L2
namespace L2
open PySem PySem.Spec PyProof.Rows
/-- an exception of a class of the text lies behind a call: e is new, so is all that is neither kept in B, nor a frame; B stays -/
structure Flies (outer : List Env) (H' : Hp) (h h' : Heap) (e C : Addr) (od : Option Addr) : Prop where
  new : h.get? e = none
  unt : H' e = none
  fly : ∃ a0 B, FlyD B outer e (.ref C) a0 od h' ∧ ∀ b o, h'.get? b = some o → B.get? b = none → b = e ∨ b ∈ frs outer ∨ (h.get? b = none ∧ H' b = none)
theorem ObjOk.there {P : Program} {w : World} {H : Hp} {h : Heap} {a : Addr} {o : HO} (x : ObjOk P w H h a o) : ∃ ob, h.get? a = some ob := by
  cases o with
  | lst xs => obtain ⟨_, _, _, _, e⟩ := x; exact ⟨_, e⟩
  | tup xs => obtain ⟨_, _, _, o, e, _⟩ := x; exact ⟨_, e⟩
  | dK kvs => obtain ⟨_, _, _, _, o, _, _, e, _⟩ := x; exact ⟨_, e⟩
  | dT kvs => obtain ⟨_, _, _, _, o, _, _, e, _⟩ := x; exact ⟨_, e⟩
  | set S n => obtain ⟨o, _, _, _, e, _⟩ := x; exact ⟨_, e⟩
  | ins C dx fs => obtain ⟨_, _, _, e, _⟩ := x; exact ⟨_, e⟩
  | own y => exact x
  | xd fs => obtain ⟨_, ⟨_, _, _, e, _⟩, _⟩ := x; exact ⟨_, e⟩
  | rng lo hi => obtain ⟨_, _, _, e⟩ := x; exact ⟨_, e⟩
  | frz ob u => obtain ⟨e, _⟩ := x; exact ⟨_, e⟩
  | tbl ps => exact ⟨_, (show h.get? a = some _ from x)⟩
  | met f y => exact ⟨_, (show h.get? a = some _ from x)⟩
  | ext φ => obtain ⟨_, e, _⟩ := x; exact e
def CXE (P : Program) (w : World) : CXT := fun outer H s E ex s' => ∃ e C od H', ex = .ref e ∧ s'.os = s.os ∧ AllBare s'.gens ∧ Un (frs outer) [] H H' s.heap s'.heap ∧ HOk P w H' s'.heap ∧ (∀ b ∈ frs outer, H' b = none) ∧ Flies outer H' s.heap s'.heap e C od ∧ E (.ref C) od H'
/-- what changes the frames' slots, the exception and new untracked things alone keeps the heap's promise -/
theorem hok_fly {P : Program} {w : World} {H : Hp} {h h' : Heap} {B : Heap} {outer : List Env} {e : Addr} {n : Heap} (ok : HOk P w H h) (st : B.StaysIn h') (he : H e = none) (hf : ∀ b ∈ frs outer, H b = none)
    (hB : ∀ b o, h.get? b = some o → B.get? b = none → b = e ∨ b ∈ frs outer ∨ (n.get? b = none ∧ H b = none)) (hBh : ∀ b o, B.get? b = some o → h.get? b = some o) : HOk P w H h' := fun a u ea => by
  have tr : ∀ b v, H b = some v → ∀ o, h.get? b = some o → h'.get? b = some o := fun b v ev o eo => by
    cases q : B.get? b with
    | some o' =>
      have := hBh b o' q
      rw [eo] at this
      cases this
      exact st b o q
    | none =>
      rcases hB b o eo q with z | z | z
      · rw [z, he] at ev; cases ev
      · rw [hf b z] at ev; cases ev
      · rw [z.2] at ev; cases ev
  refine (ok a u ea).stay (fun b o hb q => ?_) (fun _ q => q) fun _ _ q => q
  rcases hb with z | z
  · subst z; exact tr b u ea o q
  · exact tr b _ z o q
section
variable {P : Program} {w : World} {K : PySem.W.Frag} {mg : Str → Option Value} {base : Heap} {N : List Str} {qual : Str} {scope : Scope} {f : Addr} {cd : Value} {A : Around} {outer : List Env} {s₀ : Shared} {H₀ : Hp} {E : XK}
/-- out of a def's frame -/
theorem fly_out {pins : List (Addr × Obj)} {σ : St} {H H' : Hp} {s : Shared} {e C : Addr} {od : Option Addr} {a0 : Value} {B h1 h2 : Heap} {g : Array GenState} {d : Drawn} {t : Nat} {CX : CXT} (I : Inv (cxOf CX P w K mg base N qual scope f cd A outer s₀ H₀ E) pins σ H s)
    (un : Un (frs (cxOf CX P w K mg base N qual scope f cd A outer s₀ H₀ E).stack) [] H H' s.heap h1) (hok : HOk P w H' h1) (hfr : ∀ b ∈ frs (cxOf CX P w K mg base N qual scope f cd A outer s₀ H₀ E).stack, H' b = none) (hg : AllBare g)
    (hn : s.heap.get? e = none) (hu : H' e = none) (hB : ∀ b o, h1.get? b = some o → B.get? b = none → b = e ∨ b ∈ frs (cxOf CX P w K mg base N qual scope f cd A outer s₀ H₀ E).stack ∨ (s.heap.get? b = none ∧ H' b = none)) (hBh : B.StaysIn h1)
    (fl : FlyD B outer e (.ref C) a0 od h2) (up : h1.UpToSlots h2) (q : E (.ref C) od H') : CXE P w outer H₀ s₀ E (.ref e) { s with heap := h2, gens := g, drawn := d, toks := t } := by
  have hBst : B.StaysIn h2 := fl.1.1
  have st : ∀ b, b ∈ frs (cxOf CX P w K mg base N qual scope f cd A outer s₀ H₀ E).stack → b = s₀.heap.objs.size ∨ b ∈ frs outer := fun b hb => by
    rcases List.mem_cons.mp (I.stkSub b hb) with z | z
    · exact .inl z
    · exact .inr z
  have so : ∀ b, b ∈ frs outer → b ∈ frs (cxOf CX P w K mg base N qual scope f cd A outer s₀ H₀ E).stack := fun b hb => List.mem_cons_of_mem _ hb
  have neL : ∀ b o, s₀.heap.get? b = some o → b ≠ s₀.heap.objs.size := fun b o z => Nat.ne_of_lt (Heap.lt_size z)
  have inS : ∀ b o, s₀.heap.get? b = some o → ∃ o', s.heap.get? b = some o' := fun b o z => I.base.there b o z (by intro y; cases y)
  have in1 : ∀ b o, s.heap.get? b = some o → ∃ o', h1.get? b = some o' := fun b o z => un.there b o z (by simp)
  have fz : ∀ b ∈ frs (cxOf CX P w K mg base N qual scope f cd A outer s₀ H₀ E).stack, ∀ o, h1.get? b = some o → ∃ sl, h2.get? b = some { o with slots := sl } := fun b hb o z => by
    refine up b o z fun vs y => ?_
    obtain ⟨_, o', ho', hd⟩ := I.stack.mem hb
    obtain ⟨sl, z2⟩ := un.any ho' (I.stkFree b hb) (by simp)
    rw [z] at z2
    cases z2
    exact hd vs y
  have keep1 : ∀ b o, s.heap.get? b = some o → h1.get? b = some o → b ∉ frs (cxOf CX P w K mg base N qual scope f cd A outer s₀ H₀ E).stack → h2.get? b = some o := fun b o z z1 nf => by
    cases y : B.get? b with
    | some o' =>
      have := hBh b o' y
      rw [z1] at this
      cases this
      exact hBst b o y
    | none =>
      rcases hB b o z1 y with r | r | r
      · rw [r, hn] at z; cases z
      · exact absurd r nf
      · rw [r.1] at z; cases z
  refine ⟨e, C, od, H', rfl, I.os, hg, ⟨fun b o z n nf _ => ?_, fun b o z n nf _ => ?_, fun b o z n _ => ?_, fun b o z _ => ?_, fun b xs z => un.tups b xs (I.base.tups b xs z), fun b o u z => un.frzs b o u (I.base.frzs b o u z), fun b ps z => ?_⟩, ?_, fun b hb => hfr b (so b hb), ⟨?_, hu, a0, B, fl, fun b o z y => ?_⟩, q⟩
  · have z1 := I.base.keep b o z n nf (by intro y; cases y)
    have n1 := I.base.free b o z n (by intro y; cases y)
    have nf1 : b ∉ frs (cxOf CX P w K mg base N qual scope f cd A outer s₀ H₀ E).stack := fun y => (st b y).elim (neL b o z) nf
    exact keep1 b o z1 (un.keep b o z1 n1 nf1 (by simp)) nf1
  · obtain ⟨sl, z1⟩ := I.base.slot b o z n nf (by intro y; cases y)
    have n1 := I.base.free b o z n (by intro y; cases y)
    obtain ⟨sl2, z2⟩ := un.any z1 n1 (by simp)
    obtain ⟨sl3, z3⟩ := fz b (so b nf) _ z2
    exact ⟨sl3, z3⟩
  · obtain ⟨o', z1⟩ := inS b o z
    exact un.free b o' z1 (I.base.free b o z n (by intro y; cases y)) (by simp)
  · obtain ⟨o1, z1⟩ := inS b o z
    obtain ⟨o2, z2⟩ := in1 b o1 z1
    cases y : B.get? b with
    | some o' => exact ⟨o', hBst b o' y⟩
    | none =>
      rcases hB b o2 z2 y with r | r | r
      · rw [r, hn] at z1; cases z1
      · obtain ⟨sl, z3⟩ := fz b r o2 z2
        exact ⟨_, z3⟩
      · rw [r.1] at z1; cases z1
  · obtain ⟨m1, e1⟩ := I.base.tbls b ps z
    obtain ⟨m2, e2⟩ := un.tbls b _ e1
    exact ⟨m1 ++ m2, by rw [e2, Array.append_assoc]⟩
  · exact hok_fly (n := s.heap) (e := e) (outer := (cxOf CX P w K mg base N qual scope f cd A outer s₀ H₀ E).stack) hok hBst hu hfr hB hBh
  · cases y : s₀.heap.get? e with
    | none => rfl
    | some o =>
      obtain ⟨o', z⟩ := inS e o y
      rw [hn] at z; cases z
  · cases y1 : h1.get? b with
    | none =>
      refine .inr (.inr ⟨?_, ?_⟩)
      · cases y2 : s₀.heap.get? b with
        | none => rfl
        | some o0 =>
          obtain ⟨o1, z1⟩ := inS b o0 y2
          obtain ⟨o2, z2⟩ := in1 b o1 z1
          rw [y1] at z2; cases z2
      · cases y2 : H' b with
        | none => rfl
        | some v =>
          have := (hok b v y2).there
          obtain ⟨o2, z2⟩ := this
          rw [y1] at z2; cases z2
    | some o1 =>
      rcases hB b o1 y1 y with r | r | r
      · exact .inl r
      · rcases st b r with r2 | r2
        · refine .inr (.inr ⟨?_, hfr b r⟩)
          cases y2 : s₀.heap.get? b with
          | none => rfl
          | some o0 => exact absurd r2 (neL b o0 y2)
        · exact .inr (.inl r2)
      · refine .inr (.inr ⟨?_, r.2⟩)
        cases y2 : s₀.heap.get? b with
        | none => rfl
        | some o0 =>
          obtain ⟨o1, z1⟩ := inS b o0 y2
          rw [r.1] at z1; cases z1
/-- a callee's exception passes on -/
theorem pass_on {CX : CXT} (hCX : CX = CXE P w) : Passes (CXE P w) (cxOf CX P w K mg base N qual scope f cd A outer s₀ H₀ E) E := by
  subst hCX
  intro pins σ H s ex s' I h
  obtain ⟨e, C, od, H', rfl, ho, hg, un, hok, hfr, ⟨hn, hu, a0, B, fl, hB⟩, q⟩ := h
  show wpAny (model P w) (A.deeper (envOfC qual scope s₀.heap.objs.size f cd)) (leaving (envOfC qual scope s₀.heap.objs.size f cd) (.ref e)) _ _ s'
  refine leaves_onD (L := s₀.heap.objs.size) I.ok.frames rfl fl fun h2 fl2 up => ?_
  obtain ⟨hp, g, d, t, os⟩ := s'
  have ho : os = s.os := ho
  subst ho
  exact fly_out (s := s) (g := g) (d := d) (t := t) I un hok hfr hg hn hu hB fl.1.1 fl2 up q
/-- an exception made in this frame -/
theorem raise_here {CX : CXT} (hCX : CX = CXE P w) {pins : List (Addr × Obj)} {σ : St} {H : Hp} {s : Shared} {e C : Addr} {h1 : Heap} {vs : List Value} (I : Inv (cxOf CX P w K mg base N qual scope f cd A outer s₀ H₀ E) pins σ H s)
    (mx : Heap.MadeExcOf s.heap h1 e (.ref C) vs) (q : E (.ref C) none H) : (cxOf CX P w K mg base N qual scope f cd A outer s₀ H₀ E).xe (.ref e) { s with heap := h1 } := by
  subst hCX
  show wpAny (model P w) (A.deeper (envOfC qual scope s₀.heap.objs.size f cd)) (leaving (envOfC qual scope s₀.heap.objs.size f cd) (.ref e)) _ _ _
  have hin : ∀ env ∈ (cxOf (CXE P w) P w K mg base N qual scope f cd A outer s₀ H₀ E).stack, ∀ b, env.frame = some b → b ∈ frs (cxOf (CXE P w) P w K mg base N qual scope f cd A outer s₀ H₀ E).stack := fun env he b hb => List.mem_filterMap.mpr ⟨env, he, hb⟩
  refine leaves_madeD (L := s₀.heap.objs.size) (s := { s with heap := h1 }) (B := PySem.W.hideAll s.heap (frs (cxOf (CXE P w) P w K mg base N qual scope f cd A outer s₀ H₀ E).stack)) I.ok.frames rfl (fun b o z => PySem.W.of_hideAll _ z) (PySem.W.funFrames_hide I.stack hin) mx fun h2 tt fl2 up => ?_
  have hBh : (PySem.W.hideAll s.heap (frs (cxOf (CXE P w) P w K mg base N qual scope f cd A outer s₀ H₀ E).stack)).StaysIn h1 := fun b o z => mx.keeps b o (PySem.W.of_hideAll _ z)
  refine fly_out (s := s) (g := s.gens) (d := s.drawn) (t := s.toks) I (Un.kept mx.keeps) (I.hok.kept mx.keeps) I.stkFree I.bare mx.new ?_ (fun b o z y => ?_) hBh fl2 up q
  · cases y : H e with
    | none => rfl
    | some v =>
      obtain ⟨o, z⟩ := (I.hok e v y).there
      rw [mx.new] at z; cases z
  · by_cases hf : b ∈ frs (cxOf (CXE P w) P w K mg base N qual scope f cd A outer s₀ H₀ E).stack
    · exact .inr (.inl hf)
    · cases z2 : s.heap.get? b with
      | some o2 =>
        rw [PySem.W.hideAll_get _ z2 hf] at y
        cases y
      | none =>
        refine .inr (.inr ⟨rfl, ?_⟩)
        cases y2 : H b with
        | none => rfl
        | some v =>
          obtain ⟨o, z3⟩ := (I.hok b v y2).there
          rw [z2] at z3; cases z3
end
/-! ### raise C(..), C an own class over ValueError without an __init__ -/
abbrev veMro : List Value := [.type "ValueError", .type "Exception", .type "BaseException", .type "object"]
structure Exc (K : PySem.W.Frag) (mg : Str → Option Value) (x : Str) (C : Addr) : Prop where
  at_ : mg x = some (.ref C)
  ex : PySem.W.excIn K C veMro "ValueError.__new__" = true
theorem exc_obj {K : PySem.W.Frag} {h : Heap} {C : Addr} {bB : List Value} {nid : String} (X : K.In h) (q : PySem.W.excIn K C bB nid = true) :
    ∃ bm N nm qn bs hdct sn sub ab col dd k0 k1 k2 k3 k5 mN, h.get? C = some (excClassObj nm qn C N bs bm hdct sn sub ab col dd k0 k1 k2 k3 k5 nid) ∧ h.Ns N mN ∧ mN "__init__" = none ∧ OwnTail h bB bm := by
  unfold PySem.W.excIn at q
  split at q
  case h_2 => exact Bool.noConfusion q
  case h_1 d1 c1 l1 look =>
    split at q
    case h_2 => exact Bool.noConfusion q
    case h_1 C2 m2 r0 r1 r2 r3 nn r5 eqm eqs =>
      simp only [Bool.and_eq_true, beq_iff_eq, Bool.not_eq_true'] at q
      obtain ⟨⟨⟨⟨⟨w1, w2⟩, w3⟩, w4⟩, w5⟩, w6⟩ := q
      subst w1 w2
      obtain ⟨x1, x2, x3, x4, x5, x6, x7, x8, x9, x10, x11⟩ := c1
      dsimp only at eqm w3 w5 w6
      subst eqm w3
      have l2 : l1 = #[r0, r1, r2, r3, some (.builtin nn), r5] := by
        have := congrArg List.toArray eqs
        simpa using this
      subst l2
      exact ⟨m2, x4, x1, x5, x2, x6, x7, x8, x9, x10, d1, r0, r1, r2, r3, r5, h.nsMap x4, X _ _ look, .of_isNs (PySem.W.isNs_of_in X w5), PySem.W.nsMap_none_of_in X w5 w6, PySem.W.tail_of_in X w4⟩
theorem tail_base {h : Heap} {l : List Value} (t : OwnTail h veMro l) : l.contains (.type "BaseException") = true := by
  induction t with
  | base => decide
  | own _ _ _ _ ih => rw [List.contains_cons, ih, Bool.or_true]
def tRaise (C : Addr) (E : XK) (t : TA) : TS := fun _ σ H => t σ H fun vs H1 => vs.length ≤ sizeLine ∧ E (.ref C) none H1
section
variable {P : Program} {w : World} {K : PySem.W.Frag} {mg : Str → Option Value} {base : Heap} {N : List Str} {qual : Str} {scope : Scope} {f : Addr} {cd : Value} {A : Around} {outer : List Env} {s₀ : Shared} {H₀ : Hp} {E : XK}
theorem ps_raise {x : Str} {C : Addr} {np cpos pos : Pos} {a : Expr} {as : List Expr} {t : TA} (X : Exc K mg x C) (hg : Gl (cxOf (CXE P w) P w K mg base N qual scope f cd A outer s₀ H₀ E) x) (ha : PA (cxOf (CXE P w) P w K mg base N qual scope f cd A outer s₀ H₀ E) (a :: as) t)
    (hdb : (x == ("__debug__" : Str)) = false := by decide)
    (he : starEach (a :: as) (cxOf (CXE P w) P w K mg base N qual scope f cd A outer s₀ H₀ E).env = (false, eval a (cxOf (CXE P w) P w K mg base N qual scope f cd A outer s₀ H₀ E).env) :: starEach as (cxOf (CXE P w) P w K mg base N qual scope f cd A outer s₀ H₀ E).env := by rfl)
    (hpl : (backTo cpos (starEach as (cxOf (CXE P w) P w K mg base N qual scope f cd A outer s₀ H₀ E).env)).any (·.1) = false := by rfl) :
    PS (cxOf (CXE P w) P w K mg base N qual scope f cd A outer s₀ H₀ E) (.Raise (some (.Call (.Name x np) (a :: as) [] cpos)) none pos) (tRaise C E t) := by
  intro pins s σ H D I h
  obtain ⟨bm, Nn, nm, qn, bs, hdct, sn, sub, ab, col, dd, k0, k1, k2, k3, k5, mN, hC, hN, hni, hT⟩ := exc_obj I.ok.mod.kin X.ex
  refine wpAny_Raise_call_subT (C := C) (N := Nn) (nm := nm) (q := qn) (bs := bs) (bm := bm) (hdct := hdct) (sn := sn) (sub := sub) (ab := ab) (col := col) (dd := dd) (k0 := k0) (k1 := k1) (k2 := k2) (k3 := k3) (k5 := k5) (mN := mN) F.excBase_ValueError (tail_base hT) (I.ok.hd rfl) ?_ hni ?_
  · rw [he]
    show ((false || (backTo cpos (starEach as _)).any (·.1))) = false
    rw [hpl]
    rfl
  · refine ld_glob I hg X.at_ ⟨rfl, ?_⟩ hdb
    have hs := ha cpos pins s σ H _ I h
    rw [he] at hs ⊢
    refine Calls.evalArgs_plain (thn hs fun us s1 ⟨vs, H1, I1, r, hl, q⟩ => ⟨rfl, ?_, I1.bk _ _ hC, hN.keeps I1.bk, hT.keeps I1.bk, fun h1 e mx => ?_⟩)
    · have := r.length
      show us.length ≤ sizeLine
      omega
    · exact raise_here rfl I1 mx q
end
end L2
namespace L2
open PySem PySem.Spec PyProof.Rows
/-! ### the same state, under another wish, within an except suite or not -/
def Cx.re (X : Cx) (A' : Around) (c : Bool) (xe' : Value → Shared → Prop) : Cx := { X with A := A', calm := c, xe := xe' }
section
variable {X : Cx} {pins : List (Addr × Obj)} {σ : St} {H : Hp} {s : Shared} {A' : Around} {c : Bool} {xe' : Value → Shared → Prop}
theorem Inv.re (I : Inv X pins σ H s) (hf : A'.frames = some X.stack) (hh : c = true → A'.handled = none) : Inv (X.re A' c xe') pins σ H s :=
  ⟨⟨I.ok.mod, I.ok.kind, I.ok.glob, I.ok.blt, I.ok.above, I.ok.inj, I.ok.has, I.ok.cab, hh, hf, I.ok.stk, I.ok.exf, I.ok.bs, I.ok.bsz, I.ok.noex, I.ok.exfs, I.ok.funs, I.ok.frf⟩, I.os, I.bare, I.base, I.loc, I.cell, I.free, I.freeC, I.pin, I.hok, I.len⟩
theorem Inv.unre (ok : X.Ok) (I : Inv (X.re A' c xe') pins σ H s) : Inv X pins σ H s := ⟨ok, I.os, I.bare, I.base, I.loc, I.cell, I.free, I.freeC, I.pin, I.hok, I.len⟩
end
/-! ### where an exception lands -/
section
variable {X : Cx} {pins : List (Addr × Obj)} {σ : St} {H H' : Hp} {s s' : Shared} {e C : Addr} {B h1 h2 : Heap}
theorem un_land (I : Inv X pins σ H s) (un : Un (frs X.stack) [] H H' s.heap h1) (hB : ∀ b o, h1.get? b = some o → B.get? b = none → b = e ∨ b ∈ frs X.stack ∨ (s.heap.get? b = none ∧ H' b = none)) (hBh : B.StaysIn h1) (st : B.StaysIn h2) (up : h1.UpToSlots h2)
    (hn : s.heap.get? e = none) : Un (frs X.stack) [] H H' s.heap h2 := by
  have fz : ∀ b ∈ frs X.stack, ∀ o, h1.get? b = some o → ∃ sl, h2.get? b = some { o with slots := sl } := fun b hb o z => by
    refine up b o z fun vs y => ?_
    obtain ⟨_, o', ho', hd⟩ := I.stack.mem hb
    obtain ⟨sl, z2⟩ := un.any ho' (I.stkFree b hb) (by simp)
    rw [z] at z2
    cases z2
    exact hd vs y
  refine ⟨fun b o z n nf nx => ?_, fun b o z n nf nx => ?_, un.free, fun b o z nx => ?_, un.tups, un.frzs, un.tbls⟩
  · have z1 := un.keep b o z n nf nx
    cases y : B.get? b with
    | some o' =>
      have := hBh b o' y
      rw [z1] at this
      cases this
      exact st b o y
    | none =>
      rcases hB b o z1 y with r | r | r
      · rw [r, hn] at z; cases z
      · exact absurd r nf
      · rw [r.1] at z; cases z
  · obtain ⟨sl, z1⟩ := un.slot b o z n nf nx
    obtain ⟨sl2, z2⟩ := fz b nf _ z1
    exact ⟨sl2, z2⟩
  · obtain ⟨o1, z1⟩ := un.there b o z nx
    cases y : B.get? b with
    | some o' => exact ⟨o', st b o' y⟩
    | none =>
      rcases hB b o1 z1 y with r | r | r
      · rw [r, hn] at z; cases z
      · obtain ⟨sl, z3⟩ := fz b r o1 z1
        exact ⟨_, z3⟩
      · rw [r.1] at z; cases z
/-- an exception of the class at C -/
def IsExc (e C : Addr) (od : Option Addr) (h : Heap) : Prop := ∃ o vs, h.get? e = some o ∧ o.cls = .ref C ∧ o.data = .fields vs ∧ o.dict = od
def excO (e C : Addr) (od : Option Addr) : HO := .ext (IsExc e C od)
theorem isExc_stays {od : Option Addr} {h1 h2 : Heap} (x : IsExc e C od h1) (k : ∀ o, h1.get? e = some o → h2.get? e = some o) : IsExc e C od h2 := let ⟨o, vs, e1, r⟩ := x; ⟨o, vs, k o e1, r⟩
/-- the exception is tracked from now on; it was not there at s -/
theorem Inv.track {od : Option Addr} (I0 : Inv X pins σ H s) (hex : X.ex = []) (hn0 : s.heap.get? e = none) (I : Inv X pins σ H' s') (hu : H' e = none) (he : IsExc e C od s'.heap) : Inv X pins σ (upd H' e (excO e C od)) s' := by
  have nl : X.env.locals ≠ e := fun z => by
    obtain ⟨m, ⟨o, _, _, ho, _⟩, _⟩ := I0.loc
    rw [z, hn0] at ho; cases ho
  have nc : ∀ x c, X.env.cells.lookup x = some c → c ≠ e := fun x c q z => by
    obtain ⟨v, o, ho, _⟩ := I0.cell x c q
    rw [z, hn0] at ho; cases ho
  have np : ∀ p ∈ X.pn ++ pins, p.1 ≠ e := fun p hp z => by
    have := (I0.pin p hp).1
    rw [z, hn0] at this; cases this
  have n0 : ∀ b o, X.s₀.heap.get? b = some o → b ≠ e := fun b o q z => by
    subst z
    obtain ⟨o', q'⟩ := I0.base.there b o q (by rw [hex]; simp)
    rw [hn0] at q'; cases q'
  have nt : ∀ {b : Addr} {u : HO}, H' b = some u → b ≠ e := fun q => ne_of_none q hu
  refine ⟨I.ok, I.os, I.bare, ⟨I.base.keep, I.base.slot, fun b o q n nx => ?_, I.base.there, fun b xs q => ?_, fun b o u q => ?_, fun b ps q => ?_⟩, I.loc, I.cell, ?_, fun x c q => ?_, fun p hp => ?_, fun b u q => ?_, I.len⟩
  · rw [upd_ne (n0 b o q)]; exact I.base.free b o q n nx
  · have := I.base.tups b xs q; rw [upd_ne (nt this)]; exact this
  · have := I.base.frzs b o u q; rw [upd_ne (nt this)]; exact this
  · obtain ⟨m, q'⟩ := I.base.tbls b ps q; exact ⟨m, by rw [upd_ne (nt q')]; exact q'⟩
  · rw [upd_ne nl]; exact I.free
  · rw [upd_ne (nc x c q)]; exact I.freeC x c q
  · obtain ⟨q1, q2, q3⟩ := I.pin p hp
    exact ⟨q1, by rw [upd_ne (np p hp)]; exact q2, q3⟩
  · by_cases hb : b = e
    · subst hb
      rw [upd_same] at q
      cases q
      obtain ⟨o, vs, he1, r⟩ := id he
      exact ⟨he, ⟨o, he1⟩, fun h1 h2 x k => isExc_stays x k⟩
    · rw [upd_ne hb] at q
      exact (I.hok b u q).stay (fun _ _ _ z => z) (fun c z => by rw [upd_ne (nt z)]; exact z) fun c xs z => by rw [upd_ne (nt z)]; exact z
/-- a name goes behind the suite -/
theorem unbind_ok {M : Model} {A : Around} {E : Value → Shared → Prop} {n : Str} {i : Nat} {pos : Pos} {Q : Unit → Shared → Prop} (I : Inv X pins σ H s) (hN : X.N.Nodup) (hi : X.N[i]? = some n) (hl : X.env.kindOf n = some .local)
    (h : ∀ s', Inv X pins (σ.set i none) H s' → Q () s') : wpAny M A (do bindName X.env n .none; unbindBehindTheSuite X.env n pos) Q E s := by
  obtain ⟨m, hn, hlk⟩ := id I.loc
  have hcls : (X.env.scope.kind == .class || (X.env.scope.kind == .module && X.env.locals != X.env.globals)) = false := by rw [I.ok.kind]; rfl
  have hiσ : i < σ.length := by rw [I.len]; exact (List.getElem?_eq_some_iff.mp hi).1
  have cne := I.cne
  refine wpAny_nameGoes_keeps hl hn hcls fun h' v hn' hs => ?_
  have old : ∀ b o, X.s₀.heap.get? b = some o → b ≠ X.env.locals := fun b o q => Nat.ne_of_lt (Nat.lt_of_lt_of_le (Heap.lt_size q) I.ok.above)
  refine h _ ⟨I.ok, I.os, I.bare, ⟨fun b o q n nf nx => ?_, fun b o q n nf nx => ?_, I.base.free, fun b o q nx => ?_, I.base.tups, I.base.frzs, I.base.tbls⟩, ⟨_, hn', fun j y v' e1 e2 e3 => ?_⟩, fun y c q => ?_, I.free, I.freeC, fun p hp => ?_, fun b u q => ?_, by simpa using I.len⟩
  · exact (hs.2 b (old b o q)).trans (I.base.keep b o q n nf nx)
  · obtain ⟨sl, z⟩ := I.base.slot b o q n nf nx
    exact ⟨sl, (hs.2 b (old b o q)).trans z⟩
  · obtain ⟨o', z⟩ := I.base.there b o q nx
    exact ⟨o', (hs.2 b (old b o q)).trans z⟩
  · by_cases hj : j = i
    · subst hj
      rw [List.getElem?_set_self hiσ] at e2
      cases e2
    · rw [List.getElem?_set_ne (Ne.symm hj)] at e2
      obtain ⟨u', r', q⟩ := hlk j y v' e1 e2 e3
      refine ⟨u', r', ?_⟩
      rcases q with ⟨k, z⟩ | ⟨k, c, z, z2⟩
      · refine .inl ⟨k, ?_⟩
        have : y ≠ n := fun w => hj (nodup_ix hN e1 (w ▸ hi))
        simp [this, z]
      · exact .inr ⟨k, c, z, z2.sameBut hs (cne y c z)⟩
  · obtain ⟨w', z⟩ := I.cell y c q
    exact ⟨w', z.sameBut hs (cne y c q)⟩
  · obtain ⟨q1, q2, q3, q4, q5⟩ := I.pin p hp
    exact ⟨(hs.2 p.1 q3).trans q1, q2, q3, q4, q5⟩
  · refine (I.hok b u q).stay (fun c w' hc z => (hs.2 c ?_).trans z) (fun _ z => z) fun _ _ z => z
    rintro rfl
    rcases hc with hc | hc
    · rw [← hc, I.free] at q; cases q
    · rw [I.free] at hc; cases hc
end
/-! ### judgements at one state of the names -/
def PSsAt (X : Cx) (pins : List (Addr × Obj)) (σ : St) (st : List Stmt) (t : TS) : Prop := ∀ (s : Shared) (H : Hp) (D : Ends), Inv X pins σ H s → t D σ H → wpAny (model X.prog X.w) X.A (execs st X.env) (SP X pins D) X.xe s
def PSAt (X : Cx) (pins : List (Addr × Obj)) (σ : St) (st : Stmt) (t : TS) : Prop := ∀ (s : Shared) (H : Hp) (D : Ends), Inv X pins σ H s → t D σ H → wpAny (model X.prog X.w) X.A (exec st X.env) (SP X pins D) X.xe s
def PEAt (X : Cx) (pins : List (Addr × Obj)) (σ : St) (e : Expr) (t : TE) : Prop := ∀ (s : Shared) (H : Hp) (Q : VK), Inv X pins σ H s → t σ H Q → wpAny (model X.prog X.w) X.A (eval e X.env) (EP X pins σ Q) X.xe s
def PassAt (CX : CXT) (X : Cx) (pins : List (Addr × Obj)) (σ : St) (E : XK) : Prop := ∀ (H : Hp) (s : Shared) (e : Value) (s' : Shared), Inv X pins σ H s → CX X.stack H s E e s' → X.xe e s'
section
variable {X : Cx} {pins : List (Addr × Obj)} {σ : St} {pos : Pos} {e : Expr} {te : TE} {t u : TS}
theorem PE.at (h : PE X e te) : PEAt X pins σ e te := fun s H Q I q => h pins s σ H Q I q
theorem PS.at {st : Stmt} (h : PS X st t) : PSAt X pins σ st t := fun s H D I q => h pins s σ H D I q
theorem ps_expr_at (he : PEAt X pins σ e te) (hs : swapsWith e none pos.line X.env = pure false := by rfl) : PSAt X pins σ (.Expr e pos) (tDrop te) := by
  intro s H D I h
  exact wpAny_Expr_any (thn (he s H _ I h) fun v s1 ⟨x, H1, I1, r1, q1⟩ => ⟨σ, H1, I1, q1⟩) I.quiet hs
theorem ps_if_at {c : Expr} {a b : List Stmt} {tc : TT} (hc : PT X c tc) (ha : PSsAt X pins σ a t) (hb : PSsAt X pins σ b u) : PSAt X pins σ (.If c a b pos) (tIfS tc t u) := by
  intro s H D I h
  refine wpAny_If (thn (hc pins s σ H _ I h) fun d s1 ⟨H1, I1, q1⟩ => ?_)
  cases d with
  | true => exact ha s1 H1 D I1 (by simpa using q1)
  | false => exact hb s1 H1 D I1 (by simpa using q1)
theorem pss_one_at {st : Stmt} (h1 : PSAt X pins σ st t) : PSsAt X pins σ [st] t := by
  intro s H D I h
  refine wpAny_execs_cons (thn (h1 s H D I h) fun f s1 q => ?_)
  cases f with
  | next => exact wpAny_execs_nil q
  | brk => exact q
  | cont => exact q
  | ret v => exact q
end
/-! ### callees that refuse -/
theorem passE0 {P : Program} {w : World} {X : Cx} : Passes (CXE P w) X E0 := fun _ _ _ _ _ _ _ h => by
  obtain ⟨_, _, _, _, _, _, _, _, _, _, _, z⟩ := h
  exact z.elim
structure CalE (P : Program) (w : World) (K : PySem.W.Frag) (mg : Str → Option Value) (base : Heap) (name : Str) (k : Nat) (ps : List Str) (sp : Sp) : Prop where
  ex : ∃ (f : Addr) (fd : FuncData), FnOk P w K mg base (CXE P w) k f fd ps sp ∧ Binds K fd ps [] ∧ mg name = some (.ref f) ∧ PySem.W.keepIn K (.ref f) = true
structure MthE (P : Program) (w : World) (K : PySem.W.Frag) (mg : Str → Option Value) (base : Heap) (C : Addr) (m : Str) (k : Nat) (ps : List Str) (sp : Sp) : Prop where
  ex : ∃ (f : Addr) (fd : FuncData), FnOk P w K mg base (CXE P w) k f fd ps sp ∧ Binds K fd ps [] ∧ Meth K C m f
  cl : Cls K C
structure MkrE (P : Program) (w : World) (K : PySem.W.Frag) (mg : Str → Option Value) (base : Heap) (name : Str) (C : Addr) (k : Nat) (ps : List Str) (sp : Sp) : Prop where
  ex : ∃ (f : Addr) (fd : FuncData), FnOk P w K mg base (CXE P w) k f fd ps sp ∧ Binds K fd ps [] ∧ Mk K C f ∧ mg name = some (.ref C)
section
variable {X : Cx} {k : Nat} {C : Addr} {ps : List Str} {sp : Sp} {name m : Str} {p pos apos : Pos} {e o : Expr} {es : List Expr} {ta : TE} {t : TA} {pl : Sem Bool} {E : XK} {pins : List (Addr × Obj)} {σ : St} {CX : CXT} {f : Addr} {fd : FuncData}
theorem pe_fnE (C : CalE X.prog X.w X.K X.mg X.base name k ps sp) (hr : Room k X.A) (hx : Passes (CXE X.prog X.w) X E) (ha : PA X (e :: es) t) (hg : Gl X name := by rfl) (hdb : (name == ("__debug__" : Str)) = false := by decide)
    (he : starEach (e :: es) X.env = (false, eval e X.env) :: starEach es X.env := by rfl) (hpl : (backTo pos (starEach es X.env)).any (·.1) = false := by rfl) : PE X (.Call (.Name name p) (e :: es) [] pos) (tCall sp [] E t) := by
  obtain ⟨f, fd, F, b, hm, hk⟩ := C.ex
  exact pe_call F hr hg hm hk b .nil hx ha hdb he hpl
theorem pe_mkE (M : MkrE X.prog X.w X.K X.mg X.base name C k ps sp) (hr : Room (k + 1) X.A) (hx : Passes (CXE X.prog X.w) X E) (ha : PA X (e :: es) t) (hg : Gl X name := by rfl) (hdb : (name == ("__debug__" : Str)) = false := by decide)
    (he : starEach (e :: es) X.env = (false, eval e X.env) :: starEach es X.env := by rfl) (hpl : (backTo pos (starEach es X.env)).any (·.1) = false := by rfl) : PE X (.Call (.Name name p) (e :: es) [] pos) (tMake C sp [] E t) := by
  obtain ⟨f, fd, F, b, M, hm⟩ := M.ex
  exact pe_make M F hr hg hm b .nil hx ha hdb he hpl
theorem pe_mtE (M : MthE X.prog X.w X.K X.mg X.base C m k ps sp) (hr : Room k X.A) (hx : Passes (CXE X.prog X.w) X E) (ho : PE X o ta) (ha : PA X (e :: es) t)
    (hst : starEach (e :: es) X.env = (false, eval e X.env) :: starEach es X.env := by rfl) (hpl : (backTo pos (starEach es X.env)).any (·.1) = false := by rfl)
    (ht : eval (.Call (.Attribute o m apos) (e :: es) [] pos) X.env = (do
      let ov ← eval o X.env
      standAt apos.atName
      let (f, first) ← holding [ov] (getMethod ov m pl)
      callWith pos f first (backTo pos (starEach (e :: es) X.env)) (backToKw pos (keywordEach [] X.env))) := by rfl) :
    PE X (.Call (.Attribute o m apos) (e :: es) [] pos) (tMeth C m sp [] E ta t) := by
  obtain ⟨f, fd, F, b, hm⟩ := M.ex
  exact pe_meth ho M.cl hm F hr b .nil hx ha hst hpl ht
/-- the callee runs, at one state of the names -/
theorem run_at {H : Hp} {s : Shared} {Q : VK} {us : List Value} {vs : List V} (F : FnOk X.prog X.w X.K X.mg X.base CX k f fd ps sp) (hr : Room k X.A) (hb : Binds X.K fd ps []) (hx : PassAt CX X pins σ E) (I : Inv X pins σ H s) (r : Vals vs us) (h : sp (vs ++ []) H Q E) :
    wpAny (model X.prog X.w) X.A (call (.ref f) us) (EP X pins σ Q) X.xe s := by
  have r2 : Vals (vs ++ []) (us ++ []) := r.append .nil
  have hl : (us ++ []).length = ps.length := by rw [← r2.length]; exact F.len _ _ _ _ h
  refine wpAny_call (codeAny_mono (F.run X.A X.stack s H ⟨us, []⟩ (us ++ []) (vs ++ []) Q E hr I.env0 (hb s us I.kIn hl) r2 h) fun r s' hq => ?_)
  cases r with
  | error e => exact hx H s e s' I hq
  | ok fl =>
    cases fl with
    | ret u => exact I.after hq
    | next => exact hq.elim
    | brk => exact hq.elim
    | cont => exact hq.elim
theorem pe_fn_at (C : CalE X.prog X.w X.K X.mg X.base name k ps sp) (hr : Room k X.A) (hx : PassAt (CXE X.prog X.w) X pins σ E) (ha : PA X (e :: es) t) (hg : Gl X name := by rfl) (hdb : (name == ("__debug__" : Str)) = false := by decide)
    (he : starEach (e :: es) X.env = (false, eval e X.env) :: starEach es X.env := by rfl) (hpl : (backTo pos (starEach es X.env)).any (·.1) = false := by rfl) : PEAt X pins σ (.Call (.Name name p) (e :: es) [] pos) (tCall sp [] E t) := by
  obtain ⟨f, fd, F, b, hm, hk⟩ := C.ex
  intro s H Q I h
  refine wpAny_Call_Name_kw (ld_glob I hg hm ?_ hdb)
  refine PySem.W.callWith_K (h₀ := X.base) I.ok.mod.kin hk (thn (ha pos pins s σ H _ I h) fun us s1 ⟨vs, H1, I1, r, q⟩ => ⟨I1.kIn, ?_⟩) he hpl
  exact run_at F hr b hx I1 r q
end
section
variable {X : Cx} {k : Nat} {C : Addr} {ps : List Str} {sp : Sp} {name : Str} {p pos : Pos} {e : Expr} {es : List Expr} {t : TA} {E : XK} {pins : List (Addr × Obj)} {σ : St}
theorem pe_mk_at (M : MkrE X.prog X.w X.K X.mg X.base name C k ps sp) (hr : Room (k + 1) X.A) (hx : PassAt (CXE X.prog X.w) X pins σ E) (ha : PA X (e :: es) t) (hg : Gl X name := by rfl) (hdb : (name == ("__debug__" : Str)) = false := by decide)
    (he : starEach (e :: es) X.env = (false, eval e X.env) :: starEach es X.env := by rfl) (hpl : (backTo pos (starEach es X.env)).any (·.1) = false := by rfl) : PEAt X pins σ (.Call (.Name name p) (e :: es) [] pos) (tMake C sp [] E t) := by
  obtain ⟨f, fd, F, hb, M, hm⟩ := M.ex
  intro s0 H0 Q I0 h0
  refine wpAny_Call_Name_kw (ld_glob I0 hg hm ?_ hdb)
  refine PySem.W.callWith_K (h₀ := X.base) I0.ok.mod.kin M.kp (thn (ha pos pins s0 σ H0 _ I0 h0) fun us s vs' => ?_) he hpl
  obtain ⟨vs, H, I, r, h⟩ := vs'
  refine ⟨I.kIn, ?_⟩
  have hq := h (s.heap.objs.size + 1) s.heap.objs.size (I.hok.fresh (Nat.le_succ _)) (I.hok.fresh (Nat.le_refl _)) (Nat.ne_of_lt (Nat.lt_succ_self _))
  have I2 := Inv.made (C := C) I
  have r2 : Vals (V.ref (s.heap.objs.size + 1) :: (vs ++ [])) (Value.ref (s.heap.objs.size + 1) :: (us ++ [])) := .cons rfl (r.append .nil)
  have hl : (Value.ref (s.heap.objs.size + 1) :: us ++ []).length = ps.length := by
    have e := r2.length
    rw [F.len _ _ _ _ hq] at e
    exact e.symm
  refine wpAny_call (make_map (f := f) I.kIn M.makes M.init (beq_iff_eq.mp M.fn) (codeAny_mono (F.run _ X.stack _ _ ⟨Value.ref (s.heap.objs.size + 1) :: us, []⟩ (Value.ref (s.heap.objs.size + 1) :: (us ++ [])) _ _ E (hr.make C us []) (I2.env0.make C us []) (by have z := hb _ (Value.ref (s.heap.objs.size + 1) :: us) I2.kIn hl; rwa [List.cons_append] at z) r2 hq) fun r s' hq' => ?_))
  cases r with
  | error e => exact hx _ _ e s' I2 hq'
  | ok fl =>
    cases fl with
    | ret u =>
      obtain ⟨v, H', I3, rv, ev, q3⟩ := I2.after hq'
      subst ev
      exact ⟨rv, ⟨V.ref (s.heap.objs.size + 1), H', I3, rfl, q3⟩⟩
    | next => exact hq'.elim
    | brk => exact hq'.elim
    | cont => exact hq'.elim
end
/-! ### try: .. except C0 as n: .. -/
def landW (X : Cx) (E : XK) (pins : List (Addr × Obj)) (σ : St) : Value → Shared → Prop := fun ex s1 => ∃ H0 s0, Inv X pins σ H0 s0 ∧ CXE X.prog X.w X.stack H0 s0 E ex s1
theorem land_pass {X : Cx} {E : XK} {pins : List (Addr × Obj)} {σ : St} : PassAt (CXE X.prog X.w) (X.wish (landW X E pins σ)) pins σ E := fun H s e s' I h => ⟨H, s, I.unwish, h⟩
def tTry (K : PySem.W.Frag) (i : Nat) (C0 : Value) (tb : XK → TS) (th : TS) : TS := fun D σ H => ∃ E : XK, tb E D σ H ∧ ∀ C od H' e, E (.ref C) od H' → H' e = none → PySem.W.exmOne K (.ref C) C0 = some true ∧
  th { nx := fun σ' H2 => D.nx (σ'.set i none) H2, rt := D.rt, bk := fun σ' H2 => D.bk (σ'.set i none) H2, ct := fun σ' H2 => D.ct (σ'.set i none) H2 } (σ.set i (some (.ref e))) (upd H' e (excO e C od))
section
variable {X : Cx} {i : Nat} {n x : Str} {C0 : Value} {np hpos pos : Pos} {body suite : List Stmt} {b0 : Stmt} {tb : XK → TS} {th : TS}
theorem mark_frames {A : Around} {v : Option Value} : (A.mark v).frames = A.frames := rfl
theorem ps_try (hst : X.stack = X.env :: X.outer) (hfr : X.env.frame = some X.env.locals) (hex : X.ex = []) (hN : X.N.Nodup) (hi : X.N[i]? = some n) (hl : X.env.kindOf n = some .local) (hg : Gl X x) (hm : X.mg x = some C0)
    (hb : ∀ E pins σ, PSsAt (X.wish (landW X E pins σ)) pins σ body (tb E)) (hs : ∀ e, PSs (X.re (X.A.mark (some (.ref e))) false fun _ _ => False) (b0 :: suite) th) (hdb : (x == ("__debug__" : Str)) = false := by decide) :
    PS X (.Try body [.ExceptHandler (some (.Name x np)) (some n) (b0 :: suite) hpos] [] [] pos) (tTry X.K i C0 tb th) := by
  intro pins s σ H D I h
  obtain ⟨E, hb1, hh⟩ := h
  refine wpAny_Try_except (wpAny_mono (hb E pins σ s H D (I.wish _) hb1) (fun f s1 q => ?_) fun ex s1 q => ?_)
  · have q := q.unwish
    cases f with
    | next => exact wpAny_execs_nil q
    | brk => exact q
    | cont => exact q
    | ret v => exact q
  · obtain ⟨H0, s0, I0, e, C, od, H', rfl, ho, hgn, un, hok, hfree, ⟨hn, hu, a0, B, fl, hB⟩, hE⟩ := q
    have fl' := fl
    rw [hst] at fl'
    refine looks_onD (by rw [I.ok.frames, hst]) hfr fl' fun h4 held4 up4 => ?_
    refine landsD held4 fun h5 fl5 up5 => ?_
    have inv : ∀ h6, B.StaysIn h6 → s1.heap.UpToSlots h6 → Inv X pins σ H' { s1 with heap := h6 } := fun h6 st up =>
      I0.call' (s' := { s1 with heap := h6 }) (ch := []) ho (un_land I0 un hB fl.1.1 st up hn) (hok_fly (n := s0.heap) (e := e) (outer := X.stack) hok st hu hfree hB fl.1.1) hgn (fun b z => absurd z (by simp))
    have I5 := inv h5 fl5.1.1 (up4.trans up5)
    refine wpAny_handleBy_cons (codeAny_handlers_test ?_) (by intro q; cases q)
    refine ld_glob (X := X.re (X.A.mark (some (.ref e))) false fun _ _ => False) (I5.re (by rw [mark_frames]; exact I.ok.frames) (by intro z; cases z)) hg hm ?_ hdb
    obtain ⟨hx, hth⟩ := hh C od H' e hE hu
    have LT : PySem.W.Looks (model X.prog X.w) h5 (typeOf (.ref e)) (.ref C) := by
      obtain ⟨ob, hob, hc⟩ := fl5.1.there
      exact hc ▸ (PySem.W.Looks.ld hob).andThen .now
    refine (PySem.W.exm_one I5.kIn LT hx).here ?_
    refine codeAny_handlers_suite_as ?_
    refine againD fl5 fun h6 fl6 up6 => ?_
    have I6 := inv h6 fl6.1.1 ((up4.trans up5).trans up6)
    obtain ⟨oe, ws, hoe, hoec, hoed, hodd⟩ := fl6.first
    have I6t := Inv.track I0 hex hn I6 hu ⟨oe, ws, hoe, hoec, hoed, hodd⟩
    have I6m : Inv (X.re (X.A.mark (some (.ref e))) false fun _ _ => False) pins σ (upd H' e (excO e C od)) { s1 with heap := h6 } := I6t.re (by rw [mark_frames]; exact I.ok.frames) (by intro z; cases z)
    refine store_ok (X := X.re (X.A.mark (some (.ref e))) false fun _ _ => False) (v := .ref e) I6m hN hi (.inl hl) rfl (fun s7 I7 => ?_) (.inr hl)
    refine wpAny_mono (hs e pins s7 _ _ _ I7 hth) (fun f s8 q8 => ?_) (fun _ _ z => z.elim)
    cases f with
    | next =>
      obtain ⟨σ8, H8, I8, q⟩ := q8
      exact unbind_ok (I8.unre I.ok) hN hi hl fun s9 I9 => ⟨_, H8, I9, q⟩
    | brk =>
      obtain ⟨σ8, H8, I8, q⟩ := q8
      exact unbind_ok (I8.unre I.ok) hN hi hl fun s9 I9 => ⟨_, H8, I9, q⟩
    | cont =>
      obtain ⟨σ8, H8, I8, q⟩ := q8
      exact unbind_ok (I8.unre I.ok) hN hi hl fun s9 I9 => ⟨_, H8, I9, q⟩
    | ret v =>
      obtain ⟨v8, σ8, H8, I8, r8, q⟩ := q8
      exact unbind_ok (I8.unre I.ok) hN hi hl fun s9 I9 => ⟨v8, _, H8, I9, r8, q⟩
end
/-! ### a def that may refuse -/
section
variable {P : Program} {w : World} {K : PySem.W.Frag} {mg : Str → Option Value} {base : Heap}
theorem Fun.okE {x qual : Str} {st : Stmt} {f : Addr} {fd : FuncData} {N ps : List Str} {k : Nat} {sp : Sp} (F : Fun K x qual st f fd) (S : FnScope N ps (defScope st)) (len : ∀ vs H Q E, sp vs H Q E → vs.length = ps.length)
    (hbody : ∀ (cdv : Value) (A : Around) (outer : List Env) (s : Shared) (H : Hp) (vs : List V) (Q : VK) (E : XK), Room k (A.deeper (envOfC qual (defScope st) s.heap.objs.size f cdv)) → sp vs H Q E →
      ∃ t, PSs (cxOf (CXE P w) P w K mg base N qual (defScope st) f cdv A outer s H E) (defBody st) t ∧ t { nx := fun _ H' => Q .non H', rt := Q } (start N vs) H) : FnOk P w K mg base (CXE P w) (k + 1) f fd ps sp := by
  obtain ⟨oc, od, kV, doc, pm, an, cdv, ct, osl, rfl, lk, hcd⟩ := F.ex
  exact fn_of lk hcd S len fun A outer s H vs Q E hr hsp => hbody cdv A outer s H vs Q E hr hsp
end
/-! ### a def that is called within an except suite -/
structure RoomU (k : Nat) (A : Around) : Prop where
  dp : A.depth + 3 * k + 5 < recursionLimit
  un : A.units + 16 * k + 200 < cLine
theorem Room.u {k : Nat} {A : Around} (r : Room k A) : RoomU k A := ⟨r.dp, r.un⟩
end L2
namespace L2
open PySem PySem.Spec PySem.W PyProof.Rows Builtin.Getset_descriptor
/-- what an own class over ValueError has -/
structure ExcK (K : PySem.W.Frag) (D : Addr) : Prop where
  ga : findIn K (.ref D) "__getattribute__" = some (some (.builtin "BaseException.__getattribute__"))
  gx : findIn K (.ref D) "__getattr__" = some none
  ca : findIn K (.ref D) "__class__" = some (some (.builtin "object.__class__"))
  sp : specialIn K (.builtin "object.__class__") "__get__" = some (some (.builtin "getset_descriptor.__get__"))
  tk : takesIn K (.builtin "object.__class__") = some true
  mo : mroIn K D (.type "object") = some true
  mb : mroIn K D (.type "BaseException") = some true
theorem ExcK.cl {K : PySem.W.Frag} {D : Addr} (Z : ExcK K D) : (clsIn K D).isSome = true := by
  obtain ⟨cd, a, _⟩ := Option.bind_eq_some_iff.mp Z.mo
  rw [a]
  rfl
section
variable {prog : Program} {w : World} {A : Around} {E : Value → Shared → Prop} {s : Shared} {K : PySem.W.Frag} {x D : Addr} {ox : Obj} {od0 : Option Obj} {od : Option Addr}
theorem find_exc {M : Model} {h : Heap} (Z : ExcK K D) (X : K.In h) : Looks M h (Builtin.ObjectAttr.find (.ref x) (.ref D) "__class__") (.bind (.builtin "getset_descriptor.__get__") (.builtin "object.__class__")) := by
  have L3 := looks_takesIn (M := M) X Z.tk
  refine (looks_findIn X Z.ca).andThen ((looks_specialIn X Z.sp).andThen ?_)
  exact (show Looks M h (Builtin.ObjectAttr.dataDescriptor? (some (.builtin "object.__class__")) (some (.builtin "getset_descriptor.__get__"))) (some (.builtin "getset_descriptor.__get__", .builtin "object.__class__")) from L3.andThen .now).andThen (Looks.tag .now)
theorem cls_get {R : Result → Shared → Prop} {tp : Value} (X : K.In s.heap) (L0 : Looks (model prog w) s.heap (typeOf (.ref x)) (.ref D)) (hm : mroIn K D (.type "object") = some true) (h : R (.ok (.ret (.ref D))) s) :
    codeAny (model prog w) A (.call (.builtin "getset_descriptor.__get__") ⟨[.builtin "object.__class__", .ref x, tp], []⟩) R s := by
  obtain ⟨hh, g, dr, t, os⟩ := s
  have L1 := looks_mroIn (M := model prog w) X hm
  refine codeAny_call_builtin KF.slot_gs.plain KF.entry_gs (KF.slot_gs.check _ _ _ _ _ _ _ _ KF.type_class (KF.args_gs _ _ _) ?_); unfold Builtin.«getset_descriptor.__get__» descrGet; rw [dga_obj]
  refine wpAny_bind (wpAny_pure ?_); unfold descrGetter descrCheckInstance descrNameAndClass isInstance; simp only [KF.owner_class]; repeat lk
  refine ⟨Code.quiet_builtin _ (by decide +kernel), codeAny_builtin KF.entry_class ?_⟩; unfold Builtin.«object.__class__» shownTypeOf; repeat lk
  exact h
theorem exc_class {Q : Option Value → Shared → Prop} (Z : ExcK K D) (X : K.In s.heap) (I : IsExc x D od s.heap) (h : Q (some (.ref D)) { s with toks := s.toks + 1 }) : wpAny (model prog w) A (getAttr? (.ref x) "__class__") Q E s := by
  obtain ⟨hh, g, d, t, os⟩ := s
  obtain ⟨ox, ws, hox, hoc, _⟩ := I
  have L0 : Looks (model prog w) hh (typeOf (.ref x)) (.ref D) := hoc ▸ (Looks.ld hox).andThen .now
  have L1 := looks_findIn (M := model prog w) X Z.ga
  have L2 := looks_findIn (M := model prog w) X Z.gx
  have LF := find_exc (M := model prog w) (x := x) Z X
  have LB := looks_mroIn (M := model prog w) X Z.mb
  unfold getAttr? getAttrBy? getAttrBy
  refine wpAny_bind (wpAny_mkText (wpAny_bind (wpAny_attempt (wpAny_holding (wpAny_bind (L0.at (wpAny_bind (L1.at ?_))))))))
  show wpAny _ _ (getAttrByItsOwn _ _ _ _ _ _) _ _ _
  unfold getAttrByItsOwn hookBefore
  refine wpAny_bind (L2.at (wpAny_bind (wpAny_attempt (wpAny_holding ?_))))
  show wpAny _ _ (boundAndCalled _ _ _) _ _ _
  unfold boundAndCalled
  refine wpAny_bind (wpAny_of_eq (F.excAttr_ValueError.ga.bind (.ref x)) ?_)
  show wpAny _ _ (call (.builtin "BaseException.__getattribute__") [.ref x, .str "__class__" t]) _ _ _
  refine wpAny_call (codeAny_call_builtin F.excAttr_ValueError.ga.plain F.entry_bexc_ga ?_)
  have hk : builtinKind "BaseException.__getattribute__" = some .slot := by decide +kernel
  have hsp : splitId "BaseException.__getattribute__" = some ("BaseException", "__getattribute__") := by decide +kernel
  simp only [checkBuiltinCall, hk, hsp]
  have ha := F.args_bexc_ga (.ref x) (.str "__class__" t)
  refine wpAny_bind ?_
  unfold isInstance
  iterate 4 lk
  refine wpAny_of_eq (a := ()) ?_ ?_
  · have ha' := ha
    unfold argsOk at ha'
    cases hsig : Manifest.signature? "BaseException.__getattribute__" with
    | none => rfl
    | some sig =>
      rw [hsig] at ha'
      exact ha'
  unfold Builtin.«object.__getattribute__»
  refine wpAny_bind (wpAny_pure ?_)
  refine wpAny_bind (wpAny_pure (wpAny_bind (L0.at (wpAny_bind (LF.at ?_)))))
  show wpAny _ _ (holding [Value.builtin "object.__class__"] (call (.builtin "getset_descriptor.__get__") [.builtin "object.__class__", .ref x, .ref D]) >>= ret) _ _ _
  refine wpAny_bind (wpAny_holding (wpAny_call (cls_get (s := ⟨hh, g, d, t + 1, os⟩) X L0 Z.mo (wpAny_pure ?_))))
  exact handed_on rfl (wpAny_pure h)
theorem kitx_exc (Z : ExcK K D) : KitX K (.ref x) (.ref D) (IsExc x D od) where
  ty := fun M h X p => by
    obtain ⟨ox, ws, hox, hoc, _⟩ := p
    exact hoc ▸ (Looks.ld hox).andThen .now
  it := fun M h X p => by
    obtain ⟨cd, hc⟩ := Option.isSome_iff_exists.mp Z.cl
    unfold clsIn at hc
    split at hc
    · rename_i c' d' cd' sl' ho
      intro A' Q' E' s' k q
      unfold isType loadHead; exact wpAny_bind (wpAny_loadPart (k _ _ (X _ _ ho)) (wpAny_pure q))
    · cases hc
  ne := fun h tp dd its n sl X htp => by
    obtain ⟨cd, hc⟩ := Option.isSome_iff_exists.mp Z.cl
    refine Bool.eq_false_iff.mpr fun q => ?_
    have e : D = tp := Value.ref.inj (beq_iff_eq.mp q)
    subst e
    unfold clsIn at hc
    split at hc
    · rename_i c' d' cd' sl' ho
      have z := (X _ _ ho).symm.trans htp
      cases z
    · cases hc
  ca := fun X p k => exc_class Z X p k
end
/-- isinstance(e, C) -/
def clsV : V → Value → Prop
  | .ty n, v => v = .type n
  | .ref a, v => v = .ref a
  | _, _ => False
def rIsX (K : PySem.W.Frag) : List V → Hp → VK → Prop := fun xs H Q => ∃ e C od c cv b, xs = [.ref e, c] ∧ H e = some (excO e C od) ∧ ExcK K C ∧ clsV c cv ∧ PySem.W.kitOne K (.ref C) cv = some b ∧ Q (.bl b) H
theorem call_isinstX {X : Cx} : CallR X (.builtin "isinstance") (rIsX X.K) := by
  intro pins s σ H xs us Q I r h
  obtain ⟨e, C, od, c, cv, b, rfl, he, Z, hcv, hk, q⟩ := h
  obtain ⟨u, w', rfl, ru, rw'⟩ := vals2 r
  cases (show u = Value.ref e from ru)
  have hw : w' = cv := by
    cases c <;> first | exact hcv.elim | exact (show w' = _ from rw').trans (show cv = _ from hcv).symm
  subst hw
  obtain ⟨p, _, _⟩ := (show ObjOk X.prog X.w H s.heap e (excO e C od) from I.hok e _ he)
  exact PySem.W.kia_one (kitx_exc Z) I.kIn p hk (fun z => nomatch z) fun tk => ⟨.bl b, H, I.tok tk, rfl, q⟩
theorem call_isinstXK (K : PySem.W.Frag) {X : Cx} (h : X.K = K := by rfl) : CallR X (.builtin "isinstance") (rIsX K) := by
  subst h
  exact call_isinstX
theorem b_ValueError : bootBuiltins "ValueError" = some (.type "ValueError") := by decide +kernel
end L2
namespace L2
open PySem PySem.Spec PyProof.Rows
theorem inv_big {X : Cx} {pins : List (Addr × Obj)} {σ : St} {H : Hp} {s : Shared} (I : Inv X pins σ H s) : sysModules < s.heap.objs.size :=
  Nat.lt_trans (by decide) (show mainGlobals < s.heap.objs.size from (I.mod.glob.keeps I.bk).lt)
def tDNew : TE := fun _ H Q => ∀ p, H p = none → Q (.ref p) (upd H p (.dK []))
theorem dict_new {P : Program} {w : World} {H : Hp} (h : Heap) (hb : sysModules < h.objs.size) : ObjOk P w H (h.push { cls := .type "dict", data := .dict #[] }) h.objs.size (.dK []) :=
  ⟨Nat.zero_le _, beq_eq_false_iff_ne.mpr (Ne.symm (Nat.ne_of_lt hb)), [], .nil, Heap.DictOf.new h⟩
theorem pe_dnew {X : Cx} {pos : Pos} : PE X (.Dict [] [] pos) tDNew := fun pins s σ H Q I h =>
  wpAny_Dict_empty ⟨.ref s.heap.objs.size, _, I.laid (a := s.heap.objs.size) (o := .dK []) (t' := s.toks) (fun _ _ q => Heap.get?_push_of_some _ q) (Nat.le_refl _) (dict_new s.heap (inv_big I)), rfl, h _ (I.hok.fresh (Nat.le_refl _))⟩
theorem r_dnew {σ : St} {H : Hp} {Q : VK} (h : ∀ p, H p = none → Q (.ref p) (upd H p (.dK []))) : tDNew σ H Q := h
end L2
end

section
set_option Elab.async false
set_option linter.all false
set_option maxRecDepth 100000
set_option maxHeartbeats 4000000
/-! Own errors over ValueError with an __init__ of their own. -/
namespace L2
open PySem PySem.Spec PySem.W PyProof.Rows
/-- the object of an exception that was made and does not fly -/
abbrev xObj (C t : Addr) (od : Option Addr) : Obj := { cls := .ref C, dict := od, data := .fields #[.ref t, .none, .none, .none, .bool false, .none] }
/-- what an own error C over W with an __init__ at f has -/
structure OwnX (K : PySem.W.Frag) (W C f : Addr) : Prop where
  wex : excIn K W veMro "ValueError.__new__" = true
  ob : ∃ nm qn N bs sn sub ab col dd k0 k1 k2 k3 k5, K.lookup C = some (excClassObj nm qn C N bs (.ref W :: veMro) true sn sub ab col dd k0 k1 k2 k3 k5 "ValueError.__new__")
  ini : findIn K (.ref C) "__init__" = some (some (.ref f))
  fn : typeIn K (.ref f) = some (.type "function")
  sa : findIn K (.ref C) "__setattr__" = some (some (.builtin "object.__setattr__"))
  pl : findIn K (.ref C) "place" = some none
section
variable {prog : Program} {w : World} {A : Around} {E : Value → Shared → Prop} {s : Shared} {K : PySem.W.Frag} {W C f e t : Addr} {od : Option Addr}
theorem own_tail {h : Heap} (X : K.In h) (q : excIn K W veMro "ValueError.__new__" = true) : OwnTail h veMro (.ref W :: veMro) := by
  obtain ⟨bm, N, nm, qn, bs, hdct, sn, sub, ab, col, dd, k0, k1, k2, k3, k5, mN, hC, hN, hni, hT⟩ := exc_obj X q
  exact .own hC hN hni .base
/-- WoodError.__init__(e, text) -/
theorem binit_call {v : Value} {Q : Value → Shared → Prop} (O : OwnX K W C f) (X : K.In s.heap) (he : s.heap.get? e = some (xObj C t od))
    (q : ∀ h' t', (∀ b o, b ≠ e → s.heap.get? b = some o → h'.get? b = some o) → h'.get? e = some (xObj C t' od) → Q .none { s with heap := h' }) : wpAny (model prog w) A (call (.builtin "ValueError.__init__") [.ref e, v]) Q E s := by
  obtain ⟨hh, g, d, tk, os⟩ := s
  obtain ⟨nm, qn, N, bs, sn, sub, ab, col, dd, k0, k1, k2, k3, k5, lk⟩ := O.ob
  have hC := X _ _ lk
  have T := own_tail X O.wex
  have B := PySem.F.excBase_ValueError
  refine wpAny_call (codeAny_call_builtin B.init.plain B.initEntry (wpAny_check_init_subT B T hC he rfl ?_))
  wp_walk
  refine q _ hh.objs.size (fun b o hb z => ?_) ?_
  · exact (Heap.get?_update_other _ _ (Ne.symm hb)).trans (Heap.get?_push_of_some _ z)
  · exact Heap.get?_update_self _ (Heap.get?_push_of_some _ he) rfl
/-- e.place = v -/
theorem own_store {v : Value} {Q : Unit → Shared → Prop} (O : OwnX K W C f) (Z : ExcK K C) (X : K.In s.heap) (he : s.heap.get? e = some (xObj C t none))
    (q : ∀ h' dx tk, (∀ b o, b ≠ e → s.heap.get? b = some o → h'.get? b = some o) → h'.get? e = some (xObj C t (some dx)) → dx ≠ e → s.heap.objs.size ≤ dx → h'.Ns1 dx (fun y => if y = "place" then some v else none) → Q () { s with heap := h', toks := tk }) :
    wpAny (model prog w) A (setAttr (.ref e) "place" v) Q E s := by
  obtain ⟨hh, g, d, tk, os⟩ := s
  have X : K.In hh := X
  have he : hh.get? e = some (xObj C t none) := he
  obtain ⟨nm, qn, N, bs, sn, sub, ab, col, dd, k0, k1, k2, k3, k5, lk⟩ := O.ob
  have SF := PySem.F.store_object
  have J : InstAt hh e (xObj C t none) C none := ⟨he, rfl, rfl, True.intro⟩
  have hc : clsIn K C = some ⟨nm, bs, .ref C :: .ref W :: veMro, N, qn, true, sn, sub, ab, col, false⟩ := by
    unfold clsIn
    rw [lk]
  have isO : Looks (model prog w) hh (isInstance (.ref e) (.type "object")) true := J.type.andThen (looks_mroIn X Z.mo)
  have hm : Looks (model prog w) hh (mroOf (.ref C)) (.ref C :: .ref W :: veMro) := (looks_clsIn X hc).andThen .now
  refine set_plain X J O.sa ?_
  refine codeAny_call_builtin SF.slot.plain SF.entry (@check_slot (model prog w) _ _ ⟨hh, g, d, tk + 1, os⟩ "object.__setattr__" "object" "__setattr__" (.ref e) [.str "place" tk, v] [] _ SF.kind SF.split isO (SF.args (.ref e) (.str "place" tk) v) ?_)
  rw [osa_eq, refuse_eq]
  refine wpAny_bind (wpAny_bind (J.type.here (wpAny_bind (hm.here ?_))))
  rw [refuseLoop_ref, refuseLoop_ref, show refuseLoop (.ref e) "__setattr__" veMro = pure () from PySem.F.store_ValueError.passes _]
  refine wpAny_pure (wpAny_bind (J.type.here (wpAny_bind ((looks_findIn X O.pl).here (wpAny_bind ?_)))))
  refine wpAny_pure ?_
  show wpAny _ _ (Builtin.ObjectAttr.storeInOwnDict (.ref e) (.ref C) (.str "place" tk) "place" v false) _ _ _
  have hcl := X _ _ lk
  have he1 : (hh.push emptyDict).get? e = some (xObj C t none) := Heap.get?_push_of_some _ he
  have hes : e ≠ hh.objs.size := Nat.ne_of_lt (Heap.lt_size he)
  refine wpAny_bind (wpAny_pure (wpAny_bind ?_))
  refine wpAny_bind (wpAny_loadPart he (wpAny_bind ((looks_clsIn X hc).here ?_)))
  show wpAny _ _ (do
    let d ← alloc { cls := Value.type "dict", data := Data.dict #[] }
    update e fun o => { cls := o.cls, dict := some d, data := o.data, slots := o.slots }
    dictMade (.ref C) e d) _ _ _
  refine wpAny_bind (wpAny_alloc' (wpAny_bind (wpAny_update' he1 (wpAny_pure ?_))))
  show wpAny _ _ (Builtin.ObjectAttr.storeInDict hh.objs.size (.str "place" tk) "place" v) _ _ _
  have hd2 : ((hh.push emptyDict).update e fun o => { cls := o.cls, dict := some hh.objs.size, data := o.data, slots := o.slots }).get? hh.objs.size = some emptyDict :=
    (Heap.get?_update_other _ _ hes).trans (Heap.get?_push_size hh rfl)
  have hn2 : ((hh.push emptyDict).update e fun o => { cls := o.cls, dict := some hh.objs.size, data := o.data, slots := o.slots }).Ns hh.objs.size (fun _ => none) := ⟨_, #[], _, hd2, rfl, (fun en hen => absurd hen (by simp)), fun _ => rfl⟩
  have he2 : ((hh.push emptyDict).update e fun o => { cls := o.cls, dict := some hh.objs.size, data := o.data, slots := o.slots }).get? e = some (xObj C t (some hh.objs.size)) := Heap.get?_update_self _ he1 rfl
  have hk2 : ∀ b o, b ≠ e → hh.get? b = some o → ((hh.push emptyDict).update e fun o => { cls := o.cls, dict := some hh.objs.size, data := o.data, slots := o.slots }).get? b = some o := fun b o hb z => (Heap.get?_update_other _ _ (Ne.symm hb)).trans (Heap.get?_push_of_some _ z)
  unfold Builtin.ObjectAttr.storeInDict Builtin.ObjectAttr.newKeyGuard
  refine wpAny_bind (wpAny_pure (wpAny_bind (wpAny_nsSet1 (Heap.Ns1.of_empty hn2) fun h' hn' hs => ?_)))
  obtain ⟨ob1, es1, ep1, at1, da1, ct1⟩ := hn'.count (Within.cons "place" v Within.nil)
  refine wpAny_bind (wpAny_lookBehind at1 (da1 ▸ pastItsLine_dict (Nat.le_trans ct1 (by decide))) ?_)
  refine wpAny_pure ?_
  refine q h' hh.objs.size _ (fun b o hb z => (hs.2 b (Nat.ne_of_lt (Heap.lt_size z))).trans (hk2 b o hb z)) ((hs.2 e hes).trans he2) (Ne.symm hes) (Nat.le_refl _) ?_
  obtain ⟨o', es, ep, e1, e2, e3, eu, e4⟩ := hn'
  exact ⟨o', es, ep, e1, e2, e3, eu, fun y => by rw [e4 y]⟩
/-- e.place -/
theorem own_place {v : Value} {o : Obj} {vs : Array Value} {dx : Addr} {mA : Str → Option Value} {Q : Value → Shared → Prop} (O : OwnX K W C f) (Z : ExcK K C) (X : K.In s.heap) (he : s.heap.get? e = some o) (hoc : o.cls = .ref C) (hod : o.data = .fields vs) (hdx : o.dict = some dx)
    (hn : s.heap.Ns1 dx mA) (hm : mA "place" = some v) (hh' : handedIn v = true) (q : ∀ tk, Q v { s with toks := tk }) : wpAny (model prog w) A (getAttr (.ref e) "place" true) Q E s := by
  obtain ⟨hh, g, d, tk, os⟩ := s
  have X : K.In hh := X
  obtain ⟨oc, odi, oda, osl⟩ := o
  dsimp only at hoc hod hdx
  subst hoc hod hdx
  obtain ⟨nm, qn, N, bs, sn, sub, ab, col, dd, k0, k1, k2, k3, k5, lk⟩ := O.ob
  have hc : clsIn K C = some ⟨nm, bs, .ref C :: .ref W :: veMro, N, qn, true, sn, sub, ab, col, false⟩ := by
    unfold clsIn
    rw [lk]
  have L0 : Looks (model prog w) hh (typeOf (.ref e)) (.ref C) := (Looks.ld he).andThen .now
  have L1 := looks_findIn (M := model prog w) X Z.ga
  have L2 := looks_findIn (M := model prog w) X Z.gx
  have LB := looks_mroIn (M := model prog w) X Z.mb
  have LP := looks_findIn (M := model prog w) X O.pl
  unfold getAttr getAttrBy
  refine wpAny_bind (wpAny_mkText (wpAny_holding (wpAny_bind (L0.at (wpAny_bind (L1.at ?_))))))
  show wpAny _ _ (getAttrByItsOwn _ _ _ _ _ _) _ _ _
  unfold getAttrByItsOwn hookBefore
  refine wpAny_bind (L2.at (wpAny_bind (wpAny_attempt (wpAny_holding ?_))))
  show wpAny _ _ (boundAndCalled _ _ _) _ _ _
  unfold boundAndCalled
  refine wpAny_bind (wpAny_of_eq (PySem.F.excAttr_ValueError.ga.bind (.ref e)) ?_)
  show wpAny _ _ (call (.builtin "BaseException.__getattribute__") [.ref e, .str "place" tk]) _ _ _
  refine wpAny_call (codeAny_call_builtin PySem.F.excAttr_ValueError.ga.plain PySem.F.entry_bexc_ga ?_)
  have kd : builtinKind "BaseException.__getattribute__" = some .slot := by decide +kernel
  have sp : splitId "BaseException.__getattribute__" = some ("BaseException", "__getattribute__") := by decide +kernel
  simp only [checkBuiltinCall, kd, sp]
  have ha := PySem.F.args_bexc_ga (.ref e) (.str "place" tk)
  refine wpAny_bind ?_
  unfold isInstance
  iterate 4 lk
  refine wpAny_of_eq (a := ()) ?_ ?_
  · unfold argsOk at ha
    cases hsig : Manifest.signature? "BaseException.__getattribute__" with
    | none => rfl
    | some sig =>
      rw [hsig] at ha
      exact ha
  unfold Builtin.«object.__getattribute__»
  refine wpAny_bind (wpAny_pure ?_)
  refine wpAny_bind (wpAny_pure (wpAny_bind (L0.at (wpAny_bind ?_))))
  refine wpAny_bind (LP.at ?_)
  refine wpAny_bind (wpAny_pure (wpAny_bind (wpAny_pure ?_)))
  show wpAny _ _ (Builtin.ObjectAttr.ownThenClass (.ref e) "place" none none) _ _ _
  unfold Builtin.ObjectAttr.ownThenClass Builtin.ObjectAttr.inOwnDict Builtin.ObjectAttr.ownDict
  refine wpAny_bind (wpAny_bind ?_)
  refine wpAny_bind ((Looks.ld he).at ?_)
  show wpAny _ _ (instanceDict e false) _ _ _
  refine wpAny_bind (wpAny_loadPart he (wpAny_bind ((looks_clsIn X hc).here (wpAny_pure ?_))))
  show wpAny _ _ (nsGet dx "place") _ _ _
  refine wpAny_nsGet hn.ns ?_
  rw [hm]
  refine wpAny_bind (wpAny_rule (wpAny_pure ?_))
  exact wpAny_pure (handed_on hh' (q _))
/-- C(..): made, then its __init__ -/
theorem own_call {rest : List Value} {Q : Value → Shared → Prop} (O : OwnX K W C f) (X : K.In s.heap) (hr : rest.length ≤ sizeLine)
    (q : ∀ h' e, Heap.MadeExcOf s.heap h' e (.ref C) rest → s.heap.objs.size ≤ e → wpAny (model prog w) (A.under (.builtin "type.__call__" ⟨.ref C :: rest, []⟩)) (call (.ref f) (.ref e :: rest)) (fun r s' => r = .none ∧ Q (.ref e) s') E { s with heap := h' }) :
    wpAny (model prog w) A (call (.ref C) rest) Q E s := by
  obtain ⟨hh, g, d, tk, os⟩ := s
  have X : K.In hh := X
  obtain ⟨nm, qn, N, bs, sn, sub, ab, col, dd, k0, k1, k2, k3, k5, lk⟩ := O.ob
  have hC : hh.get? C = _ := X _ _ lk
  have T := own_tail X O.wex
  have B := PySem.F.excBase_ValueError
  have f1 := tc_lookup
  have f2 := tc_bind (.ref C)
  have tC : (⟨hh, g, d, tk, os⟩ : Shared).TypeIs (.ref C) "type" := ⟨_, hC, rfl⟩
  refine wpAny_call (codeAny_of_tree ?_)
  show wpAny _ _ (callAny (.ref C) _) _ _ _
  repeat (any_goals (first | assumption | with_reducible refine wpAny_loadPart_at hC ?_ | wp_step))
  refine ⟨rfl, codeAny_call_builtin_at (Code.quiet_builtin _ (by decide +kernel)) entry_typeCall (wpAny_check_type_call_sub hC ?_)⟩
  repeat (first | with_reducible refine wpAny_loadPart_at hC ?_ | with_reducible refine wpAny_madeBy_exc hC ?_ | wp_step)
  refine codeAny_call_builtin_code (Code.quiet_builtin _ B.quiet) (wpAny_check_new_subT B T hC (codeAny_exc_new_subT B T hC ?_ hr))
  show wpAny _ _ _ _ _ _
  have hget : ((hh.push { cls := .type "tuple", data := .seq rest.toArray }).push (xObj C hh.objs.size none)).get? (hh.objs.size + 1) = some (xObj C hh.objs.size none) := by heap_get
  have kp : ∀ b o, hh.get? b = some o → ((hh.push { cls := .type "tuple", data := .seq rest.toArray }).push (xObj C hh.objs.size none)).get? b = some o := fun b o z => Heap.get?_push_of_some _ (Heap.get?_push_of_some _ z)
  have hC₁ := kp _ _ hC
  have hcC : (Value.ref C :: .ref W :: veMro).contains (.ref C) = true := by simp
  have X1 : K.In ((hh.push { cls := .type "tuple", data := .seq rest.toArray }).push (xObj C hh.objs.size none)) := fun b o z => kp b o (X b o z)
  have mx : Heap.MadeExcOf hh ((hh.push { cls := .type "tuple", data := .seq rest.toArray }).push (xObj C hh.objs.size none)) (hh.objs.size + 1) (.ref C) rest := by
    refine ⟨kp, Heap.get?_none_of_le (Nat.le_succ _), hh.objs.size, hget, Heap.get?_none_of_le (Nat.le_refl _), ?_⟩
    exact Heap.get?_push_of_some _ (Heap.get?_push_size hh rfl)
  have J : InstAt ((hh.push { cls := .type "tuple", data := .seq rest.toArray }).push (xObj C hh.objs.size none)) (hh.objs.size + 1) (xObj C hh.objs.size none) C none := ⟨hget, rfl, rfl, True.intro⟩
  unfold isInstance
  repeat (first | with_reducible refine wpAny_loadPart_at hget ?_ | (with_reducible refine wpAny_isSubtype_exc hC₁ ?_; rw [hcC]) | wp_step)
  refine wpAny_isSubtype_exc hC₁ ?_
  rw [hcC]
  rw [if_neg (by decide)]
  refine wpAny_bind (wpAny_holding (special_fn X1 J O.ini O.fn ?_))
  refine wpAny_mono (q _ _ mx (Nat.le_succ _)) (fun v s' z => ?_) fun _ _ z => z
  obtain ⟨rfl, z⟩ := z
  exact wpAny_pure z
end
end L2
end

section
set_option Elab.async false
set_option linter.all false
set_option maxRecDepth 100000
set_option maxHeartbeats 4000000
/-! Own errors with an __init__: the rules of the layer. -/
namespace L2
open PySem PySem.Spec PySem.W PyProof.Rows
/-- an exception while its __init__ is at work -/
def IsRaw (e C : Addr) (od : Option Addr) (h : Heap) : Prop := ∃ t, h.get? e = some (xObj C t od)
def rawX (e C : Addr) (od : Option Addr) : HO := .ext (IsRaw e C od)
theorem raw_ok {P : Program} {w : World} {H : Hp} {h : Heap} {e C : Addr} {od : Option Addr} (x : IsRaw e C od h) : ObjOk P w H h e (rawX e C od) :=
  ⟨x, let ⟨_, z⟩ := x; ⟨_, z⟩, fun _ _ ⟨t, z⟩ k => ⟨t, k _ z⟩⟩
structure BaseX (K : PySem.W.Frag) (mg : Str → Option Value) (x : Str) (W : Addr) : Prop where
  at_ : mg x = some (.ref W)
  ga : specialIn K (.ref W) "__getattribute__" = some (some (.builtin "type.__getattribute__"))
  rd : readsIn K W (.type "type") = true
  ini : findCls K (.ref W) (.type "type") "__init__" = some (.val (.builtin "ValueError.__init__"))
theorem upd_id {H : Hp} {e : Addr} {o : HO} (h : H e = some o) : upd H e o = H := by
  funext b
  by_cases hb : b = e
  · subst hb; rw [upd_same, h]
  · rw [upd_ne hb]
section
variable {X : Cx} {x : Str} {W C f : Addr} {np apos pos p1 p2 pos' : Pos} {a o e value : Expr} {as : List Expr} {t : TA} {te ta tv : TE} {pl : Sem Bool}
/-- WoodError.__init__(self, text) -/
def tBinit (K : PySem.W.Frag) (W : Addr) (t : TA) : TE := fun σ H Q => t σ H fun vs H1 => ∃ e C f od z, vs = [.ref e, .str z] ∧ H1 e = some (rawX e C od) ∧ OwnX K W C f ∧ Q .non H1
theorem pe_binit (B : BaseX X.K X.mg x W) (hg : Gl X x) (ha : PA X (a :: as) t) (hdb : (x == ("__debug__" : Str)) = false := by decide)
    (he : backTo pos (starEach (a :: as) X.env) = (false, eval a X.env) :: backTo pos (starEach as X.env) := by rfl) (hpl : (backTo pos (starEach (a :: as) X.env)).any (·.1) = false := by rfl)
    (ht : eval (.Call (.Attribute (.Name x np) "__init__" apos) (a :: as) [] pos) X.env = (do
      let ov ← eval (.Name x np) X.env
      standAt apos.atName
      let (f, first) ← holding [ov] (getMethod ov "__init__" pl)
      callWith pos f first (backTo pos (starEach (a :: as) X.env)) (backToKw pos (keywordEach [] X.env))) := by rfl) :
    PE X (.Call (.Attribute (.Name x np) "__init__" apos) (a :: as) [] pos) (tBinit X.K W t) := by
  intro pins s σ H Q I h
  refine methodCall_KW (ld_glob I hg B.at_ ?_ hdb) ht
  refine method_cls I.kIn B.ga (cls_value I.kIn B.rd B.ini rfl ?_)
  refine Calls.callWith_builtin hpl ?_
  have hs := ha pos pins _ σ H _ (I.tok (s.toks + 1)) h
  rw [he] at hs ⊢
  refine Calls.evalArgs_plain (thn hs fun us s1 ⟨vs, H1, I1, r, e, C, f, od, z, ev, hx, O, q⟩ => ?_)
  subst ev
  obtain ⟨u, u2, rfl, ru, ru2⟩ := vals2 r
  obtain rfl : u = Value.ref e := ru
  obtain ⟨⟨t0, h0⟩, _, _⟩ := (show ObjOk X.prog X.w H1 s1.heap e (rawX e C od) from I1.hok e _ hx)
  refine binit_call O I1.kIn h0 fun h' t' hk he' => ⟨.non, H1, ?_, rfl, q⟩
  have z := I1.write (x := e) (e := e) (o := rawX e C od) (h' := h') (t' := s1.toks) (by rw [hx]; exact True.intro) (.inl rfl) hk ⟨_, he'⟩ (raw_ok ⟨t', he'⟩)
  rw [upd_id hx] at z
  exact z
/-- a text with one number in it -/
def tFstr (te : TE) : TE := fun σ H Q => te σ H fun v H1 => ∃ i : Int, v = .int i ∧ i.natAbs < 10 ^ 12 ∧ ∀ z, Q (.str z) H1
theorem log_small {n : Nat} (h : n < 10 ^ 12) : n.log2 < 1920 := by
  have : n.log2 < 40 := by
    by_cases h0 : n = 0
    · subst h0; decide
    · exact (Nat.log2_lt h0).mpr (Nat.lt_of_lt_of_le h (by decide))
  omega
theorem pe_fstr {c : Str} {j : Nat} (hc : c.length ≤ 1000) (he : PE X e te) : PE X (.JoinedStr [.Constant (.str c) j p1, .FormattedValue e (-1) none p2] pos) (tFstr te) := by
  intro pins s σ H Q I h
  have sl : 2000 ≤ sizeLine := by decide
  refine JoinedStr_many (joinParts_cons (Calls.Constant_str ⟨?_, joinParts_cons (FormattedValue_plain (thn (he pins _ σ H _ (I.tok _) h) fun u s1 ⟨v, H1, I1, r, i, ev, hi, q⟩ => ?_))⟩))
  · rw [strLen_append]
    show 0 + c.length ≤ _
    omega
  · subst ev
    obtain ⟨tk, rfl⟩ := r
    have hl := int_text_length_le10 (k := 12) (by decide) hi
    have hz : (Str.empty ++ c ++ (Str.ofString (toString i))).length ≤ sizeLine := by
      rw [strLen_append, strLen_append]
      show 0 + c.length + _ ≤ _
      have : (Str.ofString (toString i)).length ≤ 13 := by rw [PySem.ofString_length]; exact hl
      omega
    refine formatField_int_small (log_small hi) ⟨hz, joinParts_nil ⟨.str _, H1, I1.tok _, ⟨_, rfl⟩, q _⟩ hz⟩
/-- self.place = v -/
def sPlace (K : PySem.W.Frag) (ta tv : TE) : TS := fun D σ H => tv σ H fun y H1 => ta σ H1 fun x H2 => ∃ e W C f, x = .ref e ∧ H2 e = some (rawX e C none) ∧ OwnX K W C f ∧ ExcK K C ∧
  ∀ dx, H2 dx = none → D.nx σ (upd (upd H2 dx (.xd [("place", y)])) e (rawX e C (some dx)))
theorem ps_place (ha : PE X o ta) (hv : PE X value tv) (hs : swapsWith value (some (.Attribute o "place" pos')) pos.line X.env = pure false := by rfl) : PS X (.Assign [.Attribute o "place" pos'] value pos) (sPlace X.K ta tv) := by
  intro pins s σ H D I h
  refine plainObj_wpAny_Assign_Attribute (thn (hv pins s σ H _ I h) fun u s1 ⟨y, H1, I1, ry, q⟩ => thn (ha pins s1 σ H1 _ I1 q) fun ov s2 ⟨x, H2, I2, rx, e, W, C, f, ex, hx, O, Z, q2⟩ => ?_) hs
  subst ex
  obtain rfl : ov = Value.ref e := rx
  obtain ⟨⟨t0, h0⟩, _, _⟩ := (show ObjOk X.prog X.w H2 s2.heap e (rawX e C none) from I2.hok e _ hx)
  refine own_store O Z I2.kIn h0 fun h' dx tk hk he' hne hsz hn => ⟨σ, _, ?_, q2 dx (I2.hok.fresh hsz)⟩
  have fr := I2.hok.fresh hsz
  have nb : ∀ b ob, s2.heap.get? b = some ob → b ≠ dx := fun b ob z => Nat.ne_of_lt (Nat.lt_of_lt_of_le (Heap.lt_size z) hsz)
  have nt : ∀ {b : Addr} {u : HO}, H2 b = some u → b ≠ dx := fun z => ne_of_none z fr
  have ne : ∀ {b : Addr}, H2 b = none → b ≠ e := fun z y => by rw [y, hx] at z; cases z
  have mv : ∀ {b : Addr}, b ≠ e → b ≠ dx → upd (upd H2 dx (.xd [("place", y)])) e (rawX e C (some dx)) b = H2 b := fun z z2 => by rw [upd_ne z, upd_ne z2]
  have xt : ∀ {b : Addr} {u : HO}, H2 b = some u → u ≠ rawX e C none → b ≠ e := fun z n y => by rw [y, hx] at z; cases z; exact n rfl
  refine I2.un (t' := tk) ⟨fun b ob z n _ _ => hk b ob (ne n) z, fun b ob z n _ _ => ⟨ob.slots, hk b ob (ne n) z⟩, fun b ob z n _ => by rw [mv (ne n) (nb b ob z)]; exact n, fun b ob z _ => ?_, fun b xs z => ?_, fun b ob u z => ?_, fun b ps z => ?_⟩ fun b ob z => ?_
  · by_cases hb : b = e
    · subst hb; exact ⟨_, he'⟩
    · exact ⟨ob, hk b ob hb z⟩
  · rw [mv (xt z (by intro y; cases y)) (nt z)]; exact z
  · rw [mv (xt z (by intro y; cases y)) (nt z)]; exact z
  · exact ⟨#[], by rw [mv (xt z (by intro y; cases y)) (nt z)]; simpa using z⟩
  · by_cases hb : b = e
    · subst hb
      rw [upd_same] at z
      cases z
      exact raw_ok ⟨t0, he'⟩
    · rw [upd_ne hb] at z
      by_cases hb2 : b = dx
      · subst hb2
        rw [upd_same] at z
        cases z
        refine ⟨_, hn, fun f => ?_⟩
        by_cases hf : f = "place"
        · subst hf
          simpa [RelO] using ry
        · have : List.lookup f [(("place" : Str), y)] = none := by
            rw [List.lookup, show (f == ("place" : Str)) = false from beq_eq_false_iff_ne.mpr hf]
            rfl
          rw [this]
          simp [RelO, hf]
      · rw [upd_ne hb2] at z
        refine (I2.hok b ob z).stay (fun c w' hc y => hk c w' ?_ y) (fun c y => ?_) fun c xs y => ?_
        · rcases hc with rfl | hc
          · exact hb
          · exact xt hc (by intro y; cases y)
        · rw [mv (xt y (by intro y; cases y)) (nt y)]; exact y
        · rw [mv (xt y (by intro y; cases y)) (nt y)]; exact y
/-- e.place of a caught error -/
def tPlace (K : PySem.W.Frag) (te : TE) : TE := fun σ H Q => te σ H fun x H1 => ∃ e W C f dx fs i, x = .ref e ∧ H1 e = some (excO e C (some dx)) ∧ OwnX K W C f ∧ ExcK K C ∧ H1 dx = some (.xd fs) ∧ fs.lookup ("place" : Str) = some (V.int i) ∧ Q (.int i) H1
theorem pe_place (he : PE X e te) (hb : attributeBase e "place" X.env (eval e X.env) = eval e X.env := by rfl) : PE X (.Attribute e "place" pos) (tPlace X.K te) := by
  intro pins s σ H Q I h
  refine attr_of hb (thn (he pins s σ H _ I h) fun u s1 ⟨y, H1, I1, ry, x, W, C, f, dx, fs, i, ey, hx, O, Z, hd, hl, q⟩ => ?_)
  subst ey
  obtain rfl : u = Value.ref x := ry
  obtain ⟨⟨ox, ws, hox, hoc, hod, hdd⟩, _, _⟩ := (show ObjOk X.prog X.w H1 s1.heap x (excO x C (some dx)) from I1.hok x _ hx)
  obtain ⟨mA, hn, hr⟩ := (show ObjOk X.prog X.w H1 s1.heap dx (.xd fs) from I1.hok dx _ hd)
  have rr := hr "place"
  rw [hl] at rr
  cases em : mA "place" with
  | none => rw [em] at rr; exact rr.elim
  | some v =>
    rw [em] at rr
    obtain ⟨tk, rfl⟩ := (show ∃ tk, v = Value.int i tk from rr)
    exact own_place O Z I1.kIn hox hoc hod hdd hn em rfl fun tk' => ⟨.int i, H1, I1.tok _, ⟨_, rfl⟩, q⟩
end
/-! ### raise C(i) -/
section
variable {M : Model} {prog : Program} {w : World} {A : Around} {E : Value → Shared → Prop} {s : Shared} {env : Env} {K : PySem.W.Frag} {W C f : Addr}
theorem raise_own {x : Sem Value} {Q : Flow → Shared → Prop} (O : OwnX K W C f) (hh : A.handled = none) (q : wpAny M A x (fun v s₁ => ∃ e t od, v = .ref e ∧ K.In s₁.heap ∧ s₁.heap.get? e = some (xObj C t od) ∧ E (.ref e) s₁) E s) :
    wpAny M A (raiseStmt env (some x) none) Q E s := by
  have cB : (Value.ref C :: .ref W :: veMro).contains (.type "BaseException") = true := by simp [veMro]
  unfold raiseStmt
  refine wpAny_bind (thn q fun v s₁ ⟨e, t, od, ev, X, hx, hE⟩ => ?_)
  subst ev
  obtain ⟨nm, qn, N, bs, sn, sub, ab, col, dd, k0, k1, k2, k3, k5, lk⟩ := O.ob
  have hC := X _ _ lk
  obtain ⟨hp, g, d, tk, os⟩ := s₁
  repeat (first | with_reducible refine wpAny_loadPart_at hx ?_ | with_reducible refine wpAny_loadPart_at hC ?_ | (with_reducible refine wpAny_isSubtype_exc hC ?_; rw [cB]) | wp_step)
  exact wpAny_raiseNew_none hh hE
theorem Raise_own {x : Str} {np cpos pos : Pos} {args : List Expr} {Q : Flow → Shared → Prop} (O : OwnX K W C f) (hh : A.handled = none) (hplain : (backTo cpos (starEach args env)).any (·.1) = false)
    (q : wpAny (model prog w) A (eval (.Name x np) env) (fun v s₁ => v = .ref C ∧ wpAny (model prog w) A (evalArgs (.ref C) true (backTo cpos (starEach args env)) []) (fun a s₂ => a.kw = [] ∧ a.pos.length ≤ sizeLine ∧ K.In s₂.heap ∧
      ∀ h' e, Heap.MadeExcOf s₂.heap h' e (.ref C) a.pos → s₂.heap.objs.size ≤ e → wpAny (model prog w) (A.under (.builtin "type.__call__" ⟨.ref C :: a.pos, []⟩)) (call (.ref f) (.ref e :: a.pos)) (fun r s₃ => r = .none ∧ ∃ t od, K.In s₃.heap ∧ s₃.heap.get? e = some (xObj C t od) ∧ E (.ref e) s₃) E { s₂ with heap := h' }) E s₁) E s) :
    wpAny (model prog w) A (exec (.Raise (some (.Call (.Name x np) args [] cpos)) none pos) env) Q E s := by
  rw [arm_exec_Raise]
  simp only [evalOpt, Option.map]
  refine wpAny_bind (wpAny_standAt (raise_own O hh (wpAny_bind (thn (wpAny_Call_ofName (thn q fun v s₁ q1 => ?_)) fun v s₃ q3 => wpAny_bind (wpAny_standAt (wpAny_pure q3))))))
  obtain ⟨rfl, q1⟩ := q1
  unfold callWith
  refine wpAny_bind (wpAny_holding (thn q1 fun a s₂ q2 => wpAny_bind (wpAny_standAt ?_)))
  obtain ⟨ap, ak⟩ := a
  obtain ⟨hk, hl, X, q2⟩ := q2
  obtain rfl : ak = [] := hk
  obtain ⟨nm, qn, N, bs, sn, sub, ab, col, dd, k0, k1, k2, k3, k5, lk⟩ := O.ob
  obtain ⟨hp, g, d, tk, os⟩ := s₂
  simp only [hplain]
  refine wpAny_bind (wpAny_keeperOf_exc (X _ _ lk) ?_)
  refine wpAny_bind (own_call O X hl fun h' e mx he => thn (q2 h' e mx he) fun r s₃ q3 => ⟨q3.1, wpAny_bind (wpAny_holding (wpAny_point (wpAny_pure ?_)))⟩)
  obtain ⟨_, t, od, X3, h3, q3⟩ := q3
  exact ⟨e, t, od, rfl, X3, h3, q3⟩
end
/-- what an own error's __init__(self, place) does -/
def spInit (C : Addr) : Sp := fun vs H Q _ => ∃ (e : Addr) (i : Int), vs = [.ref e, .int i] ∧ H e = some (rawX e C none) ∧ i.natAbs < 10 ^ 12 ∧ ∀ dx, H dx = none → Q .non (upd (upd H dx (.xd [("place", .int i)])) e (rawX e C (some dx)))
structure ExcI (P : Program) (w : World) (K : PySem.W.Frag) (mg : Str → Option Value) (base : Heap) (name : Str) (W C : Addr) (k : Nat) (ps : List Str) : Prop where
  ex : ∃ (f : Addr) (fd : FuncData), FnOk P w K mg base CX0 k f fd ps (spInit C) ∧ Binds K fd ps [] ∧ OwnX K W C f
  at_ : mg name = some (.ref C)
  ek : ExcK K C
def tRaiseI (C : Addr) (E : XK) (t : TA) : TS := fun _ σ H => t σ H fun vs H1 => ∃ i : Int, vs = [.int i] ∧ i.natAbs < 10 ^ 12 ∧ ∀ dx, H1 dx = none → E (.ref C) (some dx) (upd H1 dx (.xd [("place", .int i)]))
section
variable {P : Program} {w : World} {K : PySem.W.Frag} {mg : Str → Option Value} {base : Heap} {N : List Str} {qual : Str} {scope : Scope} {f : Addr} {cd : Value} {A : Around} {outer : List Env} {s₀ : Shared} {H₀ : Hp} {E : XK}
theorem raise_from {pins : List (Addr × Obj)} {σ : St} {H H' : Hp} {s s3 : Shared} {e C t : Addr} {od : Option Addr} (I : Inv (cxOf (CXE P w) P w K mg base N qual scope f cd A outer s₀ H₀ E) pins σ H s) (hn : s.heap.get? e = none) (ho : s3.os = s.os) (hg : AllBare s3.gens)
    (un : Un (frs (cxOf (CXE P w) P w K mg base N qual scope f cd A outer s₀ H₀ E).stack) [] H H' s.heap s3.heap) (hok : HOk P w H' s3.heap) (hu : H' e = none) (he : s3.heap.get? e = some (xObj C t od)) (q : E (.ref C) od H') :
    (cxOf (CXE P w) P w K mg base N qual scope f cd A outer s₀ H₀ E).xe (.ref e) s3 := by
  show wpAny (model P w) (A.deeper (envOfC qual scope s₀.heap.objs.size f cd)) (leaving (envOfC qual scope s₀.heap.objs.size f cd) (.ref e)) _ _ _
  have I3 := I.call' ho un hok hg (by simp)
  have hfr : ∀ b ∈ frs (cxOf (CXE P w) P w K mg base N qual scope f cd A outer s₀ H₀ E).stack, H' b = none := I3.stkFree
  have hin : ∀ env ∈ (cxOf (CXE P w) P w K mg base N qual scope f cd A outer s₀ H₀ E).stack, ∀ b, env.frame = some b → b ∈ e :: frs (cxOf (CXE P w) P w K mg base N qual scope f cd A outer s₀ H₀ E).stack := fun env he b hb => List.mem_cons_of_mem _ (List.mem_filterMap.mpr ⟨env, he, hb⟩)
  have hen : (PySem.W.hideAll s3.heap (e :: frs (cxOf (CXE P w) P w K mg base N qual scope f cd A outer s₀ H₀ E).stack)).get? e = none := PySem.W.hideAll_none _ List.mem_cons_self
  have hBh : (PySem.W.hideAll s3.heap (e :: frs (cxOf (CXE P w) P w K mg base N qual scope f cd A outer s₀ H₀ E).stack)).StaysIn s3.heap := fun b o z => PySem.W.of_hideAll _ z
  refine wpAny_mono (kd_any (kd_leaving _ _) (wpAny_leaving_firstW (L := s₀.heap.objs.size) (outer := outer) (base := PySem.W.hideAll s3.heap (e :: frs (cxOf (CXE P w) P w K mg base N qual scope f cd A outer s₀ H₀ E).stack)) (a0 := .ref t)
    (Q := fun _ s' => ∃ h2, s' = { s3 with heap := h2 } ∧ Heap.LeftW (PySem.W.hideAll s3.heap (e :: frs (cxOf (CXE P w) P w K mg base N qual scope f cd A outer s₀ H₀ E).stack)) (envOfC qual scope s₀.heap.objs.size f cd :: outer) e (.ref C) (.ref t) s3.heap h2)
    I.ok.frames (PySem.W.funFrames_hide I3.stack hin) rfl he hBh hen rfl rfl rfl fun h2 L => ⟨h2, rfl, L⟩)) (fun _ s' z => ?_) fun _ _ z => z
  obtain ⟨⟨h2, rfl, k1, ⟨_, _, k2⟩, k3, k4⟩, kd⟩ := z
  obtain ⟨hp, g, d, tt, os⟩ := s3
  have ho : os = s.os := ho
  subst ho
  refine fly_out (s := s) (g := g) (d := d) (t := tt) (h1 := hp) I un hok hfr hg hn hu (fun b o z y => ?_) hBh (⟨⟨k1, hen, k2, k3⟩, dict_on kd ⟨_, he, rfl⟩⟩ : FlyD _ outer e (.ref C) (.ref t) od h2) k4 q
  by_cases hb : b ∈ e :: frs (cxOf (CXE P w) P w K mg base N qual scope f cd A outer s₀ H₀ E).stack
  · rcases List.mem_cons.mp hb with z | z
    · exact .inl z
    · exact .inr (.inl z)
  · rw [PySem.W.hideAll_get _ z hb] at y
    cases y
theorem ps_raiseI {x : Str} {W C : Addr} {k : Nat} {ps : List Str} {np cpos pos : Pos} {a : Expr} {as : List Expr} {t : TA} (Y : ExcI P w K mg base x W C k ps) (hr : Room (k + 1) (cxOf (CXE P w) P w K mg base N qual scope f cd A outer s₀ H₀ E).A) (hg : Gl (cxOf (CXE P w) P w K mg base N qual scope f cd A outer s₀ H₀ E) x)
    (ha : PA (cxOf (CXE P w) P w K mg base N qual scope f cd A outer s₀ H₀ E) (a :: as) t) (hdb : (x == ("__debug__" : Str)) = false := by decide)
    (he : starEach (a :: as) (cxOf (CXE P w) P w K mg base N qual scope f cd A outer s₀ H₀ E).env = (false, eval a (cxOf (CXE P w) P w K mg base N qual scope f cd A outer s₀ H₀ E).env) :: starEach as (cxOf (CXE P w) P w K mg base N qual scope f cd A outer s₀ H₀ E).env := by rfl)
    (hpl : (backTo cpos (starEach as (cxOf (CXE P w) P w K mg base N qual scope f cd A outer s₀ H₀ E).env)).any (·.1) = false := by rfl) :
    PS (cxOf (CXE P w) P w K mg base N qual scope f cd A outer s₀ H₀ E) (.Raise (some (.Call (.Name x np) (a :: as) [] cpos)) none pos) (tRaiseI C E t) := by
  intro pins s σ H D I h
  obtain ⟨fi, fd, F, B, O⟩ := Y.ex
  refine Raise_own O (I.ok.hd rfl) ?_ ?_
  · rw [he]
    show ((false || (backTo cpos (starEach as _)).any (·.1))) = false
    rw [hpl]
    rfl
  refine ld_glob I hg Y.at_ ⟨rfl, ?_⟩ hdb
  have hs := ha cpos pins s σ H _ I h
  rw [he] at hs ⊢
  refine Calls.evalArgs_plain (thn hs fun us s2 ⟨vs, H1, I1, r, i, ev, hi, q⟩ => ⟨rfl, ?_, I1.kIn, fun h1 e mx hsz => ?_⟩)
  · have := r.length
    subst ev
    show us.length ≤ sizeLine
    rw [← this]
    show 1 ≤ sizeLine
    decide
  subst ev
  have new : H1 e = none := I1.hok.fresh hsz
  obtain ⟨t, het, _⟩ := mx.there
  have I2 := I1.laid (a := e) (o := rawX e C none) (t' := s2.toks) mx.keeps hsz (raw_ok ⟨t, het⟩)
  have hl : (Value.ref e :: us).length = ps.length := by
    rw [← F.len [.ref e, .int i] (upd H1 e (rawX e C none)) (fun _ _ => True) E0 ⟨e, i, rfl, upd_same, hi, fun _ _ => True.intro⟩]
    show us.length + 1 = _
    rw [← r.length]
    rfl
  refine wpAny_call (codeAny_mono (F.run _ _ _ (upd H1 e (rawX e C none)) ⟨.ref e :: us, []⟩ (.ref e :: us) [.ref e, .int i] (fun v H2 => v = .non ∧ ∃ dx, upd H1 e (rawX e C none) dx = none ∧ H2 = upd (upd (upd H1 e (rawX e C none)) dx (.xd [("place", .int i)])) e (rawX e C (some dx))) E0
    (hr.make C us []) (I2.env0.make C us []) (by have := B _ (Value.ref e :: us) I2.kIn (by simpa using hl); simpa using this) (.cons rfl r) ⟨e, i, rfl, upd_same, hi, fun dx hd => ⟨rfl, dx, hd, rfl⟩⟩) fun r' s3 hq => ?_)
  cases r' with
  | error x => exact hq.elim
  | ok fl =>
    cases fl with
    | next => exact hq.elim
    | brk => exact hq.elim
    | cont => exact hq.elim
    | ret u =>
      obtain ⟨v, H3, ho, hg3, un, hok, rv, evn, dx, hd, eH⟩ := hq
      subst evn
      obtain rfl : u = Value.none := rv
      have hde : dx ≠ e := fun z => by rw [z, upd_same] at hd; cases hd
      have hd1 : H1 dx = none := by rw [upd_ne hde] at hd; exact hd
      have e3 : H3 e = some (rawX e C (some dx)) := by rw [eH, upd_same]
      obtain ⟨⟨t3, he3⟩, _, _⟩ := (show ObjOk P w H3 s3.heap e (rawX e C (some dx)) from hok e _ e3)
      have mv : ∀ b, b ≠ e → H3 b = upd H1 dx (.xd [("place", .int i)]) b := fun b hb => by
        rw [eH, upd_ne hb]
        by_cases h2 : b = dx
        · subst h2; rw [upd_same, upd_same]
        · rw [upd_ne h2, upd_ne h2, upd_ne hb]
      have hu : upd H1 dx (.xd [("place", .int i)]) e = none := by rw [upd_ne (Ne.symm hde)]; exact new
      have nb : ∀ b o, s2.heap.get? b = some o → b ≠ e := fun b o z y => by rw [y, mx.new] at z; cases z
      have nt : ∀ {b : Addr} {o : HO}, H1 b = some o → b ≠ e := fun z => ne_of_none z new
      have m1 : ∀ b, b ≠ e → upd H1 e (rawX e C none) b = H1 b := fun b hb => upd_ne hb
      have I3 := I2.call' ho un hok hg3 (by simp)
      refine ⟨rfl, t3, some dx, I3.kIn, he3, raise_from (H' := upd H1 dx (.xd [("place", .int i)])) I1 mx.new ho hg3 ⟨fun b o z n nf nx => ?_, fun b o z n nf nx => ?_, fun b o z n nx => ?_, fun b o z nx => ?_, fun b xs z => ?_, fun b o u z => ?_, fun b ps z => ?_⟩ (fun b o z => ?_) hu he3 (q dx hd1)⟩
      · exact un.keep b o (mx.keeps b o z) (by rw [m1 b (nb b o z)]; exact n) nf nx
      · exact un.slot b o (mx.keeps b o z) (by rw [m1 b (nb b o z)]; exact n) nf nx
      · rw [← mv b (nb b o z)]; exact un.free b o (mx.keeps b o z) (by rw [m1 b (nb b o z)]; exact n) nx
      · exact un.there b o (mx.keeps b o z) nx
      · rw [← mv b (nt z)]; exact un.tups b xs (by rw [m1 b (nt z)]; exact z)
      · rw [← mv b (nt z)]; exact un.frzs b o u (by rw [m1 b (nt z)]; exact z)
      · rw [← mv b (nt z)]; exact un.tbls b ps (by rw [m1 b (nt z)]; exact z)
      · have hb : b ≠ e := fun y => by rw [y, hu] at z; cases z
        rw [← mv b hb] at z
        refine (hok b o z).stay (fun _ _ _ y => y) (fun c y => ?_) fun c xs y => ?_
        · rw [← mv c (fun y2 => by rw [y2, e3] at y; cases y)]; exact y
        · rw [← mv c (fun y2 => by rw [y2, e3] at y; cases y)]; exact y
end
end L2
end

section
set_option Elab.async false
set_option linter.all false
set_option maxRecDepth 100000
set_option maxHeartbeats 4000000
/-! list.count and list.index of flat items; readings of the rules for own errors. -/
namespace L2
open PySem PySem.Spec PyProof.Rows
section
variable {X : Cx}
def rCountV : V → List V → Hp → VK → Prop := fun x vs H Q => ∃ (l : Addr) (xs : List V) (y : V), x = .ref l ∧ vs = [y] ∧ H l = some (.lst xs) ∧ xs.all flatV = true ∧ flatV y = true ∧ Q (.int (xs.countP (fun z => eqV z y) : Nat)) H
theorem countP_eqU {y : V} : ∀ {xs : List V} {us : List Value}, Vals xs us → xs.all flatV = true → us.countP (eqU y) = xs.countP fun z => eqV z y
  | _, _, .nil, _ => rfl
  | x :: xs, u :: us, .cons r t, f => by
    rw [List.all_cons, Bool.and_eq_true] at f
    rw [List.countP_cons, List.countP_cons, countP_eqU t f.2, eqU_of r f.1]
theorem mt_countB : MtM X "list.count" rCountV := by
  intro pins s σ H x vs v us Q I rx rv h
  obtain ⟨l, xs, y, rfl, rfl, hH, hf, hy, q⟩ := h
  cases rx
  obtain ⟨u, rfl, ru⟩ := vals1 rv
  obtain ⟨z, its, n, r, hl, e⟩ := I.lstM hH
  refine call_meets F.slot_list_count ⟨_, e, rfl⟩ F.entry_list_count (F.args_list_count_2 _ _) (SeqAt.list_countAt l its.toArray n none #[] u (eqU y)) ⟨e, fun w hw => mem_eqAt ru hy r hf w (by simpa using hw), ?_⟩
  rw [show its.toArray.toList = its from rfl, countP_eqU r hf]
  exact ⟨.int _, H, I.tok _, ⟨_, rfl⟩, q⟩
def rIndexV : V → List V → Hp → VK → Prop := fun x vs H Q => ∃ (l : Addr) (xs : List V) (y : V) (j : Nat), x = .ref l ∧ vs = [y] ∧ H l = some (.lst xs) ∧ xs.all flatV = true ∧ flatV y = true ∧ (xs[j]?.map fun z => eqV z y) = some true ∧ (∀ i : Nat, i < j → (xs[i]?.map fun z => eqV z y) ≠ some true) ∧ Q (.int (j : Nat)) H
theorem mt_indexB : MtM X "list.index" rIndexV := by
  intro pins s σ H x vs v us Q I rx rv h
  obtain ⟨l, xs, y, j, rfl, rfl, hH, hf, hy, hj, hno, q⟩ := h
  cases rx
  obtain ⟨u, rfl, ru⟩ := vals1 rv
  obtain ⟨z, its, n, r, hl, e⟩ := I.lstM hH
  have at' : ∀ i (hi : i < its.length), (xs[i]?.map fun z => eqV z y) = some (eqU y its[i]) := fun i hi => by
    have e1 : xs[i]? = some (xs[i]'(by omega)) := List.getElem?_eq_getElem _
    obtain ⟨u, eu, ru⟩ := r.get e1
    rw [List.getElem?_eq_getElem hi] at eu
    cases eu
    rw [eqU_of ru (List.all_eq_true.mp hf _ (List.getElem_mem _)), e1]
    rfl
  have hjl : j < its.length := by
    cases ej : xs[j]? with
    | none => rw [ej] at hj; cases hj
    | some w => have := (List.getElem?_eq_some_iff.mp ej).1; omega
  have sl := line63
  refine call_meets F.slot_list_index ⟨_, e, rfl⟩ F.entry_list_index (F.args_list_index_2 _ _)
    (SeqAt.list_indexAt l its.toArray n none #[] u (eqU y) j (by simpa using hjl) (by omega) ?_ ?_) ⟨e, fun w hw => mem_eqAt ru hy r hf w (by simpa using hw), ?_⟩
  · show eqU y its[j] = true
    rw [at' j hjl] at hj
    exact Option.some.inj hj
  · intro i hi hlt
    show eqU y its[i] = false
    have := hno i hlt
    rw [at' i (by simpa using hi)] at this
    exact Bool.eq_false_iff.mpr fun z => this (congrArg some z)
  · exact ⟨.int j, H, I.tok _, ⟨_, rfl⟩, q⟩
end
section
variable {σ : St} {H : Hp} {D : Ends} {Q : VK} {te ta tv : TE} {t : TA} {K : PySem.W.Frag} {W C : Addr} {E : XK}
theorem r_binit (h : t σ H fun vs H1 => ∃ e C f od z, vs = [.ref e, .str z] ∧ H1 e = some (rawX e C od) ∧ OwnX K W C f ∧ Q .non H1) : tBinit K W t σ H Q := h
theorem r_fstr (h : te σ H fun v H1 => ∃ i : Int, v = .int i ∧ i.natAbs < 10 ^ 12 ∧ ∀ z, Q (.str z) H1) : tFstr te σ H Q := h
theorem r_splace (h : tv σ H fun y H1 => ta σ H1 fun x H2 => ∃ e W C f, x = .ref e ∧ H2 e = some (rawX e C none) ∧ OwnX K W C f ∧ ExcK K C ∧ ∀ dx, H2 dx = none → D.nx σ (upd (upd H2 dx (.xd [("place", y)])) e (rawX e C (some dx)))) : sPlace K ta tv D σ H := h
theorem r_place (h : te σ H fun x H1 => ∃ e W C f dx fs i, x = .ref e ∧ H1 e = some (excO e C (some dx)) ∧ OwnX K W C f ∧ ExcK K C ∧ H1 dx = some (.xd fs) ∧ fs.lookup ("place" : Str) = some (V.int i) ∧ Q (.int i) H1) : tPlace K te σ H Q := h
theorem r_raiseI (h : t σ H fun vs H1 => ∃ i : Int, vs = [.int i] ∧ i.natAbs < 10 ^ 12 ∧ ∀ dx, H1 dx = none → E (.ref C) (some dx) (upd H1 dx (.xd [("place", .int i)]))) : tRaiseI C E t D σ H := h
end
section
variable {X : Cx} {e a b : Expr} {te ta tb : TE} {pos : Pos}
theorem ei_op {op : Operator} {r : R2} (ho : OpR X (binaryOp op) r) (ha : PEi X a ta) (hb : PE X b tb) : PEi X (.BinOp a op b pos) (tOp r ta tb) := ⟨pe_op ho ha.h hb⟩
theorem pi_listI {tg : Expr} (ha : PEi X e te) : PI X tg e (iList X.K te) := pi_list ha.h
end
theorem call_isinK (K : PySem.W.Frag) {X : Cx} (h : X.K = K := by rfl) : CallR X (.builtin "isinstance") (rIsi K) := by
  subst h
  exact call_isinst
end L2
end

section
set_option Elab.async false
set_option linter.all false
set_option maxRecDepth 100000
set_option maxHeartbeats 4000000
/-! Texts parted, a sign's place in a text, numbers written and read; an except clause without a name. -/
namespace L2
open PySem PySem.Spec PyProof.Rows
open Builtin.Str (occurrences partsBetween)
end L2
end

section
set_option Elab.async false
set_option linter.all false
set_option maxRecDepth 100000
set_option maxHeartbeats 4000000
/-! Two lists that are read, one behind the other. -/
namespace L2
open PySem PySem.Spec PyProof.Rows
end L2
end

section
set_option Elab.async false
set_option linter.all false
set_option maxRecDepth 100000
set_option maxHeartbeats 4000000
/-! list(range(n)); defs whose last parameter has a default, called with all of them. -/
namespace L2
open PySem PySem.Spec PyProof.Rows
theorem vals_of_at : ∀ {xs : List V} {us : List Value}, xs.length = us.length → (∀ (i : Nat) x u, xs[i]? = some x → us[i]? = some u → RelV x u) → Vals xs us
  | [], [], _, _ => .nil
  | x :: xs, u :: us, hl, h => .cons (h 0 x u rfl rfl) (vals_of_at (Nat.succ.inj hl) fun i y v e1 e2 => h (i + 1) y v e1 e2)
/-! ### a def with one default -/
structure FunD (K : PySem.W.Frag) (x qual : Str) (st : Stmt) (f : Addr) (fd : FuncData) : Prop where
  ex : ∃ (oc : Value) (od : Option Addr) (T : Addr) (kV doc pm : Value) (an : Option Addr) (cdv ct : Value) (osl : Array (Option Value)) (o : Obj) (v : Value) (n : Nat),
    fd = PySem.W.fnOf x qual (defArgs st) (defBody st) (defScope st) (.ref T) kV doc pm an cdv ct ∧ K.lookup f = some ⟨oc, od, .func fd, osl⟩ ∧ PySem.W.codeIn K cdv qual = true ∧ K.lookup T = some o ∧ o.data = .seq #[v] n
section
variable {P : Program} {w : World} {K : PySem.W.Frag} {mg : Str → Option Value} {base : Heap}
theorem FunD.binds {x qual : Str} {st : Stmt} {f : Addr} {fd : FuncData} {ps : List Str} (F : FunD K x qual st f fd)
    (h : ∀ (T : Addr) (kV doc pm : Value) (an : Option Addr) (cdv ct : Value) (us : List Value), us.length = ps.length → ∃ k, bindArgs (PySem.W.fnOf x qual (defArgs st) (defBody st) (defScope st) (.ref T) kV doc pm an cdv ct) ⟨us, []⟩ = seqItems? (.ref T) >>= k ∧ ∀ v, k (some #[v]) = pure (ps.zip us)) : Binds K fd ps [] := by
  obtain ⟨oc, od, T, kV, doc, pm, an, cdv, ct, osl, o, v, n, rfl, lk, hcd, hT, hd⟩ := F.ex
  intro s us KX hl
  rw [List.append_nil] at hl ⊢
  obtain ⟨k, h1, h2⟩ := h T kV doc pm an cdv ct us hl
  exact BindsTo.of_defaults rfl (KX _ _ hT) hd h1 (h2 v)
end
end L2
namespace L2
open PySem PySem.Spec PyProof.Rows
end L2
end

section
set_option Elab.async false
set_option linter.all false
set_option maxRecDepth 100000
set_option maxHeartbeats 4000000
/-! list(range(a, b, -1)). -/
namespace L2
open PySem PySem.Spec PyProof.Rows
end L2
end

section
set_option Elab.async false
set_option linter.all false
set_option maxRecDepth 100000
set_option maxHeartbeats 4000000
/-! Comprehensions over pairs, and over lists, whose items are new objects; list(range(a, b, k)). -/
namespace L2
open PySem PySem.Spec PyProof.Rows
theorem lc_new2 {K : PySem.W.Frag} {J : It} {H1 : Hp} {fr : St} {tc : TT} {te : TE} {Q : VK} (n : Nat) (f1 f2 : Nat → V) (Pv : Addr → Nat → List V → Hp → Prop) (h0 : ∀ D H, H1 D = none → Same H1 H → Pv D 0 [] H)
    (stab : ∀ D i ys H xs o, H D = some (.lst xs) → Pv D i ys H → Pv D i ys (upd H D o)) (hz : ∀ D i ys H, i < n → Pv D i ys H → ys.length < sizeLine) (psame : ∀ D i ys H H', Same H H' → Pv D i ys H → Pv D i ys H')
    (hgo : ∀ i H, i < n → Same H1 H → J.go i H) (hy : ∀ i H v H', i < n → Same H1 H → J.yld i H v H' → ∃ a, v = .ref a ∧ SqT K H' a [f1 i, f2 i] ∧ Same H H') (hst : ∀ H, Same H1 H → J.stop n H)
    (turn : ∀ D i ys H (A : VK) (R : Hp → Prop), i < n → Same H1 H → H1 D = none → H D = some (.lst ys) → Pv D i ys H → (∀ y H', Same H H' → Pv D (i + 1) (ys ++ [y]) H' → A y H') →
      tc (some (f1 i) :: some (f2 i) :: fr) H fun b H3 => if b = true then te (some (f1 i) :: some (f2 i) :: fr) H3 A else R H3)
    (fin : ∀ D ys H, H1 D = none → Same H1 H → Pv D n ys H → H D = some (.lst ys) → Q (.ref D) H) : rdLc2 K J H1 fr tc te Q := by
  intro D hD
  refine ⟨fun i m H => i ≤ n ∧ m = n - i ∧ Same H1 H ∧ ∃ ys, H D = some (.lst ys) ∧ Pv D i ys H, ⟨n, Nat.zero_le _, rfl, same_upd hD, [], upd_same, h0 D _ hD (same_upd hD)⟩, ?_⟩
  rintro i m H ⟨hi, rfl, sm, ys, hl, hp⟩
  by_cases h : i = n
  · subst h
    exact .inl ⟨hst H sm, fin D ys H hD sm hp hl⟩
  · have hlt : i < n := Nat.lt_of_le_of_ne hi h
    refine .inr ⟨hgo i H hlt sm, fun v H' hyl => ?_⟩
    obtain ⟨a, rfl, ht, s2⟩ := hy i H v H' hlt sm hyl
    refine ⟨a, _, _, rfl, ht, turn D i ys H' _ _ hlt (sm.trans s2) hD (s2 _ _ hl) (psame _ _ _ _ _ s2 hp) (fun y H4 s4 hp4 => ?_)⟩
    refine ⟨ys, s4 _ _ (s2 _ _ hl), hz D i ys _ hlt hp, n - (i + 1), by omega, by omega, rfl, fun b u e => ?_, ys ++ [y], upd_same, stab _ _ _ _ _ _ (s4 _ _ (s2 _ _ hl)) hp4⟩
    rw [upd_ne (ne_of_none e hD)]
    exact s4 _ _ (s2 _ _ (sm _ _ e))
/-- over zip of two lists, each item a new object -/
theorem lc_zipN {K : PySem.W.Frag} {a b : Addr} {xs ys : List V} {H1 : Hp} {fr : St} {tc : TT} {te : TE} {Q : VK} (ha : SqL K H1 a xs) (hb : SqL K H1 b ys) (Pv : Addr → Nat → List V → Hp → Prop) (h0 : ∀ D H, H1 D = none → Same H1 H → Pv D 0 [] H)
    (stab : ∀ D i zs H us o, H D = some (.lst us) → Pv D i zs H → Pv D i zs (upd H D o)) (hz : ∀ D i zs H, i < min xs.length ys.length → Pv D i zs H → zs.length < sizeLine) (psame : ∀ D i zs H H', Same H H' → Pv D i zs H → Pv D i zs H')
    (turn : ∀ D (i : Nat) zs x y H (A : VK) (R : Hp → Prop), xs[i]? = some x → ys[i]? = some y → Same H1 H → H1 D = none → H D = some (.lst zs) → Pv D i zs H → (∀ y H', Same H H' → Pv D (i + 1) (zs ++ [y]) H' → A y H') →
      tc (some x :: some y :: fr) H fun b H3 => if b = true then te (some x :: some y :: fr) H3 A else R H3)
    (fin : ∀ D zs H, H1 D = none → Same H1 H → Pv D (min xs.length ys.length) zs H → H D = some (.lst zs) → Q (.ref D) H) : rdLc2 K (Itz K a b) H1 fr tc te Q := by
  refine lc_new2 (min xs.length ys.length) (fun i => xs.getD i .non) (fun i => ys.getD i .non) Pv h0 stab hz psame (fun i H hi sm => ⟨xs, ys, xs[i]'(by omega), ys[i]'(by omega), sm.seq ha, sm.seq hb, by simp, by simp⟩) (fun i H v H' hi sm h => ?_)
    (fun H sm => ⟨xs, ys, sm.seq ha, sm.seq hb, rfl⟩) (fun D i zs H A R hi sm => turn D i zs _ _ H A R (by simp [show i < xs.length by omega]) (by simp [show i < ys.length by omega]) sm) fin
  obtain ⟨t, x, y, hn, rfl, h1, h2, rfl⟩ := h
  have e1 := h1 xs (sm.seq ha)
  have e2 := h2 ys (sm.seq hb)
  refine ⟨t, rfl, ?_, same_upd hn⟩
  simp only [List.getD, e1, e2, Option.getD_some]
  exact SqT.of upd_same
section
variable {X : Cx}
def tLRng3 (ta : TA) : TE := fun σ H Q => ta σ H fun vs H1 => ∃ j k : Nat, vs = [.int 0, .int j, .int k] ∧ j ≤ 100000 ∧ 0 < k ∧ k ≤ 100000 ∧ ∀ p, H1 p = none → Q (.ref p) (upd H1 p (.lst ((List.range ((j + k - 1) / k)).map fun t : Nat => V.int (t * k : Nat))))
theorem pe_lrange3 {a b c : Expr} {ta : TA} {p q pos pos2 : Pos} (hcal : X.calm = true) (hg : Gl X "list") (hm : X.mg "list" = none) (hg2 : Gl X "range") (hm2 : X.mg "range" = none) (ha : PA X [a, b, c] ta)
    (hs : starEach [a, b, c] X.env = [(false, eval a X.env), (false, eval b X.env), (false, eval c X.env)] := by rfl) (hs2 : starEach [b, c] X.env = [(false, eval b X.env), (false, eval c X.env)] := by rfl)
    (hs3 : starEach [Expr.Call (.Name "range" q) [a, b, c] [] pos2] X.env = [(false, eval (.Call (.Name "range" q) [a, b, c] [] pos2) X.env)] := by rfl) :
    PE X (.Call (.Name "list" p) [.Call (.Name "range" q) [a, b, c] [] pos2] [] pos) (tLRng3 ta) := by
  intro pins s σ H Q I h
  refine wpAny_Call_Name_kw (ld_blt I hg hm b_list (PyProof.Rows.callWith_type1 ?_ hs3 rfl) (by decide) (by decide))
  rw [hs3]
  refine Calls.spliced_cons ?_
  show wpAny _ _ (eval (Expr.Call (.Name "range" q) [a, b, c] [] pos2) X.env) _ _ _
  refine wpAny_Call_Name_kw (ld_blt I hg2 hm2 boot_range (PyProof.Rows.callWith_type1 (thn (ha pos2 pins s σ H _ I h) fun us s1 ⟨vs, H1, I1, r1, q1⟩ => ?_) (by rw [hs, hs2]) (by rw [hs2]; rfl)) (by decide) (by decide))
  obtain ⟨j, k, e, hj, hk, hk2, q⟩ := q1
  subst e
  cases r1 with
  | cons r rr =>
    cases rr with
    | cons r' rr =>
      cases rr with
      | cons r'' rr =>
        cases rr
        obtain ⟨t, rfl⟩ := r
        obtain ⟨t', rfl⟩ := r'
        obtain ⟨t'', rfl⟩ := r''
        refine call_range_3 (by omega) (Calls.spliced_nil ?_) (.inl (PyProof.noPylong_small (by omega)))
        have e2 : Builtin.Range.rangeSize (0 : Int) (j : Int) (k : Int) = (((j + k - 1) / k : Nat) : Int) := by
          unfold Builtin.Range.rangeSize
          rw [if_pos (by omega)]
          by_cases hj0 : j = 0
          · subst hj0
            rw [if_neg (by omega), Nat.div_eq_of_lt (by omega)]
            rfl
          · rw [if_pos (by omega), show ((j : Int) - 0 - 1) = ((j - 1 : Nat) : Int) by omega, ← Int.natCast_ediv, show j + k - 1 = j - 1 + k by omega, Nat.add_div_right _ hk]
            rfl
        have hn : (j + k - 1) / k ≤ j := by
          by_cases hj0 : j = 0
          · subst hj0
            rw [Nat.div_eq_of_lt (by omega)]
            exact Nat.le_refl _
          · rw [show j + k - 1 = j - 1 + k by omega, Nat.add_div_right _ hk]
            have := Nat.div_le_self (j - 1) k
            omega
        generalize (j + k - 1) / k = m at *
        have hsm : Builtin.Range.small (0 : Int) (j : Int) (k : Int) = true := by
          unfold Builtin.Range.small
          rw [e2, if_pos (by omega)]
          simp only [Builtin.Range.rangeFitsLong, Bool.and_eq_true, Bool.or_eq_true, decide_eq_true_eq, beq_iff_eq]
          refine ⟨⟨⟨⟨?_, ?_⟩, ?_⟩, ?_⟩, .inr ?_⟩ <;> omega
        refine call_list_range (I1.ok.hd hcal) (IsRange.new ..) hsm e2 (by omega) fun h' tk acc c kp ho it => ?_
        have hv : Vals ((List.range (m)).map fun t : Nat => V.int (t * k : Nat)) acc.toList := vals_of_at (by rw [List.length_map, List.length_range, Array.length_toList, it.1]) fun i x u e1 e3 => by
          have hi : i < m := by have := (List.getElem?_eq_some_iff.mp e1).1; simpa using this
          rw [List.getElem?_map, List.getElem?_range hi] at e1
          cases e1
          have e4 : acc[i]? = some u := by rw [← Array.getElem?_toList]; exact e3
          obtain ⟨t, e5⟩ := it.2 i u e4
          exact ⟨t, by rw [e5, show (0 : Int) + (i : Int) * (k : Int) = ((i * k : Nat) : Int) by rw [Int.zero_add, Int.natCast_mul]]⟩
        have up : ∀ b o, s1.heap.get? b = some o → h'.get? b = some o := fun b o e => kp _ _ (Heap.get?_push_of_some _ e)
        have hle : s1.heap.objs.size ≤ (s1.heap.push { cls := .type "range", data := .fields #[.int 0 t, .int j t', .int k t''] }).objs.size := by rw [Heap.size_push]; omega
        refine ⟨.ref _, _, I1.laid (t' := tk) (o := .lst _) up hle ⟨?_, acc.toList, c, hv, ho⟩, rfl, q _ (I1.hok.fresh hle)⟩
        rw [List.length_map, List.length_range]
        exact Nat.le_of_lt (Nat.lt_of_le_of_lt (show m ≤ 100000 by omega) (by decide))
theorem r_lrng3 {σ : St} {H : Hp} {Q : VK} {ta : TA} (h : ta σ H fun vs H1 => ∃ j k : Nat, vs = [.int 0, .int j, .int k] ∧ j ≤ 100000 ∧ 0 < k ∧ k ≤ 100000 ∧ ∀ p, H1 p = none → Q (.ref p) (upd H1 p (.lst ((List.range ((j + k - 1) / k)).map fun t : Nat => V.int (t * k : Nat))))) : tLRng3 ta σ H Q := h
end
end L2
namespace L2
open PySem PySem.Spec PyProof.Rows
section
variable {X : Cx}
theorem call_min1K (K : PySem.W.Frag) {X : Cx} (hc : X.calm = true) (h : X.K = K := by rfl) : CallR X (.builtin "min") (rMin1 K) := by
  subst h
  exact call_min1 hc
theorem call_max1K (K : PySem.W.Frag) {X : Cx} (hc : X.calm = true) (h : X.K = K := by rfl) : CallR X (.builtin "max") (rMax1 K) := by
  subst h
  exact call_max1 hc
theorem pe_bmK (K : PySem.W.Frag) {X : Cx} {T name id : String} {r : V → List V → Hp → VK → Prop} {o e : Expr} {es : List Expr} {to : TE} {t : TA} {apos cpos : Pos} (pa : PlainAttrs T) (slot : Slot T name id) (hty : typeOf (.builtin id) = pure (.type "method_descriptor")) (hm : MtR X id r) (ho : PE X o to) (ha : PA X (e :: es) t) (h : X.K = K := by rfl)
    (hbase : attributeBase o name X.env (eval o X.env) = eval o X.env := by rfl)
    (hfew : ((backTo cpos (starEach (e :: es) X.env)).all (fun x => !x.1) && (backToKw cpos (keywordEach [] X.env)).all (fun x => x.1.isSome)
      && decide ((e :: es).length + ([] : List Keyword).length + (if ([] : List Keyword).isEmpty then 0 else 1) < 30)) = true := by rfl)
    (hline : (apos.endLine == cpos.line) = true := by rfl) (hs : starEach (e :: es) X.env = (false, eval e X.env) :: starEach es X.env := by rfl) (hplain : (backTo cpos (starEach es X.env)).any (·.1) = false := by rfl) :
    PE X (.Call (.Attribute o name apos) (e :: es) [] cpos) (tBM K T r to t) := by
  subst h
  exact pe_bm pa slot hty hm ho ha hbase hfew hline hs hplain
end
end L2
namespace L2
open PySem PySem.Spec PyProof.Rows
/-- over a list, each item any -/
theorem lc_listN {K : PySem.W.Frag} {a : Addr} {xs : List V} {H1 : Hp} {fr : St} {tc : TT} {te : TE} {Q : VK} (hl : SqL K H1 a xs) (Pv : Nat → List V → Hp → Prop) (h0 : ∀ H, Same H1 H → Pv 0 [] H)
    (stab : ∀ i ys H D zs o, H D = some (.lst zs) → Pv i ys H → Pv i ys (upd H D o)) (hz : ∀ i ys H, i < xs.length → Pv i ys H → ys.length < sizeLine)
    (turn : ∀ (i : Nat) ys x H (A : VK) (R : Hp → Prop), xs[i]? = some x → Same H1 H → Pv i ys H → (∀ y H', Same H H' → Pv (i + 1) (ys ++ [y]) H' → A y H') → tc (some x :: fr) H fun b H3 => if b = true then te (some x :: fr) H3 A else R H3)
    (fin : ∀ D ys H, H1 D = none → Same H1 H → Pv xs.length ys H → H D = some (.lst ys) → Q (.ref D) H) : rdLc (Itl K a) H1 fr tc te Q := by
  refine lc_new xs.length (fun i => xs.getD i .non) Pv h0 stab hz (fun i H hi sm => ⟨xs, xs[i], sm.seq hl, by simp [hi]⟩) (fun i H x H' hi sm h => ⟨?_, h.1⟩) (fun H sm => ⟨xs, sm.seq hl, Nat.le_refl _⟩) (fun i ys H A R hi sm => turn i ys _ H A R (by simp [hi]) sm) fin
  have := h.2 xs (sm.seq hl)
  simp [List.getD, this]
end L2
end

section
set_option Elab.async false
set_option linter.all false
set_option maxRecDepth 100000
set_option maxHeartbeats 4000000
/-! Comprehensions over pairs with a test, whose items are new objects. -/
namespace L2
open PySem PySem.Spec PyProof.Rows
end L2
end

section
set_option Elab.async false
set_option linter.all false
set_option maxRecDepth 100000
set_option maxHeartbeats 4000000
/-! isinstance(x, C) with an own class C. -/
namespace L2
open PySem PySem.Spec PyProof.Rows
end L2
end

section
set_option Elab.async false
set_option linter.all false
set_option maxRecDepth 100000
set_option maxHeartbeats 4000000
/-! C.m(o, ..): a def of a class, called by the class. -/
namespace L2
open PySem PySem.Spec PySem.W PyProof.Rows
structure CalC (P : Program) (w : World) (K : PySem.W.Frag) (mg : Str → Option Value) (base : Heap) (x m : Str) (k : Nat) (ps : List Str) (sp : Sp) : Prop where
  ex : ∃ (W f : Addr) (fd : FuncData), FnOk P w K mg base CX0 k f fd ps sp ∧ Binds K fd ps [] ∧ mg x = some (.ref W) ∧ specialIn K (.ref W) "__getattribute__" = some (some (.builtin "type.__getattribute__")) ∧
    readsIn K W (.type "type") = true ∧ findCls K (.ref W) (.type "type") m = some (.val (.ref f)) ∧ keepIn K (.ref f) = true
section
variable {X : Cx} {x m : Str} {k : Nat} {ps : List Str} {sp : Sp} {np apos pos : Pos} {e : Expr} {es : List Expr} {t : TA} {pl : Sem Bool}
theorem pe_cm (M : CalC X.prog X.w X.K X.mg X.base x m k ps sp) (hr : Room k X.A) (hg : Gl X x) (ha : PA X (e :: es) t) (hdb : (x == ("__debug__" : Str)) = false := by decide)
    (hst : starEach (e :: es) X.env = (false, eval e X.env) :: starEach es X.env := by rfl) (hpl : (backTo pos (starEach es X.env)).any (·.1) = false := by rfl)
    (ht : eval (.Call (.Attribute (.Name x np) m apos) (e :: es) [] pos) X.env = (do
      let ov ← eval (.Name x np) X.env
      standAt apos.atName
      let (f, first) ← holding [ov] (getMethod ov m pl)
      callWith pos f first (backTo pos (starEach (e :: es) X.env)) (backToKw pos (keywordEach [] X.env))) := by rfl) :
    PE X (.Call (.Attribute (.Name x np) m apos) (e :: es) [] pos) (tCall sp [] E0 t) := by
  obtain ⟨W, f, fd, F, hb, hm, ga, rd, ini, kp⟩ := M.ex
  intro pins s σ H Q I h
  refine methodCall_KW (ld_glob I hg hm ?_ hdb) ht
  refine method_cls I.kIn ga (cls_value I.kIn rd ini rfl ?_)
  refine PySem.W.callWith_K (h₀ := X.base) I.ok.mod.kin kp (thn (ha pos pins _ σ H _ (I.tok (s.toks + 1)) h) fun us s1 ⟨vs, H1, I1, r, q⟩ => ⟨I1.kIn, ?_⟩) hst hpl
  exact run_fn F hr hb .nil pass0 I1 r q
end
end L2
end

section
/-! Tightwood, the mathematics of words: bits as lists of truths, their worth, how many are true, where they are. -/
namespace TW
def val : List Bool → Nat
  | [] => 0
  | b :: r => b.toNat + 2 * val r
theorem val_lt : ∀ l : List Bool, val l < 2 ^ l.length
  | [] => by simp [val]
  | b :: r => by
    have := val_lt r
    simp only [val, List.length_cons, Nat.pow_succ]
    have hb : b.toNat ≤ 1 := Bool.toNat_le b
    omega
/-- how many bits of a number are one -/
def pc (n : Nat) : Nat := if n = 0 then 0 else n % 2 + pc (n / 2)
termination_by n
decreasing_by omega
theorem pc_zero : pc 0 = 0 := by rw [pc]; rfl
theorem pc_step (n : Nat) : pc n = n % 2 + pc (n / 2) := by
  by_cases h : n = 0
  · subst h; simp [pc_zero]
  · rw [pc, if_neg h]
theorem pc_val : ∀ l : List Bool, pc (val l) = l.count true
  | [] => by simp [val, pc_zero]
  | b :: r => by
    rw [pc_step]
    have e1 : val (b :: r) % 2 = b.toNat := by simp only [val]; have := Bool.toNat_le b; omega
    have e2 : val (b :: r) / 2 = val r := by simp only [val]; have := Bool.toNat_le b; omega
    rw [e1, e2, pc_val r]
    cases b <;> simp [List.count_cons, Nat.add_comm]
theorem pc16 (n : Nat) : pc n = pc (n % 16) + pc (n / 16) := by
  have a : pc n = n % 2 + (n / 2 % 2 + (n / 4 % 2 + (n / 8 % 2 + pc (n / 16)))) := by
    rw [pc_step n, pc_step (n / 2), pc_step (n / 2 / 2), pc_step (n / 2 / 2 / 2)]
    simp only [Nat.div_div_eq_div_mul]
  have b : pc (n % 16) = n % 16 % 2 + (n % 16 / 2 % 2 + (n % 16 / 4 % 2 + (n % 16 / 8 % 2 + pc (n % 16 / 16)))) := by
    rw [pc_step (n % 16), pc_step (n % 16 / 2), pc_step (n % 16 / 2 / 2), pc_step (n % 16 / 2 / 2 / 2)]
    simp only [Nat.div_div_eq_div_mul]
  have c : pc (n % 16 / 16) = 0 := by
    rw [show n % 16 / 16 = 0 by omega, pc_zero]
  have d1 : n % 16 % 2 = n % 2 := by omega
  have d2 : n % 16 / 2 % 2 = n / 2 % 2 := by omega
  have d3 : n % 16 / 4 % 2 = n / 4 % 2 := by omega
  have d4 : n % 16 / 8 % 2 = n / 8 % 2 := by omega
  rw [a, b, c, d1, d2, d3, d4]
  omega
/-- the table of fours -/
def fours : List Nat := [0, 1, 1, 2, 1, 2, 2, 3, 1, 2, 2, 3, 2, 3, 3, 4]
theorem fours_eq : ∀ r : Nat, r < 16 → fours[r]? = some (pc r) := by
  have h : ∀ b0 b1 b2 b3 : Bool, fours[val [b0, b1, b2, b3]]? = some ([b0, b1, b2, b3].count true) := by decide
  intro r hr
  have e : r = val [r.testBit 0, r.testBit 1, r.testBit 2, r.testBit 3] := by
    have : ∀ r : Fin 16, r.val = val [r.val.testBit 0, r.val.testBit 1, r.val.testBit 2, r.val.testBit 3] := by decide
    exact this ⟨r, hr⟩
  rw [e, h, pc_val]
end TW
end

section
/-! Tightwood, the mathematics of rows: words of 32, blocks of 256, counts ahead. -/
namespace TW
/-- the j-th word's bits -/
def wordAt (l : List Bool) (j : Nat) : List Bool := (l.drop (32 * j)).take 32
/-- how many words -/
def manyW (n : Nat) : Nat := (n + 31) / 32
def wordsOf (l : List Bool) : List Nat := (List.range (manyW l.length)).map fun j => val (wordAt l j)
/-- how many are true ahead of k -/
def cnt (l : List Bool) (k : Nat) : Nat := (l.take k).count true
theorem cnt_add (l : List Bool) (a b : Nat) : cnt l (a + b) = cnt l a + ((l.drop a).take b).count true := by
  unfold cnt
  rw [List.take_add, List.count_append]
theorem cnt_all (l : List Bool) {k : Nat} (h : l.length ≤ k) : cnt l k = l.count true := by
  unfold cnt
  rw [List.take_of_length_le h]
theorem cnt_word (l : List Bool) (j : Nat) : cnt l (32 * (j + 1)) = cnt l (32 * j) + pc (val (wordAt l j)) := by
  rw [pc_val, show 32 * (j + 1) = 32 * j + 32 by omega, cnt_add]
  rfl
/-- the sum of the ones of the words from a on, k of them -/
theorem sum_words (l : List Bool) (a : Nat) : ∀ k : Nat, ((List.range k).map fun i => pc (val (wordAt l (a + i)))).sum + cnt l (32 * a) = cnt l (32 * (a + k))
  | 0 => by simp
  | k + 1 => by
    rw [List.range_succ, List.map_append, List.sum_append, List.map_singleton, List.sum_singleton]
    have := sum_words l a k
    have e := cnt_word l (a + k)
    rw [show a + (k + 1) = a + k + 1 by omega, e]
    omega
theorem manyW_le (n : Nat) : n ≤ 32 * manyW n := by unfold manyW; omega
theorem manyW_lt {n j : Nat} (h : j < manyW n) : 32 * j < n := by unfold manyW at h; omega
/-- a block's words: from 8 * b on, at most eight; with them one comes to the next block -/
theorem block_sum (l : List Bool) (b : Nat) (k : Nat) (hk : k = min 8 (manyW l.length - 8 * b)) : ((List.range k).map fun i => pc (val (wordAt l (8 * b + i)))).sum + cnt l (256 * b) = cnt l (256 * (b + 1)) := by
  have h := sum_words l (8 * b) k
  rw [show 32 * (8 * b) = 256 * b by omega] at h
  rw [h]
  by_cases hh : 8 ≤ manyW l.length - 8 * b
  · rw [show k = 8 by omega, show 32 * (8 * b + 8) = 256 * (b + 1) by omega]
  · have := manyW_le l.length
    rw [cnt_all l (k := 32 * (8 * b + k)) (by omega), cnt_all l (k := 256 * (b + 1)) (by omega)]
/-- the number by two of the signs from behind -/
theorem val_rev : ∀ (l : List Bool) (a : Nat), (l.reverse.foldl (fun acc b => acc * 2 + b.toNat) a) = a * 2 ^ l.length + val l
  | [], a => by simp [val]
  | b :: r, a => by
    rw [List.reverse_cons, List.foldl_append, val_rev r a]
    simp only [List.foldl_cons, List.foldl_nil, val, List.length_cons, Nat.pow_succ]
    rw [Nat.add_mul, Nat.mul_assoc]
    omega
end TW
end

section
/-! Tightwood, the mathematics of rows: words told as signs again. -/
namespace TW
theorem val_bit : ∀ (w : List Bool) (k : Nat), val w / 2 ^ k % 2 = (w.getD k false).toNat
  | [], k => by simp [val]
  | b :: r, 0 => by
    cases b <;> simp [val] <;> omega
  | b :: r, k + 1 => by
    have ih := val_bit r k
    have e : val (b :: r) / 2 ^ (k + 1) = val r / 2 ^ k := by
      rw [Nat.pow_succ, Nat.mul_comm (2 ^ k) 2, ← Nat.div_div_eq_div_mul]
      congr 1
      cases b <;> simp [val] <;> omega
    rw [e, ih]
    simp
theorem wordAt_getD (l : List Bool) (j : Nat) {p : Nat} (hp : p < 32) : (wordAt l j).getD p false = l.getD (32 * j + p) false := by
  unfold wordAt
  simp only [List.getD_eq_getElem?_getD, List.getElem?_take, List.getElem?_drop, hp, if_true]
theorem words_cut (l : List Bool) (a k : Nat) : ((wordsOf l).drop a).take k = (List.range (min k (manyW l.length - a))).map fun i => val (wordAt l (a + i)) := by
  refine List.ext_getElem? fun i => ?_
  unfold wordsOf
  rw [List.getElem?_take, List.getElem?_map]
  by_cases hi : i < k
  · rw [if_pos hi, List.getElem?_drop, List.getElem?_map]
    by_cases h2 : a + i < manyW l.length
    · rw [List.getElem?_range h2, List.getElem?_range (by omega)]
      rfl
    · rw [List.getElem?_eq_none (by rw [List.length_range]; omega), List.getElem?_eq_none (by rw [List.length_range]; omega)]
      rfl
  · rw [if_neg hi, List.getElem?_eq_none (by rw [List.length_range]; omega)]
    rfl
end TW
end

section
/-! Tightwood, the mathematics of counts: places of a bit, word by word. -/
namespace TW
theorem filt1 (f : Nat → Bool) (n : Nat) : [n].filter f = if f n then [n] else [] := by
  cases h : f n <;> simp [List.filter, h]
/-- the places below n with the bit b (beyond the row stand noughts) -/
def occ (b : Bool) (l : List Bool) (n : Nat) : List Nat := (List.range n).filter fun i => l.getD i false == b
theorem occ_succ (b : Bool) (l : List Bool) (n : Nat) : occ b l (n + 1) = occ b l n ++ if l.getD n false == b then [n] else [] := by
  unfold occ
  rw [List.range_succ, List.filter_append, filt1]
theorem occ_cnt (l : List Bool) : ∀ n : Nat, (occ true l n).length = cnt l n ∧ (occ false l n).length + cnt l n = n
  | 0 => by simp [occ, cnt]
  | n + 1 => by
    obtain ⟨h1, h2⟩ := occ_cnt l n
    have e : cnt l (n + 1) = cnt l n + (l.getD n false).toNat := by
      unfold cnt
      rw [List.take_add_one, List.count_append, List.getD_eq_getElem?_getD]
      cases hx : l[n]? with
      | none => simp
      | some b => cases b <;> simp
    rw [occ_succ, occ_succ, e]
    cases l.getD n false <;> simp <;> omega
theorem val_tb (w : List Bool) (k : Nat) : (val w).testBit k = w.getD k false := by
  rw [Nat.testBit_eq_decide_div_mod_eq, val_bit]
  cases w.getD k false <;> rfl
/-- a word as it is, or turned about -/
def flipN (b : Bool) : Nat := if b then 0 else 4294967295
theorem word_flip (b : Bool) (l : List Bool) (j : Nat) : val (wordAt l j) ^^^ flipN b = val ((List.range 32).map fun p => l.getD (32 * j + p) false == b) := by
  refine Nat.eq_of_testBit_eq fun i => ?_
  rw [Nat.testBit_xor, val_tb, val_tb]
  have hf : (flipN b).testBit i = (!b && decide (i < 32)) := by
    cases b
    · show (2 ^ 32 - 1).testBit i = _
      rw [Nat.testBit_two_pow_sub_one]
      rfl
    · show (0 : Nat).testBit i = _
      rw [Nat.zero_testBit]
      rfl
  rw [hf]
  by_cases hi : i < 32
  · rw [wordAt_getD l j hi, List.getD_eq_getElem?_getD (l := List.map _ _), List.getElem?_map, List.getElem?_range hi]
    show _ = (l.getD (32 * j + i) false == b)
    rw [decide_eq_true hi]
    cases l.getD (32 * j + i) false <;> cases b <;> rfl
  · rw [decide_eq_false hi, List.getD_eq_getElem?_getD, List.getElem?_eq_none (by unfold wordAt; rw [List.length_take]; omega), List.getD_eq_getElem?_getD, List.getElem?_eq_none (by rw [List.length_map, List.length_range]; omega)]
    simp
theorem val_take (w : List Bool) (k : Nat) : val w % 2 ^ k = val (w.take k) := by
  refine Nat.eq_of_testBit_eq fun i => ?_
  rw [Nat.testBit_mod_two_pow, val_tb, val_tb, List.getD_eq_getElem?_getD, List.getD_eq_getElem?_getD, List.getElem?_take]
  by_cases hi : i < k <;> simp [hi]
end TW
end

section
set_option Elab.async false
set_option linter.all false
/-! How many texts of m signs lead from k open knots to none; the first one of each even row is the count of woods. -/
namespace TW
def bal : Nat → Nat → Nat
  | 0, 0 => 1
  | 0, _ + 1 => 0
  | m + 1, 0 => bal m 1
  | m + 1, k + 1 => bal m (k + 2) + bal m k
end TW
end

section
set_option Elab.async false
set_option linter.all false
/-! Woods by the depths of their knots; their rows; their numbers. -/
namespace TW
def dAt (ds : List Nat) (k : Nat) : Nat := ds.getD k 0
/-- how many are open ahead of the knot k -/
def opn (ds : List Nat) : Nat → Nat
  | 0 => 0
  | k + 1 => dAt ds k + 1
/-- the way of the knots that may be its elder -/
def way (ds : List Nat) : Nat → List Int
  | 0 => [-1]
  | k + 1 => (way ds k).take (dAt ds k + 1) ++ [(k : Int)]
def Dok (ds : List Nat) : Prop := ∀ k, k < ds.length → dAt ds k ≤ opn ds k
def eld (ds : List Nat) (k : Nat) : Int := (way ds k).getD (dAt ds k) 0
def elds (ds : List Nat) : List Int := (List.range ds.length).map (eld ds)
theorem way_len {ds : List Nat} (h : Dok ds) : ∀ k, k ≤ ds.length → (way ds k).length = opn ds k + 1
  | 0, _ => rfl
  | k + 1, hk => by
    show ((way ds k).take (dAt ds k + 1) ++ [(k : Int)]).length = dAt ds k + 1 + 1
    have := way_len h k (by omega)
    have := h k (by omega)
    rw [List.length_append, List.length_take]
    simp only [List.length_cons, List.length_nil]
    omega
theorem way_zero {ds : List Nat} (h : Dok ds) : ∀ k, k ≤ ds.length → (way ds k)[0]? = some (-1)
  | 0, _ => rfl
  | k + 1, hk => by
    show ((way ds k).take (dAt ds k + 1) ++ [(k : Int)])[0]? = some (-1)
    have e := way_zero h k (by omega)
    have hl := way_len h k (by omega)
    rw [List.getElem?_append_left (by rw [List.length_take]; omega), List.getElem?_take_of_lt (by omega)]
    exact e
theorem way_at {ds : List Nat} (h : Dok ds) : ∀ (k j : Nat) (x : Int), k ≤ ds.length → (way ds k)[j + 1]? = some x → ∃ v : Nat, x = (v : Int) ∧ v < k ∧ dAt ds v = j
  | 0, j, x, _, e => by cases e
  | k + 1, j, x, hk, e => by
    have e : ((way ds k).take (dAt ds k + 1) ++ [(k : Int)])[j + 1]? = some x := e
    have hl := way_len h k (by omega)
    have hd := h k (by omega)
    have hl2 : ((way ds k).take (dAt ds k + 1)).length = dAt ds k + 1 := by rw [List.length_take]; omega
    by_cases hj : j + 1 < dAt ds k + 1
    · rw [List.getElem?_append_left (by omega), List.getElem?_take_of_lt hj] at e
      obtain ⟨v, hv, hlt, hdv⟩ := way_at h k j x (by omega) e
      exact ⟨v, hv, by omega, hdv⟩
    · rw [List.getElem?_append_right (by omega), hl2] at e
      have e0 : j + 1 - (dAt ds k + 1) = 0 := by
        have := (List.getElem?_eq_some_iff.mp e).1
        simp only [List.length_cons, List.length_nil] at this
        omega
      rw [e0] at e
      have e := Option.some.inj e
      exact ⟨k, e.symm, by omega, by omega⟩
theorem way_lt {ds : List Nat} (h : Dok ds) : ∀ (k i j : Nat) (x y : Int), k ≤ ds.length → i < j → (way ds k)[i]? = some x → (way ds k)[j]? = some y → x < y
  | 0, i, j, x, y, _, hij, e1, e2 => by
    have := (List.getElem?_eq_some_iff.mp e2).1
    simp only [way, List.length_cons, List.length_nil] at this
    omega
  | k + 1, i, j, x, y, hk, hij, e1, e2 => by
    have hl := way_len h k (by omega)
    have hd := h k (by omega)
    have hl2 : ((way ds k).take (dAt ds k + 1)).length = dAt ds k + 1 := by rw [List.length_take]; omega
    have e2' : ((way ds k).take (dAt ds k + 1) ++ [(k : Int)])[j]? = some y := e2
    have e1' : ((way ds k).take (dAt ds k + 1) ++ [(k : Int)])[i]? = some x := e1
    by_cases hj : j < dAt ds k + 1
    · rw [List.getElem?_append_left (by omega), List.getElem?_take_of_lt hj] at e2'
      rw [List.getElem?_append_left (by omega), List.getElem?_take_of_lt (by omega)] at e1'
      exact way_lt h k i j x y (by omega) hij e1' e2'
    · rw [List.getElem?_append_right (by omega), hl2] at e2'
      have e0 : j - (dAt ds k + 1) = 0 := by
        have := (List.getElem?_eq_some_iff.mp e2').1
        simp only [List.length_cons, List.length_nil] at this
        omega
      rw [e0] at e2'
      have ey := Option.some.inj e2'
      rw [List.getElem?_append_left (by omega), List.getElem?_take_of_lt (by omega)] at e1'
      cases i with
      | zero =>
        rw [way_zero h k (by omega)] at e1'
        have := Option.some.inj e1'
        omega
      | succ i =>
        obtain ⟨v, hv, hlt, _⟩ := way_at h k i x (by omega) e1'
        omega
theorem eld_at {ds : List Nat} (h : Dok ds) {k : Nat} (hk : k < ds.length) : (way ds k)[dAt ds k]? = some (eld ds k) := by
  have hl := way_len h k (by omega)
  have hd := h k hk
  unfold eld List.getD
  rw [List.getElem?_eq_getElem (by omega)]
  rfl
theorem eld_top {ds : List Nat} (h : Dok ds) {k : Nat} (hk : k < ds.length) (e : eld ds k = -1) : dAt ds k = 0 := by
  have ha := eld_at h hk
  cases hd : dAt ds k with
  | zero => rfl
  | succ j =>
    rw [hd] at ha
    obtain ⟨v, hv, _⟩ := way_at h k j _ (by omega) ha
    omega
theorem eld_deep {ds : List Nat} (h : Dok ds) {k : Nat} (hk : k < ds.length) (e : eld ds k ≠ -1) : ∃ v : Nat, eld ds k = (v : Int) ∧ v < k ∧ dAt ds k = dAt ds v + 1 := by
  have ha := eld_at h hk
  cases hd : dAt ds k with
  | zero =>
    rw [hd, way_zero h k (by omega)] at ha
    exact absurd (Option.some.inj ha).symm e
  | succ j =>
    rw [hd] at ha
    obtain ⟨v, hv, hlt, hdv⟩ := way_at h k j _ (by omega) ha
    exact ⟨v, hv, hlt, by omega⟩
theorem elds_len (ds : List Nat) : (elds ds).length = ds.length := by unfold elds; rw [List.length_map, List.length_range]
theorem elds_at {ds : List Nat} {k : Nat} (hk : k < ds.length) : (elds ds)[k]? = some (eld ds k) := by
  unfold elds
  rw [List.getElem?_map, List.getElem?_range hk]
  rfl
/-- the elders tell the depths -/
theorem elds_inj {ds es : List Nat} (h1 : Dok ds) (h2 : Dok es) (e : elds ds = elds es) : ds = es := by
  have hl : ds.length = es.length := by rw [← elds_len ds, ← elds_len es, e]
  have key : ∀ k, k < ds.length → dAt ds k = dAt es k := by
    intro k
    induction k using Nat.strongRecOn with
    | _ k ih =>
      intro hk
      have ek : eld ds k = eld es k := by
        have a := elds_at hk
        have b := elds_at (ds := es) (k := k) (by omega)
        rw [e] at a
        rw [a] at b
        exact Option.some.inj b
      by_cases ht : eld ds k = -1
      · rw [eld_top h1 hk ht, eld_top h2 (by omega) (by rw [← ek]; exact ht)]
      · obtain ⟨v, hv, hlt, hd⟩ := eld_deep h1 hk ht
        obtain ⟨u, hu, hlu, hd2⟩ := eld_deep h2 (k := k) (by omega) (by rw [← ek]; exact ht)
        have : v = u := by omega
        subst this
        rw [hd, hd2, ih v hlt (by omega)]
  refine List.ext_getElem hl fun k a b => ?_
  have := key k a
  unfold dAt at this
  simpa [List.getD, a, b] using this
/-! ### rows -/
def pieceB (ds : List Nat) (k : Nat) : List Bool := List.replicate (opn ds k - dAt ds k) false ++ [true]
def rowP (ds : List Nat) (k : Nat) : List Bool := ((List.range k).map (pieceB ds)).flatten
def rowD (ds : List Nat) : List Bool := rowP ds ds.length ++ List.replicate (opn ds ds.length) false
theorem rowP_succ (ds : List Nat) (k : Nat) : rowP ds (k + 1) = rowP ds k ++ pieceB ds k := by
  unfold rowP
  rw [List.range_succ, List.map_append, List.flatten_append]
  simp
theorem rowP_len {ds : List Nat} (h : Dok ds) : ∀ k, k ≤ ds.length → (rowP ds k).length + opn ds k = 2 * k
  | 0, _ => rfl
  | k + 1, hk => by
    have := rowP_len h k (by omega)
    have := h k (by omega)
    rw [rowP_succ, List.length_append]
    show (rowP ds k).length + (List.replicate (opn ds k - dAt ds k) false ++ [true]).length + (dAt ds k + 1) = 2 * (k + 1)
    rw [List.length_append, List.length_replicate]
    simp only [List.length_cons, List.length_nil]
    omega
theorem rowD_len {ds : List Nat} (h : Dok ds) : (rowD ds).length = 2 * ds.length := by
  unfold rowD
  rw [List.length_append, List.length_replicate]
  exact rowP_len h _ (Nat.le_refl _)
/-- what may stand behind a height -/
def Vs : Nat → List Bool → Prop
  | h, [] => h = 0
  | h, false :: s => 0 < h ∧ Vs (h - 1) s
  | h, true :: s => Vs (h + 1) s
theorem vs_zeros : ∀ (m h : Nat) (s : List Bool), Vs h s → Vs (h + m) (List.replicate m false ++ s)
  | 0, h, s, v => v
  | m + 1, h, s, v => by
    rw [List.replicate_succ]
    refine ⟨by omega, ?_⟩
    show Vs (h + (m + 1) - 1) (List.replicate m false ++ s)
    rw [show h + (m + 1) - 1 = h + m by omega]
    exact vs_zeros m h s v
theorem vs_from {ds : List Nat} (h : Dok ds) : ∀ (m k : Nat), k + m = ds.length → Vs (opn ds k) (((List.range m).map fun i => pieceB ds (k + i)).flatten ++ List.replicate (opn ds ds.length) false)
  | 0, k, e => by
    have e : k = ds.length := by omega
    subst e
    have := vs_zeros (opn ds ds.length) 0 [] rfl
    rw [Nat.zero_add, List.append_nil] at this
    exact this
  | m + 1, k, e => by
    have ih := vs_from h m (k + 1) (by omega)
    have hd := h k (by omega)
    rw [List.range_succ_eq_map, List.map_cons, List.map_map, List.flatten_cons]
    have e1 : ((fun i => pieceB ds (k + i)) ∘ Nat.succ) = fun i => pieceB ds (k + 1 + i) := by
      funext i
      show pieceB ds (k + (i + 1)) = pieceB ds (k + 1 + i)
      rw [show k + (i + 1) = k + 1 + i by omega]
    rw [e1]
    show Vs (opn ds k) ((List.replicate (opn ds k - dAt ds (k + 0)) false ++ [true] ++ _) ++ _)
    rw [Nat.add_zero, List.append_assoc, List.append_assoc]
    have := vs_zeros (opn ds k - dAt ds k) (dAt ds k) (true :: (((List.range m).map fun i => pieceB ds (k + 1 + i)).flatten ++ List.replicate (opn ds ds.length) false)) ih
    rw [show dAt ds k + (opn ds k - dAt ds k) = opn ds k by omega] at this
    exact this
theorem vs_row {ds : List Nat} (h : Dok ds) : Vs 0 (rowD ds) := by
  have := vs_from h ds.length 0 (by omega)
  unfold rowD rowP
  have e : (fun i => pieceB ds (0 + i)) = pieceB ds := by funext i; rw [Nat.zero_add]
  rw [e] at this
  exact this
end TW
end

section
set_option Elab.async false
set_option linter.all false
/-! A number leads to its row; woods beside or upon one another. -/
namespace TW
theorem way_last {A : List Nat} (hA : Dok A) (h : 0 < A.length) : (way A A.length)[opn A A.length]? = some ((A.length : Int) - 1) := by
  obtain ⟨n, hn⟩ : ∃ n, A.length = n + 1 := ⟨A.length - 1, by omega⟩
  have hl := way_len hA n (by omega)
  have hd := hA n (by omega)
  rw [hn]
  show ((way A n).take (dAt A n + 1) ++ [(n : Int)])[dAt A n + 1]? = _
  rw [List.getElem?_append_right (by rw [List.length_take]; omega), List.length_take, Nat.min_eq_left (by omega), Nat.sub_self]
  show some (n : Int) = some (((n + 1 : Nat) : Int) - 1)
  congr 1
  omega
end TW
end

section
set_option Elab.async false
set_option linter.all false
set_option maxRecDepth 100000
set_option maxHeartbeats 4000000
namespace HD
open PySem PySem.W PySem.Calls PyProof.Rows

/-! the whole top in one run over a tree: no state between is written down -/
def topRunT (tb : String → Option Builtin) (p : Program) (w : World) (m : Nat) (ann : Option Value) : Nat → SharedT → Thread → Option SharedT
  | 0, _, _ => none
  | n + 1, s, t => match through t with
    | true => some s
    | false => match stepOk m ann t with
      | false => none
      | true => match stepT (denote tb) p w s t with
        | some (s', t') => topRunT tb p w m ann n s' t'
        | none => none
theorem topRun_of {tb : String → Option Builtin} {p : Program} {w : World} {m : Nat} {ann : Option Value} : ∀ {n : Nat} {s s' : SharedT} {t : Thread}, topRunT tb p w m ann n s t = some s' → topRun tb p w m ann n s.abs t = some s'.abs
  | 0, _, _, _, h => by cases h
  | n + 1, s, s', t, h => by
    unfold topRunT at h
    unfold topRun
    cases he : through t with
    | true => rw [he] at h; cases h; rfl
    | false =>
      rw [he] at h
      cases hk : stepOk m ann t with
      | false => rw [hk] at h; cases h
      | true =>
        rw [hk] at h
        cases hs : stepT (denote tb) p w s t with
        | none => rw [hs] at h; cases h
        | some r => obtain ⟨s₂, t₂⟩ := r; rw [hs] at h; rw [stepT_spec hs]; exact topRun_of h

/-- the boot's heap as a tree -/
def insAll : List Obj → Nat → BT → BT
  | [], _, t => t
  | o :: l, n, t => insAll l (n + 1) (t.ins n o)
noncomputable def bootTree (P : Params) : BT := insAll (boot_heap P).objs.toList 0 .nil
def bootSize : Nat := 11
noncomputable def bootT (w : World) (os : OsState) : SharedT := ⟨bootTree w.params, bootSize, (boot_heap w.params).life, #[], boot_drawn, boot_toks, os⟩
def looksT {α : Type} (Yf : Shared → α) (h0 : Heap) (p q : Program) (loose : List Str) (s : Shared) :=
  (staticsOk (importedModules p.main.body) h0 s.heap && namesBound p s.heap && gensDone s && laidKept h0 s.heap,
    openSeen q loose (importedModules p.main.body) (fun _ => true) true s, Yf s)
def bothT {α : Type} (Yf : Shared → α) (s0 : SharedT) (h0 : Heap) (m : Nat) (p q : Program) (loose : List Str) (M : Nat) (w : World) :=
  (topRunT treeTable p w m (some (.ref 6)) M s0 (topStub p)).map fun s => looksT Yf h0 p q loose s.abs
theorem boot_abs (P : Params) : absHeap (bootTree P) bootSize (boot_heap P).life = boot_heap P := by kernel_rfl
theorem boot_size (P : Params) : ((boot_heap P).isNs mainGlobals && (#[] : Array GenState).size == 0, (boot_heap P).objs.size, (boot_heap P).nsMap mainGlobals "__annotations__") = (true, bootSize, some (.ref 6)) := by kernel_rfl
theorem left_of {p q : Program} {loose : List Str} {α : Type} {Yf : Shared → α} {Ya : World → α} {M N : Nat} (e : opening p = plainProg p.main.scope.names) (f : ∀ s, fenceModules? p s = some s) (hN : Nat.ble 600 N = true) (le : Nat.ble M N = true)
    (both : ∀ w : World, (fun os => bothT Yf (bootT w os) (boot_heap w.params) bootSize p q loose M w) = fun _ => some (true, openGood q loose, Ya w)) :
    LeftO p q loose (fun _ => true) Yf Ya N := fun w => by
  obtain ⟨⟨h, gs, d, k, os⟩, e1, e'⟩ := Option.map_eq_some_iff.mp (boot_open e hN f w)
  obtain ⟨rfl, rfl, rfl, rfl⟩ : h = boot_heap w.params ∧ gs = Array.mk [] ∧ d = boot_drawn ∧ k = boot_toks := by simpa using e'
  have b := congrFun (both w) os
  unfold bothT at b
  obtain ⟨s, r, l⟩ := Option.map_eq_some_iff.mp b
  have r2 := topRun_of r
  have r3 := topRun_mono (N - M) _ _ _ _ r2
  rw [show M + (N - M) = N by have := Nat.le_of_ble_eq_true le; omega] at r3
  have eb : (bootT w os).abs = ⟨boot_heap w.params, Array.mk [], boot_drawn, boot_toks, os⟩ := by
    show Shared.mk (absHeap (bootTree w.params) bootSize (boot_heap w.params).life) (Array.mk []) boot_drawn boot_toks os = _
    rw [boot_abs]
  rw [eb] at r3
  obtain ⟨z1, z2, z3⟩ : _ ∧ _ ∧ _ := by simpa only [Prod.mk.injEq] using boot_size w.params
  obtain ⟨l1, l2, l3⟩ : _ ∧ _ ∧ _ := by simpa only [looksT, Prod.mk.injEq] using l
  have t : topFrom treeTable p w N ⟨boot_heap w.params, Array.mk [], boot_drawn, boot_toks, os⟩ = some s.abs := by
    unfold topFrom
    dsimp only
    rw [z1, z2, z3, r3]
    show (match staticsOk (importedModules p.main.body) (boot_heap w.params) s.abs.heap && namesBound p s.abs.heap && gensDone s.abs && laidKept (boot_heap w.params) s.abs.heap with | true => _ | false => _) = _
    rw [l1]
  unfold openEnds
  rw [e1]
  show (topFrom treeTable p w N _).map _ = _
  rw [t]
  exact congrArg some (Prod.ext l2 l3)
/-- a def as it is written -/
def recOf : Stmt → DefRec
  | .FunctionDef n a b _ _ _ sc _ _ pos => ⟨n, a, b, sc, pos⟩
  | _ => ⟨"", default, [], default, default⟩
end HD
lay_quick HD.bothT
end

section
set_option Elab.async false
set_option linter.all false
set_option maxRecDepth 100000
set_option maxHeartbeats 4000000
/-! the top in one run, looked at three times: each look is a theorem of its own, so that what the kernel keeps of one is let go before the next -/
namespace HD
open PySem PySem.W PySem.Calls PyProof.Rows
def oneA (s0 : SharedT) (h0 : Heap) (m : Nat) (p : Program) (M : Nat) (w : World) :=
  (topRunT treeTable p w m (some (.ref 6)) M s0 (topStub p)).map fun s => staticsOk (importedModules p.main.body) h0 s.abs.heap && namesBound p s.abs.heap && gensDone s.abs && laidKept h0 s.abs.heap
def oneB (s0 : SharedT) (m : Nat) (p q : Program) (loose : List Str) (M : Nat) (w : World) :=
  (topRunT treeTable p w m (some (.ref 6)) M s0 (topStub p)).map fun s => openSeen q loose (importedModules p.main.body) (fun _ => true) true s.abs
def oneC {α : Type} (Yf : Shared → α) (s0 : SharedT) (m : Nat) (p : Program) (M : Nat) (w : World) :=
  (topRunT treeTable p w m (some (.ref 6)) M s0 (topStub p)).map fun s => Yf s.abs
theorem three {α : Type} {Yf : Shared → α} {s0 : SharedT} {h0 : Heap} {m : Nat} {p q : Program} {loose : List Str} {M : Nat} {w : World} {a : α}
    (hA : oneA s0 h0 m p M w = some true) (hB : oneB s0 m p q loose M w = some (openGood q loose)) (hC : oneC Yf s0 m p M w = some a) :
    bothT Yf s0 h0 m p q loose M w = some (true, openGood q loose, a) := by
  unfold oneA at hA
  unfold oneB at hB
  unfold oneC at hC
  unfold bothT looksT
  obtain ⟨s, r, l⟩ := Option.map_eq_some_iff.mp hA
  rw [r] at hB hC ⊢
  have hB := Option.some.inj hB
  have hC := Option.some.inj hC
  exact congrArg some (Prod.ext l (Prod.ext hB hC))
theorem left_of3 {p q : Program} {loose : List Str} {α : Type} {Yf : Shared → α} {Ya : World → α} {M N : Nat} (e : opening p = plainProg p.main.scope.names) (f : ∀ s, fenceModules? p s = some s) (hN : Nat.ble 600 N = true) (le : Nat.ble M N = true)
    (hA : ∀ w : World, (fun os => oneA (bootT w os) (boot_heap w.params) bootSize p M w) = fun _ => some true) (hB : ∀ w : World, (fun os => oneB (bootT w os) bootSize p q loose M w) = fun _ => some (openGood q loose))
    (hC : ∀ w : World, (fun os => oneC Yf (bootT w os) bootSize p M w) = fun _ => some (Ya w)) : LeftO p q loose (fun _ => true) Yf Ya N :=
  left_of e f hN le fun w => funext fun os => three (congrFun (hA w) os) (congrFun (hB w) os) (congrFun (hC w) os)
/-- an object, read in the tree -/
def peekT (s : SharedT) (a : Nat) : Option Obj := match Nat.blt a s.n with
  | true => (match s.tree.get a with
    | some o => alive o
    | none => none)
  | false => none
theorem peek_get {s : SharedT} {a : Nat} {o : Obj} (h : peekT s a = some o) : s.abs.heap.get? a = some o := by
  unfold peekT at h
  cases hb : Nat.blt a s.n with
  | false => rw [hb] at h; cases h
  | true =>
    rw [hb] at h
    cases hg : s.tree.get a with
    | none => rw [hg] at h; cases h
    | some u =>
      rw [hg] at h
      have hlt : a < s.n := by
        have := Nat.le_of_ble_eq_true hb
        omega
      exact (abs_get hlt hg).trans h
theorem peek_all {s : SharedT} : ∀ {as : List Nat} {L : List (Option Obj)}, (∀ x ∈ L, x.isSome = true) → as.map (peekT s) = L → as.map s.abs.heap.get? = L
  | [], L, _, e => e
  | a :: as, [], _, e => by cases e
  | a :: as, x :: L, h, e => by
    obtain ⟨e1, e2⟩ := List.cons.inj e
    obtain ⟨o, ho⟩ := Option.isSome_iff_exists.mp (h x List.mem_cons_self)
    subst ho
    show s.abs.heap.get? a :: as.map s.abs.heap.get? = _
    rw [peek_get e1, peek_all (fun y hy => h y (List.mem_cons_of_mem _ hy)) e2]
def oneP (as ts : List Addr) (s0 : SharedT) (m : Nat) (p : Program) (M : Nat) (w : World) :=
  (topRunT treeTable p w m (some (.ref 6)) M s0 (topStub p)).map fun s => (as.map (peekT s), ts.map (peekT s))
theorem hC_km {K : Params → Frag} {as : List Addr} {e : ∀ P, as = (K P).map (·.1)} {ts : List Addr} {p : Program} {M : Nat}
    (h : ∀ w : World, (fun os => oneP as ts (bootT w os) bootSize p M w) = fun _ => some ((K w.params).map fun q => some q.2, ts.map fun _ => some (tabObj #[]))) :
    ∀ w : World, (fun os => oneC (kmHook K as e ts).obs (bootT w os) bootSize p M w) = fun _ => some ((kmHook K as e ts).val w) := fun w => funext fun os => by
  have h := congrFun (h w) os
  unfold oneP at h
  unfold oneC
  obtain ⟨s, r, l⟩ := Option.map_eq_some_iff.mp h
  obtain ⟨l1, l2⟩ := Prod.mk.inj l
  rw [r]
  show some (as.map s.abs.heap.get?, ts.map s.abs.heap.get?) = some ((K w.params).map fun q => some q.2, ts.map fun _ => some (tabObj #[]))
  rw [peek_all (fun x hx => by obtain ⟨q, _, rfl⟩ := List.mem_map.mp hx; rfl) l1, peek_all (fun x hx => by obtain ⟨q, _, rfl⟩ := List.mem_map.mp hx; rfl) l2]
end HD
lay_quick HD.oneP
theorem HD.oneP_eq : @HD.oneP = @PySem.W.Fast.tw13831889492591282369 := PySem.W.Fast.te13831889492591282369
lay_quick HD.oneA
lay_quick HD.oneB
theorem HD.oneA_eq : @HD.oneA = @PySem.W.Fast.tw6247638121477898359 := PySem.W.Fast.te6247638121477898359
theorem HD.oneB_eq : @HD.oneB = @PySem.W.Fast.tw4394042064226896843 := PySem.W.Fast.te4394042064226896843
end

set_option Elab.async false
set_option linter.all false
set_option maxRecDepth 100000
set_option maxHeartbeats 4000000
local macro_rules | `(tactic| walk_at "rd") => `(tactic| repeat (first | with_reducible refine L2.r_seq ?_ | with_reducible refine L2.r_next ?_ | with_reducible refine L2.r_asg ?_ | with_reducible refine L2.r_gname ?_ | with_reducible refine L2.r_ret ?_ | with_reducible refine L2.r_retN ?_ | with_reducible refine L2.r_drop ?_ | with_reducible refine L2.r_ifs ?_ | with_reducible refine L2.r_test ?_ | with_reducible refine L2.r_tB ?_ | with_reducible refine L2.r_not ?_ | with_reducible refine L2.r_and ?_ | with_reducible refine L2.r_or ?_ | with_reducible refine L2.r_isN ?_ | with_reducible refine L2.r_notN ?_ | with_reducible refine L2.r_op ?_ | with_reducible refine L2.r_un ?_ | with_reducible refine L2.r_rU ?_ | with_reducible refine L2.r_c ?_ | with_reducible refine L2.r_rI0 ?_ | with_reducible refine L2.r_ipI ?_ | with_reducible refine L2.r_bl ?_ | with_reducible refine L2.r_int ?_ | with_reducible refine L2.r_nil ?_ | with_reducible refine L2.r_cons ?_ | with_reducible refine L2.r_call ?_ | with_reducible refine L2.r_cB ?_ | with_reducible refine L2.r_lst ?_ | with_reducible refine L2.r_tup ?_ | with_reducible refine L2.r_bm ?_ | with_reducible refine L2.r_bm0 ?_ | with_reducible refine L2.r_sl ?_ | with_reducible refine L2.r_nopart ?_ | with_reducible refine L2.r_part ?_ | with_reducible refine L2.r_for ?_ | with_reducible refine L2.r_rng1 ?_ | with_reducible refine L2.r_rng2 ?_ | with_reducible refine L2.r_rng3 ?_ | with_reducible refine L2.r_ilist ?_ | with_reducible refine L2.r_itup ?_ | with_reducible refine L2.r_istr ?_ | with_reducible refine L2.r_lc ?_ | with_reducible refine L2.r_yes ?_ | with_reducible refine L2.r_ifE ?_ | with_reducible refine L2.r_chain ?_ | with_reducible refine L2.r_andV ?_ | with_reducible refine L2.r_orV ?_ | with_reducible refine L2.r_notV ?_ | with_reducible refine L2.r_fld ?_ | with_reducible refine L2.r_sfld ?_ | with_reducible refine L2.r_make ?_ | with_reducible refine L2.r_meth ?_ | with_reducible refine L2.r_rev ?_ | with_reducible refine L2.r_cBK ?_ | with_reducible refine L2.r_izip ?_ | with_reducible refine L2.r_ienum ?_ | with_reducible refine L2.r_lc2 ?_ | with_reducible refine L2.r_ienumS ?_ | with_reducible refine L2.r_rngD ?_ | with_reducible refine L2.r_dnew ?_ | with_reducible refine L2.r_binit ?_ | with_reducible refine L2.r_fstr ?_ | with_reducible refine L2.r_splace ?_ | with_reducible refine L2.r_place ?_ | with_reducible refine L2.r_raiseI ?_ | with_reducible refine L2.r_lrng ?_ | with_reducible refine L2.r_lrng3 ?_ | with_reducible refine L2.r_mod (by decide) ?_ | with_reducible refine L2.r_shr (by decide) ?_ | with_reducible refine L2.r_div (by decide) (by decide) ?_ | with_reducible refine L2.r_mulR (by decide) (by decide) ?_ | with_reducible refine L2.r_mulL (by decide) (by decide) ?_ | with_reducible refine L2.r_rEq rfl ?_ | with_reducible refine L2.r_rNe rfl ?_ | with_reducible refine L2.iteT ?_ | with_reducible refine L2.iteF ?_ | with_reducible refine L2.iteNT ?_ | with_reducible refine L2.iteNF ?_ | refine L2.r_var rfl ?_ | refine L2.r_aug rfl ?_ | dsimp only))
namespace TK
open PySem L2 TW
def top (i : Nat) : Stmt := PySem.Challenge.pw_tightwood_k31_woods_or_none.main.body.getD i (.Pass ⟨0, 0, 0, 0⟩)
abbrev s_NoRow_init : Stmt := inClass (top 5) 0
theorem sc_NoRow_init : FnScope ["self", "place"] ["self", "place"] (defScope s_NoRow_init) := ⟨rfl, rfl, rfl, by decide +kernel, rfl, by decide +kernel, by decide +kernel⟩
abbrev s_NoWood_init : Stmt := inClass (top 6) 0
theorem sc_NoWood_init : FnScope ["self", "place"] ["self", "place"] (defScope s_NoWood_init) := ⟨rfl, rfl, rfl, by decide +kernel, rfl, by decide +kernel, by decide +kernel⟩
abbrev s_is_whole : Stmt := top 9
theorem sc_is_whole : FnScope ["thing"] ["thing"] (defScope s_is_whole) := ⟨rfl, rfl, rfl, by decide +kernel, rfl, by decide +kernel, by decide +kernel⟩
abbrev s_is_within : Stmt := top 10
theorem sc_is_within : FnScope ["thing", "low", "high"] ["thing", "low", "high"] (defScope s_is_within) := ⟨rfl, rfl, rfl, by decide +kernel, rfl, by decide +kernel, by decide +kernel⟩
abbrev s_check_bit : Stmt := top 11
theorem sc_check_bit : FnScope ["bit"] ["bit"] (defScope s_check_bit) := ⟨rfl, rfl, rfl, by decide +kernel, rfl, by decide +kernel, by decide +kernel⟩
abbrev s_check_place : Stmt := top 12
theorem sc_check_place : FnScope ["place", "greatest"] ["place", "greatest"] (defScope s_check_place) := ⟨rfl, rfl, rfl, by decide +kernel, rfl, by decide +kernel, by decide +kernel⟩
abbrev s_ones_in : Stmt := top 20
theorem sc_ones_in : FnScope ["word", "ones"] ["word"] (defScope s_ones_in) := ⟨rfl, rfl, rfl, by decide +kernel, rfl, by decide +kernel, by decide +kernel⟩
abbrev s_is_row : Stmt := top 26
theorem sc_is_row : FnScope ["thing"] ["thing"] (defScope s_is_row) := ⟨rfl, rfl, rfl, by decide +kernel, rfl, by decide +kernel, by decide +kernel⟩
abbrev s_word_of : Stmt := top 27
theorem sc_word_of : FnScope ["signs"] ["signs"] (defScope s_word_of) := ⟨rfl, rfl, rfl, by decide +kernel, rfl, by decide +kernel, by decide +kernel⟩
abbrev s_words_of : Stmt := top 28
theorem sc_words_of : FnScope ["text"] ["text"] (defScope s_words_of) := ⟨rfl, rfl, rfl, by decide +kernel, rfl, by decide +kernel, by decide +kernel⟩
theorem lc_words_of_0 : LcScope ["text"] (defScope s_words_of) { kind := .function, names := [(".0", .local), ("low", .local), ("word_of", .globalImplicit), ("WORD_BITS", .globalImplicit), ("text", .free)], isGenerator := false, isCoroutine := false, more := [] } "low" ["low", "text"] [0] := ⟨rfl, by decide +kernel, by decide +kernel, by decide +kernel, by decide +kernel, rfl, rfl, rfl, by decide +kernel⟩
abbrev s_Bits_init : Stmt := inClass (top 30) 0
theorem sc_Bits_init : FnScope ["self", "text"] ["self", "text"] (defScope s_Bits_init) := ⟨rfl, rfl, rfl, by decide +kernel, rfl, by decide +kernel, by decide +kernel⟩
abbrev s_Bits_size : Stmt := inClass (top 30) 1
theorem sc_Bits_size : FnScope ["self"] ["self"] (defScope s_Bits_size) := ⟨rfl, rfl, rfl, by decide +kernel, rfl, by decide +kernel, by decide +kernel⟩
abbrev s_Bits_words : Stmt := inClass (top 30) 3
theorem sc_Bits_words : FnScope ["self"] ["self"] (defScope s_Bits_words) := ⟨rfl, rfl, rfl, by decide +kernel, rfl, by decide +kernel, by decide +kernel⟩
abbrev s_running_sums : Stmt := top 35
theorem sc_running_sums : FnScope ["numbers", "sums", "number"] ["numbers"] (defScope s_running_sums) := ⟨rfl, rfl, rfl, by decide +kernel, rfl, by decide +kernel, by decide +kernel⟩
abbrev s_table_of_words : Stmt := top 36
theorem sc_table_of_words : FnScope ["words", "blocks"] ["words"] (defScope s_table_of_words) := ⟨rfl, rfl, rfl, by decide +kernel, rfl, by decide +kernel, by decide +kernel⟩
theorem lc_table_of_words_0 : LcScope ["words", "blocks"] (defScope s_table_of_words) { kind := .function, names := [(".0", .local), ("low", .local), ("BLOCK_WORDS", .globalImplicit), ("words", .free)], isGenerator := false, isCoroutine := false, more := [] } "low" ["low", "words"] [0] := ⟨rfl, by decide +kernel, by decide +kernel, by decide +kernel, by decide +kernel, rfl, rfl, rfl, by decide +kernel⟩
theorem lc_table_of_words_1 : LcScope ["words", "blocks"] (defScope s_table_of_words) { kind := .function, names := [(".0", .local), ("block", .local), ("sum", .globalImplicit)], isGenerator := false, isCoroutine := false, more := [] } "block" ["block"] [] := ⟨rfl, by decide +kernel, by decide +kernel, by decide +kernel, by decide +kernel, rfl, rfl, rfl, by decide +kernel⟩
theorem lc_table_of_words_2 (sc₀ : Scope) : LcScope ["block"] sc₀ { kind := .function, names := [(".0", .local), ("word", .local), ("ones_in", .globalImplicit)], isGenerator := false, isCoroutine := false, more := [] } "word" ["word"] [] := ⟨rfl, by decide +kernel, by decide +kernel, (fun y hy h => absurd h ((by decide +kernel : ∀ y ∈ ({ kind := .function, names := [(".0", .local), ("word", .local), ("ones_in", .globalImplicit)], isGenerator := false, isCoroutine := false, more := [] } : Scope).names, y.2 ≠ NameKind.free) y hy)), by decide +kernel, rfl, rfl, rfl, by decide +kernel⟩
abbrev s_Counts_init : Stmt := inClass (top 37) 0
theorem sc_Counts_init : FnScope ["self", "bits"] ["self", "bits"] (defScope s_Counts_init) := ⟨rfl, rfl, rfl, by decide +kernel, rfl, by decide +kernel, by decide +kernel⟩
abbrev s_Counts_ones_ahead : Stmt := inClass (top 37) 6
theorem sc_Counts_ones_ahead : FnScope ["self", "place", "number", "block", "ones", "word", "rest"] ["self", "place"] (defScope s_Counts_ones_ahead) := ⟨rfl, rfl, rfl, by decide +kernel, rfl, by decide +kernel, by decide +kernel⟩
abbrev s_Counts_ahead : Stmt := inClass (top 37) 2
theorem sc_Counts_ahead : FnScope ["self", "bit", "place", "ones"] ["self", "bit", "place"] (defScope s_Counts_ahead) := ⟨rfl, rfl, rfl, by decide +kernel, rfl, by decide +kernel, by decide +kernel⟩
abbrev s_heights_of : Stmt := top 39
theorem sc_heights_of : FnScope ["text", "begin", "height", "heights", "sign"] ["text", "begin"] (defScope s_heights_of) := ⟨rfl, rfl, rfl, by decide +kernel, rfl, by decide +kernel, by decide +kernel⟩
abbrev s_check_row : Stmt := top 45
theorem sc_check_row : FnScope ["text", "height", "place", "sign"] ["text"] (defScope s_check_row) := ⟨rfl, rfl, rfl, by decide +kernel, rfl, by decide +kernel, by decide +kernel⟩
abbrev s_Heights_init : Stmt := inClass (top 41) 0
theorem sc_Heights_init : FnScope ["self", "length", "table", "often_least"] ["self", "length", "table", "often_least"] (defScope s_Heights_init) := ⟨rfl, rfl, rfl, by decide +kernel, rfl, by decide +kernel, by decide +kernel⟩
abbrev s_Pairs_opens_ahead : Stmt := inClass (top 46) 4
theorem sc_Pairs_opens_ahead : FnScope ["self", "place"] ["self", "place"] (defScope s_Pairs_opens_ahead) := ⟨rfl, rfl, rfl, by decide +kernel, rfl, by decide +kernel, by decide +kernel⟩
abbrev s_Heights_height : Stmt := inClass (top 41) 9
theorem sc_Heights_height : FnScope ["self", "place"] ["self", "place"] (defScope s_Heights_height) := ⟨rfl, rfl, rfl, by decide +kernel, rfl, by decide +kernel, by decide +kernel⟩
abbrev s_Heights_size : Stmt := inClass (top 41) 7
theorem sc_Heights_size : FnScope ["self"] ["self"] (defScope s_Heights_size) := ⟨rfl, rfl, rfl, by decide +kernel, rfl, by decide +kernel, by decide +kernel⟩
abbrev s_Pairs_init : Stmt := inClass (top 46) 0
theorem sc_Pairs_init : FnScope ["self", "text", "lows", "begins", "heights", "table"] ["self", "text"] (defScope s_Pairs_init) := ⟨rfl, rfl, rfl, by decide +kernel, rfl, by decide +kernel, by decide +kernel⟩
theorem lc_Pairs_init_0 : LcScope ["self", "text", "lows", "begins", "heights", "table"] (defScope s_Pairs_init) { kind := .function, names := [(".0", .local), ("low", .local), ("self", .free)], isGenerator := false, isCoroutine := false, more := [] } "low" ["low", "self"] [0] := ⟨rfl, by decide +kernel, by decide +kernel, by decide +kernel, by decide +kernel, rfl, rfl, rfl, by decide +kernel⟩
theorem lc_Pairs_init_1 : LcScope2 ["self", "text", "lows", "begins", "heights", "table"] (defScope s_Pairs_init) { kind := .function, names := [(".0", .local), ("low", .local), ("begin", .local), ("heights_of", .globalImplicit), ("STRETCH_BITS", .globalImplicit), ("text", .free)], isGenerator := false, isCoroutine := false, more := [] } "low" "begin" ["low", "begin", "text"] [1] := ⟨rfl, by decide +kernel, by decide +kernel, by decide +kernel, by decide +kernel, rfl, rfl, rfl, rfl, rfl, by decide +kernel⟩
theorem lc_Pairs_init_2 : LcScope2 ["self", "text", "lows", "begins", "heights", "table"] (defScope s_Pairs_init) { kind := .function, names := [(".0", .local), ("begin", .local), ("some", .local), ("min", .globalImplicit), ("max", .globalImplicit)], isGenerator := false, isCoroutine := false, more := [] } "begin" "some" ["begin", "some"] [] := ⟨rfl, by decide +kernel, by decide +kernel, by decide +kernel, by decide +kernel, rfl, rfl, rfl, rfl, rfl, by decide +kernel⟩
theorem lc_Pairs_init_3 : LcScope ["self", "text", "lows", "begins", "heights", "table"] (defScope s_Pairs_init) { kind := .function, names := [(".0", .local), ("some", .local), ("min", .globalImplicit)], isGenerator := false, isCoroutine := false, more := [] } "some" ["some"] [] := ⟨rfl, by decide +kernel, by decide +kernel, by decide +kernel, by decide +kernel, rfl, rfl, rfl, by decide +kernel⟩
abbrev s_look_at : Stmt := top 50
theorem sc_look_at : FnScope ["elders", "path", "k", "elder"] ["elders"] (defScope s_look_at) := ⟨rfl, rfl, rfl, by decide +kernel, rfl, by decide +kernel, by decide +kernel⟩
abbrev s_depths_of : Stmt := top 53
theorem sc_depths_of : FnScope ["elders", "depths", "elder"] ["elders"] (defScope s_depths_of) := ⟨rfl, rfl, rfl, by decide +kernel, rfl, by decide +kernel, by decide +kernel⟩
abbrev s_row_of : Stmt := top 51
theorem sc_row_of : FnScope ["elders", "signs", "still_opened", "depth"] ["elders"] (defScope s_row_of) := ⟨rfl, rfl, rfl, by decide +kernel, rfl, by decide +kernel, by decide +kernel⟩
abbrev s_Openings_init : Stmt := inClass (top 56) 0
theorem sc_Openings_init : FnScope ["self", "pairs"] ["self", "pairs"] (defScope s_Openings_init) := ⟨rfl, rfl, rfl, by decide +kernel, rfl, by decide +kernel, by decide +kernel⟩
abbrev s_Opened_init : Stmt := inClass (top 58) 0
theorem sc_Opened_init : FnScope ["self", "elders"] ["self", "elders"] (defScope s_Opened_init) := ⟨rfl, rfl, rfl, by decide +kernel, rfl, by decide +kernel, by decide +kernel⟩
abbrev s_Openings_many_knots : Stmt := inClass (top 56) 1
theorem sc_Openings_many_knots : FnScope ["self"] ["self"] (defScope s_Openings_many_knots) := ⟨rfl, rfl, rfl, by decide +kernel, rfl, by decide +kernel, by decide +kernel⟩
abbrev s_law_cell_at : Stmt := top 60
theorem sc_law_cell_at : FnScope ["_law_script", "_law_k"] ["_law_script", "_law_k"] (defScope s_law_cell_at) := ⟨rfl, rfl, rfl, by decide +kernel, rfl, by decide +kernel, by decide +kernel⟩
abbrev s_law_mixed : Stmt := top 61
theorem sc_law_mixed : FnScope ["_law_cell", "_law_k", "_law_number"] ["_law_cell", "_law_k"] (defScope s_law_mixed) := ⟨rfl, rfl, rfl, by decide +kernel, rfl, by decide +kernel, by decide +kernel⟩
abbrev s_law_elders : Stmt := top 62
theorem sc_law_elders : FnScope ["_law_cell", "_law_many", "_law_found", "_law_way", "_law_left", "_law_k", "_law_up", "_law_mixed_here"] ["_law_cell", "_law_many"] (defScope s_law_elders) := ⟨rfl, rfl, rfl, by decide +kernel, rfl, by decide +kernel, by decide +kernel⟩
abbrev s_law_wood : Stmt := top 63
theorem sc_law_wood : FnScope ["_law_script", "_law_at", "_law_number", "_law_many"] ["_law_script", "_law_at"] (defScope s_law_wood) := ⟨rfl, rfl, rfl, by decide +kernel, rfl, by decide +kernel, by decide +kernel⟩
abbrev s_law_is : Stmt := top 64
theorem sc_law_is : FnScope ["_law_found", "_law_due_here"] ["_law_found", "_law_due_here"] (defScope s_law_is) := ⟨rfl, rfl, rfl, by decide +kernel, rfl, by decide +kernel, by decide +kernel⟩
abbrev s_law_kind : Stmt := top 65
theorem sc_law_kind : FnScope ["_law_e", "_law_some"] ["_law_e"] (defScope s_law_kind) := ⟨rfl, rfl, rfl, by decide +kernel, rfl, by decide +kernel, by decide +kernel⟩
abbrev s_law_due : Stmt := top 66
theorem sc_law_due : FnScope ["_law_elders_here", "_law_knot", "_law_elder", "_law_now"] ["_law_elders_here"] (defScope s_law_due) := ⟨rfl, rfl, rfl, by decide +kernel, rfl, by decide +kernel, by decide +kernel⟩
abbrev s_law_refused : Stmt := top 67
theorem sc_law_refused : FnScope ["_law_elders_here", "_law_due_here", "_law_way", "_law_refused_here", "_law_e"] ["_law_elders_here", "_law_due_here", "_law_way"] (defScope s_law_refused) := ⟨rfl, rfl, rfl, by decide +kernel, rfl, by decide +kernel, by decide +kernel⟩
abbrev s_law_told : Stmt := top 68
theorem sc_law_told : FnScope ["_law_elders_here", "_law_handed", "_law_due_here", "_law_found"] ["_law_elders_here"] (defScope s_law_told) := ⟨rfl, rfl, rfl, by decide +kernel, rfl, by decide +kernel, by decide +kernel⟩
theorem lc_law_told_0 : LcScope ["_law_elders_here", "_law_handed", "_law_due_here", "_law_found"] (defScope s_law_told) { kind := .function, names := [(".0", .local), ("_law_one", .local), ("isinstance", .globalImplicit), ("bool", .globalImplicit)], isGenerator := false, isCoroutine := false, more := [] } "_law_one" ["_law_one"] [] := ⟨rfl, by decide +kernel, by decide +kernel, by decide +kernel, by decide +kernel, rfl, rfl, rfl, by decide +kernel⟩
abbrev s_law_spoiled : Stmt := top 69
theorem sc_law_spoiled : FnScope ["_law_elders_here", "_law_number", "_law_at", "_law_some", "_law_one"] ["_law_elders_here", "_law_number"] (defScope s_law_spoiled) := ⟨rfl, rfl, rfl, by decide +kernel, rfl, by decide +kernel, by decide +kernel⟩
abbrev s_law : Stmt := top 70
theorem sc_law : FnScope ["_law_script", "_law_k", "_law_elders_here", "_law_thing"] ["_law_script"] (defScope s_law) := ⟨rfl, rfl, rfl, by decide +kernel, rfl, by decide +kernel, by decide +kernel⟩
/-- a row of truths as a text of signs -/
def signs (l : List Bool) : Str := ⟨(l.map fun b => if b then 49 else 48).toArray⟩
theorem and15 (m : Nat) : Builtin.bitAnd (m : Int) 15 = ((m % 16 : Nat) : Int) := by
  unfold Builtin.bitAnd
  rw [decide_eq_true (Int.natCast_nonneg m), decide_eq_true (by decide : (0 : Int) ≤ 15)]
  show ((m &&& 15 : Nat) : Int) = _
  rw [show (15 : Nat) = 2 ^ 4 - 1 by decide, Nat.and_two_pow_sub_one_eq_mod]
theorem shr4 (m : Nat) : (m : Int) / 2 ^ (4 : Int).toNat = ((m / 16 : Nat) : Int) := by
  show (m : Int) / 16 = _
  omega
theorem four_at (r : Nat) (h : r < 16) : atI (fours.map fun n : Nat => V.int (n : Int)) (r : Int) = some (.int (pc r)) := by
  refine atI_nat ?_
  rw [List.getElem?_map, fours_eq r h]
  rfl
theorem signs_len (l : List Bool) : (signs l).length = l.length := by
  show (l.map _).toArray.size = _
  rw [List.size_toArray, List.length_map]
theorem rep_signs (b : Bool) (k : Nat) : repS (sgn (if b then 49 else 48)) k = signs (List.replicate k b) := by
  refine ext_cps ?_
  show (List.replicate k [if b then 49 else 48]).flatten.toArray.toList = ((List.replicate k b).map _).toArray.toList
  rw [List.toList_toArray, List.toList_toArray, List.map_replicate]
  induction k with
  | zero => rfl
  | succ k ih =>
    rw [List.replicate_succ, List.flatten_cons, ih, List.replicate_succ]
    rfl
theorem signs_cps (l : List Bool) : (signs l).cps.toList = l.map fun b => if b then 49 else 48 := by
  show (l.map _).toArray.toList = _
  rw [List.toList_toArray]
theorem signs_bits (l : List Bool) : IB.bits (signs l).cps.toList := fun c hc => by
  rw [signs_cps] at hc
  obtain ⟨b, _, rfl⟩ := List.mem_map.mp hc
  cases b
  · exact .inl rfl
  · exact .inr rfl
theorem signs_append (a b : List Bool) : signs a ++ signs b = signs (a ++ b) := by
  refine ext_cps ?_
  show ((signs a).cps ++ (signs b).cps).toList = _
  rw [Array.toList_append, signs_cps, signs_cps, signs_cps, List.map_append]
theorem drop_take_min {α : Type} (l : List α) (a b : Nat) : (l.drop (min a l.length)).take (min b l.length - min a l.length) = (l.drop a).take (b - a) := by
  by_cases h : a ≤ l.length
  · rw [Nat.min_eq_left h]
    by_cases h2 : b ≤ l.length
    · rw [Nat.min_eq_left h2]
    · rw [Nat.min_eq_right (by omega), List.take_of_length_le (by rw [List.length_drop]; omega), List.take_of_length_le (by rw [List.length_drop]; omega)]
  · have e : min a l.length = l.length := by omega
    rw [e, List.drop_of_length_le (Nat.le_refl _), List.drop_of_length_le (by omega)]
    simp
theorem cut_signs (l : List Bool) (a b : Nat) : cutS (signs l) (some (a : Int)) (some (b : Int)) = signs ((l.drop a).take (b - a)) := by
  refine ext_cps ?_
  show (List.take _ (List.drop _ _)).toArray.toList = _
  rw [List.toList_toArray, HT.sIx_nat, HT.sIx_nat]
  have e : (signs l).cps.size = l.length := signs_len l
  rw [e, signs_cps, signs_cps, List.map_take, List.map_drop]
  have := drop_take_min (l.map fun b => if b = true then 49 else 48) a b
  rw [List.length_map] at this
  exact this
theorem cutV_nat (xs : List V) (a b : Nat) : cutV xs (some (a : Int)) (some (b : Int)) = (xs.drop a).take (b - a) := by
  unfold cutV
  rw [HT.sIx_nat, HT.sIx_nat]
  exact drop_take_min xs a b
theorem cnt_signs (l : List Bool) : cntS (signs l) 49 = l.count true ∧ cntS (signs l) 48 + cntS (signs l) 49 = l.length := by
  unfold cntS
  rw [signs_cps]
  induction l with
  | nil => exact ⟨rfl, rfl⟩
  | cons b r ih => cases b <;> simp [List.count_cons] <;> omega
theorem rev_v2 (l : List Bool) : IB.v2 (revS (signs l)).cps.toList = val l := by
  show IB.v2 (signs l).cps.toList.reverse.toArray.toList = _
  rw [List.toList_toArray, signs_cps, ← List.map_reverse]
  unfold IB.v2
  rw [List.foldl_map]
  have e := val_rev l 0
  rw [Nat.zero_mul, Nat.zero_add] at e
  rw [← e]
  congr 1
  funext a b
  cases b <;> rfl
/-- ints -/
abbrev nV (ns : List Nat) : List V := ns.map fun n : Nat => V.int n
theorem nV_ints (ns : List Nat) : nV ns = (ns.map fun n : Nat => (n : Int)).map V.int := by rw [List.map_map]; rfl
theorem nV_range (f : Nat → Nat) (i : Nat) : nV ((List.range (i + 1)).map f) = nV ((List.range i).map f) ++ [V.int (f i : Nat)] := by
  unfold nV
  rw [List.range_succ, List.map_append, List.map_append]
  rfl
theorem sum_cast (ns : List Nat) : (ns.map fun n : Nat => (n : Int)).sum = (ns.sum : Nat) := by
  induction ns with
  | nil => rfl
  | cons n r ih => rw [List.map_cons, List.sum_cons, ih, List.sum_cons]; omega
theorem stepsN_nat (n d : Nat) (hd : 0 < d) : stepsN 0 (n : Int) (d : Int) = (n + d - 1) / d := by
  unfold stepsN
  rw [show (n : Int) - 0 + (d : Int) - 1 = ((n + d - 1 : Nat) : Int) by omega, ← Int.natCast_ediv, Int.toNat_natCast]
theorem few {n : Nat} (h : n ≤ 1000) : n ≤ sizeLine := Nat.le_of_lt (small1000 h)
theorem small20000 {n : Nat} (h : n ≤ 100000) : n < sizeLine := Nat.lt_of_le_of_lt h (by decide)
theorem sign_of {l : List Bool} {i c : Nat} (h : (signs l).cps[i]? = some c) : ∃ b, l[i]? = some b ∧ c = if b then 49 else 48 := by
  have e : (signs l).cps.toList[i]? = some c := by rw [Array.getElem?_toList]; exact h
  rw [signs_cps, List.getElem?_map] at e
  cases hb : l[i]? with
  | none => rw [hb] at e; cases e
  | some b =>
    rw [hb] at e
    exact ⟨b, rfl, (Option.some.inj e).symm⟩
theorem at_lt {α : Type} {l : List α} {i : Nat} {b : α} (h : l[i]? = some b) : i < l.length := (List.getElem?_eq_some_iff.mp h).1

/-- a thing of any of the kinds that are handed in -/
def isI : V → Bool
  | .int _ => true
  | _ => false
def inI : V → Int → Int → Bool
  | .int i, lo, hi => decide (lo ≤ i) && decide (i ≤ hi)
  | _, _, _ => false
theorem inI_int (i lo hi : Int) : inI (.int i) lo hi = (decide (lo ≤ i) && decide (i ≤ hi)) := rfl
def Any (K : PySem.W.Frag) (H : Hp) (x : V) : Prop := ∃ t b1 b2, TyOf K H x t ∧ PySem.W.kitOne K t (.type "int") = some b1 ∧ PySem.W.kitOne K t (.type "bool") = some b2 ∧ (b1 && !b2) = isI x
section
variable {K : PySem.W.Frag} {H H' : Hp}
theorem any_int (i : Int) : Any K H (.int i) := ⟨_, true, false, .int i, by rfl, by rfl, rfl⟩
theorem any_bl (b : Bool) : Any K H (.bl b) := ⟨_, true, true, .bl b, by rfl, by rfl, rfl⟩
theorem any_non : Any K H .non := ⟨_, false, false, .non, by rfl, by rfl, rfl⟩
theorem any_str (z : Str) : Any K H (.str z) := ⟨_, false, false, .str z, by rfl, by rfl, rfl⟩
theorem any_tup {a : Addr} {xs : List V} (h : H a = some (.tup xs)) : Any K H (.ref a) := ⟨_, false, false, .tup h, by rfl, by rfl, rfl⟩
theorem any_lst {a : Addr} {xs : List V} (h : H a = some (.lst xs)) : Any K H (.ref a) := ⟨_, false, false, .lst h, by rfl, by rfl, rfl⟩
theorem TyOf.same {x : V} {t : Value} (s : Same H H') (h : TyOf K H x t) : TyOf K H' x t := by
  cases h with
  | non => exact .non
  | bl b => exact .bl b
  | int i => exact .int i
  | str z => exact .str z
  | flt z => exact .flt z
  | lst e => exact .lst (s _ _ e)
  | frz e => exact .frz (s _ _ e)
  | tup e => exact .tup (s _ _ e)
  | dK e => exact .dK (s _ _ e)
  | dT e => exact .dT (s _ _ e)
  | ins e cl ha hn htk hm => exact .ins (s _ _ e) cl ha hn htk hm
theorem Any.same {x : V} (s : Same H H') (h : Any K H x) : Any K H' x := let ⟨t, b1, b2, h1, r⟩ := h; ⟨t, b1, b2, TyOf.same s h1, r⟩
theorem isI_of {x : V} (h : isI x = true) : ∃ i, x = .int i := by cases x <;> first | exact ⟨_, rfl⟩ | cases h
theorem inI_of {x : V} {lo hi : Int} (h : inI x lo hi = true) : ∃ i, x = .int i ∧ lo ≤ i ∧ i ≤ hi := by
  cases x <;> first | cases h | skip
  rename_i i
  have h : (decide (lo ≤ i) && decide (i ≤ hi)) = true := h
  rw [Bool.and_eq_true] at h
  exact ⟨i, rfl, of_decide_eq_true h.1, of_decide_eq_true h.2⟩
end
theorem word_at {l : List Bool} {j : Nat} (h : j < manyW l.length) : atI (nV (wordsOf l)) (j : Int) = some (.int (val (wordAt l j) : Nat)) := by
  refine atI_nat ?_
  unfold nV TW.wordsOf
  rw [List.getElem?_map, List.getElem?_map, List.getElem?_range h]
  rfl

theorem emod_nat (r : Int) (n : Nat) : ∃ k : Nat, r % ((n : Int) + 1) = (k : Int) ∧ k ≤ n := by
  have h0 := Int.emod_nonneg r (show ((n : Int) + 1) ≠ 0 by omega)
  have h1 := Int.emod_lt_of_pos r (show (0 : Int) < (n : Int) + 1 by omega)
  exact ⟨(r % ((n : Int) + 1)).toNat, by omega, by omega⟩
def fourT : List V := [.str "0000", .str "1000", .str "0100", .str "1100", .str "0010", .str "1010", .str "0110", .str "1110", .str "0001", .str "1001", .str "0101", .str "1101", .str "0011", .str "1011", .str "0111", .str "1111"]

theorem bit_in {x : V} (h : inI x 0 1 = true) : ∃ b : Bool, x = .int (b.toNat : Nat) := by
  obtain ⟨i, rfl, h0, h1⟩ := inI_of h
  have : i = 0 ∨ i = 1 := by omega
  rcases this with rfl | rfl
  · exact ⟨false, rfl⟩
  · exact ⟨true, rfl⟩
theorem and_mask (m k : Nat) {j : Int} (h : j = (k : Int)) : Builtin.bitAnd (m : Int) (1 * 2 ^ j.toNat - 1) = ((m % 2 ^ k : Nat) : Int) := by
  subst h
  rw [Int.toNat_natCast, Int.one_mul]
  have e : ((2 : Int) ^ k - 1) = ((2 ^ k - 1 : Nat) : Int) := by
    have : 1 ≤ 2 ^ k := Nat.one_le_two_pow
    rw [Int.natCast_sub this, Int.natCast_pow]
    rfl
  rw [e]
  unfold Builtin.bitAnd
  rw [decide_eq_true (Int.natCast_nonneg m), decide_eq_true (Int.natCast_nonneg (2 ^ k - 1))]
  show ((m &&& (2 ^ k - 1) : Nat) : Int) = _
  rw [Nat.and_two_pow_sub_one_eq_mod]
theorem or_full {n : Nat} (h : n < 2 ^ 32) : n ||| 4294967295 = 4294967295 := by
  refine Nat.eq_of_testBit_eq fun i => ?_
  rw [Nat.testBit_or, show (4294967295 : Nat) = 2 ^ 32 - 1 by decide, Nat.testBit_two_pow_sub_one]
  by_cases hi : i < 32
  · rw [decide_eq_true hi, Bool.or_true]
  · rw [decide_eq_false hi, Bool.or_false]
    exact Nat.testBit_lt_two_pow (Nat.lt_of_lt_of_le h (Nat.pow_le_pow_right (by decide) (by omega)))
theorem bitXor_nat (m k : Nat) : Builtin.bitXor (m : Int) (k : Int) = ((m ||| k : Nat) : Int) - ((m &&& k : Nat) : Int) := by
  have hn : ∀ x : Int, Builtin.bitNot (Builtin.bitNot x) = x := fun x => by unfold Builtin.bitNot; omega
  have ho : Builtin.bitOr (m : Int) (k : Int) = ((m ||| k : Nat) : Int) := by
    unfold Builtin.bitOr Builtin.bitAnd
    rw [decide_eq_false (show ¬ (0 : Int) ≤ Builtin.bitNot (m : Int) by unfold Builtin.bitNot; omega), decide_eq_false (show ¬ (0 : Int) ≤ Builtin.bitNot (k : Int) by unfold Builtin.bitNot; omega)]
    show Builtin.bitNot (Builtin.bitNot _) = _
    rw [hn, hn, hn, Int.toNat_natCast, Int.toNat_natCast]
  have ha : Builtin.bitAnd (m : Int) (k : Int) = ((m &&& k : Nat) : Int) := by
    unfold Builtin.bitAnd
    rw [decide_eq_true (Int.natCast_nonneg m), decide_eq_true (Int.natCast_nonneg k)]
    rfl
  unfold Builtin.bitXor
  rw [ho, ha]
theorem val_compl : ∀ w : List Bool, val w + val (w.map fun b => !b) + 1 = 2 ^ w.length
  | [] => rfl
  | b :: r => by
    have := val_compl r
    rw [List.map_cons, List.length_cons, Nat.pow_succ]
    cases b <;> simp [val] <;> omega
theorem word_xor (b : Bool) (l : List Bool) (j : Nat) : Builtin.bitXor ((val (wordAt l j) : Nat) : Int) ((flipN b : Nat) : Int) = ((val (wordAt l j) ^^^ flipN b : Nat) : Int) := by
  have hlt : val (wordAt l j) < 2 ^ 32 := Nat.lt_of_lt_of_le (val_lt _) (Nat.pow_le_pow_right (by decide) (by unfold wordAt; rw [List.length_take]; omega))
  have h1 := word_flip true l j
  have h0 := word_flip b l j
  rw [bitXor_nat, h0]
  cases b with
  | true =>
    rw [← h0]
    show (((val (wordAt l j) ||| 0 : Nat) : Int) - ((val (wordAt l j) &&& 0 : Nat) : Int)) = ((val (wordAt l j) ^^^ 0 : Nat) : Int)
    rw [Nat.or_zero, Nat.and_zero, Nat.xor_zero]
    omega
  | false =>
    show (((val (wordAt l j) ||| 4294967295 : Nat) : Int) - ((val (wordAt l j) &&& 4294967295 : Nat) : Int)) = _
    rw [or_full hlt, show (4294967295 : Nat) = 2 ^ 32 - 1 by decide, Nat.and_two_pow_sub_one_eq_mod, Nat.mod_eq_of_lt hlt]
    have hc := val_compl ((List.range 32).map fun p => l.getD (32 * j + p) false == true)
    rw [← h1, List.map_map, List.length_map, List.length_range] at hc
    have e : ((List.range 32).map ((fun b => !b) ∘ fun p => l.getD (32 * j + p) false == true)) = (List.range 32).map fun p => l.getD (32 * j + p) false == false := List.map_congr_left fun p _ => by
      show (!(l.getD (32 * j + p) false == true)) = _
      cases l.getD (32 * j + p) false <;> rfl
    rw [e] at hc
    have e0 : val (wordAt l j) ^^^ flipN true = val (wordAt l j) := Nat.xor_zero _
    rw [e0] at hc
    omega

def rowB (j : Nat) : List Nat := (List.range (j + 1)).map (bal j)
theorem nV_len (l : List Nat) : (nV l).length = l.length := by unfold nV; rw [List.length_map]
theorem nV_at {l : List Nat} {i : Nat} {n : Nat} (h : l[i]? = some n) : (nV l)[i]? = some (.int (n : Nat)) := by
  unfold nV
  rw [List.getElem?_map, h]
  rfl
theorem nV_app (l m : List Nat) : nV l ++ nV m = nV (l ++ m) := by unfold nV; rw [List.map_append]
theorem push_same {H H1 : Hp} {a : Addr} {o : HO} (s : Same H H1) (h : H a = none) : Same H (upd H1 a o) := fun b u e => by
  rw [upd_ne (ne_of_none e h)]
  exact s _ _ e
def Rows (H : Hp) (as : List Addr) : Prop := ∀ (j : Nat) (a : Addr), as[j]? = some a → H a = some (.lst (nV (rowB j)))
theorem Rows.same {H H' : Hp} {as : List Addr} (h : Rows H as) (s : Same H H') : Rows H' as := fun j a e => s _ _ (h j a e)
theorem kit_list_list {K : PySem.W.Frag} : PySem.W.kitOne K (.type "list") (.type "list") = some true := by rfl
theorem iV_at {l : List Int} {i : Nat} {n : Int} (h : l[i]? = some n) : (l.map V.int)[i]? = some (.int n) := by
  rw [List.getElem?_map, h]
  rfl
theorem iV_get {l : List Int} {i : Nat} {x : V} (h : (l.map V.int)[i]? = some x) : ∃ n, l[i]? = some n ∧ x = .int n := by
  rw [List.getElem?_map] at h
  cases e : l[i]? with
  | none => rw [e] at h; cases h
  | some n =>
    rw [e] at h
    exact ⟨n, rfl, (Option.some.inj h).symm⟩
theorem last_take {l : List Int} {m : Nat} {x : Int} (h0 : 0 < m) (h : l[m - 1]? = some x) : atI ((l.take m).map V.int) (-1) = some (.int x) := by
  have hm := at_lt h
  have e : l.take m = l.take (m - 1) ++ [x] := by
    rw [show m = m - 1 + 1 by omega, List.take_add_one, h]
    rfl
  rw [e, List.map_append]
  exact atI_last _ _
theorem len_take {l : List Int} {m : Nat} (h : m ≤ l.length) : ((l.take m).map V.int).length = m := by rw [List.length_map, List.length_take]; omega
theorem drop_last {l : List Int} {m : Nat} (h : m ≤ l.length) : ((l.take m).map V.int).dropLast = (l.take (m - 1)).map V.int := by
  rw [← List.map_dropLast, List.dropLast_eq_take, List.take_take, List.length_take]
  congr 2
  omega
def lenAt (H : Hp) (p : Addr) : Nat := match H p with | some (.lst xs) => xs.length | _ => 0
theorem lenAt_of {H : Hp} {p : Addr} {xs : List V} (h : H p = some (.lst xs)) : lenAt H p = xs.length := by unfold lenAt; rw [h]
theorem rd_joinS {K : PySem.W.Frag} {H1 : Hp} {Q : VK} {p : Addr} {ls : List (List Bool)} (hl : H1 p = some (.lst (ls.map fun l => .str (signs l)))) (hz : ls.flatten.length ≤ 100000) (q : Q (.str (signs ls.flatten)) H1) : rJoin K (.str "") [.ref p] H1 Q := by
  refine ⟨"", p, ls.map signs, rfl, rfl, SqL.of ?_, ?_, ?_⟩
  · rw [hl, List.map_map]
    rfl
  · have e : ((ls.map signs).map (·.length)).sum = ls.flatten.length := by
      rw [List.length_flatten, List.map_map]
      congr 1
      refine List.map_congr_left fun l _ => ?_
      exact signs_len l
    rw [e]
    show ls.flatten.length + _ * 0 ≤ _
    omega
  · have e : Txt.join ("" : Str) (ls.map signs) = signs ls.flatten := by
      refine ext_cps ?_
      rw [join_empty, List.map_map]
      show ((ls.map fun l => (l.map fun b => if b then 49 else 48).toArray.toList)).flatten = (ls.flatten.map _).toArray.toList
      simp only [List.toList_toArray]
      rw [List.map_flatten]
    rw [e]
    exact q
theorem opn_le {ds : List Nat} (h : Dok ds) : ∀ k, k ≤ ds.length → opn ds k ≤ k
  | 0, _ => Nat.le_refl _
  | k + 1, hk => by
    show dAt ds k + 1 ≤ k + 1
    have := h k (by omega)
    have := opn_le h k (by omega)
    omega
theorem dAt_snoc {ds : List Nat} {d j : Nat} (h : j < ds.length) : dAt (ds ++ [d]) j = dAt ds j := by
  unfold dAt List.getD
  rw [List.getElem?_append_left h]
theorem dAt_new (ds : List Nat) (d : Nat) : dAt (ds ++ [d]) ds.length = d := by
  unfold dAt List.getD
  rw [List.getElem?_append_right (Nat.le_refl _), Nat.sub_self]
  rfl
theorem opn_snoc {ds : List Nat} {d : Nat} : ∀ k, k ≤ ds.length → opn (ds ++ [d]) k = opn ds k
  | 0, _ => rfl
  | k + 1, h => by
    show dAt (ds ++ [d]) k + 1 = dAt ds k + 1
    rw [dAt_snoc (by omega)]
theorem way_snoc {ds : List Nat} {d : Nat} : ∀ k, k ≤ ds.length → way (ds ++ [d]) k = way ds k
  | 0, _ => rfl
  | k + 1, h => by
    show (way (ds ++ [d]) k).take (dAt (ds ++ [d]) k + 1) ++ [(k : Int)] = _
    rw [way_snoc k (by omega), dAt_snoc (by omega)]
    rfl
theorem dok_snoc {ds : List Nat} {d : Nat} (h : Dok ds) (hd : d ≤ opn ds ds.length) : Dok (ds ++ [d]) := fun k hk => by
  rw [List.length_append] at hk
  simp only [List.length_cons, List.length_nil] at hk
  by_cases e : k = ds.length
  · subst e
    rw [dAt_new, opn_snoc _ (Nat.le_refl _)]
    exact hd
  · rw [dAt_snoc (by omega), opn_snoc k (by omega)]
    exact h k (by omega)
theorem elds_snoc (ds : List Nat) (d : Nat) : elds (ds ++ [d]) = elds ds ++ [(way ds ds.length).getD d 0] := by
  unfold elds
  rw [List.length_append]
  show (List.range (ds.length + 1)).map _ = _
  rw [List.range_succ, List.map_append]
  congr 1
  · refine List.map_congr_left fun k hk => ?_
    have hk := List.mem_range.mp hk
    unfold eld
    rw [way_snoc k (by omega), dAt_snoc hk]
  · show [eld (ds ++ [d]) ds.length] = _
    unfold eld
    rw [way_snoc _ (Nat.le_refl _), dAt_new]
theorem way_next (ds : List Nat) (d : Nat) : way (ds ++ [d]) (ds.length + 1) = (way ds ds.length).take (d + 1) ++ [(ds.length : Int)] := by
  show (way (ds ++ [d]) ds.length).take (dAt (ds ++ [d]) ds.length + 1) ++ _ = _
  rw [way_snoc _ (Nat.le_refl _), dAt_new]
def isS : V → Bool
  | .str _ => true
  | _ => false
/-- a thing of any kind, as isinstance by str sees it -/
def AnyS (K : PySem.W.Frag) (H : Hp) (x : V) : Prop := ∃ t, TyOf K H x t ∧ PySem.W.kitOne K t (.type "str") = some (isS x)
section
variable {K : PySem.W.Frag} {H H' : Hp}
theorem anyS_str (z : Str) : AnyS K H (.str z) := ⟨_, .str z, by rfl⟩
theorem AnyS.same {x : V} (s : Same H H') (h : AnyS K H x) : AnyS K H' x := let ⟨t, h1, r⟩ := h; ⟨t, TyOf.same s h1, r⟩
end
/-- the signs of a text that are neither 0 nor 1 -/
def isBad (c : Nat) : Bool := !decide (c ∈ [48, 49])
theorem occ01 (c : Nat) : (!(!(Builtin.Str.occurrences ("01" : Str) (sgn c) 0 ("01" : Str).length 1).isEmpty)) = isBad c := by
  rw [show (!(Builtin.Str.occurrences ("01" : Str) (sgn c) 0 ("01" : Str).length 1).isEmpty) = decide (c ∈ ("01" : Str).cps.toList) from PySem.StrLaws.found_one "01" c]
  rfl
def hgt (l : List Bool) (i : Nat) : Int := 2 * ((l.take i).count true : Int) - i
theorem hgt_succ {l : List Bool} {i : Nat} {b : Bool} (h : l[i]? = some b) : hgt l (i + 1) = hgt l i + if b then 1 else -1 := by
  unfold hgt
  rw [List.take_add_one, h, List.count_append]
  cases b <;> simp <;> omega
theorem signs_inj {a b : List Bool} (h : signs a = signs b) : a = b := by
  have e : (signs a).cps.toList = (signs b).cps.toList := by rw [h]
  rw [signs_cps, signs_cps] at e
  have back : ∀ l : List Bool, (l.map fun b => if b then 49 else 48).map (fun c : Nat => c == 49) = l := fun l => by
    rw [List.map_map]
    have : l.map ((fun c : Nat => c == 49) ∘ fun b => if b = true then 49 else 48) = l.map id := List.map_congr_left fun b _ => by cases b <;> rfl
    rw [this, List.map_id]
  rw [← back a, ← back b, e]
/-- where a text is barred, from a place and a height on -/
def dueF : List Nat → Nat → Int → Option Nat
  | [], k, h => if h > 0 then some k else none
  | c :: r, k, h => if isBad c = true then some k else if h + (if c = 49 then 1 else -1) < 0 then some k else dueF r (k + 1) (h + (if c = 49 then 1 else -1))
theorem bad_iff {c : Nat} : isBad c = false ↔ c = 48 ∨ c = 49 := by
  unfold isBad
  simp
  omega
theorem dueF_one (r : List Nat) (k : Nat) (h : Int) : dueF (49 :: r) k h = if h + 1 < 0 then some k else dueF r (k + 1) (h + 1) := rfl
theorem dueF_nul (r : List Nat) (k : Nat) (h : Int) : dueF (48 :: r) k h = if h + -1 < 0 then some k else dueF r (k + 1) (h + -1) := rfl
theorem dueF_bad {c : Nat} (r : List Nat) (k : Nat) (h : Int) (e : isBad c = true) : dueF (c :: r) k h = some k := by
  unfold dueF
  rw [if_pos e]
theorem due_none : ∀ (cs : List Nat) (k : Nat) (h : Nat), dueF cs k h = none → ∃ l : List Bool, cs = (l.map fun b => if b then 49 else 48) ∧ Vs h l
  | [], k, h, e => by
    unfold dueF at e
    split at e
    · cases e
    · exact ⟨[], rfl, by show h = 0; omega⟩
  | c :: r, k, h, e => by
    cases hb : isBad c with
    | true => rw [dueF_bad r k h hb] at e; cases e
    | false =>
      rcases bad_iff.mp hb with rfl | rfl
      · rw [dueF_nul] at e
        by_cases hlt : (h : Int) + -1 < 0
        · rw [if_pos hlt] at e; cases e
        · rw [if_neg hlt] at e
          obtain ⟨g, rfl⟩ : ∃ g, h = g + 1 := ⟨h - 1, by omega⟩
          rw [show (((g + 1 : Nat) : Int) + -1) = (g : Int) by omega] at e
          obtain ⟨l, rfl, hv⟩ := due_none r _ g e
          exact ⟨false :: l, rfl, by omega, hv⟩
      · rw [dueF_one, if_neg (by omega), show ((h : Int) + 1) = ((h + 1 : Nat) : Int) by omega] at e
        obtain ⟨l, rfl, hv⟩ := due_none r _ _ e
        exact ⟨true :: l, rfl, hv⟩
theorem due_vs : ∀ (l : List Bool) (k h : Nat), Vs h l → dueF (l.map fun b => if b then 49 else 48) k h = none
  | [], k, h, v => by
    have v : h = 0 := v
    subst v
    rfl
  | false :: l, k, h, v => by
    obtain ⟨g, rfl⟩ : ∃ g, h = g + 1 := ⟨h - 1, by have := v.1; omega⟩
    have ih := due_vs l (k + 1) g v.2
    show dueF (48 :: _) _ _ = _
    rw [dueF_nul, if_neg (by omega), show (((g + 1 : Nat) : Int) + -1) = (g : Int) by omega]
    exact ih
  | true :: l, k, h, v => by
    have ih := due_vs l (k + 1) (h + 1) v
    show dueF (49 :: _) _ _ = _
    rw [dueF_one, if_neg (by omega), show ((h : Int) + 1) = ((h + 1 : Nat) : Int) by omega]
    exact ih
theorem cps_len (z : Str) : z.cps.toList.length = z.length := Array.length_toList
theorem cps_drop {z : Str} {i c : Nat} (h : z.cps[i]? = some c) : z.cps.toList.drop i = c :: z.cps.toList.drop (i + 1) := by
  rw [← Array.getElem?_toList] at h
  have hi := at_lt h
  rw [List.drop_eq_getElem_cons hi]
  rw [List.getElem?_eq_getElem hi] at h
  rw [Option.some.inj h]
theorem sgn_one {c : Nat} (h : V.str (sgn c) = V.str ("1" : Str)) : c = 49 := by
  have e := congrArg (fun z : Str => z.cps.toList) (V.str.inj h)
  exact (List.cons.inj (show [c] = [49] from e)).1
theorem sgn_one' {c : Nat} (h : ¬ V.str (sgn c) = V.str ("1" : Str)) : ¬ c = 49 := fun e => h (by rw [e]; rfl)

theorem flat_dok (n : Nat) : Dok (List.replicate n 0) := fun k hk => by
  have : dAt (List.replicate n 0) k = 0 := by
    unfold dAt List.getD
    rw [List.getElem?_replicate]
    split <;> rfl
  omega
theorem flat_dAt (n k : Nat) : dAt (List.replicate n 0) k = 0 := by
  unfold dAt List.getD
  rw [List.getElem?_replicate]
  split <;> rfl
theorem flat_elds (n : Nat) : elds (List.replicate n 0) = List.replicate n (-1) := by
  refine List.ext_getElem? fun k => ?_
  rw [List.getElem?_replicate]
  by_cases hk : k < n
  · rw [if_pos hk, elds_at (by rw [List.length_replicate]; exact hk)]
    have h := eld_at (flat_dok n) (k := k) (by rw [List.length_replicate]; exact hk)
    rw [flat_dAt, way_zero (flat_dok n) k (by rw [List.length_replicate]; omega)] at h
    exact h.symm
  · rw [if_neg hk, List.getElem?_eq_none (by rw [elds_len, List.length_replicate]; omega)]
theorem way_ge {ds : List Nat} (h : Dok ds) {k : Nat} (hk : k ≤ ds.length) {x : Int} (hx : x ∈ way ds k) : -1 ≤ x := by
  obtain ⟨j, hj⟩ := List.getElem?_of_mem hx
  cases j with
  | zero =>
    rw [way_zero h k hk] at hj
    have := Option.some.inj hj
    omega
  | succ j =>
    obtain ⟨v, hv, _⟩ := way_at h k j x hk hj
    omega
theorem eld_in {ds : List Nat} (h : Dok ds) {k : Nat} (hk : k < ds.length) : eld ds k ∈ way ds k := List.mem_of_getElem? (eld_at h hk)
/-- woods with the same elders ahead have the same way -/
theorem way_same {ds es : List Nat} (h1 : Dok ds) (h2 : Dok es) : ∀ k, k ≤ ds.length → k ≤ es.length → (∀ j, j < k → eld ds j = eld es j) → way ds k = way es k
  | 0, _, _, _ => rfl
  | k + 1, k1, k2, he => by
    have ih := way_same h1 h2 k (by omega) (by omega) fun j hj => he j (by omega)
    have e := he k (by omega)
    have a1 := eld_at h1 (k := k) (by omega)
    have a2 := eld_at h2 (k := k) (by omega)
    rw [← e, ← ih] at a2
    have hd : dAt ds k = dAt es k := by
      rcases Nat.lt_trichotomy (dAt ds k) (dAt es k) with h | h | h
      · have := way_lt h1 k _ _ _ _ (by omega) h a1 a2
        omega
      · exact h
      · have := way_lt h1 k _ _ _ _ (by omega) h a2 a1
        omega
    show (way ds k).take (dAt ds k + 1) ++ [(k : Int)] = (way es k).take (dAt es k + 1) ++ [(k : Int)]
    rw [ih, hd]
/-- where a list is no wood -/
def Fault (xs : List V) (k : Nat) : Prop := ∃ ds, Dok ds ∧ ds.length = k ∧ k < xs.length ∧ k ≤ 4000 ∧ xs.take k = (elds ds).map V.int ∧ (k = 4000 ∨ ∀ e, xs[k]? = some (V.int e) → e ∉ way ds k)
def GoodL (xs : List V) (ds : List Nat) : Prop := Dok ds ∧ ds.length ≤ 4000 ∧ xs = (elds ds).map V.int
def FaultO : Option (List V) → Nat → Prop
  | some xs, k => Fault xs k
  | none, k => k = 0
def GoodO : Option (List V) → List Nat → Prop
  | some xs, ds => GoodL xs ds
  | none, _ => False
theorem take_at {xs : List V} {ds : List Nat} {n j : Nat} (hl : ds.length = n) (h : xs.take n = (elds ds).map V.int) (hj : j < n) : xs[j]? = some (.int (eld ds j)) := by
  have e : (xs.take n)[j]? = some (.int (eld ds j)) := by
    rw [h]
    exact iV_at (elds_at (by omega))
  rw [List.getElem?_take_of_lt hj] at e
  exact e
theorem fault_late {xs : List V} {k : Nat} {es : List Nat} (hf : Fault xs k) (hE : Dok es) (hk : k < es.length) (hk4 : k < 4000) (hx : ∀ j, j < es.length → xs[j]? = some (.int (eld es j))) : False := by
  obtain ⟨ds, hD, hl, _, _, htk, hb⟩ := hf
  rcases hb with h | h
  · omega
  · have hw : way ds k = way es k := way_same hD hE k (by omega) (by omega) fun j hj => by
      have e1 := take_at hl htk hj
      rw [hx j (by omega)] at e1
      exact (V.int.inj (Option.some.inj e1)).symm
    refine h _ (hx k hk) ?_
    rw [hw]
    exact eld_in hE hk
theorem fault_uniq {xs : List V} {k j : Nat} (h1 : Fault xs k) (h2 : Fault xs j) : k = j := by
  have key : ∀ {k j : Nat}, Fault xs k → Fault xs j → ¬ k < j := fun {k j} h1 h2 hlt => by
    obtain ⟨es, hE, hl, _, h4, htk, _⟩ := h2
    exact fault_late h1 hE (by omega) (by omega) fun i hi => take_at hl htk (by omega)
  have a := key h1 h2
  have b := key h2 h1
  omega
theorem fault_good {xs : List V} {k : Nat} {ds : List Nat} (h1 : Fault xs k) (h2 : GoodL xs ds) : False := by
  obtain ⟨hD, hl, e⟩ := h2
  have hlen : xs.length = ds.length := by rw [e, List.length_map, elds_len]
  obtain ⟨_, _, _, hk, _⟩ := id h1
  refine fault_late h1 hD (by omega) (by omega) fun j hj => ?_
  rw [e]
  exact iV_at (elds_at hj)
theorem faultO_uniq {o : Option (List V)} {k j : Nat} (h1 : FaultO o k) (h2 : FaultO o j) : k = j := by
  cases o with
  | some xs => exact fault_uniq h1 h2
  | none => exact (show k = 0 from h1).trans (show j = 0 from h2).symm
theorem faultO_good {o : Option (List V)} {k : Nat} {ds : List Nat} (h1 : FaultO o k) (h2 : GoodO o ds) : False := by
  cases o with
  | some xs => exact fault_good h1 h2
  | none => exact h2
/-- a refusal with NoWood at its place -/
def NoWd (C : Addr) (H : Hp) (E : XK) (o : Option (List V)) : Prop := ∀ k : Nat, FaultO o k → ∀ dx H', Same H H' → H dx = none → H' dx = some (.xd [("place", .int k)]) → E (.ref C) (some dx) H'
theorem NoWd.same {C : Addr} {H H1 : Hp} {E : XK} {o : Option (List V)} (s : Same H H1) (h : NoWd C H E o) : NoWd C H1 E o := fun k hk dx H' s1 hx hx1 => h k hk dx H' (s.trans s1) (s.free hx) hx1
/-- a thing: a list of things of any kind, or no list -/
def ThA (K : PySem.W.Frag) (H : Hp) (v : V) : Option (List V) → Prop
  | some xs => ∃ a, v = .ref a ∧ H a = some (.lst xs) ∧ (∀ x ∈ xs, Any K H x) ∧ xs.length ≤ 10000
  | none => ∃ t, TyOf K H v t ∧ PySem.W.kitOne K t (.type "list") = some false
theorem ThA.same {K : PySem.W.Frag} {H H' : Hp} {v : V} {o : Option (List V)} (s : Same H H') (h : ThA K H v o) : ThA K H' v o := by
  cases o with
  | some xs => obtain ⟨a, e, ha, hf, r⟩ := h; exact ⟨a, e, s _ _ ha, fun x hx => (hf x hx).same s, r⟩
  | none => obtain ⟨t, ht, r⟩ := h; exact ⟨t, TyOf.same s ht, r⟩
def FaultR (o : Option (List V)) (r : V) : Prop := (r = .non ∧ ∃ ds, GoodO o ds) ∨ ∃ k : Nat, r = .int k ∧ FaultO o k
theorem rep_ints (n : Nat) (i : Int) : (List.replicate n [V.int i]).flatten = (List.replicate n i).map V.int := by
  induction n with
  | zero => rfl
  | succ n ih => rw [List.replicate_succ, List.flatten_cons, ih, List.replicate_succ]; rfl
theorem fault4001 : FaultO (some ((List.replicate 4001 (-1 : Int)).map V.int)) 4000 := by
  refine ⟨List.replicate 4000 0, flat_dok 4000, List.length_replicate, by rw [List.length_map, List.length_replicate]; omega, Nat.le_refl _, ?_, .inl rfl⟩
  rw [flat_elds, ← List.map_take, List.take_replicate]
  rfl
theorem good_uniq {ds es : List Nat} (hD : Dok ds) (h : GoodO (some ((elds ds).map V.int)) es) : es = ds := by
  obtain ⟨hE, _, e⟩ := h
  have e2 : elds ds = elds es := by
    have := congrArg (List.map fun v : V => match v with | .int i => i | _ => 0) e
    rw [List.map_map, List.map_map] at this
    have hid : ∀ l : List Int, l.map ((fun v : V => match v with | .int i => i | _ => 0) ∘ V.int) = l := fun l => by
      conv => rhs; rw [← List.map_id l]
      exact List.map_congr_left fun _ _ => rfl
    rw [hid, hid] at this
    exact this
  exact (elds_inj hD hE e2).symm
theorem thA_ints {K : PySem.W.Frag} {H : Hp} {a : Addr} {ns : List Int} (h : H a = some (.lst (ns.map V.int))) (hl : ns.length ≤ 4000) : ThA K H (.ref a) (some (ns.map V.int)) :=
  ⟨a, rfl, h, fun x hx => by obtain ⟨n, _, rfl⟩ := List.mem_map.mp hx; exact any_int n, by rw [List.length_map]; omega⟩
theorem noWd_good {C : Addr} {H : Hp} {E : XK} {o : Option (List V)} {ds : List Nat} (h : GoodO o ds) : NoWd C H E o := fun k hk => (faultO_good hk h).elim

structure Z_Bits (K : PySem.W.Frag) (C : Addr) : Prop where
  cl : Cls K C
  n_length : NoAttr K C "length"
  n_many_ones : NoAttr K C "many_ones"
  n_kept_words : NoAttr K C "kept_words"
structure Z_Counts (K : PySem.W.Frag) (C : Addr) : Prop where
  cl : Cls K C
  n_length : NoAttr K C "length"
  n_kept_words : NoAttr K C "kept_words"
  n_kept_table : NoAttr K C "kept_table"
structure Z_Pairs (K : PySem.W.Frag) (C : Addr) : Prop where
  cl : Cls K C
  n_bits : NoAttr K C "bits"
  n_counts : NoAttr K C "counts"
  n_length : NoAttr K C "length"
  n_kept_table : NoAttr K C "kept_table"
  n_often_least : NoAttr K C "often_least"
structure Z_Opened (K : PySem.W.Frag) (C : Addr) : Prop where
  cl : Cls K C
  n_pairs : NoAttr K C "pairs"
structure Txt (K : PySem.W.Frag) (mg : Str → Option Value) (a_ONES_OF_FOUR : Addr) (a_SIGNS_OF_FOUR : Addr) (C_WoodError : Addr) (C_NoBits : Addr) (C_NoPlace : Addr) (C_NoRow : Addr) (C_NoWood : Addr) (C_NoKnot : Addr) : Prop where
  g_WoodError : mg "WoodError" = some (.ref C_WoodError)
  g_NoBits : mg "NoBits" = some (.ref C_NoBits)
  g_NoPlace : mg "NoPlace" = some (.ref C_NoPlace)
  g_NoRow : mg "NoRow" = some (.ref C_NoRow)
  g_NoWood : mg "NoWood" = some (.ref C_NoWood)
  g_NoKnot : mg "NoKnot" = some (.ref C_NoKnot)
  ex_WoodError : PySem.W.excIn K C_WoodError veMro "ValueError.__new__" = true
  bg_WoodError : PySem.W.specialIn K (.ref C_WoodError) "__getattribute__" = some (some (.builtin "type.__getattribute__"))
  br_WoodError : PySem.W.readsIn K C_WoodError (.type "type") = true
  bi_WoodError : PySem.W.findCls K (.ref C_WoodError) (.type "type") "__init__" = some (.val (.builtin "ValueError.__init__"))
  ex_NoBits : PySem.W.excIn K C_NoBits veMro "ValueError.__new__" = true
  ga_NoBits : PySem.W.findIn K (.ref C_NoBits) "__getattribute__" = some (some (.builtin "BaseException.__getattribute__"))
  gx_NoBits : PySem.W.findIn K (.ref C_NoBits) "__getattr__" = some none
  ca_NoBits : PySem.W.findIn K (.ref C_NoBits) "__class__" = some (some (.builtin "object.__class__"))
  sp_NoBits : PySem.W.specialIn K (.builtin "object.__class__") "__get__" = some (some (.builtin "getset_descriptor.__get__"))
  tk_NoBits : PySem.W.takesIn K (.builtin "object.__class__") = some true
  mo_NoBits : PySem.W.mroIn K C_NoBits (.type "object") = some true
  mb_NoBits : PySem.W.mroIn K C_NoBits (.type "BaseException") = some true
  em_NoBits : PySem.W.exmOne K (.ref C_NoBits) (.ref C_WoodError) = some true
  ex_NoPlace : PySem.W.excIn K C_NoPlace veMro "ValueError.__new__" = true
  ga_NoPlace : PySem.W.findIn K (.ref C_NoPlace) "__getattribute__" = some (some (.builtin "BaseException.__getattribute__"))
  gx_NoPlace : PySem.W.findIn K (.ref C_NoPlace) "__getattr__" = some none
  ca_NoPlace : PySem.W.findIn K (.ref C_NoPlace) "__class__" = some (some (.builtin "object.__class__"))
  sp_NoPlace : PySem.W.specialIn K (.builtin "object.__class__") "__get__" = some (some (.builtin "getset_descriptor.__get__"))
  tk_NoPlace : PySem.W.takesIn K (.builtin "object.__class__") = some true
  mo_NoPlace : PySem.W.mroIn K C_NoPlace (.type "object") = some true
  mb_NoPlace : PySem.W.mroIn K C_NoPlace (.type "BaseException") = some true
  em_NoPlace : PySem.W.exmOne K (.ref C_NoPlace) (.ref C_WoodError) = some true
  sa_NoRow : PySem.W.findIn K (.ref C_NoRow) "__setattr__" = some (some (.builtin "object.__setattr__"))
  pl_NoRow : PySem.W.findIn K (.ref C_NoRow) "place" = some none
  ga_NoRow : PySem.W.findIn K (.ref C_NoRow) "__getattribute__" = some (some (.builtin "BaseException.__getattribute__"))
  gx_NoRow : PySem.W.findIn K (.ref C_NoRow) "__getattr__" = some none
  ca_NoRow : PySem.W.findIn K (.ref C_NoRow) "__class__" = some (some (.builtin "object.__class__"))
  sp_NoRow : PySem.W.specialIn K (.builtin "object.__class__") "__get__" = some (some (.builtin "getset_descriptor.__get__"))
  tk_NoRow : PySem.W.takesIn K (.builtin "object.__class__") = some true
  mo_NoRow : PySem.W.mroIn K C_NoRow (.type "object") = some true
  mb_NoRow : PySem.W.mroIn K C_NoRow (.type "BaseException") = some true
  em_NoRow : PySem.W.exmOne K (.ref C_NoRow) (.ref C_WoodError) = some true
  em2_NoRow : PySem.W.exmOne K (.ref C_NoRow) (.ref C_NoRow) = some true
  sa_NoWood : PySem.W.findIn K (.ref C_NoWood) "__setattr__" = some (some (.builtin "object.__setattr__"))
  pl_NoWood : PySem.W.findIn K (.ref C_NoWood) "place" = some none
  ga_NoWood : PySem.W.findIn K (.ref C_NoWood) "__getattribute__" = some (some (.builtin "BaseException.__getattribute__"))
  gx_NoWood : PySem.W.findIn K (.ref C_NoWood) "__getattr__" = some none
  ca_NoWood : PySem.W.findIn K (.ref C_NoWood) "__class__" = some (some (.builtin "object.__class__"))
  sp_NoWood : PySem.W.specialIn K (.builtin "object.__class__") "__get__" = some (some (.builtin "getset_descriptor.__get__"))
  tk_NoWood : PySem.W.takesIn K (.builtin "object.__class__") = some true
  mo_NoWood : PySem.W.mroIn K C_NoWood (.type "object") = some true
  mb_NoWood : PySem.W.mroIn K C_NoWood (.type "BaseException") = some true
  em_NoWood : PySem.W.exmOne K (.ref C_NoWood) (.ref C_WoodError) = some true
  em2_NoWood : PySem.W.exmOne K (.ref C_NoWood) (.ref C_NoWood) = some true
  kit_NoWood_ValueError : PySem.W.kitOne K (.ref C_NoWood) (.type "ValueError") = some true
  kit_NoWood_NoBits : PySem.W.kitOne K (.ref C_NoWood) (.ref C_NoBits) = some false
  kit_NoWood_NoPlace : PySem.W.kitOne K (.ref C_NoWood) (.ref C_NoPlace) = some false
  kit_NoWood_NoRow : PySem.W.kitOne K (.ref C_NoWood) (.ref C_NoRow) = some false
  kit_NoWood_NoWood : PySem.W.kitOne K (.ref C_NoWood) (.ref C_NoWood) = some true
  kit_NoWood_NoKnot : PySem.W.kitOne K (.ref C_NoWood) (.ref C_NoKnot) = some false
  g_ONES_OF_FOUR : mg "ONES_OF_FOUR" = some (.ref a_ONES_OF_FOUR)
  q_ONES_OF_FOUR : ∀ H, SqT K H a_ONES_OF_FOUR (fours.map fun n : Nat => V.int n)
  g_SIGNS_OF_FOUR : mg "SIGNS_OF_FOUR" = some (.ref a_SIGNS_OF_FOUR)
  q_SIGNS_OF_FOUR : ∀ H, SqT K H a_SIGNS_OF_FOUR (fourT)
  g_WORD_BITS : ∃ t, mg "WORD_BITS" = some (.int 32 t)
  g_MOST_BITS : ∃ t, mg "MOST_BITS" = some (.int 20000 t)
  g_BLOCK_WORDS : ∃ t, mg "BLOCK_WORDS" = some (.int 8 t)
  g_MOST_SIGNS_pairs : ∃ t, mg "MOST_SIGNS_pairs" = some (.int 8192 t)
  g_STRETCH_BITS : ∃ t, mg "STRETCH_BITS" = some (.int 256 t)
  g_MOST_KNOTS : ∃ t, mg "MOST_KNOTS" = some (.int 4000 t)
  n_range : mg "range" = none
  n_len : mg "len" = none
  n_int : mg "int" = none
  n_bool : mg "bool" = none
  n_str : mg "str" = none
  n_isinstance : mg "isinstance" = none
  n_list : mg "list" = none
  n_tuple : mg "tuple" = none
  n_enumerate : mg "enumerate" = none
  n_zip : mg "zip" = none
  n_sum : mg "sum" = none
  n_abs : mg "abs" = none
  n_max : mg "max" = none
  n_min : mg "min" = none
  n_ValueError : mg "ValueError" = none
  ow_NoRow : ∃ f, OwnX K C_WoodError C_NoRow f
  ow_NoWood : ∃ f, OwnX K C_WoodError C_NoWood f
theorem Txt.bw {K : PySem.W.Frag} {mg : Str → Option Value} {a_ONES_OF_FOUR : Addr} {a_SIGNS_OF_FOUR : Addr} {C_WoodError : Addr} {C_NoBits : Addr} {C_NoPlace : Addr} {C_NoRow : Addr} {C_NoWood : Addr} {C_NoKnot : Addr} (T : Txt K mg a_ONES_OF_FOUR a_SIGNS_OF_FOUR C_WoodError C_NoBits C_NoPlace C_NoRow C_NoWood C_NoKnot) : BaseX K mg "WoodError" C_WoodError := ⟨T.g_WoodError, T.bg_WoodError, T.br_WoodError, T.bi_WoodError⟩
theorem Txt.x_NoBits {K : PySem.W.Frag} {mg : Str → Option Value} {a_ONES_OF_FOUR : Addr} {a_SIGNS_OF_FOUR : Addr} {C_WoodError : Addr} {C_NoBits : Addr} {C_NoPlace : Addr} {C_NoRow : Addr} {C_NoWood : Addr} {C_NoKnot : Addr} (T : Txt K mg a_ONES_OF_FOUR a_SIGNS_OF_FOUR C_WoodError C_NoBits C_NoPlace C_NoRow C_NoWood C_NoKnot) : Exc K mg "NoBits" C_NoBits := ⟨T.g_NoBits, T.ex_NoBits⟩
theorem Txt.x_NoPlace {K : PySem.W.Frag} {mg : Str → Option Value} {a_ONES_OF_FOUR : Addr} {a_SIGNS_OF_FOUR : Addr} {C_WoodError : Addr} {C_NoBits : Addr} {C_NoPlace : Addr} {C_NoRow : Addr} {C_NoWood : Addr} {C_NoKnot : Addr} (T : Txt K mg a_ONES_OF_FOUR a_SIGNS_OF_FOUR C_WoodError C_NoBits C_NoPlace C_NoRow C_NoWood C_NoKnot) : Exc K mg "NoPlace" C_NoPlace := ⟨T.g_NoPlace, T.ex_NoPlace⟩
theorem Txt.k_NoRow {K : PySem.W.Frag} {mg : Str → Option Value} {a_ONES_OF_FOUR : Addr} {a_SIGNS_OF_FOUR : Addr} {C_WoodError : Addr} {C_NoBits : Addr} {C_NoPlace : Addr} {C_NoRow : Addr} {C_NoWood : Addr} {C_NoKnot : Addr} (T : Txt K mg a_ONES_OF_FOUR a_SIGNS_OF_FOUR C_WoodError C_NoBits C_NoPlace C_NoRow C_NoWood C_NoKnot) : ExcK K C_NoRow := ⟨T.ga_NoRow, T.gx_NoRow, T.ca_NoRow, T.sp_NoRow, T.tk_NoRow, T.mo_NoRow, T.mb_NoRow⟩
theorem Txt.k_NoWood {K : PySem.W.Frag} {mg : Str → Option Value} {a_ONES_OF_FOUR : Addr} {a_SIGNS_OF_FOUR : Addr} {C_WoodError : Addr} {C_NoBits : Addr} {C_NoPlace : Addr} {C_NoRow : Addr} {C_NoWood : Addr} {C_NoKnot : Addr} (T : Txt K mg a_ONES_OF_FOUR a_SIGNS_OF_FOUR C_WoodError C_NoBits C_NoPlace C_NoRow C_NoWood C_NoKnot) : ExcK K C_NoWood := ⟨T.ga_NoWood, T.gx_NoWood, T.ca_NoWood, T.sp_NoWood, T.tk_NoWood, T.mo_NoWood, T.mb_NoWood⟩
section
variable {P : Program} {w : World} {K : PySem.W.Frag} {mg : Str → Option Value} {base : Heap} {a_ONES_OF_FOUR a_SIGNS_OF_FOUR : Addr} {C_Bits C_Counts C_Pairs C_Opened C_WoodError C_NoBits C_NoPlace C_NoRow C_NoWood C_NoKnot : Addr}
theorem ok_NoRow_init {f : Addr} {fd : FuncData} (F : Fun K "__init__" "NoRow.__init__" s_NoRow_init f fd) (T : Txt K mg a_ONES_OF_FOUR a_SIGNS_OF_FOUR C_WoodError C_NoBits C_NoPlace C_NoRow C_NoWood C_NoKnot) : FnOk P w K mg base CX0 1 f fd ["self", "place"] (spInit C_NoRow) := by
  refine F.ok sc_NoRow_init (fun vs H Q E h => ?_) (fun cdv A outer s H vs Q E hr h => ?_)
  · obtain ⟨e, i, rfl, _⟩ := h
    rfl
  · obtain ⟨e, i, rfl, he, hi, q⟩ := h
    obtain ⟨fo, O⟩ := T.ow_NoRow
    refine ⟨_, (pss_cons (ps_expr (pe_binit T.bw rfl (pa_d (pv 0) (pa_d (pe_fstr (by decide) (pv 1)) pa_nil rfl) rfl)))
      (pss_one (ps_place (pv 0) (pv 1)))), ?_⟩
    walk_at "rd"
    refine ⟨hi, fun z => ?_⟩
    walk_at "rd"
    refine ⟨e, C_NoRow, fo, none, z, rfl, he, O, ?_⟩
    walk_at "rd"
    refine ⟨e, _, C_NoRow, fo, rfl, he, O, T.k_NoRow, fun dx hd => ?_⟩
    walk_at "rd"
    exact q dx hd

theorem ok_NoWood_init {f : Addr} {fd : FuncData} (F : Fun K "__init__" "NoWood.__init__" s_NoWood_init f fd) (T : Txt K mg a_ONES_OF_FOUR a_SIGNS_OF_FOUR C_WoodError C_NoBits C_NoPlace C_NoRow C_NoWood C_NoKnot) : FnOk P w K mg base CX0 1 f fd ["self", "place"] (spInit C_NoWood) := by
  refine F.ok sc_NoWood_init (fun vs H Q E h => ?_) (fun cdv A outer s H vs Q E hr h => ?_)
  · obtain ⟨e, i, rfl, _⟩ := h
    rfl
  · obtain ⟨e, i, rfl, he, hi, q⟩ := h
    obtain ⟨fo, O⟩ := T.ow_NoWood
    refine ⟨_, (pss_cons (ps_expr (pe_binit T.bw rfl (pa_d (pv 0) (pa_d (pe_fstr (by decide) (pv 1)) pa_nil rfl) rfl)))
      (pss_one (ps_place (pv 0) (pv 1)))), ?_⟩
    walk_at "rd"
    refine ⟨hi, fun z => ?_⟩
    walk_at "rd"
    refine ⟨e, C_NoWood, fo, none, z, rfl, he, O, ?_⟩
    walk_at "rd"
    refine ⟨e, _, C_NoWood, fo, rfl, he, O, T.k_NoWood, fun dx hd => ?_⟩
    walk_at "rd"
    exact q dx hd

def spWhole0 (K : PySem.W.Frag) : Sp := fun vs H Q _ => ∃ x, vs = [x] ∧ Any K H x ∧ Q (.bl (isI x)) H
theorem ok_is_whole {f : Addr} {fd : FuncData} (F : Fun K "is_whole" "is_whole" s_is_whole f fd) (T : Txt K mg a_ONES_OF_FOUR a_SIGNS_OF_FOUR C_WoodError C_NoBits C_NoPlace C_NoRow C_NoWood C_NoKnot) : FnOk P w K mg base CX0 1 f fd ["thing"] (spWhole0 K) := by
  refine F.ok sc_is_whole (fun vs H Q E h => ?_) (fun cdv A outer s H vs Q E hr h => ?_)
  · obtain ⟨x, rfl, _⟩ := h
    rfl
  · obtain ⟨x, rfl, ⟨t, b1, b2, ty, k1, k2, e⟩, q⟩ := h
    refine ⟨_, (pss_one (ps_ret (pe_and (pe_callB call_isinst (by rfl) T.n_isinstance b_isinstance (pa_d (pv 0) (pa_d (pe_bltn (v := .ty "int") rfl T.n_int b_int rfl) pa_nil rfl) rfl)) (pe_one (pe_not (pe_callB call_isinst (by rfl) T.n_isinstance b_isinstance (pa_d (pv 0) (pa_d (pe_bltn (v := .ty "bool") rfl T.n_bool b_bool rfl) pa_nil rfl) rfl))))))), ?_⟩
    walk_at "rd"
    refine ⟨_, _, _, _, rfl, ty, k1, ?_⟩
    rw [← e] at q
    cases b1 with
    | false =>
      walk_at "rd"
      exact q
    | true =>
      walk_at "rd"
      refine ⟨_, _, _, _, rfl, ty, k2, ?_⟩
      walk_at "rd"
      exact q

def spWithin (K : PySem.W.Frag) : Sp := fun vs H Q _ => ∃ x lo hi, vs = [x, .int lo, .int hi] ∧ Any K H x ∧ Q (.bl (inI x lo hi)) H
theorem ok_is_within {f : Addr} {fd : FuncData} (F : Fun K "is_within" "is_within" s_is_within f fd) (T : Txt K mg a_ONES_OF_FOUR a_SIGNS_OF_FOUR C_WoodError C_NoBits C_NoPlace C_NoRow C_NoWood C_NoKnot) (c_is_whole : Cal P w K mg base "is_whole" 1 ["thing"] (spWhole0 K)) : FnOk P w K mg base CX0 2 f fd ["thing", "low", "high"] (spWithin K) := by
  refine F.ok sc_is_within (fun vs H Q E h => ?_) (fun cdv A outer s H vs Q E hr h => ?_)
  · obtain ⟨x, lo, hi, rfl, _⟩ := h
    rfl
  · obtain ⟨x, lo, hi, rfl, ha, q⟩ := h
    refine ⟨_, (pss_one (ps_ret (pe_and (pe_fn c_is_whole (hr.mono (by decide : 1 ≤ _)) (pa_d (pv 0) pa_nil rfl)) (pe_one (pe_chain op_le op_le (pv 1) (pv 0) (pv 2)))))), ?_⟩
    walk_at "rd"
    refine ⟨x, rfl, ha, ?_⟩
    cases hx : isI x with
    | false =>
      walk_at "rd"
      have : inI x lo hi = false := by cases x <;> first | rfl | cases hx
      rw [this] at q
      exact q
    | true =>
      obtain ⟨i, rfl⟩ := isI_of hx
      walk_at "rd"
      have e : inI (.int i) lo hi = (decide (lo ≤ i) && decide (i ≤ hi)) := rfl
      rw [e] at q
      refine iteP (fun h1 => ?_) (fun h1 => ?_)
      · walk_at "rd"
        rw [decide_eq_true h1] at q
        exact q
      · walk_at "rd"
        rw [decide_eq_false h1] at q
        exact q

def spCheckBit (K : PySem.W.Frag) (CB : Addr) : Sp := fun vs H Q E => ∃ x, vs = [x] ∧ Any K H x ∧ (inI x 0 1 = true → Q .non H) ∧ (inI x 0 1 = false → E (.ref CB) none H)
theorem ok_check_bit {f : Addr} {fd : FuncData} (F : Fun K "check_bit" "check_bit" s_check_bit f fd) (T : Txt K mg a_ONES_OF_FOUR a_SIGNS_OF_FOUR C_WoodError C_NoBits C_NoPlace C_NoRow C_NoWood C_NoKnot) (c_is_within : Cal P w K mg base "is_within" 2 ["thing", "low", "high"] (spWithin K)) : FnOk P w K mg base (CXE P w) 3 f fd ["bit"] (spCheckBit K C_NoBits) := by
  refine F.okE sc_check_bit (fun vs H Q E h => ?_) (fun cdv A outer s H vs Q E hr h => ?_)
  · obtain ⟨x, rfl, _⟩ := h
    rfl
  · obtain ⟨x, rfl, ha, q1, q2⟩ := h
    refine ⟨_, (pss_one (ps_if (pt_not (pt_val (pe_fn c_is_within (hr.mono (by decide : 2 ≤ _)) (pa_d (pv 0) (pa_d pe_int (pa_d pe_int pa_nil rfl) rfl) rfl)))) (pss_one (ps_raise T.x_NoBits rfl (pa_d pe_str pa_nil rfl)))
      pss_nil)), ?_⟩
    walk_at "rd"
    refine ⟨x, 0, 1, rfl, ha, ?_⟩
    walk_at "rd"
    cases hx : inI x 0 1 with
    | true =>
      walk_at "rd"
      exact q1 hx
    | false =>
      walk_at "rd"
      exact ⟨by decide, q2 hx⟩

def spCheckPlace (K : PySem.W.Frag) (CP : Addr) : Sp := fun vs H Q E => ∃ x g, vs = [x, .int g] ∧ Any K H x ∧ (inI x 0 g = true → Q .non H) ∧ (inI x 0 g = false → E (.ref CP) none H)
theorem ok_check_place {f : Addr} {fd : FuncData} (F : Fun K "check_place" "check_place" s_check_place f fd) (T : Txt K mg a_ONES_OF_FOUR a_SIGNS_OF_FOUR C_WoodError C_NoBits C_NoPlace C_NoRow C_NoWood C_NoKnot) (c_is_within : Cal P w K mg base "is_within" 2 ["thing", "low", "high"] (spWithin K)) : FnOk P w K mg base (CXE P w) 3 f fd ["place", "greatest"] (spCheckPlace K C_NoPlace) := by
  refine F.okE sc_check_place (fun vs H Q E h => ?_) (fun cdv A outer s H vs Q E hr h => ?_)
  · obtain ⟨x, g, rfl, _⟩ := h
    rfl
  · obtain ⟨x, g, rfl, ha, q1, q2⟩ := h
    refine ⟨_, (pss_one (ps_if (pt_not (pt_val (pe_fn c_is_within (hr.mono (by decide : 2 ≤ _)) (pa_d (pv 0) (pa_d pe_int (pa_d (pv 1) pa_nil rfl) rfl) rfl)))) (pss_one (ps_raise T.x_NoPlace rfl (pa_d pe_str pa_nil rfl)))
      pss_nil)), ?_⟩
    walk_at "rd"
    refine ⟨x, 0, g, rfl, ha, ?_⟩
    walk_at "rd"
    cases hx : inI x 0 g with
    | true =>
      walk_at "rd"
      exact q1 hx
    | false =>
      walk_at "rd"
      exact ⟨by decide, q2 hx⟩

def spOnes : Sp := fun vs H Q _ => ∃ n : Nat, vs = [.int n] ∧ Q (.int (pc n)) H
theorem ok_ones_in {f : Addr} {fd : FuncData} (F : Fun K "ones_in" "ones_in" s_ones_in f fd) (T : Txt K mg a_ONES_OF_FOUR a_SIGNS_OF_FOUR C_WoodError C_NoBits C_NoPlace C_NoRow C_NoWood C_NoKnot) : FnOk P w K mg base CX0 1 f fd ["word"] spOnes := by
  refine F.ok sc_ones_in (fun vs H Q E h => ?_) (fun cdv A outer s H vs Q E hr h => ?_)
  · obtain ⟨n, rfl, _⟩ := h
    rfl
  · obtain ⟨n, rfl, q⟩ := h
    refine ⟨_, (pss_cons (ps_set (i := 1) sc_ones_in.nd rfl (Or.inl rfl) pe_int)
      (pss_cons (ps_while PassesOwn.never (pt_cmpR op_gt (pv 0) pe_int (nomark _))
      (pss_cons (ps_aug (i := 1) sc_ones_in.nd rfl (Or.inl rfl) (pe_ix ix_tup (pe_glob (v := .ref _) rfl T.g_ONES_OF_FOUR rfl) (pe_op op_and (pv 0) pe_int) (fun _ _ => rfl)) ip_add)
      (pss_one (ps_aug (i := 0) sc_ones_in.nd rfl (Or.inl rfl) pe_int iop_shr))))
      (pss_one (ps_ret (pv 1))))), ?_⟩
    walk_at "rd"
    refine while_rd (fun σ H' => ∃ m o : Nat, σ = [some (.int m), some (.int o)] ∧ pc n = o + pc m ∧ H' = H) (fun σ _ => match σ with | some (.int m) :: _ => m.toNat | _ => 0) ⟨n, 0, rfl, by simp, rfl⟩ ?_
    rintro k σ H' ⟨m, o, rfl, e, rfl⟩ hk
    walk_at "rd"
    refine iteP (fun hm => ?_) (fun hm => ?_)
    · refine r_turn ?_
      walk_at "rd"
      refine r_ixT (T.q_ONES_OF_FOUR _) (v := .int (pc (m % 16))) ?_ ?_
      · rw [and15]
        exact four_at _ (Nat.mod_lt _ (by decide))
      · walk_at "rd"
        refine ⟨⟨m / 16, o + pc (m % 16), ?_, ?_, rfl⟩, ?_⟩
        · show [some (V.int ((m : Int) / 2 ^ (4 : Int).toNat)), some (V.int ((o : Int) + (pc (m % 16) : Int)))] = _
          rw [shr4]
          rfl
        · rw [e, pc16 m]
          omega
        · show ((m : Int) / 2 ^ (4 : Int).toNat).toNat < k
          rw [shr4, ← hk]
          show m / 16 < m
          omega
    · walk_at "rd"
      have : m = 0 := by omega
      subst this
      rw [pc_zero] at e
      show Q (.int (o : Int)) H'
      rw [show o = pc n by omega]
      exact q

def rowS (z : Str) : Bool := if z.length > 20000 then false else decide (cntS z 48 + cntS z 49 = z.length)
def spIsRow : Sp := fun vs H Q _ => ∃ z : Str, vs = [.str z] ∧ z.length ≤ sizeLine ∧ Q (.bl (rowS z)) H
theorem ok_is_row {f : Addr} {fd : FuncData} (F : Fun K "is_row" "is_row" s_is_row f fd) (T : Txt K mg a_ONES_OF_FOUR a_SIGNS_OF_FOUR C_WoodError C_NoBits C_NoPlace C_NoRow C_NoWood C_NoKnot) : FnOk P w K mg base CX0 1 f fd ["thing"] spIsRow := by
  refine F.ok sc_is_row (fun vs H Q E h => ?_) (fun cdv A outer s H vs Q E hr h => ?_)
  · obtain ⟨z, rfl, _⟩ := h
    rfl
  · obtain ⟨z, rfl, hz, q⟩ := h
    refine ⟨_, (pss_cons (ps_if (PW.pt (pw_or (pt_not (pt_val (pe_callB call_isinst (by rfl) T.n_isinstance b_isinstance (pa_d (pv 0) (pa_d (pe_bltn (v := .ty "str") rfl T.n_str b_str rfl) pa_nil rfl) rfl)))) (pw_or1 (pt_cmpR op_gt (pe_callB call_len_str (by rfl) T.n_len b_len (pa_d (pv 0) pa_nil rfl)) (pe_globI rfl T.g_MOST_BITS) (nomark _))))) (pss_one (ps_ret pe_bl))
      pss_nil)
      (pss_one (ps_ret (pe_cmpR op_eq (pe_op op_add (pe_bm PySem.F.plainAttrs_str PySem.F.slot_str_count PySem.F.type_str_count mt_count (pv 0) (pa_d pe_str pa_nil rfl)) (pe_bm PySem.F.plainAttrs_str PySem.F.slot_str_count PySem.F.type_str_count mt_count (pv 0) (pa_d pe_str pa_nil rfl))) (pe_callB call_len_str (by rfl) T.n_len b_len (pa_d (pv 0) pa_nil rfl)) (nomark _))))), ?_⟩
    walk_at "rd"
    refine ⟨_, _, _, _, rfl, .str _, kit_str_str, ?_⟩
    walk_at "rd"
    refine ⟨z, rfl, hz, ?_⟩
    walk_at "rd"
    unfold rowS at q
    refine iteP (fun hb => ?_) (fun hb => ?_)
    · walk_at "rd"
      rw [if_pos (by omega)] at q
      exact q
    · walk_at "rd"
      rw [if_neg (by omega)] at q
      refine ⟨rfl, ?_⟩
      walk_at "rd"
      refine ⟨z, 48, rfl, rfl, ?_⟩
      walk_at "rd"
      refine ⟨rfl, ?_⟩
      walk_at "rd"
      refine ⟨z, 49, rfl, rfl, ?_⟩
      walk_at "rd"
      refine ⟨z, rfl, hz, ?_⟩
      walk_at "rd"
      have e : decide (V.int ((cntS z 48 : Int) + (cntS z 49 : Int)) = V.int (z.length : Int)) = decide (cntS z 48 + cntS z 49 = z.length) := by
        refine decide_eq_decide.mpr ⟨fun h => ?_, fun h => ?_⟩
        · have := V.int.inj h
          omega
        · rw [← h]
          congr 1
      rw [e]
      exact q

def spWord : Sp := fun vs H Q _ => ∃ l : List Bool, vs = [.str (signs l)] ∧ 0 < l.length ∧ l.length ≤ 32 ∧ Q (.int (val l : Nat)) H
theorem ok_word_of {f : Addr} {fd : FuncData} (F : Fun K "word_of" "word_of" s_word_of f fd) (T : Txt K mg a_ONES_OF_FOUR a_SIGNS_OF_FOUR C_WoodError C_NoBits C_NoPlace C_NoRow C_NoWood C_NoKnot) : FnOk P w K mg base CX0 1 f fd ["signs"] spWord := by
  refine F.ok sc_word_of (fun vs H Q E h => ?_) (fun cdv A outer s H vs Q E hr h => ?_)
  · obtain ⟨l, rfl, _⟩ := h
    rfl
  · obtain ⟨l, rfl, h0, h1, q⟩ := h
    refine ⟨_, (pss_one (ps_ret (pe_callTy call_int_base (by rfl) T.n_int b_int (pa_d (pe_srev (pv 0)) (pa_d pe_int pa_nil rfl) rfl)))), ?_⟩
    walk_at "rd"
    refine ⟨_, rfl, ?_, ?_⟩
    · rw [signs_len]
      exact Nat.le_of_lt (small1000 (by omega))
    walk_at "rd"
    refine ⟨_, rfl, ?_, ?_, ?_, ?_⟩
    · rw [revS_length, signs_len]
      omega
    · intro c hc
      have : c ∈ (signs l).cps.toList := by
        have h : c ∈ (signs l).cps.toList.reverse.toArray.toList := hc
        simpa using h
      exact signs_bits l c this
    · intro z
      have e : (revS (signs l)).cps.toList.length = 0 := by rw [z]; rfl
      have e2 : (revS (signs l)).cps.toList.length = (revS (signs l)).length := by simp [Str.length]
      rw [e2, revS_length, signs_len] at e
      omega
    · rw [rev_v2]
      exact q

def spWords (K : PySem.W.Frag) : Sp := fun vs H Q _ => ∃ l : List Bool, vs = [.str (signs l)] ∧ l.length ≤ 20000 ∧ ∀ p H', Same H H' → H p = none → H' p = some (.tup (nV (wordsOf l))) → Q (.ref p) H'
theorem ok_words_of {f : Addr} {fd : FuncData} (F : Fun K "words_of" "words_of" s_words_of f fd) (T : Txt K mg a_ONES_OF_FOUR a_SIGNS_OF_FOUR C_WoodError C_NoBits C_NoPlace C_NoRow C_NoWood C_NoKnot) (c_word_of : Cal P w K mg base "word_of" 1 ["signs"] spWord) : FnOk P w K mg base CX0 2 f fd ["text"] (spWords K) := by
  refine F.ok sc_words_of (fun vs H Q E h => ?_) (fun cdv A outer s H vs Q E hr h => ?_)
  · obtain ⟨l, rfl, _⟩ := h
    rfl
  · obtain ⟨l, rfl, hl, q⟩ := h
    have hz : (signs l).length ≤ sizeLine := by rw [signs_len]; exact Nat.le_of_lt (small20000 (by omega))
    refine ⟨_, (pss_one (ps_ret (pe_callTy call_tuple_of (by rfl) T.n_tuple b_tuple (pa_d (pe_lc rfl lc_words_of_0 (pi_range3 rfl T.n_range (pa_d pe_int (pa_d (pe_callB call_len_str (by rfl) T.n_len b_len (pa_d (pv 0) pa_nil rfl)) (pa_d (pe_globI rfl T.g_WORD_BITS) pa_nil rfl) rfl) rfl)) (fun _ _ _ _ => pif_nil) (fun _ _ _ _ => (pe_fn c_word_of (hr.mono (by decide : 1 ≤ _)) (pa_d (pe_slice sl_str (pv 1) (po_some (pv 0)) (po_some (pe_op op_add (pv 0) (pe_globI rfl T.g_WORD_BITS)))) pa_nil rfl)))) pa_nil rfl)))), ?_⟩
    walk_at "rd"
    refine ⟨_, rfl, hz, ?_⟩
    rw [signs_len]
    walk_at "rd"
    refine ⟨0, l.length, 32, rfl, by omega, ?_⟩
    have hn : stepsN 0 (l.length : Int) 32 = manyW l.length := stepsN_nat l.length 32 (by decide)
    rw [hn]
    refine lc_steps (fun i => nV ((List.range i).map fun j => val (wordAt l j))) rfl (fun i hi => ?_) (fun i H1 R A hi sm kR kA => ?_) (fun D H1 hD sm hl' => ?_)
    · have := manyW_lt hi
      rw [List.length_map, List.length_map, List.length_range]
      exact small20000 (by omega)
    · walk_at "rd"
      refine r_slS hz ?_
      have hi' := manyW_lt hi
      rw [show (0 + (i : Int) * 32) = ((32 * i : Nat) : Int) by omega, show (((32 * i : Nat) : Int) + 32) = ((32 * i + 32 : Nat) : Int) by omega, cut_signs]
      walk_at "rd"
      refine ⟨wordAt l i, ?_, ?_, ?_, ?_⟩
      · unfold wordAt
        rw [show 32 * i + 32 - 32 * i = 32 by omega]
        rfl
      · unfold wordAt
        rw [List.length_take, List.length_drop]
        omega
      · unfold wordAt
        rw [List.length_take]
        omega
      · refine kA _ _ ?_ (Same.refl _)
        exact nV_range _ _
    · walk_at "rd"
      refine ⟨D, _, rfl, .inl ⟨SqL.of hl', fun p hp => ?_⟩⟩
      exact q p _ (sm.trans (same_upd hp)) (sm.free hp) upd_same

def bitsFs (l : List Bool) (t : Addr) : List (Str × V) := [("length", .int (l.length : Nat)), ("many_ones", .int (l.count true : Nat)), ("kept_words", .ref t)]
def IsBits (K : PySem.W.Frag) (C : Addr) (H : Hp) (a : Addr) (l : List Bool) : Prop := ∃ dx t, H a = some (.ins C dx (bitsFs l t)) ∧ H t = some (.tup (nV (wordsOf l))) ∧ l.length ≤ 20000
theorem isBits_but {K : PySem.W.Frag} {C x b : Addr} {H H' : Hp} {l : List Bool} (s : SameBut x H H') (n : NotSq H x) (hne : b ≠ x) (h : IsBits K C H b l) : IsBits K C H' b l := by
  obtain ⟨dx, t, h1, h2, h3⟩ := h
  exact ⟨dx, t, s _ _ hne h1, s _ _ (fun e => by subst e; exact (n _).1 (.inl h2)) h2, h3⟩
theorem IsBits.same {K : PySem.W.Frag} {C b : Addr} {H H' : Hp} {l : List Bool} (s : Same H H') (h : IsBits K C H b l) : IsBits K C H' b l := by
  obtain ⟨dx, t, h1, h2, h3⟩ := h
  exact ⟨dx, t, s _ _ h1, s _ _ h2, h3⟩
def spBitsInit (K : PySem.W.Frag) (C : Addr) : Sp := fun vs H Q _ => ∃ (x dx : Addr) (l : List Bool), vs = [.ref x, .str (signs l)] ∧ H x = some (.ins C dx []) ∧ l.length ≤ 20000 ∧ ∀ H', SameBut x H H' → IsBits K C H' x l → Q .non H'
theorem rowS_signs {l : List Bool} (h : l.length ≤ 20000) : rowS (signs l) = true := by
  unfold rowS
  rw [signs_len, if_neg (by omega)]
  exact decide_eq_true (cnt_signs l).2
theorem ok_Bits_init {f : Addr} {fd : FuncData} (F : Fun K "__init__" "Bits.__init__" s_Bits_init f fd) (T : Txt K mg a_ONES_OF_FOUR a_SIGNS_OF_FOUR C_WoodError C_NoBits C_NoPlace C_NoRow C_NoWood C_NoKnot) (Z : Z_Bits K C_Bits) (c_is_row : Cal P w K mg base "is_row" 1 ["thing"] spIsRow) (c_words_of : Cal P w K mg base "words_of" 2 ["text"] (spWords K)) :
    FnOk P w K mg base CX0 3 f fd ["self", "text"] (spBitsInit K C_Bits) := by
  refine F.ok sc_Bits_init (fun vs H Q E h => ?_) (fun cdv A outer s H vs Q E hr h => ?_)
  · obtain ⟨x, dx, l, rfl, _⟩ := h
    rfl
  · obtain ⟨x, dx, l, rfl, hx, hl, q⟩ := h
    have hz : (signs l).length ≤ sizeLine := by rw [signs_len]; exact Nat.le_of_lt (small20000 (by omega))
    refine ⟨_, (pss_cons (ps_if (pt_not (pt_val (pe_fn c_is_row (hr.mono (by decide : 1 ≤ _)) (pa_d (pv 1) pa_nil rfl)))) (pss_one ps_never)
      pss_nil)
      (pss_cons (ps_fld (pv 0) (pe_callB call_len_str (by rfl) T.n_len b_len (pa_d (pv 1) pa_nil rfl)) rfl)
      (pss_cons (ps_fld (pv 0) (pe_bm PySem.F.plainAttrs_str PySem.F.slot_str_count PySem.F.type_str_count mt_count (pv 1) (pa_d pe_str pa_nil rfl)) rfl)
      (pss_one (ps_fld (pv 0) (pe_fn c_words_of (hr.mono (by decide : 2 ≤ _)) (pa_d (pv 1) pa_nil rfl)) rfl))))), ?_⟩
    walk_at "rd"
    refine ⟨_, rfl, hz, ?_⟩
    rw [rowS_signs hl]
    walk_at "rd"
    refine ⟨_, rfl, hz, ?_⟩
    rw [signs_len]
    walk_at "rd"
    refine r_sfldE hx Z.cl Z.n_length (by decide) ?_
    walk_at "rd"
    refine ⟨rfl, ?_⟩
    walk_at "rd"
    refine ⟨_, 49, rfl, rfl, ?_⟩
    rw [(cnt_signs l).1]
    walk_at "rd"
    refine r_sfldE upd_same Z.cl Z.n_many_ones (show 1 < 1000 by decide) ?_
    rw [upd_upd]
    walk_at "rd"
    refine ⟨l, rfl, hl, fun t H' sm hf ht => ?_⟩
    walk_at "rd"
    refine r_sfldE (sm _ _ upd_same) Z.cl Z.n_kept_words (show 2 < 1000 by decide) ?_
    walk_at "rd"
    refine q _ ((sameBut_upd.trans sm.but).trans sameBut_upd) ⟨dx, t, upd_same, ?_, hl⟩
    have hne : t ≠ x := fun e => by
      subst e
      rw [upd_same] at hf
      cases hf
    rw [upd_ne hne]
    exact ht

def spBitsSize (K : PySem.W.Frag) (C : Addr) : Sp := fun vs H Q _ => ∃ (x : Addr) (l : List Bool), vs = [.ref x] ∧ IsBits K C H x l ∧ Q (.int (l.length : Nat)) H
theorem ok_Bits_size {f : Addr} {fd : FuncData} (F : Fun K "size" "Bits.size" s_Bits_size f fd) (T : Txt K mg a_ONES_OF_FOUR a_SIGNS_OF_FOUR C_WoodError C_NoBits C_NoPlace C_NoRow C_NoWood C_NoKnot) (Z : Z_Bits K C_Bits) : FnOk P w K mg base CX0 1 f fd ["self"] (spBitsSize K C_Bits) := by
  refine F.ok sc_Bits_size (fun vs H Q E h => ?_) (fun cdv A outer s H vs Q E hr h => ?_)
  · obtain ⟨x, l, rfl, _⟩ := h
    rfl
  · obtain ⟨x, l, rfl, ⟨dx, t, hx, ht, hl⟩, q⟩ := h
    refine ⟨_, (pss_one (ps_ret (pe_fld (pv 0) rfl))), ?_⟩
    walk_at "rd"
    exact r_fldE hx Z.cl Z.n_length rfl q

def spBitsWords (K : PySem.W.Frag) (C : Addr) : Sp := fun vs H Q _ => ∃ (x : Addr) (l : List Bool), vs = [.ref x] ∧ IsBits K C H x l ∧ ∀ t, H t = some (.tup (nV (wordsOf l))) → Q (.ref t) H
theorem ok_Bits_words {f : Addr} {fd : FuncData} (F : Fun K "words" "Bits.words" s_Bits_words f fd) (T : Txt K mg a_ONES_OF_FOUR a_SIGNS_OF_FOUR C_WoodError C_NoBits C_NoPlace C_NoRow C_NoWood C_NoKnot) (Z : Z_Bits K C_Bits) : FnOk P w K mg base CX0 1 f fd ["self"] (spBitsWords K C_Bits) := by
  refine F.ok sc_Bits_words (fun vs H Q E h => ?_) (fun cdv A outer s H vs Q E hr h => ?_)
  · obtain ⟨x, l, rfl, _⟩ := h
    rfl
  · obtain ⟨x, l, rfl, ⟨dx, t, hx, ht, hl⟩, q⟩ := h
    refine ⟨_, (pss_one (ps_ret (pe_fld (pv 0) rfl))), ?_⟩
    walk_at "rd"
    exact r_fldE hx Z.cl Z.n_kept_words rfl (q t ht)

def spRun : Sp := fun vs H Q _ => ∃ (a : Addr) (xs : List Nat), vs = [.ref a] ∧ H a = some (.lst (nV xs)) ∧ xs.length ≤ 1000 ∧ ∀ p H', Same H H' → H p = none → H' p = some (.lst (nV ((List.range (xs.length + 1)).map fun i => (xs.take i).sum))) → Q (.ref p) H'
theorem ok_running_sums {f : Addr} {fd : FuncData} (F : Fun K "running_sums" "running_sums" s_running_sums f fd) (T : Txt K mg a_ONES_OF_FOUR a_SIGNS_OF_FOUR C_WoodError C_NoBits C_NoPlace C_NoRow C_NoWood C_NoKnot) : FnOk P w K mg base CX0 1 f fd ["numbers"] spRun := by
  refine F.ok sc_running_sums (fun vs H Q E h => ?_) (fun cdv A outer s H vs Q E hr h => ?_)
  · obtain ⟨a, xs, rfl, _⟩ := h
    rfl
  · obtain ⟨a, xs, rfl, ha, hn, q⟩ := h
    refine ⟨_, (pss_cons (ps_set (i := 1) sc_running_sums.nd rfl (Or.inl rfl) (pe_lst (pa_d pe_int pa_nil rfl)))
      (pss_cons (ps_for PassesOwn.never rfl (pi_list (pv 0)) (pg_name (i := 2) sc_running_sums.nd rfl (Or.inl rfl))
      (pss_one (ps_expr (pe_bm PySem.F.plainAttrs_list PySem.F.slot_list_append PySem.F.type_list_append mt_append (pv 1) (pa_d (pe_op op_add (pe_ix ix_list (pv 1) (pe_un un_neg pe_int) (fun _ _ => rfl)) (pv 2)) pa_nil rfl)))))
      (pss_one (ps_ret (pv 1))))), ?_⟩
    walk_at "rd"
    refine ⟨few (by simp), fun p hp => ?_⟩
    have t0 := same_upd (o := .lst [V.int 0]) hp
    walk_at "rd"
    refine ⟨a, rfl, ⟨_, SqL.of (t0 _ _ ha)⟩, ?_⟩
    refine for_list (xs := nV xs) (fun i σ H1 => (∃ v : Option V, σ = [some (.ref a), some (.ref p), v]) ∧ H1 p = some (.lst (nV ((List.range (i + 1)).map fun i => (xs.take i).sum))) ∧ Same H H1) ⟨⟨_, rfl⟩, upd_same, t0⟩ (fun i σ H1 _ h => SqL.of (h.2.2 _ _ ha)) ?_ ?_
    · rintro i x σ H1 hx ⟨⟨v, rfl⟩, hp1, s1⟩
      have hi := at_lt hx
      rw [show (nV xs).length = xs.length by unfold nV; rw [List.length_map]] at hi
      obtain rfl : x = .int (xs[i] : Nat) := by
        unfold nV at hx
        rw [List.getElem?_map, List.getElem?_eq_getElem hi] at hx
        exact (Option.some.inj hx).symm
      walk_at "rd"
      refine ⟨.inl ⟨rfl, _, SqL.of hp1⟩, ?_⟩
      walk_at "rd"
      refine r_ixL (SqL.of hp1) (v := .int ((xs.take i).sum : Nat)) ?_ ?_
      · rw [nV_range]
        exact atI_last _ _
      walk_at "rd"
      refine r_append hp1 ?_ ?_
      · unfold nV
        rw [List.length_map, List.length_map, List.length_range]
        exact small20000 (by omega)
      walk_at "rd"
      refine ⟨⟨_, rfl⟩, ?_, fun b u e => ?_⟩
      · rw [upd_same, nV_range _ (i + 1), List.take_add_one, List.getElem?_eq_getElem hi, List.sum_append]
        show some (HO.lst (_ ++ [V.int (((xs.take i).sum : Nat) + (xs[i] : Nat) : Int)])) = some (HO.lst (_ ++ [V.int (((xs.take i).sum + [xs[i]].sum : Nat) : Int)]))
        rw [List.sum_singleton, Int.natCast_add]
      · rw [upd_ne (ne_of_none e hp)]
        exact s1 _ _ e
    · rintro σ H1 ⟨⟨v, rfl⟩, hp1, s1⟩
      rw [show (nV xs).length = xs.length by unfold nV; rw [List.length_map]] at hp1
      walk_at "rd"
      exact q p H1 s1 hp hp1

def blocks (n : Nat) : Nat := (manyW n + 7) / 8
def tableOf (l : List Bool) : List Nat := (List.range (blocks l.length + 1)).map fun b => cnt l (256 * b)
def spTable (K : PySem.W.Frag) : Sp := fun vs H Q _ => ∃ (t : Addr) (l : List Bool), vs = [.ref t] ∧ H t = some (.tup (nV (wordsOf l))) ∧ l.length ≤ 20000 ∧ ∀ p H', Same H H' → H p = none → H' p = some (.tup (nV (tableOf l))) → Q (.ref p) H'
theorem wordsOf_cut (l : List Bool) (b : Nat) : ((wordsOf l).drop (8 * b)).take 8 = (List.range (min 8 (manyW l.length - 8 * b))).map fun i => val (wordAt l (8 * b + i)) := by
  unfold TW.wordsOf
  refine List.ext_getElem? fun i => ?_
  rw [List.getElem?_take]
  by_cases h8 : i < 8
  · rw [if_pos h8, List.getElem?_drop, List.getElem?_map, List.getElem?_map]
    by_cases hm : 8 * b + i < manyW l.length
    · rw [List.getElem?_range hm, List.getElem?_range (by omega)]
      rfl
    · rw [List.getElem?_eq_none (by rw [List.length_range]; omega), List.getElem?_eq_none (by rw [List.length_range]; omega)]
      rfl
  · rw [if_neg h8, List.getElem?_eq_none (by rw [List.length_map, List.length_range]; omega)]
def blk (l : List Bool) (i : Nat) : List Nat := (List.range (min 8 (manyW l.length - 8 * i))).map fun j => val (wordAt l (8 * i + j))
def bsum (l : List Bool) (i : Nat) : Nat := ((List.range (min 8 (manyW l.length - 8 * i))).map fun m => pc (val (wordAt l (8 * i + m)))).sum
theorem bsum_all (l : List Bool) : ∀ i, (((List.range i).map (bsum l)).sum) = cnt l (256 * i)
  | 0 => by
    show 0 = cnt l 0
    rfl
  | i + 1 => by
    rw [List.range_succ, List.map_append, List.sum_append, bsum_all l i]
    show cnt l (256 * i) + [bsum l i].sum = _
    rw [List.sum_singleton]
    have := block_sum l i (min 8 (manyW l.length - 8 * i)) rfl
    unfold bsum
    omega
def Blks (K : PySem.W.Frag) (l : List Bool) (i : Nat) (ys : List V) (H : Hp) : Prop := ys.length = i ∧ ∀ j y, ys[j]? = some y → ∃ a, y = .ref a ∧ SqT K H a (nV (blk l j))
theorem blks_upd {K : PySem.W.Frag} {l : List Bool} {i : Nat} {ys : List V} {H : Hp} {D : Addr} {xs : List V} {o : HO} (hD : H D = some (.lst xs)) (h : Blks K l i ys H) : Blks K l i ys (upd H D o) := ⟨h.1, fun j y e => by
  obtain ⟨a, rfl, ht⟩ := h.2 j y e
  refine ⟨a, rfl, ?_⟩
  rcases ht with (ht | ⟨ob, ht⟩) | ht
  · exact .inl (.inl (by rw [upd_ne (ne_of ht hD (by intro z; cases z))]; exact ht))
  · exact .inl (.inr ⟨ob, by rw [upd_ne (ne_of ht hD (by intro z; cases z))]; exact ht⟩)
  · exact .inr ht⟩
theorem Blks.same {K : PySem.W.Frag} {l : List Bool} {i : Nat} {ys : List V} {H H' : Hp} (h : Blks K l i ys H) (s : Same H H') : Blks K l i ys H' := ⟨h.1, fun j y e => by
  obtain ⟨a, rfl, ht⟩ := h.2 j y e
  exact ⟨a, rfl, s.seqT ht⟩⟩
theorem ok_table_of_words {f : Addr} {fd : FuncData} (F : Fun K "table_of_words" "table_of_words" s_table_of_words f fd) (T : Txt K mg a_ONES_OF_FOUR a_SIGNS_OF_FOUR C_WoodError C_NoBits C_NoPlace C_NoRow C_NoWood C_NoKnot) (c_ones_in : Cal P w K mg base "ones_in" 1 ["word"] spOnes) (c_running_sums : Cal P w K mg base "running_sums" 1 ["numbers"] spRun) : FnOk P w K mg base CX0 2 f fd ["words"] (spTable K) := by
  refine F.ok sc_table_of_words (fun vs H Q E h => ?_) (fun cdv A outer s H vs Q E hr h => ?_)
  · obtain ⟨t, l, rfl, _⟩ := h
    rfl
  · obtain ⟨t, l, rfl, ht, hl, q⟩ := h
    have hW : (wordsOf l).length = manyW l.length := by unfold TW.wordsOf; rw [List.length_map, List.length_range]
    have hM : manyW l.length ≤ 626 := by unfold manyW; omega
    have hB : blocks l.length ≤ 80 := by unfold blocks; omega
    refine ⟨_, (pss_cons (ps_setlc (i := 1) rfl lc_table_of_words_0 sc_table_of_words.nd rfl rfl (pi_range3 rfl T.n_range (pa_d pe_int (pa_d (pe_callB call_len_seq (by rfl) T.n_len b_len (pa_d (pv 0) pa_nil rfl)) (pa_d (pe_globI rfl T.g_BLOCK_WORDS) pa_nil rfl) rfl) rfl)) (fun _ _ _ _ => pif_nil) (fun _ _ _ _ => (pe_slice (sl_tupAK K) (pv 1) (po_some (pv 0)) (po_some (pe_op op_add (pv 0) (pe_globI rfl T.g_BLOCK_WORDS))))))
      (pss_one (ps_ret (pe_callTy call_tuple_of (by rfl) T.n_tuple b_tuple (pa_d (pe_fn c_running_sums (hr.mono (by decide : 1 ≤ _)) (pa_d (pe_lc rfl lc_table_of_words_1 (pi_list (pv 1)) (fun _ _ _ _ => pif_nil) (fun _ _ _ _ => (pe_callB (call_sumK K rfl) (by rfl) T.n_sum b_sum (pa_d (pe_lcIn rfl lc_table_of_words_2 (pi_tupK K (pv 0)) (fun _ _ _ _ => pif_nil) (fun _ _ _ _ => (pe_fn c_ones_in (hr.mono (by decide : 1 ≤ _)) (pa_d (pv 0) pa_nil rfl)))) pa_nil rfl)))) pa_nil rfl)) pa_nil rfl))))), ?_⟩
    walk_at "rd"
    refine ⟨t, _, rfl, .inr (SqT.of ht), ?_⟩
    walk_at "rd"
    rw [List.length_map, hW]
    refine ⟨0, manyW l.length, 8, rfl, by omega, ?_⟩
    have hn : stepsN 0 (manyW l.length : Int) 8 = blocks l.length := stepsN_nat (manyW l.length) 8 (by decide)
    rw [hn]
    refine lc_stepsN (fun i ys H1 => Blks K l i ys H1) (fun H1 _ => ⟨rfl, fun j y e => by cases e⟩) (fun i ys H1 D xs o hD h => blks_upd hD h) (fun i ys H1 hi h => by rw [h.1]; exact small1000 (by omega)) (fun i ys H1 A R hi s1 hP kA => ?_) (fun D ys H1 hD s1 hP hDl => ?_)
    · walk_at "rd"
      refine ⟨t, _, rfl, SqT.of (s1 _ _ ht), fun p2 H2 s2 hp2 => ?_⟩
      rw [show (0 + (i : Int) * 8) = ((8 * i : Nat) : Int) by omega, show (((8 * i : Nat) : Int) + 8) = ((8 * i + 8 : Nat) : Int) by omega, cutV_nat, show 8 * i + 8 - 8 * i = 8 by omega] at hp2
      have e8 : ((nV (wordsOf l)).drop (8 * i)).take 8 = nV (blk l i) := by
        unfold nV blk
        rw [← List.map_drop, ← List.map_take, wordsOf_cut]
      rw [e8] at hp2
      refine kA _ _ s2 ⟨by rw [List.length_append, hP.1]; rfl, fun j y e => ?_⟩
      by_cases hj : j < ys.length
      · rw [List.getElem?_append_left hj] at e
        exact (hP.same s2).2 j y e
      · rw [List.getElem?_append_right (by omega)] at e
        have e0 : j - ys.length = 0 := by
          have := at_lt e
          simp only [List.length_cons, List.length_nil] at this
          omega
        rw [e0] at e
        obtain rfl := Option.some.inj e
        have : j = i := by have := hP.1; omega
        subst this
        exact ⟨p2, rfl, hp2⟩
    · walk_at "rd"
      refine ⟨D, rfl, ⟨_, SqL.of hDl⟩, ?_⟩
      refine lc_list (SqL.of hDl) (fun i => nV ((List.range i).map (bsum l))) rfl (fun i hi => ?_) (fun i x H2 R A hx s2 kR kA => ?_) (fun D2 H2 hD2 s2 hl2 => ?_)
      · unfold nV
        rw [List.length_map, List.length_map, List.length_range]
        rw [hP.1] at hi
        exact small1000 (by omega)
      · obtain ⟨b, rfl, hb⟩ := (hP.same s2).2 i x hx
        walk_at "rd"
        refine ⟨b, rfl, ⟨_, hb⟩, ?_⟩
        refine lc_tup hb (fun j => nV ((List.range j).map fun m => pc (val (wordAt l (8 * i + m))))) rfl (fun j hj => ?_) (fun j x H3 R3 A3 hx3 s3 kR3 kA3 => ?_) (fun D3 H3 hD3 s3 hl3 => ?_)
        · unfold blk nV at hj
          rw [List.length_map, List.length_map, List.length_range] at hj
          rw [List.length_map, List.length_map, List.length_range]
          exact small1000 (by omega)
        · have hj : j < min 8 (manyW l.length - 8 * i) := by
            have := (List.getElem?_eq_some_iff.mp hx3).1
            unfold blk nV at this
            rwa [List.length_map, List.length_map, List.length_range] at this
          have hxe : x = .int (val (wordAt l (8 * i + j)) : Nat) := by
            unfold nV blk at hx3
            rw [List.getElem?_map, List.getElem?_map, List.getElem?_range hj] at hx3
            exact (Option.some.inj hx3).symm
          subst hxe
          walk_at "rd"
          refine ⟨_, rfl, ?_⟩
          refine kA3 _ _ ?_ (Same.refl _)
          exact nV_range _ _
        · unfold blk at hl3
          rw [List.length_map, List.length_map, List.length_range] at hl3
          walk_at "rd"
          refine ⟨D3, _, rfl, SqL.of (by rw [hl3, nV_ints]), ?_⟩
          rw [sum_cast]
          refine kA _ _ ?_ s3
          exact nV_range _ _
      · rw [hP.1] at hl2
        walk_at "rd"
        refine ⟨D2, (List.range (blocks l.length)).map (bsum l), rfl, hl2, by rw [List.length_map, List.length_range]; omega, fun p4 H4 s4 hp4 hl4 => ?_⟩
        walk_at "rd"
        refine ⟨p4, _, rfl, .inl ⟨SqL.of hl4, fun p5 hp5 => ?_⟩⟩
        have et : (List.range (((List.range (blocks l.length)).map (bsum l)).length + 1)).map (fun i => (((List.range (blocks l.length)).map (bsum l)).take i).sum) = tableOf l := by
          rw [List.length_map, List.length_range]
          unfold tableOf
          refine List.map_congr_left fun i hi => ?_
          have hi := List.mem_range.mp hi
          rw [← List.map_take, List.take_range, Nat.min_eq_left (by omega), bsum_all]
        rw [et] at *
        exact q p5 _ (((s1.trans s2).trans s4).trans (same_upd hp5)) (((s1.trans s2).trans s4).free hp5) upd_same

def countsFs (l : List Bool) (t u : Addr) : List (Str × V) := [("length", .int (l.length : Nat)), ("kept_words", .ref t), ("kept_table", .ref u)]
def IsCounts (K : PySem.W.Frag) (C : Addr) (H : Hp) (a : Addr) (l : List Bool) : Prop := ∃ dx t u, H a = some (.ins C dx (countsFs l t u)) ∧ H t = some (.tup (nV (wordsOf l))) ∧ H u = some (.tup (nV (tableOf l))) ∧ l.length ≤ 20000
theorem IsCounts.same {K : PySem.W.Frag} {C b : Addr} {H H' : Hp} {l : List Bool} (s : Same H H') (h : IsCounts K C H b l) : IsCounts K C H' b l := by
  obtain ⟨dx, t, u, h1, h2, h3, h4⟩ := h
  exact ⟨dx, t, u, s _ _ h1, s _ _ h2, s _ _ h3, h4⟩
def spCountsInit (K : PySem.W.Frag) (CB C : Addr) : Sp := fun vs H Q _ => ∃ (x dx b : Addr) (l : List Bool), vs = [.ref x, .ref b] ∧ H x = some (.ins C dx []) ∧ IsBits K CB H b l ∧ ∀ H', SameBut x H H' → IsCounts K C H' x l → Q .non H'
theorem ok_Counts_init {f : Addr} {fd : FuncData} (F : Fun K "__init__" "Counts.__init__" s_Counts_init f fd) (T : Txt K mg a_ONES_OF_FOUR a_SIGNS_OF_FOUR C_WoodError C_NoBits C_NoPlace C_NoRow C_NoWood C_NoKnot) (Z : Z_Counts K C_Counts) (m_Bits_size : Mth P w K mg base C_Bits "size" 1 ["self"] (spBitsSize K C_Bits))
    (m_Bits_words : Mth P w K mg base C_Bits "words" 1 ["self"] (spBitsWords K C_Bits)) (c_table_of_words : Cal P w K mg base "table_of_words" 2 ["words"] (spTable K)) :
    FnOk P w K mg base CX0 3 f fd ["self", "bits"] (spCountsInit K C_Bits C_Counts) := by
  refine F.ok sc_Counts_init (fun vs H Q E h => ?_) (fun cdv A outer s H vs Q E hr h => ?_)
  · obtain ⟨x, dx, b, l, rfl, _⟩ := h
    rfl
  · obtain ⟨x, dx, b, l, rfl, hx, hb, q⟩ := h
    have hb0 := hb
    obtain ⟨dxb, t, hbx, ht, hl⟩ := hb0
    have hbne : b ≠ x := ne_of hbx hx (by intro z; cases z)
    refine ⟨_, (pss_cons (ps_fld (pv 0) (pe_mt0 m_Bits_size (hr.mono (by decide : 1 ≤ _)) (pv 1)) rfl)
      (pss_cons (ps_fld (pv 0) (pe_mt0 m_Bits_words (hr.mono (by decide : 1 ≤ _)) (pv 1)) rfl)
      (pss_one (ps_fld (pv 0) (pe_fn c_table_of_words (hr.mono (by decide : 2 ≤ _)) (pa_d (pe_fld (pv 0) rfl) pa_nil rfl)) rfl)))), ?_⟩
    walk_at "rd"
    refine ⟨b, dxb, _, rfl, hbx, rfl, ?_⟩
    walk_at "rd"
    refine ⟨b, l, rfl, hb, ?_⟩
    walk_at "rd"
    refine r_sfldE hx Z.cl Z.n_length (by decide) ?_
    walk_at "rd"
    refine ⟨b, dxb, bitsFs l t, rfl, by rw [upd_ne hbne]; exact hbx, rfl, ?_⟩
    walk_at "rd"
    refine ⟨b, l, rfl, isBits_but sameBut_upd (notSq_ins hx) hbne hb, fun t2 ht2 => ?_⟩
    walk_at "rd"
    refine r_sfldE upd_same Z.cl Z.n_kept_words (show 1 < 1000 by decide) ?_
    rw [upd_upd]
    have ht3 : (upd H x (.ins C_Counts dx (putF "kept_words" (.ref t2) (putF "length" (.int (l.length : Nat)) [])))) t2 = some (.tup (nV (wordsOf l))) := by
      have hne : t2 ≠ x := ne_of ht2 upd_same (by intro z; cases z)
      rw [upd_ne hne] at ht2 ⊢
      exact ht2
    walk_at "rd"
    refine ⟨x, C_Counts, dx, _, .ref t2, rfl, upd_same, Z.cl, Z.n_kept_words, rfl, ?_⟩
    walk_at "rd"
    refine ⟨t2, l, rfl, ht3, hl, fun u H' sm hf hu => ?_⟩
    walk_at "rd"
    refine r_sfldE (sm _ _ upd_same) Z.cl Z.n_kept_table (show 2 < 1000 by decide) ?_
    walk_at "rd"
    have hix := sm _ _ (upd_same (H := H) (a := x))
    have n1 : t2 ≠ x := ne_of (sm _ _ ht3) hix (by intro z; cases z)
    have n2 : u ≠ x := ne_of hu hix (by intro z; cases z)
    exact q _ ((sameBut_upd.trans sm.but).trans sameBut_upd) ⟨dx, t2, u, upd_same, by rw [upd_ne n1]; exact sm _ _ ht3, by rw [upd_ne n2]; exact hu, hl⟩

theorem table_at {l : List Bool} {b : Nat} (h : b ≤ blocks l.length) : atI (nV (tableOf l)) (b : Int) = some (.int (cnt l (256 * b) : Nat)) := by
  refine atI_nat ?_
  unfold nV tableOf
  rw [List.getElem?_map, List.getElem?_map, List.getElem?_range (by omega)]
  rfl
def spOnesAhead (K : PySem.W.Frag) (C : Addr) : Sp := fun vs H Q _ => ∃ (a : Addr) (l : List Bool) (n : Nat), vs = [.ref a, .int n] ∧ IsCounts K C H a l ∧ n ≤ l.length ∧ ∀ H', Same H H' → Q (.int (cnt l n : Nat)) H'
theorem ok_Counts_ones_ahead {f : Addr} {fd : FuncData} (F : Fun K "ones_ahead" "Counts.ones_ahead" s_Counts_ones_ahead f fd) (T : Txt K mg a_ONES_OF_FOUR a_SIGNS_OF_FOUR C_WoodError C_NoBits C_NoPlace C_NoRow C_NoWood C_NoKnot) (Z : Z_Counts K C_Counts) (c_ones_in : Cal P w K mg base "ones_in" 1 ["word"] spOnes) : FnOk P w K mg base CX0 2 f fd ["self", "place"] (spOnesAhead K C_Counts) := by
  refine F.ok sc_Counts_ones_ahead (fun vs H Q E h => ?_) (fun cdv A outer s H vs Q E hr h => ?_)
  · obtain ⟨a, l, n, rfl, _⟩ := h
    rfl
  · obtain ⟨a, l, n, rfl, ⟨dx, t, u, hx, ht, hu, hl⟩, hn, q⟩ := h
    refine ⟨_, (pss_cons (ps_set (i := 2) sc_Counts_ones_ahead.nd rfl (Or.inl rfl) (pe_op op_fdiv (pv 1) (pe_globI rfl T.g_WORD_BITS)))
      (pss_cons (ps_set (i := 3) sc_Counts_ones_ahead.nd rfl (Or.inl rfl) (pe_op op_fdiv (pv 2) (pe_globI rfl T.g_BLOCK_WORDS)))
      (pss_cons (ps_set (i := 4) sc_Counts_ones_ahead.nd rfl (Or.inl rfl) (pe_ix ix_tup (pe_fld (pv 0) rfl) (pv 3) (fun _ _ => rfl)))
      (pss_cons (ps_for PassesOwn.never rfl (pi_tup (pe_slice sl_tupA (pe_fld (pv 0) rfl) (po_some (pe_op op_mul (pv 3) (pe_globI rfl T.g_BLOCK_WORDS))) (po_some (pv 2)))) (pg_name (i := 5) sc_Counts_ones_ahead.nd rfl (Or.inl rfl))
      (pss_one (ps_aug (i := 4) sc_Counts_ones_ahead.nd rfl (Or.inl rfl) (pe_fn c_ones_in (hr.mono (by decide : 1 ≤ _)) (pa_d (pv 5) pa_nil rfl)) ip_add)))
      (pss_cons (ps_set (i := 6) sc_Counts_ones_ahead.nd rfl (Or.inl rfl) (pe_op op_mod (pv 1) (pe_globI rfl T.g_WORD_BITS)))
      (pss_cons (ps_if (pt_cmpR op_gt (pv 6) pe_int (nomark _)) (pss_one (ps_aug (i := 4) sc_Counts_ones_ahead.nd rfl (Or.inl rfl) (pe_fn c_ones_in (hr.mono (by decide : 1 ≤ _)) (pa_d (pe_op op_and (pe_ix ix_tup (pe_fld (pv 0) rfl) (pv 2) (fun _ _ => rfl)) (pe_op op_sub (pe_op op_shl pe_int (pv 6)) pe_int)) pa_nil rfl)) ip_add))
      pss_nil)
      (pss_one (ps_ret (pv 4))))))))), ?_⟩
    walk_at "rd"
    refine ⟨a, C_Counts, dx, _, _, rfl, hx, Z.cl, Z.n_kept_table, rfl, ?_⟩
    walk_at "rd"
    rw [show ((n : Int) / 32 / 8) = ((n / 256 : Nat) : Int) by omega, show ((n : Int) / 32) = ((n / 32 : Nat) : Int) by omega]
    refine r_ixT (SqT.of hu) (table_at (by unfold blocks manyW; omega)) ?_
    walk_at "rd"
    refine ⟨a, C_Counts, dx, _, _, rfl, hx, Z.cl, Z.n_kept_words, rfl, ?_⟩
    walk_at "rd"
    refine ⟨t, _, rfl, SqT.of ht, fun p2 H2 s2 hp2 => ?_⟩
    rw [show ((n / 256 : Nat) : Int) * 8 = ((8 * (n / 256) : Nat) : Int) by omega, cutV_nat] at hp2
    have e8 : ((nV (wordsOf l)).drop (8 * (n / 256))).take (n / 32 - 8 * (n / 256)) = nV ((List.range (n / 32 - 8 * (n / 256))).map fun j => val (wordAt l (8 * (n / 256) + j))) := by
      unfold nV
      have : min (n / 32 - 8 * (n / 256)) (manyW l.length - 8 * (n / 256)) = n / 32 - 8 * (n / 256) := by unfold manyW; omega
      rw [← List.map_drop, ← List.map_take, words_cut, this]
    rw [e8] at hp2
    refine ⟨p2, rfl, ⟨_, hp2⟩, ?_⟩
    generalize hm : n / 32 - 8 * (n / 256) = m at hp2
    refine for_tup (xs := nV ((List.range m).map fun j => val (wordAt l (8 * (n / 256) + j)))) (fun i σ H' => H' = H2 ∧ ∃ v5 v6 : Option V, σ = [some (.ref a), some (.int n), some (.int ((n / 32 : Nat) : Int)), some (.int ((n / 256 : Nat) : Int)), some (.int (cnt l (32 * (8 * (n / 256) + i)) : Nat)), v5, v6]) ?_ (fun i σ H' _ h => by rw [h.1]; exact hp2) ?_ ?_
    · refine ⟨rfl, none, none, ?_⟩
      rw [show 32 * (8 * (n / 256) + 0) = 256 * (n / 256) by omega]
      rfl
    · rintro i x σ H' hx' ⟨rfl, v5, v6, rfl⟩
      have hi : i < m := by
        have := (List.getElem?_eq_some_iff.mp hx').1
        rwa [List.length_map, List.length_map, List.length_range] at this
      have hze : x = .int (val (wordAt l (8 * (n / 256) + i)) : Nat) := by
        unfold nV at hx'
        rw [List.getElem?_map, List.getElem?_map, List.getElem?_range hi] at hx'
        exact (Option.some.inj hx').symm
      subst hze
      walk_at "rd"
      refine ⟨_, rfl, ?_⟩
      walk_at "rd"
      refine ⟨rfl, some (.int (val (wordAt l (8 * (n / 256) + i)) : Nat)), v6, ?_⟩
      have := cnt_word l (8 * (n / 256) + i)
      rw [show 8 * (n / 256) + (i + 1) = 8 * (n / 256) + i + 1 by omega, this]
      rfl
    · rintro σ H' ⟨rfl, v5, v6, rfl⟩
      rw [show (nV ((List.range m).map fun j => val (wordAt l (8 * (n / 256) + j)))).length = m by unfold nV; rw [List.length_map, List.length_map, List.length_range], show 8 * (n / 256) + m = n / 32 by omega]
      walk_at "rd"
      have ec : cnt l n = cnt l (32 * (n / 32)) + ((l.drop (32 * (n / 32))).take (n % 32)).count true := by
        rw [← cnt_add]
        congr 1
        omega
      refine iteP (fun hr' => ?_) (fun hr' => ?_)
      · have hr0 : 0 < n % 32 := by omega
        walk_at "rd"
        refine ⟨a, C_Counts, dx, _, _, rfl, s2 _ _ hx, Z.cl, Z.n_kept_words, rfl, ?_⟩
        walk_at "rd"
        refine r_ixT (SqT.of (s2 _ _ ht)) (word_at (by unfold manyW; omega)) ?_
        walk_at "rd"
        refine r_rI ⟨by omega, by omega, by decide⟩ ?_
        walk_at "rd"
        rw [and_mask _ (n % 32) (by omega)]
        refine ⟨_, rfl, ?_⟩
        walk_at "rd"
        rw [val_take, pc_val]
        have e2 : (wordAt l (n / 32)).take (n % 32) = (l.drop (32 * (n / 32))).take (n % 32) := by
          unfold wordAt
          rw [List.take_take, Nat.min_eq_left (by omega)]
        rw [e2]
        have := q _ s2
        rw [ec] at this
        exact this
      · have hr0 : n % 32 = 0 := by omega
        walk_at "rd"
        have := q _ s2
        rw [ec, hr0, List.take_zero] at this
        exact this

def spAhead (K : PySem.W.Frag) (C CB CP : Addr) : Sp := fun vs H Q E => ∃ (a : Addr) (l : List Bool) (x y : V), vs = [.ref a, x, y] ∧ IsCounts K C H a l ∧ Any K H x ∧ Any K H y ∧ (∀ (b : Bool) (n : Nat), x = .int (b.toNat : Nat) → y = .int n → n ≤ l.length → ∀ H', Same H H' → Q (.int ((occ b l n).length : Nat)) H') ∧
  (inI x 0 1 = false → E (.ref CB) none H) ∧ (inI x 0 1 = true → inI y 0 (l.length : Int) = false → E (.ref CP) none H)
theorem ok_Counts_ahead {f : Addr} {fd : FuncData} (F : Fun K "ahead" "Counts.ahead" s_Counts_ahead f fd) (T : Txt K mg a_ONES_OF_FOUR a_SIGNS_OF_FOUR C_WoodError C_NoBits C_NoPlace C_NoRow C_NoWood C_NoKnot) (Z : Z_Counts K C_Counts) (c_check_bit : CalE P w K mg base "check_bit" 3 ["bit"] (spCheckBit K C_NoBits)) (c_check_place : CalE P w K mg base "check_place" 3 ["place", "greatest"] (spCheckPlace K C_NoPlace))
    (m_Counts_ones_ahead : Mth P w K mg base C_Counts "ones_ahead" 2 ["self", "place"] (spOnesAhead K C_Counts)) : FnOk P w K mg base (CXE P w) 4 f fd ["self", "bit", "place"] (spAhead K C_Counts C_NoBits C_NoPlace) := by
  refine F.okE sc_Counts_ahead (fun vs H Q E h => ?_) (fun cdv A outer s H vs Q E hr h => ?_)
  · obtain ⟨a, l, x, y, rfl, _⟩ := h
    rfl
  · obtain ⟨a, l, x, y, rfl, hC, ha, hb, q1, q2, q3⟩ := h
    obtain ⟨dx, t, u, hx, ht, hu, hl⟩ := id hC
    refine ⟨_, (pss_cons (ps_expr (pe_fnE c_check_bit (hr.mono (by decide : 3 ≤ _)) (pass_on rfl) (pa_d (pv 1) pa_nil rfl)))
      (pss_cons (ps_expr (pe_fnE c_check_place (hr.mono (by decide : 3 ≤ _)) (pass_on rfl) (pa_d (pv 2) (pa_d (pe_fld (pv 0) rfl) pa_nil rfl) rfl)))
      (pss_cons (ps_set (i := 3) sc_Counts_ahead.nd rfl (Or.inl rfl) (pe_mt m_Counts_ones_ahead (hr.mono (by decide : 2 ≤ _)) (pv 0) (pa_d (pv 2) pa_nil rfl)))
      (pss_one (ps_ret (pe_ifExp (pt_cmpR op_eq (pv 1) pe_int (nomark _)) (pv 3) (pe_op op_sub (pv 2) (pv 3)))))))), ?_⟩
    walk_at "rd"
    refine ⟨x, rfl, ha, fun hbx => ?_, q2⟩
    walk_at "rd"
    refine ⟨a, C_Counts, dx, _, _, rfl, hx, Z.cl, Z.n_length, rfl, ?_⟩
    walk_at "rd"
    refine ⟨y, _, rfl, hb, fun hby => ?_, fun hby => q3 hbx hby⟩
    obtain ⟨b, rfl⟩ := bit_in hbx
    obtain ⟨i, rfl, i0, i1⟩ := inI_of hby
    obtain ⟨n, rfl⟩ := Int.eq_ofNat_of_zero_le i0
    have hn : n ≤ l.length := by omega
    have q1 := q1 b n rfl rfl hn
    walk_at "rd"
    refine ⟨a, dx, _, rfl, hx, rfl, ?_⟩
    walk_at "rd"
    refine ⟨a, l, n, rfl, hC, hn, fun H' s' => ?_⟩
    walk_at "rd"
    have ho := occ_cnt l n
    cases b with
    | true =>
      refine iteP (fun _ => ?_) (fun z => absurd rfl z)
      walk_at "rd"
      have := q1 H' s'
      rw [ho.1] at this
      exact this
    | false =>
      refine iteP (fun z => absurd z (by decide)) (fun _ => ?_)
      walk_at "rd"
      have := q1 H' s'
      rw [show ((n : Int) - (cnt l n : Nat)) = ((occ false l n).length : Nat) by omega]
      exact this

def hts (l : List Bool) (i : Nat) : List Int := (List.range i).map fun j => hgt l (j + 1)
theorem hts_succ (l : List Bool) (i : Nat) : hts l (i + 1) = hts l i ++ [hgt l (i + 1)] := by
  unfold hts
  rw [List.range_succ, List.map_append]
  rfl
def htB (l : List Bool) (b : Int) (i : Nat) : List Int := (hts l i).map (b + ·)
def spHeightsB : Sp := fun vs H Q _ => ∃ (l : List Bool) (bg : Int), vs = [.str (signs l), .int bg] ∧ l.length ≤ 1000 ∧ ∀ p H', Same H H' → H p = none → H' p = some (.lst ((htB l bg l.length).map V.int)) → Q (.ref p) H'
theorem ok_heights_of {f : Addr} {fd : FuncData} (F : Fun K "heights_of" "heights_of" s_heights_of f fd) (T : Txt K mg a_ONES_OF_FOUR a_SIGNS_OF_FOUR C_WoodError C_NoBits C_NoPlace C_NoRow C_NoWood C_NoKnot) : FnOk P w K mg base CX0 1 f fd ["text", "begin"] spHeightsB := by
  refine F.ok sc_heights_of (fun vs H Q E h => ?_) (fun cdv A outer s H vs Q E hr h => ?_)
  · obtain ⟨l, bg, rfl, _⟩ := h
    rfl
  · obtain ⟨l, bg, rfl, hl, q⟩ := h
    refine ⟨_, (pss_cons (ps_set (i := 2) sc_heights_of.nd rfl (Or.inl rfl) (pv 1))
      (pss_cons (ps_set (i := 3) sc_heights_of.nd rfl (Or.inl rfl) (pe_lst pa_nil))
      (pss_cons (ps_for PassesOwn.never rfl (pi_str (pv 0)) (pg_name (i := 4) sc_heights_of.nd rfl (Or.inl rfl))
      (pss_cons (ps_aug (i := 2) sc_heights_of.nd rfl (Or.inl rfl) (pe_ifExp (pt_cmpR op_eq (pv 4) pe_str (nomark _)) pe_int (pe_un un_neg pe_int)) ip_add)
      (pss_one (ps_expr (pe_bm PySem.F.plainAttrs_list PySem.F.slot_list_append PySem.F.type_list_append mt_append (pv 3) (pa_d (pv 2) pa_nil rfl))))))
      (pss_one (ps_ret (pv 3)))))), ?_⟩
    walk_at "rd"
    refine ⟨Nat.zero_le _, fun p hp => ?_⟩
    walk_at "rd"
    refine ⟨_, rfl, ?_⟩
    refine for_str (fun i σ H1 => ∃ v : Option V, σ = [some (.str (signs l)), some (.int bg), some (.int (bg + hgt l i)), some (.ref p), v] ∧ H1 p = some (.lst ((htB l bg i).map V.int)) ∧ Same H H1) ⟨_, by rw [show bg + hgt l 0 = bg by unfold hgt; simp]; rfl, upd_same, same_upd hp⟩ ?_ ?_
    · rintro i c σ H1 hc ⟨v, rfl, hp1, sm⟩
      obtain ⟨b, hb, rfl⟩ := sign_of hc
      have hi := at_lt hb
      have hh := hgt_succ hb
      have hz1 : ((htB l bg i).map V.int).length < sizeLine := by
        rw [List.length_map]
        unfold htB hts
        rw [List.length_map, List.length_map, List.length_range]
        exact small1000 (by omega)
      have fin : ∀ d : Int, hgt l (i + 1) = hgt l i + d → ∃ v : Option V, [some (V.str (signs l)), some (V.int bg), some (V.int (bg + hgt l i + d)), some (V.ref p), some (V.str (sgn (if b then 49 else 48)))] = [some (V.str (signs l)), some (V.int bg), some (V.int (bg + hgt l (i + 1))), some (V.ref p), v] ∧
          (upd H1 p (.lst ((htB l bg i).map V.int ++ [V.int (bg + hgt l i + d)]))) p = some (.lst ((htB l bg (i + 1)).map V.int)) ∧ Same H (upd H1 p (.lst ((htB l bg i).map V.int ++ [V.int (bg + hgt l i + d)]))) := fun d hd => by
        refine ⟨_, by rw [hd, Int.add_assoc], ?_, fun b' u e => ?_⟩
        · unfold htB
          rw [upd_same, hts_succ, hd, List.map_append, List.map_append, Int.add_assoc]
          rfl
        · rw [upd_ne (ne_of_none e hp)]
          exact sm _ _ e
      walk_at "rd"
      refine iteP (fun h1 => ?_) (fun h1 => ?_)
      · have hd : hgt l (i + 1) = hgt l i + 1 := by cases b with | true => exact hh | false => exact absurd h1 (by decide)
        walk_at "rd"
        refine ⟨.inl ⟨rfl, _, SqL.of hp1⟩, ?_⟩
        walk_at "rd"
        exact r_append hp1 hz1 (fin 1 hd)
      · have hd : hgt l (i + 1) = hgt l i + -1 := by cases b with | false => exact hh | true => exact absurd rfl h1
        walk_at "rd"
        refine ⟨.inl ⟨rfl, _, SqL.of hp1⟩, ?_⟩
        walk_at "rd"
        exact r_append hp1 hz1 (fin (-1) hd)
    · rintro σ H1 ⟨v, rfl, hp1, sm⟩
      rw [show (signs l).cps.size = l.length from signs_len l] at *
      walk_at "rd"
      exact q p H1 sm hp hp1

/-- where a text is barred, no more than 8192 signs -/
def dueF8 : List Nat → Nat → Int → Option Nat
  | [], k, h => if h > 0 then some k else none
  | c :: r, k, h => if isBad c = true then some k else if h + (if c = 49 then 1 else -1) < 0 then some k else if k = 8192 then some k else dueF8 r (k + 1) (h + (if c = 49 then 1 else -1))
def dueV8 : V → Option Nat
  | .str z => dueF8 z.cps.toList 0 0
  | _ => some 0
theorem due8 : ∀ (cs : List Nat) (k : Nat) (h : Int), k ≤ 8192 → dueF8 cs k h = none → dueF cs k h = none ∧ k + cs.length ≤ 8192
  | [], k, h, hk, e => ⟨e, hk⟩
  | c :: r, k, h, hk, e => by
    unfold dueF8 at e
    unfold dueF
    by_cases h1 : isBad c = true
    · rw [if_pos h1] at e; cases e
    · rw [if_neg h1] at e ⊢
      by_cases h2 : h + (if c = 49 then 1 else -1) < 0
      · rw [if_pos h2] at e; cases e
      · rw [if_neg h2] at e ⊢
        by_cases h3 : k = 8192
        · rw [if_pos h3] at e; cases e
        · rw [if_neg h3] at e
          obtain ⟨a, b⟩ := due8 r (k + 1) _ (by omega) e
          exact ⟨a, by rw [List.length_cons]; omega⟩
def spCheck8 (K : PySem.W.Frag) (C : Addr) : Sp := fun vs H Q E => ∃ v : V, vs = [v] ∧ AnyS K H v ∧ (∀ z, v = .str z → z.length ≤ 9000) ∧ (dueV8 v = none → ∀ H', Same H H' → Q .non H') ∧
  ∀ d : Nat, dueV8 v = some d → ∀ dx H', Same H H' → H dx = none → H' dx = some (.xd [("place", .int d)]) → E (.ref C) (some dx) H'
theorem small12 {i : Nat} (h : i ≤ 10000) : ((i : Int)).natAbs < 10 ^ 12 := by
  have : (10000 : Nat) < 10 ^ 12 := by decide
  omega
theorem ok_check_row {f : Addr} {fd : FuncData} (F : Fun K "check_row" "check_row" s_check_row f fd) (T : Txt K mg a_ONES_OF_FOUR a_SIGNS_OF_FOUR C_WoodError C_NoBits C_NoPlace C_NoRow C_NoWood C_NoKnot) (x_NoRow : ExcI P w K mg base "NoRow" C_WoodError C_NoRow 1 ["self", "place"]) : FnOk P w K mg base (CXE P w) 3 f fd ["text"] (spCheck8 K C_NoRow) := by
  refine F.okE sc_check_row (fun vs H Q E h => ?_) (fun cdv A outer s H vs Q E hr h => ?_)
  · obtain ⟨v, rfl, _⟩ := h
    rfl
  · obtain ⟨v, rfl, hS, hz, q, qe⟩ := h
    refine ⟨_, (pss_cons (ps_if (pt_not (pt_val (pe_callB call_isinst (by rfl) T.n_isinstance b_isinstance (pa_d (pv 0) (pa_d (pe_bltn (v := .ty "str") rfl T.n_str b_str rfl) pa_nil rfl) rfl)))) (pss_one (ps_raiseI x_NoRow (hr.mono (by decide : 2 ≤ _)) rfl (pa_d pe_int pa_nil rfl)))
      pss_nil)
      (pss_cons (ps_set (i := 1) sc_check_row.nd rfl (Or.inl rfl) pe_int)
      (pss_cons (ps_for PassesOwn.leaving rfl (pi_enumS rfl T.n_enumerate (pa_d (pv 0) pa_nil rfl)) (pg_tup rfl (pgs_cons (pg_name (i := 2) sc_check_row.nd rfl (Or.inl rfl)) (pgs_cons (pg_name (i := 3) sc_check_row.nd rfl (Or.inl rfl)) pgs_nil)))
      (pss_cons (ps_aug (i := 1) sc_check_row.nd rfl (Or.inl rfl) (pe_ifExp (pt_cmpR op_eq (pv 3) pe_str (nomark _)) pe_int (pe_un un_neg pe_int)) ip_add)
      (pss_one (ps_if (PW.pt (pw_or (pt_cmpR op_notIn_str (pv 3) pe_str rfl) (pw_or (pt_cmpR op_lt (pv 1) pe_int (nomark _)) (pw_or1 (pt_cmpR op_eq (pv 2) (pe_globI rfl T.g_MOST_SIGNS_pairs) (nomark _)))))) (pss_one (ps_raiseI x_NoRow (hr.mono (by decide : 2 ≤ _)) rfl (pa_d (pv 2) pa_nil rfl)))
      pss_nil))))
      (pss_one (ps_if (pt_cmpR op_gt (pv 1) pe_int (nomark _)) (pss_one (ps_raiseI x_NoRow (hr.mono (by decide : 2 ≤ _)) rfl (pa_d (pe_callB call_len_str (by rfl) T.n_len b_len (pa_d (pv 0) pa_nil rfl)) pa_nil rfl)))
      pss_nil))))), ?_⟩
    walk_at "rd"
    obtain ⟨t, h1, h2⟩ := hS
    refine ⟨_, _, _, _, rfl, h1, h2, ?_⟩
    cases v with
    | str z =>
      have hz := hz z rfl
      rw [show isS (V.str z) = true from rfl]
      walk_at "rd"
      refine ⟨_, rfl, ?_⟩
      have hzs : z.cps.size = z.length := rfl
      refine for_enumS (fun i σ H1 => (∃ (h : Nat) (v2 v3 : Option V), σ = [some (.str z), some (.int h), v2, v3] ∧ h ≤ i ∧ dueF8 (z.cps.toList.drop i) i h = dueV8 (.str z)) ∧ Same H H1) ?_ ?_ ?_
      · exact ⟨⟨0, _, _, rfl, Nat.le_refl _, rfl⟩, Same.refl _⟩
      · rintro i c σ H1 t hc ⟨⟨h, v2, v3, rfl, hhi, hd⟩, s1⟩ ht
        have hi : i < z.length := (Array.getElem?_eq_some_iff.mp hc).1
        rw [cps_drop hc] at hd
        unfold dueF8 at hd
        have s2 := s1.trans (same_upd (o := .tup [.int i, .str (sgn c)]) ht)
        generalize upd H1 t (.tup [.int i, .str (sgn c)]) = H2 at *
        have out : dueV8 (.str z) = some i → ∀ dx, H2 dx = none → E (.ref C_NoRow) (some dx) (upd H2 dx (.xd [("place", .int (i : Nat))])) := fun e dx hx => qe i e dx _ (s2.trans (same_upd hx)) (s2.free hx) upd_same
        have sm : ((i : Nat) : Int).natAbs < 10 ^ 12 := small12 (by omega)
        walk_at "rd"
        refine iteP (fun h1 => ?_) (fun h1 => ?_)
        · obtain rfl := sgn_one h1
          have hd : (if (h : Int) + 1 < 0 then some i else if i = 8192 then some i else dueF8 (z.cps.toList.drop (i + 1)) (i + 1) ((h : Int) + 1)) = dueV8 (.str z) := hd
          rw [if_neg (by omega)] at hd
          walk_at "rd"
          refine ⟨_, _, rfl, rfl, ?_⟩
          rw [occ01, show isBad 49 = false by decide]
          walk_at "rd"
          refine iteP (fun h => by omega) (fun _ => ?_)
          walk_at "rd"
          refine iteP (fun h8 => ?_) (fun h8 => ?_)
          · rw [if_pos (by have := V.int.inj h8; omega)] at hd
            walk_at "rd"
            exact ⟨_, rfl, sm, out hd.symm⟩
          · rw [if_neg (fun e => h8 (by rw [e]; rfl))] at hd
            walk_at "rd"
            exact ⟨⟨h + 1, _, _, rfl, by omega, hd⟩, s2⟩
        · walk_at "rd"
          refine ⟨_, _, rfl, rfl, ?_⟩
          rw [occ01]
          cases hb : isBad c with
          | true =>
            rw [if_pos hb] at hd
            walk_at "rd"
            exact ⟨_, rfl, sm, out hd.symm⟩
          | false =>
            obtain rfl : c = 48 := (bad_iff.mp hb).resolve_right (sgn_one' h1)
            have hd : (if (h : Int) + -1 < 0 then some i else if i = 8192 then some i else dueF8 (z.cps.toList.drop (i + 1)) (i + 1) ((h : Int) + -1)) = dueV8 (.str z) := hd
            walk_at "rd"
            refine iteP (fun h => ?_) (fun h2 => ?_)
            · rw [if_pos h] at hd
              walk_at "rd"
              exact ⟨_, rfl, sm, out hd.symm⟩
            · rw [if_neg h2] at hd
              walk_at "rd"
              refine iteP (fun h8 => ?_) (fun h8 => ?_)
              · rw [if_pos (by have := V.int.inj h8; omega)] at hd
                walk_at "rd"
                exact ⟨_, rfl, sm, out hd.symm⟩
              rw [if_neg (fun e => h8 (by rw [e]; rfl))] at hd
              walk_at "rd"
              refine ⟨⟨h - 1, some (.int i), some (.str (sgn 48)), ?_, by omega, ?_⟩, s2⟩
              · rw [show ((h - 1 : Nat) : Int) = (h : Int) + -1 by omega]
                rfl
              · rw [show ((h - 1 : Nat) : Int) = (h : Int) + -1 by omega]
                exact hd
      · rintro σ H1 ⟨⟨h, v2, v3, rfl, hhi, hd⟩, s1⟩
        rw [List.drop_of_length_le (by rw [cps_len, hzs]; exact Nat.le_refl _)] at hd
        have hd : (if (h : Int) > 0 then some z.cps.size else none) = dueV8 (.str z) := hd
        rw [hzs] at hd
        walk_at "rd"
        refine iteP (fun h1 => ?_) (fun h1 => ?_)
        · rw [if_pos h1] at hd
          walk_at "rd"
          refine ⟨_, rfl, Nat.le_of_lt (small20000 (by omega)), ?_⟩
          walk_at "rd"
          exact ⟨_, rfl, small12 (i := z.length) (by omega), fun dx hx => qe _ hd.symm dx _ (s1.trans (same_upd hx)) (s1.free hx) upd_same⟩
        · rw [if_neg h1] at hd
          walk_at "rd"
          exact q hd.symm H1 s1
    | _ =>
      rw [show isS _ = false from rfl]
      walk_at "rd"
      exact ⟨_, rfl, by decide, fun dx hx => qe 0 rfl dx _ (same_upd hx) hx upd_same⟩

def pairFs1 (b : V) : List (Str × V) := [("bits", b)]
def pairFs2 (b c : V) : List (Str × V) := [("bits", b), ("counts", c)]
def pairFs (b c n t o : V) : List (Str × V) := [("bits", b), ("counts", c), ("length", n), ("kept_table", t), ("often_least", o)]
def spHInit (K : PySem.W.Frag) (CP : Addr) : Sp := fun vs H Q _ => ∃ (x dx : Addr) (b c n t o : V), vs = [.ref x, n, t, o] ∧ H x = some (.ins CP dx (pairFs2 b c)) ∧ Q .non (upd H x (.ins CP dx (pairFs b c n t o)))
theorem ok_Heights_init {f : Addr} {fd : FuncData} (F : Fun K "__init__" "Heights.__init__" s_Heights_init f fd) (T : Txt K mg a_ONES_OF_FOUR a_SIGNS_OF_FOUR C_WoodError C_NoBits C_NoPlace C_NoRow C_NoWood C_NoKnot) (Z : Z_Pairs K C_Pairs) : FnOk P w K mg base CX0 1 f fd ["self", "length", "table", "often_least"] (spHInit K C_Pairs) := by
  refine F.ok sc_Heights_init (fun vs H Q E h => ?_) (fun cdv A outer s H vs Q E hr h => ?_)
  · obtain ⟨x, dx, b, c, n, t, o, rfl, _⟩ := h
    rfl
  · obtain ⟨x, dx, b, c, n, t, o, rfl, hx, q⟩ := h
    refine ⟨_, (pss_cons (ps_fld (pv 0) (pv 1) rfl)
      (pss_cons (ps_fld (pv 0) (pv 2) rfl)
      (pss_one (ps_fld (pv 0) (pv 3) rfl)))), ?_⟩
    walk_at "rd"
    refine r_sfldE hx Z.cl Z.n_length (show 2 < 1000 by decide) ?_
    walk_at "rd"
    refine r_sfldE upd_same Z.cl Z.n_kept_table (show 3 < 1000 by decide) ?_
    rw [upd_upd]
    walk_at "rd"
    refine r_sfldE upd_same Z.cl Z.n_often_least (show 4 < 1000 by decide) ?_
    rw [upd_upd]
    exact q

def spOpens (K : PySem.W.Frag) (CC CP : Addr) : Sp := fun vs H Q _ => ∃ (x dx c : Addr) (fs : List (Str × V)) (l : List Bool) (n : Nat), vs = [.ref x, .int n] ∧ H x = some (.ins CP dx fs) ∧ fs.lookup ("counts" : Str) = some (.ref c) ∧ IsCounts K CC H c l ∧ n ≤ l.length ∧ ∀ H', Same H H' → Q (.int ((occ true l n).length : Nat)) H'
theorem ok_Pairs_opens_ahead {f : Addr} {fd : FuncData} (F : Fun K "opens_ahead" "Pairs.opens_ahead" s_Pairs_opens_ahead f fd) (T : Txt K mg a_ONES_OF_FOUR a_SIGNS_OF_FOUR C_WoodError C_NoBits C_NoPlace C_NoRow C_NoWood C_NoKnot) (Z : Z_Pairs K C_Pairs) (m_Counts_ahead : MthE P w K mg base C_Counts "ahead" 4 ["self", "bit", "place"] (spAhead K C_Counts C_NoBits C_NoPlace)) : FnOk P w K mg base CX0 5 f fd ["self", "place"] (spOpens K C_Counts C_Pairs) := by
  refine F.ok sc_Pairs_opens_ahead (fun vs H Q E h => ?_) (fun cdv A outer s H vs Q E hr h => ?_)
  · obtain ⟨x, dx, c, fs, l, n, rfl, _⟩ := h
    rfl
  · obtain ⟨x, dx, c, fs, l, n, rfl, hx, hc, hC, hn, q⟩ := h
    refine ⟨_, (pss_one (ps_ret (pe_mtE m_Counts_ahead (hr.mono (by decide : 4 ≤ _)) passE0 (pe_fld (pv 0) rfl) (pa_d pe_int (pa_d (pv 1) pa_nil rfl) rfl)))), ?_⟩
    walk_at "rd"
    refine ⟨x, C_Pairs, dx, fs, .ref c, rfl, hx, Z.cl, Z.n_counts, hc, ?_⟩
    obtain ⟨dc, t, u, hc1, _⟩ := id hC
    walk_at "rd"
    refine ⟨c, dc, _, rfl, hc1, rfl, ?_⟩
    walk_at "rd"
    refine ⟨c, l, .int 1, .int n, rfl, hC, any_int _, any_int _, fun b m e1 e2 hm H' s => ?_, fun e => ?_, fun _ e => ?_⟩
    · have hb : b = true := by
        cases b with
        | true => rfl
        | false => exact absurd (V.int.inj e1) (by decide)
      have hm : m = n := by have := V.int.inj e2; omega
      subst hb
      subst hm
      exact q H' s
    · cases e
    · rw [inI_int] at e
      simp at e
      omega

def spHeight (K : PySem.W.Frag) (CC CP : Addr) : Sp := fun vs H Q _ => ∃ (x dx c : Addr) (fs : List (Str × V)) (l : List Bool) (n : Nat), vs = [.ref x, .int n] ∧ H x = some (.ins CP dx fs) ∧ fs.lookup ("counts" : Str) = some (.ref c) ∧ fs.lookup ("opens_ahead" : Str) = none ∧ IsCounts K CC H c l ∧ n ≤ l.length ∧ ∀ H', Same H H' → Q (.int (2 * ((occ true l n).length : Int) - n)) H'
theorem ok_Heights_height {f : Addr} {fd : FuncData} (F : Fun K "height" "Heights.height" s_Heights_height f fd) (T : Txt K mg a_ONES_OF_FOUR a_SIGNS_OF_FOUR C_WoodError C_NoBits C_NoPlace C_NoRow C_NoWood C_NoKnot) (Z : Z_Pairs K C_Pairs) (m_Pairs_opens_ahead : Mth P w K mg base C_Pairs "opens_ahead" 5 ["self", "place"] (spOpens K C_Counts C_Pairs)) : FnOk P w K mg base CX0 6 f fd ["self", "place"] (spHeight K C_Counts C_Pairs) := by
  refine F.ok sc_Heights_height (fun vs H Q E h => ?_) (fun cdv A outer s H vs Q E hr h => ?_)
  · obtain ⟨x, dx, c, fs, l, n, rfl, _⟩ := h
    rfl
  · obtain ⟨x, dx, c, fs, l, n, rfl, hx, hc, ho, hC, hn, q⟩ := h
    refine ⟨_, (pss_one (ps_ret (pe_op op_sub (pe_op op_mul pe_int (pe_mt m_Pairs_opens_ahead (hr.mono (by decide : 5 ≤ _)) (pv 0) (pa_d (pv 1) pa_nil rfl))) (pv 1)))), ?_⟩
    walk_at "rd"
    refine ⟨x, dx, fs, rfl, hx, ho, ?_⟩
    walk_at "rd"
    refine ⟨x, dx, c, fs, l, n, rfl, hx, hc, hC, hn, fun H' s => ?_⟩
    walk_at "rd"
    exact q H' s

def IsPairs (K : PySem.W.Frag) (CB CC CP : Addr) (H : Hp) (x : Addr) (l : List Bool) : Prop := ∃ (dx b c : Addr) (t o : V), H x = some (.ins CP dx (pairFs (.ref b) (.ref c) (.int (l.length : Nat)) t o)) ∧ IsBits K CB H b l ∧ IsCounts K CC H c l
theorem IsPairs.same {K : PySem.W.Frag} {CB CC CP : Addr} {H H' : Hp} {x : Addr} {l : List Bool} (h : IsPairs K CB CC CP H x l) (s : Same H H') : IsPairs K CB CC CP H' x l := by
  obtain ⟨dx, b, c, t, o, h1, h2, h3⟩ := h
  exact ⟨dx, b, c, t, o, s _ _ h1, h2.same s, h3.same s⟩
def spPSize (K : PySem.W.Frag) (CB CC CP : Addr) : Sp := fun vs H Q _ => ∃ (x : Addr) (l : List Bool), vs = [.ref x] ∧ IsPairs K CB CC CP H x l ∧ Q (.int (l.length : Nat)) H
theorem ok_Heights_size {f : Addr} {fd : FuncData} (F : Fun K "size" "Heights.size" s_Heights_size f fd) (T : Txt K mg a_ONES_OF_FOUR a_SIGNS_OF_FOUR C_WoodError C_NoBits C_NoPlace C_NoRow C_NoWood C_NoKnot) (Z : Z_Pairs K C_Pairs) : FnOk P w K mg base CX0 1 f fd ["self"] (spPSize K C_Bits C_Counts C_Pairs) := by
  refine F.ok sc_Heights_size (fun vs H Q E h => ?_) (fun cdv A outer s H vs Q E hr h => ?_)
  · obtain ⟨x, l, rfl, _⟩ := h
    rfl
  · obtain ⟨x, l, rfl, ⟨dx, b, c, t, o, hx, _⟩, q⟩ := h
    refine ⟨_, (pss_one (ps_ret (pe_fld (pv 0) rfl))), ?_⟩
    walk_at "rd"
    exact ⟨x, C_Pairs, dx, _, _, rfl, hx, Z.cl, Z.n_length, rfl, q⟩

theorem made_same {H1 H2 : Hp} {x dx C : Addr} (hx : H1 x = none) (hd : H1 dx = none) (s : SameBut x (upd (upd H1 dx (.own x)) x (.ins C dx [])) H2) : Same H1 H2 := fun b u e => s b u (ne_of_none e hx) (by rw [upd_ne (ne_of_none e hx), upd_ne (ne_of_none e hd)]; exact e)
theorem new_same {H1 : Hp} {x dx : Addr} {o o' : HO} (hx : H1 x = none) (hd : H1 dx = none) : Same H1 (upd (upd H1 dx o) x o') := fun b u e => by rw [upd_ne (ne_of_none e hx), upd_ne (ne_of_none e hd)]; exact e
theorem isCounts_but {K : PySem.W.Frag} {C x b : Addr} {H H' : Hp} {l : List Bool} (s : SameBut x H H') (n : NotSq H x) (hne : b ≠ x) (h : IsCounts K C H b l) : IsCounts K C H' b l := by
  obtain ⟨dx, t, u, h1, h2, h3, h4⟩ := h
  exact ⟨dx, t, u, s _ _ hne h1, s _ _ (fun e => by subst e; exact (n _).1 (.inl h2)) h2, s _ _ (fun e => by subst e; exact (n _).1 (.inl h3)) h3, h4⟩
/-- the height at the begin of a stretch, its signs, the heights behind each of them -/
def bgH (l : List Bool) (t : Nat) : Int := 2 * ((occ true l (t * 256)).length : Int) - (t * 256 : Nat)
def sgH (l : List Bool) (t : Nat) : List Bool := (l.drop (t * 256)).take 256
theorem sgH_len (l : List Bool) (t : Nat) : (sgH l t).length ≤ 1000 := by unfold sgH; rw [List.length_take]; omega
def hSeg (l : List Bool) (t : Nat) : List Int := htB (sgH l t) (bgH l t) (sgH l t).length
def spPInit (K : PySem.W.Frag) (CB CC CP CR : Addr) : Sp := fun vs H Q E => ∃ (x dx : Addr) (v : V), vs = [.ref x, v] ∧ H x = some (.ins CP dx []) ∧ AnyS K H v ∧ (∀ z, v = .str z → z.length ≤ 9000) ∧ (∀ l, v = .str (signs l) → dueV8 v = none → ∀ H', SameBut x H H' → IsPairs K CB CC CP H' x l → Q .non H') ∧
  ∀ d : Nat, dueV8 v = some d → ∀ e H', Same H H' → H e = none → H' e = some (.xd [("place", .int d)]) → E (.ref CR) (some e) H'
theorem ok_Pairs_init {f : Addr} {fd : FuncData} (F : Fun K "__init__" "Pairs.__init__" s_Pairs_init f fd) (T : Txt K mg a_ONES_OF_FOUR a_SIGNS_OF_FOUR C_WoodError C_NoBits C_NoPlace C_NoRow C_NoWood C_NoKnot) (Z : Z_Pairs K C_Pairs) (c_check_row : CalE P w K mg base "check_row" 3 ["text"] (spCheck8 K C_NoRow)) (c_Bits : Mkr P w K mg base "Bits" C_Bits 3 ["self", "text"] (spBitsInit K C_Bits))
    (c_Counts : Mkr P w K mg base "Counts" C_Counts 3 ["self", "bits"] (spCountsInit K C_Bits C_Counts)) (m_Pairs_height : Mth P w K mg base C_Pairs "height" 6 ["self", "place"] (spHeight K C_Counts C_Pairs)) (c_heights_of : Cal P w K mg base "heights_of" 1 ["text", "begin"] spHeightsB)
    (b_Heights_init : CalC P w K mg base "Heights" "__init__" 1 ["self", "length", "table", "often_least"] (spHInit K C_Pairs)) : FnOk P w K mg base (CXE P w) 7 f fd ["self", "text"] (spPInit K C_Bits C_Counts C_Pairs C_NoRow) := by
  refine F.okE sc_Pairs_init (fun vs H Q E h => ?_) (fun cdv A outer s H vs Q E hr h => ?_)
  · obtain ⟨x, dx, v, rfl, _⟩ := h
    rfl
  · obtain ⟨x, dx, v, rfl, hx, hS, hz, q, qe⟩ := h
    refine ⟨_, (pss_cons (ps_expr (pe_fnE c_check_row (hr.mono (by decide : 3 ≤ _)) (pass_on rfl) (pa_d (pv 1) pa_nil rfl)))
      (pss_cons (ps_fld (pv 0) (pe_mk c_Bits (hr.mono (by decide : 4 ≤ _)) (pa_d (pv 1) pa_nil rfl)) rfl)
      (pss_cons (ps_fld (pv 0) (pe_mk c_Counts (hr.mono (by decide : 4 ≤ _)) (pa_d (pe_fld (pv 0) rfl) pa_nil rfl)) rfl)
      (pss_cons (ps_set (i := 2) sc_Pairs_init.nd rfl (Or.inl rfl) (pe_lrange3 rfl rfl T.n_list rfl T.n_range (pa_d pe_int (pa_d (pe_callB call_len_str (by rfl) T.n_len b_len (pa_d (pv 1) pa_nil rfl)) (pa_d (pe_globI rfl T.g_STRETCH_BITS) pa_nil rfl) rfl) rfl)))
      (pss_cons (ps_setlc (i := 3) rfl lc_Pairs_init_0 sc_Pairs_init.nd rfl rfl (pi_list (pv 2)) (fun _ _ _ _ => pif_nil) (fun _ _ _ _ => (pe_mt m_Pairs_height (hr.mono (by decide : 6 ≤ _)) (pv 1) (pa_d (pv 0) pa_nil rfl))))
      (pss_cons (ps_setlc2 (i := 4) rfl lc_Pairs_init_1 sc_Pairs_init.nd rfl rfl (pi_zip rfl T.n_zip (pa_d (pv 2) (pa_d (pv 3) pa_nil rfl) rfl)) (fun _ _ _ _ => pif_nil) (fun _ _ _ _ => (pe_fn c_heights_of (hr.mono (by decide : 1 ≤ _)) (pa_d (pe_slice sl_str (pv 2) (po_some (pv 0)) (po_some (pe_op op_add (pv 0) (pe_globI rfl T.g_STRETCH_BITS)))) (pa_d (pv 1) pa_nil rfl) rfl))))
      (pss_cons (ps_setlc2 (i := 5) rfl lc_Pairs_init_2 sc_Pairs_init.nd rfl rfl (pi_zip rfl T.n_zip (pa_d (pv 3) (pa_d (pv 4) pa_nil rfl) rfl)) (fun _ _ _ _ => pif_nil) (fun _ _ _ _ => (pe_tup (pa_d (pv 0) (pa_d (pe_callB (call_min1K K rfl) (by rfl) T.n_min b_min (pa_d (pv 1) pa_nil rfl)) (pa_d (pe_callB (call_max1K K rfl) (by rfl) T.n_max b_max (pa_d (pv 1) pa_nil rfl)) pa_nil rfl) rfl) rfl))))
      (pss_one (ps_expr (pe_cm b_Heights_init (hr.mono (by decide : 1 ≤ _)) rfl (pa_d (pv 0) (pa_d (pe_callB call_len_str (by rfl) T.n_len b_len (pa_d (pv 1) pa_nil rfl)) (pa_d (pe_callTy call_tuple_of (by rfl) T.n_tuple b_tuple (pa_d (pv 5) pa_nil rfl)) (pa_d (pe_lc rfl lc_Pairs_init_3 (pi_list (pv 4)) (fun _ _ _ _ => pif_nil) (fun _ _ _ _ => (pe_bmK K PySem.F.plainAttrs_list PySem.F.slot_list_count PySem.F.type_list_count mt_countB (pv 0) (pa_d (pe_callB (call_min1K K rfl) (by rfl) T.n_min b_min (pa_d (pv 0) pa_nil rfl)) pa_nil rfl)))) pa_nil rfl) rfl) rfl) rfl))))))))))), ?_⟩
    walk_at "rd"
    refine ⟨v, rfl, hS, hz, fun hn H1 s1 => ?_, qe⟩
    obtain ⟨z, rfl⟩ : ∃ z, v = .str z := by
      cases v with
      | str z => exact ⟨z, rfl⟩
      | _ => cases hn
    obtain ⟨hd8, hlen⟩ := due8 _ 0 0 (by decide) hn
    obtain ⟨l, hcs, hV⟩ := due_none _ 0 0 hd8
    obtain rfl : z = signs l := ext_cps (by rw [signs_cps]; exact hcs)
    have hl : l.length ≤ 8192 := by rw [hcs, List.length_map] at hlen; omega
    have q := q l rfl hn
    have hx1 := s1 _ _ hx
    walk_at "rd"
    intro b db hb hdb hbd
    refine ⟨b, db, l, rfl, upd_same, by omega, fun H2 s2 hB2 => ⟨rfl, ?_⟩⟩
    have s2 := made_same hb hdb s2
    have hx2 := s2 _ _ hx1
    have nbx : b ≠ x := (ne_of_none hx1 hb).symm
    walk_at "rd"
    refine r_sfldE hx2 Z.cl Z.n_bits (show 0 < 1000 by decide) ?_
    rw [show putF ("bits" : Str) (V.ref b) [] = (pairFs1 (.ref b)) from rfl]
    have hB3 : IsBits K C_Bits (upd H2 x (.ins C_Pairs dx (pairFs1 (.ref b)))) b l := isBits_but sameBut_upd (notSq_ins hx2) nbx hB2
    have hx3 : upd H2 x (.ins C_Pairs dx (pairFs1 (.ref b))) x = some (.ins C_Pairs dx (pairFs1 (.ref b))) := upd_same
    have b3 : SameBut x H2 (upd H2 x (.ins C_Pairs dx (pairFs1 (.ref b)))) := sameBut_upd
    generalize upd H2 x (.ins C_Pairs dx (pairFs1 (.ref b))) = H3 at *
    walk_at "rd"
    refine ⟨x, C_Pairs, dx, _, .ref b, rfl, hx3, Z.cl, Z.n_bits, rfl, ?_⟩
    walk_at "rd"
    intro c dc hc hdc hcd
    refine ⟨c, dc, b, l, rfl, upd_same, hB3.same (new_same hc hdc), fun H4 s4 hC4 => ⟨rfl, ?_⟩⟩
    have s4 := made_same hc hdc s4
    have hx4 := s4 _ _ hx3
    have ncx : c ≠ x := (ne_of_none hx3 hc).symm
    have hB4 := hB3.same s4
    walk_at "rd"
    refine r_sfldE hx4 Z.cl Z.n_counts (show 1 < 1000 by decide) ?_
    rw [show putF ("counts" : Str) (V.ref c) (pairFs1 (.ref b)) = pairFs2 (.ref b) (.ref c) from rfl]
    have hB5 : IsBits K C_Bits (upd H4 x (.ins C_Pairs dx (pairFs2 (.ref b) (.ref c)))) b l := isBits_but sameBut_upd (notSq_ins hx4) nbx hB4
    have hC5 : IsCounts K C_Counts (upd H4 x (.ins C_Pairs dx (pairFs2 (.ref b) (.ref c)))) c l := isCounts_but sameBut_upd (notSq_ins hx4) ncx hC4
    have hx5 : upd H4 x (.ins C_Pairs dx (pairFs2 (.ref b) (.ref c))) x = some (.ins C_Pairs dx (pairFs2 (.ref b) (.ref c))) := upd_same
    have b5 : SameBut x H4 (upd H4 x (.ins C_Pairs dx (pairFs2 (.ref b) (.ref c)))) := sameBut_upd
    have but5 : SameBut x H (upd H4 x (.ins C_Pairs dx (pairFs2 (.ref b) (.ref c)))) := (((s1.trans s2).but.trans b3).trans s4.but).trans b5
    generalize upd H4 x (.ins C_Pairs dx (pairFs2 (.ref b) (.ref c))) = H5 at *
    walk_at "rd"
    refine ⟨_, rfl, Nat.le_of_lt (small20000 (by rw [signs_len]; omega)), ?_⟩
    rw [signs_len]
    walk_at "rd"
    refine ⟨l.length, 256, rfl, by omega, by decide, by decide, fun lo hlo => ?_⟩
    have u6 := same_upd (o := .lst ((List.range ((l.length + 256 - 1) / 256)).map fun t : Nat => V.int (t * 256 : Nat))) hlo
    have hlo6 : upd H5 lo (.lst ((List.range ((l.length + 256 - 1) / 256)).map fun t : Nat => V.int (t * 256 : Nat))) lo = some (.lst ((List.range ((l.length + 256 - 1) / 256)).map fun t : Nat => V.int (t * 256 : Nat))) := upd_same
    have hx6 := u6 _ _ hx5
    have hB6 := hB5.same u6
    have hC6 := hC5.same u6
    have but6 := but5.trans u6.but
    generalize upd H5 lo (.lst ((List.range ((l.length + 256 - 1) / 256)).map fun t : Nat => V.int (t * 256 : Nat))) = H6 at *
    obtain ⟨m, hm⟩ : ∃ m, (l.length + 256 - 1) / 256 = m := ⟨_, rfl⟩
    rw [hm] at hlo6
    have hll : ((List.range m).map fun t : Nat => V.int (t * 256 : Nat)).length = m := by rw [List.length_map, List.length_range]
    walk_at "rd"
    refine ⟨lo, rfl, ⟨_, SqL.of hlo6⟩, ?_⟩
    refine lc_list (xs := (List.range m).map fun t : Nat => V.int (t * 256 : Nat)) (SqL.of hlo6) (fun i => (List.range i).map fun t : Nat => V.int (bgH l t)) rfl (fun i hi => ?_) (fun i y H7 R A hy s7 _ hA => ?_) (fun D7 H7 hD7 s7 h7 => ?_)
    · rw [List.length_map, List.length_range]
      exact small20000 (by omega)
    · have hi : i < m := by have := at_lt hy; rw [hll] at this; exact this
      rw [List.getElem?_map, List.getElem?_range hi] at hy
      obtain rfl : y = V.int (i * 256 : Nat) := (Option.some.inj hy).symm
      walk_at "rd"
      refine ⟨x, dx, _, rfl, s7 _ _ hx6, rfl, ?_⟩
      walk_at "rd"
      refine ⟨x, dx, c, _, l, i * 256, rfl, s7 _ _ hx6, rfl, rfl, hC6.same s7, by omega, fun H8 s8 => ?_⟩
      refine hA _ _ ?_ s8
      rw [List.range_succ, List.map_append]
      rfl
    rw [hll] at h7
    have hx7 := s7 _ _ hx6
    have hB7 := hB6.same s7
    have hC7 := hC6.same s7
    have but7 := but6.trans s7.but
    have hlo7 := s7 _ _ hlo6
    have hbl : ((List.range m).map fun t : Nat => V.int (bgH l t)).length = m := by rw [List.length_map, List.length_range]
    walk_at "rd"
    refine ⟨lo, D7, rfl, ⟨_, SqL.of hlo7⟩, ⟨_, SqL.of h7⟩, ?_⟩
    refine lc_zipN (SqL.of hlo7) (SqL.of h7) (fun D i zs H' => ∃ rs : List Addr, zs = rs.map V.ref ∧ rs.length = i ∧ ∀ (j : Nat) r, rs[j]? = some r → r ≠ D ∧ H' r = some (.lst ((hSeg l j).map V.int))) (fun D H' _ _ => ⟨[], rfl, rfl, fun j r e => by cases e⟩) ?_ ?_ ?_ ?_ ?_
    · rintro D i zs H' us o hD ⟨rs, e1, e2, e3⟩
      exact ⟨rs, e1, e2, fun j r e => ⟨(e3 j r e).1, by rw [upd_ne (e3 j r e).1]; exact (e3 j r e).2⟩⟩
    · rintro D i zs H' hi ⟨rs, rfl, e2, e3⟩
      rw [List.length_map, e2]
      rw [hll, hbl] at hi
      exact small20000 (by omega)
    · rintro D i zs H' H'' s ⟨rs, e1, e2, e3⟩
      exact ⟨rs, e1, e2, fun j r e => ⟨(e3 j r e).1, s _ _ (e3 j r e).2⟩⟩
    · intro D i zs y y2 H8 A R hy hy2 s8 hD0 hD8 hPv hA
      obtain ⟨rs, rfl, e2, e3⟩ := hPv
      have hi : i < m := by have := at_lt hy; rw [hll] at this; exact this
      rw [List.getElem?_map, List.getElem?_range hi] at hy hy2
      obtain rfl : y = V.int (i * 256 : Nat) := (Option.some.inj hy).symm
      obtain rfl : y2 = V.int (bgH l i) := (Option.some.inj hy2).symm
      walk_at "rd"
      refine ⟨_, rfl, Nat.le_of_lt (small20000 (by rw [signs_len]; omega)), ?_⟩
      walk_at "rd"
      have ec : cutS (signs l) (some ((i * 256 : Nat) : Int)) (some (((i * 256 : Nat) : Int) + 256)) = signs (sgH l i) := by
        have := cut_signs l (i * 256) (i * 256 + 256)
        rw [Nat.add_sub_cancel_left] at this
        exact this
      rw [ec]
      refine ⟨sgH l i, bgH l i, rfl, sgH_len l i, fun p H9 s9 hp h9 => ?_⟩
      refine hA _ _ s9 ⟨rs ++ [p], by rw [List.map_append]; rfl, by rw [List.length_append, e2]; rfl, fun j r e => ?_⟩
      by_cases hj : j < rs.length
      · rw [List.getElem?_append_left hj] at e
        exact ⟨(e3 j r e).1, s9 _ _ (e3 j r e).2⟩
      · have hj2 := at_lt e
        rw [List.length_append] at hj2
        have hj3 : j = rs.length := by simp at hj2; omega
        subst hj3
        rw [List.getElem?_append_right (Nat.le_refl _), Nat.sub_self] at e
        obtain rfl : p = r := Option.some.inj e
        rw [e2]
        exact ⟨(ne_of_none hD8 hp).symm, h9⟩
    · intro D8 zs H8 hD8 s8 hPv h8
      obtain ⟨rs, rfl, e2, e3⟩ := hPv
      rw [hll, hbl, Nat.min_self] at e2
      have hx8 := s8 _ _ hx7
      have hB8 := hB7.same s8
      have hC8 := hC7.same s8
      have but8 := but7.trans s8.but
      have h78 := s8 _ _ h7
      have hrl : (rs.map V.ref).length = m := by rw [List.length_map, e2]
      have hne : ∀ i, i < m → hSeg l i ≠ [] := fun i hi e => by
        have e := congrArg List.length e
        unfold hSeg htB hts sgH at e
        simp at e
        omega
      walk_at "rd"
      refine ⟨D7, D8, rfl, ⟨_, SqL.of h78⟩, ⟨_, SqL.of h8⟩, ?_⟩
      refine lc_zipN (SqL.of h78) (SqL.of h8) (fun D i zs H' => zs.length = i) (fun D H' _ _ => rfl) (fun D i zs H' us o _ h => h) ?_ (fun D i zs H' H'' _ h => h) ?_ ?_
      · intro D i zs H' hi h
        rw [hbl, hrl] at hi
        rw [h]
        exact small20000 (by omega)
      · intro D i zs y y2 H9 A R hy hy2 s9 _ _ hPv hA
        have hi : i < m := by have := at_lt hy; rw [hbl] at this; exact this
        rw [List.getElem?_map, List.getElem?_range hi] at hy
        obtain rfl : y = V.int (bgH l i) := (Option.some.inj hy).symm
        have er : rs[i]? = some (rs[i]'(by omega)) := List.getElem?_eq_getElem _
        generalize rs[i]'(by omega) = r at er
        rw [List.getElem?_map, er] at hy2
        obtain rfl : y2 = V.ref r := (Option.some.inj hy2).symm
        have hr9 := s9 _ _ (e3 i r er).2
        walk_at "rd"
        refine ⟨r, hSeg l i, rfl, SqL.of hr9, hne i hi, fun mn _ => ?_⟩
        walk_at "rd"
        refine ⟨r, hSeg l i, rfl, SqL.of hr9, hne i hi, fun mx _ => ?_⟩
        walk_at "rd"
        refine ⟨few (by simp), fun tp htp => ?_⟩
        exact hA _ _ (same_upd htp) (by rw [List.length_append, hPv]; rfl)
      · intro D9 zs H9 hD9 s9 hPv h9
        rw [hbl, hrl, Nat.min_self] at hPv
        have hx9 := s9 _ _ hx8
        have hB9 := hB8.same s9
        have hC9 := hC8.same s9
        have but9 := but8.trans s9.but
        have h89 := s9 _ _ h8
        walk_at "rd"
        refine ⟨_, rfl, Nat.le_of_lt (small20000 (by rw [signs_len]; omega)), ?_⟩
        rw [signs_len]
        walk_at "rd"
        refine ⟨D9, zs, rfl, .inl ⟨SqL.of h9, fun tq htq => ?_⟩⟩
        have s10 := same_upd (o := .tup zs) htq
        have hx10 := s10 _ _ hx9
        have hB10 := hB9.same s10
        have hC10 := hC9.same s10
        have but10 := but9.trans s10.but
        have h810 := s10 _ _ h89
        have e310 : ∀ (j : Nat) r, rs[j]? = some r → upd H9 tq (.tup zs) r = some (.lst ((hSeg l j).map V.int)) := fun j r e => s10 _ _ (s9 _ _ (e3 j r e).2)
        generalize upd H9 tq (.tup zs) = H10 at *
        walk_at "rd"
        refine ⟨D8, rfl, ⟨_, SqL.of h810⟩, ?_⟩
        refine lc_listN (SqL.of h810) (fun i ys H' => ys.length = i) (fun _ _ => rfl) (fun i ys H' D zs o _ h => h) (fun i ys H' hi h => ?_) ?_ ?_
        · rw [hrl] at hi
          rw [h]
          exact small20000 (by omega)
        · intro i ys y H11 A R hy s11 hPv hA
          have hi : i < m := by have := at_lt hy; rw [hrl] at this; exact this
          have er : rs[i]? = some (rs[i]'(by omega)) := List.getElem?_eq_getElem _
          generalize rs[i]'(by omega) = r at er
          rw [List.getElem?_map, er] at hy
          obtain rfl : y = V.ref r := (Option.some.inj hy).symm
          have hr := s11 _ _ (e310 i r er)
          walk_at "rd"
          refine ⟨.inl ⟨rfl, _, SqL.of hr⟩, ?_⟩
          walk_at "rd"
          refine ⟨r, hSeg l i, rfl, SqL.of hr, hne i hi, fun mn _ => ?_⟩
          walk_at "rd"
          refine ⟨r, _, _, rfl, rfl, hr, flat_ints _, rfl, ?_⟩
          exact hA _ _ (Same.refl _) (by rw [List.length_append, hPv]; rfl)
        · intro D12 ys H12 hD12 s12 hPv h12
          have hx12 := s12 _ _ hx10
          walk_at "rd"
          refine ⟨x, dx, .ref b, .ref c, .int (l.length : Nat), .ref tq, .ref D12, rfl, hx12, ?_⟩
          exact q _ ((but10.trans s12.but).trans sameBut_upd) ⟨dx, b, c, _, _, upd_same, isBits_but sameBut_upd (notSq_ins hx12) nbx (hB10.same s12), isCounts_but sameBut_upd (notSq_ins hx12) ncx (hC10.same s12)⟩

def spLookA (K : PySem.W.Frag) (C : Addr) : Sp := fun vs H Q E => ∃ v o, vs = [v] ∧ ThA K H v o ∧ (∀ ds, GoodO o ds → ∀ l H', Same H H' → H l = none → H' l = some (.lst ((elds ds).map V.int)) → Q (.ref l) H') ∧ NoWd C H E o
theorem take_snoc {xs : List V} {k : Nat} {x : V} (h : xs[k]? = some x) : xs.take (k + 1) = xs.take k ++ [x] := by rw [List.take_add_one, h]; rfl
theorem ok_look_at {f : Addr} {fd : FuncData} (F : Fun K "look_at" "look_at" s_look_at f fd) (T : Txt K mg a_ONES_OF_FOUR a_SIGNS_OF_FOUR C_WoodError C_NoBits C_NoPlace C_NoRow C_NoWood C_NoKnot) (x_NoWood : ExcI P w K mg base "NoWood" C_WoodError C_NoWood 1 ["self", "place"]) (c_is_whole : Cal P w K mg base "is_whole" 1 ["thing"] (spWhole0 K)) : FnOk P w K mg base (CXE P w) 3 f fd ["elders"] (spLookA K C_NoWood) := by
  refine F.okE sc_look_at (fun vs H Q E h => ?_) (fun cdv A outer s H vs Q E hr h => ?_)
  · obtain ⟨v, o, rfl, _⟩ := h
    rfl
  · obtain ⟨v, o, rfl, hT, q, qe⟩ := h
    refine ⟨_, (pss_cons (ps_if (pt_not (pt_val (pe_callB call_isinst (by rfl) T.n_isinstance b_isinstance (pa_d (pv 0) (pa_d (pe_bltn (v := .ty "list") rfl T.n_list b_list rfl) pa_nil rfl) rfl)))) (pss_one (ps_raiseI x_NoWood (hr.mono (by decide : 2 ≤ _)) rfl (pa_d pe_int pa_nil rfl)))
      pss_nil)
      (pss_cons (ps_set (i := 1) sc_look_at.nd rfl (Or.inl rfl) (pe_lst (pa_d (pe_un un_neg pe_int) pa_nil rfl)))
      (pss_cons (ps_for PassesOwn.leaving rfl (pi_enum rfl T.n_enumerate (pa_d (pv 0) pa_nil rfl)) (pg_tup rfl (pgs_cons (pg_name (i := 2) sc_look_at.nd rfl (Or.inl rfl)) (pgs_cons (pg_name (i := 3) sc_look_at.nd rfl (Or.inl rfl)) pgs_nil)))
      (pss_cons (ps_if (PW.pt (pw_or (pt_cmpR op_eq (pv 2) (pe_globI rfl T.g_MOST_KNOTS) (nomark _)) (pw_or (pt_not (pt_val (pe_fn c_is_whole (hr.mono (by decide : 1 ≤ _)) (pa_d (pv 3) pa_nil rfl)))) (pw_or1 (pt_cmpR op_lt (pv 3) (pe_un un_neg pe_int) (nomark _)))))) (pss_one (ps_raiseI x_NoWood (hr.mono (by decide : 2 ≤ _)) rfl (pa_d (pv 2) pa_nil rfl)))
      pss_nil)
      (pss_cons (ps_while PassesOwn.leaving (pt_cmpR op_gt (pe_ix ix_list (pv 1) (pe_un un_neg pe_int) (fun _ _ => rfl)) (pv 3) (nomark _))
      (pss_one (ps_expr (pe_bm0 PySem.F.plainAttrs_list PySem.F.slot_list_pop PySem.F.type_list_pop mt_pop (pv 1)))))
      (pss_cons (ps_if (pt_cmpR op_ne (pe_ix ix_list (pv 1) (pe_un un_neg pe_int) (fun _ _ => rfl)) (pv 3) (nomark _)) (pss_one (ps_raiseI x_NoWood (hr.mono (by decide : 2 ≤ _)) rfl (pa_d (pv 2) pa_nil rfl)))
      pss_nil)
      (pss_one (ps_expr (pe_bm PySem.F.plainAttrs_list PySem.F.slot_list_append PySem.F.type_list_append mt_append (pv 1) (pa_d (pv 2) pa_nil rfl))))))))
      (pss_one (ps_ret (pe_callTy call_list_of (by rfl) T.n_list b_list (pa_d (pv 0) pa_nil rfl))))))), ?_⟩
    walk_at "rd"
    cases o with
    | none =>
      obtain ⟨t, ht, hk⟩ := hT
      refine ⟨_, _, _, _, rfl, ht, hk, ?_⟩
      walk_at "rd"
      exact ⟨_, rfl, by decide, fun dx hx => qe 0 rfl dx _ (same_upd hx) hx upd_same⟩
    | some xs =>
      obtain ⟨a, rfl, ha, hf, hn⟩ := hT
      refine ⟨_, _, _, _, rfl, .lst ha, kit_list_list, ?_⟩
      walk_at "rd"
      refine ⟨few (by simp), fun p hp => ?_⟩
      walk_at "rd"
      have t0 := same_upd (o := .lst [V.int (-1)]) hp
      refine ⟨a, rfl, ⟨_, SqL.of (t0 _ _ ha)⟩, ?_⟩
      refine for_enum (xs := xs) (fun k σ H1 => (∃ (ds : List Nat) (v2 v3 : Option V), σ = [some (.ref a), some (.ref p), v2, v3] ∧ Dok ds ∧ ds.length = k ∧ k ≤ 4000 ∧ xs.take k = (elds ds).map V.int ∧ H1 p = some (.lst ((way ds k).map V.int))) ∧ Same H H1) ?_ (fun k σ H1 _ h => SqL.of (h.2 _ _ ha)) ?_ ?_
      · exact ⟨⟨[], _, _, rfl, (fun k hk => by cases hk), rfl, Nat.zero_le _, rfl, upd_same⟩, t0⟩
      · rintro k x σ H1 t hx ⟨⟨ds, v2, v3, rfl, hD, hl, hk4, htk, hp1⟩, s1⟩ ht
        have hk := at_lt hx
        have hfx := hf x (List.mem_of_getElem? hx)
        have st := same_upd (o := .tup [.int k, x]) ht
        have hp2 := st _ _ hp1
        have s2 := s1.trans st
        generalize upd H1 t (.tup [.int k, x]) = H2 at *
        have sm : ((k : Nat) : Int).natAbs < 10 ^ 12 := small12 (by omega)
        have out : ∀ H3, Same H H3 → (k = 4000 ∨ ∀ e, xs[k]? = some (V.int e) → e ∉ way ds k) → ∀ dx, H3 dx = none → E (.ref C_NoWood) (some dx) (upd H3 dx (.xd [("place", .int (k : Nat))])) := fun H3 s3 hb dx hx3 =>
          qe k ⟨ds, hD, hl, hk, hk4, htk, hb⟩ dx _ (s3.trans (same_upd hx3)) (s3.free hx3) upd_same
        walk_at "rd"
        refine iteP (fun h => ?_) (fun h4 => ?_)
        · have h := V.int.inj h
          walk_at "rd"
          exact ⟨_, rfl, sm, out H2 s2 (.inl (by omega))⟩
        have hk4 : k < 4000 := by
          rcases Nat.lt_or_eq_of_le hk4 with h | h
          · exact h
          · exact absurd (by rw [h]; rfl) h4
        walk_at "rd"
        refine ⟨x, rfl, hfx.same s2, ?_⟩
        cases hix : isI x with
        | false =>
          walk_at "rd"
          refine ⟨_, rfl, sm, out H2 s2 (.inr fun e he => ?_)⟩
          rw [hx] at he
          rw [Option.some.inj he] at hix
          cases hix
        | true =>
          obtain ⟨e, rfl⟩ := isI_of hix
          walk_at "rd"
          refine iteP (fun h => ?_) (fun hge => ?_)
          · walk_at "rd"
            refine ⟨_, rfl, sm, out H2 s2 (.inr fun e' he hm => ?_)⟩
            rw [hx] at he
            have := way_ge hD (by omega) hm
            have := V.int.inj (Option.some.inj he)
            omega
          walk_at "rd"
          have hw := way_len hD k (by omega)
          have hw0 := way_zero hD k (by omega)
          refine while_rd (fun σ H3 => σ = [some (.ref a), some (.ref p), some (.int k), some (.int e)] ∧ Same H H3 ∧ ∃ m, 1 ≤ m ∧ m ≤ (way ds k).length ∧ H3 p = some (.lst (((way ds k).take m).map V.int)) ∧ ∀ (j : Nat) y, m ≤ j → (way ds k)[j]? = some y → e < y) (fun _ H3 => lenAt H3 p)
            ⟨rfl, s2, (way ds k).length, by omega, Nat.le_refl _, by rw [List.take_of_length_le (Nat.le_refl _)]; exact hp2, fun j y hj hy => by have := at_lt hy; omega⟩ ?_
          rintro z σ H3 ⟨rfl, s3, m, hm1, hm2, hp3, hab⟩ hz
          rw [lenAt_of hp3, len_take hm2] at hz
          walk_at "rd"
          have hx1 : (way ds k)[m - 1]? = some ((way ds k)[m - 1]'(by omega)) := List.getElem?_eq_getElem _
          generalize (way ds k)[m - 1]'(by omega) = y at hx1
          refine r_ixL (SqL.of hp3) (last_take (by omega) hx1) ?_
          walk_at "rd"
          refine iteP (fun h => ?_) (fun h => ?_)
          · have hm3 : 2 ≤ m := by
              by_cases e1 : m = 1
              · rw [e1, hw0] at hx1
                have := Option.some.inj hx1
                omega
              · omega
            refine r_turn ?_
            walk_at "rd"
            refine ⟨.inl ⟨rfl, _, SqL.of hp3⟩, ?_⟩
            refine ⟨p, _, .int y, rfl, rfl, hp3, ?_, ?_⟩
            · rw [len_take hm2, iV_at (n := y)]
              rw [List.getElem?_take_of_lt (by omega)]
              exact hx1
            walk_at "rd"
            rw [drop_last hm2]
            refine ⟨⟨rfl, push_same s3 hp, m - 1, by omega, by omega, upd_same, fun j y' hj hy' => ?_⟩, ?_⟩
            · by_cases ej : j = m - 1
              · rw [ej, hx1] at hy'
                rw [← Option.some.inj hy']
                omega
              · exact hab j y' (by omega) hy'
            · rw [lenAt_of upd_same, len_take (by omega)]
              omega
          · walk_at "rd"
            refine r_ixL (SqL.of hp3) (last_take (by omega) hx1) ?_
            walk_at "rd"
            refine iteN (fun hne => ?_) (fun hye => ?_)
            · walk_at "rd"
              refine ⟨_, rfl, sm, out H3 s3 (.inr fun e' he hmem => ?_)⟩
              rw [hx] at he
              obtain rfl := V.int.inj (Option.some.inj he)
              obtain ⟨j, hj⟩ := List.getElem?_of_mem hmem
              have hye : y ≠ e := fun e1 => hne (congrArg V.int e1)
              by_cases h1 : m ≤ j
              · have := hab j e h1 hj
                omega
              · by_cases h2 : j = m - 1
                · rw [h2, hx1] at hj
                  exact hye (Option.some.inj hj)
                · have := way_lt hD k j (m - 1) _ _ (by omega) (by omega) hj hx1
                  omega
            · obtain rfl : y = e := V.int.inj hye
              walk_at "rd"
              refine ⟨.inl ⟨rfl, _, SqL.of hp3⟩, ?_⟩
              walk_at "rd"
              refine r_append hp3 ?_ ?_
              · rw [len_take hm2]
                exact small20000 (by have := opn_le hD k (by omega); omega)
              walk_at "rd"
              have hgd : (way ds k).getD (m - 1) 0 = y := by unfold List.getD; rw [hx1]; rfl
              refine ⟨⟨ds ++ [m - 1], _, _, rfl, dok_snoc hD (by rw [hl]; omega), by rw [List.length_append, hl]; rfl, by omega, ?_, ?_⟩, push_same s3 hp⟩
              · rw [take_snoc hx, htk, elds_snoc, hl, hgd, List.map_append]
                rfl
              · have e1 := way_next ds (m - 1)
                rw [hl] at e1
                rw [upd_same, e1, show m - 1 + 1 = m by omega, List.map_append]
                rfl
      · rintro σ H1 ⟨⟨ds, v2, v3, rfl, hD, hl, hk4, htk, hp1⟩, s1⟩
        rw [List.take_of_length_le (Nat.le_refl _)] at htk
        walk_at "rd"
        refine ⟨a, _, rfl, .inl (SqL.of (s1 _ _ ha)), fun l hl2 => ?_⟩
        refine q ds ⟨hD, by omega, htk⟩ l _ (s1.trans (same_upd hl2)) (s1.free hl2) ?_
        rw [upd_same, htk]

def spDepths : Sp := fun vs H Q _ => ∃ (a : Addr) (ds : List Nat), vs = [.ref a] ∧ H a = some (.lst ((elds ds).map V.int)) ∧ Dok ds ∧ ds.length ≤ 4000 ∧ ∀ l H', Same H H' → H' l = some (.lst (nV ds)) → Q (.ref l) H'
theorem take_next {ds : List Nat} {k : Nat} (hk : k < ds.length) : nV (ds.take k) ++ [V.int (dAt ds k : Nat)] = nV (ds.take (k + 1)) := by
  rw [List.take_add_one, List.getElem?_eq_getElem hk, ← nV_app]
  unfold dAt List.getD
  rw [List.getElem?_eq_getElem hk]
  rfl
theorem ok_depths_of {f : Addr} {fd : FuncData} (F : Fun K "depths_of" "depths_of" s_depths_of f fd) (T : Txt K mg a_ONES_OF_FOUR a_SIGNS_OF_FOUR C_WoodError C_NoBits C_NoPlace C_NoRow C_NoWood C_NoKnot) : FnOk P w K mg base CX0 1 f fd ["elders"] spDepths := by
  refine F.ok sc_depths_of (fun vs H Q E h => ?_) (fun cdv A outer s H vs Q E hr h => ?_)
  · obtain ⟨a, ds, rfl, _⟩ := h
    rfl
  · obtain ⟨a, ds, rfl, ha, hD, hn, q⟩ := h
    refine ⟨_, (pss_cons (ps_set (i := 1) sc_depths_of.nd rfl (Or.inl rfl) (pe_lst pa_nil))
      (pss_cons (ps_for PassesOwn.never rfl (pi_list (pv 0)) (pg_name (i := 2) sc_depths_of.nd rfl (Or.inl rfl))
      (pss_one (ps_expr (pe_bm PySem.F.plainAttrs_list PySem.F.slot_list_append PySem.F.type_list_append mt_append (pv 1) (pa_d (pe_ifExp (pt_cmpR op_eq (pv 2) (pe_un un_neg pe_int) (nomark _)) pe_int (pe_op op_add (pe_ix ix_list (pv 1) (pv 2) (fun _ _ => rfl)) pe_int)) pa_nil rfl)))))
      (pss_one (ps_ret (pv 1))))), ?_⟩
    walk_at "rd"
    refine ⟨Nat.zero_le _, fun p hp => ?_⟩
    walk_at "rd"
    have t0 := same_upd (o := .lst []) hp
    refine ⟨a, rfl, ⟨_, SqL.of (t0 _ _ ha)⟩, ?_⟩
    refine for_list (xs := (elds ds).map V.int) (fun k σ H1 => (∃ v2 : Option V, σ = [some (.ref a), some (.ref p), v2]) ∧ H1 p = some (.lst (nV (ds.take k))) ∧ Same H H1) ⟨⟨_, rfl⟩, upd_same, t0⟩ (fun k σ H1 _ h => SqL.of (h.2.2 _ _ ha)) ?_ ?_
    · rintro k x σ H1 hx ⟨⟨v2, rfl⟩, hp1, s1⟩
      have hk := at_lt hx
      rw [List.length_map, elds_len] at hk
      obtain ⟨e, he, rfl⟩ := iV_get hx
      rw [elds_at hk] at he
      obtain rfl := Option.some.inj he
      have hz : (nV (ds.take k)).length < sizeLine := by
        rw [nV_len, List.length_take]
        exact small20000 (by omega)
      walk_at "rd"
      refine ⟨.inl ⟨rfl, _, SqL.of hp1⟩, ?_⟩
      walk_at "rd"
      refine iteP (fun h => ?_) (fun h => ?_)
      · have hd := eld_top hD hk (V.int.inj h)
        walk_at "rd"
        refine r_append hp1 hz ?_
        walk_at "rd"
        refine ⟨⟨_, rfl⟩, ?_, push_same s1 hp⟩
        rw [upd_same, ← take_next hk, hd]
        rfl
      · obtain ⟨v, hv, hlt, hd⟩ := eld_deep hD hk (fun e => h (congrArg V.int e))
        walk_at "rd"
        rw [hv]
        refine r_ixL (SqL.of hp1) (v := .int (dAt ds v : Nat)) ?_ ?_
        · refine atI_nat (nV_at ?_)
          rw [List.getElem?_take_of_lt hlt, List.getElem?_eq_getElem (by omega)]
          unfold dAt List.getD
          rw [List.getElem?_eq_getElem (by omega)]
          rfl
        walk_at "rd"
        refine r_append hp1 hz ?_
        walk_at "rd"
        refine ⟨⟨_, rfl⟩, ?_, push_same s1 hp⟩
        rw [upd_same, ← take_next hk, hd]
        rfl
    · rintro σ H1 ⟨⟨v2, rfl⟩, hp1, s1⟩
      rw [List.length_map, elds_len, List.take_of_length_le (Nat.le_refl _)] at hp1
      walk_at "rd"
      exact q p H1 s1 hp1

def spRowG (K : PySem.W.Frag) (C : Addr) : Sp := fun vs H Q E => ∃ v o, vs = [v] ∧ ThA K H v o ∧ (∀ ds, GoodO o ds → ∀ H', Same H H' → Q (.str (signs (rowD ds))) H') ∧ NoWd C H E o
theorem nV_get {l : List Nat} {i : Nat} {x : V} (h : (nV l)[i]? = some x) : ∃ n, l[i]? = some n ∧ x = .int (n : Nat) := by
  unfold nV at h
  rw [List.getElem?_map] at h
  cases e : l[i]? with
  | none => rw [e] at h; cases h
  | some n =>
    rw [e] at h
    exact ⟨n, rfl, (Option.some.inj h).symm⟩
theorem at_dAt {ds : List Nat} {k n : Nat} (h : ds[k]? = some n) : n = dAt ds k := by
  unfold dAt List.getD
  rw [h]
  rfl
theorem ok_row_of {f : Addr} {fd : FuncData} (F : Fun K "row_of" "row_of" s_row_of f fd) (T : Txt K mg a_ONES_OF_FOUR a_SIGNS_OF_FOUR C_WoodError C_NoBits C_NoPlace C_NoRow C_NoWood C_NoKnot) (c_depths_of : Cal P w K mg base "depths_of" 1 ["elders"] spDepths) (c_look_at : CalE P w K mg base "look_at" 3 ["elders"] (spLookA K C_NoWood)) : FnOk P w K mg base (CXE P w) 4 f fd ["elders"] (spRowG K C_NoWood) := by
  refine F.okE sc_row_of (fun vs H Q E h => ?_) (fun cdv A outer s H vs Q E hr h => ?_)
  · obtain ⟨v, o, rfl, _⟩ := h
    rfl
  · obtain ⟨v, o, rfl, hT, q, qe⟩ := h
    refine ⟨_, (pss_cons (ps_set (i := 1) sc_row_of.nd rfl (Or.inl rfl) (pe_lst pa_nil))
      (pss_cons (ps_set (i := 2) sc_row_of.nd rfl (Or.inl rfl) pe_int)
      (pss_cons (ps_for PassesOwn.leaving rfl (pi_list (pe_fn c_depths_of (hr.mono (by decide : 1 ≤ _)) (pa_d (pe_fnE c_look_at (hr.mono (by decide : 3 ≤ _)) (pass_on rfl) (pa_d (pv 0) pa_nil rfl)) pa_nil rfl))) (pg_name (i := 3) sc_row_of.nd rfl (Or.inl rfl))
      (pss_cons (ps_expr (pe_bm PySem.F.plainAttrs_list PySem.F.slot_list_append PySem.F.type_list_append mt_append (pv 1) (pa_d (pe_op op_add_str (pe_op op_mulS pe_str (pe_op op_sub (pv 2) (pv 3))) pe_str) pa_nil rfl)))
      (pss_one (ps_set (i := 2) sc_row_of.nd rfl (Or.inl rfl) (pe_op op_add (pv 3) pe_int)))))
      (pss_cons (ps_expr (pe_bm PySem.F.plainAttrs_list PySem.F.slot_list_append PySem.F.type_list_append mt_append (pv 1) (pa_d (pe_op op_mulS pe_str (pv 2)) pa_nil rfl)))
      (pss_one (ps_ret (pe_bm PySem.F.plainAttrs_str PySem.F.slot_str_join PySem.F.type_str_join mt_join pe_str (pa_d (pv 1) pa_nil rfl)))))))), ?_⟩
    walk_at "rd"
    refine ⟨Nat.zero_le _, fun p hp => ?_⟩
    walk_at "rd"
    have t0 := same_upd (o := .lst []) hp
    refine ⟨v, o, rfl, hT.same t0, fun ds hG l1 H1 s1 _ hl1 => ?_, qe.same t0⟩
    have q := q ds hG
    obtain ⟨a, rfl⟩ : ∃ a, v = .ref a := by
      cases o with
      | some xs => exact ⟨_, hT.choose_spec.1⟩
      | none => exact hG.elim
    obtain ⟨hD, hn⟩ : Dok ds ∧ ds.length ≤ 4000 := by
      cases o with
      | some xs => exact ⟨hG.1, hG.2.1⟩
      | none => exact hG.elim
    walk_at "rd"
    refine ⟨l1, ds, rfl, hl1, hD, hn, fun l2 H2 s2 hl2 => ?_⟩
    walk_at "rd"
    refine ⟨l2, rfl, ⟨_, SqL.of hl2⟩, ?_⟩
    have s12 := s1.trans s2
    have hp2 := s12 _ _ (upd_same (H := H) (a := p) (o := .lst []))
    have npl : l2 ≠ p ∨ ds = [] := by
      by_cases e : l2 = p
      · subst e
        rw [hp2] at hl2
        have := HO.lst.inj (Option.some.inj hl2)
        cases ds with
        | nil => exact .inr rfl
        | cons d r => cases this
      · exact .inl e
    refine for_list (xs := nV ds) (fun k σ H3 => (∃ v3 : Option V, σ = [some (.ref a), some (.ref p), some (.int (opn ds k : Nat)), v3]) ∧ H3 p = some (.lst ((List.range k).map fun i => V.str (signs (pieceB ds i)))) ∧ Same H H3 ∧ H3 l2 = some (.lst (nV ds))) ⟨⟨_, rfl⟩, hp2, t0.trans s12, hl2⟩ (fun k σ H3 _ h => SqL.of h.2.2.2) ?_ ?_
    · rintro k x σ H3 hx ⟨⟨v3, rfl⟩, hp3, s3, hl3⟩
      have hk := at_lt hx
      rw [nV_len] at hk
      have nlp : l2 ≠ p := by
        rcases npl with h | h
        · exact h
        · rw [h] at hk; cases hk
      obtain ⟨d, hd, rfl⟩ := nV_get hx
      obtain rfl := at_dAt hd
      have hop := opn_le hD k (by omega)
      have hdk := hD k hk
      walk_at "rd"
      refine ⟨.inl ⟨rfl, _, SqL.of hp3⟩, ?_⟩
      walk_at "rd"
      refine ⟨"0", (opn ds k : Int) - (dAt ds k : Int), rfl, rfl, by omega, by omega, ?_, few (by decide), ?_⟩
      · exact Nat.le_of_lt (small20000 (by rw [show ("0" : Str).length = 1 by rfl]; omega))
      have e0 : repS ("0" : Str) ((opn ds k : Int) - (dAt ds k : Int)).toNat = signs (List.replicate (opn ds k - dAt ds k) false) := by
        rw [show ((opn ds k : Int) - (dAt ds k : Int)).toNat = opn ds k - dAt ds k by omega]
        exact rep_signs false _
      rw [e0]
      walk_at "rd"
      have e1 : signs (List.replicate (opn ds k - dAt ds k) false) ++ ("1" : Str) = signs (pieceB ds k) := signs_append (List.replicate (opn ds k - dAt ds k) false) [true]
      refine ⟨_, "1", rfl, rfl, ?_, ?_⟩
      · rw [signs_len, List.length_replicate]
        exact Nat.le_of_lt (small20000 (by rw [show ("1" : Str).length = 1 by rfl]; omega))
      rw [e1]
      walk_at "rd"
      refine r_append hp3 (by rw [List.length_map, List.length_range]; exact small20000 (by omega)) ?_
      walk_at "rd"
      refine ⟨⟨_, rfl⟩, ?_, push_same s3 hp, ?_⟩
      · rw [upd_same, List.range_succ, List.map_append]
        rfl
      · rw [upd_ne nlp]
        exact hl3
    · rintro σ H3 ⟨⟨v3, rfl⟩, hp3, s3, hl3⟩
      rw [nV_len] at *
      have hop := opn_le hD ds.length (Nat.le_refl _)
      walk_at "rd"
      refine ⟨.inl ⟨rfl, _, SqL.of hp3⟩, ?_⟩
      walk_at "rd"
      refine ⟨"0", (opn ds ds.length : Int), rfl, rfl, by omega, by omega, ?_, few (by decide), ?_⟩
      · exact Nat.le_of_lt (small20000 (by rw [show ("0" : Str).length = 1 by rfl]; omega))
      have e0 : repS ("0" : Str) ((opn ds ds.length : Int)).toNat = signs (List.replicate (opn ds ds.length) false) := by
        rw [Int.toNat_natCast]
        exact rep_signs false _
      rw [e0]
      walk_at "rd"
      refine r_append hp3 (by rw [List.length_map, List.length_range]; exact small20000 (by omega)) ?_
      walk_at "rd"
      refine ⟨rfl, ?_⟩
      walk_at "rd"
      have ef : ((List.range ds.length).map (pieceB ds) ++ [List.replicate (opn ds ds.length) false]).flatten = rowD ds := by
        rw [List.flatten_append, List.flatten_singleton]
        rfl
      refine rd_joinS (ls := (List.range ds.length).map (pieceB ds) ++ [List.replicate (opn ds ds.length) false]) ?_ ?_ ?_
      · rw [upd_same, List.map_append, List.map_map]
        rfl
      · rw [ef, rowD_len hD]
        omega
      · rw [ef]
        exact q _ (push_same s3 hp)

def oFs (p : V) : List (Str × V) := [("pairs", p)]
def spOInit (K : PySem.W.Frag) (CO : Addr) : Sp := fun vs H Q _ => ∃ (x dx : Addr) (p : V), vs = [.ref x, p] ∧ H x = some (.ins CO dx []) ∧ Q .non (upd H x (.ins CO dx (oFs p)))
theorem ok_Openings_init {f : Addr} {fd : FuncData} (F : Fun K "__init__" "Openings.__init__" s_Openings_init f fd) (T : Txt K mg a_ONES_OF_FOUR a_SIGNS_OF_FOUR C_WoodError C_NoBits C_NoPlace C_NoRow C_NoWood C_NoKnot) (Z : Z_Opened K C_Opened) : FnOk P w K mg base CX0 1 f fd ["self", "pairs"] (spOInit K C_Opened) := by
  refine F.ok sc_Openings_init (fun vs H Q E h => ?_) (fun cdv A outer s H vs Q E hr h => ?_)
  · obtain ⟨x, dx, p, rfl, _⟩ := h
    rfl
  · obtain ⟨x, dx, p, rfl, hx, q⟩ := h
    refine ⟨_, (pss_one (ps_fld (pv 0) (pv 1) rfl)), ?_⟩
    walk_at "rd"
    exact r_sfldE hx Z.cl Z.n_pairs (show 0 < 1000 by decide) q

theorem due8_eq : ∀ (cs : List Nat) (k : Nat) (h : Int), k + cs.length ≤ 8192 → dueF8 cs k h = dueF cs k h
  | [], k, h, _ => rfl
  | c :: r, k, h, hk => by
    rw [List.length_cons] at hk
    unfold dueF8 dueF
    rw [due8_eq r (k + 1) _ (by omega), if_neg (show ¬ k = 8192 by omega)]
theorem due8_row {l : List Bool} (h : Vs 0 l) (hl : l.length ≤ 8192) : dueV8 (.str (signs l)) = none := by
  show dueF8 (signs l).cps.toList 0 0 = none
  rw [due8_eq _ 0 0 (by rw [cps_len, Nat.zero_add, signs_len]; exact hl), signs_cps]
  exact due_vs l 0 0 h
theorem isPairs_but {K : PySem.W.Frag} {CB CC CP C x dx p : Addr} {H H' : Hp} {l : List Bool} {fs : List (Str × V)} (s : SameBut x H H') (hx : H x = some (.ins C dx fs)) (hf : fs.length < 3) (h : IsPairs K CB CC CP H p l) : IsPairs K CB CC CP H' p l := by
  obtain ⟨d, b, c, t, o, h1, h2, h3⟩ := h
  have ne : ∀ {y C' d' : Addr} {gs : List (Str × V)}, H y = some (.ins C' d' gs) → 3 ≤ gs.length → y ≠ x := fun hy hg e => by
    rw [e, hx] at hy
    cases hy
    omega
  refine ⟨d, b, c, t, o, s _ _ (ne h1 (show 3 ≤ 5 by decide)) h1, isBits_but s (notSq_ins hx) ?_ h2, isCounts_but s (notSq_ins hx) ?_ h3⟩
  · obtain ⟨d2, t2, k, _⟩ := h2
    exact ne k (Nat.le_refl 3)
  · obtain ⟨d2, t2, u2, k, _⟩ := h3
    exact ne k (Nat.le_refl 3)
def IsOpened (K : PySem.W.Frag) (CB CC CP CO : Addr) (H : Hp) (x : Addr) (ds : List Nat) : Prop := ∃ (dx p : Addr), H x = some (.ins CO dx (oFs (.ref p))) ∧ IsPairs K CB CC CP H p (rowD ds) ∧ Dok ds ∧ ds.length ≤ 4000
theorem IsOpened.same {K : PySem.W.Frag} {CB CC CP CO : Addr} {H H' : Hp} {x : Addr} {ds : List Nat} (h : IsOpened K CB CC CP CO H x ds) (s : Same H H') : IsOpened K CB CC CP CO H' x ds := by
  obtain ⟨dx, p, h1, h2, h3⟩ := h
  exact ⟨dx, p, s _ _ h1, h2.same s, h3⟩
def spOpInit (K : PySem.W.Frag) (CB CC CP CO CW : Addr) : Sp := fun vs H Q E => ∃ (x dx : Addr) (v : V) (o : Option (List V)), vs = [.ref x, v] ∧ H x = some (.ins CO dx []) ∧ ThA K H v o ∧ (∀ ds, GoodO o ds → ∀ H', SameBut x H H' → IsOpened K CB CC CP CO H' x ds → Q .non H') ∧ NoWd CW H E o
theorem ok_Opened_init {f : Addr} {fd : FuncData} (F : Fun K "__init__" "Opened.__init__" s_Opened_init f fd) (T : Txt K mg a_ONES_OF_FOUR a_SIGNS_OF_FOUR C_WoodError C_NoBits C_NoPlace C_NoRow C_NoWood C_NoKnot) (Z : Z_Opened K C_Opened) (c_row_of : CalE P w K mg base "row_of" 4 ["elders"] (spRowG K C_NoWood)) (c_Pairs : MkrE P w K mg base "Pairs" C_Pairs 7 ["self", "text"] (spPInit K C_Bits C_Counts C_Pairs C_NoRow))
    (b_Openings_init : CalC P w K mg base "Openings" "__init__" 1 ["self", "pairs"] (spOInit K C_Opened)) : FnOk P w K mg base (CXE P w) 9 f fd ["self", "elders"] (spOpInit K C_Bits C_Counts C_Pairs C_Opened C_NoWood) := by
  refine F.okE sc_Opened_init (fun vs H Q E h => ?_) (fun cdv A outer s H vs Q E hr h => ?_)
  · obtain ⟨x, dx, v, o, rfl, _⟩ := h
    rfl
  · obtain ⟨x, dx, v, o, rfl, hx, hT, q, qe⟩ := h
    refine ⟨_, (pss_one (ps_expr (pe_cm b_Openings_init (hr.mono (by decide : 1 ≤ _)) rfl (pa_d (pv 0) (pa_d (pe_mkE c_Pairs (hr.mono (by decide : 8 ≤ _)) (pass_on rfl) (pa_d (pe_fnE c_row_of (hr.mono (by decide : 4 ≤ _)) (pass_on rfl) (pa_d (pv 1) pa_nil rfl)) pa_nil rfl)) pa_nil rfl) rfl)))), ?_⟩
    walk_at "rd"
    refine ⟨v, o, rfl, hT, fun ds hG H1 s1 => ?_, qe⟩
    obtain ⟨hD, hn⟩ : Dok ds ∧ ds.length ≤ 4000 := by
      cases o with
      | some xs => exact ⟨hG.1, hG.2.1⟩
      | none => exact hG.elim
    have hrl := rowD_len hD
    have hdu : dueV8 (.str (signs (rowD ds))) = none := due8_row (vs_row hD) (by omega)
    have hx1 := s1 _ _ hx
    walk_at "rd"
    intro p dp hp hdp hpd
    refine ⟨p, dp, _, rfl, upd_same, anyS_str _, fun z e => ?_, fun l2 e2 _ H5 s5 hP5 => ⟨rfl, ?_⟩, fun d e => ?_⟩
    · rw [← V.str.inj e, signs_len]
      omega
    · obtain rfl : rowD ds = l2 := signs_inj (V.str.inj e2)
      have s5 := made_same hp hdp s5
      have hx5 := s5 _ _ hx1
      walk_at "rd"
      refine ⟨x, dx, _, rfl, hx5, ?_⟩
      exact q ds hG _ ((s1.trans s5).but.trans sameBut_upd) ⟨dx, p, upd_same, isPairs_but sameBut_upd hx5 (show 0 < 3 by decide) hP5, hD, hn⟩
    · rw [hdu] at e
      cases e

def spOKnots (K : PySem.W.Frag) (CB CC CP CO : Addr) : Sp := fun vs H Q _ => ∃ (x : Addr) (ds : List Nat), vs = [.ref x] ∧ IsOpened K CB CC CP CO H x ds ∧ Q (.int (ds.length : Nat)) H
theorem ok_Openings_many_knots {f : Addr} {fd : FuncData} (F : Fun K "many_knots" "Openings.many_knots" s_Openings_many_knots f fd) (T : Txt K mg a_ONES_OF_FOUR a_SIGNS_OF_FOUR C_WoodError C_NoBits C_NoPlace C_NoRow C_NoWood C_NoKnot) (Z : Z_Opened K C_Opened) (m_Pairs_size : Mth P w K mg base C_Pairs "size" 1 ["self"] (spPSize K C_Bits C_Counts C_Pairs)) : FnOk P w K mg base CX0 2 f fd ["self"] (spOKnots K C_Bits C_Counts C_Pairs C_Opened) := by
  refine F.ok sc_Openings_many_knots (fun vs H Q E h => ?_) (fun cdv A outer s H vs Q E hr h => ?_)
  · obtain ⟨x, ds, rfl, _⟩ := h
    rfl
  · obtain ⟨x, ds, rfl, ⟨dx, p, hx, hP, hD, hn⟩, q⟩ := h
    refine ⟨_, (pss_one (ps_ret (pe_op op_fdiv (pe_mt0 m_Pairs_size (hr.mono (by decide : 1 ≤ _)) (pe_fld (pv 0) rfl)) pe_int))), ?_⟩
    walk_at "rd"
    refine ⟨x, C_Opened, dx, _, _, rfl, hx, Z.cl, Z.n_pairs, rfl, ?_⟩
    obtain ⟨dp, b, c, t, o, hp, _⟩ := id hP
    walk_at "rd"
    refine ⟨p, dp, _, rfl, hp, rfl, ?_⟩
    walk_at "rd"
    refine ⟨p, rowD ds, rfl, hP, ?_⟩
    walk_at "rd"
    rw [rowD_len hD, show (((2 * ds.length : Nat) : Int) / 2) = (ds.length : Int) by omega]
    exact q

def spCell (K : PySem.W.Frag) : Sp := fun vs H Q _ => ∃ (a : Addr) (ns : List Int) (k : Nat), vs = [.ref a, .int k] ∧ SqL K H a (ns.map V.int) ∧ ∀ c : Int, Q (.int c) H
theorem ok_law_cell_at {f : Addr} {fd : FuncData} (F : Fun K "_law_cell_at" "_law_cell_at" s_law_cell_at f fd) (T : Txt K mg a_ONES_OF_FOUR a_SIGNS_OF_FOUR C_WoodError C_NoBits C_NoPlace C_NoRow C_NoWood C_NoKnot) : FnOk P w K mg base CX0 1 f fd ["_law_script", "_law_k"] (spCell K) := by
  refine F.ok sc_law_cell_at (fun vs H Q E h => ?_) (fun cdv A outer s H vs Q E hr h => ?_)
  · obtain ⟨a, ns, k, rfl, _⟩ := h
    rfl
  · obtain ⟨a, ns, k, rfl, hS, q⟩ := h
    refine ⟨_, (pss_cons (ps_if (pt_cmpR op_lt (pv 1) (pe_callB call_len_seq (by rfl) T.n_len b_len (pa_d (pv 0) pa_nil rfl)) (nomark _)) (pss_one (ps_ret (pe_ix ix_list (pv 0) (pv 1) (fun _ _ => rfl))))
      pss_nil)
      (pss_one (ps_ret pe_int))), ?_⟩
    walk_at "rd"
    refine ⟨a, _, rfl, .inl hS, ?_⟩
    walk_at "rd"
    rw [List.length_map]
    refine iteP (fun hb => ?_) (fun hb => ?_)
    · walk_at "rd"
      have hk : k < ns.length := by omega
      refine r_ixL hS (v := .int ns[k]) ?_ (q _)
      refine atI_nat ?_
      rw [List.getElem?_map, List.getElem?_eq_getElem hk]
      rfl
    · walk_at "rd"
      exact q 0

def spMixed : Sp := fun vs H Q _ => ∃ c k : Int, vs = [.int c, .int k] ∧ 0 ≤ k ∧ k ≤ 1000 ∧ ∀ r : Int, 0 ≤ r → r < 2147483647 → Q (.int r) H
theorem ok_law_mixed {f : Addr} {fd : FuncData} (F : Fun K "_law_mixed" "_law_mixed" s_law_mixed f fd) (T : Txt K mg a_ONES_OF_FOUR a_SIGNS_OF_FOUR C_WoodError C_NoBits C_NoPlace C_NoRow C_NoWood C_NoKnot) : FnOk P w K mg base CX0 1 f fd ["_law_cell", "_law_k"] spMixed := by
  refine F.ok sc_law_mixed (fun vs H Q E h => ?_) (fun cdv A outer s H vs Q E hr h => ?_)
  · obtain ⟨c, k, rfl, _⟩ := h
    rfl
  · obtain ⟨c, k, rfl, h0, h1, q⟩ := h
    refine ⟨_, (pss_cons (ps_set (i := 2) sc_law_mixed.nd rfl (Or.inl rfl) (pe_op op_mod (pe_op op_mul (pe_op op_add (pe_op op_add (pe_op op_add (pe_op op_mod (pv 0) pe_int) (pe_op op_mul (pe_op op_mul pe_int (pv 1)) (pv 1))) (pe_op op_mul pe_int (pv 1))) pe_int) pe_int) pe_int))
      (pss_cons (ps_set (i := 2) sc_law_mixed.nd rfl (Or.inl rfl) (pe_op op_mod (pe_op op_mul (pe_op op_add (pv 2) (pe_op op_mul pe_int (pv 1))) pe_int) pe_int))
      (pss_one (ps_ret (pe_op op_mod (pe_op op_mul (pv 2) pe_int) pe_int))))), ?_⟩
    walk_at "rd"
    refine r_mulR (by omega) (by omega) ?_
    walk_at "rd"
    exact q _ (Int.emod_nonneg _ (by decide)) (Int.emod_lt_of_pos _ (by decide))

def spElders : Sp := fun vs H Q _ => ∃ (c : Int) (n : Nat), vs = [.int c, .int n] ∧ n ≤ 40 ∧ ∀ p (ds : List Nat) H', Same H H' → H p = none → H' p = some (.lst ((elds ds).map V.int)) → Dok ds → ds.length = n → Q (.ref p) H'
theorem cut_to (xs : List V) (m : Nat) : cutV xs none (some (m : Int)) = xs.take m := by
  unfold cutV
  rw [HT.sIx_nat]
  show (xs.drop 0).take (min m xs.length - 0) = xs.take m
  rw [List.drop_zero, Nat.sub_zero]
  by_cases h : m ≤ xs.length
  · rw [Nat.min_eq_left h]
  · rw [Nat.min_eq_right (by omega), List.take_of_length_le (Nat.le_refl _), List.take_of_length_le (by omega)]
theorem menuI {ys : List Int} {i : Int} {k : Nat} (h : ys.length = k) (h0 : 0 ≤ i) (h1 : i < k) : ∃ y, y ∈ ys ∧ atI (ys.map V.int) i = some (.int y) := by
  have hk : i.toNat < ys.length := by omega
  refine ⟨ys[i.toNat], List.getElem_mem hk, atI_int h0 ?_⟩
  rw [List.getElem?_map, List.getElem?_eq_getElem hk]
  rfl
theorem ok_law_elders {f : Addr} {fd : FuncData} (F : Fun K "_law_elders" "_law_elders" s_law_elders f fd) (T : Txt K mg a_ONES_OF_FOUR a_SIGNS_OF_FOUR C_WoodError C_NoBits C_NoPlace C_NoRow C_NoWood C_NoKnot) (c_law_mixed : Cal P w K mg base "_law_mixed" 1 ["_law_cell", "_law_k"] spMixed) : FnOk P w K mg base CX0 2 f fd ["_law_cell", "_law_many"] spElders := by
  refine F.ok sc_law_elders (fun vs H Q E h => ?_) (fun cdv A outer s H vs Q E hr h => ?_)
  · obtain ⟨c, n, rfl, _⟩ := h
    rfl
  · obtain ⟨c, n, rfl, hn, q⟩ := h
    refine ⟨_, (pss_cons (ps_set (i := 2) sc_law_elders.nd rfl (Or.inl rfl) (pe_lst pa_nil))
      (pss_cons (ps_set (i := 3) sc_law_elders.nd rfl (Or.inl rfl) (pe_lst (pa_d (pe_un un_neg pe_int) pa_nil rfl)))
      (pss_cons (ps_set (i := 4) sc_law_elders.nd rfl (Or.inl rfl) (pe_op op_fdiv (pe_callB call_abs (by rfl) T.n_abs b_abs (pa_d (pv 0) pa_nil rfl)) pe_int))
      (pss_cons (ps_for PassesOwn.never rfl (pi_range1 rfl T.n_range (pa_d (pv 1) pa_nil rfl)) (pg_name (i := 5) sc_law_elders.nd rfl (Or.inl rfl))
      (pss_cons (ps_ifJ (PW.pt (pw_and (pt_cmpR op_eq (pe_op op_mod (pv 0) pe_int) pe_int (nomark _)) (pw_and1 (pt_cmpR op_gt (pv 4) pe_int (nomark _))))) (pss_cons (ps_set (i := 6) sc_law_elders.nd rfl (Or.inl rfl) (pe_op op_mod (pv 4) (pe_callB call_len_seq (by rfl) T.n_len b_len (pa_d (pv 3) pa_nil rfl))))
      (pss_one (ps_set (i := 4) sc_law_elders.nd rfl (Or.inl rfl) (pe_op op_fdiv (pv 4) (pe_callB call_len_seq (by rfl) T.n_len b_len (pa_d (pv 3) pa_nil rfl))))))
      (PSsI.h (bi_cons (si (ps_set (i := 7) sc_law_elders.nd rfl (Or.inl rfl) (pe_fn c_law_mixed (hr.mono (by decide : 1 ≤ _)) (pa_d (pv 0) (pa_d (pv 5) pa_nil rfl) rfl))))
      (bi_one (si_set (i := 6) sc_law_elders.nd rfl (Or.inl rfl) (ei_op op_mod (ei_ix ix_list (ei_lst (ai_c pe_int (ai_c pe_int (ai_c pe_int (ai_c pe_int (ai_c pe_int (ai_c (pe_op op_fdiv (pv 7) pe_int) ai_nil rfl) rfl) rfl) rfl) rfl) rfl)) (pe_op op_mod (pe_op op_fdiv (pv 7) pe_int) pe_int) (fun _ _ => rfl)) (pe_callB call_len_seq (by rfl) T.n_len b_len (pa_d (pv 3) pa_nil rfl))))))))
      (pss_cons (ps_set (i := 3) sc_law_elders.nd rfl (Or.inl rfl) (pe_slice sl_list (pv 3) po_none (po_some (pe_op op_sub (pe_callB call_len_seq (by rfl) T.n_len b_len (pa_d (pv 3) pa_nil rfl)) (pv 6)))))
      (pss_cons (ps_expr (pe_bm PySem.F.plainAttrs_list PySem.F.slot_list_append PySem.F.type_list_append mt_append (pv 2) (pa_d (pe_ix ix_list (pv 3) (pe_un un_neg pe_int) (fun _ _ => rfl)) pa_nil rfl)))
      (pss_one (ps_expr (pe_bm PySem.F.plainAttrs_list PySem.F.slot_list_append PySem.F.type_list_append mt_append (pv 3) (pa_d (pv 5) pa_nil rfl))))))))
      (pss_one (ps_ret (pv 2))))))), ?_⟩
    walk_at "rd"
    refine ⟨Nat.zero_le _, fun p hp => ?_⟩
    have t0 := same_upd (o := .lst []) hp
    walk_at "rd"
    refine ⟨few (by simp), fun p0 hp0 => ?_⟩
    have t1 := same_upd (o := .lst [V.int (-1)]) hp0
    walk_at "rd"
    refine ⟨_, rfl, ?_⟩
    walk_at "rd"
    refine ⟨_, rfl, by omega, by omega, ?_⟩
    rw [Int.toNat_natCast]
    refine for_range (fun k σ H1 => (∃ (q : Addr) (ds : List Nat) (g : Int) (v5 v6 v7 : Option V), σ = [some (.int c), some (.int n), some (.ref p), some (.ref q), some (.int g), v5, v6, v7] ∧ Dok ds ∧ ds.length = k ∧ H1 p = some (.lst ((elds ds).map V.int)) ∧ H1 q = some (.lst ((way ds k).map V.int)) ∧ p ≠ q ∧ H q = none) ∧ Same H H1) ?_ ?_ ?_
    · exact ⟨⟨p0, [], _, _, _, _, rfl, (fun k hk => by cases hk), rfl, t1 _ _ upd_same, upd_same, ne_of_none upd_same hp0, t0.free hp0⟩, t0.trans t1⟩
    · rintro k σ H1 hk ⟨⟨q1, ds, g, v5, v6, v7, rfl, hD, hl, hp1, hq1, hne, hqH⟩, s1⟩
      have hw := way_len hD k (by omega)
      have hok := opn_le hD k (by omega)
      walk_at "rd"
      refine r_ifJ (fun σ H2 => (∃ (g : Int) (u : Nat) (v7 : Option V), σ = [some (.int c), some (.int n), some (.ref p), some (.ref q1), some (.int g), some (.int (0 + (k : Int))), some (.int u), v7] ∧ u ≤ opn ds k) ∧ Same H1 H2) ?_ ?_
      · have fin : ∀ y : Int, ∃ u : Nat, y % ((opn ds k + 1 : Nat) : Int) = (u : Int) ∧ u ≤ opn ds k := fun y => by
          have e0 := Int.emod_nonneg y (show ((opn ds k + 1 : Nat) : Int) ≠ 0 by omega)
          have e1 := Int.emod_lt_of_pos y (show (0 : Int) < ((opn ds k + 1 : Nat) : Int) by omega)
          exact ⟨(y % ((opn ds k + 1 : Nat) : Int)).toNat, by omega, by omega⟩
        walk_at "rd"
        refine iteP (fun _ => ?_) (fun _ => ?_)
        · walk_at "rd"
          refine iteP (fun _ => ?_) (fun _ => ?_)
          · walk_at "rd"
            refine ⟨q1, _, rfl, .inl (SqL.of hq1), ?_⟩
            walk_at "rd"
            rw [List.length_map, hw]
            refine r_mod (by omega) ?_
            walk_at "rd"
            refine ⟨q1, _, rfl, .inl (SqL.of hq1), ?_⟩
            walk_at "rd"
            rw [List.length_map, hw]
            refine r_div (by omega) (by omega) ?_
            walk_at "rd"
            obtain ⟨u, hu, hu1⟩ := fin g
            rw [hu]
            exact ⟨⟨_, u, _, rfl, hu1⟩, Same.refl _⟩
          · walk_at "rd"
            refine ⟨c, 0 + (k : Int), rfl, by omega, by omega, fun r r0 r1 => ?_⟩
            walk_at "rd"
            refine ⟨few (by simp), fun y hy => ?_⟩
            have ty := same_upd (o := .lst ([0, 0, 1, 1, 2, r / 42].map V.int)) hy
            obtain ⟨z, _, hz⟩ := menuI (ys := [0, 0, 1, 1, 2, r / 42]) (i := r / 7 % 6) (k := 6) rfl (by omega) (by omega)
            walk_at "rd"
            refine r_ixL (SqL.of upd_same) hz ?_
            walk_at "rd"
            refine ⟨q1, _, rfl, .inl (SqL.of (ty _ _ hq1)), ?_⟩
            walk_at "rd"
            rw [List.length_map, hw]
            refine r_mod (by omega) ?_
            walk_at "rd"
            obtain ⟨u, hu, hu1⟩ := fin z
            rw [hu]
            exact ⟨⟨g, u, _, rfl, hu1⟩, ty⟩
        · walk_at "rd"
          refine ⟨c, 0 + (k : Int), rfl, by omega, by omega, fun r r0 r1 => ?_⟩
          walk_at "rd"
          refine ⟨few (by simp), fun y hy => ?_⟩
          have ty := same_upd (o := .lst ([0, 0, 1, 1, 2, r / 42].map V.int)) hy
          obtain ⟨z, _, hz⟩ := menuI (ys := [0, 0, 1, 1, 2, r / 42]) (i := r / 7 % 6) (k := 6) rfl (by omega) (by omega)
          walk_at "rd"
          refine r_ixL (SqL.of upd_same) hz ?_
          walk_at "rd"
          refine ⟨q1, _, rfl, .inl (SqL.of (ty _ _ hq1)), ?_⟩
          walk_at "rd"
          rw [List.length_map, hw]
          refine r_mod (by omega) ?_
          walk_at "rd"
          obtain ⟨u, hu, hu1⟩ := fin z
          rw [hu]
          exact ⟨⟨g, u, _, rfl, hu1⟩, ty⟩
      · rintro σ H2 ⟨⟨g, u, v7, rfl, hu⟩, s2⟩
        have hp2 := s2 _ _ hp1
        have hq2 := s2 _ _ hq1
        have s2 := s1.trans s2
        walk_at "rd"
        refine ⟨q1, _, rfl, .inl (SqL.of hq2), ?_⟩
        walk_at "rd"
        rw [List.length_map, hw]
        obtain ⟨d, hd, hd1⟩ : ∃ d : Nat, ((opn ds k + 1 : Nat) : Int) - (u : Int) = ((d + 1 : Nat) : Int) ∧ d ≤ opn ds k := ⟨opn ds k - u, by omega, by omega⟩
        rw [hd]
        refine ⟨q1, _, rfl, SqL.of hq2, fun q3 h3 => ?_⟩
        rw [cut_to] at *
        rw [← List.map_take] at *
        have u3 := same_upd (o := .lst (((way ds k).take (d + 1)).map V.int)) h3
        have hq3H : H q3 = none := s2.free h3
        have hp3 := u3 _ _ hp2
        have hpq3 : p ≠ q3 := ne_of_none hp2 h3
        have s3 := s2.trans u3
        have hq3 : upd H2 q3 (.lst (((way ds k).take (d + 1)).map V.int)) q3 = some (.lst (((way ds k).take (d + 1)).map V.int)) := upd_same
        generalize upd H2 q3 (.lst (((way ds k).take (d + 1)).map V.int)) = H3 at *
        have hx : (way ds k)[d + 1 - 1]? = some ((way ds k).getD d 0) := by
          rw [Nat.add_sub_cancel]
          unfold List.getD
          rw [List.getElem?_eq_getElem (by omega)]
          rfl
        walk_at "rd"
        refine ⟨.inl ⟨rfl, _, SqL.of hp3⟩, ?_⟩
        walk_at "rd"
        refine r_ixL (SqL.of hq3) (last_take (by omega) hx) ?_
        walk_at "rd"
        refine r_append hp3 ?_ ?_
        · rw [List.length_map, elds_len]
          exact small1000 (by omega)
        have s4 := push_same (o := .lst ((elds ds).map V.int ++ [V.int ((way ds k).getD d 0)])) s3 hp
        have hq4 : upd H3 p (.lst ((elds ds).map V.int ++ [V.int ((way ds k).getD d 0)])) q3 = some (.lst (((way ds k).take (d + 1)).map V.int)) := by rw [upd_ne hpq3.symm]; exact hq3
        have hp4 : upd H3 p (.lst ((elds ds).map V.int ++ [V.int ((way ds k).getD d 0)])) p = some (.lst ((elds ds).map V.int ++ [V.int ((way ds k).getD d 0)])) := upd_same
        generalize upd H3 p (.lst ((elds ds).map V.int ++ [V.int ((way ds k).getD d 0)])) = H4 at *
        walk_at "rd"
        refine ⟨.inl ⟨rfl, _, SqL.of hq4⟩, ?_⟩
        walk_at "rd"
        refine r_append hq4 ?_ ?_
        · rw [List.length_map, List.length_take]
          exact small1000 (by omega)
        walk_at "rd"
        refine ⟨⟨q3, ds ++ [d], g, _, _, _, rfl, dok_snoc hD (by rw [hl]; exact hd1), by rw [List.length_append, hl]; rfl, ?_, ?_, hpq3, hq3H⟩, push_same s4 hq3H⟩
        · rw [upd_ne hpq3, hp4, elds_snoc, List.map_append, hl]
          rfl
        · have e := way_next ds d
          rw [hl] at e
          rw [upd_same, e, List.map_append, show (0 + (k : Int)) = (k : Int) by omega]
          rfl
    · rintro σ H1 ⟨⟨q1, ds, g, v5, v6, v7, rfl, hD, hl, hp1, hq1, hne, hqH⟩, s1⟩
      walk_at "rd"
      exact q p ds H1 s1 hp hp1 hD hl

def spWoodK (K : PySem.W.Frag) : Sp := fun vs H Q _ => ∃ (a : Addr) (ns : List Int) (i : Nat), vs = [.ref a, .int i] ∧ SqL K H a (ns.map V.int) ∧ i ≤ 1000 ∧ ∀ p (ds : List Nat) H', Same H H' → H p = none → H' p = some (.lst ((elds ds).map V.int)) → Dok ds → ds.length ≤ 40 → Q (.ref p) H'
theorem ok_law_wood {f : Addr} {fd : FuncData} (F : Fun K "_law_wood" "_law_wood" s_law_wood f fd) (T : Txt K mg a_ONES_OF_FOUR a_SIGNS_OF_FOUR C_WoodError C_NoBits C_NoPlace C_NoRow C_NoWood C_NoKnot) (c_law_mixed : Cal P w K mg base "_law_mixed" 1 ["_law_cell", "_law_k"] spMixed) (c_law_cell_at : Cal P w K mg base "_law_cell_at" 1 ["_law_script", "_law_k"] (spCell K))
    (c_law_elders : Cal P w K mg base "_law_elders" 2 ["_law_cell", "_law_many"] spElders) : FnOk P w K mg base CX0 3 f fd ["_law_script", "_law_at"] (spWoodK K) := by
  refine F.ok sc_law_wood (fun vs H Q E h => ?_) (fun cdv A outer s H vs Q E hr h => ?_)
  · obtain ⟨a, ns, i, rfl, _⟩ := h
    rfl
  · obtain ⟨a, ns, i, rfl, hS, hi, q⟩ := h
    refine ⟨_, (pss_cons (ps_set (i := 2) sc_law_wood.nd rfl (Or.inl rfl) (pe_fn c_law_mixed (hr.mono (by decide : 1 ≤ _)) (pa_d (pe_fn c_law_cell_at (hr.mono (by decide : 1 ≤ _)) (pa_d (pv 0) (pa_d (pv 1) pa_nil rfl) rfl)) (pa_d (pv 1) pa_nil rfl) rfl)))
      (pss_cons (ps_set (i := 3) sc_law_wood.nd rfl (Or.inl rfl) (pe_ix ix_list (pe_lst (pa_d (pe_op op_mod (pe_op op_fdiv (pv 2) pe_int) pe_int) (pa_d (pe_op op_mod (pe_op op_fdiv (pv 2) pe_int) pe_int) (pa_d pe_int (pa_d pe_int pa_nil rfl) rfl) rfl) rfl)) (pe_op op_mod (pv 2) pe_int) (fun _ _ => rfl)))
      (pss_one (ps_ret (pe_fn c_law_elders (hr.mono (by decide : 2 ≤ _)) (pa_d (pe_fn c_law_cell_at (hr.mono (by decide : 1 ≤ _)) (pa_d (pv 0) (pa_d (pe_op op_add (pv 1) pe_int) pa_nil rfl) rfl)) (pa_d (pv 3) pa_nil rfl) rfl)))))), ?_⟩
    walk_at "rd"
    refine ⟨a, ns, i, rfl, hS, fun c => ?_⟩
    walk_at "rd"
    refine ⟨c, i, rfl, by omega, by omega, fun r r0 r1 => ?_⟩
    walk_at "rd"
    refine ⟨few (by simp), fun y hy => ?_⟩
    have ty := same_upd (o := .lst ([r / 4 % 41, r / 4 % 13, 40, 7].map V.int)) hy
    obtain ⟨z, hzm, hz⟩ := menuI (ys := [r / 4 % 41, r / 4 % 13, 40, 7]) (i := r % 4) (k := 4) rfl (by omega) (by omega)
    walk_at "rd"
    refine r_ixL (SqL.of upd_same) hz ?_
    walk_at "rd"
    refine ⟨a, ns, i + 1, ?_, ty.seq hS, fun c2 => ?_⟩
    · rw [show ((i + 1 : Nat) : Int) = (i : Int) + 1 by omega]
      rfl
    walk_at "rd"
    obtain ⟨n, rfl, hn⟩ : ∃ n : Nat, z = (n : Int) ∧ n ≤ 40 := by
      simp only [List.mem_cons, List.not_mem_nil, or_false] at hzm
      exact ⟨z.toNat, by omega, by omega⟩
    refine ⟨c2, n, rfl, hn, fun p ds H1 s1 f1 hp1 hD hl => ?_⟩
    exact q p ds H1 (ty.trans s1) (ty.free f1) hp1 hD (by omega)

def spIs : Sp := fun vs H Q _ => ∃ i : Int, vs = [.int i, .int i] ∧ Q (.bl true) H
theorem ok_law_is {f : Addr} {fd : FuncData} (F : Fun K "_law_is" "_law_is" s_law_is f fd) (T : Txt K mg a_ONES_OF_FOUR a_SIGNS_OF_FOUR C_WoodError C_NoBits C_NoPlace C_NoRow C_NoWood C_NoKnot) : FnOk P w K mg base CX0 1 f fd ["_law_found", "_law_due_here"] spIs := by
  refine F.ok sc_law_is (fun vs H Q E h => ?_) (fun cdv A outer s H vs Q E hr h => ?_)
  · obtain ⟨i, rfl, _⟩ := h
    rfl
  · obtain ⟨i, rfl, q⟩ := h
    refine ⟨_, (pss_one (ps_ret (pe_and (pe_callB call_isinst (by rfl) T.n_isinstance b_isinstance (pa_d (pv 0) (pa_d (pe_bltn (v := .ty "int") rfl T.n_int b_int rfl) pa_nil rfl) rfl)) (pe_and (pe_not (pe_callB call_isinst (by rfl) T.n_isinstance b_isinstance (pa_d (pv 0) (pa_d (pe_bltn (v := .ty "bool") rfl T.n_bool b_bool rfl) pa_nil rfl) rfl))) (pe_one (pe_cmpR op_eq (pv 0) (pv 1) (nomark _))))))), ?_⟩
    walk_at "rd"
    refine ⟨_, _, _, _, rfl, .int _, kit_int_int, ?_⟩
    walk_at "rd"
    refine ⟨_, _, _, _, rfl, .int _, kit_int_bool, ?_⟩
    walk_at "rd"
    rw [decide_eq_true (show V.int i = V.int i from rfl)]
    exact q

def spKind (K : PySem.W.Frag) (C : Addr) : Sp := fun vs H Q _ => ∃ (e : Addr) (od : Option Addr), vs = [.ref e] ∧ H e = some (excO e C od) ∧ ∀ H', Same H H' → Q (.int 3) H'
theorem ok_law_kind {f : Addr} {fd : FuncData} (F : Fun K "_law_kind" "_law_kind" s_law_kind f fd) (T : Txt K mg a_ONES_OF_FOUR a_SIGNS_OF_FOUR C_WoodError C_NoBits C_NoPlace C_NoRow C_NoWood C_NoKnot) : FnOk P w K mg base CX0 1 f fd ["_law_e"] (spKind K C_NoWood) := by
  refine F.ok sc_law_kind (fun vs H Q E h => ?_) (fun cdv A outer s H vs Q E hr h => ?_)
  · obtain ⟨e, od, rfl, _⟩ := h
    rfl
  · obtain ⟨e, od, rfl, he, q⟩ := h
    refine ⟨_, (pss_cons (ps_set (i := 1) sc_law_kind.nd rfl (Or.inl rfl) (pe_lst (pa_d (pe_callB (call_isinstXK K) (by rfl) T.n_isinstance b_isinstance (pa_d (pv 0) (pa_d (pe_glob (v := .ref _) rfl T.g_NoBits rfl) pa_nil rfl) rfl)) (pa_d (pe_callB (call_isinstXK K) (by rfl) T.n_isinstance b_isinstance (pa_d (pv 0) (pa_d (pe_glob (v := .ref _) rfl T.g_NoPlace rfl) pa_nil rfl) rfl)) (pa_d (pe_callB (call_isinstXK K) (by rfl) T.n_isinstance b_isinstance (pa_d (pv 0) (pa_d (pe_glob (v := .ref _) rfl T.g_NoRow rfl) pa_nil rfl) rfl)) pa_nil rfl) rfl) rfl)))
      (pss_cons (ps_set (i := 1) sc_law_kind.nd rfl (Or.inl rfl) (pe_op op_cat (pv 1) (pe_lst (pa_d (pe_callB (call_isinstXK K) (by rfl) T.n_isinstance b_isinstance (pa_d (pv 0) (pa_d (pe_glob (v := .ref _) rfl T.g_NoWood rfl) pa_nil rfl) rfl)) (pa_d (pe_callB (call_isinstXK K) (by rfl) T.n_isinstance b_isinstance (pa_d (pv 0) (pa_d (pe_glob (v := .ref _) rfl T.g_NoKnot rfl) pa_nil rfl) rfl)) pa_nil rfl) rfl))))
      (pss_cons (ps_if (PW.pt (pw_or (pt_not (pt_val (pe_callB (call_isinstXK K) (by rfl) T.n_isinstance b_isinstance (pa_d (pv 0) (pa_d (pe_bltn (v := .ty "ValueError") rfl T.n_ValueError b_ValueError rfl) pa_nil rfl) rfl)))) (pw_or1 (pt_cmpR op_ne (pe_bm PySem.F.plainAttrs_list PySem.F.slot_list_count PySem.F.type_list_count mt_countB (pv 1) (pa_d pe_bl pa_nil rfl)) pe_int (nomark _))))) (pss_one (ps_ret (pe_un un_neg pe_int)))
      pss_nil)
      (pss_one (ps_ret (pe_bm PySem.F.plainAttrs_list PySem.F.slot_list_index PySem.F.type_list_index mt_indexB (pv 1) (pa_d pe_bl pa_nil rfl))))))), ?_⟩
    walk_at "rd"
    refine ⟨e, C_NoWood, od, _, _, _, rfl, he, T.k_NoWood, rfl, T.kit_NoWood_NoBits, ?_⟩
    walk_at "rd"
    refine ⟨e, C_NoWood, od, _, _, _, rfl, he, T.k_NoWood, rfl, T.kit_NoWood_NoPlace, ?_⟩
    walk_at "rd"
    refine ⟨e, C_NoWood, od, _, _, _, rfl, he, T.k_NoWood, rfl, T.kit_NoWood_NoRow, ?_⟩
    walk_at "rd"
    refine ⟨few (by simp), fun p1 h1 => ?_⟩
    have t1 := same_upd (o := .lst [V.bl false, V.bl false, V.bl false]) h1
    have e1 : upd H p1 (.lst [V.bl false, V.bl false, V.bl false]) p1 = some (.lst [V.bl false, V.bl false, V.bl false]) := upd_same
    have he := t1 _ _ he
    generalize upd H p1 (.lst [V.bl false, V.bl false, V.bl false]) = H1 at *
    walk_at "rd"
    refine ⟨e, C_NoWood, od, _, _, _, rfl, he, T.k_NoWood, rfl, T.kit_NoWood_NoWood, ?_⟩
    walk_at "rd"
    refine ⟨e, C_NoWood, od, _, _, _, rfl, he, T.k_NoWood, rfl, T.kit_NoWood_NoKnot, ?_⟩
    walk_at "rd"
    refine ⟨few (by simp), fun p2 h2 => ?_⟩
    have t2 := same_upd (o := .lst [V.bl true, V.bl false]) h2
    have e2 : upd H1 p2 (.lst [V.bl true, V.bl false]) p2 = some (.lst [V.bl true, V.bl false]) := upd_same
    have he := t2 _ _ he
    have e1 := t2 _ _ e1
    generalize upd H1 p2 (.lst [V.bl true, V.bl false]) = H2 at *
    refine ⟨p1, p2, _, _, rfl, rfl, e1, e2, few (by simp), fun p3 h3 => ?_⟩
    have t3 := same_upd (o := .lst [V.bl false, V.bl false, V.bl false, V.bl true, V.bl false]) h3
    have e3 : upd H2 p3 (.lst [V.bl false, V.bl false, V.bl false, V.bl true, V.bl false]) p3 = some (.lst [V.bl false, V.bl false, V.bl false, V.bl true, V.bl false]) := upd_same
    have he := t3 _ _ he
    have hs := (t1.trans t2).trans t3
    show _
    simp only [List.cons_append, List.nil_append]
    generalize upd H2 p3 (.lst [V.bl false, V.bl false, V.bl false, V.bl true, V.bl false]) = H3 at *
    walk_at "rd"
    refine ⟨e, C_NoWood, od, _, _, _, rfl, he, T.k_NoWood, rfl, T.kit_NoWood_ValueError, ?_⟩
    walk_at "rd"
    refine ⟨.inl ⟨rfl, _, SqL.of e3⟩, ?_⟩
    walk_at "rd"
    refine ⟨p3, _, _, rfl, rfl, e3, rfl, rfl, ?_⟩
    walk_at "rd"
    refine iteN (fun h => absurd rfl h) (fun _ => ?_)
    walk_at "rd"
    refine ⟨.inl ⟨rfl, _, SqL.of e3⟩, ?_⟩
    walk_at "rd"
    refine ⟨p3, _, _, 3, rfl, rfl, e3, rfl, rfl, rfl, fun i hi => ?_, ?_⟩
    · rcases i with _ | _ | _ | i
      · simp [eqV]
      · simp [eqV]
      · simp [eqV]
      · omega
    exact q H3 hs

theorem way_up {ds : List Nat} (hD : Dok ds) : ∀ (k : Nat), k ≤ ds.length → ∀ (p : Nat) (v : Nat), (way ds k)[p + 1]? = some (v : Int) → (way ds k)[p]? = some (eld ds v)
  | 0, _, p, v, h => by
    have : ([-1] : List Int)[p + 1]? = some (v : Int) := h
    simp at this
  | k + 1, hk, p, v, h => by
    have hd := hD k (by omega)
    have hw := way_len hD k (by omega)
    have e : way ds (k + 1) = (way ds k).take (dAt ds k + 1) ++ [(k : Int)] := rfl
    have hl : ((way ds k).take (dAt ds k + 1)).length = dAt ds k + 1 := by rw [List.length_take]; omega
    rw [e] at h ⊢
    by_cases hp : p + 1 < dAt ds k + 1
    · rw [List.getElem?_append_left (by omega), List.getElem?_take_of_lt hp] at h
      rw [List.getElem?_append_left (by omega), List.getElem?_take_of_lt (by omega)]
      exact way_up hD k (by omega) p v h
    · rw [List.getElem?_append_right (by omega), hl] at h
      have hp1 : p = dAt ds k := by
        have := at_lt h
        simp at this
        omega
      rw [show p + 1 - (dAt ds k + 1) = 0 by omega] at h
      have hv : (k : Int) = (v : Int) := Option.some.inj h
      have hv : k = v := by omega
      subst hv
      rw [List.getElem?_append_left (by omega), List.getElem?_take_of_lt (by omega), hp1]
      exact eld_at hD (by omega)
theorem way_last {ds : List Nat} (hD : Dok ds) {k : Nat} (hk : k ≤ ds.length) : (way ds k)[(way ds k).length - 1]? = some ((k : Int) - 1) := by
  cases k with
  | zero => rfl
  | succ k =>
    have e : way ds (k + 1) = (way ds k).take (dAt ds k + 1) ++ [(k : Int)] := rfl
    rw [e, List.length_append, List.getElem?_append_right (by simp)]
    simp
theorem eld_below {ds : List Nat} (hD : Dok ds) {k : Nat} (hk : k < ds.length) : eld ds k < k := by
  have h := eld_at hD hk
  cases e : dAt ds k with
  | zero =>
    rw [e, way_zero hD k (by omega)] at h
    have := Option.some.inj h
    omega
  | succ d =>
    rw [e] at h
    obtain ⟨v, h1, h2, _⟩ := way_at hD k d _ (by omega) h
    omega
def nowM : St → Nat
  | [_, _, _, some (.int y)] => (y + 1).toNat
  | _ => 0
def spDue31 (K : PySem.W.Frag) : Sp := fun vs H Q _ => ∃ (a : Addr) (xs : List V), vs = [.ref a] ∧ H a = some (.lst xs) ∧ (∀ x ∈ xs, Any K H x) ∧ xs.length ≤ 600 ∧ ∀ r H', FaultR (some xs) r → Same H H' → Q r H'
theorem ok_law_due {f : Addr} {fd : FuncData} (F : Fun K "_law_due" "_law_due" s_law_due f fd) (T : Txt K mg a_ONES_OF_FOUR a_SIGNS_OF_FOUR C_WoodError C_NoBits C_NoPlace C_NoRow C_NoWood C_NoKnot) : FnOk P w K mg base CX0 1 f fd ["_law_elders_here"] (spDue31 K) := by
  refine F.ok sc_law_due (fun vs H Q E h => ?_) (fun cdv A outer s H vs Q E hr h => ?_)
  · obtain ⟨a, xs, rfl, _⟩ := h
    rfl
  · obtain ⟨a, xs, rfl, ha, hf, hn, q⟩ := h
    refine ⟨_, (pss_cons (ps_for PassesOwn.never rfl (pi_range1 rfl T.n_range (pa_d (pe_callB call_len_seq (by rfl) T.n_len b_len (pa_d (pv 0) pa_nil rfl)) pa_nil rfl)) (pg_name (i := 1) sc_law_due.nd rfl (Or.inl rfl))
      (pss_cons (ps_set (i := 2) sc_law_due.nd rfl (Or.inl rfl) (pe_ix ix_list (pv 0) (pv 1) (fun _ _ => rfl)))
      (pss_cons (ps_if (PW.pt (pw_or (pt_not (pt_val (pe_callB call_isinst (by rfl) T.n_isinstance b_isinstance (pa_d (pv 2) (pa_d (pe_bltn (v := .ty "int") rfl T.n_int b_int rfl) pa_nil rfl) rfl)))) (pw_or (pt_val (pe_callB call_isinst (by rfl) T.n_isinstance b_isinstance (pa_d (pv 2) (pa_d (pe_bltn (v := .ty "bool") rfl T.n_bool b_bool rfl) pa_nil rfl) rfl))) (pw_or1 (pt_cmpR op_eq (pv 1) pe_int (nomark _)))))) (pss_one (ps_ret (pv 1)))
      pss_nil)
      (pss_cons (ps_set (i := 3) sc_law_due.nd rfl (Or.inl rfl) (pe_op op_sub (pv 1) pe_int))
      (pss_cons (ps_while PassesOwn.never (PW.pt (pw_and (pt_cmpR op_ge (pv 3) pe_int (nomark _)) (pw_and1 (pt_cmpR op_ne (pv 3) (pv 2) (nomark _)))))
      (pss_one (ps_set (i := 3) sc_law_due.nd rfl (Or.inl rfl) (pe_ix ix_list (pv 0) (pv 3) (fun _ _ => rfl)))))
      (pss_one (ps_if (PW.pt (pw_and (pt_cmpR op_ne (pv 2) (pe_un un_neg pe_int) (nomark _)) (pw_and1 (PW.pt (pw_or (pt_cmpR op_ne (pv 3) (pv 2) (nomark _)) (pw_or1 (pt_cmpR op_lt (pv 2) pe_int (nomark _)))))))) (pss_one (ps_ret (pv 1)))
      pss_nil)))))))
      (pss_one (ps_ret pe_non))), ?_⟩
    walk_at "rd"
    refine ⟨a, _, rfl, .inl (SqL.of ha), ?_⟩
    walk_at "rd"
    refine ⟨_, rfl, by omega, by omega, ?_⟩
    rw [Int.toNat_natCast]
    refine for_range (fun k σ H1 => (∃ (ds : List Nat) (v1 v2 v3 : Option V), σ = [some (.ref a), v1, v2, v3] ∧ Dok ds ∧ ds.length = k ∧ xs.take k = (elds ds).map V.int) ∧ Same H H1) ?_ ?_ ?_
    · exact ⟨⟨[], _, _, _, rfl, (fun k hk => by cases hk), rfl, rfl⟩, Same.refl _⟩
    · rintro k σ H1 hk ⟨⟨ds, v1, v2, v3, rfl, hD, hl, htk⟩, s1⟩
      have hx : xs[k]? = some xs[k] := List.getElem?_eq_getElem hk
      generalize xs[k] = x at hx
      have ha1 := s1 _ _ ha
      have out : (∀ e, xs[k]? = some (V.int e) → e ∉ way ds k) → ∀ H3, Same H H3 → Q (.int (k : Int)) H3 := fun hb H3 s3 => q _ _ (.inr ⟨k, rfl, ds, hD, hl, hk, by omega, htk, .inr hb⟩) s3
      obtain ⟨ty, b1, b2, hty, hb1, hb2, hbx⟩ := (hf x (List.mem_of_getElem? hx)).same s1
      have noI : isI x = false → ∀ e, xs[k]? = some (V.int e) → e ∉ way ds k := fun hix e he => by
        rw [hx] at he
        rw [Option.some.inj he] at hix
        cases hix
      have hk0 : (0 + (k : Int)) = (k : Int) := by omega
      walk_at "rd"
      rw [hk0]
      refine r_ixL (SqL.of ha1) (atI_nat hx) ?_
      walk_at "rd"
      refine ⟨_, _, _, _, rfl, hty, hb1, ?_⟩
      cases b1 with
      | false =>
        walk_at "rd"
        exact out (noI (by rw [← hbx]; rfl)) H1 s1
      | true =>
        walk_at "rd"
        refine ⟨_, _, _, _, rfl, hty, hb2, ?_⟩
        cases b2 with
        | true =>
          walk_at "rd"
          exact out (noI (by rw [← hbx]; rfl)) H1 s1
        | false =>
          obtain ⟨e, rfl⟩ := isI_of (x := x) (by rw [← hbx]; rfl)
          walk_at "rd"
          refine iteP (fun h => absurd (V.int.inj h) (by omega)) (fun _ => ?_)
          walk_at "rd"
          have hw := way_len hD k (by omega)
          have hw0 := way_zero hD k (by omega)
          have hwl := way_last hD (k := k) (by omega)
          refine while_rd (fun σ H3 => Same H H3 ∧ ∃ (p : Nat) (y : Int), σ = [some (.ref a), some (.int (k : Int)), some (.int e), some (.int y)] ∧ (way ds k)[p]? = some y ∧ ∀ (j : Nat) z, p < j → (way ds k)[j]? = some z → z ≠ e) (fun σ _ => nowM σ)
            ⟨s1, (way ds k).length - 1, _, rfl, hwl, fun j z hj hz => by have := at_lt hz; omega⟩ ?_
          rintro z σ H3 ⟨s3, p, y, rfl, hy, hab⟩ hz
          have hz : (y + 1).toNat = z := hz
          have hge := way_ge hD (k := k) (by omega) (List.mem_of_getElem? hy)
          have hpl := at_lt hy
          have bad : (∀ (j : Nat) z, (way ds k)[j]? = some z → z ≠ e) → ∀ e', xs[k]? = some (V.int e') → e' ∉ way ds k := fun h e' he' hm => by
            rw [hx] at he'
            obtain rfl := V.int.inj (Option.some.inj he')
            obtain ⟨j, hj⟩ := List.getElem?_of_mem hm
            exact h j _ hj rfl
          have good : (way ds k)[p]? = some e → (∃ (ds : List Nat), Dok ds ∧ ds.length = k + 1 ∧ List.take (k + 1) xs = List.map V.int (elds ds)) := fun hp => by
            have hgd : (way ds k).getD p 0 = e := by unfold List.getD; rw [hp]; rfl
            refine ⟨ds ++ [p], dok_snoc hD (by rw [hl]; omega), by rw [List.length_append, hl]; rfl, ?_⟩
            rw [take_snoc hx, htk, elds_snoc, hl, hgd, List.map_append]
            rfl
          walk_at "rd"
          refine iteP (fun h0 => ?_) (fun h0 => ?_)
          · walk_at "rd"
            refine iteN (fun hne => ?_) (fun heq => ?_)
            · have hne : y ≠ e := fun h => hne (congrArg V.int h)
              obtain ⟨v, hv⟩ : ∃ v : Nat, y = (v : Int) := ⟨y.toNat, by omega⟩
              subst hv
              obtain ⟨p', rfl⟩ : ∃ p', p = p' + 1 := ⟨p - 1, by
                have : p ≠ 0 := fun e0 => by
                  rw [e0, hw0] at hy
                  have := Option.some.inj hy
                  omega
                omega⟩
              have hup := way_up hD k (by omega) p' v hy
              obtain ⟨v2, hv2, hvk, _⟩ := way_at hD k p' _ (by omega) hy
              have hvk : v < k := by omega
              refine r_turn ?_
              walk_at "rd"
              refine r_ixL (SqL.of (s3 _ _ ha)) (atI_nat (take_at hl htk hvk)) ?_
              walk_at "rd"
              have hlt := eld_below hD (k := v) (by omega)
              refine ⟨⟨s3, p', _, rfl, hup, fun j z' hj hz' => ?_⟩, ?_⟩
              · by_cases ej : j = p' + 1
                · rw [ej, hy] at hz'
                  rw [← Option.some.inj hz']
                  exact hne
                · exact hab j z' (by omega) hz'
              · show (eld ds v + 1).toNat < z
                omega
            · obtain rfl : y = e := V.int.inj heq
              walk_at "rd"
              refine iteN (fun _ => ?_) (fun h1 => absurd (V.int.inj h1) (by omega))
              walk_at "rd"
              refine iteN (fun h1 => absurd rfl h1) (fun _ => ?_)
              walk_at "rd"
              refine iteP (fun h1 => absurd h1 (by omega)) (fun _ => ?_)
              obtain ⟨ds', g1, g2, g3⟩ := good hy
              walk_at "rd"
              exact ⟨⟨ds', _, _, _, rfl, g1, g2, g3⟩, s3⟩
          · obtain rfl : y = -1 := by omega
            have hp0 : p = 0 := by
              by_cases e0 : p = 0
              · exact e0
              · have := way_lt hD k 0 p _ _ (by omega) (by omega) hw0 hy
                omega
            subst hp0
            walk_at "rd"
            refine iteN (fun h1 => ?_) (fun h1 => ?_)
            · walk_at "rd"
              refine iteN (fun _ => ?_) (fun h2 => absurd h2.symm h1)
              walk_at "rd"
              refine out (bad fun j z' hz' => ?_) H3 s3
              by_cases ej : j = 0
              · rw [ej, hy] at hz'
                intro e1
                rw [← Option.some.inj hz'] at e1
                exact h1 (by rw [← e1])
              · exact hab j z' (by omega) hz'
            · have he : e = -1 := V.int.inj h1
              subst he
              obtain ⟨ds', g1, g2, g3⟩ := good hy
              walk_at "rd"
              exact ⟨⟨ds', _, _, _, rfl, g1, g2, g3⟩, s3⟩
    · rintro σ H1 ⟨⟨ds, v1, v2, v3, rfl, hD, hl, htk⟩, s1⟩
      rw [List.take_of_length_le (Nat.le_refl _)] at htk
      walk_at "rd"
      exact q _ _ (.inl ⟨rfl, ds, hD, by omega, htk⟩) s1

def spRefused31 (K : PySem.W.Frag) : Sp := fun vs H Q _ => ∃ (v : V) (o : Option (List V)) (k : Nat) (i : Int), vs = [v, .int k, .int i] ∧ ThA K H v o ∧ FaultO o k ∧ ∀ H', Same H H' → Q (.bl true) H'
theorem ok_law_refused {f : Addr} {fd : FuncData} (F : Fun K "_law_refused" "_law_refused" s_law_refused f fd) (T : Txt K mg a_ONES_OF_FOUR a_SIGNS_OF_FOUR C_WoodError C_NoBits C_NoPlace C_NoRow C_NoWood C_NoKnot) (c_look_at : CalE P w K mg base "look_at" 3 ["elders"] (spLookA K C_NoWood)) (c_Opened : MkrE P w K mg base "Opened" C_Opened 9 ["self", "elders"] (spOpInit K C_Bits C_Counts C_Pairs C_Opened C_NoWood))
    (c_law_kind : Cal P w K mg base "_law_kind" 1 ["_law_e"] (spKind K C_NoWood)) (c_law_is : Cal P w K mg base "_law_is" 1 ["_law_found", "_law_due_here"] spIs) : FnOk P w K mg base CX0 11 f fd ["_law_elders_here", "_law_due_here", "_law_way"] (spRefused31 K) := by
  refine F.ok sc_law_refused (fun vs H Q E h => ?_) (fun cdv A outer s H vs Q E hr h => ?_)
  · obtain ⟨v, o, k, i, rfl, _⟩ := h
    rfl
  · obtain ⟨v, o, k, i, rfl, hT, hF, q⟩ := h
    refine ⟨_, (pss_cons (ps_set (i := 3) sc_law_refused.nd rfl (Or.inl rfl) pe_non)
      (pss_cons (ps_try (i := 4) rfl rfl rfl sc_law_refused.nd rfl rfl rfl T.g_WoodError (fun E pins σ => (pss_one_at (ps_if_at (pt_cmpR op_eq (pv 2) pe_int (nomark _)) (pss_one_at (ps_expr_at (pe_fn_at c_look_at (hr.mono (by decide : 3 ≤ _)) land_pass (pa_d (pv 0) pa_nil rfl))))
      (pss_one_at (ps_expr_at (pe_mk_at c_Opened (hr.mono (by decide : 10 ≤ _)) land_pass (pa_d (pv 0) pa_nil rfl)))))))
      (fun e => (pss_one (ps_set (i := 3) sc_law_refused.nd rfl (Or.inl rfl) (pv 4)))))
      (pss_cons (ps_if (PW.pt (pw_or (pt_cmp (pc_isN (pv 3))) (pw_or1 (pt_cmpR op_ne (pe_fn c_law_kind (hr.mono (by decide : 1 ≤ _)) (pa_d (pv 3) pa_nil rfl)) pe_int (nomark _))))) (pss_one (ps_ret pe_bl))
      pss_nil)
      (pss_one (ps_ret (pe_fn c_law_is (hr.mono (by decide : 1 ≤ _)) (pa_d (pe_place (pv 3)) (pa_d (pv 1) pa_nil rfl) rfl))))))), ?_⟩
    walk_at "rd"
    refine ⟨fun C od H' => Same H H' ∧ C = .ref C_NoWood ∧ ∃ dx : Addr, od = some dx ∧ H' dx = some (.xd [("place", .int (k : Nat))]), ?_, ?_⟩
    · walk_at "rd"
      refine iteP (fun _ => ?_) (fun _ => ?_)
      · walk_at "rd"
        refine ⟨v, o, rfl, hT, fun ds hG => (faultO_good hF hG).elim, fun k' hk dx H' s1 _ hx => ⟨s1, rfl, dx, rfl, ?_⟩⟩
        rw [faultO_uniq hF hk]
        exact hx
      · walk_at "rd"
        intro x dx hx hdx hne
        refine ⟨x, dx, v, o, rfl, upd_same, hT.same (new_same hx hdx), fun ds hG => (faultO_good hF hG).elim, fun k' hk dy H' s1 _ hy => ⟨(new_same hx hdx).trans s1, rfl, dy, rfl, ?_⟩⟩
        rw [faultO_uniq hF hk]
        exact hy
    · rintro C od H' e ⟨sH, hC, dx, rfl, hx⟩ he
      have hC := Value.ref.inj hC
      rw [hC] at *
      have t1 := same_upd (o := excO e C_NoWood (some dx)) he
      have s1 := sH.trans t1
      have he1 : upd H' e (excO e C_NoWood (some dx)) e = some (excO e C_NoWood (some dx)) := upd_same
      have hx1 := t1 _ _ hx
      generalize upd H' e (excO e C_NoWood (some dx)) = H1 at *
      refine ⟨T.em_NoWood, ?_⟩
      obtain ⟨fo, O⟩ := T.ow_NoWood
      walk_at "rd"
      refine ⟨e, some dx, rfl, he1, fun H2 s2 => ?_⟩
      have he2 := s2 _ _ he1
      have hx2 := s2 _ _ hx1
      walk_at "rd"
      refine iteN (fun h => absurd rfl h) (fun _ => ?_)
      walk_at "rd"
      refine ⟨e, C_WoodError, C_NoWood, fo, dx, _, k, rfl, he2, O, T.k_NoWood, hx2, rfl, ?_⟩
      walk_at "rd"
      refine ⟨(k : Int), rfl, ?_⟩
      exact q H2 (s1.trans s2)

def spTold31 (K : PySem.W.Frag) : Sp := fun vs H Q _ => ∃ (a : Addr) (xs : List V), vs = [.ref a] ∧ H a = some (.lst xs) ∧ (∀ x ∈ xs, Any K H x) ∧ xs.length ≤ 100 ∧ ∀ H', Same H H' → Q (.bl true) H'
theorem ok_law_told {f : Addr} {fd : FuncData} (F : Fun K "_law_told" "_law_told" s_law_told f fd) (T : Txt K mg a_ONES_OF_FOUR a_SIGNS_OF_FOUR C_WoodError C_NoBits C_NoPlace C_NoRow C_NoWood C_NoKnot) (Z : Z_Opened K C_Opened) (c_law_due : Cal P w K mg base "_law_due" 1 ["_law_elders_here"] (spDue31 K)) (c_law_refused : Cal P w K mg base "_law_refused" 11 ["_law_elders_here", "_law_due_here", "_law_way"] (spRefused31 K))
    (c_look_at : CalE P w K mg base "look_at" 3 ["elders"] (spLookA K C_NoWood)) (c_Opened : MkrE P w K mg base "Opened" C_Opened 9 ["self", "elders"] (spOpInit K C_Bits C_Counts C_Pairs C_Opened C_NoWood)) (m_Opened_many_knots : Mth P w K mg base C_Opened "many_knots" 2 ["self"] (spOKnots K C_Bits C_Counts C_Pairs C_Opened)) : FnOk P w K mg base CX0 12 f fd ["_law_elders_here"] (spTold31 K) := by
  refine F.ok sc_law_told (fun vs H Q E h => ?_) (fun cdv A outer s H vs Q E hr h => ?_)
  · obtain ⟨a, xs, rfl, _⟩ := h
    rfl
  · obtain ⟨a, xs, rfl, ha, hf, hn, q⟩ := h
    refine ⟨_, (pss_cons (ps_set (i := 1) sc_law_told.nd rfl (Or.inl rfl) (pe_callTy call_list_of (by rfl) T.n_list b_list (pa_d (pv 0) pa_nil rfl)))
      (pss_cons (ps_set (i := 2) sc_law_told.nd rfl (Or.inl rfl) (pe_fn c_law_due (hr.mono (by decide : 1 ≤ _)) (pa_d (pv 0) pa_nil rfl)))
      (pss_cons (ps_if (pt_cmp (pc_notN (pv 2))) (pss_one (ps_ret (pe_and (pe_fn c_law_refused (hr.mono (by decide : 11 ≤ _)) (pa_d (pv 1) (pa_d (pv 2) (pa_d pe_int pa_nil rfl) rfl) rfl)) (pe_one (pe_fn c_law_refused (hr.mono (by decide : 11 ≤ _)) (pa_d (pv 1) (pa_d (pv 2) (pa_d pe_int pa_nil rfl) rfl) rfl))))))
      pss_nil)
      (pss_cons (ps_set (i := 3) sc_law_told.nd rfl (Or.inl rfl) (pe_fnE c_look_at (hr.mono (by decide : 3 ≤ _)) passE0 (pa_d (pv 1) pa_nil rfl)))
      (pss_cons (ps_if (PW.pt (pw_or (pt_not (pt_val (pe_callB call_isinst (by rfl) T.n_isinstance b_isinstance (pa_d (pv 3) (pa_d (pe_bltn (v := .ty "list") rfl T.n_list b_list rfl) pa_nil rfl) rfl)))) (pw_or (pt_cmpR (op_neL (hu60 hr)) (pv 3) (pv 0) (nomark _)) (pw_or1 (pt_cmpR (op_neL (hu60 hr)) (pv 1) (pv 0) (nomark _)))))) (pss_one (ps_ret pe_bl))
      pss_nil)
      (pss_cons (ps_if (pt_cmpR (op_neL (hu60 hr)) (pe_lc rfl lc_law_told_0 (pi_list (pv 3)) (fun _ _ _ _ => pif_one (pt_val (pe_callB (call_isinK K) (by rfl) T.n_isinstance b_isinstance (pa_d (pv 0) (pa_d (pe_bltn (v := .ty "bool") rfl T.n_bool b_bool rfl) pa_nil rfl) rfl)))) (fun _ _ _ _ => (pv 0))) (pe_lst pa_nil) (nomark _)) (pss_one (ps_ret pe_bl))
      pss_nil)
      (pss_cons (ps_expr (pe_bm PySem.F.plainAttrs_list PySem.F.slot_list_append PySem.F.type_list_append mt_append (pv 3) (pa_d (pe_un un_neg pe_int) pa_nil rfl)))
      (pss_one (ps_ret (pe_and (pe_cmpR (op_eqL (hu60 hr)) (pv 1) (pv 0) (nomark _)) (pe_one (pe_cmpR op_eq (pe_mt0 m_Opened_many_knots (hr.mono (by decide : 2 ≤ _)) (pe_mkE c_Opened (hr.mono (by decide : 10 ≤ _)) passE0 (pa_d (pv 1) pa_nil rfl))) (pe_callB call_len_seq (by rfl) T.n_len b_len (pa_d (pv 0) pa_nil rfl)) (nomark _))))))))))))), ?_⟩
    walk_at "rd"
    refine ⟨a, _, rfl, .inl (SqL.of ha), fun p hp => ?_⟩
    have t1 := same_upd (o := .lst xs) hp
    have hp1 : upd H p (.lst xs) p = some (.lst xs) := upd_same
    have ha1 := t1 _ _ ha
    generalize upd H p (.lst xs) = H1 at *
    walk_at "rd"
    refine ⟨a, xs, rfl, ha1, fun x hx => (hf x hx).same t1, by omega, fun r H2 hR s2 => ?_⟩
    have s12 := t1.trans s2
    have hp2 := s2 _ _ hp1
    have ha2 := s2 _ _ ha1
    have hTh : ThA K H2 (.ref p) (some xs) := ⟨p, rfl, hp2, fun x hx => (hf x hx).same s12, by omega⟩
    rcases hR with ⟨rfl, ds, hG⟩ | ⟨k, rfl, hF⟩
    · obtain ⟨hD, hl, rfl⟩ := id hG
      have hel : (elds ds).length = ds.length := elds_len ds
      rw [List.length_map, hel] at hn
      walk_at "rd"
      refine ⟨.ref p, _, rfl, hTh, fun ds2 hG2 l H3 s3 hl0 hl3 => ?_, noWd_good hG⟩
      obtain rfl := (good_uniq hD hG2).symm
      have hp3 := s3 _ _ hp2
      have ha3 := s3 _ _ ha2
      have nlp : p ≠ l := ne_of_none hp2 hl0
      have nla : a ≠ l := ne_of_none ha2 hl0
      have nlH : H l = none := s12.free hl0
      have s13 := s12.trans s3
      walk_at "rd"
      refine ⟨_, _, _, _, rfl, .lst hl3, kit_list_list, ?_⟩
      walk_at "rd"
      refine r_neI (SqL.of hl3) (SqL.of ha3) ?_
      rw [decide_eq_true rfl]
      walk_at "rd"
      refine r_neI (SqL.of hp3) (SqL.of ha3) ?_
      rw [decide_eq_true rfl]
      walk_at "rd"
      refine ⟨l, rfl, ⟨_, SqL.of hl3⟩, ?_⟩
      refine lc_list (SqL.of hl3) (fun _ => []) rfl (fun i hi => small20000 (n := 0) (by decide)) (fun i x H4 R A hx s4 kR kA => ?_) (fun D H4 hD4 s4 hl4 => ?_)
      · obtain ⟨n, _, rfl⟩ := iV_get hx
        walk_at "rd"
        refine ⟨_, _, _, _, rfl, .int n, by rfl, ?_⟩
        walk_at "rd"
        exact kR rfl _ (Same.refl _)
      walk_at "rd"
      refine ⟨Nat.zero_le _, fun p4 hp4 => ?_⟩
      have u4 := same_upd (o := .lst []) hp4
      refine r_neI (ns := []) (ms := []) (SqL.of (u4 _ _ hl4)) (SqL.of upd_same) ?_
      have s34 := s4.trans u4
      have hl5 := s34 _ _ hl3
      have hp5 := s34 _ _ hp3
      have ha5 := s34 _ _ ha3
      have s14 := s13.trans s34
      generalize upd H4 p4 (.lst []) = H5 at *
      rw [decide_eq_true rfl]
      walk_at "rd"
      refine ⟨.inl ⟨rfl, _, SqL.of hl5⟩, ?_⟩
      walk_at "rd"
      refine r_append hl5 ?_ ?_
      · rw [List.length_map, hel]
        exact small20000 (by omega)
      have hp6 : upd H5 l (.lst ((elds ds).map V.int ++ [V.int (-1)])) p = some (.lst ((elds ds).map V.int)) := by rw [upd_ne nlp]; exact hp5
      have ha6 : upd H5 l (.lst ((elds ds).map V.int ++ [V.int (-1)])) a = some (.lst ((elds ds).map V.int)) := by rw [upd_ne nla]; exact ha5
      have s16 : Same H (upd H5 l (.lst ((elds ds).map V.int ++ [V.int (-1)]))) := push_same s14 nlH
      generalize upd H5 l (.lst ((elds ds).map V.int ++ [V.int (-1)])) = H6 at *
      walk_at "rd"
      refine r_eqI (SqL.of hp6) (SqL.of ha6) ?_
      rw [decide_eq_true rfl]
      walk_at "rd"
      intro x dx hx hdx hne
      have hTh6 : ThA K H6 (.ref p) (some ((elds ds).map V.int)) := thA_ints hp6 (by omega)
      refine ⟨x, dx, .ref p, _, rfl, upd_same, hTh6.same (new_same hx hdx), fun ds2 hG3 H7 s7 hO => ⟨rfl, ?_⟩, noWd_good hG⟩
      obtain rfl := (good_uniq hD hG3).symm
      have s7 := made_same hx hdx s7
      obtain ⟨dy, py, hy, _⟩ := id hO
      walk_at "rd"
      refine ⟨x, dy, _, rfl, hy, rfl, ?_⟩
      walk_at "rd"
      refine ⟨x, ds, rfl, hO, ?_⟩
      walk_at "rd"
      refine ⟨a, _, rfl, .inl (SqL.of (s7 _ _ ha6)), ?_⟩
      rw [List.length_map, hel]
      walk_at "rd"
      rw [decide_eq_true rfl]
      exact q H7 (s16.trans s7)
    · walk_at "rd"
      rw [show (!decide (V.int (k : Int) = V.non)) = true from rfl]
      walk_at "rd"
      refine ⟨.ref p, _, k, 0, rfl, hTh, hF, fun H3 s3 => ?_⟩
      walk_at "rd"
      refine ⟨.ref p, _, k, 1, rfl, hTh.same s3, hF, fun H4 s4 => ?_⟩
      exact q H4 ((s12.trans s3).trans s4)

theorem cut_from (xs : List V) (m : Nat) : cutV xs (some (m : Int)) none = xs.drop m := by
  unfold cutV
  rw [HT.sIx_nat]
  show List.take (xs.length - min m xs.length) (List.drop (min m xs.length) xs) = _
  rw [List.take_of_length_le (by rw [List.length_drop]; omega)]
  by_cases h : m ≤ xs.length
  · rw [Nat.min_eq_left h]
  · rw [Nat.min_eq_right (by omega), List.drop_of_length_le (Nat.le_refl _), List.drop_of_length_le (by omega)]
def spSpoil31 (K : PySem.W.Frag) : Sp := fun vs H Q _ => ∃ (a : Addr) (ds : List Nat) (r : Nat), vs = [.ref a, .int r] ∧ H a = some (.lst ((elds ds).map V.int)) ∧ ds.length ≤ 40 ∧ ∀ p (xs : List V) H', Same H H' → H' p = some (.lst xs) → (∀ x ∈ xs, Any K H' x) → xs.length ≤ 100 → Q (.ref p) H'
theorem ok_law_spoiled {f : Addr} {fd : FuncData} (F : Fun K "_law_spoiled" "_law_spoiled" s_law_spoiled f fd) (T : Txt K mg a_ONES_OF_FOUR a_SIGNS_OF_FOUR C_WoodError C_NoBits C_NoPlace C_NoRow C_NoWood C_NoKnot) : FnOk P w K mg base CX0 1 f fd ["_law_elders_here", "_law_number"] (spSpoil31 K) := by
  refine F.ok sc_law_spoiled (fun vs H Q E h => ?_) (fun cdv A outer s H vs Q E hr h => ?_)
  · obtain ⟨a, ds, r, rfl, _⟩ := h
    rfl
  · obtain ⟨a, ds, r, rfl, ha, hn, q⟩ := h
    have hle : ((elds ds).map V.int).length = ds.length := by rw [List.length_map, elds_len]
    have anyL : ∀ {H' : Hp} {y : V}, y ∈ (elds ds).map V.int → Any K H' y := fun hy => by
      obtain ⟨n, _, rfl⟩ := List.mem_map.mp hy
      exact any_int n
    have finX : ∀ (i j : Nat) (x : V) p (H2 : Hp), Same H H2 → Any K H2 x → H2 p = some (.lst (((elds ds).map V.int).take i ++ [x] ++ ((elds ds).map V.int).drop j)) → Q (.ref p) H2 := fun i j x p H2 s2 hxA hp => by
      refine q p _ H2 s2 hp (fun y hy => ?_) ?_
      · rcases List.mem_append.mp hy with hy | hy
        · rcases List.mem_append.mp hy with hy | hy
          · exact anyL (List.mem_of_mem_take hy)
          · obtain rfl := List.mem_singleton.mp hy
            exact hxA
        · exact anyL (List.mem_of_mem_drop hy)
      · rw [List.length_append, List.length_append, List.length_take, List.length_drop, hle, List.length_singleton]
        omega
    have finY : ∀ (i j : Nat) p (H2 : Hp), Same H H2 → H2 p = some (.lst (((elds ds).map V.int).take i ++ ((elds ds).map V.int).drop j)) → Q (.ref p) H2 := fun i j p H2 s2 hp => by
      refine q p _ H2 s2 hp (fun y hy => ?_) ?_
      · rcases List.mem_append.mp hy with hy | hy
        · exact anyL (List.mem_of_mem_take hy)
        · exact anyL (List.mem_of_mem_drop hy)
      · rw [List.length_append, List.length_take, List.length_drop, hle]
        omega
    refine ⟨_, (PSsI.h (bi_cons (si (ps_set (i := 2) sc_law_spoiled.nd rfl (Or.inl rfl) (pe_op op_mod (pe_op op_fdiv (pv 1) pe_int) (pe_callB (call_max2 rfl) (by rfl) T.n_max b_max (pa_d pe_int (pa_d (pe_callB call_len_seq (by rfl) T.n_len b_len (pa_d (pv 0) pa_nil rfl)) pa_nil rfl) rfl)))))
      (bi_cons (si (ps_if (PW.pt (pw_or (pt_cmpR (op_eqL (hu60 hr)) (pv 0) (pe_lst pa_nil) (nomark _)) (pw_or1 (pt_cmpR op_eq (pe_op op_mod (pv 1) pe_int) pe_int (nomark _))))) (pss_one (ps_ret (pe_op op_cat (pe_op op_cat (pe_slice sl_list (pv 0) po_none (po_some (pv 2))) (pe_lst (pa_d (pe_op op_sub (pe_op op_mod (pe_op op_fdiv (pv 1) pe_int) pe_int) pe_int) pa_nil rfl))) (pe_slice sl_list (pv 0) (po_some (pv 2)) po_none))))
      pss_nil))
      (bi_cons (si (ps_if (pt_cmpR op_eq (pe_op op_mod (pv 1) pe_int) pe_int (nomark _)) (pss_one (ps_ret (pe_op op_cat (pe_slice sl_list (pv 0) po_none (po_some (pv 2))) (pe_slice sl_list (pv 0) (po_some (pe_op op_add (pv 2) pe_int)) po_none))))
      pss_nil))
      (bi_cons (si (ps_if (pt_cmpR op_eq (pe_op op_mod (pv 1) pe_int) pe_int (nomark _)) (pss_one (ps_ret (pe_op op_cat (pe_slice sl_list (pv 0) po_none (po_some (pe_op op_add (pv 2) pe_int))) (pe_slice sl_list (pv 0) (po_some (pv 2)) po_none))))
      pss_nil))
      (bi_cons (si_set (i := 3) sc_law_spoiled.nd rfl (Or.inl rfl) (ei_lst (ai_c pe_non (ai_c pe_bl (ai_c pe_bl (ai_c pe_str (ai_c (pe_lst (pa_d pe_int pa_nil rfl)) (ai_c (pe_tup (pa_d pe_int pa_nil rfl)) (ai_c (pe_un un_neg pe_int) (ai_c (pv 1) ai_nil rfl) rfl) rfl) rfl) rfl) rfl) rfl) rfl)))
      (bi_cons (si (ps_set (i := 4) sc_law_spoiled.nd rfl (Or.inl rfl) (pe_op op_sub (pe_op op_mod (pe_op op_fdiv (pv 1) pe_int) pe_int) pe_int)))
      (bi_cons (si (ps_ifJ (pt_cmpR op_eq (pe_op op_mod (pv 1) pe_int) pe_int (nomark _)) (pss_one (ps_set (i := 4) sc_law_spoiled.nd rfl (Or.inl rfl) (pe_ix ix_list (pv 3) (pe_op op_mod (pe_op op_fdiv (pv 1) pe_int) pe_int) (fun _ _ => rfl))))
      pss_nil))
      (bi_one (si (ps_ret (pe_op op_cat (pe_op op_cat (pe_slice sl_list (pv 0) po_none (po_some (pv 2))) (pe_lst (pa_d (pv 4) pa_nil rfl))) (pe_slice sl_list (pv 0) (po_some (pe_op op_add (pv 2) pe_int)) po_none))))))))))))), ?_⟩
    walk_at "rd"
    refine ⟨a, _, rfl, .inl (SqL.of ha), ?_⟩
    rw [hle]
    walk_at "rd"
    refine ⟨_, _, rfl, ?_⟩
    obtain ⟨m, hm, hm0⟩ : ∃ m : Nat, (if (ds.length : Int) > 1 then (ds.length : Int) else 1) = ((m + 1 : Nat) : Int) ∧ m ≤ 40 := by
      by_cases h : (ds.length : Int) > 1
      · exact ⟨ds.length - 1, by rw [if_pos h]; omega, by omega⟩
      · exact ⟨0, by rw [if_neg h]; rfl, by omega⟩
    rw [hm]
    refine r_mod (by omega) ?_
    obtain ⟨k, hk, hk1⟩ := emod_nat ((r : Int) / 6) m
    have hk : (r : Int) / 6 % ((m + 1 : Nat) : Int) = (k : Int) := hk
    rw [hk]
    walk_at "rd"
    refine ⟨Nat.zero_le _, fun p0 hp0 => ?_⟩
    have u0 := same_upd (o := .lst []) hp0
    have hp00 : upd H p0 (.lst []) p0 = some (.lst []) := upd_same
    have ha1 := u0 _ _ ha
    generalize upd H p0 (.lst []) = H1 at *
    refine r_eqI (ms := []) (SqL.of ha1) (SqL.of hp00) ?_
    cases decide (elds ds = []) with
    | true =>
      walk_at "rd"
      refine ⟨a, _, rfl, SqL.of ha1, fun q1 h1 => ?_⟩
      rw [cut_to] at *
      have u1 := same_upd (o := .lst (((elds ds).map V.int).take k)) h1
      walk_at "rd"
      refine ⟨few (by simp), fun q2 h2 => ?_⟩
      have u2 := same_upd (o := .lst [V.int ((r : Int) / 600 % 70 - 3)]) h2
      refine ⟨q1, q2, _, _, rfl, rfl, u2 _ _ upd_same, upd_same, ?_, fun q3 h3 => ?_⟩
      · rw [List.length_take, hle]
        exact few (by simp only [List.length_cons, List.length_nil]; omega)
      have u3 := same_upd (o := .lst (((elds ds).map V.int).take k ++ [V.int ((r : Int) / 600 % 70 - 3)])) h3
      walk_at "rd"
      have u123 := (u1.trans u2).trans u3
      refine ⟨a, _, rfl, SqL.of (u123 _ _ ha1), fun q4 h4 => ?_⟩
      rw [cut_from] at *
      have u4 := same_upd (o := .lst (((elds ds).map V.int).drop k)) h4
      walk_at "rd"
      refine ⟨q3, q4, _, _, rfl, rfl, u4 _ _ upd_same, upd_same, ?_, fun q5 h5 => ?_⟩
      · rw [List.length_append, List.length_take, List.length_drop, hle]
        exact few (by simp only [List.length_cons, List.length_nil]; omega)
      have u5 := (u123.trans u4).trans (same_upd (o := .lst (((elds ds).map V.int).take k ++ [V.int ((r : Int) / 600 % 70 - 3)] ++ ((elds ds).map V.int).drop k)) h5)
      exact finX k k _ q5 _ (u0.trans u5) (any_int _) upd_same
    | false =>
      walk_at "rd"
      refine iteP (fun _ => ?_) (fun _ => ?_)
      · walk_at "rd"
        refine ⟨a, _, rfl, SqL.of ha1, fun q1 h1 => ?_⟩
        rw [cut_to] at *
        have u1 := same_upd (o := .lst (((elds ds).map V.int).take k)) h1
        walk_at "rd"
        refine ⟨few (by simp), fun q2 h2 => ?_⟩
        have u2 := same_upd (o := .lst [V.int ((r : Int) / 600 % 70 - 3)]) h2
        refine ⟨q1, q2, _, _, rfl, rfl, u2 _ _ upd_same, upd_same, ?_, fun q3 h3 => ?_⟩
        · rw [List.length_take, hle]
          exact few (by simp only [List.length_cons, List.length_nil]; omega)
        have u3 := same_upd (o := .lst (((elds ds).map V.int).take k ++ [V.int ((r : Int) / 600 % 70 - 3)])) h3
        walk_at "rd"
        have u123 := (u1.trans u2).trans u3
        refine ⟨a, _, rfl, SqL.of (u123 _ _ ha1), fun q4 h4 => ?_⟩
        rw [cut_from] at *
        have u4 := same_upd (o := .lst (((elds ds).map V.int).drop k)) h4
        walk_at "rd"
        refine ⟨q3, q4, _, _, rfl, rfl, u4 _ _ upd_same, upd_same, ?_, fun q5 h5 => ?_⟩
        · rw [List.length_append, List.length_take, List.length_drop, hle]
          exact few (by simp only [List.length_cons, List.length_nil]; omega)
        have u5 := (u123.trans u4).trans (same_upd (o := .lst (((elds ds).map V.int).take k ++ [V.int ((r : Int) / 600 % 70 - 3)] ++ ((elds ds).map V.int).drop k)) h5)
        exact finX k k _ q5 _ (u0.trans u5) (any_int _) upd_same
      walk_at "rd"
      refine iteP (fun _ => ?_) (fun _ => ?_)
      · walk_at "rd"
        refine ⟨a, _, rfl, SqL.of ha1, fun q1 h1 => ?_⟩
        rw [cut_to] at *
        have u1 := same_upd (o := .lst (((elds ds).map V.int).take k)) h1
        walk_at "rd"
        refine ⟨a, _, rfl, SqL.of (u1 _ _ ha1), fun q4 h4 => ?_⟩
        rw [show ((k : Int) + 1) = ((k + 1 : Nat) : Int) by omega, cut_from] at *
        have u4 := same_upd (o := .lst (((elds ds).map V.int).drop (k + 1))) h4
        walk_at "rd"
        refine ⟨q1, q4, _, _, rfl, rfl, u4 _ _ upd_same, upd_same, ?_, fun q5 h5 => ?_⟩
        · rw [List.length_take, List.length_drop, hle]
          exact few (by omega)
        exact finY k (k + 1) q5 _ (u0.trans ((u1.trans u4).trans (same_upd h5))) upd_same
      walk_at "rd"
      refine iteP (fun _ => ?_) (fun _ => ?_)
      · walk_at "rd"
        refine ⟨a, _, rfl, SqL.of ha1, fun q1 h1 => ?_⟩
        rw [show ((k : Int) + 1) = ((k + 1 : Nat) : Int) by omega, cut_to] at *
        have u1 := same_upd (o := .lst (((elds ds).map V.int).take (k + 1))) h1
        walk_at "rd"
        refine ⟨a, _, rfl, SqL.of (u1 _ _ ha1), fun q4 h4 => ?_⟩
        rw [cut_from] at *
        have u4 := same_upd (o := .lst (((elds ds).map V.int).drop k)) h4
        walk_at "rd"
        refine ⟨q1, q4, _, _, rfl, rfl, u4 _ _ upd_same, upd_same, ?_, fun q5 h5 => ?_⟩
        · rw [List.length_take, List.length_drop, hle]
          exact few (by omega)
        exact finY (k + 1) k q5 _ (u0.trans ((u1.trans u4).trans (same_upd h5))) upd_same
      walk_at "rd"
      refine ⟨few (by simp), fun pz hz => ?_⟩
      have uz := same_upd (o := .lst [V.int 0]) hz
      have hz1 : upd H1 pz (.lst [V.int 0]) pz = some (.lst [V.int 0]) := upd_same
      have ha2 := uz _ _ ha1
      have u02 := u0.trans uz
      generalize upd H1 pz (.lst [V.int 0]) = H2 at *
      walk_at "rd"
      refine ⟨few (by simp), fun pt ht => ?_⟩
      have ut := same_upd (o := .tup [V.int 0]) ht
      have ht1 : upd H2 pt (.tup [V.int 0]) pt = some (.tup [V.int 0]) := upd_same
      have ha3 := ut _ _ ha2
      have hz2 := ut _ _ hz1
      have u03 := u02.trans ut
      generalize upd H2 pt (.tup [V.int 0]) = H3 at *
      walk_at "rd"
      refine ⟨few (by simp), fun pl hl => ?_⟩
      generalize hL : [V.non, V.bl true, V.bl false, V.str ("0" : Str), V.ref pz, V.ref pt, V.int (-2), V.int (r : Int)] = L at *
      have hLl : L.length = 8 := by rw [← hL]; rfl
      have ul := same_upd (o := .lst L) hl
      have hl2 : upd H3 pl (.lst L) pl = some (.lst L) := upd_same
      have ha4 := ul _ _ ha3
      have hz3 := ul _ _ hz2
      have ht2 := ul _ _ ht1
      have u04 := u03.trans ul
      generalize upd H3 pl (.lst L) = H4 at *
      have hA : ∀ x ∈ L, Any K H4 x := fun x hx => by
        rw [← hL] at hx
        simp only [List.mem_cons, List.not_mem_nil, or_false] at hx
        rcases hx with rfl | rfl | rfl | rfl | rfl | rfl | rfl | rfl
        · exact any_non
        · exact any_bl _
        · exact any_bl _
        · exact any_str _
        · exact any_lst hz3
        · exact any_tup ht2
        · exact any_int _
        · exact any_int _
      walk_at "rd"
      refine r_ifJ (fun σ H' => H' = H4 ∧ ∃ x : V, σ = [some (.ref a), some (.int (r : Int)), some (.int (k : Int)), some (.ref pl), some x] ∧ Any K H4 x) ?_ ?_
      · walk_at "rd"
        refine iteP (fun _ => ?_) (fun _ => ?_)
        · obtain ⟨i8, hi8, hi81⟩ := emod_nat ((r : Int) / 600) 7
          have hi8 : (r : Int) / 600 % 8 = (i8 : Int) := hi8
          obtain ⟨x, hx⟩ : ∃ x, L[i8]? = some x := ⟨_, List.getElem?_eq_getElem (by omega)⟩
          walk_at "rd"
          rw [hi8]
          refine r_ixL (SqL.of hl2) (atI_nat hx) ?_
          walk_at "rd"
          exact ⟨rfl, x, rfl, hA x (List.mem_of_getElem? hx)⟩
        · walk_at "rd"
          exact ⟨rfl, _, rfl, any_int _⟩
      · rintro σ H5 ⟨rfl, x, rfl, hxA⟩
        walk_at "rd"
        refine ⟨a, _, rfl, SqL.of ha4, fun q1 h1 => ?_⟩
        rw [cut_to] at *
        have u1 := same_upd (o := .lst (((elds ds).map V.int).take k)) h1
        walk_at "rd"
        refine ⟨few (by simp), fun q2 h2 => ?_⟩
        have u2 := same_upd (o := .lst [x]) h2
        refine ⟨q1, q2, _, _, rfl, rfl, u2 _ _ upd_same, upd_same, ?_, fun q3 h3 => ?_⟩
        · rw [List.length_take, hle]
          exact few (by simp only [List.length_cons, List.length_nil]; omega)
        have u3 := same_upd (o := .lst (((elds ds).map V.int).take k ++ [x])) h3
        walk_at "rd"
        have u123 := (u1.trans u2).trans u3
        refine ⟨a, _, rfl, SqL.of (u123 _ _ ha4), fun q4 h4 => ?_⟩
        rw [show ((k : Int) + 1) = ((k + 1 : Nat) : Int) by omega, cut_from] at *
        have u4 := same_upd (o := .lst (((elds ds).map V.int).drop (k + 1))) h4
        walk_at "rd"
        refine ⟨q3, q4, _, _, rfl, rfl, u4 _ _ upd_same, upd_same, ?_, fun q5 h5 => ?_⟩
        · rw [List.length_append, List.length_take, List.length_drop, hle]
          exact few (by simp only [List.length_cons, List.length_nil]; omega)
        have u5 := (u123.trans u4).trans (same_upd (o := .lst (((elds ds).map V.int).take k ++ [x] ++ ((elds ds).map V.int).drop (k + 1))) h5)
        exact finX k (k + 1) _ q5 _ (u04.trans u5) (hxA.same u5) upd_same

def spLaw (K : PySem.W.Frag) : Sp := fun vs H Q _ => ∃ (a : Addr) (ns : List Int), vs = [.ref a] ∧ SqL K H a (ns.map V.int) ∧ ns.length ≤ 63 ∧ ∀ H', Q (.bl true) H'
theorem ok_law {f : Addr} {fd : FuncData} (F : Fun K "law" "law" s_law f fd) (T : Txt K mg a_ONES_OF_FOUR a_SIGNS_OF_FOUR C_WoodError C_NoBits C_NoPlace C_NoRow C_NoWood C_NoKnot) (c_law_told : Cal P w K mg base "_law_told" 12 ["_law_elders_here"] (spTold31 K)) (c_law_wood : Cal P w K mg base "_law_wood" 3 ["_law_script", "_law_at"] (spWoodK K)) (c_law_spoiled : Cal P w K mg base "_law_spoiled" 1 ["_law_elders_here", "_law_number"] (spSpoil31 K))
    (c_law_mixed : Cal P w K mg base "_law_mixed" 1 ["_law_cell", "_law_k"] spMixed) (c_law_refused : Cal P w K mg base "_law_refused" 11 ["_law_elders_here", "_law_due_here", "_law_way"] (spRefused31 K)) (c_look_at : CalE P w K mg base "look_at" 3 ["elders"] (spLookA K C_NoWood)) : FnOk P w K mg base CX0 13 f fd ["_law_script"] (spLaw K) := by
  refine F.ok sc_law (fun vs H Q E h => ?_) (fun cdv A outer s H vs Q E hr h => ?_)
  · obtain ⟨a, ns, rfl, _⟩ := h
    rfl
  · obtain ⟨a, ns, rfl, hS, hlen, q⟩ := h
    have anyE : ∀ {H' : Hp} {ds : List Nat}, ∀ y ∈ (elds ds).map V.int, Any K H' y := fun y hy => by
      obtain ⟨n, _, rfl⟩ := List.mem_map.mp hy
      exact any_int n
    refine ⟨_, (pss_cons (ps_if (pt_not (pt_val (pe_fn c_law_told (hr.mono (by decide : 12 ≤ _)) (pa_d (pe_fn c_law_wood (hr.mono (by decide : 3 ≤ _)) (pa_d (pv 0) (pa_d pe_int pa_nil rfl) rfl)) pa_nil rfl)))) (pss_one (ps_ret pe_bl))
      pss_nil)
      (pss_cons (ps_for PassesOwn.never rfl (pi_range3 rfl T.n_range (pa_d pe_int (pa_d (pe_callB (call_min2 rfl) (by rfl) T.n_min b_min (pa_d (pe_callB call_len_seq (by rfl) T.n_len b_len (pa_d (pv 0) pa_nil rfl)) (pa_d pe_int pa_nil rfl) rfl)) (pa_d pe_int pa_nil rfl) rfl) rfl)) (pg_name (i := 1) sc_law.nd rfl (Or.inl rfl))
      (pss_cons (ps_set (i := 2) sc_law.nd rfl (Or.inl rfl) (pe_fn c_law_wood (hr.mono (by decide : 3 ≤ _)) (pa_d (pv 0) (pa_d (pv 1) pa_nil rfl) rfl)))
      (pss_one (ps_if (pt_not (pt_val (pe_fn c_law_told (hr.mono (by decide : 12 ≤ _)) (pa_d (pe_fn c_law_spoiled (hr.mono (by decide : 1 ≤ _)) (pa_d (pv 2) (pa_d (pe_fn c_law_mixed (hr.mono (by decide : 1 ≤ _)) (pa_d (pe_ix ix_list (pv 0) (pv 1) (fun _ _ => rfl)) (pa_d (pe_op op_add (pe_op op_mul pe_int (pv 1)) pe_int) pa_nil rfl) rfl)) pa_nil rfl) rfl)) pa_nil rfl)))) (pss_one (ps_ret pe_bl))
      pss_nil))))
      (pss_cons (ps_for PassesOwn.never rfl (pi_listI (ei_lst (ai_c pe_non (ai_c pe_int (ai_c (pe_un un_neg pe_int) (ai_c pe_bl (ai_c pe_str (ai_c pe_str (ai_c (pe_tup pa_nil) (ai_c (pe_tup (pa_d (pe_un un_neg pe_int) pa_nil rfl)) (ai_c pe_dnew ai_nil rfl) rfl) rfl) rfl) rfl) rfl) rfl) rfl) rfl))) (pg_name (i := 3) sc_law.nd rfl (Or.inl rfl))
      (pss_one (ps_if (PW.pt (pw_or (pt_not (pt_val (pe_fn c_law_refused (hr.mono (by decide : 11 ≤ _)) (pa_d (pv 3) (pa_d pe_int (pa_d pe_int pa_nil rfl) rfl) rfl)))) (pw_or1 (pt_not (pt_val (pe_fn c_law_refused (hr.mono (by decide : 11 ≤ _)) (pa_d (pv 3) (pa_d pe_int (pa_d pe_int pa_nil rfl) rfl) rfl))))))) (pss_one (ps_ret pe_bl))
      pss_nil)))
      (pss_cons (ps_if (PW.pt (pw_or (pt_not (pt_val (pe_fn c_law_refused (hr.mono (by decide : 11 ≤ _)) (pa_d (pe_op op_rep (pe_lst (pa_d (pe_un un_neg pe_int) pa_nil rfl)) pe_int) (pa_d pe_int (pa_d pe_int pa_nil rfl) rfl) rfl)))) (pw_or1 (pt_cmpR (op_neL (hu60 hr)) (pe_fnE c_look_at (hr.mono (by decide : 3 ≤ _)) passE0 (pa_d (pe_op op_rep (pe_lst (pa_d (pe_un un_neg pe_int) pa_nil rfl)) pe_int) pa_nil rfl)) (pe_op op_rep (pe_lst (pa_d (pe_un un_neg pe_int) pa_nil rfl)) pe_int) (nomark _))))) (pss_one (ps_ret pe_bl))
      pss_nil)
      (pss_cons (ps_if (pt_not (pt_val (pe_fn c_law_refused (hr.mono (by decide : 11 ≤ _)) (pa_d (pe_op op_rep (pe_lst (pa_d (pe_un un_neg pe_int) pa_nil rfl)) pe_int) (pa_d pe_int (pa_d pe_int pa_nil rfl) rfl) rfl)))) (pss_one (ps_ret pe_bl))
      pss_nil)
      (pss_one (ps_ret (pe_and (pe_fn c_law_told (hr.mono (by decide : 12 ≤ _)) (pa_d (pe_lst pa_nil) pa_nil rfl)) (pe_one (pe_fn c_law_told (hr.mono (by decide : 12 ≤ _)) (pa_d (pe_fn c_law_wood (hr.mono (by decide : 3 ≤ _)) (pa_d (pv 0) (pa_d pe_int pa_nil rfl) rfl)) pa_nil rfl))))))))))), ?_⟩
    walk_at "rd"
    refine ⟨a, ns, 0, rfl, hS, by decide, fun p1 d1 H1 s1 _ hp1 hD1 hl1 => ?_⟩
    walk_at "rd"
    refine ⟨p1, _, rfl, hp1, anyE, by rw [List.length_map, elds_len]; omega, fun H2 s2 => ?_⟩
    have s12 := s1.trans s2
    walk_at "rd"
    refine ⟨a, _, rfl, .inl (s12.seq hS), ?_⟩
    walk_at "rd"
    rw [List.length_map]
    refine ⟨_, _, rfl, ?_⟩
    walk_at "rd"
    generalize hn : (if (32 : Int) < (ns.length : Int) then (32 : Int) else (ns.length : Int)) = m
    have hm : m ≤ 32 ∧ m ≤ ns.length ∧ 0 ≤ m := by
      rw [← hn]
      split <;> omega
    clear hn
    refine ⟨2, m, 2, rfl, by omega, ?_⟩
    have hst : ∀ i, i < stepsN 2 m 2 → 2 + 2 * i < m := fun i hi => by
      unfold stepsN at hi
      omega
    refine for_steps (fun i σ H' => (∃ v1 v2 v3 : Option V, σ = [some (.ref a), v1, v2, v3]) ∧ Same H H') ⟨⟨_, _, _, rfl⟩, s12⟩ ?_ ?_
    · rintro i σ H3 hi ⟨⟨v1, v2, v3, rfl⟩, s3⟩
      have hi2 := hst i hi
      have hki : (2 + (i : Int) * 2) = ((2 + 2 * i : Nat) : Int) := by omega
      have hkn : 2 + 2 * i < ns.length := by omega
      rw [hki]
      walk_at "rd"
      refine ⟨a, ns, 2 + 2 * i, rfl, s3.seq hS, by omega, fun p2 d2 H4 s4 _ hp2 hD2 hl2 => ?_⟩
      walk_at "rd"
      refine r_ixL ((s3.trans s4).seq hS) (atI_nat (iV_at (List.getElem?_eq_getElem hkn))) ?_
      walk_at "rd"
      refine ⟨ns[2 + 2 * i], 3 * ((2 + 2 * i : Nat) : Int) + 2, rfl, by omega, by omega, fun r r0 r1 => ?_⟩
      obtain ⟨rn, rfl⟩ : ∃ rn : Nat, r = (rn : Int) := ⟨r.toNat, by omega⟩
      walk_at "rd"
      refine ⟨p2, d2, rn, rfl, hp2, hl2, fun p3 xs H5 s5 hp3 hA3 hlx => ?_⟩
      walk_at "rd"
      refine ⟨p3, xs, rfl, hp3, hA3, hlx, fun H6 s6 => ?_⟩
      walk_at "rd"
      exact ⟨⟨_, _, _, rfl⟩, ((s3.trans s4).trans s5).trans s6⟩
    · rintro σ H3 ⟨⟨v1, v2, v3, rfl⟩, s3⟩
      walk_at "rd"
      refine ⟨few (by simp), fun t0 ht0 => ?_⟩
      have w0 := same_upd (o := .tup []) ht0
      have g0 : upd H3 t0 (.tup []) t0 = some (.tup []) := upd_same
      generalize upd H3 t0 (.tup []) = K0 at *
      walk_at "rd"
      refine ⟨few (by simp), fun t1 ht1 => ?_⟩
      have w1 := same_upd (o := .tup [V.int (-1)]) ht1
      have g1 : upd K0 t1 (.tup [V.int (-1)]) t1 = some (.tup [V.int (-1)]) := upd_same
      have g01 := w1 _ _ g0
      generalize upd K0 t1 (.tup [V.int (-1)]) = K1 at *
      walk_at "rd"
      intro t2 ht2
      have w2 := same_upd (o := .dK []) ht2
      have g2 : upd K1 t2 (.dK []) t2 = some (.dK []) := upd_same
      have g02 := w2 _ _ g01
      have g12 := w2 _ _ g1
      generalize upd K1 t2 (.dK []) = K2 at *
      walk_at "rd"
      refine ⟨few (by simp), fun t3 ht3 => ?_⟩
      generalize hL : [V.non, V.int 0, V.int (-1), V.bl true, V.str ("" : Str), V.str ("0" : Str), V.ref t0, V.ref t1, V.ref t2] = L at *
      have w3 := same_upd (o := .lst L) ht3
      have g3 : upd K2 t3 (.lst L) t3 = some (.lst L) := upd_same
      have g03 := w3 _ _ g02
      have g13 := w3 _ _ g12
      have g23 := w3 _ _ g2
      have s33 := (((s3.trans w0).trans w1).trans w2).trans w3
      generalize upd K2 t3 (.lst L) = K3 at *
      have hNo : ∀ x ∈ L, ThA K K3 x none := fun x hx => by
        rw [← hL] at hx
        simp only [List.mem_cons, List.not_mem_nil, or_false] at hx
        rcases hx with rfl | rfl | rfl | rfl | rfl | rfl | rfl | rfl | rfl
        · exact ⟨_, .non, by rfl⟩
        · exact ⟨_, .int _, by rfl⟩
        · exact ⟨_, .int _, by rfl⟩
        · exact ⟨_, .bl _, by rfl⟩
        · exact ⟨_, .str _, by rfl⟩
        · exact ⟨_, .str _, by rfl⟩
        · exact ⟨_, .tup g03, by rfl⟩
        · exact ⟨_, .tup g13, by rfl⟩
        · exact ⟨_, .dK g23, by rfl⟩
      refine ⟨t3, rfl, ⟨_, SqL.of g3⟩, ?_⟩
      refine for_list (xs := L) (fun i σ H' => (∃ v1 v2 v3 : Option V, σ = [some (.ref a), v1, v2, v3]) ∧ Same K3 H') ⟨⟨_, _, _, rfl⟩, Same.refl _⟩ (fun i σ H' _ h => SqL.of (h.2 _ _ g3)) ?_ ?_
      · rintro i y σ H4 hy ⟨⟨v1, v2, v3, rfl⟩, s4⟩
        have hT := (hNo y (List.mem_of_getElem? hy)).same s4
        walk_at "rd"
        refine ⟨y, none, 0, 0, rfl, hT, rfl, fun H5 s5 => ?_⟩
        walk_at "rd"
        refine ⟨y, none, 0, 1, rfl, hT.same s5, rfl, fun H6 s6 => ?_⟩
        walk_at "rd"
        exact ⟨⟨_, _, _, rfl⟩, (s4.trans s5).trans s6⟩
      · rintro σ H4 ⟨⟨v1, v2, v3, rfl⟩, s4⟩
        have s34 := s33.trans s4
        have rep : ∀ n : Nat, (List.replicate ((n : Int)).toNat [V.int (-1)]).flatten = (List.replicate n (-1 : Int)).map V.int := fun n => by rw [Int.toNat_natCast]; exact rep_ints n (-1)
        walk_at "rd"
        refine ⟨few (by simp), fun l0 hl0 => ?_⟩
        have x0 := same_upd (o := .lst [V.int (-1)]) hl0
        have y0 : upd H4 l0 (.lst [V.int (-1)]) l0 = some (.lst [V.int (-1)]) := upd_same
        generalize upd H4 l0 (.lst [V.int (-1)]) = H5 at *
        walk_at "rd"
        refine ⟨l0, ((4001 : Nat) : Int), _, rfl, rfl, y0, by omega, by omega, Nat.le_of_lt (small20000 (by simp)), fun l1 hl1 => ?_⟩
        rw [rep 4001] at *
        have x1 := same_upd (o := .lst ((List.replicate 4001 (-1 : Int)).map V.int)) hl1
        have y1 : upd H5 l1 (.lst ((List.replicate 4001 (-1 : Int)).map V.int)) l1 = some (.lst ((List.replicate 4001 (-1 : Int)).map V.int)) := upd_same
        generalize upd H5 l1 (.lst ((List.replicate 4001 (-1 : Int)).map V.int)) = H6 at *
        have th4 : ∀ {H' : Hp} {l : Addr}, H' l = some (.lst ((List.replicate 4001 (-1 : Int)).map V.int)) → ThA K H' (.ref l) (some ((List.replicate 4001 (-1 : Int)).map V.int)) := fun h => ⟨_, rfl, h, fun x hx => by obtain ⟨n, _, rfl⟩ := List.mem_map.mp hx; exact any_int n, by rw [List.length_map, List.length_replicate]; omega⟩
        walk_at "rd"
        refine ⟨.ref l1, _, 4000, 0, rfl, th4 y1, fault4001, fun H7 s7 => ?_⟩
        have s37 := ((s34.trans x0).trans x1).trans s7
        walk_at "rd"
        refine ⟨few (by simp), fun m0 hm0 => ?_⟩
        have xm0 := same_upd (o := .lst [V.int (-1)]) hm0
        have ym0 : upd H7 m0 (.lst [V.int (-1)]) m0 = some (.lst [V.int (-1)]) := upd_same
        generalize upd H7 m0 (.lst [V.int (-1)]) = H8 at *
        walk_at "rd"
        refine ⟨m0, ((4000 : Nat) : Int), _, rfl, rfl, ym0, by omega, by omega, Nat.le_of_lt (small20000 (by simp)), fun m1 hm1 => ?_⟩
        rw [rep 4000] at *
        have xm1 := same_upd (o := .lst ((List.replicate 4000 (-1 : Int)).map V.int)) hm1
        have ym1 : upd H8 m1 (.lst ((List.replicate 4000 (-1 : Int)).map V.int)) m1 = some (.lst ((List.replicate 4000 (-1 : Int)).map V.int)) := upd_same
        generalize upd H8 m1 (.lst ((List.replicate 4000 (-1 : Int)).map V.int)) = H9 at *
        have s39 := (s37.trans xm0).trans xm1
        have hG4 : GoodO (some ((List.replicate 4000 (-1 : Int)).map V.int)) (List.replicate 4000 0) := ⟨flat_dok 4000, by rw [List.length_replicate]; omega, by rw [flat_elds]⟩
        walk_at "rd"
        refine ⟨.ref m1, _, rfl, thA_ints ym1 (by rw [List.length_replicate]; omega), fun ds hG l H10 s10 hl0 hl => ?_, noWd_good hG4⟩
        rw [← hG.2.2] at hl
        have s310 := s39.trans s10
        walk_at "rd"
        refine ⟨few (by simp), fun m2 hm2 => ?_⟩
        have xm2 := same_upd (o := .lst [V.int (-1)]) hm2
        have ym2 : upd H10 m2 (.lst [V.int (-1)]) m2 = some (.lst [V.int (-1)]) := upd_same
        generalize upd H10 m2 (.lst [V.int (-1)]) = H11 at *
        walk_at "rd"
        refine ⟨m2, ((4000 : Nat) : Int), _, rfl, rfl, ym2, by omega, by omega, Nat.le_of_lt (small20000 (by simp)), fun m3 hm3 => ?_⟩
        rw [rep 4000] at *
        have xm3 := same_upd (o := .lst ((List.replicate 4000 (-1 : Int)).map V.int)) hm3
        have ym3 : upd H11 m3 (.lst ((List.replicate 4000 (-1 : Int)).map V.int)) m3 = some (.lst ((List.replicate 4000 (-1 : Int)).map V.int)) := upd_same
        generalize upd H11 m3 (.lst ((List.replicate 4000 (-1 : Int)).map V.int)) = H12 at *
        have s312 := (s310.trans xm2).trans xm3
        have hl12 := xm3 _ _ (xm2 _ _ hl)
        refine r_neI (SqL.of hl12) (SqL.of ym3) ?_
        rw [decide_eq_true rfl]
        walk_at "rd"
        refine ⟨few (by simp), fun m4 hm4 => ?_⟩
        have xm4 := same_upd (o := .lst [V.int (-1)]) hm4
        have ym4 : upd H12 m4 (.lst [V.int (-1)]) m4 = some (.lst [V.int (-1)]) := upd_same
        generalize upd H12 m4 (.lst [V.int (-1)]) = H13 at *
        walk_at "rd"
        refine ⟨m4, ((4001 : Nat) : Int), _, rfl, rfl, ym4, by omega, by omega, Nat.le_of_lt (small20000 (by simp)), fun m5 hm5 => ?_⟩
        rw [rep 4001] at *
        have xm5 := same_upd (o := .lst ((List.replicate 4001 (-1 : Int)).map V.int)) hm5
        have ym5 : upd H13 m5 (.lst ((List.replicate 4001 (-1 : Int)).map V.int)) m5 = some (.lst ((List.replicate 4001 (-1 : Int)).map V.int)) := upd_same
        generalize upd H13 m5 (.lst ((List.replicate 4001 (-1 : Int)).map V.int)) = H14 at *
        have s314 := (s312.trans xm4).trans xm5
        walk_at "rd"
        refine ⟨.ref m5, _, 4000, 1, rfl, th4 ym5, fault4001, fun H15 s15 => ?_⟩
        have s315 := s314.trans s15
        walk_at "rd"
        refine ⟨Nat.zero_le _, fun e0 he0 => ?_⟩
        have xe := same_upd (o := .lst []) he0
        have ye : upd H15 e0 (.lst []) e0 = some (.lst []) := upd_same
        have s316 := s315.trans xe
        generalize upd H15 e0 (.lst []) = H16 at *
        walk_at "rd"
        refine ⟨e0, [], rfl, ye, (fun x hx => absurd hx List.not_mem_nil), Nat.zero_le _, fun H17 s17 => ?_⟩
        walk_at "rd"
        refine ⟨a, ns, 0, rfl, (s316.trans s17).seq hS, by decide, fun p2 d2 H18 s18 _ hp2 hD2 hl2 => ?_⟩
        walk_at "rd"
        refine ⟨p2, _, rfl, hp2, anyE, by rw [List.length_map, elds_len]; omega, fun H19 s19 => ?_⟩
        exact q H19

end
set_option maxHeartbeats 8000000 in
theorem all_mk {l : PySem.W.OpenLaw} {w : World} {K : PySem.W.Frag} {h : Heap} {mg : Str → Option Value} {fa : Addr} (X : K.In h) (G : h.Ns mainGlobals mg) (hfa : mg "law" = some (.ref fa))
    {C_Bits : Addr}
    {C_Counts : Addr}
    {C_Pairs : Addr}
    {C_Opened : Addr}
    {C_Heights : Addr}
    {C_Openings : Addr}
    {f0 : Addr} {od0 an0 : Option Addr} {sl0 : Array (Option Value)} {oc0 kV0 dc0 pm0 cd0 ct0 : Value}
    {f1 : Addr} {od1 an1 : Option Addr} {sl1 : Array (Option Value)} {oc1 kV1 dc1 pm1 cd1 ct1 : Value}
    {f2 : Addr} {od2 an2 : Option Addr} {sl2 : Array (Option Value)} {oc2 kV2 dc2 pm2 cd2 ct2 : Value}
    {f3 : Addr} {od3 an3 : Option Addr} {sl3 : Array (Option Value)} {oc3 kV3 dc3 pm3 cd3 ct3 : Value}
    {f4 : Addr} {od4 an4 : Option Addr} {sl4 : Array (Option Value)} {oc4 kV4 dc4 pm4 cd4 ct4 : Value}
    {f5 : Addr} {od5 an5 : Option Addr} {sl5 : Array (Option Value)} {oc5 kV5 dc5 pm5 cd5 ct5 : Value}
    {f6 : Addr} {od6 an6 : Option Addr} {sl6 : Array (Option Value)} {oc6 kV6 dc6 pm6 cd6 ct6 : Value}
    {f7 : Addr} {od7 an7 : Option Addr} {sl7 : Array (Option Value)} {oc7 kV7 dc7 pm7 cd7 ct7 : Value}
    {f8 : Addr} {od8 an8 : Option Addr} {sl8 : Array (Option Value)} {oc8 kV8 dc8 pm8 cd8 ct8 : Value}
    {f9 : Addr} {od9 an9 : Option Addr} {sl9 : Array (Option Value)} {oc9 kV9 dc9 pm9 cd9 ct9 : Value}
    {f10 : Addr} {od10 an10 : Option Addr} {sl10 : Array (Option Value)} {oc10 kV10 dc10 pm10 cd10 ct10 : Value}
    {f11 : Addr} {od11 an11 : Option Addr} {sl11 : Array (Option Value)} {oc11 kV11 dc11 pm11 cd11 ct11 : Value}
    {f12 : Addr} {od12 an12 : Option Addr} {sl12 : Array (Option Value)} {oc12 kV12 dc12 pm12 cd12 ct12 : Value}
    {f13 : Addr} {od13 an13 : Option Addr} {sl13 : Array (Option Value)} {oc13 kV13 dc13 pm13 cd13 ct13 : Value}
    {f14 : Addr} {od14 an14 : Option Addr} {sl14 : Array (Option Value)} {oc14 kV14 dc14 pm14 cd14 ct14 : Value}
    {f15 : Addr} {od15 an15 : Option Addr} {sl15 : Array (Option Value)} {oc15 kV15 dc15 pm15 cd15 ct15 : Value}
    {f16 : Addr} {od16 an16 : Option Addr} {sl16 : Array (Option Value)} {oc16 kV16 dc16 pm16 cd16 ct16 : Value}
    {f17 : Addr} {od17 an17 : Option Addr} {sl17 : Array (Option Value)} {oc17 kV17 dc17 pm17 cd17 ct17 : Value}
    {f18 : Addr} {od18 an18 : Option Addr} {sl18 : Array (Option Value)} {oc18 kV18 dc18 pm18 cd18 ct18 : Value}
    {f19 : Addr} {od19 an19 : Option Addr} {sl19 : Array (Option Value)} {oc19 kV19 dc19 pm19 cd19 ct19 : Value}
    {f20 : Addr} {od20 an20 : Option Addr} {sl20 : Array (Option Value)} {oc20 kV20 dc20 pm20 cd20 ct20 : Value}
    {f21 : Addr} {od21 an21 : Option Addr} {sl21 : Array (Option Value)} {oc21 kV21 dc21 pm21 cd21 ct21 : Value}
    {f22 : Addr} {od22 an22 : Option Addr} {sl22 : Array (Option Value)} {oc22 kV22 dc22 pm22 cd22 ct22 : Value}
    {f23 : Addr} {od23 an23 : Option Addr} {sl23 : Array (Option Value)} {oc23 kV23 dc23 pm23 cd23 ct23 : Value}
    {f24 : Addr} {od24 an24 : Option Addr} {sl24 : Array (Option Value)} {oc24 kV24 dc24 pm24 cd24 ct24 : Value}
    {f25 : Addr} {od25 an25 : Option Addr} {sl25 : Array (Option Value)} {oc25 kV25 dc25 pm25 cd25 ct25 : Value}
    {f26 : Addr} {od26 an26 : Option Addr} {sl26 : Array (Option Value)} {oc26 kV26 dc26 pm26 cd26 ct26 : Value}
    {f27 : Addr} {od27 an27 : Option Addr} {sl27 : Array (Option Value)} {oc27 kV27 dc27 pm27 cd27 ct27 : Value}
    {f28 : Addr} {od28 an28 : Option Addr} {sl28 : Array (Option Value)} {oc28 kV28 dc28 pm28 cd28 ct28 : Value}
    {f29 : Addr} {od29 an29 : Option Addr} {sl29 : Array (Option Value)} {oc29 kV29 dc29 pm29 cd29 ct29 : Value}
    {f30 : Addr} {od30 an30 : Option Addr} {sl30 : Array (Option Value)} {oc30 kV30 dc30 pm30 cd30 ct30 : Value}
    {f31 : Addr} {od31 an31 : Option Addr} {sl31 : Array (Option Value)} {oc31 kV31 dc31 pm31 cd31 ct31 : Value}
    {f32 : Addr} {od32 an32 : Option Addr} {sl32 : Array (Option Value)} {oc32 kV32 dc32 pm32 cd32 ct32 : Value}
    {f33 : Addr} {od33 an33 : Option Addr} {sl33 : Array (Option Value)} {oc33 kV33 dc33 pm33 cd33 ct33 : Value}
    {f34 : Addr} {od34 an34 : Option Addr} {sl34 : Array (Option Value)} {oc34 kV34 dc34 pm34 cd34 ct34 : Value}
    {f35 : Addr} {od35 an35 : Option Addr} {sl35 : Array (Option Value)} {oc35 kV35 dc35 pm35 cd35 ct35 : Value}
    {f36 : Addr} {od36 an36 : Option Addr} {sl36 : Array (Option Value)} {oc36 kV36 dc36 pm36 cd36 ct36 : Value}
    {f37 : Addr} {od37 an37 : Option Addr} {sl37 : Array (Option Value)} {oc37 kV37 dc37 pm37 cd37 ct37 : Value}
    {f38 : Addr} {od38 an38 : Option Addr} {sl38 : Array (Option Value)} {oc38 kV38 dc38 pm38 cd38 ct38 : Value}
    {f39 : Addr} {od39 an39 : Option Addr} {sl39 : Array (Option Value)} {oc39 kV39 dc39 pm39 cd39 ct39 : Value}
    {f40 : Addr} {od40 an40 : Option Addr} {sl40 : Array (Option Value)} {oc40 kV40 dc40 pm40 cd40 ct40 : Value}
    {f41 : Addr} {od41 an41 : Option Addr} {sl41 : Array (Option Value)} {oc41 kV41 dc41 pm41 cd41 ct41 : Value}
    {a_ONES_OF_FOUR : Addr} {o_ONES_OF_FOUR : Obj} {i_ONES_OF_FOUR : Array Value} {n_ONES_OF_FOUR : Nat}
    {a_SIGNS_OF_FOUR : Addr} {o_SIGNS_OF_FOUR : Obj} {i_SIGNS_OF_FOUR : Array Value} {n_SIGNS_OF_FOUR : Nat}
    {t_WORD_BITS : Tok}
    {t_MOST_BITS : Tok}
    {t_BLOCK_WORDS : Tok}
    {t_MOST_SIGNS_pairs : Tok}
    {t_STRETCH_BITS : Tok}
    {t_MOST_KNOTS : Tok}
    {C_WoodError : Addr}
    {C_NoBits : Addr}
    {C_NoPlace : Addr}
    {C_NoRow : Addr}
    {C_NoWood : Addr}
    {C_NoKnot : Addr}
    {nm_NoRow qn_NoRow : Str} {N_NoRow : Addr} {bs_NoRow : List Value} {sn_NoRow : List Str} {sub_NoRow : List Value} {ab_NoRow : Bool} {col_NoRow : Option Bool} {dd_NoRow : Option Addr} {k0_NoRow k1_NoRow k2_NoRow k3_NoRow k5_NoRow : Option Value}
    {nm_NoWood qn_NoWood : Str} {N_NoWood : Addr} {bs_NoWood : List Value} {sn_NoWood : List Str} {sub_NoWood : List Value} {ab_NoWood : Bool} {col_NoWood : Option Bool} {dd_NoWood : Option Addr} {k0_NoWood k1_NoWood k2_NoWood k3_NoWood k5_NoWood : Option Value}
    (a_Bits : PySem.W.nsIn K mainGlobals "Bits" = some (some (.ref C_Bits)))
    (pg_Bits : PySem.W.plainGet K C_Bits Str.empty = true)
    (hd_Bits : PySem.W.hasDictIn K C_Bits = true)
    (po_Bits : PySem.W.plainOver K C_Bits = true)
    (sa_Bits : PySem.W.findIn K (.ref C_Bits) "__setattr__" = some (some (.builtin "object.__setattr__")))
    (mk_Bits : PySem.W.makesIn K C_Bits = true)
    (kc_Bits : PySem.W.keepIn K (.ref C_Bits) = true)
    (n_Bits_length : PySem.W.findIn K (.ref C_Bits) "length" = some none)
    (n_Bits_many_ones : PySem.W.findIn K (.ref C_Bits) "many_ones" = some none)
    (n_Bits_kept_words : PySem.W.findIn K (.ref C_Bits) "kept_words" = some none)
    (a_Counts : PySem.W.nsIn K mainGlobals "Counts" = some (some (.ref C_Counts)))
    (pg_Counts : PySem.W.plainGet K C_Counts Str.empty = true)
    (hd_Counts : PySem.W.hasDictIn K C_Counts = true)
    (po_Counts : PySem.W.plainOver K C_Counts = true)
    (sa_Counts : PySem.W.findIn K (.ref C_Counts) "__setattr__" = some (some (.builtin "object.__setattr__")))
    (mk_Counts : PySem.W.makesIn K C_Counts = true)
    (kc_Counts : PySem.W.keepIn K (.ref C_Counts) = true)
    (n_Counts_length : PySem.W.findIn K (.ref C_Counts) "length" = some none)
    (n_Counts_kept_words : PySem.W.findIn K (.ref C_Counts) "kept_words" = some none)
    (n_Counts_kept_table : PySem.W.findIn K (.ref C_Counts) "kept_table" = some none)
    (a_Pairs : PySem.W.nsIn K mainGlobals "Pairs" = some (some (.ref C_Pairs)))
    (pg_Pairs : PySem.W.plainGet K C_Pairs Str.empty = true)
    (hd_Pairs : PySem.W.hasDictIn K C_Pairs = true)
    (po_Pairs : PySem.W.plainOver K C_Pairs = true)
    (sa_Pairs : PySem.W.findIn K (.ref C_Pairs) "__setattr__" = some (some (.builtin "object.__setattr__")))
    (mk_Pairs : PySem.W.makesIn K C_Pairs = true)
    (kc_Pairs : PySem.W.keepIn K (.ref C_Pairs) = true)
    (n_Pairs_bits : PySem.W.findIn K (.ref C_Pairs) "bits" = some none)
    (n_Pairs_counts : PySem.W.findIn K (.ref C_Pairs) "counts" = some none)
    (n_Pairs_length : PySem.W.findIn K (.ref C_Pairs) "length" = some none)
    (n_Pairs_kept_table : PySem.W.findIn K (.ref C_Pairs) "kept_table" = some none)
    (n_Pairs_often_least : PySem.W.findIn K (.ref C_Pairs) "often_least" = some none)
    (a_Opened : PySem.W.nsIn K mainGlobals "Opened" = some (some (.ref C_Opened)))
    (pg_Opened : PySem.W.plainGet K C_Opened Str.empty = true)
    (hd_Opened : PySem.W.hasDictIn K C_Opened = true)
    (po_Opened : PySem.W.plainOver K C_Opened = true)
    (sa_Opened : PySem.W.findIn K (.ref C_Opened) "__setattr__" = some (some (.builtin "object.__setattr__")))
    (mk_Opened : PySem.W.makesIn K C_Opened = true)
    (kc_Opened : PySem.W.keepIn K (.ref C_Opened) = true)
    (n_Opened_pairs : PySem.W.findIn K (.ref C_Opened) "pairs" = some none)
    (a_Heights : PySem.W.nsIn K mainGlobals "Heights" = some (some (.ref C_Heights)))
    (bg_Heights : PySem.W.specialIn K (.ref C_Heights) "__getattribute__" = some (some (.builtin "type.__getattribute__")))
    (br_Heights : PySem.W.readsIn K C_Heights (.type "type") = true)
    (a_Openings : PySem.W.nsIn K mainGlobals "Openings" = some (some (.ref C_Openings)))
    (bg_Openings : PySem.W.specialIn K (.ref C_Openings) "__getattribute__" = some (some (.builtin "type.__getattribute__")))
    (br_Openings : PySem.W.readsIn K C_Openings (.type "type") = true)
    (i0 : PySem.W.isFn K (.ref f0) = true)
    (a0 : PySem.W.findIn K (.ref C_NoRow) "__init__" = some (some (.ref f0))) (l0 : K.lookup f0 = some ⟨oc0, od0, .func (PySem.W.fnOf "__init__" "NoRow.__init__" (defArgs s_NoRow_init) (defBody s_NoRow_init) (defScope s_NoRow_init) .none kV0 dc0 pm0 an0 cd0 ct0), sl0⟩) (c0 : PySem.W.codeIn K cd0 "NoRow.__init__" = true) (k0 : PySem.W.keepIn K (.ref f0) = true)
    (i1 : PySem.W.isFn K (.ref f1) = true)
    (a1 : PySem.W.findIn K (.ref C_NoWood) "__init__" = some (some (.ref f1))) (l1 : K.lookup f1 = some ⟨oc1, od1, .func (PySem.W.fnOf "__init__" "NoWood.__init__" (defArgs s_NoWood_init) (defBody s_NoWood_init) (defScope s_NoWood_init) .none kV1 dc1 pm1 an1 cd1 ct1), sl1⟩) (c1 : PySem.W.codeIn K cd1 "NoWood.__init__" = true) (k1 : PySem.W.keepIn K (.ref f1) = true)
    (a2 : PySem.W.nsIn K mainGlobals "is_whole" = some (some (.ref f2))) (l2 : K.lookup f2 = some ⟨oc2, od2, .func (PySem.W.fnOf "is_whole" "is_whole" (defArgs s_is_whole) (defBody s_is_whole) (defScope s_is_whole) .none kV2 dc2 pm2 an2 cd2 ct2), sl2⟩) (c2 : PySem.W.codeIn K cd2 "is_whole" = true) (k2 : PySem.W.keepIn K (.ref f2) = true)
    (a3 : PySem.W.nsIn K mainGlobals "is_within" = some (some (.ref f3))) (l3 : K.lookup f3 = some ⟨oc3, od3, .func (PySem.W.fnOf "is_within" "is_within" (defArgs s_is_within) (defBody s_is_within) (defScope s_is_within) .none kV3 dc3 pm3 an3 cd3 ct3), sl3⟩) (c3 : PySem.W.codeIn K cd3 "is_within" = true) (k3 : PySem.W.keepIn K (.ref f3) = true)
    (a4 : PySem.W.nsIn K mainGlobals "check_bit" = some (some (.ref f4))) (l4 : K.lookup f4 = some ⟨oc4, od4, .func (PySem.W.fnOf "check_bit" "check_bit" (defArgs s_check_bit) (defBody s_check_bit) (defScope s_check_bit) .none kV4 dc4 pm4 an4 cd4 ct4), sl4⟩) (c4 : PySem.W.codeIn K cd4 "check_bit" = true) (k4 : PySem.W.keepIn K (.ref f4) = true)
    (a5 : PySem.W.nsIn K mainGlobals "check_place" = some (some (.ref f5))) (l5 : K.lookup f5 = some ⟨oc5, od5, .func (PySem.W.fnOf "check_place" "check_place" (defArgs s_check_place) (defBody s_check_place) (defScope s_check_place) .none kV5 dc5 pm5 an5 cd5 ct5), sl5⟩) (c5 : PySem.W.codeIn K cd5 "check_place" = true) (k5 : PySem.W.keepIn K (.ref f5) = true)
    (a6 : PySem.W.nsIn K mainGlobals "ones_in" = some (some (.ref f6))) (l6 : K.lookup f6 = some ⟨oc6, od6, .func (PySem.W.fnOf "ones_in" "ones_in" (defArgs s_ones_in) (defBody s_ones_in) (defScope s_ones_in) .none kV6 dc6 pm6 an6 cd6 ct6), sl6⟩) (c6 : PySem.W.codeIn K cd6 "ones_in" = true) (k6 : PySem.W.keepIn K (.ref f6) = true)
    (a7 : PySem.W.nsIn K mainGlobals "is_row" = some (some (.ref f7))) (l7 : K.lookup f7 = some ⟨oc7, od7, .func (PySem.W.fnOf "is_row" "is_row" (defArgs s_is_row) (defBody s_is_row) (defScope s_is_row) .none kV7 dc7 pm7 an7 cd7 ct7), sl7⟩) (c7 : PySem.W.codeIn K cd7 "is_row" = true) (k7 : PySem.W.keepIn K (.ref f7) = true)
    (a8 : PySem.W.nsIn K mainGlobals "word_of" = some (some (.ref f8))) (l8 : K.lookup f8 = some ⟨oc8, od8, .func (PySem.W.fnOf "word_of" "word_of" (defArgs s_word_of) (defBody s_word_of) (defScope s_word_of) .none kV8 dc8 pm8 an8 cd8 ct8), sl8⟩) (c8 : PySem.W.codeIn K cd8 "word_of" = true) (k8 : PySem.W.keepIn K (.ref f8) = true)
    (a9 : PySem.W.nsIn K mainGlobals "words_of" = some (some (.ref f9))) (l9 : K.lookup f9 = some ⟨oc9, od9, .func (PySem.W.fnOf "words_of" "words_of" (defArgs s_words_of) (defBody s_words_of) (defScope s_words_of) .none kV9 dc9 pm9 an9 cd9 ct9), sl9⟩) (c9 : PySem.W.codeIn K cd9 "words_of" = true) (k9 : PySem.W.keepIn K (.ref f9) = true)
    (i10 : PySem.W.isFn K (.ref f10) = true)
    (a10 : PySem.W.findIn K (.ref C_Bits) "__init__" = some (some (.ref f10))) (l10 : K.lookup f10 = some ⟨oc10, od10, .func (PySem.W.fnOf "__init__" "Bits.__init__" (defArgs s_Bits_init) (defBody s_Bits_init) (defScope s_Bits_init) .none kV10 dc10 pm10 an10 cd10 ct10), sl10⟩) (c10 : PySem.W.codeIn K cd10 "Bits.__init__" = true) (k10 : PySem.W.keepIn K (.ref f10) = true)
    (i11 : PySem.W.isFn K (.ref f11) = true)
    (a11 : PySem.W.findIn K (.ref C_Bits) "size" = some (some (.ref f11))) (l11 : K.lookup f11 = some ⟨oc11, od11, .func (PySem.W.fnOf "size" "Bits.size" (defArgs s_Bits_size) (defBody s_Bits_size) (defScope s_Bits_size) .none kV11 dc11 pm11 an11 cd11 ct11), sl11⟩) (c11 : PySem.W.codeIn K cd11 "Bits.size" = true) (k11 : PySem.W.keepIn K (.ref f11) = true)
    (i12 : PySem.W.isFn K (.ref f12) = true)
    (a12 : PySem.W.findIn K (.ref C_Bits) "words" = some (some (.ref f12))) (l12 : K.lookup f12 = some ⟨oc12, od12, .func (PySem.W.fnOf "words" "Bits.words" (defArgs s_Bits_words) (defBody s_Bits_words) (defScope s_Bits_words) .none kV12 dc12 pm12 an12 cd12 ct12), sl12⟩) (c12 : PySem.W.codeIn K cd12 "Bits.words" = true) (k12 : PySem.W.keepIn K (.ref f12) = true)
    (a13 : PySem.W.nsIn K mainGlobals "running_sums" = some (some (.ref f13))) (l13 : K.lookup f13 = some ⟨oc13, od13, .func (PySem.W.fnOf "running_sums" "running_sums" (defArgs s_running_sums) (defBody s_running_sums) (defScope s_running_sums) .none kV13 dc13 pm13 an13 cd13 ct13), sl13⟩) (c13 : PySem.W.codeIn K cd13 "running_sums" = true) (k13 : PySem.W.keepIn K (.ref f13) = true)
    (a14 : PySem.W.nsIn K mainGlobals "table_of_words" = some (some (.ref f14))) (l14 : K.lookup f14 = some ⟨oc14, od14, .func (PySem.W.fnOf "table_of_words" "table_of_words" (defArgs s_table_of_words) (defBody s_table_of_words) (defScope s_table_of_words) .none kV14 dc14 pm14 an14 cd14 ct14), sl14⟩) (c14 : PySem.W.codeIn K cd14 "table_of_words" = true) (k14 : PySem.W.keepIn K (.ref f14) = true)
    (i15 : PySem.W.isFn K (.ref f15) = true)
    (a15 : PySem.W.findIn K (.ref C_Counts) "__init__" = some (some (.ref f15))) (l15 : K.lookup f15 = some ⟨oc15, od15, .func (PySem.W.fnOf "__init__" "Counts.__init__" (defArgs s_Counts_init) (defBody s_Counts_init) (defScope s_Counts_init) .none kV15 dc15 pm15 an15 cd15 ct15), sl15⟩) (c15 : PySem.W.codeIn K cd15 "Counts.__init__" = true) (k15 : PySem.W.keepIn K (.ref f15) = true)
    (i16 : PySem.W.isFn K (.ref f16) = true)
    (a16 : PySem.W.findIn K (.ref C_Counts) "ones_ahead" = some (some (.ref f16))) (l16 : K.lookup f16 = some ⟨oc16, od16, .func (PySem.W.fnOf "ones_ahead" "Counts.ones_ahead" (defArgs s_Counts_ones_ahead) (defBody s_Counts_ones_ahead) (defScope s_Counts_ones_ahead) .none kV16 dc16 pm16 an16 cd16 ct16), sl16⟩) (c16 : PySem.W.codeIn K cd16 "Counts.ones_ahead" = true) (k16 : PySem.W.keepIn K (.ref f16) = true)
    (i17 : PySem.W.isFn K (.ref f17) = true)
    (a17 : PySem.W.findIn K (.ref C_Counts) "ahead" = some (some (.ref f17))) (l17 : K.lookup f17 = some ⟨oc17, od17, .func (PySem.W.fnOf "ahead" "Counts.ahead" (defArgs s_Counts_ahead) (defBody s_Counts_ahead) (defScope s_Counts_ahead) .none kV17 dc17 pm17 an17 cd17 ct17), sl17⟩) (c17 : PySem.W.codeIn K cd17 "Counts.ahead" = true) (k17 : PySem.W.keepIn K (.ref f17) = true)
    (a18 : PySem.W.nsIn K mainGlobals "heights_of" = some (some (.ref f18))) (l18 : K.lookup f18 = some ⟨oc18, od18, .func (PySem.W.fnOf "heights_of" "heights_of" (defArgs s_heights_of) (defBody s_heights_of) (defScope s_heights_of) .none kV18 dc18 pm18 an18 cd18 ct18), sl18⟩) (c18 : PySem.W.codeIn K cd18 "heights_of" = true) (k18 : PySem.W.keepIn K (.ref f18) = true)
    (a19 : PySem.W.nsIn K mainGlobals "check_row" = some (some (.ref f19))) (l19 : K.lookup f19 = some ⟨oc19, od19, .func (PySem.W.fnOf "check_row" "check_row" (defArgs s_check_row) (defBody s_check_row) (defScope s_check_row) .none kV19 dc19 pm19 an19 cd19 ct19), sl19⟩) (c19 : PySem.W.codeIn K cd19 "check_row" = true) (k19 : PySem.W.keepIn K (.ref f19) = true)
    (i20 : PySem.W.isFn K (.ref f20) = true)
    (a20 : PySem.W.findCls K (.ref C_Heights) (.type "type") "__init__" = some (.val (.ref f20))) (l20 : K.lookup f20 = some ⟨oc20, od20, .func (PySem.W.fnOf "__init__" "Heights.__init__" (defArgs s_Heights_init) (defBody s_Heights_init) (defScope s_Heights_init) .none kV20 dc20 pm20 an20 cd20 ct20), sl20⟩) (c20 : PySem.W.codeIn K cd20 "Heights.__init__" = true) (k20 : PySem.W.keepIn K (.ref f20) = true)
    (i21 : PySem.W.isFn K (.ref f21) = true)
    (a21 : PySem.W.findIn K (.ref C_Pairs) "opens_ahead" = some (some (.ref f21))) (l21 : K.lookup f21 = some ⟨oc21, od21, .func (PySem.W.fnOf "opens_ahead" "Pairs.opens_ahead" (defArgs s_Pairs_opens_ahead) (defBody s_Pairs_opens_ahead) (defScope s_Pairs_opens_ahead) .none kV21 dc21 pm21 an21 cd21 ct21), sl21⟩) (c21 : PySem.W.codeIn K cd21 "Pairs.opens_ahead" = true) (k21 : PySem.W.keepIn K (.ref f21) = true)
    (i22 : PySem.W.isFn K (.ref f22) = true)
    (a22 : PySem.W.findIn K (.ref C_Pairs) "height" = some (some (.ref f22))) (l22 : K.lookup f22 = some ⟨oc22, od22, .func (PySem.W.fnOf "height" "Heights.height" (defArgs s_Heights_height) (defBody s_Heights_height) (defScope s_Heights_height) .none kV22 dc22 pm22 an22 cd22 ct22), sl22⟩) (c22 : PySem.W.codeIn K cd22 "Heights.height" = true) (k22 : PySem.W.keepIn K (.ref f22) = true)
    (i23 : PySem.W.isFn K (.ref f23) = true)
    (a23 : PySem.W.findIn K (.ref C_Pairs) "size" = some (some (.ref f23))) (l23 : K.lookup f23 = some ⟨oc23, od23, .func (PySem.W.fnOf "size" "Heights.size" (defArgs s_Heights_size) (defBody s_Heights_size) (defScope s_Heights_size) .none kV23 dc23 pm23 an23 cd23 ct23), sl23⟩) (c23 : PySem.W.codeIn K cd23 "Heights.size" = true) (k23 : PySem.W.keepIn K (.ref f23) = true)
    (i24 : PySem.W.isFn K (.ref f24) = true)
    (a24 : PySem.W.findIn K (.ref C_Pairs) "__init__" = some (some (.ref f24))) (l24 : K.lookup f24 = some ⟨oc24, od24, .func (PySem.W.fnOf "__init__" "Pairs.__init__" (defArgs s_Pairs_init) (defBody s_Pairs_init) (defScope s_Pairs_init) .none kV24 dc24 pm24 an24 cd24 ct24), sl24⟩) (c24 : PySem.W.codeIn K cd24 "Pairs.__init__" = true) (k24 : PySem.W.keepIn K (.ref f24) = true)
    (a25 : PySem.W.nsIn K mainGlobals "look_at" = some (some (.ref f25))) (l25 : K.lookup f25 = some ⟨oc25, od25, .func (PySem.W.fnOf "look_at" "look_at" (defArgs s_look_at) (defBody s_look_at) (defScope s_look_at) .none kV25 dc25 pm25 an25 cd25 ct25), sl25⟩) (c25 : PySem.W.codeIn K cd25 "look_at" = true) (k25 : PySem.W.keepIn K (.ref f25) = true)
    (a26 : PySem.W.nsIn K mainGlobals "depths_of" = some (some (.ref f26))) (l26 : K.lookup f26 = some ⟨oc26, od26, .func (PySem.W.fnOf "depths_of" "depths_of" (defArgs s_depths_of) (defBody s_depths_of) (defScope s_depths_of) .none kV26 dc26 pm26 an26 cd26 ct26), sl26⟩) (c26 : PySem.W.codeIn K cd26 "depths_of" = true) (k26 : PySem.W.keepIn K (.ref f26) = true)
    (a27 : PySem.W.nsIn K mainGlobals "row_of" = some (some (.ref f27))) (l27 : K.lookup f27 = some ⟨oc27, od27, .func (PySem.W.fnOf "row_of" "row_of" (defArgs s_row_of) (defBody s_row_of) (defScope s_row_of) .none kV27 dc27 pm27 an27 cd27 ct27), sl27⟩) (c27 : PySem.W.codeIn K cd27 "row_of" = true) (k27 : PySem.W.keepIn K (.ref f27) = true)
    (i28 : PySem.W.isFn K (.ref f28) = true)
    (a28 : PySem.W.findCls K (.ref C_Openings) (.type "type") "__init__" = some (.val (.ref f28))) (l28 : K.lookup f28 = some ⟨oc28, od28, .func (PySem.W.fnOf "__init__" "Openings.__init__" (defArgs s_Openings_init) (defBody s_Openings_init) (defScope s_Openings_init) .none kV28 dc28 pm28 an28 cd28 ct28), sl28⟩) (c28 : PySem.W.codeIn K cd28 "Openings.__init__" = true) (k28 : PySem.W.keepIn K (.ref f28) = true)
    (i29 : PySem.W.isFn K (.ref f29) = true)
    (a29 : PySem.W.findIn K (.ref C_Opened) "__init__" = some (some (.ref f29))) (l29 : K.lookup f29 = some ⟨oc29, od29, .func (PySem.W.fnOf "__init__" "Opened.__init__" (defArgs s_Opened_init) (defBody s_Opened_init) (defScope s_Opened_init) .none kV29 dc29 pm29 an29 cd29 ct29), sl29⟩) (c29 : PySem.W.codeIn K cd29 "Opened.__init__" = true) (k29 : PySem.W.keepIn K (.ref f29) = true)
    (i30 : PySem.W.isFn K (.ref f30) = true)
    (a30 : PySem.W.findIn K (.ref C_Opened) "many_knots" = some (some (.ref f30))) (l30 : K.lookup f30 = some ⟨oc30, od30, .func (PySem.W.fnOf "many_knots" "Openings.many_knots" (defArgs s_Openings_many_knots) (defBody s_Openings_many_knots) (defScope s_Openings_many_knots) .none kV30 dc30 pm30 an30 cd30 ct30), sl30⟩) (c30 : PySem.W.codeIn K cd30 "Openings.many_knots" = true) (k30 : PySem.W.keepIn K (.ref f30) = true)
    (a31 : PySem.W.nsIn K mainGlobals "_law_cell_at" = some (some (.ref f31))) (l31 : K.lookup f31 = some ⟨oc31, od31, .func (PySem.W.fnOf "_law_cell_at" "_law_cell_at" (defArgs s_law_cell_at) (defBody s_law_cell_at) (defScope s_law_cell_at) .none kV31 dc31 pm31 an31 cd31 ct31), sl31⟩) (c31 : PySem.W.codeIn K cd31 "_law_cell_at" = true) (k31 : PySem.W.keepIn K (.ref f31) = true)
    (a32 : PySem.W.nsIn K mainGlobals "_law_mixed" = some (some (.ref f32))) (l32 : K.lookup f32 = some ⟨oc32, od32, .func (PySem.W.fnOf "_law_mixed" "_law_mixed" (defArgs s_law_mixed) (defBody s_law_mixed) (defScope s_law_mixed) .none kV32 dc32 pm32 an32 cd32 ct32), sl32⟩) (c32 : PySem.W.codeIn K cd32 "_law_mixed" = true) (k32 : PySem.W.keepIn K (.ref f32) = true)
    (a33 : PySem.W.nsIn K mainGlobals "_law_elders" = some (some (.ref f33))) (l33 : K.lookup f33 = some ⟨oc33, od33, .func (PySem.W.fnOf "_law_elders" "_law_elders" (defArgs s_law_elders) (defBody s_law_elders) (defScope s_law_elders) .none kV33 dc33 pm33 an33 cd33 ct33), sl33⟩) (c33 : PySem.W.codeIn K cd33 "_law_elders" = true) (k33 : PySem.W.keepIn K (.ref f33) = true)
    (a34 : PySem.W.nsIn K mainGlobals "_law_wood" = some (some (.ref f34))) (l34 : K.lookup f34 = some ⟨oc34, od34, .func (PySem.W.fnOf "_law_wood" "_law_wood" (defArgs s_law_wood) (defBody s_law_wood) (defScope s_law_wood) .none kV34 dc34 pm34 an34 cd34 ct34), sl34⟩) (c34 : PySem.W.codeIn K cd34 "_law_wood" = true) (k34 : PySem.W.keepIn K (.ref f34) = true)
    (a35 : PySem.W.nsIn K mainGlobals "_law_is" = some (some (.ref f35))) (l35 : K.lookup f35 = some ⟨oc35, od35, .func (PySem.W.fnOf "_law_is" "_law_is" (defArgs s_law_is) (defBody s_law_is) (defScope s_law_is) .none kV35 dc35 pm35 an35 cd35 ct35), sl35⟩) (c35 : PySem.W.codeIn K cd35 "_law_is" = true) (k35 : PySem.W.keepIn K (.ref f35) = true)
    (a36 : PySem.W.nsIn K mainGlobals "_law_kind" = some (some (.ref f36))) (l36 : K.lookup f36 = some ⟨oc36, od36, .func (PySem.W.fnOf "_law_kind" "_law_kind" (defArgs s_law_kind) (defBody s_law_kind) (defScope s_law_kind) .none kV36 dc36 pm36 an36 cd36 ct36), sl36⟩) (c36 : PySem.W.codeIn K cd36 "_law_kind" = true) (k36 : PySem.W.keepIn K (.ref f36) = true)
    (a37 : PySem.W.nsIn K mainGlobals "_law_due" = some (some (.ref f37))) (l37 : K.lookup f37 = some ⟨oc37, od37, .func (PySem.W.fnOf "_law_due" "_law_due" (defArgs s_law_due) (defBody s_law_due) (defScope s_law_due) .none kV37 dc37 pm37 an37 cd37 ct37), sl37⟩) (c37 : PySem.W.codeIn K cd37 "_law_due" = true) (k37 : PySem.W.keepIn K (.ref f37) = true)
    (a38 : PySem.W.nsIn K mainGlobals "_law_refused" = some (some (.ref f38))) (l38 : K.lookup f38 = some ⟨oc38, od38, .func (PySem.W.fnOf "_law_refused" "_law_refused" (defArgs s_law_refused) (defBody s_law_refused) (defScope s_law_refused) .none kV38 dc38 pm38 an38 cd38 ct38), sl38⟩) (c38 : PySem.W.codeIn K cd38 "_law_refused" = true) (k38 : PySem.W.keepIn K (.ref f38) = true)
    (a39 : PySem.W.nsIn K mainGlobals "_law_told" = some (some (.ref f39))) (l39 : K.lookup f39 = some ⟨oc39, od39, .func (PySem.W.fnOf "_law_told" "_law_told" (defArgs s_law_told) (defBody s_law_told) (defScope s_law_told) .none kV39 dc39 pm39 an39 cd39 ct39), sl39⟩) (c39 : PySem.W.codeIn K cd39 "_law_told" = true) (k39 : PySem.W.keepIn K (.ref f39) = true)
    (a40 : PySem.W.nsIn K mainGlobals "_law_spoiled" = some (some (.ref f40))) (l40 : K.lookup f40 = some ⟨oc40, od40, .func (PySem.W.fnOf "_law_spoiled" "_law_spoiled" (defArgs s_law_spoiled) (defBody s_law_spoiled) (defScope s_law_spoiled) .none kV40 dc40 pm40 an40 cd40 ct40), sl40⟩) (c40 : PySem.W.codeIn K cd40 "_law_spoiled" = true) (k40 : PySem.W.keepIn K (.ref f40) = true)
    (a41 : PySem.W.nsIn K mainGlobals "law" = some (some (.ref f41))) (l41 : K.lookup f41 = some ⟨oc41, od41, .func (PySem.W.fnOf "law" "law" (defArgs s_law) (defBody s_law) (defScope s_law) .none kV41 dc41 pm41 an41 cd41 ct41), sl41⟩) (c41 : PySem.W.codeIn K cd41 "law" = true) (k41 : PySem.W.keepIn K (.ref f41) = true)
    (g_ONES_OF_FOUR : PySem.W.nsIn K mainGlobals "ONES_OF_FOUR" = some (some (.ref a_ONES_OF_FOUR))) (o1_ONES_OF_FOUR : K.lookup a_ONES_OF_FOUR = some o_ONES_OF_FOUR) (o2_ONES_OF_FOUR : o_ONES_OF_FOUR.cls = .type "tuple") (o3_ONES_OF_FOUR : o_ONES_OF_FOUR.data = .seq i_ONES_OF_FOUR n_ONES_OF_FOUR) (o4_ONES_OF_FOUR : i_ONES_OF_FOUR.size ≤ sizeLine) (o5_ONES_OF_FOUR : Vals (fours.map fun n : Nat => V.int n) i_ONES_OF_FOUR.toList)
    (g_SIGNS_OF_FOUR : PySem.W.nsIn K mainGlobals "SIGNS_OF_FOUR" = some (some (.ref a_SIGNS_OF_FOUR))) (o1_SIGNS_OF_FOUR : K.lookup a_SIGNS_OF_FOUR = some o_SIGNS_OF_FOUR) (o2_SIGNS_OF_FOUR : o_SIGNS_OF_FOUR.cls = .type "tuple") (o3_SIGNS_OF_FOUR : o_SIGNS_OF_FOUR.data = .seq i_SIGNS_OF_FOUR n_SIGNS_OF_FOUR) (o4_SIGNS_OF_FOUR : i_SIGNS_OF_FOUR.size ≤ sizeLine) (o5_SIGNS_OF_FOUR : Vals (fourT) i_SIGNS_OF_FOUR.toList)
    (g_WORD_BITS : PySem.W.nsIn K mainGlobals "WORD_BITS" = some (some (.int 32 t_WORD_BITS)))
    (g_MOST_BITS : PySem.W.nsIn K mainGlobals "MOST_BITS" = some (some (.int 20000 t_MOST_BITS)))
    (g_BLOCK_WORDS : PySem.W.nsIn K mainGlobals "BLOCK_WORDS" = some (some (.int 8 t_BLOCK_WORDS)))
    (g_MOST_SIGNS_pairs : PySem.W.nsIn K mainGlobals "MOST_SIGNS_pairs" = some (some (.int 8192 t_MOST_SIGNS_pairs)))
    (g_STRETCH_BITS : PySem.W.nsIn K mainGlobals "STRETCH_BITS" = some (some (.int 256 t_STRETCH_BITS)))
    (g_MOST_KNOTS : PySem.W.nsIn K mainGlobals "MOST_KNOTS" = some (some (.int 4000 t_MOST_KNOTS)))
    (z_range : PySem.W.nsIn K mainGlobals "range" = some none)
    (z_len : PySem.W.nsIn K mainGlobals "len" = some none)
    (z_int : PySem.W.nsIn K mainGlobals "int" = some none)
    (z_bool : PySem.W.nsIn K mainGlobals "bool" = some none)
    (z_str : PySem.W.nsIn K mainGlobals "str" = some none)
    (z_isinstance : PySem.W.nsIn K mainGlobals "isinstance" = some none)
    (z_list : PySem.W.nsIn K mainGlobals "list" = some none)
    (z_tuple : PySem.W.nsIn K mainGlobals "tuple" = some none)
    (z_enumerate : PySem.W.nsIn K mainGlobals "enumerate" = some none)
    (z_zip : PySem.W.nsIn K mainGlobals "zip" = some none)
    (z_sum : PySem.W.nsIn K mainGlobals "sum" = some none)
    (z_abs : PySem.W.nsIn K mainGlobals "abs" = some none)
    (z_max : PySem.W.nsIn K mainGlobals "max" = some none)
    (z_min : PySem.W.nsIn K mainGlobals "min" = some none)
    (z_ValueError : PySem.W.nsIn K mainGlobals "ValueError" = some none)
    (eg_WoodError : PySem.W.nsIn K mainGlobals "WoodError" = some (some (.ref C_WoodError)))
    (eg_NoBits : PySem.W.nsIn K mainGlobals "NoBits" = some (some (.ref C_NoBits)))
    (eg_NoPlace : PySem.W.nsIn K mainGlobals "NoPlace" = some (some (.ref C_NoPlace)))
    (eg_NoRow : PySem.W.nsIn K mainGlobals "NoRow" = some (some (.ref C_NoRow)))
    (eg_NoWood : PySem.W.nsIn K mainGlobals "NoWood" = some (some (.ref C_NoWood)))
    (eg_NoKnot : PySem.W.nsIn K mainGlobals "NoKnot" = some (some (.ref C_NoKnot)))
    (ex_WoodError : PySem.W.excIn K C_WoodError veMro "ValueError.__new__" = true)
    (bg_WoodError : PySem.W.specialIn K (.ref C_WoodError) "__getattribute__" = some (some (.builtin "type.__getattribute__")))
    (br_WoodError : PySem.W.readsIn K C_WoodError (.type "type") = true)
    (bi_WoodError : PySem.W.findCls K (.ref C_WoodError) (.type "type") "__init__" = some (.val (.builtin "ValueError.__init__")))
    (ex_NoBits : PySem.W.excIn K C_NoBits veMro "ValueError.__new__" = true)
    (ga_NoBits : PySem.W.findIn K (.ref C_NoBits) "__getattribute__" = some (some (.builtin "BaseException.__getattribute__")))
    (gx_NoBits : PySem.W.findIn K (.ref C_NoBits) "__getattr__" = some none)
    (ca_NoBits : PySem.W.findIn K (.ref C_NoBits) "__class__" = some (some (.builtin "object.__class__")))
    (sp_NoBits : PySem.W.specialIn K (.builtin "object.__class__") "__get__" = some (some (.builtin "getset_descriptor.__get__")))
    (tk_NoBits : PySem.W.takesIn K (.builtin "object.__class__") = some true)
    (mo_NoBits : PySem.W.mroIn K C_NoBits (.type "object") = some true)
    (mb_NoBits : PySem.W.mroIn K C_NoBits (.type "BaseException") = some true)
    (em_NoBits : PySem.W.exmOne K (.ref C_NoBits) (.ref C_WoodError) = some true)
    (ex_NoPlace : PySem.W.excIn K C_NoPlace veMro "ValueError.__new__" = true)
    (ga_NoPlace : PySem.W.findIn K (.ref C_NoPlace) "__getattribute__" = some (some (.builtin "BaseException.__getattribute__")))
    (gx_NoPlace : PySem.W.findIn K (.ref C_NoPlace) "__getattr__" = some none)
    (ca_NoPlace : PySem.W.findIn K (.ref C_NoPlace) "__class__" = some (some (.builtin "object.__class__")))
    (sp_NoPlace : PySem.W.specialIn K (.builtin "object.__class__") "__get__" = some (some (.builtin "getset_descriptor.__get__")))
    (tk_NoPlace : PySem.W.takesIn K (.builtin "object.__class__") = some true)
    (mo_NoPlace : PySem.W.mroIn K C_NoPlace (.type "object") = some true)
    (mb_NoPlace : PySem.W.mroIn K C_NoPlace (.type "BaseException") = some true)
    (em_NoPlace : PySem.W.exmOne K (.ref C_NoPlace) (.ref C_WoodError) = some true)
    (sa_NoRow : PySem.W.findIn K (.ref C_NoRow) "__setattr__" = some (some (.builtin "object.__setattr__")))
    (pl_NoRow : PySem.W.findIn K (.ref C_NoRow) "place" = some none)
    (ga_NoRow : PySem.W.findIn K (.ref C_NoRow) "__getattribute__" = some (some (.builtin "BaseException.__getattribute__")))
    (gx_NoRow : PySem.W.findIn K (.ref C_NoRow) "__getattr__" = some none)
    (ca_NoRow : PySem.W.findIn K (.ref C_NoRow) "__class__" = some (some (.builtin "object.__class__")))
    (sp_NoRow : PySem.W.specialIn K (.builtin "object.__class__") "__get__" = some (some (.builtin "getset_descriptor.__get__")))
    (tk_NoRow : PySem.W.takesIn K (.builtin "object.__class__") = some true)
    (mo_NoRow : PySem.W.mroIn K C_NoRow (.type "object") = some true)
    (mb_NoRow : PySem.W.mroIn K C_NoRow (.type "BaseException") = some true)
    (em_NoRow : PySem.W.exmOne K (.ref C_NoRow) (.ref C_WoodError) = some true)
    (em2_NoRow : PySem.W.exmOne K (.ref C_NoRow) (.ref C_NoRow) = some true)
    (sa_NoWood : PySem.W.findIn K (.ref C_NoWood) "__setattr__" = some (some (.builtin "object.__setattr__")))
    (pl_NoWood : PySem.W.findIn K (.ref C_NoWood) "place" = some none)
    (ga_NoWood : PySem.W.findIn K (.ref C_NoWood) "__getattribute__" = some (some (.builtin "BaseException.__getattribute__")))
    (gx_NoWood : PySem.W.findIn K (.ref C_NoWood) "__getattr__" = some none)
    (ca_NoWood : PySem.W.findIn K (.ref C_NoWood) "__class__" = some (some (.builtin "object.__class__")))
    (sp_NoWood : PySem.W.specialIn K (.builtin "object.__class__") "__get__" = some (some (.builtin "getset_descriptor.__get__")))
    (tk_NoWood : PySem.W.takesIn K (.builtin "object.__class__") = some true)
    (mo_NoWood : PySem.W.mroIn K C_NoWood (.type "object") = some true)
    (mb_NoWood : PySem.W.mroIn K C_NoWood (.type "BaseException") = some true)
    (em_NoWood : PySem.W.exmOne K (.ref C_NoWood) (.ref C_WoodError) = some true)
    (em2_NoWood : PySem.W.exmOne K (.ref C_NoWood) (.ref C_NoWood) = some true)
    (kit_NoWood_ValueError : PySem.W.kitOne K (.ref C_NoWood) (.type "ValueError") = some true)
    (kit_NoWood_NoBits : PySem.W.kitOne K (.ref C_NoWood) (.ref C_NoBits) = some false)
    (kit_NoWood_NoPlace : PySem.W.kitOne K (.ref C_NoWood) (.ref C_NoPlace) = some false)
    (kit_NoWood_NoRow : PySem.W.kitOne K (.ref C_NoWood) (.ref C_NoRow) = some false)
    (kit_NoWood_NoWood : PySem.W.kitOne K (.ref C_NoWood) (.ref C_NoWood) = some true)
    (kit_NoWood_NoKnot : PySem.W.kitOne K (.ref C_NoWood) (.ref C_NoKnot) = some false)
    (ob_NoRow : K.lookup C_NoRow = some (excClassObj nm_NoRow qn_NoRow C_NoRow N_NoRow bs_NoRow (.ref C_WoodError :: veMro) true sn_NoRow sub_NoRow ab_NoRow col_NoRow dd_NoRow k0_NoRow k1_NoRow k2_NoRow k3_NoRow k5_NoRow "ValueError.__new__"))
    (ob_NoWood : K.lookup C_NoWood = some (excClassObj nm_NoWood qn_NoWood C_NoWood N_NoWood bs_NoWood (.ref C_WoodError :: veMro) true sn_NoWood sub_NoWood ab_NoWood col_NoWood dd_NoWood k0_NoWood k1_NoWood k2_NoWood k3_NoWood k5_NoWood "ValueError.__new__"))
    : ∃ fd : FuncData, (∀ (s : Shared) (v : Value), BindsTo s fd ⟨[v], []⟩ [("_law_script", v)]) ∧ ∀ base : Heap, K.In base → base.Ns mainGlobals mg → FnOk l.prog w K mg base CX0 13 fa fd ["_law_script"] (spLaw K) := by
  have e := hfa.symm.trans (PySem.W.mg_of X G a41)
  cases e
  have q_ONES_OF_FOUR : ∀ H, SqT K H a_ONES_OF_FOUR (fours.map fun n : Nat => V.int n) := fun H => .inr ⟨o_ONES_OF_FOUR, i_ONES_OF_FOUR, n_ONES_OF_FOUR, o1_ONES_OF_FOUR, o2_ONES_OF_FOUR, o3_ONES_OF_FOUR, o4_ONES_OF_FOUR, o5_ONES_OF_FOUR⟩
  have q_SIGNS_OF_FOUR : ∀ H, SqT K H a_SIGNS_OF_FOUR (fourT) := fun H => .inr ⟨o_SIGNS_OF_FOUR, i_SIGNS_OF_FOUR, n_SIGNS_OF_FOUR, o1_SIGNS_OF_FOUR, o2_SIGNS_OF_FOUR, o3_SIGNS_OF_FOUR, o4_SIGNS_OF_FOUR, o5_SIGNS_OF_FOUR⟩
  have O_NoRow : OwnX K C_WoodError C_NoRow f0 := ⟨ex_WoodError, ⟨_, _, _, _, _, _, _, _, _, _, _, _, _, _, ob_NoRow⟩, a0, beq_iff_eq.mp i0, sa_NoRow, pl_NoRow⟩
  have O_NoWood : OwnX K C_WoodError C_NoWood f1 := ⟨ex_WoodError, ⟨_, _, _, _, _, _, _, _, _, _, _, _, _, _, ob_NoWood⟩, a1, beq_iff_eq.mp i1, sa_NoWood, pl_NoWood⟩
  have T : Txt K mg a_ONES_OF_FOUR a_SIGNS_OF_FOUR C_WoodError C_NoBits C_NoPlace C_NoRow C_NoWood C_NoKnot := ⟨PySem.W.mg_of X G eg_WoodError, PySem.W.mg_of X G eg_NoBits, PySem.W.mg_of X G eg_NoPlace, PySem.W.mg_of X G eg_NoRow, PySem.W.mg_of X G eg_NoWood, PySem.W.mg_of X G eg_NoKnot, ex_WoodError, bg_WoodError, br_WoodError, bi_WoodError, ex_NoBits, ga_NoBits, gx_NoBits, ca_NoBits, sp_NoBits, tk_NoBits, mo_NoBits, mb_NoBits, em_NoBits, ex_NoPlace, ga_NoPlace, gx_NoPlace, ca_NoPlace, sp_NoPlace, tk_NoPlace, mo_NoPlace, mb_NoPlace, em_NoPlace, sa_NoRow, pl_NoRow, ga_NoRow, gx_NoRow, ca_NoRow, sp_NoRow, tk_NoRow, mo_NoRow, mb_NoRow, em_NoRow, em2_NoRow, sa_NoWood, pl_NoWood, ga_NoWood, gx_NoWood, ca_NoWood, sp_NoWood, tk_NoWood, mo_NoWood, mb_NoWood, em_NoWood, em2_NoWood, kit_NoWood_ValueError, kit_NoWood_NoBits, kit_NoWood_NoPlace, kit_NoWood_NoRow, kit_NoWood_NoWood, kit_NoWood_NoKnot, PySem.W.mg_of X G g_ONES_OF_FOUR, q_ONES_OF_FOUR, PySem.W.mg_of X G g_SIGNS_OF_FOUR, q_SIGNS_OF_FOUR, ⟨_, PySem.W.mg_of X G g_WORD_BITS⟩, ⟨_, PySem.W.mg_of X G g_MOST_BITS⟩, ⟨_, PySem.W.mg_of X G g_BLOCK_WORDS⟩, ⟨_, PySem.W.mg_of X G g_MOST_SIGNS_pairs⟩, ⟨_, PySem.W.mg_of X G g_STRETCH_BITS⟩, ⟨_, PySem.W.mg_of X G g_MOST_KNOTS⟩, PySem.W.mg_none_of X G z_range, PySem.W.mg_none_of X G z_len, PySem.W.mg_none_of X G z_int, PySem.W.mg_none_of X G z_bool, PySem.W.mg_none_of X G z_str, PySem.W.mg_none_of X G z_isinstance, PySem.W.mg_none_of X G z_list, PySem.W.mg_none_of X G z_tuple, PySem.W.mg_none_of X G z_enumerate, PySem.W.mg_none_of X G z_zip, PySem.W.mg_none_of X G z_sum, PySem.W.mg_none_of X G z_abs, PySem.W.mg_none_of X G z_max, PySem.W.mg_none_of X G z_min, PySem.W.mg_none_of X G z_ValueError, ⟨_, O_NoRow⟩, ⟨_, O_NoWood⟩⟩
  have Z_Bits : Z_Bits K C_Bits := ⟨⟨pg_Bits, hd_Bits, po_Bits, sa_Bits⟩, n_Bits_length, n_Bits_many_ones, n_Bits_kept_words⟩
  have Z_Counts : Z_Counts K C_Counts := ⟨⟨pg_Counts, hd_Counts, po_Counts, sa_Counts⟩, n_Counts_length, n_Counts_kept_words, n_Counts_kept_table⟩
  have Z_Pairs : Z_Pairs K C_Pairs := ⟨⟨pg_Pairs, hd_Pairs, po_Pairs, sa_Pairs⟩, n_Pairs_bits, n_Pairs_counts, n_Pairs_length, n_Pairs_kept_table, n_Pairs_often_least⟩
  have Z_Opened : Z_Opened K C_Opened := ⟨⟨pg_Opened, hd_Opened, po_Opened, sa_Opened⟩, n_Opened_pairs⟩
  have F0 := fun_mk (st := s_NoRow_init) l0 c0 k0
  have b0 := F0.binds (ps := ["self", "place"]) fun _ _ _ _ _ _ => us2 fun _ _ => rfl
  have F1 := fun_mk (st := s_NoWood_init) l1 c1 k1
  have b1 := F1.binds (ps := ["self", "place"]) fun _ _ _ _ _ _ => us2 fun _ _ => rfl
  have F2 := fun_mk (st := s_is_whole) l2 c2 k2
  have b2 := F2.binds (ps := ["thing"]) fun _ _ _ _ _ _ => us1 fun _ => rfl
  have F3 := fun_mk (st := s_is_within) l3 c3 k3
  have b3 := F3.binds (ps := ["thing", "low", "high"]) fun _ _ _ _ _ _ => us3 fun _ _ _ => rfl
  have F4 := fun_mk (st := s_check_bit) l4 c4 k4
  have b4 := F4.binds (ps := ["bit"]) fun _ _ _ _ _ _ => us1 fun _ => rfl
  have F5 := fun_mk (st := s_check_place) l5 c5 k5
  have b5 := F5.binds (ps := ["place", "greatest"]) fun _ _ _ _ _ _ => us2 fun _ _ => rfl
  have F6 := fun_mk (st := s_ones_in) l6 c6 k6
  have b6 := F6.binds (ps := ["word"]) fun _ _ _ _ _ _ => us1 fun _ => rfl
  have F7 := fun_mk (st := s_is_row) l7 c7 k7
  have b7 := F7.binds (ps := ["thing"]) fun _ _ _ _ _ _ => us1 fun _ => rfl
  have F8 := fun_mk (st := s_word_of) l8 c8 k8
  have b8 := F8.binds (ps := ["signs"]) fun _ _ _ _ _ _ => us1 fun _ => rfl
  have F9 := fun_mk (st := s_words_of) l9 c9 k9
  have b9 := F9.binds (ps := ["text"]) fun _ _ _ _ _ _ => us1 fun _ => rfl
  have F10 := fun_mk (st := s_Bits_init) l10 c10 k10
  have b10 := F10.binds (ps := ["self", "text"]) fun _ _ _ _ _ _ => us2 fun _ _ => rfl
  have F11 := fun_mk (st := s_Bits_size) l11 c11 k11
  have b11 := F11.binds (ps := ["self"]) fun _ _ _ _ _ _ => us1 fun _ => rfl
  have F12 := fun_mk (st := s_Bits_words) l12 c12 k12
  have b12 := F12.binds (ps := ["self"]) fun _ _ _ _ _ _ => us1 fun _ => rfl
  have F13 := fun_mk (st := s_running_sums) l13 c13 k13
  have b13 := F13.binds (ps := ["numbers"]) fun _ _ _ _ _ _ => us1 fun _ => rfl
  have F14 := fun_mk (st := s_table_of_words) l14 c14 k14
  have b14 := F14.binds (ps := ["words"]) fun _ _ _ _ _ _ => us1 fun _ => rfl
  have F15 := fun_mk (st := s_Counts_init) l15 c15 k15
  have b15 := F15.binds (ps := ["self", "bits"]) fun _ _ _ _ _ _ => us2 fun _ _ => rfl
  have F16 := fun_mk (st := s_Counts_ones_ahead) l16 c16 k16
  have b16 := F16.binds (ps := ["self", "place"]) fun _ _ _ _ _ _ => us2 fun _ _ => rfl
  have F17 := fun_mk (st := s_Counts_ahead) l17 c17 k17
  have b17 := F17.binds (ps := ["self", "bit", "place"]) fun _ _ _ _ _ _ => us3 fun _ _ _ => rfl
  have F18 := fun_mk (st := s_heights_of) l18 c18 k18
  have b18 := F18.binds (ps := ["text", "begin"]) fun _ _ _ _ _ _ => us2 fun _ _ => rfl
  have F19 := fun_mk (st := s_check_row) l19 c19 k19
  have b19 := F19.binds (ps := ["text"]) fun _ _ _ _ _ _ => us1 fun _ => rfl
  have F20 := fun_mk (st := s_Heights_init) l20 c20 k20
  have b20 := F20.binds (ps := ["self", "length", "table", "often_least"]) fun _ _ _ _ _ _ => us4 fun _ _ _ _ => rfl
  have F21 := fun_mk (st := s_Pairs_opens_ahead) l21 c21 k21
  have b21 := F21.binds (ps := ["self", "place"]) fun _ _ _ _ _ _ => us2 fun _ _ => rfl
  have F22 := fun_mk (st := s_Heights_height) l22 c22 k22
  have b22 := F22.binds (ps := ["self", "place"]) fun _ _ _ _ _ _ => us2 fun _ _ => rfl
  have F23 := fun_mk (st := s_Heights_size) l23 c23 k23
  have b23 := F23.binds (ps := ["self"]) fun _ _ _ _ _ _ => us1 fun _ => rfl
  have F24 := fun_mk (st := s_Pairs_init) l24 c24 k24
  have b24 := F24.binds (ps := ["self", "text"]) fun _ _ _ _ _ _ => us2 fun _ _ => rfl
  have F25 := fun_mk (st := s_look_at) l25 c25 k25
  have b25 := F25.binds (ps := ["elders"]) fun _ _ _ _ _ _ => us1 fun _ => rfl
  have F26 := fun_mk (st := s_depths_of) l26 c26 k26
  have b26 := F26.binds (ps := ["elders"]) fun _ _ _ _ _ _ => us1 fun _ => rfl
  have F27 := fun_mk (st := s_row_of) l27 c27 k27
  have b27 := F27.binds (ps := ["elders"]) fun _ _ _ _ _ _ => us1 fun _ => rfl
  have F28 := fun_mk (st := s_Openings_init) l28 c28 k28
  have b28 := F28.binds (ps := ["self", "pairs"]) fun _ _ _ _ _ _ => us2 fun _ _ => rfl
  have F29 := fun_mk (st := s_Opened_init) l29 c29 k29
  have b29 := F29.binds (ps := ["self", "elders"]) fun _ _ _ _ _ _ => us2 fun _ _ => rfl
  have F30 := fun_mk (st := s_Openings_many_knots) l30 c30 k30
  have b30 := F30.binds (ps := ["self"]) fun _ _ _ _ _ _ => us1 fun _ => rfl
  have F31 := fun_mk (st := s_law_cell_at) l31 c31 k31
  have b31 := F31.binds (ps := ["_law_script", "_law_k"]) fun _ _ _ _ _ _ => us2 fun _ _ => rfl
  have F32 := fun_mk (st := s_law_mixed) l32 c32 k32
  have b32 := F32.binds (ps := ["_law_cell", "_law_k"]) fun _ _ _ _ _ _ => us2 fun _ _ => rfl
  have F33 := fun_mk (st := s_law_elders) l33 c33 k33
  have b33 := F33.binds (ps := ["_law_cell", "_law_many"]) fun _ _ _ _ _ _ => us2 fun _ _ => rfl
  have F34 := fun_mk (st := s_law_wood) l34 c34 k34
  have b34 := F34.binds (ps := ["_law_script", "_law_at"]) fun _ _ _ _ _ _ => us2 fun _ _ => rfl
  have F35 := fun_mk (st := s_law_is) l35 c35 k35
  have b35 := F35.binds (ps := ["_law_found", "_law_due_here"]) fun _ _ _ _ _ _ => us2 fun _ _ => rfl
  have F36 := fun_mk (st := s_law_kind) l36 c36 k36
  have b36 := F36.binds (ps := ["_law_e"]) fun _ _ _ _ _ _ => us1 fun _ => rfl
  have F37 := fun_mk (st := s_law_due) l37 c37 k37
  have b37 := F37.binds (ps := ["_law_elders_here"]) fun _ _ _ _ _ _ => us1 fun _ => rfl
  have F38 := fun_mk (st := s_law_refused) l38 c38 k38
  have b38 := F38.binds (ps := ["_law_elders_here", "_law_due_here", "_law_way"]) fun _ _ _ _ _ _ => us3 fun _ _ _ => rfl
  have F39 := fun_mk (st := s_law_told) l39 c39 k39
  have b39 := F39.binds (ps := ["_law_elders_here"]) fun _ _ _ _ _ _ => us1 fun _ => rfl
  have F40 := fun_mk (st := s_law_spoiled) l40 c40 k40
  have b40 := F40.binds (ps := ["_law_elders_here", "_law_number"]) fun _ _ _ _ _ _ => us2 fun _ _ => rfl
  have F41 := fun_mk (st := s_law) l41 c41 k41
  refine ⟨PySem.W.fnOf "law" "law" (defArgs s_law) (defBody s_law) (defScope s_law) .none kV41 dc41 pm41 an41 cd41 ct41, fun s v => .of_eq rfl, fun base _ _ => ?_⟩
  have V0 : ExcI l.prog w K mg base "NoRow" C_WoodError C_NoRow 1 ["self", "place"] := ⟨⟨f0, _, ok_NoRow_init F0 T, b0, O_NoRow⟩, T.g_NoRow, T.k_NoRow⟩
  have V1 : ExcI l.prog w K mg base "NoWood" C_WoodError C_NoWood 1 ["self", "place"] := ⟨⟨f1, _, ok_NoWood_init F1 T, b1, O_NoWood⟩, T.g_NoWood, T.k_NoWood⟩
  have V2 : Cal l.prog w K mg base "is_whole" 1 ["thing"] (spWhole0 K) := ⟨⟨f2, _, ok_is_whole F2 T, b2, PySem.W.mg_of X G a2, k2⟩⟩
  have V3 : Cal l.prog w K mg base "is_within" 2 ["thing", "low", "high"] (spWithin K) := ⟨⟨f3, _, ok_is_within F3 T V2, b3, PySem.W.mg_of X G a3, k3⟩⟩
  have V4 : CalE l.prog w K mg base "check_bit" 3 ["bit"] (spCheckBit K C_NoBits) := ⟨⟨f4, _, ok_check_bit F4 T V3, b4, PySem.W.mg_of X G a4, k4⟩⟩
  have V5 : CalE l.prog w K mg base "check_place" 3 ["place", "greatest"] (spCheckPlace K C_NoPlace) := ⟨⟨f5, _, ok_check_place F5 T V3, b5, PySem.W.mg_of X G a5, k5⟩⟩
  have V6 : Cal l.prog w K mg base "ones_in" 1 ["word"] spOnes := ⟨⟨f6, _, ok_ones_in F6 T, b6, PySem.W.mg_of X G a6, k6⟩⟩
  have V7 : Cal l.prog w K mg base "is_row" 1 ["thing"] spIsRow := ⟨⟨f7, _, ok_is_row F7 T, b7, PySem.W.mg_of X G a7, k7⟩⟩
  have V8 : Cal l.prog w K mg base "word_of" 1 ["signs"] spWord := ⟨⟨f8, _, ok_word_of F8 T, b8, PySem.W.mg_of X G a8, k8⟩⟩
  have V9 : Cal l.prog w K mg base "words_of" 2 ["text"] (spWords K) := ⟨⟨f9, _, ok_words_of F9 T V8, b9, PySem.W.mg_of X G a9, k9⟩⟩
  have V10 : Mkr l.prog w K mg base "Bits" C_Bits 3 ["self", "text"] (spBitsInit K C_Bits) := ⟨⟨f10, _, ok_Bits_init F10 T Z_Bits V7 V9, b10, ⟨mk_Bits, a10, i10, kc_Bits⟩, PySem.W.mg_of X G a_Bits⟩⟩
  have V11 : Mth l.prog w K mg base C_Bits "size" 1 ["self"] (spBitsSize K C_Bits) := ⟨⟨f11, _, ok_Bits_size F11 T Z_Bits, b11, ⟨a11, i11, k11⟩⟩, Z_Bits.cl⟩
  have V12 : Mth l.prog w K mg base C_Bits "words" 1 ["self"] (spBitsWords K C_Bits) := ⟨⟨f12, _, ok_Bits_words F12 T Z_Bits, b12, ⟨a12, i12, k12⟩⟩, Z_Bits.cl⟩
  have V13 : Cal l.prog w K mg base "running_sums" 1 ["numbers"] spRun := ⟨⟨f13, _, ok_running_sums F13 T, b13, PySem.W.mg_of X G a13, k13⟩⟩
  have V14 : Cal l.prog w K mg base "table_of_words" 2 ["words"] (spTable K) := ⟨⟨f14, _, ok_table_of_words F14 T V6 V13, b14, PySem.W.mg_of X G a14, k14⟩⟩
  have V15 : Mkr l.prog w K mg base "Counts" C_Counts 3 ["self", "bits"] (spCountsInit K C_Bits C_Counts) := ⟨⟨f15, _, ok_Counts_init F15 T Z_Counts V11 V12 V14, b15, ⟨mk_Counts, a15, i15, kc_Counts⟩, PySem.W.mg_of X G a_Counts⟩⟩
  have V16 : Mth l.prog w K mg base C_Counts "ones_ahead" 2 ["self", "place"] (spOnesAhead K C_Counts) := ⟨⟨f16, _, ok_Counts_ones_ahead F16 T Z_Counts V6, b16, ⟨a16, i16, k16⟩⟩, Z_Counts.cl⟩
  have V17 : MthE l.prog w K mg base C_Counts "ahead" 4 ["self", "bit", "place"] (spAhead K C_Counts C_NoBits C_NoPlace) := ⟨⟨f17, _, ok_Counts_ahead F17 T Z_Counts V4 V5 V16, b17, ⟨a17, i17, k17⟩⟩, Z_Counts.cl⟩
  have V18 : Cal l.prog w K mg base "heights_of" 1 ["text", "begin"] spHeightsB := ⟨⟨f18, _, ok_heights_of F18 T, b18, PySem.W.mg_of X G a18, k18⟩⟩
  have V19 : CalE l.prog w K mg base "check_row" 3 ["text"] (spCheck8 K C_NoRow) := ⟨⟨f19, _, ok_check_row F19 T V0, b19, PySem.W.mg_of X G a19, k19⟩⟩
  have V20 : CalC l.prog w K mg base "Heights" "__init__" 1 ["self", "length", "table", "often_least"] (spHInit K C_Pairs) := ⟨⟨C_Heights, f20, _, ok_Heights_init F20 T Z_Pairs, b20, PySem.W.mg_of X G a_Heights, bg_Heights, br_Heights, a20, k20⟩⟩
  have V21 : Mth l.prog w K mg base C_Pairs "opens_ahead" 5 ["self", "place"] (spOpens K C_Counts C_Pairs) := ⟨⟨f21, _, ok_Pairs_opens_ahead F21 T Z_Pairs V17, b21, ⟨a21, i21, k21⟩⟩, Z_Pairs.cl⟩
  have V22 : Mth l.prog w K mg base C_Pairs "height" 6 ["self", "place"] (spHeight K C_Counts C_Pairs) := ⟨⟨f22, _, ok_Heights_height F22 T Z_Pairs V21, b22, ⟨a22, i22, k22⟩⟩, Z_Pairs.cl⟩
  have V23 : Mth l.prog w K mg base C_Pairs "size" 1 ["self"] (spPSize K C_Bits C_Counts C_Pairs) := ⟨⟨f23, _, ok_Heights_size F23 T Z_Pairs, b23, ⟨a23, i23, k23⟩⟩, Z_Pairs.cl⟩
  have V24 : MkrE l.prog w K mg base "Pairs" C_Pairs 7 ["self", "text"] (spPInit K C_Bits C_Counts C_Pairs C_NoRow) := ⟨⟨f24, _, ok_Pairs_init F24 T Z_Pairs V19 V10 V15 V22 V18 V20, b24, ⟨mk_Pairs, a24, i24, kc_Pairs⟩, PySem.W.mg_of X G a_Pairs⟩⟩
  have V25 : CalE l.prog w K mg base "look_at" 3 ["elders"] (spLookA K C_NoWood) := ⟨⟨f25, _, ok_look_at F25 T V1 V2, b25, PySem.W.mg_of X G a25, k25⟩⟩
  have V26 : Cal l.prog w K mg base "depths_of" 1 ["elders"] spDepths := ⟨⟨f26, _, ok_depths_of F26 T, b26, PySem.W.mg_of X G a26, k26⟩⟩
  have V27 : CalE l.prog w K mg base "row_of" 4 ["elders"] (spRowG K C_NoWood) := ⟨⟨f27, _, ok_row_of F27 T V26 V25, b27, PySem.W.mg_of X G a27, k27⟩⟩
  have V28 : CalC l.prog w K mg base "Openings" "__init__" 1 ["self", "pairs"] (spOInit K C_Opened) := ⟨⟨C_Openings, f28, _, ok_Openings_init F28 T Z_Opened, b28, PySem.W.mg_of X G a_Openings, bg_Openings, br_Openings, a28, k28⟩⟩
  have V29 : MkrE l.prog w K mg base "Opened" C_Opened 9 ["self", "elders"] (spOpInit K C_Bits C_Counts C_Pairs C_Opened C_NoWood) := ⟨⟨f29, _, ok_Opened_init F29 T Z_Opened V27 V24 V28, b29, ⟨mk_Opened, a29, i29, kc_Opened⟩, PySem.W.mg_of X G a_Opened⟩⟩
  have V30 : Mth l.prog w K mg base C_Opened "many_knots" 2 ["self"] (spOKnots K C_Bits C_Counts C_Pairs C_Opened) := ⟨⟨f30, _, ok_Openings_many_knots F30 T Z_Opened V23, b30, ⟨a30, i30, k30⟩⟩, Z_Opened.cl⟩
  have V31 : Cal l.prog w K mg base "_law_cell_at" 1 ["_law_script", "_law_k"] (spCell K) := ⟨⟨f31, _, ok_law_cell_at F31 T, b31, PySem.W.mg_of X G a31, k31⟩⟩
  have V32 : Cal l.prog w K mg base "_law_mixed" 1 ["_law_cell", "_law_k"] spMixed := ⟨⟨f32, _, ok_law_mixed F32 T, b32, PySem.W.mg_of X G a32, k32⟩⟩
  have V33 : Cal l.prog w K mg base "_law_elders" 2 ["_law_cell", "_law_many"] spElders := ⟨⟨f33, _, ok_law_elders F33 T V32, b33, PySem.W.mg_of X G a33, k33⟩⟩
  have V34 : Cal l.prog w K mg base "_law_wood" 3 ["_law_script", "_law_at"] (spWoodK K) := ⟨⟨f34, _, ok_law_wood F34 T V32 V31 V33, b34, PySem.W.mg_of X G a34, k34⟩⟩
  have V35 : Cal l.prog w K mg base "_law_is" 1 ["_law_found", "_law_due_here"] spIs := ⟨⟨f35, _, ok_law_is F35 T, b35, PySem.W.mg_of X G a35, k35⟩⟩
  have V36 : Cal l.prog w K mg base "_law_kind" 1 ["_law_e"] (spKind K C_NoWood) := ⟨⟨f36, _, ok_law_kind F36 T, b36, PySem.W.mg_of X G a36, k36⟩⟩
  have V37 : Cal l.prog w K mg base "_law_due" 1 ["_law_elders_here"] (spDue31 K) := ⟨⟨f37, _, ok_law_due F37 T, b37, PySem.W.mg_of X G a37, k37⟩⟩
  have V38 : Cal l.prog w K mg base "_law_refused" 11 ["_law_elders_here", "_law_due_here", "_law_way"] (spRefused31 K) := ⟨⟨f38, _, ok_law_refused F38 T V25 V29 V36 V35, b38, PySem.W.mg_of X G a38, k38⟩⟩
  have V39 : Cal l.prog w K mg base "_law_told" 12 ["_law_elders_here"] (spTold31 K) := ⟨⟨f39, _, ok_law_told F39 T Z_Opened V37 V38 V25 V29 V30, b39, PySem.W.mg_of X G a39, k39⟩⟩
  have V40 : Cal l.prog w K mg base "_law_spoiled" 1 ["_law_elders_here", "_law_number"] (spSpoil31 K) := ⟨⟨f40, _, ok_law_spoiled F40 T, b40, PySem.W.mg_of X G a40, k40⟩⟩
  exact ok_law F41 T V39 V34 V40 V32 V38 V25
theorem walk {l : PySem.W.OpenLaw} {q : Program} {loose : List Str} {XP : (Str → Option Value) → Heap → Prop} {YP : World → Heap → Prop} {d : DefRec} {K : Params → PySem.W.Frag} (hn : l.most = some 63) (hdf : d.params.defaults = [])
    (hY : ∀ (w : World) (h : Heap), YP w h → (K w.params).In h)
    (F : ∀ (w : World) (mg : Str → Option Value) (fa : Addr) (h : Heap), (K w.params).In h → h.Ns mainGlobals mg → mg d.name = some (.ref fa) →
      ∃ fd : FuncData, (∀ (s : Shared) (u : Value), BindsTo s fd ⟨[u], []⟩ [("_law_script", u)]) ∧ ∀ base : Heap, (K w.params).In base → base.Ns mainGlobals mg → FnOk l.prog w (K w.params) mg base CX0 13 fa fd ["_law_script"] (spLaw (K w.params))) :
    PySem.W.WalkO q loose XP YP l.row.toRowW d [] (fun f vs => PySem.call f vs) :=
  L2.walk_of (n := 63) (k := 13) (x := "_law_script") (CX := fun _ => CX0) (sp := fun w => spLaw (K w.params)) hn (by decide) hdf ⟨rfl, by decide, by decide⟩ hY F (fun _ _ a ns hl _ hS => ⟨a, ns, rfl, hS, hl, fun _ => rfl⟩) fun _ _ _ _ _ z => z
end TK
noncomputable def PySem.W.Fast.tw6877827768961919938 : PySem.Program := PySem.Challenge.pw_tightwood_k31_woods_or_none
theorem PySem.W.Fast.te6877827768961919938 : PySem.Challenge.pw_tightwood_k31_woods_or_none = PySem.W.Fast.tw6877827768961919938 := rfl
def HD.loose : List PySem.Str := [PySem.Str.ofString "_wall", PySem.Str.ofString "WoodError", PySem.Str.ofString "NoBits", PySem.Str.ofString "NoPlace", PySem.Str.ofString "NoRow", PySem.Str.ofString "NoWood", PySem.Str.ofString "NoKnot", PySem.Str.ofString "is_whole", PySem.Str.ofString "is_within", PySem.Str.ofString "check_bit", PySem.Str.ofString "check_place", PySem.Str.ofString "check_stretch", PySem.Str.ofString "check_from_nought", PySem.Str.ofString "check_knot", PySem.Str.ofString "WORD_BITS", PySem.Str.ofString "FULL_WORD", PySem.Str.ofString "ONES_OF_FOUR", PySem.Str.ofString "ones_in", PySem.Str.ofString "nth_of_four", PySem.Str.ofString "nth_one", PySem.Str.ofString "MOST_BITS", PySem.Str.ofString "SIGNS_OF_FOUR", PySem.Str.ofString "is_row", PySem.Str.ofString "word_of", PySem.Str.ofString "words_of", PySem.Str.ofString "signs_of", PySem.Str.ofString "Bits", PySem.Str.ofString "BLOCK_WORDS", PySem.Str.ofString "BLOCK_BITS", PySem.Str.ofString "first_that", PySem.Str.ofString "running_sums", PySem.Str.ofString "table_of_words", PySem.Str.ofString "Counts", PySem.Str.ofString "heights_of", PySem.Str.ofString "check_height", PySem.Str.ofString "Heights", PySem.Str.ofString "MOST_SIGNS_pairs", PySem.Str.ofString "STRETCH_BITS", PySem.Str.ofString "check_row", PySem.Str.ofString "Pairs", PySem.Str.ofString "MOST_KNOTS", PySem.Str.ofString "MOST_SIGNS_woods", PySem.Str.ofString "look_at", PySem.Str.ofString "row_of", PySem.Str.ofString "elders_of", PySem.Str.ofString "depths_of", PySem.Str.ofString "Wood", PySem.Str.ofString "Openings", PySem.Str.ofString "Opened", PySem.Str.ofString "_law_cell_at", PySem.Str.ofString "_law_mixed", PySem.Str.ofString "_law_elders", PySem.Str.ofString "_law_wood", PySem.Str.ofString "_law_is", PySem.Str.ofString "_law_kind", PySem.Str.ofString "_law_due", PySem.Str.ofString "_law_refused", PySem.Str.ofString "_law_told", PySem.Str.ofString "_law_spoiled"]
def HD.LD : PySem.DefRec := HD.recOf (PySem.Challenge.pw_tightwood_k31_woods_or_none.main.body.getD 70 (.Pass ⟨0, 0, 0, 0⟩))
def HD.VQ : PySem.Program := PySem.W.view PySem.Challenge.pw_tightwood_k31_woods_or_none [70]
theorem HD.A_ok (w : PySem.World) : (fun os => HD.oneA (HD.bootT w os) (PySem.W.boot_heap w.params) HD.bootSize PySem.Challenge.pw_tightwood_k31_woods_or_none 100000 w) = (fun _ => some true) := by rw [HD.oneA_eq]; kernel_rfl
theorem HD.B_ok (w : PySem.World) : (fun os => HD.oneB (HD.bootT w os) HD.bootSize PySem.Challenge.pw_tightwood_k31_woods_or_none HD.VQ HD.loose 100000 w) = (fun _ => some (PySem.W.openGood HD.VQ HD.loose)) := by rw [HD.oneB_eq]; kernel_rfl
local macro_rules | `(tactic| o_head $H) => `(tactic| (refine PySem.W.holds_open (q := HD.VQ) (loose := HD.loose) (d := HD.LD) (kwd := []) (Xt := fun _ => true) (XP := fun _ _ => True) (Yf := PySem.W.Hook.obs $H) (Ya := PySem.W.Hook.val $H) (YP := PySem.W.Hook.says $H) (N := 100000) (HD.left_of3 (p := PySem.Challenge.pw_tightwood_k31_woods_or_none) (q := HD.VQ) (loose := HD.loose) (Yf := PySem.W.Hook.obs $H) (Ya := PySem.W.Hook.val $H) (N := 100000) (M := 100000) (by kernel_rfl) (fun _ => by kernel_rfl) (by kernel_rfl) (by kernel_rfl) HD.A_ok HD.B_ok (HD.hC_km (fun w => by rw [HD.oneP_eq]; kernel_rfl))) (PySem.W.Hook.of $H) (PySem.W.Hook.keeps $H) (fun _ _ => trivial) (fun _ _ _ _ _ => trivial) (by kernel_rfl) (by kernel_rfl) (by kernel_rfl) (fun _ _ => PySem.W.recFacts_nil rfl) rfl (by assumption) (by decide +kernel) ⟨rfl, rfl, rfl, rfl, rfl, by decide +kernel⟩ ?_ ?_))
open PySem PySem.W PyProof.Rows
set_option maxRecDepth 100000 in
set_option maxHeartbeats 0 in
theorem PySem.Challenge.cw_tightwood_k31_woods_or_none_holds : PySem.Challenge.rw_tightwood_k31_woods_or_none.Holds := by
  w_on; o_law; k_head
  · w_witness2
  k_fill
  refine TK.walk (l := PySem.Challenge.rw_tightwood_k31_woods_or_none) rfl (by kernel_rfl) (fun w h Y => PySem.W.km_in_of Y) ?F
  case F =>
    intro w mg fa h KX G hmg
    refine' TK.all_mk KX G hmg ?a_Bits ?pg_Bits ?hd_Bits ?po_Bits ?sa_Bits ?mk_Bits ?kc_Bits ?n_Bits_length ?n_Bits_many_ones ?n_Bits_kept_words ?a_Counts ?pg_Counts ?hd_Counts ?po_Counts ?sa_Counts ?mk_Counts ?kc_Counts ?n_Counts_length ?n_Counts_kept_words ?n_Counts_kept_table ?a_Pairs ?pg_Pairs ?hd_Pairs ?po_Pairs ?sa_Pairs ?mk_Pairs ?kc_Pairs ?n_Pairs_bits ?n_Pairs_counts ?n_Pairs_length ?n_Pairs_kept_table ?n_Pairs_often_least ?a_Opened ?pg_Opened ?hd_Opened ?po_Opened ?sa_Opened ?mk_Opened ?kc_Opened ?n_Opened_pairs ?a_Heights ?bg_Heights ?br_Heights ?a_Openings ?bg_Openings ?br_Openings ?i0 ?a0 ?l0 ?c0 ?k0 ?i1 ?a1 ?l1 ?c1 ?k1 ?a2 ?l2 ?c2 ?k2 ?a3 ?l3 ?c3 ?k3 ?a4 ?l4 ?c4 ?k4 ?a5 ?l5 ?c5 ?k5 ?a6 ?l6 ?c6 ?k6 ?a7 ?l7 ?c7 ?k7 ?a8 ?l8 ?c8 ?k8 ?a9 ?l9 ?c9 ?k9 ?i10 ?a10 ?l10 ?c10 ?k10 ?i11 ?a11 ?l11 ?c11 ?k11 ?i12 ?a12 ?l12 ?c12 ?k12 ?a13 ?l13 ?c13 ?k13 ?a14 ?l14 ?c14 ?k14 ?i15 ?a15 ?l15 ?c15 ?k15 ?i16 ?a16 ?l16 ?c16 ?k16 ?i17 ?a17 ?l17 ?c17 ?k17 ?a18 ?l18 ?c18 ?k18 ?a19 ?l19 ?c19 ?k19 ?i20 ?a20 ?l20 ?c20 ?k20 ?i21 ?a21 ?l21 ?c21 ?k21 ?i22 ?a22 ?l22 ?c22 ?k22 ?i23 ?a23 ?l23 ?c23 ?k23 ?i24 ?a24 ?l24 ?c24 ?k24 ?a25 ?l25 ?c25 ?k25 ?a26 ?l26 ?c26 ?k26 ?a27 ?l27 ?c27 ?k27 ?i28 ?a28 ?l28 ?c28 ?k28 ?i29 ?a29 ?l29 ?c29 ?k29 ?i30 ?a30 ?l30 ?c30 ?k30 ?a31 ?l31 ?c31 ?k31 ?a32 ?l32 ?c32 ?k32 ?a33 ?l33 ?c33 ?k33 ?a34 ?l34 ?c34 ?k34 ?a35 ?l35 ?c35 ?k35 ?a36 ?l36 ?c36 ?k36 ?a37 ?l37 ?c37 ?k37 ?a38 ?l38 ?c38 ?k38 ?a39 ?l39 ?c39 ?k39 ?a40 ?l40 ?c40 ?k40 ?a41 ?l41 ?c41 ?k41 ?g_ONES_OF_FOUR ?o1_ONES_OF_FOUR ?o2_ONES_OF_FOUR ?o3_ONES_OF_FOUR ?o4_ONES_OF_FOUR ?o5_ONES_OF_FOUR ?g_SIGNS_OF_FOUR ?o1_SIGNS_OF_FOUR ?o2_SIGNS_OF_FOUR ?o3_SIGNS_OF_FOUR ?o4_SIGNS_OF_FOUR ?o5_SIGNS_OF_FOUR ?g_WORD_BITS ?g_MOST_BITS ?g_BLOCK_WORDS ?g_MOST_SIGNS_pairs ?g_STRETCH_BITS ?g_MOST_KNOTS ?z_range ?z_len ?z_int ?z_bool ?z_str ?z_isinstance ?z_list ?z_tuple ?z_enumerate ?z_zip ?z_sum ?z_abs ?z_max ?z_min ?z_ValueError ?eg_WoodError ?eg_NoBits ?eg_NoPlace ?eg_NoRow ?eg_NoWood ?eg_NoKnot ?ex_WoodError ?bg_WoodError ?br_WoodError ?bi_WoodError ?ex_NoBits ?ga_NoBits ?gx_NoBits ?ca_NoBits ?sp_NoBits ?tk_NoBits ?mo_NoBits ?mb_NoBits ?em_NoBits ?ex_NoPlace ?ga_NoPlace ?gx_NoPlace ?ca_NoPlace ?sp_NoPlace ?tk_NoPlace ?mo_NoPlace ?mb_NoPlace ?em_NoPlace ?sa_NoRow ?pl_NoRow ?ga_NoRow ?gx_NoRow ?ca_NoRow ?sp_NoRow ?tk_NoRow ?mo_NoRow ?mb_NoRow ?em_NoRow ?em2_NoRow ?sa_NoWood ?pl_NoWood ?ga_NoWood ?gx_NoWood ?ca_NoWood ?sp_NoWood ?tk_NoWood ?mo_NoWood ?mb_NoWood ?em_NoWood ?em2_NoWood ?kit_NoWood_ValueError ?kit_NoWood_NoBits ?kit_NoWood_NoPlace ?kit_NoWood_NoRow ?kit_NoWood_NoWood ?kit_NoWood_NoKnot ?ob_NoRow ?ob_NoWood
    (case eg_WoodError => k_is)
    (case eg_NoBits => k_is)
    (case eg_NoPlace => k_is)
    (case eg_NoRow => k_is)
    (case eg_NoWood => k_is)
    (case eg_NoKnot => k_is)
    (case a_Bits => k_is)
    (case pg_Bits => k_is)
    (case hd_Bits => k_is)
    (case po_Bits => k_is)
    (case sa_Bits => k_is)
    (case mk_Bits => k_is)
    (case kc_Bits => k_is)
    (case n_Bits_length => k_is)
    (case n_Bits_many_ones => k_is)
    (case n_Bits_kept_words => k_is)
    (case a_Counts => k_is)
    (case pg_Counts => k_is)
    (case hd_Counts => k_is)
    (case po_Counts => k_is)
    (case sa_Counts => k_is)
    (case mk_Counts => k_is)
    (case kc_Counts => k_is)
    (case n_Counts_length => k_is)
    (case n_Counts_kept_words => k_is)
    (case n_Counts_kept_table => k_is)
    (case a_Pairs => k_is)
    (case pg_Pairs => k_is)
    (case hd_Pairs => k_is)
    (case po_Pairs => k_is)
    (case sa_Pairs => k_is)
    (case mk_Pairs => k_is)
    (case kc_Pairs => k_is)
    (case n_Pairs_bits => k_is)
    (case n_Pairs_counts => k_is)
    (case n_Pairs_length => k_is)
    (case n_Pairs_kept_table => k_is)
    (case n_Pairs_often_least => k_is)
    (case a_Opened => k_is)
    (case pg_Opened => k_is)
    (case hd_Opened => k_is)
    (case po_Opened => k_is)
    (case sa_Opened => k_is)
    (case mk_Opened => k_is)
    (case kc_Opened => k_is)
    (case n_Opened_pairs => k_is)
    (case a_Heights => k_is)
    (case bg_Heights => k_is)
    (case br_Heights => k_is)
    (case a_Openings => k_is)
    (case bg_Openings => k_is)
    (case br_Openings => k_is)
    (case a0 => k_is)
    (case l0 => k_is)
    (case c0 => k_is)
    (case k0 => k_is)
    (case i0 => k_is)
    (case a1 => k_is)
    (case l1 => k_is)
    (case c1 => k_is)
    (case k1 => k_is)
    (case i1 => k_is)
    (case a2 => k_is)
    (case l2 => k_is)
    (case c2 => k_is)
    (case k2 => k_is)
    (case a3 => k_is)
    (case l3 => k_is)
    (case c3 => k_is)
    (case k3 => k_is)
    (case a4 => k_is)
    (case l4 => k_is)
    (case c4 => k_is)
    (case k4 => k_is)
    (case a5 => k_is)
    (case l5 => k_is)
    (case c5 => k_is)
    (case k5 => k_is)
    (case a6 => k_is)
    (case l6 => k_is)
    (case c6 => k_is)
    (case k6 => k_is)
    (case a7 => k_is)
    (case l7 => k_is)
    (case c7 => k_is)
    (case k7 => k_is)
    (case a8 => k_is)
    (case l8 => k_is)
    (case c8 => k_is)
    (case k8 => k_is)
    (case a9 => k_is)
    (case l9 => k_is)
    (case c9 => k_is)
    (case k9 => k_is)
    (case a10 => k_is)
    (case l10 => k_is)
    (case c10 => k_is)
    (case k10 => k_is)
    (case i10 => k_is)
    (case a11 => k_is)
    (case l11 => k_is)
    (case c11 => k_is)
    (case k11 => k_is)
    (case i11 => k_is)
    (case a12 => k_is)
    (case l12 => k_is)
    (case c12 => k_is)
    (case k12 => k_is)
    (case i12 => k_is)
    (case a13 => k_is)
    (case l13 => k_is)
    (case c13 => k_is)
    (case k13 => k_is)
    (case a14 => k_is)
    (case l14 => k_is)
    (case c14 => k_is)
    (case k14 => k_is)
    (case a15 => k_is)
    (case l15 => k_is)
    (case c15 => k_is)
    (case k15 => k_is)
    (case i15 => k_is)
    (case a16 => k_is)
    (case l16 => k_is)
    (case c16 => k_is)
    (case k16 => k_is)
    (case i16 => k_is)
    (case a17 => k_is)
    (case l17 => k_is)
    (case c17 => k_is)
    (case k17 => k_is)
    (case i17 => k_is)
    (case a18 => k_is)
    (case l18 => k_is)
    (case c18 => k_is)
    (case k18 => k_is)
    (case a19 => k_is)
    (case l19 => k_is)
    (case c19 => k_is)
    (case k19 => k_is)
    (case a20 => k_is)
    (case l20 => k_is)
    (case c20 => k_is)
    (case k20 => k_is)
    (case i20 => k_is)
    (case a21 => k_is)
    (case l21 => k_is)
    (case c21 => k_is)
    (case k21 => k_is)
    (case i21 => k_is)
    (case a22 => k_is)
    (case l22 => k_is)
    (case c22 => k_is)
    (case k22 => k_is)
    (case i22 => k_is)
    (case a23 => k_is)
    (case l23 => k_is)
    (case c23 => k_is)
    (case k23 => k_is)
    (case i23 => k_is)
    (case a24 => k_is)
    (case l24 => k_is)
    (case c24 => k_is)
    (case k24 => k_is)
    (case i24 => k_is)
    (case a25 => k_is)
    (case l25 => k_is)
    (case c25 => k_is)
    (case k25 => k_is)
    (case a26 => k_is)
    (case l26 => k_is)
    (case c26 => k_is)
    (case k26 => k_is)
    (case a27 => k_is)
    (case l27 => k_is)
    (case c27 => k_is)
    (case k27 => k_is)
    (case a28 => k_is)
    (case l28 => k_is)
    (case c28 => k_is)
    (case k28 => k_is)
    (case i28 => k_is)
    (case a29 => k_is)
    (case l29 => k_is)
    (case c29 => k_is)
    (case k29 => k_is)
    (case i29 => k_is)
    (case a30 => k_is)
    (case l30 => k_is)
    (case c30 => k_is)
    (case k30 => k_is)
    (case i30 => k_is)
    (case a31 => k_is)
    (case l31 => k_is)
    (case c31 => k_is)
    (case k31 => k_is)
    (case a32 => k_is)
    (case l32 => k_is)
    (case c32 => k_is)
    (case k32 => k_is)
    (case a33 => k_is)
    (case l33 => k_is)
    (case c33 => k_is)
    (case k33 => k_is)
    (case a34 => k_is)
    (case l34 => k_is)
    (case c34 => k_is)
    (case k34 => k_is)
    (case a35 => k_is)
    (case l35 => k_is)
    (case c35 => k_is)
    (case k35 => k_is)
    (case a36 => k_is)
    (case l36 => k_is)
    (case c36 => k_is)
    (case k36 => k_is)
    (case a37 => k_is)
    (case l37 => k_is)
    (case c37 => k_is)
    (case k37 => k_is)
    (case a38 => k_is)
    (case l38 => k_is)
    (case c38 => k_is)
    (case k38 => k_is)
    (case a39 => k_is)
    (case l39 => k_is)
    (case c39 => k_is)
    (case k39 => k_is)
    (case a40 => k_is)
    (case l40 => k_is)
    (case c40 => k_is)
    (case k40 => k_is)
    (case a41 => k_is)
    (case l41 => k_is)
    (case c41 => k_is)
    (case k41 => k_is)
    (case g_ONES_OF_FOUR => k_is)
    (case o1_ONES_OF_FOUR => k_is)
    (case o2_ONES_OF_FOUR => rfl); (case o3_ONES_OF_FOUR => rfl); (case o4_ONES_OF_FOUR => decide); (case o5_ONES_OF_FOUR => repeat (first | exact .nil | refine .cons ⟨_, rfl⟩ ?_))
    (case g_SIGNS_OF_FOUR => k_is)
    (case o1_SIGNS_OF_FOUR => k_is)
    (case o2_SIGNS_OF_FOUR => rfl); (case o3_SIGNS_OF_FOUR => rfl); (case o4_SIGNS_OF_FOUR => decide); (case o5_SIGNS_OF_FOUR => repeat (first | exact .nil | refine .cons ⟨_, rfl⟩ ?_))
    (case g_WORD_BITS => k_is)
    (case g_MOST_BITS => k_is)
    (case g_BLOCK_WORDS => k_is)
    (case g_MOST_SIGNS_pairs => k_is)
    (case g_STRETCH_BITS => k_is)
    (case g_MOST_KNOTS => k_is)
    (case z_range => k_is)
    (case z_len => k_is)
    (case z_int => k_is)
    (case z_bool => k_is)
    (case z_str => k_is)
    (case z_isinstance => k_is)
    (case z_list => k_is)
    (case z_tuple => k_is)
    (case z_enumerate => k_is)
    (case z_zip => k_is)
    (case z_sum => k_is)
    (case z_abs => k_is)
    (case z_max => k_is)
    (case z_min => k_is)
    (case z_ValueError => k_is)
    (case ex_WoodError => k_exc)
    (case bg_WoodError => k_is)
    (case br_WoodError => k_is)
    (case bi_WoodError => k_is)
    (case ex_NoBits => k_exc)
    (case ga_NoBits => k_is)
    (case gx_NoBits => k_is)
    (case ca_NoBits => k_is)
    (case sp_NoBits => k_is)
    (case tk_NoBits => k_is)
    (case mo_NoBits => k_is)
    (case mb_NoBits => k_is)
    (case em_NoBits => kts_exm)
    (case ex_NoPlace => k_exc)
    (case ga_NoPlace => k_is)
    (case gx_NoPlace => k_is)
    (case ca_NoPlace => k_is)
    (case sp_NoPlace => k_is)
    (case tk_NoPlace => k_is)
    (case mo_NoPlace => k_is)
    (case mb_NoPlace => k_is)
    (case em_NoPlace => kts_exm)
    (case sa_NoRow => k_is)
    (case pl_NoRow => k_is)
    (case ga_NoRow => k_is)
    (case gx_NoRow => k_is)
    (case ca_NoRow => k_is)
    (case sp_NoRow => k_is)
    (case tk_NoRow => k_is)
    (case mo_NoRow => k_is)
    (case mb_NoRow => k_is)
    (case em_NoRow => kts_exm)
    (case em2_NoRow => kts_exm)
    (case sa_NoWood => k_is)
    (case pl_NoWood => k_is)
    (case ga_NoWood => k_is)
    (case gx_NoWood => k_is)
    (case ca_NoWood => k_is)
    (case sp_NoWood => k_is)
    (case tk_NoWood => k_is)
    (case mo_NoWood => k_is)
    (case mb_NoWood => k_is)
    (case em_NoWood => kts_exm)
    (case em2_NoWood => kts_exm)
    (case kit_NoWood_ValueError => kit_is)
    (case kit_NoWood_NoBits => kit_is)
    (case kit_NoWood_NoPlace => kit_is)
    (case kit_NoWood_NoRow => kit_is)
    (case kit_NoWood_NoWood => kit_is)
    (case kit_NoWood_NoKnot => kit_is)
    (case ob_NoRow => k_is)
    (case ob_NoWood => k_is)
#print axioms PySem.Challenge.cw_tightwood_k31_woods_or_none_holds
