import PyProof.Rows.All
import Wide.All
import OpenK.AllK
import Wide.FinOn
import Lean
import PyProof.EqAt
import PyProof.EqKinds
import PyProof.TupleCall
import KE.KTryMore
import OpenK.KCls
import PyProof.Draws
import PyProof.EnumMake
import PyProof.EnumStmt
import PyProof.InstStoreFacts
import PyProof.ObjNew
import PyProof.Rows.SortStr
import PyProof.Rows.StrItems
import PyProof.Rows.StrSplitAre
import PyProof.StrCalls2
import PyProof.WalksEnum
import PyProof.ZipIter
import PySem.Builtin.Int.Common
import PySem.Challenge.RW_tightwood_k16_words_of_rows
set_option Elab.async false
set_option linter.all false
set_option maxRecDepth 100000
/-! THE HAND LAYER, for ints, bools, texts, own classes, LISTS and tuples (index, slices, in, append, pop ..), calls, loops. Paste it whole ahead of your own text; what your proof does not reach may be deleted. -/
namespace L2
open PySem PySem.Spec PyProof.Rows

/-- a key: an int or a str -/
abbrev Key := Sum Int Str
def keyIs : Key → Value → Bool
  | .inl k, v => Value.isInt k v
  | .inr x, v => Value.isStrOf x v
def keyH (w : World) : Key → Int
  | .inl k => hashInt k
  | .inr x => hashStr w x
theorem keyIs_shape : ∀ {k : Key} {v : Value}, keyIs k v = true → (∃ i t, k = Sum.inl i ∧ v = Value.int i t) ∨ (∃ x t, k = Sum.inr x ∧ v = Value.str x t)
  | .inl i, v, h => by
    obtain ⟨t, e⟩ := Value.isInt_shape (k := i) (v := v) h
    exact .inl ⟨i, t, rfl, e⟩
  | .inr x, v, h => by
    obtain ⟨t, e⟩ := Value.isStrOf_shape (x := x) (v := v) h
    exact .inr ⟨x, t, rfl, e⟩
theorem key_ll (a b : Int) : decide ((Sum.inl a : Key) = Sum.inl b) = (a == b) := by
  by_cases e : a = b
  · subst e; simp
  · have h : ¬ (Sum.inl a : Key) = Sum.inl b := fun q => e (Sum.inl.inj q)
    rw [decide_eq_false h]
    exact (beq_eq_false_iff_ne.mpr e).symm
theorem key_rr (a b : Str) : decide ((Sum.inr a : Key) = Sum.inr b) = decide (a = b) := by
  by_cases e : a = b
  · subst e; simp
  · have h : ¬ (Sum.inr a : Key) = Sum.inr b := fun q => e (Sum.inr.inj q)
    rw [decide_eq_false h, decide_eq_false e]
theorem key_lr (a : Int) (b : Str) : decide ((Sum.inl a : Key) = Sum.inr b) = false := decide_eq_false (fun q => nomatch q)
theorem key_rl (a : Str) (b : Int) : decide ((Sum.inr a : Key) = Sum.inl b) = false := decide_eq_false (fun q => nomatch q)

def mixKind (prog : Program) (w : World) : PySem.KeyKind prog w Key where
  is := keyIs
  hash := keyH w
  inj := fun v a b ha hb => by
    rcases keyIs_shape ha with ⟨i, t, rfl, rfl⟩ | ⟨x, t, rfl, rfl⟩
    · rcases keyIs_shape hb with ⟨j, u, rfl, e⟩ | ⟨y, u, rfl, e⟩
      · injection e with e1 _; rw [e1]
      · exact nomatch e
    · rcases keyIs_shape hb with ⟨j, u, rfl, e⟩ | ⟨y, u, rfl, e⟩
      · exact nomatch e
      · injection e with e1 _; rw [e1]
  byValue := fun k v h => by
    rcases keyIs_shape h with ⟨i, t, rfl, rfl⟩ | ⟨x, t, rfl, rfl⟩ <;> rfl
  pyHash := fun hv h => by
    rcases keyIs_shape hv with ⟨i, t, rfl, rfl⟩ | ⟨x, t, rfl, rfl⟩
    · exact wpAny_pyHash_int h
    · exact wpAny_pyHash_str h
  eqBool := fun hu hv h => by
    rcases keyIs_shape hu with ⟨i, t, rfl, rfl⟩ | ⟨x, t, rfl, rfl⟩
    · rcases keyIs_shape hv with ⟨j, u, rfl, rfl⟩ | ⟨y, u, rfl, rfl⟩
      · rw [key_ll] at h; exact wpAny_eqBool_int h
      · rw [key_lr] at h; exact SeqAt.EqAt.int_str i t y u _ _ _ _ h
    · rcases keyIs_shape hv with ⟨j, u, rfl, rfl⟩ | ⟨y, u, rfl, rfl⟩
      · rw [key_rl] at h; exact SeqAt.EqAt.str_int x t j u _ _ _ _ h
      · rw [key_rr] at h; exact wpAny_eqBool_str h
  «strs» := fun k x t v h => by
    rcases keyIs_shape h with ⟨i, u, rfl, e⟩ | ⟨y, u, rfl, e⟩
    · exact nomatch e
    · injection e with e1 _
      subst e1
      cases v <;> rfl

end L2

namespace L2
open PySem PySem.Spec PyProof.Rows

/-- a value, without the heap -/
inductive V where
  | non | bl (b : Bool) | int (i : Int) | str (x : Str) | byt (b : Array UInt8) | flt (b : UInt64) | ref (a : Addr) | ty (n : String)
  deriving DecidableEq

def RelV : V → Value → Prop
  | .non, u => u = Value.none
  | .bl b, u => u = Value.bool b
  | .int i, u => ∃ t, u = Value.int i t
  | .str x, u => ∃ t, u = Value.str x t
  | .byt b, u => ∃ t, u = Value.bytes b t
  | .flt b, u => ∃ t, u = Value.float b t
  | .ref a, u => u = Value.ref a
  | .ty n, u => u = Value.type n

abbrev Vals : List V → List Value → Prop := Paired RelV
theorem Vals.length {xs : List V} {us : List Value} (r : Vals xs us) : xs.length = us.length := Paired.length r
theorem Vals.get : ∀ {xs : List V} {us : List Value} {i : Nat} {x : V}, Vals xs us → xs[i]? = some x → ∃ u, us[i]? = some u ∧ RelV x u
  | _, _, _, _, .nil, e => by simp at e
  | _, _, 0, _, .cons r _, e => by simp at e; subst e; exact ⟨_, rfl, r⟩
  | _, _, i + 1, x, .cons _ t, e => by
    obtain ⟨u, h1, h2⟩ := Vals.get (i := i) (x := x) t (by simpa using e)
    exact ⟨u, by simpa using h1, h2⟩
theorem Vals.set {x : V} {u : Value} (r : RelV x u) : ∀ {xs : List V} {us : List Value} (i : Nat), Vals xs us → Vals (xs.set i x) (us.set i u)
  | _, _, _, .nil => .nil
  | _, _, 0, .cons _ t => .cons r t
  | _, _, i + 1, .cons q t => .cons q (Vals.set r i t)
theorem Vals.append : ∀ {xs ys : List V} {us ws : List Value}, Vals xs us → Vals ys ws → Vals (xs ++ ys) (us ++ ws)
  | _, _, _, _, .nil, s => s
  | _, _, _, _, .cons r t, s => .cons r (Vals.append t s)
theorem Vals.take : ∀ {xs : List V} {us : List Value} (n : Nat), Vals xs us → Vals (xs.take n) (us.take n)
  | _, _, 0, _ => .nil
  | _, _, _ + 1, .nil => .nil
  | _, _, n + 1, .cons r t => .cons r (Vals.take n t)
theorem Vals.drop : ∀ {xs : List V} {us : List Value} (n : Nat), Vals xs us → Vals (xs.drop n) (us.drop n)
  | _, _, 0, r => r
  | _, _, _ + 1, .nil => .nil
  | _, _, n + 1, .cons _ t => Vals.drop n t
def RelO : Option V → Option Value → Prop
  | some v, some u => RelV v u
  | none, none => True
  | _, _ => False
def KV {κ : Type} : List (κ × V) → List (κ × Value) → Prop := Paired fun (p : κ × V) (q : κ × Value) => p.1 = q.1 ∧ RelV p.2 q.2

/-- a key of a dict (00_mix): an int or a text -/
def kV : Key → V
  | .inl i => .int i
  | .inr x => .str x

/-- what stands at a tracked address -/
inductive HO where
  /-- a list -/
  | lst (xs : List V)
  /-- a tuple (never changes) -/
  | tup (xs : List V)
  /-- a dict whose keys are ints and texts; one whose keys are tuples of ints and texts (the empty one is both) -/
  | dK (kvs : List (Key × V)) | dT (kvs : List (List Key × V))
  /-- a set of ints: its members, its size -/
  | set (S : Int → Bool) (n : Nat)
  /-- an instance of the class at C, its dict at dx, its attributes -/
  | ins (C dx : Addr) (fs : List (Str × V))
  /-- the dict of the instance at x -/
  | own (x : Addr)
  /-- the dict of an exception -/
  | xd (fs : List (Str × V))
  /-- a bound method, f of x -/
  | met (f x : Addr)
  /-- a range object lo, lo + 1, .. below hi -/
  | rng (lo hi : Int)
  /-- a thing that is known to the object (the script; a dict while a loop walks it): read, never written while it is so -/
  | frz (o : Obj) (u : HO)
  /-- a code object's table -/
  | tbl (ps : Array Value)
  /-- any other thing, by what is true of its one object (a def of one's own: SetO a S n := HO.ext fun h => ..) -/
  | ext (φ : Heap → Prop)

abbrev Hp := Addr → Option HO
def upd (H : Hp) (a : Addr) (o : HO) : Hp := fun b => if b = a then some o else H b
theorem upd_same {H : Hp} {a : Addr} {o : HO} : upd H a o a = some o := by unfold upd; rw [if_pos rfl]
theorem upd_ne {H : Hp} {a b : Addr} {o : HO} (h : b ≠ a) : upd H a o b = H b := by unfold upd; rw [if_neg h]
theorem ne_of_none {H : Hp} {a b : Addr} {o : HO} (h : H a = some o) (h' : H b = none) : a ≠ b := by
  intro e; subst e; rw [h] at h'; cases h'

section
variable (P : Program) (w : World)
def ObjOk (H : Hp) (h : Heap) (a : Addr) : HO → Prop
  | .lst xs => xs.length ≤ sizeLine ∧ ∃ (its : List Value) (n : Nat), Vals xs its ∧ h.get? a = some { cls := .type "list", data := .seq its.toArray n }
  | .tup xs => xs.length ≤ sizeLine ∧ ∃ its : List Value, Vals xs its ∧ IsTup h a its.toArray
  | .dK kvs => kvs.length ≤ sizeLine ∧ (a == sysModules) = false ∧ ∃ vs, KV kvs vs ∧ h.DictOf (mixKind P w) a vs
  | .dT kvs => kvs.length ≤ sizeLine ∧ (a == sysModules) = false ∧ ∃ xs : List (List Key × Addr × Value),
      Paired (fun (p : List Key × V) (q : List Key × Addr × Value) => p.1 = q.1 ∧ H q.2.1 = some (.tup (p.1.map kV)) ∧ RelV p.2 q.2.2) kvs xs ∧
      ∃ o es ep, h.get? a = some o ∧ o.ExactDict ∧ o.data = .dict es ep ∧ es.toList = xs.map (entryOfKey (tupleKind (mixKind P w))) ∧ (xs.map (·.1)).Nodup
  | .set S n => h.SetOf (intKind P w) a S n
  | .ins C dx fs => H dx = some (.own a) ∧ fs.length ≤ 1000 ∧ dx ≠ a ∧ h.get? a = some (PySem.W.instObj C dx) ∧
      ∃ mA, h.Ns1 dx mA ∧ (∀ f, RelO (fs.lookup f) (mA f)) ∧ PySem.Within mA (fs.map (·.1))
  | .own _ => ∃ o, h.get? a = some o
  | .xd fs => ∃ mA, h.Ns1 a mA ∧ ∀ f, RelO (fs.lookup f) (mA f)
  | .rng lo hi => ∃ t u v, h.get? a = some { cls := .type "range", data := .fields #[.int lo t, .int hi u, .int 1 v] }
  | .frz o u => h.get? a = some o ∧ ObjOk H h a u
  | .tbl ps => h.get? a = some { cls := .none, data := .fields ps }
  | .met f x => h.get? a = some (PySem.W.methodObj (.ref f) (.ref x))
  | .ext φ => φ h ∧ (∃ o, h.get? a = some o) ∧ ∀ h1 h2 : Heap, φ h1 → (∀ o, h1.get? a = some o → h2.get? a = some o) → φ h2
/-- the abstract heap is held -/
def HOk (H : Hp) (h : Heap) : Prop := ∀ a o, H a = some o → ObjOk P w H h a o
end

section
variable {P : Program} {w : World} {H H' : Hp} {h h' : Heap} {a : Addr} {o : HO}
theorem ObjOk.lt (x : ObjOk P w H h a o) : a < h.objs.size := by
  cases o with
  | lst xs => obtain ⟨_, _, _, _, e⟩ := x; exact Heap.lt_size e
  | tup xs => obtain ⟨_, _, _, p⟩ := x; exact p.lt
  | dK kvs => obtain ⟨_, _, _, _, o, _, _, e, _⟩ := x; exact Heap.lt_size e
  | dT kvs => obtain ⟨_, _, _, _, o, _, _, e, _⟩ := x; exact Heap.lt_size e
  | set S n => obtain ⟨o, _, _, _, e, _⟩ := x; exact Heap.lt_size e
  | ins C dx fs => obtain ⟨_, _, _, e, _⟩ := x; exact Heap.lt_size e
  | own y => obtain ⟨_, e⟩ := x; exact Heap.lt_size e
  | xd fs => obtain ⟨_, ⟨_, _, _, e, _⟩, _⟩ := x; exact Heap.lt_size e
  | rng lo hi => obtain ⟨_, _, _, e⟩ := x; exact Heap.lt_size e
  | frz ob u => obtain ⟨e, _⟩ := x; exact Heap.lt_size e
  | tbl ps => exact Heap.lt_size (show h.get? a = some _ from x)
  | met f y => exact Heap.lt_size (show h.get? a = some _ from x)
  | ext φ => obtain ⟨_, ⟨_, e⟩, _⟩ := x; exact Heap.lt_size e
theorem Paired.mapP {α β : Type} {F G : α → β → Prop} : ∀ {l₁ : List α} {l₂ : List β}, Paired F l₁ l₂ → (∀ a b, F a b → G a b) → Paired G l₁ l₂
  | _, _, .nil, _ => .nil
  | _, _, .cons r t, f => .cons (f _ _ r) (Paired.mapP t f)
/-- what an object's description leans on: its own object, its own dict, the tuples -/
theorem ObjOk.stay (x : ObjOk P w H h a o) (k : ∀ b u, (b = a ∨ H b = some (.own a)) → h.get? b = some u → h'.get? b = some u)
    (ho : ∀ b, H b = some (.own a) → H' b = some (.own a)) (ht : ∀ b xs, H b = some (.tup xs) → H' b = some (.tup xs)) : ObjOk P w H' h' a o := by
  induction o with
  | lst xs => obtain ⟨z, its, n, r, e⟩ := x; exact ⟨z, its, n, r, k _ _ (.inl rfl) e⟩
  | tup xs => obtain ⟨z, its, r, ob, e, c⟩ := x; exact ⟨z, its, r, ob, k _ _ (.inl rfl) e, c⟩
  | dK kvs => obtain ⟨z, y, vs, r, ob, es, ep, e, c⟩ := x; exact ⟨z, y, vs, r, ob, es, ep, k _ _ (.inl rfl) e, c⟩
  | dT kvs =>
    obtain ⟨z, y, xs, r, ob, es, ep, e, c⟩ := x
    exact ⟨z, y, xs, Paired.mapP r fun p q z => ⟨z.1, ht _ _ z.2.1, z.2.2⟩, ob, es, ep, k _ _ (.inl rfl) e, c⟩
  | set S n => obtain ⟨ob, es, ep, t, e, c⟩ := x; exact ⟨ob, es, ep, t, k _ _ (.inl rfl) e, c⟩
  | ins C dx fs =>
    obtain ⟨d, z, ne, e, mA, ⟨od, es, ep, e2, c⟩, r⟩ := x
    exact ⟨ho _ d, z, ne, k _ _ (.inl rfl) e, mA, ⟨od, es, ep, k _ _ (.inr d) e2, c⟩, r⟩
  | own y => obtain ⟨ob, e⟩ := x; exact ⟨ob, k _ _ (.inl rfl) e⟩
  | xd fs => obtain ⟨mA, ⟨od, es, ep, e, c⟩, r⟩ := x; exact ⟨mA, ⟨od, es, ep, k _ _ (.inl rfl) e, c⟩, r⟩
  | rng lo hi => obtain ⟨t, u, v, e⟩ := x; exact ⟨t, u, v, k _ _ (.inl rfl) e⟩
  | frz ob u ih => obtain ⟨e, q⟩ := x; exact ⟨k _ _ (.inl rfl) e, ih q⟩
  | tbl ps =>
    have e : h.get? a = some { cls := .none, data := .fields ps } := x
    show h'.get? a = some { cls := .none, data := .fields ps }
    exact k a _ (.inl rfl) e
  | met f y =>
    have e : h.get? a = some (PySem.W.methodObj (.ref f) (.ref y)) := x
    show h'.get? a = some (PySem.W.methodObj (.ref f) (.ref y))
    exact k a _ (.inl rfl) e
  | ext φ => obtain ⟨p, ⟨o, e⟩, st⟩ := x; exact ⟨st _ _ p fun o q => k _ _ (.inl rfl) q, ⟨o, k _ _ (.inl rfl) e⟩, st⟩
theorem HOk.lt (x : HOk P w H h) (e : H a = some o) : a < h.objs.size := (x a o e).lt
theorem HOk.fresh (x : HOk P w H h) (e : h.objs.size ≤ a) : H a = none := by
  cases q : H a with
  | none => rfl
  | some u => exact absurd (Nat.lt_of_lt_of_le (x.lt q) e) (Nat.lt_irrefl _)
/-- every object of the heap is kept -/
theorem HOk.kept (x : HOk P w H h) (k : ∀ b u, h.get? b = some u → h'.get? b = some u) : HOk P w H h' := fun a o e =>
  (x a o e).stay (fun b u _ q => k b u q) (fun _ q => q) fun _ _ q => q
/-- a new object is laid and tracked -/
theorem HOk.laid (x : HOk P w H h) (k : ∀ b u, h.get? b = some u → h'.get? b = some u) (hp : h.objs.size ≤ a) (new : ObjOk P w (upd H a o) h' a o) : HOk P w (upd H a o) h' := fun b u e => by
  have hn := x.fresh hp
  by_cases hb : b = a
  · subst hb; rw [upd_same] at e; cases e; exact new
  · rw [upd_ne hb] at e
    exact (x b u e).stay (fun c v _ q => k c v q) (fun c q => by rw [upd_ne (ne_of_none q hn)]; exact q) fun c xs q => by rw [upd_ne (ne_of_none q hn)]; exact q
end

/-- what may be read as u: it is u, or a known u -/
def Rd (H : Hp) (a : Addr) (u : HO) : Prop := H a = some u ∨ ∃ o, H a = some (.frz o u)
theorem Rd.ok {P : Program} {w : World} {H : Hp} {h : Heap} {a : Addr} {u : HO} (r : Rd H a u) (x : HOk P w H h) : ObjOk P w H h a u := by
  rcases r with r | ⟨o, r⟩
  · exact x a u r
  · obtain ⟨_, q⟩ := x a _ r
    exact q
/-- what may be written -/
def Mut : Option HO → Prop
  | some (.lst _) => True
  | some (.dK _) => True
  | some (.dT _) => True
  | some (.set _ _) => True
  | some (.ins _ _ _) => True
  | some (.ext _) => True
  | _ => False
section
variable {P : Program} {w : World} {H : Hp} {h h' : Heap} {x e : Addr} {o' : HO}
/-- the object at e is changed: x itself, or the dict of the instance x -/
theorem HOk.write (ok : HOk P w H h) (mu : Mut (H x)) (he : e = x ∨ H e = some (.own x)) (k : ∀ b u, b ≠ e → h.get? b = some u → h'.get? b = some u) (heo : ∃ u, h'.get? e = some u)
    (new : ObjOk P w (upd H x o') h' x o') : HOk P w (upd H x o') h' := fun b u q => by
  have nown : ∀ c y, H c = some (.own y) → c ≠ x := fun c y r z => by subst z; rw [r] at mu; exact mu
  have ntup : ∀ c xs, H c = some (.tup xs) → c ≠ x := fun c xs r z => by subst z; rw [r] at mu; exact mu
  by_cases hb : b = x
  · subst hb; rw [upd_same] at q; cases q; exact new
  · rw [upd_ne hb] at q
    by_cases hbe : b = e
    · have q' : H b = some (.own x) := by
        rcases he with z | z
        · exact absurd (hbe.trans z) hb
        · rw [hbe]; exact z
      rw [q] at q'; cases q'
      obtain ⟨v, hv⟩ := heo
      exact ⟨v, by rw [hbe]; exact hv⟩
    · refine (ok b u q).stay (fun c v hc r => k c v ?_ r) (fun c r => by rw [upd_ne (nown c b r)]; exact r) fun c xs r => by rw [upd_ne (ntup c xs r)]; exact r
      rcases hc with rfl | hc
      · exact hbe
      · rintro rfl
        rcases he with z | z
        · exact nown c b hc z
        · rw [hc] at z; cases z; exact hb rfl
end

/-! ### kept unless tracked; of the frames at fs (the callers') the slots may change (an exception that passes writes there); of the records at ex (iterators) nothing is said -/
structure Un (fs ex : List Addr) (H H' : Hp) (h h' : Heap) : Prop where
  keep : ∀ b o, h.get? b = some o → H b = none → b ∉ fs → b ∉ ex → h'.get? b = some o
  slot : ∀ b o, h.get? b = some o → H b = none → b ∈ fs → b ∉ ex → ∃ sl, h'.get? b = some { o with slots := sl }
  free : ∀ b o, h.get? b = some o → H b = none → b ∉ ex → H' b = none
  there : ∀ b o, h.get? b = some o → b ∉ ex → ∃ o', h'.get? b = some o'
  tups : ∀ b xs, H b = some (.tup xs) → H' b = some (.tup xs)
  frzs : ∀ b o u, H b = some (.frz o u) → H' b = some (.frz o u)
  tbls : ∀ b ps, H b = some (.tbl ps) → ∃ more, H' b = some (.tbl (ps ++ more))
section
variable {fs fs' ex ex' : List Addr} {H H1 H2 : Hp} {h h1 h2 h' : Heap} {a x e : Addr} {o : HO}
theorem Un.any (u : Un fs ex H H1 h h1) {b : Addr} {ob : Obj} (q : h.get? b = some ob) (n : H b = none) (hx : b ∉ ex) : ∃ sl, h1.get? b = some { ob with slots := sl } := by
  by_cases hb : b ∈ fs
  · exact u.slot b ob q n hb hx
  · exact ⟨ob.slots, u.keep b ob q n hb hx⟩
theorem Un.trans (a : Un fs ex H H1 h h1) (b : Un fs ex H1 H2 h1 h2) : Un fs ex H H2 h h2 where
  keep := fun c ob q n hc hx => b.keep c ob (a.keep c ob q n hc hx) (a.free c ob q n hx) hc hx
  slot := fun c ob q n hc hx => by
    obtain ⟨sl, e1⟩ := a.slot c ob q n hc hx
    obtain ⟨sl', e2⟩ := b.slot c _ e1 (a.free c ob q n hx) hc hx
    exact ⟨sl', e2⟩
  free := fun c ob q n hx => by
    obtain ⟨o', e1⟩ := a.there c ob q hx
    exact b.free c o' e1 (a.free c ob q n hx) hx
  there := fun c ob q hx => by
    obtain ⟨o', e1⟩ := a.there c ob q hx
    exact b.there c o' e1 hx
  tups := fun c xs q => b.tups c xs (a.tups c xs q)
  frzs := fun c ob xs q => b.frzs c ob xs (a.frzs c ob xs q)
  tbls := fun c ps q => by
    obtain ⟨m1, e1⟩ := a.tbls c ps q
    obtain ⟨m2, e2⟩ := b.tbls c _ e1
    exact ⟨m1 ++ m2, by rw [e2, Array.append_assoc]⟩
theorem Un.kept (k : ∀ b u, h.get? b = some u → h'.get? b = some u) : Un fs ex H H h h' :=
  ⟨fun b ob q _ _ _ => k b ob q, fun b ob q _ _ _ => ⟨ob.slots, k b ob q⟩, fun _ _ _ n _ => n, fun b ob q _ => ⟨ob, k b ob q⟩, fun _ _ q => q, fun _ _ _ q => q, fun _ ps q => ⟨#[], by rw [q]; simp⟩⟩
theorem Un.refl : Un fs ex H H h h := Un.kept fun _ _ q => q
theorem Un.laid (k : ∀ b u, h.get? b = some u → h'.get? b = some u) (hp : h.objs.size ≤ a) (hn : H a = none) : Un fs ex H (upd H a o) h h' where
  keep := fun b u q _ _ _ => k b u q
  slot := fun b u q _ _ _ => ⟨u.slots, k b u q⟩
  free := fun b u q n _ => by rw [upd_ne (Nat.ne_of_lt (Nat.lt_of_lt_of_le (Heap.lt_size q) hp))]; exact n
  there := fun b u q _ => ⟨u, k b u q⟩
  tups := fun b xs q => by rw [upd_ne (ne_of_none q hn)]; exact q
  frzs := fun b u xs q => by rw [upd_ne (ne_of_none q hn)]; exact q
  tbls := fun b ps q => ⟨#[], by rw [upd_ne (ne_of_none q hn), q]; simp⟩
theorem Un.write (mu : Mut (H x)) (he : e = x ∨ H e = some (.own x)) (k : ∀ b u, b ≠ e → h.get? b = some u → h'.get? b = some u) (heo : ∃ u, h'.get? e = some u) : Un fs ex H (upd H x o) h h' := by
  have hx : ∀ b, H b = none → b ≠ x := fun b n z => by subst z; rw [n] at mu; exact mu
  have hb : ∀ b, H b = none → b ≠ e := fun b n z => by
    subst z
    rcases he with r | r
    · exact hx b n r
    · rw [n] at r; cases r
  have hm : ∀ b u, H b = some u → ¬ Mut (some u) → b ≠ x := fun b u q nm z => by subst z; rw [q] at mu; exact nm mu
  refine ⟨fun b u q n _ _ => k b u (hb b n) q, fun b u q n _ _ => ⟨u.slots, k b u (hb b n) q⟩, fun b u q n _ => by rw [upd_ne (hx b n)]; exact n, fun b u q _ => ?_,
    fun b xs q => by rw [upd_ne (hm b _ q fun z => z)]; exact q, fun b u xs q => by rw [upd_ne (hm b _ q fun z => z)]; exact q, fun b ps q => ⟨#[], by rw [upd_ne (hm b _ q fun z => z), q]; simp⟩⟩
  by_cases hbe : b = e
  · subst hbe; exact heo
  · exact ⟨u, k b u hbe q⟩
end

/-! ### the heap without what is tracked -/
def trk (h : Heap) (H : Hp) : List Addr := (List.range h.objs.size).filter fun a => (H a).isSome
def hidT (h : Heap) (H : Hp) : Heap := PySem.W.hideAll h (trk h H)
theorem hidT_size (h : Heap) (H : Hp) : (hidT h H).objs.size = h.objs.size := PySem.W.hideAll_size _ _
theorem hidT_get {h : Heap} {H : Hp} {b : Addr} {o : Obj} (e : h.get? b = some o) (n : H b = none) : (hidT h H).get? b = some o :=
  PySem.W.hideAll_get _ e fun hm => by
    have q : (H b).isSome = true := (List.mem_filter.mp hm).2
    rw [n] at q; simp at q
theorem of_hidT {h : Heap} {H : Hp} {b : Addr} {o : Obj} (e : (hidT h H).get? b = some o) : h.get? b = some o ∧ H b = none := by
  have e' : h.get? b = some o := PySem.W.of_hideAll (trk h H) e
  refine ⟨e', ?_⟩
  cases q : H b with
  | none => rfl
  | some x =>
    have hm : b ∈ trk h H := List.mem_filter.mpr ⟨List.mem_range.mpr (Heap.lt_size e'), by simp [q]⟩
    have z : (hidT h H).get? b = none := PySem.W.hideAll_none (trk h H) hm
    rw [z] at e; cases e

/-! ### OpenK's ledger, filled with every new object but one -/
def allNews (g h : Heap) (L : Addr) : List (Addr × Obj) := (List.range h.objs.size).filterMap fun a => if a = L ∨ (g.get? a).isSome = true then none else (h.get? a).map fun o => (a, o)
def rest (g h : Heap) (L d : Addr) : List (Addr × Obj) := (allNews g h L).filter fun p => decide (p.1 ≠ d)
end L2

namespace L2
open PySem PySem.Spec PyProof.Rows

/-- the module's facts, over the base: the heap at the law's entry without what is tracked there -/
structure Mod (K : PySem.W.Frag) (mg : Str → Option Value) (base : Heap) : Prop where
  kin : K.In base
  glob : base.Ns mainGlobals mg
  blt : ∃ mb, base.Ns builtinsNs mb ∧ ∀ x : Str, x ≠ "__name__" → mb x = bootBuiltins x
  nolimit : base.NoLimit

/-- the context: a def's body (or a comprehension's block) running. base: fixed through the whole law; s₀, H₀: the entry; outer: the frames whose slots others may change (a def's callers); stack: all frames that run;
   ex: iterators that were made ahead of the entry and are walked here (a comprehension's); fn: the names whose cells were made at the entry (a def: all; a comprehension's block: its own); calm: not within an except suite; pn: pins that every state bears; xe: what is wanted of an exception that leaves the code -/
structure Cx where
  prog : Program
  w : World
  K : PySem.W.Frag
  mg : Str → Option Value
  base : Heap
  A : Around
  N : List Str
  s₀ : Shared
  H₀ : Hp
  env : Env
  outer : List Env
  stack : List Env
  ex : List Addr
  fn : Str → Bool
  calm : Bool
  pn : List (Addr × Obj)
  xe : Value → Shared → Prop
/-- the callers' frames -/
def frs (l : List Env) : List Addr := l.filterMap (·.frame)
abbrev Cx.fs (X : Cx) : List Addr := frs X.outer

def Vis (sc : Scope) (x : Str) : Prop := sc.names.lookup x = some .local ∨ sc.names.lookup x = some .cell ∨ sc.names.lookup x = some .free
def Loc (sc : Scope) (x : Str) : Prop := sc.names.lookup x = some .local ∨ sc.names.lookup x = some .cell
def Look (env : Env) (h : Heap) (m : Str → Option Value) (x : Str) (u : Value) : Prop :=
  (env.kindOf x = some .local ∧ m x = some u) ∨ ((env.kindOf x = some .cell ∨ env.kindOf x = some .free) ∧ ∃ c, env.cells.lookup x = some c ∧ h.IsCell c (some u))

structure Cx.Ok (X : Cx) : Prop where
  mod : Mod X.K X.mg X.base
  kind : X.env.scope.kind = .function
  glob : X.env.globals = mainGlobals
  blt : X.env.builtins = builtinsNs
  above : X.s₀.heap.objs.size ≤ X.env.locals
  inj : ∀ x y c, X.env.cells.lookup x = some c → X.env.cells.lookup y = some c → x = y
  has : ∀ x, (X.env.kindOf x = some .cell ∨ X.env.kindOf x = some .free) → ∃ c, X.env.cells.lookup x = some c
  cab : ∀ x c, X.fn x = true → X.env.cells.lookup x = some c → X.s₀.heap.objs.size ≤ c
  hd : X.calm = true → X.A.handled = none
  frames : X.A.frames = some X.stack
  stk : X.stack = X.outer ∨ (X.stack = X.env :: X.outer ∧ X.env.frame = some X.env.locals)
  exf : ∀ b ∈ X.ex, b ≠ X.env.locals ∧ ∀ x c, X.env.cells.lookup x = some c → c ≠ b
  bs : ∀ b o, X.base.get? b = some o → X.s₀.heap.get? b = some o ∧ X.H₀ b = none
  bsz : X.base.objs.size ≤ X.s₀.heap.objs.size
  noex : ∀ b o, X.base.get? b = some o → b ∉ X.ex
  exfs : ∀ b ∈ X.ex, b ∉ X.fs
  funs : X.s₀.heap.FunFrames X.base X.outer
  frf : ∀ b ∈ X.fs, X.H₀ b = none

structure Inv (X : Cx) (pins : List (Addr × Obj)) (σ : List (Option V)) (H : Hp) (s : Shared) : Prop where
  ok : X.Ok
  os : s.os = X.s₀.os
  bare : AllBare s.gens
  base : Un X.fs X.ex X.H₀ H X.s₀.heap s.heap
  loc : ∃ m, s.heap.Ns X.env.locals m ∧ ∀ (i : Nat) (x : Str) (v : V), X.N[i]? = some x → σ[i]? = some (some v) → Vis X.env.scope x → ∃ u, RelV v u ∧ Look X.env s.heap m x u
  cell : ∀ x c, X.env.cells.lookup x = some c → ∃ v, s.heap.IsCell c v
  free : H X.env.locals = none
  freeC : ∀ x c, X.env.cells.lookup x = some c → H c = none
  pin : ∀ p ∈ X.pn ++ pins, s.heap.get? p.1 = some p.2 ∧ H p.1 = none ∧ p.1 ≠ X.env.locals ∧ p.1 ∉ X.fs ∧ ∀ v, p.2.data ≠ .cell v
  hok : HOk X.prog X.w H s.heap
  len : σ.length = X.N.length

section
variable {X : Cx} {pins : List (Addr × Obj)} {σ : List (Option V)} {H H' : Hp} {s : Shared} {h' : Heap}

theorem Cx.Ok.nofr (ok : X.Ok) {b : Addr} {o : Obj} (e : X.base.get? b = some o) : b ∉ X.fs := fun hb => by
  have := (ok.funs.mem hb).1
  rw [e] at this; cases this
theorem Inv.bs (I : Inv X pins σ H s) : ∀ b o, X.base.get? b = some o → s.heap.get? b = some o ∧ H b = none := fun b o e =>
  ⟨I.base.keep b o (I.ok.bs b o e).1 (I.ok.bs b o e).2 (I.ok.nofr e) (I.ok.noex b o e), I.base.free b o (I.ok.bs b o e).1 (I.ok.bs b o e).2 (I.ok.noex b o e)⟩
theorem Inv.bk (I : Inv X pins σ H s) : ∀ b o, X.base.get? b = some o → s.heap.get? b = some o := fun b o e => (I.bs b o e).1
theorem Inv.mod (I : Inv X pins σ H s) : Mod X.K X.mg X.base := I.ok.mod
theorem Inv.kIn (I : Inv X pins σ H s) : X.K.In s.heap := I.ok.mod.kin.keeps I.bk
theorem Inv.nolimit (I : Inv X pins σ H s) : s.heap.NoLimit := I.ok.mod.nolimit.keeps I.bk
/-- the frame over the base: for OpenK's rules (K.In X.base is I.mod.kin) -/
theorem Inv.fr (I : Inv X pins σ H s) : ∃ m, Fr X.base X.env.locals s.heap m :=
  let ⟨m, hn, _⟩ := I.loc
  ⟨m, hn, I.bk, Nat.le_trans I.ok.bsz I.ok.above⟩
theorem Inv.lt (I : Inv X pins σ H s) : X.env.locals < s.heap.objs.size := let ⟨_, hn, _⟩ := I.loc; hn.lt
theorem Inv.sz (I : Inv X pins σ H s) : X.s₀.heap.objs.size ≤ s.heap.objs.size := Nat.le_trans I.ok.above (Nat.le_of_lt I.lt)
theorem Inv.nofs (I : Inv X pins σ H s) {a : Addr} (h : s.heap.objs.size ≤ a) : a ∉ X.fs := fun hb => by
  obtain ⟨_, o, ho, _⟩ := I.ok.funs.mem hb
  exact absurd (Nat.lt_of_lt_of_le (Heap.lt_size ho) (Nat.le_trans I.sz h)) (Nat.lt_irrefl _)
theorem Inv.cne (I : Inv X pins σ H s) : ∀ x c, X.env.cells.lookup x = some c → c ≠ X.env.locals := fun x c e z => by
  obtain ⟨v, o, ho, hd⟩ := I.cell x c e
  obtain ⟨m, ⟨o', es, ep, ho', hd', _⟩, _⟩ := I.loc
  rw [z, ho'] at ho; cases ho; rw [hd'] at hd; cases hd
theorem Inv.funs (I : Inv X pins σ H s) : s.heap.FunFrames X.base X.outer := by
  have all : ∀ (l : List Env), (∀ b ∈ frs l, b ∈ X.fs) → X.s₀.heap.FunFrames X.base l → s.heap.FunFrames X.base l := by
    intro l
    induction l with
    | nil => intro _ _; trivial
    | cons env r ih =>
      intro hs hl
      obtain ⟨hk, ⟨L, o, hf, hn, ho, hd⟩, hr⟩ := hl
      have hL : L ∈ X.fs := hs L (by unfold frs; rw [List.filterMap_cons, hf]; exact List.mem_cons_self)
      obtain ⟨sl, e⟩ := I.base.slot L o ho (I.ok.frf L hL) hL fun z => I.ok.exfs L z hL
      exact ⟨hk, ⟨L, _, hf, hn, e, hd⟩, ih (fun b hb => hs b (by unfold frs; rw [List.filterMap_cons, hf]; exact List.mem_cons_of_mem _ hb)) hr⟩
  exact all X.outer (fun _ hb => hb) I.ok.funs

/-- the frames that run, for a call -/
theorem Inv.stack (I : Inv X pins σ H s) : s.heap.FunFrames X.base X.stack := by
  rcases I.ok.stk with e | ⟨e, hf⟩
  · rw [e]; exact I.funs
  · rw [e]
    obtain ⟨m, hn, _⟩ := I.loc
    refine .cons (by rw [I.ok.kind]; decide) hf hn ?_ I.funs
    exact Heap.get?_none_of_le (Nat.le_trans I.ok.bsz I.ok.above)
theorem Inv.stkSub (I : Inv X pins σ H s) : ∀ b ∈ frs X.stack, b ∈ X.env.locals :: X.fs := fun b hb => by
  rcases I.ok.stk with e | ⟨e, hf⟩
  · rw [e] at hb; exact List.mem_cons_of_mem _ hb
  · rw [e] at hb
    unfold frs at hb
    rw [List.filterMap_cons, hf] at hb
    exact hb
theorem Inv.stkFree (I : Inv X pins σ H s) : ∀ b ∈ frs X.stack, H b = none := fun b hb => by
  rcases List.mem_cons.mp (I.stkSub b hb) with e | hb
  · rw [e]; exact I.free
  · obtain ⟨_, o, ho, _⟩ := I.ok.funs.mem hb
    exact I.base.free b o ho (I.ok.frf b hb) fun z => I.ok.exfs b z hb

/-- THE STEP: the untracked objects but the frame and the records at ch are kept (the callers' frames up to slots), the frame's map is kept, the new abstract heap is held -/
theorem Inv.step {g' : Array GenState} {t' : Nat} {d' : Drawn} {ch : List Addr} (I : Inv X pins σ H s)
    (hch : ∀ b ∈ ch, (b ∈ X.ex ∨ X.s₀.heap.objs.size ≤ b) ∧ b ≠ X.env.locals ∧ (∀ x c, X.env.cells.lookup x = some c → c ≠ b) ∧ ∀ p ∈ X.pn ++ pins, p.1 ≠ b)
    (keep : ∀ b o, b ≠ X.env.locals → b ∉ X.fs → b ∉ ch → s.heap.get? b = some o → H b = none → h'.get? b = some o)
    (slot : ∀ b o, b ≠ X.env.locals → b ∈ X.fs → b ∉ ch → s.heap.get? b = some o → H b = none → ∃ sl, h'.get? b = some { o with slots := sl }) (free : ∀ b o, b ∉ ch → s.heap.get? b = some o → H b = none → H' b = none)
    (there : ∀ b o, b ∉ ch → s.heap.get? b = some o → ∃ o', h'.get? b = some o')
    (tups : ∀ b xs, H b = some (.tup xs) → H' b = some (.tup xs)) (frzs : ∀ b o u, H b = some (.frz o u) → H' b = some (.frz o u)) (tbls : ∀ b ps, H b = some (.tbl ps) → ∃ more, H' b = some (.tbl (ps ++ more)))
    (ns : ∀ m, s.heap.Ns X.env.locals m → h'.Ns X.env.locals m) (hok : HOk X.prog X.w H' h') (hg : AllBare g') :
    Inv X pins σ H' { s with heap := h', gens := g', drawn := d', toks := t' } := by
  have neL : ∀ b o, X.s₀.heap.get? b = some o → b ≠ X.env.locals := fun b o e => Nat.ne_of_lt (Nat.lt_of_lt_of_le (Heap.lt_size e) I.ok.above)
  have neC : ∀ b o, X.s₀.heap.get? b = some o → b ∉ X.ex → b ∉ ch := fun b o e hx hb => by
    rcases (hch b hb).1 with z | z
    · exact hx z
    · exact absurd (Nat.lt_of_lt_of_le (Heap.lt_size e) z) (Nat.lt_irrefl _)
  have cellK : ∀ x c, X.env.cells.lookup x = some c → ∀ v, s.heap.IsCell c v → h'.IsCell c v := fun x c e v ⟨o, ho, hd⟩ => by
    have nch : c ∉ ch := fun z => (hch c z).2.2.1 x c e rfl
    by_cases hc : c ∈ X.fs
    · obtain ⟨sl, q⟩ := slot c o (I.cne x c e) hc nch ho (I.freeC x c e)
      exact ⟨_, q, hd⟩
    · exact ⟨o, keep c o (I.cne x c e) hc nch ho (I.freeC x c e), hd⟩
  refine ⟨I.ok, I.os, hg, ⟨fun b o e n hb hx => ?_, fun b o e n hb hx => ?_, fun b o e n hx => ?_, fun b o e hx => ?_, fun b xs e => tups b xs (I.base.tups b xs e), fun b o xs e => frzs b o xs (I.base.frzs b o xs e), fun b ps e => ?_⟩, ?_, fun x c e => ?_, ?_, fun x c e => ?_, fun p hp => ?_, hok, I.len⟩
  · exact keep b o (neL b o e) hb (neC b o e hx) (I.base.keep b o e n hb hx) (I.base.free b o e n hx)
  · obtain ⟨sl, e1⟩ := I.base.slot b o e n hb hx
    obtain ⟨sl', e2⟩ := slot b _ (neL b o e) hb (neC b o e hx) e1 (I.base.free b o e n hx)
    exact ⟨sl', e2⟩
  · obtain ⟨o', e1⟩ := I.base.there b o e hx
    exact free b o' (neC b o e hx) e1 (I.base.free b o e n hx)
  · obtain ⟨o', e1⟩ := I.base.there b o e hx
    exact there b o' (neC b o e hx) e1
  · obtain ⟨m1, e1⟩ := I.base.tbls b ps e
    obtain ⟨m2, e2⟩ := tbls b _ e1
    exact ⟨m1 ++ m2, by rw [e2, Array.append_assoc]⟩
  · obtain ⟨m, hn, hl⟩ := I.loc
    refine ⟨m, ns m hn, fun i x v e1 e2 e3 => ?_⟩
    obtain ⟨u, r, l⟩ := hl i x v e1 e2 e3
    refine ⟨u, r, ?_⟩
    rcases l with l | ⟨k, c, e, z⟩
    · exact .inl l
    · exact .inr ⟨k, c, e, cellK x c e _ z⟩
  · obtain ⟨v, z⟩ := I.cell x c e
    exact ⟨v, cellK x c e v z⟩
  · obtain ⟨m, ⟨o, _, _, ho, _⟩, _⟩ := I.loc
    exact free _ o (fun z => (hch _ z).2.1 rfl) ho I.free
  · obtain ⟨v, o, ho, hd⟩ := I.cell x c e
    exact free c o (fun z => (hch c z).2.2.1 x c e rfl) ho (I.freeC x c e)
  · obtain ⟨e, n, ne, nf, d⟩ := I.pin p hp
    have nch : p.1 ∉ ch := fun z => (hch p.1 z).2.2.2 p hp rfl
    exact ⟨keep p.1 p.2 ne nf nch e n, free p.1 p.2 nch e n, ne, nf, d⟩
/-- .. where the frame's own object is kept too -/
theorem Inv.un {t' : Nat} (I : Inv X pins σ H s) (u : Un X.fs [] H H' s.heap h') (hok : HOk X.prog X.w H' h') : Inv X pins σ H' { s with heap := h', toks := t' } := by
  obtain ⟨m, ⟨o, es, ep, ho, r⟩, _⟩ := id I.loc
  obtain ⟨sl, hL⟩ := u.any ho I.free (by simp)
  exact I.step (g' := s.gens) (d' := s.drawn) (ch := []) (fun _ z => nomatch z) (fun b o _ hb _ e n => u.keep b o e n hb (by simp)) (fun b o _ hb _ e n => u.slot b o e n hb (by simp)) (fun b o _ e n => u.free b o e n (by simp)) (fun b o _ e => u.there b o e (by simp)) u.tups u.frzs u.tbls (fun m' hm => by
    obtain ⟨o', es', ep', ho', r'⟩ := hm
    rw [ho] at ho'; cases ho'
    exact ⟨_, es', ep', hL, r'⟩) hok I.bare
/-- behind a call (or a comprehension's block): the slots of this frame may have changed too, the records at ch may have turned -/
theorem Inv.call {g' : Array GenState} {t' : Nat} {d' : Drawn} {ch : List Addr} (I : Inv X pins σ H s) (u : Un (frs X.stack) ch H H' s.heap h') (hok : HOk X.prog X.w H' h') (hg : AllBare g')
    (hch : ∀ b ∈ ch, (b ∈ X.ex ∨ X.s₀.heap.objs.size ≤ b) ∧ b ≠ X.env.locals ∧ (∀ x c, X.env.cells.lookup x = some c → c ≠ b) ∧ ∀ p ∈ X.pn ++ pins, p.1 ≠ b) :
    Inv X pins σ H' { s with heap := h', gens := g', drawn := d', toks := t' } := by
  obtain ⟨m, ⟨o, es, ep, ho, r⟩, _⟩ := id I.loc
  obtain ⟨sl, hL⟩ := u.any ho I.free fun z => (hch _ z).2.1 rfl
  exact I.step (ch := ch) hch (fun b o hL hb hc e n => u.keep b o e n (fun z => (List.mem_cons.mp (I.stkSub b z)).elim hL hb) hc) (fun b o _ _ hc e n => u.any e n hc) (fun b o hc e n => u.free b o e n hc) (fun b o hc e => u.there b o e hc) u.tups u.frzs u.tbls (fun m' hm => by
    obtain ⟨o', es', ep', ho', r'⟩ := hm
    rw [ho] at ho'; cases ho'
    exact ⟨_, es', ep', hL, r'⟩) hok hg
/-- an untracked record of ours (an iterator) has turned -/
theorem Inv.turned {t' : Nat} {it : Addr} (I : Inv X pins σ H s) (k : ∀ b o, b ≠ it → s.heap.get? b = some o → h'.get? b = some o) (hn : H it = none) (hL : it ≠ X.env.locals)
    (h1 : it ∈ X.ex ∨ X.s₀.heap.objs.size ≤ it) (h2 : ∀ x c, X.env.cells.lookup x = some c → c ≠ it) (h3 : ∀ p ∈ X.pn ++ pins, p.1 ≠ it) : Inv X pins σ H { s with heap := h', toks := t' } := by
  have nit : ∀ b u, H b = some u → b ≠ it := fun b u e z => by rw [z, hn] at e; cases e
  refine I.step (g' := s.gens) (d' := s.drawn) (ch := [it]) (fun b hb => ?_) (fun b o _ _ hc e _ => k b o (fun z => hc (by simp [z])) e) (fun b o _ _ hc e _ => ⟨o.slots, k b o (fun z => hc (by simp [z])) e⟩) (fun _ _ _ _ n => n)
    (fun b o hc e => ⟨o, k b o (fun z => hc (by simp [z])) e⟩) (fun _ _ e => e) (fun _ _ _ e => e) (fun b ps e => ⟨#[], by rw [e]; simp⟩) (fun m hm => ?_) (fun b u e => ?_) I.bare
  · have e : b = it := by simpa using hb
    subst e
    exact ⟨h1, hL, h2, h3⟩
  · obtain ⟨o, es, ep, ho, r⟩ := hm
    exact ⟨o, es, ep, k _ o (Ne.symm hL) ho, r⟩
  · refine (I.hok b u e).stay (fun c v hc q => k c v ?_ q) (fun _ q => q) fun _ _ q => q
    rcases hc with z | z
    · rw [z]; exact nit b u e
    · exact nit c _ z
theorem Inv.tok (I : Inv X pins σ H s) (t : Nat) : Inv X pins σ H { s with toks := t } := I.un (h' := s.heap) (t' := t) Un.refl I.hok
/-- all objects kept -/
theorem Inv.kept {t' : Nat} (I : Inv X pins σ H s) (k : ∀ b u, s.heap.get? b = some u → h'.get? b = some u) : Inv X pins σ H { s with heap := h', toks := t' } := I.un (Un.kept k) (I.hok.kept k)
/-- a new object laid and tracked -/
theorem Inv.laid {a : Addr} {o : HO} {t' : Nat} (I : Inv X pins σ H s) (k : ∀ b u, s.heap.get? b = some u → h'.get? b = some u) (hp : s.heap.objs.size ≤ a) (new : ObjOk X.prog X.w (upd H a o) h' a o) :
    Inv X pins σ (upd H a o) { s with heap := h', toks := t' } := I.un (Un.laid k hp (I.hok.fresh hp)) (I.hok.laid k hp new)
/-- an object written -/
theorem Inv.write {x e : Addr} {o : HO} {t' : Nat} (I : Inv X pins σ H s) (mu : Mut (H x)) (he : e = x ∨ H e = some (.own x)) (k : ∀ b u, b ≠ e → s.heap.get? b = some u → h'.get? b = some u) (heo : ∃ u, h'.get? e = some u)
    (new : ObjOk X.prog X.w (upd H x o) h' x o) : Inv X pins σ (upd H x o) { s with heap := h', toks := t' } := I.un (Un.write mu he k heo) (I.hok.write mu he k heo new)
/-- forgetting slots, pins -/
theorem Inv.weak {σ' : List (Option V)} (I : Inv X pins σ H s) (hl : σ'.length = σ.length) (w : ∀ (i : Nat) v, σ'[i]? = some (some v) → σ[i]? = some (some v)) : Inv X pins σ' H s :=
  ⟨I.ok, I.os, I.bare, I.base, let ⟨m, hn, hl'⟩ := I.loc; ⟨m, hn, fun i x v e1 e2 e3 => hl' i x v e1 (w i v e2) e3⟩, I.cell, I.free, I.freeC, I.pin, I.hok, hl.trans I.len⟩
theorem Inv.pins_of {pins' : List (Addr × Obj)} (I : Inv X pins σ H s) (h : ∀ p ∈ pins', s.heap.get? p.1 = some p.2 ∧ H p.1 = none ∧ p.1 ≠ X.env.locals ∧ p.1 ∉ X.fs ∧ ∀ v, p.2.data ≠ .cell v) : Inv X pins' σ H s :=
  ⟨I.ok, I.os, I.bare, I.base, I.loc, I.cell, I.free, I.freeC, fun p hp => (List.mem_append.mp hp).elim (fun z => I.pin p (List.mem_append_left _ z)) (h p), I.hok, I.len⟩

theorem nodup_ix {N : List Str} (hN : N.Nodup) {i j : Nat} {x : Str} (a : N[i]? = some x) (b : N[j]? = some x) : i = j := by
  obtain ⟨h1, e1⟩ := List.getElem?_eq_some_iff.mp a
  obtain ⟨h2, e2⟩ := List.getElem?_eq_some_iff.mp b
  exact (List.getElem_inj hN).mp (e1.trans e2.symm)

/-- a name is stored; what changed -/
theorem store_ok2 {M : Model} {A : Around} {E : Value → Shared → Prop} {i : Nat} {x : Str} {v : V} {u : Value} {Q : Unit → Shared → Prop} (I : Inv X pins σ H s) (hN : X.N.Nodup) (hi : X.N[i]? = some x) (hx : Loc X.env.scope x) (r : RelV v u)
    (h : ∀ s', Inv X pins (σ.set i (some v)) H s' → (∃ a, Heap.SameBut a s.heap s'.heap ∧ (a = X.env.locals ∨ X.env.cells.lookup x = some a)) → Q () s') (hf : X.fn x = true ∨ X.env.scope.names.lookup x = some .local := by first | exact .inl rfl | exact .inr rfl | assumption) : wpAny M A (storeName X.env x u) Q E s := by
  obtain ⟨m, hn, hl⟩ := id I.loc
  have hcls : (X.env.scope.kind == .class || (X.env.scope.kind == .module && X.env.locals != X.env.globals)) = false := by rw [I.ok.kind]; rfl
  have hiσ : i < σ.length := by rw [I.len]; exact (List.getElem?_eq_some_iff.mp hi).1
  have cne := I.cne
  have tracked : ∀ {a : Addr} {h' : Heap}, (∃ o, s.heap.get? a = some o ∧ H a = none) → Heap.SameBut a s.heap h' → HOk X.prog X.w H h' := fun {a h'} ha hs b ob e => by
    obtain ⟨_, _, hfree⟩ := ha
    refine (I.hok b ob e).stay (fun c w' hc q => (hs.2 c ?_).trans q) (fun _ q => q) fun _ _ q => q
    rintro rfl
    rcases hc with rfl | hc
    · rw [hfree] at e; cases e
    · rw [hfree] at hc; cases hc
  rcases hx with hk | hk
  · refine wpAny_storeName_local hk hn (fun h' hn' hs => ?_) hcls
    obtain ⟨oL, _, _, hoL, _⟩ := id hn
    refine h _ ⟨I.ok, I.os, I.bare, ⟨fun b o e n hb hx => ?_, fun b o e n hb hx => ?_, I.base.free, fun b o e hx => ?_, I.base.tups, I.base.frzs, I.base.tbls⟩, ⟨_, hn', fun j y v' e1 e2 e3 => ?_⟩, fun y c e => ?_, I.free, I.freeC, fun p hp => ?_, tracked ⟨oL, hoL, I.free⟩ hs, by simpa using I.len⟩ ⟨_, hs, .inl rfl⟩
    · exact (hs.2 b (Nat.ne_of_lt (Nat.lt_of_lt_of_le (Heap.lt_size e) I.ok.above))).trans (I.base.keep b o e n hb hx)
    · obtain ⟨sl, e1⟩ := I.base.slot b o e n hb hx
      exact ⟨sl, (hs.2 b (Nat.ne_of_lt (Nat.lt_of_lt_of_le (Heap.lt_size e) I.ok.above))).trans e1⟩
    · obtain ⟨o', e1⟩ := I.base.there b o e hx
      exact ⟨o', (hs.2 b (Nat.ne_of_lt (Nat.lt_of_lt_of_le (Heap.lt_size e) I.ok.above))).trans e1⟩
    · by_cases hj : j = i
      · subst hj
        rw [hi] at e1; cases e1
        rw [List.getElem?_set_self hiσ] at e2
        cases e2
        exact ⟨u, r, .inl ⟨hk, by simp⟩⟩
      · rw [List.getElem?_set_ne (Ne.symm hj)] at e2
        obtain ⟨u', r', q⟩ := hl j y v' e1 e2 e3
        refine ⟨u', r', ?_⟩
        rcases q with ⟨k, e⟩ | ⟨k, c, e, z⟩
        · refine .inl ⟨k, ?_⟩
          have : y ≠ x := fun e => hj (nodup_ix hN e1 (e ▸ hi))
          simp [this, e]
        · exact .inr ⟨k, c, e, z.sameBut hs (cne y c e)⟩
    · obtain ⟨w', z⟩ := I.cell y c e
      exact ⟨w', z.sameBut hs (cne y c e)⟩
    · obtain ⟨e, n, ne, nf, d⟩ := I.pin p hp
      exact ⟨(hs.2 p.1 ne).trans e, n, ne, nf, d⟩
  · have hfn : X.fn x = true := by
      rcases hf with z | z
      · exact z
      · rw [z] at hk; cases hk
    obtain ⟨c, hc⟩ := I.ok.has x (.inl hk)
    obtain ⟨w', z⟩ := I.cell x c hc
    refine wpAny_storeName_cell I.ok.kind hk hc z (fun h' hc' hs => ?_)
    obtain ⟨oc, hoc, hocd⟩ := id z
    refine h { s with heap := h' } ⟨I.ok, I.os, I.bare, ⟨fun b o e n hb hx => ?_, fun b o e n hb hx => ?_, I.base.free, fun b o e hx => ?_, I.base.tups, I.base.frzs, I.base.tbls⟩, ⟨m, hn.sameBut hs (Ne.symm (cne x c hc)), fun j y v' e1 e2 e3 => ?_⟩, fun y c' e => ?_, I.free, I.freeC, fun p hp => ?_, tracked ⟨oc, hoc, I.freeC x c hc⟩ hs, by simpa using I.len⟩ ⟨c, hs, .inr hc⟩
    · exact (hs.2 b (Nat.ne_of_lt (Nat.lt_of_lt_of_le (Heap.lt_size e) (I.ok.cab x c hfn hc)))).trans (I.base.keep b o e n hb hx)
    · obtain ⟨sl, e1⟩ := I.base.slot b o e n hb hx
      exact ⟨sl, (hs.2 b (Nat.ne_of_lt (Nat.lt_of_lt_of_le (Heap.lt_size e) (I.ok.cab x c hfn hc)))).trans e1⟩
    · obtain ⟨o', e1⟩ := I.base.there b o e hx
      exact ⟨o', (hs.2 b (Nat.ne_of_lt (Nat.lt_of_lt_of_le (Heap.lt_size e) (I.ok.cab x c hfn hc)))).trans e1⟩
    · by_cases hj : j = i
      · subst hj
        rw [hi] at e1; cases e1
        rw [List.getElem?_set_self hiσ] at e2
        cases e2
        exact ⟨u, r, .inr ⟨.inl hk, c, hc, hc'⟩⟩
      · rw [List.getElem?_set_ne (Ne.symm hj)] at e2
        obtain ⟨u', r', q⟩ := hl j y v' e1 e2 e3
        refine ⟨u', r', ?_⟩
        rcases q with q | ⟨k, c', e, z'⟩
        · exact .inl q
        · refine .inr ⟨k, c', e, z'.sameBut hs ?_⟩
          rintro rfl
          exact hj (nodup_ix hN e1 (I.ok.inj _ _ _ e hc ▸ hi))
    · by_cases hcc : c' = c
      · subst hcc; exact ⟨_, hc'⟩
      · obtain ⟨w2, z2⟩ := I.cell y c' e
        exact ⟨w2, z2.sameBut hs hcc⟩
    · obtain ⟨e, n, ne, nf, d⟩ := I.pin p hp
      refine ⟨(hs.2 p.1 ?_).trans e, n, ne, nf, d⟩
      intro q
      rw [q, hoc] at e
      have q' : oc = p.2 := Option.some.inj e
      exact d w' (by rw [← q']; exact hocd)
theorem store_ok {M : Model} {A : Around} {E : Value → Shared → Prop} {i : Nat} {x : Str} {v : V} {u : Value} {Q : Unit → Shared → Prop} (I : Inv X pins σ H s) (hN : X.N.Nodup) (hi : X.N[i]? = some x) (hx : Loc X.env.scope x) (r : RelV v u)
    (h : ∀ s', Inv X pins (σ.set i (some v)) H s' → Q () s') (hf : X.fn x = true ∨ X.env.scope.names.lookup x = some .local := by first | exact .inl rfl | exact .inr rfl | assumption) : wpAny M A (storeName X.env x u) Q E s :=
  store_ok2 I hN hi hx r (fun s' I' _ => h s' I') hf
/-- behind a call or a block, the state as it is -/
theorem Inv.call' {s' : Shared} {ch : List Addr} (I : Inv X pins σ H s) (ho : s'.os = s.os) (u : Un (frs X.stack) ch H H' s.heap s'.heap) (hok : HOk X.prog X.w H' s'.heap) (hg : AllBare s'.gens)
    (hch : ∀ b ∈ ch, (b ∈ X.ex ∨ X.s₀.heap.objs.size ≤ b) ∧ b ≠ X.env.locals ∧ (∀ x c, X.env.cells.lookup x = some c → c ≠ b) ∧ ∀ p ∈ X.pn ++ pins, p.1 ≠ b) : Inv X pins σ H' s' := by
  obtain ⟨h', g', d', t', o'⟩ := s'
  have e : o' = s.os := ho
  subst e
  exact I.call (g' := g') (t' := t') (d' := d') u hok hg hch
end

/-! ### the judgements -/
/-- an exception: its class, its own dict's address (where it has one), the abstract heap behind it -/
abbrev XK := Value → Option Addr → Hp → Prop
abbrev St := List (Option V)
abbrev VK := V → Hp → Prop
/-- an expression's reading; a test's; an argument list's -/
abbrev TE := St → Hp → VK → Prop
abbrev TT := St → Hp → (Bool → Hp → Prop) → Prop
abbrev TA := St → Hp → (List V → Hp → Prop) → Prop
/-- what is wanted behind a statement -/
structure Ends where
  nx : St → Hp → Prop
  rt : VK
  bk : St → Hp → Prop := fun _ _ => False
  ct : St → Hp → Prop := fun _ _ => False
abbrev TS := Ends → St → Hp → Prop

def EP (X : Cx) (pins : List (Addr × Obj)) (σ : St) (Q : VK) (u : Value) (s' : Shared) : Prop := ∃ v H', Inv X pins σ H' s' ∧ RelV v u ∧ Q v H'
def TP (X : Cx) (pins : List (Addr × Obj)) (σ : St) (Q : Bool → Hp → Prop) (b : Bool) (s' : Shared) : Prop := ∃ H', Inv X pins σ H' s' ∧ Q b H'
def AP (X : Cx) (pins : List (Addr × Obj)) (σ : St) (Q : List V → Hp → Prop) (us : List Value) (s' : Shared) : Prop := ∃ vs H', Inv X pins σ H' s' ∧ Vals vs us ∧ Q vs H'
def SP (X : Cx) (pins : List (Addr × Obj)) (D : Ends) (f : Flow) (s' : Shared) : Prop :=
  match f with
  | .next => ∃ σ' H', Inv X pins σ' H' s' ∧ D.nx σ' H'
  | .brk => ∃ σ' H', Inv X pins σ' H' s' ∧ D.bk σ' H'
  | .cont => ∃ σ' H', Inv X pins σ' H' s' ∧ D.ct σ' H'
  | .ret u => ∃ v σ' H', Inv X pins σ' H' s' ∧ RelV v u ∧ D.rt v H'

def PE (X : Cx) (e : Expr) (t : TE) : Prop :=
  ∀ (pins : List (Addr × Obj)) (s : Shared) (σ : St) (H : Hp) (Q : VK), Inv X pins σ H s → t σ H Q → wpAny (model X.prog X.w) X.A (eval e X.env) (EP X pins σ Q) X.xe s
def PT (X : Cx) (e : Expr) (t : TT) : Prop :=
  ∀ (pins : List (Addr × Obj)) (s : Shared) (σ : St) (H : Hp) (Q : Bool → Hp → Prop), Inv X pins σ H s → t σ H Q → wpAny (model X.prog X.w) X.A (isTrue e X.env (eval e X.env)) (TP X pins σ Q) X.xe s
/-- a test whatever its 'whole' is (and, or) -/
def PW (X : Cx) (e : Expr) (t : TT) : Prop :=
  ∀ (whole : Sem Value) (pins : List (Addr × Obj)) (s : Shared) (σ : St) (H : Hp) (Q : Bool → Hp → Prop), Inv X pins σ H s → t σ H Q → wpAny (model X.prog X.w) X.A (isTrue e X.env whole) (TP X pins σ Q) X.xe s
theorem PW.pt {X : Cx} {e : Expr} {t : TT} (h : PW X e t) : PT X e t := h _
/-- an argument list (no star), from the left -/
def PA (X : Cx) (es : List Expr) (t : TA) : Prop :=
  ∀ (pos : Pos) (pins : List (Addr × Obj)) (s : Shared) (σ : St) (H : Hp) (Q : List V → Hp → Prop), Inv X pins σ H s → t σ H Q → wpAny (model X.prog X.w) X.A (spliced (backTo pos (starEach es X.env))) (AP X pins σ Q) X.xe s
def PS (X : Cx) (st : Stmt) (t : TS) : Prop :=
  ∀ (pins : List (Addr × Obj)) (s : Shared) (σ : St) (H : Hp) (D : Ends), Inv X pins σ H s → t D σ H → wpAny (model X.prog X.w) X.A (exec st X.env) (SP X pins D) X.xe s
def PSs (X : Cx) (st : List Stmt) (t : TS) : Prop :=
  ∀ (pins : List (Addr × Obj)) (s : Shared) (σ : St) (H : Hp) (D : Ends), Inv X pins σ H s → t D σ H → wpAny (model X.prog X.w) X.A (execs st X.env) (SP X pins D) X.xe s
/-- weaken the end -/
theorem thn {α : Type} {t : Sem α} {Q Q' : α → Shared → Prop} {M : Model} {A : Around} {E : Value → Shared → Prop} {s : Shared} (h : wpAny M A t Q E s) (hQ : ∀ a s, Q a s → Q' a s) : wpAny M A t Q' E s := wpAny_mono h hQ fun _ _ x => x
end L2

namespace L2
open PySem PySem.Spec PyProof.Rows
section
variable {X : Cx}

/-- two expressions in a row -/
theorem bin {a b : Expr} {ta tb : TE} (ha : PE X a ta) (hb : PE X b tb) {pins : List (Addr × Obj)} {s : Shared} {σ : St} {H : Hp} {R : V → V → Hp → Prop} (I : Inv X pins σ H s) (h : ta σ H fun x H1 => tb σ H1 fun y H2 => R x y H2)
    {α : Type} {Q : α → Shared → Prop} {f : Value → Value → Sem α}
    (hf : ∀ v u s2 x y H2, Inv X pins σ H2 s2 → RelV x v → RelV y u → R x y H2 → wpAny (model X.prog X.w) X.A (f v u) Q X.xe s2) :
    wpAny (model X.prog X.w) X.A (eval a X.env) (fun v s₁ => wpAny (model X.prog X.w) X.A (eval b X.env) (fun u s₂ => wpAny (model X.prog X.w) X.A (f v u) Q X.xe s₂) X.xe s₁) X.xe s := by
  refine thn (ha pins s σ H _ I h) fun v s1 ⟨x, H1, I1, r1, q1⟩ => ?_
  refine thn (hb pins s1 σ H1 _ I1 q1) fun u s2 ⟨y, H2, I2, r2, q2⟩ => ?_
  exact hf v u s2 x y H2 I2 r1 r2 q2

/-! ### names and constants -/
def tVar (i : Nat) : TE := fun σ H Q => ∃ v, σ[i]? = some (some v) ∧ Q v H
def tC (v : V) : TE := fun _ H Q => Q v H
theorem pe_var {i : Nat} {x : Str} {pos : Pos} (hN : X.N[i]? = some x) (hv : Vis X.env.scope x) (hd : (x == ("__debug__" : Str)) = false := by decide) (hcd : (x == ("__classdict__" : Str)) = false := by decide) : PE X (.Name x pos) (tVar i) := by
  intro pins s σ H Q I h
  obtain ⟨v, e, h⟩ := h
  obtain ⟨m, hn, hl⟩ := I.loc
  obtain ⟨u, r, l⟩ := hl i x v hN e hv
  have fin : EP X pins σ Q u s := ⟨v, H, I, r, h⟩
  rcases l with ⟨hk, hm⟩ | ⟨hk, c, hc, hcell⟩
  · exact wpAny_Name (wpAny_loadName_local I.ok.kind hk hn hm fin) hd
  · rcases hk with hk | hk
    · exact wpAny_Name (wpAny_loadName_cell I.ok.kind hk hc hcell fin) hd
    · exact wpAny_Name (wpAny_loadName_free I.ok.kind hk hc hcell fin hcd) hd
theorem pe_int {i j pos} : PE X (.Constant (.int i) j pos) (tC (.int i)) := fun _ _ _ H _ I h => wpAny_Constant_int ⟨.int i, H, I.tok _, ⟨_, rfl⟩, h⟩
theorem pe_bl {b j pos} : PE X (.Constant (.bool b) j pos) (tC (.bl b)) := fun _ _ _ H _ I h => Constant_bool ⟨.bl b, H, I, rfl, h⟩
theorem pe_non {j pos} : PE X (.Constant .none j pos) (tC .non) := fun _ _ _ H _ I h => Constant_none ⟨.non, H, I, rfl, h⟩
theorem pe_str {x j pos} : PE X (.Constant (.str x) j pos) (tC (.str x)) := fun _ _ _ H _ I h => Calls.Constant_str ⟨.str x, H, I.tok _, ⟨_, rfl⟩, h⟩

/-- a global name of the def -/
def Gl (X : Cx) (x : Str) : Prop := X.env.kindOf x = some .globalImplicit
theorem ld_glob {E : Value → Shared → Prop} {pins : List (Addr × Obj)} {s : Shared} {σ : St} {H : Hp} {x : Str} {u : Value} {pos : Pos} {Q : Value → Shared → Prop} (I : Inv X pins σ H s) (hg : Gl X x) (hm : X.mg x = some u) (h : Q u s)
    (hd : (x == ("__debug__" : Str)) = false := by decide) : wpAny (model X.prog X.w) X.A (eval (.Name x pos) X.env) Q E s :=
  Calls.Name_function_global I.ok.kind hg (Calls.loadGlobal_global (by rw [I.ok.glob]; exact I.mod.glob.keeps I.bk) hm h) hd
theorem ld_blt {E : Value → Shared → Prop} {pins : List (Addr × Obj)} {s : Shared} {σ : St} {H : Hp} {x : Str} {u : Value} {pos : Pos} {Q : Value → Shared → Prop} (I : Inv X pins σ H s) (hg : Gl X x) (hm : X.mg x = none) (hv : bootBuiltins x = some u) (h : Q u s)
    (hn : x ≠ "__name__" := by decide) (hd : (x == ("__debug__" : Str)) = false := by decide) : wpAny (model X.prog X.w) X.A (eval (.Name x pos) X.env) Q E s := by
  obtain ⟨mb, h1, h2⟩ := I.mod.blt
  exact Calls.Name_function_global I.ok.kind hg (Calls.loadGlobal_builtin (by rw [I.ok.glob]; exact I.mod.glob.keeps I.bk) hm (by rw [I.ok.blt]; exact h1.keeps I.bk) ((h2 x hn).trans hv) h) hd
/-- a module's constant, a class, a function, as a value -/
theorem pe_glob {x : Str} {v : V} {u : Value} {pos : Pos} (hg : Gl X x) (hm : X.mg x = some u) (r : RelV v u) (hd : (x == ("__debug__" : Str)) = false := by decide) : PE X (.Name x pos) (tC v) :=
  fun _ _ _ H _ I h => ld_glob I hg hm ⟨v, H, I, r, h⟩ hd
theorem pe_bltn {x : Str} {v : V} {u : Value} {pos : Pos} (hg : Gl X x) (hm : X.mg x = none) (hv : bootBuiltins x = some u) (r : RelV v u) (hn : x ≠ "__name__" := by decide) (hd : (x == ("__debug__" : Str)) = false := by decide) : PE X (.Name x pos) (tC v) :=
  fun _ _ _ H _ I h => ld_blt I hg hm hv ⟨v, H, I, r, h⟩ hn hd

variable {a b : Expr} {ta tb : TE} {pos : Pos}
/-! ### comparisons -/
def PC (X : Cx) (op : CmpOp) (a b : Expr) (t : TE) : Prop :=
  ∀ (pins : List (Addr × Obj)) (s : Shared) (σ : St) (H : Hp) (Q : VK), Inv X pins σ H s → t σ H Q →
    wpAny (model X.prog X.w) X.A (eval a X.env) (fun v s₁ => wpAny (model X.prog X.w) X.A (eval b X.env) (fun u s₂ => wpAny (model X.prog X.w) X.A (compareOp op v u) (EP X pins σ Q) X.xe s₂) X.xe s₁) X.xe s
theorem nobehind (b : Expr) {op : CmpOp} (h : op ≠ .In) (h2 : op ≠ .NotIn) : behindInMarks op b = false := by
  have e1 : (op == CmpOp.In) = false := by cases op <;> first | rfl | exact absurd rfl h
  have e2 : (op == CmpOp.NotIn) = false := by cases op <;> first | rfl | exact absurd rfl h2
  cases b <;> simp [behindInMarks, e1, e2]
/-- is None -/
def tIsN (ta : TE) : TE := fun σ H Q => ta σ H fun x H1 => Q (.bl (decide (x = .non))) H1
def tNotN (ta : TE) : TE := fun σ H Q => ta σ H fun x H1 => Q (.bl (!decide (x = .non))) H1
theorem RelV.none_iff {x : V} {v : Value} (r : RelV x v) : (v == Value.none) = decide (x = .non) := by
  cases x with
  | non => cases r; rfl
  | bl _ => cases r; rfl
  | int _ => obtain ⟨t, rfl⟩ := r; rfl
  | str _ => obtain ⟨t, rfl⟩ := r; rfl
  | byt _ => obtain ⟨t, rfl⟩ := r; rfl
  | flt _ => obtain ⟨t, rfl⟩ := r; rfl
  | ref _ => cases r; rfl
  | ty _ => cases r; rfl
theorem pc_isN {j pos'} (ha : PE X a ta) : PC X .Is a (.Constant .none j pos') (tIsN ta) := by
  intro pins s σ H Q I h
  refine thn (ha pins s σ H _ I h) fun v s1 ⟨x, H1, I1, r1, q1⟩ => ?_
  exact Constant_none (is_none_gen ⟨.bl _, H1, I1, by rw [r1.none_iff]; rfl, q1⟩)
theorem pc_notN {j pos'} (ha : PE X a ta) : PC X .IsNot a (.Constant .none j pos') (tNotN ta) := by
  intro pins s σ H Q I h
  refine thn (ha pins s σ H _ I h) fun v s1 ⟨x, H1, I1, r1, q1⟩ => ?_
  exact Constant_none (isnot_none_gen ⟨.bl _, H1, I1, by rw [r1.none_iff]; rfl, q1⟩)
/-- a comparison as a value, as a test -/
def tB (t : TE) : TT := fun σ H Q => t σ H fun x H1 => ∃ c, x = .bl c ∧ Q c H1
theorem pe_cmp {op : CmpOp} {t : TE} (h : PC X op a b t) (h1 : behindInMarks op b = false := by first | exact nobehind _ (by decide) (by decide) | rfl) : PE X (.Compare a [op] [b] pos) t := fun pins s σ H Q I hw => wpAny_Compare1 (h pins s σ H Q I hw) h1
theorem pt_cmp {op : CmpOp} {t : TE} (h : PC X op a b t) (h1 : behindInMarks op b = false := by first | exact nobehind _ (by decide) (by decide) | rfl) : PT X (.Compare a [op] [b] pos) (tB t) := by
  intro pins s σ H Q I hw
  refine wpAny_isTrue_Compare1 (thn (h pins s σ H _ I hw) fun v s1 h1 => thn h1 fun u s2 h2 => thn h2 fun c s3 ⟨x, H1, I1, r1, q1⟩ => ?_) h1
  obtain ⟨d, rfl, q⟩ := q1
  cases r1
  exact wpAny_truthy_bool ⟨H1, I1, q⟩
/-- an expression whose value is a bool, as a test -/
theorem pt_val {e : Expr} {t : TE} (h : PE X e t) (he : ∀ whole, isTrue e X.env whole = (do let v ← whole; standAt e.pos; holding [v] (truthy v)) := by intro _; rfl) : PT X e (tB t) := by
  intro pins s σ H Q I hw
  refine isTrue_plain (thn (h pins s σ H _ I hw) fun v s1 ⟨x, H1, I1, r1, q1⟩ => ?_) (he _)
  obtain ⟨d, rfl, q⟩ := q1
  cases r1
  exact wpAny_truthy_bool ⟨H1, I1, q⟩

/-! ### and, or, not -/
variable {tA tB' : TT} {rest : List Expr}
def tAnd (t u : TT) : TT := fun σ H Q => t σ H fun c H1 => if c = true then u σ H1 Q else Q false H1
def tOr (t u : TT) : TT := fun σ H Q => t σ H fun c H1 => if c = true then Q true H1 else u σ H1 Q
def tNot (t : TT) : TT := fun σ H Q => t σ H fun c H1 => Q (!c) H1
theorem pw_and1 (ha : PT X a tA) : PW X (.BoolOp .And [a] pos) tA := by
  intro wh pins s σ H Q I h
  refine isTrue_and (thn (ha pins s σ H Q I h) fun c s1 e => ?_)
  cases c with
  | true => exact isTrue_and_nil e
  | false => exact e
theorem pw_or1 (ha : PT X a tA) : PW X (.BoolOp .Or [a] pos) tA := by
  intro wh pins s σ H Q I h
  refine isTrue_or (thn (ha pins s σ H Q I h) fun c s1 e => ?_)
  cases c with
  | false => exact isTrue_or_nil e
  | true => exact e
theorem pw_and (ha : PT X a tA) (hb : PW X (.BoolOp .And (b :: rest) pos) tB') : PW X (.BoolOp .And (a :: b :: rest) pos) (tAnd tA tB') := by
  intro wh pins s σ H Q I h
  refine isTrue_and (thn (ha pins s σ H _ I h) fun c s1 ⟨H1, I1, q1⟩ => ?_)
  cases c with
  | true => exact hb wh pins s1 σ H1 Q I1 q1
  | false => exact ⟨H1, I1, q1⟩
theorem pw_or (ha : PT X a tA) (hb : PW X (.BoolOp .Or (b :: rest) pos) tB') : PW X (.BoolOp .Or (a :: b :: rest) pos) (tOr tA tB') := by
  intro wh pins s σ H Q I h
  refine isTrue_or (thn (ha pins s σ H _ I h) fun c s1 ⟨H1, I1, q1⟩ => ?_)
  cases c with
  | true => exact ⟨H1, I1, q1⟩
  | false => exact hb wh pins s1 σ H1 Q I1 q1
theorem pt_not (ha : PT X a tA) : PT X (.UnaryOp .Not a pos) (tNot tA) := by
  intro pins s σ H Q I h
  exact isTrue_not (ha pins s σ H (fun c H1 => Q (!c) H1) I h)
/-- .. as values (bools) -/
def tAndV (ta tb : TE) : TE := fun σ H Q => ta σ H fun x H1 => ∃ c, x = .bl c ∧ if c = true then tb σ H1 Q else Q (.bl false) H1
theorem pe_one {op} {t : TE} (h : PE X a t) : PE X (.BoolOp op [a] pos) t := fun pins s σ H Q I hw => BoolOp_one (h pins s σ H Q I hw)
theorem pe_and (ha : PE X a ta) (hb : PE X (.BoolOp .And (b :: rest) pos) tb) : PE X (.BoolOp .And (a :: b :: rest) pos) (tAndV ta tb) := by
  intro pins s σ H Q I h
  refine BoolOp_and (thn (ha pins s σ H _ I h) fun v s1 ⟨x, H1, I1, r1, q1⟩ => ?_)
  obtain ⟨c, rfl, q1⟩ := q1
  cases r1
  refine wpAny_truthy_bool ?_
  cases c with
  | true => exact hb pins s1 σ H1 Q I1 q1
  | false => exact ⟨.bl false, H1, I1, rfl, q1⟩
/-- a if t else b -/
def tIf (t : TT) (ta tb : TE) : TE := fun σ H Q => t σ H fun c H1 => if c = true then ta σ H1 Q else tb σ H1 Q
theorem pe_ifExp {c : Expr} (hc : PT X c tA) (ha : PE X a ta) (hb : PE X b tb) : PE X (.IfExp c a b pos) (tIf tA ta tb) := by
  intro pins s σ H Q I h
  refine wpAny_IfExp (thn (hc pins s σ H _ I h) fun d s1 ⟨H1, I1, q1⟩ => ?_)
  cases d with
  | true => exact ha pins s1 σ H1 Q I1 q1
  | false => exact hb pins s1 σ H1 Q I1 q1
end
end L2

namespace L2
open PySem PySem.Spec PyProof.Rows

/-! ### a list, a tuple that is read: tracked, frozen, or an object of the module -/
def SqL (K : PySem.W.Frag) (H : Hp) (a : Addr) (xs : List V) : Prop :=
  Rd H a (.lst xs) ∨
    ∃ (o : Obj) (its : Array Value) (n : Nat), K.lookup a = some o ∧ o.cls = .type "list" ∧ o.dict = none ∧ o.data = .seq its n ∧ its.size ≤ sizeLine ∧ Vals xs its.toList
def SqT (K : PySem.W.Frag) (H : Hp) (a : Addr) (xs : List V) : Prop :=
  Rd H a (.tup xs) ∨
    ∃ (o : Obj) (its : Array Value) (n : Nat), K.lookup a = some o ∧ o.cls = .type "tuple" ∧ o.data = .seq its n ∧ its.size ≤ sizeLine ∧ Vals xs its.toList
def absV : Value → Option V
  | .none => some .non
  | .bool b => some (.bl b)
  | .int i _ => some (.int i)
  | .str x _ => some (.str x)
  | .bytes b _ => some (.byt b)
  | .float b _ => some (.flt b)
  | .ref a => some (.ref a)
  | .type n => some (.ty n)
  | _ => none
theorem RelV.abs {x : V} {u : Value} (r : RelV x u) : absV u = some x := by
  cases x with
  | non => cases r; rfl
  | bl _ => cases r; rfl
  | int _ => obtain ⟨t, rfl⟩ := r; rfl
  | str _ => obtain ⟨t, rfl⟩ := r; rfl
  | byt _ => obtain ⟨t, rfl⟩ := r; rfl
  | flt _ => obtain ⟨t, rfl⟩ := r; rfl
  | ref _ => cases r; rfl
  | ty _ => cases r; rfl
theorem RelV.inj {x y : V} {u : Value} (r : RelV x u) (q : RelV y u) : x = y := Option.some.inj (r.abs.symm.trans q.abs)
theorem Vals.inj : ∀ {xs ys : List V} {us : List Value}, Vals xs us → Vals ys us → xs = ys
  | _, _, _, .nil, .nil => rfl
  | _, _, _, .cons r t, .cons r' t' => by rw [r.inj r', Vals.inj t t']
section
variable {X : Cx} {pins : List (Addr × Obj)} {σ : St} {H : Hp} {s : Shared} {a : Addr} {xs ys : List V}
theorem SqL.of {K : PySem.W.Frag} (h : H a = some (.lst xs)) : SqL K H a xs := .inl (.inl h)
theorem SqT.of {K : PySem.W.Frag} (h : H a = some (.tup xs)) : SqT K H a xs := .inl (.inl h)
theorem Inv.list (I : Inv X pins σ H s) (h : SqL X.K H a xs) : ∃ its : List Value, Vals xs its ∧ PlainL s.heap a its.toArray ∧ xs.length ≤ sizeLine := by
  rcases h with h | ⟨o, its, n, hk, hc, hd, hs, hz, r⟩
  · obtain ⟨z, its, n, r, e⟩ := h.ok I.hok
    exact ⟨its, r, ⟨_, n, e, rfl, rfl, rfl⟩, z⟩
  · refine ⟨its.toList, r, ⟨o, n, I.kIn a o hk, hc, hd, by simpa using hs⟩, ?_⟩
    have e := r.length
    simp only [Array.length_toList] at e
    omega
theorem Inv.tuple (I : Inv X pins σ H s) (h : SqT X.K H a xs) : ∃ its : List Value, Vals xs its ∧ IsTup s.heap a its.toArray ∧ xs.length ≤ sizeLine := by
  rcases h with h | ⟨o, its, n, hk, hc, hs, hz, r⟩
  · obtain ⟨z, its, r, p⟩ := h.ok I.hok
    exact ⟨its, r, p, z⟩
  · refine ⟨its.toList, r, ⟨o, I.kIn a o hk, hc, n, by simpa using hs⟩, ?_⟩
    have e := r.length
    simp only [Array.length_toList] at e
    omega
theorem Inv.list_inj (I : Inv X pins σ H s) (h : SqL X.K H a xs) (h' : SqL X.K H a ys) : xs = ys := by
  obtain ⟨its, r, ⟨o, n, e, _, _, d⟩, _⟩ := I.list h
  obtain ⟨its', r', ⟨o', n', e', _, _, d'⟩, _⟩ := I.list h'
  rw [e] at e'; cases e'
  rw [d] at d'
  injection d' with d1 _
  have : its = its' := by simpa using congrArg Array.toList d1
  subst this
  exact r.inj r'
end

/-! ### another wish about exceptions -/
abbrev Cx.wish (X : Cx) (E : Value → Shared → Prop) : Cx := { X with xe := E }
/-- no exception leaves -/
abbrev Cx.nox (X : Cx) : Cx := X.wish fun _ _ => False
theorem Cx.Ok.wish {X : Cx} (ok : X.Ok) (E : Value → Shared → Prop) : (X.wish E).Ok :=
  ⟨ok.mod, ok.kind, ok.glob, ok.blt, ok.above, ok.inj, ok.has, ok.cab, ok.hd, ok.frames, ok.stk, ok.exf, ok.bs, ok.bsz, ok.noex, ok.exfs, ok.funs, ok.frf⟩
theorem Cx.Ok.unwish {X : Cx} {E : Value → Shared → Prop} (ok : (X.wish E).Ok) : X.Ok :=
  ⟨ok.mod, ok.kind, ok.glob, ok.blt, ok.above, ok.inj, ok.has, ok.cab, ok.hd, ok.frames, ok.stk, ok.exf, ok.bs, ok.bsz, ok.noex, ok.exfs, ok.funs, ok.frf⟩
section
variable {X : Cx} {pins : List (Addr × Obj)} {σ : St} {H : Hp} {s : Shared} {E : Value → Shared → Prop}
theorem Inv.wish (I : Inv X pins σ H s) (E : Value → Shared → Prop) : Inv (X.wish E) pins σ H s := ⟨I.ok.wish E, I.os, I.bare, I.base, I.loc, I.cell, I.free, I.freeC, I.pin, I.hok, I.len⟩
theorem Inv.unwish (I : Inv (X.wish E) pins σ H s) : Inv X pins σ H s := ⟨I.ok.unwish, I.os, I.bare, I.base, I.loc, I.cell, I.free, I.freeC, I.pin, I.hok, I.len⟩
theorem SP.unwish {D : Ends} {f : Flow} {s' : Shared} (h : SP (X.wish E) pins D f s') : SP X pins D f s' := by
  cases f with
  | next => obtain ⟨σ', H', I, q⟩ := h; exact ⟨σ', H', I.unwish, q⟩
  | brk => obtain ⟨σ', H', I, q⟩ := h; exact ⟨σ', H', I.unwish, q⟩
  | cont => obtain ⟨σ', H', I, q⟩ := h; exact ⟨σ', H', I.unwish, q⟩
  | ret u => obtain ⟨v, σ', H', I, r, q⟩ := h; exact ⟨v, σ', H', I.unwish, r, q⟩
theorem PSs.nox {st : List Stmt} {t : TS} (h : PSs X.nox st t) : PSs X st t := fun pins s σ H D I hw =>
  wpAny_mono (h pins s σ H D (I.wish _) hw) (fun _ _ q => q.unwish) fun _ _ z => False.elim z
end

/-! ### blocks and small statements -/
section
variable {X : Cx} {st : Stmt} {rest : List Stmt} {t u : TS} {e : Expr} {te : TE} {pos : Pos}
def tNext : TS := fun D σ H => D.nx σ H
def tSeq (t u : TS) : TS := fun D σ H => t { D with nx := u D } σ H
theorem pss_nil : PSs X [] tNext := fun _ _ σ H _ I h => wpAny_execs_nil ⟨σ, H, I, h⟩
theorem pss_cons (h1 : PS X st t) (h2 : PSs X rest u) : PSs X (st :: rest) (tSeq t u) := by
  intro pins s σ H D I h
  refine wpAny_execs_cons (thn (h1 pins s σ H { D with nx := u D } I h) fun f s1 q => ?_)
  cases f with
  | next =>
    obtain ⟨σ', H', I', q⟩ := q
    exact h2 pins s1 σ' H' D I' q
  | ret v => exact q
  | brk => exact q
  | cont => exact q
theorem pss_one (h1 : PS X st t) : PSs X [st] t := by
  intro pins s σ H D I h
  refine wpAny_execs_cons (thn (h1 pins s σ H D I h) fun f s1 q => ?_)
  cases f with
  | next => exact wpAny_execs_nil q
  | ret v => exact q
  | brk => exact q
  | cont => exact q
/-- in a def's body nothing is shown -/
theorem Inv.quiet {pins : List (Addr × Obj)} {σ : St} {H : Hp} {s : Shared} (I : Inv X pins σ H s) : interactive X.env = false := by simp [interactive, I.ok.kind]
/-- an expression whose value is dropped -/
def tDrop (te : TE) : TS := fun D σ H => te σ H fun _ H1 => D.nx σ H1
theorem ps_expr (he : PE X e te) (hs : swapsWith e none pos.line X.env = pure false := by rfl) : PS X (.Expr e pos) (tDrop te) := by
  intro pins s σ H D I h
  exact wpAny_Expr_any (thn (he pins s σ H _ I h) fun v s1 ⟨x, H1, I1, r1, q1⟩ => ⟨σ, H1, I1, q1⟩) I.quiet hs
def tRet (te : TE) : TS := fun D σ H => te σ H D.rt
theorem ps_ret (he : PE X e te) : PS X (.Return (some e) pos) (tRet te) := by
  intro pins s σ H D I h
  exact wpAny_Return_some (thn (he pins s σ H _ I h) fun v s1 ⟨x, H1, I1, r1, q1⟩ => ⟨x, σ, H1, I1, r1, q1⟩)
def tIfS (c : TT) (t u : TS) : TS := fun D σ H => c σ H fun b H1 => if b = true then t D σ H1 else u D σ H1
theorem ps_if {c : Expr} {a b : List Stmt} {tc : TT} (hc : PT X c tc) (ha : PSs X a t) (hb : PSs X b u) : PS X (.If c a b pos) (tIfS tc t u) := by
  intro pins s σ H D I h
  refine wpAny_If (thn (hc pins s σ H _ I h) fun d s1 ⟨H1, I1, q1⟩ => ?_)
  cases d with
  | true => exact ha pins s1 σ H1 D I1 q1
  | false => exact hb pins s1 σ H1 D I1 q1
/-- code that the proof never comes to -/
def tNever : TS := fun _ _ _ => False
theorem ps_never : PS X st tNever := fun _ _ _ _ _ _ h => h.elim
end

/-! ### targets -/
abbrev TG := V → St → Hp → (St → Hp → Prop) → Prop
abbrev TGs := List V → St → Hp → (St → Hp → Prop) → Prop
def PG (X : Cx) (target : Expr) (t : TG) : Prop :=
  ∀ (pins : List (Addr × Obj)) (s : Shared) (σ : St) (H : Hp) (v : V) (u : Value) (Q : St → Hp → Prop), Inv X pins σ H s → RelV v u → t v σ H Q →
    wpAny (model X.prog X.w) X.A (assign target X.env u) (fun _ s' => ∃ σ' H', Inv X pins σ' H' s' ∧ Q σ' H') X.xe s
/-- several targets, one after another -/
def PGs (X : Cx) (ts : List Expr) (t : TGs) : Prop :=
  ∀ (pins : List (Addr × Obj)) (s : Shared) (σ : St) (H : Hp) (vs : List V) (us : List Value) (Q : St → Hp → Prop), Inv X pins σ H s → Vals vs us → t vs σ H Q →
    wpAny (model X.prog X.w) X.A (assignInOrder ((assignEach ts X.env).map (·.2)) us) (fun _ s' => ∃ σ' H', Inv X pins σ' H' s' ∧ Q σ' H') X.xe s
/-- a op= b, by values -/
abbrev TIp := V → V → Hp → VK → Prop
def PIp (X : Cx) (op : Operator) (t : TIp) : Prop :=
  ∀ (pins : List (Addr × Obj)) (s : Shared) (σ : St) (H : Hp) (x y : V) (v u : Value) (Q : VK), Inv X pins σ H s → RelV x v → RelV y u → t x y H Q →
    wpAny (model X.prog X.w) X.A (inplaceOp op v u) (EP X pins σ Q) X.xe s
section
variable {X : Cx} {pos : Pos}
def gName (i : Nat) : TG := fun v σ H Q => Q (σ.set i (some v)) H
theorem pg_name {i : Nat} {x : Str} (hN : X.N.Nodup) (hi : X.N[i]? = some x) (hx : Loc X.env.scope x) (hf : X.fn x = true ∨ X.env.scope.names.lookup x = some .local := by first | exact .inl rfl | exact .inr rfl | assumption) : PG X (.Name x pos) (gName i) := by
  intro pins s σ H v u Q I r h
  exact wpAny_assign_Name (store_ok I hN hi hx r (fun s' I' => ⟨_, H, I', h⟩) hf)
def gNil : TGs := fun vs σ H Q => vs = [] ∧ Q σ H
def gCons (t : TG) (u : TGs) : TGs := fun vs σ H Q => ∃ v r, vs = v :: r ∧ t v σ H fun σ' H' => u r σ' H' Q
theorem pgs_nil : PGs X [] gNil := by
  intro pins s σ H vs us Q I r h
  obtain ⟨e, h⟩ := h
  subst e
  cases r
  exact assignInOrder_nil ⟨σ, H, I, h⟩
theorem pgs_cons {e : Expr} {es : List Expr} {t : TG} {u : TGs} (h1 : PG X e t) (h2 : PGs X es u)
    (hs : (assignEach (e :: es) X.env).map (·.2) = assign e X.env :: (assignEach es X.env).map (·.2) := by rfl) : PGs X (e :: es) (gCons t u) := by
  intro pins s σ H vs us Q I r h
  obtain ⟨v, vr, e1, h⟩ := h
  subst e1
  cases r with
  | cons r rr =>
    rw [hs]
    refine assignInOrder_cons (thn (h1 pins s σ H _ _ _ I r h) fun _ s1 ⟨σ1, H1, I1, q1⟩ => ?_)
    exact h2 pins s1 σ1 H1 _ _ Q I1 rr q1
/-- (a, b, ..) = a tuple of that length -/
def gTup (K : PySem.W.Frag) (n : Nat) (t : TGs) : TG := fun v σ H Q => ∃ a xs, v = .ref a ∧ SqT K H a xs ∧ xs.length = n ∧ t xs σ H Q
theorem pg_tup {es : List Expr} {k : Nat} {t : TGs} {n : Nat} (hc : X.calm = true) (h : PGs X es t)
    (hn : (assignEach es X.env).length = n := by rfl) (hst : (assignEach es X.env).findIdx? (·.1) = none := by rfl) : PG X (.Tuple es k pos) (gTup X.K n t) := by
  intro pins s σ H v u Q I r hw
  obtain ⟨a, xs, e1, hq, hl, hw⟩ := hw
  subst e1
  cases r
  obtain ⟨its, rv, ht, hz⟩ := I.tuple hq
  refine assign_Tuple_tuple (I.ok.hd hc) ht (by simp [hn, ← hl, rv.length]) hst fun h' hx => ?_
  have I1 : Inv X pins σ H { s with heap := h' } := I.kept (t' := s.toks) fun b o e => hx b o (Nat.ne_of_lt (Heap.lt_size e)) e
  exact h pins _ σ H xs _ Q I1 (by simpa using rv) hw
/-- target = value -/
def tAsg (te : TE) (g : TG) : TS := fun D σ H => te σ H fun x H1 => g x σ H1 D.nx
/-- name = value -/
theorem ps_set {i : Nat} {x : Str} {e : Expr} {te : TE} {pos' : Pos} (hN : X.N.Nodup) (hi : X.N[i]? = some x) (hx : Loc X.env.scope x) (he : PE X e te) (hs : swapsWith e (some (.Name x pos')) pos.line X.env = pure false := by rfl) (hf : X.fn x = true ∨ X.env.scope.names.lookup x = some .local := by first | exact .inl rfl | exact .inr rfl | assumption) :
    PS X (.Assign [.Name x pos'] e pos) (tAsg te (gName i)) := by
  intro pins s σ H D I h
  refine wpAny_Assign_Name (thn (he pins s σ H _ I h) fun v s1 ⟨y, H1, I1, r1, q1⟩ => ?_) hs
  exact store_ok I1 hN hi hx r1 (fun s2 I2 => ⟨_, H1, I2, q1⟩) hf
/-- name op= e -/
def tAug (i : Nat) (te : TE) (ti : TIp) : TS := fun D σ H => ∃ x, σ[i]? = some (some x) ∧ te σ H fun y H1 => ti x y H1 fun z H2 => D.nx (σ.set i (some z)) H2
theorem ps_aug {i : Nat} {x : Str} {e : Expr} {te : TE} {op : Operator} {ti : TIp} {pos' : Pos} (hN : X.N.Nodup) (hi : X.N[i]? = some x) (hx : Loc X.env.scope x) (he : PE X e te) (ho : PIp X op ti) (hf : X.fn x = true ∨ X.env.scope.names.lookup x = some .local := by first | exact .inl rfl | exact .inr rfl | assumption) :
    PS X (.AugAssign (.Name x pos') op e pos) (tAug i te ti) := by
  intro pins s σ H D I h
  obtain ⟨v, e1, h⟩ := h
  obtain ⟨m, hn, hl⟩ := I.loc
  have vis : Vis X.env.scope x := by rcases hx with k | k; exact .inl k; exact .inr (.inl k)
  obtain ⟨u, r, l⟩ := hl i x v hi e1 vis
  refine wpAny_AugAssign_Name ?_
  have go : wpAny (model X.prog X.w) X.A (eval e X.env) (fun w s₂ => wpAny (model X.prog X.w) X.A (inplaceOp op u w) (fun r s₃ => wpAny (model X.prog X.w) X.A (storeName X.env x r) (fun _ => SP X pins D .next) X.xe s₃) X.xe s₂) X.xe s := by
    refine thn (he pins s σ H _ I h) fun w s1 ⟨y, H1, I1, r1, q1⟩ => ?_
    refine thn (ho pins s1 σ H1 v y u w _ I1 r r1 q1) fun z s2 ⟨zv, H2, I2, r2, q2⟩ => ?_
    exact store_ok I2 hN hi hx r2 (fun s3 I3 => ⟨_, H2, I3, q2⟩) hf
  rcases l with ⟨hk, hm⟩ | ⟨hk, c, hc, hcell⟩
  · exact wpAny_loadName_local I.ok.kind hk hn hm go
  · rcases hk with hk | hk
    · exact wpAny_loadName_cell I.ok.kind hk hc hcell go
    · rcases hx with k | k
      · have : X.env.scope.names.lookup x = some .free := hk
        rw [k] at this; cases this
      · have : X.env.scope.names.lookup x = some .free := hk
        rw [k] at this; cases this
/-- ints -/
def ipI (f : Int → Int → Int) : TIp := fun x y H Q => ∃ i j, x = .int i ∧ y = .int j ∧ Q (.int (f i j)) H
theorem ip_add : PIp X .Add (ipI fun i j => i + j) := by
  intro pins s σ H x y v u Q I r1 r2 h
  obtain ⟨i, j, e1, e2, q⟩ := h
  subst e1; subst e2
  obtain ⟨t, rfl⟩ := r1
  obtain ⟨t', rfl⟩ := r2
  exact iadd_int ⟨.int _, H, I.tok _, ⟨_, rfl⟩, q⟩
end

/-! ### while -/
section
variable {X : Cx} {pos : Pos}
/-- the invariant W with its measure -/
def tWhile (c : TT) (tb : TS) : TS := fun D σ H => ∃ W : Nat → St → Hp → Prop, (∃ m, W m σ H) ∧ ∀ m σ H, W m σ H →
  c σ H fun b H1 => if b = true then ∃ N : St → Hp → Prop, (∀ σ' H', N σ' H' → ∃ m', m' < m ∧ W m' σ' H') ∧ tb { D with nx := N, ct := N, bk := D.nx } σ H1 else D.nx σ H1
theorem ps_while {c : Expr} {body : List Stmt} {tc : TT} {tb : TS} (hp : PassesOwn (model X.prog X.w) X.A X.env X.xe) (hc : PT X c tc) (hb : PSs X body tb) : PS X (.While c body [] pos) (tWhile tc tb) := by
  intro pins s σ H D I h
  obtain ⟨W, ⟨m0, w0⟩, turn⟩ := h
  refine wpAny_While (codeAny_whileLoop (fun n s' => ∃ σ' H', Inv X pins σ' H' s' ∧ W n σ' H') ?_ m0 ⟨σ, H, I, w0⟩)
  rintro n s1 ⟨σ1, H1, I1, w1⟩
  refine wpAny_passesOwn hp (thn (hc pins s1 σ1 H1 _ I1 (turn n σ1 H1 w1)) fun b s2 ⟨H2, I2, q2⟩ => ?_)
  cases b with
  | true =>
    obtain ⟨N, hN, q2⟩ := q2
    rw [if_pos rfl]
    refine wpAny_passesOwn hp (thn (hb pins s2 σ1 H2 _ I2 q2) fun f s3 q3 => ?_)
    cases f with
    | next =>
      obtain ⟨σ3, H3, I3, n3⟩ := q3
      obtain ⟨m', hm, w3⟩ := hN σ3 H3 n3
      exact ⟨m', hm, σ3, H3, I3, w3⟩
    | cont =>
      obtain ⟨σ3, H3, I3, n3⟩ := q3
      obtain ⟨m', hm, w3⟩ := hN σ3 H3 n3
      exact ⟨m', hm, σ3, H3, I3, w3⟩
    | brk => exact q3
    | ret v => exact q3
  | false =>
    rw [if_neg Bool.false_ne_true]
    exact wpAny_execs_nil ⟨σ1, H2, I2, q2⟩
end

/-! ### what a loop or a comprehension walks -/
/-- at turn i: it yields x (the heap may grow), or it stops -/
structure It where
  go : Nat → Hp → Prop
  yld : Nat → Hp → V → Hp → Prop
  stop : Nat → Hp → Prop
/-- the iterator's own objects may turn: they are not the frame's, not pinned, younger than the entry (or a comprehension's own) -/
def FpOk (X : Cx) (pins : List (Addr × Obj)) (H : Hp) (b : Addr) : Prop :=
  H b = none ∧ b ≠ X.env.locals ∧ b ∉ X.fs ∧ (b ∈ X.ex ∨ X.s₀.heap.objs.size ≤ b) ∧ (∀ x c, X.env.cells.lookup x = some c → c ≠ b) ∧ ∀ p ∈ X.pn ++ pins, p.1 ≠ b
theorem Inv.fpOk {X : Cx} {pins : List (Addr × Obj)} {σ : St} {H H' : Hp} {s : Shared} {b : Addr} (I : Inv X pins σ H s) (hb : s.heap.objs.size ≤ b) (hn : H' b = none) : FpOk X pins H' b := by
  refine ⟨hn, Nat.ne_of_gt (Nat.lt_of_lt_of_le I.lt hb), I.nofs hb, .inr (Nat.le_trans I.sz hb), fun x c e z => ?_, fun p hp z => ?_⟩
  · obtain ⟨v, q⟩ := I.cell x c e
    exact absurd (Nat.lt_of_lt_of_le q.lt (by rw [z]; exact hb)) (Nat.lt_irrefl _)
  · exact absurd (Nat.lt_of_lt_of_le (Heap.lt_size (I.pin p hp).1) (by rw [z]; exact hb)) (Nat.lt_irrefl _)
structure Turn (P : Program) (w : World) (K : PySem.W.Frag) (tg : Expr) (J : It) (fp : List Addr) (it : Addr) (tn : Nat → Heap → Prop) : Prop where
  mem : it ∈ fp
  obj : ∀ i h, tn i h → ∀ b ∈ fp, ∃ o, h.get? b = some o ∧ ∀ v, o.data ≠ .cell v
  keep : ∀ i h h', tn i h → (∀ b ∈ fp, ∀ o, h.get? b = some o → h'.get? b = some o) → tn i h'
  item : ∀ (X : Cx), X.prog = P → X.w = w → X.K = K → X.calm = true → ∀ (i : Nat) (pins : List (Addr × Obj)) (s : Shared) (σ : St) (H : Hp) (E : Value → Shared → Prop), Inv X pins σ H s → (∀ b ∈ fp, FpOk X pins H b) → tn i s.heap → J.go i H →
    wpAny (model P w) X.A (pyNext (.ref it)) (fun r s1 => ∃ u, r = some u ∧
      wpAny (model P w) X.A (letOwnedTupleGo tg (.ref it) u) (fun _ s2 => ∃ x H', Inv X pins σ H' s2 ∧ RelV x u ∧ J.yld i H x H' ∧ tn (i + 1) s2.heap ∧ ∀ b ∈ fp, H' b = none) E s1) E s
  done : ∀ (X : Cx), X.prog = P → X.w = w → X.K = K → X.calm = true → ∀ (i : Nat) (pins : List (Addr × Obj)) (s : Shared) (σ : St) (H : Hp) (E : Value → Shared → Prop), Inv X pins σ H s → (∀ b ∈ fp, FpOk X pins H b) → tn i s.heap → J.stop i H →
    wpAny (model P w) X.A (pyNext (.ref it)) (fun r s1 => r = none ∧ Inv X pins σ H s1) E s
  self : ∀ (A : Around) (i : Nat) (s : Shared) (Q : Value → Shared → Prop) (E : Value → Shared → Prop), tn i s.heap → Q (.ref it) s → wpAny (model P w) A (pyIter (.ref it)) Q E s
abbrev TI := St → Hp → (It → Hp → Prop) → Prop
/-- an iterator has come -/
def PIE (X : Cx) (pins : List (Addr × Obj)) (σ : St) (tg : Expr) (R : It → Hp → Prop) (itv : Value) (s2 : Shared) : Prop :=
  ∃ (it : Addr) (fp : List Addr) (tn : Nat → Heap → Prop) (J : It) (H' : Hp), itv = .ref it ∧ Inv X pins σ H' s2 ∧ Turn X.prog X.w X.K tg J fp it tn ∧ tn 0 s2.heap ∧ (∀ b ∈ fp, FpOk X pins H' b) ∧ R J H'
def PI (X : Cx) (tg iter : Expr) (wi : TI) : Prop :=
  ∀ (pins : List (Addr × Obj)) (s : Shared) (σ : St) (H : Hp) (R : It → Hp → Prop), Inv X pins σ H s → wi σ H R →
    wpAny (model X.prog X.w) X.A (eval iter X.env) (fun v s1 => wpAny (model X.prog X.w) X.A (pyIter v) (PIE X pins σ tg R) X.xe s1) X.xe s

/-- the step ahead of the store is nothing for an iterator that keeps no tuple -/
theorem go_of {M : Model} {A : Around} {E : Value → Shared → Prop} {s : Shared} {tg : Expr} {it : Addr} {u : Value} {o : Obj} {n : String} {vs : Array Value} {Q : Unit → Shared → Prop} (ho : s.heap.get? it = some o) (hc : o.cls = .type n) (hd : o.data = .fields vs)
    (hn : ["enumerate", "zip", "dict_itemiterator", "dict_reverseitemiterator", "odict_iterator", "itertools.zip_longest", "itertools.pairwise"].contains n = false) (hQ : Q () s) : wpAny M A (letOwnedTupleGo tg (.ref it) u) Q E s := by
  unfold letOwnedTupleGo
  cases tg <;> first
    | exact wpAny_pure hQ
    | (cases u <;> first
        | exact wpAny_pure hQ
        | (refine wpAny_bind (wpAny_load ho ?_)
           rw [hc, hd]
           show wpAny M A (if (["enumerate", "zip", "dict_itemiterator", "dict_reverseitemiterator", "odict_iterator", "itertools.zip_longest", "itertools.pairwise"].contains n && vs[0]? == some (rawInt _)) = true then _ else _) Q E s
           rw [if_neg (by intro h; rw [hn, Bool.false_and] at h; cases h)]
           exact wpAny_pure hQ))

/-- the list at a, as it stands at each turn (a loop may append to it) -/
def Itl (K : PySem.W.Frag) (a : Addr) : It :=
  ⟨fun i H => ∃ xs x, SqL K H a xs ∧ xs[i]? = some x, fun i H x H' => H' = H ∧ ∀ xs, SqL K H a xs → xs[i]? = some x, fun i H => ∃ xs, SqL K H a xs ∧ xs.length ≤ i⟩
/-- lo, lo + 1, .. (n of them) -/
def Itr (lo : Int) (n : Nat) : It := ⟨fun i _ => i < n, fun i H x H' => H' = H ∧ x = .int (lo + i), fun i _ => n ≤ i⟩
theorem turn_list {P : Program} {w : World} {K : PySem.W.Frag} {tg : Expr} (a it : Addr) : Turn P w K tg (Itl K a) [it] it (fun i h => h.IsListIter it a i) where
  mem := by simp
  obj := fun i h st b hb => by
    have e : b = it := by simpa using hb
    subst e
    obtain ⟨o, e, c, d⟩ := st
    exact ⟨o, e, fun v z => by rw [d] at z; cases z⟩
  keep := fun i h h' st k => st.at fun o e => k it (by simp) o e
  item := by
    intro X hP hw hK hc i pins s σ H E I hf st hg
    subst hP hw hK
    obtain ⟨xs, x, hq, hx⟩ := hg
    obtain ⟨its, rv, p, hz⟩ := I.list hq
    obtain ⟨u, hu, ru⟩ := rv.get hx
    obtain ⟨f0, f1, f2, f3, f4, f5⟩ := hf it (by simp)
    refine wpAny_pyNext_list_item st p.isList (x := u) (by simpa using hu) fun h' st' sb => ?_
    have I1 : Inv X pins σ H { s with heap := h' } := I.turned (t' := s.toks) (fun b o hb e => (sb.2 b hb).trans e) f0 f1 f3 f4 f5
    obtain ⟨o, e, c, d⟩ := id st'
    exact ⟨u, rfl, go_of (s := { s with heap := h' }) e c d (by decide) ⟨x, H, I1, ru, ⟨rfl, fun ys hy => by rw [I.list_inj hy hq]; exact hx⟩, st', fun b hb => (hf b hb).1⟩⟩
  done := by
    intro X hP hw hK hc i pins s σ H E I hf st hg
    subst hP hw hK
    obtain ⟨xs, hq, hx⟩ := hg
    obtain ⟨its, rv, p, hz⟩ := I.list hq
    obtain ⟨f0, f1, f2, f3, f4, f5⟩ := hf it (by simp)
    have hl := rv.length
    exact wpAny_pyNext_list_end (I.ok.hd hc) st p.isList (by simp; omega) fun h' eb => ⟨rfl, I.turned (t' := s.toks) (fun b o hb e => eb b o hb e) f0 f1 f3 f4 f5⟩
  self := fun _ _ _ _ _ st h => wpAny_pyIter_listiter st h
theorem turn_range {P : Program} {w : World} {K : PySem.W.Frag} {tg : Expr} (it : Addr) (lo : Int) (n : Nat) : Turn P w K tg (Itr lo n) [it] it (fun i h => IsRangeIter h it (lo + (i : Nat) * 1) ((n : Int) - (i : Nat)) 1) where
  mem := by simp
  obj := fun i h st b hb => by
    have e : b = it := by simpa using hb
    subst e
    exact ⟨_, st, fun v z => by
      have z' : Data.fields _ = Data.cell v := z
      cases z'⟩
  keep := fun i h h' st k => k it (by simp) _ st
  item := by
    intro X hP hw hK hc i pins s σ H E I hf st hg
    subst hP hw hK
    obtain ⟨f0, f1, f2, f3, f4, f5⟩ := hf it (by simp)
    have W := Walks.range (prog := X.prog) (w := X.w) (I.ok.hd hc) it lo 1 n
    refine W.item i s _ _ hg st fun v h' tk hv st' kk => ?_
    obtain ⟨t, rfl⟩ := hv
    have I1 : Inv X pins σ H { s with heap := h', toks := tk } := I.turned (fun b o hb e => kk b o (by simpa using hb) e) f0 f1 f3 f4 f5
    refine ⟨_, rfl, go_of (s := { s with heap := h', toks := tk }) (n := "range_iterator") st' rfl rfl (by decide) ⟨.int (lo + i), H, I1, ⟨t, ?_⟩, ⟨rfl, rfl⟩, st', fun b hb => (hf b hb).1⟩⟩
    rw [Int.mul_one]
  done := by
    intro X hP hw hK hc i pins s σ H E I hf st hg
    subst hP hw hK
    obtain ⟨f0, f1, f2, f3, f4, f5⟩ := hf it (by simp)
    exact wpAny_pyNext_range_end (I.ok.hd hc) st (by have : n ≤ i := hg; omega) fun h' eb => ⟨rfl, I.turned (t' := s.toks) (fun b o hb e => eb b o hb e) f0 f1 f3 f4 f5⟩
  self := fun _ _ _ _ _ st h => wpAny_pyIter_rangeiter st h
end L2

namespace L2
open PySem PySem.Spec PyProof.Rows
section
variable {X : Cx} {tg : Expr}
def iList (K : PySem.W.Frag) (tl : TE) : TI := fun σ H R => tl σ H fun x H1 => ∃ a, x = .ref a ∧ (∃ xs, SqL K H1 a xs) ∧ R (Itl K a) H1
theorem pi_list {l : Expr} {tl : TE} (hl : PE X l tl) : PI X tg l (iList X.K tl) := by
  intro pins s σ H R I h
  refine thn (hl pins s σ H _ I h) fun v s1 ⟨x, H1, I1, r1, q1⟩ => ?_
  obtain ⟨a, e, ⟨xs, hq⟩, q⟩ := q1
  subst e
  cases r1
  obtain ⟨its, rv, p, hz⟩ := I1.list hq
  refine wpAny_pyIter_list p.isList ?_
  refine ⟨s1.heap.objs.size, [s1.heap.objs.size], _, _, H1, rfl, I1.kept (t' := s1.toks) fun b o e => Heap.get?_push_of_some _ e, turn_list a _, ⟨_, Heap.get?_push_size _ rfl, rfl, rfl⟩, fun b hb => ?_, q⟩
  have e : b = s1.heap.objs.size := by simpa using hb
  subst e
  exact I1.fpOk (Nat.le_refl _) (I1.hok.fresh (Nat.le_refl _))
/-- a range object just made, walked -/
theorem range_it {pins : List (Addr × Obj)} {σ : St} {H : Hp} {s : Shared} {R : It → Hp → Prop} {E : Value → Shared → Prop} {lo hi : Int} {t u v : Tok} {tk : Nat} (I : Inv X pins σ H s) (h1 : -(2 ^ 62) ≤ lo) (h2 : lo < 2 ^ 62) (h3 : -(2 ^ 62) ≤ hi) (h4 : hi < 2 ^ 62)
    (q : R (Itr lo (hi - lo).toNat) H) : wpAny (model X.prog X.w) X.A (pyIter (.ref s.heap.objs.size)) (PIE X pins σ tg R) E { s with heap := s.heap.push { cls := .type "range", data := .fields #[.int lo t, .int hi u, .int 1 v] }, toks := tk } := by
  refine wpAny_pyIter_range (IsRange.new ..) (small_one h1 h2 h3 h4) ?_
  have I1 : Inv X pins σ H { s with heap := s.heap.push { cls := .type "range", data := .fields #[.int lo t, .int hi u, .int 1 v] }, toks := tk } := I.kept fun b o e => Heap.get?_push_of_some _ e
  refine ⟨(s.heap.push { cls := .type "range", data := .fields #[.int lo t, .int hi u, .int 1 v] }).objs.size, [(s.heap.push { cls := .type "range", data := .fields #[.int lo t, .int hi u, .int 1 v] }).objs.size], _, _, H, rfl,
    I1.kept (t' := tk) fun b o e => Heap.get?_push_of_some _ e, turn_range _ lo (hi - lo).toNat, ?_, fun b hb => ?_, q⟩
  · have e1 : lo + ((0 : Nat) : Int) * 1 = lo := by simp
    have e2 : (((hi - lo).toNat : Nat) : Int) - ((0 : Nat) : Int) = Builtin.Range.rangeSize lo hi 1 := by rw [rangeSize_one]; split <;> omega
    show IsRangeIter _ _ (lo + ((0 : Nat) : Int) * 1) ((((hi - lo).toNat : Nat) : Int) - ((0 : Nat) : Int)) 1
    rw [e1, e2]
    exact Heap.get?_push_size _ rfl
  · have e : b = (s.heap.push { cls := .type "range", data := .fields #[.int lo t, .int hi u, .int 1 v] }).objs.size := by simpa using hb
    subst e
    exact I1.fpOk (Nat.le_refl _) (I1.hok.fresh (Nat.le_refl _))
def iRng1 (ta : TA) : TI := fun σ H R => ta σ H fun vs H1 => ∃ j : Int, vs = [.int j] ∧ -(2 ^ 62) ≤ j ∧ j < 2 ^ 62 ∧ R (Itr 0 j.toNat) H1
theorem pi_range1 {a : Expr} {ta : TA} {p pos : Pos} (hg : Gl X "range") (hm : X.mg "range" = none) (ha : PA X [a] ta) (hs : starEach [a] X.env = [(false, eval a X.env)] := by rfl) : PI X tg (.Call (.Name "range" p) [a] [] pos) (iRng1 ta) := by
  intro pins s σ H R I h
  refine Call_ (ld_blt I hg hm boot_range (PyProof.Rows.callWith_type1 (thn (ha pos pins s σ H _ I h) fun us s1 ⟨vs, H1, I1, r1, q1⟩ => ?_) hs rfl))
  obtain ⟨j, e, q1, q2, q⟩ := q1
  subst e
  cases r1 with
  | cons r rr =>
    cases rr
    obtain ⟨t, rfl⟩ := r
    exact call_range_1 (range_it I1 (by omega) (by omega) q1 q2 (by simpa using q))
/-! ### for -/
/-- W: the invariant by the turn and a measure; N: what the body is to reach -/
def tFor (wi : TI) (g : TG) (tb : TS) : TS := fun D σ H => wi σ H fun J H1 => ∃ W : Nat → Nat → St → Hp → Prop, (∃ m, W 0 m σ H1) ∧ ∀ i m σ H, W i m σ H →
  (J.stop i H ∧ D.nx σ H) ∨ (J.go i H ∧ ∃ N : St → Hp → Prop, (∀ σ' H', N σ' H' → ∃ m', m' < m ∧ W (i + 1) m' σ' H') ∧ ∀ x H', J.yld i H x H' → g x σ H' fun σ2 H2 => tb { D with nx := N, ct := N, bk := D.nx } σ2 H2)
/-- the records at fp as they stand -/
def pinsAt (fp : List Addr) (h : Heap) : List (Addr × Obj) := fp.filterMap fun b => (h.get? b).map fun o => (b, o)
theorem mem_pinsAt {fp : List Addr} {h : Heap} {b : Addr} {o : Obj} (hb : b ∈ fp) (e : h.get? b = some o) : (b, o) ∈ pinsAt fp h := List.mem_filterMap.mpr ⟨b, hb, by rw [e]; rfl⟩
theorem of_pinsAt {fp : List Addr} {h : Heap} {p : Addr × Obj} (hp : p ∈ pinsAt fp h) : p.1 ∈ fp ∧ h.get? p.1 = some p.2 := by
  obtain ⟨b, hb, e⟩ := List.mem_filterMap.mp hp
  cases q : h.get? b with
  | none => rw [q] at e; cases e
  | some o =>
    rw [q] at e
    have e' : (b, o) = p := Option.some.inj e
    subst e'
    exact ⟨hb, q⟩
theorem Inv.pinned {pins : List (Addr × Obj)} {σ : St} {H : Hp} {s : Shared} {fp : List Addr} (I : Inv X pins σ H s) (hf : ∀ b ∈ fp, FpOk X pins H b) (ho : ∀ b ∈ fp, ∃ o, s.heap.get? b = some o ∧ ∀ v, o.data ≠ .cell v) : Inv X (pins ++ pinsAt fp s.heap) σ H s :=
  I.pins_of fun p hp => (List.mem_append.mp hp).elim (fun z => I.pin p (List.mem_append_right _ z)) fun z => by
    obtain ⟨hb, e⟩ := of_pinsAt z
    obtain ⟨f0, f1, f2, _⟩ := hf p.1 hb
    obtain ⟨o, e', d⟩ := ho p.1 hb
    rw [e] at e'; cases e'
    exact ⟨e, f0, f1, f2, d⟩
theorem Inv.unpinned {pins pl : List (Addr × Obj)} {σ : St} {H : Hp} {s : Shared} (I : Inv X (pins ++ pl) σ H s) : Inv X pins σ H s := I.pins_of fun p hp => I.pin p (List.mem_append_right _ (List.mem_append_left _ hp))
theorem ps_for {iter : Expr} {body : List Stmt} {wi : TI} {g : TG} {tb : TS} {pos : Pos} (hp : PassesOwn (model X.prog X.w) X.A X.env X.xe) (hc : X.calm = true) (hi : PI X tg iter wi) (hg : PG X tg g) (hb : PSs X body tb)
    (hs : ∀ x, foldedSetIterable iter X.env x = pure x := by intro _; rfl) : PS X (.For tg iter body [] pos) (tFor wi g tb) := by
  intro pins s σ H D I h
  refine wpAny_For (thn (hi pins s σ H _ I h) fun v s1 h1 => thn h1 fun itv s2 h2 => ?_) hs
  obtain ⟨it, fp, tn, J, H2, e, I2, T, st2, f2, W, ⟨m0, w0⟩, turn⟩ := h2
  subst e
  -- what stays true of the iterator's objects through the loop
  have stat : ∀ {H' : Hp}, (∀ b ∈ fp, H' b = none) → ∀ b ∈ fp, FpOk X pins H' b := fun hn b hb => ⟨hn b hb, (f2 b hb).2⟩
  refine codeAny_forLoop_any (fun n s' => ∃ i σ' H', Inv X pins σ' H' s' ∧ tn i s'.heap ∧ (∀ b ∈ fp, H' b = none) ∧ W i n σ' H') ?_ m0 ⟨0, σ, H2, I2, st2, fun b hb => (f2 b hb).1, w0⟩
  rintro n s3 ⟨i, σ3, H3, I3, st3, fr3, w3⟩
  rcases turn i n σ3 H3 w3 with ⟨stop, qn⟩ | ⟨go, N, hN, step⟩
  · refine wpAny_passesOwn hp (thn (T.done X rfl rfl rfl hc i pins s3 σ3 H3 X.xe I3 (stat fr3) st3 stop) fun r s4 ⟨hr, I4⟩ => ?_)
    subst hr
    exact wpAny_execs_nil ⟨σ3, H3, I4, qn⟩
  · refine wpAny_passesOwn hp (thn (T.item X rfl rfl rfl hc i pins s3 σ3 H3 X.xe I3 (stat fr3) st3 go) fun r s4 ⟨u, hr, h4⟩ => ?_)
    subst hr
    refine wpAny_passesOwn hp (thn h4 fun _ s5 ⟨x, H5, I5, r5, y5, st5, fr5⟩ => ?_)
    have I5' := I5.pinned (stat fr5) (T.obj _ _ st5)
    refine wpAny_passesOwn hp (thn (hg _ s5 σ3 H5 x u _ I5' r5 (step x H5 y5)) fun _ s6 ⟨σ6, H6, I6, q6⟩ => ?_)
    refine wpAny_passesOwn hp (thn (hb _ s6 σ6 H6 _ I6 q6) fun f s7 q7 => ?_)
    have again : ∀ {σ7 : St} {H7 : Hp}, Inv X (pins ++ pinsAt fp s5.heap) σ7 H7 s7 → N σ7 H7 → ∃ m, m < n ∧ ∃ i σ' H', Inv X pins σ' H' s7 ∧ tn i s7.heap ∧ (∀ b ∈ fp, H' b = none) ∧ W i m σ' H' := fun {σ7 H7} I7 n7 => by
      obtain ⟨m', hm, w7⟩ := hN σ7 H7 n7
      refine ⟨m', hm, i + 1, σ7, H7, I7.unpinned, T.keep _ _ _ st5 fun b hb o e => (I7.pin (b, o) (List.mem_append_right _ (List.mem_append_right _ (mem_pinsAt hb e)))).1, fun b hb => ?_, w7⟩
      obtain ⟨o, e, d⟩ := T.obj _ _ st5 b hb
      exact (I7.pin (b, o) (List.mem_append_right _ (List.mem_append_right _ (mem_pinsAt hb e)))).2.1
    cases f with
    | next => obtain ⟨σ7, H7, I7, n7⟩ := q7; exact again I7 n7
    | cont => obtain ⟨σ7, H7, I7, n7⟩ := q7; exact again I7 n7
    | brk => obtain ⟨σ7, H7, I7, q7⟩ := q7; exact ⟨σ7, H7, I7.unpinned, q7⟩
    | ret v => obtain ⟨x7, σ7, H7, I7, r7, q7⟩ := q7; exact ⟨x7, σ7, H7, I7.unpinned, r7, q7⟩
end

/-! ### the forms one uses -/
/-- over a list that the body leaves as it is -/
theorem for_list {K : PySem.W.Frag} {a : Addr} {xs : List V} {g : TG} {tb : TS} {D : Ends} {σ : St} {H : Hp} (Pv : Nat → St → Hp → Prop) (h0 : Pv 0 σ H) (hl : ∀ i σ H, i ≤ xs.length → Pv i σ H → SqL K H a xs)
    (hs : ∀ i x σ H, xs[i]? = some x → Pv i σ H → g x σ H fun σ2 H2 => tb { D with nx := Pv (i + 1), ct := Pv (i + 1), bk := D.nx } σ2 H2) (hd : ∀ σ H, Pv xs.length σ H → D.nx σ H) :
    ∃ W : Nat → Nat → St → Hp → Prop, (∃ m, W 0 m σ H) ∧ ∀ i m σ H, W i m σ H →
      ((Itl K a).stop i H ∧ D.nx σ H) ∨ ((Itl K a).go i H ∧ ∃ N : St → Hp → Prop, (∀ σ' H', N σ' H' → ∃ m', m' < m ∧ W (i + 1) m' σ' H') ∧ ∀ x H', (Itl K a).yld i H x H' → g x σ H' fun σ2 H2 => tb { D with nx := N, ct := N, bk := D.nx } σ2 H2) := by
  refine ⟨fun i m σ H => m = xs.length - i ∧ i ≤ xs.length ∧ Pv i σ H, ⟨xs.length, by simp, Nat.zero_le _, h0⟩, ?_⟩
  rintro i m σ H ⟨rfl, hi, p⟩
  have q := hl i σ H hi p
  by_cases hlt : i < xs.length
  · refine .inr ⟨⟨xs, xs[i], q, by simp [hlt]⟩, Pv (i + 1), fun σ' H' p' => ⟨xs.length - (i + 1), by omega, rfl, hlt, p'⟩, fun x H' y => ?_⟩
    obtain ⟨e, y⟩ := y
    subst e
    exact hs i x σ _ (y xs q) p
  · have e : i = xs.length := by omega
    subst e
    exact .inl ⟨⟨xs, q, Nat.le_refl _⟩, hd σ H p⟩
theorem for_range {lo : Int} {n : Nat} {g : TG} {tb : TS} {D : Ends} {σ : St} {H : Hp} (Pv : Nat → St → Hp → Prop) (h0 : Pv 0 σ H)
    (hs : ∀ i σ H, i < n → Pv i σ H → g (.int (lo + i)) σ H fun σ2 H2 => tb { D with nx := Pv (i + 1), ct := Pv (i + 1), bk := D.nx } σ2 H2) (hd : ∀ σ H, Pv n σ H → D.nx σ H) :
    ∃ W : Nat → Nat → St → Hp → Prop, (∃ m, W 0 m σ H) ∧ ∀ i m σ H, W i m σ H →
      ((Itr lo n).stop i H ∧ D.nx σ H) ∨ ((Itr lo n).go i H ∧ ∃ N : St → Hp → Prop, (∀ σ' H', N σ' H' → ∃ m', m' < m ∧ W (i + 1) m' σ' H') ∧ ∀ x H', (Itr lo n).yld i H x H' → g x σ H' fun σ2 H2 => tb { D with nx := N, ct := N, bk := D.nx } σ2 H2) := by
  refine ⟨fun i m σ H => m = n - i ∧ i ≤ n ∧ Pv i σ H, ⟨n, by simp, Nat.zero_le _, h0⟩, ?_⟩
  rintro i m σ H ⟨rfl, hi, p⟩
  by_cases hlt : i < n
  · refine .inr ⟨hlt, Pv (i + 1), fun σ' H' p' => ⟨n - (i + 1), by omega, rfl, hlt, p'⟩, fun x H' y => ?_⟩
    obtain ⟨e, y⟩ := y
    subst e y
    exact hs i σ _ hlt p
  · have e : i = n := by omega
    subst e
    exact .inl ⟨Nat.le_refl _, hd σ H p⟩
end L2

namespace L2
open PySem PySem.Spec PyProof.Rows

abbrev R2 := V → V → Hp → VK → Prop
/-- a two-place operation on values: f is binaryOp op, inplaceOp op or compareOp op -/
def OpR (X : Cx) (f : Value → Value → Sem Value) (r : R2) : Prop :=
  ∀ (pins : List (Addr × Obj)) (s : Shared) (σ : St) (H : Hp) (x y : V) (v u : Value) (Q : VK), Inv X pins σ H s → RelV x v → RelV y u → r x y H Q →
    wpAny (model X.prog X.w) X.A (f v u) (EP X pins σ Q) X.xe s
/-- a one-place operation -/
def UnR (X : Cx) (f : Value → Sem Value) (r : V → Hp → VK → Prop) : Prop :=
  ∀ (pins : List (Addr × Obj)) (s : Shared) (σ : St) (H : Hp) (x : V) (v : Value) (Q : VK), Inv X pins σ H s → RelV x v → r x H Q →
    wpAny (model X.prog X.w) X.A (f v) (EP X pins σ Q) X.xe s
/-- a call of a value that is known (a builtin, a type) with values -/
def CallR (X : Cx) (f : Value) (r : List V → Hp → VK → Prop) : Prop :=
  ∀ (pins : List (Addr × Obj)) (s : Shared) (σ : St) (H : Hp) (xs : List V) (us : List Value) (Q : VK), Inv X pins σ H s → Vals xs us → r xs H Q →
    wpAny (model X.prog X.w) X.A (call f us) (EP X pins σ Q) X.xe s
def tOp (r : R2) (ta tb : TE) : TE := fun σ H Q => ta σ H fun x H1 => tb σ H1 fun y H2 => r x y H2 Q
def tUn (r : V → Hp → VK → Prop) (ta : TE) : TE := fun σ H Q => ta σ H fun x H1 => r x H1 Q
/-- ints in, under C, and a value out -/
def rI (C : Int → Int → Prop) (g : Int → Int → V) : R2 := fun x y H Q => ∃ i j, x = .int i ∧ y = .int j ∧ C i j ∧ Q (g i j) H
def rI0 (g : Int → Int → V) : R2 := fun x y H Q => ∃ i j, x = .int i ∧ y = .int j ∧ Q (g i j) H
def rU (g : Int → V) : V → Hp → VK → Prop := fun x H Q => ∃ i, x = .int i ∧ Q (g i) H

section
variable {X : Cx} {a b c : Expr} {ta tb tc : TE} {pos : Pos}

theorem binT (ha : PE X a ta) (hb : PE X b tb) {pins : List (Addr × Obj)} {s : Shared} {σ : St} {H : Hp} {R : V → V → Hp → Prop} (I : Inv X pins σ H s)
    (h : ta σ H fun x H1 => tb σ H1 fun y H2 => R x y H2) {Q : Value → Shared → Prop} {f : Value → Value → Sem Value}
    (hf : ∀ v u s2 x y H2, Inv X pins σ H2 s2 → RelV x v → RelV y u → R x y H2 → wpAny (model X.prog X.w) X.A (f v u) Q X.xe s2) :
    wpAny (model X.prog X.w) X.A (eval a X.env) (fun v s₁ => wpAny (model X.prog X.w) X.A (eval b X.env) (fun u s₂ => wpAny (model X.prog X.w) X.A (f v u) Q X.xe s₂) X.xe s₁) X.xe s := by
  refine thn (ha pins s σ H _ I h) fun v s1 ⟨x, H1, I1, r1, q1⟩ => ?_
  refine thn (hb pins s1 σ H1 _ I1 q1) fun u s2 ⟨y, H2, I2, r2, q2⟩ => ?_
  exact hf v u s2 x y H2 I2 r1 r2 q2

theorem pe_op {op : Operator} {r : R2} (ho : OpR X (binaryOp op) r) (ha : PE X a ta) (hb : PE X b tb) : PE X (.BinOp a op b pos) (tOp r ta tb) := by
  intro pins s σ H Q I h
  exact wpAny_BinOp (binT ha hb I h fun v u s2 x y H2 I2 rx ry q => ho pins s2 σ H2 x y v u Q I2 rx ry q)
theorem pe_un {op : UnaryOp} {r : V → Hp → VK → Prop} (ho : UnR X (unaryOp op) r) (ha : PE X a ta) : PE X (.UnaryOp op a pos) (tUn r ta) := by
  intro pins s σ H Q I h
  exact UnaryOp_ (thn (ha pins s σ H _ I h) fun v s1 ⟨x, H1, I1, r1, q1⟩ => ho pins s1 σ H1 x v Q I1 r1 q1)
/-! ### ints -/
theorem opI {f : Value → Value → Sem Value} {C : Int → Int → Prop} {g : Int → Int → Int}
    (rule : ∀ (i j : Int) (t u : Tok) (s : Shared) (Q : Value → Shared → Prop) (E : Value → Shared → Prop), C i j → Q (.int (g i j) s.toks) { s with toks := s.toks + 1 } → wpAny (model X.prog X.w) X.A (f (.int i t) (.int j u)) Q E s) :
    OpR X f (rI C fun i j => .int (g i j)) := by
  intro pins s σ H x y v u Q I rx ry h
  obtain ⟨i, j, rfl, rfl, hc, q⟩ := h
  obtain ⟨t, rfl⟩ := rx
  obtain ⟨t', rfl⟩ := ry
  exact rule i j t t' s _ _ hc ⟨.int (g i j), H, I.tok _, ⟨_, rfl⟩, q⟩
theorem opI0 {f : Value → Value → Sem Value} {g : Int → Int → Int}
    (rule : ∀ (i j : Int) (t u : Tok) (s : Shared) (Q : Value → Shared → Prop) (E : Value → Shared → Prop), Q (.int (g i j) s.toks) { s with toks := s.toks + 1 } → wpAny (model X.prog X.w) X.A (f (.int i t) (.int j u)) Q E s) :
    OpR X f (rI0 fun i j => .int (g i j)) := by
  intro pins s σ H x y v u Q I rx ry h
  obtain ⟨i, j, rfl, rfl, q⟩ := h
  obtain ⟨t, rfl⟩ := rx
  obtain ⟨t', rfl⟩ := ry
  exact rule i j t t' s _ _ ⟨.int (g i j), H, I.tok _, ⟨_, rfl⟩, q⟩
theorem opB0 {f : Value → Value → Sem Value} {g : Int → Int → Bool}
    (rule : ∀ (i j : Int) (t u : Tok) (s : Shared) (Q : Value → Shared → Prop) (E : Value → Shared → Prop), Q (.bool (g i j)) s → wpAny (model X.prog X.w) X.A (f (.int i t) (.int j u)) Q E s) :
    OpR X f (rI0 fun i j => .bl (g i j)) := by
  intro pins s σ H x y v u Q I rx ry h
  obtain ⟨i, j, rfl, rfl, q⟩ := h
  obtain ⟨t, rfl⟩ := rx
  obtain ⟨t', rfl⟩ := ry
  exact rule i j t t' s _ _ ⟨.bl (g i j), H, I, rfl, q⟩

def CDiv (i j : Int) : Prop := 0 < j ∧ j < 1073741824
def CMul (i j : Int) : Prop := (-(2 ^ 64) < i ∧ i < 2 ^ 64) ∨ (-(2 ^ 64) < j ∧ j < 2 ^ 64)
theorem CMul.ok {i j : Int} (h : CMul i j) : IntMulOk i j := by
  rcases h with ⟨h1, h2⟩ | ⟨h1, h2⟩
  · exact .of_left (intBits_le_64 h1 h2)
  · exact .of_right (intBits_le_64 h1 h2)
theorem op_add : OpR X (binaryOp .Add) (rI0 fun i j => .int (i + j)) := opI0 fun _ _ _ _ _ _ _ q => add_int q
theorem op_sub : OpR X (binaryOp .Sub) (rI0 fun i j => .int (i - j)) := opI0 fun _ _ _ _ _ _ _ q => sub_int q
theorem op_mul : OpR X (binaryOp .Mult) (rI CMul fun i j => .int (i * j)) := opI fun _ _ _ _ _ _ _ hc q => mul_int q hc.ok
/-- // by a positive divisor -/
theorem op_fdiv : OpR X (binaryOp .FloorDiv) (rI CDiv fun i j => .int (i / j)) := opI fun i j _ _ _ _ _ hc q => by
  have h1 : (0 : Int) < j := hc.1
  have h2 : j < 1073741824 := hc.2
  exact floordiv_int (by omega) (by rw [Int.fdiv_eq_ediv_of_nonneg i (by omega)]; exact q) (.inl (PyProof.noPylong_small (by omega)))
/-- % by a positive divisor of any size -/
theorem op_mod : OpR X (binaryOp .Mod) (rI (fun _ j => 0 < j) fun i j => .int (i % j)) := opI fun i j _ _ _ _ _ hc q => by
  have h1 : (0 : Int) < j := hc
  exact mod_int' (by omega) (by rw [Int.fmod_eq_emod_of_nonneg i (by omega)]; exact q)
theorem unI {f : Value → Sem Value} {g : Int → Int}
    (rule : ∀ (i : Int) (t : Tok) (s : Shared) (Q : Value → Shared → Prop) (E : Value → Shared → Prop), Q (.int (g i) s.toks) { s with toks := s.toks + 1 } → wpAny (model X.prog X.w) X.A (f (.int i t)) Q E s) :
    UnR X f (rU fun i => .int (g i)) := by
  intro pins s σ H x v Q I rx h
  obtain ⟨i, rfl, q⟩ := h
  obtain ⟨t, rfl⟩ := rx
  exact rule i t s _ _ ⟨.int (g i), H, I.tok _, ⟨_, rfl⟩, q⟩
theorem un_neg : UnR X (unaryOp .USub) (rU fun i => .int (-i)) := unI fun _ _ _ _ _ q => neg_int q
end

/-! ### comparisons -/
/-- the scalars that == tells apart as data does -/
def scal : V → V → Bool
  | .non, .non => true | .non, .int _ => true | .int _, .non => true | .non, .bl _ => true | .bl _, .non => true | .non, .str _ => true | .str _, .non => true
  | .int _, .int _ => true | .bl _, .bl _ => true | .str _, .str _ => true | .byt _, .byt _ => true
  | .int _, .str _ => true | .str _, .int _ => true | .bl _, .str _ => true | .str _, .bl _ => true
  | _, _ => false
def rEq : R2 := fun x y H Q => scal x y = true ∧ Q (.bl (decide (x = y))) H
def rNe : R2 := fun x y H Q => scal x y = true ∧ Q (.bl (!decide (x = y))) H

theorem dec_int {i j : Int} : decide (V.int i = V.int j) = (i == j) := by
  rw [Bool.eq_iff_iff]
  simp
theorem dec_bl {i j : Bool} : decide (V.bl i = V.bl j) = (i == j) := by
  rw [Bool.eq_iff_iff]
  simp
theorem dec_str {i j : Str} : decide (V.str i = V.str j) = (i == j) := by
  rw [Bool.eq_iff_iff]
  simp
theorem dec_byt {i j : Array UInt8} : decide (V.byt i = V.byt j) = (i.toList == j.toList) := by
  rw [Bool.eq_iff_iff]
  cases i
  cases j
  simp

section
variable {X : Cx} {a b c : Expr} {ta tb tc : TE} {pos : Pos}
theorem fin_bl {pins : List (Addr × Obj)} {σ : St} {H : Hp} {s : Shared} {Q : VK} {k k' : Bool} (I : Inv X pins σ H s) (q : Q (.bl k) H) (e : k = k') : EP X pins σ Q (.bool k') s := by
  subst e
  exact ⟨.bl k, H, I, rfl, q⟩
theorem op_eq : OpR X (compareOp .Eq) rEq := by
  intro pins s σ H x y v u Q I rx ry h
  obtain ⟨hs, q⟩ := h
  cases x with
  | non =>
    cases rx
    cases y with
    | non => cases ry; exact PySem.EqNone.eq_none_none (fin_bl I q (by simp))
    | bl j => cases ry; exact PySem.EqNone.eq_none_bool (fin_bl I q (by simp))
    | int j => obtain ⟨t', rfl⟩ := ry; exact PySem.EqNone.eq_none_int (fin_bl I q (by simp))
    | str j => obtain ⟨t', rfl⟩ := ry; exact PySem.EqNone.eq_none_str (fin_bl I q (by simp))
    | _ => exact absurd (show false = true from hs) Bool.false_ne_true
  | bl i =>
    cases rx
    cases y with
    | non => cases ry; exact PySem.EqNone.eq_bool_none (fin_bl I q (by simp))
    | bl j => cases ry; exact eq_bool (fin_bl I q dec_bl)
    | str j => obtain ⟨t', rfl⟩ := ry; exact PySem.EqMixed.eq_bool_str (fin_bl I q (by simp))
    | _ => exact absurd (show false = true from hs) Bool.false_ne_true
  | int i =>
    obtain ⟨t, rfl⟩ := rx
    cases y with
    | non => cases ry; exact PySem.EqNone.eq_int_none (fin_bl I q (by simp))
    | int j => obtain ⟨t', rfl⟩ := ry; exact eq_int (fin_bl I q dec_int)
    | str j => obtain ⟨t', rfl⟩ := ry; exact PySem.EqMixed.eq_int_str (fin_bl I q (by simp))
    | _ => exact absurd (show false = true from hs) Bool.false_ne_true
  | str i =>
    obtain ⟨t, rfl⟩ := rx
    cases y with
    | non => cases ry; exact PySem.EqNone.eq_str_none (fin_bl I q (by simp))
    | bl j => cases ry; exact PySem.EqMixed.eq_str_bool (fin_bl I q (by simp))
    | int j => obtain ⟨t', rfl⟩ := ry; exact PySem.EqMixed.eq_str_int (fin_bl I q (by simp))
    | str j => obtain ⟨t', rfl⟩ := ry; exact eq_str (fin_bl I q dec_str)
    | _ => exact absurd (show false = true from hs) Bool.false_ne_true
  | byt i =>
    obtain ⟨t, rfl⟩ := rx
    cases y with
    | byt j => obtain ⟨t', rfl⟩ := ry; exact PySem.W.eq_bytes (fin_bl I q dec_byt)
    | _ => exact absurd (show false = true from hs) Bool.false_ne_true
  | _ => cases y <;> exact absurd (show false = true from hs) Bool.false_ne_true
theorem op_ne : OpR X (compareOp .NotEq) rNe := by
  intro pins s σ H x y v u Q I rx ry h
  obtain ⟨hs, q⟩ := h
  cases x with
  | non =>
    cases rx
    cases y with
    | non => cases ry; exact PySem.EqNone.ne_none_none (fin_bl I q (by simp))
    | bl j => cases ry; exact PySem.EqNone.ne_none_bool (fin_bl I q (by simp))
    | int j => obtain ⟨t', rfl⟩ := ry; exact PySem.EqNone.ne_none_int (fin_bl I q (by simp))
    | str j => obtain ⟨t', rfl⟩ := ry; exact PySem.EqNone.ne_none_str (fin_bl I q (by simp))
    | _ => exact absurd (show false = true from hs) Bool.false_ne_true
  | bl i =>
    cases rx
    cases y with
    | non => cases ry; exact PySem.EqNone.ne_bool_none (fin_bl I q (by simp))
    | bl j => cases ry; exact ne_bool (fin_bl I q (congrArg not dec_bl))
    | str j => obtain ⟨t', rfl⟩ := ry; exact PySem.EqMixed.ne_bool_str (fin_bl I q (by simp))
    | _ => exact absurd (show false = true from hs) Bool.false_ne_true
  | int i =>
    obtain ⟨t, rfl⟩ := rx
    cases y with
    | non => cases ry; exact PySem.EqNone.ne_int_none (fin_bl I q (by simp))
    | int j => obtain ⟨t', rfl⟩ := ry; exact ne_int (fin_bl I q (congrArg not dec_int))
    | str j => obtain ⟨t', rfl⟩ := ry; exact PySem.EqMixed.ne_int_str (fin_bl I q (by simp))
    | _ => exact absurd (show false = true from hs) Bool.false_ne_true
  | str i =>
    obtain ⟨t, rfl⟩ := rx
    cases y with
    | non => cases ry; exact PySem.EqNone.ne_str_none (fin_bl I q (by simp))
    | bl j => cases ry; exact PySem.EqMixed.ne_str_bool (fin_bl I q (by simp))
    | int j => obtain ⟨t', rfl⟩ := ry; exact PySem.EqMixed.ne_str_int (fin_bl I q (by simp))
    | str j => obtain ⟨t', rfl⟩ := ry; exact ne_str (fin_bl I q (congrArg not dec_str))
    | _ => exact absurd (show false = true from hs) Bool.false_ne_true
  | byt i =>
    obtain ⟨t, rfl⟩ := rx
    cases y with
    | byt j => obtain ⟨t', rfl⟩ := ry; exact PySem.W.ne_bytes (fin_bl I q (congrArg not dec_byt))
    | _ => exact absurd (show false = true from hs) Bool.false_ne_true
  | _ => cases y <;> exact absurd (show false = true from hs) Bool.false_ne_true

theorem op_lt : OpR X (compareOp .Lt) (rI0 fun i j => .bl (decide (i < j))) := opB0 fun _ _ _ _ _ _ _ q => lt_int q
theorem op_gt : OpR X (compareOp .Gt) (rI0 fun i j => .bl (decide (j < i))) := opB0 fun _ _ _ _ _ _ _ q => gt_int q
theorem nomark (b : Expr) {op : CmpOp} (h : op ≠ .In := by decide) (h2 : op ≠ .NotIn := by decide) : behindInMarks op b = false := by
  have e1 : (op == CmpOp.In) = false := by cases op <;> first | rfl | exact absurd rfl h
  have e2 : (op == CmpOp.NotIn) = false := by cases op <;> first | rfl | exact absurd rfl h2
  cases b <;> simp [behindInMarks, e1, e2]
/-- a comparison as a value; hm: nomark b, or (for in, not in) by with_unfolding_all rfl -/
theorem pe_cmpR {op : CmpOp} {r : R2} (ho : OpR X (compareOp op) r) (ha : PE X a ta) (hb : PE X b tb) (hm : behindInMarks op b = false) : PE X (.Compare a [op] [b] pos) (tOp r ta tb) := by
  intro pins s σ H Q I h
  exact wpAny_Compare1 (binT ha hb I h fun v u s2 x y H2 I2 rx ry q => ho pins s2 σ H2 x y v u Q I2 rx ry q) hm
/-- a reading of a value as a test -/
def tTest (t : TE) : TT := fun σ H Q => t σ H fun x H' => ∃ k, x = .bl k ∧ Q k H'
theorem pt_cmpR {op : CmpOp} {r : R2} (ho : OpR X (compareOp op) r) (ha : PE X a ta) (hb : PE X b tb) (hm : behindInMarks op b = false) : PT X (.Compare a [op] [b] pos) (tTest (tOp r ta tb)) := by
  intro pins s σ H Q I h
  refine wpAny_isTrue_Compare1 (thn (ha pins s σ H _ I h) fun v s1 ⟨x, H1, I1, r1, q1⟩ => thn (hb pins s1 σ H1 _ I1 q1) fun u s2 ⟨y, H2, I2, r2, q2⟩ =>
    thn (ho pins s2 σ H2 x y v u _ I2 r1 r2 q2) fun c s3 ⟨z, H3, I3, r3, k, e, q3⟩ => ?_) hm
  subst e
  cases r3
  exact wpAny_truthy_bool ⟨H3, I3, q3⟩
theorem line63 : (sizeLine : Nat) < 2 ^ 63 := by rw [sizeLine_eq]; decide
theorem op_add_str : OpR X (binaryOp .Add) (fun x y H Q => ∃ i j, x = .str i ∧ y = .str j ∧ i.length + j.length ≤ sizeLine ∧ Q (.str (i ++ j)) H) := by
  intro pins s σ H x y v u Q I rx ry h
  obtain ⟨i, j, rfl, rfl, hz, q⟩ := h
  obtain ⟨t, rfl⟩ := rx
  obtain ⟨t', rfl⟩ := ry
  exact add_str (fun t' tk => ⟨.str (i ++ j), H, I.tok _, ⟨_, rfl⟩, q⟩) hz
/-! ### scalar builtins, by CallR -/
theorem vals1 {x : V} {us : List Value} (r : Vals [x] us) : ∃ u, us = [u] ∧ RelV x u := by
  cases r with
  | cons r1 r2 => cases r2; exact ⟨_, rfl, r1⟩
theorem vals2 {x y : V} {us : List Value} (r : Vals [x, y] us) : ∃ u w', us = [u, w'] ∧ RelV x u ∧ RelV y w' := by
  cases r with
  | cons r1 r2 =>
    cases r2 with
    | cons r3 r4 => cases r4; exact ⟨_, _, rfl, r1, r3⟩
theorem call_abs : CallR X (.builtin "abs") (fun xs H Q => ∃ i, xs = [.int i] ∧ Q (.int (if i < 0 then -i else i)) H) := by
  intro pins s σ H xs us Q I r h
  obtain ⟨i, rfl, q⟩ := h
  obtain ⟨u, rfl, t, rfl⟩ := vals1 r
  exact call_abs_int fun u tk => ⟨.int (if i < 0 then -i else i), H, I.tok _, ⟨_, rfl⟩, q⟩
theorem call_max2 (hc : X.calm = true) : CallR X (.builtin "max") (fun xs H Q => ∃ i j, xs = [.int i, .int j] ∧ Q (.int (if j > i then j else i)) H) := by
  intro pins s σ H xs us Q I r h
  obtain ⟨i, j, rfl, q⟩ := h
  obtain ⟨u, w', rfl, ⟨t, rfl⟩, ⟨t', rfl⟩⟩ := vals2 r
  refine max_two_ints (I.ok.hd hc) fun h' tk k => ⟨_, H, I.kept k, ?_, q⟩
  by_cases hj : j > i
  · rw [if_pos hj, if_pos hj]; exact ⟨_, rfl⟩
  · rw [if_neg hj, if_neg hj]; exact ⟨_, rfl⟩
theorem call_str_int : CallR X (.type "str") (fun xs H Q => ∃ i, xs = [.int i] ∧ i.natAbs.log2 < 1920 ∧ Q (.str (toString i)) H) := by
  intro pins s σ H xs us Q I r h
  obtain ⟨i, rfl, hz, q⟩ := h
  obtain ⟨u, rfl, t, rfl⟩ := vals1 r
  exact PySem.P.str_of_int hz ⟨.str _, H, I.tok _, ⟨_, rfl⟩, q⟩
end
end L2

namespace L2
open PySem PySem.Spec PyProof.Rows

/-! ### an instance, its attributes a map -/
structure ObjM (h : Heap) (x dx C : Addr) (mA : Str → Option Value) : Prop where
  obj : h.get? x = some (PySem.W.instObj C dx)
  ns : h.Ns1 dx mA
  ne : dx ≠ x

theorem lookIn_ns {h : Heap} {dx : Addr} {mA : Str → Option Value} (n : h.Ns1 dx mA) : ∃ od, h.get? dx = some od ∧ ∀ name, PySem.W.lookIn name od = some (mA name) := by
  obtain ⟨o, es, ep, ho, hd, hk, _, hm⟩ := n
  refine ⟨o, ho, fun name => ?_⟩
  have e := hm name
  unfold nsFind findBy at e
  rw [← Array.find?_toList] at e
  unfold PySem.W.lookIn
  rw [hd]
  dsimp only
  split
  · rename_i y q
    rw [q] at e
    exact congrArg some e
  · rename_i q
    rw [q] at e
    have a : es.toList.any (·.refKey) = false := by
      rw [List.any_eq_false]
      intro y hy
      obtain ⟨z, t, hkey⟩ := hk y (Array.mem_toList_iff.mp hy)
      simp [DictEntry.refKey, hkey]
    have a' : ¬ es.toList.any (·.refKey) = true := by rw [a]; exact Bool.false_ne_true
    rw [if_neg a']
    exact congrArg some e

theorem ObjM.look {h : Heap} {x dx C : Addr} {mA : Str → Option Value} (I : ObjM h x dx C mA) : ∃ od, PySem.W.InstAt h x (PySem.W.instObj C dx) C (some od) ∧ ∀ name, PySem.W.lookIn name od = some (mA name) :=
  let ⟨od, ho, hl⟩ := lookIn_ns I.ns
  ⟨od, ⟨I.obj, rfl, rfl, ho⟩, hl⟩

section
variable {prog : Program} {w : World} {A : Around} {E : Value → Shared → Prop} {s : Shared} {K : PySem.W.Frag} {x dx C f : Addr} {mA : Str → Option Value} {name : Str} {v : Value}

end

section
variable {P : Program} {w : World} {H H' : Hp} {h h' : Heap} {a C dx : Addr} {fs fs' : List (Str × V)}
theorem ins_get (hok : HOk P w H h) (e : H a = some (.ins C dx fs)) : ∃ mA, ObjM h a dx C mA ∧ (∀ f, RelO (fs.lookup f) (mA f)) ∧ PySem.Within mA (fs.map (·.1)) ∧ fs.length ≤ 1000 ∧ H dx = some (.own a) := by
  obtain ⟨d, z, ne, ob, mA, n, r, q⟩ := (show ObjOk P w H h a (.ins C dx fs) from hok a _ e)
  exact ⟨mA, ⟨ob, n, ne⟩, r, q, z, d⟩
end

/-! ### what of the text a class must have -/
structure Cls (K : PySem.W.Frag) (C : Addr) : Prop where
  pg : PySem.W.plainGet K C Str.empty = true
  hd : PySem.W.hasDictIn K C = true
  po : PySem.W.plainOver K C = true
  sa : PySem.W.findIn K (.ref C) "__setattr__" = some (some (.builtin "object.__setattr__"))
theorem Cls.get {K : PySem.W.Frag} {C : Addr} (c : Cls K C) (f : Str) : PySem.W.plainGet K C f = true := c.pg
section
variable {X : Cx} {pins : List (Addr × Obj)} {σ : St} {H : Hp} {s : Shared} {a C dx : Addr} {fs : List (Str × V)} {f : Str} {v : V} {A : Around} {E : Value → Shared → Prop}

end

section
variable {X : Cx} {o e value : Expr} {f : Str} {pos pos' tpos : Pos} {ta tv : TE}
end

/-! ### isinstance -/
section
variable {X : Cx} {pins : List (Addr × Obj)} {σ : St} {H : Hp} {s : Shared} {A : Around} {E : Value → Shared → Prop} {Q : Value → Shared → Prop} {c : Value} {b : Bool}
/-- the type of a value, as the fragment's deciders take it; for an instance its class -/
inductive TyOf (K : PySem.W.Frag) (H : Hp) : V → Value → Prop where
  | non : TyOf K H .non (.type "NoneType")
  | bl (x : Bool) : TyOf K H (.bl x) (.type "bool")
  | int (i : Int) : TyOf K H (.int i) (.type "int")
  | str (x : Str) : TyOf K H (.str x) (.type "str")
  | flt (x : UInt64) : TyOf K H (.flt x) (.type "float")
  | lst {a : Addr} {xs : List V} (e : H a = some (.lst xs)) : TyOf K H (.ref a) (.type "list")
  | frz {a : Addr} {o : Obj} {xs : List V} (e : H a = some (.frz o (.lst xs))) : TyOf K H (.ref a) (.type "list")
  | tup {a : Addr} {xs : List V} (e : H a = some (.tup xs)) : TyOf K H (.ref a) (.type "tuple")
  | dK {a : Addr} {kvs : List (Key × V)} (e : H a = some (.dK kvs)) : TyOf K H (.ref a) (.type "dict")
  | dT {a : Addr} {kvs : List (List Key × V)} (e : H a = some (.dT kvs)) : TyOf K H (.ref a) (.type "dict")
  | ins {a C dx : Addr} {fs : List (Str × V)} (e : H a = some (.ins C dx fs)) (cl : Cls K C) (ha : PySem.W.findIn K (.ref C) "__class__" = some (some (.builtin "object.__class__")))
      (hn : PySem.W.specialIn K (.builtin "object.__class__") "__get__" = some (some (.builtin "getset_descriptor.__get__"))) (htk : PySem.W.takesIn K (.builtin "object.__class__") = some true)
      (hm : PySem.W.mroIn K C (.type "object") = some true) : TyOf K H (.ref a) (.ref C)
/-- isinstance(x, c) for one class c, a built-in or an own one: kitOne's answer -/
theorem isinst_ok {x : V} {u t : Value} (I : Inv X pins σ H s) (rx : RelV x u) (ty : TyOf X.K H x t) (e : PySem.W.kitOne X.K t c = some b) (h : ∀ tk, Q (.bool b) { s with toks := tk }) :
    wpAny (model X.prog X.w) A (call (.builtin "isinstance") [u, c]) Q E s := by
  cases ty with
  | non => cases (show u = Value.none from rx); exact PySem.W.kia_one PySem.W.kitx_none I.kIn True.intro e (fun z => nomatch z) h
  | bl y => cases (show u = Value.bool y from rx); exact PySem.W.kia_one PySem.W.kitx_bool I.kIn True.intro e (fun z => nomatch z) h
  | int i => obtain ⟨t, q⟩ := (show ∃ t, u = Value.int i t from rx); cases q; exact PySem.W.kia_one PySem.W.kitx_int I.kIn True.intro e (fun z => nomatch z) h
  | str y => obtain ⟨t, q⟩ := (show ∃ t, u = Value.str y t from rx); cases q; exact PySem.W.kia_one PySem.W.kitx_str I.kIn True.intro e (fun z => nomatch z) h
  | flt y => obtain ⟨t, q⟩ := (show ∃ t, u = Value.float y t from rx); cases q; exact PySem.W.kia_one PySem.W.kitx_float I.kIn True.intro e (fun z => nomatch z) h
  | @lst a xs ea =>
    cases (show u = Value.ref a from rx)
    obtain ⟨_, _, n, _, h1⟩ := (show ObjOk X.prog X.w H s.heap a (.lst xs) from I.hok a _ ea)
    exact PySem.W.kia_one PySem.W.kitx_list I.kIn ⟨_, h1, rfl⟩ e (fun z => nomatch z) h
  | @frz a ob xs ea =>
    cases (show u = Value.ref a from rx)
    obtain ⟨_, _, _, n, _, h1⟩ := (show ObjOk X.prog X.w H s.heap a (.frz ob (.lst xs)) from I.hok a _ ea)
    exact PySem.W.kia_one PySem.W.kitx_list I.kIn ⟨_, h1, rfl⟩ e (fun z => nomatch z) h
  | @tup a xs ea =>
    cases (show u = Value.ref a from rx)
    obtain ⟨_, _, _, p⟩ := (show ObjOk X.prog X.w H s.heap a (.tup xs) from I.hok a _ ea)
    obtain ⟨o, h1, h2, _⟩ := p
    exact PySem.W.kia_one PySem.W.kitx_tuple I.kIn ⟨o, h1, h2⟩ e (fun z => nomatch z) h
  | @dK a kvs ea =>
    cases (show u = Value.ref a from rx)
    obtain ⟨_, _, vs, _, p⟩ := (show ObjOk X.prog X.w H s.heap a (.dK kvs) from I.hok a _ ea)
    obtain ⟨o, es, ep, h1, h2, _⟩ := p
    exact PySem.W.kia_one PySem.W.kitx_dict I.kIn ⟨o, h1, h2.1⟩ e (fun z => nomatch z) h
  | @dT a kvs ea =>
    cases (show u = Value.ref a from rx)
    obtain ⟨_, _, xs, _, o, es, ep, h1, h2, _⟩ := (show ObjOk X.prog X.w H s.heap a (.dT kvs) from I.hok a _ ea)
    exact PySem.W.kia_one PySem.W.kitx_dict I.kIn ⟨o, h1, h2.1⟩ e (fun z => nomatch z) h
  | @ins a C dx fs ea cl ha hn htk hm =>
    cases (show u = Value.ref a from rx)
    obtain ⟨mA, O, _⟩ := ins_get I.hok ea
    obtain ⟨od, J, _⟩ := O.look
    exact PySem.W.kia_one (PySem.W.kitx_own (cl.get _) cl.hd ha hn htk hm) I.kIn J e (fun z => nomatch z) h
end
end L2

namespace L2
open PySem PySem.Spec PyProof.Rows

/-! ### room -/
structure Room (k : Nat) (A : Around) : Prop where
  hd : A.handled = none
  dp : A.depth + 3 * k + 5 < recursionLimit
  un : A.units + 16 * k + 200 < cLine
theorem Room.mono {j k : Nat} {A : Around} (r : Room k A) (h : j ≤ k) : Room j A := ⟨r.hd, by have := r.dp; omega, by have := r.un; omega⟩
theorem Room.deeper {k : Nat} {A : Around} (r : Room (k + 1) A) (env : Env) : Room k (A.deeper env) :=
  ⟨r.hd, by have := r.dp; show A.depth + 1 + 3 * k + 5 < _; omega, by have := r.un; show A.units + 3 + 16 * k + 200 < _; omega⟩
theorem Room.in1 {k : Nat} {A : Around} (r : Room (k + 1) A) : Room k A.in1 :=
  ⟨r.hd, by have := r.dp; show A.depth + 3 * k + 5 < _; omega, by have := r.un; show A.units + 1 + 16 * k + 200 < _; omega⟩
theorem make_depth {A : Around} {C : Addr} {us : List Value} {kw : List (Str × Value)} : (A.under (.builtin "type.__call__" ⟨.ref C :: us, kw⟩)).depth = A.depth + 1 := by
  first | rfl | simp [Around.under, Code.weight, Code.isCreation, Code.isGuard, Code.isCaller, Code.frames, Code.isFrame, guardIds]
theorem make_units {A : Around} {C : Addr} {us : List Value} {kw : List (Str × Value)} : (A.under (.builtin "type.__call__" ⟨.ref C :: us, kw⟩)).units = A.units + 1 := by
  first | rfl | simp [Around.under, Code.cUnits, Code.frames, Code.isFrame]
theorem Room.make {k : Nat} {A : Around} (r : Room (k + 1) A) (C : Addr) (us : List Value) (kw : List (Str × Value)) : Room k (A.under (.builtin "type.__call__" ⟨.ref C :: us, kw⟩)) :=
  ⟨r.hd, by have := r.dp; rw [make_depth]; omega, by have := r.un; rw [make_units]; omega⟩
theorem Room.depth {k : Nat} {A : Around} (r : Room k A) : A.depth < recursionLimit := by have := r.dp; omega
theorem Room.units {k : Nat} {A : Around} (r : Room k A) : A.units + 64 < cLine := by have := r.un; omega
/-! ### argument lists and displays -/
def tNil : TA := fun _ H Q => Q [] H
def tCons (ta : TE) (tr : TA) : TA := fun σ H Q => ta σ H fun x H1 => tr σ H1 fun xs H2 => Q (x :: xs) H2
section
variable {X : Cx} {e : Expr} {es : List Expr} {te : TE} {t : TA} {pos : Pos}
theorem pa_nil : PA X [] tNil := fun _ _ _ _ H Q I h => Calls.spliced_nil ⟨[], H, I, .nil, h⟩
theorem pa_cons (ha : PE X e te) (hr : PA X es t) (hs : starEach (e :: es) X.env = (false, eval e X.env) :: starEach es X.env := by rfl) : PA X (e :: es) (tCons te t) := by
  intro pos pins s σ H Q I h
  rw [hs]
  show wpAny _ _ (spliced ((false, eval e X.env) :: backTo pos (starEach es X.env))) _ _ s
  refine Calls.spliced_cons (thn (ha pins s σ H _ I h) fun u s1 ⟨x, H1, I1, r1, q1⟩ => ?_)
  exact thn (hr pos pins s1 σ H1 _ I1 q1) fun us s2 ⟨xs, H2, I2, r2, q2⟩ => ⟨x :: xs, H2, I2, .cons r1 r2, q2⟩

def tLst (t : TA) : TE := fun σ H Q => t σ H fun xs H1 => xs.length ≤ sizeLine ∧ ∀ p, H1 p = none → Q (.ref p) (upd H1 p (.lst xs))
theorem pe_lst (h : PA X es t) : PE X (.List es pos) (tLst t) := by
  intro pins s σ H Q I hq
  refine wpAny_List_spliced (thn (h pos pins s σ H _ I hq) fun us s1 ⟨xs, H1, I1, r, z, q⟩ => ⟨by rw [← r.length]; exact z, ?_⟩)
  have hf : H1 s1.heap.objs.size = none := I1.hok.fresh (Nat.le_refl _)
  refine ⟨.ref s1.heap.objs.size, upd H1 s1.heap.objs.size (.lst xs), I1.laid (t' := s1.toks) (fun b u e => Heap.get?_push_of_some _ e) (Nat.le_refl _) ?_, rfl, q _ hf⟩
  exact ⟨z, us, 0, r, Heap.get?_push_size _ rfl⟩
end

/-! ### what a def promises -/
/-- a def's promise: the bound arguments in the parameters' order, the heap, the wanted end, the wanted exception -/
abbrev Sp := List V → Hp → VK → XK → Prop
/-- how an exception lies behind a call (file 08 gives it): the callers' frames, abstract heap and state ahead of the call, the wish, the exception, the state -/
abbrev CXT := List Env → Hp → Shared → XK → Value → Shared → Prop

/-- the state at a call -/
structure Env0 (P : Program) (w : World) (K : PySem.W.Frag) (mg : Str → Option Value) (base : Heap) (A : Around) (outer : List Env) (s : Shared) (H : Hp) : Prop where
  frames : A.frames = some outer
  mod : Mod K mg base
  bs : ∀ b o, base.get? b = some o → s.heap.get? b = some o ∧ H b = none
  bsz : base.objs.size ≤ s.heap.objs.size
  funs : s.heap.FunFrames base outer
  frf : ∀ b ∈ frs outer, H b = none
  hok : HOk P w H s.heap
  bare : AllBare s.gens
/-- a call's end -/
def CE (outer : List Env) (P : Program) (w : World) (H : Hp) (s : Shared) (Q : VK) (u : Value) (s' : Shared) : Prop :=
  ∃ v H', s'.os = s.os ∧ AllBare s'.gens ∧ Un (frs outer) [] H H' s.heap s'.heap ∧ HOk P w H' s'.heap ∧ RelV v u ∧ Q v H'
def CR (CX : CXT) (outer : List Env) (P : Program) (w : World) (H : Hp) (s : Shared) (Q : VK) (E : XK) (r : Result) (s' : Shared) : Prop :=
  match r with
  | .ok (.ret u) => CE outer P w H s Q u s'
  | .ok _ => False
  | .error e => CX outer H s E e s'
structure FnOk (P : Program) (w : World) (K : PySem.W.Frag) (mg : Str → Option Value) (base : Heap) (CX : CXT) (k : Nat) (f : Addr) (fd : FuncData) (ps : List Str) (sp : Sp) : Prop where
  len : ∀ vs H Q E, sp vs H Q E → vs.length = ps.length
  run : ∀ (A : Around) (outer : List Env) (s : Shared) (H : Hp) (args : Args) (us : List Value) (vs : List V) (Q : VK) (E : XK), Room k A → Env0 P w K mg base A outer s H → BindsTo s fd args (ps.zip us) → Vals vs us → sp vs H Q E →
    codeAny (model P w) A (.call (.ref f) args) (CR CX outer P w H s Q E) s
theorem Env0.make {P : Program} {w : World} {K : PySem.W.Frag} {mg : Str → Option Value} {base : Heap} {A : Around} {outer : List Env} {s : Shared} {H : Hp} (e : Env0 P w K mg base A outer s H) (C : Addr) (us : List Value) (kw : List (Str × Value)) :
    Env0 P w K mg base (A.under (.builtin "type.__call__" ⟨.ref C :: us, kw⟩)) outer s H := ⟨by first | exact e.frames | (simpa [Around.under, Code.envs, Code.isFrame, pushEnvs] using e.frames), e.mod, e.bs, e.bsz, e.funs, e.frf, e.hok, e.bare⟩
theorem Env0.in1 {P : Program} {w : World} {K : PySem.W.Frag} {mg : Str → Option Value} {base : Heap} {A : Around} {outer : List Env} {s : Shared} {H : Hp} (e : Env0 P w K mg base A outer s H) :
    Env0 P w K mg base A.in1 outer s H := ⟨e.frames, e.mod, e.bs, e.bsz, e.funs, e.frf, e.hok, e.bare⟩

section
variable {X : Cx} {pins : List (Addr × Obj)} {σ : St} {H : Hp} {s s' : Shared}
/-- from a body: what a callee wants -/
theorem Inv.env0 (I : Inv X pins σ H s) : Env0 X.prog X.w X.K X.mg X.base X.A X.stack s H :=
  ⟨I.ok.frames, I.ok.mod, I.bs, Nat.le_trans I.ok.bsz I.sz, I.stack, I.stkFree, I.hok, I.bare⟩
/-- behind a call -/
theorem Inv.after {Q : VK} {u : Value} (I : Inv X pins σ H s) (h : CE X.stack X.prog X.w H s Q u s') : EP X pins σ Q u s' := by
  obtain ⟨v, H', os, bare, un, hok, r, q⟩ := h
  obtain ⟨hh, g, d, t, os'⟩ := s'
  obtain rfl : os' = s.os := os
  exact ⟨v, H', I.call (h' := hh) (g' := g) (d' := d) (t' := t) (ch := []) un hok bare (fun b z => absurd z (by simp)), r, q⟩
end

/-! ### calls -/
/-- f(..): the written arguments, then the defaults dvs; E: what is wanted of an exception -/
def tCall (sp : Sp) (dvs : List V) (E : XK) (t : TA) : TE := fun σ H Q => t σ H fun vs H1 => sp (vs ++ dvs) H1 Q E
/-- how the parameters are bound: us the positional arguments, kw the keywords' values by name, ds the defaults that fill up -/
def Binds (K : PySem.W.Frag) (fd : FuncData) (ps : List Str) (ds : List Value) : Prop :=
  ∀ (s : Shared) (us : List Value), K.In s.heap → (us ++ ds).length = ps.length → BindsTo s fd ⟨us, []⟩ (ps.zip (us ++ ds))
/-- every parameter is given -/
theorem Binds.all {K : PySem.W.Frag} {fd : FuncData} {ps : List Str} (h : ∀ us : List Value, us.length = ps.length → bindArgs fd ⟨us, []⟩ = pure (ps.zip us)) : Binds K fd ps [] := fun s us _ hl => by
  rw [List.append_nil] at hl ⊢
  exact .of_eq (h us hl)

/-- an exception of a callee reaches what this body wants of exceptions -/
def Passes (CX : CXT) (X : Cx) (E : XK) : Prop := ∀ (pins : List (Addr × Obj)) (σ : St) (H : Hp) (s : Shared) (e : Value) (s' : Shared), Inv X pins σ H s → CX X.stack H s E e s' → X.xe e s'

section
variable {X : Cx} {CX : CXT} {k : Nat} {f C : Addr} {fd : FuncData} {ps : List Str} {sp : Sp} {dvs : List V} {ds : List Value} {E : XK} {x m : Str} {p pos apos : Pos} {e o : Expr} {es : List Expr} {ta : TE} {t : TA}

/-- the callee runs -/
theorem run_fn {pins : List (Addr × Obj)} {σ : St} {H : Hp} {s : Shared} {Q : VK} {us : List Value} {vs : List V} (F : FnOk X.prog X.w X.K X.mg X.base CX k f fd ps sp) (hr : Room k X.A) (hb : Binds X.K fd ps ds) (hd : Vals dvs ds) (hx : Passes CX X E)
    (I : Inv X pins σ H s) (r : Vals vs us) (h : sp (vs ++ dvs) H Q E) : wpAny (model X.prog X.w) X.A (call (.ref f) us) (EP X pins σ Q) X.xe s := by
  have r2 : Vals (vs ++ dvs) (us ++ ds) := r.append hd
  have hl : (us ++ ds).length = ps.length := by rw [← r2.length]; exact F.len _ _ _ _ h
  refine wpAny_call (codeAny_mono (F.run X.A X.stack s H ⟨us, []⟩ (us ++ ds) (vs ++ dvs) Q E hr I.env0 (hb s us I.kIn hl) r2 h) fun r s' hq => ?_)
  cases r with
  | error e => exact hx pins σ H s e s' I hq
  | ok fl =>
    cases fl with
    | ret u => exact I.after hq
    | next => exact False.elim hq
    | brk => exact False.elim hq
    | cont => exact False.elim hq

theorem pe_call (F : FnOk X.prog X.w X.K X.mg X.base CX k f fd ps sp) (hr : Room k X.A) (hg : Gl X x) (hm : X.mg x = some (.ref f)) (hk : PySem.W.keepIn X.K (.ref f) = true) (hb : Binds X.K fd ps ds) (hd : Vals dvs ds) (hx : Passes CX X E)
    (ha : PA X (e :: es) t) (hdb : (x == ("__debug__" : Str)) = false := by decide) (he : starEach (e :: es) X.env = (false, eval e X.env) :: starEach es X.env := by rfl) (hpl : (backTo pos (starEach es X.env)).any (·.1) = false := by rfl) :
    PE X (.Call (.Name x p) (e :: es) [] pos) (tCall sp dvs E t) := by
  intro pins s σ H Q I h
  refine wpAny_Call_Name_kw (ld_glob I hg hm ?_ hdb)
  refine PySem.W.callWith_K (h₀ := X.base) I.ok.mod.kin hk (thn (ha pos pins s σ H _ I h) fun us s1 ⟨vs, H1, I1, r, q⟩ => ⟨I1.kIn, ?_⟩) he hpl
  exact run_fn F hr hb hd hx I1 r q
end

section
variable {X : Cx} {CX : CXT} {k : Nat} {f C : Addr} {fd : FuncData} {ps ks : List Str} {sp : Sp} {E : XK} {x m : Str} {p pos apos kpos : Pos} {e o : Expr} {es : List Expr} {kws : List Keyword} {te ta : TE} {t tk : TA} {nm : Option Str}
variable {g : List Value → List Value → List Value} {gV : List V → List V → List V}
end

/-! ### a def's body keeps its promise -/
/-- names: the parameters first -/
structure FnScope (N P : List Str) (sc : Scope) : Prop where
  kind : sc.kind = .function
  co : sc.isCoroutine = false
  gen : sc.isGenerator = false
  nd : N.Nodup
  pre : N.take P.length = P
  par : ∀ x ∈ P, sc.names.lookup x = some .local ∨ sc.names.lookup x = some .cell
  nofree : ∀ y ∈ sc.names, y.2 ≠ .free

theorem bindL_out {kindOf : Str → Option NameKind} {x : Str} : ∀ {binds : List (Str × Value)} {m : Str → Option Value}, (∀ v, (x, v) ∉ binds) → bindL kindOf binds m x = m x
  | [], _, _ => rfl
  | (n, v) :: r, m, h => by
    unfold bindL
    rw [bindL_out fun w hw => h w (List.mem_cons_of_mem _ hw)]
    split
    · have : x ≠ n := by rintro rfl; exact h v List.mem_cons_self
      simp [this]
    · rfl
theorem bindC_out {kindOf : Str → Option NameKind} {x : Str} : ∀ {binds : List (Str × Value)} {m : Str → Option Value}, (∀ v, (x, v) ∉ binds) → bindC kindOf binds m x = m x
  | [], _, _ => rfl
  | (n, v) :: r, m, h => by
    unfold bindC
    rw [bindC_out fun w hw => h w (List.mem_cons_of_mem _ hw)]
    split
    · rfl
    · have : x ≠ n := by rintro rfl; exact h v List.mem_cons_self
      simp [this]
theorem bindL_get {kindOf : Str → Option NameKind} {x : Str} {v : Value} : ∀ {P : List Str} {vs : List Value} {i : Nat} {m : Str → Option Value}, P.Nodup → P[i]? = some x → vs[i]? = some v → kindOf x = some .local →
    bindL kindOf (P.zip vs) m x = some v
  | [], _, _, _, _, h, _, _ => by simp at h
  | _ :: _, [], _, _, _, _, h, _ => by simp at h
  | p :: P, w :: vs, 0, m, nd, h1, h2, hk => by
    simp at h1 h2; subst h1; subst h2
    show bindL kindOf ((p, w) :: P.zip vs) m p = _
    unfold bindL
    rw [bindL_out fun v hv => (List.nodup_cons.mp nd).1 (List.of_mem_zip hv).1, if_pos hk]
    simp
  | p :: P, w :: vs, i + 1, m, nd, h1, h2, hk => by
    show bindL kindOf ((p, w) :: P.zip vs) m x = _
    unfold bindL
    exact bindL_get (i := i) (List.nodup_cons.mp nd).2 (by simpa using h1) (by simpa using h2) hk
theorem bindC_get {kindOf : Str → Option NameKind} {x : Str} {v : Value} : ∀ {P : List Str} {vs : List Value} {i : Nat} {m : Str → Option Value}, P.Nodup → P[i]? = some x → vs[i]? = some v → kindOf x ≠ some .local →
    bindC kindOf (P.zip vs) m x = some v
  | [], _, _, _, _, h, _, _ => by simp at h
  | _ :: _, [], _, _, _, _, h, _ => by simp at h
  | p :: P, w :: vs, 0, m, nd, h1, h2, hk => by
    simp at h1 h2; subst h1; subst h2
    show bindC kindOf ((p, w) :: P.zip vs) m p = _
    unfold bindC
    rw [bindC_out fun v hv => (List.nodup_cons.mp nd).1 (List.of_mem_zip hv).1, if_neg hk]
    simp
  | p :: P, w :: vs, i + 1, m, nd, h1, h2, hk => by
    show bindC kindOf ((p, w) :: P.zip vs) m x = _
    unfold bindC
    exact bindC_get (i := i) (List.nodup_cons.mp nd).2 (by simpa using h1) (by simpa using h2) hk

/-- the names' values at the entry -/
def start (N : List Str) (vs : List V) : St := vs.map some ++ List.replicate (N.length - vs.length) none

/-- the context of a def's body, at its entry; an exception leaves the frame, then lies as CX says -/
def cxOf (CX : CXT) (P : Program) (w : World) (K : PySem.W.Frag) (mg : Str → Option Value) (base : Heap) (N : List Str) (qual : Str) (scope : Scope) (f : Addr) (cd : Value) (A : Around) (outer : List Env) (s : Shared) (H : Hp) (E : XK) : Cx where
  prog := P
  w := w
  K := K
  mg := mg
  base := base
  A := A.deeper (envOfC qual scope s.heap.objs.size f cd)
  N := N
  s₀ := s
  H₀ := H
  env := envOfC qual scope s.heap.objs.size f cd
  outer := outer
  stack := envOfC qual scope s.heap.objs.size f cd :: outer
  ex := []
  calm := true
  fn := fun _ => true
  pn := []
  xe := fun e s' => wpAny (model P w) (A.deeper (envOfC qual scope s.heap.objs.size f cd)) (leaving (envOfC qual scope s.heap.objs.size f cd) e) (fun _ s'' => CX outer H s E e s'') (fun e' s'' => CX outer H s E e' s'') s'

theorem cell_has {sc : Scope} {n : Nat} {x : Str} (h : sc.names.lookup x = some .cell) : ∃ c, (cellsFrom n sc.names []).lookup x = some c := by
  have q := PySem.W.cellsFrom_some sc.names n [] (.inl h)
  exact Option.isSome_iff_exists.mp q

theorem inv_start {CX : CXT} {P : Program} {w : World} {K : PySem.W.Frag} {mg : Str → Option Value} {base : Heap} {N ps : List Str} {qual : Str} {scope : Scope} {f : Addr} {cd : Value} {A : Around} {outer : List Env} {s s1 : Shared} {H : Hp} {E : XK} {us : List Value} {vs : List V}
    (S : FnScope N ps scope) (hd : A.handled = none) (e0 : Env0 P w K mg base A outer s H) (hl : vs.length = ps.length) (r : Vals vs us)
    (x : InCallC s s.heap.objs.size (bindL (envOfC qual scope s.heap.objs.size f cd).kindOf (ps.zip us) fun _ => none) (cellsFrom (s.heap.objs.size + 1) scope.names []) (bindC (envOfC qual scope s.heap.objs.size f cd).kindOf (ps.zip us) fun _ => none) s1) :
    Inv (cxOf CX P w K mg base N qual scope f cd A outer s H E) [] (start N vs) H s1 := by
  have hpl : ps.length ≤ N.length := by have := congrArg List.length S.pre; rw [List.length_take] at this; omega
  obtain ⟨h1, tk, rfl, hk⟩ := x.done
  have noA : ∀ b : Addr, b ∉ (cxOf CX P w K mg base N qual scope f cd A outer s H E).ex := fun b z => absurd (show b ∈ ([] : List Addr) from z) (by simp)
  refine ⟨⟨e0.mod, S.kind, rfl, rfl, Nat.le_refl _, fun y z c h1 h2 => ?_, fun y hy => ?_, fun y c _ h => ?_, fun _ => hd, Around.frames_deeper e0.frames, .inr ⟨rfl, rfl⟩, fun b z => absurd z (noA b), e0.bs, e0.bsz, fun b _ _ => noA b, fun b z => absurd z (noA b), e0.funs, e0.frf⟩,
    rfl, e0.bare, Un.kept hk, ⟨_, x.toInCall.ns, fun i y v h1 h2 h3 => ?_⟩, fun y c h => ⟨_, x.cell y c h⟩, e0.hok.fresh (Nat.le_refl _), fun y c h => ?_, fun p hp => absurd (show p ∈ ([] : List (Addr × Obj)) from hp) (by simp), e0.hok.kept hk, ?_⟩
  · exact name_of_addr x.apart (PySem.mem_of_lookup h1) (PySem.mem_of_lookup h2)
  · have hy : scope.names.lookup y = some .cell ∨ scope.names.lookup y = some .free := hy
    rcases hy with hy | hy
    · exact cell_has hy
    · exact absurd rfl (S.nofree _ (PySem.mem_of_lookup hy))
  · exact Nat.le_of_lt (x.above y c (PySem.mem_of_lookup h))
  · have hi : i < vs.length := by
      unfold start at h2
      by_cases hi : i < vs.length
      · exact hi
      · rw [List.getElem?_append_right (by simpa using hi)] at h2
        rw [List.getElem?_replicate] at h2
        split at h2 <;> cases h2
    have ha : vs[i]? = some v := by
      unfold start at h2
      rw [List.getElem?_append_left (by simpa using hi), List.getElem?_map] at h2
      cases e : vs[i]? with
      | none => rw [e] at h2; cases h2
      | some a => rw [e] at h2; cases h2; rfl
    obtain ⟨u, hu, rv⟩ := r.get ha
    have hp : ps[i]? = some y := by
      rw [← S.pre, List.getElem?_take_of_lt (by omega)]; exact h1
    have ndP : ps.Nodup := by rw [← S.pre]; exact S.nd.sublist (List.take_sublist _ _)
    refine ⟨u, rv, ?_⟩
    rcases S.par y (List.mem_of_getElem? hp) with k | k
    · exact .inl ⟨k, bindL_get ndP hp hu k⟩
    · obtain ⟨c, e⟩ := cell_has (n := s.heap.objs.size + 1) k
      refine .inr ⟨.inl k, c, e, ?_⟩
      have q := x.cell y c e
      rw [bindC_get ndP hp hu (by show scope.names.lookup y ≠ _; rw [k]; decide)] at q
      exact q
  · exact e0.hok.fresh (Nat.le_of_lt (x.above y c (PySem.mem_of_lookup h)))
  · unfold start
    show _ = N.length
    rw [List.length_append, List.length_map, List.length_replicate]
    omega

/-- THE RULE: a def (or a method) of the text, by its body. The body's reading t is chosen for each entry; it is run at the parameters' values -/
theorem fn_of {CX : CXT} {P : Program} {w : World} {K : PySem.W.Frag} {mg : Str → Option Value} {base : Heap} {k : Nat} {f : Addr} {name qual : Str} {params : Arguments} {body : List Stmt} {scope : Scope} {dV kV doc pm cdv ct oc : Value} {an od : Option Addr}
    {osl : Array (Option Value)} {N ps : List Str} {sp : Sp} (lk : K.lookup f = some ⟨oc, od, .func (PySem.W.fnOf name qual params body scope dV kV doc pm an cdv ct), osl⟩) (hcd : PySem.W.codeIn K cdv qual = true) (S : FnScope N ps scope)
    (len : ∀ vs H Q E, sp vs H Q E → vs.length = ps.length)
    (hbody : ∀ (A : Around) (outer : List Env) (s : Shared) (H : Hp) (vs : List V) (Q : VK) (E : XK), Room k (A.deeper (envOfC qual scope s.heap.objs.size f cdv)) → sp vs H Q E →
      ∃ t, PSs (cxOf CX P w K mg base N qual scope f cdv A outer s H E) body t ∧ t { nx := fun _ H' => Q .non H', rt := Q } (start N vs) H) :
    FnOk P w K mg base CX (k + 1) f (PySem.W.fnOf name qual params body scope dV kV doc pm an cdv ct) ps sp := by
  refine ⟨len, fun A outer s H args us vs Q E hr e0 hb r hsp => ?_⟩
  have hl := len _ _ _ _ hsp
  have KX : K.In s.heap := e0.mod.kin.keeps fun b o e => (e0.bs b o e).1
  have lim : s.heap.NoLimit := e0.mod.nolimit.keeps fun b o e => (e0.bs b o e).1
  have hkind : ∀ y ∈ ps.zip us, scope.names.lookup y.1 = some .local ∨ (scope.names.lookup y.1 = some .cell ∧ ((cellsFrom (s.heap.objs.size + 1) scope.names []).lookup y.1).isSome = true) := fun ⟨n, v⟩ hy => by
    rcases S.par n (List.of_mem_zip hy).1 with q | q
    · exact .inl q
    · exact .inr ⟨q, PySem.W.cellsFrom_some _ _ _ (.inl q)⟩
  refine codeAny_call_function hr.depth (KX _ _ lk) rfl S.co S.gen rfl (PySem.W.codeRec_of KX hcd) (hb _ _ _ _ ?_)
  refine wpAny_newFunctionEnv_cells S.kind hkind fun env he s1 x => ?_
  subst he
  refine ⟨lim.keeps x.toInCall.keep, codeAny_func ?_⟩
  obtain ⟨t, ht, hq⟩ := hbody A outer s H vs Q E (hr.deeper _) hsp
  have I : Inv (cxOf CX P w K mg base N qual scope f cdv A outer s H E) [] (start N vs) H s1 := inv_start S hr.hd e0 hl r x
  refine wpAny_mono (ht [] s1 (start N vs) H _ I hq) (fun fl s' hs => ?_) fun e s' hs => hs
  have fin : ∀ {σ' : St} {H' : Hp} {v : V} {u : Value}, Inv (cxOf CX P w K mg base N qual scope f cdv A outer s H E) [] σ' H' s' → RelV v u → Q v H' → CE outer P w H s Q u s' :=
    fun {σ' H' v u} J rv q => ⟨v, H', J.os, J.bare, J.base, J.hok, rv, q⟩
  cases fl with
  | ret u =>
    obtain ⟨v, σ', H', J, rv, q⟩ := hs
    exact fin J rv q
  | next =>
    obtain ⟨σ', H', J, q⟩ := hs
    exact fin (v := V.non) (u := Value.none) J rfl q
  | brk =>
    obtain ⟨_, _, _, q⟩ := hs
    exact False.elim q
  | cont =>
    obtain ⟨_, _, _, q⟩ := hs
    exact False.elim q
end L2

namespace L2
open PySem PySem.Spec PyProof.Rows
section
variable {X : Cx} {x : Str} {p pos : Pos} {e : Expr} {es : List Expr} {t : TA} {id T : String} {r : List V → Hp → VK → Prop}

def tCB (r : List V → Hp → VK → Prop) (t : TA) : TE := fun σ H Q => t σ H fun vs H1 => r vs H1 Q
/-- f(e, ..), f a built-in function -/
theorem pe_callB (hc : CallR X (.builtin id) r) (hg : Gl X x) (hm : X.mg x = none) (hv : bootBuiltins x = some (.builtin id)) (ha : PA X (e :: es) t) (hn : x ≠ "__name__" := by decide) (hdb : (x == ("__debug__" : Str)) = false := by decide)
    (he : starEach (e :: es) X.env = (false, eval e X.env) :: starEach es X.env := by rfl) (hpl : (backTo pos (starEach es X.env)).any (·.1) = false := by rfl) : PE X (.Call (.Name x p) (e :: es) [] pos) (tCB r t) := by
  intro pins s σ H Q I h
  refine wpAny_Call_Name_kw (ld_blt I hg hm hv ?_ hn hdb)
  exact PyProof.Rows.callWith_builtin1 (thn (ha pos pins s σ H _ I h) fun us s1 ⟨vs, H1, I1, r1, q1⟩ => hc pins s1 σ H1 vs us Q I1 r1 q1) he hpl
/-- T(e, ..), T a built-in type -/
theorem pe_callTy (hc : CallR X (.type T) r) (hg : Gl X x) (hm : X.mg x = none) (hv : bootBuiltins x = some (.type T)) (ha : PA X (e :: es) t) (hn : x ≠ "__name__" := by decide) (hdb : (x == ("__debug__" : Str)) = false := by decide)
    (he : starEach (e :: es) X.env = (false, eval e X.env) :: starEach es X.env := by rfl) (hpl : (backTo pos (starEach es X.env)).any (·.1) = false := by rfl) : PE X (.Call (.Name x p) (e :: es) [] pos) (tCB r t) := by
  intro pins s σ H Q I h
  refine wpAny_Call_Name_kw (ld_blt I hg hm hv ?_ hn hdb)
  exact PyProof.Rows.callWith_type1 (thn (ha pos pins s σ H _ I h) fun us s1 ⟨vs, H1, I1, r1, q1⟩ => hc pins s1 σ H1 vs us Q I1 r1 q1) he hpl
end
end L2

namespace HT
open PySem PyProof.Rows

section
open PySem.SeqAt
open PySem.AutoSeq1 (wpAny_loadPart')
open PySem.MeetsSeq PySem.MeetsSeq2 PySem.MeetsSeq3

end

section
variable {prog : Program} {w : World} {A : Around} {E : Value → Shared → Prop} {s : Shared}

/-! ### t[a:b], not the whole -/
/-- a slice's bound as a place among n (d where it is left out) -/
def sIx (n d : Nat) : Option Int → Nat
  | none => d
  | some v => if v < 0 then (v + (n : Int)).toNat else min v.toNat n
theorem sIx_nat (n d k : Nat) : sIx n d (some (k : Int)) = min k n := by
  show (if (k : Int) < 0 then ((k : Int) + (n : Int)).toNat else min (k : Int).toNat n) = min k n
  rw [if_neg (by omega), Int.toNat_natCast]
theorem sIx_le (n d : Nat) (hd : d ≤ n) (o : Option Int) : sIx n d o ≤ n := by
  cases o with
  | none => exact hd
  | some v =>
    show (if v < 0 then (v + (n : Int)).toNat else min v.toNat n) ≤ n
    by_cases hv : v < 0
    · rw [if_pos hv]; omega
    · rw [if_neg hv]; exact Nat.min_le_right _ _
end
end HT

namespace L2
open PySem PySem.Spec PyProof.Rows

/-! ### the parts of a slice -/
abbrev TO := St → Hp → (Option Int → Hp → Prop) → Prop
/-- a slice's part (left out, or an int) -/
def PO (X : Cx) (e : Option Expr) (t : TO) : Prop :=
  ∀ (pins : List (Addr × Obj)) (s : Shared) (σ : St) (H : Hp) (Q : Option Int → Hp → Prop), Inv X pins σ H s → t σ H Q →
    wpAny (model X.prog X.w) X.A (evalPart e X.env) (fun u s' => ∃ o H', Inv X pins σ H' s' ∧ IsPart u o ∧ Q o H') X.xe s
def tNoPart : TO := fun _ H Q => Q none H
def tPart (t : TE) : TO := fun σ H Q => t σ H fun x H1 => ∃ i, x = .int i ∧ Q (some i) H1

section
variable {X : Cx} {e : Expr} {te : TE} {lo hi : Option Expr} {tl th : TO} {pos p2 : Pos}

theorem po_none : PO X none tNoPart := by
  intro pins s σ H Q I h
  rw [evalPart_none]
  exact wpAny_pure ⟨none, H, I, .none, h⟩
theorem po_some (h : PE X e te) : PO X (some e) (tPart te) := by
  intro pins s σ H Q I hw
  rw [evalPart_some]
  refine thn (h pins s σ H _ I hw) fun u s1 ⟨x, H1, I1, r1, q1⟩ => ?_
  obtain ⟨i, rfl, q⟩ := q1
  obtain ⟨t, rfl⟩ := r1
  exact ⟨some i, H1, I1, .int i t, q⟩

/-- what a slice of a value is, by values: the slice object stands at sl -/
def SlR (X : Cx) (r : V → Option Int → Option Int → Hp → VK → Prop) : Prop :=
  ∀ (pins : List (Addr × Obj)) (s : Shared) (σ : St) (H : Hp) (x : V) (v vl vu : Value) (lo hi : Option Int) (sl : Addr) (Q : VK), Inv X pins σ H s → RelV x v → s.heap.IsSliceOf sl vl vu .none → IsPart vl lo → IsPart vu hi → r x lo hi H Q →
    ∃ T id, typeLookup (.type T) "__getitem__" = pure (some (.builtin id)) ∧ s.TypeIs v T ∧ wpAny (model X.prog X.w) X.A (getItem v (.ref sl)) (EP X pins σ Q) X.xe s
def tSl (r : V → Option Int → Option Int → Hp → VK → Prop) (te : TE) (tl th : TO) : TE := fun σ H Q => te σ H fun x H1 => tl σ H1 fun l H2 => th σ H2 fun u H3 => r x l u H3 Q
/-- a[lo:hi], any a -/
theorem pe_slice {r : V → Option Int → Option Int → Hp → VK → Prop} (hr : SlR X r) (he : PE X e te) (hl : PO X lo tl) (hu : PO X hi th) : PE X (.Subscript e (.Slice lo hi none p2) pos) (tSl r te tl th) := by
  intro pins s σ H Q I h
  refine Subscript_ (thn (he pins s σ H _ I h) fun v s1 ⟨x, H1, I1, r1, q1⟩ => ?_)
  refine wpAny_Slice (thn (hl pins s1 σ H1 _ I1 q1) fun vl s2 ⟨l, H2, I2, pl, q2⟩ => thn (hu pins s2 σ H2 _ I2 q2) fun vu s3 ⟨u, H3, I3, pu, q3⟩ => ?_)
  rw [evalPart_none]
  refine wpAny_pure ?_
  have I4 : Inv X pins σ H3 { s3 with heap := s3.heap.push { cls := .type "slice", data := .fields #[vl, vu, .none] } } := I3.kept (t' := s3.toks) fun b ob q => Heap.get?_push_of_some _ q
  obtain ⟨T, id, hT, ht, hg⟩ := hr pins { s3 with heap := s3.heap.push { cls := .type "slice", data := .fields #[vl, vu, .none] } } σ H3 x v vl vu l u s3.heap.objs.size Q I4 r1 (Heap.IsSliceOf.new ..) pl pu q3
  show wpAny (model X.prog X.w) X.A (subscriptTail e (.Slice lo hi none p2) v (.ref s3.heap.objs.size)) (EP X pins σ Q) X.xe { s3 with heap := s3.heap.push { cls := .type "slice", data := .fields #[vl, vu, .none] } }
  exact tail_any (ops := [.ref s3.heap.objs.size, v]) ht hT hg (by with_unfolding_all rfl)

/-- the items of xs[lo:hi] -/
def cutV (xs : List V) (lo hi : Option Int) : List V := (xs.drop (HT.sIx xs.length 0 lo)).take (HT.sIx xs.length xs.length hi - HT.sIx xs.length 0 lo)
theorem cutV_length (xs : List V) (lo hi : Option Int) : (cutV xs lo hi).length ≤ xs.length := by
  unfold cutV
  rw [List.length_take, List.length_drop]
  omega
end
end L2

namespace L2
open PySem PySem.Spec PyProof.Rows

/-! ### places -/
/-- the place that an index of any sign means -/
def ixN (n : Nat) (i : Int) : Option Nat := if 0 ≤ i then (if i < n then some i.toNat else none) else if -(n : Int) ≤ i then some (i + n).toNat else none
def atI {α : Type} (xs : List α) (i : Int) : Option α := (ixN xs.length i).bind fun j => xs[j]?
theorem ixN_seq {n : Nat} {i : Int} {j : Nat} (h : ixN n i = some j) : seqIndex? i n = some j ∧ j < n ∧ -(n : Int) ≤ i ∧ i < n := by
  unfold ixN at h
  by_cases h0 : 0 ≤ i
  · rw [if_pos h0] at h
    by_cases h1 : i < n
    · rw [if_pos h1] at h
      have e : i.toNat = j := Option.some.inj h
      exact ⟨by rw [seqIndex_of h0 h1, e], by omega, by omega, h1⟩
    · rw [if_neg h1] at h; cases h
  · rw [if_neg h0] at h
    by_cases h1 : -(n : Int) ≤ i
    · rw [if_pos h1] at h
      have e : (i + n).toNat = j := Option.some.inj h
      exact ⟨by rw [seqIndex_neg (by omega) h1, e], by omega, h1, by omega⟩
    · rw [if_neg h1] at h; cases h
theorem atI_get {α : Type} {xs : List α} {i : Int} {v : α} (h : atI xs i = some v) : ∃ j, seqIndex? i xs.length = some j ∧ xs[j]? = some v ∧ j < xs.length ∧ -(xs.length : Int) ≤ i ∧ i < xs.length := by
  unfold atI at h
  cases e : ixN xs.length i with
  | none => rw [e] at h; cases h
  | some j =>
    rw [e] at h
    obtain ⟨h1, h2, h3, h4⟩ := ixN_seq e
    exact ⟨j, h1, h, h2, h3, h4⟩
theorem atI_nat {α : Type} {xs : List α} {j : Nat} {v : α} (h : xs[j]? = some v) : atI xs (j : Int) = some v := by
  have hj : j < xs.length := (List.getElem?_eq_some_iff.mp h).1
  have e : ixN xs.length (j : Int) = some j := by
    unfold ixN
    rw [if_pos (by omega), if_pos (by omega)]; simp
  unfold atI; rw [e]; exact h
theorem atI_last {α : Type} (xs : List α) (v : α) : atI (xs ++ [v]) (-1) = some v := by
  have hl : (xs ++ [v]).length = xs.length + 1 := by simp
  have e : ixN (xs ++ [v]).length (-1) = some xs.length := by
    unfold ixN
    rw [hl, if_neg (by decide), if_pos (by omega)]
    congr 1
    omega
  unfold atI
  rw [e]
  show (xs ++ [v])[xs.length]? = some v
  simp

/-! ### what may be subscripted -/
/-- what stands as an index of a plain subscript -/
def PlainIx (b : Expr) : Prop := ∀ o i, subscripted b false o i = operate [o, i] (getItem o i)
/-- a subscript by values -/
def IxR (X : Cx) (r : R2) : Prop :=
  ∀ (value slice : Expr) (pins : List (Addr × Obj)) (s : Shared) (σ : St) (H : Hp) (x y : V) (v u : Value) (Q : VK), Inv X pins σ H s → RelV x v → RelV y u → r x y H Q →
    subscripted slice false v u = operate [v, u] (getItem v u) → wpAny (model X.prog X.w) X.A (subscriptTail value slice v u) (EP X pins σ Q) X.xe s
/-- a call of a builtin's method by values: the receiver, the arguments -/
def MtR (X : Cx) (id : String) (r : V → List V → Hp → VK → Prop) : Prop :=
  ∀ (pins : List (Addr × Obj)) (s : Shared) (σ : St) (H : Hp) (x : V) (xs : List V) (v : Value) (us : List Value) (Q : VK), Inv X pins σ H s → RelV x v → Vals xs us → r x xs H Q →
    wpAny (model X.prog X.w) X.A (call (.builtin id) (v :: us)) (EP X pins σ Q) X.xe s
section
variable {X : Cx} {a b : Expr} {ta tb : TE} {pos : Pos}
/-- a[b] -/
theorem pe_ix {r : R2} (hr : IxR X r) (ha : PE X a ta) (hb : PE X b tb) (hs : PlainIx b) : PE X (.Subscript a b pos) (tOp r ta tb) := by
  intro pins s σ H Q I h
  exact Subscript_ (binT ha hb I h fun v u s2 x y H2 I2 rx ry q => hr a b pins s2 σ H2 x y v u Q I2 rx ry q (hs _ _))

def rIxL (K : PySem.W.Frag) : R2 := fun x y H Q => ∃ p xs i v, x = .ref p ∧ y = .int i ∧ SqL K H p xs ∧ atI xs i = some v ∧ Q v H
def rIxS : R2 := fun x y H Q => ∃ z i c, x = .str z ∧ y = .int i ∧ z.length ≤ sizeLine ∧ atI z.cps.toList i = some c ∧ Q (.str ⟨#[c]⟩) H
theorem ix_list : IxR X (rIxL X.K) := by
  intro value slice pins s σ H x y v u Q I rx ry h hs
  obtain ⟨p, xs, i, z, rfl, rfl, hq, he, q⟩ := h
  cases rx
  obtain ⟨t, rfl⟩ := ry
  obtain ⟨its, r, pl, hz⟩ := I.list hq
  obtain ⟨j, h1, h2, h3, h4, h5⟩ := atI_get he
  obtain ⟨w, ew, rw'⟩ := r.get h2
  have hl := r.length
  have hn := line63
  have fin : EP X pins σ Q w s := ⟨z, H, I, rw', q⟩
  by_cases h0 : 0 ≤ i
  · have hj : i.toNat = j := by
      rw [seqIndex_of h0 h5] at h1
      exact Option.some.inj h1
    exact item_listR pl.isList h0 (by omega) (by rw [hj]; simpa using ew) fin hs
  · have hj : (i + (its.toArray.size : Int)).toNat = j := by
      rw [seqIndex_neg (by omega) h4] at h1
      rw [List.size_toArray, ← hl]
      exact Option.some.inj h1
    exact subscriptTail_builtinR (x := w) pl.isList.typeIs slot_list_getitem.lookup
      (wpAny_getItem_list_neg (Q := fun r s' => r = w ∧ EP X pins σ Q r s') pl.isList (by omega) (by rw [List.size_toArray] <;> omega) (by omega) (by rw [hj]; simpa using ew) ⟨rfl, fin⟩) hs
theorem ix_str : IxR X rIxS := by
  intro value slice pins s σ H x y v u Q I rx ry h hs
  obtain ⟨z, i, c, rfl, rfl, hz, he, q⟩ := h
  obtain ⟨t, rfl⟩ := rx
  obtain ⟨t', rfl⟩ := ry
  obtain ⟨j, h1, h2, h3, h4, h5⟩ := atI_get he
  have hl : z.cps.toList.length = z.length := by simp [Str.length]
  rw [hl] at h1 h4 h5
  have hn := line63
  exact tail_any (typeIs_str s z t) slot_str_getitem.lookup (getItem_str (c := c) (by
    have e1 : decide (i < -(2 ^ 63 : Int)) = false := decide_eq_false (by omega)
    have e2 : decide (i ≥ 2 ^ 63) = false := decide_eq_false (by omega)
    rw [e1, e2, Bool.or_false]) (by rw [h1]; simpa using h2) ⟨.str ⟨#[c]⟩, H, I.tok _, ⟨_, rfl⟩, q⟩) hs
theorem Inv.lst {pins : List (Addr × Obj)} {σ : St} {H : Hp} {s : Shared} {p : Addr} {xs : List V} (I : Inv X pins σ H s) (h : H p = some (.lst xs)) :
    ∃ (its : List Value) (n : Nat), Vals xs its ∧ s.heap.get? p = some { cls := .type "list", data := .seq its.toArray n } ∧ xs.length ≤ sizeLine := by
  obtain ⟨z, its, n, r, e⟩ := I.hok p _ h
  exact ⟨its, n, r, e, z⟩
/-! ### slices -/
theorem slice_bounds (lo hi : Option Int) (n : Nat) : (sliceBounds lo hi none n).1 = ((HT.sIx n 0 lo : Nat) : Int) ∧ (sliceBounds lo hi none n).2.1 = ((HT.sIx n n hi : Nat) : Int) ∧ (sliceBounds lo hi none n).2.2 = 1 := by
  refine ⟨?_, ?_, rfl⟩
  · cases lo with
    | none => simp [sliceBounds, HT.sIx]
    | some i =>
      simp only [sliceBounds, HT.sIx, Option.getD_none, show (1 : Int) > 0 by decide, if_true]
      by_cases h : i < 0
      · simp only [h, if_true] <;> omega
      · simp only [h, if_false] <;> omega
  · cases hi with
    | none => simp [sliceBounds, HT.sIx]
    | some i =>
      simp only [sliceBounds, HT.sIx, Option.getD_none, show (1 : Int) > 0 by decide, if_true]
      by_cases h : i < 0
      · simp only [h, if_true] <;> omega
      · simp only [h, if_false] <;> omega
theorem slicePick_cut (its : List Value) (lo hi : Option Int) : slicePick its.toArray lo hi none = ((its.drop (HT.sIx its.length 0 lo)).take (HT.sIx its.length its.length hi - HT.sIx its.length 0 lo)).toArray := by
  obtain ⟨h1, h2, h3⟩ := slice_bounds lo hi its.toArray.size
  unfold slicePick
  rw [h1, h2, h3]
  simp only [sliceRange_one, pick_run, List.size_toArray] <;> rfl
/-- xs[lo:hi] of a list: a new list -/
def rSlL (K : PySem.W.Frag) : V → Option Int → Option Int → Hp → VK → Prop := fun x lo hi H Q => ∃ a xs, x = .ref a ∧ SqL K H a xs ∧ ∀ p, H p = none → Q (.ref p) (upd H p (.lst (cutV xs lo hi)))
theorem sl_list : SlR X (rSlL X.K) := by
  intro pins s σ H x v vl vu lo hi sl Q I rx hs pl pu h
  obtain ⟨a, xs, rfl, hx, q⟩ := h
  cases rx
  obtain ⟨its, r, ht, hz⟩ := I.list hx
  have hlen := r.length
  refine ⟨"list", _, slot_list_getitem.lookup, ht.isList.typeIs, ?_⟩
  refine wpAny_getItem_list_slice ht.isList hs pl pu .none (by simp) ?_ (by rw [List.size_toArray] <;> omega)
  rw [slicePick_cut, ← hlen]
  refine ⟨.ref s.heap.objs.size, _, I.laid (t' := s.toks) (o := .lst (cutV xs lo hi)) (fun b ob q => Heap.get?_push_of_some _ q) (Nat.le_refl _) ?_, rfl, q _ (I.hok.fresh (Nat.le_refl _))⟩
  exact ⟨Nat.le_trans (cutV_length xs lo hi) hz, _, 0, (r.drop (HT.sIx xs.length 0 lo)).take (HT.sIx xs.length xs.length hi - HT.sIx xs.length 0 lo), Heap.get?_push_size _ rfl⟩

/-! ### in, not in: flat items -/
def flatV : V → Bool
  | .non => true
  | .bl _ => true
  | .int _ => true
  | .str _ => true
  | _ => false
/-- == of flat values -/
def eqV : V → V → Bool
  | .non, .non => true
  | .bl a, .bl b => a == b
  | .bl a, .int b => (if a then 1 else 0) == b
  | .int a, .bl b => a == (if b then 1 else 0)
  | .int a, .int b => a == b
  | .str a, .str b => a == b
  | _, _ => false
theorem eqAt_V {A : Around} {s : Shared} {y x : V} {u v : Value} (ry : RelV y u) (rx : RelV x v) (fy : flatV y = true) (fx : flatV x = true) : SeqAt.EqAt A s u v (eqV y x) := by
  cases y with
  | non =>
    cases ry
    cases x with
    | non => cases rx; exact SeqAt.EqAt.same _
    | bl b => cases rx; exact SeqAt.EqAt.none_bool b
    | int b => obtain ⟨t, rfl⟩ := rx; exact SeqAt.EqAt.none_int b t
    | str b => obtain ⟨t, rfl⟩ := rx; exact SeqAt.EqAt.none_str b t
    | _ => exact absurd (show false = true from fx) Bool.false_ne_true
  | bl a =>
    cases ry
    cases x with
    | non => cases rx; exact SeqAt.EqAt.bool_none a
    | bl b => cases rx; exact SeqAt.EqAt.bool_bool a b
    | int b => obtain ⟨t, rfl⟩ := rx; exact SeqAt.EqAt.bool_int a b t
    | str b => obtain ⟨t, rfl⟩ := rx; exact SeqAt.EqAt.bool_str a b t
    | _ => exact absurd (show false = true from fx) Bool.false_ne_true
  | int a =>
    obtain ⟨t', rfl⟩ := ry
    cases x with
    | non => cases rx; exact SeqAt.EqAt.int_none a t'
    | bl b => cases rx; exact SeqAt.EqAt.int_bool a t' b
    | int b => obtain ⟨t, rfl⟩ := rx; exact SeqAt.EqAt.int_int a t' b t
    | str b => obtain ⟨t, rfl⟩ := rx; exact SeqAt.EqAt.int_str a t' b t
    | _ => exact absurd (show false = true from fx) Bool.false_ne_true
  | str a =>
    obtain ⟨t', rfl⟩ := ry
    cases x with
    | non => cases rx; exact SeqAt.EqAt.str_none a t'
    | bl b => cases rx; exact SeqAt.EqAt.str_bool a t' b
    | int b => obtain ⟨t, rfl⟩ := rx; exact SeqAt.EqAt.str_int a t' b t
    | str b => obtain ⟨t, rfl⟩ := rx; exact SeqAt.EqAt.str_str a t' b t
    | _ => exact absurd (show false = true from fx) Bool.false_ne_true
  | _ => exact absurd (show false = true from fy) Bool.false_ne_true
theorem op_notIn_str : OpR X (compareOp .NotIn) (fun x y H Q => ∃ i j, x = .str i ∧ y = .str j ∧ Q (.bl (!(!(Builtin.Str.occurrences j i 0 j.length 1).isEmpty))) H) := by
  intro pins s σ H x y v u Q I rx ry h
  obtain ⟨i, j, rfl, rfl, q⟩ := h
  obtain ⟨t, rfl⟩ := rx
  obtain ⟨t', rfl⟩ := ry
  exact notIn_str ⟨.bl _, H, I, rfl, q⟩

/-! ### len, list(x), tuple(x) of any list or tuple that is read -/
theorem call_len_seq : CallR X (.builtin "len") (fun xs H Q => ∃ p ys, xs = [.ref p] ∧ (SqL X.K H p ys ∨ SqT X.K H p ys) ∧ Q (.int ys.length) H) := by
  intro pins s σ H xs us Q I r h
  obtain ⟨p, ys, rfl, hq, q⟩ := h
  obtain ⟨u, rfl, rx⟩ := vals1 r
  cases rx
  have hn := line63
  rcases hq with hq | hq
  · obtain ⟨its, r', pl, hz⟩ := I.list hq
    have hlen := r'.length
    exact Calls.call_len_list pl.isList (by simp only [List.size_toArray] <;> omega) ⟨.int ys.length, H, I.tok _, ⟨s.toks + 1, by rw [List.size_toArray, hlen]⟩, q⟩
  · obtain ⟨its, r', pl, hz⟩ := I.tuple hq
    have hlen := r'.length
    exact len_tuple pl (by simp only [List.size_toArray] <;> omega) ⟨.int ys.length, H, I.tok _, ⟨s.toks + 1, by rw [List.size_toArray, hlen]⟩, q⟩
theorem call_len_str : CallR X (.builtin "len") (fun xs H Q => ∃ z, xs = [.str z] ∧ z.length ≤ sizeLine ∧ Q (.int z.length) H) := by
  intro pins s σ H xs us Q I r h
  obtain ⟨z, rfl, hz, q⟩ := h
  obtain ⟨u, rfl, t, rfl⟩ := vals1 r
  have hn := line63
  exact len_str (by omega) ⟨.int z.length, H, I.tok _, ⟨_, rfl⟩, q⟩
theorem call_list_of : CallR X (.type "list") (fun xs H Q => ∃ p ys, xs = [.ref p] ∧ (SqL X.K H p ys ∨ SqT X.K H p ys) ∧ ∀ l, H l = none → Q (.ref l) (upd H l (.lst ys))) := by
  intro pins s σ H xs us Q I r h
  obtain ⟨p, ys, rfl, hq, q⟩ := h
  obtain ⟨u, rfl, rx⟩ := vals1 r
  cases rx
  have fin : ∀ (its : List Value), Vals ys its → ys.length ≤ sizeLine → ∀ (h' : Heap) (c' : Nat), (∀ b o', s.heap.get? b = some o' → h'.get? b = some o') →
      h'.get? s.heap.objs.size = some { cls := .type "list", dict := none, data := .seq its.toArray c', slots := #[] } → EP X pins σ Q (.ref s.heap.objs.size) { s with heap := h' } := fun its r' hz h' c' kp e =>
    ⟨.ref s.heap.objs.size, _, I.laid (t' := s.toks) kp (Nat.le_refl _) (show ObjOk X.prog X.w _ h' _ (.lst ys) from ⟨hz, its, c', r', e⟩), rfl, q _ (I.hok.fresh (Nat.le_refl _))⟩
  rcases hq with hq | hq
  · obtain ⟨its, r', pl, hz⟩ := I.list hq
    have hlen := r'.length
    obtain ⟨o, ho, hc, n, hd⟩ := pl.isList
    exact call_list_seq p (.inl rfl) ho hc hd (fun h' c' kp e => fin its r' hz h' c' kp e) (by simp only [List.size_toArray] <;> omega)
  · obtain ⟨its, r', pl, hz⟩ := I.tuple hq
    have hlen := r'.length
    obtain ⟨o, ho, hc, n, hd⟩ := pl
    exact call_list_seq p (.inr rfl) ho hc hd (fun h' c' kp e => fin its r' hz h' c' kp e) (by simp only [List.size_toArray] <;> omega)
/-! ### the call of a builtin's method: o.m(..) -/
/-- the value is of that builtin type -/
def tyV (K : PySem.W.Frag) (T : String) (x : V) (H : Hp) : Prop := match x with
  | .str _ => T = "str"
  | .int _ => T = "int"
  | .ref p => (T = "list" ∧ ∃ xs, SqL K H p xs) ∨ (T = "tuple" ∧ ∃ o, K.lookup p = some o ∧ o.cls = .type "tuple" ∧ o.dict = none) ∨
      (T = "dict" ∧ ((∃ kvs, H p = some (.dK kvs)) ∨ ∃ kvs, H p = some (.dT kvs))) ∨ (T = "set" ∧ ∃ S n, H p = some (.set S n))
  | _ => False
theorem tyV_is {pins : List (Addr × Obj)} {σ : St} {H : Hp} {s : Shared} {T : String} {x : V} {v : Value} (I : Inv X pins σ H s) (r : RelV x v) (ty : tyV X.K T x H) :
    s.TypeIs v T ∧ ∀ a, v = .ref a → ∃ ob, s.heap.get? a = some ob ∧ ob.dict = none := by
  cases x with
  | str z =>
    obtain ⟨t, rfl⟩ := r
    cases (show T = "str" from ty)
    exact ⟨typeIs_str s z t, fun _ e => nomatch e⟩
  | int i =>
    obtain ⟨t, rfl⟩ := r
    cases (show T = "int" from ty)
    exact ⟨typeIs_int s i t, fun _ e => nomatch e⟩
  | ref p =>
    cases r
    rcases ty with ⟨rfl, xs, hq⟩ | ⟨rfl, o, hk, hc, hd⟩ | ⟨rfl, hk⟩ | ⟨rfl, S, n, hk⟩
    · obtain ⟨its, _, pl, _⟩ := I.list hq
      refine ⟨pl.isList.typeIs, fun a e => ?_⟩
      cases e
      obtain ⟨o, n, e, c, hd, _⟩ := pl
      exact ⟨o, e, hd⟩
    · refine ⟨⟨o, I.kIn p o hk, hc⟩, fun a e => ?_⟩
      cases e
      exact ⟨o, I.kIn _ o hk, hd⟩
    · have z : ∃ o, s.heap.get? p = some o ∧ o.ExactDict := by
        rcases hk with ⟨kvs, hk⟩ | ⟨kvs, hk⟩
        · obtain ⟨_, _, _, _, o, _, _, e, ex, _⟩ := I.hok p _ hk
          exact ⟨o, e, ex⟩
        · obtain ⟨_, _, _, _, o, _, _, e, ex, _⟩ := I.hok p _ hk
          exact ⟨o, e, ex⟩
      obtain ⟨o, e, ex⟩ := z
      refine ⟨⟨o, e, ex.1⟩, fun a e2 => ?_⟩
      cases e2
      exact ⟨o, e, ex.2.1⟩
    · obtain ⟨o, _, _, _, e, ex, _⟩ := I.hok p _ hk
      refine ⟨⟨o, e, ex.1⟩, fun a e2 => ?_⟩
      cases e2
      exact ⟨o, e, ex.2.1⟩
  | _ => exact False.elim ty
def tBM0 (K : PySem.W.Frag) (T : String) (r : V → List V → Hp → VK → Prop) (to : TE) : TE := fun σ H Q => to σ H fun x H1 => tyV K T x H1 ∧ r x [] H1 Q
def tBM (K : PySem.W.Frag) (T : String) (r : V → List V → Hp → VK → Prop) (to : TE) (t : TA) : TE := fun σ H Q => to σ H fun x H1 => tyV K T x H1 ∧ t σ H1 fun xs H2 => r x xs H2 Q
variable {o e : Expr} {es : List Expr} {to : TE} {t : TA} {name : Str} {apos cpos : Pos} {T id : String} {r : V → List V → Hp → VK → Prop}
theorem pe_bm0 (pa : PlainAttrs T) (slot : Slot T name id) (hty : typeOf (.builtin id) = pure (.type "method_descriptor")) (hm : MtR X id r) (ho : PE X o to)
    (hbase : attributeBase o name X.env (eval o X.env) = eval o X.env := by rfl) (hline : (apos.endLine == cpos.line) = true := by rfl) : PE X (.Call (.Attribute o name apos) [] [] cpos) (tBM0 X.K T r to) := by
  intro pins s σ H Q I h
  refine wpAny_Call_method0_late hbase hline (thn (ho pins s σ H _ I h) fun v s1 ⟨x, H1, I1, r1, ty, q1⟩ => ?_)
  obtain ⟨h1, h2⟩ := tyV_is I1 r1 ty
  exact ⟨T, id, pa, slot, hty, h1, h2, Calls.callWith_builtin rfl (PySem.evalArgs_none (hm pins s1 σ H1 x [] v [] Q I1 r1 .nil q1))⟩
theorem pe_bm (pa : PlainAttrs T) (slot : Slot T name id) (hty : typeOf (.builtin id) = pure (.type "method_descriptor")) (hm : MtR X id r) (ho : PE X o to) (ha : PA X (e :: es) t)
    (hbase : attributeBase o name X.env (eval o X.env) = eval o X.env := by rfl)
    (hfew : ((backTo cpos (starEach (e :: es) X.env)).all (fun x => !x.1) && (backToKw cpos (keywordEach [] X.env)).all (fun x => x.1.isSome)
      && decide ((e :: es).length + ([] : List Keyword).length + (if ([] : List Keyword).isEmpty then 0 else 1) < 30)) = true := by rfl)
    (hline : (apos.endLine == cpos.line) = true := by rfl) (hs : starEach (e :: es) X.env = (false, eval e X.env) :: starEach es X.env := by rfl) (hplain : (backTo cpos (starEach es X.env)).any (·.1) = false := by rfl) :
    PE X (.Call (.Attribute o name apos) (e :: es) [] cpos) (tBM X.K T r to t) := by
  intro pins s σ H Q I h
  refine wpAny_Call_method_late hbase hfew hline rfl (thn (ho pins s σ H _ I h) fun v s1 ⟨x, H1, I1, r1, ty, q1⟩ => ?_)
  obtain ⟨h1, h2⟩ := tyV_is I1 r1 ty
  refine ⟨T, id, pa, slot, hty, h1, h2, ?_⟩
  have hA := ha cpos pins s1 σ H1 _ I1 q1
  rw [hs] at hA ⊢
  refine Calls.callWith_builtin (by show (false || (backTo cpos (starEach es X.env)).any (·.1)) = false; rw [hplain] <;> rfl) (Calls.evalArgs_plain ?_)
  exact thn hA fun us s2 ⟨vs, H2, I2, r2, q2⟩ => hm pins s2 σ H2 x vs v us Q I2 r1 r2 q2
/- xs.append(e), list.index on a module's tuple .. are MtR facts of 06m -/
end
end L2

namespace L2
open PySem PySem.Spec PyProof.Rows

def MtM (X : Cx) (id : String) (r : V → List V → Hp → VK → Prop) : Prop :=
  ∀ (pins : List (Addr × Obj)) (s : Shared) (σ : St) (H : Hp) (x : V) (xs : List V) (v : Value) (us : List Value) (Q : VK), Inv X pins σ H s → RelV x v → Vals xs us → r x xs H Q →
    wpAny (model X.prog X.w) X.A (call (.builtin id) (v :: us)) (EP X pins σ Q) X.xe s

/-! ### lists of values -/
theorem Vals.one : ∀ {x : V} {us : List Value}, Vals [x] us → ∃ u, us = [u] ∧ RelV x u
  | _, _, .cons r .nil => ⟨_, rfl, r⟩
theorem Vals.zero : ∀ {us : List Value}, Vals [] us → us = []
  | _, .nil => rfl
theorem Vals.dropLast {xs : List V} {us : List Value} (h : Vals xs us) : Vals xs.dropLast us.dropLast := by
  induction h with
  | nil => exact .nil
  | cons r t ih =>
    cases t with
    | nil => exact .nil
    | cons q t' => exact .cons r ih
theorem Vals.rep {xs : List V} {us : List Value} (h : Vals xs us) : ∀ k : Nat, Vals (List.replicate k xs).flatten (List.replicate k us).flatten
  | 0 => .nil
  | k + 1 => by
    rw [List.replicate_succ, List.replicate_succ, List.flatten_cons, List.flatten_cons]
    exact Vals.append h (Vals.rep h k)
theorem erase_last {α : Type} (l : List α) : l.eraseIdx (l.length - 1) = l.dropLast := by
  induction l with
  | nil => rfl
  | cons a r ih =>
    cases r with
    | nil => rfl
    | cons b r =>
      have e : (a :: b :: r).length - 1 = ((b :: r).length - 1) + 1 := by
        have h1 : (a :: b :: r).length = r.length + 2 := rfl
        have h2 : (b :: r).length = r.length + 1 := rfl
        omega
      rw [e, List.eraseIdx_cons_succ, ih]
      all_goals rfl
theorem foldl_rep (its : List Value) : ∀ (k : Nat) (acc : List Value),
    List.foldl (fun x1 x2 => x1 ++ x2) acc.toArray (List.replicate k its.toArray) = (acc ++ (List.replicate k its).flatten).toArray
  | 0, acc => by simp
  | k + 1, acc => by
    have e : acc.toArray ++ its.toArray = (acc ++ its).toArray := by simp
    have e2 : (acc ++ its) ++ (List.replicate k its).flatten = acc ++ (List.replicate (k + 1) its).flatten := by
      rw [List.replicate_succ, List.flatten_cons, List.append_assoc]
    rw [← e2, ← foldl_rep its k (acc ++ its), ← e, List.replicate_succ, List.foldl_cons]

section
variable {X : Cx} {pins : List (Addr × Obj)} {σ : St} {H : Hp} {s : Shared} {l b : Addr} {xs ys zs : List V}

/-! ### the two steps: a tracked list is rewritten, a new list is laid -/
theorem Inv.lset {its its' : List Value} {n : Nat} {f : Array Value → Array Value} {t' : Nat} (I : Inv X pins σ H s) (hH : H l = some (.lst xs))
    (e : s.heap.get? l = some { cls := .type "list", data := .seq its.toArray n }) (hf : f its.toArray = its'.toArray) (hv : Vals ys its') (hz : ys.length ≤ sizeLine) :
    Inv X pins σ (upd H l (.lst ys)) { s with heap := s.heap.update l (Obj.mapSeq f), toks := t' } := by
  have q := PySem.IsL.update e f
  rw [hf] at q
  refine I.write (x := l) (e := l) (by rw [hH]; exact trivial) (.inl rfl) (fun b' u hb hu => (Heap.get?_update_other s.heap (Obj.mapSeq f) (Ne.symm hb)).trans hu) ⟨_, q⟩ ?_
  exact ⟨hz, its', _, hv, q⟩
theorem Inv.lnew {its : List Value} {t' : Nat} (I : Inv X pins σ H s) (hv : Vals ys its) (hz : ys.length ≤ sizeLine) :
    Inv X pins σ (upd H s.heap.objs.size (.lst ys)) { s with heap := s.heap.push { cls := .type "list", data := .seq its.toArray }, toks := t' } :=
  I.laid (fun _ _ q => Heap.get?_push_of_some _ q) (Nat.le_refl _) ⟨hz, its, 0, hv, Heap.get?_push_size _ rfl⟩
theorem Inv.fresh (I : Inv X pins σ H s) : H s.heap.objs.size = none := I.hok.fresh (Nat.le_refl _)
theorem Inv.lstM (I : Inv X pins σ H s) (hH : H l = some (.lst xs)) : xs.length ≤ sizeLine ∧ ∃ (its : List Value) (n : Nat), Vals xs its ∧ xs.length = its.length ∧ s.heap.get? l = some { cls := .type "list", data := .seq its.toArray n } := by
  obtain ⟨z, its, n, r, e⟩ := I.hok l _ hH
  exact ⟨z, its, n, r, r.length, e⟩

theorem notLongL {n : Nat} (h : n ≤ sizeLine) : Builtin.List.listTooLong n = false := by
  unfold Builtin.List.listTooLong
  exact decide_eq_false (by omega)
end

section
variable {X : Cx}

/-! ### methods -/
def rAppend : V → List V → Hp → VK → Prop := fun x vs H Q => ∃ l xs y, x = .ref l ∧ vs = [y] ∧ H l = some (.lst xs) ∧ xs.length < sizeLine ∧ Q .non (upd H l (.lst (xs ++ [y])))
theorem mt_append : MtM X "list.append" rAppend := by
  intro pins s σ H x vs v us Q I rx rv h
  obtain ⟨l, xs, y, rfl, rfl, hH, hz, q⟩ := h
  cases rx
  obtain ⟨u, rfl, ru⟩ := rv.one
  obtain ⟨z, its, n, r, hl, e⟩ := I.lstM hH
  refine call_meets F.slot_list_append ⟨_, e, rfl⟩ F.entry_list_append (F.args_list_append_2 _ _) (PySem.list_append l its.toArray n u (by rw [List.size_toArray]; omega)) ⟨e, ?_⟩
  refine ⟨.non, _, I.lset (its' := its ++ [u]) hH e (by simp) (r.append (.cons ru .nil)) ?_, rfl, q⟩
  rw [List.length_append, List.length_singleton]
  omega

def rExtend : V → List V → Hp → VK → Prop := fun x vs H Q => ∃ l b xs zs, x = .ref l ∧ vs = [.ref b] ∧ H l = some (.lst xs) ∧ H b = some (.lst zs) ∧ xs.length + zs.length ≤ sizeLine ∧ Q .non (upd H l (.lst (xs ++ zs)))
theorem mt_extend : MtM X "list.extend" rExtend := by
  intro pins s σ H x vs v us Q I rx rv h
  obtain ⟨l, b, xs, zs, rfl, rfl, hH, hB, hz, q⟩ := h
  cases rx
  obtain ⟨u, rfl, ru⟩ := rv.one
  cases ru
  obtain ⟨z, its, n, r, hl, e⟩ := I.lstM hH
  obtain ⟨z2, its2, n2, r2, hl2, e2⟩ := I.lstM hB
  have hsz : its.toArray.size + its2.toArray.size ≤ sizeLine := by rw [List.size_toArray, List.size_toArray]; omega
  have hlong : ¬ (!its.toArray.isEmpty && Builtin.List.listTooLong (its.toArray.size + its2.toArray.size)) = true := by
    rw [notLongL hsz, Bool.and_false]
    exact Bool.false_ne_true
  refine call_meets F.slot_list_extend ⟨_, e, rfl⟩ F.entry_list_extend (F.args_list_extend_2 _ _)
    (AutoSeq1.list_extend_list_list_0 l its.toArray n b its2.toArray n2 hlong (by rw [List.size_toArray]; omega) (by omega)) ⟨e, e2, ?_⟩
  refine ⟨.non, _, I.lset (its' := its ++ its2) hH e (by simp) (r.append r2) ?_, rfl, q⟩
  rw [List.length_append]
  omega

def rPop : V → List V → Hp → VK → Prop := fun x vs H Q => ∃ l xs y, x = .ref l ∧ vs = [] ∧ H l = some (.lst xs) ∧ xs[xs.length - 1]? = some y ∧ Q y (upd H l (.lst xs.dropLast))
theorem mt_pop : MtM X "list.pop" rPop := by
  intro pins s σ H x vs v us Q I rx rv h
  obtain ⟨l, xs, y, rfl, rfl, hH, hy, q⟩ := h
  cases rx
  have hus := rv.zero
  subst hus
  obtain ⟨z, its, n, r, hl, e⟩ := I.lstM hH
  obtain ⟨u, hu, ru⟩ := r.get hy
  have hy' : its.toArray[its.toArray.size - 1]? = some u := by
    show its.toArray[its.length - 1]? = some u
    rw [← Array.getElem?_toList, ← hl]
    exact hu
  refine call_meets F.slot_list_pop ⟨_, e, rfl⟩ F.entry_list_pop (F.args_list_pop_1 _) (MeetsSeq.list_pop_last l its.toArray n u hy' (by rw [List.size_toArray]; omega)) ⟨e, ?_⟩
  refine ⟨y, _, I.lset (its' := its.dropLast) hH e ?_ r.dropLast ?_, ru, q⟩
  · show its.toArray.eraseIdxIfInBounds (its.toArray.size - 1) = its.dropLast.toArray
    rw [List.size_toArray, List.eraseIdxIfInBounds_toArray, erase_last]
  · rw [List.length_dropLast]
    omega

/-! ### list + list, list += list, list * int -/
def rCat : R2 := fun x y H Q => ∃ l b xs zs, x = .ref l ∧ y = .ref b ∧ H l = some (.lst xs) ∧ H b = some (.lst zs) ∧ xs.length + zs.length ≤ sizeLine ∧ ∀ p, H p = none → Q (.ref p) (upd H p (.lst (xs ++ zs)))
theorem op_cat : OpR X (binaryOp .Add) rCat := by
  intro pins s σ H x y v u Q I rx ry h
  obtain ⟨l, b, xs, zs, rfl, rfl, hH, hB, hz, q⟩ := h
  cases rx
  cases ry
  obtain ⟨z, its, n, r, hl, e⟩ := I.lstM hH
  obtain ⟨z2, its2, n2, r2, hl2, e2⟩ := I.lstM hB
  refine PySem.P.add_list e e2 ?_ (by rw [List.size_toArray, List.size_toArray]; omega)
  have ea : its.toArray ++ its2.toArray = (its ++ its2).toArray := by simp
  rw [ea]
  exact ⟨.ref _, _, I.lnew (t' := s.toks) (r.append r2) (by rw [List.length_append]; omega), rfl, q _ I.fresh⟩
/-- a list times an int (a negative one is nothing) -/
def rRep : R2 := fun x y H Q => ∃ l k xs, x = .ref l ∧ y = .int k ∧ H l = some (.lst xs) ∧ -(2 ^ 63) ≤ k ∧ k < 2 ^ 63 ∧ xs.length * k.toNat ≤ sizeLine ∧
  ∀ p, H p = none → Q (.ref p) (upd H p (.lst (List.replicate k.toNat xs).flatten))
theorem len_rep {α : Type} (xs : List α) (k : Nat) : (List.replicate k xs).flatten.length = k * xs.length := by
  induction k with
  | zero => simp
  | succ k ih => rw [List.replicate_succ, List.flatten_cons, List.length_append, ih, Nat.succ_mul, Nat.add_comm]
theorem op_rep : OpR X (binaryOp .Mult) rRep := by
  intro pins s σ H x y v u Q I rx ry h
  obtain ⟨l, k, xs, rfl, rfl, hH, h1, h2, hz, q⟩ := h
  cases rx
  obtain ⟨t, rfl⟩ := ry
  obtain ⟨z, its, n, r, hl, e⟩ := I.lstM hH
  have hlen : its.toArray.size * k.toNat ≤ sizeLine := by rw [List.size_toArray, ← hl]; exact hz
  have hcap : ¬ its.toArray.size * k.toNat > (2 ^ 63 - 1) / 8 := by
    have : (sizeLine : Nat) ≤ (2 ^ 63 - 1) / 8 := by decide
    omega
  have hfit : ¬ (!Builtin.List.listFitsIndex k) = true := by
    rw [fitsIndex_both h1 h2]
    exact Bool.false_ne_true
  have hlong : ¬ Builtin.List.listTooLong (its.toArray.size * k.toNat) = true := by
    rw [notLongL hlen]
    exact Bool.false_ne_true
  have hnew : List.foldl (fun x1 x2 => x1 ++ x2) #[] (List.replicate (if its.toArray.isEmpty = true then 0 else k.toNat) its.toArray) = (List.replicate k.toNat its).flatten.toArray := by
    have f0 : ∀ m : Nat, List.foldl (fun x1 x2 => x1 ++ x2) #[] (List.replicate m its.toArray) = (List.replicate m its).flatten.toArray := fun m => by
      have := foldl_rep its m []
      rw [List.nil_append] at this
      exact this
    rw [f0]
    cases its with
    | nil => simp
    | cons a r' => rw [if_neg (by simp)]
  refine wpAny_binaryOp_repeat_ref (T := "list") (U := "int") (by decide) ⟨_, e, rfl⟩ (fun s' => typeIs_int s' k t) noFill_list_mul F.fills_int_mul F.slot_int_rmul repeat_list F.slot_int_index.lookup
    (call_meets F.slot_int_rmul (typeIs_int s k t) F.entry_int_rmul (F.args_int_rmul_2 _ _) (int___rmul___int_list k t l its.toArray n)
      ⟨e, rfl, ⟨_, e, rfl⟩, call_meets F.slot_list_mul ⟨_, e, rfl⟩ F.entry_list_mul (F.args_list_mul_2 _ _) (AutoListH.list___mul___list_int_3 l its.toArray n k t hfit hcap hlong) ⟨e, ?_⟩⟩)
  rw [hnew]
  exact ⟨.ref _, _, I.lnew (t' := s.toks) (r.rep k.toNat) (by rw [len_rep, Nat.mul_comm]; exact hz), rfl, q _ I.fresh⟩

end

/-! ### xs[a:b] = ys -/
section
variable {prog : Program} {w : World} {A : Around} {E : Value → Shared → Prop} {s : Shared}
end

section
variable {X : Cx}
end
end L2

namespace Att
open PySem PySem.W PySem.Calls PyProof.Rows

/-! ### the script -/
theorem ints_of_wellAll {P : Params} {h : Heap} : ∀ (ns : List Int) (vs : List Value), WellAll P h vs (ns.map WData.int) → IntsAre vs ns := by
  intro ns
  induction ns with
  | nil =>
    intro vs w
    rw [List.map_nil] at w
    cases w
    exact .nil
  | cons n ns ih =>
    intro vs w
    rw [List.map_cons] at w
    cases w with
    | cons a b =>
      cases a
      exact .cons _ _ (ih _ b)

theorem script_of {l : OpenLaw} {n : Nat} (hn : l.most = some n) {P : Params} {h : Heap} {args : List WData} {vals : List Value}
    (hpre : l.row.toRowW.claim.pre args = true) (hwl : WellAll P h vals args) :
    ∃ a vs ns, vals = [Value.ref a] ∧ args = [WData.list (ns.map WData.int)] ∧ h.get? a = some { cls := .type "list", data := .seq vs.toArray } ∧ IntsAre vs ns ∧ ns.length ≤ n := by
  have hsh : WShape.hasAll [] args [.list .int] = true := (pre_splitW hpre).1
  have hc : l.pre.holds [] { args := args } = true := (pre_splitW hpre).2
  obtain ⟨d, r, rfl, h1, h2⟩ := hasAllW_cons hsh
  obtain rfl := hasAllW_nil h2
  obtain ⟨xs, rfl, h3⟩ := hasW_list h1
  obtain ⟨ns, rfl⟩ := items_int h3
  have hlen : ns.length ≤ n := by
    unfold OpenLaw.pre at hc
    have h4 : (WTm.not (.lt (.lit (.int (n : Int))) (.len (.arg 0)))).holds [] { args := [.list (ns.map .int)] } = true := by
      have h4 := (holds_andW hc).1
      rw [hn] at h4
      exact h4
    have h5 := condW_of h4 (w_not (w_lt w_lit (w_len_list (w_arg rfl))))
    rw [List.length_map] at h5
    refine Nat.le_of_not_lt fun q => ?_
    have q' : (n : Int) < ((ns.length : Nat) : Int) := by omega
    first
      | (rw [decide_eq_true q'] at h5; exact absurd h5 (by decide))
      | (simp at h5; omega)
  cases hwl with
  | cons w1 w2 =>
    cases w2
    cases w1 with
    | list ho hall => exact ⟨_, _, ns, rfl, rfl, ho, ints_of_wellAll ns _ hall, hlen⟩

theorem post_true (l : OpenLaw) (args : List WData) : l.row.toRowW.claim.post args (.bool true) args = true :=
  postW_of (r := l.row.toRowW) (X := (true == true))
    (show WShape.has [] (.bool true) .bool = true by first | rfl | decide | simp [WShape.has, WShape.arms, WShape.armsAll])
    (show (WTm.eq .res (.lit (.bool true))).value [] { args := args, res := some (.bool true), after := args } = some (.bool (true == true)) from w_eq_bool (w_res rfl) w_lit) rfl

/-- the same from a codeAny of the CALL (for a layer whose function contracts speak of calls) -/
theorem attach_call {l : OpenLaw} {n : Nat} {q : Program} {loose : List Str} {XP : (Str → Option Value) → Heap → Prop} {YP : World → Heap → Prop} {d : DefRec}
    (hn : l.most = some n) (hdf : d.params.defaults = [])
    (call : ∀ (w : World) (s₀ s₁ : Shared) (mg mb : Str → Option Value) (fa : Addr) (o : Obj) (pm cd doc : Value) (a : Addr) (vs : List Value) (ns : List Int),
      Ground q loose [] XP w s₀ mg mb s₁.heap → YP w s₁.heap →
      s₁.heap.get? fa = some o → o.data = .func (docDef d.name d.params d.body d.scope pm cd doc) → s₁.heap.CodeRec cd d.name → mg d.name = some (.ref fa) →
      s₁.heap.get? a = some { cls := .type "list", data := .seq vs.toArray } → IntsAre vs ns → ns.length ≤ n → s₁.gens = #[] →
      codeAny (model l.prog w) callerA (.call (.ref fa) ⟨[.ref a], []⟩) (fun r s' => r = .ok (.ret (.bool true)) ∧ OldK s₁.heap s'.heap ∧ s'.os = s₁.os ∧ AllBare s'.gens) s₁) :
    WalkO q loose XP YP l.row.toRowW d [] (fun f vs => PySem.call f vs) := by
  intro w s₀ s₁ mg mb G Y fa o pm cd doc dV kV ho hd hcd hD hmg hg args vals as hpre hlay hrd hwl hlo
  obtain rfl : dV = .none := Dflts.none hD hdf
  obtain rfl : kV = .none := Dflts.noKw hD
  obtain ⟨a, vs, ns, rfl, rfl, hobj, hints, hlen⟩ := script_of hn hpre hwl
  refine enter_call (codeAny_mono (call w s₀ s₁ mg mb fa o pm cd doc a vs ns G Y ho (fd_plain hd) hcd hmg hobj hints hlen hg) fun r s' hq => ?_)
  obtain ⟨rfl, h2, h3, h4⟩ := hq
  exact ⟨.inl ⟨.bool true, .bool true, [], rfl, fun _ => rfl, .bool true, post_true l _, fun _ => ⟨List.Pairwise.nil, fun _ hm => (nomatch hm)⟩⟩, h2, h3, h4⟩

/-! ### rules over ANY heap (no ledger) from facts about the written part K: the library's own take a ledger (News) for what they write -/
section
variable {prog : Program} {w : World} {A : Around} {E : Value → Shared → Prop} {s : Shared} {K : Frag}

end
end Att

namespace L2
open PySem PySem.Spec PyProof.Rows

theorem vals_ints : ∀ {vs : List Value} {ns : List Int}, IntsAre vs ns → Vals (ns.map V.int) vs
  | _, _, .nil => .nil
  | _, _, .cons n t h => .cons ⟨t, rfl⟩ (vals_ints h)

/-- nothing is tracked but the script, known to the object (or it is an object of the module) -/
def Only (H : Hp) : Prop := ∀ b, H b = none ∨ ∃ o xs, H b = some (.frz o (.lst xs))

/-- THE HEAD: the law's promise, at the heap behind the top. F, the promise of the law's def, may use that base is part of the heap (so K.In base, base.Ns mainGlobals mg stand in Mod) -/
theorem law_call {P : Program} {w : World} {K : PySem.W.Frag} {mg mb : Str → Option Value} {CX : CXT} {k : Nat} {fa a : Addr} {fd : FuncData} {x : Str} {sp : Sp} {s₁ : Shared} {vs : List Value} {ns : List Int}
    (KX : K.In s₁.heap) (hns : s₁.heap.Ns mainGlobals mg) (hb : s₁.heap.Ns builtinsNs mb) (hbb : ∀ x : Str, x ≠ "__name__" → mb x = bootBuiltins x) (hlim : s₁.heap.NoLimit) (hg : s₁.gens = #[])
    (ha : s₁.heap.get? a = some { cls := .type "list", data := .seq vs.toArray }) (hi : IntsAre vs ns) (hl : ns.length ≤ sizeLine) (hr : Room k callerA)
    (F : ∀ base : Heap, K.In base → base.Ns mainGlobals mg → FnOk P w K mg base CX k fa fd [x] sp) (hbind : ∀ (s : Shared) (u : Value), BindsTo s fd ⟨[u], []⟩ [(x, u)])
    (hsp : ∀ H : Hp, Only H → SqL K H a (ns.map V.int) → sp [.ref a] H (fun v _ => v = .bl true) fun _ _ _ => False)
    (hCX : ∀ H e s', CX [] H s₁ (fun _ _ _ => False) e s' → False) :
    codeAny (model P w) callerA (.call (.ref fa) ⟨[.ref a], []⟩) (fun r s' => r = .ok (.ret (.bool true)) ∧ OldK s₁.heap s'.heap ∧ s'.os = s₁.os ∧ AllBare s'.gens) s₁ := by
  have rv := vals_ints hi
  have lenV := hi.length
  -- from an abstract heap in which nothing but the script may be tracked
  have core : ∀ H : Hp, Only H → SqL K H a (ns.map V.int) → HOk P w H s₁.heap → (∀ b, H b ≠ none → b = a) → (H a ≠ none → K.lookup a = none) →
      codeAny (model P w) callerA (.call (.ref fa) ⟨[.ref a], []⟩) (fun r s' => r = .ok (.ret (.bool true)) ∧ OldK s₁.heap s'.heap ∧ s'.os = s₁.os ∧ AllBare s'.gens) s₁ := by
    intro H hO hS hok hA hK
    have base_of : ∀ {b : Addr} {o : Obj}, s₁.heap.get? b = some o → H b = none → (hidT s₁.heap H).get? b = some o := fun e n => hidT_get e n
    have noA : ∀ {b : Addr} {o : Obj} {es : Array DictEntry} {ep : Nat}, s₁.heap.get? b = some o → o.data = .dict es ep → H b = none := fun {b o es ep} e d => by
      cases q : H b with
      | none => rfl
      | some u =>
        have e' : b = a := hA b (by rw [q]; simp)
        subst e'
        rw [ha] at e; cases e
        have d' : Data.seq vs.toArray _ = Data.dict es ep := d
        cases d'
    have nsK : ∀ {b : Addr} {m : Str → Option Value}, s₁.heap.Ns b m → (hidT s₁.heap H).Ns b m := fun {b m} ⟨o, es, ep, e, d, r⟩ => ⟨o, es, ep, base_of e (noA e d), d, r⟩
    have hKb : K.In (hidT s₁.heap H) := fun b o e => base_of (KX b o e) (by
      cases q : H b with
      | none => rfl
      | some u =>
        have e' : b = a := hA b (by rw [q]; simp)
        subst e'
        rw [hK (by rw [q]; simp)] at e; cases e)
    have hM : Mod K mg (hidT s₁.heap H) := ⟨hKb, nsK hns, ⟨mb, nsK hb, hbb⟩, let ⟨mc, h1, h2⟩ := hlim; ⟨mc, nsK h1, h2⟩⟩
    have e0 : Env0 P w K mg (hidT s₁.heap H) callerA [] s₁ H := ⟨rfl, hM, fun b o e => of_hidT e, Nat.le_of_eq (hidT_size _ _), trivial, fun b hb => absurd (show b ∈ ([] : List Addr) from hb) (by simp), hok, .of_eq hg⟩
    refine codeAny_mono ((F _ hKb (nsK hns)).run callerA [] s₁ H ⟨[.ref a], []⟩ [.ref a] [.ref a] _ _ hr e0 (hbind s₁ (.ref a)) (.cons rfl .nil) (hsp H hO hS)) fun r s' h => ?_
    cases r with
    | error e => exact (hCX H e s' h).elim
    | ok fl =>
      cases fl with
      | next => exact False.elim h
      | brk => exact False.elim h
      | cont => exact False.elim h
      | ret u =>
        obtain ⟨v, H', os, bare, un, hok', r', q⟩ := h
        have q' : v = .bl true := q
        subst q'
        obtain rfl : u = Value.bool true := r'
        refine ⟨rfl, OldK.of_keep fun b o e => ?_, os, bare⟩
        cases q : H b with
        | none => exact un.keep b o e q (by intro z; exact absurd (show b ∈ ([] : List Addr) from z) (by simp)) (by simp)
        | some u =>
          rcases hO b with z | ⟨ob, xs, z⟩
          · rw [q] at z; cases z
          · have z2 := un.frzs b ob _ z
            obtain ⟨e1, _⟩ := hok b _ z
            obtain ⟨e2, _⟩ := hok' b _ z2
            rw [e] at e1; cases e1
            exact e2
  cases hk : K.lookup a with
  | some o =>
    -- the script is one of the module's own objects
    have e := KX a o hk
    rw [ha] at e
    cases e
    refine core (fun _ => none) (fun _ => .inl rfl) (.inr ⟨_, vs.toArray, _, hk, rfl, rfl, rfl, by rw [List.size_toArray, lenV]; exact hl, by simpa using rv⟩) (fun b u z => by have z' : (none : Option HO) = some u := z; cases z') (fun b z => absurd rfl z) fun z => absurd rfl z
  | none =>
    refine core (fun b => if b = a then some (.frz { cls := .type "list", data := .seq vs.toArray } (.lst (ns.map V.int))) else none) (fun b => ?_) (.inl (.inr ⟨{ cls := .type "list", data := .seq vs.toArray }, if_pos rfl⟩)) (fun b u z => ?_) (fun b z => ?_) fun _ => hk
    · by_cases hb : b = a
      · exact .inr ⟨_, _, if_pos hb⟩
      · exact .inl (if_neg hb)
    · by_cases hb : b = a
      · have z' := (if_pos hb).symm.trans z
        cases z'
        subst hb
        exact ⟨ha, by rw [List.length_map]; exact hl, vs, _, rv, ha⟩
      · have z' := (if_neg hb).symm.trans z
        cases z'
    · by_cases hb : b = a
      · exact hb
      · exact absurd (if_neg hb) z
end L2

namespace L2
open PySem PySem.Spec PyProof.Rows

/-- the goal that k_head leaves (case hc), from the law's promise. F gives the function object fd (K's own) once, then the promise over every base -/
theorem walk_of {l : PySem.W.OpenLaw} {n k : Nat} {q : Program} {loose : List Str} {XP : (Str → Option Value) → Heap → Prop} {YP : World → Heap → Prop} {d : DefRec} {K : Params → PySem.W.Frag} {CX : World → CXT} {sp : World → Sp} {x : Str}
    (hn : l.most = some n) (hn2 : n ≤ sizeLine) (hdf : d.params.defaults = []) (hr : Room k callerA)
    (hY : ∀ (w : World) (h : Heap), YP w h → (K w.params).In h)
    (F : ∀ (w : World) (mg : Str → Option Value) (fa : Addr) (h : Heap), (K w.params).In h → h.Ns mainGlobals mg → mg d.name = some (.ref fa) →
      ∃ fd : FuncData, (∀ (s : Shared) (u : Value), BindsTo s fd ⟨[u], []⟩ [(x, u)]) ∧
        ∀ base : Heap, (K w.params).In base → base.Ns mainGlobals mg → FnOk l.prog w (K w.params) mg base (CX w) k fa fd [x] (sp w))
    (hsp : ∀ (w : World) (H : Hp) (a : Addr) (ns : List Int), ns.length ≤ n → Only H → SqL (K w.params) H a (ns.map V.int) → sp w [.ref a] H (fun v _ => v = .bl true) fun _ _ _ => False)
    (hCX : ∀ (w : World) (H : Hp) (s : Shared) (e : Value) (s' : Shared), CX w [] H s (fun _ _ _ => False) e s' → False) :
    PySem.W.WalkO q loose XP YP l.row.toRowW d [] (fun f vs => PySem.call f vs) := by
  refine Att.attach_call hn hdf fun w s₀ s₁ mg mb fa o pm cd doc a vs ns G Y ho hd hcd hmg hobj hints hlen hg => ?_
  have KX := hY w _ Y
  obtain ⟨fd, hb, hF⟩ := F w mg fa _ KX G.T.g hmg
  exact law_call KX G.T.g G.T.b G.T.builtins G.T.nolimit hg hobj hints (Nat.le_trans hlen hn2) hr hF hb (fun H hO hS => hsp w H a ns hlen hO hS) fun H e s' => hCX w H s₁ e s'
end L2



/-! SHORT WORDS over the layer: a def of the text, its body, what a loop and a test want. -/
namespace L2
open PySem PySem.Spec PyProof.Rows

/-! ### the text by places -/
/-- the j-th statement of a class's body -/
def inClass (s : Stmt) (j : Nat) : Stmt := match s with
  | .ClassDef _ _ _ body _ _ _ _ _ _ _ => body.getD j (.Pass ⟨0, 0, 0, 0⟩)
  | _ => .Pass ⟨0, 0, 0, 0⟩
def defArgs (s : Stmt) : Arguments := match s with
  | .FunctionDef _ a _ _ _ _ _ _ _ _ => a
  | _ => { posonlyargs := [], args := [], vararg := none, kwonlyargs := [], kw_defaults := [], kwarg := none, defaults := [] }
def defBody (s : Stmt) : List Stmt := match s with
  | .FunctionDef _ _ b _ _ _ _ _ _ _ => b
  | _ => []
def defScope (s : Stmt) : Scope := match s with
  | .FunctionDef _ _ _ _ _ _ sc _ _ _ => sc
  | _ => { kind := .function, names := [], isGenerator := false, isCoroutine := false }

/-! ### no exception leaves a def -/
abbrev CX0 : CXT := fun _ _ _ _ _ _ => False
abbrev E0 : XK := fun _ _ _ => False
theorem pass0 {X : Cx} : Passes CX0 X E0 := fun _ _ _ _ _ _ _ h => h.elim

/-! ### a def (or method) of the text as it stands behind the top -/
structure Fun (K : PySem.W.Frag) (x qual : Str) (st : Stmt) (f : Addr) (fd : FuncData) : Prop where
  ex : ∃ (oc : Value) (od : Option Addr) (kV doc pm : Value) (an : Option Addr) (cdv ct : Value) (osl : Array (Option Value)),
    fd = PySem.W.fnOf x qual (defArgs st) (defBody st) (defScope st) .none kV doc pm an cdv ct ∧ K.lookup f = some ⟨oc, od, .func fd, osl⟩ ∧ PySem.W.codeIn K cdv qual = true
  kp : PySem.W.keepIn K (.ref f) = true
section
variable {P : Program} {w : World} {K : PySem.W.Frag} {mg : Str → Option Value} {base : Heap}
/-- THE RULE for a def: its body as a term of rules, and the reading of that term -/
theorem Fun.ok {x qual : Str} {st : Stmt} {f : Addr} {fd : FuncData} {N ps : List Str} {k : Nat} {sp : Sp} (F : Fun K x qual st f fd) (S : FnScope N ps (defScope st)) (len : ∀ vs H Q E, sp vs H Q E → vs.length = ps.length)
    (hbody : ∀ (cdv : Value) (A : Around) (outer : List Env) (s : Shared) (H : Hp) (vs : List V) (Q : VK) (E : XK), Room k (A.deeper (envOfC qual (defScope st) s.heap.objs.size f cdv)) → sp vs H Q E →
      ∃ t, PSs (cxOf CX0 P w K mg base N qual (defScope st) f cdv A outer s H E).nox (defBody st) t ∧ t { nx := fun _ H' => Q .non H', rt := Q } (start N vs) H) : FnOk P w K mg base CX0 (k + 1) f fd ps sp := by
  obtain ⟨oc, od, kV, doc, pm, an, cdv, ct, osl, rfl, lk, hcd⟩ := F.ex
  refine fn_of lk hcd S len fun A outer s H vs Q E hr hsp => ?_
  obtain ⟨t, h, q⟩ := hbody cdv A outer s H vs Q E hr hsp
  exact ⟨t, h.nox, q⟩
/-- how its arguments bind (no defaults): h is «fun _ _ _ _ _ _ us hl => match us, hl with | [_, _], _ => rfl», one _ a parameter -/
theorem Fun.binds {x qual : Str} {st : Stmt} {f : Addr} {fd : FuncData} {ps : List Str} (F : Fun K x qual st f fd)
    (h : ∀ (kV doc pm : Value) (an : Option Addr) (cdv ct : Value) (us : List Value), us.length = ps.length → bindArgs (PySem.W.fnOf x qual (defArgs st) (defBody st) (defScope st) .none kV doc pm an cdv ct) ⟨us, []⟩ = pure (ps.zip us)) : Binds K fd ps [] := by
  obtain ⟨oc, od, kV, doc, pm, an, cdv, ct, osl, rfl, lk, hcd⟩ := F.ex
  exact .all (h kV doc pm an cdv ct)
theorem fun_mk {x qual : Str} {st : Stmt} {f : Addr} {oc : Value} {od an : Option Addr} {osl : Array (Option Value)} {kV doc pm cdv ct : Value} (l : K.lookup f = some ⟨oc, od, .func (PySem.W.fnOf x qual (defArgs st) (defBody st) (defScope st) .none kV doc pm an cdv ct), osl⟩)
    (c : PySem.W.codeIn K cdv qual = true) (k : PySem.W.keepIn K (.ref f) = true) : Fun K x qual st f (PySem.W.fnOf x qual (defArgs st) (defBody st) (defScope st) .none kV doc pm an cdv ct) := ⟨⟨oc, od, kV, doc, pm, an, cdv, ct, osl, rfl, l, c⟩, k⟩
end
theorem small1000 {n : Nat} (h : n ≤ 1000) : n < sizeLine := Nat.lt_of_le_of_lt h (by decide)

/-! ### expressions in short: the name that stands in the i-th slot -/
section
variable {X : Cx}
theorem pv (i : Nat) {x : Str} {pos : Pos} (hN : X.N[i]? = some x := by rfl) (hv : Vis X.env.scope x := by first | exact Or.inl rfl | exact Or.inr (Or.inl rfl) | exact Or.inr (Or.inr rfl)) (hd : (x == ("__debug__" : Str)) = false := by decide)
    (hcd : (x == ("__classdict__" : Str)) = false := by decide) : PE X (.Name x pos) (tVar i) := pe_var hN hv hd hcd
end

/-! ### tests -/
theorem iteF {A B : Prop} (h : B) : if false = true then A else B := by
  rw [if_neg Bool.false_ne_true]
  exact h
theorem iteT {A B : Prop} (h : A) : if true = true then A else B := by
  rw [if_pos rfl]
  exact h
/-! ### heaps -/
/-- all that was tracked is as it was -/
def Same (H H' : Hp) : Prop := ∀ b o, H b = some o → H' b = some o
theorem Same.refl (H : Hp) : Same H H := fun _ _ h => h
theorem Same.trans {H H1 H2 : Hp} (a : Same H H1) (b : Same H1 H2) : Same H H2 := fun c o h => b c o (a c o h)
theorem Same.free {H H' : Hp} (e : Same H H') {l : Addr} (h : H' l = Option.none) : H l = Option.none := by
  cases q : H l with
  | none => rfl
  | some o =>
    rw [e l o q] at h
    cases h
theorem Same.seq {K : PySem.W.Frag} {H H' : Hp} {a : Addr} {xs : List V} (e : Same H H') (h : SqL K H a xs) : SqL K H' a xs := by
  rcases h with (h | ⟨o, h⟩) | h
  · exact .inl (.inl (e _ _ h))
  · exact .inl (.inr ⟨o, e _ _ h⟩)
  · exact .inr h

end L2


section
set_option Elab.async false
set_option linter.all false
set_option maxRecDepth 100000
set_option maxHeartbeats 4000000
/-! My own rules behind the layer: list comprehensions. -/
namespace L2
open PySem PySem.Spec PyProof.Rows

/-! ### the loop of a comprehension, no exception within -/
section
variable {prog : Program} {w : World} {A : Around} {R : Result → Shared → Prop} {s : Shared}
/-- the tests of a clause -/
def lcTests (ifs : List Expr) (env : Env) : Sem Bool :=
  forIn ifs true fun c r => if r = true then do let ok ← isTrue c env (eval c env); pure (ForInStep.yield ok) else pure (ForInStep.yield r)
theorem lc_loop {elt tg iter : Expr} {ifs : List Expr} {scope : Scope} {pos : Pos} {it acc : Value} {env : Env} (J : Nat → Shared → Prop)
    (turn : ∀ n s, J n s → wpAny (model prog w) A (pyNext it) (fun r s1 => match r with
      | none => R (.ok .next) s1
      | some v => wpAny (model prog w) A (letOwnedTupleGo tg it v) (fun _ s2 => wpAny (model prog w) A (assign tg env v) (fun _ s3 => wpAny (model prog w) A (lcTests ifs env) (fun ok s4 =>
          if ok = true then wpAny (model prog w) A (eval elt env) (fun x s5 => wpAny (model prog w) A (call (.builtin "list.append") [acc, x]) (fun _ s6 => ∃ m, m < n ∧ J m s6) (fun _ _ => False) s5) (fun _ _ => False) s4
          else ∃ m, m < n ∧ J m s4) (fun _ _ => False) s3) (fun _ _ => False) s2) (fun _ _ => False) s1) (fun _ _ => False) s)
    (n : Nat) (h : J n s) : codeAny (model prog w) A (.compLoop (.ListComp elt [⟨tg, iter, ifs, 0⟩] scope pos) 0 it acc env) R s := by
  refine codeAny_loop rfl J (fun n s hJ => ?_) n h
  show wpAny _ A (Sem.onRaise (compTurn (.ListComp elt [⟨tg, iter, ifs, 0⟩] scope pos) 0 it acc env) _) _ _ s
  refine wpAny_noted ?_
  rw [compTurn_list]
  refine wpAny_bind (wpAny_standAt (wpAny_bind (wpAny_mono (turn n s hJ) (fun r s1 h1 => ?_) (fun _ _ z => z.elim))))
  cases r with
  | none => exact wpAny_pure h1
  | some v =>
    refine wpAny_bind (wpAny_mono h1 (fun _ s2 h2 => wpAny_bind (wpAny_mono h2 (fun _ s3 h3 => wpAny_bind (wpAny_mono h3 (fun ok s4 h4 => ?_) (fun _ _ z => z.elim))) (fun _ _ z => z.elim))) (fun _ _ z => z.elim))
    cases ok with
    | false => exact wpAny_pure ⟨rfl, h4⟩
    | true => exact wpAny_bind (wpAny_bind (wpAny_mono h4 (fun x s5 h5 => wpAny_bind (wpAny_mono h5 (fun _ s6 h6 => wpAny_pure (wpAny_pure ⟨rfl, h6⟩)) (fun _ _ z => z.elim))) (fun _ _ z => z.elim)))
end

/-! ### the closure of a comprehension's block -/
def cloGo (env : Env) : List (Str × NameKind) → List (Str × Addr) → List (Str × Addr)
  | [], cs => cs
  | y :: r, cs => if y.2 = .free then cloGo env r ((y.1, (env.cells.lookup y.1).getD 0) :: cs) else cloGo env r cs
theorem clo_run {env : Env} (f : Str × NameKind → List (Str × Addr) → Sem (ForInStep (List (Str × Addr))))
    (h1 : ∀ y cs c, y.2 = .free → env.cells.lookup y.1 = some c → f y cs = pure (.yield ((y.1, c) :: cs))) (h2 : ∀ y cs, y.2 ≠ .free → f y cs = pure (.yield cs)) :
    ∀ (ns : List (Str × NameKind)) (cs : List (Str × Addr)), (∀ y ∈ ns, y.2 = .free → ∃ c, env.cells.lookup y.1 = some c) → forIn ns cs f = (pure (cloGo env ns cs) : Sem (List (Str × Addr)))
  | [], cs, _ => by simp [cloGo]
  | y :: r, cs, h => by
    have hr : ∀ z ∈ r, z.2 = .free → ∃ c, env.cells.lookup z.1 = some c := fun z hz => h z (List.mem_cons_of_mem _ hz)
    rw [List.forIn_cons]
    by_cases hy : y.2 = .free
    · obtain ⟨c, hc⟩ := h y List.mem_cons_self hy
      rw [h1 y cs c hy hc]
      simp only [cloGo, if_pos hy, hc, Option.getD_some]
      exact clo_run f h1 h2 r _ hr
    · rw [h2 y cs hy]
      simp only [cloGo, if_neg hy]
      exact clo_run f h1 h2 r _ hr
theorem closure_eq {scope : Scope} {env : Env} (h : ∀ y ∈ scope.names, y.2 = .free → ∃ c, env.cells.lookup y.1 = some c) : closureFor scope env = pure (cloGo env scope.names []) := by
  unfold closureFor
  dsimp only
  rw [clo_run (env := env) _ (fun y cs c hy hc => ?_) (fun y cs hy => ?_) scope.names [] h]
  · rfl
  · obtain ⟨n, k⟩ := y
    dsimp only at hy hc ⊢
    subst hy
    simp only [cellOf, hc, beq_self_eq_true, if_true]
    rfl
  · obtain ⟨n, k⟩ := y
    have e : (k == NameKind.free) = false := by simpa using hy
    simp only [e, Bool.false_eq_true, if_false]
theorem cloGo_sub {env : Env} : ∀ (ns : List (Str × NameKind)) (cs : List (Str × Addr)) (x : Str) (c : Addr), (∀ y ∈ ns, y.2 = .free → ∃ c, env.cells.lookup y.1 = some c) →
    (∀ z d, cs.lookup z = some d → env.cells.lookup z = some d) → (cloGo env ns cs).lookup x = some c → env.cells.lookup x = some c
  | [], cs, x, c, _, hc, h => hc x c h
  | y :: r, cs, x, c, hy, hc, h => by
    have hr : ∀ z ∈ r, z.2 = .free → ∃ c, env.cells.lookup z.1 = some c := fun z hz => hy z (List.mem_cons_of_mem _ hz)
    unfold cloGo at h
    split at h
    · rename_i hk
      obtain ⟨d, hd⟩ := hy y List.mem_cons_self hk
      rw [hd] at h
      refine cloGo_sub r _ x c hr (fun z e hz => ?_) h
      rw [List.lookup_cons] at hz
      split at hz
      · rename_i hzy
        cases hz
        rw [eq_of_beq hzy]; exact hd
      · exact hc z e hz
    · exact cloGo_sub r _ x c hr hc h
theorem cloGo_keep {env : Env} : ∀ (ns : List (Str × NameKind)) (cs : List (Str × Addr)) (x : Str), (cs.lookup x).isSome = true → ((cloGo env ns cs).lookup x).isSome = true
  | [], _, _, h => h
  | y :: r, cs, x, h => by
    unfold cloGo
    split
    · refine cloGo_keep r _ x ?_
      rw [List.lookup_cons]
      split
      · rfl
      · exact h
    · exact cloGo_keep r _ x h
theorem cloGo_has {env : Env} : ∀ (ns : List (Str × NameKind)) (cs : List (Str × Addr)) (x : Str), (x, NameKind.free) ∈ ns → ((cloGo env ns cs).lookup x).isSome = true
  | [], _, _, h => by simp at h
  | y :: r, cs, x, h => by
    rcases List.mem_cons.mp h with e | e
    · subst e
      unfold cloGo
      rw [if_pos rfl]
      exact cloGo_keep r _ x (by simp)
    · unfold cloGo
      split
      · exact cloGo_has r _ x e
      · exact cloGo_has r _ x e
theorem relabel_of {scope : Scope} {env : Env} {x : Str} {k : NameKind} (h : (relabel scope env).names.lookup x = some k) : (x, k) ∈ scope.names ∨ ((x, NameKind.free) ∈ scope.names ∧ k = NameKind.cell) := by
  have m := PySem.mem_of_lookup h
  obtain ⟨⟨n, k'⟩, hm, e⟩ := List.mem_map.mp m
  dsimp only at e
  split at e
  · rename_i hk
    cases e
    simp only [Bool.and_eq_true, beq_iff_eq] at hk
    rw [hk.1.1] at hm
    exact .inr ⟨hm, rfl⟩
  · cases e
    exact .inl hm
theorem relabel_free {scope : Scope} {env : Env} (hk : env.scope.kind = .function) {x : Str} (hx : env.kindOf x = some .cell) (h : scope.names.lookup x = some .free) : (relabel scope env).names.lookup x = some .cell := by
  unfold relabel
  show (scope.names.map _).lookup x = some NameKind.cell
  generalize scope.names = ns at h
  induction ns with
  | nil => simp at h
  | cons y r ih =>
    obtain ⟨n, k⟩ := y
    rw [List.lookup_cons] at h
    rw [List.map_cons]
    split at h
    · rename_i hn
      cases h
      rw [← eq_of_beq hn]
      simp [hk, hx]
    · rename_i hn
      dsimp only
      split
      · rw [List.lookup_cons, hn]; exact ih h
      · rw [List.lookup_cons, hn]; exact ih h

/-! ### the block's context -/
def cxLc (X : Cx) (scope : Scope) (N : List Str) (C : Addr) (s : Shared) (H : Hp) (fp : List Addr) : Cx :=
  { X with N := N, s₀ := s, H₀ := H, env := compEnvC scope (cloGo X.env scope.names []) C X.env, outer := X.stack, ex := fp, fn := fun _ => false, pn := [], xe := fun _ _ => False }
/-- what must hold of the scopes: N₀, sc₀ are the def's; N the block's names: x, then those from around, which stand in the def's slots ix -/
structure LcScope (N₀ : List Str) (sc₀ sc : Scope) (x : Str) (N : List Str) (ix : List Nat) : Prop where
  kind : sc.kind = .function
  nocell : ∀ y ∈ sc.names, y.2 ≠ .cell
  names : ∀ y ∈ sc.names, y.2 = .local → sc.names.lookup y.1 = some .local
  free : ∀ y ∈ sc.names, y.2 = .free → sc₀.names.lookup y.1 = some .cell
  nd : N.Nodup
  hd : N.head? = some x
  loc : sc.names.lookup x = some .local
  len : N.length = ix.length + 1
  at_ : ∀ p ∈ N.tail.zip ix, N₀[p.2]? = some p.1 ∧ sc.names.lookup p.1 = some .free
/-- the values of the names from around -/
def frV (σ : St) (ix : List Nat) : St := ix.map fun j => (σ[j]?).getD none
def PIf (X : Cx) (ifs : List Expr) (t : TT) : Prop :=
  ∀ (pins : List (Addr × Obj)) (s : Shared) (σ : St) (H : Hp) (Q : Bool → Hp → Prop), Inv X pins σ H s → t σ H Q → wpAny (model X.prog X.w) X.A (lcTests ifs X.env) (TP X pins σ Q) X.xe s
def tYes : TT := fun _ H Q => Q true H
theorem pif_nil {X : Cx} : PIf X [] tYes := fun pins s σ H Q I h => wpAny_tests_nil ⟨H, I, h⟩
/-- what is told of a comprehension: J the walked thing, H the heap at its begin -/
def rdLc (J : It) (H1 : Hp) (fr : St) (tc : TT) (te : TE) (Q : VK) : Prop := ∀ D, H1 D = none → ∃ W : Nat → Nat → Hp → Prop, (∃ m, W 0 m (upd H1 D (.lst []))) ∧ ∀ i m H, W i m H →
  (J.stop i H ∧ Q (.ref D) H) ∨ (J.go i H ∧ ∀ x H', J.yld i H x H' → tc (some x :: fr) H' fun b H3 =>
    if b = true then te (some x :: fr) H3 fun y H4 => ∃ ys, H4 D = some (.lst ys) ∧ ys.length < sizeLine ∧ ∃ m', m' < m ∧ W (i + 1) m' (upd H4 D (.lst (ys ++ [y]))) else ∃ m', m' < m ∧ W (i + 1) m' H3)
def tLc (wi : TI) (ix : List Nat) (tc : TT) (te : TE) : TE := fun σ H Q => wi σ H fun J H1 => rdLc J H1 (frV σ ix) tc te Q

section
variable {X : Cx} {scope : Scope} {N : List Str} {ix : List Nat} {x : Str} {px : Pos} {elt iter : Expr} {ifs : List Expr} {tc : TT} {te : TE} {pos : Pos}
theorem lc_ok {pins : List (Addr × Obj)} {σ : St} {H2 : Hp} {s2 : Shared} {J : It} {fp : List Addr} {it : Addr} {tn : Nat → Heap → Prop} {tg : Expr} (L : LcScope X.N X.env.scope scope x N ix) (I2 : Inv X pins σ H2 s2)
    (T : Turn X.prog X.w X.K tg J fp it tn) (st2 : tn 0 s2.heap) (f2 : ∀ b ∈ fp, FpOk X pins H2 b) {C : Addr} {s3 s4 : Shared} {H3 : Hp} (I3 : Inv X pins σ H3 s3) (I4 : Inv X pins σ H3 s4) (hle : s2.heap.objs.size ≤ s3.heap.objs.size)
    (hC : C = s3.heap.objs.size) (ho : s4.os = s3.os) (kp : ∀ b u, s3.heap.get? b = some u → s4.heap.get? b = some u) {m : Str → Option Value} (hns : s4.heap.Ns C m) : Inv (cxLc X scope N C s3 H3 fp) [] (none :: frV σ ix) H3 s4 := by
  have hfree : ∀ y ∈ scope.names, y.2 = .free → ∃ c, X.env.cells.lookup y.1 = some c := fun y hy hf => I2.ok.has y.1 (.inl (L.free y hy hf))
  have sub : ∀ y c, (cloGo X.env scope.names []).lookup y = some c → X.env.cells.lookup y = some c := fun y c h => cloGo_sub _ _ y c hfree (fun _ _ z => by simp at z) h
  have lt2 : ∀ b ∈ fp, b < s2.heap.objs.size := fun b hb => by obtain ⟨o, e, _⟩ := T.obj _ _ st2 b hb; exact Heap.lt_size e
  have okY : (cxLc X scope N C s3 H3 fp).Ok := by
    refine ⟨I2.ok.mod, L.kind, I2.ok.glob, I2.ok.blt, Nat.le_of_eq hC.symm, fun y z c h1 h2 => I2.ok.inj y z c (sub y c h1) (sub z c h2), fun y hy => ?_, fun y c z _ => ?_, I2.ok.hd, I2.ok.frames, .inl rfl, fun b hb => ⟨?_, fun y c h => (f2 b hb).2.2.2.2.1 y c (sub y c h)⟩,
      I3.bs, Nat.le_trans I3.ok.bsz I3.sz, fun b o e hb => ?_, fun b hb z => ?_, I3.stack, I3.stkFree⟩
    · have hk : (y, NameKind.free) ∈ scope.names := by
        rcases hy with hy | hy
        · rcases relabel_of hy with q | q
          · exact absurd rfl (L.nocell _ q)
          · exact q.1
        · rcases relabel_of hy with q | q
          · exact q
          · exact absurd q.2 (by decide)
      exact Option.isSome_iff_exists.mp (cloGo_has _ _ y hk)
    · cases (show false = true from z)
    · have l := lt2 b hb
      show b ≠ C
      rw [hC]
      exact Nat.ne_of_lt (Nat.lt_of_lt_of_le l hle)
    · rcases (f2 b hb).2.2.2.1 with q | q
      · exact I2.ok.noex b o e q
      · exact absurd (Nat.lt_of_lt_of_le (Heap.lt_size e) (Nat.le_trans I2.ok.bsz q)) (Nat.lt_irrefl _)
    · rcases List.mem_cons.mp (I2.stkSub b z) with q | q
      · exact (f2 b hb).2.1 q
      · exact (f2 b hb).2.2.1 q
  refine ⟨okY, ho, I4.bare, Un.kept kp, ⟨m, hns, fun i y v h1 h2 h3 => ?_⟩, fun y c e => I4.cell y c (sub y c e), ?_, fun y c e => I4.freeC y c (sub y c e), fun p hp => absurd (show p ∈ ([] : List (Addr × Obj)) from hp) (by simp), I4.hok, ?_⟩
  · cases i with
    | zero => cases (show some none = some (some v) from h2)
    | succ k =>
      have h2 : (frV σ ix)[k]? = some (some v) := h2
      have h1 : N[k + 1]? = some y := h1
      unfold frV at h2
      rw [List.getElem?_map] at h2
      cases hj : ix[k]? with
      | none => rw [hj] at h2; cases h2
      | some j =>
        rw [hj] at h2
        have h2 : (σ[j]?).getD none = some v := Option.some.inj h2
        have h2' : σ[j]? = some (some v) := by
          cases e : σ[j]? with
          | none => rw [e] at h2; cases h2
          | some z => rw [e] at h2; exact congrArg some h2
        have ht : N.tail[k]? = some y := by rw [List.getElem?_tail]; exact h1
        have hz : (y, j) ∈ N.tail.zip ix := List.mem_of_getElem? (i := k) (by rw [List.getElem?_zip_eq_some]; exact ⟨ht, hj⟩)
        obtain ⟨q1, q2⟩ := L.at_ _ hz
        have hm := PySem.mem_of_lookup q2
        have hcell := L.free _ hm rfl
        obtain ⟨m', hn', hl'⟩ := I4.loc
        obtain ⟨u, r, lk⟩ := hl' j y v q1 h2' (.inr (.inl hcell))
        refine ⟨u, r, .inr ⟨.inl (relabel_free I2.ok.kind hcell q2), ?_⟩⟩
        rcases lk with lk | ⟨_, c, e, z⟩
        · rw [show X.env.kindOf y = some .cell from hcell] at lk
          cases lk.1
        · obtain ⟨c', e'⟩ := Option.isSome_iff_exists.mp (cloGo_has (env := X.env) scope.names [] y hm)
          have e2 := sub y c' e'
          rw [e] at e2
          cases e2
          exact ⟨c, e', z⟩
  · show H3 C = none
    exact I3.hok.fresh (Nat.le_of_eq hC.symm)
  · show (none :: frV σ ix).length = N.length
    rw [L.len]
    simp [frV]
theorem lc_run {tgt : Expr} (htg : tgt = .Name x px) {pins : List (Addr × Obj)} {σ : St} {H2 : Hp} {s2 : Shared} {J : It} {fp : List Addr} {it : Addr} {tn : Nat → Heap → Prop} (hc : X.calm = true) (L : LcScope X.N X.env.scope scope x N ix) (I2 : Inv X pins σ H2 s2)
    (T : Turn X.prog X.w X.K tgt J fp it tn) (st2 : tn 0 s2.heap) (f2 : ∀ b ∈ fp, FpOk X pins H2 b)
    (hif : ∀ C s H, PIf (cxLc X scope N C s H fp) ifs tc) (he : ∀ C s H, PE (cxLc X scope N C s H fp) elt te) {Q : VK} (rd : rdLc J H2 (frV σ ix) tc te Q) {RR : Value → Addr → Result → Shared → Prop} {E : Value → Shared → Prop}
    (fin : ∀ D C H' s' m, Inv X pins σ H' s' → s2.heap.objs.size ≤ C → H' C = none → s'.heap.Ns C m → Q (.ref D) H' → RR (.ref D) C (.ok .next) s') :
    wpAny (model X.prog X.w) X.A (newList []) (fun acc s3 => wpAny (model X.prog X.w) X.A (newFunctionEnv scope X.env.globals (cloGo X.env scope.names []) [] X.env.qual none .none (some X.env)) (fun cenv s4 =>
      codeAny (model X.prog X.w) X.A (.compStart (.ListComp elt [⟨tgt, iter, ifs, 0⟩] scope pos) 0 (.ref it) acc { cenv with scope := relabel scope X.env }) (RR acc cenv.locals) s4) E s3) E s2 := by
  refine wpAny_newObj_type (wpAny_newFunctionEnv L.nocell (by intro y hy; simp at hy) (fun h1 hns hsb => ?_) L.kind)
  dsimp only at hns hsb ⊢
  have I3 : Inv X pins σ (upd H2 s2.heap.objs.size (.lst [])) { s2 with heap := s2.heap.push { cls := .type "list", dict := none, data := .seq ([] : List Value).toArray } } := I2.lnew (its := []) (t' := s2.toks) .nil (Nat.zero_le _)
  generalize hH3 : s2.heap.push { cls := .type "list", dict := none, data := .seq ([] : List Value).toArray } = h3 at hns hsb I3 ⊢
  have hsz : h3.objs.size = s2.heap.objs.size + 1 := by rw [← hH3, Heap.size_push]
  have kp34 : ∀ b u, h3.get? b = some u → h1.get? b = some u := fun b u e => hsb.extBut b u (Nat.ne_of_lt (Heap.lt_size e)) (Heap.get?_push_of_some _ e)
  have I4 : Inv X pins σ (upd H2 s2.heap.objs.size (.lst [])) { s2 with heap := h1, toks := s2.toks + ([] : List (Str × Value)).length } := I3.kept (t' := s2.toks + ([] : List (Str × Value)).length) kp34
  have kp24 : ∀ b u, s2.heap.get? b = some u → h1.get? b = some u := fun b u e => kp34 b u (by rw [← hH3]; exact Heap.get?_push_of_some _ e)
  have IY := lc_ok (C := h3.objs.size) (s3 := { s2 with heap := h3 }) L I2 T st2 f2 I3 I4 (by show s2.heap.objs.size ≤ h3.objs.size; omega) rfl rfl kp34 hns
  have fD : H2 s2.heap.objs.size = none := I2.hok.fresh (Nat.le_refl _)
  have lt2 : ∀ b ∈ fp, b < s2.heap.objs.size := fun b hb => by obtain ⟨o, e, _⟩ := T.obj _ _ st2 b hb; exact Heap.lt_size e
  have st4 : tn 0 h1 := T.keep _ _ _ st2 fun b _ o e => kp24 b o e
  have stat : ∀ {pn : List (Addr × Obj)} {H' : Hp}, pn = [] → (∀ b ∈ fp, H' b = none) → ∀ b ∈ fp, FpOk (cxLc X scope N h3.objs.size { s2 with heap := h3 } (upd H2 s2.heap.objs.size (.lst [])) fp) pn H' b := fun hp hn b hb => by
    subst hp
    exact ⟨hn b hb, (IY.ok.exf b hb).1, IY.ok.exfs b hb, .inl hb, (IY.ok.exf b hb).2, fun p hp => absurd (show p ∈ ([] : List (Addr × Obj)) from hp) (by simp)⟩
  obtain ⟨W, ⟨m0, w0⟩, turn⟩ := rd _ fD
  have loop : codeAny (model X.prog X.w) X.A (.compLoop (.ListComp elt [⟨tgt, iter, ifs, 0⟩] scope pos) 0 (.ref it) (.ref s2.heap.objs.size) (compEnvC scope (cloGo X.env scope.names []) h3.objs.size X.env)) (RR (.ref s2.heap.objs.size) h3.objs.size)
      { s2 with heap := h1, toks := s2.toks + ([] : List (Str × Value)).length } := by
    refine lc_loop (fun n s' => ∃ i H', Inv (cxLc X scope N h3.objs.size { s2 with heap := h3 } (upd H2 s2.heap.objs.size (.lst [])) fp) [] (none :: frV σ ix) H' s' ∧ tn i s'.heap ∧ (∀ b ∈ fp, H' b = none) ∧ W i n H') ?_ m0
      ⟨0, _, IY, st4, fun b hb => by rw [upd_ne (Nat.ne_of_lt (lt2 b hb))]; exact (f2 b hb).1, w0⟩
    rintro n s5 ⟨i, H5, I5, st5, fr5, w5⟩
    rcases turn i n H5 w5 with ⟨stop, q⟩ | ⟨go, step⟩
    · refine thn (T.done (cxLc X scope N h3.objs.size { s2 with heap := h3 } (upd H2 s2.heap.objs.size (.lst [])) fp) rfl rfl rfl hc i [] s5 _ H5 (fun _ _ => False) I5 (stat rfl fr5) st5 stop) fun r s6 ⟨hr, I6⟩ => ?_
      subst hr
      obtain ⟨m6, hn6, _⟩ := I6.loc
      have u1 : Un (frs X.stack) fp H2 (upd H2 s2.heap.objs.size (.lst [])) s2.heap h3 := Un.laid (fun b u e => by rw [← hH3]; exact Heap.get?_push_of_some _ e) (Nat.le_refl _) fD
      have back : Inv X pins σ H5 s6 := I2.call' (ch := fp) (I6.os.trans rfl) (u1.trans I6.base) I6.hok I6.bare fun b hb => ⟨(f2 b hb).2.2.2.1, (f2 b hb).2.1, (f2 b hb).2.2.2.2.1, (f2 b hb).2.2.2.2.2⟩
      exact fin _ _ H5 s6 m6 back (by omega) I6.free hn6 q
    · refine thn (T.item (cxLc X scope N h3.objs.size { s2 with heap := h3 } (upd H2 s2.heap.objs.size (.lst [])) fp) rfl rfl rfl hc i [] s5 _ H5 (fun _ _ => False) I5 (stat rfl fr5) st5 go) fun r s6 ⟨u, hr, h6⟩ => ?_
      subst hr
      refine thn h6 fun _ s7 ⟨y, H7, I7, r7, y7, st7, fr7⟩ => ?_
      have I7' := I7.pinned (stat rfl fr7) (T.obj _ _ st7)
      have hg : PG (cxLc X scope N h3.objs.size { s2 with heap := h3 } (upd H2 s2.heap.objs.size (.lst [])) fp) tgt (gName 0) := by
        rw [htg]
        have hi : N[0]? = some x := by have := L.hd; rwa [List.head?_eq_getElem?] at this
        exact pg_name L.nd hi (.inl (lookup_relabel_local L.loc)) (.inr (lookup_relabel_local L.loc))
      refine thn (hg _ s7 _ H7 y u (fun σ' H' => σ' = some y :: frV σ ix ∧ H' = H7) I7' r7 ⟨rfl, rfl⟩) fun _ s8 ⟨σ8, H8, I8, e8, e8'⟩ => ?_
      subst e8 e8'
      refine thn (hif _ _ _ _ s8 _ _ _ I8 (step y _ y7)) fun ok s9 ⟨H9, I9, q9⟩ => ?_
      have again : ∀ {sz : Shared} {Hz : Hp} {m' : Nat}, Inv (cxLc X scope N h3.objs.size { s2 with heap := h3 } (upd H2 s2.heap.objs.size (.lst [])) fp) ([] ++ pinsAt fp s7.heap) (some y :: frV σ ix) Hz sz → m' < n → W (i + 1) m' Hz →
          ∃ m, m < n ∧ ∃ i H', Inv (cxLc X scope N h3.objs.size { s2 with heap := h3 } (upd H2 s2.heap.objs.size (.lst [])) fp) [] (none :: frV σ ix) H' sz ∧ tn i sz.heap ∧ (∀ b ∈ fp, H' b = none) ∧ W i m H' := fun {sz Hz m'} Iz hm wz => by
        refine ⟨m', hm, i + 1, Hz, Iz.unpinned.weak (by simp) (fun j v e => ?_), T.keep _ _ _ st7 fun b hb o e => (Iz.pin (b, o) (List.mem_append_right _ (List.mem_append_right _ (mem_pinsAt hb e)))).1, fun b hb => ?_, wz⟩
        · cases j with
          | zero => cases e
          | succ j => exact e
        · obtain ⟨o, e, d⟩ := T.obj _ _ st7 b hb
          exact (Iz.pin (b, o) (List.mem_append_right _ (List.mem_append_right _ (mem_pinsAt hb e)))).2.1
      cases ok with
      | false =>
        obtain ⟨m', hm, wz⟩ := q9
        exact again I9 hm wz
      | true =>
        refine thn (he _ _ _ _ s9 _ _ _ I9 q9) fun xv s10 ⟨z, H10, I10, r10, ys, hD, hl, m', hm, wz⟩ => ?_
        refine thn (mt_append _ s10 _ H10 (.ref s2.heap.objs.size) [z] (.ref s2.heap.objs.size) [xv] (fun _ Hz => Hz = upd H10 s2.heap.objs.size (.lst (ys ++ [z]))) I10 rfl (.cons r10 .nil) ⟨_, ys, z, rfl, rfl, hD, hl, rfl⟩) fun _ s11 ⟨_, H11, I11, _, q11⟩ => ?_
        subst q11
        exact again I11 hm wz
  exact codeAny_compStart_list loop (T.self X.A 0 _ _ _ st4 loop)
/-- [elt for x in iter if ..] -/
theorem pe_lc {wi : TI} (hc : X.calm = true) (L : LcScope X.N X.env.scope scope x N ix) (hi : PI X (.Name x px) iter wi) (hif : ∀ C s H fp, PIf (cxLc X scope N C s H fp) ifs tc) (he : ∀ C s H fp, PE (cxLc X scope N C s H fp) elt te)
    (hs : ∀ z, foldedSetIterable iter X.env z = pure z := by intro _; rfl) : PE X (.ListComp elt [⟨.Name x px, iter, ifs, 0⟩] scope pos) (tLc wi ix tc te) := by
  intro pins s σ H Q I h
  have hfree : ∀ y ∈ scope.names, y.2 = .free → ∃ c, X.env.cells.lookup y.1 = some c := fun y hy hf => I.ok.has y.1 (.inl (L.free y hy hf))
  rw [eval_ListComp]
  refine wpAny_comprehension_free (use := none) rfl hs (closure_eq hfree) L.kind L.names (thn (hi pins s σ H _ I h) fun v s1 h1 => thn h1 fun itv s2 h2 => ?_)
  obtain ⟨it, fp, tn, J, H2, e, I2, T, st2, f2, rd⟩ := h2
  subst e
  refine lc_run (RR := fun acc C => compPost (model X.prog X.w) X.A X.xe none _ acc C) rfl hc L I2 T st2 f2 (fun C s H => hif C s H fp) (fun C s H => he C s H fp) rd fun D C H' s' m I' hC hf hn q => ?_
  refine ⟨m, hn, fun h' hsb => ⟨.ref D, H', ?_, rfl, q⟩⟩
  have l2 := I2.lt
  refine I'.turned (t' := s'.toks) (it := C) (fun b o hb e => hsb.extBut b o hb e) hf (Nat.ne_of_gt (Nat.lt_of_lt_of_le l2 hC)) (.inr (Nat.le_trans I2.sz hC)) (fun y c e => ?_) fun p hp => ?_
  · obtain ⟨v, hv⟩ := I2.cell y c e
    exact Nat.ne_of_lt (Nat.lt_of_lt_of_le hv.lt hC)
  · exact Nat.ne_of_lt (Nat.lt_of_lt_of_le (Heap.lt_size (I2.pin p hp).1) hC)
end

/-! ### the form one uses: nothing that was tracked is changed -/
theorem same_upd {H : Hp} {D : Addr} {o : HO} (h : H D = none) : Same H (upd H D o) := fun b u e => by rw [upd_ne (ne_of_none e h)]; exact e
theorem lc_same {J : It} {H1 : Hp} {fr : St} {tc : TT} {te : TE} {Q : VK} (n : Nat) (item : Nat → V) (acc : Nat → List V) (h0 : acc 0 = []) (hz : ∀ i, i < n → (acc i).length < sizeLine)
    (hgo : ∀ i H, i < n → Same H1 H → J.go i H) (hy : ∀ i H x H', i < n → Same H1 H → J.yld i H x H' → x = item i ∧ H' = H) (hst : ∀ H, Same H1 H → J.stop n H)
    (turn : ∀ i H (R : Hp → Prop) (A : VK), i < n → Same H1 H → (acc (i + 1) = acc i → ∀ H', Same H H' → R H') → (∀ y H', acc (i + 1) = acc i ++ [y] → Same H H' → A y H') →
      tc (some (item i) :: fr) H fun b H3 => if b = true then te (some (item i) :: fr) H3 A else R H3)
    (fin : ∀ D H, H1 D = none → Same H1 H → H D = some (.lst (acc n)) → Q (.ref D) H) : rdLc J H1 fr tc te Q := by
  intro D hD
  refine ⟨fun i m H => i ≤ n ∧ m = n - i ∧ Same H1 H ∧ H D = some (.lst (acc i)), ⟨n, Nat.zero_le _, rfl, same_upd hD, by rw [upd_same, h0]⟩, ?_⟩
  rintro i m H ⟨hi, rfl, sm, hl⟩
  by_cases h : i = n
  · subst h
    exact .inl ⟨hst H sm, fin D H hD sm hl⟩
  · have hlt : i < n := Nat.lt_of_le_of_ne hi h
    refine .inr ⟨hgo i H hlt sm, fun x H' hyl => ?_⟩
    obtain ⟨rfl, rfl⟩ := hy i H x H' hlt sm hyl
    refine turn i H' _ _ hlt sm (fun ea H3 s3 => ?_) (fun y H4 ea s4 => ?_)
    · exact ⟨n - (i + 1), by omega, by omega, rfl, sm.trans s3, by rw [ea]; exact s3 _ _ hl⟩
    · refine ⟨acc i, s4 _ _ hl, hz i hlt, n - (i + 1), by omega, by omega, rfl, fun b u e => ?_, by rw [upd_same, ea]⟩
      rw [upd_ne (ne_of_none e hD)]
      exact s4 _ _ (sm _ _ e)
/-- over a list that is read -/
theorem lc_list {K : PySem.W.Frag} {a : Addr} {xs : List V} {H1 : Hp} {fr : St} {tc : TT} {te : TE} {Q : VK} (hl : SqL K H1 a xs) (acc : Nat → List V) (h0 : acc 0 = []) (hz : ∀ i, i < xs.length → (acc i).length < sizeLine)
    (turn : ∀ (i : Nat) x H (R : Hp → Prop) (A : VK), xs[i]? = some x → Same H1 H → (acc (i + 1) = acc i → ∀ H', Same H H' → R H') → (∀ y H', acc (i + 1) = acc i ++ [y] → Same H H' → A y H') →
      tc (some x :: fr) H fun b H3 => if b = true then te (some x :: fr) H3 A else R H3)
    (fin : ∀ D H, H1 D = none → Same H1 H → H D = some (.lst (acc xs.length)) → Q (.ref D) H) : rdLc (Itl K a) H1 fr tc te Q := by
  refine lc_same xs.length (fun i => xs.getD i .non) acc h0 hz (fun i H hi sm => ⟨xs, xs[i], sm.seq hl, by simp [hi]⟩) (fun i H x H' hi sm h => ⟨?_, h.1⟩) (fun H sm => ⟨xs, sm.seq hl, Nat.le_refl _⟩) (fun i H R A hi sm => turn i _ H R A (by simp [hi]) sm) fin
  have := h.2 xs (sm.seq hl)
  simp [List.getD, this]
end L2
end

section
set_option Elab.async false
set_option linter.all false
set_option maxRecDepth 100000
set_option maxHeartbeats 4000000
/-! My own rules behind the layer: callees in one piece, texts, isinstance. -/
namespace L2
open PySem PySem.Spec PyProof.Rows

/-! ### Python's own names -/
theorem b_int : bootBuiltins "int" = some (.type "int") := by decide +kernel
theorem b_str : bootBuiltins "str" = some (.type "str") := by decide +kernel
theorem b_bool : bootBuiltins "bool" = some (.type "bool") := by decide +kernel
theorem b_list : bootBuiltins "list" = some (.type "list") := by decide +kernel
theorem b_len : bootBuiltins "len" = some (.builtin "len") := by decide +kernel
theorem b_isinstance : bootBuiltins "isinstance" = some (.builtin "isinstance") := by decide +kernel
theorem b_max : bootBuiltins "max" = some (.builtin "max") := by decide +kernel
/-! ### a callee in one piece -/
structure Cal (P : Program) (w : World) (K : PySem.W.Frag) (mg : Str → Option Value) (base : Heap) (name : Str) (k : Nat) (ps : List Str) (sp : Sp) : Prop where
  ex : ∃ (f : Addr) (fd : FuncData), FnOk P w K mg base CX0 k f fd ps sp ∧ Binds K fd ps [] ∧ mg name = some (.ref f) ∧ PySem.W.keepIn K (.ref f) = true
section
variable {X : Cx} {k : Nat} {ps : List Str} {sp : Sp} {name m : Str} {p pos apos : Pos} {e o : Expr} {es : List Expr} {ta : TE} {t : TA}
theorem pe_fn (C : Cal X.prog X.w X.K X.mg X.base name k ps sp) (hr : Room k X.A) (ha : PA X (e :: es) t) (hg : Gl X name := by rfl) (hdb : (name == ("__debug__" : Str)) = false := by decide)
    (he : starEach (e :: es) X.env = (false, eval e X.env) :: starEach es X.env := by rfl) (hpl : (backTo pos (starEach es X.env)).any (·.1) = false := by rfl) : PE X (.Call (.Name name p) (e :: es) [] pos) (tCall sp [] E0 t) := by
  obtain ⟨f, fd, F, b, hm, hk⟩ := C.ex
  exact pe_call F hr hg hm hk b .nil pass0 ha hdb he hpl
end

/-! ### isinstance by one of Python's own kinds -/
section
variable {X : Cx}
def rIsi (K : PySem.W.Frag) : List V → Hp → VK → Prop := fun xs H Q => ∃ x n t b, xs = [x, .ty n] ∧ TyOf K H x t ∧ PySem.W.kitOne K t (.type n) = some b ∧ Q (.bl b) H
theorem call_isinst : CallR X (.builtin "isinstance") (rIsi X.K) := by
  intro pins s σ H xs us Q I r h
  obtain ⟨x, n, t, b, rfl, ty, e, q⟩ := h
  obtain ⟨u, w', rfl, ru, rw'⟩ := vals2 r
  cases (show w' = Value.type n from rw')
  exact isinst_ok I ru ty e fun tk => ⟨.bl b, H, I.tok tk, rfl, q⟩
theorem kit_int_bool {K : PySem.W.Frag} : PySem.W.kitOne K (.type "int") (.type "bool") = some false := by rfl
theorem kit_str_str {K : PySem.W.Frag} : PySem.W.kitOne K (.type "str") (.type "str") = some true := by rfl
end

/-! ### texts as lists of codes -/
theorem ext_cps {x y : Str} (h : x.cps.toList = y.cps.toList) : x = y := by
  obtain ⟨a⟩ := x
  obtain ⟨b⟩ := y
  have : a = b := Array.toList_inj.mp h
  rw [this]
/-- a text of one sign -/
def sgn (c : Nat) : Str := ⟨#[c]⟩
def repS (x : Str) (k : Nat) : Str := ⟨(List.replicate k x.cps.toList).flatten.toArray⟩
theorem repS_length (x : Str) (k : Nat) : (repS x k).length = k * x.length := by
  show (List.replicate k x.cps.toList).flatten.toArray.size = k * x.cps.size
  rw [List.size_toArray, len_rep]
  simp
theorem foldl_app (a : Array Nat) : ∀ (k : Nat) (acc : Array Nat), ((List.replicate k a).foldl (· ++ ·) acc).toList = acc.toList ++ (List.replicate k a.toList).flatten
  | 0, acc => by simp
  | k + 1, acc => by
    rw [List.replicate_succ, List.foldl_cons, foldl_app a k, List.replicate_succ]
    simp [List.append_assoc]
section
variable {X : Cx}
def rMulS : R2 := fun x y H Q => ∃ z k, x = .str z ∧ y = .int k ∧ -(2 ^ 40) < k ∧ k < 2 ^ 40 ∧ z.length * k.toNat ≤ sizeLine ∧ z.length ≤ sizeLine ∧ Q (.str (repS z k.toNat)) H
theorem op_mulS : OpR X (binaryOp .Mult) rMulS := by
  intro pins s σ H x y v u Q I rx ry h
  obtain ⟨z, k, rfl, rfl, k1, k2, hz, hz2, q⟩ := h
  obtain ⟨t, rfl⟩ := rx
  obtain ⟨t', rfl⟩ := ry
  have hs := line63
  have hs' := sizeLine_eq
  refine PySem.P.mul_str ?_ ?_ ?_ ?_
  · rw [decide_eq_false (by omega), decide_eq_false (by omega)]; rfl
  · intro h1 _ hgt
    have hk : k ≤ 2 ^ 40 := by omega
    have : (z.length : Int) ≤ (2 ^ 63 - 1) / k := by
      rw [Int.le_ediv_iff_mul_le (by omega)]
      have e : (z.length : Int) * k = ((z.length * k.toNat : Nat) : Int) := by
        rw [Int.natCast_mul, Int.toNat_of_nonneg (by omega)]
      rw [e]
      omega
    omega
  · intro _ _
    unfold Builtin.Str.tooLong
    simpa using hz
  · split
    · rename_i h1
      have e : repS z k.toNat = Str.empty := by
        rw [show k.toNat = 0 by omega]; rfl
      rw [e] at q
      exact ⟨by decide, .str Str.empty, H, I.tok _, ⟨_, rfl⟩, q⟩
    · rename_i h1
      split
      · rename_i h2
        have e : repS z k.toNat = z := by
          refine ext_cps ?_
          show (List.replicate k.toNat z.cps.toList).flatten.toArray.toList = _
          rcases Bool.or_eq_true_iff.mp h2 with h2 | h2
          · have : k = 1 := by simpa using h2
            subst this
            simp
          · have : z.length = 0 := by simpa using h2
            have e0 : z.cps.toList = [] := by
              have : z.cps.size = 0 := this
              simpa using this
            rw [e0]
            simp
        rw [e] at q
        exact ⟨.str z, H, I, ⟨_, rfl⟩, q⟩
      · have e : (⟨(List.replicate k.toNat z.cps).foldl (· ++ ·) #[]⟩ : Str) = repS z k.toNat := by
          refine ext_cps ?_
          show ((List.replicate k.toNat z.cps).foldl (· ++ ·) #[]).toList = _
          rw [foldl_app]
          simp [repS]
        refine ⟨?_, .str (repS z k.toNat), H, I.tok _, ⟨s.toks, by rw [e]⟩, q⟩
        rw [e, repS_length, Nat.mul_comm]
        exact hz
theorem strsAre_of {ys : List Str} : ∀ {us : List Value}, Vals (ys.map V.str) us → StrsAre us ys := by
  induction ys with
  | nil => intro us r; rw [List.map_nil] at r; cases r; exact .nil
  | cons y ys ih =>
    intro us r
    rw [List.map_cons] at r
    cases r with
    | cons r1 r2 =>
      obtain ⟨t, e⟩ := r1
      subst e
      exact .cons y t (ih r2)
/-- ''.join of a list that is read -/
def rJoin (K : PySem.W.Frag) : V → List V → Hp → VK → Prop := fun x vs H Q => ∃ sep p ys, x = .str sep ∧ vs = [.ref p] ∧ SqL K H p (ys.map V.str) ∧ (ys.map (·.length)).sum + ys.length * sep.length ≤ 16777216 ∧ Q (.str (Txt.join sep ys)) H
theorem mt_join : MtM X "str.join" (rJoin X.K) := by
  intro pins s σ H x vs v us Q I rx rv h
  obtain ⟨sep, p, ys, rfl, rfl, hp, hz, q⟩ := h
  obtain ⟨t, rfl⟩ := rx
  obtain ⟨u, rfl, ru⟩ := rv.one
  cases ru
  obtain ⟨its, r, pl, _⟩ := I.list hp
  exact join_list pl.isList (by simpa using strsAre_of r) hz fun t' k => ⟨.str (Txt.join sep ys), H, I.tok k, ⟨t', rfl⟩, q⟩
end
end L2
end

section
set_option Elab.async false
set_option linter.all false
namespace L2
open PySem
def nostar : Expr → Bool
  | .Starred .. => false
  | _ => true
theorem starEach_of {e : Expr} {es : List Expr} {env : Env} (h : nostar e = true) : starEach (e :: es) env = (false, eval e env) :: starEach es env := by
  cases e <;> first | rfl | cases h
section
variable {X : Cx} {e : Expr} {es : List Expr} {te : TE} {t : TA}
end
section
variable {X : Cx} {e : Expr} {es : List Expr} {te : TE} {t : TA}
theorem pa_d (ha : PE X e te) (hr : PA X es t) (hs : nostar e = true) : PA X (e :: es) (tCons te t) := pa_cons ha hr (starEach_of hs)
end
section
variable {X : Cx} {e a b : Expr} {es : List Expr} {te ta tb : TE} {t : TA} {pos : Pos} {st : Stmt} {rest : List Stmt} {u u2 : TS}
end
theorem us1 {P : List Value → Prop} (h : ∀ a, P [a]) : ∀ us : List Value, us.length = 1 → P us
  | [_], _ => h _
theorem us2 {P : List Value → Prop} (h : ∀ a b, P [a, b]) : ∀ us : List Value, us.length = 2 → P us
  | [_, _], _ => h _ _
end L2
end

section
set_option Elab.async false
set_option linter.all false
set_option maxRecDepth 100000
/-! Readings, step by step, from behind. -/
namespace L2
open PySem PySem.Spec PyProof.Rows
section
variable {σ : St} {H : Hp} {D : Ends} {Q : VK} {t u : TS} {te ta tb : TE} {QB : Bool → Hp → Prop}
theorem r_seq (h : t { D with nx := u D } σ H) : tSeq t u D σ H := h
theorem r_next (h : D.nx σ H) : tNext D σ H := h
theorem r_asg {g : TG} (h : te σ H fun x H1 => g x σ H1 D.nx) : tAsg te g D σ H := h
theorem r_gname {i : Nat} {v : V} {R : St → Hp → Prop} (h : R (σ.set i (some v)) H) : gName i v σ H R := h
theorem r_ret (h : te σ H D.rt) : tRet te D σ H := h
theorem r_drop (h : te σ H fun _ H1 => D.nx σ H1) : tDrop te D σ H := h
theorem r_ifs {c : TT} (h : c σ H fun b H1 => if b = true then t D σ H1 else u D σ H1) : tIfS c t u D σ H := h
theorem r_aug {i : Nat} {ti : TIp} {x : V} (e : σ[i]? = some (some x)) (h : te σ H fun y H1 => ti x y H1 fun z H2 => D.nx (σ.set i (some z)) H2) : tAug i te ti D σ H := ⟨x, e, h⟩
theorem r_var {i : Nat} {v : V} (e : σ[i]? = some (some v)) (h : Q v H) : tVar i σ H Q := ⟨v, e, h⟩
theorem r_c {v : V} (h : Q v H) : tC v σ H Q := h
theorem r_op {r : R2} (h : ta σ H fun x H1 => tb σ H1 fun y H2 => r x y H2 Q) : tOp r ta tb σ H Q := h
theorem r_un {r : V → Hp → VK → Prop} (h : ta σ H fun x H1 => r x H1 Q) : tUn r ta σ H Q := h
theorem r_rU {g : Int → V} {i : Int} (h : Q (g i) H) : rU g (.int i) H Q := ⟨i, rfl, h⟩
theorem r_rI0 {g : Int → Int → V} {i j : Int} (h : Q (g i j) H) : rI0 g (.int i) (.int j) H Q := ⟨i, j, rfl, rfl, h⟩
theorem r_ipI {f : Int → Int → Int} {i j : Int} (h : Q (.int (f i j)) H) : ipI f (.int i) (.int j) H Q := ⟨i, j, rfl, rfl, h⟩
theorem r_rEq {x y : V} (e : scal x y = true) (h : Q (.bl (decide (x = y))) H) : rEq x y H Q := ⟨e, h⟩
theorem r_rNe {x y : V} (e : scal x y = true) (h : Q (.bl (!decide (x = y))) H) : rNe x y H Q := ⟨e, h⟩
theorem r_test (h : te σ H fun x H' => ∃ k, x = .bl k ∧ QB k H') : tTest te σ H QB := h
theorem r_tB (h : te σ H fun x H' => ∃ k, x = .bl k ∧ QB k H') : tB te σ H QB := h
theorem r_bl {k : Bool} {P : Bool → Prop} (h : P k) : ∃ k', V.bl k = .bl k' ∧ P k' := ⟨k, rfl, h⟩
theorem r_not {c : TT} (h : c σ H fun b H1 => QB (!b) H1) : tNot c σ H QB := h
theorem r_and {c d : TT} (h : c σ H fun b H1 => if b = true then d σ H1 QB else QB false H1) : tAnd c d σ H QB := h
theorem r_or {c d : TT} (h : c σ H fun b H1 => if b = true then QB true H1 else d σ H1 QB) : tOr c d σ H QB := h
theorem r_andV (h : ta σ H fun x H1 => ∃ c, x = .bl c ∧ if c = true then tb σ H1 Q else Q (.bl false) H1) : tAndV ta tb σ H Q := h
theorem r_ifE {c : TT} (h : c σ H fun b H1 => if b = true then ta σ H1 Q else tb σ H1 Q) : tIf c ta tb σ H Q := h
theorem r_isN (h : ta σ H fun x H1 => Q (.bl (decide (x = .non))) H1) : tIsN ta σ H Q := h
theorem r_notN (h : ta σ H fun x H1 => Q (.bl (!decide (x = .non))) H1) : tNotN ta σ H Q := h
theorem r_yes (h : QB true H) : tYes σ H QB := h
variable {tA tR : TA} {QA : List V → Hp → Prop}
theorem r_nil (h : QA [] H) : tNil σ H QA := h
theorem r_cons (h : te σ H fun x H1 => tR σ H1 fun xs H2 => QA (x :: xs) H2) : tCons te tR σ H QA := h
theorem r_call {sp : Sp} {E : XK} (h : tA σ H fun vs H1 => sp (vs ++ []) H1 Q E) : tCall sp [] E tA σ H Q := h
theorem r_cB {r : List V → Hp → VK → Prop} (h : tA σ H fun vs H1 => r vs H1 Q) : tCB r tA σ H Q := h
theorem r_lst (h : tA σ H fun xs H1 => xs.length ≤ sizeLine ∧ ∀ p, H1 p = none → Q (.ref p) (upd H1 p (.lst xs))) : tLst tA σ H Q := h
theorem r_bm {K : PySem.W.Frag} {T : String} {r : V → List V → Hp → VK → Prop} (h : te σ H fun x H1 => tyV K T x H1 ∧ tA σ H1 fun xs H2 => r x xs H2 Q) : tBM K T r te tA σ H Q := h
theorem r_sl {r : V → Option Int → Option Int → Hp → VK → Prop} {tl th : TO} (h : te σ H fun x H1 => tl σ H1 fun l H2 => th σ H2 fun u H3 => r x l u H3 Q) : tSl r te tl th σ H Q := h
theorem r_nopart {QO : Option Int → Hp → Prop} (h : QO none H) : tNoPart σ H QO := h
theorem r_part {QO : Option Int → Hp → Prop} (h : te σ H fun x H1 => ∃ i, x = .int i ∧ QO (some i) H1) : tPart te σ H QO := h
theorem r_int {P : Int → Prop} {i : Int} (h : P i) : ∃ j, V.int i = .int j ∧ P j := ⟨i, rfl, h⟩
/-- for: what is walked first -/
def forB (J : It) (g : TG) (tb : TS) (D : Ends) (σ : St) (H1 : Hp) : Prop := ∃ W : Nat → Nat → St → Hp → Prop, (∃ m, W 0 m σ H1) ∧ ∀ i m σ H, W i m σ H →
  (J.stop i H ∧ D.nx σ H) ∨ (J.go i H ∧ ∃ N : St → Hp → Prop, (∀ σ' H', N σ' H' → ∃ m', m' < m ∧ W (i + 1) m' σ' H') ∧ ∀ x H', J.yld i H x H' → g x σ H' fun σ2 H2 => tb { D with nx := N, ct := N, bk := D.nx } σ2 H2)
theorem r_for {wi : TI} {g : TG} (h : wi σ H fun J H1 => forB J g t D σ H1) : tFor wi g t D σ H := h
theorem r_rng1 {R : It → Hp → Prop} (h : tA σ H fun vs H1 => ∃ j : Int, vs = [.int j] ∧ -(2 ^ 62) ≤ j ∧ j < 2 ^ 62 ∧ R (Itr 0 j.toNat) H1) : iRng1 tA σ H R := h
theorem r_ilist {K : PySem.W.Frag} {R : It → Hp → Prop} (h : te σ H fun x H1 => ∃ a, x = .ref a ∧ (∃ xs, SqL K H1 a xs) ∧ R (Itl K a) H1) : iList K te σ H R := h
theorem r_lc {wi : TI} {ix : List Nat} {tc : TT} (h : wi σ H fun J H1 => rdLc J H1 (frV σ ix) tc te Q) : tLc wi ix tc te σ H Q := h
/-- items of lists, tuples, texts -/
theorem r_ixL {K : PySem.W.Frag} {p : Addr} {xs : List V} {i : Int} {v : V} (hs : SqL K H p xs) (e : atI xs i = some v) (h : Q v H) : rIxL K (.ref p) (.int i) H Q := ⟨p, xs, i, v, rfl, rfl, hs, e, h⟩
theorem r_append {l : Addr} {xs : List V} {y : V} (hl : H l = some (.lst xs)) (hz : xs.length < sizeLine) (h : Q .non (upd H l (.lst (xs ++ [y])))) : rAppend (.ref l) [y] H Q := ⟨l, xs, y, rfl, rfl, hl, hz, h⟩
end
/-- while, by a word and a measure; r_turn goes into the body -/
theorem while_rd {c : TT} {tb : TS} {D : Ends} {σ : St} {H : Hp} (Pv : St → Hp → Prop) (μ : St → Hp → Nat) (h0 : Pv σ H)
    (hs : ∀ m σ H, Pv σ H → μ σ H = m → c σ H fun b H1 => if b = true then ∃ N : St → Hp → Prop, (∀ σ' H', N σ' H' → ∃ m', m' < m ∧ (Pv σ' H' ∧ μ σ' H' = m')) ∧ tb { D with nx := N, ct := N, bk := D.nx } σ H1 else D.nx σ H1) : tWhile c tb D σ H :=
  ⟨fun m σ H => Pv σ H ∧ μ σ H = m, ⟨_, h0, rfl⟩, fun m σ H h => hs m σ H h.1 h.2⟩
theorem r_turn {tb : TS} {rt : VK} {bk : St → Hp → Prop} {σ : St} {H1 : Hp} {Pv : St → Hp → Prop} {μ : St → Hp → Nat} {m : Nat}
    (h : tb { nx := fun σ' H' => Pv σ' H' ∧ μ σ' H' < m, rt := rt, bk := bk, ct := fun σ' H' => Pv σ' H' ∧ μ σ' H' < m } σ H1) :
    ∃ N : St → Hp → Prop, (∀ σ' H', N σ' H' → ∃ m', m' < m ∧ (Pv σ' H' ∧ μ σ' H' = m')) ∧ tb { nx := N, rt := rt, bk := bk, ct := N } σ H1 := ⟨_, fun σ' H' z => ⟨_, z.2, z.1, rfl⟩, h⟩
section
variable {H : Hp} {Q : VK} {g : Int → Int → V} {i j : Int}
theorem r_mod (c : 0 < j) (h : Q (g i j) H) : rI (fun _ j => 0 < j) g (.int i) (.int j) H Q := ⟨i, j, rfl, rfl, c, h⟩
theorem r_div (c1 : 0 < j) (c2 : j < 1073741824) (h : Q (g i j) H) : rI CDiv g (.int i) (.int j) H Q := ⟨i, j, rfl, rfl, ⟨c1, c2⟩, h⟩
theorem r_mulR (c1 : -(2 ^ 64) < j) (c2 : j < 2 ^ 64) (h : Q (g i j) H) : rI CMul g (.int i) (.int j) H Q := ⟨i, j, rfl, rfl, .inr ⟨c1, c2⟩, h⟩
theorem r_mulL (c1 : -(2 ^ 64) < i) (c2 : i < 2 ^ 64) (h : Q (g i j) H) : rI CMul g (.int i) (.int j) H Q := ⟨i, j, rfl, rfl, .inl ⟨c1, c2⟩, h⟩
end
theorem iteP {c A B : Prop} [Decidable c] (h1 : c → A) (h2 : ¬ c → B) : if decide c = true then A else B := by
  by_cases h : c
  · rw [decide_eq_true h, if_pos rfl]
    exact h1 h
  · rw [decide_eq_false h, if_neg Bool.false_ne_true]
    exact h2 h
theorem iteN {c A B : Prop} [Decidable c] (h1 : ¬ c → A) (h2 : c → B) : if (!decide c) = true then A else B := by
  by_cases h : c
  · rw [decide_eq_true h, if_neg (by decide)]
    exact h2 h
  · rw [decide_eq_false h, if_pos (by decide)]
    exact h1 h
/-! ### an if whose ways meet behind it -/
def tIfJ (c : TT) (t u : TS) : TS := fun D σ H => ∃ J : St → Hp → Prop, (∀ σ H, J σ H → D.nx σ H) ∧ c σ H fun b H1 => if b = true then t { D with nx := J } σ H1 else u { D with nx := J } σ H1
theorem ps_ifJ {X : Cx} {c : Expr} {a b : List Stmt} {tc : TT} {t u : TS} {pos : Pos} (hc : PT X c tc) (ha : PSs X a t) (hb : PSs X b u) : PS X (.If c a b pos) (tIfJ tc t u) := by
  intro pins s σ H D I h
  obtain ⟨J, hJ, h⟩ := h
  refine thn (ps_if hc ha hb pins s σ H { D with nx := J } I h) fun f s' q => ?_
  cases f with
  | next =>
    obtain ⟨σ', H', I', q'⟩ := q
    exact ⟨σ', H', I', hJ _ _ q'⟩
  | brk => exact q
  | cont => exact q
  | ret u => exact q
theorem r_ifJ {c : TT} {t u : TS} {D : Ends} {σ : St} {H : Hp} (J : St → Hp → Prop) (h : c σ H fun b H1 => if b = true then t { D with nx := J } σ H1 else u { D with nx := J } σ H1) (hJ : ∀ σ H, J σ H → D.nx σ H) : tIfJ c t u D σ H := ⟨J, hJ, h⟩
theorem atI_int {α : Type} {xs : List α} {i : Int} {v : α} (h0 : 0 ≤ i) (h : xs[i.toNat]? = some v) : atI xs i = some v := by
  have := atI_nat (xs := xs) (j := i.toNat) h
  rwa [Int.toNat_of_nonneg h0] at this
end L2
end

section
set_option Elab.async false
set_option linter.all false
set_option maxRecDepth 100000
set_option maxHeartbeats 4000000
/-! My own rules behind the layer: ranges by steps, texts walked and cut, sums, counts, tuples compared. -/
namespace L2
open PySem PySem.Spec PyProof.Rows

section
variable {X : Cx} {tg : Expr}
end
/-! ### a text walked sign by sign -/
def Its (z : Str) : It := ⟨fun i _ => i < z.cps.size, fun i H x H' => H' = H ∧ ∃ c, z.cps[i]? = some c ∧ x = .str (sgn c), fun i _ => z.cps.size ≤ i⟩
section
variable {X : Cx} {tg : Expr}
def iStr (tl : TE) : TI := fun σ H R => tl σ H fun x H1 => ∃ z, x = .str z ∧ R (Its z) H1
theorem turn_str {P : Program} {w : World} {K : PySem.W.Frag} {tg : Expr} {it : Addr} {z : Str} {ty : String} {t : Tok} (hty : ty = "str_ascii_iterator" ∨ ty = "str_iterator")
    (W : ∀ A' : Around, A'.handled = none → Walks P w A' it [it] [it] z.cps.size (SignAt z) (fun i h => h.IsStrIter it ty z t i))
    (hself : ∀ (A : Around) (i : Nat) (s : Shared) (Q : Value → Shared → Prop) (E : Value → Shared → Prop), s.heap.IsStrIter it ty z t i → Q (.ref it) s → wpAny (model P w) A (pyIter (.ref it)) Q E s) : Turn P w K tg (Its z) [it] it (fun i h => h.IsStrIter it ty z t i) where
  mem := by simp
  obj := fun i h st b hb => by
    have e : b = it := by simpa using hb
    subst e
    obtain ⟨o, e, c, d⟩ := st
    exact ⟨o, e, fun v z => by rw [d] at z; cases z⟩
  keep := fun i h h' st k => let ⟨o, ho, r⟩ := st; ⟨o, k it (by simp) o ho, r⟩
  item := by
    intro X hP hw hK hc i pins s σ H E I hf st hg
    subst hP hw hK
    obtain ⟨f0, f1, f2, f3, f4, f5⟩ := hf it (by simp)
    refine (W X.A (I.ok.hd hc)).item i s _ _ hg st fun v h' tk hv st' kk => ?_
    obtain ⟨c, u, hc', rfl⟩ := hv
    have I1 : Inv X pins σ H { s with heap := h', toks := tk } := I.turned (fun b o hb e => kk b o (by simpa using hb) e) f0 f1 f3 f4 f5
    obtain ⟨o, e, cc, d⟩ := id st'
    exact ⟨_, rfl, go_of (s := { s with heap := h', toks := tk }) e cc d (by rcases hty with rfl | rfl <;> decide) ⟨.str (sgn c), H, I1, ⟨u, rfl⟩, ⟨rfl, c, hc', rfl⟩, st', fun b hb => (hf b hb).1⟩⟩
  done := by
    intro X hP hw hK hc i pins s σ H E I hf st hg
    subst hP hw hK
    obtain ⟨f0, f1, f2, f3, f4, f5⟩ := hf it (by simp)
    rcases hty with rfl | rfl
    · exact wpAny_pyNext_ascii_end (I.ok.hd hc) st (Array.getElem?_eq_none hg) fun h' eb => ⟨rfl, I.turned (t' := s.toks) (fun b o hb e => eb b o hb e) f0 f1 f3 f4 f5⟩
    · exact wpAny_pyNext_wide_end (I.ok.hd hc) st (Array.getElem?_eq_none hg) fun h' eb => ⟨rfl, I.turned (t' := s.toks) (fun b o hb e => eb b o hb e) f0 f1 f3 f4 f5⟩
  self := fun A i s Q E st h => hself A i s Q E st h
theorem pi_str {l : Expr} {tl : TE} (hl : PE X l tl) : PI X tg l (iStr tl) := by
  intro pins s σ H R I h
  refine thn (hl pins s σ H _ I h) fun v s1 ⟨x, H1, I1, r1, q1⟩ => ?_
  obtain ⟨z, e, q⟩ := q1
  subst e
  obtain ⟨t, rfl⟩ := r1
  have fin : ∀ (o : Obj) (ty : String), (ty = "str_ascii_iterator" ∨ ty = "str_iterator") → (∀ A' : Around, A'.handled = none → Walks X.prog X.w A' s1.heap.objs.size [s1.heap.objs.size] [s1.heap.objs.size] z.cps.size (SignAt z) (fun i h => h.IsStrIter s1.heap.objs.size ty z t i)) →
      (∀ (A : Around) (i : Nat) (s : Shared) (Q : Value → Shared → Prop) (E : Value → Shared → Prop), s.heap.IsStrIter s1.heap.objs.size ty z t i → Q (.ref s1.heap.objs.size) s → wpAny (model X.prog X.w) A (pyIter (.ref s1.heap.objs.size)) Q E s) →
      (s1.heap.push o).IsStrIter s1.heap.objs.size ty z t 0 → PIE X pins σ tg R (.ref s1.heap.objs.size) { s1 with heap := s1.heap.push o } := fun o ty hty W hs h0 => by
    refine ⟨s1.heap.objs.size, [s1.heap.objs.size], _, _, H1, rfl, I1.kept (t' := s1.toks) fun b o e => Heap.get?_push_of_some _ e, turn_str hty W hs, h0, fun b hb => ?_, q⟩
    have e : b = s1.heap.objs.size := by simpa using hb
    subst e
    exact I1.fpOk (Nat.le_refl _) (I1.hok.fresh (Nat.le_refl _))
  cases ha : z.cps.all (· < 128)
  · exact wpAny_pyIter_wide ha (fin _ _ (.inr rfl) (fun A' hA => Walks.strWide hA _ z t) (fun A i s Q E st h => wpAny_pyIter_striter_wide st h) ⟨_, Heap.get?_push_size _ rfl, rfl, rfl⟩)
  · exact wpAny_pyIter_ascii ha (fin _ _ (.inl rfl) (fun A' hA => Walks.strAscii hA _ z t) (fun A i s Q E st h => wpAny_pyIter_striter_ascii st h) ⟨_, Heap.get?_push_size _ rfl, rfl, rfl⟩)
end
theorem r_istr {tl : TE} {σ : St} {H : Hp} {R : It → Hp → Prop} (h : tl σ H fun x H1 => ∃ z, x = .str z ∧ R (Its z) H1) : iStr tl σ H R := h
/-! ### a text cut -/
def cutS (z : Str) (lo hi : Option Int) : Str := ⟨((z.cps.toList.drop (HT.sIx z.cps.size 0 lo)).take (HT.sIx z.cps.size z.cps.size hi - HT.sIx z.cps.size 0 lo)).toArray⟩
def rSlS : V → Option Int → Option Int → Hp → VK → Prop := fun x lo hi H Q => ∃ z, x = .str z ∧ z.length ≤ sizeLine ∧ Q (.str (cutS z lo hi)) H
theorem strIx (lo hi : Option Int) (n : Nat) : Builtin.Str.strSliceIndices lo hi 1 n = (List.range (HT.sIx n n hi - HT.sIx n 0 lo)).map (HT.sIx n 0 lo + ·) := by
  have e : Builtin.Str.strSliceIndices lo hi 1 n = sliceRange ((HT.sIx n 0 lo : Nat) : Int) ((HT.sIx n n hi : Nat) : Int) 1 := by
    unfold Builtin.Str.strSliceIndices
    dsimp only
    congr 1
    · cases lo with
      | none => simp [HT.sIx]
      | some i =>
        simp only [HT.sIx, show (1 : Int) > 0 by decide, if_true]
        by_cases h : i < 0
        · simp only [h, if_true]
          omega
        · simp only [h, if_false]
          omega
    · cases hi with
      | none => simp [HT.sIx]
      | some i =>
        simp only [HT.sIx, show (1 : Int) > 0 by decide, if_true]
        by_cases h : i < 0
        · simp only [h, if_true]
          omega
        · simp only [h, if_false]
          omega
  rw [e, sliceRange_one]
theorem cut_made (z : Str) (t : Tok) (l u : Option (Int × Tok)) : (sliceMade z t l u none = .val (.str z t) ∧ cutS z (l.map (·.1)) (u.map (·.1)) = z) ∨ sliceMade z t l u none = .str (cutS z (l.map (·.1)) (u.map (·.1))) := by
  have hp : slicePicked z l u none = (List.range (HT.sIx z.length z.length (u.map (·.1)) - HT.sIx z.length 0 (l.map (·.1)))).map (HT.sIx z.length 0 (l.map (·.1)) + ·) := strIx _ _ _
  have hc : (slicePicked z l u none).filterMap (z.cps[·]?) = (cutS z (l.map (·.1)) (u.map (·.1))).cps.toList := by
    rw [hp, pick_run]
    rfl
  unfold sliceMade
  split
  · rename_i hw
    left
    refine ⟨rfl, ext_cps ?_⟩
    have hlen : (slicePicked z l u none).length = z.length := by simpa using hw
    rw [hp, List.length_map, List.length_range] at hlen
    have h1 := HT.sIx_le z.length 0 (Nat.zero_le _) (l.map (·.1))
    have h2 := HT.sIx_le z.length z.length (Nat.le_refl _) (u.map (·.1))
    have e1 : HT.sIx z.length 0 (l.map (·.1)) = 0 ∨ z.length = 0 := by omega
    show ((z.cps.toList.drop (HT.sIx z.cps.size 0 (l.map (·.1)))).take _).toArray.toList = _
    rw [show z.cps.size = z.length from rfl] at *
    rcases e1 with e1 | e1
    · rw [e1, Nat.sub_zero] at hlen
      rw [e1, hlen, Nat.sub_zero, List.drop_zero, List.toList_toArray]
      exact List.take_of_length_le (by simp [Str.length])
    · have : z.cps.toList = [] := by
        have : z.cps.size = 0 := e1
        simpa using this
      rw [this]
      simp
  · right
    rw [hc]
section
variable {X : Cx}
theorem sl_str : SlR X rSlS := by
  intro pins s σ H x v vl vu lo hi sl Q I rx hs pl pu h
  obtain ⟨z, rfl, hz, q⟩ := h
  obtain ⟨t, rfl⟩ := rx
  refine ⟨"str", _, PySem.F.slot_str_getitem.lookup, typeIs_str _ _ _, ?_⟩
  obtain ⟨l, el, el'⟩ : ∃ l : Option (Int × Tok), vl = partValue l ∧ lo = l.map (·.1) := by
    cases pl with
    | none => exact ⟨none, rfl, rfl⟩
    | int i t => exact ⟨some (i, t), rfl, rfl⟩
  obtain ⟨u, eu, eu'⟩ : ∃ u : Option (Int × Tok), vu = partValue u ∧ hi = u.map (·.1) := by
    cases pu with
    | none => exact ⟨none, rfl, rfl⟩
    | int i t => exact ⟨some (i, t), rfl, rfl⟩
  subst el el' eu eu'
  refine wpAny_getItem_str_slice (l := l) (u := u) (st := none) hs rfl ?_
  rcases cut_made z t l u with ⟨e, e2⟩ | e
  · rw [e]
    rw [e2] at q
    exact ⟨.str z, H, I, ⟨t, rfl⟩, q⟩
  · rw [e]
    refine ⟨?_, .str _, H, I.tok _, ⟨_, rfl⟩, q⟩
    refine Nat.le_trans ?_ hz
    show (List.take _ (List.drop _ z.cps.toList)).toArray.size ≤ z.cps.size
    rw [List.size_toArray, List.length_take, List.length_drop]
    simp
    omega
end
end L2
end

section
set_option Elab.async false
set_option linter.all false
set_option maxRecDepth 100000
set_option maxHeartbeats 4000000
/-! zip and enumerate; comprehensions over pairs. -/
namespace L2
open PySem PySem.Spec PyProof.Rows
theorem b_enumerate : bootBuiltins "enumerate" = some (.type "enumerate") := by decide +kernel

/-- several records of ours have turned, a new tuple stands -/
theorem Inv.turnT {X : Cx} {pins : List (Addr × Obj)} {σ : List (Option V)} {H : Hp} {s : Shared} {h' : Heap} {t' : Nat} {wr : List Addr} {T : Addr} {xs : List V} {us : List Value} (I : Inv X pins σ H s)
    (k : ∀ b o, b ∉ wr → s.heap.get? b = some o → h'.get? b = some o) (hf : ∀ b ∈ wr, FpOk X pins H b) (hT : s.heap.objs.size ≤ T) (hI : h'.IsTuple T us.toArray) (rv : Vals xs us) (hz : xs.length ≤ sizeLine) :
    Inv X pins σ (upd H T (.tup xs)) { s with heap := h', toks := t' } := by
  have hn : H T = none := I.hok.fresh hT
  have nT : ∀ b u, H b = some u → b ≠ T := fun b u e => ne_of_none e hn
  have nW : ∀ b u, H b = some u → b ∉ wr := fun b u e z => by rw [(hf b z).1] at e; cases e
  refine I.step (g' := s.gens) (d' := s.drawn) (ch := wr) (fun b hb => ?_) (fun b o _ _ hc e _ => k b o hc e) (fun b o _ _ hc e _ => ⟨o.slots, k b o hc e⟩) (fun b o hc e n => ?_)
    (fun b o hc e => ⟨o, k b o hc e⟩) (fun b xs e => by rw [upd_ne (nT _ _ e)]; exact e) (fun b o u e => by rw [upd_ne (nT _ _ e)]; exact e) (fun b ps e => ⟨#[], by rw [upd_ne (nT _ _ e), e]; simp⟩) (fun m hm => ?_) (fun b u e => ?_) I.bare
  · obtain ⟨_, f1, _, f3, f4, f5⟩ := hf b hb
    exact ⟨f3, f1, f4, f5⟩
  · rw [upd_ne (Nat.ne_of_lt (Nat.lt_of_lt_of_le (Heap.lt_size e) hT))]
    exact n
  · obtain ⟨o, es, ep, ho, r⟩ := hm
    exact ⟨o, es, ep, k _ o (fun z => (hf _ z).2.1 rfl) ho, r⟩
  · by_cases hb : b = T
    · subst hb
      rw [upd_same] at e
      cases e
      exact ⟨hz, us, rv, hI⟩
    · rw [upd_ne hb] at e
      refine (I.hok b u e).stay (fun c v hc q => k c v ?_ q) (fun c q => by rw [upd_ne (nT _ _ q)]; exact q) fun c ys q => by rw [upd_ne (nT _ _ q)]; exact q
      rcases hc with z | z
      · rw [z]; exact nW b u e
      · exact nW c _ z
/-- .. and no new one -/
theorem Inv.turnW {X : Cx} {pins : List (Addr × Obj)} {σ : List (Option V)} {H : Hp} {s : Shared} {h' : Heap} {t' : Nat} {wr : List Addr} (I : Inv X pins σ H s)
    (k : ∀ b o, b ∉ wr → s.heap.get? b = some o → h'.get? b = some o) (hf : ∀ b ∈ wr, FpOk X pins H b) : Inv X pins σ H { s with heap := h', toks := t' } := by
  have nW : ∀ b u, H b = some u → b ∉ wr := fun b u e z => by rw [(hf b z).1] at e; cases e
  refine I.step (g' := s.gens) (d' := s.drawn) (ch := wr) (fun b hb => ?_) (fun b o _ _ hc e _ => k b o hc e) (fun b o _ _ hc e _ => ⟨o.slots, k b o hc e⟩) (fun b o hc e n => n)
    (fun b o hc e => ⟨o, k b o hc e⟩) (fun _ _ e => e) (fun _ _ _ e => e) (fun b ps e => ⟨#[], by rw [e]; simp⟩) (fun m hm => ?_) (fun b u e => ?_) I.bare
  · obtain ⟨_, f1, _, f3, f4, f5⟩ := hf b hb
    exact ⟨f3, f1, f4, f5⟩
  · obtain ⟨o, es, ep, ho, r⟩ := hm
    exact ⟨o, es, ep, k _ o (fun z => (hf _ z).2.1 rfl) ho, r⟩
  · refine (I.hok b u e).stay (fun c v hc q => k c v ?_ q) (fun _ q => q) fun _ _ q => q
    rcases hc with z | z
    · rw [z]; exact nW b u e
    · exact nW c _ z
theorem le_z2 {n c : Nat} (h : c = n + 1 ∨ c = n) : n ≤ c := by omega
theorem ne_z1 (n : Nat) : n + 1 ≠ n := by omega
section
variable {X : Cx} {elts : List Expr} {k : Nat} {tpos : Pos}
end
section
variable {X : Cx} {elts : List Expr} {k : Nat} {tpos : Pos}
end
end L2
end

section
set_option Elab.async false
set_option linter.all false
set_option maxRecDepth 100000
set_option maxHeartbeats 4000000
/-! Comprehensions over pairs. -/
namespace L2
open PySem PySem.Spec PyProof.Rows
section
variable {X : Cx} {scope : Scope} {N : List Str} {ix : List Nat} {x1 x2 : Str} {px px2 ppos : Pos} {kk : Nat} {elt iter : Expr} {ifs : List Expr} {tc : TT} {te : TE} {pos : Pos}
end
theorem r_gtup2 {K : PySem.W.Frag} {σ : St} {H : Hp} {R : St → Hp → Prop} {a : Addr} {x y : V} {i j : Nat} (hs : SqT K H a [x, y]) (h : R ((σ.set i (some x)).set j (some y)) H) : gTup K 2 (gCons (gName i) (gCons (gName j) gNil)) (.ref a) σ H R :=
  ⟨a, [x, y], rfl, hs, rfl, x, [y], rfl, y, [], rfl, rfl, h⟩
end L2
end

section
set_option Elab.async false
set_option linter.all false
set_option maxRecDepth 100000
set_option maxHeartbeats 4000000
/-! The numbered signs of a text. -/
namespace L2
open PySem PySem.Spec PyProof.Rows
def Ites (z : Str) : It :=
  ⟨fun i _ => i < z.cps.size, fun i H v H' => ∃ t c, H t = none ∧ v = .ref t ∧ z.cps[i]? = some c ∧ H' = upd H t (.tup [.int i, .str (sgn c)]), fun i _ => i = z.cps.size⟩
theorem turn_enumS {P : Program} {w : World} {K : PySem.W.Frag} {elts : List Expr} {k : Nat} {pos : Pos} {e it : Addr} {z : Str} {ty : String} {t : Tok} (hne : e ≠ it)
    (D : ∀ A' : Around, A'.handled = none → Draws P w A' it [it] z.cps.size (fun i v => ∃ c u, z.cps[i]? = some c ∧ v = .str ⟨#[c]⟩ u) (fun i h => h.IsStrIter it ty z t i)) :
    Turn P w K (.Tuple elts k pos) (Ites z) [e, it] e (fun i h => (∃ old, IsEnum h e it i old) ∧ h.IsStrIter it ty z t i) where
  mem := by simp
  obj := fun i h st c hc => by
    obtain ⟨⟨old, he⟩, ⟨o1, e1, c1, d1⟩⟩ := st
    simp only [List.mem_cons, List.not_mem_nil, or_false] at hc
    rcases hc with rfl | rfl
    · exact ⟨_, he, fun v z => by cases z⟩
    · exact ⟨_, e1, fun v z => by rw [d1] at z; cases z⟩
  keep := fun i h h' st kk => by
    obtain ⟨⟨old, he⟩, ⟨o, ho, r⟩⟩ := st
    exact ⟨⟨old, kk _ (by simp) _ he⟩, ⟨o, kk _ (by simp) o ho, r⟩⟩
  item := by
    intro X hP hw hK hc i pins s σ H E I hf st hg
    subst hP hw hK
    have W := WalksT.enumerateD (D X.A.in1 (I.ok.hd hc)) e hne (by simpa using hne) (by simp)
    refine W.item i s _ _ hg st fun T vals h' tk hv hT hTu mid kk => ?_
    obtain ⟨t1, x, ⟨c, u, hc', rfl⟩, rfl⟩ := hv
    have nT := W.apart i T h' mid
    refine ⟨.ref T, rfl, W.go elts k pos i T { s with heap := h', toks := tk } _ _ mid fun h'' st'' kk2 => ?_⟩
    have hTu2 : h''.IsTuple T ([Value.int (i : Int) t1, Value.str ⟨#[c]⟩ u] : List Value).toArray := by
      obtain ⟨o, e, r⟩ := hTu
      exact ⟨o, kk2 T o nT e, r⟩
    have I2 : Inv X pins σ (upd H T (.tup [.int i, .str (sgn c)])) { s with heap := h'', toks := tk } := I.turnT (t' := tk) (fun b o hb e => kk2 b o hb (kk b o hb e)) (fun b hb => hf b hb) hT hTu2 (.cons ⟨t1, rfl⟩ (.cons ⟨u, rfl⟩ .nil)) (show 2 ≤ sizeLine by decide)
    refine ⟨.ref T, _, I2, rfl, ⟨T, c, I.hok.fresh hT, rfl, hc', rfl⟩, st'', fun b hb => ?_⟩
    have hlt : b < s.heap.objs.size := by
      obtain ⟨⟨old, s1⟩, ⟨o5, s5, _⟩⟩ := id st
      simp only [List.mem_cons, List.not_mem_nil, or_false] at hb
      rcases hb with rfl | rfl
      · exact Heap.lt_size s1
      · exact Heap.lt_size s5
    rw [upd_ne (Nat.ne_of_lt (Nat.lt_of_lt_of_le hlt hT))]
    exact (hf b hb).1
  done := by
    intro X hP hw hK hc i pins s σ H E I hf st hg
    subst hP hw hK
    have W := WalksT.enumerateD (D X.A.in1 (I.ok.hd hc)) e hne (by simpa using hne) (by simp)
    have hi : i = z.cps.size := hg
    refine W.done s _ _ (by rw [← hi]; exact st) fun h' tk kk => ⟨rfl, ?_⟩
    exact I.turnW (t' := tk) kk fun b hb => hf b hb
  self := fun _ _ _ _ _ st h => wpAny_pyIter_enum (Classical.choose_spec st.1) h
section
variable {X : Cx} {elts : List Expr} {k : Nat} {tpos : Pos}
def iEnumS (ta : TA) : TI := fun σ H R => ta σ H fun vs H1 => ∃ z, vs = [.str z] ∧ R (Ites z) H1
theorem pi_enumS {a : Expr} {ta : TA} {p pos : Pos} (hg : Gl X "enumerate") (hm : X.mg "enumerate" = none) (ha : PA X [a] ta) (hs : starEach [a] X.env = [(false, eval a X.env)] := by rfl) :
    PI X (.Tuple elts k tpos) (.Call (.Name "enumerate" p) [a] [] pos) (iEnumS ta) := by
  intro pins s σ H R I h
  refine Call_ (ld_blt I hg hm b_enumerate (PyProof.Rows.callWith_type1 (thn (ha pos pins s σ H _ I h) fun us s1 ⟨vs, H1, I1, r1, q1⟩ => ?_) hs rfl))
  obtain ⟨z, e, q⟩ := q1
  subst e
  obtain ⟨u, rfl, ⟨t, rfl⟩⟩ := vals1 r1
  refine call_enumerate_str fun h' g1 g2 hsz kk => ?_
  refine wpAny_pyIter_enum (s := { s1 with heap := h' }) g1 ?_
  have fin : ∀ ty : String, h'.IsStrIter s1.heap.objs.size ty z t 0 → (∀ A' : Around, A'.handled = none → Draws X.prog X.w A' s1.heap.objs.size [s1.heap.objs.size] z.cps.size (fun i v => ∃ c u, z.cps[i]? = some c ∧ v = .str ⟨#[c]⟩ u) (fun i h => h.IsStrIter s1.heap.objs.size ty z t i)) →
      PIE X pins σ (.Tuple elts k tpos) R (.ref (s1.heap.objs.size + 1)) { s1 with heap := h' } := fun ty g2 D => by
    refine ⟨s1.heap.objs.size + 1, [s1.heap.objs.size + 1, s1.heap.objs.size], _, _, H1, rfl, I1.kept (t' := s1.toks) kk, turn_enumS (ne_z1 _) D, ⟨⟨_, g1⟩, g2⟩, fun c hc => ?_, q⟩
    have hle : s1.heap.objs.size ≤ c := by
      simp only [List.mem_cons, List.not_mem_nil, or_false] at hc
      exact le_z2 hc
    exact I1.fpOk hle (I1.hok.fresh hle)
  by_cases ha : z.cps.all (· < 128) = true
  · have e : strIterType z = "str_ascii_iterator" := by unfold strIterType; rw [if_pos ha]
    exact fin _ (e ▸ g2) fun A' hA => Draws.strAscii hA _ z t
  · have e : strIterType z = "str_iterator" := by unfold strIterType; rw [if_neg ha]
    exact fin _ (e ▸ g2) fun A' hA => Draws.strWide hA _ z t
end
theorem r_ienumS {tA : TA} {σ : St} {H : Hp} {R : It → Hp → Prop} (h : tA σ H fun vs H1 => ∃ z, vs = [.str z] ∧ R (Ites z) H1) : iEnumS tA σ H R := h
theorem for_enumS {K : PySem.W.Frag} {z : Str} {i1 i2 : Nat} {tb : TS} {D : Ends} {σ : St} {H : Hp} (Pv : Nat → St → Hp → Prop) (h0 : Pv 0 σ H)
    (step : ∀ i c σ H t, z.cps[i]? = some c → Pv i σ H → H t = none → tb { D with nx := Pv (i + 1), ct := Pv (i + 1), bk := D.nx } ((σ.set i1 (some (.int i))).set i2 (some (.str (sgn c)))) (upd H t (.tup [.int i, .str (sgn c)])))
    (fin : ∀ σ H, Pv z.cps.size σ H → D.nx σ H) : forB (Ites z) (gTup K 2 (gCons (gName i1) (gCons (gName i2) gNil))) tb D σ H := by
  refine ⟨fun i m σ H => i ≤ z.cps.size ∧ m = z.cps.size - i ∧ Pv i σ H, ⟨_, Nat.zero_le _, rfl, h0⟩, ?_⟩
  rintro i m σ H ⟨hi, rfl, hp⟩
  by_cases h : i = z.cps.size
  · exact .inl ⟨h, fin σ H (h ▸ hp)⟩
  · have hlt : i < z.cps.size := Nat.lt_of_le_of_ne hi h
    refine .inr ⟨hlt, Pv (i + 1), fun σ' H' q => ⟨z.cps.size - (i + 1), by omega, hlt, rfl, q⟩, fun v H' hy => ?_⟩
    obtain ⟨t, c, hn, rfl, hx, rfl⟩ := hy
    exact r_gtup2 (SqT.of upd_same) (step i c σ H t hx hp hn)
end L2
end

section
set_option Elab.async false
set_option linter.all false
set_option maxRecDepth 100000
set_option maxHeartbeats 4000000
/-! My own rules behind the layer: objects in one piece, sums, counts, numbers by two, texts turned about. -/
namespace L2
open PySem PySem.Spec PyProof.Rows
section
variable {X : Cx} {k : Nat} {C : Addr} {ps : List Str} {sp : Sp} {name m : Str} {p pos apos : Pos} {e o : Expr} {es : List Expr} {ta : TE} {t : TA} {pl : Sem Bool}
end
section
variable {σ : St} {H : Hp} {D : Ends} {Q : VK} {te ta tv : TE} {tA : TA} {K : PySem.W.Frag}
end
/-! ### str.count -/
section
variable {X : Cx}
end
/-! ### int(text, 2) -/
namespace IB
open PySem.NumText PySem.Calls
def v2 (cs : List Nat) : Nat := cs.foldl (fun a c => a * 2 + (c - 48)) 0
end IB
section
variable {X : Cx}
end
end L2
end

section
set_option Elab.async false
set_option linter.all false
set_option maxRecDepth 100000
set_option maxHeartbeats 4000000
/-! My own rules behind the layer: texts turned about, things of one form compared, list(range(n)). -/
namespace L2
open PySem PySem.Spec PyProof.Rows
section
variable {X : Cx} {e : Expr} {te : TE} {p1 p2 p3 pos : Pos} {j : Nat}
end
/-! ### things of one form -/
inductive SameD (K : PySem.W.Frag) (H : Hp) : Nat → V → V → Prop where
  | flat {n : Nat} {x : V} (h : flatV x = true) : SameD K H n x x
  | tup {n : Nat} {a b : Addr} {xs ys : List V} (h1 : SqT K H a xs) (h2 : SqT K H b ys) (hl : xs.length = ys.length) (h : ∀ (j : Nat) (x y : V), xs[j]? = some x → ys[j]? = some y → SameD K H n x y) : SameD K H (n + 1) (.ref a) (.ref b)
  | lst {n : Nat} {a b : Addr} {xs ys : List V} (h1 : SqL K H a xs) (h2 : SqL K H b ys) (hl : xs.length = ys.length) (h : ∀ (j : Nat) (x y : V), xs[j]? = some x → ys[j]? = some y → SameD K H n x y) : SameD K H (n + 1) (.ref a) (.ref b)
theorem eqV_self {x : V} (h : flatV x = true) : eqV x x = true := by
  cases x <;> first | rfl | (simp [eqV]; done) | cases h
theorem SameD.flats {K : PySem.W.Frag} {H : Hp} {n : Nat} {xs : List V} (h : xs.all flatV = true) : ∀ (j : Nat) (x y : V), xs[j]? = some x → xs[j]? = some y → SameD K H n x y := fun j x y h1 h2 => by
  rw [h1] at h2
  cases h2
  exact .flat (List.all_eq_true.mp h x (List.mem_of_getElem? h1))
theorem SameD.tups {K : PySem.W.Frag} {H : Hp} {n : Nat} {a b : Addr} {xs : List V} (h1 : SqT K H a xs) (h2 : SqT K H b xs) (h : xs.all flatV = true) : SameD K H (n + 1) (.ref a) (.ref b) := .tup h1 h2 rfl (SameD.flats h)
theorem SameD.lsts {K : PySem.W.Frag} {H : Hp} {n : Nat} {a b : Addr} {xs : List V} (h1 : SqL K H a xs) (h2 : SqL K H b xs) (h : xs.all flatV = true) : SameD K H (n + 1) (.ref a) (.ref b) := .lst h1 h2 rfl (SameD.flats h)
theorem flat_ints (ns : List Int) : (ns.map V.int).all flatV = true := by simp [List.all_eq_true, flatV]
section
variable {X : Cx} {pins : List (Addr × Obj)} {σ : St} {H : Hp} {s : Shared}
theorem all_true {n : Nat} {e : Nat → Bool} (h : ∀ j, e j = true) : (List.range n).all e = true := by simp [h]
mutual
theorem SameD.eqAt (I : Inv X pins σ H s) : ∀ {n : Nat} {x y : V} {A : Around} {u v : Value}, A.units + n < cLine → SameD X.K H n x y → RelV x u → RelV y v → SeqAt.EqAt A s u v true
  | _, _, _, A, u, v, hu, .flat h, ru, rv => by
    have := eqAt_V (A := A) (s := s) ru rv h h
    rw [eqV_self h] at this
    exact this
  | n + 1, .ref a, .ref b, A, u, v, hu, .tup (xs := xs) (ys := ys) h1 h2 hl h, ru, rv => by
    cases ru; cases rv
    by_cases hab : a = b
    · subst hab; exact SeqAt.EqAt.same _
    · obtain ⟨is, r1, p1, _⟩ := I.tuple h1
      obtain ⟨js, r2, p2, _⟩ := I.tuple h2
      have l1 := r1.length; have l2 := r2.length
      have := SeqAt.RcAt.tuples (A := A) (e := fun _ => true) p1 p2 (by omega) fun j a1 a2 => SameD.items I (by show A.units + 1 + n < cLine; omega) h r1 r2 j (by simpa using a1) (by simpa using a2)
      refine SeqAt.EqAt.of_refs hab ?_
      rw [all_true fun _ => rfl] at this
      simpa [← l1, ← l2, hl] using this
  | n + 1, .ref a, .ref b, A, u, v, hu, .lst (xs := xs) (ys := ys) h1 h2 hl h, ru, rv => by
    cases ru; cases rv
    by_cases hab : a = b
    · subst hab; exact SeqAt.EqAt.same _
    · obtain ⟨is, r1, p1, _⟩ := I.list h1
      obtain ⟨js, r2, p2, _⟩ := I.list h2
      have l1 := r1.length; have l2 := r2.length
      have := SeqAt.RcAt.lists (A := A) (e := fun _ => true) p1.isList p2.isList (by simp; omega) (by omega) fun j a1 a2 => SameD.items I (by show A.units + 1 + n < cLine; omega) h r1 r2 j (by simpa using a1) (by simpa using a2)
      refine SeqAt.EqAt.of_refs hab ?_
      rw [all_true fun _ => rfl] at this
      exact this
theorem SameD.items (I : Inv X pins σ H s) {n : Nat} {A : Around} {xs ys : List V} {us vs : List Value} (hu : A.units + n < cLine) (h : ∀ (j : Nat) (x y : V), xs[j]? = some x → ys[j]? = some y → SameD X.K H n x y) (r1 : Vals xs us) (r2 : Vals ys vs) (j : Nat) (h1 : j < us.length) (h2 : j < vs.length) :
    SeqAt.EqAt A s us[j] vs[j] true := by
  have l1 := r1.length; have l2 := r2.length
  obtain ⟨x, ex⟩ : ∃ x, xs[j]? = some x := ⟨_, List.getElem?_eq_getElem (by omega)⟩
  obtain ⟨y, ey⟩ : ∃ y, ys[j]? = some y := ⟨_, List.getElem?_eq_getElem (by omega)⟩
  obtain ⟨u, eu, ru⟩ := r1.get ex
  obtain ⟨v, ev, rv⟩ := r2.get ey
  rw [List.getElem?_eq_getElem h1] at eu
  rw [List.getElem?_eq_getElem h2] at ev
  cases eu; cases ev
  exact SameD.eqAt I hu (h j x y ex ey) ru rv
end
end
def rSame (K : PySem.W.Frag) (r : Bool) : R2 := fun x y H Q => ∃ a b, x = .ref a ∧ y = .ref b ∧ SameD K H 60 x y ∧ Q (.bl r) H
section
variable {X : Cx}
theorem op_eqD (hu : X.A.units + 60 < cLine) : OpR X (compareOp .Eq) (rSame X.K true) := by
  intro pins s σ H x y v u Q I rx ry h
  obtain ⟨a, b, rfl, rfl, hs, q⟩ := h
  cases rx; cases ry
  cases hs with
  | flat h => cases h
  | @tup n _ _ xs ys h1 h2 hl h =>
    obtain ⟨is, r1, p1, _⟩ := I.tuple h1
    obtain ⟨js, r2, p2, _⟩ := I.tuple h2
    have l1 := r1.length; have l2 := r2.length
    have := SeqAt.RcAt.tuples (A := X.A) (e := fun _ => true) p1 p2 (by omega) fun j a1 a2 => SameD.items I (by show X.A.units + 1 + 59 < cLine; omega) h r1 r2 j (by simpa using a1) (by simpa using a2)
    rw [all_true fun _ => rfl] at this
    refine this _ _ _ _ ⟨.bl true, H, I, ?_, q⟩
    simp [RelV, ← l1, ← l2, hl]
  | @lst n _ _ xs ys h1 h2 hl h =>
    obtain ⟨is, r1, p1, _⟩ := I.list h1
    obtain ⟨js, r2, p2, _⟩ := I.list h2
    have l1 := r1.length; have l2 := r2.length
    have := SeqAt.RcAt.lists (A := X.A) (e := fun _ => true) p1.isList p2.isList (by simp; omega) (by omega) fun j a1 a2 => SameD.items I (by show X.A.units + 1 + 59 < cLine; omega) h r1 r2 j (by simpa using a1) (by simpa using a2)
    rw [all_true fun _ => rfl] at this
    exact this _ _ _ _ ⟨.bl true, H, I, rfl, q⟩
theorem op_neD (hu : X.A.units + 60 < cLine) : OpR X (compareOp .NotEq) (rSame X.K false) := by
  intro pins s σ H x y v u Q I rx ry h
  obtain ⟨a, b, rfl, rfl, hs, q⟩ := h
  cases rx; cases ry
  cases hs with
  | flat h => cases h
  | @tup n _ _ xs ys h1 h2 hl h =>
    obtain ⟨is, r1, p1, _⟩ := I.tuple h1
    obtain ⟨js, r2, p2, _⟩ := I.tuple h2
    have l1 := r1.length; have l2 := r2.length
    have := SeqAt.RcNeAt.tuples (A := X.A) (e := fun _ => true) p1 p2 (by omega) fun j a1 a2 => SameD.items I (by show X.A.units + 1 + 59 < cLine; omega) h r1 r2 j (by simpa using a1) (by simpa using a2)
    rw [all_true fun _ => rfl] at this
    refine this _ _ _ _ ⟨.bl false, H, I, ?_, q⟩
    simp [RelV, ← l1, ← l2, hl]
  | @lst n _ _ xs ys h1 h2 hl h =>
    obtain ⟨is, r1, p1, _⟩ := I.list h1
    obtain ⟨js, r2, p2, _⟩ := I.list h2
    have l1 := r1.length; have l2 := r2.length
    have := SeqAt.RcNeAt.lists (A := X.A) (e := fun _ => true) p1.isList p2.isList (by simp; omega) (by omega) fun j a1 a2 => SameD.items I (by show X.A.units + 1 + 59 < cLine; omega) h r1 r2 j (by simpa using a1) (by simpa using a2)
    rw [all_true fun _ => rfl] at this
    exact this _ _ _ _ ⟨.bl false, H, I, rfl, q⟩
end
theorem r_same {K : PySem.W.Frag} {H : Hp} {Q : VK} {a b : Addr} {r : Bool} (h : SameD K H 60 (.ref a) (.ref b)) (q : Q (.bl r) H) : rSame K r (.ref a) (.ref b) H Q := ⟨a, b, rfl, rfl, h, q⟩
theorem hu60 {A : Around} {k : Nat} (hr : Room k A) : A.units + 60 < cLine := by have := hr.units; omega
end L2
end

section
set_option Elab.async false
set_option linter.all false
set_option maxRecDepth 100000
set_option maxHeartbeats 4000000
/-! Lists of flat things compared. -/
namespace L2
open PySem PySem.Spec PyProof.Rows
def eqL (xs ys : List V) : Bool := decide (xs.length = ys.length) && (List.range xs.length).all fun j => eqV (xs.getD j .non) (ys.getD j .non)
def rEqL (K : PySem.W.Frag) (n : Bool) : R2 := fun x y H Q => ∃ a b xs ys, x = .ref a ∧ y = .ref b ∧ SqL K H a xs ∧ SqL K H b ys ∧ xs.all flatV = true ∧ ys.all flatV = true ∧ Q (.bl (n != eqL xs ys)) H
section
variable {X : Cx} {pins : List (Addr × Obj)} {σ : St} {H : Hp} {s : Shared}
theorem eqL_items {A : Around} {xs ys : List V} {us vs : List Value} (f1 : xs.all flatV = true) (f2 : ys.all flatV = true) (r1 : Vals xs us) (r2 : Vals ys vs) (j : Nat) (h1 : j < us.length) (h2 : j < vs.length) :
    SeqAt.EqAt A s us[j] vs[j] (eqV (xs.getD j .non) (ys.getD j .non)) := by
  have l1 := r1.length; have l2 := r2.length
  have e1 : xs[j]? = some (xs[j]'(by omega)) := List.getElem?_eq_getElem _
  have e2 : ys[j]? = some (ys[j]'(by omega)) := List.getElem?_eq_getElem _
  obtain ⟨u, eu, ru⟩ := r1.get e1
  obtain ⟨v, ev, rv⟩ := r2.get e2
  rw [List.getElem?_eq_getElem h1] at eu
  rw [List.getElem?_eq_getElem h2] at ev
  cases eu; cases ev
  simp only [List.getD, e1, e2, Option.getD_some]
  exact eqAt_V ru rv (List.all_eq_true.mp f1 _ (List.mem_of_getElem? e1)) (List.all_eq_true.mp f2 _ (List.mem_of_getElem? e2))
end
section
variable {X : Cx}
theorem op_eqL (hu : X.A.units + 60 < cLine) : OpR X (compareOp .Eq) (rEqL X.K false) := by
  intro pins s σ H x y v u Q I rx ry h
  obtain ⟨a, b, xs, ys, rfl, rfl, h1, h2, f1, f2, q⟩ := h
  cases rx; cases ry
  obtain ⟨is, r1, p1, _⟩ := I.list h1
  obtain ⟨js, r2, p2, _⟩ := I.list h2
  have l1 := r1.length; have l2 := r2.length
  by_cases hl : xs.length = ys.length
  · have := SeqAt.RcAt.lists (A := X.A) (e := fun j => eqV (xs.getD j .non) (ys.getD j .non)) p1.isList p2.isList (by simp; omega) (by omega) fun j a1 a2 => eqL_items (s := s) f1 f2 r1 r2 j (by simpa using a1) (by simpa using a2)
    refine this _ _ _ _ ⟨.bl (false != eqL xs ys), H, I, ?_, q⟩
    unfold eqL
    rw [decide_eq_true hl]
    simp [RelV, ← l1]
  · have := SeqAt.RcAt.lists_lengths (A := X.A) p1.isList p2.isList (by simp; omega) (by omega)
    refine this _ _ _ _ ⟨.bl (false != eqL xs ys), H, I, ?_, q⟩
    unfold eqL
    rw [decide_eq_false hl]
    simp [RelV]
theorem op_neL (hu : X.A.units + 60 < cLine) : OpR X (compareOp .NotEq) (rEqL X.K true) := by
  intro pins s σ H x y v u Q I rx ry h
  obtain ⟨a, b, xs, ys, rfl, rfl, h1, h2, f1, f2, q⟩ := h
  cases rx; cases ry
  obtain ⟨is, r1, p1, _⟩ := I.list h1
  obtain ⟨js, r2, p2, _⟩ := I.list h2
  have l1 := r1.length; have l2 := r2.length
  by_cases hl : xs.length = ys.length
  · have := SeqAt.RcNeAt.lists (A := X.A) (e := fun j => eqV (xs.getD j .non) (ys.getD j .non)) p1.isList p2.isList (by simp; omega) (by omega) fun j a1 a2 => eqL_items (s := s) f1 f2 r1 r2 j (by simpa using a1) (by simpa using a2)
    refine this _ _ _ _ ⟨.bl (true != eqL xs ys), H, I, ?_, q⟩
    unfold eqL
    rw [decide_eq_true hl]
    simp [RelV, ← l1]
  · have := SeqAt.RcNeAt.lists_lengths (A := X.A) p1.isList p2.isList (by simp; omega) (by omega)
    refine this _ _ _ _ ⟨.bl (true != eqL xs ys), H, I, ?_, q⟩
    unfold eqL
    rw [decide_eq_false hl]
    simp [RelV]
end
theorem eqL_ints (ns ms : List Int) : eqL (ns.map V.int) (ms.map V.int) = decide (ns = ms) := by
  unfold eqL
  rw [List.length_map, List.length_map]
  by_cases hl : ns.length = ms.length
  · rw [decide_eq_true hl, Bool.true_and]
    by_cases h : ns = ms
    · subst h
      rw [decide_eq_true rfl, List.all_eq_true]
      intro j hj
      have hj : j < ns.length := List.mem_range.mp hj
      simp [List.getD, hj, eqV]
    · rw [decide_eq_false h]
      refine Bool.eq_false_iff.mpr fun hc => h (List.ext_getElem hl fun j h1 h2 => ?_)
      have := List.all_eq_true.mp hc j (List.mem_range.mpr h1)
      simp [List.getD, h1, h2, eqV] at this
      exact this
  · rw [decide_eq_false hl, Bool.false_and, decide_eq_false]
    intro e
    exact hl (by rw [e])
theorem r_eqI {K : PySem.W.Frag} {H : Hp} {Q : VK} {a b : Addr} {ns ms : List Int} (h1 : SqL K H a (ns.map V.int)) (h2 : SqL K H b (ms.map V.int)) (q : Q (.bl (decide (ns = ms))) H) : rEqL K false (.ref a) (.ref b) H Q := by
  refine ⟨a, b, _, _, rfl, rfl, h1, h2, flat_ints _, flat_ints _, ?_⟩
  rw [eqL_ints]
  cases hd : decide (ns = ms) <;> (rw [hd] at q; exact q)
theorem r_neI {K : PySem.W.Frag} {H : Hp} {Q : VK} {a b : Addr} {ns ms : List Int} (h1 : SqL K H a (ns.map V.int)) (h2 : SqL K H b (ms.map V.int)) (q : Q (.bl (!decide (ns = ms))) H) : rEqL K true (.ref a) (.ref b) H Q := by
  refine ⟨a, b, _, _, rfl, rfl, h1, h2, flat_ints _, flat_ints _, ?_⟩
  rw [eqL_ints]
  cases hd : decide (ns = ms) <;> (rw [hd] at q; exact q)
end L2
end

section
set_option Elab.async false
set_option linter.all false
set_option maxRecDepth 100000
set_option maxHeartbeats 4000000
/-! range downwards; list.index of ints. -/
namespace L2
open PySem PySem.Spec PyProof.Rows
section
variable {X : Cx} {tg : Expr}
end
end L2
end

section
set_option Elab.async false
set_option linter.all false
set_option maxRecDepth 100000
set_option maxHeartbeats 4000000
/-! sorted of fewer than 64 texts. -/
namespace L2
open PySem PySem.Spec PyProof.Rows
section
variable {X : Cx}
end
end L2
end

section
set_option Elab.async false
set_option linter.all false
set_option maxRecDepth 100000
set_option maxHeartbeats 4000000
/-! My own rules behind the layer: any slice of a tuple, ints of the top, small readings. -/
namespace L2
open PySem PySem.Spec PyProof.Rows
section
variable {prog : Program} {w : World} {A : Around} {E : Value → Shared → Prop} {s : Shared}
end
section
variable {X : Cx}
theorem pe_globI {x : Str} {i : Int} {pos : Pos} (hg : Gl X x) (hm : ∃ t, X.mg x = some (.int i t)) (hd : (x == ("__debug__" : Str)) = false := by decide) : PE X (.Name x pos) (tC (.int i)) := by
  obtain ⟨t, h⟩ := hm
  exact pe_glob hg h ⟨t, rfl⟩ hd
end
section
variable {σ : St} {H : Hp} {D : Ends} {Q : VK} {te : TE} {QB : Bool → Hp → Prop} {tA : TA}
theorem r_bm0 {K : PySem.W.Frag} {T : String} {r : V → List V → Hp → VK → Prop} (h : te σ H fun x H1 => tyV K T x H1 ∧ r x [] H1 Q) : tBM0 K T r te σ H Q := h
theorem r_slS {z : Str} {lo hi : Option Int} (h1 : z.length ≤ sizeLine) (h : Q (.str (cutS z lo hi)) H) : rSlS (.str z) lo hi H Q := ⟨z, rfl, h1, h⟩
end
theorem iteNT {A B : Prop} (h : B) : if (!true) = true then A else B := by
  rw [if_neg (by decide)]
  exact h
theorem iteNF {A B : Prop} (h : A) : if (!false) = true then A else B := by
  rw [if_pos (by decide)]
  exact h
end L2
end

section
set_option Elab.async false
set_option linter.all false
set_option maxRecDepth 100000
set_option maxHeartbeats 4000000
/-! Comprehensions whose items are new things. -/
namespace L2
open PySem PySem.Spec PyProof.Rows
end L2
end

section
set_option Elab.async false
set_option linter.all false
set_option maxRecDepth 100000
set_option maxHeartbeats 4000000
/-! min and max of a list of ints, with and without a default; abs. -/
namespace L2
open PySem PySem.Spec PyProof.Rows
theorem b_abs : bootBuiltins "abs" = some (.builtin "abs") := by decide +kernel
section
variable {X : Cx}
end
/-! ### with a default -/
section
variable {prog : Program} {w : World} {A : Around} {R : Result → Shared → Prop} {I S : Addr} {fp wr : List Addr} {n : Nat} {P : Nat → Value → Prop} {St : Nat → Heap → Prop} {d : Value}
end
section
variable {prog : Program} {w : World} {A : Around} {E : Value → Shared → Prop} {s : Shared}
end
section
variable {X : Cx} {x : Str} {p pos : Pos} {e : Expr} {es : List Expr} {kws : List Keyword} {t tk : TA} {id : String} {ks : List Str}
end
end L2
namespace L2
open PySem PySem.Spec PyProof.Rows
/-- a loop along a text -/
theorem for_str {z : Str} {g : TG} {tb : TS} {D : Ends} {σ : St} {H : Hp} (Pv : Nat → St → Hp → Prop) (h0 : Pv 0 σ H)
    (hs : ∀ (i c : Nat) σ H, z.cps[i]? = some c → Pv i σ H → g (.str (sgn c)) σ H fun σ2 H2 => tb { D with nx := Pv (i + 1), ct := Pv (i + 1), bk := D.nx } σ2 H2) (hd : ∀ σ H, Pv z.cps.size σ H → D.nx σ H) : forB (Its z) g tb D σ H := by
  refine ⟨fun i m σ H => i ≤ z.cps.size ∧ m = z.cps.size - i ∧ Pv i σ H, ⟨_, Nat.zero_le _, rfl, h0⟩, ?_⟩
  rintro i m σ H ⟨hi, rfl, hP⟩
  by_cases h : i = z.cps.size
  · subst h
    exact .inl ⟨Nat.le_refl _, hd σ H hP⟩
  · have hlt : i < z.cps.size := Nat.lt_of_le_of_ne hi h
    refine .inr ⟨hlt, Pv (i + 1), fun σ' H' hN => ⟨z.cps.size - (i + 1), by omega, hlt, rfl, hN⟩, fun x H' hy => ?_⟩
    obtain ⟨rfl, c, hc, rfl⟩ := hy
    exact hs i c σ _ hc hP
end L2
end

section
set_option Elab.async false
set_option linter.all false
set_option maxRecDepth 100000
set_option maxHeartbeats 4000000
/-! What flies keeps its dict. -/
namespace L2
open PySem PySem.Spec PyProof.Rows
/-- a tree that calls nothing and changes no object's dict -/
def Kd {α : Type} : Sem α → Prop
  | .pure _ => True
  | .raise _ => True
  | .unsupported _ => True
  | .finish _ => True
  | .rule _ k => Kd (k ())
  | .at _ k => Kd (k ())
  | .load _ _ k => ∀ o, Kd (k o)
  | .update _ _ f k => (∀ o, (f o).dict = o.dict ∧ (f o).isFreed = o.isFreed) ∧ Kd (k ())
  | .alloc _ k => ∀ a, Kd (k a)
  | .loadIfAlive _ k => ∀ o, Kd (k o)
  | .point _ k => Kd (k ())
  | .fresh k => ∀ t, Kd (k t)
  | .ask k => ∀ x, Kd (k x)
  | .stack k => ∀ x, Kd (k x)
  | .handled _ k => ∀ x, Kd (k x)
  | .thread k => ∀ x, Kd (k x)
  | _ => False
theorem Kd.bind {α β : Type} {m : Sem α} {f : α → Sem β} (h : Kd m) (hf : ∀ a, Kd (f a)) : Kd (m >>= f) := by
  show Kd (m.bind f)
  induction m <;> first | exact hf _ | exact h.elim | exact trivial | skip
  all_goals (rename_i ih; first | exact ih _ h | exact fun o => ih o (h o) | exact ⟨h.1, ih _ h.2⟩)
def DictK (h h' : Heap) : Prop := ∀ b o, h.get? b = some o → ∃ o', h'.get? b = some o' ∧ o'.dict = o.dict
theorem DictK.refl (h : Heap) : DictK h h := fun _ o e => ⟨o, e, rfl⟩
theorem DictK.trans {h1 h2 h3 : Heap} (a : DictK h1 h2) (b : DictK h2 h3) : DictK h1 h3 := fun x o e => by
  obtain ⟨o1, e1, d1⟩ := a x o e
  obtain ⟨o2, e2, d2⟩ := b x o1 e1
  exact ⟨o2, e2, d2.trans d1⟩
theorem dictK_push (h : Heap) (o : Obj) : DictK h (h.push o) := fun _ u e => ⟨u, Heap.get?_push_of_some _ e, rfl⟩
theorem dictK_upd {h : Heap} {a : Addr} {f : Obj → Obj} (hf : ∀ o, (f o).dict = o.dict ∧ (f o).isFreed = o.isFreed) : DictK h (h.update a f) := fun b o e => by
  by_cases hb : b = a
  · subst hb
    have fr := (Heap.get?_some_iff.mp e).2
    exact ⟨f o, Heap.get?_update_self f e (by rw [(hf o).2]; exact fr), (hf o).1⟩
  · exact ⟨o, (Heap.get?_update_other _ _ (Ne.symm hb)).trans e, rfl⟩
theorem kd_wp {α : Type} {M : Model} {Γ : PySem.Ctx} {m : Sem α} : ∀ {Q : α → Pos → Shared → Prop} {E : Value → Pos → Shared → Prop} {p : Pos} {s : Shared}, Kd m → Sem.wp M Γ m Q E p s → Sem.wp M Γ m (fun a p' s' => Q a p' s' ∧ DictK s.heap s'.heap) E p s := by
  induction m with
  | pure x => exact fun _ h => ⟨h, DictK.refl _⟩
  | raise v => exact fun _ h => h
  | unsupported => exact fun _ h => h
  | finish => exact fun _ h => h
  | rule _ k ih => exact fun q h => ih _ q h
  | «at» _ k ih => exact fun q h => ih _ q h
  | load a _ k ih =>
    intro Q E p s q h
    obtain ⟨o, ho, h⟩ := h
    exact ⟨o, ho, ih o (q o) h⟩
  | update a _ f k ih =>
    intro Q E p s q h
    obtain ⟨ha, h⟩ := h
    exact ⟨ha, Sem.wp_mono _ _ _ (fun _ _ _ z => ⟨z.1, (dictK_upd q.1).trans z.2⟩) (fun _ _ _ z => z) _ _ (ih _ q.2 h)⟩
  | alloc o k ih =>
    intro Q E p s q h
    exact Sem.wp_mono _ _ _ (fun _ _ _ z => ⟨z.1, (dictK_push _ o).trans z.2⟩) (fun _ _ _ z => z) _ _ (ih _ (q _) h)
  | loadIfAlive _ k ih => exact fun q h => ih _ (q _) h
  | point _ k ih => exact fun q h => ih _ q h
  | fresh k ih => exact fun q h => ih _ (q _) h
  | ask k ih => exact fun q h => ih _ (q _) h
  | stack k ih => exact fun q h => ih _ (q _) h
  | handled _ k ih => exact fun q h => ih _ (q _) h
  | thread k ih => exact fun q h => ih _ (q _) h
  | _ => exact fun q => q.elim
theorem kd_any {α : Type} {M : Model} {A : Around} {m : Sem α} {Q : α → Shared → Prop} {E : Value → Shared → Prop} {s : Shared} (q : Kd m) (h : wpAny M A m Q E s) : wpAny M A m (fun a s' => Q a s' ∧ DictK s.heap s'.heap) E s := fun Γ p hΓ => kd_wp q (h Γ p hΓ)
theorem kd_load (a : Addr) : Kd (load a) := fun _ => trivial
theorem kd_fieldsOf (v : Value) : Kd (fieldsOf v) := by
  unfold fieldsOf
  split
  · exact Kd.bind (kd_load _) fun o => by split <;> exact trivial
  · exact trivial
theorem kd_field (v : Value) (i : Nat) : Kd (field v i) := Kd.bind (kd_fieldsOf v) fun a => by split <;> exact trivial
theorem kd_mapF (f : Array Value → Array Value) (o : Obj) : (Obj.mapFields f o).dict = o.dict ∧ (Obj.mapFields f o).isFreed = o.isFreed := by
  obtain ⟨c, d, dt, sl⟩ := o
  cases dt <;> exact ⟨rfl, rfl⟩
theorem kd_setField (v : Value) (i : Nat) (x : Value) : Kd (setField v i x) := by
  unfold setField
  split
  · unfold updateField
    refine Kd.bind (kd_load _) fun o => ?_
    split
    · split
      · exact ⟨kd_mapF _, trivial⟩
      · exact trivial
    · exact trivial
  · exact trivial
theorem kd_setFlight (e : Value) (f : Option Addr) : Kd (setFlight e f) := by
  unfold setFlight
  refine Kd.bind (kd_field _ _) fun tb => ?_
  split
  · exact kd_setField _ _ _
  · exact trivial
theorem kd_ready : ∀ l : List Env, Kd (readyFrames l)
  | [] => trivial
  | env :: outer => by
    unfold readyFrames
    split
    · rename_i f hf
      refine Kd.bind (kd_load _) fun o => ?_
      split
      · exact trivial
      · refine Kd.bind ?_ fun i => Kd.bind ?_ fun b => ⟨fun o => ?_, kd_ready outer⟩
        · unfold behindIsImport
          split
          · exact trivial
          · split
            · exact trivial
            · exact Kd.bind (kd_field _ _) fun _ => trivial
        · unfold keptBack
          split
          · split
            · exact trivial
            · refine Kd.bind ?_ fun _ => trivial
              unfold underTheClaimsCaller
              exact fun _ => trivial
          · exact trivial
        · obtain ⟨c, d, dt, sl⟩ := o
          cases dt <;> exact ⟨rfl, rfl⟩
    · exact trivial
theorem kd_frameOf (env : Env) : Kd (PySem.frameOf env) := by
  unfold PySem.frameOf
  refine Kd.bind (fun _ => trivial) fun l => Kd.bind ?_ fun o => ?_
  · unfold frameObject
    split
    · exact trivial
    · exact Kd.bind (kd_ready _) fun _ => trivial
  · split <;> exact trivial
theorem kd_place (f : Addr) (b : Bool) : Kd (entryPlaceOf f b) := by
  unfold entryPlaceOf
  refine Kd.bind (fun _ => trivial) fun l => ?_
  split <;> exact trivial
theorem kd_entry (a b c d e : Value) (l : List Value) : Kd (EntryCells.newEntry a b c d e l) := by
  unfold EntryCells.newEntry newFields
  generalize ([a, b, c, d, e] ++ if l.isEmpty = true then List.replicate 6 Value.none else l).toArray = vs
  unfold newObj
  dsimp only
  have as_is : Kd (newObjAsIs (.type "traceback") (.fields vs) none) := Kd.bind (m := alloc _) (fun _ => trivial) fun _ => trivial
  split
  · exact Kd.bind (m := unsupported _) trivial fun _ => as_is
  · exact as_is
theorem kd_note (e : Value) (env : Env) : Kd (noteFrame e env) := by
  unfold noteFrame
  have jp : ∀ (f : Addr) (head : Value), Kd (do
      let a ← PySem.frameOf env
      let b ← entryPlaceOf f (head != Value.none)
      let c ← EntryCells.newEntry head a Value.none (rawInt ↑f) Value.none b
      setField e 1 c) := fun f head => Kd.bind (kd_frameOf _) fun _ => Kd.bind (kd_place _ _) fun _ => Kd.bind (kd_entry _ _ _ _ _ _) fun _ => kd_setField _ _ _
  split
  · refine Kd.bind (kd_field _ _) fun head => ?_
    dsimp only
    split
    · refine Kd.bind (kd_field _ _) fun v => ?_
      split
      · exact trivial
      · exact Kd.bind (kd_setField _ _ _) fun _ => jp _ _
    · exact jp _ _
  · exact trivial
theorem kd_leaving (e : Value) (env : Env) : Kd (leaving env e) := Kd.bind (kd_note _ _) fun _ => kd_setFlight _ _
end L2
end

section
set_option Elab.async false
set_option linter.all false
set_option maxRecDepth 100000
set_option maxHeartbeats 4000000
/-! Exceptions that carry their dict: raised, passed on, caught. -/
namespace L2
open PySem PySem.Spec PyProof.Rows
/-! ### flights with the dict -/
def FlyD (B : Heap) (l : List Env) (e : Addr) (cls a0 : Value) (od : Option Addr) (h : Heap) : Prop := Heap.FlyingW B l e cls a0 h ∧ ∃ o, h.get? e = some o ∧ o.dict = od
def HeldD (B : Heap) (l : List Env) (e : Addr) (cls a0 : Value) (od : Option Addr) (L : Addr) (h : Heap) : Prop := Heap.HeldW B l e cls a0 L h ∧ ∃ o, h.get? e = some o ∧ o.dict = od
theorem FlyD.first {B h : Heap} {l : List Env} {e : Addr} {cls a0 : Value} {od : Option Addr} (x : FlyD B l e cls a0 od h) : ∃ oe vs, h.get? e = some oe ∧ oe.cls = cls ∧ oe.data = .fields vs ∧ oe.dict = od := by
  obtain ⟨f, o, ho, hd⟩ := x
  obtain ⟨oe, vs, he, hc, hv, _⟩ := f.first
  rw [ho] at he
  cases he
  exact ⟨o, vs, ho, hc, hv, hd⟩
section
variable {M : Model} {A : Around} {E : Value → Shared → Prop} {s : Shared} {B : Heap} {env : Env} {outer l : List Env} {L e : Addr} {cls a0 : Value} {od : Option Addr} {Q : Unit → Shared → Prop}
theorem dict_on {h h' : Heap} (k : DictK h h') (x : ∃ o, h.get? e = some o ∧ o.dict = od) : ∃ o, h'.get? e = some o ∧ o.dict = od := by
  obtain ⟨o, ho, hd⟩ := x
  obtain ⟨o2, ho2, hd2⟩ := k e o ho
  exact ⟨o2, ho2, hd2.trans hd⟩
theorem leaves_onD (hfr : A.frames = some (env :: outer)) (hf : env.frame = some L) (fl : FlyD B (env :: outer) e cls a0 od s.heap) (q : ∀ h', FlyD B outer e cls a0 od h' → s.heap.UpToSlots h' → Q () { s with heap := h' }) : wpAny M A (leaving env (.ref e)) Q E s := by
  refine wpAny_mono (kd_any (kd_leaving _ _) (wpAny_leaves_onW (Q := fun _ s' => ∃ h', s' = { s with heap := h' } ∧ Heap.FlyingW B outer e cls a0 h' ∧ s.heap.UpToSlots h') hfr hf fl.1 fun h' f u => ⟨h', rfl, f, u⟩)) (fun _ s' z => ?_) fun _ _ z => z
  obtain ⟨⟨h', rfl, f, u⟩, k⟩ := z
  exact q h' ⟨f, dict_on k fl.2⟩ u
theorem looks_onD (hfr : A.frames = some (env :: outer)) (hf : env.frame = some L) (fl : FlyD B (env :: outer) e cls a0 od s.heap) (q : ∀ h', HeldD B (env :: outer) e cls a0 od L h' → s.heap.UpToSlots h' → Q () { s with heap := h' }) : wpAny M A (noteFrame (.ref e) env) Q E s := by
  refine wpAny_mono (kd_any (kd_note _ _) (wpAny_looks_onW (Q := fun _ s' => ∃ h', s' = { s with heap := h' } ∧ Heap.HeldW B (env :: outer) e cls a0 L h' ∧ s.heap.UpToSlots h') hfr hf fl.1 fun h' f u => ⟨h', rfl, f, u⟩)) (fun _ s' z => ?_) fun _ _ z => z
  obtain ⟨⟨h', rfl, f, u⟩, k⟩ := z
  exact q h' ⟨f, dict_on k fl.2⟩ u
theorem landsD (hh : HeldD B l e cls a0 od L s.heap) (q : ∀ h', FlyD B l e cls a0 od h' → s.heap.UpToSlots h' → Q () { s with heap := h' }) : wpAny M A (setFlight (.ref e) none) Q E s := by
  refine wpAny_mono (kd_any (kd_setFlight _ _) (wpAny_landsW (Q := fun _ s' => ∃ h', s' = { s with heap := h' } ∧ Heap.FlyingW B l e cls a0 h' ∧ s.heap.UpToSlots h') hh.1 fun h' f u => ⟨h', rfl, f, u⟩)) (fun _ s' z => ?_) fun _ _ z => z
  obtain ⟨⟨h', rfl, f, u⟩, k⟩ := z
  exact q h' ⟨f, dict_on k hh.2⟩ u
theorem againD (fl : FlyD B l e cls a0 od s.heap) (q : ∀ h', FlyD B l e cls a0 od h' → s.heap.UpToSlots h' → Q () { s with heap := h' }) : wpAny M A (setFlight (.ref e) none) Q E s := by
  refine wpAny_mono (kd_any (kd_setFlight _ _) (lands_againW (Q := fun _ s' => ∃ h', s' = { s with heap := h' } ∧ Heap.FlyingW B l e cls a0 h' ∧ s.heap.UpToSlots h') fl.1 fun h' f u => ⟨h', rfl, f, u⟩)) (fun _ s' z => ?_) fun _ _ z => z
  obtain ⟨⟨h', rfl, f, u⟩, k⟩ := z
  exact q h' ⟨f, dict_on k fl.2⟩ u
end
end L2
namespace L2
open PySem PySem.Spec PyProof.Rows
/-- an exception of a class of the text lies behind a call: e is new, so is all that is neither kept in B, nor a frame; B stays -/
structure Flies (outer : List Env) (H' : Hp) (h h' : Heap) (e C : Addr) (od : Option Addr) : Prop where
  new : h.get? e = none
  unt : H' e = none
  fly : ∃ a0 B, FlyD B outer e (.ref C) a0 od h' ∧ ∀ b o, h'.get? b = some o → B.get? b = none → b = e ∨ b ∈ frs outer ∨ (h.get? b = none ∧ H' b = none)
theorem ObjOk.there {P : Program} {w : World} {H : Hp} {h : Heap} {a : Addr} {o : HO} (x : ObjOk P w H h a o) : ∃ ob, h.get? a = some ob := by
  cases o with
  | lst xs => obtain ⟨_, _, _, _, e⟩ := x; exact ⟨_, e⟩
  | tup xs => obtain ⟨_, _, _, o, e, _⟩ := x; exact ⟨_, e⟩
  | dK kvs => obtain ⟨_, _, _, _, o, _, _, e, _⟩ := x; exact ⟨_, e⟩
  | dT kvs => obtain ⟨_, _, _, _, o, _, _, e, _⟩ := x; exact ⟨_, e⟩
  | set S n => obtain ⟨o, _, _, _, e, _⟩ := x; exact ⟨_, e⟩
  | ins C dx fs => obtain ⟨_, _, _, e, _⟩ := x; exact ⟨_, e⟩
  | own y => exact x
  | xd fs => obtain ⟨_, ⟨_, _, _, e, _⟩, _⟩ := x; exact ⟨_, e⟩
  | rng lo hi => obtain ⟨_, _, _, e⟩ := x; exact ⟨_, e⟩
  | frz ob u => obtain ⟨e, _⟩ := x; exact ⟨_, e⟩
  | tbl ps => exact ⟨_, (show h.get? a = some _ from x)⟩
  | met f y => exact ⟨_, (show h.get? a = some _ from x)⟩
  | ext φ => obtain ⟨_, e, _⟩ := x; exact e
def CXE (P : Program) (w : World) : CXT := fun outer H s E ex s' => ∃ e C od H', ex = .ref e ∧ s'.os = s.os ∧ AllBare s'.gens ∧ Un (frs outer) [] H H' s.heap s'.heap ∧ HOk P w H' s'.heap ∧ (∀ b ∈ frs outer, H' b = none) ∧ Flies outer H' s.heap s'.heap e C od ∧ E (.ref C) od H'
/-- what changes the frames' slots, the exception and new untracked things alone keeps the heap's promise -/
theorem hok_fly {P : Program} {w : World} {H : Hp} {h h' : Heap} {B : Heap} {outer : List Env} {e : Addr} {n : Heap} (ok : HOk P w H h) (st : B.StaysIn h') (he : H e = none) (hf : ∀ b ∈ frs outer, H b = none)
    (hB : ∀ b o, h.get? b = some o → B.get? b = none → b = e ∨ b ∈ frs outer ∨ (n.get? b = none ∧ H b = none)) (hBh : ∀ b o, B.get? b = some o → h.get? b = some o) : HOk P w H h' := fun a u ea => by
  have tr : ∀ b v, H b = some v → ∀ o, h.get? b = some o → h'.get? b = some o := fun b v ev o eo => by
    cases q : B.get? b with
    | some o' =>
      have := hBh b o' q
      rw [eo] at this
      cases this
      exact st b o q
    | none =>
      rcases hB b o eo q with z | z | z
      · rw [z, he] at ev; cases ev
      · rw [hf b z] at ev; cases ev
      · rw [z.2] at ev; cases ev
  refine (ok a u ea).stay (fun b o hb q => ?_) (fun _ q => q) fun _ _ q => q
  rcases hb with z | z
  · subst z; exact tr b u ea o q
  · exact tr b _ z o q
section
variable {P : Program} {w : World} {K : PySem.W.Frag} {mg : Str → Option Value} {base : Heap} {N : List Str} {qual : Str} {scope : Scope} {f : Addr} {cd : Value} {A : Around} {outer : List Env} {s₀ : Shared} {H₀ : Hp} {E : XK}
/-- out of a def's frame -/
theorem fly_out {pins : List (Addr × Obj)} {σ : St} {H H' : Hp} {s : Shared} {e C : Addr} {od : Option Addr} {a0 : Value} {B h1 h2 : Heap} {g : Array GenState} {d : Drawn} {t : Nat} {CX : CXT} (I : Inv (cxOf CX P w K mg base N qual scope f cd A outer s₀ H₀ E) pins σ H s)
    (un : Un (frs (cxOf CX P w K mg base N qual scope f cd A outer s₀ H₀ E).stack) [] H H' s.heap h1) (hok : HOk P w H' h1) (hfr : ∀ b ∈ frs (cxOf CX P w K mg base N qual scope f cd A outer s₀ H₀ E).stack, H' b = none) (hg : AllBare g)
    (hn : s.heap.get? e = none) (hu : H' e = none) (hB : ∀ b o, h1.get? b = some o → B.get? b = none → b = e ∨ b ∈ frs (cxOf CX P w K mg base N qual scope f cd A outer s₀ H₀ E).stack ∨ (s.heap.get? b = none ∧ H' b = none)) (hBh : B.StaysIn h1)
    (fl : FlyD B outer e (.ref C) a0 od h2) (up : h1.UpToSlots h2) (q : E (.ref C) od H') : CXE P w outer H₀ s₀ E (.ref e) { s with heap := h2, gens := g, drawn := d, toks := t } := by
  have hBst : B.StaysIn h2 := fl.1.1
  have st : ∀ b, b ∈ frs (cxOf CX P w K mg base N qual scope f cd A outer s₀ H₀ E).stack → b = s₀.heap.objs.size ∨ b ∈ frs outer := fun b hb => by
    rcases List.mem_cons.mp (I.stkSub b hb) with z | z
    · exact .inl z
    · exact .inr z
  have so : ∀ b, b ∈ frs outer → b ∈ frs (cxOf CX P w K mg base N qual scope f cd A outer s₀ H₀ E).stack := fun b hb => List.mem_cons_of_mem _ hb
  have neL : ∀ b o, s₀.heap.get? b = some o → b ≠ s₀.heap.objs.size := fun b o z => Nat.ne_of_lt (Heap.lt_size z)
  have inS : ∀ b o, s₀.heap.get? b = some o → ∃ o', s.heap.get? b = some o' := fun b o z => I.base.there b o z (by intro y; cases y)
  have in1 : ∀ b o, s.heap.get? b = some o → ∃ o', h1.get? b = some o' := fun b o z => un.there b o z (by simp)
  have fz : ∀ b ∈ frs (cxOf CX P w K mg base N qual scope f cd A outer s₀ H₀ E).stack, ∀ o, h1.get? b = some o → ∃ sl, h2.get? b = some { o with slots := sl } := fun b hb o z => by
    refine up b o z fun vs y => ?_
    obtain ⟨_, o', ho', hd⟩ := I.stack.mem hb
    obtain ⟨sl, z2⟩ := un.any ho' (I.stkFree b hb) (by simp)
    rw [z] at z2
    cases z2
    exact hd vs y
  have keep1 : ∀ b o, s.heap.get? b = some o → h1.get? b = some o → b ∉ frs (cxOf CX P w K mg base N qual scope f cd A outer s₀ H₀ E).stack → h2.get? b = some o := fun b o z z1 nf => by
    cases y : B.get? b with
    | some o' =>
      have := hBh b o' y
      rw [z1] at this
      cases this
      exact hBst b o y
    | none =>
      rcases hB b o z1 y with r | r | r
      · rw [r, hn] at z; cases z
      · exact absurd r nf
      · rw [r.1] at z; cases z
  refine ⟨e, C, od, H', rfl, I.os, hg, ⟨fun b o z n nf _ => ?_, fun b o z n nf _ => ?_, fun b o z n _ => ?_, fun b o z _ => ?_, fun b xs z => un.tups b xs (I.base.tups b xs z), fun b o u z => un.frzs b o u (I.base.frzs b o u z), fun b ps z => ?_⟩, ?_, fun b hb => hfr b (so b hb), ⟨?_, hu, a0, B, fl, fun b o z y => ?_⟩, q⟩
  · have z1 := I.base.keep b o z n nf (by intro y; cases y)
    have n1 := I.base.free b o z n (by intro y; cases y)
    have nf1 : b ∉ frs (cxOf CX P w K mg base N qual scope f cd A outer s₀ H₀ E).stack := fun y => (st b y).elim (neL b o z) nf
    exact keep1 b o z1 (un.keep b o z1 n1 nf1 (by simp)) nf1
  · obtain ⟨sl, z1⟩ := I.base.slot b o z n nf (by intro y; cases y)
    have n1 := I.base.free b o z n (by intro y; cases y)
    obtain ⟨sl2, z2⟩ := un.any z1 n1 (by simp)
    obtain ⟨sl3, z3⟩ := fz b (so b nf) _ z2
    exact ⟨sl3, z3⟩
  · obtain ⟨o', z1⟩ := inS b o z
    exact un.free b o' z1 (I.base.free b o z n (by intro y; cases y)) (by simp)
  · obtain ⟨o1, z1⟩ := inS b o z
    obtain ⟨o2, z2⟩ := in1 b o1 z1
    cases y : B.get? b with
    | some o' => exact ⟨o', hBst b o' y⟩
    | none =>
      rcases hB b o2 z2 y with r | r | r
      · rw [r, hn] at z1; cases z1
      · obtain ⟨sl, z3⟩ := fz b r o2 z2
        exact ⟨_, z3⟩
      · rw [r.1] at z1; cases z1
  · obtain ⟨m1, e1⟩ := I.base.tbls b ps z
    obtain ⟨m2, e2⟩ := un.tbls b _ e1
    exact ⟨m1 ++ m2, by rw [e2, Array.append_assoc]⟩
  · exact hok_fly (n := s.heap) (e := e) (outer := (cxOf CX P w K mg base N qual scope f cd A outer s₀ H₀ E).stack) hok hBst hu hfr hB hBh
  · cases y : s₀.heap.get? e with
    | none => rfl
    | some o =>
      obtain ⟨o', z⟩ := inS e o y
      rw [hn] at z; cases z
  · cases y1 : h1.get? b with
    | none =>
      refine .inr (.inr ⟨?_, ?_⟩)
      · cases y2 : s₀.heap.get? b with
        | none => rfl
        | some o0 =>
          obtain ⟨o1, z1⟩ := inS b o0 y2
          obtain ⟨o2, z2⟩ := in1 b o1 z1
          rw [y1] at z2; cases z2
      · cases y2 : H' b with
        | none => rfl
        | some v =>
          have := (hok b v y2).there
          obtain ⟨o2, z2⟩ := this
          rw [y1] at z2; cases z2
    | some o1 =>
      rcases hB b o1 y1 y with r | r | r
      · exact .inl r
      · rcases st b r with r2 | r2
        · refine .inr (.inr ⟨?_, hfr b r⟩)
          cases y2 : s₀.heap.get? b with
          | none => rfl
          | some o0 => exact absurd r2 (neL b o0 y2)
        · exact .inr (.inl r2)
      · refine .inr (.inr ⟨?_, r.2⟩)
        cases y2 : s₀.heap.get? b with
        | none => rfl
        | some o0 =>
          obtain ⟨o1, z1⟩ := inS b o0 y2
          rw [r.1] at z1; cases z1
/-- a callee's exception passes on -/
theorem pass_on {CX : CXT} (hCX : CX = CXE P w) : Passes (CXE P w) (cxOf CX P w K mg base N qual scope f cd A outer s₀ H₀ E) E := by
  subst hCX
  intro pins σ H s ex s' I h
  obtain ⟨e, C, od, H', rfl, ho, hg, un, hok, hfr, ⟨hn, hu, a0, B, fl, hB⟩, q⟩ := h
  show wpAny (model P w) (A.deeper (envOfC qual scope s₀.heap.objs.size f cd)) (leaving (envOfC qual scope s₀.heap.objs.size f cd) (.ref e)) _ _ s'
  refine leaves_onD (L := s₀.heap.objs.size) I.ok.frames rfl fl fun h2 fl2 up => ?_
  obtain ⟨hp, g, d, t, os⟩ := s'
  have ho : os = s.os := ho
  subst ho
  exact fly_out (s := s) (g := g) (d := d) (t := t) I un hok hfr hg hn hu hB fl.1.1 fl2 up q
end
/-! ### raise C(..), C an own class over ValueError without an __init__ -/
abbrev veMro : List Value := [.type "ValueError", .type "Exception", .type "BaseException", .type "object"]
theorem exc_obj {K : PySem.W.Frag} {h : Heap} {C : Addr} {bB : List Value} {nid : String} (X : K.In h) (q : PySem.W.excIn K C bB nid = true) :
    ∃ bm N nm qn bs hdct sn sub ab col dd k0 k1 k2 k3 k5 mN, h.get? C = some (excClassObj nm qn C N bs bm hdct sn sub ab col dd k0 k1 k2 k3 k5 nid) ∧ h.Ns N mN ∧ mN "__init__" = none ∧ OwnTail h bB bm := by
  unfold PySem.W.excIn at q
  split at q
  case h_2 => exact Bool.noConfusion q
  case h_1 d1 c1 l1 look =>
    split at q
    case h_2 => exact Bool.noConfusion q
    case h_1 C2 m2 r0 r1 r2 r3 nn r5 eqm eqs =>
      simp only [Bool.and_eq_true, beq_iff_eq, Bool.not_eq_true'] at q
      obtain ⟨⟨⟨⟨⟨w1, w2⟩, w3⟩, w4⟩, w5⟩, w6⟩ := q
      subst w1 w2
      obtain ⟨x1, x2, x3, x4, x5, x6, x7, x8, x9, x10, x11⟩ := c1
      dsimp only at eqm w3 w5 w6
      subst eqm w3
      have l2 : l1 = #[r0, r1, r2, r3, some (.builtin nn), r5] := by
        have := congrArg List.toArray eqs
        simpa using this
      subst l2
      exact ⟨m2, x4, x1, x5, x2, x6, x7, x8, x9, x10, d1, r0, r1, r2, r3, r5, h.nsMap x4, X _ _ look, .of_isNs (PySem.W.isNs_of_in X w5), PySem.W.nsMap_none_of_in X w5 w6, PySem.W.tail_of_in X w4⟩
section
variable {P : Program} {w : World} {K : PySem.W.Frag} {mg : Str → Option Value} {base : Heap} {N : List Str} {qual : Str} {scope : Scope} {f : Addr} {cd : Value} {A : Around} {outer : List Env} {s₀ : Shared} {H₀ : Hp} {E : XK}
end
end L2
namespace L2
open PySem PySem.Spec PyProof.Rows
/-! ### the same state, under another wish, within an except suite or not -/
def Cx.re (X : Cx) (A' : Around) (c : Bool) (xe' : Value → Shared → Prop) : Cx := { X with A := A', calm := c, xe := xe' }
section
variable {X : Cx} {pins : List (Addr × Obj)} {σ : St} {H : Hp} {s : Shared} {A' : Around} {c : Bool} {xe' : Value → Shared → Prop}
theorem Inv.re (I : Inv X pins σ H s) (hf : A'.frames = some X.stack) (hh : c = true → A'.handled = none) : Inv (X.re A' c xe') pins σ H s :=
  ⟨⟨I.ok.mod, I.ok.kind, I.ok.glob, I.ok.blt, I.ok.above, I.ok.inj, I.ok.has, I.ok.cab, hh, hf, I.ok.stk, I.ok.exf, I.ok.bs, I.ok.bsz, I.ok.noex, I.ok.exfs, I.ok.funs, I.ok.frf⟩, I.os, I.bare, I.base, I.loc, I.cell, I.free, I.freeC, I.pin, I.hok, I.len⟩
theorem Inv.unre (ok : X.Ok) (I : Inv (X.re A' c xe') pins σ H s) : Inv X pins σ H s := ⟨ok, I.os, I.bare, I.base, I.loc, I.cell, I.free, I.freeC, I.pin, I.hok, I.len⟩
end
/-! ### where an exception lands -/
section
variable {X : Cx} {pins : List (Addr × Obj)} {σ : St} {H H' : Hp} {s s' : Shared} {e C : Addr} {B h1 h2 : Heap}
theorem un_land (I : Inv X pins σ H s) (un : Un (frs X.stack) [] H H' s.heap h1) (hB : ∀ b o, h1.get? b = some o → B.get? b = none → b = e ∨ b ∈ frs X.stack ∨ (s.heap.get? b = none ∧ H' b = none)) (hBh : B.StaysIn h1) (st : B.StaysIn h2) (up : h1.UpToSlots h2)
    (hn : s.heap.get? e = none) : Un (frs X.stack) [] H H' s.heap h2 := by
  have fz : ∀ b ∈ frs X.stack, ∀ o, h1.get? b = some o → ∃ sl, h2.get? b = some { o with slots := sl } := fun b hb o z => by
    refine up b o z fun vs y => ?_
    obtain ⟨_, o', ho', hd⟩ := I.stack.mem hb
    obtain ⟨sl, z2⟩ := un.any ho' (I.stkFree b hb) (by simp)
    rw [z] at z2
    cases z2
    exact hd vs y
  refine ⟨fun b o z n nf nx => ?_, fun b o z n nf nx => ?_, un.free, fun b o z nx => ?_, un.tups, un.frzs, un.tbls⟩
  · have z1 := un.keep b o z n nf nx
    cases y : B.get? b with
    | some o' =>
      have := hBh b o' y
      rw [z1] at this
      cases this
      exact st b o y
    | none =>
      rcases hB b o z1 y with r | r | r
      · rw [r, hn] at z; cases z
      · exact absurd r nf
      · rw [r.1] at z; cases z
  · obtain ⟨sl, z1⟩ := un.slot b o z n nf nx
    obtain ⟨sl2, z2⟩ := fz b nf _ z1
    exact ⟨sl2, z2⟩
  · obtain ⟨o1, z1⟩ := un.there b o z nx
    cases y : B.get? b with
    | some o' => exact ⟨o', st b o' y⟩
    | none =>
      rcases hB b o1 z1 y with r | r | r
      · rw [r, hn] at z; cases z
      · obtain ⟨sl, z3⟩ := fz b r o1 z1
        exact ⟨_, z3⟩
      · rw [r.1] at z; cases z
end
/-! ### judgements at one state of the names -/
def PSsAt (X : Cx) (pins : List (Addr × Obj)) (σ : St) (st : List Stmt) (t : TS) : Prop := ∀ (s : Shared) (H : Hp) (D : Ends), Inv X pins σ H s → t D σ H → wpAny (model X.prog X.w) X.A (execs st X.env) (SP X pins D) X.xe s
def PSAt (X : Cx) (pins : List (Addr × Obj)) (σ : St) (st : Stmt) (t : TS) : Prop := ∀ (s : Shared) (H : Hp) (D : Ends), Inv X pins σ H s → t D σ H → wpAny (model X.prog X.w) X.A (exec st X.env) (SP X pins D) X.xe s
def PEAt (X : Cx) (pins : List (Addr × Obj)) (σ : St) (e : Expr) (t : TE) : Prop := ∀ (s : Shared) (H : Hp) (Q : VK), Inv X pins σ H s → t σ H Q → wpAny (model X.prog X.w) X.A (eval e X.env) (EP X pins σ Q) X.xe s
def PassAt (CX : CXT) (X : Cx) (pins : List (Addr × Obj)) (σ : St) (E : XK) : Prop := ∀ (H : Hp) (s : Shared) (e : Value) (s' : Shared), Inv X pins σ H s → CX X.stack H s E e s' → X.xe e s'
section
variable {X : Cx} {pins : List (Addr × Obj)} {σ : St} {pos : Pos} {e : Expr} {te : TE} {t u : TS}
theorem PE.at (h : PE X e te) : PEAt X pins σ e te := fun s H Q I q => h pins s σ H Q I q
theorem PS.at {st : Stmt} (h : PS X st t) : PSAt X pins σ st t := fun s H D I q => h pins s σ H D I q
theorem ps_set_at {i : Nat} {x : Str} {pos' : Pos} (hN : X.N.Nodup) (hi : X.N[i]? = some x) (hx : Loc X.env.scope x) (he : PEAt X pins σ e te) (hs : swapsWith e (some (.Name x pos')) pos.line X.env = pure false := by rfl) (hf : X.fn x = true ∨ X.env.scope.names.lookup x = some .local := by first | exact .inl rfl | exact .inr rfl | assumption) :
    PSAt X pins σ (.Assign [.Name x pos'] e pos) (tAsg te (gName i)) := by
  intro s H D I h
  refine wpAny_Assign_Name (thn (he s H _ I h) fun v s1 ⟨y, H1, I1, r1, q1⟩ => ?_) hs
  exact store_ok I1 hN hi hx r1 (fun s2 I2 => ⟨_, H1, I2, q1⟩) hf
theorem pss_one_at {st : Stmt} (h1 : PSAt X pins σ st t) : PSsAt X pins σ [st] t := by
  intro s H D I h
  refine wpAny_execs_cons (thn (h1 s H D I h) fun f s1 q => ?_)
  cases f with
  | next => exact wpAny_execs_nil q
  | brk => exact q
  | cont => exact q
  | ret v => exact q
end
structure CalE (P : Program) (w : World) (K : PySem.W.Frag) (mg : Str → Option Value) (base : Heap) (name : Str) (k : Nat) (ps : List Str) (sp : Sp) : Prop where
  ex : ∃ (f : Addr) (fd : FuncData), FnOk P w K mg base (CXE P w) k f fd ps sp ∧ Binds K fd ps [] ∧ mg name = some (.ref f) ∧ PySem.W.keepIn K (.ref f) = true
section
variable {X : Cx} {k : Nat} {C : Addr} {ps : List Str} {sp : Sp} {name m : Str} {p pos apos : Pos} {e o : Expr} {es : List Expr} {ta : TE} {t : TA} {pl : Sem Bool} {E : XK} {pins : List (Addr × Obj)} {σ : St} {CX : CXT} {f : Addr} {fd : FuncData}
theorem pe_fnE (C : CalE X.prog X.w X.K X.mg X.base name k ps sp) (hr : Room k X.A) (hx : Passes (CXE X.prog X.w) X E) (ha : PA X (e :: es) t) (hg : Gl X name := by rfl) (hdb : (name == ("__debug__" : Str)) = false := by decide)
    (he : starEach (e :: es) X.env = (false, eval e X.env) :: starEach es X.env := by rfl) (hpl : (backTo pos (starEach es X.env)).any (·.1) = false := by rfl) : PE X (.Call (.Name name p) (e :: es) [] pos) (tCall sp [] E t) := by
  obtain ⟨f, fd, F, b, hm, hk⟩ := C.ex
  exact pe_call F hr hg hm hk b .nil hx ha hdb he hpl
/-- the callee runs, at one state of the names -/
theorem run_at {H : Hp} {s : Shared} {Q : VK} {us : List Value} {vs : List V} (F : FnOk X.prog X.w X.K X.mg X.base CX k f fd ps sp) (hr : Room k X.A) (hb : Binds X.K fd ps []) (hx : PassAt CX X pins σ E) (I : Inv X pins σ H s) (r : Vals vs us) (h : sp (vs ++ []) H Q E) :
    wpAny (model X.prog X.w) X.A (call (.ref f) us) (EP X pins σ Q) X.xe s := by
  have r2 : Vals (vs ++ []) (us ++ []) := r.append .nil
  have hl : (us ++ []).length = ps.length := by rw [← r2.length]; exact F.len _ _ _ _ h
  refine wpAny_call (codeAny_mono (F.run X.A X.stack s H ⟨us, []⟩ (us ++ []) (vs ++ []) Q E hr I.env0 (hb s us I.kIn hl) r2 h) fun r s' hq => ?_)
  cases r with
  | error e => exact hx H s e s' I hq
  | ok fl =>
    cases fl with
    | ret u => exact I.after hq
    | next => exact hq.elim
    | brk => exact hq.elim
    | cont => exact hq.elim
theorem pe_fn_at (C : CalE X.prog X.w X.K X.mg X.base name k ps sp) (hr : Room k X.A) (hx : PassAt (CXE X.prog X.w) X pins σ E) (ha : PA X (e :: es) t) (hg : Gl X name := by rfl) (hdb : (name == ("__debug__" : Str)) = false := by decide)
    (he : starEach (e :: es) X.env = (false, eval e X.env) :: starEach es X.env := by rfl) (hpl : (backTo pos (starEach es X.env)).any (·.1) = false := by rfl) : PEAt X pins σ (.Call (.Name name p) (e :: es) [] pos) (tCall sp [] E t) := by
  obtain ⟨f, fd, F, b, hm, hk⟩ := C.ex
  intro s H Q I h
  refine wpAny_Call_Name_kw (ld_glob I hg hm ?_ hdb)
  refine PySem.W.callWith_K (h₀ := X.base) I.ok.mod.kin hk (thn (ha pos pins s σ H _ I h) fun us s1 ⟨vs, H1, I1, r, q⟩ => ⟨I1.kIn, ?_⟩) he hpl
  exact run_at F hr b hx I1 r q
end
section
variable {X : Cx} {k : Nat} {C : Addr} {ps : List Str} {sp : Sp} {name : Str} {p pos : Pos} {e : Expr} {es : List Expr} {t : TA} {E : XK} {pins : List (Addr × Obj)} {σ : St}
end
/-! ### try: .. except C0 as n: .. -/
def landW (X : Cx) (E : XK) (pins : List (Addr × Obj)) (σ : St) : Value → Shared → Prop := fun ex s1 => ∃ H0 s0, Inv X pins σ H0 s0 ∧ CXE X.prog X.w X.stack H0 s0 E ex s1
theorem land_pass {X : Cx} {E : XK} {pins : List (Addr × Obj)} {σ : St} : PassAt (CXE X.prog X.w) (X.wish (landW X E pins σ)) pins σ E := fun H s e s' I h => ⟨H, s, I.unwish, h⟩
section
variable {X : Cx} {i : Nat} {n x : Str} {C0 : Value} {np hpos pos : Pos} {body suite : List Stmt} {b0 : Stmt} {tb : XK → TS} {th : TS}
theorem mark_frames {A : Around} {v : Option Value} : (A.mark v).frames = A.frames := rfl
end
/-! ### a def that may refuse -/
section
variable {P : Program} {w : World} {K : PySem.W.Frag} {mg : Str → Option Value} {base : Heap}
theorem Fun.okE {x qual : Str} {st : Stmt} {f : Addr} {fd : FuncData} {N ps : List Str} {k : Nat} {sp : Sp} (F : Fun K x qual st f fd) (S : FnScope N ps (defScope st)) (len : ∀ vs H Q E, sp vs H Q E → vs.length = ps.length)
    (hbody : ∀ (cdv : Value) (A : Around) (outer : List Env) (s : Shared) (H : Hp) (vs : List V) (Q : VK) (E : XK), Room k (A.deeper (envOfC qual (defScope st) s.heap.objs.size f cdv)) → sp vs H Q E →
      ∃ t, PSs (cxOf (CXE P w) P w K mg base N qual (defScope st) f cdv A outer s H E) (defBody st) t ∧ t { nx := fun _ H' => Q .non H', rt := Q } (start N vs) H) : FnOk P w K mg base (CXE P w) (k + 1) f fd ps sp := by
  obtain ⟨oc, od, kV, doc, pm, an, cdv, ct, osl, rfl, lk, hcd⟩ := F.ex
  exact fn_of lk hcd S len fun A outer s H vs Q E hr hsp => hbody cdv A outer s H vs Q E hr hsp
end
/-! ### a def that is called within an except suite -/
structure RoomU (k : Nat) (A : Around) : Prop where
  dp : A.depth + 3 * k + 5 < recursionLimit
  un : A.units + 16 * k + 200 < cLine
theorem Room.u {k : Nat} {A : Around} (r : Room k A) : RoomU k A := ⟨r.dp, r.un⟩
section
variable {P : Program} {w : World} {K : PySem.W.Frag} {mg : Str → Option Value} {base : Heap}
end
end L2
namespace L2
open PySem PySem.Spec PySem.W PyProof.Rows Builtin.Getset_descriptor
/-- what an own class over ValueError has -/
structure ExcK (K : PySem.W.Frag) (D : Addr) : Prop where
  ga : findIn K (.ref D) "__getattribute__" = some (some (.builtin "BaseException.__getattribute__"))
  gx : findIn K (.ref D) "__getattr__" = some none
  ca : findIn K (.ref D) "__class__" = some (some (.builtin "object.__class__"))
  sp : specialIn K (.builtin "object.__class__") "__get__" = some (some (.builtin "getset_descriptor.__get__"))
  tk : takesIn K (.builtin "object.__class__") = some true
  mo : mroIn K D (.type "object") = some true
  mb : mroIn K D (.type "BaseException") = some true
theorem ExcK.cl {K : PySem.W.Frag} {D : Addr} (Z : ExcK K D) : (clsIn K D).isSome = true := by
  obtain ⟨cd, a, _⟩ := Option.bind_eq_some_iff.mp Z.mo
  rw [a]
  rfl
section
variable {prog : Program} {w : World} {A : Around} {E : Value → Shared → Prop} {s : Shared} {K : PySem.W.Frag} {x D : Addr} {ox : Obj} {od0 : Option Obj} {od : Option Addr}
end
end L2
namespace L2
open PySem PySem.Spec PyProof.Rows
section
variable {X : Cx}
end
end L2
end

section
set_option Elab.async false
set_option linter.all false
set_option maxRecDepth 100000
set_option maxHeartbeats 4000000
/-! Own errors over ValueError with an __init__ of their own. -/
namespace L2
open PySem PySem.Spec PySem.W PyProof.Rows
/-- the object of an exception that was made and does not fly -/
abbrev xObj (C t : Addr) (od : Option Addr) : Obj := { cls := .ref C, dict := od, data := .fields #[.ref t, .none, .none, .none, .bool false, .none] }
/-- what an own error C over W with an __init__ at f has -/
structure OwnX (K : PySem.W.Frag) (W C f : Addr) : Prop where
  wex : excIn K W veMro "ValueError.__new__" = true
  ob : ∃ nm qn N bs sn sub ab col dd k0 k1 k2 k3 k5, K.lookup C = some (excClassObj nm qn C N bs (.ref W :: veMro) true sn sub ab col dd k0 k1 k2 k3 k5 "ValueError.__new__")
  ini : findIn K (.ref C) "__init__" = some (some (.ref f))
  fn : typeIn K (.ref f) = some (.type "function")
  sa : findIn K (.ref C) "__setattr__" = some (some (.builtin "object.__setattr__"))
  pl : findIn K (.ref C) "place" = some none
section
variable {prog : Program} {w : World} {A : Around} {E : Value → Shared → Prop} {s : Shared} {K : PySem.W.Frag} {W C f e t : Addr} {od : Option Addr}
theorem own_tail {h : Heap} (X : K.In h) (q : excIn K W veMro "ValueError.__new__" = true) : OwnTail h veMro (.ref W :: veMro) := by
  obtain ⟨bm, N, nm, qn, bs, hdct, sn, sub, ab, col, dd, k0, k1, k2, k3, k5, mN, hC, hN, hni, hT⟩ := exc_obj X q
  exact .own hC hN hni .base
/-- WoodError.__init__(e, text) -/
theorem binit_call {v : Value} {Q : Value → Shared → Prop} (O : OwnX K W C f) (X : K.In s.heap) (he : s.heap.get? e = some (xObj C t od))
    (q : ∀ h' t', (∀ b o, b ≠ e → s.heap.get? b = some o → h'.get? b = some o) → h'.get? e = some (xObj C t' od) → Q .none { s with heap := h' }) : wpAny (model prog w) A (call (.builtin "ValueError.__init__") [.ref e, v]) Q E s := by
  obtain ⟨hh, g, d, tk, os⟩ := s
  obtain ⟨nm, qn, N, bs, sn, sub, ab, col, dd, k0, k1, k2, k3, k5, lk⟩ := O.ob
  have hC := X _ _ lk
  have T := own_tail X O.wex
  have B := PySem.F.excBase_ValueError
  refine wpAny_call (codeAny_call_builtin B.init.plain B.initEntry (wpAny_check_init_subT B T hC he rfl ?_))
  wp_walk
  refine q _ hh.objs.size (fun b o hb z => ?_) ?_
  · exact (Heap.get?_update_other _ _ (Ne.symm hb)).trans (Heap.get?_push_of_some _ z)
  · exact Heap.get?_update_self _ (Heap.get?_push_of_some _ he) rfl
/-- e.place = v -/
theorem own_store {v : Value} {Q : Unit → Shared → Prop} (O : OwnX K W C f) (Z : ExcK K C) (X : K.In s.heap) (he : s.heap.get? e = some (xObj C t none))
    (q : ∀ h' dx tk, (∀ b o, b ≠ e → s.heap.get? b = some o → h'.get? b = some o) → h'.get? e = some (xObj C t (some dx)) → dx ≠ e → s.heap.objs.size ≤ dx → h'.Ns1 dx (fun y => if y = "place" then some v else none) → Q () { s with heap := h', toks := tk }) :
    wpAny (model prog w) A (setAttr (.ref e) "place" v) Q E s := by
  obtain ⟨hh, g, d, tk, os⟩ := s
  have X : K.In hh := X
  have he : hh.get? e = some (xObj C t none) := he
  obtain ⟨nm, qn, N, bs, sn, sub, ab, col, dd, k0, k1, k2, k3, k5, lk⟩ := O.ob
  have SF := PySem.F.store_object
  have J : InstAt hh e (xObj C t none) C none := ⟨he, rfl, rfl, True.intro⟩
  have hc : clsIn K C = some ⟨nm, bs, .ref C :: .ref W :: veMro, N, qn, true, sn, sub, ab, col, false⟩ := by
    unfold clsIn
    rw [lk]
  have isO : Looks (model prog w) hh (isInstance (.ref e) (.type "object")) true := J.type.andThen (looks_mroIn X Z.mo)
  have hm : Looks (model prog w) hh (mroOf (.ref C)) (.ref C :: .ref W :: veMro) := (looks_clsIn X hc).andThen .now
  refine set_plain X J O.sa ?_
  refine codeAny_call_builtin SF.slot.plain SF.entry (@check_slot (model prog w) _ _ ⟨hh, g, d, tk + 1, os⟩ "object.__setattr__" "object" "__setattr__" (.ref e) [.str "place" tk, v] [] _ SF.kind SF.split isO (SF.args (.ref e) (.str "place" tk) v) ?_)
  rw [osa_eq, refuse_eq]
  refine wpAny_bind (wpAny_bind (J.type.here (wpAny_bind (hm.here ?_))))
  rw [refuseLoop_ref, refuseLoop_ref, show refuseLoop (.ref e) "__setattr__" veMro = pure () from PySem.F.store_ValueError.passes _]
  refine wpAny_pure (wpAny_bind (J.type.here (wpAny_bind ((looks_findIn X O.pl).here (wpAny_bind ?_)))))
  refine wpAny_pure ?_
  show wpAny _ _ (Builtin.ObjectAttr.storeInOwnDict (.ref e) (.ref C) (.str "place" tk) "place" v false) _ _ _
  have hcl := X _ _ lk
  have he1 : (hh.push emptyDict).get? e = some (xObj C t none) := Heap.get?_push_of_some _ he
  have hes : e ≠ hh.objs.size := Nat.ne_of_lt (Heap.lt_size he)
  refine wpAny_bind (wpAny_pure (wpAny_bind ?_))
  refine wpAny_bind (wpAny_loadPart he (wpAny_bind ((looks_clsIn X hc).here ?_)))
  show wpAny _ _ (do
    let d ← alloc { cls := Value.type "dict", data := Data.dict #[] }
    update e fun o => { cls := o.cls, dict := some d, data := o.data, slots := o.slots }
    dictMade (.ref C) e d) _ _ _
  refine wpAny_bind (wpAny_alloc' (wpAny_bind (wpAny_update' he1 (wpAny_pure ?_))))
  show wpAny _ _ (Builtin.ObjectAttr.storeInDict hh.objs.size (.str "place" tk) "place" v) _ _ _
  have hd2 : ((hh.push emptyDict).update e fun o => { cls := o.cls, dict := some hh.objs.size, data := o.data, slots := o.slots }).get? hh.objs.size = some emptyDict :=
    (Heap.get?_update_other _ _ hes).trans (Heap.get?_push_size hh rfl)
  have hn2 : ((hh.push emptyDict).update e fun o => { cls := o.cls, dict := some hh.objs.size, data := o.data, slots := o.slots }).Ns hh.objs.size (fun _ => none) := ⟨_, #[], _, hd2, rfl, (fun en hen => absurd hen (by simp)), fun _ => rfl⟩
  have he2 : ((hh.push emptyDict).update e fun o => { cls := o.cls, dict := some hh.objs.size, data := o.data, slots := o.slots }).get? e = some (xObj C t (some hh.objs.size)) := Heap.get?_update_self _ he1 rfl
  have hk2 : ∀ b o, b ≠ e → hh.get? b = some o → ((hh.push emptyDict).update e fun o => { cls := o.cls, dict := some hh.objs.size, data := o.data, slots := o.slots }).get? b = some o := fun b o hb z => (Heap.get?_update_other _ _ (Ne.symm hb)).trans (Heap.get?_push_of_some _ z)
  unfold Builtin.ObjectAttr.storeInDict Builtin.ObjectAttr.newKeyGuard
  refine wpAny_bind (wpAny_pure (wpAny_bind (wpAny_nsSet1 (Heap.Ns1.of_empty hn2) fun h' hn' hs => ?_)))
  obtain ⟨ob1, es1, ep1, at1, da1, ct1⟩ := hn'.count (Within.cons "place" v Within.nil)
  refine wpAny_bind (wpAny_lookBehind at1 (da1 ▸ pastItsLine_dict (Nat.le_trans ct1 (by decide))) ?_)
  refine wpAny_pure ?_
  refine q h' hh.objs.size _ (fun b o hb z => (hs.2 b (Nat.ne_of_lt (Heap.lt_size z))).trans (hk2 b o hb z)) ((hs.2 e hes).trans he2) (Ne.symm hes) (Nat.le_refl _) ?_
  obtain ⟨o', es, ep, e1, e2, e3, eu, e4⟩ := hn'
  exact ⟨o', es, ep, e1, e2, e3, eu, fun y => by rw [e4 y]⟩
/-- C(..): made, then its __init__ -/
theorem own_call {rest : List Value} {Q : Value → Shared → Prop} (O : OwnX K W C f) (X : K.In s.heap) (hr : rest.length ≤ sizeLine)
    (q : ∀ h' e, Heap.MadeExcOf s.heap h' e (.ref C) rest → s.heap.objs.size ≤ e → wpAny (model prog w) (A.under (.builtin "type.__call__" ⟨.ref C :: rest, []⟩)) (call (.ref f) (.ref e :: rest)) (fun r s' => r = .none ∧ Q (.ref e) s') E { s with heap := h' }) :
    wpAny (model prog w) A (call (.ref C) rest) Q E s := by
  obtain ⟨hh, g, d, tk, os⟩ := s
  have X : K.In hh := X
  obtain ⟨nm, qn, N, bs, sn, sub, ab, col, dd, k0, k1, k2, k3, k5, lk⟩ := O.ob
  have hC : hh.get? C = _ := X _ _ lk
  have T := own_tail X O.wex
  have B := PySem.F.excBase_ValueError
  have f1 := tc_lookup
  have f2 := tc_bind (.ref C)
  have tC : (⟨hh, g, d, tk, os⟩ : Shared).TypeIs (.ref C) "type" := ⟨_, hC, rfl⟩
  refine wpAny_call (codeAny_of_tree ?_)
  show wpAny _ _ (callAny (.ref C) _) _ _ _
  repeat (any_goals (first | assumption | with_reducible refine wpAny_loadPart_at hC ?_ | wp_step))
  refine ⟨rfl, codeAny_call_builtin_at (Code.quiet_builtin _ (by decide +kernel)) entry_typeCall (wpAny_check_type_call_sub hC ?_)⟩
  repeat (first | with_reducible refine wpAny_loadPart_at hC ?_ | with_reducible refine wpAny_madeBy_exc hC ?_ | wp_step)
  refine codeAny_call_builtin_code (Code.quiet_builtin _ B.quiet) (wpAny_check_new_subT B T hC (codeAny_exc_new_subT B T hC ?_ hr))
  show wpAny _ _ _ _ _ _
  have hget : ((hh.push { cls := .type "tuple", data := .seq rest.toArray }).push (xObj C hh.objs.size none)).get? (hh.objs.size + 1) = some (xObj C hh.objs.size none) := by heap_get
  have kp : ∀ b o, hh.get? b = some o → ((hh.push { cls := .type "tuple", data := .seq rest.toArray }).push (xObj C hh.objs.size none)).get? b = some o := fun b o z => Heap.get?_push_of_some _ (Heap.get?_push_of_some _ z)
  have hC₁ := kp _ _ hC
  have hcC : (Value.ref C :: .ref W :: veMro).contains (.ref C) = true := by simp
  have X1 : K.In ((hh.push { cls := .type "tuple", data := .seq rest.toArray }).push (xObj C hh.objs.size none)) := fun b o z => kp b o (X b o z)
  have mx : Heap.MadeExcOf hh ((hh.push { cls := .type "tuple", data := .seq rest.toArray }).push (xObj C hh.objs.size none)) (hh.objs.size + 1) (.ref C) rest := by
    refine ⟨kp, Heap.get?_none_of_le (Nat.le_succ _), hh.objs.size, hget, Heap.get?_none_of_le (Nat.le_refl _), ?_⟩
    exact Heap.get?_push_of_some _ (Heap.get?_push_size hh rfl)
  have J : InstAt ((hh.push { cls := .type "tuple", data := .seq rest.toArray }).push (xObj C hh.objs.size none)) (hh.objs.size + 1) (xObj C hh.objs.size none) C none := ⟨hget, rfl, rfl, True.intro⟩
  unfold isInstance
  repeat (first | with_reducible refine wpAny_loadPart_at hget ?_ | (with_reducible refine wpAny_isSubtype_exc hC₁ ?_; rw [hcC]) | wp_step)
  refine wpAny_isSubtype_exc hC₁ ?_
  rw [hcC]
  rw [if_neg (by decide)]
  refine wpAny_bind (wpAny_holding (special_fn X1 J O.ini O.fn ?_))
  refine wpAny_mono (q _ _ mx (Nat.le_succ _)) (fun v s' z => ?_) fun _ _ z => z
  obtain ⟨rfl, z⟩ := z
  exact wpAny_pure z
end
end L2
end

section
set_option Elab.async false
set_option linter.all false
set_option maxRecDepth 100000
set_option maxHeartbeats 4000000
/-! Own errors with an __init__: the rules of the layer. -/
namespace L2
open PySem PySem.Spec PySem.W PyProof.Rows
/-- an exception while its __init__ is at work -/
def IsRaw (e C : Addr) (od : Option Addr) (h : Heap) : Prop := ∃ t, h.get? e = some (xObj C t od)
def rawX (e C : Addr) (od : Option Addr) : HO := .ext (IsRaw e C od)
theorem raw_ok {P : Program} {w : World} {H : Hp} {h : Heap} {e C : Addr} {od : Option Addr} (x : IsRaw e C od h) : ObjOk P w H h e (rawX e C od) :=
  ⟨x, let ⟨_, z⟩ := x; ⟨_, z⟩, fun _ _ ⟨t, z⟩ k => ⟨t, k _ z⟩⟩
structure BaseX (K : PySem.W.Frag) (mg : Str → Option Value) (x : Str) (W : Addr) : Prop where
  at_ : mg x = some (.ref W)
  ga : specialIn K (.ref W) "__getattribute__" = some (some (.builtin "type.__getattribute__"))
  rd : readsIn K W (.type "type") = true
  ini : findCls K (.ref W) (.type "type") "__init__" = some (.val (.builtin "ValueError.__init__"))
theorem upd_id {H : Hp} {e : Addr} {o : HO} (h : H e = some o) : upd H e o = H := by
  funext b
  by_cases hb : b = e
  · subst hb; rw [upd_same, h]
  · rw [upd_ne hb]
section
variable {X : Cx} {x : Str} {W C f : Addr} {np apos pos p1 p2 pos' : Pos} {a o e value : Expr} {as : List Expr} {t : TA} {te ta tv : TE} {pl : Sem Bool}
/-- WoodError.__init__(self, text) -/
def tBinit (K : PySem.W.Frag) (W : Addr) (t : TA) : TE := fun σ H Q => t σ H fun vs H1 => ∃ e C f od z, vs = [.ref e, .str z] ∧ H1 e = some (rawX e C od) ∧ OwnX K W C f ∧ Q .non H1
theorem pe_binit (B : BaseX X.K X.mg x W) (hg : Gl X x) (ha : PA X (a :: as) t) (hdb : (x == ("__debug__" : Str)) = false := by decide)
    (he : backTo pos (starEach (a :: as) X.env) = (false, eval a X.env) :: backTo pos (starEach as X.env) := by rfl) (hpl : (backTo pos (starEach (a :: as) X.env)).any (·.1) = false := by rfl)
    (ht : eval (.Call (.Attribute (.Name x np) "__init__" apos) (a :: as) [] pos) X.env = (do
      let ov ← eval (.Name x np) X.env
      standAt apos.atName
      let (f, first) ← holding [ov] (getMethod ov "__init__" pl)
      callWith pos f first (backTo pos (starEach (a :: as) X.env)) (backToKw pos (keywordEach [] X.env))) := by rfl) :
    PE X (.Call (.Attribute (.Name x np) "__init__" apos) (a :: as) [] pos) (tBinit X.K W t) := by
  intro pins s σ H Q I h
  refine methodCall_KW (ld_glob I hg B.at_ ?_ hdb) ht
  refine method_cls I.kIn B.ga (cls_value I.kIn B.rd B.ini rfl ?_)
  refine Calls.callWith_builtin hpl ?_
  have hs := ha pos pins _ σ H _ (I.tok (s.toks + 1)) h
  rw [he] at hs ⊢
  refine Calls.evalArgs_plain (thn hs fun us s1 ⟨vs, H1, I1, r, e, C, f, od, z, ev, hx, O, q⟩ => ?_)
  subst ev
  obtain ⟨u, u2, rfl, ru, ru2⟩ := vals2 r
  obtain rfl : u = Value.ref e := ru
  obtain ⟨⟨t0, h0⟩, _, _⟩ := (show ObjOk X.prog X.w H1 s1.heap e (rawX e C od) from I1.hok e _ hx)
  refine binit_call O I1.kIn h0 fun h' t' hk he' => ⟨.non, H1, ?_, rfl, q⟩
  have z := I1.write (x := e) (e := e) (o := rawX e C od) (h' := h') (t' := s1.toks) (by rw [hx]; exact True.intro) (.inl rfl) hk ⟨_, he'⟩ (raw_ok ⟨t', he'⟩)
  rw [upd_id hx] at z
  exact z
/-- a text with one number in it -/
def tFstr (te : TE) : TE := fun σ H Q => te σ H fun v H1 => ∃ i : Int, v = .int i ∧ i.natAbs < 10 ^ 12 ∧ ∀ z, Q (.str z) H1
theorem log_small {n : Nat} (h : n < 10 ^ 12) : n.log2 < 1920 := by
  have : n.log2 < 40 := by
    by_cases h0 : n = 0
    · subst h0; decide
    · exact (Nat.log2_lt h0).mpr (Nat.lt_of_lt_of_le h (by decide))
  omega
theorem pe_fstr {c : Str} {j : Nat} (hc : c.length ≤ 1000) (he : PE X e te) : PE X (.JoinedStr [.Constant (.str c) j p1, .FormattedValue e (-1) none p2] pos) (tFstr te) := by
  intro pins s σ H Q I h
  have sl : 2000 ≤ sizeLine := by decide
  refine JoinedStr_many (joinParts_cons (Calls.Constant_str ⟨?_, joinParts_cons (FormattedValue_plain (thn (he pins _ σ H _ (I.tok _) h) fun u s1 ⟨v, H1, I1, r, i, ev, hi, q⟩ => ?_))⟩))
  · rw [strLen_append]
    show 0 + c.length ≤ _
    omega
  · subst ev
    obtain ⟨tk, rfl⟩ := r
    have hl := int_text_length_le10 (k := 12) (by decide) hi
    have hz : (Str.empty ++ c ++ (Str.ofString (toString i))).length ≤ sizeLine := by
      rw [strLen_append, strLen_append]
      show 0 + c.length + _ ≤ _
      have : (Str.ofString (toString i)).length ≤ 13 := by rw [PySem.ofString_length]; exact hl
      omega
    refine formatField_int_small (log_small hi) ⟨hz, joinParts_nil ⟨.str _, H1, I1.tok _, ⟨_, rfl⟩, q _⟩ hz⟩
/-- self.place = v -/
def sPlace (K : PySem.W.Frag) (ta tv : TE) : TS := fun D σ H => tv σ H fun y H1 => ta σ H1 fun x H2 => ∃ e W C f, x = .ref e ∧ H2 e = some (rawX e C none) ∧ OwnX K W C f ∧ ExcK K C ∧
  ∀ dx, H2 dx = none → D.nx σ (upd (upd H2 dx (.xd [("place", y)])) e (rawX e C (some dx)))
theorem ps_place (ha : PE X o ta) (hv : PE X value tv) (hs : swapsWith value (some (.Attribute o "place" pos')) pos.line X.env = pure false := by rfl) : PS X (.Assign [.Attribute o "place" pos'] value pos) (sPlace X.K ta tv) := by
  intro pins s σ H D I h
  refine plainObj_wpAny_Assign_Attribute (thn (hv pins s σ H _ I h) fun u s1 ⟨y, H1, I1, ry, q⟩ => thn (ha pins s1 σ H1 _ I1 q) fun ov s2 ⟨x, H2, I2, rx, e, W, C, f, ex, hx, O, Z, q2⟩ => ?_) hs
  subst ex
  obtain rfl : ov = Value.ref e := rx
  obtain ⟨⟨t0, h0⟩, _, _⟩ := (show ObjOk X.prog X.w H2 s2.heap e (rawX e C none) from I2.hok e _ hx)
  refine own_store O Z I2.kIn h0 fun h' dx tk hk he' hne hsz hn => ⟨σ, _, ?_, q2 dx (I2.hok.fresh hsz)⟩
  have fr := I2.hok.fresh hsz
  have nb : ∀ b ob, s2.heap.get? b = some ob → b ≠ dx := fun b ob z => Nat.ne_of_lt (Nat.lt_of_lt_of_le (Heap.lt_size z) hsz)
  have nt : ∀ {b : Addr} {u : HO}, H2 b = some u → b ≠ dx := fun z => ne_of_none z fr
  have ne : ∀ {b : Addr}, H2 b = none → b ≠ e := fun z y => by rw [y, hx] at z; cases z
  have mv : ∀ {b : Addr}, b ≠ e → b ≠ dx → upd (upd H2 dx (.xd [("place", y)])) e (rawX e C (some dx)) b = H2 b := fun z z2 => by rw [upd_ne z, upd_ne z2]
  have xt : ∀ {b : Addr} {u : HO}, H2 b = some u → u ≠ rawX e C none → b ≠ e := fun z n y => by rw [y, hx] at z; cases z; exact n rfl
  refine I2.un (t' := tk) ⟨fun b ob z n _ _ => hk b ob (ne n) z, fun b ob z n _ _ => ⟨ob.slots, hk b ob (ne n) z⟩, fun b ob z n _ => by rw [mv (ne n) (nb b ob z)]; exact n, fun b ob z _ => ?_, fun b xs z => ?_, fun b ob u z => ?_, fun b ps z => ?_⟩ fun b ob z => ?_
  · by_cases hb : b = e
    · subst hb; exact ⟨_, he'⟩
    · exact ⟨ob, hk b ob hb z⟩
  · rw [mv (xt z (by intro y; cases y)) (nt z)]; exact z
  · rw [mv (xt z (by intro y; cases y)) (nt z)]; exact z
  · exact ⟨#[], by rw [mv (xt z (by intro y; cases y)) (nt z)]; simpa using z⟩
  · by_cases hb : b = e
    · subst hb
      rw [upd_same] at z
      cases z
      exact raw_ok ⟨t0, he'⟩
    · rw [upd_ne hb] at z
      by_cases hb2 : b = dx
      · subst hb2
        rw [upd_same] at z
        cases z
        refine ⟨_, hn, fun f => ?_⟩
        by_cases hf : f = "place"
        · subst hf
          simpa [RelO] using ry
        · have : List.lookup f [(("place" : Str), y)] = none := by
            rw [List.lookup, show (f == ("place" : Str)) = false from beq_eq_false_iff_ne.mpr hf]
            rfl
          rw [this]
          simp [RelO, hf]
      · rw [upd_ne hb2] at z
        refine (I2.hok b ob z).stay (fun c w' hc y => hk c w' ?_ y) (fun c y => ?_) fun c xs y => ?_
        · rcases hc with rfl | hc
          · exact hb
          · exact xt hc (by intro y; cases y)
        · rw [mv (xt y (by intro y; cases y)) (nt y)]; exact y
        · rw [mv (xt y (by intro y; cases y)) (nt y)]; exact y
end
/-! ### raise C(i) -/
section
variable {M : Model} {prog : Program} {w : World} {A : Around} {E : Value → Shared → Prop} {s : Shared} {env : Env} {K : PySem.W.Frag} {W C f : Addr}
theorem raise_own {x : Sem Value} {Q : Flow → Shared → Prop} (O : OwnX K W C f) (hh : A.handled = none) (q : wpAny M A x (fun v s₁ => ∃ e t od, v = .ref e ∧ K.In s₁.heap ∧ s₁.heap.get? e = some (xObj C t od) ∧ E (.ref e) s₁) E s) :
    wpAny M A (raiseStmt env (some x) none) Q E s := by
  have cB : (Value.ref C :: .ref W :: veMro).contains (.type "BaseException") = true := by simp [veMro]
  unfold raiseStmt
  refine wpAny_bind (thn q fun v s₁ ⟨e, t, od, ev, X, hx, hE⟩ => ?_)
  subst ev
  obtain ⟨nm, qn, N, bs, sn, sub, ab, col, dd, k0, k1, k2, k3, k5, lk⟩ := O.ob
  have hC := X _ _ lk
  obtain ⟨hp, g, d, tk, os⟩ := s₁
  repeat (first | with_reducible refine wpAny_loadPart_at hx ?_ | with_reducible refine wpAny_loadPart_at hC ?_ | (with_reducible refine wpAny_isSubtype_exc hC ?_; rw [cB]) | wp_step)
  exact wpAny_raiseNew_none hh hE
theorem Raise_own {x : Str} {np cpos pos : Pos} {args : List Expr} {Q : Flow → Shared → Prop} (O : OwnX K W C f) (hh : A.handled = none) (hplain : (backTo cpos (starEach args env)).any (·.1) = false)
    (q : wpAny (model prog w) A (eval (.Name x np) env) (fun v s₁ => v = .ref C ∧ wpAny (model prog w) A (evalArgs (.ref C) true (backTo cpos (starEach args env)) []) (fun a s₂ => a.kw = [] ∧ a.pos.length ≤ sizeLine ∧ K.In s₂.heap ∧
      ∀ h' e, Heap.MadeExcOf s₂.heap h' e (.ref C) a.pos → s₂.heap.objs.size ≤ e → wpAny (model prog w) (A.under (.builtin "type.__call__" ⟨.ref C :: a.pos, []⟩)) (call (.ref f) (.ref e :: a.pos)) (fun r s₃ => r = .none ∧ ∃ t od, K.In s₃.heap ∧ s₃.heap.get? e = some (xObj C t od) ∧ E (.ref e) s₃) E { s₂ with heap := h' }) E s₁) E s) :
    wpAny (model prog w) A (exec (.Raise (some (.Call (.Name x np) args [] cpos)) none pos) env) Q E s := by
  rw [arm_exec_Raise]
  simp only [evalOpt, Option.map]
  refine wpAny_bind (wpAny_standAt (raise_own O hh (wpAny_bind (thn (wpAny_Call_ofName (thn q fun v s₁ q1 => ?_)) fun v s₃ q3 => wpAny_bind (wpAny_standAt (wpAny_pure q3))))))
  obtain ⟨rfl, q1⟩ := q1
  unfold callWith
  refine wpAny_bind (wpAny_holding (thn q1 fun a s₂ q2 => wpAny_bind (wpAny_standAt ?_)))
  obtain ⟨ap, ak⟩ := a
  obtain ⟨hk, hl, X, q2⟩ := q2
  obtain rfl : ak = [] := hk
  obtain ⟨nm, qn, N, bs, sn, sub, ab, col, dd, k0, k1, k2, k3, k5, lk⟩ := O.ob
  obtain ⟨hp, g, d, tk, os⟩ := s₂
  simp only [hplain]
  refine wpAny_bind (wpAny_keeperOf_exc (X _ _ lk) ?_)
  refine wpAny_bind (own_call O X hl fun h' e mx he => thn (q2 h' e mx he) fun r s₃ q3 => ⟨q3.1, wpAny_bind (wpAny_holding (wpAny_point (wpAny_pure ?_)))⟩)
  obtain ⟨_, t, od, X3, h3, q3⟩ := q3
  exact ⟨e, t, od, rfl, X3, h3, q3⟩
end
/-- what an own error's __init__(self, place) does -/
def spInit (C : Addr) : Sp := fun vs H Q _ => ∃ (e : Addr) (i : Int), vs = [.ref e, .int i] ∧ H e = some (rawX e C none) ∧ i.natAbs < 10 ^ 12 ∧ ∀ dx, H dx = none → Q .non (upd (upd H dx (.xd [("place", .int i)])) e (rawX e C (some dx)))
structure ExcI (P : Program) (w : World) (K : PySem.W.Frag) (mg : Str → Option Value) (base : Heap) (name : Str) (W C : Addr) (k : Nat) (ps : List Str) : Prop where
  ex : ∃ (f : Addr) (fd : FuncData), FnOk P w K mg base CX0 k f fd ps (spInit C) ∧ Binds K fd ps [] ∧ OwnX K W C f
  at_ : mg name = some (.ref C)
  ek : ExcK K C
def tRaiseI (C : Addr) (E : XK) (t : TA) : TS := fun _ σ H => t σ H fun vs H1 => ∃ i : Int, vs = [.int i] ∧ i.natAbs < 10 ^ 12 ∧ ∀ dx, H1 dx = none → E (.ref C) (some dx) (upd H1 dx (.xd [("place", .int i)]))
section
variable {P : Program} {w : World} {K : PySem.W.Frag} {mg : Str → Option Value} {base : Heap} {N : List Str} {qual : Str} {scope : Scope} {f : Addr} {cd : Value} {A : Around} {outer : List Env} {s₀ : Shared} {H₀ : Hp} {E : XK}
theorem raise_from {pins : List (Addr × Obj)} {σ : St} {H H' : Hp} {s s3 : Shared} {e C t : Addr} {od : Option Addr} (I : Inv (cxOf (CXE P w) P w K mg base N qual scope f cd A outer s₀ H₀ E) pins σ H s) (hn : s.heap.get? e = none) (ho : s3.os = s.os) (hg : AllBare s3.gens)
    (un : Un (frs (cxOf (CXE P w) P w K mg base N qual scope f cd A outer s₀ H₀ E).stack) [] H H' s.heap s3.heap) (hok : HOk P w H' s3.heap) (hu : H' e = none) (he : s3.heap.get? e = some (xObj C t od)) (q : E (.ref C) od H') :
    (cxOf (CXE P w) P w K mg base N qual scope f cd A outer s₀ H₀ E).xe (.ref e) s3 := by
  show wpAny (model P w) (A.deeper (envOfC qual scope s₀.heap.objs.size f cd)) (leaving (envOfC qual scope s₀.heap.objs.size f cd) (.ref e)) _ _ _
  have I3 := I.call' ho un hok hg (by simp)
  have hfr : ∀ b ∈ frs (cxOf (CXE P w) P w K mg base N qual scope f cd A outer s₀ H₀ E).stack, H' b = none := I3.stkFree
  have hin : ∀ env ∈ (cxOf (CXE P w) P w K mg base N qual scope f cd A outer s₀ H₀ E).stack, ∀ b, env.frame = some b → b ∈ e :: frs (cxOf (CXE P w) P w K mg base N qual scope f cd A outer s₀ H₀ E).stack := fun env he b hb => List.mem_cons_of_mem _ (List.mem_filterMap.mpr ⟨env, he, hb⟩)
  have hen : (PySem.W.hideAll s3.heap (e :: frs (cxOf (CXE P w) P w K mg base N qual scope f cd A outer s₀ H₀ E).stack)).get? e = none := PySem.W.hideAll_none _ List.mem_cons_self
  have hBh : (PySem.W.hideAll s3.heap (e :: frs (cxOf (CXE P w) P w K mg base N qual scope f cd A outer s₀ H₀ E).stack)).StaysIn s3.heap := fun b o z => PySem.W.of_hideAll _ z
  refine wpAny_mono (kd_any (kd_leaving _ _) (wpAny_leaving_firstW (L := s₀.heap.objs.size) (outer := outer) (base := PySem.W.hideAll s3.heap (e :: frs (cxOf (CXE P w) P w K mg base N qual scope f cd A outer s₀ H₀ E).stack)) (a0 := .ref t)
    (Q := fun _ s' => ∃ h2, s' = { s3 with heap := h2 } ∧ Heap.LeftW (PySem.W.hideAll s3.heap (e :: frs (cxOf (CXE P w) P w K mg base N qual scope f cd A outer s₀ H₀ E).stack)) (envOfC qual scope s₀.heap.objs.size f cd :: outer) e (.ref C) (.ref t) s3.heap h2)
    I.ok.frames (PySem.W.funFrames_hide I3.stack hin) rfl he hBh hen rfl rfl rfl fun h2 L => ⟨h2, rfl, L⟩)) (fun _ s' z => ?_) fun _ _ z => z
  obtain ⟨⟨h2, rfl, k1, ⟨_, _, k2⟩, k3, k4⟩, kd⟩ := z
  obtain ⟨hp, g, d, tt, os⟩ := s3
  have ho : os = s.os := ho
  subst ho
  refine fly_out (s := s) (g := g) (d := d) (t := tt) (h1 := hp) I un hok hfr hg hn hu (fun b o z y => ?_) hBh (⟨⟨k1, hen, k2, k3⟩, dict_on kd ⟨_, he, rfl⟩⟩ : FlyD _ outer e (.ref C) (.ref t) od h2) k4 q
  by_cases hb : b ∈ e :: frs (cxOf (CXE P w) P w K mg base N qual scope f cd A outer s₀ H₀ E).stack
  · rcases List.mem_cons.mp hb with z | z
    · exact .inl z
    · exact .inr (.inl z)
  · rw [PySem.W.hideAll_get _ z hb] at y
    cases y
theorem ps_raiseI {x : Str} {W C : Addr} {k : Nat} {ps : List Str} {np cpos pos : Pos} {a : Expr} {as : List Expr} {t : TA} (Y : ExcI P w K mg base x W C k ps) (hr : Room (k + 1) (cxOf (CXE P w) P w K mg base N qual scope f cd A outer s₀ H₀ E).A) (hg : Gl (cxOf (CXE P w) P w K mg base N qual scope f cd A outer s₀ H₀ E) x)
    (ha : PA (cxOf (CXE P w) P w K mg base N qual scope f cd A outer s₀ H₀ E) (a :: as) t) (hdb : (x == ("__debug__" : Str)) = false := by decide)
    (he : starEach (a :: as) (cxOf (CXE P w) P w K mg base N qual scope f cd A outer s₀ H₀ E).env = (false, eval a (cxOf (CXE P w) P w K mg base N qual scope f cd A outer s₀ H₀ E).env) :: starEach as (cxOf (CXE P w) P w K mg base N qual scope f cd A outer s₀ H₀ E).env := by rfl)
    (hpl : (backTo cpos (starEach as (cxOf (CXE P w) P w K mg base N qual scope f cd A outer s₀ H₀ E).env)).any (·.1) = false := by rfl) :
    PS (cxOf (CXE P w) P w K mg base N qual scope f cd A outer s₀ H₀ E) (.Raise (some (.Call (.Name x np) (a :: as) [] cpos)) none pos) (tRaiseI C E t) := by
  intro pins s σ H D I h
  obtain ⟨fi, fd, F, B, O⟩ := Y.ex
  refine Raise_own O (I.ok.hd rfl) ?_ ?_
  · rw [he]
    show ((false || (backTo cpos (starEach as _)).any (·.1))) = false
    rw [hpl]
    rfl
  refine ld_glob I hg Y.at_ ⟨rfl, ?_⟩ hdb
  have hs := ha cpos pins s σ H _ I h
  rw [he] at hs ⊢
  refine Calls.evalArgs_plain (thn hs fun us s2 ⟨vs, H1, I1, r, i, ev, hi, q⟩ => ⟨rfl, ?_, I1.kIn, fun h1 e mx hsz => ?_⟩)
  · have := r.length
    subst ev
    show us.length ≤ sizeLine
    rw [← this]
    show 1 ≤ sizeLine
    decide
  subst ev
  have new : H1 e = none := I1.hok.fresh hsz
  obtain ⟨t, het, _⟩ := mx.there
  have I2 := I1.laid (a := e) (o := rawX e C none) (t' := s2.toks) mx.keeps hsz (raw_ok ⟨t, het⟩)
  have hl : (Value.ref e :: us).length = ps.length := by
    rw [← F.len [.ref e, .int i] (upd H1 e (rawX e C none)) (fun _ _ => True) E0 ⟨e, i, rfl, upd_same, hi, fun _ _ => True.intro⟩]
    show us.length + 1 = _
    rw [← r.length]
    rfl
  refine wpAny_call (codeAny_mono (F.run _ _ _ (upd H1 e (rawX e C none)) ⟨.ref e :: us, []⟩ (.ref e :: us) [.ref e, .int i] (fun v H2 => v = .non ∧ ∃ dx, upd H1 e (rawX e C none) dx = none ∧ H2 = upd (upd (upd H1 e (rawX e C none)) dx (.xd [("place", .int i)])) e (rawX e C (some dx))) E0
    (hr.make C us []) (I2.env0.make C us []) (by have := B _ (Value.ref e :: us) I2.kIn (by simpa using hl); simpa using this) (.cons rfl r) ⟨e, i, rfl, upd_same, hi, fun dx hd => ⟨rfl, dx, hd, rfl⟩⟩) fun r' s3 hq => ?_)
  cases r' with
  | error x => exact hq.elim
  | ok fl =>
    cases fl with
    | next => exact hq.elim
    | brk => exact hq.elim
    | cont => exact hq.elim
    | ret u =>
      obtain ⟨v, H3, ho, hg3, un, hok, rv, evn, dx, hd, eH⟩ := hq
      subst evn
      obtain rfl : u = Value.none := rv
      have hde : dx ≠ e := fun z => by rw [z, upd_same] at hd; cases hd
      have hd1 : H1 dx = none := by rw [upd_ne hde] at hd; exact hd
      have e3 : H3 e = some (rawX e C (some dx)) := by rw [eH, upd_same]
      obtain ⟨⟨t3, he3⟩, _, _⟩ := (show ObjOk P w H3 s3.heap e (rawX e C (some dx)) from hok e _ e3)
      have mv : ∀ b, b ≠ e → H3 b = upd H1 dx (.xd [("place", .int i)]) b := fun b hb => by
        rw [eH, upd_ne hb]
        by_cases h2 : b = dx
        · subst h2; rw [upd_same, upd_same]
        · rw [upd_ne h2, upd_ne h2, upd_ne hb]
      have hu : upd H1 dx (.xd [("place", .int i)]) e = none := by rw [upd_ne (Ne.symm hde)]; exact new
      have nb : ∀ b o, s2.heap.get? b = some o → b ≠ e := fun b o z y => by rw [y, mx.new] at z; cases z
      have nt : ∀ {b : Addr} {o : HO}, H1 b = some o → b ≠ e := fun z => ne_of_none z new
      have m1 : ∀ b, b ≠ e → upd H1 e (rawX e C none) b = H1 b := fun b hb => upd_ne hb
      have I3 := I2.call' ho un hok hg3 (by simp)
      refine ⟨rfl, t3, some dx, I3.kIn, he3, raise_from (H' := upd H1 dx (.xd [("place", .int i)])) I1 mx.new ho hg3 ⟨fun b o z n nf nx => ?_, fun b o z n nf nx => ?_, fun b o z n nx => ?_, fun b o z nx => ?_, fun b xs z => ?_, fun b o u z => ?_, fun b ps z => ?_⟩ (fun b o z => ?_) hu he3 (q dx hd1)⟩
      · exact un.keep b o (mx.keeps b o z) (by rw [m1 b (nb b o z)]; exact n) nf nx
      · exact un.slot b o (mx.keeps b o z) (by rw [m1 b (nb b o z)]; exact n) nf nx
      · rw [← mv b (nb b o z)]; exact un.free b o (mx.keeps b o z) (by rw [m1 b (nb b o z)]; exact n) nx
      · exact un.there b o (mx.keeps b o z) nx
      · rw [← mv b (nt z)]; exact un.tups b xs (by rw [m1 b (nt z)]; exact z)
      · rw [← mv b (nt z)]; exact un.frzs b o u (by rw [m1 b (nt z)]; exact z)
      · rw [← mv b (nt z)]; exact un.tbls b ps (by rw [m1 b (nt z)]; exact z)
      · have hb : b ≠ e := fun y => by rw [y, hu] at z; cases z
        rw [← mv b hb] at z
        refine (hok b o z).stay (fun _ _ _ y => y) (fun c y => ?_) fun c xs y => ?_
        · rw [← mv c (fun y2 => by rw [y2, e3] at y; cases y)]; exact y
        · rw [← mv c (fun y2 => by rw [y2, e3] at y; cases y)]; exact y
end
end L2
end

section
set_option Elab.async false
set_option linter.all false
set_option maxRecDepth 100000
set_option maxHeartbeats 4000000
/-! list.count and list.index of flat items; readings of the rules for own errors. -/
namespace L2
open PySem PySem.Spec PyProof.Rows
section
variable {X : Cx}
end
section
variable {σ : St} {H : Hp} {D : Ends} {Q : VK} {te ta tv : TE} {t : TA} {K : PySem.W.Frag} {W C : Addr} {E : XK}
theorem r_binit (h : t σ H fun vs H1 => ∃ e C f od z, vs = [.ref e, .str z] ∧ H1 e = some (rawX e C od) ∧ OwnX K W C f ∧ Q .non H1) : tBinit K W t σ H Q := h
theorem r_fstr (h : te σ H fun v H1 => ∃ i : Int, v = .int i ∧ i.natAbs < 10 ^ 12 ∧ ∀ z, Q (.str z) H1) : tFstr te σ H Q := h
theorem r_splace (h : tv σ H fun y H1 => ta σ H1 fun x H2 => ∃ e W C f, x = .ref e ∧ H2 e = some (rawX e C none) ∧ OwnX K W C f ∧ ExcK K C ∧ ∀ dx, H2 dx = none → D.nx σ (upd (upd H2 dx (.xd [("place", y)])) e (rawX e C (some dx)))) : sPlace K ta tv D σ H := h
theorem r_raiseI (h : t σ H fun vs H1 => ∃ i : Int, vs = [.int i] ∧ i.natAbs < 10 ^ 12 ∧ ∀ dx, H1 dx = none → E (.ref C) (some dx) (upd H1 dx (.xd [("place", .int i)]))) : tRaiseI C E t D σ H := h
end
section
variable {X : Cx} {e a b : Expr} {te ta tb : TE} {pos : Pos}
end
end L2
end

section
set_option Elab.async false
set_option linter.all false
set_option maxRecDepth 100000
set_option maxHeartbeats 4000000
/-! Texts parted, a sign's place in a text, numbers written and read; an except clause without a name. -/
namespace L2
open PySem PySem.Spec PyProof.Rows
open Builtin.Str (occurrences partsBetween)
section
variable {X : Cx}
theorem strsVals (l : List (Str × Tok)) : Vals ((l.map (·.1)).map V.str) (strValues l) := by
  induction l with
  | nil => exact .nil
  | cons p r ih => exact .cons ⟨_, rfl⟩ ih
/-- z.split(y) -/
def rSplit : V → List V → Hp → VK → Prop := fun x vs H Q => ∃ z y, x = .str z ∧ vs = [.str y] ∧ (y.length == 0) = false ∧ z.length ≤ 100000 ∧ ∀ D (ws : List Str), H D = none → (∀ a ∈ ws, a.length ≤ z.length) → ws.length ≤ z.length + 2 → Q (.ref D) (upd H D (.lst (ws.map V.str)))
theorem mt_split : MtM X "str.split" rSplit := by
  intro pins s σ H x vs v us Q I rx rv h
  obtain ⟨z, y, rfl, rfl, hy, hz, q⟩ := h
  obtain ⟨t, rfl⟩ := rx
  obtain ⟨u, rfl, ru⟩ := rv.one
  obtain ⟨t', rfl⟩ := ru
  have sl : 200000 ≤ sizeLine := by decide
  have fin : ∀ (l : List (Str × Tok)) (n tk : Nat), l.map (·.1) = Txt.split z y → EP X pins σ Q (.ref s.heap.objs.size) { s with heap := s.heap.push { cls := .type "list", data := .seq (strValues l).toArray n }, toks := tk } := fun l n tk e => by
    have hl := len_le_of_split e
    refine ⟨.ref s.heap.objs.size, upd H s.heap.objs.size (.lst ((l.map (·.1)).map V.str)), I.laid (fun b o w => Heap.get?_push_of_some _ w) (Nat.le_refl _) ⟨?_, strValues l, n, strsVals l, Heap.get?_push_size _ rfl⟩, rfl, q _ _ (I.hok.fresh (Nat.le_refl _)) (fun a ha => part_short (e ▸ ha)) (by rw [List.length_map]; exact hl)⟩
    rw [List.length_map, List.length_map]
    omega
  cases h1 : (decide (z.length < y.length) || decide (Builtin.Str.strKind z < Builtin.Str.strKind y))
  · cases hf : (occurrences z y 0 z.length (z.length + 1)).isEmpty
    · have hp : (partsBetween z (occurrences z y 0 z.length (z.length + 1)) y.length).length ≤ sizeLine := by
        rw [len_partsBetween]
        have := StrLaws.occ_length_le z y 0 z.length (z.length + 1)
        omega
      refine call_meets F.slot_str_split (typeIs_str _ _ _) F.entry_str_split (F.args_str_split_2 _ _) (meets_str_split_sep z y t t' h1 hy hf (by omega) hp) ?_
      show wants _ _ _ { s with toks := _, heap := s.heap.push { cls := .type "list", data := .seq (strsFrom s.toks (partsBetween z (occurrences z y 0 z.length (z.length + 1)) y.length)).toArray } }
      rw [strsFrom_eq]
      exact fin (numbered s.toks _) _ _ ((numbered_texts _ _).trans ((if_neg (ne_true_of_eq_false h1)).trans (if_neg (ne_true_of_eq_false hf))).symm)
    · exact call_meets F.slot_str_split (typeIs_str _ _ _) F.entry_str_split (F.args_str_split_2 _ _) (meets_str_split_not_found z y t t' h1 hy hf) (fin [(z, t)] _ _ ((if_neg (ne_true_of_eq_false h1)).trans (if_pos hf)).symm)
  · exact call_meets F.slot_str_split (typeIs_str _ _ _) F.entry_str_split (F.args_str_split_2 _ _) (meets_str_split_cannot_occur z y t t' h1) (fin [(z, t)] _ _ (if_pos h1).symm)
/-- z.index(y), where it is there -/
def rSIndex : V → List V → Hp → VK → Prop := fun x vs H Q => ∃ z y i rest, x = .str z ∧ vs = [.str y] ∧ occurrences z y 0 z.length 1 = i :: rest ∧ Q (.int (i : Nat)) H
theorem mt_sindex : MtM X "str.index" rSIndex := by
  intro pins s σ H x vs v us Q I rx rv h
  obtain ⟨z, y, i, rest, rfl, rfl, ho, q⟩ := h
  obtain ⟨t, rfl⟩ := rx
  obtain ⟨u, rfl, ru⟩ := rv.one
  obtain ⟨t', rfl⟩ := ru
  exact SC.index ho ⟨.int i, H, I.tok _, ⟨_, rfl⟩, q⟩
/-- int(text) -/
def rIntT : List V → Hp → VK → Prop := fun xs H Q => ∃ z n, xs = [.str z] ∧ PySem.intText? z = some n ∧ z.length ≤ 640 ∧ Q (.int n) H
theorem call_int_text : CallR X (.type "int") rIntT := by
  intro pins s σ H xs us Q I r h
  obtain ⟨z, n, rfl, hn, hl, q⟩ := h
  obtain ⟨u, rfl, t, rfl⟩ := vals1 r
  exact PySem.W.KIN.call_text hn hl ⟨.int n, H, I.tok _, ⟨_, rfl⟩, q⟩
theorem pe_globS {x : Str} {z : Str} {pos : Pos} (hg : Gl X x) (hm : ∃ t, X.mg x = some (.str z t)) (hd : (x == ("__debug__" : Str)) = false := by decide) : PE X (.Name x pos) (tC (.str z)) := by
  obtain ⟨t, h⟩ := hm
  exact pe_glob hg h ⟨t, rfl⟩ hd
/-- f'{number}' -/
def tFstr1 (te : TE) : TE := fun σ H Q => te σ H fun v H1 => ∃ i : Int, v = .int i ∧ i.natAbs.log2 < 1920 ∧ Q (.str (toString i)) H1
theorem pe_fstr1 {e : Expr} {te : TE} {p2 pos : Pos} (he : PE X e te) : PE X (.JoinedStr [.FormattedValue e (-1) none p2] pos) (tFstr1 te) := by
  intro pins s σ H Q I h
  refine JoinedStr_one (FormattedValue_plain (thn (he pins _ σ H _ I h) fun u s1 ⟨v, H1, I1, r, i, ev, hi, q⟩ => ?_))
  subst ev
  obtain ⟨tk, rfl⟩ := r
  exact formatField_int_small hi ⟨.str _, H1, I1.tok _, ⟨_, rfl⟩, q⟩
theorem r_fstr1 {te : TE} {σ : St} {H : Hp} {Q : VK} (h : te σ H fun v H1 => ∃ i : Int, v = .int i ∧ i.natAbs.log2 < 1920 ∧ Q (.str (toString i)) H1) : tFstr1 te σ H Q := h
end
/-! ### except C: without a name -/
def tTryN (K : PySem.W.Frag) (C0 : Value) (tb : XK → TS) (th : TS) : TS := fun D σ H => ∃ E : XK, tb E D σ H ∧ ∀ C od H', E (.ref C) od H' → PySem.W.exmOne K (.ref C) C0 = some true ∧ th D σ H'
section
variable {X : Cx} {x : Str} {C0 : Value} {np hpos pos : Pos} {body suite : List Stmt} {b0 : Stmt} {tb : XK → TS} {th : TS}
theorem ps_tryN (hst : X.stack = X.env :: X.outer) (hfr : X.env.frame = some X.env.locals) (hg : Gl X x) (hm : X.mg x = some C0)
    (hb : ∀ E pins σ, PSsAt (X.wish (landW X E pins σ)) pins σ body (tb E)) (hs : ∀ e, PSs (X.re (X.A.mark (some (.ref e))) false fun _ _ => False) (b0 :: suite) th) (hdb : (x == ("__debug__" : Str)) = false := by decide) :
    PS X (.Try body [.ExceptHandler (some (.Name x np)) none (b0 :: suite) hpos] [] [] pos) (tTryN X.K C0 tb th) := by
  intro pins s σ H D I h
  obtain ⟨E, hb1, hh⟩ := h
  refine wpAny_Try_except (wpAny_mono (hb E pins σ s H D (I.wish _) hb1) (fun f s1 q => ?_) fun ex s1 q => ?_)
  · have q := q.unwish
    cases f with
    | next => exact wpAny_execs_nil q
    | brk => exact q
    | cont => exact q
    | ret v => exact q
  · obtain ⟨H0, s0, I0, e, C, od, H', rfl, ho, hgn, un, hok, hfree, ⟨hn, hu, a0, B, fl, hB⟩, hE⟩ := q
    have fl' := fl
    rw [hst] at fl'
    refine looks_onD (by rw [I.ok.frames, hst]) hfr fl' fun h4 held4 up4 => ?_
    refine landsD held4 fun h5 fl5 up5 => ?_
    have inv : ∀ h6, B.StaysIn h6 → s1.heap.UpToSlots h6 → Inv X pins σ H' { s1 with heap := h6 } := fun h6 st up =>
      I0.call' (s' := { s1 with heap := h6 }) (ch := []) ho (un_land I0 un hB fl.1.1 st up hn) (hok_fly (n := s0.heap) (e := e) (outer := X.stack) hok st hu hfree hB fl.1.1) hgn (fun b z => absurd z (by simp))
    have I5 := inv h5 fl5.1.1 (up4.trans up5)
    refine wpAny_handleBy_cons (codeAny_handlers_test ?_) (by intro q; cases q)
    refine ld_glob (X := X.re (X.A.mark (some (.ref e))) false fun _ _ => False) (I5.re (by rw [mark_frames]; exact I.ok.frames) (by intro z; cases z)) hg hm ?_ hdb
    obtain ⟨hx, hth⟩ := hh C od H' hE
    have LT : PySem.W.Looks (model X.prog X.w) h5 (typeOf (.ref e)) (.ref C) := by
      obtain ⟨ob, hob, hc⟩ := fl5.1.there
      exact hc ▸ (PySem.W.Looks.ld hob).andThen .now
    refine (PySem.W.exm_one I5.kIn LT hx).here ?_
    refine codeAny_handlers_suite ?_
    refine againD fl5 fun h6 fl6 up6 => ?_
    have I6 := inv h6 fl6.1.1 ((up4.trans up5).trans up6)
    have I6m : Inv (X.re (X.A.mark (some (.ref e))) false fun _ _ => False) pins σ H' { s1 with heap := h6 } := I6.re (by rw [mark_frames]; exact I.ok.frames) (by intro z; cases z)
    refine wpAny_mono (hs e pins _ _ _ _ I6m hth) (fun f s8 q8 => ?_) (fun _ _ z => z.elim)
    cases f with
    | next =>
      obtain ⟨σ8, H8, I8, q⟩ := q8
      exact ⟨σ8, H8, I8.unre I.ok, q⟩
    | brk =>
      obtain ⟨σ8, H8, I8, q⟩ := q8
      exact ⟨σ8, H8, I8.unre I.ok, q⟩
    | cont =>
      obtain ⟨σ8, H8, I8, q⟩ := q8
      exact ⟨σ8, H8, I8.unre I.ok, q⟩
    | ret v =>
      obtain ⟨v8, σ8, H8, I8, r8, q⟩ := q8
      exact ⟨v8, σ8, H8, I8.unre I.ok, r8, q⟩
end
/-! ### two things of which both are None, or both lists alike -/
def rSameN (K : PySem.W.Frag) : R2 := fun x y H Q => (x = .non ∧ y = .non ∧ Q (.bl true) H) ∨ rSame K true x y H Q
theorem op_eqN {X : Cx} (hu : X.A.units + 60 < cLine) : OpR X (compareOp .Eq) (rSameN X.K) := by
  intro pins s σ H x y u v Q I rx ry h
  rcases h with ⟨rfl, rfl, q⟩ | h
  · exact op_eq pins s σ H .non .non u v Q I rx ry ⟨rfl, q⟩
  · exact op_eqD hu pins s σ H x y u v Q I rx ry h
end L2
end

section
/-! Tightwood, the mathematics of words: bits as lists of truths, their worth, how many are true, where they are. -/
namespace TW
end TW
end

section
/-! Tightwood, the mathematics of rows: words of 32, blocks of 256, counts ahead. -/
namespace TW
end TW
end

section
/-! Tightwood, the mathematics of rows: words told as signs again. -/
namespace TW
end TW
end

section
/-! Tightwood, the mathematics of counts: places of a bit, word by word. -/
namespace TW
end TW
end

section
set_option Elab.async false
set_option linter.all false
/-! How many texts of m signs lead from k open knots to none; the first one of each even row is the count of woods. -/
namespace TW
end TW
end

section
set_option Elab.async false
set_option linter.all false
/-! Rows whose heights stay within a cap. -/
namespace TW
end TW
end

section
set_option Elab.async false
set_option linter.all false
/-! Woods by the depths of their knots; their rows; their numbers. -/
namespace TW
def dAt (ds : List Nat) (k : Nat) : Nat := ds.getD k 0
/-- how many are open ahead of the knot k -/
def opn (ds : List Nat) : Nat → Nat
  | 0 => 0
  | k + 1 => dAt ds k + 1
/-- the way of the knots that may be its elder -/
def way (ds : List Nat) : Nat → List Int
  | 0 => [-1]
  | k + 1 => (way ds k).take (dAt ds k + 1) ++ [(k : Int)]
def Dok (ds : List Nat) : Prop := ∀ k, k < ds.length → dAt ds k ≤ opn ds k
def eld (ds : List Nat) (k : Nat) : Int := (way ds k).getD (dAt ds k) 0
def elds (ds : List Nat) : List Int := (List.range ds.length).map (eld ds)
theorem way_len {ds : List Nat} (h : Dok ds) : ∀ k, k ≤ ds.length → (way ds k).length = opn ds k + 1
  | 0, _ => rfl
  | k + 1, hk => by
    show ((way ds k).take (dAt ds k + 1) ++ [(k : Int)]).length = dAt ds k + 1 + 1
    have := way_len h k (by omega)
    have := h k (by omega)
    rw [List.length_append, List.length_take]
    simp only [List.length_cons, List.length_nil]
    omega
theorem way_zero {ds : List Nat} (h : Dok ds) : ∀ k, k ≤ ds.length → (way ds k)[0]? = some (-1)
  | 0, _ => rfl
  | k + 1, hk => by
    show ((way ds k).take (dAt ds k + 1) ++ [(k : Int)])[0]? = some (-1)
    have e := way_zero h k (by omega)
    have hl := way_len h k (by omega)
    rw [List.getElem?_append_left (by rw [List.length_take]; omega), List.getElem?_take_of_lt (by omega)]
    exact e
theorem way_at {ds : List Nat} (h : Dok ds) : ∀ (k j : Nat) (x : Int), k ≤ ds.length → (way ds k)[j + 1]? = some x → ∃ v : Nat, x = (v : Int) ∧ v < k ∧ dAt ds v = j
  | 0, j, x, _, e => by cases e
  | k + 1, j, x, hk, e => by
    have e : ((way ds k).take (dAt ds k + 1) ++ [(k : Int)])[j + 1]? = some x := e
    have hl := way_len h k (by omega)
    have hd := h k (by omega)
    have hl2 : ((way ds k).take (dAt ds k + 1)).length = dAt ds k + 1 := by rw [List.length_take]; omega
    by_cases hj : j + 1 < dAt ds k + 1
    · rw [List.getElem?_append_left (by omega), List.getElem?_take_of_lt hj] at e
      obtain ⟨v, hv, hlt, hdv⟩ := way_at h k j x (by omega) e
      exact ⟨v, hv, by omega, hdv⟩
    · rw [List.getElem?_append_right (by omega), hl2] at e
      have e0 : j + 1 - (dAt ds k + 1) = 0 := by
        have := (List.getElem?_eq_some_iff.mp e).1
        simp only [List.length_cons, List.length_nil] at this
        omega
      rw [e0] at e
      have e := Option.some.inj e
      exact ⟨k, e.symm, by omega, by omega⟩
theorem way_lt {ds : List Nat} (h : Dok ds) : ∀ (k i j : Nat) (x y : Int), k ≤ ds.length → i < j → (way ds k)[i]? = some x → (way ds k)[j]? = some y → x < y
  | 0, i, j, x, y, _, hij, e1, e2 => by
    have := (List.getElem?_eq_some_iff.mp e2).1
    simp only [way, List.length_cons, List.length_nil] at this
    omega
  | k + 1, i, j, x, y, hk, hij, e1, e2 => by
    have hl := way_len h k (by omega)
    have hd := h k (by omega)
    have hl2 : ((way ds k).take (dAt ds k + 1)).length = dAt ds k + 1 := by rw [List.length_take]; omega
    have e2' : ((way ds k).take (dAt ds k + 1) ++ [(k : Int)])[j]? = some y := e2
    have e1' : ((way ds k).take (dAt ds k + 1) ++ [(k : Int)])[i]? = some x := e1
    by_cases hj : j < dAt ds k + 1
    · rw [List.getElem?_append_left (by omega), List.getElem?_take_of_lt hj] at e2'
      rw [List.getElem?_append_left (by omega), List.getElem?_take_of_lt (by omega)] at e1'
      exact way_lt h k i j x y (by omega) hij e1' e2'
    · rw [List.getElem?_append_right (by omega), hl2] at e2'
      have e0 : j - (dAt ds k + 1) = 0 := by
        have := (List.getElem?_eq_some_iff.mp e2').1
        simp only [List.length_cons, List.length_nil] at this
        omega
      rw [e0] at e2'
      have ey := Option.some.inj e2'
      rw [List.getElem?_append_left (by omega), List.getElem?_take_of_lt (by omega)] at e1'
      cases i with
      | zero =>
        rw [way_zero h k (by omega)] at e1'
        have := Option.some.inj e1'
        omega
      | succ i =>
        obtain ⟨v, hv, hlt, _⟩ := way_at h k i x (by omega) e1'
        omega
theorem eld_at {ds : List Nat} (h : Dok ds) {k : Nat} (hk : k < ds.length) : (way ds k)[dAt ds k]? = some (eld ds k) := by
  have hl := way_len h k (by omega)
  have hd := h k hk
  unfold eld List.getD
  rw [List.getElem?_eq_getElem (by omega)]
  rfl
theorem eld_top {ds : List Nat} (h : Dok ds) {k : Nat} (hk : k < ds.length) (e : eld ds k = -1) : dAt ds k = 0 := by
  have ha := eld_at h hk
  cases hd : dAt ds k with
  | zero => rfl
  | succ j =>
    rw [hd] at ha
    obtain ⟨v, hv, _⟩ := way_at h k j _ (by omega) ha
    omega
theorem eld_deep {ds : List Nat} (h : Dok ds) {k : Nat} (hk : k < ds.length) (e : eld ds k ≠ -1) : ∃ v : Nat, eld ds k = (v : Int) ∧ v < k ∧ dAt ds k = dAt ds v + 1 := by
  have ha := eld_at h hk
  cases hd : dAt ds k with
  | zero =>
    rw [hd, way_zero h k (by omega)] at ha
    exact absurd (Option.some.inj ha).symm e
  | succ j =>
    rw [hd] at ha
    obtain ⟨v, hv, hlt, hdv⟩ := way_at h k j _ (by omega) ha
    exact ⟨v, hv, hlt, by omega⟩
theorem elds_len (ds : List Nat) : (elds ds).length = ds.length := by unfold elds; rw [List.length_map, List.length_range]
theorem elds_at {ds : List Nat} {k : Nat} (hk : k < ds.length) : (elds ds)[k]? = some (eld ds k) := by
  unfold elds
  rw [List.getElem?_map, List.getElem?_range hk]
  rfl
/-! ### rows -/
def pieceB (ds : List Nat) (k : Nat) : List Bool := List.replicate (opn ds k - dAt ds k) false ++ [true]
def rowP (ds : List Nat) (k : Nat) : List Bool := ((List.range k).map (pieceB ds)).flatten
def rowD (ds : List Nat) : List Bool := rowP ds ds.length ++ List.replicate (opn ds ds.length) false
theorem rowP_succ (ds : List Nat) (k : Nat) : rowP ds (k + 1) = rowP ds k ++ pieceB ds k := by
  unfold rowP
  rw [List.range_succ, List.map_append, List.flatten_append]
  simp
theorem rowP_len {ds : List Nat} (h : Dok ds) : ∀ k, k ≤ ds.length → (rowP ds k).length + opn ds k = 2 * k
  | 0, _ => rfl
  | k + 1, hk => by
    have := rowP_len h k (by omega)
    have := h k (by omega)
    rw [rowP_succ, List.length_append]
    show (rowP ds k).length + (List.replicate (opn ds k - dAt ds k) false ++ [true]).length + (dAt ds k + 1) = 2 * (k + 1)
    rw [List.length_append, List.length_replicate]
    simp only [List.length_cons, List.length_nil]
    omega
theorem rowD_len {ds : List Nat} (h : Dok ds) : (rowD ds).length = 2 * ds.length := by
  unfold rowD
  rw [List.length_append, List.length_replicate]
  exact rowP_len h _ (Nat.le_refl _)
/-- what may stand behind a height -/
def Vs : Nat → List Bool → Prop
  | h, [] => h = 0
  | h, false :: s => 0 < h ∧ Vs (h - 1) s
  | h, true :: s => Vs (h + 1) s
theorem vs_zeros : ∀ (m h : Nat) (s : List Bool), Vs h s → Vs (h + m) (List.replicate m false ++ s)
  | 0, h, s, v => v
  | m + 1, h, s, v => by
    rw [List.replicate_succ]
    refine ⟨by omega, ?_⟩
    show Vs (h + (m + 1) - 1) (List.replicate m false ++ s)
    rw [show h + (m + 1) - 1 = h + m by omega]
    exact vs_zeros m h s v
theorem vs_from {ds : List Nat} (h : Dok ds) : ∀ (m k : Nat), k + m = ds.length → Vs (opn ds k) (((List.range m).map fun i => pieceB ds (k + i)).flatten ++ List.replicate (opn ds ds.length) false)
  | 0, k, e => by
    have e : k = ds.length := by omega
    subst e
    have := vs_zeros (opn ds ds.length) 0 [] rfl
    rw [Nat.zero_add, List.append_nil] at this
    exact this
  | m + 1, k, e => by
    have ih := vs_from h m (k + 1) (by omega)
    have hd := h k (by omega)
    rw [List.range_succ_eq_map, List.map_cons, List.map_map, List.flatten_cons]
    have e1 : ((fun i => pieceB ds (k + i)) ∘ Nat.succ) = fun i => pieceB ds (k + 1 + i) := by
      funext i
      show pieceB ds (k + (i + 1)) = pieceB ds (k + 1 + i)
      rw [show k + (i + 1) = k + 1 + i by omega]
    rw [e1]
    show Vs (opn ds k) ((List.replicate (opn ds k - dAt ds (k + 0)) false ++ [true] ++ _) ++ _)
    rw [Nat.add_zero, List.append_assoc, List.append_assoc]
    have := vs_zeros (opn ds k - dAt ds k) (dAt ds k) (true :: (((List.range m).map fun i => pieceB ds (k + 1 + i)).flatten ++ List.replicate (opn ds ds.length) false)) ih
    rw [show dAt ds k + (opn ds k - dAt ds k) = opn ds k by omega] at this
    exact this
theorem vs_row {ds : List Nat} (h : Dok ds) : Vs 0 (rowD ds) := by
  have := vs_from h ds.length 0 (by omega)
  unfold rowD rowP
  have e : (fun i => pieceB ds (0 + i)) = pieceB ds := by funext i; rw [Nat.zero_add]
  rw [e] at this
  exact this
/-! ### a row tells its depths -/
theorem pieces_inj : ∀ (m n : Nat) (s t : List Bool), List.replicate m false ++ true :: s = List.replicate n false ++ true :: t → m = n ∧ s = t
  | 0, 0, s, t, e => ⟨rfl, by simpa using e⟩
  | 0, n + 1, s, t, e => by rw [List.replicate_succ] at e; cases e
  | m + 1, 0, s, t, e => by rw [List.replicate_succ] at e; cases e
  | m + 1, n + 1, s, t, e => by
    rw [List.replicate_succ, List.replicate_succ] at e
    obtain ⟨a, b⟩ := pieces_inj m n s t (List.cons.inj e).2
    exact ⟨by omega, b⟩
theorem rest_inj {ds es : List Nat} (h1 : Dok ds) (h2 : Dok es) (hl : ds.length = es.length) : ∀ (m k : Nat), k + m = ds.length → opn ds k = opn es k →
    ((List.range m).map fun i => pieceB ds (k + i)).flatten ++ List.replicate (opn ds ds.length) false = ((List.range m).map fun i => pieceB es (k + i)).flatten ++ List.replicate (opn es es.length) false → ∀ i, k ≤ i → i < ds.length → dAt ds i = dAt es i
  | 0, k, e, _, _ => fun i a b => by omega
  | m + 1, k, e, ho, hr => fun i a b => by
    have f : ∀ xs : List Nat, ((List.range (m + 1)).map fun i => pieceB xs (k + i)).flatten = List.replicate (opn xs k - dAt xs k) false ++ true :: ((List.range m).map fun i => pieceB xs (k + 1 + i)).flatten := fun xs => by
      rw [List.range_succ_eq_map, List.map_cons, List.map_map, List.flatten_cons]
      have e1 : ((fun i => pieceB xs (k + i)) ∘ Nat.succ) = fun i => pieceB xs (k + 1 + i) := by
        funext i
        show pieceB xs (k + (i + 1)) = pieceB xs (k + 1 + i)
        rw [show k + (i + 1) = k + 1 + i by omega]
      rw [e1]
      show (List.replicate (opn xs k - dAt xs (k + 0)) false ++ [true]) ++ _ = _
      rw [Nat.add_zero, List.append_assoc]
      rfl
    rw [f, f, List.append_assoc, List.append_assoc, List.cons_append, List.cons_append] at hr
    obtain ⟨e1, e2⟩ := pieces_inj _ _ _ _ hr
    have d1 := h1 k (by omega)
    have d2 := h2 k (by omega)
    have hk : dAt ds k = dAt es k := by omega
    by_cases hi : i = k
    · rw [hi]; exact hk
    · exact rest_inj h1 h2 hl m (k + 1) (by omega) (by show dAt ds k + 1 = dAt es k + 1; omega) e2 i (by omega) b
theorem rowD_inj {ds es : List Nat} (h1 : Dok ds) (h2 : Dok es) (e : rowD ds = rowD es) : ds = es := by
  have hl : ds.length = es.length := by
    have a := rowD_len h1
    have b := rowD_len h2
    rw [e] at a
    omega
  have z : ∀ xs : List Nat, rowD xs = ((List.range xs.length).map fun i => pieceB xs (0 + i)).flatten ++ List.replicate (opn xs xs.length) false := fun xs => by
    unfold rowD rowP
    have e : (fun i => pieceB xs (0 + i)) = pieceB xs := by funext i; rw [Nat.zero_add]
    rw [e]
  have key := rest_inj h1 h2 hl ds.length 0 (by omega) rfl (by rw [← z, e, z, hl])
  refine List.ext_getElem hl fun k a b => ?_
  have := key k (by omega) a
  unfold dAt at this
  simpa [List.getD, a, b] using this
end TW
end

section
set_option Elab.async false
set_option linter.all false
/-! A number leads to its row; woods beside or upon one another. -/
namespace TW
end TW
end

section
set_option Elab.async false
set_option linter.all false
/-! The next row. -/
namespace TW
/-- the height behind a beginning -/
def hN : Nat → List Bool → Nat
  | h, [] => h
  | h, false :: s => hN (h - 1) s
  | h, true :: s => hN (h + 1) s
end TW
end

section
set_option linter.all false
/-! Numbers as rows of signs, the greatest first; how many are needed. -/
namespace TW
end TW
end

set_option Elab.async false
set_option linter.all false
set_option maxRecDepth 100000
set_option maxHeartbeats 4000000
local macro_rules | `(tactic| walk_at "rd") => `(tactic| repeat (first | with_reducible refine L2.r_seq ?_ | with_reducible refine L2.r_next ?_ | with_reducible refine L2.r_asg ?_ | with_reducible refine L2.r_gname ?_ | with_reducible refine L2.r_ret ?_ | with_reducible refine L2.r_retN ?_ | with_reducible refine L2.r_drop ?_ | with_reducible refine L2.r_ifs ?_ | with_reducible refine L2.r_test ?_ | with_reducible refine L2.r_tB ?_ | with_reducible refine L2.r_not ?_ | with_reducible refine L2.r_and ?_ | with_reducible refine L2.r_or ?_ | with_reducible refine L2.r_isN ?_ | with_reducible refine L2.r_notN ?_ | with_reducible refine L2.r_op ?_ | with_reducible refine L2.r_un ?_ | with_reducible refine L2.r_rU ?_ | with_reducible refine L2.r_c ?_ | with_reducible refine L2.r_rI0 ?_ | with_reducible refine L2.r_ipI ?_ | with_reducible refine L2.r_bl ?_ | with_reducible refine L2.r_int ?_ | with_reducible refine L2.r_nil ?_ | with_reducible refine L2.r_cons ?_ | with_reducible refine L2.r_call ?_ | with_reducible refine L2.r_cB ?_ | with_reducible refine L2.r_lst ?_ | with_reducible refine L2.r_tup ?_ | with_reducible refine L2.r_bm ?_ | with_reducible refine L2.r_bm0 ?_ | with_reducible refine L2.r_sl ?_ | with_reducible refine L2.r_nopart ?_ | with_reducible refine L2.r_part ?_ | with_reducible refine L2.r_for ?_ | with_reducible refine L2.r_rng1 ?_ | with_reducible refine L2.r_rng2 ?_ | with_reducible refine L2.r_rng3 ?_ | with_reducible refine L2.r_ilist ?_ | with_reducible refine L2.r_itup ?_ | with_reducible refine L2.r_istr ?_ | with_reducible refine L2.r_lc ?_ | with_reducible refine L2.r_yes ?_ | with_reducible refine L2.r_ifE ?_ | with_reducible refine L2.r_chain ?_ | with_reducible refine L2.r_andV ?_ | with_reducible refine L2.r_orV ?_ | with_reducible refine L2.r_notV ?_ | with_reducible refine L2.r_fld ?_ | with_reducible refine L2.r_sfld ?_ | with_reducible refine L2.r_make ?_ | with_reducible refine L2.r_meth ?_ | with_reducible refine L2.r_rev ?_ | with_reducible refine L2.r_cBK ?_ | with_reducible refine L2.r_izip ?_ | with_reducible refine L2.r_ienum ?_ | with_reducible refine L2.r_lc2 ?_ | with_reducible refine L2.r_ienumS ?_ | with_reducible refine L2.r_rngD ?_ | with_reducible refine L2.r_dnew ?_ | with_reducible refine L2.r_binit ?_ | with_reducible refine L2.r_fstr ?_ | with_reducible refine L2.r_fstr1 ?_ | with_reducible refine L2.r_splace ?_ | with_reducible refine L2.r_place ?_ | with_reducible refine L2.r_raiseI ?_ | with_reducible refine L2.r_mod (by decide) ?_ | with_reducible refine L2.r_shr (by decide) ?_ | with_reducible refine L2.r_div (by decide) (by decide) ?_ | with_reducible refine L2.r_mulR (by decide) (by decide) ?_ | with_reducible refine L2.r_mulL (by decide) (by decide) ?_ | with_reducible refine L2.r_rEq rfl ?_ | with_reducible refine L2.r_rNe rfl ?_ | with_reducible refine L2.iteT ?_ | with_reducible refine L2.iteF ?_ | with_reducible refine L2.iteNT ?_ | with_reducible refine L2.iteNF ?_ | refine L2.r_var rfl ?_ | refine L2.r_aug rfl ?_ | dsimp only))
namespace TK
open PySem L2 TW
def top (i : Nat) : Stmt := PySem.Challenge.pw_tightwood_k16_words_of_rows.main.body.getD i (.Pass ⟨0, 0, 0, 0⟩)
abbrev s_NoRow_init : Stmt := inClass (top 2) 0
theorem sc_NoRow_init : FnScope ["self", "place"] ["self", "place"] (defScope s_NoRow_init) := ⟨rfl, rfl, rfl, by decide +kernel, rfl, by decide +kernel, by decide +kernel⟩
abbrev s_check_row : Stmt := top 5
theorem sc_check_row : FnScope ["text", "height", "place", "sign"] ["text"] (defScope s_check_row) := ⟨rfl, rfl, rfl, by decide +kernel, rfl, by decide +kernel, by decide +kernel⟩
abbrev s_elders_of : Stmt := top 8
theorem sc_elders_of : FnScope ["text", "elders", "path", "sign"] ["text"] (defScope s_elders_of) := ⟨rfl, rfl, rfl, by decide +kernel, rfl, by decide +kernel, by decide +kernel⟩
abbrev s_written_number : Stmt := top 11
theorem sc_written_number : FnScope ["word", "figures", "number", "sign"] ["word", "figures"] (defScope s_written_number) := ⟨rfl, rfl, rfl, by decide +kernel, rfl, by decide +kernel, by decide +kernel⟩
abbrev s_wood_of_word : Stmt := top 12
theorem sc_wood_of_word : FnScope ["word", "elders"] ["word"] (defScope s_wood_of_word) := ⟨rfl, rfl, rfl, by decide +kernel, rfl, by decide +kernel, by decide +kernel⟩
abbrev s_shown : Stmt := top 14
theorem sc_shown : FnScope ["answer"] ["answer"] (defScope s_shown) := ⟨rfl, rfl, rfl, by decide +kernel, rfl, by decide +kernel, by decide +kernel⟩
abbrev s_shown_list : Stmt := top 13
theorem sc_shown_list : FnScope ["some"] ["some"] (defScope s_shown_list) := ⟨rfl, rfl, rfl, by decide +kernel, rfl, by decide +kernel, by decide +kernel⟩
theorem lc_shown_list_0 : LcScope ["some"] (defScope s_shown_list) { kind := .function, names := [(".0", .local), ("one", .local), ("shown", .globalImplicit)], isGenerator := false, isCoroutine := false, more := [] } "one" ["one"] [] := ⟨rfl, by decide +kernel, by decide +kernel, by decide +kernel, by decide +kernel, rfl, rfl, rfl, by decide +kernel⟩
abbrev s_law_number : Stmt := top 17
theorem sc_law_number : FnScope ["_law_cell"] ["_law_cell"] (defScope s_law_number) := ⟨rfl, rfl, rfl, by decide +kernel, rfl, by decide +kernel, by decide +kernel⟩
abbrev s_law_twice : Stmt := top 18
theorem sc_law_twice : FnScope ["_law_cell", "_law_k", "_law_number_here"] ["_law_cell", "_law_k"] (defScope s_law_twice) := ⟨rfl, rfl, rfl, by decide +kernel, rfl, by decide +kernel, by decide +kernel⟩
abbrev s_law_wood : Stmt := top 19
theorem sc_law_wood : FnScope ["_law_cell", "_law_most", "_law_size", "_law_left", "_law_spine", "_law_elders", "_law_k", "_law_at"] ["_law_cell", "_law_most"] (defScope s_law_wood) := ⟨rfl, rfl, rfl, by decide +kernel, rfl, by decide +kernel, by decide +kernel⟩
abbrev s_law_row : Stmt := top 20
theorem sc_law_row : FnScope ["_law_elders", "_law_row_here", "_law_open_ones", "_law_k"] ["_law_elders"] (defScope s_law_row) := ⟨rfl, rfl, rfl, by decide +kernel, rfl, by decide +kernel, by decide +kernel⟩
abbrev s_law_read : Stmt := top 21
theorem sc_law_read : FnScope ["_law_word", "_law_elders", "_law_open_ones", "_law_sign"] ["_law_word"] (defScope s_law_read) := ⟨rfl, rfl, rfl, by decide +kernel, rfl, by decide +kernel, by decide +kernel⟩
abbrev s_law_figures : Stmt := top 22
theorem sc_law_figures : FnScope ["_law_word", "_law_most", "_law_sign"] ["_law_word", "_law_most"] (defScope s_law_figures) := ⟨rfl, rfl, rfl, by decide +kernel, rfl, by decide +kernel, by decide +kernel⟩
abbrev s_law_spoiled : Stmt := top 23
theorem sc_law_spoiled : FnScope ["_law_word", "_law_number_here", "_law_at", "_law_sign"] ["_law_word", "_law_number_here"] (defScope s_law_spoiled) := ⟨rfl, rfl, rfl, by decide +kernel, rfl, by decide +kernel, by decide +kernel⟩
abbrev s_law_right : Stmt := top 24
theorem sc_law_right : FnScope ["_law_word", "_law_due", "_law_found"] ["_law_word"] (defScope s_law_right) := ⟨rfl, rfl, rfl, by decide +kernel, rfl, by decide +kernel, by decide +kernel⟩
abbrev s_law : Stmt := top 25
theorem sc_law : FnScope ["_law_script", "_law_text", "_law_cell", "_law_elders", "_law_number_here", "_law_row_here", "_law_due", "_law_word", "_law_most", "_law_found"] ["_law_script"] (defScope s_law) := ⟨rfl, rfl, rfl, by decide +kernel, rfl, by decide +kernel, by decide +kernel⟩
theorem lc_law_0 : LcScope ["_law_script", "_law_text", "_law_cell", "_law_elders", "_law_number_here", "_law_row_here", "_law_due", "_law_word", "_law_most", "_law_found"] (defScope s_law) { kind := .function, names := [(".0", .local), ("_law_one", .local), ("str", .globalImplicit)], isGenerator := false, isCoroutine := false, more := [] } "_law_one" ["_law_one"] [] := ⟨rfl, by decide +kernel, by decide +kernel, by decide +kernel, by decide +kernel, rfl, rfl, rfl, by decide +kernel⟩
/-- a row of truths as a text of signs -/
def signs (l : List Bool) : Str := ⟨(l.map fun b => if b then 49 else 48).toArray⟩
theorem signs_len (l : List Bool) : (signs l).length = l.length := by
  show (l.map _).toArray.size = _
  rw [List.size_toArray, List.length_map]
theorem rep_signs (b : Bool) (k : Nat) : repS (sgn (if b then 49 else 48)) k = signs (List.replicate k b) := by
  refine ext_cps ?_
  show (List.replicate k [if b then 49 else 48]).flatten.toArray.toList = ((List.replicate k b).map _).toArray.toList
  rw [List.toList_toArray, List.toList_toArray, List.map_replicate]
  induction k with
  | zero => rfl
  | succ k ih =>
    rw [List.replicate_succ, List.flatten_cons, ih, List.replicate_succ]
    rfl
theorem signs_cps (l : List Bool) : (signs l).cps.toList = l.map fun b => if b then 49 else 48 := by
  show (l.map _).toArray.toList = _
  rw [List.toList_toArray]
theorem signs_append (a b : List Bool) : signs a ++ signs b = signs (a ++ b) := by
  refine ext_cps ?_
  show ((signs a).cps ++ (signs b).cps).toList = _
  rw [Array.toList_append, signs_cps, signs_cps, signs_cps, List.map_append]
theorem repS_signs (l : List Bool) (k : Nat) : repS (signs l) k = signs (List.replicate k l).flatten := by
  refine ext_cps ?_
  show (List.replicate k (signs l).cps.toList).flatten.toArray.toList = _
  rw [List.toList_toArray, signs_cps, signs_cps, List.map_flatten, List.map_replicate]
theorem few {n : Nat} (h : n ≤ 1000) : n ≤ sizeLine := Nat.le_of_lt (small1000 h)
theorem small20000 {n : Nat} (h : n ≤ 100000) : n < sizeLine := Nat.lt_of_le_of_lt h (by decide)
theorem sign_of {l : List Bool} {i c : Nat} (h : (signs l).cps[i]? = some c) : ∃ b, l[i]? = some b ∧ c = if b then 49 else 48 := by
  have e : (signs l).cps.toList[i]? = some c := by rw [Array.getElem?_toList]; exact h
  rw [signs_cps, List.getElem?_map] at e
  cases hb : l[i]? with
  | none => rw [hb] at e; cases e
  | some b =>
    rw [hb] at e
    exact ⟨b, rfl, (Option.some.inj e).symm⟩
theorem at_lt {α : Type} {l : List α} {i : Nat} {b : α} (h : l[i]? = some b) : i < l.length := (List.getElem?_eq_some_iff.mp h).1

theorem cut_ints (ns : List Int) (lo hi : Option Int) : ∃ ms : List Int, cutV (ns.map V.int) lo hi = ms.map V.int ∧ ms.length ≤ ns.length := by
  refine ⟨(ns.drop (HT.sIx (ns.map V.int).length 0 lo)).take (HT.sIx (ns.map V.int).length (ns.map V.int).length hi - HT.sIx (ns.map V.int).length 0 lo), ?_, ?_⟩
  · unfold cutV
    rw [List.map_take, List.map_drop]
  · rw [List.length_take, List.length_drop]
    omega
theorem emod_nat (r : Int) (n : Nat) : ∃ k : Nat, r % ((n : Int) + 1) = (k : Int) ∧ k ≤ n := by
  have h0 := Int.emod_nonneg r (show ((n : Int) + 1) ≠ 0 by omega)
  have h1 := Int.emod_lt_of_pos r (show (0 : Int) < (n : Int) + 1 by omega)
  exact ⟨(r % ((n : Int) + 1)).toNat, by omega, by omega⟩
theorem push_same {H H1 : Hp} {a : Addr} {o : HO} (s : Same H H1) (h : H a = none) : Same H (upd H1 a o) := fun b u e => by
  rw [upd_ne (ne_of_none e h)]
  exact s _ _ e
theorem iV_at {l : List Int} {i : Nat} {n : Int} (h : l[i]? = some n) : (l.map V.int)[i]? = some (.int n) := by
  rw [List.getElem?_map, h]
  rfl
theorem iV_get {l : List Int} {i : Nat} {x : V} (h : (l.map V.int)[i]? = some x) : ∃ n, l[i]? = some n ∧ x = .int n := by
  rw [List.getElem?_map] at h
  cases e : l[i]? with
  | none => rw [e] at h; cases h
  | some n =>
    rw [e] at h
    exact ⟨n, rfl, (Option.some.inj h).symm⟩
theorem last_take {l : List Int} {m : Nat} {x : Int} (h0 : 0 < m) (h : l[m - 1]? = some x) : atI ((l.take m).map V.int) (-1) = some (.int x) := by
  have hm := at_lt h
  have e : l.take m = l.take (m - 1) ++ [x] := by
    rw [show m = m - 1 + 1 by omega, List.take_add_one, h]
    rfl
  rw [e, List.map_append]
  exact atI_last _ _
theorem len_take {l : List Int} {m : Nat} (h : m ≤ l.length) : ((l.take m).map V.int).length = m := by rw [List.length_map, List.length_take]; omega
theorem drop_last {l : List Int} {m : Nat} (h : m ≤ l.length) : ((l.take m).map V.int).dropLast = (l.take (m - 1)).map V.int := by
  rw [← List.map_dropLast, List.dropLast_eq_take, List.take_take, List.length_take]
  congr 2
  omega
def lenAt (H : Hp) (p : Addr) : Nat := match H p with | some (.lst xs) => xs.length | _ => 0
theorem lenAt_of {H : Hp} {p : Addr} {xs : List V} (h : H p = some (.lst xs)) : lenAt H p = xs.length := by unfold lenAt; rw [h]
theorem opn_le {ds : List Nat} (h : Dok ds) : ∀ k, k ≤ ds.length → opn ds k ≤ k
  | 0, _ => Nat.le_refl _
  | k + 1, hk => by
    show dAt ds k + 1 ≤ k + 1
    have := h k (by omega)
    have := opn_le h k (by omega)
    omega
theorem dAt_snoc {ds : List Nat} {d j : Nat} (h : j < ds.length) : dAt (ds ++ [d]) j = dAt ds j := by
  unfold dAt List.getD
  rw [List.getElem?_append_left h]
theorem dAt_new (ds : List Nat) (d : Nat) : dAt (ds ++ [d]) ds.length = d := by
  unfold dAt List.getD
  rw [List.getElem?_append_right (Nat.le_refl _), Nat.sub_self]
  rfl
theorem opn_snoc {ds : List Nat} {d : Nat} : ∀ k, k ≤ ds.length → opn (ds ++ [d]) k = opn ds k
  | 0, _ => rfl
  | k + 1, h => by
    show dAt (ds ++ [d]) k + 1 = dAt ds k + 1
    rw [dAt_snoc (by omega)]
theorem way_snoc {ds : List Nat} {d : Nat} : ∀ k, k ≤ ds.length → way (ds ++ [d]) k = way ds k
  | 0, _ => rfl
  | k + 1, h => by
    show (way (ds ++ [d]) k).take (dAt (ds ++ [d]) k + 1) ++ [(k : Int)] = _
    rw [way_snoc k (by omega), dAt_snoc (by omega)]
    rfl
theorem dok_snoc {ds : List Nat} {d : Nat} (h : Dok ds) (hd : d ≤ opn ds ds.length) : Dok (ds ++ [d]) := fun k hk => by
  rw [List.length_append] at hk
  simp only [List.length_cons, List.length_nil] at hk
  by_cases e : k = ds.length
  · subst e
    rw [dAt_new, opn_snoc _ (Nat.le_refl _)]
    exact hd
  · rw [dAt_snoc (by omega), opn_snoc k (by omega)]
    exact h k (by omega)
theorem elds_snoc (ds : List Nat) (d : Nat) : elds (ds ++ [d]) = elds ds ++ [(way ds ds.length).getD d 0] := by
  unfold elds
  rw [List.length_append]
  show (List.range (ds.length + 1)).map _ = _
  rw [List.range_succ, List.map_append]
  congr 1
  · refine List.map_congr_left fun k hk => ?_
    have hk := List.mem_range.mp hk
    unfold eld
    rw [way_snoc k (by omega), dAt_snoc hk]
  · show [eld (ds ++ [d]) ds.length] = _
    unfold eld
    rw [way_snoc _ (Nat.le_refl _), dAt_new]
theorem way_next (ds : List Nat) (d : Nat) : way (ds ++ [d]) (ds.length + 1) = (way ds ds.length).take (d + 1) ++ [(ds.length : Int)] := by
  show (way (ds ++ [d]) ds.length).take (dAt (ds ++ [d]) ds.length + 1) ++ _ = _
  rw [way_snoc _ (Nat.le_refl _), dAt_new]
theorem way_head {ds : List Nat} (h : Dok ds) {k : Nat} (hk : k ≤ ds.length) : way ds k = -1 :: (way ds k).tail := by
  have e := way_zero h k hk
  cases hw : way ds k with
  | nil => rw [hw] at e; cases e
  | cons x r =>
    rw [hw] at e
    obtain rfl := Option.some.inj e
    rfl

def isS : V → Bool
  | .str _ => true
  | _ => false
/-- a thing of any kind, as isinstance by str sees it -/
def AnyS (K : PySem.W.Frag) (H : Hp) (x : V) : Prop := ∃ t, TyOf K H x t ∧ PySem.W.kitOne K t (.type "str") = some (isS x)
section
variable {K : PySem.W.Frag} {H H' : Hp}
theorem anyS_str (z : Str) : AnyS K H (.str z) := ⟨_, .str z, by rfl⟩
end
/-- the signs of a text that are neither 0 nor 1 -/
def isBad (c : Nat) : Bool := !decide (c ∈ [48, 49])
theorem occ01 (c : Nat) : (!(!(Builtin.Str.occurrences ("01" : Str) (sgn c) 0 ("01" : Str).length 1).isEmpty)) = isBad c := by
  rw [show (!(Builtin.Str.occurrences ("01" : Str) (sgn c) 0 ("01" : Str).length 1).isEmpty) = decide (c ∈ ("01" : Str).cps.toList) from PySem.StrLaws.found_one "01" c]
  rfl
def hgt (l : List Bool) (i : Nat) : Int := 2 * ((l.take i).count true : Int) - i
theorem hgt_succ {l : List Bool} {i : Nat} {b : Bool} (h : l[i]? = some b) : hgt l (i + 1) = hgt l i + if b then 1 else -1 := by
  unfold hgt
  rw [List.take_add_one, h, List.count_append]
  cases b <;> simp <;> omega
theorem rowP_snoc {ds : List Nat} {d : Nat} : ∀ k, k ≤ ds.length → rowP (ds ++ [d]) k = rowP ds k
  | 0, _ => rfl
  | k + 1, h => by
    rw [rowP_succ, rowP_succ, rowP_snoc k (by omega)]
    unfold pieceB
    rw [opn_snoc k (by omega), dAt_snoc (by omega)]
theorem signs_inj {a b : List Bool} (h : signs a = signs b) : a = b := by
  have e : (signs a).cps.toList = (signs b).cps.toList := by rw [h]
  rw [signs_cps, signs_cps] at e
  have back : ∀ l : List Bool, (l.map fun b => if b then 49 else 48).map (fun c : Nat => c == 49) = l := fun l => by
    rw [List.map_map]
    have : l.map ((fun c : Nat => c == 49) ∘ fun b => if b = true then 49 else 48) = l.map id := List.map_congr_left fun b _ => by cases b <;> rfl
    rw [this, List.map_id]
  rw [← back a, ← back b, e]
theorem drop_at {row : List Bool} {i : Nat} {b : Bool} (h : row[i]? = some b) : row.drop i = b :: row.drop (i + 1) := by
  have hi := at_lt h
  rw [List.drop_eq_getElem_cons hi]
  rw [List.getElem?_eq_getElem hi] at h
  rw [Option.some.inj h]
theorem tl_ok {row : List Bool} (hv : Vs 0 row) : ∀ i, i ≤ row.length → ∃ h : Nat, hgt row i = (h : Int) ∧ Vs h (row.drop i) ∧ True
  | 0, _ => ⟨0, rfl, hv, trivial⟩
  | i + 1, hi => by
    obtain ⟨h, h1, h2, _⟩ := tl_ok hv i (by omega)
    obtain ⟨b, hb⟩ : ∃ b, row[i]? = some b := ⟨row[i], List.getElem?_eq_getElem (by omega)⟩
    have hs := hgt_succ hb
    rw [drop_at hb] at h2
    cases b with
    | false =>
      obtain ⟨g, rfl⟩ : ∃ g, h = g + 1 := ⟨h - 1, by have := h2.1; omega⟩
      have hs : hgt row (i + 1) = hgt row i + -1 := hs
      exact ⟨g, by omega, h2.2, trivial⟩
    | true =>
      have hs : hgt row (i + 1) = hgt row i + 1 := hs
      exact ⟨h + 1, by omega, h2, trivial⟩
/-- where a text is barred, from a place and a height on -/
def dueF : List Nat → Nat → Int → Option Nat
  | [], k, h => if h > 0 then some k else none
  | c :: r, k, h => if isBad c = true then some k else if h + (if c = 49 then 1 else -1) < 0 then some k else dueF r (k + 1) (h + (if c = 49 then 1 else -1))
def due (cs : List Nat) : Option Nat := dueF cs 0 0
def dueV : V → Option Nat
  | .str z => due z.cps.toList
  | _ => some 0
theorem bad_iff {c : Nat} : isBad c = false ↔ c = 48 ∨ c = 49 := by
  unfold isBad
  simp
  omega
theorem dueF_one (r : List Nat) (k : Nat) (h : Int) : dueF (49 :: r) k h = if h + 1 < 0 then some k else dueF r (k + 1) (h + 1) := rfl
theorem dueF_nul (r : List Nat) (k : Nat) (h : Int) : dueF (48 :: r) k h = if h + -1 < 0 then some k else dueF r (k + 1) (h + -1) := rfl
theorem dueF_bad {c : Nat} (r : List Nat) (k : Nat) (h : Int) (e : isBad c = true) : dueF (c :: r) k h = some k := by
  unfold dueF
  rw [if_pos e]
theorem due_none : ∀ (cs : List Nat) (k : Nat) (h : Nat), dueF cs k h = none → ∃ l : List Bool, cs = (l.map fun b => if b then 49 else 48) ∧ Vs h l
  | [], k, h, e => by
    unfold dueF at e
    split at e
    · cases e
    · exact ⟨[], rfl, by show h = 0; omega⟩
  | c :: r, k, h, e => by
    cases hb : isBad c with
    | true => rw [dueF_bad r k h hb] at e; cases e
    | false =>
      rcases bad_iff.mp hb with rfl | rfl
      · rw [dueF_nul] at e
        by_cases hlt : (h : Int) + -1 < 0
        · rw [if_pos hlt] at e; cases e
        · rw [if_neg hlt] at e
          obtain ⟨g, rfl⟩ : ∃ g, h = g + 1 := ⟨h - 1, by omega⟩
          rw [show (((g + 1 : Nat) : Int) + -1) = (g : Int) by omega] at e
          obtain ⟨l, rfl, hv⟩ := due_none r _ g e
          exact ⟨false :: l, rfl, by omega, hv⟩
      · rw [dueF_one, if_neg (by omega), show ((h : Int) + 1) = ((h + 1 : Nat) : Int) by omega] at e
        obtain ⟨l, rfl, hv⟩ := due_none r _ _ e
        exact ⟨true :: l, rfl, hv⟩
theorem dueV_none {v : V} (h : dueV v = none) : ∃ l : List Bool, v = .str (signs l) ∧ Vs 0 l := by
  cases v with
  | str z =>
    obtain ⟨l, e, hv⟩ := due_none z.cps.toList 0 0 h
    exact ⟨l, congrArg V.str (ext_cps (e.trans (signs_cps l).symm)), hv⟩
  | _ => cases h
theorem due_vs : ∀ (l : List Bool) (k h : Nat), Vs h l → dueF (l.map fun b => if b then 49 else 48) k h = none
  | [], k, h, v => by
    have v : h = 0 := v
    subst v
    rfl
  | false :: l, k, h, v => by
    obtain ⟨g, rfl⟩ : ∃ g, h = g + 1 := ⟨h - 1, by have := v.1; omega⟩
    have ih := due_vs l (k + 1) g v.2
    show dueF (48 :: _) _ _ = _
    rw [dueF_nul, if_neg (by omega), show (((g + 1 : Nat) : Int) + -1) = (g : Int) by omega]
    exact ih
  | true :: l, k, h, v => by
    have ih := due_vs l (k + 1) (h + 1) v
    show dueF (49 :: _) _ _ = _
    rw [dueF_one, if_neg (by omega), show ((h : Int) + 1) = ((h + 1 : Nat) : Int) by omega]
    exact ih
theorem dueV_row {l : List Bool} (h : Vs 0 l) : dueV (.str (signs l)) = none := by
  show due (signs l).cps.toList = none
  rw [signs_cps]
  exact due_vs l 0 0 h
def eDue (v : V) : Option Nat := match dueV v with
  | some d => some d
  | none => match v with
    | .str z => if z.length > 8000 then some 8000 else none
    | _ => none
theorem cps_len (z : Str) : z.cps.toList.length = z.length := Array.length_toList
theorem cps_drop {z : Str} {i c : Nat} (h : z.cps[i]? = some c) : z.cps.toList.drop i = c :: z.cps.toList.drop (i + 1) := by
  rw [← Array.getElem?_toList] at h
  have hi := at_lt h
  rw [List.drop_eq_getElem_cons hi]
  rw [List.getElem?_eq_getElem hi] at h
  rw [Option.some.inj h]
theorem sgn_one {c : Nat} (h : V.str (sgn c) = V.str ("1" : Str)) : c = 49 := by
  have e := congrArg (fun z : Str => z.cps.toList) (V.str.inj h)
  exact (List.cons.inj (show [c] = [49] from e)).1
theorem sgn_one' {c : Nat} (h : ¬ V.str (sgn c) = V.str ("1" : Str)) : ¬ c = 49 := fun e => h (by rw [e]; rfl)

def isDig (c : Nat) : Bool := decide (c ∈ ("0123456789" : Str).cps.toList)
theorem occF (c : Nat) : (!(!(Builtin.Str.occurrences ("0123456789" : Str) (sgn c) 0 ("0123456789" : Str).length 1).isEmpty)) = !isDig c := by
  rw [show (!(Builtin.Str.occurrences ("0123456789" : Str) (sgn c) 0 ("0123456789" : Str).length 1).isEmpty) = decide (c ∈ ("0123456789" : Str).cps.toList) from PySem.StrLaws.found_one "0123456789" c]
  rfl
theorem dig_iff {c : Nat} : isDig c = true ↔ 48 ≤ c ∧ c ≤ 57 := by
  unfold isDig
  rw [decide_eq_true_iff]
  show c ∈ [48, 49, 50, 51, 52, 53, 54, 55, 56, 57] ↔ _
  simp only [List.mem_cons, List.not_mem_nil, or_false]
  omega
theorem fig_at {c : Nat} (h : isDig c = true) : Builtin.Str.occurrences ("0123456789" : Str) (sgn c) 0 ("0123456789" : Str).length 1 = [c - 48] := by
  obtain ⟨h1, h2⟩ := dig_iff.mp h
  have : ∀ d : Fin 10, Builtin.Str.occurrences ("0123456789" : Str) (sgn (48 + d.val)) 0 ("0123456789" : Str).length 1 = [d.val] := by decide +kernel
  have := this ⟨c - 48, by omega⟩
  rw [show 48 + (c - 48) = c by omega] at this
  exact this
def dv (cs : List Nat) : Nat := PySem.NumText.digitsVal cs
theorem dv_snoc (cs : List Nat) (c : Nat) : dv (cs ++ [c]) = dv cs * 10 + (c - 48) := by
  unfold dv PySem.NumText.digitsVal
  rw [List.foldl_append]
  rfl
/-- the number that a text of at most m figures writes -/
def numR (cs : List Nat) (m : Nat) : V :=
  if cs.length = 0 ∨ m < cs.length then .non else if cs.all isDig = true then (if cs.head? = some 48 ∧ 1 < cs.length then .non else .int (dv cs : Nat)) else .non
theorem numR_len {cs : List Nat} {m : Nat} (h : cs.length = 0 ∨ m < cs.length) : numR cs m = .non := if_pos h
theorem numR_bad {cs : List Nat} {m : Nat} (h : cs.all isDig ≠ true) : numR cs m = .non := by
  unfold numR
  rw [if_neg h, ite_self]
theorem numR_nul {cs : List Nat} {m : Nat} (h : cs.head? = some 48 ∧ 1 < cs.length) : numR cs m = .non := by
  unfold numR
  rw [if_pos h, ite_self, ite_self]
theorem numR_val {cs : List Nat} {m : Nat} (h1 : ¬ (cs.length = 0 ∨ m < cs.length)) (h2 : cs.all isDig = true) (h3 : ¬ (cs.head? = some 48 ∧ 1 < cs.length)) : numR cs m = .int (dv cs : Nat) := by
  unfold numR
  rw [if_neg h1, if_pos h2, if_neg h3]
theorem not_all {cs : List Nat} {i c : Nat} (h : cs[i]? = some c) (hb : isDig c = false) : cs.all isDig ≠ true := fun e => by
  have := List.all_eq_true.mp e c (List.mem_of_getElem? h)
  rw [hb] at this
  cases this
theorem all_of {cs : List Nat} (h : ∀ (i c : Nat), cs[i]? = some c → isDig c = true) : cs.all isDig = true := List.all_eq_true.mpr fun c hc => by
  obtain ⟨i, hi⟩ := List.getElem?_of_mem hc
  exact h i c hi
theorem sign_at {z : Str} {i : Int} (h0 : 0 ≤ i) (h1 : i < z.length) : ∃ c, atI z.cps.toList i = some c := by
  have hk : i.toNat < z.cps.toList.length := by
    have : z.cps.toList.length = z.length := Array.length_toList
    omega
  exact ⟨z.cps.toList[i.toNat], atI_int h0 (List.getElem?_eq_getElem hk)⟩
theorem cut_len (z : Str) (lo hi : Option Int) : (cutS z lo hi).length ≤ z.length := by
  show (List.take _ (List.drop _ _)).toArray.size ≤ z.cps.size
  rw [List.size_toArray, List.length_take, List.length_drop, Array.length_toList]
  omega
theorem app_len (a b : Str) : (a ++ b).length = a.length + b.length := by
  show (a.cps ++ b.cps).size = _
  rw [Array.size_append]
  rfl
def rowT (n : Nat) : List Bool := (List.replicate n [true, false]).flatten
theorem rowT_succ (n : Nat) : rowT (n + 1) = true :: false :: rowT n := rfl
theorem rowT_len : ∀ n, (rowT n).length = 2 * n
  | 0 => rfl
  | n + 1 => by rw [rowT_succ, List.length_cons, List.length_cons, rowT_len n]; omega
theorem eDue_some {v : V} {d : Nat} (h : dueV v = some d) : eDue v = some d := by unfold eDue; rw [h]
theorem eDue_row {l : List Bool} {d : Nat} (h : Vs 0 l) (hl : l.length ≤ 8000) : eDue (.str (signs l)) ≠ some d := by
  unfold eDue
  rw [dueV_row h]
  show (if (signs l).length > 8000 then some 8000 else none) ≠ _
  rw [signs_len, if_neg (by omega)]
  nofun
theorem rep10 (n : Nat) : repS ("10" : Str) n = signs (rowT n) := repS_signs [true, false] n
theorem cut_to (xs : List V) (m : Nat) : cutV xs none (some (m : Int)) = xs.take m := by
  unfold cutV
  rw [HT.sIx_nat]
  show (xs.drop 0).take (min m xs.length - 0) = xs.take m
  rw [List.drop_zero, Nat.sub_zero]
  by_cases h : m ≤ xs.length
  · rw [Nat.min_eq_left h]
  · rw [Nat.min_eq_right (by omega), List.take_of_length_le (Nat.le_refl _), List.take_of_length_le (by omega)]
theorem menuV {xs : List V} {i : Int} {k : Nat} (h : xs.length = k) (h0 : 0 ≤ i) (h1 : i < k) : ∃ v, v ∈ xs ∧ atI xs i = some v := by
  have hk : i.toNat < xs.length := by omega
  exact ⟨xs[i.toNat], List.getElem_mem hk, atI_int h0 (List.getElem?_eq_getElem hk)⟩
theorem rowT_snoc (n : Nat) : rowT (n + 1) = rowT n ++ [true, false] := by
  unfold rowT
  rw [List.replicate_succ', List.flatten_append]
  rfl
theorem flat_dok (n : Nat) : Dok (List.replicate n 0) := fun k hk => by
  have : dAt (List.replicate n 0) k = 0 := by
    unfold dAt List.getD
    rw [List.getElem?_replicate]
    split <;> rfl
  omega
theorem flat_dAt (n k : Nat) : dAt (List.replicate n 0) k = 0 := by
  unfold dAt List.getD
  rw [List.getElem?_replicate]
  split <;> rfl
theorem flat_row (n : Nat) : ∀ k, rowP (List.replicate n 0) k ++ List.replicate (opn (List.replicate n 0) k) false = rowT k
  | 0 => rfl
  | k + 1 => by
    have ho : opn (List.replicate n 0) (k + 1) = 1 := by
      show dAt (List.replicate n 0) k + 1 = 1
      rw [flat_dAt]
    rw [ho, rowP_succ, rowT_snoc, ← flat_row n k]
    unfold pieceB
    rw [flat_dAt, Nat.sub_zero]
    simp only [List.append_assoc]
    rfl
theorem flat_rowD (n : Nat) : rowD (List.replicate n 0) = rowT n := by
  unfold rowD
  rw [List.length_replicate]
  exact flat_row n n
theorem flat_elds (n : Nat) : elds (List.replicate n 0) = List.replicate n (-1) := by
  refine List.ext_getElem? fun k => ?_
  rw [List.getElem?_replicate]
  by_cases hk : k < n
  · rw [if_pos hk, elds_at (by rw [List.length_replicate]; exact hk)]
    have h := eld_at (flat_dok n) (k := k) (by rw [List.length_replicate]; exact hk)
    rw [flat_dAt, way_zero (flat_dok n) k (by rw [List.length_replicate]; omega)] at h
    exact h.symm
  · rw [if_neg hk, List.getElem?_eq_none (by rw [elds_len, List.length_replicate]; omega)]
/-- what a word tells -/
def wordD (z : Str) (ds : List Nat) : Prop := (z = ("-" : Str) ∧ ds = []) ∨ (z = signs (rowD ds) ∧ ds ≠ [] ∧ ds.length ≤ 4000)
def wordN (z : Str) : Prop := z ≠ ("-" : Str) ∧ ∀ ds, Dok ds → z = signs (rowD ds) → ds = [] ∨ 4000 < ds.length
def WordR (H : Hp) (z : Str) (v : V) (H' : Hp) : Prop := (v = .non ∧ wordN z) ∨ ∃ p ds, v = .ref p ∧ H p = none ∧ H' p = some (.lst ((elds ds).map V.int)) ∧ Dok ds ∧ wordD z ds
theorem not_stroke (l : List Bool) : signs l ≠ ("-" : Str) := fun e => by
  have h : (signs l).cps.toList = [45] := by rw [e]; rfl
  rw [signs_cps] at h
  match l, h with
  | [b], h => cases b <;> cases h
  | _ :: _ :: _, h => exact absurd (congrArg List.length h) (by simp)
theorem due_wordN {z : Str} {d : Nat} (h : eDue (.str z) = some d) (hz : z ≠ ("-" : Str)) : wordN z := by
  refine ⟨hz, fun ds hD e => ?_⟩
  subst e
  by_cases hl : (rowD ds).length ≤ 8000
  · exact absurd h (eDue_row (vs_row hD) hl)
  · have := rowD_len hD
    omega
theorem word_both {z : Str} {ds es : List Nat} (h1 : wordD z ds) (h2 : wordD z es) (d1 : Dok ds) (d2 : Dok es) : ds = es := by
  rcases h1 with ⟨e1, rfl⟩ | ⟨e1, _, _⟩
  · rcases h2 with ⟨_, rfl⟩ | ⟨e2, _, _⟩
    · rfl
    · exact absurd (e2.symm.trans e1) (not_stroke _)
  · rcases h2 with ⟨e2, _⟩ | ⟨e2, _, _⟩
    · exact absurd (e1.symm.trans e2) (not_stroke _)
    · exact rowD_inj d1 d2 (signs_inj (e1.symm.trans e2))
theorem word_not {z : Str} {ds : List Nat} (h1 : wordD z ds) (d1 : Dok ds) (h2 : wordN z) : False := by
  rcases h1 with ⟨e1, _⟩ | ⟨e1, hne, hl⟩
  · exact h2.1 e1
  · rcases h2.2 ds d1 e1 with h | h
    · exact hne h
    · omega


structure Txt (K : PySem.W.Frag) (mg : Str → Option Value) (C_WoodError : Addr) (C_NoRow : Addr) : Prop where
  g_WoodError : mg "WoodError" = some (.ref C_WoodError)
  g_NoRow : mg "NoRow" = some (.ref C_NoRow)
  ex_WoodError : PySem.W.excIn K C_WoodError veMro "ValueError.__new__" = true
  bg_WoodError : PySem.W.specialIn K (.ref C_WoodError) "__getattribute__" = some (some (.builtin "type.__getattribute__"))
  br_WoodError : PySem.W.readsIn K C_WoodError (.type "type") = true
  bi_WoodError : PySem.W.findCls K (.ref C_WoodError) (.type "type") "__init__" = some (.val (.builtin "ValueError.__init__"))
  sa_NoRow : PySem.W.findIn K (.ref C_NoRow) "__setattr__" = some (some (.builtin "object.__setattr__"))
  pl_NoRow : PySem.W.findIn K (.ref C_NoRow) "place" = some none
  ga_NoRow : PySem.W.findIn K (.ref C_NoRow) "__getattribute__" = some (some (.builtin "BaseException.__getattribute__"))
  gx_NoRow : PySem.W.findIn K (.ref C_NoRow) "__getattr__" = some none
  ca_NoRow : PySem.W.findIn K (.ref C_NoRow) "__class__" = some (some (.builtin "object.__class__"))
  sp_NoRow : PySem.W.specialIn K (.builtin "object.__class__") "__get__" = some (some (.builtin "getset_descriptor.__get__"))
  tk_NoRow : PySem.W.takesIn K (.builtin "object.__class__") = some true
  mo_NoRow : PySem.W.mroIn K C_NoRow (.type "object") = some true
  mb_NoRow : PySem.W.mroIn K C_NoRow (.type "BaseException") = some true
  em_NoRow : PySem.W.exmOne K (.ref C_NoRow) (.ref C_WoodError) = some true
  em2_NoRow : PySem.W.exmOne K (.ref C_NoRow) (.ref C_NoRow) = some true
  g_MOST_SIGNS_pairs : ∃ t, mg "MOST_SIGNS_pairs" = some (.int 8192 t)
  g_MOST_SIGNS_woods : ∃ t, mg "MOST_SIGNS_woods" = some (.int 8000 t)
  g_FIGURES : ∃ t, mg "FIGURES" = some (.str "0123456789" t)
  n_range : mg "range" = none
  n_len : mg "len" = none
  n_int : mg "int" = none
  n_bool : mg "bool" = none
  n_str : mg "str" = none
  n_isinstance : mg "isinstance" = none
  n_list : mg "list" = none
  n_enumerate : mg "enumerate" = none
  n_abs : mg "abs" = none
  n_max : mg "max" = none
  ow_NoRow : ∃ f, OwnX K C_WoodError C_NoRow f
theorem Txt.bw {K : PySem.W.Frag} {mg : Str → Option Value} {C_WoodError : Addr} {C_NoRow : Addr} (T : Txt K mg C_WoodError C_NoRow) : BaseX K mg "WoodError" C_WoodError := ⟨T.g_WoodError, T.bg_WoodError, T.br_WoodError, T.bi_WoodError⟩
theorem Txt.k_NoRow {K : PySem.W.Frag} {mg : Str → Option Value} {C_WoodError : Addr} {C_NoRow : Addr} (T : Txt K mg C_WoodError C_NoRow) : ExcK K C_NoRow := ⟨T.ga_NoRow, T.gx_NoRow, T.ca_NoRow, T.sp_NoRow, T.tk_NoRow, T.mo_NoRow, T.mb_NoRow⟩
section
variable {P : Program} {w : World} {K : PySem.W.Frag} {mg : Str → Option Value} {base : Heap} {C_WoodError C_NoRow : Addr}
theorem ok_NoRow_init {f : Addr} {fd : FuncData} (F : Fun K "__init__" "NoRow.__init__" s_NoRow_init f fd) (T : Txt K mg C_WoodError C_NoRow) : FnOk P w K mg base CX0 1 f fd ["self", "place"] (spInit C_NoRow) := by
  refine F.ok sc_NoRow_init (fun vs H Q E h => ?_) (fun cdv A outer s H vs Q E hr h => ?_)
  · obtain ⟨e, i, rfl, _⟩ := h
    rfl
  · obtain ⟨e, i, rfl, he, hi, q⟩ := h
    obtain ⟨fo, O⟩ := T.ow_NoRow
    refine ⟨_, (pss_cons (ps_expr (pe_binit T.bw rfl (pa_d (pv 0) (pa_d (pe_fstr (by decide) (pv 1)) pa_nil rfl) rfl)))
      (pss_one (ps_place (pv 0) (pv 1)))), ?_⟩
    walk_at "rd"
    refine ⟨hi, fun z => ?_⟩
    walk_at "rd"
    refine ⟨e, C_NoRow, fo, none, z, rfl, he, O, ?_⟩
    walk_at "rd"
    refine ⟨e, _, C_NoRow, fo, rfl, he, O, T.k_NoRow, fun dx hd => ?_⟩
    walk_at "rd"
    exact q dx hd

def spCheckG (K : PySem.W.Frag) (C : Addr) : Sp := fun vs H Q E => ∃ v : V, vs = [v] ∧ AnyS K H v ∧ (∀ z, v = .str z → z.length ≤ 8192) ∧ (dueV v = none → ∀ H', Same H H' → Q .non H') ∧
  ∀ d : Nat, dueV v = some d → ∀ dx H', Same H H' → H dx = none → H' dx = some (.xd [("place", .int d)]) → E (.ref C) (some dx) H'
theorem small12 {i : Nat} (h : i ≤ 10000) : ((i : Int)).natAbs < 10 ^ 12 := by
  have : (10000 : Nat) < 10 ^ 12 := by decide
  omega
theorem ok_check_row {f : Addr} {fd : FuncData} (F : Fun K "check_row" "check_row" s_check_row f fd) (T : Txt K mg C_WoodError C_NoRow) (x_NoRow : ExcI P w K mg base "NoRow" C_WoodError C_NoRow 1 ["self", "place"]) : FnOk P w K mg base (CXE P w) 3 f fd ["text"] (spCheckG K C_NoRow) := by
  refine F.okE sc_check_row (fun vs H Q E h => ?_) (fun cdv A outer s H vs Q E hr h => ?_)
  · obtain ⟨v, rfl, _⟩ := h
    rfl
  · obtain ⟨v, rfl, hS, hz, q, qe⟩ := h
    refine ⟨_, (pss_cons (ps_if (pt_not (pt_val (pe_callB call_isinst (by rfl) T.n_isinstance b_isinstance (pa_d (pv 0) (pa_d (pe_bltn (v := .ty "str") rfl T.n_str b_str rfl) pa_nil rfl) rfl)))) (pss_one (ps_raiseI x_NoRow (hr.mono (by decide : 2 ≤ _)) rfl (pa_d pe_int pa_nil rfl)))
      pss_nil)
      (pss_cons (ps_set (i := 1) sc_check_row.nd rfl (Or.inl rfl) pe_int)
      (pss_cons (ps_for PassesOwn.leaving rfl (pi_enumS rfl T.n_enumerate (pa_d (pv 0) pa_nil rfl)) (pg_tup rfl (pgs_cons (pg_name (i := 2) sc_check_row.nd rfl (Or.inl rfl)) (pgs_cons (pg_name (i := 3) sc_check_row.nd rfl (Or.inl rfl)) pgs_nil)))
      (pss_cons (ps_aug (i := 1) sc_check_row.nd rfl (Or.inl rfl) (pe_ifExp (pt_cmpR op_eq (pv 3) pe_str (nomark _)) pe_int (pe_un un_neg pe_int)) ip_add)
      (pss_one (ps_if (PW.pt (pw_or (pt_cmpR op_notIn_str (pv 3) pe_str rfl) (pw_or (pt_cmpR op_lt (pv 1) pe_int (nomark _)) (pw_or1 (pt_cmpR op_eq (pv 2) (pe_globI rfl T.g_MOST_SIGNS_pairs) (nomark _)))))) (pss_one (ps_raiseI x_NoRow (hr.mono (by decide : 2 ≤ _)) rfl (pa_d (pv 2) pa_nil rfl)))
      pss_nil))))
      (pss_one (ps_if (pt_cmpR op_gt (pv 1) pe_int (nomark _)) (pss_one (ps_raiseI x_NoRow (hr.mono (by decide : 2 ≤ _)) rfl (pa_d (pe_callB call_len_str (by rfl) T.n_len b_len (pa_d (pv 0) pa_nil rfl)) pa_nil rfl)))
      pss_nil))))), ?_⟩
    walk_at "rd"
    obtain ⟨t, h1, h2⟩ := hS
    refine ⟨_, _, _, _, rfl, h1, h2, ?_⟩
    cases v with
    | str z =>
      have hz := hz z rfl
      rw [show isS (V.str z) = true from rfl]
      walk_at "rd"
      refine ⟨_, rfl, ?_⟩
      have hzs : z.cps.size = z.length := rfl
      refine for_enumS (fun i σ H1 => (∃ (h : Nat) (v2 v3 : Option V), σ = [some (.str z), some (.int h), v2, v3] ∧ h ≤ i ∧ dueF (z.cps.toList.drop i) i h = dueV (.str z)) ∧ Same H H1) ?_ ?_ ?_
      · exact ⟨⟨0, _, _, rfl, Nat.le_refl _, rfl⟩, Same.refl _⟩
      · rintro i c σ H1 t hc ⟨⟨h, v2, v3, rfl, hhi, hd⟩, s1⟩ ht
        have hi : i < z.length := (Array.getElem?_eq_some_iff.mp hc).1
        rw [cps_drop hc] at hd
        unfold dueF at hd
        have s2 := s1.trans (same_upd (o := .tup [.int i, .str (sgn c)]) ht)
        generalize upd H1 t (.tup [.int i, .str (sgn c)]) = H2 at *
        have out : dueV (.str z) = some i → ∀ dx, H2 dx = none → E (.ref C_NoRow) (some dx) (upd H2 dx (.xd [("place", .int (i : Nat))])) := fun e dx hx => qe i e dx _ (s2.trans (same_upd hx)) (s2.free hx) upd_same
        have hm : i ≠ 8192 := by omega
        have sm : ((i : Nat) : Int).natAbs < 10 ^ 12 := small12 (by omega)
        walk_at "rd"
        refine iteP (fun h1 => ?_) (fun h1 => ?_)
        · obtain rfl := sgn_one h1
          have hd : (if (h : Int) + 1 < 0 then some i else dueF (z.cps.toList.drop (i + 1)) (i + 1) ((h : Int) + 1)) = dueV (.str z) := hd
          rw [if_neg (by omega)] at hd
          walk_at "rd"
          refine ⟨_, _, rfl, rfl, ?_⟩
          rw [occ01, show isBad 49 = false by decide]
          walk_at "rd"
          refine iteP (fun h => by omega) (fun _ => ?_)
          walk_at "rd"
          refine iteP (fun h => absurd (V.int.inj h) (by omega)) (fun _ => ?_)
          walk_at "rd"
          exact ⟨⟨h + 1, _, _, rfl, by omega, hd⟩, s2⟩
        · walk_at "rd"
          refine ⟨_, _, rfl, rfl, ?_⟩
          rw [occ01]
          cases hb : isBad c with
          | true =>
            rw [if_pos hb] at hd
            walk_at "rd"
            exact ⟨_, rfl, sm, out hd.symm⟩
          | false =>
            obtain rfl : c = 48 := (bad_iff.mp hb).resolve_right (sgn_one' h1)
            have hd : (if (h : Int) + -1 < 0 then some i else dueF (z.cps.toList.drop (i + 1)) (i + 1) ((h : Int) + -1)) = dueV (.str z) := hd
            walk_at "rd"
            refine iteP (fun h => ?_) (fun h2 => ?_)
            · rw [if_pos h] at hd
              walk_at "rd"
              exact ⟨_, rfl, sm, out hd.symm⟩
            · rw [if_neg h2] at hd
              walk_at "rd"
              refine iteP (fun h => absurd (V.int.inj h) (by omega)) (fun _ => ?_)
              walk_at "rd"
              refine ⟨⟨h - 1, some (.int i), some (.str (sgn 48)), ?_, by omega, ?_⟩, s2⟩
              · rw [show ((h - 1 : Nat) : Int) = (h : Int) + -1 by omega]
                rfl
              · rw [show ((h - 1 : Nat) : Int) = (h : Int) + -1 by omega]
                exact hd
      · rintro σ H1 ⟨⟨h, v2, v3, rfl, hhi, hd⟩, s1⟩
        rw [List.drop_of_length_le (by rw [cps_len, hzs]; exact Nat.le_refl _)] at hd
        have hd : (if (h : Int) > 0 then some z.cps.size else none) = dueV (.str z) := hd
        rw [hzs] at hd
        walk_at "rd"
        refine iteP (fun h1 => ?_) (fun h1 => ?_)
        · rw [if_pos h1] at hd
          walk_at "rd"
          refine ⟨_, rfl, Nat.le_of_lt (small20000 (by omega)), ?_⟩
          walk_at "rd"
          exact ⟨_, rfl, small12 (i := z.length) (by omega), fun dx hx => qe _ hd.symm dx _ (s1.trans (same_upd hx)) (s1.free hx) upd_same⟩
        · rw [if_neg h1] at hd
          walk_at "rd"
          exact q hd.symm H1 s1
    | _ =>
      rw [show isS _ = false from rfl]
      walk_at "rd"
      exact ⟨_, rfl, by decide, fun dx hx => qe 0 rfl dx _ (same_upd hx) hx upd_same⟩

def spEldersG (K : PySem.W.Frag) (C : Addr) : Sp := fun vs H Q E => ∃ v : V, vs = [v] ∧ AnyS K H v ∧ (∀ z, v = .str z → z.length ≤ 8192) ∧
  (∀ l : List Bool, v = .str (signs l) → Vs 0 l → l.length ≤ 8000 → ∀ p (ds : List Nat) H', Same H H' → H p = none → H' p = some (.lst ((elds ds).map V.int)) → Dok ds → rowD ds = l → Q (.ref p) H') ∧
  ∀ d : Nat, eDue v = some d → ∀ dx H', Same H H' → H dx = none → H' dx = some (.xd [("place", .int d)]) → E (.ref C) (some dx) H'
theorem ok_elders_of {f : Addr} {fd : FuncData} (F : Fun K "elders_of" "elders_of" s_elders_of f fd) (T : Txt K mg C_WoodError C_NoRow) (x_NoRow : ExcI P w K mg base "NoRow" C_WoodError C_NoRow 1 ["self", "place"]) (c_check_row : CalE P w K mg base "check_row" 3 ["text"] (spCheckG K C_NoRow)) : FnOk P w K mg base (CXE P w) 4 f fd ["text"] (spEldersG K C_NoRow) := by
  refine F.okE sc_elders_of (fun vs H Q E h => ?_) (fun cdv A outer s H vs Q E hr h => ?_)
  · obtain ⟨v, rfl, _⟩ := h
    rfl
  · obtain ⟨v, rfl, hS, hz, q, qe⟩ := h
    refine ⟨_, (pss_cons (ps_expr (pe_fnE c_check_row (hr.mono (by decide : 3 ≤ _)) (pass_on rfl) (pa_d (pv 0) pa_nil rfl)))
      (pss_cons (ps_if (pt_cmpR op_gt (pe_callB call_len_str (by rfl) T.n_len b_len (pa_d (pv 0) pa_nil rfl)) (pe_globI rfl T.g_MOST_SIGNS_woods) (nomark _)) (pss_one (ps_raiseI x_NoRow (hr.mono (by decide : 2 ≤ _)) rfl (pa_d (pe_globI rfl T.g_MOST_SIGNS_woods) pa_nil rfl)))
      pss_nil)
      (pss_cons (ps_set (i := 1) sc_elders_of.nd rfl (Or.inl rfl) (pe_lst pa_nil))
      (pss_cons (ps_set (i := 2) sc_elders_of.nd rfl (Or.inl rfl) (pe_lst (pa_d (pe_un un_neg pe_int) pa_nil rfl)))
      (pss_cons (ps_for PassesOwn.leaving rfl (pi_str (pv 0)) (pg_name (i := 3) sc_elders_of.nd rfl (Or.inl rfl))
      (pss_one (ps_if (pt_cmpR op_eq (pv 3) pe_str (nomark _)) (pss_cons (ps_expr (pe_bm PySem.F.plainAttrs_list PySem.F.slot_list_append PySem.F.type_list_append mt_append (pv 1) (pa_d (pe_ix ix_list (pv 2) (pe_un un_neg pe_int) (fun _ _ => rfl)) pa_nil rfl)))
      (pss_one (ps_expr (pe_bm PySem.F.plainAttrs_list PySem.F.slot_list_append PySem.F.type_list_append mt_append (pv 2) (pa_d (pe_op op_sub (pe_callB call_len_seq (by rfl) T.n_len b_len (pa_d (pv 1) pa_nil rfl)) pe_int) pa_nil rfl)))))
      (pss_one (ps_expr (pe_bm0 PySem.F.plainAttrs_list PySem.F.slot_list_pop PySem.F.type_list_pop mt_pop (pv 2)))))))
      (pss_one (ps_ret (pv 1)))))))), ?_⟩
    walk_at "rd"
    refine ⟨v, rfl, hS, hz, fun hnn H1 s1 => ?_, fun d hd => qe d (by unfold eDue; rw [hd])⟩
    obtain ⟨l, rfl, hv⟩ := dueV_none hnn
    have hz := hz _ rfl
    rw [signs_len] at hz
    walk_at "rd"
    refine ⟨_, rfl, by rw [signs_len]; exact Nat.le_of_lt (small20000 (by omega)), ?_⟩
    walk_at "rd"
    rw [signs_len]
    refine iteP (fun h => ?_) (fun hng => ?_)
    · walk_at "rd"
      refine ⟨_, rfl, by decide, fun dx hx => qe 8000 ?_ dx _ (s1.trans (same_upd hx)) (s1.free hx) upd_same⟩
      unfold eDue
      rw [hnn]
      show (if (signs l).length > 8000 then some 8000 else none) = _
      rw [signs_len, if_pos (by omega)]
    have hn : l.length ≤ 8000 := by omega
    have q := q l rfl hv hn
    walk_at "rd"
    refine ⟨Nat.zero_le _, fun p hp1 => ?_⟩
    have hp : H p = none := s1.free hp1
    have t1 := same_upd (o := .lst []) hp1
    walk_at "rd"
    refine ⟨few (by simp), fun y hy => ?_⟩
    have t2 := same_upd (o := .lst [V.int (-1)]) hy
    have hyH : H y = none := (s1.trans t1).free hy
    walk_at "rd"
    refine ⟨_, rfl, ?_⟩
    refine for_str (fun i σ H2 => (∃ (ds : List Nat) (h : Nat) (v : Option V), σ = [some (.str (signs l)), some (.ref p), some (.ref y), v] ∧ Dok ds ∧ ds.length ≤ i ∧ hgt l i = (h : Int) ∧ h ≤ opn ds ds.length ∧ l.take i = rowP ds ds.length ++ List.replicate (opn ds ds.length - h) false ∧
        H2 p = some (.lst ((elds ds).map V.int)) ∧ H2 y = some (.lst (((way ds ds.length).take (h + 1)).map V.int))) ∧ Same H H2) ⟨⟨[], 0, _, rfl, (fun k hk => by cases hk), Nat.le_refl _, rfl, Nat.le_refl _, rfl, t2 _ _ upd_same, upd_same⟩, (s1.trans t1).trans t2⟩ ?_ ?_
    · have hpy : p ≠ y := ne_of_none upd_same hy
      rintro i c σ H2 hc ⟨⟨ds, h, v, rfl, hD, hdl, hh, hop, htk, hp2, hy2⟩, s2⟩
      obtain ⟨b, hb, rfl⟩ := sign_of hc
      have hi := at_lt hb
      have hs := hgt_succ hb
      have hw := way_len hD ds.length (Nat.le_refl _)
      obtain ⟨h', hh', hvs, _⟩ := tl_ok hv i (by omega)
      have e : h' = h := by omega
      subst e
      have tk1 : l.take (i + 1) = l.take i ++ [b] := by rw [List.take_add_one, hb]; rfl
      have hx : (way ds ds.length)[h' + 1 - 1]? = some ((way ds ds.length).getD h' 0) := by
        rw [Nat.add_sub_cancel]
        unfold List.getD
        rw [List.getElem?_eq_getElem (by omega)]
        rfl
      walk_at "rd"
      cases b with
      | true =>
        refine iteP (fun _ => ?_) (fun h => absurd rfl h)
        have hs : hgt l (i + 1) = hgt l i + 1 := hs
        walk_at "rd"
        refine ⟨.inl ⟨rfl, _, SqL.of hp2⟩, ?_⟩
        walk_at "rd"
        refine r_ixL (SqL.of hy2) (last_take (by omega) hx) ?_
        walk_at "rd"
        refine r_append hp2 ?_ ?_
        · rw [List.length_map, elds_len]
          exact small20000 (by omega)
        walk_at "rd"
        have hy3 : upd H2 p (.lst ((elds ds).map V.int ++ [V.int ((way ds ds.length).getD h' 0)])) y = some (.lst (((way ds ds.length).take (h' + 1)).map V.int)) := by rw [upd_ne hpy.symm]; exact hy2
        have hp3 : upd H2 p (.lst ((elds ds).map V.int ++ [V.int ((way ds ds.length).getD h' 0)])) p = some (.lst ((elds ds).map V.int ++ [V.int ((way ds ds.length).getD h' 0)])) := upd_same
        have s3 := push_same (o := .lst ((elds ds).map V.int ++ [V.int ((way ds ds.length).getD h' 0)])) s2 hp
        generalize upd H2 p (.lst ((elds ds).map V.int ++ [V.int ((way ds ds.length).getD h' 0)])) = H3 at *
        refine ⟨.inl ⟨rfl, _, SqL.of hy3⟩, ?_⟩
        walk_at "rd"
        refine ⟨p, _, rfl, .inl (SqL.of hp3), ?_⟩
        walk_at "rd"
        rw [List.length_append, List.length_map, elds_len]
        refine r_append hy3 ?_ ?_
        · rw [len_take (by omega)]
          exact small20000 (by have := opn_le hD ds.length (Nat.le_refl _); omega)
        walk_at "rd"
        have hD2 := dok_snoc (d := h') hD hop
        have hl2 : (ds ++ [h']).length = ds.length + 1 := by rw [List.length_append]; rfl
        have ho2 : opn (ds ++ [h']) (ds.length + 1) = h' + 1 := by
          show dAt (ds ++ [h']) ds.length + 1 = _
          rw [dAt_new]
        refine ⟨⟨ds ++ [h'], h' + 1, _, rfl, hD2, by omega, by omega, by rw [hl2, ho2]; exact Nat.le_refl _, ?_, ?_, ?_⟩, push_same s3 hyH⟩
        · rw [tk1, htk, hl2, ho2, Nat.sub_self, List.replicate_zero, List.append_nil, rowP_succ, rowP_snoc _ (Nat.le_refl _), List.append_assoc]
          unfold pieceB
          rw [opn_snoc _ (Nat.le_refl _), dAt_new]
        · rw [upd_ne hpy, hp3, elds_snoc, List.map_append]
          rfl
        · have hwl := way_len hD2 (ds.length + 1) (by omega)
          have ew : (way (ds ++ [h']) (ds.length + 1)).take (h' + 1 + 1) = (way ds ds.length).take (h' + 1) ++ [(ds.length : Int)] := by
            rw [List.take_of_length_le (by omega), way_next]
          have ei : (((ds.length + [V.int ((way ds ds.length).getD h' 0)].length : Nat) : Int) - 1) = (ds.length : Int) := by
            simp only [List.length_cons, List.length_nil]
            omega
          rw [upd_same, hl2, ew, List.map_append, ei]
          rfl
      | false =>
        refine iteP (fun h => absurd h (by decide)) (fun _ => ?_)
        have hs : hgt l (i + 1) = hgt l i + -1 := hs
        rw [drop_at hb] at hvs
        have hpos := hvs.1
        walk_at "rd"
        refine ⟨.inl ⟨rfl, _, SqL.of hy2⟩, ?_⟩
        refine ⟨y, _, .int ((way ds ds.length).getD h' 0), rfl, rfl, hy2, ?_, ?_⟩
        · rw [len_take (by omega), iV_at]
          rw [List.getElem?_take_of_lt (by omega)]
          exact hx
        walk_at "rd"
        rw [drop_last (by omega)]
        refine ⟨⟨ds, h' - 1, _, rfl, hD, by omega, by omega, by omega, ?_, ?_, ?_⟩, push_same s2 hyH⟩
        · rw [tk1, htk, List.append_assoc, show opn ds ds.length - (h' - 1) = opn ds ds.length - h' + 1 by omega, List.replicate_succ']
        · rw [upd_ne hpy]
          exact hp2
        · rw [upd_same, show h' - 1 + 1 = h' + 1 - 1 by omega]
    · rintro σ H2 ⟨⟨ds, h, v, rfl, hD, hdl, hh, hop, htk, hp2, hy2⟩, s2⟩
      rw [show (signs l).cps.size = l.length from signs_len l] at *
      obtain ⟨h', hh', hvs, _⟩ := tl_ok hv l.length (Nat.le_refl _)
      rw [List.drop_of_length_le (Nat.le_refl _)] at hvs
      have hvs : h' = 0 := hvs
      have e : h = 0 := by omega
      subst e
      rw [List.take_of_length_le (Nat.le_refl _), Nat.sub_zero] at htk
      walk_at "rd"
      exact q p ds H2 s2 hp hp2 hD htk.symm

def spFig : Sp := fun vs H Q _ => ∃ (z : Str) (m : Nat), vs = [.str z, .int m] ∧ z.length ≤ 600 ∧ Q (numR z.cps.toList m) H
theorem ok_written_number {f : Addr} {fd : FuncData} (F : Fun K "written_number" "written_number" s_written_number f fd) (T : Txt K mg C_WoodError C_NoRow) : FnOk P w K mg base CX0 1 f fd ["word", "figures"] spFig := by
  refine F.ok sc_written_number (fun vs H Q E h => ?_) (fun cdv A outer s H vs Q E hr h => ?_)
  · obtain ⟨z, m, rfl, _⟩ := h
    rfl
  · obtain ⟨z, m, rfl, hz, q⟩ := h
    refine ⟨_, (pss_cons (ps_if (PW.pt (pw_or (pt_not (pt_val (pe_callB call_isinst (by rfl) T.n_isinstance b_isinstance (pa_d (pv 0) (pa_d (pe_bltn (v := .ty "str") rfl T.n_str b_str rfl) pa_nil rfl) rfl)))) (pw_or (pt_cmpR op_eq (pe_callB call_len_str (by rfl) T.n_len b_len (pa_d (pv 0) pa_nil rfl)) pe_int (nomark _)) (pw_or1 (pt_cmpR op_gt (pe_callB call_len_str (by rfl) T.n_len b_len (pa_d (pv 0) pa_nil rfl)) (pv 1) (nomark _)))))) (pss_one (ps_ret pe_non))
      pss_nil)
      (pss_cons (ps_set (i := 2) sc_written_number.nd rfl (Or.inl rfl) pe_int)
      (pss_cons (ps_for PassesOwn.never rfl (pi_str (pv 0)) (pg_name (i := 3) sc_written_number.nd rfl (Or.inl rfl))
      (pss_cons (ps_if (pt_cmpR op_notIn_str (pv 3) (pe_globS rfl T.g_FIGURES) rfl) (pss_one (ps_ret pe_non))
      pss_nil)
      (pss_one (ps_set (i := 2) sc_written_number.nd rfl (Or.inl rfl) (pe_op op_add (pe_op op_mul pe_int (pv 2)) (pe_bm PySem.F.plainAttrs_str PySem.F.slot_str_index PySem.F.type_str_index mt_sindex (pe_globS rfl T.g_FIGURES) (pa_d (pv 3) pa_nil rfl)))))))
      (pss_one (ps_ret (pe_ifExp (PW.pt (pw_and (pt_cmpR op_eq (pe_ix ix_str (pv 0) pe_int (fun _ _ => rfl)) pe_str (nomark _)) (pw_and1 (pt_cmpR op_gt (pe_callB call_len_str (by rfl) T.n_len b_len (pa_d (pv 0) pa_nil rfl)) pe_int (nomark _))))) pe_non (pv 2))))))), ?_⟩
    have hzl : z.length ≤ sizeLine := few (by omega)
    have hcl := cps_len z
    walk_at "rd"
    refine ⟨_, _, _, _, rfl, .str _, kit_str_str, ?_⟩
    walk_at "rd"
    refine ⟨_, rfl, hzl, ?_⟩
    walk_at "rd"
    refine iteP (fun h => ?_) (fun h0 => ?_)
    · have h := V.int.inj h
      rw [numR_len (.inl (by omega))] at q
      walk_at "rd"
      exact q
    walk_at "rd"
    refine ⟨_, rfl, hzl, ?_⟩
    walk_at "rd"
    refine iteP (fun h => ?_) (fun h1 => ?_)
    · rw [numR_len (.inr (by omega))] at q
      walk_at "rd"
      exact q
    have hlen : ¬ (z.cps.toList.length = 0 ∨ m < z.cps.toList.length) := by
      have : z.length ≠ 0 := fun e => h0 (by rw [e]; rfl)
      omega
    walk_at "rd"
    refine ⟨_, rfl, ?_⟩
    refine for_str (fun i σ H1 => (∃ v : Option V, σ = [some (.str z), some (.int m), some (.int (dv (z.cps.toList.take i) : Nat)), v]) ∧ H1 = H ∧ ∀ j c, j < i → z.cps.toList[j]? = some c → isDig c = true) ?_ ?_ ?_
    · exact ⟨⟨_, rfl⟩, rfl, fun j c hj => by omega⟩
    · rintro i c σ H1 hc ⟨⟨v, rfl⟩, rfl, hall⟩
      have hc2 : z.cps.toList[i]? = some c := by rw [Array.getElem?_toList]; exact hc
      walk_at "rd"
      refine ⟨_, _, rfl, rfl, ?_⟩
      rw [occF]
      cases hb : isDig c with
      | false =>
        rw [numR_bad (not_all hc2 hb)] at q
        walk_at "rd"
        exact q
      | true =>
        walk_at "rd"
        refine ⟨rfl, ?_⟩
        walk_at "rd"
        refine ⟨_, _, _, _, rfl, rfl, fig_at hb, ?_⟩
        walk_at "rd"
        refine ⟨⟨some (.str (sgn c)), ?_⟩, rfl, fun j c' hj hc' => ?_⟩
        · rw [List.take_add_one, hc2]
          show _ = [_, _, some (V.int ((dv (z.cps.toList.take i ++ [c]) : Nat) : Int)), _]
          rw [dv_snoc, show (((dv (z.cps.toList.take i) * 10 + (c - 48) : Nat)) : Int) = 10 * (dv (z.cps.toList.take i) : Int) + ((c - 48 : Nat) : Int) by omega]
          rfl
        · by_cases e : j = i
          · subst e
            rw [hc2] at hc'
            rw [← Option.some.inj hc']
            exact hb
          · exact hall j c' (by omega) hc'
    · rintro σ H1 ⟨⟨v, rfl⟩, rfl, hall⟩
      rw [show z.cps.size = z.cps.toList.length from Array.length_toList.symm, List.take_of_length_le (Nat.le_refl _)] at *
      have hA : z.cps.toList.all isDig = true := all_of fun i c hc => hall i c (at_lt hc) hc
      obtain ⟨c0, hc0⟩ : ∃ c, z.cps.toList[0]? = some c := ⟨z.cps.toList[0]'(by omega), List.getElem?_eq_getElem _⟩
      have hh : z.cps.toList.head? = some c0 := by rw [List.head?_eq_getElem?]; exact hc0
      walk_at "rd"
      refine ⟨z, 0, c0, rfl, rfl, hzl, atI_nat (j := 0) hc0, ?_⟩
      walk_at "rd"
      refine iteP (fun h => ?_) (fun h => ?_)
      · have e48 : c0 = 48 := by
          have e := congrArg (fun z : Str => z.cps.toList) (V.str.inj h)
          exact (List.cons.inj (show [c0] = [48] from e)).1
        walk_at "rd"
        refine ⟨_, rfl, hzl, ?_⟩
        walk_at "rd"
        refine iteP (fun h2 => ?_) (fun h2 => ?_)
        · rw [numR_nul ⟨by rw [hh, e48], by omega⟩] at q
          walk_at "rd"
          exact q
        · rw [numR_val hlen hA (fun ⟨_, h3⟩ => h2 (by omega))] at q
          walk_at "rd"
          exact q
      · rw [numR_val hlen hA (fun ⟨h3, _⟩ => h (by rw [hh] at h3; rw [Option.some.inj h3]; rfl))] at q
        walk_at "rd"
        exact q

def spWord : Sp := fun vs H Q _ => ∃ z : Str, vs = [.str z] ∧ z.length ≤ 8192 ∧ ∀ v H', Same H H' → WordR H z v H' → Q v H'
theorem ok_wood_of_word {f : Addr} {fd : FuncData} (F : Fun K "wood_of_word" "wood_of_word" s_wood_of_word f fd) (T : Txt K mg C_WoodError C_NoRow) (c_elders_of : CalE P w K mg base "elders_of" 4 ["text"] (spEldersG K C_NoRow)) : FnOk P w K mg base CX0 5 f fd ["word"] spWord := by
  refine F.ok sc_wood_of_word (fun vs H Q E h => ?_) (fun cdv A outer s H vs Q E hr h => ?_)
  · obtain ⟨z, rfl, _⟩ := h
    rfl
  · obtain ⟨z, rfl, hz, q⟩ := h
    refine ⟨_, (pss_cons (ps_if (pt_cmpR op_eq (pv 0) pe_str (nomark _)) (pss_one (ps_ret (pe_lst pa_nil)))
      pss_nil)
      (pss_cons (ps_tryN rfl rfl rfl T.g_NoRow (fun E pins σ => (pss_one_at (ps_set_at (i := 1) sc_wood_of_word.nd rfl (Or.inl rfl) (pe_fn_at c_elders_of (hr.mono (by decide : 4 ≤ _)) land_pass (pa_d (pv 0) pa_nil rfl)))))
      (fun e => (pss_one (ps_ret pe_non))))
      (pss_one (ps_ret (pe_ifExp (pt_cmpR op_gt (pe_callB call_len_seq (by rfl) T.n_len b_len (pa_d (pv 1) pa_nil rfl)) pe_int (nomark _)) (pv 1) pe_non))))), ?_⟩
    walk_at "rd"
    refine iteP (fun h => ?_) (fun h => ?_)
    · walk_at "rd"
      refine ⟨Nat.zero_le _, fun p hp => ?_⟩
      exact q _ _ (same_upd hp) (.inr ⟨p, [], rfl, hp, upd_same, (fun k hk => by cases hk), .inl ⟨V.str.inj h, rfl⟩⟩)
    · have hns : z ≠ ("-" : Str) := fun e => h (congrArg V.str e)
      walk_at "rd"
      refine ⟨fun C od H' => Same H H' ∧ C = .ref C_NoRow ∧ ∃ d, eDue (.str z) = some d, ?_, ?_⟩
      · walk_at "rd"
        refine ⟨_, rfl, anyS_str _, fun z' e => ?_, fun l e hv hl p ds H1 s1 hp hp1 hD hrow => ?_, fun d hd dx H' s1 _ _ => ⟨s1, rfl, d, hd⟩⟩
        · rw [← V.str.inj e]
          exact hz
        · have hzr : z = signs (rowD ds) := by rw [V.str.inj e, hrow]
          have hdl := rowD_len hD
          rw [hrow] at hdl
          walk_at "rd"
          refine ⟨p, _, rfl, .inl (SqL.of hp1), ?_⟩
          walk_at "rd"
          rw [List.length_map, elds_len]
          refine iteP (fun h2 => ?_) (fun h2 => ?_)
          · walk_at "rd"
            refine q _ _ s1 (.inr ⟨p, ds, rfl, hp, hp1, hD, .inr ⟨hzr, fun e => ?_, by omega⟩⟩)
            rw [e] at h2
            exact absurd h2 (by decide)
          · walk_at "rd"
            refine q _ _ s1 (.inl ⟨rfl, hns, fun es hE e => .inl ?_⟩)
            have : es = ds := rowD_inj hE hD (signs_inj (e.symm.trans hzr))
            rw [this]
            exact List.length_eq_zero_iff.mp (by omega)
      · rintro C od H' ⟨s1, hC, d, hd⟩
        obtain rfl := Value.ref.inj hC
        refine ⟨T.em2_NoRow, ?_⟩
        walk_at "rd"
        exact q _ _ s1 (.inl ⟨rfl, due_wordN hd hns⟩)

def spShown : Sp := fun vs H Q _ => ∃ i : Int, vs = [.int i] ∧ i.natAbs < 10 ^ 4 ∧ Q (.str (toString i)) H
theorem log_four {n : Nat} (h : n < 10 ^ 4) : n.log2 < 1920 := by
  have : n.log2 < 14 := by
    by_cases h0 : n = 0
    · subst h0; decide
    · exact (Nat.log2_lt h0).mpr (Nat.lt_of_lt_of_le h (by decide))
  omega
theorem ok_shown {f : Addr} {fd : FuncData} (F : Fun K "shown" "shown" s_shown f fd) (T : Txt K mg C_WoodError C_NoRow) : FnOk P w K mg base CX0 1 f fd ["answer"] spShown := by
  refine F.ok sc_shown (fun vs H Q E h => ?_) (fun cdv A outer s H vs Q E hr h => ?_)
  · obtain ⟨i, rfl, _⟩ := h
    rfl
  · obtain ⟨i, rfl, hi, q⟩ := h
    refine ⟨_, (pss_cons (ps_if (pt_cmp (pc_isN (pv 0))) (pss_one (ps_ret pe_str))
      pss_nil)
      (pss_cons (ps_if (pt_val (pe_callB call_isinst (by rfl) T.n_isinstance b_isinstance (pa_d (pv 0) (pa_d (pe_bltn (v := .ty "list") rfl T.n_list b_list rfl) pa_nil rfl) rfl))) (pss_one ps_never)
      pss_nil)
      (pss_one (ps_ret (pe_ifExp (pt_cmpR op_eq (pv 0) pe_str (nomark _)) pe_str (pe_fstr1 (pv 0))))))), ?_⟩
    walk_at "rd"
    refine ⟨_, _, _, _, rfl, .int _, (by rfl : PySem.W.kitOne K (.type "int") (.type "list") = some false), ?_⟩
    walk_at "rd"
    refine iteP (fun h => nomatch h) (fun _ => ?_)
    walk_at "rd"
    exact ⟨log_four hi, q⟩

def shownS (ns : List Int) : Str := if ns = [] then "-" else Txt.join ("," : Str) (ns.map fun i => (Str.ofString (toString i)))
def spShownL : Sp := fun vs H Q _ => ∃ (a : Addr) (ns : List Int), vs = [.ref a] ∧ H a = some (.lst (ns.map V.int)) ∧ ns.length ≤ 500 ∧ (∀ n ∈ ns, n.natAbs < 10 ^ 4) ∧ ∀ H', Same H H' → Q (.str (shownS ns)) H'
theorem shown_fits {ns : List Int} (h : ns.length ≤ 500) (hn : ∀ n ∈ ns, n.natAbs < 10 ^ 4) : ((ns.map fun i : Int => (Str.ofString (toString i))).map (·.length)).sum + (ns.map fun i : Int => (Str.ofString (toString i))).length * ("," : Str).length ≤ 16777216 := by
  have key : ∀ ms : List Int, (∀ n ∈ ms, n.natAbs < 10 ^ 4) → ((ms.map fun i : Int => (Str.ofString (toString i))).map (·.length)).sum ≤ 5 * ms.length := fun ms => by
    induction ms with
    | nil => intro _; exact Nat.le_refl _
    | cons n r ih =>
      intro hh
      have h1 := ih fun m hm => hh m (List.mem_cons_of_mem _ hm)
      have h2 := int_text_length_le10 (k := 4) (by decide) (hh n List.mem_cons_self)
      rw [List.map_cons, List.map_cons, List.sum_cons, PySem.ofString_length, List.length_cons]
      omega
  have h1 := key ns hn
  rw [List.length_map, show ("," : Str).length = 1 by rfl]
  omega
theorem ok_shown_list {f : Addr} {fd : FuncData} (F : Fun K "shown_list" "shown_list" s_shown_list f fd) (T : Txt K mg C_WoodError C_NoRow) (c_shown : Cal P w K mg base "shown" 1 ["answer"] spShown) : FnOk P w K mg base CX0 2 f fd ["some"] spShownL := by
  refine F.ok sc_shown_list (fun vs H Q E h => ?_) (fun cdv A outer s H vs Q E hr h => ?_)
  · obtain ⟨a, ns, rfl, _⟩ := h
    rfl
  · obtain ⟨a, ns, rfl, ha, hl, hn, q⟩ := h
    refine ⟨_, (pss_one (ps_ret (pe_ifExp (pt_cmpR op_gt (pe_callB call_len_seq (by rfl) T.n_len b_len (pa_d (pv 0) pa_nil rfl)) pe_int (nomark _)) (pe_bm PySem.F.plainAttrs_str PySem.F.slot_str_join PySem.F.type_str_join mt_join pe_str (pa_d (pe_lc rfl lc_shown_list_0 (pi_list (pv 0)) (fun _ _ _ _ => pif_nil) (fun _ _ _ _ => (pe_fn c_shown (hr.mono (by decide : 1 ≤ _)) (pa_d (pv 0) pa_nil rfl)))) pa_nil rfl)) pe_str))), ?_⟩
    walk_at "rd"
    refine ⟨a, _, rfl, .inl (SqL.of ha), ?_⟩
    walk_at "rd"
    rw [List.length_map]
    refine iteP (fun h => ?_) (fun h => ?_)
    · have hne : ns ≠ [] := fun e => by rw [e] at h; exact absurd h (by decide)
      walk_at "rd"
      refine ⟨rfl, ?_⟩
      walk_at "rd"
      refine ⟨a, rfl, ⟨_, SqL.of ha⟩, lc_list (SqL.of ha) (fun i => ((ns.take i).map fun i : Int => Str.ofString (toString i)).map V.str) rfl (fun i hi => ?_) (fun i x H5 R A' hx s5 kR kA => ?_) (fun D5 H5 h5 s5 hD5 => ?_)⟩
      · rw [List.length_map, List.length_map, List.length_take]
        exact small1000 (by omega)
      · obtain ⟨e, he, rfl⟩ := iV_get hx
        walk_at "rd"
        refine ⟨e, rfl, hn e (List.mem_of_getElem? he), ?_⟩
        refine kA _ _ ?_ (Same.refl _)
        rw [List.take_add_one, he, List.map_append, List.map_append]
        rfl
      · rw [List.length_map, List.take_of_length_le (Nat.le_refl _)] at hD5
        walk_at "rd"
        refine ⟨_, D5, _, rfl, rfl, SqL.of hD5, shown_fits hl hn, ?_⟩
        have := q H5 s5
        unfold shownS at this
        rw [if_neg hne] at this
        exact this
    · have hne : ns = [] := List.length_eq_zero_iff.mp (by omega)
      walk_at "rd"
      have := q H (Same.refl _)
      unfold shownS at this
      rw [if_pos hne] at this
      exact this

def spNumber : Sp := fun vs H Q _ => ∃ c : Int, vs = [.int c] ∧ ∀ r : Int, 0 ≤ r → r < 2147483629 → Q (.int r) H
theorem ok_law_number {f : Addr} {fd : FuncData} (F : Fun K "_law_number" "_law_number" s_law_number f fd) (T : Txt K mg C_WoodError C_NoRow) : FnOk P w K mg base CX0 1 f fd ["_law_cell"] spNumber := by
  refine F.ok sc_law_number (fun vs H Q E h => ?_) (fun cdv A outer s H vs Q E hr h => ?_)
  · obtain ⟨c, rfl, _⟩ := h
    rfl
  · obtain ⟨c, rfl, q⟩ := h
    refine ⟨_, (pss_one (ps_ret (pe_op op_mod (pe_op op_mul (pe_op op_add (pe_op op_mod (pv 0) pe_int) pe_int) pe_int) pe_int))), ?_⟩
    walk_at "rd"
    exact q _ (Int.emod_nonneg _ (by decide)) (Int.emod_lt_of_pos _ (by decide))

def spTwice : Sp := fun vs H Q _ => ∃ c k : Int, vs = [.int c, .int k] ∧ ∀ r : Int, 0 ≤ r → r < 2147483647 → Q (.int r) H
theorem ok_law_twice {f : Addr} {fd : FuncData} (F : Fun K "_law_twice" "_law_twice" s_law_twice f fd) (T : Txt K mg C_WoodError C_NoRow) (c_law_number : Cal P w K mg base "_law_number" 1 ["_law_cell"] spNumber) : FnOk P w K mg base CX0 2 f fd ["_law_cell", "_law_k"] spTwice := by
  refine F.ok sc_law_twice (fun vs H Q E h => ?_) (fun cdv A outer s H vs Q E hr h => ?_)
  · obtain ⟨c, k, rfl, _⟩ := h
    rfl
  · obtain ⟨c, k, rfl, q⟩ := h
    refine ⟨_, (pss_cons (ps_set (i := 2) sc_law_twice.nd rfl (Or.inl rfl) (pe_fn c_law_number (hr.mono (by decide : 1 ≤ _)) (pa_d (pe_op op_add (pe_fn c_law_number (hr.mono (by decide : 1 ≤ _)) (pa_d (pv 0) pa_nil rfl)) (pe_op op_mul pe_int (pv 1))) pa_nil rfl)))
      (pss_one (ps_ret (pe_op op_mod (pe_op op_mul (pv 2) pe_int) pe_int)))), ?_⟩
    walk_at "rd"
    refine ⟨c, rfl, fun r1 _ _ => ?_⟩
    walk_at "rd"
    refine ⟨_, rfl, fun r2 _ _ => ?_⟩
    walk_at "rd"
    exact q _ (Int.emod_nonneg _ (by decide)) (Int.emod_lt_of_pos _ (by decide))

def spWood16 : Sp := fun vs H Q _ => ∃ c : Int, vs = [.int c, .int 30] ∧ ∀ p (ds : List Nat) H', Same H H' → H p = none → H' p = some (.lst ((elds ds).map V.int)) → Dok ds → ds.length ≤ 30 → Q (.ref p) H'
theorem ok_law_wood {f : Addr} {fd : FuncData} (F : Fun K "_law_wood" "_law_wood" s_law_wood f fd) (T : Txt K mg C_WoodError C_NoRow) (c_law_twice : Cal P w K mg base "_law_twice" 2 ["_law_cell", "_law_k"] spTwice) : FnOk P w K mg base CX0 3 f fd ["_law_cell", "_law_most"] spWood16 := by
  refine F.ok sc_law_wood (fun vs H Q E h => ?_) (fun cdv A outer s H vs Q E hr h => ?_)
  · obtain ⟨c, rfl, _⟩ := h
    rfl
  · obtain ⟨c, rfl, q⟩ := h
    refine ⟨_, (pss_cons (ps_set (i := 2) sc_law_wood.nd rfl (Or.inl rfl) (pe_op op_mod (pe_op op_fdiv (pe_callB call_abs (by rfl) T.n_abs b_abs (pa_d (pv 0) pa_nil rfl)) pe_int) (pe_op op_add (pv 1) pe_int)))
      (pss_cons (ps_set (i := 3) sc_law_wood.nd rfl (Or.inl rfl) (pe_op op_fdiv (pe_op op_fdiv (pe_callB call_abs (by rfl) T.n_abs b_abs (pa_d (pv 0) pa_nil rfl)) pe_int) (pe_op op_add (pv 1) pe_int)))
      (pss_cons (ps_set (i := 4) sc_law_wood.nd rfl (Or.inl rfl) (pe_lst pa_nil))
      (pss_cons (ps_set (i := 5) sc_law_wood.nd rfl (Or.inl rfl) (pe_lst pa_nil))
      (pss_cons (ps_for PassesOwn.never rfl (pi_range1 rfl T.n_range (pa_d (pv 2) pa_nil rfl)) (pg_name (i := 6) sc_law_wood.nd rfl (Or.inl rfl))
      (pss_cons (ps_ifJ (pt_cmpR op_eq (pe_op op_mod (pv 0) pe_int) pe_int (nomark _)) (pss_cons (ps_set (i := 7) sc_law_wood.nd rfl (Or.inl rfl) (pe_op op_mod (pv 3) (pe_op op_add (pe_callB call_len_seq (by rfl) T.n_len b_len (pa_d (pv 4) pa_nil rfl)) pe_int)))
      (pss_one (ps_set (i := 3) sc_law_wood.nd rfl (Or.inl rfl) (pe_op op_fdiv (pv 3) (pe_op op_add (pe_callB call_len_seq (by rfl) T.n_len b_len (pa_d (pv 4) pa_nil rfl)) pe_int)))))
      (pss_one (ps_set (i := 7) sc_law_wood.nd rfl (Or.inl rfl) (pe_callB (call_max2 rfl) (by rfl) T.n_max b_max (pa_d pe_int (pa_d (pe_op op_sub (pe_callB call_len_seq (by rfl) T.n_len b_len (pa_d (pv 4) pa_nil rfl)) (pe_op op_mul (pe_op op_fdiv (pe_op op_mod (pe_op op_fdiv (pe_fn c_law_twice (hr.mono (by decide : 2 ≤ _)) (pa_d (pv 0) (pa_d (pv 6) pa_nil rfl) rfl)) pe_int) pe_int) pe_int) (pe_op op_mod (pe_op op_fdiv (pe_fn c_law_twice (hr.mono (by decide : 2 ≤ _)) (pa_d (pv 0) (pa_d (pv 6) pa_nil rfl) rfl)) pe_int) pe_int))) pa_nil rfl) rfl)))))
      (pss_cons (ps_set (i := 4) sc_law_wood.nd rfl (Or.inl rfl) (pe_slice sl_list (pv 4) po_none (po_some (pv 7))))
      (pss_cons (ps_expr (pe_bm PySem.F.plainAttrs_list PySem.F.slot_list_append PySem.F.type_list_append mt_append (pv 5) (pa_d (pe_ix ix_list (pe_op op_cat (pe_lst (pa_d (pe_un un_neg pe_int) pa_nil rfl)) (pv 4)) (pe_un un_neg pe_int) (fun _ _ => rfl)) pa_nil rfl)))
      (pss_one (ps_expr (pe_bm PySem.F.plainAttrs_list PySem.F.slot_list_append PySem.F.type_list_append mt_append (pv 4) (pa_d (pv 6) pa_nil rfl))))))))
      (pss_one (ps_ret (pv 5)))))))), ?_⟩
    walk_at "rd"
    refine ⟨_, rfl, ?_⟩
    walk_at "rd"
    refine ⟨_, rfl, ?_⟩
    walk_at "rd"
    generalize (if c < 0 then -c else c) / 2 = b
    obtain ⟨n, hn, hn1⟩ : ∃ n : Nat, b % (30 + 1) = (n : Int) ∧ n ≤ 30 := ⟨(b % (30 + 1)).toNat, by omega, by omega⟩
    rw [hn]
    refine ⟨Nat.zero_le _, fun p0 hp0 => ?_⟩
    have t0 := same_upd (o := .lst []) hp0
    walk_at "rd"
    refine ⟨Nat.zero_le _, fun p hp1 => ?_⟩
    have t1 := same_upd (o := .lst []) hp1
    have hp : H p = none := t0.free hp1
    walk_at "rd"
    refine ⟨_, rfl, by omega, by omega, ?_⟩
    rw [Int.toNat_natCast]
    refine for_range (fun k σ H1 => (∃ (q : Addr) (ds : List Nat) (g : Int) (v6 v7 : Option V), σ = [some (.int c), some (.int 30), some (.int n), some (.int g), some (.ref q), some (.ref p), v6, v7] ∧ Dok ds ∧ ds.length = k ∧ H1 p = some (.lst ((elds ds).map V.int)) ∧ H1 q = some (.lst ((way ds k).tail.map V.int)) ∧ p ≠ q ∧ H q = none) ∧ Same H H1) ?_ ?_ ?_
    · exact ⟨⟨p0, [], _, _, _, rfl, (fun k hk => by cases hk), rfl, upd_same, t1 _ _ upd_same, (ne_of_none upd_same hp1).symm, hp0⟩, t0.trans t1⟩
    · rintro k σ H1 hk ⟨⟨q1, ds, g, v6, v7, rfl, hD, hl, hp1, hq1, hne, hqH⟩, s1⟩
      have hw := way_len hD k (by omega)
      have hok := opn_le hD k (by omega)
      have hh := way_head hD (k := k) (by omega)
      have hwt : (way ds k).tail.length = opn ds k := by rw [List.length_tail]; omega
      walk_at "rd"
      refine r_ifJ (fun σ H2 => (∃ (g : Int) (u : Nat), σ = [some (.int c), some (.int 30), some (.int n), some (.int g), some (.ref q1), some (.ref p), some (.int (0 + (k : Int))), some (.int u)] ∧ u ≤ opn ds k) ∧ H2 = H1) ?_ ?_
      · walk_at "rd"
        refine iteP (fun _ => ?_) (fun _ => ?_)
        · walk_at "rd"
          refine ⟨q1, _, rfl, .inl (SqL.of hq1), ?_⟩
          walk_at "rd"
          rw [List.length_map, hwt]
          refine r_mod (by omega) ?_
          walk_at "rd"
          refine ⟨q1, _, rfl, .inl (SqL.of hq1), ?_⟩
          walk_at "rd"
          rw [List.length_map, hwt]
          refine r_div (by omega) (by omega) ?_
          walk_at "rd"
          obtain ⟨u, hu, hu1⟩ := emod_nat g (opn ds k)
          rw [hu]
          exact ⟨⟨_, u, rfl, hu1⟩, rfl⟩
        · walk_at "rd"
          refine ⟨q1, _, rfl, .inl (SqL.of hq1), ?_⟩
          walk_at "rd"
          rw [List.length_map, hwt]
          refine ⟨c, 0 + (k : Int), rfl, fun x x0 x1 => ?_⟩
          walk_at "rd"
          refine ⟨c, 0 + (k : Int), rfl, fun y y0 y1 => ?_⟩
          walk_at "rd"
          refine r_mulR (by omega) (by omega) ?_
          walk_at "rd"
          refine ⟨_, _, rfl, ?_⟩
          walk_at "rd"
          have hm := Int.mul_nonneg (show 0 ≤ x / 64 % 4 / 2 by omega) (show 0 ≤ y / 1024 % 5 by omega)
          generalize x / 64 % 4 / 2 * (y / 1024 % 5) = m at *
          obtain ⟨u, hu, hu1⟩ : ∃ u : Nat, (if (opn ds k : Int) - m > 0 then (opn ds k : Int) - m else 0) = (u : Int) ∧ u ≤ opn ds k := by
            refine ⟨(if (opn ds k : Int) - m > 0 then (opn ds k : Int) - m else 0).toNat, ?_, ?_⟩ <;> split <;> omega
          rw [hu]
          exact ⟨⟨_, u, rfl, hu1⟩, rfl⟩
      · rintro σ H2 ⟨⟨g, u, rfl, hu⟩, rfl⟩
        walk_at "rd"
        refine ⟨q1, _, rfl, SqL.of hq1, fun q3 h3 => ?_⟩
        rw [cut_to] at *
        rw [← List.map_take] at *
        have u3 := same_upd (o := .lst (((way ds k).tail.take u).map V.int)) h3
        have hq3H : H q3 = none := s1.free h3
        have hp3 := u3 _ _ hp1
        have hpq3 : p ≠ q3 := ne_of_none hp1 h3
        have s3 := s1.trans u3
        have hq3 : upd H2 q3 (.lst (((way ds k).tail.take u).map V.int)) q3 = some (.lst (((way ds k).tail.take u).map V.int)) := upd_same
        generalize upd H2 q3 (.lst (((way ds k).tail.take u).map V.int)) = H3 at *
        walk_at "rd"
        refine ⟨.inl ⟨rfl, _, SqL.of hp3⟩, ?_⟩
        walk_at "rd"
        refine ⟨few (by simp), fun q4 h4 => ?_⟩
        have u4 := same_upd (o := .lst [V.int (-1)]) h4
        have e4 : upd H3 q4 (.lst [V.int (-1)]) q4 = some (.lst [V.int (-1)]) := upd_same
        have hp4 := u4 _ _ hp3
        have hq4 := u4 _ _ hq3
        have s4 := s3.trans u4
        generalize upd H3 q4 (.lst [V.int (-1)]) = H4 at *
        walk_at "rd"
        refine ⟨q4, q3, _, _, rfl, rfl, e4, hq4, ?_, fun q5 h5 => ?_⟩
        · rw [List.length_map, List.length_take]
          exact few (by simp only [List.length_cons, List.length_nil]; omega)
        have ew : [V.int (-1)] ++ ((way ds k).tail.take u).map V.int = ((way ds k).take (u + 1)).map V.int := by
          rw [hh]
          rfl
        rw [ew] at *
        have u5 := same_upd (o := .lst (((way ds k).take (u + 1)).map V.int)) h5
        have e5 : upd H4 q5 (.lst (((way ds k).take (u + 1)).map V.int)) q5 = some (.lst (((way ds k).take (u + 1)).map V.int)) := upd_same
        have hp5 := u5 _ _ hp4
        have hq5 := u5 _ _ hq4
        have s5 := s4.trans u5
        generalize upd H4 q5 (.lst (((way ds k).take (u + 1)).map V.int)) = H5 at *
        have hx : (way ds k)[u + 1 - 1]? = some ((way ds k).getD u 0) := by
          rw [Nat.add_sub_cancel]
          unfold List.getD
          rw [List.getElem?_eq_getElem (by omega)]
          rfl
        walk_at "rd"
        refine r_ixL (SqL.of e5) (last_take (by omega) hx) ?_
        walk_at "rd"
        refine r_append hp5 ?_ ?_
        · rw [List.length_map, elds_len]
          exact small1000 (by omega)
        have s6 := push_same (o := .lst ((elds ds).map V.int ++ [V.int ((way ds k).getD u 0)])) s5 hp
        have hq6 : upd H5 p (.lst ((elds ds).map V.int ++ [V.int ((way ds k).getD u 0)])) q3 = some (.lst (((way ds k).tail.take u).map V.int)) := by rw [upd_ne hpq3.symm]; exact hq5
        have hp6 : upd H5 p (.lst ((elds ds).map V.int ++ [V.int ((way ds k).getD u 0)])) p = some (.lst ((elds ds).map V.int ++ [V.int ((way ds k).getD u 0)])) := upd_same
        generalize upd H5 p (.lst ((elds ds).map V.int ++ [V.int ((way ds k).getD u 0)])) = H6 at *
        walk_at "rd"
        refine ⟨.inl ⟨rfl, _, SqL.of hq6⟩, ?_⟩
        walk_at "rd"
        refine r_append hq6 ?_ ?_
        · rw [List.length_map, List.length_take]
          exact small1000 (by omega)
        walk_at "rd"
        refine ⟨⟨q3, ds ++ [u], g, _, _, rfl, dok_snoc hD (by rw [hl]; exact hu), by rw [List.length_append, hl]; rfl, ?_, ?_, hpq3, hq3H⟩, push_same s6 hq3H⟩
        · rw [upd_ne hpq3, hp6, elds_snoc, List.map_append, hl]
          rfl
        · have e := way_next ds u
          rw [hl] at e
          have e2 : ((way ds k).take (u + 1) ++ [(k : Int)]).tail = (way ds k).tail.take u ++ [(k : Int)] := by
            rw [hh]
            rfl
          rw [upd_same, e, e2, List.map_append, show (0 + (k : Int)) = (k : Int) by omega]
          rfl
    · rintro σ H1 ⟨⟨q1, ds, g, v6, v7, rfl, hD, hl, hp1, hq1, hne, hqH⟩, s1⟩
      walk_at "rd"
      exact q p ds H1 s1 hp hp1 hD (by omega)

def spRow : Sp := fun vs H Q _ => ∃ (a : Addr) (ds : List Nat), vs = [.ref a] ∧ H a = some (.lst ((elds ds).map V.int)) ∧ Dok ds ∧ ds.length ≤ 1000 ∧ ∀ H', Same H H' → Q (.str (signs (rowD ds))) H'
theorem ok_law_row {f : Addr} {fd : FuncData} (F : Fun K "_law_row" "_law_row" s_law_row f fd) (T : Txt K mg C_WoodError C_NoRow) : FnOk P w K mg base CX0 1 f fd ["_law_elders"] spRow := by
  refine F.ok sc_law_row (fun vs H Q E h => ?_) (fun cdv A outer s H vs Q E hr h => ?_)
  · obtain ⟨a, ds, rfl, _⟩ := h
    rfl
  · obtain ⟨a, ds, rfl, ha, hD, hn, q⟩ := h
    refine ⟨_, (pss_cons (ps_set (i := 1) sc_law_row.nd rfl (Or.inl rfl) pe_str)
      (pss_cons (ps_set (i := 2) sc_law_row.nd rfl (Or.inl rfl) (pe_lst pa_nil))
      (pss_cons (ps_for PassesOwn.never rfl (pi_range1 rfl T.n_range (pa_d (pe_callB call_len_seq (by rfl) T.n_len b_len (pa_d (pv 0) pa_nil rfl)) pa_nil rfl)) (pg_name (i := 3) sc_law_row.nd rfl (Or.inl rfl))
      (pss_cons (ps_while PassesOwn.never (PW.pt (pw_and (pt_cmpR (op_neL (hu60 hr)) (pv 2) (pe_lst pa_nil) (nomark _)) (pw_and1 (pt_cmpR op_ne (pe_ix ix_list (pv 2) (pe_un un_neg pe_int) (fun _ _ => rfl)) (pe_ix ix_list (pv 0) (pv 3) (fun _ _ => rfl)) (nomark _)))))
      (pss_cons (ps_expr (pe_bm0 PySem.F.plainAttrs_list PySem.F.slot_list_pop PySem.F.type_list_pop mt_pop (pv 2)))
      (pss_one (ps_set (i := 1) sc_law_row.nd rfl (Or.inl rfl) (pe_op op_add_str (pv 1) pe_str)))))
      (pss_cons (ps_expr (pe_bm PySem.F.plainAttrs_list PySem.F.slot_list_append PySem.F.type_list_append mt_append (pv 2) (pa_d (pv 3) pa_nil rfl)))
      (pss_one (ps_set (i := 1) sc_law_row.nd rfl (Or.inl rfl) (pe_op op_add_str (pv 1) pe_str))))))
      (pss_one (ps_ret (pe_op op_add_str (pv 1) (pe_op op_mulS pe_str (pe_callB call_len_seq (by rfl) T.n_len b_len (pa_d (pv 2) pa_nil rfl))))))))), ?_⟩
    walk_at "rd"
    refine ⟨Nat.zero_le _, fun p hp => ?_⟩
    have t0 := same_upd (o := .lst []) hp
    walk_at "rd"
    refine ⟨a, _, rfl, .inl (SqL.of (t0 _ _ ha)), ?_⟩
    walk_at "rd"
    rw [List.length_map, elds_len]
    refine ⟨_, rfl, by omega, by omega, ?_⟩
    rw [Int.toNat_natCast]
    refine for_range (fun k σ H1 => (∃ v : Option V, σ = [some (.ref a), some (.str (signs (rowP ds k))), some (.ref p), v]) ∧ H1 p = some (.lst ((way ds k).tail.map V.int)) ∧ Same H H1) ⟨⟨_, rfl⟩, upd_same, t0⟩ ?_ ?_
    · rintro k σ H1 hk ⟨⟨v, rfl⟩, hp1, s1⟩
      have hw := way_len hD k (by omega)
      have hh := way_head hD (k := k) (by omega)
      have hok := opn_le hD k (by omega)
      have hd := hD k hk
      have hrl := rowP_len hD k (by omega)
      have hea := eld_at hD hk
      have hwt : (way ds k).tail.length = opn ds k := by rw [List.length_tail]; omega
      walk_at "rd"
      refine while_rd (fun σ H2 => ∃ m, dAt ds k ≤ m ∧ m ≤ opn ds k ∧ σ = [some (.ref a), some (.str (signs (rowP ds k ++ List.replicate (opn ds k - m) false))), some (.ref p), some (.int (0 + (k : Int)))] ∧ H2 p = some (.lst (((way ds k).tail.take m).map V.int)) ∧ Same H H2) (fun _ H2 => lenAt H2 p)
        ⟨opn ds k, hd, Nat.le_refl _, by rw [Nat.sub_self, List.replicate_zero, List.append_nil]; rfl, by rw [List.take_of_length_le (by omega)]; exact hp1, s1⟩ ?_
      rintro z σ H2 ⟨m, hm1, hm2, rfl, hp2, s2⟩ hz
      rw [lenAt_of hp2, List.length_map, List.length_take, hwt, Nat.min_eq_left hm2] at hz
      have out : m = dAt ds k → ∀ H3, Same H H3 → H3 p = some (.lst (((way ds k).tail.take m).map V.int)) → signs (rowP ds k ++ List.replicate (opn ds k - m) false) ++ ("1" : Str) = signs (rowP ds (k + 1)) ∧ ((way ds k).tail.take m).map V.int ++ [V.int (0 + (k : Int))] = (way ds (k + 1)).tail.map V.int := fun e H3 _ _ => by
        subst e
        constructor
        · rw [rowP_succ]
          show signs _ ++ signs [true] = _
          rw [signs_append, List.append_assoc]
          rfl
        · show _ = ((way ds k).take (dAt ds k + 1) ++ [(k : Int)]).tail.map V.int
          have e2 : ((way ds k).take (dAt ds k + 1) ++ [(k : Int)]).tail = (way ds k).tail.take (dAt ds k) ++ [(k : Int)] := by
            rw [hh]
            rfl
          rw [e2, List.map_append, show (0 + (k : Int)) = (k : Int) by omega]
          rfl
      walk_at "rd"
      refine ⟨Nat.zero_le _, fun e hE => ?_⟩
      have tE := same_upd (o := .lst []) hE
      have hp3 := tE _ _ hp2
      have s3 := s2.trans tE
      refine r_neI (ns := (way ds k).tail.take m) (ms := []) (SqL.of hp3) (SqL.of upd_same) ?_
      generalize upd H2 e (.lst []) = H3 at *
      walk_at "rd"
      refine iteN (fun hne => ?_) (fun hem => ?_)
      · have hm0 : 0 < m := by
          cases m with
          | zero => exact absurd rfl hne
          | succ m => omega
        have hx1 : (way ds k).tail[m - 1]? = some ((way ds k).tail[m - 1]'(by omega)) := List.getElem?_eq_getElem _
        generalize (way ds k).tail[m - 1]'(by omega) = y at hx1
        have hx2 : (way ds k)[m]? = some y := by
          rw [List.getElem?_tail, show m - 1 + 1 = m by omega] at hx1
          exact hx1
        walk_at "rd"
        refine r_ixL (SqL.of hp3) (last_take hm0 hx1) ?_
        walk_at "rd"
        refine r_ixL (SqL.of (s3 _ _ ha)) (v := .int (eld ds k)) ?_ ?_
        · rw [show (0 + (k : Int)) = (k : Int) by omega]
          exact atI_nat (iV_at (elds_at hk))
        walk_at "rd"
        refine iteN (fun h => ?_) (fun h => ?_)
        · have hmne : m ≠ dAt ds k := fun e => by
            rw [e, hea] at hx2
            exact h (congrArg V.int (Option.some.inj hx2).symm)
          refine r_turn ?_
          walk_at "rd"
          refine ⟨.inl ⟨rfl, _, SqL.of hp3⟩, ?_⟩
          have hml : m ≤ (way ds k).tail.length := by omega
          refine ⟨p, _, .int y, rfl, rfl, hp3, ?_, ?_⟩
          · rw [len_take hml, iV_at (n := y)]
            rw [List.getElem?_take_of_lt (by omega)]
            exact hx1
          walk_at "rd"
          rw [drop_last hml]
          refine ⟨_, "0", rfl, rfl, ?_, ?_⟩
          · rw [signs_len, List.length_append, List.length_replicate]
            exact Nat.le_of_lt (small20000 (by rw [show ("0" : Str).length = 1 by rfl]; omega))
          walk_at "rd"
          refine ⟨⟨m - 1, by omega, by omega, ?_, upd_same, push_same s3 hp⟩, ?_⟩
          · have e : signs (rowP ds k ++ List.replicate (opn ds k - m) false) ++ ("0" : Str) = signs (rowP ds k ++ List.replicate (opn ds k - (m - 1)) false) := by
              show signs _ ++ signs [false] = _
              rw [signs_append, List.append_assoc, show opn ds k - (m - 1) = opn ds k - m + 1 by omega, List.replicate_succ']
            rw [e]
            rfl
          · rw [lenAt_of upd_same, len_take (by omega)]
            omega
        · have hy := V.int.inj h
          have hme : m = dAt ds k := by
            by_cases e : m = dAt ds k
            · exact e
            · have := way_lt hD k (dAt ds k) m _ _ (by omega) (by omega) hea hx2
              omega
          walk_at "rd"
          refine ⟨.inl ⟨rfl, _, SqL.of hp3⟩, ?_⟩
          walk_at "rd"
          refine r_append hp3 ?_ ?_
          · rw [List.length_map, List.length_take]
            exact small20000 (by omega)
          walk_at "rd"
          refine ⟨_, "1", rfl, rfl, ?_, ?_⟩
          · rw [signs_len, List.length_append, List.length_replicate]
            exact Nat.le_of_lt (small20000 (by rw [show ("1" : Str).length = 1 by rfl]; omega))
          walk_at "rd"
          obtain ⟨o1, o2⟩ := out hme H3 s3 hp3
          rw [o1, o2]
          exact ⟨⟨_, rfl⟩, upd_same, push_same s3 hp⟩
      · have hme : m = dAt ds k := by
          have hl0 : ((way ds k).tail.take m).length = 0 := by rw [hem]; rfl
          rw [List.length_take, hwt] at hl0
          omega
        walk_at "rd"
        refine ⟨.inl ⟨rfl, _, SqL.of hp3⟩, ?_⟩
        walk_at "rd"
        refine r_append hp3 ?_ ?_
        · rw [List.length_map, List.length_take]
          exact small20000 (by omega)
        walk_at "rd"
        refine ⟨_, "1", rfl, rfl, ?_, ?_⟩
        · rw [signs_len, List.length_append, List.length_replicate]
          exact Nat.le_of_lt (small20000 (by rw [show ("1" : Str).length = 1 by rfl]; omega))
        walk_at "rd"
        obtain ⟨o1, o2⟩ := out hme H3 s3 hp3
        rw [o1, o2]
        exact ⟨⟨_, rfl⟩, upd_same, push_same s3 hp⟩
    · rintro σ H1 ⟨⟨v, rfl⟩, hp1, s1⟩
      have hok := opn_le hD ds.length (Nat.le_refl _)
      have hw := way_len hD ds.length (Nat.le_refl _)
      have hrl := rowP_len hD ds.length (Nat.le_refl _)
      have hwt : (way ds ds.length).tail.length = opn ds ds.length := by rw [List.length_tail]; omega
      walk_at "rd"
      refine ⟨p, _, rfl, .inl (SqL.of hp1), ?_⟩
      walk_at "rd"
      rw [List.length_map, hwt]
      refine ⟨"0", (opn ds ds.length : Int), rfl, rfl, by omega, by omega, ?_, few (by decide), ?_⟩
      · exact Nat.le_of_lt (small20000 (by rw [show ("0" : Str).length = 1 by rfl]; omega))
      have e0 : repS ("0" : Str) ((opn ds ds.length : Int)).toNat = signs (List.replicate (opn ds ds.length) false) := by
        rw [Int.toNat_natCast]
        exact rep_signs false _
      rw [e0]
      walk_at "rd"
      refine ⟨_, _, rfl, rfl, ?_, ?_⟩
      · rw [signs_len, signs_len, List.length_replicate]
        exact Nat.le_of_lt (small20000 (by omega))
      rw [signs_append]
      exact q H1 s1

def spRead16 : Sp := fun vs H Q _ => ∃ z : Str, vs = [.str z] ∧ z.length ≤ 600 ∧ ∀ v H', Same H H' → WordR H z v H' → Q v H'
def codes (l : List Bool) : List Nat := l.map fun b => if b then 49 else 48
theorem codes_app (a b : List Bool) : codes (a ++ b) = codes a ++ codes b := List.map_append
theorem dueN {z : Str} {d : Nat} (h : dueV (.str z) = some d) (hz : z ≠ ("-" : Str)) : wordN z := due_wordN (eDue_some h) hz
theorem ok_law_read {f : Addr} {fd : FuncData} (F : Fun K "_law_read" "_law_read" s_law_read f fd) (T : Txt K mg C_WoodError C_NoRow) : FnOk P w K mg base CX0 1 f fd ["_law_word"] spRead16 := by
  refine F.ok sc_law_read (fun vs H Q E h => ?_) (fun cdv A outer s H vs Q E hr h => ?_)
  · obtain ⟨z, rfl, _⟩ := h
    rfl
  · obtain ⟨z, rfl, hz, q⟩ := h
    refine ⟨_, (pss_cons (ps_if (pt_cmpR op_eq (pv 0) pe_str (nomark _)) (pss_one (ps_ret (pe_lst pa_nil)))
      pss_nil)
      (pss_cons (ps_set (i := 1) sc_law_read.nd rfl (Or.inl rfl) (pe_lst pa_nil))
      (pss_cons (ps_set (i := 2) sc_law_read.nd rfl (Or.inl rfl) (pe_lst pa_nil))
      (pss_cons (ps_for PassesOwn.never rfl (pi_str (pv 0)) (pg_name (i := 3) sc_law_read.nd rfl (Or.inl rfl))
      (pss_one (ps_if (pt_cmpR op_eq (pv 3) pe_str (nomark _)) (pss_cons (ps_expr (pe_bm PySem.F.plainAttrs_list PySem.F.slot_list_append PySem.F.type_list_append mt_append (pv 1) (pa_d (pe_ix ix_list (pe_op op_cat (pe_lst (pa_d (pe_un un_neg pe_int) pa_nil rfl)) (pv 2)) (pe_un un_neg pe_int) (fun _ _ => rfl)) pa_nil rfl)))
      (pss_one (ps_expr (pe_bm PySem.F.plainAttrs_list PySem.F.slot_list_append PySem.F.type_list_append mt_append (pv 2) (pa_d (pe_op op_sub (pe_callB call_len_seq (by rfl) T.n_len b_len (pa_d (pv 1) pa_nil rfl)) pe_int) pa_nil rfl)))))
      (pss_one (ps_if (PW.pt (pw_or (pt_cmpR op_ne (pv 3) pe_str (nomark _)) (pw_or1 (pt_cmpR (op_eqL (hu60 hr)) (pv 2) (pe_lst pa_nil) (nomark _))))) (pss_one (ps_ret pe_non))
      (pss_one (ps_expr (pe_bm0 PySem.F.plainAttrs_list PySem.F.slot_list_pop PySem.F.type_list_pop mt_pop (pv 2)))))))))
      (pss_cons (ps_if (PW.pt (pw_or (pt_cmpR (op_neL (hu60 hr)) (pv 2) (pe_lst pa_nil) (nomark _)) (pw_or1 (pt_cmpR (op_eqL (hu60 hr)) (pv 1) (pe_lst pa_nil) (nomark _))))) (pss_one (ps_ret pe_non))
      pss_nil)
      (pss_one (ps_ret (pv 1)))))))), ?_⟩
    walk_at "rd"
    refine iteP (fun h => ?_) (fun h => ?_)
    · walk_at "rd"
      refine ⟨Nat.zero_le _, fun p hp => ?_⟩
      exact q _ _ (same_upd hp) (.inr ⟨p, [], rfl, hp, upd_same, (fun k hk => by cases hk), .inl ⟨V.str.inj h, rfl⟩⟩)
    have hns : z ≠ ("-" : Str) := fun e => h (congrArg V.str e)
    have hcl := cps_len z
    walk_at "rd"
    refine ⟨Nat.zero_le _, fun p hp1 => ?_⟩
    have hp : H p = none := hp1
    have t1 := same_upd (o := .lst []) hp1
    walk_at "rd"
    refine ⟨Nat.zero_le _, fun y hy => ?_⟩
    have t2 := same_upd (o := .lst []) hy
    have hyH : H y = none := t1.free hy
    have hpy : p ≠ y := ne_of_none upd_same hy
    walk_at "rd"
    refine ⟨_, rfl, ?_⟩
    refine for_str (fun i σ H2 => (∃ (ds : List Nat) (h : Nat) (v : Option V), σ = [some (.str z), some (.ref p), some (.ref y), v] ∧ Dok ds ∧ ds.length ≤ i ∧ h ≤ opn ds ds.length ∧ z.cps.toList.take i = codes (rowP ds ds.length ++ List.replicate (opn ds ds.length - h) false) ∧ dueF (z.cps.toList.drop i) i h = dueV (.str z) ∧
        H2 p = some (.lst ((elds ds).map V.int)) ∧ H2 y = some (.lst (((way ds ds.length).tail.take h).map V.int))) ∧ Same H H2) ?_ ?_ ?_
    · exact ⟨⟨[], 0, _, rfl, (fun k hk => by cases hk), Nat.le_refl _, Nat.le_refl _, rfl, rfl, t2 _ _ upd_same, upd_same⟩, t1.trans t2⟩
    · rintro i c σ H2 hc ⟨⟨ds, h, v, rfl, hD, hdl, hop, htk, hd, hp2, hy2⟩, s2⟩
      have hi : i < z.length := (Array.getElem?_eq_some_iff.mp hc).1
      have hc2 : z.cps.toList[i]? = some c := by rw [Array.getElem?_toList]; exact hc
      have tk1 : z.cps.toList.take (i + 1) = z.cps.toList.take i ++ [c] := by rw [List.take_add_one, hc2]; rfl
      rw [cps_drop hc] at hd
      have hw := way_len hD ds.length (Nat.le_refl _)
      have hok := opn_le hD ds.length (Nat.le_refl _)
      have hh := way_head hD (k := ds.length) (Nat.le_refl _)
      have hwt : (way ds ds.length).tail.length = opn ds ds.length := by rw [List.length_tail]; omega
      walk_at "rd"
      refine iteP (fun h1 => ?_) (fun h1 => ?_)
      · obtain rfl := sgn_one h1
        rw [dueF_one, if_neg (by omega), show ((h : Int) + 1) = ((h + 1 : Nat) : Int) by omega] at hd
        walk_at "rd"
        refine ⟨.inl ⟨rfl, _, SqL.of hp2⟩, ?_⟩
        walk_at "rd"
        refine ⟨few (by simp), fun q4 h4 => ?_⟩
        have u4 := same_upd (o := .lst [V.int (-1)]) h4
        have e4 : upd H2 q4 (.lst [V.int (-1)]) q4 = some (.lst [V.int (-1)]) := upd_same
        have hp4 := u4 _ _ hp2
        have hy4 := u4 _ _ hy2
        have s4 := s2.trans u4
        generalize upd H2 q4 (.lst [V.int (-1)]) = H4 at *
        walk_at "rd"
        refine ⟨q4, y, _, _, rfl, rfl, e4, hy4, ?_, fun q5 h5 => ?_⟩
        · rw [List.length_map, List.length_take]
          exact few (by simp only [List.length_cons, List.length_nil]; omega)
        have ew : [V.int (-1)] ++ ((way ds ds.length).tail.take h).map V.int = ((way ds ds.length).take (h + 1)).map V.int := by
          rw [hh]
          rfl
        rw [ew] at *
        have u5 := same_upd (o := .lst (((way ds ds.length).take (h + 1)).map V.int)) h5
        have e5 : upd H4 q5 (.lst (((way ds ds.length).take (h + 1)).map V.int)) q5 = some (.lst (((way ds ds.length).take (h + 1)).map V.int)) := upd_same
        have hp5 := u5 _ _ hp4
        have hy5 := u5 _ _ hy4
        have s5 := s4.trans u5
        generalize upd H4 q5 (.lst (((way ds ds.length).take (h + 1)).map V.int)) = H5 at *
        have hx : (way ds ds.length)[h + 1 - 1]? = some ((way ds ds.length).getD h 0) := by
          rw [Nat.add_sub_cancel]
          unfold List.getD
          rw [List.getElem?_eq_getElem (by omega)]
          rfl
        walk_at "rd"
        refine r_ixL (SqL.of e5) (last_take (by omega) hx) ?_
        walk_at "rd"
        refine r_append hp5 ?_ ?_
        · rw [List.length_map, elds_len]
          exact small1000 (by omega)
        have s6 := push_same (o := .lst ((elds ds).map V.int ++ [V.int ((way ds ds.length).getD h 0)])) s5 hp
        have hy6 : upd H5 p (.lst ((elds ds).map V.int ++ [V.int ((way ds ds.length).getD h 0)])) y = some (.lst (((way ds ds.length).tail.take h).map V.int)) := by rw [upd_ne hpy.symm]; exact hy5
        have hp6 : upd H5 p (.lst ((elds ds).map V.int ++ [V.int ((way ds ds.length).getD h 0)])) p = some (.lst ((elds ds).map V.int ++ [V.int ((way ds ds.length).getD h 0)])) := upd_same
        generalize upd H5 p (.lst ((elds ds).map V.int ++ [V.int ((way ds ds.length).getD h 0)])) = H6 at *
        walk_at "rd"
        refine ⟨.inl ⟨rfl, _, SqL.of hy6⟩, ?_⟩
        walk_at "rd"
        refine ⟨p, _, rfl, .inl (SqL.of hp6), ?_⟩
        walk_at "rd"
        rw [List.length_append, List.length_map, elds_len]
        refine r_append hy6 ?_ ?_
        · rw [List.length_map, List.length_take]
          exact small1000 (by omega)
        walk_at "rd"
        have hD2 := dok_snoc (d := h) hD hop
        have hl2 : (ds ++ [h]).length = ds.length + 1 := by rw [List.length_append]; rfl
        have ho2 : opn (ds ++ [h]) (ds.length + 1) = h + 1 := by
          show dAt (ds ++ [h]) ds.length + 1 = _
          rw [dAt_new]
        refine ⟨⟨ds ++ [h], h + 1, _, rfl, hD2, by omega, by rw [hl2, ho2]; exact Nat.le_refl _, ?_, hd, ?_, ?_⟩, push_same s6 hyH⟩
        · rw [tk1, htk, hl2, ho2, Nat.sub_self, List.replicate_zero, List.append_nil, rowP_succ, rowP_snoc _ (Nat.le_refl _)]
          unfold pieceB
          rw [opn_snoc _ (Nat.le_refl _), dAt_new, ← List.append_assoc]
          exact (codes_app _ [true]).symm
        · rw [upd_ne hpy, hp6, elds_snoc, List.map_append]
          rfl
        · have e2 : (way (ds ++ [h]) (ds.length + 1)).tail.take (h + 1) = (way ds ds.length).tail.take h ++ [(ds.length : Int)] := by
            rw [way_next]
            have e3 : ((way ds ds.length).take (h + 1) ++ [(ds.length : Int)]).tail = (way ds ds.length).tail.take h ++ [(ds.length : Int)] := by
              rw [hh]
              rfl
            rw [e3, List.take_of_length_le]
            rw [List.length_append, List.length_take]
            simp only [List.length_cons, List.length_nil]
            omega
          have ei : (((ds.length + [V.int ((way ds ds.length).getD h 0)].length : Nat) : Int) - 1) = (ds.length : Int) := by
            simp only [List.length_cons, List.length_nil]
            omega
          rw [upd_same, hl2, e2, List.map_append, ei]
          rfl
      · have hn49 := sgn_one' h1
        walk_at "rd"
        refine iteN (fun h2 => ?_) (fun h2 => ?_)
        · have hbad : isBad c = true := by
            cases hb : isBad c with
            | true => rfl
            | false =>
              rcases bad_iff.mp hb with e | e
              · exact absurd (by rw [e]; rfl) h2
              · exact absurd e hn49
          rw [dueF_bad _ _ _ hbad] at hd
          walk_at "rd"
          exact q _ _ s2 (.inl ⟨rfl, dueN hd.symm hns⟩)
        · obtain rfl : c = 48 := by
            have e := congrArg (fun z : Str => z.cps.toList) (V.str.inj h2)
            exact (List.cons.inj (show [c] = [48] from e)).1
          rw [dueF_nul] at hd
          walk_at "rd"
          refine ⟨Nat.zero_le _, fun e hE => ?_⟩
          have tE := same_upd (o := .lst []) hE
          have hp3 := tE _ _ hp2
          have hy3 := tE _ _ hy2
          have s3 := s2.trans tE
          refine r_eqI (ns := (way ds ds.length).tail.take h) (ms := []) (SqL.of hy3) (SqL.of upd_same) ?_
          generalize upd H2 e (.lst []) = H3 at *
          walk_at "rd"
          refine iteP (fun hem => ?_) (fun hne => ?_)
          · have h0 : h = 0 := by
              have := congrArg List.length hem
              rw [List.length_take, hwt, List.length_nil] at this
              omega
            rw [if_pos (by omega)] at hd
            walk_at "rd"
            exact q _ _ s3 (.inl ⟨rfl, dueN hd.symm hns⟩)
          · have h0 : 0 < h := by
              rcases Nat.eq_zero_or_pos h with e | e
              · rw [e] at hne
                exact absurd rfl hne
              · exact e
            rw [if_neg (by omega)] at hd
            walk_at "rd"
            refine ⟨.inl ⟨rfl, _, SqL.of hy3⟩, ?_⟩
            have hx : (way ds ds.length).tail[h - 1]? = some ((way ds ds.length).tail.getD (h - 1) 0) := by
              unfold List.getD
              rw [List.getElem?_eq_getElem (by omega)]
              rfl
            refine ⟨y, _, .int ((way ds ds.length).tail.getD (h - 1) 0), rfl, rfl, hy3, ?_, ?_⟩
            · rw [len_take (by omega), iV_at]
              rw [List.getElem?_take_of_lt (by omega)]
              exact hx
            walk_at "rd"
            rw [drop_last (by omega)]
            refine ⟨⟨ds, h - 1, _, rfl, hD, by omega, by omega, ?_, ?_, ?_, upd_same⟩, push_same s3 hyH⟩
            · rw [tk1, htk, show opn ds ds.length - (h - 1) = opn ds ds.length - h + 1 by omega, List.replicate_succ', ← List.append_assoc]
              exact (codes_app _ [false]).symm
            · rw [show ((h - 1 : Nat) : Int) = (h : Int) + -1 by omega]
              exact hd
            · rw [upd_ne hpy]
              exact hp3
    · rintro σ H2 ⟨⟨ds, h, v, rfl, hD, hdl, hop, htk, hd, hp2, hy2⟩, s2⟩
      rw [show z.cps.size = z.cps.toList.length from Array.length_toList.symm, List.take_of_length_le (Nat.le_refl _)] at htk
      rw [show z.cps.size = z.cps.toList.length from Array.length_toList.symm, List.drop_of_length_le (Nat.le_refl _)] at hd
      have hd : (if (h : Int) > 0 then some z.cps.toList.length else none) = dueV (.str z) := hd
      have hw := way_len hD ds.length (Nat.le_refl _)
      have hwt : (way ds ds.length).tail.length = opn ds ds.length := by rw [List.length_tail]; omega
      have hdl2 : ds.length ≤ 600 := by
        have : ds.length ≤ z.length := hdl
        omega
      walk_at "rd"
      refine ⟨Nat.zero_le _, fun e hE => ?_⟩
      have tE := same_upd (o := .lst []) hE
      have hp3 := tE _ _ hp2
      have hy3 := tE _ _ hy2
      have s3 := s2.trans tE
      refine r_neI (ns := (way ds ds.length).tail.take h) (ms := []) (SqL.of hy3) (SqL.of upd_same) ?_
      generalize upd H2 e (.lst []) = H3 at *
      walk_at "rd"
      refine iteN (fun hne => ?_) (fun hem => ?_)
      · have h0 : 0 < h := by
          rcases Nat.eq_zero_or_pos h with e | e
          · rw [e] at hne
            exact absurd rfl hne
          · exact e
        rw [if_pos (by omega)] at hd
        walk_at "rd"
        exact q _ _ s3 (.inl ⟨rfl, dueN hd.symm hns⟩)
      · have h0 : h = 0 := by
          have := congrArg List.length hem
          rw [List.length_take, hwt, List.length_nil] at this
          omega
        subst h0
        have hzr : z = signs (rowD ds) := by
          refine ext_cps (htk.trans ?_)
          rw [signs_cps, Nat.sub_zero]
          rfl
        walk_at "rd"
        refine ⟨Nat.zero_le _, fun e2 hE2 => ?_⟩
        have tE2 := same_upd (o := .lst []) hE2
        have hp4 := tE2 _ _ hp3
        have s4 := s3.trans tE2
        refine r_eqI (ns := elds ds) (ms := []) (SqL.of hp4) (SqL.of upd_same) ?_
        generalize upd H3 e2 (.lst []) = H4 at *
        walk_at "rd"
        refine iteP (fun hem2 => ?_) (fun hne => ?_)
        · walk_at "rd"
          refine q _ _ s4 (.inl ⟨rfl, hns, fun es hE3 e3 => .inl ?_⟩)
          have : es = ds := rowD_inj hE3 hD (signs_inj (e3.symm.trans hzr))
          rw [this]
          have := congrArg List.length hem2
          rw [elds_len] at this
          exact List.length_eq_zero_iff.mp this
        · walk_at "rd"
          refine q _ _ s4 (.inr ⟨p, ds, rfl, hp, hp4, hD, .inr ⟨hzr, fun e3 => hne (by rw [e3]; rfl), by omega⟩⟩)

theorem int_of {z : Str} (h : z.cps.toList.all isDig = true) (h0 : z.cps.toList.length ≠ 0) (hl : z.length ≤ 600) : PySem.intText? z = some ((dv z.cps.toList : Nat) : Int) :=
  PySem.intText_digits (fun c hc => dig_iff.mp (List.all_eq_true.mp h c hc)) (fun e => h0 (by rw [e]; rfl)) (by omega)
theorem ok_law_figures {f : Addr} {fd : FuncData} (F : Fun K "_law_figures" "_law_figures" s_law_figures f fd) (T : Txt K mg C_WoodError C_NoRow) : FnOk P w K mg base CX0 1 f fd ["_law_word", "_law_most"] spFig := by
  refine F.ok sc_law_figures (fun vs H Q E h => ?_) (fun cdv A outer s H vs Q E hr h => ?_)
  · obtain ⟨z, m, rfl, _⟩ := h
    rfl
  · obtain ⟨z, m, rfl, hz, q⟩ := h
    refine ⟨_, (pss_cons (ps_if (PW.pt (pw_or (pt_cmpR op_lt (pe_callB call_len_str (by rfl) T.n_len b_len (pa_d (pv 0) pa_nil rfl)) pe_int (nomark _)) (pw_or (pt_cmpR op_gt (pe_callB call_len_str (by rfl) T.n_len b_len (pa_d (pv 0) pa_nil rfl)) (pv 1) (nomark _)) (pw_or1 (PW.pt (pw_and (pt_cmpR op_gt (pe_callB call_len_str (by rfl) T.n_len b_len (pa_d (pv 0) pa_nil rfl)) pe_int (nomark _)) (pw_and1 (pt_cmpR op_eq (pe_ix ix_str (pv 0) pe_int (fun _ _ => rfl)) pe_str (nomark _))))))))) (pss_one (ps_ret pe_non))
      pss_nil)
      (pss_cons (ps_for PassesOwn.never rfl (pi_str (pv 0)) (pg_name (i := 2) sc_law_figures.nd rfl (Or.inl rfl))
      (pss_one (ps_if (pt_cmpR op_notIn_str (pv 2) pe_str rfl) (pss_one (ps_ret pe_non))
      pss_nil)))
      (pss_one (ps_ret (pe_callTy call_int_text (by rfl) T.n_int b_int (pa_d (pv 0) pa_nil rfl)))))), ?_⟩
    have hzl : z.length ≤ sizeLine := few (by omega)
    have hcl := cps_len z
    walk_at "rd"
    refine ⟨_, rfl, hzl, ?_⟩
    walk_at "rd"
    refine iteP (fun h => ?_) (fun h0 => ?_)
    · rw [numR_len (.inl (by omega))] at q
      walk_at "rd"
      exact q
    walk_at "rd"
    refine ⟨_, rfl, hzl, ?_⟩
    walk_at "rd"
    refine iteP (fun h => ?_) (fun h1 => ?_)
    · rw [numR_len (.inr (by omega))] at q
      walk_at "rd"
      exact q
    have hlen : ¬ (z.cps.toList.length = 0 ∨ m < z.cps.toList.length) := by omega
    obtain ⟨c0, hc0⟩ : ∃ c, z.cps.toList[0]? = some c := ⟨z.cps.toList[0]'(by omega), List.getElem?_eq_getElem _⟩
    have hh : z.cps.toList.head? = some c0 := by rw [List.head?_eq_getElem?]; exact hc0
    walk_at "rd"
    refine ⟨_, rfl, hzl, ?_⟩
    walk_at "rd"
    refine iteP (fun h2 => ?_) (fun h2 => ?_)
    · walk_at "rd"
      refine ⟨z, 0, c0, rfl, rfl, hzl, atI_nat (j := 0) hc0, ?_⟩
      walk_at "rd"
      refine iteP (fun h => ?_) (fun h => ?_)
      · have e48 : c0 = 48 := by
          have e := congrArg (fun z : Str => z.cps.toList) (V.str.inj h)
          exact (List.cons.inj (show [c0] = [48] from e)).1
        rw [numR_nul ⟨by rw [hh, e48], by omega⟩] at q
        walk_at "rd"
        exact q
      · have hnn : ¬ (z.cps.toList.head? = some 48 ∧ 1 < z.cps.toList.length) := fun ⟨h3, _⟩ => h (by rw [hh] at h3; rw [Option.some.inj h3]; rfl)
        walk_at "rd"
        refine ⟨_, rfl, ?_⟩
        refine for_str (fun i σ H1 => (∃ v : Option V, σ = [some (.str z), some (.int m), v]) ∧ H1 = H ∧ ∀ j c, j < i → z.cps.toList[j]? = some c → isDig c = true) ?_ ?_ ?_
        · exact ⟨⟨_, rfl⟩, rfl, fun j c hj => by omega⟩
        · rintro i c σ H1 hc ⟨⟨v, rfl⟩, rfl, hall⟩
          have hc2 : z.cps.toList[i]? = some c := by rw [Array.getElem?_toList]; exact hc
          walk_at "rd"
          refine ⟨_, _, rfl, rfl, ?_⟩
          rw [occF]
          cases hb : isDig c with
          | false =>
            rw [numR_bad (not_all hc2 hb)] at q
            walk_at "rd"
            exact q
          | true =>
            walk_at "rd"
            refine ⟨⟨_, rfl⟩, rfl, fun j c' hj hc' => ?_⟩
            by_cases e : j = i
            · subst e
              rw [hc2] at hc'
              rw [← Option.some.inj hc']
              exact hb
            · exact hall j c' (by omega) hc'
        · rintro σ H1 ⟨⟨v, rfl⟩, rfl, hall⟩
          have hA : z.cps.toList.all isDig = true := all_of fun i c hc => hall i c (by rw [show z.cps.size = z.cps.toList.length from Array.length_toList.symm]; exact at_lt hc) hc
          rw [numR_val hlen hA hnn] at q
          walk_at "rd"
          refine ⟨z, _, rfl, int_of hA (fun e => hlen (.inl e)) hz, by omega, ?_⟩
          exact q
    · have hnn : ¬ (z.cps.toList.head? = some 48 ∧ 1 < z.cps.toList.length) := fun ⟨_, h3⟩ => h2 (by omega)
      walk_at "rd"
      refine ⟨_, rfl, ?_⟩
      refine for_str (fun i σ H1 => (∃ v : Option V, σ = [some (.str z), some (.int m), v]) ∧ H1 = H ∧ ∀ j c, j < i → z.cps.toList[j]? = some c → isDig c = true) ?_ ?_ ?_
      · exact ⟨⟨_, rfl⟩, rfl, fun j c hj => by omega⟩
      · rintro i c σ H1 hc ⟨⟨v, rfl⟩, rfl, hall⟩
        have hc2 : z.cps.toList[i]? = some c := by rw [Array.getElem?_toList]; exact hc
        walk_at "rd"
        refine ⟨_, _, rfl, rfl, ?_⟩
        rw [occF]
        cases hb : isDig c with
        | false =>
          rw [numR_bad (not_all hc2 hb)] at q
          walk_at "rd"
          exact q
        | true =>
          walk_at "rd"
          refine ⟨⟨_, rfl⟩, rfl, fun j c' hj hc' => ?_⟩
          by_cases e : j = i
          · subst e
            rw [hc2] at hc'
            rw [← Option.some.inj hc']
            exact hb
          · exact hall j c' (by omega) hc'
      · rintro σ H1 ⟨⟨v, rfl⟩, rfl, hall⟩
        have hA : z.cps.toList.all isDig = true := all_of fun i c hc => hall i c (by rw [show z.cps.size = z.cps.toList.length from Array.length_toList.symm]; exact at_lt hc) hc
        rw [numR_val hlen hA hnn] at q
        walk_at "rd"
        refine ⟨z, _, rfl, int_of hA (fun e => hlen (.inl e)) hz, by omega, ?_⟩
        exact q

def spSpoil : Sp := fun vs H Q _ => ∃ (z : Str) (n : Int), vs = [.str z, .int n] ∧ z.length ≤ 100 ∧ 0 ≤ n ∧ ∀ (y : Str) H', Same H H' → y.length ≤ 300 → Q (.str y) H'
theorem ok_law_spoiled {f : Addr} {fd : FuncData} (F : Fun K "_law_spoiled" "_law_spoiled" s_law_spoiled f fd) (T : Txt K mg C_WoodError C_NoRow) : FnOk P w K mg base CX0 1 f fd ["_law_word", "_law_number_here"] spSpoil := by
  refine F.ok sc_law_spoiled (fun vs H Q E h => ?_) (fun cdv A outer s H vs Q E hr h => ?_)
  · obtain ⟨z, n, rfl, _⟩ := h
    rfl
  · obtain ⟨z, n, rfl, hz, hn, q⟩ := h
    refine ⟨_, (pss_cons (ps_set (i := 2) sc_law_spoiled.nd rfl (Or.inl rfl) (pe_op op_mod (pe_op op_fdiv (pv 1) pe_int) (pe_op op_add (pe_callB call_len_str (by rfl) T.n_len b_len (pa_d (pv 0) pa_nil rfl)) pe_int)))
      (pss_cons (ps_set (i := 3) sc_law_spoiled.nd rfl (Or.inl rfl) (pe_ix ix_str pe_str (pe_op op_mod (pe_op op_fdiv (pv 1) pe_int) pe_int) (fun _ _ => rfl)))
      (pss_cons (ps_if (pt_cmpR op_eq (pe_op op_mod (pv 1) pe_int) pe_int (nomark _)) (pss_one (ps_ret (pe_op op_add_str (pe_slice sl_str (pv 0) po_none (po_some (pv 2))) (pe_slice sl_str (pv 0) (po_some (pe_op op_add (pv 2) pe_int)) po_none))))
      pss_nil)
      (pss_cons (ps_if (pt_cmpR op_eq (pe_op op_mod (pv 1) pe_int) pe_int (nomark _)) (pss_one (ps_ret (pe_op op_add_str (pe_op op_add_str (pe_slice sl_str (pv 0) po_none (po_some (pv 2))) (pv 3)) (pe_slice sl_str (pv 0) (po_some (pe_op op_add (pv 2) pe_int)) po_none))))
      pss_nil)
      (pss_cons (ps_if (pt_cmpR op_eq (pe_op op_mod (pv 1) pe_int) pe_int (nomark _)) (pss_one (ps_ret (pe_ix ix_list (pe_lst (pa_d pe_str (pa_d pe_str (pa_d pe_str (pa_d pe_str (pa_d pe_str (pa_d pe_str (pa_d pe_str pa_nil rfl) rfl) rfl) rfl) rfl) rfl) rfl)) (pe_op op_mod (pe_op op_fdiv (pv 1) pe_int) pe_int) (fun _ _ => rfl))))
      pss_nil)
      (pss_one (ps_ret (pe_op op_add_str (pe_op op_add_str (pe_slice sl_str (pv 0) po_none (po_some (pv 2))) (pv 3)) (pe_slice sl_str (pv 0) (po_some (pv 2)) po_none))))))))), ?_⟩
    have hzl : z.length ≤ sizeLine := few (by omega)
    walk_at "rd"
    refine ⟨_, rfl, hzl, ?_⟩
    walk_at "rd"
    refine r_mod (by omega) ?_
    walk_at "rd"
    obtain ⟨ch, hch⟩ := sign_at (z := "0110-2 a") (i := n / 400 % 8) (by omega) (by show _ < (8 : Int); omega)
    refine ⟨_, _, ch, rfl, rfl, by decide, hch, ?_⟩
    have l1 := cut_len z none (some (n / 4 % ((z.length : Int) + 1)))
    have l2 := cut_len z (some (n / 4 % ((z.length : Int) + 1) + 1)) none
    have l3 := cut_len z (some (n / 4 % ((z.length : Int) + 1))) none
    walk_at "rd"
    refine iteP (fun _ => ?_) (fun _ => ?_)
    · walk_at "rd"
      refine r_slS hzl ?_
      walk_at "rd"
      refine r_slS hzl ?_
      walk_at "rd"
      refine ⟨_, _, rfl, rfl, few (by omega), ?_⟩
      refine q _ _ (Same.refl _) ?_
      rw [app_len]
      omega
    walk_at "rd"
    refine iteP (fun _ => ?_) (fun _ => ?_)
    · walk_at "rd"
      refine r_slS hzl ?_
      walk_at "rd"
      refine ⟨_, _, rfl, rfl, ?_, ?_⟩
      · refine few ?_
        show _ + 1 ≤ _
        omega
      walk_at "rd"
      refine r_slS hzl ?_
      walk_at "rd"
      refine ⟨_, _, rfl, rfl, ?_, ?_⟩
      · refine few ?_
        rw [app_len]
        show _ + 1 + _ ≤ _
        omega
      refine q _ _ (Same.refl _) ?_
      rw [app_len, app_len]
      show _ + 1 + _ ≤ _
      omega
    walk_at "rd"
    refine iteP (fun _ => ?_) (fun _ => ?_)
    · walk_at "rd"
      refine ⟨few (by simp), fun p hp => ?_⟩
      have t1 := same_upd (o := .lst [V.str "", V.str "-", V.str "--", V.str "10-", V.str "01", V.str "1", V.str "0"]) hp
      obtain ⟨v, hv, hat⟩ := menuV (xs := [V.str "", V.str "-", V.str "--", V.str "10-", V.str "01", V.str "1", V.str "0"]) (k := 7) (i := n / 4 % 7) rfl (by omega) (by omega)
      walk_at "rd"
      refine r_ixL (SqL.of upd_same) hat ?_
      simp only [List.mem_cons, List.not_mem_nil, or_false] at hv
      rcases hv with rfl | rfl | rfl | rfl | rfl | rfl | rfl <;> exact q _ _ t1 (by decide)
    walk_at "rd"
    refine r_slS hzl ?_
    walk_at "rd"
    refine ⟨_, _, rfl, rfl, ?_, ?_⟩
    · refine few ?_
      show _ + 1 ≤ _
      omega
    walk_at "rd"
    refine r_slS hzl ?_
    walk_at "rd"
    refine ⟨_, _, rfl, rfl, ?_, ?_⟩
    · refine few ?_
      rw [app_len]
      show _ + 1 + _ ≤ _
      omega
    refine q _ _ (Same.refl _) ?_
    rw [app_len, app_len]
    show _ + 1 + _ ≤ _
    omega

def spRight16 : Sp := fun vs H Q _ => ∃ z : Str, vs = [.str z] ∧ z.length ≤ 600 ∧ ∀ H', Same H H' → Q (.bl true) H'
theorem ok_law_right {f : Addr} {fd : FuncData} (F : Fun K "_law_right" "_law_right" s_law_right f fd) (T : Txt K mg C_WoodError C_NoRow) (c_law_read : Cal P w K mg base "_law_read" 1 ["_law_word"] spRead16) (c_wood_of_word : Cal P w K mg base "wood_of_word" 5 ["word"] spWord) : FnOk P w K mg base CX0 6 f fd ["_law_word"] spRight16 := by
  refine F.ok sc_law_right (fun vs H Q E h => ?_) (fun cdv A outer s H vs Q E hr h => ?_)
  · obtain ⟨z, rfl, _⟩ := h
    rfl
  · obtain ⟨z, rfl, hz, q⟩ := h
    refine ⟨_, (pss_cons (ps_set (i := 1) sc_law_right.nd rfl (Or.inl rfl) (pe_fn c_law_read (hr.mono (by decide : 1 ≤ _)) (pa_d (pv 0) pa_nil rfl)))
      (pss_cons (ps_set (i := 2) sc_law_right.nd rfl (Or.inl rfl) (pe_fn c_wood_of_word (hr.mono (by decide : 5 ≤ _)) (pa_d (pv 0) pa_nil rfl)))
      (pss_one (ps_ret (pe_and (pe_cmpR (op_eqN (hu60 hr)) (pv 2) (pv 1) (nomark _)) (pe_one (pe_cmpR op_eq (pe_cmp (pc_isN (pv 2))) (pe_cmp (pc_isN (pv 1))) (nomark _)))))))), ?_⟩
    walk_at "rd"
    refine ⟨z, rfl, hz, fun v1 H1 s1 r1 => ?_⟩
    walk_at "rd"
    refine ⟨z, rfl, by omega, fun v2 H2 s2 r2 => ?_⟩
    have s12 := s1.trans s2
    rcases r1 with ⟨rfl, n1⟩ | ⟨p1, ds, rfl, f1, e1, hD, w1⟩
    · rcases r2 with ⟨rfl, n2⟩ | ⟨p2, es, rfl, f2, e2, hE, w2⟩
      · walk_at "rd"
        refine .inl ⟨rfl, rfl, ?_⟩
        walk_at "rd"
        exact q _ s12
      · exact (word_not w2 hE n1).elim
    · rcases r2 with ⟨rfl, n2⟩ | ⟨p2, es, rfl, f2, e2, hE, w2⟩
      · exact (word_not w1 hD n2).elim
      · obtain rfl := word_both w1 w2 hD hE
        walk_at "rd"
        refine .inr (r_same (SameD.lsts (SqL.of e2) (SqL.of (s2 _ _ e1)) (flat_ints _)) ?_)
        walk_at "rd"
        exact q _ s12

def spLaw (K : PySem.W.Frag) : Sp := fun vs H Q _ => ∃ (a : Addr) (ns : List Int), vs = [.ref a] ∧ SqL K H a (ns.map V.int) ∧ ns.length ≤ 63 ∧ ∀ H', Q (.bl true) H'
theorem rep_flat (n : Nat) (x : V) : (List.replicate n [x]).flatten = List.replicate n x := by
  induction n with
  | zero => rfl
  | succ n ih => rw [List.replicate_succ, List.flatten_cons, ih]; rfl
theorem eld_small {ds : List Nat} (hD : Dok ds) (hl : ds.length ≤ 30) : ∀ n ∈ elds ds, n.natAbs < 10 ^ 4 := fun n hn => by
  obtain ⟨k, hk⟩ := List.getElem?_of_mem hn
  have hkl := at_lt hk
  rw [elds_len] at hkl
  rw [elds_at hkl] at hk
  have e := Option.some.inj hk
  subst e
  have h10 : (100 : Nat) < 10 ^ 4 := by decide
  by_cases h : eld ds k = -1
  · rw [h]
    decide
  · obtain ⟨v, hv, hlt, _⟩ := eld_deep hD hkl h
    omega
def wordOf (ds : List Nat) : Str := if ds = [] then "-" else signs (rowD ds)
theorem wordOf_d {ds : List Nat} (hl : ds.length ≤ 4000) : wordD (wordOf ds) ds := by
  unfold wordOf
  by_cases h : ds = []
  · rw [if_pos h]
    exact .inl ⟨rfl, h⟩
  · rw [if_neg h]
    exact .inr ⟨rfl, h, hl⟩
theorem wordOf_len {ds : List Nat} (hD : Dok ds) (hl : ds.length ≤ 30) : (wordOf ds).length ≤ 60 := by
  unfold wordOf
  split
  · decide
  · rw [signs_len, rowD_len hD]
    omega
theorem numR_kind (cs : List Nat) (m : Nat) : numR cs m = .non ∨ ∃ n : Int, numR cs m = .int n := by
  unfold numR
  split
  · exact .inl rfl
  · split
    · split
      · exact .inl rfl
      · exact .inr ⟨_, rfl⟩
    · exact .inl rfl
theorem ok_law {f : Addr} {fd : FuncData} (F : Fun K "law" "law" s_law f fd) (T : Txt K mg C_WoodError C_NoRow) (c_written_number : Cal P w K mg base "written_number" 1 ["word", "figures"] spFig) (c_wood_of_word : Cal P w K mg base "wood_of_word" 5 ["word"] spWord) (c_shown_list : Cal P w K mg base "shown_list" 2 ["some"] spShownL) (c_law_number : Cal P w K mg base "_law_number" 1 ["_law_cell"] spNumber)
    (c_law_wood : Cal P w K mg base "_law_wood" 3 ["_law_cell", "_law_most"] spWood16) (c_law_row : Cal P w K mg base "_law_row" 1 ["_law_elders"] spRow) (c_law_figures : Cal P w K mg base "_law_figures" 1 ["_law_word", "_law_most"] spFig) (c_law_spoiled : Cal P w K mg base "_law_spoiled" 1 ["_law_word", "_law_number_here"] spSpoil)
    (c_law_right : Cal P w K mg base "_law_right" 6 ["_law_word"] spRight16) : FnOk P w K mg base CX0 7 f fd ["_law_script"] (spLaw K) := by
  refine F.ok sc_law (fun vs H Q E h => ?_) (fun cdv A outer s H vs Q E hr h => ?_)
  · obtain ⟨a, ns, rfl, _⟩ := h
    rfl
  · obtain ⟨a, ns, rfl, hS, hlen, q⟩ := h
    refine ⟨_, (pss_cons (ps_if (PW.pt (pw_or (pt_cmp (pc_notN (pe_fn c_wood_of_word (hr.mono (by decide : 5 ≤ _)) (pa_d (pe_op op_mulS pe_str pe_int) pa_nil rfl)))) (pw_or1 (pt_cmpR (op_neD (hu60 hr)) (pe_fn c_wood_of_word (hr.mono (by decide : 5 ≤ _)) (pa_d (pe_op op_mulS pe_str pe_int) pa_nil rfl)) (pe_op op_rep (pe_lst (pa_d (pe_un un_neg pe_int) pa_nil rfl)) pe_int) (nomark _))))) (pss_one (ps_ret pe_bl))
      pss_nil)
      (pss_cons (ps_set (i := 1) sc_law.nd rfl (Or.inl rfl) pe_str)
      (pss_cons (ps_for PassesOwn.never rfl (pi_list (pe_op op_cat (pe_slice sl_list (pv 0) po_none (po_some pe_int)) (pe_lst (pa_d pe_int pa_nil rfl)))) (pg_name (i := 2) sc_law.nd rfl (Or.inl rfl))
      (pss_cons (ps_set (i := 3) sc_law.nd rfl (Or.inl rfl) (pe_fn c_law_wood (hr.mono (by decide : 3 ≤ _)) (pa_d (pv 2) (pa_d pe_int pa_nil rfl) rfl)))
      (pss_cons (ps_set (i := 4) sc_law.nd rfl (Or.inl rfl) (pe_fn c_law_number (hr.mono (by decide : 1 ≤ _)) (pa_d (pv 2) pa_nil rfl)))
      (pss_cons (ps_set (i := 5) sc_law.nd rfl (Or.inl rfl) (pe_fn c_law_row (hr.mono (by decide : 1 ≤ _)) (pa_d (pv 3) pa_nil rfl)))
      (pss_cons (ps_ifJ (pt_cmpR op_eq (pv 5) pe_str (nomark _)) (pss_one (ps_set (i := 5) sc_law.nd rfl (Or.inl rfl) pe_str))
      pss_nil)
      (pss_cons (ps_if (PW.pt (pw_or (pt_cmpR (op_neD (hu60 hr)) (pe_fn c_wood_of_word (hr.mono (by decide : 5 ≤ _)) (pa_d (pv 5) pa_nil rfl)) (pv 3) (nomark _)) (pw_or1 (pt_not (pt_val (pe_fn c_law_right (hr.mono (by decide : 6 ≤ _)) (pa_d (pe_fn c_law_spoiled (hr.mono (by decide : 1 ≤ _)) (pa_d (pv 5) (pa_d (pv 4) pa_nil rfl) rfl)) pa_nil rfl))))))) (pss_one (ps_ret pe_bl))
      pss_nil)
      (pss_cons (ps_set (i := 6) sc_law.nd rfl (Or.inl rfl) pe_str)
      (pss_cons (ps_ifJ (pt_cmpR (op_neL (hu60 hr)) (pv 3) (pe_lst pa_nil) (nomark _)) (pss_one (ps_set (i := 6) sc_law.nd rfl (Or.inl rfl) (pe_bm PySem.F.plainAttrs_str PySem.F.slot_str_join PySem.F.type_str_join mt_join pe_str (pa_d (pe_lc rfl lc_law_0 (pi_list (pv 3)) (fun _ _ _ _ => pif_nil) (fun _ _ _ _ => (pe_callTy call_str_int (by rfl) T.n_str b_str (pa_d (pv 0) pa_nil rfl)))) pa_nil rfl))))
      pss_nil)
      (pss_cons (ps_if (pt_cmpR op_ne (pe_fn c_shown_list (hr.mono (by decide : 2 ≤ _)) (pa_d (pe_callTy call_list_of (by rfl) T.n_list b_list (pa_d (pv 3) pa_nil rfl)) pa_nil rfl)) (pv 6) (nomark _)) (pss_one (ps_ret pe_bl))
      pss_nil)
      (pss_one (ps_set (i := 1) sc_law.nd rfl (Or.inl rfl) (pe_op op_add_str (pv 1) (pe_ix ix_str pe_str (pe_op op_mod (pe_op op_fdiv (pv 4) pe_int) pe_int) (fun _ _ => rfl))))))))))))))
      (pss_cons (ps_for PassesOwn.never rfl (pi_list (pe_bm PySem.F.plainAttrs_str PySem.F.slot_str_split PySem.F.type_str_split mt_split (pv 1) (pa_d pe_str pa_nil rfl))) (pg_name (i := 7) sc_law.nd rfl (Or.inl rfl))
      (pss_one (ps_for PassesOwn.never rfl (pi_list (pe_lst (pa_d pe_int (pa_d pe_int (pa_d pe_int (pa_d pe_int pa_nil rfl) rfl) rfl) rfl))) (pg_name (i := 8) sc_law.nd rfl (Or.inl rfl))
      (pss_cons (ps_set (i := 9) sc_law.nd rfl (Or.inl rfl) (pe_fn c_written_number (hr.mono (by decide : 1 ≤ _)) (pa_d (pv 7) (pa_d (pv 8) pa_nil rfl) rfl)))
      (pss_cons (ps_set (i := 6) sc_law.nd rfl (Or.inl rfl) (pe_fn c_law_figures (hr.mono (by decide : 1 ≤ _)) (pa_d (pv 7) (pa_d (pv 8) pa_nil rfl) rfl)))
      (pss_one (ps_if (PW.pt (pw_or (pt_cmpR op_ne (pv 9) (pv 6) (nomark _)) (pw_or1 (pt_val (pe_callB call_isinst (by rfl) T.n_isinstance b_isinstance (pa_d (pv 9) (pa_d (pe_bltn (v := .ty "bool") rfl T.n_bool b_bool rfl) pa_nil rfl) rfl)))))) (pss_one (ps_ret pe_bl))
      pss_nil)))))))
      (pss_one (ps_ret pe_bl)))))), ?_⟩
    have big : ∀ {n : Nat}, n ≤ 10000 → n ≤ sizeLine := fun h => Nat.le_of_lt (small20000 (by omega))
    walk_at "rd"
    refine ⟨"10", 4001, rfl, rfl, by decide, by decide, big (by decide), few (by decide), ?_⟩
    rw [show repS ("10" : Str) (4001 : Int).toNat = signs (rowT 4001) from rep10 4001]
    walk_at "rd"
    refine ⟨_, rfl, by rw [signs_len, rowT_len]; omega, fun v1 H1 s1 r1 => ?_⟩
    have hv1 : v1 = .non := by
      rcases r1 with ⟨e, _⟩ | ⟨p, ds, _, _, _, hD, wd⟩
      · exact e
      · rcases wd with ⟨e, _⟩ | ⟨e, _, hl⟩
        · exact absurd e (not_stroke _)
        · have := rowD_len hD
          rw [← signs_inj e, rowT_len] at this
          omega
    clear r1
    subst hv1
    walk_at "rd"
    refine ⟨"10", 4000, rfl, rfl, by decide, by decide, big (by decide), few (by decide), ?_⟩
    rw [show repS ("10" : Str) (4000 : Int).toNat = signs (rowT 4000) from rep10 4000]
    walk_at "rd"
    refine ⟨_, rfl, by rw [signs_len, rowT_len]; omega, fun v2 H2 s2 r2 => ?_⟩
    obtain ⟨p2, hv2, hp2⟩ : ∃ p2, v2 = .ref p2 ∧ H2 p2 = some (.lst ((List.replicate 4000 (-1 : Int)).map V.int)) := by
      rcases r2 with ⟨_, _, hn⟩ | ⟨p, ds, e, _, hp, hD, wd⟩
      · rcases hn (List.replicate 4000 0) (flat_dok 4000) (by rw [flat_rowD]) with h | h
        · have := congrArg List.length h
          rw [List.length_replicate, List.length_nil] at this
          omega
        · rw [List.length_replicate] at h
          omega
      · rcases wd with ⟨e, _⟩ | ⟨e2, _, hl⟩
        · exact absurd e (not_stroke _)
        · have hds : ds = List.replicate 4000 0 := rowD_inj hD (flat_dok 4000) (by rw [flat_rowD]; exact (signs_inj e2).symm)
          rw [hds, flat_elds] at hp
          exact ⟨p, e, hp⟩
    clear r2
    subst hv2
    walk_at "rd"
    refine ⟨few (by simp), fun q1 h1 => ?_⟩
    have t1 := same_upd (o := .lst [V.int (-1)]) h1
    have e1 : upd H2 q1 (.lst [V.int (-1)]) q1 = some (.lst [V.int (-1)]) := upd_same
    have hp2 := t1 _ _ hp2
    generalize upd H2 q1 (.lst [V.int (-1)]) = G1 at *
    walk_at "rd"
    refine ⟨q1, 4000, _, rfl, rfl, e1, by decide, by decide, big (by decide), fun q2 h2 => ?_⟩
    rw [show (4000 : Int).toNat = 4000 from rfl, rep_flat] at *
    have t2 := same_upd (o := .lst (List.replicate 4000 (V.int (-1)))) h2
    refine r_same (SameD.lsts (SqL.of (t2 _ _ hp2)) (SqL.of (by rw [upd_same, List.map_replicate])) (flat_ints _)) ?_
    have s3 := (((s1.trans s2).trans t1).trans t2)
    generalize upd G1 q2 (.lst (List.replicate 4000 (V.int (-1)))) = H3 at *
    walk_at "rd"
    refine ⟨a, _, rfl, s3.seq hS, fun p7 h7 => ?_⟩
    obtain ⟨ms, hms, hml⟩ := cut_ints ns none (some 30)
    have hml2 : ms.length ≤ 30 := by
      have e := congrArg List.length hms
      rw [List.length_map] at e
      have e2 : (cutV (ns.map V.int) none (some ((30 : Nat) : Int))).length ≤ 30 := by
        rw [cut_to, List.length_take]
        omega
      have e2 : (cutV (ns.map V.int) none (some 30)).length ≤ 30 := e2
      omega
    rw [hms] at *
    have t7 := same_upd (o := .lst (ms.map V.int)) h7
    walk_at "rd"
    refine ⟨few (by simp), fun p8 h8 => ?_⟩
    have t8 := same_upd (o := .lst [V.int 44]) h8
    refine ⟨p7, p8, _, _, rfl, rfl, t8 _ _ upd_same, upd_same, ?_, fun p9 h9 => ?_⟩
    · rw [List.length_map]
      exact few (by simp only [List.length_cons, List.length_nil]; omega)
    have hxs : ms.map V.int ++ [V.int 44] = (ms ++ [44]).map V.int := by rw [List.map_append]; rfl
    rw [hxs] at *
    have hcl : (ms ++ [44]).length ≤ 31 := by rw [List.length_append]; simp only [List.length_cons, List.length_nil]; omega
    generalize ms ++ [44] = cs at *
    have hc9 : upd (upd (upd H3 p7 (.lst (ms.map V.int))) p8 (.lst [V.int 44])) p9 (.lst (cs.map V.int)) p9 = some (.lst (cs.map V.int)) := upd_same
    generalize upd (upd (upd H3 p7 (.lst (ms.map V.int))) p8 (.lst [V.int 44])) p9 (.lst (cs.map V.int)) = H9 at *
    walk_at "rd"
    refine ⟨p9, rfl, ⟨_, SqL.of hc9⟩, ?_⟩
    refine for_list (xs := cs.map V.int) (fun i σ H10 => (∃ (z : Str) (v2 v3 v4 v5 v6 : Option V), σ = [some (.ref a), some (.str z), v2, v3, v4, v5, v6, none, none, none] ∧ z.length = i) ∧ Same H9 H10) ?_ (fun i σ H10 _ h => SqL.of (h.2 _ _ hc9)) ?_ ?_
    · exact ⟨⟨_, _, _, _, _, _, rfl, rfl⟩, Same.refl _⟩
    · rintro i x σ H10 hx ⟨⟨z, v2, v3, v4, v5, v6, rfl, hz⟩, s10⟩
      have hi := at_lt hx
      rw [List.length_map] at hi
      obtain ⟨c, _, rfl⟩ := iV_get hx
      walk_at "rd"
      refine ⟨c, rfl, fun p ds H11 s11 _ hp11 hD hdl => ?_⟩
      walk_at "rd"
      refine ⟨c, rfl, fun r r0 r1 => ?_⟩
      walk_at "rd"
      refine ⟨p, ds, rfl, hp11, hD, by omega, fun H12 s12 => ?_⟩
      have hp12 := s12 _ _ hp11
      have s12' := (s10.trans s11).trans s12
      walk_at "rd"
      refine r_ifJ (fun σ H13 => σ = [some (.ref a), some (.str z), some (.int c), some (.ref p), some (.int r), some (.str (wordOf ds)), v6, none, none, none] ∧ H13 = H12) ?_ ?_
      · walk_at "rd"
        refine iteP (fun h => ?_) (fun h => ?_)
        · have hds : ds = [] := by
            have e : rowD ds = [] := signs_inj (b := []) (V.str.inj h)
            have := rowD_len hD
            rw [e] at this
            exact List.length_eq_zero_iff.mp (by simp only [List.length_nil] at this; omega)
          walk_at "rd"
          refine ⟨?_, rfl⟩
          unfold wordOf
          rw [if_pos hds]
          rfl
        · have hds : ds ≠ [] := fun e => h (by rw [e]; rfl)
          walk_at "rd"
          refine ⟨?_, rfl⟩
          unfold wordOf
          rw [if_neg hds]
          rfl
      · rintro σ H13 ⟨rfl, rfl⟩
        have hwd := wordOf_d (ds := ds) (by omega)
        have hwl := wordOf_len hD hdl
        generalize wordOf ds = y at *
        walk_at "rd"
        refine ⟨y, rfl, by omega, fun v14 H14 s14 r14 => ?_⟩
        obtain ⟨p14, hv14, hp14⟩ : ∃ p14, v14 = .ref p14 ∧ H14 p14 = some (.lst ((elds ds).map V.int)) := by
          rcases r14 with ⟨_, hn⟩ | ⟨p, es, e, _, hp, hE, wd⟩
          · exact (word_not hwd hD hn).elim
          · obtain rfl := word_both wd hwd hE hD
            exact ⟨p, e, hp⟩
        clear r14
        subst hv14
        have hp15 := s14 _ _ hp12
        walk_at "rd"
        refine r_same (SameD.lsts (SqL.of hp14) (SqL.of hp15) (flat_ints _)) ?_
        walk_at "rd"
        refine ⟨y, r, rfl, by omega, r0, fun y2 H15 s15 hy2 => ?_⟩
        walk_at "rd"
        refine ⟨y2, rfl, by omega, fun H16 s16 => ?_⟩
        have hp16 := s16 _ _ (s15 _ _ hp15)
        have s16' := ((s12'.trans s14).trans s15).trans s16
        walk_at "rd"
        refine r_ifJ (fun σ H17 => σ = [some (.ref a), some (.str z), some (.int c), some (.ref p), some (.int r), some (.str y), some (.str (shownS (elds ds))), none, none, none] ∧ Same H16 H17) ?_ ?_
        · walk_at "rd"
          refine ⟨Nat.zero_le _, fun e hE => ?_⟩
          have tE := same_upd (o := .lst []) hE
          refine r_neI (ns := elds ds) (ms := []) (SqL.of (tE _ _ hp16)) (SqL.of upd_same) ?_
          have hp17 := tE _ _ hp16
          generalize upd H16 e (.lst []) = H17 at *
          walk_at "rd"
          refine iteN (fun hne => ?_) (fun hem => ?_)
          · walk_at "rd"
            refine ⟨rfl, ?_⟩
            walk_at "rd"
            refine ⟨p, rfl, ⟨_, SqL.of hp17⟩, lc_list (SqL.of hp17) (fun i => (((elds ds).take i).map fun i : Int => Str.ofString (toString i)).map V.str) rfl (fun i hi => ?_) (fun i x H5 R A' hx s5 kR kA => ?_) (fun D5 H5 h5 s5 hD5 => ?_)⟩
            · rw [List.length_map, List.length_map, List.length_take]
              exact small1000 (by rw [elds_len]; omega)
            · obtain ⟨e, he, rfl⟩ := iV_get hx
              walk_at "rd"
              refine ⟨e, rfl, log_four (eld_small hD hdl e (List.mem_of_getElem? he)), ?_⟩
              refine kA _ _ ?_ (Same.refl _)
              rw [List.take_add_one, he, List.map_append, List.map_append]
              rfl
            · rw [List.length_map, List.take_of_length_le (Nat.le_refl _)] at hD5
              walk_at "rd"
              refine ⟨_, D5, _, rfl, rfl, SqL.of hD5, shown_fits (by rw [elds_len]; omega) (eld_small hD hdl), ?_⟩
              walk_at "rd"
              refine ⟨?_, tE.trans s5⟩
              unfold shownS
              rw [if_neg hne]
              rfl
          · walk_at "rd"
            refine ⟨?_, tE⟩
            unfold shownS
            rw [if_pos hem]
            rfl
        · rintro σ H17 ⟨rfl, s17⟩
          have hp17 := s17 _ _ hp16
          walk_at "rd"
          refine ⟨p, _, rfl, .inl (SqL.of hp17), fun p18 h18 => ?_⟩
          have t18 := same_upd (o := .lst ((elds ds).map V.int)) h18
          walk_at "rd"
          refine ⟨p18, elds ds, rfl, upd_same, by rw [elds_len]; omega, eld_small hD hdl, fun H19 s19 => ?_⟩
          walk_at "rd"
          refine iteN (fun h => absurd rfl h) (fun _ => ?_)
          walk_at "rd"
          obtain ⟨ch, hch⟩ := sign_at (z := "0123456789-|+_\t") (i := r / 7 % 15) (by omega) (by show _ < (15 : Int); omega)
          refine ⟨_, _, ch, rfl, rfl, by decide, hch, ?_⟩
          walk_at "rd"
          refine ⟨_, _, rfl, rfl, ?_, ?_⟩
          · refine few ?_
            show _ + 1 ≤ _
            omega
          walk_at "rd"
          refine ⟨⟨_, _, _, _, _, _, rfl, ?_⟩, ((s16'.trans s17).trans t18).trans s19⟩
          rw [app_len]
          show _ + 1 = _
          omega
    · rintro σ H10 ⟨⟨z, v2, v3, v4, v5, v6, rfl, hz⟩, s10⟩
      rw [List.length_map] at hz
      walk_at "rd"
      refine ⟨rfl, ?_⟩
      walk_at "rd"
      refine ⟨z, "|", rfl, rfl, rfl, by omega, fun D ws hDn hws hwl => ?_⟩
      have eD : upd H10 D (.lst (ws.map V.str)) D = some (.lst (ws.map V.str)) := upd_same
      generalize upd H10 D (.lst (ws.map V.str)) = H11 at *
      walk_at "rd"
      refine ⟨D, rfl, ⟨_, SqL.of eD⟩, ?_⟩
      refine for_list (xs := ws.map V.str) (fun i σ H12 => (∃ v6 v7 v8 v9 : Option V, σ = [some (.ref a), some (.str z), v2, v3, v4, v5, v6, v7, v8, v9]) ∧ Same H11 H12) ⟨⟨_, _, _, _, rfl⟩, Same.refl _⟩ (fun i σ H12 _ h => SqL.of (h.2 _ _ eD)) ?_ (fun σ H12 _ => q H12)
      rintro i x σ H12 hx ⟨⟨v6, v7, v8, v9, rfl⟩, s12⟩
      obtain ⟨y, hy, rfl⟩ : ∃ y, y ∈ ws ∧ x = .str y := by
        obtain ⟨y, hy, e⟩ := List.mem_map.mp (List.mem_of_getElem? hx)
        exact ⟨y, hy, e.symm⟩
      have hyl := hws y hy
      walk_at "rd"
      refine ⟨few (by simp), fun q3 h3 => ?_⟩
      have t3 := same_upd (o := .lst ([1, 2, 4, 120].map V.int)) h3
      have e3 : upd H12 q3 (.lst ([1, 2, 4, 120].map V.int)) q3 = some (.lst ([1, 2, 4, 120].map V.int)) := upd_same
      have s13 := s12.trans t3
      show _
      walk_at "rd"
      refine ⟨q3, rfl, ⟨_, SqL.of e3⟩, ?_⟩
      refine for_list (xs := [1, 2, 4, 120].map V.int) (fun i σ H14 => (∃ v6 v8 v9 : Option V, σ = [some (.ref a), some (.str z), v2, v3, v4, v5, v6, some (.str y), v8, v9]) ∧ Same (upd H12 q3 (.lst ([1, 2, 4, 120].map V.int))) H14) ⟨⟨_, _, _, rfl⟩, Same.refl _⟩ (fun i σ H14 _ h => SqL.of (h.2 _ _ e3)) ?_ ?_
      · rintro j x σ H14 hx ⟨⟨v6, v8, v9, rfl⟩, s14⟩
        obtain ⟨m, hm, rfl⟩ : ∃ m : Nat, m ≤ 120 ∧ x = .int m := by
          have := List.mem_of_getElem? hx
          simp only [List.map_cons, List.map_nil, List.mem_cons, List.not_mem_nil, or_false] at this
          rcases this with rfl | rfl | rfl | rfl
          · exact ⟨1, by decide, rfl⟩
          · exact ⟨2, by decide, rfl⟩
          · exact ⟨4, by decide, rfl⟩
          · exact ⟨120, by decide, rfl⟩
        walk_at "rd"
        refine ⟨y, m, rfl, by omega, ?_⟩
        walk_at "rd"
        refine ⟨y, m, rfl, by omega, ?_⟩
        rcases numR_kind y.cps.toList m with hk | ⟨n, hk⟩
        · rw [hk]
          walk_at "rd"
          refine ⟨_, _, _, _, rfl, .non, (by rfl : PySem.W.kitOne K (.type "NoneType") (.type "bool") = some false), ?_⟩
          walk_at "rd"
          exact ⟨⟨_, _, _, rfl⟩, s14⟩
        · rw [hk]
          walk_at "rd"
          refine iteN (fun h => absurd rfl h) (fun _ => ?_)
          walk_at "rd"
          refine ⟨_, _, _, _, rfl, .int _, kit_int_bool, ?_⟩
          walk_at "rd"
          exact ⟨⟨_, _, _, rfl⟩, s14⟩
      · rintro σ H14 ⟨⟨v6, v8, v9, rfl⟩, s14⟩
        exact ⟨⟨_, _, _, _, rfl⟩, s13.trans s14⟩

end
set_option maxHeartbeats 8000000 in
theorem all_mk {l : PySem.W.OpenLaw} {w : World} {K : PySem.W.Frag} {h : Heap} {mg : Str → Option Value} {fa : Addr} (X : K.In h) (G : h.Ns mainGlobals mg) (hfa : mg "law" = some (.ref fa))
    {f0 : Addr} {od0 an0 : Option Addr} {sl0 : Array (Option Value)} {oc0 kV0 dc0 pm0 cd0 ct0 : Value}
    {f1 : Addr} {od1 an1 : Option Addr} {sl1 : Array (Option Value)} {oc1 kV1 dc1 pm1 cd1 ct1 : Value}
    {f2 : Addr} {od2 an2 : Option Addr} {sl2 : Array (Option Value)} {oc2 kV2 dc2 pm2 cd2 ct2 : Value}
    {f3 : Addr} {od3 an3 : Option Addr} {sl3 : Array (Option Value)} {oc3 kV3 dc3 pm3 cd3 ct3 : Value}
    {f4 : Addr} {od4 an4 : Option Addr} {sl4 : Array (Option Value)} {oc4 kV4 dc4 pm4 cd4 ct4 : Value}
    {f5 : Addr} {od5 an5 : Option Addr} {sl5 : Array (Option Value)} {oc5 kV5 dc5 pm5 cd5 ct5 : Value}
    {f6 : Addr} {od6 an6 : Option Addr} {sl6 : Array (Option Value)} {oc6 kV6 dc6 pm6 cd6 ct6 : Value}
    {f7 : Addr} {od7 an7 : Option Addr} {sl7 : Array (Option Value)} {oc7 kV7 dc7 pm7 cd7 ct7 : Value}
    {f8 : Addr} {od8 an8 : Option Addr} {sl8 : Array (Option Value)} {oc8 kV8 dc8 pm8 cd8 ct8 : Value}
    {f9 : Addr} {od9 an9 : Option Addr} {sl9 : Array (Option Value)} {oc9 kV9 dc9 pm9 cd9 ct9 : Value}
    {f10 : Addr} {od10 an10 : Option Addr} {sl10 : Array (Option Value)} {oc10 kV10 dc10 pm10 cd10 ct10 : Value}
    {f11 : Addr} {od11 an11 : Option Addr} {sl11 : Array (Option Value)} {oc11 kV11 dc11 pm11 cd11 ct11 : Value}
    {f12 : Addr} {od12 an12 : Option Addr} {sl12 : Array (Option Value)} {oc12 kV12 dc12 pm12 cd12 ct12 : Value}
    {f13 : Addr} {od13 an13 : Option Addr} {sl13 : Array (Option Value)} {oc13 kV13 dc13 pm13 cd13 ct13 : Value}
    {f14 : Addr} {od14 an14 : Option Addr} {sl14 : Array (Option Value)} {oc14 kV14 dc14 pm14 cd14 ct14 : Value}
    {f15 : Addr} {od15 an15 : Option Addr} {sl15 : Array (Option Value)} {oc15 kV15 dc15 pm15 cd15 ct15 : Value}
    {t_MOST_SIGNS_pairs : Tok}
    {t_MOST_SIGNS_woods : Tok}
    {t_FIGURES : Tok}
    {C_WoodError : Addr}
    {C_NoRow : Addr}
    {nm_NoRow qn_NoRow : Str} {N_NoRow : Addr} {bs_NoRow : List Value} {sn_NoRow : List Str} {sub_NoRow : List Value} {ab_NoRow : Bool} {col_NoRow : Option Bool} {dd_NoRow : Option Addr} {k0_NoRow k1_NoRow k2_NoRow k3_NoRow k5_NoRow : Option Value}
    (i0 : PySem.W.isFn K (.ref f0) = true)
    (a0 : PySem.W.findIn K (.ref C_NoRow) "__init__" = some (some (.ref f0))) (l0 : K.lookup f0 = some ⟨oc0, od0, .func (PySem.W.fnOf "__init__" "NoRow.__init__" (defArgs s_NoRow_init) (defBody s_NoRow_init) (defScope s_NoRow_init) .none kV0 dc0 pm0 an0 cd0 ct0), sl0⟩) (c0 : PySem.W.codeIn K cd0 "NoRow.__init__" = true) (k0 : PySem.W.keepIn K (.ref f0) = true)
    (a1 : PySem.W.nsIn K mainGlobals "check_row" = some (some (.ref f1))) (l1 : K.lookup f1 = some ⟨oc1, od1, .func (PySem.W.fnOf "check_row" "check_row" (defArgs s_check_row) (defBody s_check_row) (defScope s_check_row) .none kV1 dc1 pm1 an1 cd1 ct1), sl1⟩) (c1 : PySem.W.codeIn K cd1 "check_row" = true) (k1 : PySem.W.keepIn K (.ref f1) = true)
    (a2 : PySem.W.nsIn K mainGlobals "elders_of" = some (some (.ref f2))) (l2 : K.lookup f2 = some ⟨oc2, od2, .func (PySem.W.fnOf "elders_of" "elders_of" (defArgs s_elders_of) (defBody s_elders_of) (defScope s_elders_of) .none kV2 dc2 pm2 an2 cd2 ct2), sl2⟩) (c2 : PySem.W.codeIn K cd2 "elders_of" = true) (k2 : PySem.W.keepIn K (.ref f2) = true)
    (a3 : PySem.W.nsIn K mainGlobals "written_number" = some (some (.ref f3))) (l3 : K.lookup f3 = some ⟨oc3, od3, .func (PySem.W.fnOf "written_number" "written_number" (defArgs s_written_number) (defBody s_written_number) (defScope s_written_number) .none kV3 dc3 pm3 an3 cd3 ct3), sl3⟩) (c3 : PySem.W.codeIn K cd3 "written_number" = true) (k3 : PySem.W.keepIn K (.ref f3) = true)
    (a4 : PySem.W.nsIn K mainGlobals "wood_of_word" = some (some (.ref f4))) (l4 : K.lookup f4 = some ⟨oc4, od4, .func (PySem.W.fnOf "wood_of_word" "wood_of_word" (defArgs s_wood_of_word) (defBody s_wood_of_word) (defScope s_wood_of_word) .none kV4 dc4 pm4 an4 cd4 ct4), sl4⟩) (c4 : PySem.W.codeIn K cd4 "wood_of_word" = true) (k4 : PySem.W.keepIn K (.ref f4) = true)
    (a5 : PySem.W.nsIn K mainGlobals "shown" = some (some (.ref f5))) (l5 : K.lookup f5 = some ⟨oc5, od5, .func (PySem.W.fnOf "shown" "shown" (defArgs s_shown) (defBody s_shown) (defScope s_shown) .none kV5 dc5 pm5 an5 cd5 ct5), sl5⟩) (c5 : PySem.W.codeIn K cd5 "shown" = true) (k5 : PySem.W.keepIn K (.ref f5) = true)
    (a6 : PySem.W.nsIn K mainGlobals "shown_list" = some (some (.ref f6))) (l6 : K.lookup f6 = some ⟨oc6, od6, .func (PySem.W.fnOf "shown_list" "shown_list" (defArgs s_shown_list) (defBody s_shown_list) (defScope s_shown_list) .none kV6 dc6 pm6 an6 cd6 ct6), sl6⟩) (c6 : PySem.W.codeIn K cd6 "shown_list" = true) (k6 : PySem.W.keepIn K (.ref f6) = true)
    (a7 : PySem.W.nsIn K mainGlobals "_law_number" = some (some (.ref f7))) (l7 : K.lookup f7 = some ⟨oc7, od7, .func (PySem.W.fnOf "_law_number" "_law_number" (defArgs s_law_number) (defBody s_law_number) (defScope s_law_number) .none kV7 dc7 pm7 an7 cd7 ct7), sl7⟩) (c7 : PySem.W.codeIn K cd7 "_law_number" = true) (k7 : PySem.W.keepIn K (.ref f7) = true)
    (a8 : PySem.W.nsIn K mainGlobals "_law_twice" = some (some (.ref f8))) (l8 : K.lookup f8 = some ⟨oc8, od8, .func (PySem.W.fnOf "_law_twice" "_law_twice" (defArgs s_law_twice) (defBody s_law_twice) (defScope s_law_twice) .none kV8 dc8 pm8 an8 cd8 ct8), sl8⟩) (c8 : PySem.W.codeIn K cd8 "_law_twice" = true) (k8 : PySem.W.keepIn K (.ref f8) = true)
    (a9 : PySem.W.nsIn K mainGlobals "_law_wood" = some (some (.ref f9))) (l9 : K.lookup f9 = some ⟨oc9, od9, .func (PySem.W.fnOf "_law_wood" "_law_wood" (defArgs s_law_wood) (defBody s_law_wood) (defScope s_law_wood) .none kV9 dc9 pm9 an9 cd9 ct9), sl9⟩) (c9 : PySem.W.codeIn K cd9 "_law_wood" = true) (k9 : PySem.W.keepIn K (.ref f9) = true)
    (a10 : PySem.W.nsIn K mainGlobals "_law_row" = some (some (.ref f10))) (l10 : K.lookup f10 = some ⟨oc10, od10, .func (PySem.W.fnOf "_law_row" "_law_row" (defArgs s_law_row) (defBody s_law_row) (defScope s_law_row) .none kV10 dc10 pm10 an10 cd10 ct10), sl10⟩) (c10 : PySem.W.codeIn K cd10 "_law_row" = true) (k10 : PySem.W.keepIn K (.ref f10) = true)
    (a11 : PySem.W.nsIn K mainGlobals "_law_read" = some (some (.ref f11))) (l11 : K.lookup f11 = some ⟨oc11, od11, .func (PySem.W.fnOf "_law_read" "_law_read" (defArgs s_law_read) (defBody s_law_read) (defScope s_law_read) .none kV11 dc11 pm11 an11 cd11 ct11), sl11⟩) (c11 : PySem.W.codeIn K cd11 "_law_read" = true) (k11 : PySem.W.keepIn K (.ref f11) = true)
    (a12 : PySem.W.nsIn K mainGlobals "_law_figures" = some (some (.ref f12))) (l12 : K.lookup f12 = some ⟨oc12, od12, .func (PySem.W.fnOf "_law_figures" "_law_figures" (defArgs s_law_figures) (defBody s_law_figures) (defScope s_law_figures) .none kV12 dc12 pm12 an12 cd12 ct12), sl12⟩) (c12 : PySem.W.codeIn K cd12 "_law_figures" = true) (k12 : PySem.W.keepIn K (.ref f12) = true)
    (a13 : PySem.W.nsIn K mainGlobals "_law_spoiled" = some (some (.ref f13))) (l13 : K.lookup f13 = some ⟨oc13, od13, .func (PySem.W.fnOf "_law_spoiled" "_law_spoiled" (defArgs s_law_spoiled) (defBody s_law_spoiled) (defScope s_law_spoiled) .none kV13 dc13 pm13 an13 cd13 ct13), sl13⟩) (c13 : PySem.W.codeIn K cd13 "_law_spoiled" = true) (k13 : PySem.W.keepIn K (.ref f13) = true)
    (a14 : PySem.W.nsIn K mainGlobals "_law_right" = some (some (.ref f14))) (l14 : K.lookup f14 = some ⟨oc14, od14, .func (PySem.W.fnOf "_law_right" "_law_right" (defArgs s_law_right) (defBody s_law_right) (defScope s_law_right) .none kV14 dc14 pm14 an14 cd14 ct14), sl14⟩) (c14 : PySem.W.codeIn K cd14 "_law_right" = true) (k14 : PySem.W.keepIn K (.ref f14) = true)
    (a15 : PySem.W.nsIn K mainGlobals "law" = some (some (.ref f15))) (l15 : K.lookup f15 = some ⟨oc15, od15, .func (PySem.W.fnOf "law" "law" (defArgs s_law) (defBody s_law) (defScope s_law) .none kV15 dc15 pm15 an15 cd15 ct15), sl15⟩) (c15 : PySem.W.codeIn K cd15 "law" = true) (k15 : PySem.W.keepIn K (.ref f15) = true)
    (g_MOST_SIGNS_pairs : PySem.W.nsIn K mainGlobals "MOST_SIGNS_pairs" = some (some (.int 8192 t_MOST_SIGNS_pairs)))
    (g_MOST_SIGNS_woods : PySem.W.nsIn K mainGlobals "MOST_SIGNS_woods" = some (some (.int 8000 t_MOST_SIGNS_woods)))
    (g_FIGURES : PySem.W.nsIn K mainGlobals "FIGURES" = some (some (.str "0123456789" t_FIGURES)))
    (z_range : PySem.W.nsIn K mainGlobals "range" = some none)
    (z_len : PySem.W.nsIn K mainGlobals "len" = some none)
    (z_int : PySem.W.nsIn K mainGlobals "int" = some none)
    (z_bool : PySem.W.nsIn K mainGlobals "bool" = some none)
    (z_str : PySem.W.nsIn K mainGlobals "str" = some none)
    (z_isinstance : PySem.W.nsIn K mainGlobals "isinstance" = some none)
    (z_list : PySem.W.nsIn K mainGlobals "list" = some none)
    (z_enumerate : PySem.W.nsIn K mainGlobals "enumerate" = some none)
    (z_abs : PySem.W.nsIn K mainGlobals "abs" = some none)
    (z_max : PySem.W.nsIn K mainGlobals "max" = some none)
    (eg_WoodError : PySem.W.nsIn K mainGlobals "WoodError" = some (some (.ref C_WoodError)))
    (eg_NoRow : PySem.W.nsIn K mainGlobals "NoRow" = some (some (.ref C_NoRow)))
    (ex_WoodError : PySem.W.excIn K C_WoodError veMro "ValueError.__new__" = true)
    (bg_WoodError : PySem.W.specialIn K (.ref C_WoodError) "__getattribute__" = some (some (.builtin "type.__getattribute__")))
    (br_WoodError : PySem.W.readsIn K C_WoodError (.type "type") = true)
    (bi_WoodError : PySem.W.findCls K (.ref C_WoodError) (.type "type") "__init__" = some (.val (.builtin "ValueError.__init__")))
    (sa_NoRow : PySem.W.findIn K (.ref C_NoRow) "__setattr__" = some (some (.builtin "object.__setattr__")))
    (pl_NoRow : PySem.W.findIn K (.ref C_NoRow) "place" = some none)
    (ga_NoRow : PySem.W.findIn K (.ref C_NoRow) "__getattribute__" = some (some (.builtin "BaseException.__getattribute__")))
    (gx_NoRow : PySem.W.findIn K (.ref C_NoRow) "__getattr__" = some none)
    (ca_NoRow : PySem.W.findIn K (.ref C_NoRow) "__class__" = some (some (.builtin "object.__class__")))
    (sp_NoRow : PySem.W.specialIn K (.builtin "object.__class__") "__get__" = some (some (.builtin "getset_descriptor.__get__")))
    (tk_NoRow : PySem.W.takesIn K (.builtin "object.__class__") = some true)
    (mo_NoRow : PySem.W.mroIn K C_NoRow (.type "object") = some true)
    (mb_NoRow : PySem.W.mroIn K C_NoRow (.type "BaseException") = some true)
    (em_NoRow : PySem.W.exmOne K (.ref C_NoRow) (.ref C_WoodError) = some true)
    (em2_NoRow : PySem.W.exmOne K (.ref C_NoRow) (.ref C_NoRow) = some true)
    (ob_NoRow : K.lookup C_NoRow = some (excClassObj nm_NoRow qn_NoRow C_NoRow N_NoRow bs_NoRow (.ref C_WoodError :: veMro) true sn_NoRow sub_NoRow ab_NoRow col_NoRow dd_NoRow k0_NoRow k1_NoRow k2_NoRow k3_NoRow k5_NoRow "ValueError.__new__"))
    : ∃ fd : FuncData, (∀ (s : Shared) (v : Value), BindsTo s fd ⟨[v], []⟩ [("_law_script", v)]) ∧ ∀ base : Heap, K.In base → base.Ns mainGlobals mg → FnOk l.prog w K mg base CX0 7 fa fd ["_law_script"] (spLaw K) := by
  have e := hfa.symm.trans (PySem.W.mg_of X G a15)
  cases e
  have O_NoRow : OwnX K C_WoodError C_NoRow f0 := ⟨ex_WoodError, ⟨_, _, _, _, _, _, _, _, _, _, _, _, _, _, ob_NoRow⟩, a0, beq_iff_eq.mp i0, sa_NoRow, pl_NoRow⟩
  have T : Txt K mg C_WoodError C_NoRow := ⟨PySem.W.mg_of X G eg_WoodError, PySem.W.mg_of X G eg_NoRow, ex_WoodError, bg_WoodError, br_WoodError, bi_WoodError, sa_NoRow, pl_NoRow, ga_NoRow, gx_NoRow, ca_NoRow, sp_NoRow, tk_NoRow, mo_NoRow, mb_NoRow, em_NoRow, em2_NoRow, ⟨_, PySem.W.mg_of X G g_MOST_SIGNS_pairs⟩, ⟨_, PySem.W.mg_of X G g_MOST_SIGNS_woods⟩, ⟨_, PySem.W.mg_of X G g_FIGURES⟩, PySem.W.mg_none_of X G z_range, PySem.W.mg_none_of X G z_len, PySem.W.mg_none_of X G z_int, PySem.W.mg_none_of X G z_bool, PySem.W.mg_none_of X G z_str, PySem.W.mg_none_of X G z_isinstance, PySem.W.mg_none_of X G z_list, PySem.W.mg_none_of X G z_enumerate, PySem.W.mg_none_of X G z_abs, PySem.W.mg_none_of X G z_max, ⟨_, O_NoRow⟩⟩
  have F0 := fun_mk (st := s_NoRow_init) l0 c0 k0
  have b0 := F0.binds (ps := ["self", "place"]) fun _ _ _ _ _ _ => us2 fun _ _ => rfl
  have F1 := fun_mk (st := s_check_row) l1 c1 k1
  have b1 := F1.binds (ps := ["text"]) fun _ _ _ _ _ _ => us1 fun _ => rfl
  have F2 := fun_mk (st := s_elders_of) l2 c2 k2
  have b2 := F2.binds (ps := ["text"]) fun _ _ _ _ _ _ => us1 fun _ => rfl
  have F3 := fun_mk (st := s_written_number) l3 c3 k3
  have b3 := F3.binds (ps := ["word", "figures"]) fun _ _ _ _ _ _ => us2 fun _ _ => rfl
  have F4 := fun_mk (st := s_wood_of_word) l4 c4 k4
  have b4 := F4.binds (ps := ["word"]) fun _ _ _ _ _ _ => us1 fun _ => rfl
  have F5 := fun_mk (st := s_shown) l5 c5 k5
  have b5 := F5.binds (ps := ["answer"]) fun _ _ _ _ _ _ => us1 fun _ => rfl
  have F6 := fun_mk (st := s_shown_list) l6 c6 k6
  have b6 := F6.binds (ps := ["some"]) fun _ _ _ _ _ _ => us1 fun _ => rfl
  have F7 := fun_mk (st := s_law_number) l7 c7 k7
  have b7 := F7.binds (ps := ["_law_cell"]) fun _ _ _ _ _ _ => us1 fun _ => rfl
  have F8 := fun_mk (st := s_law_twice) l8 c8 k8
  have b8 := F8.binds (ps := ["_law_cell", "_law_k"]) fun _ _ _ _ _ _ => us2 fun _ _ => rfl
  have F9 := fun_mk (st := s_law_wood) l9 c9 k9
  have b9 := F9.binds (ps := ["_law_cell", "_law_most"]) fun _ _ _ _ _ _ => us2 fun _ _ => rfl
  have F10 := fun_mk (st := s_law_row) l10 c10 k10
  have b10 := F10.binds (ps := ["_law_elders"]) fun _ _ _ _ _ _ => us1 fun _ => rfl
  have F11 := fun_mk (st := s_law_read) l11 c11 k11
  have b11 := F11.binds (ps := ["_law_word"]) fun _ _ _ _ _ _ => us1 fun _ => rfl
  have F12 := fun_mk (st := s_law_figures) l12 c12 k12
  have b12 := F12.binds (ps := ["_law_word", "_law_most"]) fun _ _ _ _ _ _ => us2 fun _ _ => rfl
  have F13 := fun_mk (st := s_law_spoiled) l13 c13 k13
  have b13 := F13.binds (ps := ["_law_word", "_law_number_here"]) fun _ _ _ _ _ _ => us2 fun _ _ => rfl
  have F14 := fun_mk (st := s_law_right) l14 c14 k14
  have b14 := F14.binds (ps := ["_law_word"]) fun _ _ _ _ _ _ => us1 fun _ => rfl
  have F15 := fun_mk (st := s_law) l15 c15 k15
  refine ⟨PySem.W.fnOf "law" "law" (defArgs s_law) (defBody s_law) (defScope s_law) .none kV15 dc15 pm15 an15 cd15 ct15, fun s v => .of_eq rfl, fun base _ _ => ?_⟩
  have V0 : ExcI l.prog w K mg base "NoRow" C_WoodError C_NoRow 1 ["self", "place"] := ⟨⟨f0, _, ok_NoRow_init F0 T, b0, O_NoRow⟩, T.g_NoRow, T.k_NoRow⟩
  have V1 : CalE l.prog w K mg base "check_row" 3 ["text"] (spCheckG K C_NoRow) := ⟨⟨f1, _, ok_check_row F1 T V0, b1, PySem.W.mg_of X G a1, k1⟩⟩
  have V2 : CalE l.prog w K mg base "elders_of" 4 ["text"] (spEldersG K C_NoRow) := ⟨⟨f2, _, ok_elders_of F2 T V0 V1, b2, PySem.W.mg_of X G a2, k2⟩⟩
  have V3 : Cal l.prog w K mg base "written_number" 1 ["word", "figures"] spFig := ⟨⟨f3, _, ok_written_number F3 T, b3, PySem.W.mg_of X G a3, k3⟩⟩
  have V4 : Cal l.prog w K mg base "wood_of_word" 5 ["word"] spWord := ⟨⟨f4, _, ok_wood_of_word F4 T V2, b4, PySem.W.mg_of X G a4, k4⟩⟩
  have V5 : Cal l.prog w K mg base "shown" 1 ["answer"] spShown := ⟨⟨f5, _, ok_shown F5 T, b5, PySem.W.mg_of X G a5, k5⟩⟩
  have V6 : Cal l.prog w K mg base "shown_list" 2 ["some"] spShownL := ⟨⟨f6, _, ok_shown_list F6 T V5, b6, PySem.W.mg_of X G a6, k6⟩⟩
  have V7 : Cal l.prog w K mg base "_law_number" 1 ["_law_cell"] spNumber := ⟨⟨f7, _, ok_law_number F7 T, b7, PySem.W.mg_of X G a7, k7⟩⟩
  have V8 : Cal l.prog w K mg base "_law_twice" 2 ["_law_cell", "_law_k"] spTwice := ⟨⟨f8, _, ok_law_twice F8 T V7, b8, PySem.W.mg_of X G a8, k8⟩⟩
  have V9 : Cal l.prog w K mg base "_law_wood" 3 ["_law_cell", "_law_most"] spWood16 := ⟨⟨f9, _, ok_law_wood F9 T V8, b9, PySem.W.mg_of X G a9, k9⟩⟩
  have V10 : Cal l.prog w K mg base "_law_row" 1 ["_law_elders"] spRow := ⟨⟨f10, _, ok_law_row F10 T, b10, PySem.W.mg_of X G a10, k10⟩⟩
  have V11 : Cal l.prog w K mg base "_law_read" 1 ["_law_word"] spRead16 := ⟨⟨f11, _, ok_law_read F11 T, b11, PySem.W.mg_of X G a11, k11⟩⟩
  have V12 : Cal l.prog w K mg base "_law_figures" 1 ["_law_word", "_law_most"] spFig := ⟨⟨f12, _, ok_law_figures F12 T, b12, PySem.W.mg_of X G a12, k12⟩⟩
  have V13 : Cal l.prog w K mg base "_law_spoiled" 1 ["_law_word", "_law_number_here"] spSpoil := ⟨⟨f13, _, ok_law_spoiled F13 T, b13, PySem.W.mg_of X G a13, k13⟩⟩
  have V14 : Cal l.prog w K mg base "_law_right" 6 ["_law_word"] spRight16 := ⟨⟨f14, _, ok_law_right F14 T V11 V4, b14, PySem.W.mg_of X G a14, k14⟩⟩
  exact ok_law F15 T V3 V4 V6 V7 V9 V10 V12 V13 V14
theorem walk {l : PySem.W.OpenLaw} {q : Program} {loose : List Str} {XP : (Str → Option Value) → Heap → Prop} {YP : World → Heap → Prop} {d : DefRec} {K : Params → PySem.W.Frag} (hn : l.most = some 63) (hdf : d.params.defaults = [])
    (hY : ∀ (w : World) (h : Heap), YP w h → (K w.params).In h)
    (F : ∀ (w : World) (mg : Str → Option Value) (fa : Addr) (h : Heap), (K w.params).In h → h.Ns mainGlobals mg → mg d.name = some (.ref fa) →
      ∃ fd : FuncData, (∀ (s : Shared) (u : Value), BindsTo s fd ⟨[u], []⟩ [("_law_script", u)]) ∧ ∀ base : Heap, (K w.params).In base → base.Ns mainGlobals mg → FnOk l.prog w (K w.params) mg base CX0 7 fa fd ["_law_script"] (spLaw (K w.params))) :
    PySem.W.WalkO q loose XP YP l.row.toRowW d [] (fun f vs => PySem.call f vs) :=
  L2.walk_of (n := 63) (k := 7) (x := "_law_script") (CX := fun _ => CX0) (sp := fun w => spLaw (K w.params)) hn (by decide) hdf ⟨rfl, by decide, by decide⟩ hY F (fun _ _ a ns hl _ hS => ⟨a, ns, rfl, hS, hl, fun _ => rfl⟩) fun _ _ _ _ _ z => z
end TK
open PySem PySem.W PyProof.Rows
set_option maxRecDepth 100000 in
set_option maxHeartbeats 0 in
theorem PySem.Challenge.cw_tightwood_k16_words_of_rows_holds : PySem.Challenge.rw_tightwood_k16_words_of_rows.Holds := by
  w_on; o_law; k_head; (case hw => w_witness2)
  k_fill
  refine TK.walk (l := PySem.Challenge.rw_tightwood_k16_words_of_rows) rfl rfl (fun w h Y => PySem.W.kIn_of Y) ?F
  case F =>
    intro w mg fa h KX G hmg
    refine' TK.all_mk KX G hmg ?i0 ?a0 ?l0 ?c0 ?k0 ?a1 ?l1 ?c1 ?k1 ?a2 ?l2 ?c2 ?k2 ?a3 ?l3 ?c3 ?k3 ?a4 ?l4 ?c4 ?k4 ?a5 ?l5 ?c5 ?k5 ?a6 ?l6 ?c6 ?k6 ?a7 ?l7 ?c7 ?k7 ?a8 ?l8 ?c8 ?k8 ?a9 ?l9 ?c9 ?k9 ?a10 ?l10 ?c10 ?k10 ?a11 ?l11 ?c11 ?k11 ?a12 ?l12 ?c12 ?k12 ?a13 ?l13 ?c13 ?k13 ?a14 ?l14 ?c14 ?k14 ?a15 ?l15 ?c15 ?k15 ?g_MOST_SIGNS_pairs ?g_MOST_SIGNS_woods ?g_FIGURES ?z_range ?z_len ?z_int ?z_bool ?z_str ?z_isinstance ?z_list ?z_enumerate ?z_abs ?z_max ?eg_WoodError ?eg_NoRow ?ex_WoodError ?bg_WoodError ?br_WoodError ?bi_WoodError ?sa_NoRow ?pl_NoRow ?ga_NoRow ?gx_NoRow ?ca_NoRow ?sp_NoRow ?tk_NoRow ?mo_NoRow ?mb_NoRow ?em_NoRow ?em2_NoRow ?ob_NoRow
    (case eg_WoodError => k_is)
    (case eg_NoRow => k_is)
    (case a0 => k_is)
    (case l0 => k_is)
    (case c0 => k_is)
    (case k0 => k_is)
    (case i0 => k_is)
    (case a1 => k_is)
    (case l1 => k_is)
    (case c1 => k_is)
    (case k1 => k_is)
    (case a2 => k_is)
    (case l2 => k_is)
    (case c2 => k_is)
    (case k2 => k_is)
    (case a3 => k_is)
    (case l3 => k_is)
    (case c3 => k_is)
    (case k3 => k_is)
    (case a4 => k_is)
    (case l4 => k_is)
    (case c4 => k_is)
    (case k4 => k_is)
    (case a5 => k_is)
    (case l5 => k_is)
    (case c5 => k_is)
    (case k5 => k_is)
    (case a6 => k_is)
    (case l6 => k_is)
    (case c6 => k_is)
    (case k6 => k_is)
    (case a7 => k_is)
    (case l7 => k_is)
    (case c7 => k_is)
    (case k7 => k_is)
    (case a8 => k_is)
    (case l8 => k_is)
    (case c8 => k_is)
    (case k8 => k_is)
    (case a9 => k_is)
    (case l9 => k_is)
    (case c9 => k_is)
    (case k9 => k_is)
    (case a10 => k_is)
    (case l10 => k_is)
    (case c10 => k_is)
    (case k10 => k_is)
    (case a11 => k_is)
    (case l11 => k_is)
    (case c11 => k_is)
    (case k11 => k_is)
    (case a12 => k_is)
    (case l12 => k_is)
    (case c12 => k_is)
    (case k12 => k_is)
    (case a13 => k_is)
    (case l13 => k_is)
    (case c13 => k_is)
    (case k13 => k_is)
    (case a14 => k_is)
    (case l14 => k_is)
    (case c14 => k_is)
    (case k14 => k_is)
    (case a15 => k_is)
    (case l15 => k_is)
    (case c15 => k_is)
    (case k15 => k_is)
    (case g_MOST_SIGNS_pairs => k_is)
    (case g_MOST_SIGNS_woods => k_is)
    (case g_FIGURES => k_is)
    (case z_range => k_is)
    (case z_len => k_is)
    (case z_int => k_is)
    (case z_bool => k_is)
    (case z_str => k_is)
    (case z_isinstance => k_is)
    (case z_list => k_is)
    (case z_enumerate => k_is)
    (case z_abs => k_is)
    (case z_max => k_is)
    (case ex_WoodError => k_exc)
    (case bg_WoodError => k_is)
    (case br_WoodError => k_is)
    (case bi_WoodError => k_is)
    (case sa_NoRow => k_is)
    (case pl_NoRow => k_is)
    (case ga_NoRow => k_is)
    (case gx_NoRow => k_is)
    (case ca_NoRow => k_is)
    (case sp_NoRow => k_is)
    (case tk_NoRow => k_is)
    (case mo_NoRow => k_is)
    (case mb_NoRow => k_is)
    (case em_NoRow => kts_exm)
    (case em2_NoRow => kts_exm)
    (case ob_NoRow => k_is)
#print axioms PySem.Challenge.cw_tightwood_k16_words_of_rows_holds
