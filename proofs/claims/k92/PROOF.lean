import PyProof.Rows.All
import Wide.All
import OpenK.AllK
import Wide.FinOn
import Lean
import PyProof.EqAt
import PyProof.EqKinds
import PyProof.TupleCall
import KE.KDictOf
import KE.KItemsList
import KE.KLam
import KE.KNestM
import KE.KRevIter
import KE.KSortKey
import KE.KSortTup
import KE.KTryMore
import OpenK.KCls
import PyProof.AttrMissHeap
import PyProof.Draws
import PyProof.EnumMake
import PyProof.EnumStmt
import PyProof.InstStoreFacts
import PyProof.ListRange
import PyProof.ObjNew
import PyProof.Rows.SeqMore
import PyProof.Rows.SortShell
import PyProof.Rows.SortStr
import PyProof.Rows.StrItems
import PyProof.Rows.StrSplitAre
import PyProof.SliceList
import PyProof.StrBlockL
import PyProof.StrCalls2
import PyProof.StrLawsChain
import PyProof.StrLawsIn
import PyProof.WalksEnum
import PyProof.ZipIter
import PySem.Builtin.Int.Common
import PySem.Challenge.RW_tightwood_k92_rows_that_are_none
set_option Elab.async false
set_option linter.all false
set_option maxRecDepth 100000
namespace L2
open PySem PySem.Spec PyProof.Rows

abbrev Key := Sum Int Str
def keyIs : Key → Value → Bool
  | .inl k, v => Value.isInt k v
  | .inr x, v => Value.isStrOf x v
def keyH (w : World) : Key → Int
  | .inl k => hashInt k
  | .inr x => hashStr w x
theorem keyIs_shape : ∀ {k : Key} {v : Value}, keyIs k v = true → (∃ i t, k = Sum.inl i ∧ v = Value.int i t) ∨ (∃ x t, k = Sum.inr x ∧ v = Value.str x t)
  | .inl i, v, h => by
    obtain ⟨t, e⟩ := Value.isInt_shape (k := i) (v := v) h
    exact .inl ⟨i, t, rfl, e⟩
  | .inr x, v, h => by
    obtain ⟨t, e⟩ := Value.isStrOf_shape (x := x) (v := v) h
    exact .inr ⟨x, t, rfl, e⟩
theorem key_ll (a b : Int) : decide ((Sum.inl a : Key) = Sum.inl b) = (a == b) := by
  by_cases e : a = b
  · subst e; simp
  · have h : ¬ (Sum.inl a : Key) = Sum.inl b := fun q => e (Sum.inl.inj q)
    rw [decide_eq_false h]
    exact (beq_eq_false_iff_ne.mpr e).symm
theorem key_rr (a b : Str) : decide ((Sum.inr a : Key) = Sum.inr b) = decide (a = b) := by
  by_cases e : a = b
  · subst e; simp
  · have h : ¬ (Sum.inr a : Key) = Sum.inr b := fun q => e (Sum.inr.inj q)
    rw [decide_eq_false h, decide_eq_false e]
theorem key_lr (a : Int) (b : Str) : decide ((Sum.inl a : Key) = Sum.inr b) = false := decide_eq_false (fun q => nomatch q)
theorem key_rl (a : Str) (b : Int) : decide ((Sum.inr a : Key) = Sum.inl b) = false := decide_eq_false (fun q => nomatch q)

def mixKind (prog : Program) (w : World) : PySem.KeyKind prog w Key where
  is := keyIs
  hash := keyH w
  inj := fun v a b ha hb => by
    rcases keyIs_shape ha with ⟨i, t, rfl, rfl⟩ | ⟨x, t, rfl, rfl⟩
    · rcases keyIs_shape hb with ⟨j, u, rfl, e⟩ | ⟨y, u, rfl, e⟩
      · injection e with e1 _; rw [e1]
      · exact nomatch e
    · rcases keyIs_shape hb with ⟨j, u, rfl, e⟩ | ⟨y, u, rfl, e⟩
      · exact nomatch e
      · injection e with e1 _; rw [e1]
  byValue := fun k v h => by
    rcases keyIs_shape h with ⟨i, t, rfl, rfl⟩ | ⟨x, t, rfl, rfl⟩ <;> rfl
  pyHash := fun hv h => by
    rcases keyIs_shape hv with ⟨i, t, rfl, rfl⟩ | ⟨x, t, rfl, rfl⟩
    · exact wpAny_pyHash_int h
    · exact wpAny_pyHash_str h
  eqBool := fun hu hv h => by
    rcases keyIs_shape hu with ⟨i, t, rfl, rfl⟩ | ⟨x, t, rfl, rfl⟩
    · rcases keyIs_shape hv with ⟨j, u, rfl, rfl⟩ | ⟨y, u, rfl, rfl⟩
      · rw [key_ll] at h; exact wpAny_eqBool_int h
      · rw [key_lr] at h; exact SeqAt.EqAt.int_str i t y u _ _ _ _ h
    · rcases keyIs_shape hv with ⟨j, u, rfl, rfl⟩ | ⟨y, u, rfl, rfl⟩
      · rw [key_rl] at h; exact SeqAt.EqAt.str_int x t j u _ _ _ _ h
      · rw [key_rr] at h; exact wpAny_eqBool_str h
  «strs» := fun k x t v h => by
    rcases keyIs_shape h with ⟨i, u, rfl, e⟩ | ⟨y, u, rfl, e⟩
    · exact nomatch e
    · injection e with e1 _
      subst e1
      cases v <;> rfl

end L2

namespace L2
open PySem PySem.Spec PyProof.Rows

inductive V where
  | non | bl (b : Bool) | int (i : Int) | str (x : Str) | byt (b : Array UInt8) | flt (b : UInt64) | ref (a : Addr) | ty (n : String)
  deriving DecidableEq

def RelV : V → Value → Prop
  | .non, u => u = Value.none
  | .bl b, u => u = Value.bool b
  | .int i, u => ∃ t, u = Value.int i t
  | .str x, u => ∃ t, u = Value.str x t
  | .byt b, u => ∃ t, u = Value.bytes b t
  | .flt b, u => ∃ t, u = Value.float b t
  | .ref a, u => u = Value.ref a
  | .ty n, u => u = Value.type n

abbrev Vals : List V → List Value → Prop := Paired RelV
theorem Vals.length {xs : List V} {us : List Value} (r : Vals xs us) : xs.length = us.length := Paired.length r
theorem Vals.get : ∀ {xs : List V} {us : List Value} {i : Nat} {x : V}, Vals xs us → xs[i]? = some x → ∃ u, us[i]? = some u ∧ RelV x u
  | _, _, _, _, .nil, e => by simp at e
  | _, _, 0, _, .cons r _, e => by simp at e; subst e; exact ⟨_, rfl, r⟩
  | _, _, i + 1, x, .cons _ t, e => by
    obtain ⟨u, h1, h2⟩ := Vals.get (i := i) (x := x) t (by simpa using e)
    exact ⟨u, by simpa using h1, h2⟩
theorem Vals.set {x : V} {u : Value} (r : RelV x u) : ∀ {xs : List V} {us : List Value} (i : Nat), Vals xs us → Vals (xs.set i x) (us.set i u)
  | _, _, _, .nil => .nil
  | _, _, 0, .cons _ t => .cons r t
  | _, _, i + 1, .cons q t => .cons q (Vals.set r i t)
theorem Vals.append : ∀ {xs ys : List V} {us ws : List Value}, Vals xs us → Vals ys ws → Vals (xs ++ ys) (us ++ ws)
  | _, _, _, _, .nil, s => s
  | _, _, _, _, .cons r t, s => .cons r (Vals.append t s)
theorem Vals.take : ∀ {xs : List V} {us : List Value} (n : Nat), Vals xs us → Vals (xs.take n) (us.take n)
  | _, _, 0, _ => .nil
  | _, _, _ + 1, .nil => .nil
  | _, _, n + 1, .cons r t => .cons r (Vals.take n t)
theorem Vals.drop : ∀ {xs : List V} {us : List Value} (n : Nat), Vals xs us → Vals (xs.drop n) (us.drop n)
  | _, _, 0, r => r
  | _, _, _ + 1, .nil => .nil
  | _, _, n + 1, .cons _ t => Vals.drop n t
def RelO : Option V → Option Value → Prop
  | some v, some u => RelV v u
  | none, none => True
  | _, _ => False
def KV {κ : Type} : List (κ × V) → List (κ × Value) → Prop := Paired fun (p : κ × V) (q : κ × Value) => p.1 = q.1 ∧ RelV p.2 q.2

def kV : Key → V
  | .inl i => .int i
  | .inr x => .str x

inductive HO where
    | lst (xs : List V)
    | tup (xs : List V)
    | dK (kvs : List (Key × V)) | dT (kvs : List (List Key × V))
    | set (S : Int → Bool) (n : Nat)
    | ins (C dx : Addr) (fs : List (Str × V))
    | own (x : Addr)
    | xd (fs : List (Str × V))
    | met (f x : Addr)
    | rng (lo hi : Int)
    | frz (o : Obj) (u : HO)
    | tbl (ps : Array Value)
    | ext (φ : Heap → Prop)

abbrev Hp := Addr → Option HO
def upd (H : Hp) (a : Addr) (o : HO) : Hp := fun b => if b = a then some o else H b
theorem upd_same {H : Hp} {a : Addr} {o : HO} : upd H a o a = some o := by unfold upd; rw [if_pos rfl]
theorem upd_ne {H : Hp} {a b : Addr} {o : HO} (h : b ≠ a) : upd H a o b = H b := by unfold upd; rw [if_neg h]
theorem ne_of {H : Hp} {a b : Addr} {o u : HO} (h : H a = some o) (h' : H b = some u) (d : o ≠ u) : a ≠ b := by
  intro e; subst e; rw [h] at h'; exact d (Option.some.inj h')
theorem ne_of_none {H : Hp} {a b : Addr} {o : HO} (h : H a = some o) (h' : H b = none) : a ≠ b := by
  intro e; subst e; rw [h] at h'; cases h'

section
variable (P : Program) (w : World)
def ObjOk (H : Hp) (h : Heap) (a : Addr) : HO → Prop
  | .lst xs => xs.length ≤ sizeLine ∧ ∃ (its : List Value) (n : Nat), Vals xs its ∧ h.get? a = some { cls := .type "list", data := .seq its.toArray n }
  | .tup xs => xs.length ≤ sizeLine ∧ ∃ its : List Value, Vals xs its ∧ IsTup h a its.toArray
  | .dK kvs => kvs.length ≤ sizeLine ∧ (a == sysModules) = false ∧ ∃ vs, KV kvs vs ∧ h.DictOf (mixKind P w) a vs
  | .dT kvs => kvs.length ≤ sizeLine ∧ (a == sysModules) = false ∧ ∃ xs : List (List Key × Addr × Value),
      Paired (fun (p : List Key × V) (q : List Key × Addr × Value) => p.1 = q.1 ∧ H q.2.1 = some (.tup (p.1.map kV)) ∧ RelV p.2 q.2.2) kvs xs ∧
      ∃ o es ep, h.get? a = some o ∧ o.ExactDict ∧ o.data = .dict es ep ∧ es.toList = xs.map (entryOfKey (tupleKind (mixKind P w))) ∧ (xs.map (·.1)).Nodup
  | .set S n => h.SetOf (intKind P w) a S n
  | .ins C dx fs => H dx = some (.own a) ∧ fs.length ≤ 1000 ∧ dx ≠ a ∧ h.get? a = some (PySem.W.instObj C dx) ∧
      ∃ mA, h.Ns1 dx mA ∧ (∀ f, RelO (fs.lookup f) (mA f)) ∧ PySem.Within mA (fs.map (·.1))
  | .own _ => ∃ o, h.get? a = some o
  | .xd fs => ∃ mA, h.Ns1 a mA ∧ ∀ f, RelO (fs.lookup f) (mA f)
  | .rng lo hi => ∃ t u v, h.get? a = some { cls := .type "range", data := .fields #[.int lo t, .int hi u, .int 1 v] }
  | .frz o u => h.get? a = some o ∧ ObjOk H h a u
  | .tbl ps => h.get? a = some { cls := .none, data := .fields ps }
  | .met f x => h.get? a = some (PySem.W.methodObj (.ref f) (.ref x))
  | .ext φ => φ h ∧ (∃ o, h.get? a = some o) ∧ ∀ h1 h2 : Heap, φ h1 → (∀ o, h1.get? a = some o → h2.get? a = some o) → φ h2
def HOk (H : Hp) (h : Heap) : Prop := ∀ a o, H a = some o → ObjOk P w H h a o
end

section
variable {P : Program} {w : World} {H H' : Hp} {h h' : Heap} {a : Addr} {o : HO}
theorem ObjOk.lt (x : ObjOk P w H h a o) : a < h.objs.size := by
  cases o with
  | lst xs => obtain ⟨_, _, _, _, e⟩ := x; exact Heap.lt_size e
  | tup xs => obtain ⟨_, _, _, p⟩ := x; exact p.lt
  | dK kvs => obtain ⟨_, _, _, _, o, _, _, e, _⟩ := x; exact Heap.lt_size e
  | dT kvs => obtain ⟨_, _, _, _, o, _, _, e, _⟩ := x; exact Heap.lt_size e
  | set S n => obtain ⟨o, _, _, _, e, _⟩ := x; exact Heap.lt_size e
  | ins C dx fs => obtain ⟨_, _, _, e, _⟩ := x; exact Heap.lt_size e
  | own y => obtain ⟨_, e⟩ := x; exact Heap.lt_size e
  | xd fs => obtain ⟨_, ⟨_, _, _, e, _⟩, _⟩ := x; exact Heap.lt_size e
  | rng lo hi => obtain ⟨_, _, _, e⟩ := x; exact Heap.lt_size e
  | frz ob u => obtain ⟨e, _⟩ := x; exact Heap.lt_size e
  | tbl ps => exact Heap.lt_size (show h.get? a = some _ from x)
  | met f y => exact Heap.lt_size (show h.get? a = some _ from x)
  | ext φ => obtain ⟨_, ⟨_, e⟩, _⟩ := x; exact Heap.lt_size e
theorem Paired.mapP {α β : Type} {F G : α → β → Prop} : ∀ {l₁ : List α} {l₂ : List β}, Paired F l₁ l₂ → (∀ a b, F a b → G a b) → Paired G l₁ l₂
  | _, _, .nil, _ => .nil
  | _, _, .cons r t, f => .cons (f _ _ r) (Paired.mapP t f)
theorem ObjOk.stay (x : ObjOk P w H h a o) (k : ∀ b u, (b = a ∨ H b = some (.own a)) → h.get? b = some u → h'.get? b = some u)
    (ho : ∀ b, H b = some (.own a) → H' b = some (.own a)) (ht : ∀ b xs, H b = some (.tup xs) → H' b = some (.tup xs)) : ObjOk P w H' h' a o := by
  induction o with
  | lst xs => obtain ⟨z, its, n, r, e⟩ := x; exact ⟨z, its, n, r, k _ _ (.inl rfl) e⟩
  | tup xs => obtain ⟨z, its, r, ob, e, c⟩ := x; exact ⟨z, its, r, ob, k _ _ (.inl rfl) e, c⟩
  | dK kvs => obtain ⟨z, y, vs, r, ob, es, ep, e, c⟩ := x; exact ⟨z, y, vs, r, ob, es, ep, k _ _ (.inl rfl) e, c⟩
  | dT kvs =>
    obtain ⟨z, y, xs, r, ob, es, ep, e, c⟩ := x
    exact ⟨z, y, xs, Paired.mapP r fun p q z => ⟨z.1, ht _ _ z.2.1, z.2.2⟩, ob, es, ep, k _ _ (.inl rfl) e, c⟩
  | set S n => obtain ⟨ob, es, ep, t, e, c⟩ := x; exact ⟨ob, es, ep, t, k _ _ (.inl rfl) e, c⟩
  | ins C dx fs =>
    obtain ⟨d, z, ne, e, mA, ⟨od, es, ep, e2, c⟩, r⟩ := x
    exact ⟨ho _ d, z, ne, k _ _ (.inl rfl) e, mA, ⟨od, es, ep, k _ _ (.inr d) e2, c⟩, r⟩
  | own y => obtain ⟨ob, e⟩ := x; exact ⟨ob, k _ _ (.inl rfl) e⟩
  | xd fs => obtain ⟨mA, ⟨od, es, ep, e, c⟩, r⟩ := x; exact ⟨mA, ⟨od, es, ep, k _ _ (.inl rfl) e, c⟩, r⟩
  | rng lo hi => obtain ⟨t, u, v, e⟩ := x; exact ⟨t, u, v, k _ _ (.inl rfl) e⟩
  | frz ob u ih => obtain ⟨e, q⟩ := x; exact ⟨k _ _ (.inl rfl) e, ih q⟩
  | tbl ps =>
    have e : h.get? a = some { cls := .none, data := .fields ps } := x
    show h'.get? a = some { cls := .none, data := .fields ps }
    exact k a _ (.inl rfl) e
  | met f y =>
    have e : h.get? a = some (PySem.W.methodObj (.ref f) (.ref y)) := x
    show h'.get? a = some (PySem.W.methodObj (.ref f) (.ref y))
    exact k a _ (.inl rfl) e
  | ext φ => obtain ⟨p, ⟨o, e⟩, st⟩ := x; exact ⟨st _ _ p fun o q => k _ _ (.inl rfl) q, ⟨o, k _ _ (.inl rfl) e⟩, st⟩
theorem HOk.lt (x : HOk P w H h) (e : H a = some o) : a < h.objs.size := (x a o e).lt
theorem HOk.fresh (x : HOk P w H h) (e : h.objs.size ≤ a) : H a = none := by
  cases q : H a with
  | none => rfl
  | some u => exact absurd (Nat.lt_of_lt_of_le (x.lt q) e) (Nat.lt_irrefl _)
theorem HOk.kept (x : HOk P w H h) (k : ∀ b u, h.get? b = some u → h'.get? b = some u) : HOk P w H h' := fun a o e =>
  (x a o e).stay (fun b u _ q => k b u q) (fun _ q => q) fun _ _ q => q
theorem HOk.laid (x : HOk P w H h) (k : ∀ b u, h.get? b = some u → h'.get? b = some u) (hp : h.objs.size ≤ a) (new : ObjOk P w (upd H a o) h' a o) : HOk P w (upd H a o) h' := fun b u e => by
  have hn := x.fresh hp
  by_cases hb : b = a
  · subst hb; rw [upd_same] at e; cases e; exact new
  · rw [upd_ne hb] at e
    exact (x b u e).stay (fun c v _ q => k c v q) (fun c q => by rw [upd_ne (ne_of_none q hn)]; exact q) fun c xs q => by rw [upd_ne (ne_of_none q hn)]; exact q
end

def Rd (H : Hp) (a : Addr) (u : HO) : Prop := H a = some u ∨ ∃ o, H a = some (.frz o u)
theorem Rd.of {H : Hp} {a : Addr} {u : HO} (h : H a = some u) : Rd H a u := .inl h
theorem Rd.ok {P : Program} {w : World} {H : Hp} {h : Heap} {a : Addr} {u : HO} (r : Rd H a u) (x : HOk P w H h) : ObjOk P w H h a u := by
  rcases r with r | ⟨o, r⟩
  · exact x a u r
  · obtain ⟨_, q⟩ := x a _ r
    exact q
def Mut : Option HO → Prop
  | some (.lst _) => True
  | some (.dK _) => True
  | some (.dT _) => True
  | some (.set _ _) => True
  | some (.ins _ _ _) => True
  | some (.ext _) => True
  | _ => False
section
variable {P : Program} {w : World} {H : Hp} {h h' : Heap} {x e : Addr} {o' : HO}
theorem HOk.write (ok : HOk P w H h) (mu : Mut (H x)) (he : e = x ∨ H e = some (.own x)) (k : ∀ b u, b ≠ e → h.get? b = some u → h'.get? b = some u) (heo : ∃ u, h'.get? e = some u)
    (new : ObjOk P w (upd H x o') h' x o') : HOk P w (upd H x o') h' := fun b u q => by
  have nown : ∀ c y, H c = some (.own y) → c ≠ x := fun c y r z => by subst z; rw [r] at mu; exact mu
  have ntup : ∀ c xs, H c = some (.tup xs) → c ≠ x := fun c xs r z => by subst z; rw [r] at mu; exact mu
  by_cases hb : b = x
  · subst hb; rw [upd_same] at q; cases q; exact new
  · rw [upd_ne hb] at q
    by_cases hbe : b = e
    · have q' : H b = some (.own x) := by
        rcases he with z | z
        · exact absurd (hbe.trans z) hb
        · rw [hbe]; exact z
      rw [q] at q'; cases q'
      obtain ⟨v, hv⟩ := heo
      exact ⟨v, by rw [hbe]; exact hv⟩
    · refine (ok b u q).stay (fun c v hc r => k c v ?_ r) (fun c r => by rw [upd_ne (nown c b r)]; exact r) fun c xs r => by rw [upd_ne (ntup c xs r)]; exact r
      rcases hc with rfl | hc
      · exact hbe
      · rintro rfl
        rcases he with z | z
        · exact nown c b hc z
        · rw [hc] at z; cases z; exact hb rfl
end

structure Un (fs ex : List Addr) (H H' : Hp) (h h' : Heap) : Prop where
  keep : ∀ b o, h.get? b = some o → H b = none → b ∉ fs → b ∉ ex → h'.get? b = some o
  slot : ∀ b o, h.get? b = some o → H b = none → b ∈ fs → b ∉ ex → ∃ sl, h'.get? b = some { o with slots := sl }
  free : ∀ b o, h.get? b = some o → H b = none → b ∉ ex → H' b = none
  there : ∀ b o, h.get? b = some o → b ∉ ex → ∃ o', h'.get? b = some o'
  tups : ∀ b xs, H b = some (.tup xs) → H' b = some (.tup xs)
  frzs : ∀ b o u, H b = some (.frz o u) → H' b = some (.frz o u)
  tbls : ∀ b ps, H b = some (.tbl ps) → ∃ more, H' b = some (.tbl (ps ++ more))
section
variable {fs fs' ex ex' : List Addr} {H H1 H2 : Hp} {h h1 h2 h' : Heap} {a x e : Addr} {o : HO}
theorem Un.any (u : Un fs ex H H1 h h1) {b : Addr} {ob : Obj} (q : h.get? b = some ob) (n : H b = none) (hx : b ∉ ex) : ∃ sl, h1.get? b = some { ob with slots := sl } := by
  by_cases hb : b ∈ fs
  · exact u.slot b ob q n hb hx
  · exact ⟨ob.slots, u.keep b ob q n hb hx⟩
theorem Un.trans (a : Un fs ex H H1 h h1) (b : Un fs ex H1 H2 h1 h2) : Un fs ex H H2 h h2 where
  keep := fun c ob q n hc hx => b.keep c ob (a.keep c ob q n hc hx) (a.free c ob q n hx) hc hx
  slot := fun c ob q n hc hx => by
    obtain ⟨sl, e1⟩ := a.slot c ob q n hc hx
    obtain ⟨sl', e2⟩ := b.slot c _ e1 (a.free c ob q n hx) hc hx
    exact ⟨sl', e2⟩
  free := fun c ob q n hx => by
    obtain ⟨o', e1⟩ := a.there c ob q hx
    exact b.free c o' e1 (a.free c ob q n hx) hx
  there := fun c ob q hx => by
    obtain ⟨o', e1⟩ := a.there c ob q hx
    exact b.there c o' e1 hx
  tups := fun c xs q => b.tups c xs (a.tups c xs q)
  frzs := fun c ob xs q => b.frzs c ob xs (a.frzs c ob xs q)
  tbls := fun c ps q => by
    obtain ⟨m1, e1⟩ := a.tbls c ps q
    obtain ⟨m2, e2⟩ := b.tbls c _ e1
    exact ⟨m1 ++ m2, by rw [e2, Array.append_assoc]⟩
theorem Un.kept (k : ∀ b u, h.get? b = some u → h'.get? b = some u) : Un fs ex H H h h' :=
  ⟨fun b ob q _ _ _ => k b ob q, fun b ob q _ _ _ => ⟨ob.slots, k b ob q⟩, fun _ _ _ n _ => n, fun b ob q _ => ⟨ob, k b ob q⟩, fun _ _ q => q, fun _ _ _ q => q, fun _ ps q => ⟨#[], by rw [q]; simp⟩⟩
theorem Un.refl : Un fs ex H H h h := Un.kept fun _ _ q => q
theorem Un.laid (k : ∀ b u, h.get? b = some u → h'.get? b = some u) (hp : h.objs.size ≤ a) (hn : H a = none) : Un fs ex H (upd H a o) h h' where
  keep := fun b u q _ _ _ => k b u q
  slot := fun b u q _ _ _ => ⟨u.slots, k b u q⟩
  free := fun b u q n _ => by rw [upd_ne (Nat.ne_of_lt (Nat.lt_of_lt_of_le (Heap.lt_size q) hp))]; exact n
  there := fun b u q _ => ⟨u, k b u q⟩
  tups := fun b xs q => by rw [upd_ne (ne_of_none q hn)]; exact q
  frzs := fun b u xs q => by rw [upd_ne (ne_of_none q hn)]; exact q
  tbls := fun b ps q => ⟨#[], by rw [upd_ne (ne_of_none q hn), q]; simp⟩
theorem Un.write (mu : Mut (H x)) (he : e = x ∨ H e = some (.own x)) (k : ∀ b u, b ≠ e → h.get? b = some u → h'.get? b = some u) (heo : ∃ u, h'.get? e = some u) : Un fs ex H (upd H x o) h h' := by
  have hx : ∀ b, H b = none → b ≠ x := fun b n z => by subst z; rw [n] at mu; exact mu
  have hb : ∀ b, H b = none → b ≠ e := fun b n z => by
    subst z
    rcases he with r | r
    · exact hx b n r
    · rw [n] at r; cases r
  have hm : ∀ b u, H b = some u → ¬ Mut (some u) → b ≠ x := fun b u q nm z => by subst z; rw [q] at mu; exact nm mu
  refine ⟨fun b u q n _ _ => k b u (hb b n) q, fun b u q n _ _ => ⟨u.slots, k b u (hb b n) q⟩, fun b u q n _ => by rw [upd_ne (hx b n)]; exact n, fun b u q _ => ?_,
    fun b xs q => by rw [upd_ne (hm b _ q fun z => z)]; exact q, fun b u xs q => by rw [upd_ne (hm b _ q fun z => z)]; exact q, fun b ps q => ⟨#[], by rw [upd_ne (hm b _ q fun z => z), q]; simp⟩⟩
  by_cases hbe : b = e
  · subst hbe; exact heo
  · exact ⟨u, k b u hbe q⟩
theorem Un.mono (u : Un fs ex H H1 h h1) (hs : ∀ b ∈ fs, b ∈ fs') (hx : ∀ b ∈ ex, b ∈ ex') : Un fs' ex' H H1 h h1 :=
  ⟨fun b ob q n hb he => u.keep b ob q n (fun z => hb (hs b z)) fun z => he (hx b z), fun _ _ q n _ he => u.any q n fun z => he (hx _ z), fun b ob q n he => u.free b ob q n fun z => he (hx b z), fun b ob q he => u.there b ob q fun z => he (hx b z), u.tups, u.frzs, u.tbls⟩
end

def trk (h : Heap) (H : Hp) : List Addr := (List.range h.objs.size).filter fun a => (H a).isSome
def hidT (h : Heap) (H : Hp) : Heap := PySem.W.hideAll h (trk h H)
theorem hidT_size (h : Heap) (H : Hp) : (hidT h H).objs.size = h.objs.size := PySem.W.hideAll_size _ _
theorem hidT_get {h : Heap} {H : Hp} {b : Addr} {o : Obj} (e : h.get? b = some o) (n : H b = none) : (hidT h H).get? b = some o :=
  PySem.W.hideAll_get _ e fun hm => by
    have q : (H b).isSome = true := (List.mem_filter.mp hm).2
    rw [n] at q; simp at q
theorem of_hidT {h : Heap} {H : Hp} {b : Addr} {o : Obj} (e : (hidT h H).get? b = some o) : h.get? b = some o ∧ H b = none := by
  have e' : h.get? b = some o := PySem.W.of_hideAll (trk h H) e
  refine ⟨e', ?_⟩
  cases q : H b with
  | none => rfl
  | some x =>
    have hm : b ∈ trk h H := List.mem_filter.mpr ⟨List.mem_range.mpr (Heap.lt_size e'), by simp [q]⟩
    have z : (hidT h H).get? b = none := PySem.W.hideAll_none (trk h H) hm
    rw [z] at e; cases e

def allNews (g h : Heap) (L : Addr) : List (Addr × Obj) := (List.range h.objs.size).filterMap fun a => if a = L ∨ (g.get? a).isSome = true then none else (h.get? a).map fun o => (a, o)
def rest (g h : Heap) (L d : Addr) : List (Addr × Obj) := (allNews g h L).filter fun p => decide (p.1 ≠ d)
end L2

namespace L2
open PySem PySem.Spec PyProof.Rows

structure Mod (K : PySem.W.Frag) (mg : Str → Option Value) (base : Heap) : Prop where
  kin : K.In base
  glob : base.Ns mainGlobals mg
  blt : ∃ mb, base.Ns builtinsNs mb ∧ ∀ x : Str, x ≠ "__name__" → mb x = bootBuiltins x
  nolimit : base.NoLimit

structure Cx where
  prog : Program
  w : World
  K : PySem.W.Frag
  mg : Str → Option Value
  base : Heap
  A : Around
  N : List Str
  s₀ : Shared
  H₀ : Hp
  env : Env
  outer : List Env
  stack : List Env
  ex : List Addr
  fn : Str → Bool
  calm : Bool
  pn : List (Addr × Obj)
  xe : Value → Shared → Prop
def frs (l : List Env) : List Addr := l.filterMap (·.frame)
abbrev Cx.fs (X : Cx) : List Addr := frs X.outer

def Vis (sc : Scope) (x : Str) : Prop := sc.names.lookup x = some .local ∨ sc.names.lookup x = some .cell ∨ sc.names.lookup x = some .free
def Loc (sc : Scope) (x : Str) : Prop := sc.names.lookup x = some .local ∨ sc.names.lookup x = some .cell
def Look (env : Env) (h : Heap) (m : Str → Option Value) (x : Str) (u : Value) : Prop :=
  (env.kindOf x = some .local ∧ m x = some u) ∨ ((env.kindOf x = some .cell ∨ env.kindOf x = some .free) ∧ ∃ c, env.cells.lookup x = some c ∧ h.IsCell c (some u))

structure Cx.Ok (X : Cx) : Prop where
  mod : Mod X.K X.mg X.base
  kind : X.env.scope.kind = .function
  glob : X.env.globals = mainGlobals
  blt : X.env.builtins = builtinsNs
  above : X.s₀.heap.objs.size ≤ X.env.locals
  inj : ∀ x y c, X.env.cells.lookup x = some c → X.env.cells.lookup y = some c → x = y
  has : ∀ x, (X.env.kindOf x = some .cell ∨ X.env.kindOf x = some .free) → ∃ c, X.env.cells.lookup x = some c
  cab : ∀ x c, X.fn x = true → X.env.cells.lookup x = some c → X.s₀.heap.objs.size ≤ c
  hd : X.calm = true → X.A.handled = none
  frames : X.A.frames = some X.stack
  stk : X.stack = X.outer ∨ (X.stack = X.env :: X.outer ∧ X.env.frame = some X.env.locals)
  exf : ∀ b ∈ X.ex, b ≠ X.env.locals ∧ ∀ x c, X.env.cells.lookup x = some c → c ≠ b
  bs : ∀ b o, X.base.get? b = some o → X.s₀.heap.get? b = some o ∧ X.H₀ b = none
  bsz : X.base.objs.size ≤ X.s₀.heap.objs.size
  noex : ∀ b o, X.base.get? b = some o → b ∉ X.ex
  exfs : ∀ b ∈ X.ex, b ∉ X.fs
  funs : X.s₀.heap.FunFrames X.base X.outer
  frf : ∀ b ∈ X.fs, X.H₀ b = none

structure Inv (X : Cx) (pins : List (Addr × Obj)) (σ : List (Option V)) (H : Hp) (s : Shared) : Prop where
  ok : X.Ok
  os : s.os = X.s₀.os
  bare : AllBare s.gens
  base : Un X.fs X.ex X.H₀ H X.s₀.heap s.heap
  loc : ∃ m, s.heap.Ns X.env.locals m ∧ ∀ (i : Nat) (x : Str) (v : V), X.N[i]? = some x → σ[i]? = some (some v) → Vis X.env.scope x → ∃ u, RelV v u ∧ Look X.env s.heap m x u
  cell : ∀ x c, X.env.cells.lookup x = some c → ∃ v, s.heap.IsCell c v
  free : H X.env.locals = none
  freeC : ∀ x c, X.env.cells.lookup x = some c → H c = none
  pin : ∀ p ∈ X.pn ++ pins, s.heap.get? p.1 = some p.2 ∧ H p.1 = none ∧ p.1 ≠ X.env.locals ∧ p.1 ∉ X.fs ∧ ∀ v, p.2.data ≠ .cell v
  hok : HOk X.prog X.w H s.heap
  len : σ.length = X.N.length

section
variable {X : Cx} {pins : List (Addr × Obj)} {σ : List (Option V)} {H H' : Hp} {s : Shared} {h' : Heap}

theorem Cx.Ok.nofr (ok : X.Ok) {b : Addr} {o : Obj} (e : X.base.get? b = some o) : b ∉ X.fs := fun hb => by
  have := (ok.funs.mem hb).1
  rw [e] at this; cases this
theorem Inv.bs (I : Inv X pins σ H s) : ∀ b o, X.base.get? b = some o → s.heap.get? b = some o ∧ H b = none := fun b o e =>
  ⟨I.base.keep b o (I.ok.bs b o e).1 (I.ok.bs b o e).2 (I.ok.nofr e) (I.ok.noex b o e), I.base.free b o (I.ok.bs b o e).1 (I.ok.bs b o e).2 (I.ok.noex b o e)⟩
theorem Inv.bk (I : Inv X pins σ H s) : ∀ b o, X.base.get? b = some o → s.heap.get? b = some o := fun b o e => (I.bs b o e).1
theorem Inv.mod (I : Inv X pins σ H s) : Mod X.K X.mg X.base := I.ok.mod
theorem Inv.kIn (I : Inv X pins σ H s) : X.K.In s.heap := I.ok.mod.kin.keeps I.bk
theorem Inv.nolimit (I : Inv X pins σ H s) : s.heap.NoLimit := I.ok.mod.nolimit.keeps I.bk
theorem Inv.fr (I : Inv X pins σ H s) : ∃ m, Fr X.base X.env.locals s.heap m :=
  let ⟨m, hn, _⟩ := I.loc
  ⟨m, hn, I.bk, Nat.le_trans I.ok.bsz I.ok.above⟩
theorem Inv.lt (I : Inv X pins σ H s) : X.env.locals < s.heap.objs.size := let ⟨_, hn, _⟩ := I.loc; hn.lt
theorem Inv.sz (I : Inv X pins σ H s) : X.s₀.heap.objs.size ≤ s.heap.objs.size := Nat.le_trans I.ok.above (Nat.le_of_lt I.lt)
theorem Inv.nofs (I : Inv X pins σ H s) {a : Addr} (h : s.heap.objs.size ≤ a) : a ∉ X.fs := fun hb => by
  obtain ⟨_, o, ho, _⟩ := I.ok.funs.mem hb
  exact absurd (Nat.lt_of_lt_of_le (Heap.lt_size ho) (Nat.le_trans I.sz h)) (Nat.lt_irrefl _)
theorem Inv.cne (I : Inv X pins σ H s) : ∀ x c, X.env.cells.lookup x = some c → c ≠ X.env.locals := fun x c e z => by
  obtain ⟨v, o, ho, hd⟩ := I.cell x c e
  obtain ⟨m, ⟨o', es, ep, ho', hd', _⟩, _⟩ := I.loc
  rw [z, ho'] at ho; cases ho; rw [hd'] at hd; cases hd
theorem Inv.funs (I : Inv X pins σ H s) : s.heap.FunFrames X.base X.outer := by
  have all : ∀ (l : List Env), (∀ b ∈ frs l, b ∈ X.fs) → X.s₀.heap.FunFrames X.base l → s.heap.FunFrames X.base l := by
    intro l
    induction l with
    | nil => intro _ _; trivial
    | cons env r ih =>
      intro hs hl
      obtain ⟨hk, ⟨L, o, hf, hn, ho, hd⟩, hr⟩ := hl
      have hL : L ∈ X.fs := hs L (by unfold frs; rw [List.filterMap_cons, hf]; exact List.mem_cons_self)
      obtain ⟨sl, e⟩ := I.base.slot L o ho (I.ok.frf L hL) hL fun z => I.ok.exfs L z hL
      exact ⟨hk, ⟨L, _, hf, hn, e, hd⟩, ih (fun b hb => hs b (by unfold frs; rw [List.filterMap_cons, hf]; exact List.mem_cons_of_mem _ hb)) hr⟩
  exact all X.outer (fun _ hb => hb) I.ok.funs

theorem Inv.stack (I : Inv X pins σ H s) : s.heap.FunFrames X.base X.stack := by
  rcases I.ok.stk with e | ⟨e, hf⟩
  · rw [e]; exact I.funs
  · rw [e]
    obtain ⟨m, hn, _⟩ := I.loc
    refine .cons (by rw [I.ok.kind]; decide) hf hn ?_ I.funs
    exact Heap.get?_none_of_le (Nat.le_trans I.ok.bsz I.ok.above)
theorem Inv.stkSub (I : Inv X pins σ H s) : ∀ b ∈ frs X.stack, b ∈ X.env.locals :: X.fs := fun b hb => by
  rcases I.ok.stk with e | ⟨e, hf⟩
  · rw [e] at hb; exact List.mem_cons_of_mem _ hb
  · rw [e] at hb
    unfold frs at hb
    rw [List.filterMap_cons, hf] at hb
    exact hb
theorem Inv.stkFree (I : Inv X pins σ H s) : ∀ b ∈ frs X.stack, H b = none := fun b hb => by
  rcases List.mem_cons.mp (I.stkSub b hb) with e | hb
  · rw [e]; exact I.free
  · obtain ⟨_, o, ho, _⟩ := I.ok.funs.mem hb
    exact I.base.free b o ho (I.ok.frf b hb) fun z => I.ok.exfs b z hb

theorem Inv.step {g' : Array GenState} {t' : Nat} {d' : Drawn} {ch : List Addr} (I : Inv X pins σ H s)
    (hch : ∀ b ∈ ch, (b ∈ X.ex ∨ X.s₀.heap.objs.size ≤ b) ∧ b ≠ X.env.locals ∧ (∀ x c, X.env.cells.lookup x = some c → c ≠ b) ∧ ∀ p ∈ X.pn ++ pins, p.1 ≠ b)
    (keep : ∀ b o, b ≠ X.env.locals → b ∉ X.fs → b ∉ ch → s.heap.get? b = some o → H b = none → h'.get? b = some o)
    (slot : ∀ b o, b ≠ X.env.locals → b ∈ X.fs → b ∉ ch → s.heap.get? b = some o → H b = none → ∃ sl, h'.get? b = some { o with slots := sl }) (free : ∀ b o, b ∉ ch → s.heap.get? b = some o → H b = none → H' b = none)
    (there : ∀ b o, b ∉ ch → s.heap.get? b = some o → ∃ o', h'.get? b = some o')
    (tups : ∀ b xs, H b = some (.tup xs) → H' b = some (.tup xs)) (frzs : ∀ b o u, H b = some (.frz o u) → H' b = some (.frz o u)) (tbls : ∀ b ps, H b = some (.tbl ps) → ∃ more, H' b = some (.tbl (ps ++ more)))
    (ns : ∀ m, s.heap.Ns X.env.locals m → h'.Ns X.env.locals m) (hok : HOk X.prog X.w H' h') (hg : AllBare g') :
    Inv X pins σ H' { s with heap := h', gens := g', drawn := d', toks := t' } := by
  have neL : ∀ b o, X.s₀.heap.get? b = some o → b ≠ X.env.locals := fun b o e => Nat.ne_of_lt (Nat.lt_of_lt_of_le (Heap.lt_size e) I.ok.above)
  have neC : ∀ b o, X.s₀.heap.get? b = some o → b ∉ X.ex → b ∉ ch := fun b o e hx hb => by
    rcases (hch b hb).1 with z | z
    · exact hx z
    · exact absurd (Nat.lt_of_lt_of_le (Heap.lt_size e) z) (Nat.lt_irrefl _)
  have cellK : ∀ x c, X.env.cells.lookup x = some c → ∀ v, s.heap.IsCell c v → h'.IsCell c v := fun x c e v ⟨o, ho, hd⟩ => by
    have nch : c ∉ ch := fun z => (hch c z).2.2.1 x c e rfl
    by_cases hc : c ∈ X.fs
    · obtain ⟨sl, q⟩ := slot c o (I.cne x c e) hc nch ho (I.freeC x c e)
      exact ⟨_, q, hd⟩
    · exact ⟨o, keep c o (I.cne x c e) hc nch ho (I.freeC x c e), hd⟩
  refine ⟨I.ok, I.os, hg, ⟨fun b o e n hb hx => ?_, fun b o e n hb hx => ?_, fun b o e n hx => ?_, fun b o e hx => ?_, fun b xs e => tups b xs (I.base.tups b xs e), fun b o xs e => frzs b o xs (I.base.frzs b o xs e), fun b ps e => ?_⟩, ?_, fun x c e => ?_, ?_, fun x c e => ?_, fun p hp => ?_, hok, I.len⟩
  · exact keep b o (neL b o e) hb (neC b o e hx) (I.base.keep b o e n hb hx) (I.base.free b o e n hx)
  · obtain ⟨sl, e1⟩ := I.base.slot b o e n hb hx
    obtain ⟨sl', e2⟩ := slot b _ (neL b o e) hb (neC b o e hx) e1 (I.base.free b o e n hx)
    exact ⟨sl', e2⟩
  · obtain ⟨o', e1⟩ := I.base.there b o e hx
    exact free b o' (neC b o e hx) e1 (I.base.free b o e n hx)
  · obtain ⟨o', e1⟩ := I.base.there b o e hx
    exact there b o' (neC b o e hx) e1
  · obtain ⟨m1, e1⟩ := I.base.tbls b ps e
    obtain ⟨m2, e2⟩ := tbls b _ e1
    exact ⟨m1 ++ m2, by rw [e2, Array.append_assoc]⟩
  · obtain ⟨m, hn, hl⟩ := I.loc
    refine ⟨m, ns m hn, fun i x v e1 e2 e3 => ?_⟩
    obtain ⟨u, r, l⟩ := hl i x v e1 e2 e3
    refine ⟨u, r, ?_⟩
    rcases l with l | ⟨k, c, e, z⟩
    · exact .inl l
    · exact .inr ⟨k, c, e, cellK x c e _ z⟩
  · obtain ⟨v, z⟩ := I.cell x c e
    exact ⟨v, cellK x c e v z⟩
  · obtain ⟨m, ⟨o, _, _, ho, _⟩, _⟩ := I.loc
    exact free _ o (fun z => (hch _ z).2.1 rfl) ho I.free
  · obtain ⟨v, o, ho, hd⟩ := I.cell x c e
    exact free c o (fun z => (hch c z).2.2.1 x c e rfl) ho (I.freeC x c e)
  · obtain ⟨e, n, ne, nf, d⟩ := I.pin p hp
    have nch : p.1 ∉ ch := fun z => (hch p.1 z).2.2.2 p hp rfl
    exact ⟨keep p.1 p.2 ne nf nch e n, free p.1 p.2 nch e n, ne, nf, d⟩
theorem Inv.un {t' : Nat} (I : Inv X pins σ H s) (u : Un X.fs [] H H' s.heap h') (hok : HOk X.prog X.w H' h') : Inv X pins σ H' { s with heap := h', toks := t' } := by
  obtain ⟨m, ⟨o, es, ep, ho, r⟩, _⟩ := id I.loc
  obtain ⟨sl, hL⟩ := u.any ho I.free (by simp)
  exact I.step (g' := s.gens) (d' := s.drawn) (ch := []) (fun _ z => nomatch z) (fun b o _ hb _ e n => u.keep b o e n hb (by simp)) (fun b o _ hb _ e n => u.slot b o e n hb (by simp)) (fun b o _ e n => u.free b o e n (by simp)) (fun b o _ e => u.there b o e (by simp)) u.tups u.frzs u.tbls (fun m' hm => by
    obtain ⟨o', es', ep', ho', r'⟩ := hm
    rw [ho] at ho'; cases ho'
    exact ⟨_, es', ep', hL, r'⟩) hok I.bare
theorem Inv.call {g' : Array GenState} {t' : Nat} {d' : Drawn} {ch : List Addr} (I : Inv X pins σ H s) (u : Un (frs X.stack) ch H H' s.heap h') (hok : HOk X.prog X.w H' h') (hg : AllBare g')
    (hch : ∀ b ∈ ch, (b ∈ X.ex ∨ X.s₀.heap.objs.size ≤ b) ∧ b ≠ X.env.locals ∧ (∀ x c, X.env.cells.lookup x = some c → c ≠ b) ∧ ∀ p ∈ X.pn ++ pins, p.1 ≠ b) :
    Inv X pins σ H' { s with heap := h', gens := g', drawn := d', toks := t' } := by
  obtain ⟨m, ⟨o, es, ep, ho, r⟩, _⟩ := id I.loc
  obtain ⟨sl, hL⟩ := u.any ho I.free fun z => (hch _ z).2.1 rfl
  exact I.step (ch := ch) hch (fun b o hL hb hc e n => u.keep b o e n (fun z => (List.mem_cons.mp (I.stkSub b z)).elim hL hb) hc) (fun b o _ _ hc e n => u.any e n hc) (fun b o hc e n => u.free b o e n hc) (fun b o hc e => u.there b o e hc) u.tups u.frzs u.tbls (fun m' hm => by
    obtain ⟨o', es', ep', ho', r'⟩ := hm
    rw [ho] at ho'; cases ho'
    exact ⟨_, es', ep', hL, r'⟩) hok hg
theorem Inv.turned {t' : Nat} {it : Addr} (I : Inv X pins σ H s) (k : ∀ b o, b ≠ it → s.heap.get? b = some o → h'.get? b = some o) (hn : H it = none) (hL : it ≠ X.env.locals)
    (h1 : it ∈ X.ex ∨ X.s₀.heap.objs.size ≤ it) (h2 : ∀ x c, X.env.cells.lookup x = some c → c ≠ it) (h3 : ∀ p ∈ X.pn ++ pins, p.1 ≠ it) : Inv X pins σ H { s with heap := h', toks := t' } := by
  have nit : ∀ b u, H b = some u → b ≠ it := fun b u e z => by rw [z, hn] at e; cases e
  refine I.step (g' := s.gens) (d' := s.drawn) (ch := [it]) (fun b hb => ?_) (fun b o _ _ hc e _ => k b o (fun z => hc (by simp [z])) e) (fun b o _ _ hc e _ => ⟨o.slots, k b o (fun z => hc (by simp [z])) e⟩) (fun _ _ _ _ n => n)
    (fun b o hc e => ⟨o, k b o (fun z => hc (by simp [z])) e⟩) (fun _ _ e => e) (fun _ _ _ e => e) (fun b ps e => ⟨#[], by rw [e]; simp⟩) (fun m hm => ?_) (fun b u e => ?_) I.bare
  · have e : b = it := by simpa using hb
    subst e
    exact ⟨h1, hL, h2, h3⟩
  · obtain ⟨o, es, ep, ho, r⟩ := hm
    exact ⟨o, es, ep, k _ o (Ne.symm hL) ho, r⟩
  · refine (I.hok b u e).stay (fun c v hc q => k c v ?_ q) (fun _ q => q) fun _ _ q => q
    rcases hc with z | z
    · rw [z]; exact nit b u e
    · exact nit c _ z
theorem Inv.tok (I : Inv X pins σ H s) (t : Nat) : Inv X pins σ H { s with toks := t } := I.un (h' := s.heap) (t' := t) Un.refl I.hok
theorem Inv.kept {t' : Nat} (I : Inv X pins σ H s) (k : ∀ b u, s.heap.get? b = some u → h'.get? b = some u) : Inv X pins σ H { s with heap := h', toks := t' } := I.un (Un.kept k) (I.hok.kept k)
theorem Inv.laid {a : Addr} {o : HO} {t' : Nat} (I : Inv X pins σ H s) (k : ∀ b u, s.heap.get? b = some u → h'.get? b = some u) (hp : s.heap.objs.size ≤ a) (new : ObjOk X.prog X.w (upd H a o) h' a o) :
    Inv X pins σ (upd H a o) { s with heap := h', toks := t' } := I.un (Un.laid k hp (I.hok.fresh hp)) (I.hok.laid k hp new)
theorem Inv.write {x e : Addr} {o : HO} {t' : Nat} (I : Inv X pins σ H s) (mu : Mut (H x)) (he : e = x ∨ H e = some (.own x)) (k : ∀ b u, b ≠ e → s.heap.get? b = some u → h'.get? b = some u) (heo : ∃ u, h'.get? e = some u)
    (new : ObjOk X.prog X.w (upd H x o) h' x o) : Inv X pins σ (upd H x o) { s with heap := h', toks := t' } := I.un (Un.write mu he k heo) (I.hok.write mu he k heo new)
theorem Inv.weak {σ' : List (Option V)} (I : Inv X pins σ H s) (hl : σ'.length = σ.length) (w : ∀ (i : Nat) v, σ'[i]? = some (some v) → σ[i]? = some (some v)) : Inv X pins σ' H s :=
  ⟨I.ok, I.os, I.bare, I.base, let ⟨m, hn, hl'⟩ := I.loc; ⟨m, hn, fun i x v e1 e2 e3 => hl' i x v e1 (w i v e2) e3⟩, I.cell, I.free, I.freeC, I.pin, I.hok, hl.trans I.len⟩
theorem Inv.pins_of {pins' : List (Addr × Obj)} (I : Inv X pins σ H s) (h : ∀ p ∈ pins', s.heap.get? p.1 = some p.2 ∧ H p.1 = none ∧ p.1 ≠ X.env.locals ∧ p.1 ∉ X.fs ∧ ∀ v, p.2.data ≠ .cell v) : Inv X pins' σ H s :=
  ⟨I.ok, I.os, I.bare, I.base, I.loc, I.cell, I.free, I.freeC, fun p hp => (List.mem_append.mp hp).elim (fun z => I.pin p (List.mem_append_left _ z)) (h p), I.hok, I.len⟩

theorem nodup_ix {N : List Str} (hN : N.Nodup) {i j : Nat} {x : Str} (a : N[i]? = some x) (b : N[j]? = some x) : i = j := by
  obtain ⟨h1, e1⟩ := List.getElem?_eq_some_iff.mp a
  obtain ⟨h2, e2⟩ := List.getElem?_eq_some_iff.mp b
  exact (List.getElem_inj hN).mp (e1.trans e2.symm)

theorem store_ok2 {M : Model} {A : Around} {E : Value → Shared → Prop} {i : Nat} {x : Str} {v : V} {u : Value} {Q : Unit → Shared → Prop} (I : Inv X pins σ H s) (hN : X.N.Nodup) (hi : X.N[i]? = some x) (hx : Loc X.env.scope x) (r : RelV v u)
    (h : ∀ s', Inv X pins (σ.set i (some v)) H s' → (∃ a, Heap.SameBut a s.heap s'.heap ∧ (a = X.env.locals ∨ X.env.cells.lookup x = some a)) → Q () s') (hf : X.fn x = true ∨ X.env.scope.names.lookup x = some .local := by first | exact .inl rfl | exact .inr rfl | assumption) : wpAny M A (storeName X.env x u) Q E s := by
  obtain ⟨m, hn, hl⟩ := id I.loc
  have hcls : (X.env.scope.kind == .class || (X.env.scope.kind == .module && X.env.locals != X.env.globals)) = false := by rw [I.ok.kind]; rfl
  have hiσ : i < σ.length := by rw [I.len]; exact (List.getElem?_eq_some_iff.mp hi).1
  have cne := I.cne
  have tracked : ∀ {a : Addr} {h' : Heap}, (∃ o, s.heap.get? a = some o ∧ H a = none) → Heap.SameBut a s.heap h' → HOk X.prog X.w H h' := fun {a h'} ha hs b ob e => by
    obtain ⟨_, _, hfree⟩ := ha
    refine (I.hok b ob e).stay (fun c w' hc q => (hs.2 c ?_).trans q) (fun _ q => q) fun _ _ q => q
    rintro rfl
    rcases hc with rfl | hc
    · rw [hfree] at e; cases e
    · rw [hfree] at hc; cases hc
  rcases hx with hk | hk
  · refine wpAny_storeName_local hk hn (fun h' hn' hs => ?_) hcls
    obtain ⟨oL, _, _, hoL, _⟩ := id hn
    refine h _ ⟨I.ok, I.os, I.bare, ⟨fun b o e n hb hx => ?_, fun b o e n hb hx => ?_, I.base.free, fun b o e hx => ?_, I.base.tups, I.base.frzs, I.base.tbls⟩, ⟨_, hn', fun j y v' e1 e2 e3 => ?_⟩, fun y c e => ?_, I.free, I.freeC, fun p hp => ?_, tracked ⟨oL, hoL, I.free⟩ hs, by simpa using I.len⟩ ⟨_, hs, .inl rfl⟩
    · exact (hs.2 b (Nat.ne_of_lt (Nat.lt_of_lt_of_le (Heap.lt_size e) I.ok.above))).trans (I.base.keep b o e n hb hx)
    · obtain ⟨sl, e1⟩ := I.base.slot b o e n hb hx
      exact ⟨sl, (hs.2 b (Nat.ne_of_lt (Nat.lt_of_lt_of_le (Heap.lt_size e) I.ok.above))).trans e1⟩
    · obtain ⟨o', e1⟩ := I.base.there b o e hx
      exact ⟨o', (hs.2 b (Nat.ne_of_lt (Nat.lt_of_lt_of_le (Heap.lt_size e) I.ok.above))).trans e1⟩
    · by_cases hj : j = i
      · subst hj
        rw [hi] at e1; cases e1
        rw [List.getElem?_set_self hiσ] at e2
        cases e2
        exact ⟨u, r, .inl ⟨hk, by simp⟩⟩
      · rw [List.getElem?_set_ne (Ne.symm hj)] at e2
        obtain ⟨u', r', q⟩ := hl j y v' e1 e2 e3
        refine ⟨u', r', ?_⟩
        rcases q with ⟨k, e⟩ | ⟨k, c, e, z⟩
        · refine .inl ⟨k, ?_⟩
          have : y ≠ x := fun e => hj (nodup_ix hN e1 (e ▸ hi))
          simp [this, e]
        · exact .inr ⟨k, c, e, z.sameBut hs (cne y c e)⟩
    · obtain ⟨w', z⟩ := I.cell y c e
      exact ⟨w', z.sameBut hs (cne y c e)⟩
    · obtain ⟨e, n, ne, nf, d⟩ := I.pin p hp
      exact ⟨(hs.2 p.1 ne).trans e, n, ne, nf, d⟩
  · have hfn : X.fn x = true := by
      rcases hf with z | z
      · exact z
      · rw [z] at hk; cases hk
    obtain ⟨c, hc⟩ := I.ok.has x (.inl hk)
    obtain ⟨w', z⟩ := I.cell x c hc
    refine wpAny_storeName_cell I.ok.kind hk hc z (fun h' hc' hs => ?_)
    obtain ⟨oc, hoc, hocd⟩ := id z
    refine h { s with heap := h' } ⟨I.ok, I.os, I.bare, ⟨fun b o e n hb hx => ?_, fun b o e n hb hx => ?_, I.base.free, fun b o e hx => ?_, I.base.tups, I.base.frzs, I.base.tbls⟩, ⟨m, hn.sameBut hs (Ne.symm (cne x c hc)), fun j y v' e1 e2 e3 => ?_⟩, fun y c' e => ?_, I.free, I.freeC, fun p hp => ?_, tracked ⟨oc, hoc, I.freeC x c hc⟩ hs, by simpa using I.len⟩ ⟨c, hs, .inr hc⟩
    · exact (hs.2 b (Nat.ne_of_lt (Nat.lt_of_lt_of_le (Heap.lt_size e) (I.ok.cab x c hfn hc)))).trans (I.base.keep b o e n hb hx)
    · obtain ⟨sl, e1⟩ := I.base.slot b o e n hb hx
      exact ⟨sl, (hs.2 b (Nat.ne_of_lt (Nat.lt_of_lt_of_le (Heap.lt_size e) (I.ok.cab x c hfn hc)))).trans e1⟩
    · obtain ⟨o', e1⟩ := I.base.there b o e hx
      exact ⟨o', (hs.2 b (Nat.ne_of_lt (Nat.lt_of_lt_of_le (Heap.lt_size e) (I.ok.cab x c hfn hc)))).trans e1⟩
    · by_cases hj : j = i
      · subst hj
        rw [hi] at e1; cases e1
        rw [List.getElem?_set_self hiσ] at e2
        cases e2
        exact ⟨u, r, .inr ⟨.inl hk, c, hc, hc'⟩⟩
      · rw [List.getElem?_set_ne (Ne.symm hj)] at e2
        obtain ⟨u', r', q⟩ := hl j y v' e1 e2 e3
        refine ⟨u', r', ?_⟩
        rcases q with q | ⟨k, c', e, z'⟩
        · exact .inl q
        · refine .inr ⟨k, c', e, z'.sameBut hs ?_⟩
          rintro rfl
          exact hj (nodup_ix hN e1 (I.ok.inj _ _ _ e hc ▸ hi))
    · by_cases hcc : c' = c
      · subst hcc; exact ⟨_, hc'⟩
      · obtain ⟨w2, z2⟩ := I.cell y c' e
        exact ⟨w2, z2.sameBut hs hcc⟩
    · obtain ⟨e, n, ne, nf, d⟩ := I.pin p hp
      refine ⟨(hs.2 p.1 ?_).trans e, n, ne, nf, d⟩
      intro q
      rw [q, hoc] at e
      have q' : oc = p.2 := Option.some.inj e
      exact d w' (by rw [← q']; exact hocd)
theorem store_ok {M : Model} {A : Around} {E : Value → Shared → Prop} {i : Nat} {x : Str} {v : V} {u : Value} {Q : Unit → Shared → Prop} (I : Inv X pins σ H s) (hN : X.N.Nodup) (hi : X.N[i]? = some x) (hx : Loc X.env.scope x) (r : RelV v u)
    (h : ∀ s', Inv X pins (σ.set i (some v)) H s' → Q () s') (hf : X.fn x = true ∨ X.env.scope.names.lookup x = some .local := by first | exact .inl rfl | exact .inr rfl | assumption) : wpAny M A (storeName X.env x u) Q E s :=
  store_ok2 I hN hi hx r (fun s' I' _ => h s' I') hf
theorem Inv.call' {s' : Shared} {ch : List Addr} (I : Inv X pins σ H s) (ho : s'.os = s.os) (u : Un (frs X.stack) ch H H' s.heap s'.heap) (hok : HOk X.prog X.w H' s'.heap) (hg : AllBare s'.gens)
    (hch : ∀ b ∈ ch, (b ∈ X.ex ∨ X.s₀.heap.objs.size ≤ b) ∧ b ≠ X.env.locals ∧ (∀ x c, X.env.cells.lookup x = some c → c ≠ b) ∧ ∀ p ∈ X.pn ++ pins, p.1 ≠ b) : Inv X pins σ H' s' := by
  obtain ⟨h', g', d', t', o'⟩ := s'
  have e : o' = s.os := ho
  subst e
  exact I.call (g' := g') (t' := t') (d' := d') u hok hg hch
end

abbrev XK := Value → Option Addr → Hp → Prop
abbrev St := List (Option V)
abbrev VK := V → Hp → Prop
abbrev TE := St → Hp → VK → Prop
abbrev TT := St → Hp → (Bool → Hp → Prop) → Prop
abbrev TA := St → Hp → (List V → Hp → Prop) → Prop
structure Ends where
  nx : St → Hp → Prop
  rt : VK
  bk : St → Hp → Prop := fun _ _ => False
  ct : St → Hp → Prop := fun _ _ => False
abbrev TS := Ends → St → Hp → Prop

def EP (X : Cx) (pins : List (Addr × Obj)) (σ : St) (Q : VK) (u : Value) (s' : Shared) : Prop := ∃ v H', Inv X pins σ H' s' ∧ RelV v u ∧ Q v H'
def TP (X : Cx) (pins : List (Addr × Obj)) (σ : St) (Q : Bool → Hp → Prop) (b : Bool) (s' : Shared) : Prop := ∃ H', Inv X pins σ H' s' ∧ Q b H'
def AP (X : Cx) (pins : List (Addr × Obj)) (σ : St) (Q : List V → Hp → Prop) (us : List Value) (s' : Shared) : Prop := ∃ vs H', Inv X pins σ H' s' ∧ Vals vs us ∧ Q vs H'
def SP (X : Cx) (pins : List (Addr × Obj)) (D : Ends) (f : Flow) (s' : Shared) : Prop :=
  match f with
  | .next => ∃ σ' H', Inv X pins σ' H' s' ∧ D.nx σ' H'
  | .brk => ∃ σ' H', Inv X pins σ' H' s' ∧ D.bk σ' H'
  | .cont => ∃ σ' H', Inv X pins σ' H' s' ∧ D.ct σ' H'
  | .ret u => ∃ v σ' H', Inv X pins σ' H' s' ∧ RelV v u ∧ D.rt v H'

def PE (X : Cx) (e : Expr) (t : TE) : Prop :=
  ∀ (pins : List (Addr × Obj)) (s : Shared) (σ : St) (H : Hp) (Q : VK), Inv X pins σ H s → t σ H Q → wpAny (model X.prog X.w) X.A (eval e X.env) (EP X pins σ Q) X.xe s
def PT (X : Cx) (e : Expr) (t : TT) : Prop :=
  ∀ (pins : List (Addr × Obj)) (s : Shared) (σ : St) (H : Hp) (Q : Bool → Hp → Prop), Inv X pins σ H s → t σ H Q → wpAny (model X.prog X.w) X.A (isTrue e X.env (eval e X.env)) (TP X pins σ Q) X.xe s
def PW (X : Cx) (e : Expr) (t : TT) : Prop :=
  ∀ (whole : Sem Value) (pins : List (Addr × Obj)) (s : Shared) (σ : St) (H : Hp) (Q : Bool → Hp → Prop), Inv X pins σ H s → t σ H Q → wpAny (model X.prog X.w) X.A (isTrue e X.env whole) (TP X pins σ Q) X.xe s
theorem PW.pt {X : Cx} {e : Expr} {t : TT} (h : PW X e t) : PT X e t := h _
def PA (X : Cx) (es : List Expr) (t : TA) : Prop :=
  ∀ (pos : Pos) (pins : List (Addr × Obj)) (s : Shared) (σ : St) (H : Hp) (Q : List V → Hp → Prop), Inv X pins σ H s → t σ H Q → wpAny (model X.prog X.w) X.A (spliced (backTo pos (starEach es X.env))) (AP X pins σ Q) X.xe s
def PS (X : Cx) (st : Stmt) (t : TS) : Prop :=
  ∀ (pins : List (Addr × Obj)) (s : Shared) (σ : St) (H : Hp) (D : Ends), Inv X pins σ H s → t D σ H → wpAny (model X.prog X.w) X.A (exec st X.env) (SP X pins D) X.xe s
def PSs (X : Cx) (st : List Stmt) (t : TS) : Prop :=
  ∀ (pins : List (Addr × Obj)) (s : Shared) (σ : St) (H : Hp) (D : Ends), Inv X pins σ H s → t D σ H → wpAny (model X.prog X.w) X.A (execs st X.env) (SP X pins D) X.xe s
theorem thn {α : Type} {t : Sem α} {Q Q' : α → Shared → Prop} {M : Model} {A : Around} {E : Value → Shared → Prop} {s : Shared} (h : wpAny M A t Q E s) (hQ : ∀ a s, Q a s → Q' a s) : wpAny M A t Q' E s := wpAny_mono h hQ fun _ _ x => x
end L2

namespace L2
open PySem PySem.Spec PyProof.Rows
section
variable {X : Cx}

theorem bin {a b : Expr} {ta tb : TE} (ha : PE X a ta) (hb : PE X b tb) {pins : List (Addr × Obj)} {s : Shared} {σ : St} {H : Hp} {R : V → V → Hp → Prop} (I : Inv X pins σ H s) (h : ta σ H fun x H1 => tb σ H1 fun y H2 => R x y H2)
    {α : Type} {Q : α → Shared → Prop} {f : Value → Value → Sem α}
    (hf : ∀ v u s2 x y H2, Inv X pins σ H2 s2 → RelV x v → RelV y u → R x y H2 → wpAny (model X.prog X.w) X.A (f v u) Q X.xe s2) :
    wpAny (model X.prog X.w) X.A (eval a X.env) (fun v s₁ => wpAny (model X.prog X.w) X.A (eval b X.env) (fun u s₂ => wpAny (model X.prog X.w) X.A (f v u) Q X.xe s₂) X.xe s₁) X.xe s := by
  refine thn (ha pins s σ H _ I h) fun v s1 ⟨x, H1, I1, r1, q1⟩ => ?_
  refine thn (hb pins s1 σ H1 _ I1 q1) fun u s2 ⟨y, H2, I2, r2, q2⟩ => ?_
  exact hf v u s2 x y H2 I2 r1 r2 q2

def tVar (i : Nat) : TE := fun σ H Q => ∃ v, σ[i]? = some (some v) ∧ Q v H
def tC (v : V) : TE := fun _ H Q => Q v H
theorem pe_var {i : Nat} {x : Str} {pos : Pos} (hN : X.N[i]? = some x) (hv : Vis X.env.scope x) (hd : (x == ("__debug__" : Str)) = false := by decide) (hcd : (x == ("__classdict__" : Str)) = false := by decide) : PE X (.Name x pos) (tVar i) := by
  intro pins s σ H Q I h
  obtain ⟨v, e, h⟩ := h
  obtain ⟨m, hn, hl⟩ := I.loc
  obtain ⟨u, r, l⟩ := hl i x v hN e hv
  have fin : EP X pins σ Q u s := ⟨v, H, I, r, h⟩
  rcases l with ⟨hk, hm⟩ | ⟨hk, c, hc, hcell⟩
  · exact wpAny_Name (wpAny_loadName_local I.ok.kind hk hn hm fin) hd
  · rcases hk with hk | hk
    · exact wpAny_Name (wpAny_loadName_cell I.ok.kind hk hc hcell fin) hd
    · exact wpAny_Name (wpAny_loadName_free I.ok.kind hk hc hcell fin hcd) hd
theorem pe_int {i j pos} : PE X (.Constant (.int i) j pos) (tC (.int i)) := fun _ _ _ H _ I h => wpAny_Constant_int ⟨.int i, H, I.tok _, ⟨_, rfl⟩, h⟩
theorem pe_bl {b j pos} : PE X (.Constant (.bool b) j pos) (tC (.bl b)) := fun _ _ _ H _ I h => Constant_bool ⟨.bl b, H, I, rfl, h⟩
theorem pe_non {j pos} : PE X (.Constant .none j pos) (tC .non) := fun _ _ _ H _ I h => Constant_none ⟨.non, H, I, rfl, h⟩
theorem pe_str {x j pos} : PE X (.Constant (.str x) j pos) (tC (.str x)) := fun _ _ _ H _ I h => Calls.Constant_str ⟨.str x, H, I.tok _, ⟨_, rfl⟩, h⟩

def Gl (X : Cx) (x : Str) : Prop := X.env.kindOf x = some .globalImplicit
theorem ld_glob {E : Value → Shared → Prop} {pins : List (Addr × Obj)} {s : Shared} {σ : St} {H : Hp} {x : Str} {u : Value} {pos : Pos} {Q : Value → Shared → Prop} (I : Inv X pins σ H s) (hg : Gl X x) (hm : X.mg x = some u) (h : Q u s)
    (hd : (x == ("__debug__" : Str)) = false := by decide) : wpAny (model X.prog X.w) X.A (eval (.Name x pos) X.env) Q E s :=
  Calls.Name_function_global I.ok.kind hg (Calls.loadGlobal_global (by rw [I.ok.glob]; exact I.mod.glob.keeps I.bk) hm h) hd
theorem ld_blt {E : Value → Shared → Prop} {pins : List (Addr × Obj)} {s : Shared} {σ : St} {H : Hp} {x : Str} {u : Value} {pos : Pos} {Q : Value → Shared → Prop} (I : Inv X pins σ H s) (hg : Gl X x) (hm : X.mg x = none) (hv : bootBuiltins x = some u) (h : Q u s)
    (hn : x ≠ "__name__" := by decide) (hd : (x == ("__debug__" : Str)) = false := by decide) : wpAny (model X.prog X.w) X.A (eval (.Name x pos) X.env) Q E s := by
  obtain ⟨mb, h1, h2⟩ := I.mod.blt
  exact Calls.Name_function_global I.ok.kind hg (Calls.loadGlobal_builtin (by rw [I.ok.glob]; exact I.mod.glob.keeps I.bk) hm (by rw [I.ok.blt]; exact h1.keeps I.bk) ((h2 x hn).trans hv) h) hd
theorem pe_glob {x : Str} {v : V} {u : Value} {pos : Pos} (hg : Gl X x) (hm : X.mg x = some u) (r : RelV v u) (hd : (x == ("__debug__" : Str)) = false := by decide) : PE X (.Name x pos) (tC v) :=
  fun _ _ _ H _ I h => ld_glob I hg hm ⟨v, H, I, r, h⟩ hd
theorem pe_bltn {x : Str} {v : V} {u : Value} {pos : Pos} (hg : Gl X x) (hm : X.mg x = none) (hv : bootBuiltins x = some u) (r : RelV v u) (hn : x ≠ "__name__" := by decide) (hd : (x == ("__debug__" : Str)) = false := by decide) : PE X (.Name x pos) (tC v) :=
  fun _ _ _ H _ I h => ld_blt I hg hm hv ⟨v, H, I, r, h⟩ hn hd

variable {a b : Expr} {ta tb : TE} {pos : Pos}
def PC (X : Cx) (op : CmpOp) (a b : Expr) (t : TE) : Prop :=
  ∀ (pins : List (Addr × Obj)) (s : Shared) (σ : St) (H : Hp) (Q : VK), Inv X pins σ H s → t σ H Q →
    wpAny (model X.prog X.w) X.A (eval a X.env) (fun v s₁ => wpAny (model X.prog X.w) X.A (eval b X.env) (fun u s₂ => wpAny (model X.prog X.w) X.A (compareOp op v u) (EP X pins σ Q) X.xe s₂) X.xe s₁) X.xe s
theorem nobehind (b : Expr) {op : CmpOp} (h : op ≠ .In) (h2 : op ≠ .NotIn) : behindInMarks op b = false := by
  have e1 : (op == CmpOp.In) = false := by cases op <;> first | rfl | exact absurd rfl h
  have e2 : (op == CmpOp.NotIn) = false := by cases op <;> first | rfl | exact absurd rfl h2
  cases b <;> simp [behindInMarks, e1, e2]
def tNotN (ta : TE) : TE := fun σ H Q => ta σ H fun x H1 => Q (.bl (!decide (x = .non))) H1
theorem RelV.none_iff {x : V} {v : Value} (r : RelV x v) : (v == Value.none) = decide (x = .non) := by
  cases x with
  | non => cases r; rfl
  | bl _ => cases r; rfl
  | int _ => obtain ⟨t, rfl⟩ := r; rfl
  | str _ => obtain ⟨t, rfl⟩ := r; rfl
  | byt _ => obtain ⟨t, rfl⟩ := r; rfl
  | flt _ => obtain ⟨t, rfl⟩ := r; rfl
  | ref _ => cases r; rfl
  | ty _ => cases r; rfl
theorem pc_notN {j pos'} (ha : PE X a ta) : PC X .IsNot a (.Constant .none j pos') (tNotN ta) := by
  intro pins s σ H Q I h
  refine thn (ha pins s σ H _ I h) fun v s1 ⟨x, H1, I1, r1, q1⟩ => ?_
  exact Constant_none (isnot_none_gen ⟨.bl _, H1, I1, by rw [r1.none_iff]; rfl, q1⟩)
def tB (t : TE) : TT := fun σ H Q => t σ H fun x H1 => ∃ c, x = .bl c ∧ Q c H1
theorem pt_cmp {op : CmpOp} {t : TE} (h : PC X op a b t) (h1 : behindInMarks op b = false := by first | exact nobehind _ (by decide) (by decide) | rfl) : PT X (.Compare a [op] [b] pos) (tB t) := by
  intro pins s σ H Q I hw
  refine wpAny_isTrue_Compare1 (thn (h pins s σ H _ I hw) fun v s1 h1 => thn h1 fun u s2 h2 => thn h2 fun c s3 ⟨x, H1, I1, r1, q1⟩ => ?_) h1
  obtain ⟨d, rfl, q⟩ := q1
  cases r1
  exact wpAny_truthy_bool ⟨H1, I1, q⟩
theorem pt_val {e : Expr} {t : TE} (h : PE X e t) (he : ∀ whole, isTrue e X.env whole = (do let v ← whole; standAt e.pos; holding [v] (truthy v)) := by intro _; rfl) : PT X e (tB t) := by
  intro pins s σ H Q I hw
  refine isTrue_plain (thn (h pins s σ H _ I hw) fun v s1 ⟨x, H1, I1, r1, q1⟩ => ?_) (he _)
  obtain ⟨d, rfl, q⟩ := q1
  cases r1
  exact wpAny_truthy_bool ⟨H1, I1, q⟩

variable {tA tB' : TT} {rest : List Expr}
def tAnd (t u : TT) : TT := fun σ H Q => t σ H fun c H1 => if c = true then u σ H1 Q else Q false H1
def tOr (t u : TT) : TT := fun σ H Q => t σ H fun c H1 => if c = true then Q true H1 else u σ H1 Q
def tNot (t : TT) : TT := fun σ H Q => t σ H fun c H1 => Q (!c) H1
theorem pw_and1 (ha : PT X a tA) : PW X (.BoolOp .And [a] pos) tA := by
  intro wh pins s σ H Q I h
  refine isTrue_and (thn (ha pins s σ H Q I h) fun c s1 e => ?_)
  cases c with
  | true => exact isTrue_and_nil e
  | false => exact e
theorem pw_or1 (ha : PT X a tA) : PW X (.BoolOp .Or [a] pos) tA := by
  intro wh pins s σ H Q I h
  refine isTrue_or (thn (ha pins s σ H Q I h) fun c s1 e => ?_)
  cases c with
  | false => exact isTrue_or_nil e
  | true => exact e
theorem pw_and (ha : PT X a tA) (hb : PW X (.BoolOp .And (b :: rest) pos) tB') : PW X (.BoolOp .And (a :: b :: rest) pos) (tAnd tA tB') := by
  intro wh pins s σ H Q I h
  refine isTrue_and (thn (ha pins s σ H _ I h) fun c s1 ⟨H1, I1, q1⟩ => ?_)
  cases c with
  | true => exact hb wh pins s1 σ H1 Q I1 q1
  | false => exact ⟨H1, I1, q1⟩
theorem pw_or (ha : PT X a tA) (hb : PW X (.BoolOp .Or (b :: rest) pos) tB') : PW X (.BoolOp .Or (a :: b :: rest) pos) (tOr tA tB') := by
  intro wh pins s σ H Q I h
  refine isTrue_or (thn (ha pins s σ H _ I h) fun c s1 ⟨H1, I1, q1⟩ => ?_)
  cases c with
  | true => exact ⟨H1, I1, q1⟩
  | false => exact hb wh pins s1 σ H1 Q I1 q1
theorem pt_not (ha : PT X a tA) : PT X (.UnaryOp .Not a pos) (tNot tA) := by
  intro pins s σ H Q I h
  exact isTrue_not (ha pins s σ H (fun c H1 => Q (!c) H1) I h)
def tAndV (ta tb : TE) : TE := fun σ H Q => ta σ H fun x H1 => ∃ c, x = .bl c ∧ if c = true then tb σ H1 Q else Q (.bl false) H1
theorem pe_one {op} {t : TE} (h : PE X a t) : PE X (.BoolOp op [a] pos) t := fun pins s σ H Q I hw => BoolOp_one (h pins s σ H Q I hw)
theorem pe_and (ha : PE X a ta) (hb : PE X (.BoolOp .And (b :: rest) pos) tb) : PE X (.BoolOp .And (a :: b :: rest) pos) (tAndV ta tb) := by
  intro pins s σ H Q I h
  refine BoolOp_and (thn (ha pins s σ H _ I h) fun v s1 ⟨x, H1, I1, r1, q1⟩ => ?_)
  obtain ⟨c, rfl, q1⟩ := q1
  cases r1
  refine wpAny_truthy_bool ?_
  cases c with
  | true => exact hb pins s1 σ H1 Q I1 q1
  | false => exact ⟨.bl false, H1, I1, rfl, q1⟩
def tIf (t : TT) (ta tb : TE) : TE := fun σ H Q => t σ H fun c H1 => if c = true then ta σ H1 Q else tb σ H1 Q
theorem pe_ifExp {c : Expr} (hc : PT X c tA) (ha : PE X a ta) (hb : PE X b tb) : PE X (.IfExp c a b pos) (tIf tA ta tb) := by
  intro pins s σ H Q I h
  refine wpAny_IfExp (thn (hc pins s σ H _ I h) fun d s1 ⟨H1, I1, q1⟩ => ?_)
  cases d with
  | true => exact ha pins s1 σ H1 Q I1 q1
  | false => exact hb pins s1 σ H1 Q I1 q1
end
end L2

namespace L2
open PySem PySem.Spec PyProof.Rows

def SqL (K : PySem.W.Frag) (H : Hp) (a : Addr) (xs : List V) : Prop :=
  Rd H a (.lst xs) ∨
    ∃ (o : Obj) (its : Array Value) (n : Nat), K.lookup a = some o ∧ o.cls = .type "list" ∧ o.dict = none ∧ o.data = .seq its n ∧ its.size ≤ sizeLine ∧ Vals xs its.toList
def SqT (K : PySem.W.Frag) (H : Hp) (a : Addr) (xs : List V) : Prop :=
  Rd H a (.tup xs) ∨
    ∃ (o : Obj) (its : Array Value) (n : Nat), K.lookup a = some o ∧ o.cls = .type "tuple" ∧ o.data = .seq its n ∧ its.size ≤ sizeLine ∧ Vals xs its.toList
def absV : Value → Option V
  | .none => some .non
  | .bool b => some (.bl b)
  | .int i _ => some (.int i)
  | .str x _ => some (.str x)
  | .bytes b _ => some (.byt b)
  | .float b _ => some (.flt b)
  | .ref a => some (.ref a)
  | .type n => some (.ty n)
  | _ => none
theorem RelV.abs {x : V} {u : Value} (r : RelV x u) : absV u = some x := by
  cases x with
  | non => cases r; rfl
  | bl _ => cases r; rfl
  | int _ => obtain ⟨t, rfl⟩ := r; rfl
  | str _ => obtain ⟨t, rfl⟩ := r; rfl
  | byt _ => obtain ⟨t, rfl⟩ := r; rfl
  | flt _ => obtain ⟨t, rfl⟩ := r; rfl
  | ref _ => cases r; rfl
  | ty _ => cases r; rfl
theorem RelV.inj {x y : V} {u : Value} (r : RelV x u) (q : RelV y u) : x = y := Option.some.inj (r.abs.symm.trans q.abs)
theorem Vals.inj : ∀ {xs ys : List V} {us : List Value}, Vals xs us → Vals ys us → xs = ys
  | _, _, _, .nil, .nil => rfl
  | _, _, _, .cons r t, .cons r' t' => by rw [r.inj r', Vals.inj t t']
section
variable {X : Cx} {pins : List (Addr × Obj)} {σ : St} {H : Hp} {s : Shared} {a : Addr} {xs ys : List V}
theorem SqL.of {K : PySem.W.Frag} (h : H a = some (.lst xs)) : SqL K H a xs := .inl (.inl h)
theorem SqT.of {K : PySem.W.Frag} (h : H a = some (.tup xs)) : SqT K H a xs := .inl (.inl h)
theorem Inv.list (I : Inv X pins σ H s) (h : SqL X.K H a xs) : ∃ its : List Value, Vals xs its ∧ PlainL s.heap a its.toArray ∧ xs.length ≤ sizeLine := by
  rcases h with h | ⟨o, its, n, hk, hc, hd, hs, hz, r⟩
  · obtain ⟨z, its, n, r, e⟩ := h.ok I.hok
    exact ⟨its, r, ⟨_, n, e, rfl, rfl, rfl⟩, z⟩
  · refine ⟨its.toList, r, ⟨o, n, I.kIn a o hk, hc, hd, by simpa using hs⟩, ?_⟩
    have e := r.length
    simp only [Array.length_toList] at e
    omega
theorem Inv.tuple (I : Inv X pins σ H s) (h : SqT X.K H a xs) : ∃ its : List Value, Vals xs its ∧ IsTup s.heap a its.toArray ∧ xs.length ≤ sizeLine := by
  rcases h with h | ⟨o, its, n, hk, hc, hs, hz, r⟩
  · obtain ⟨z, its, r, p⟩ := h.ok I.hok
    exact ⟨its, r, p, z⟩
  · refine ⟨its.toList, r, ⟨o, I.kIn a o hk, hc, n, by simpa using hs⟩, ?_⟩
    have e := r.length
    simp only [Array.length_toList] at e
    omega
theorem Inv.list_inj (I : Inv X pins σ H s) (h : SqL X.K H a xs) (h' : SqL X.K H a ys) : xs = ys := by
  obtain ⟨its, r, ⟨o, n, e, _, _, d⟩, _⟩ := I.list h
  obtain ⟨its', r', ⟨o', n', e', _, _, d'⟩, _⟩ := I.list h'
  rw [e] at e'; cases e'
  rw [d] at d'
  injection d' with d1 _
  have : its = its' := by simpa using congrArg Array.toList d1
  subst this
  exact r.inj r'
theorem Inv.tuple_inj (I : Inv X pins σ H s) (h : SqT X.K H a xs) (h' : SqT X.K H a ys) : xs = ys := by
  obtain ⟨its, r, ⟨o, e, _, n, d⟩, _⟩ := I.tuple h
  obtain ⟨its', r', ⟨o', e', _, n', d'⟩, _⟩ := I.tuple h'
  rw [e] at e'; cases e'
  rw [d] at d'
  injection d' with d1 _
  have : its = its' := by simpa using congrArg Array.toList d1
  subst this
  exact r.inj r'
end

abbrev Cx.wish (X : Cx) (E : Value → Shared → Prop) : Cx := { X with xe := E }
abbrev Cx.nox (X : Cx) : Cx := X.wish fun _ _ => False
theorem Cx.Ok.wish {X : Cx} (ok : X.Ok) (E : Value → Shared → Prop) : (X.wish E).Ok :=
  ⟨ok.mod, ok.kind, ok.glob, ok.blt, ok.above, ok.inj, ok.has, ok.cab, ok.hd, ok.frames, ok.stk, ok.exf, ok.bs, ok.bsz, ok.noex, ok.exfs, ok.funs, ok.frf⟩
theorem Cx.Ok.unwish {X : Cx} {E : Value → Shared → Prop} (ok : (X.wish E).Ok) : X.Ok :=
  ⟨ok.mod, ok.kind, ok.glob, ok.blt, ok.above, ok.inj, ok.has, ok.cab, ok.hd, ok.frames, ok.stk, ok.exf, ok.bs, ok.bsz, ok.noex, ok.exfs, ok.funs, ok.frf⟩
section
variable {X : Cx} {pins : List (Addr × Obj)} {σ : St} {H : Hp} {s : Shared} {E : Value → Shared → Prop}
theorem Inv.wish (I : Inv X pins σ H s) (E : Value → Shared → Prop) : Inv (X.wish E) pins σ H s := ⟨I.ok.wish E, I.os, I.bare, I.base, I.loc, I.cell, I.free, I.freeC, I.pin, I.hok, I.len⟩
theorem Inv.unwish (I : Inv (X.wish E) pins σ H s) : Inv X pins σ H s := ⟨I.ok.unwish, I.os, I.bare, I.base, I.loc, I.cell, I.free, I.freeC, I.pin, I.hok, I.len⟩
theorem SP.unwish {D : Ends} {f : Flow} {s' : Shared} (h : SP (X.wish E) pins D f s') : SP X pins D f s' := by
  cases f with
  | next => obtain ⟨σ', H', I, q⟩ := h; exact ⟨σ', H', I.unwish, q⟩
  | brk => obtain ⟨σ', H', I, q⟩ := h; exact ⟨σ', H', I.unwish, q⟩
  | cont => obtain ⟨σ', H', I, q⟩ := h; exact ⟨σ', H', I.unwish, q⟩
  | ret u => obtain ⟨v, σ', H', I, r, q⟩ := h; exact ⟨v, σ', H', I.unwish, r, q⟩
theorem PSs.nox {st : List Stmt} {t : TS} (h : PSs X.nox st t) : PSs X st t := fun pins s σ H D I hw =>
  wpAny_mono (h pins s σ H D (I.wish _) hw) (fun _ _ q => q.unwish) fun _ _ z => False.elim z
end

section
variable {X : Cx} {st : Stmt} {rest : List Stmt} {t u : TS} {e : Expr} {te : TE} {pos : Pos}
def tNext : TS := fun D σ H => D.nx σ H
def tSeq (t u : TS) : TS := fun D σ H => t { D with nx := u D } σ H
theorem pss_nil : PSs X [] tNext := fun _ _ σ H _ I h => wpAny_execs_nil ⟨σ, H, I, h⟩
theorem pss_cons (h1 : PS X st t) (h2 : PSs X rest u) : PSs X (st :: rest) (tSeq t u) := by
  intro pins s σ H D I h
  refine wpAny_execs_cons (thn (h1 pins s σ H { D with nx := u D } I h) fun f s1 q => ?_)
  cases f with
  | next =>
    obtain ⟨σ', H', I', q⟩ := q
    exact h2 pins s1 σ' H' D I' q
  | ret v => exact q
  | brk => exact q
  | cont => exact q
theorem pss_one (h1 : PS X st t) : PSs X [st] t := by
  intro pins s σ H D I h
  refine wpAny_execs_cons (thn (h1 pins s σ H D I h) fun f s1 q => ?_)
  cases f with
  | next => exact wpAny_execs_nil q
  | ret v => exact q
  | brk => exact q
  | cont => exact q
theorem Inv.quiet {pins : List (Addr × Obj)} {σ : St} {H : Hp} {s : Shared} (I : Inv X pins σ H s) : interactive X.env = false := by simp [interactive, I.ok.kind]
def tDrop (te : TE) : TS := fun D σ H => te σ H fun _ H1 => D.nx σ H1
theorem ps_expr (he : PE X e te) (hs : swapsWith e none pos.line X.env = pure false := by rfl) : PS X (.Expr e pos) (tDrop te) := by
  intro pins s σ H D I h
  exact wpAny_Expr_any (thn (he pins s σ H _ I h) fun v s1 ⟨x, H1, I1, r1, q1⟩ => ⟨σ, H1, I1, q1⟩) I.quiet hs
def tRet (te : TE) : TS := fun D σ H => te σ H D.rt
theorem ps_ret (he : PE X e te) : PS X (.Return (some e) pos) (tRet te) := by
  intro pins s σ H D I h
  exact wpAny_Return_some (thn (he pins s σ H _ I h) fun v s1 ⟨x, H1, I1, r1, q1⟩ => ⟨x, σ, H1, I1, r1, q1⟩)
def tIfS (c : TT) (t u : TS) : TS := fun D σ H => c σ H fun b H1 => if b = true then t D σ H1 else u D σ H1
theorem ps_if {c : Expr} {a b : List Stmt} {tc : TT} (hc : PT X c tc) (ha : PSs X a t) (hb : PSs X b u) : PS X (.If c a b pos) (tIfS tc t u) := by
  intro pins s σ H D I h
  refine wpAny_If (thn (hc pins s σ H _ I h) fun d s1 ⟨H1, I1, q1⟩ => ?_)
  cases d with
  | true => exact ha pins s1 σ H1 D I1 q1
  | false => exact hb pins s1 σ H1 D I1 q1
end

abbrev TG := V → St → Hp → (St → Hp → Prop) → Prop
abbrev TGs := List V → St → Hp → (St → Hp → Prop) → Prop
def PG (X : Cx) (target : Expr) (t : TG) : Prop :=
  ∀ (pins : List (Addr × Obj)) (s : Shared) (σ : St) (H : Hp) (v : V) (u : Value) (Q : St → Hp → Prop), Inv X pins σ H s → RelV v u → t v σ H Q →
    wpAny (model X.prog X.w) X.A (assign target X.env u) (fun _ s' => ∃ σ' H', Inv X pins σ' H' s' ∧ Q σ' H') X.xe s
def PGs (X : Cx) (ts : List Expr) (t : TGs) : Prop :=
  ∀ (pins : List (Addr × Obj)) (s : Shared) (σ : St) (H : Hp) (vs : List V) (us : List Value) (Q : St → Hp → Prop), Inv X pins σ H s → Vals vs us → t vs σ H Q →
    wpAny (model X.prog X.w) X.A (assignInOrder ((assignEach ts X.env).map (·.2)) us) (fun _ s' => ∃ σ' H', Inv X pins σ' H' s' ∧ Q σ' H') X.xe s
abbrev TSet := V → V → V → Hp → (Hp → Prop) → Prop
def PSet (X : Cx) (t : TSet) : Prop :=
  ∀ (pins : List (Addr × Obj)) (s : Shared) (σ : St) (H : Hp) (o i v : V) (ov iv u : Value) (Q : Hp → Prop), Inv X pins σ H s → RelV o ov → RelV i iv → RelV v u → t o i v H Q →
    wpAny (model X.prog X.w) X.A (setItem ov iv u) (fun _ s' => ∃ H', Inv X pins σ H' s' ∧ Q H') X.xe s
abbrev TIp := V → V → Hp → VK → Prop
def PIp (X : Cx) (op : Operator) (t : TIp) : Prop :=
  ∀ (pins : List (Addr × Obj)) (s : Shared) (σ : St) (H : Hp) (x y : V) (v u : Value) (Q : VK), Inv X pins σ H s → RelV x v → RelV y u → t x y H Q →
    wpAny (model X.prog X.w) X.A (inplaceOp op v u) (EP X pins σ Q) X.xe s
section
variable {X : Cx} {pos : Pos}
def gName (i : Nat) : TG := fun v σ H Q => Q (σ.set i (some v)) H
theorem pg_name {i : Nat} {x : Str} (hN : X.N.Nodup) (hi : X.N[i]? = some x) (hx : Loc X.env.scope x) (hf : X.fn x = true ∨ X.env.scope.names.lookup x = some .local := by first | exact .inl rfl | exact .inr rfl | assumption) : PG X (.Name x pos) (gName i) := by
  intro pins s σ H v u Q I r h
  exact wpAny_assign_Name (store_ok I hN hi hx r (fun s' I' => ⟨_, H, I', h⟩) hf)
def gNil : TGs := fun vs σ H Q => vs = [] ∧ Q σ H
def gCons (t : TG) (u : TGs) : TGs := fun vs σ H Q => ∃ v r, vs = v :: r ∧ t v σ H fun σ' H' => u r σ' H' Q
theorem pgs_nil : PGs X [] gNil := by
  intro pins s σ H vs us Q I r h
  obtain ⟨e, h⟩ := h
  subst e
  cases r
  exact assignInOrder_nil ⟨σ, H, I, h⟩
theorem pgs_cons {e : Expr} {es : List Expr} {t : TG} {u : TGs} (h1 : PG X e t) (h2 : PGs X es u)
    (hs : (assignEach (e :: es) X.env).map (·.2) = assign e X.env :: (assignEach es X.env).map (·.2) := by rfl) : PGs X (e :: es) (gCons t u) := by
  intro pins s σ H vs us Q I r h
  obtain ⟨v, vr, e1, h⟩ := h
  subst e1
  cases r with
  | cons r rr =>
    rw [hs]
    refine assignInOrder_cons (thn (h1 pins s σ H _ _ _ I r h) fun _ s1 ⟨σ1, H1, I1, q1⟩ => ?_)
    exact h2 pins s1 σ1 H1 _ _ Q I1 rr q1
def gTup (K : PySem.W.Frag) (n : Nat) (t : TGs) : TG := fun v σ H Q => ∃ a xs, v = .ref a ∧ SqT K H a xs ∧ xs.length = n ∧ t xs σ H Q
theorem pg_tup {es : List Expr} {k : Nat} {t : TGs} {n : Nat} (hc : X.calm = true) (h : PGs X es t)
    (hn : (assignEach es X.env).length = n := by rfl) (hst : (assignEach es X.env).findIdx? (·.1) = none := by rfl) : PG X (.Tuple es k pos) (gTup X.K n t) := by
  intro pins s σ H v u Q I r hw
  obtain ⟨a, xs, e1, hq, hl, hw⟩ := hw
  subst e1
  cases r
  obtain ⟨its, rv, ht, hz⟩ := I.tuple hq
  refine assign_Tuple_tuple (I.ok.hd hc) ht (by simp [hn, ← hl, rv.length]) hst fun h' hx => ?_
  have I1 : Inv X pins σ H { s with heap := h' } := I.kept (t' := s.toks) fun b o e => hx b o (Nat.ne_of_lt (Heap.lt_size e)) e
  exact h pins _ σ H xs _ Q I1 (by simpa using rv) hw
def gSub (to ti : TE) (t : TSet) : TG := fun v σ H Q => to σ H fun o H1 => ti σ H1 fun i H2 => t o i v H2 fun H3 => Q σ H3
theorem pg_sub {o i : Expr} {to ti : TE} {t : TSet} (ho : PE X o to) (hi : PE X i ti) (hs : PSet X t)
    (ha : ∀ v, assign (.Subscript o i pos) X.env v = (do
      let ov ← holding [v] (eval o X.env)
      let iv ← holding [v, ov] (eval i X.env)
      standAt pos
      holding [v, ov, iv] (setItem ov iv v)
      release [v, ov, iv] []) := by intro _; rfl) : PG X (.Subscript o i pos) (gSub to ti t) := by
  intro pins s σ H v u Q I r h
  rw [ha]
  refine wpAny_bind (wpAny_holding (thn (ho pins s σ H _ I h) fun ov s1 ⟨x, H1, I1, r1, q1⟩ => ?_))
  refine wpAny_bind (wpAny_holding (thn (hi pins s1 σ H1 _ I1 q1) fun iv s2 ⟨y, H2, I2, r2, q2⟩ => ?_))
  refine wpAny_bind (wpAny_standAt (wpAny_bind (wpAny_holding (thn (hs pins s2 σ H2 x y v ov iv u _ I2 r1 r2 r q2) fun _ s3 ⟨H3, I3, q3⟩ => ?_))))
  exact wpAny_release ⟨σ, H3, I3, q3⟩
def tAsg (te : TE) (g : TG) : TS := fun D σ H => te σ H fun x H1 => g x σ H1 D.nx
theorem ps_asg {tg e : Expr} {te : TE} {g : TG} (he : PE X e te) (hg : PG X tg g) (hs : swapsWithSole [tg] e pos.line X.env = pure false := by rfl) (hw : swappedStores [tg] e X.env = pure none := by rfl)
    (h1 : (assignEach [tg] X.env).map (·.2) = [assign tg X.env] := by rfl) : PS X (.Assign [tg] e pos) (tAsg te g) := by
  intro pins s σ H D I h
  refine wpAny_Assign_stores (thn (he pins s σ H _ I h) fun v s1 ⟨x, H1, I1, r1, q1⟩ => ?_) hs hw
  rw [h1]
  exact thn (hg pins s1 σ H1 x v _ I1 r1 q1) fun _ s2 q => q
theorem ps_set {i : Nat} {x : Str} {e : Expr} {te : TE} {pos' : Pos} (hN : X.N.Nodup) (hi : X.N[i]? = some x) (hx : Loc X.env.scope x) (he : PE X e te) (hs : swapsWith e (some (.Name x pos')) pos.line X.env = pure false := by rfl) (hf : X.fn x = true ∨ X.env.scope.names.lookup x = some .local := by first | exact .inl rfl | exact .inr rfl | assumption) :
    PS X (.Assign [.Name x pos'] e pos) (tAsg te (gName i)) := by
  intro pins s σ H D I h
  refine wpAny_Assign_Name (thn (he pins s σ H _ I h) fun v s1 ⟨y, H1, I1, r1, q1⟩ => ?_) hs
  exact store_ok I1 hN hi hx r1 (fun s2 I2 => ⟨_, H1, I2, q1⟩) hf
def tAug (i : Nat) (te : TE) (ti : TIp) : TS := fun D σ H => ∃ x, σ[i]? = some (some x) ∧ te σ H fun y H1 => ti x y H1 fun z H2 => D.nx (σ.set i (some z)) H2
theorem ps_aug {i : Nat} {x : Str} {e : Expr} {te : TE} {op : Operator} {ti : TIp} {pos' : Pos} (hN : X.N.Nodup) (hi : X.N[i]? = some x) (hx : Loc X.env.scope x) (he : PE X e te) (ho : PIp X op ti) (hf : X.fn x = true ∨ X.env.scope.names.lookup x = some .local := by first | exact .inl rfl | exact .inr rfl | assumption) :
    PS X (.AugAssign (.Name x pos') op e pos) (tAug i te ti) := by
  intro pins s σ H D I h
  obtain ⟨v, e1, h⟩ := h
  obtain ⟨m, hn, hl⟩ := I.loc
  have vis : Vis X.env.scope x := by rcases hx with k | k; exact .inl k; exact .inr (.inl k)
  obtain ⟨u, r, l⟩ := hl i x v hi e1 vis
  refine wpAny_AugAssign_Name ?_
  have go : wpAny (model X.prog X.w) X.A (eval e X.env) (fun w s₂ => wpAny (model X.prog X.w) X.A (inplaceOp op u w) (fun r s₃ => wpAny (model X.prog X.w) X.A (storeName X.env x r) (fun _ => SP X pins D .next) X.xe s₃) X.xe s₂) X.xe s := by
    refine thn (he pins s σ H _ I h) fun w s1 ⟨y, H1, I1, r1, q1⟩ => ?_
    refine thn (ho pins s1 σ H1 v y u w _ I1 r r1 q1) fun z s2 ⟨zv, H2, I2, r2, q2⟩ => ?_
    exact store_ok I2 hN hi hx r2 (fun s3 I3 => ⟨_, H2, I3, q2⟩) hf
  rcases l with ⟨hk, hm⟩ | ⟨hk, c, hc, hcell⟩
  · exact wpAny_loadName_local I.ok.kind hk hn hm go
  · rcases hk with hk | hk
    · exact wpAny_loadName_cell I.ok.kind hk hc hcell go
    · rcases hx with k | k
      · have : X.env.scope.names.lookup x = some .free := hk
        rw [k] at this; cases this
      · have : X.env.scope.names.lookup x = some .free := hk
        rw [k] at this; cases this
def tAugS (to ti te : TE) (tget : V → V → Hp → VK → Prop) (tip : TIp) (tset : TSet) : TS := fun D σ H => to σ H fun o H1 => ti σ H1 fun i H2 => tget o i H2 fun x H3 => te σ H3 fun y H4 => tip x y H4 fun z H5 => tset o i z H5 fun H6 => D.nx σ H6
def PGet (X : Cx) (t : V → V → Hp → VK → Prop) : Prop :=
  ∀ (pins : List (Addr × Obj)) (s : Shared) (σ : St) (H : Hp) (o i : V) (ov iv : Value) (Q : VK), Inv X pins σ H s → RelV o ov → RelV i iv → t o i H Q →
    wpAny (model X.prog X.w) X.A (getItem ov iv) (EP X pins σ Q) X.xe s
theorem ps_augS {o i e : Expr} {to ti te : TE} {tget : V → V → Hp → VK → Prop} {tip : TIp} {tset : TSet} {op : Operator} {tpos : Pos} (ho : PE X o to) (hi : PE X i ti) (hg : PGet X tget) (he : PE X e te) (hp : PIp X op tip) (hs : PSet X tset)
    (ha : ∀ ov iv new, augStore i ov iv new = (do holding [new, ov, iv] (setItem ov iv new); release [new, ov, iv] []; pure .next) := by intros; rfl) : PS X (.AugAssign (.Subscript o i tpos) op e pos) (tAugS to ti te tget tip tset) := by
  intro pins s σ H D I h
  refine wpAny_AugAssign_SubscriptAny (thn (ho pins s σ H _ I h) fun ov s1 ⟨x1, H1, I1, r1, q1⟩ => ?_) ha
  refine thn (hi pins s1 σ H1 _ I1 q1) fun iv s2 ⟨x2, H2, I2, r2, q2⟩ => ?_
  refine thn (hg pins s2 σ H2 x1 x2 ov iv _ I2 r1 r2 q2) fun old s3 ⟨x3, H3, I3, r3, q3⟩ => ?_
  refine thn (he pins s3 σ H3 _ I3 q3) fun v s4 ⟨x4, H4, I4, r4, q4⟩ => ?_
  refine thn (hp pins s4 σ H4 x3 x4 old v _ I4 r3 r4 q4) fun new s5 ⟨x5, H5, I5, r5, q5⟩ => ?_
  exact thn (hs pins s5 σ H5 x1 x2 x5 ov iv new _ I5 r1 r2 r5 q5) fun _ s6 ⟨H6, I6, q6⟩ => ⟨σ, H6, I6, q6⟩
def ipI (f : Int → Int → Int) : TIp := fun x y H Q => ∃ i j, x = .int i ∧ y = .int j ∧ Q (.int (f i j)) H
theorem ip_add : PIp X .Add (ipI fun i j => i + j) := by
  intro pins s σ H x y v u Q I r1 r2 h
  obtain ⟨i, j, e1, e2, q⟩ := h
  subst e1; subst e2
  obtain ⟨t, rfl⟩ := r1
  obtain ⟨t', rfl⟩ := r2
  exact iadd_int ⟨.int _, H, I.tok _, ⟨_, rfl⟩, q⟩
theorem ip_sub : PIp X .Sub (ipI fun i j => i - j) := by
  intro pins s σ H x y v u Q I r1 r2 h
  obtain ⟨i, j, e1, e2, q⟩ := h
  subst e1; subst e2
  obtain ⟨t, rfl⟩ := r1
  obtain ⟨t', rfl⟩ := r2
  exact isub_int ⟨.int _, H, I.tok _, ⟨_, rfl⟩, q⟩
end

section
variable {X : Cx} {pos : Pos}
def tWhile (c : TT) (tb : TS) : TS := fun D σ H => ∃ W : Nat → St → Hp → Prop, (∃ m, W m σ H) ∧ ∀ m σ H, W m σ H →
  c σ H fun b H1 => if b = true then ∃ N : St → Hp → Prop, (∀ σ' H', N σ' H' → ∃ m', m' < m ∧ W m' σ' H') ∧ tb { D with nx := N, ct := N, bk := D.nx } σ H1 else D.nx σ H1
theorem ps_while {c : Expr} {body : List Stmt} {tc : TT} {tb : TS} (hp : PassesOwn (model X.prog X.w) X.A X.env X.xe) (hc : PT X c tc) (hb : PSs X body tb) : PS X (.While c body [] pos) (tWhile tc tb) := by
  intro pins s σ H D I h
  obtain ⟨W, ⟨m0, w0⟩, turn⟩ := h
  refine wpAny_While (codeAny_whileLoop (fun n s' => ∃ σ' H', Inv X pins σ' H' s' ∧ W n σ' H') ?_ m0 ⟨σ, H, I, w0⟩)
  rintro n s1 ⟨σ1, H1, I1, w1⟩
  refine wpAny_passesOwn hp (thn (hc pins s1 σ1 H1 _ I1 (turn n σ1 H1 w1)) fun b s2 ⟨H2, I2, q2⟩ => ?_)
  cases b with
  | true =>
    obtain ⟨N, hN, q2⟩ := q2
    rw [if_pos rfl]
    refine wpAny_passesOwn hp (thn (hb pins s2 σ1 H2 _ I2 q2) fun f s3 q3 => ?_)
    cases f with
    | next =>
      obtain ⟨σ3, H3, I3, n3⟩ := q3
      obtain ⟨m', hm, w3⟩ := hN σ3 H3 n3
      exact ⟨m', hm, σ3, H3, I3, w3⟩
    | cont =>
      obtain ⟨σ3, H3, I3, n3⟩ := q3
      obtain ⟨m', hm, w3⟩ := hN σ3 H3 n3
      exact ⟨m', hm, σ3, H3, I3, w3⟩
    | brk => exact q3
    | ret v => exact q3
  | false =>
    rw [if_neg Bool.false_ne_true]
    exact wpAny_execs_nil ⟨σ1, H2, I2, q2⟩
end

structure It where
  go : Nat → Hp → Prop
  yld : Nat → Hp → V → Hp → Prop
  stop : Nat → Hp → Prop
def FpOk (X : Cx) (pins : List (Addr × Obj)) (H : Hp) (b : Addr) : Prop :=
  H b = none ∧ b ≠ X.env.locals ∧ b ∉ X.fs ∧ (b ∈ X.ex ∨ X.s₀.heap.objs.size ≤ b) ∧ (∀ x c, X.env.cells.lookup x = some c → c ≠ b) ∧ ∀ p ∈ X.pn ++ pins, p.1 ≠ b
theorem Inv.fpOk {X : Cx} {pins : List (Addr × Obj)} {σ : St} {H H' : Hp} {s : Shared} {b : Addr} (I : Inv X pins σ H s) (hb : s.heap.objs.size ≤ b) (hn : H' b = none) : FpOk X pins H' b := by
  refine ⟨hn, Nat.ne_of_gt (Nat.lt_of_lt_of_le I.lt hb), I.nofs hb, .inr (Nat.le_trans I.sz hb), fun x c e z => ?_, fun p hp z => ?_⟩
  · obtain ⟨v, q⟩ := I.cell x c e
    exact absurd (Nat.lt_of_lt_of_le q.lt (by rw [z]; exact hb)) (Nat.lt_irrefl _)
  · exact absurd (Nat.lt_of_lt_of_le (Heap.lt_size (I.pin p hp).1) (by rw [z]; exact hb)) (Nat.lt_irrefl _)
structure Turn (P : Program) (w : World) (K : PySem.W.Frag) (tg : Expr) (J : It) (fp : List Addr) (it : Addr) (tn : Nat → Heap → Prop) : Prop where
  mem : it ∈ fp
  obj : ∀ i h, tn i h → ∀ b ∈ fp, ∃ o, h.get? b = some o ∧ ∀ v, o.data ≠ .cell v
  keep : ∀ i h h', tn i h → (∀ b ∈ fp, ∀ o, h.get? b = some o → h'.get? b = some o) → tn i h'
  item : ∀ (X : Cx), X.prog = P → X.w = w → X.K = K → X.calm = true → ∀ (i : Nat) (pins : List (Addr × Obj)) (s : Shared) (σ : St) (H : Hp) (E : Value → Shared → Prop), Inv X pins σ H s → (∀ b ∈ fp, FpOk X pins H b) → tn i s.heap → J.go i H →
    wpAny (model P w) X.A (pyNext (.ref it)) (fun r s1 => ∃ u, r = some u ∧
      wpAny (model P w) X.A (letOwnedTupleGo tg (.ref it) u) (fun _ s2 => ∃ x H', Inv X pins σ H' s2 ∧ RelV x u ∧ J.yld i H x H' ∧ tn (i + 1) s2.heap ∧ ∀ b ∈ fp, H' b = none) E s1) E s
  done : ∀ (X : Cx), X.prog = P → X.w = w → X.K = K → X.calm = true → ∀ (i : Nat) (pins : List (Addr × Obj)) (s : Shared) (σ : St) (H : Hp) (E : Value → Shared → Prop), Inv X pins σ H s → (∀ b ∈ fp, FpOk X pins H b) → tn i s.heap → J.stop i H →
    wpAny (model P w) X.A (pyNext (.ref it)) (fun r s1 => r = none ∧ Inv X pins σ H s1) E s
  self : ∀ (A : Around) (i : Nat) (s : Shared) (Q : Value → Shared → Prop) (E : Value → Shared → Prop), tn i s.heap → Q (.ref it) s → wpAny (model P w) A (pyIter (.ref it)) Q E s
abbrev TI := St → Hp → (It → Hp → Prop) → Prop
def PIE (X : Cx) (pins : List (Addr × Obj)) (σ : St) (tg : Expr) (R : It → Hp → Prop) (itv : Value) (s2 : Shared) : Prop :=
  ∃ (it : Addr) (fp : List Addr) (tn : Nat → Heap → Prop) (J : It) (H' : Hp), itv = .ref it ∧ Inv X pins σ H' s2 ∧ Turn X.prog X.w X.K tg J fp it tn ∧ tn 0 s2.heap ∧ (∀ b ∈ fp, FpOk X pins H' b) ∧ R J H'
def PI (X : Cx) (tg iter : Expr) (wi : TI) : Prop :=
  ∀ (pins : List (Addr × Obj)) (s : Shared) (σ : St) (H : Hp) (R : It → Hp → Prop), Inv X pins σ H s → wi σ H R →
    wpAny (model X.prog X.w) X.A (eval iter X.env) (fun v s1 => wpAny (model X.prog X.w) X.A (pyIter v) (PIE X pins σ tg R) X.xe s1) X.xe s

theorem go_of {M : Model} {A : Around} {E : Value → Shared → Prop} {s : Shared} {tg : Expr} {it : Addr} {u : Value} {o : Obj} {n : String} {vs : Array Value} {Q : Unit → Shared → Prop} (ho : s.heap.get? it = some o) (hc : o.cls = .type n) (hd : o.data = .fields vs)
    (hn : ["enumerate", "zip", "dict_itemiterator", "dict_reverseitemiterator", "odict_iterator", "itertools.zip_longest", "itertools.pairwise"].contains n = false) (hQ : Q () s) : wpAny M A (letOwnedTupleGo tg (.ref it) u) Q E s := by
  unfold letOwnedTupleGo
  cases tg <;> first
    | exact wpAny_pure hQ
    | (cases u <;> first
        | exact wpAny_pure hQ
        | (refine wpAny_bind (wpAny_load ho ?_)
           rw [hc, hd]
           show wpAny M A (if (["enumerate", "zip", "dict_itemiterator", "dict_reverseitemiterator", "odict_iterator", "itertools.zip_longest", "itertools.pairwise"].contains n && vs[0]? == some (rawInt _)) = true then _ else _) Q E s
           rw [if_neg (by intro h; rw [hn, Bool.false_and] at h; cases h)]
           exact wpAny_pure hQ))

def Itl (K : PySem.W.Frag) (a : Addr) : It :=
  ⟨fun i H => ∃ xs x, SqL K H a xs ∧ xs[i]? = some x, fun i H x H' => H' = H ∧ ∀ xs, SqL K H a xs → xs[i]? = some x, fun i H => ∃ xs, SqL K H a xs ∧ xs.length ≤ i⟩
def Itt (K : PySem.W.Frag) (a : Addr) : It :=
  ⟨fun i H => ∃ xs x, SqT K H a xs ∧ xs[i]? = some x, fun i H x H' => H' = H ∧ ∀ xs, SqT K H a xs → xs[i]? = some x, fun i H => ∃ xs, SqT K H a xs ∧ xs.length ≤ i⟩
def Itr (lo : Int) (n : Nat) : It := ⟨fun i _ => i < n, fun i H x H' => H' = H ∧ x = .int (lo + i), fun i _ => n ≤ i⟩
theorem turn_list {P : Program} {w : World} {K : PySem.W.Frag} {tg : Expr} (a it : Addr) : Turn P w K tg (Itl K a) [it] it (fun i h => h.IsListIter it a i) where
  mem := by simp
  obj := fun i h st b hb => by
    have e : b = it := by simpa using hb
    subst e
    obtain ⟨o, e, c, d⟩ := st
    exact ⟨o, e, fun v z => by rw [d] at z; cases z⟩
  keep := fun i h h' st k => st.at fun o e => k it (by simp) o e
  item := by
    intro X hP hw hK hc i pins s σ H E I hf st hg
    subst hP hw hK
    obtain ⟨xs, x, hq, hx⟩ := hg
    obtain ⟨its, rv, p, hz⟩ := I.list hq
    obtain ⟨u, hu, ru⟩ := rv.get hx
    obtain ⟨f0, f1, f2, f3, f4, f5⟩ := hf it (by simp)
    refine wpAny_pyNext_list_item st p.isList (x := u) (by simpa using hu) fun h' st' sb => ?_
    have I1 : Inv X pins σ H { s with heap := h' } := I.turned (t' := s.toks) (fun b o hb e => (sb.2 b hb).trans e) f0 f1 f3 f4 f5
    obtain ⟨o, e, c, d⟩ := id st'
    exact ⟨u, rfl, go_of (s := { s with heap := h' }) e c d (by decide) ⟨x, H, I1, ru, ⟨rfl, fun ys hy => by rw [I.list_inj hy hq]; exact hx⟩, st', fun b hb => (hf b hb).1⟩⟩
  done := by
    intro X hP hw hK hc i pins s σ H E I hf st hg
    subst hP hw hK
    obtain ⟨xs, hq, hx⟩ := hg
    obtain ⟨its, rv, p, hz⟩ := I.list hq
    obtain ⟨f0, f1, f2, f3, f4, f5⟩ := hf it (by simp)
    have hl := rv.length
    exact wpAny_pyNext_list_end (I.ok.hd hc) st p.isList (by simp; omega) fun h' eb => ⟨rfl, I.turned (t' := s.toks) (fun b o hb e => eb b o hb e) f0 f1 f3 f4 f5⟩
  self := fun _ _ _ _ _ st h => wpAny_pyIter_listiter st h
theorem turn_tuple {P : Program} {w : World} {K : PySem.W.Frag} {tg : Expr} (a it : Addr) : Turn P w K tg (Itt K a) [it] it (fun i h => h.IsTupleIter it a i) where
  mem := by simp
  obj := fun i h st b hb => by
    have e : b = it := by simpa using hb
    subst e
    obtain ⟨o, e, c, d⟩ := st
    exact ⟨o, e, fun v z => by rw [d] at z; cases z⟩
  keep := fun i h h' st k => st.at fun o e => k it (by simp) o e
  item := by
    intro X hP hw hK hc i pins s σ H E I hf st hg
    subst hP hw hK
    obtain ⟨xs, x, hq, hx⟩ := hg
    obtain ⟨its, rv, p, hz⟩ := I.tuple hq
    obtain ⟨u, hu, ru⟩ := rv.get hx
    obtain ⟨f0, f1, f2, f3, f4, f5⟩ := hf it (by simp)
    refine wpAny_pyNext_tuple_item st (show s.heap.IsTuple a its.toArray from p) (x := u) (by simpa using hu) fun h' st' sb => ?_
    have I1 : Inv X pins σ H { s with heap := h' } := I.turned (t' := s.toks) (fun b o hb e => (sb.2 b hb).trans e) f0 f1 f3 f4 f5
    obtain ⟨o, e, c, d⟩ := id st'
    exact ⟨u, rfl, go_of (s := { s with heap := h' }) e c d (by decide) ⟨x, H, I1, ru, ⟨rfl, fun ys hy => by rw [I.tuple_inj hy hq]; exact hx⟩, st', fun b hb => (hf b hb).1⟩⟩
  done := by
    intro X hP hw hK hc i pins s σ H E I hf st hg
    subst hP hw hK
    obtain ⟨xs, hq, hx⟩ := hg
    obtain ⟨its, rv, p, hz⟩ := I.tuple hq
    obtain ⟨f0, f1, f2, f3, f4, f5⟩ := hf it (by simp)
    have hl := rv.length
    exact wpAny_pyNext_tuple_end (I.ok.hd hc) st (show s.heap.IsTuple a its.toArray from p) (by simp; omega) fun h' eb => ⟨rfl, I.turned (t' := s.toks) (fun b o hb e => eb b o hb e) f0 f1 f3 f4 f5⟩
  self := fun _ _ _ _ _ st h => wpAny_pyIter_tupleiter st h
theorem turn_range {P : Program} {w : World} {K : PySem.W.Frag} {tg : Expr} (it : Addr) (lo : Int) (n : Nat) : Turn P w K tg (Itr lo n) [it] it (fun i h => IsRangeIter h it (lo + (i : Nat) * 1) ((n : Int) - (i : Nat)) 1) where
  mem := by simp
  obj := fun i h st b hb => by
    have e : b = it := by simpa using hb
    subst e
    exact ⟨_, st, fun v z => by
      have z' : Data.fields _ = Data.cell v := z
      cases z'⟩
  keep := fun i h h' st k => k it (by simp) _ st
  item := by
    intro X hP hw hK hc i pins s σ H E I hf st hg
    subst hP hw hK
    obtain ⟨f0, f1, f2, f3, f4, f5⟩ := hf it (by simp)
    have W := Walks.range (prog := X.prog) (w := X.w) (I.ok.hd hc) it lo 1 n
    refine W.item i s _ _ hg st fun v h' tk hv st' kk => ?_
    obtain ⟨t, rfl⟩ := hv
    have I1 : Inv X pins σ H { s with heap := h', toks := tk } := I.turned (fun b o hb e => kk b o (by simpa using hb) e) f0 f1 f3 f4 f5
    refine ⟨_, rfl, go_of (s := { s with heap := h', toks := tk }) (n := "range_iterator") st' rfl rfl (by decide) ⟨.int (lo + i), H, I1, ⟨t, ?_⟩, ⟨rfl, rfl⟩, st', fun b hb => (hf b hb).1⟩⟩
    rw [Int.mul_one]
  done := by
    intro X hP hw hK hc i pins s σ H E I hf st hg
    subst hP hw hK
    obtain ⟨f0, f1, f2, f3, f4, f5⟩ := hf it (by simp)
    exact wpAny_pyNext_range_end (I.ok.hd hc) st (by have : n ≤ i := hg; omega) fun h' eb => ⟨rfl, I.turned (t' := s.toks) (fun b o hb e => eb b o hb e) f0 f1 f3 f4 f5⟩
  self := fun _ _ _ _ _ st h => wpAny_pyIter_rangeiter st h
end L2

namespace L2
open PySem PySem.Spec PyProof.Rows
section
variable {X : Cx} {tg : Expr}
def iList (K : PySem.W.Frag) (tl : TE) : TI := fun σ H R => tl σ H fun x H1 => ∃ a, x = .ref a ∧ (∃ xs, SqL K H1 a xs) ∧ R (Itl K a) H1
def iTup (K : PySem.W.Frag) (tl : TE) : TI := fun σ H R => tl σ H fun x H1 => ∃ a, x = .ref a ∧ (∃ xs, SqT K H1 a xs) ∧ R (Itt K a) H1
theorem pi_list {l : Expr} {tl : TE} (hl : PE X l tl) : PI X tg l (iList X.K tl) := by
  intro pins s σ H R I h
  refine thn (hl pins s σ H _ I h) fun v s1 ⟨x, H1, I1, r1, q1⟩ => ?_
  obtain ⟨a, e, ⟨xs, hq⟩, q⟩ := q1
  subst e
  cases r1
  obtain ⟨its, rv, p, hz⟩ := I1.list hq
  refine wpAny_pyIter_list p.isList ?_
  refine ⟨s1.heap.objs.size, [s1.heap.objs.size], _, _, H1, rfl, I1.kept (t' := s1.toks) fun b o e => Heap.get?_push_of_some _ e, turn_list a _, ⟨_, Heap.get?_push_size _ rfl, rfl, rfl⟩, fun b hb => ?_, q⟩
  have e : b = s1.heap.objs.size := by simpa using hb
  subst e
  exact I1.fpOk (Nat.le_refl _) (I1.hok.fresh (Nat.le_refl _))
theorem pi_tup {l : Expr} {tl : TE} (hl : PE X l tl) : PI X tg l (iTup X.K tl) := by
  intro pins s σ H R I h
  refine thn (hl pins s σ H _ I h) fun v s1 ⟨x, H1, I1, r1, q1⟩ => ?_
  obtain ⟨a, e, ⟨xs, hq⟩, q⟩ := q1
  subst e
  cases r1
  obtain ⟨its, rv, p, hz⟩ := I1.tuple hq
  refine wpAny_pyIter_tuple (show s1.heap.IsTuple a its.toArray from p) ?_
  refine ⟨s1.heap.objs.size, [s1.heap.objs.size], _, _, H1, rfl, I1.kept (t' := s1.toks) fun b o e => Heap.get?_push_of_some _ e, turn_tuple a _, ⟨_, Heap.get?_push_size _ rfl, rfl, rfl⟩, fun b hb => ?_, q⟩
  have e : b = s1.heap.objs.size := by simpa using hb
  subst e
  exact I1.fpOk (Nat.le_refl _) (I1.hok.fresh (Nat.le_refl _))
theorem range_it {pins : List (Addr × Obj)} {σ : St} {H : Hp} {s : Shared} {R : It → Hp → Prop} {E : Value → Shared → Prop} {lo hi : Int} {t u v : Tok} {tk : Nat} (I : Inv X pins σ H s) (h1 : -(2 ^ 62) ≤ lo) (h2 : lo < 2 ^ 62) (h3 : -(2 ^ 62) ≤ hi) (h4 : hi < 2 ^ 62)
    (q : R (Itr lo (hi - lo).toNat) H) : wpAny (model X.prog X.w) X.A (pyIter (.ref s.heap.objs.size)) (PIE X pins σ tg R) E { s with heap := s.heap.push { cls := .type "range", data := .fields #[.int lo t, .int hi u, .int 1 v] }, toks := tk } := by
  refine wpAny_pyIter_range (IsRange.new ..) (small_one h1 h2 h3 h4) ?_
  have I1 : Inv X pins σ H { s with heap := s.heap.push { cls := .type "range", data := .fields #[.int lo t, .int hi u, .int 1 v] }, toks := tk } := I.kept fun b o e => Heap.get?_push_of_some _ e
  refine ⟨(s.heap.push { cls := .type "range", data := .fields #[.int lo t, .int hi u, .int 1 v] }).objs.size, [(s.heap.push { cls := .type "range", data := .fields #[.int lo t, .int hi u, .int 1 v] }).objs.size], _, _, H, rfl,
    I1.kept (t' := tk) fun b o e => Heap.get?_push_of_some _ e, turn_range _ lo (hi - lo).toNat, ?_, fun b hb => ?_, q⟩
  · have e1 : lo + ((0 : Nat) : Int) * 1 = lo := by simp
    have e2 : (((hi - lo).toNat : Nat) : Int) - ((0 : Nat) : Int) = Builtin.Range.rangeSize lo hi 1 := by rw [rangeSize_one]; split <;> omega
    show IsRangeIter _ _ (lo + ((0 : Nat) : Int) * 1) ((((hi - lo).toNat : Nat) : Int) - ((0 : Nat) : Int)) 1
    rw [e1, e2]
    exact Heap.get?_push_size _ rfl
  · have e : b = (s.heap.push { cls := .type "range", data := .fields #[.int lo t, .int hi u, .int 1 v] }).objs.size := by simpa using hb
    subst e
    exact I1.fpOk (Nat.le_refl _) (I1.hok.fresh (Nat.le_refl _))
def iRng1 (ta : TA) : TI := fun σ H R => ta σ H fun vs H1 => ∃ j : Int, vs = [.int j] ∧ -(2 ^ 62) ≤ j ∧ j < 2 ^ 62 ∧ R (Itr 0 j.toNat) H1
theorem pi_range1 {a : Expr} {ta : TA} {p pos : Pos} (hg : Gl X "range") (hm : X.mg "range" = none) (ha : PA X [a] ta) (hs : starEach [a] X.env = [(false, eval a X.env)] := by rfl) : PI X tg (.Call (.Name "range" p) [a] [] pos) (iRng1 ta) := by
  intro pins s σ H R I h
  refine Call_ (ld_blt I hg hm boot_range (PyProof.Rows.callWith_type1 (thn (ha pos pins s σ H _ I h) fun us s1 ⟨vs, H1, I1, r1, q1⟩ => ?_) hs rfl))
  obtain ⟨j, e, q1, q2, q⟩ := q1
  subst e
  cases r1 with
  | cons r rr =>
    cases rr
    obtain ⟨t, rfl⟩ := r
    exact call_range_1 (range_it I1 (by omega) (by omega) q1 q2 (by simpa using q))
def tFor (wi : TI) (g : TG) (tb : TS) : TS := fun D σ H => wi σ H fun J H1 => ∃ W : Nat → Nat → St → Hp → Prop, (∃ m, W 0 m σ H1) ∧ ∀ i m σ H, W i m σ H →
  (J.stop i H ∧ D.nx σ H) ∨ (J.go i H ∧ ∃ N : St → Hp → Prop, (∀ σ' H', N σ' H' → ∃ m', m' < m ∧ W (i + 1) m' σ' H') ∧ ∀ x H', J.yld i H x H' → g x σ H' fun σ2 H2 => tb { D with nx := N, ct := N, bk := D.nx } σ2 H2)
def pinsAt (fp : List Addr) (h : Heap) : List (Addr × Obj) := fp.filterMap fun b => (h.get? b).map fun o => (b, o)
theorem mem_pinsAt {fp : List Addr} {h : Heap} {b : Addr} {o : Obj} (hb : b ∈ fp) (e : h.get? b = some o) : (b, o) ∈ pinsAt fp h := List.mem_filterMap.mpr ⟨b, hb, by rw [e]; rfl⟩
theorem of_pinsAt {fp : List Addr} {h : Heap} {p : Addr × Obj} (hp : p ∈ pinsAt fp h) : p.1 ∈ fp ∧ h.get? p.1 = some p.2 := by
  obtain ⟨b, hb, e⟩ := List.mem_filterMap.mp hp
  cases q : h.get? b with
  | none => rw [q] at e; cases e
  | some o =>
    rw [q] at e
    have e' : (b, o) = p := Option.some.inj e
    subst e'
    exact ⟨hb, q⟩
theorem Inv.pinned {pins : List (Addr × Obj)} {σ : St} {H : Hp} {s : Shared} {fp : List Addr} (I : Inv X pins σ H s) (hf : ∀ b ∈ fp, FpOk X pins H b) (ho : ∀ b ∈ fp, ∃ o, s.heap.get? b = some o ∧ ∀ v, o.data ≠ .cell v) : Inv X (pins ++ pinsAt fp s.heap) σ H s :=
  I.pins_of fun p hp => (List.mem_append.mp hp).elim (fun z => I.pin p (List.mem_append_right _ z)) fun z => by
    obtain ⟨hb, e⟩ := of_pinsAt z
    obtain ⟨f0, f1, f2, _⟩ := hf p.1 hb
    obtain ⟨o, e', d⟩ := ho p.1 hb
    rw [e] at e'; cases e'
    exact ⟨e, f0, f1, f2, d⟩
theorem Inv.unpinned {pins pl : List (Addr × Obj)} {σ : St} {H : Hp} {s : Shared} (I : Inv X (pins ++ pl) σ H s) : Inv X pins σ H s := I.pins_of fun p hp => I.pin p (List.mem_append_right _ (List.mem_append_left _ hp))
theorem ps_for {iter : Expr} {body : List Stmt} {wi : TI} {g : TG} {tb : TS} {pos : Pos} (hp : PassesOwn (model X.prog X.w) X.A X.env X.xe) (hc : X.calm = true) (hi : PI X tg iter wi) (hg : PG X tg g) (hb : PSs X body tb)
    (hs : ∀ x, foldedSetIterable iter X.env x = pure x := by intro _; rfl) : PS X (.For tg iter body [] pos) (tFor wi g tb) := by
  intro pins s σ H D I h
  refine wpAny_For (thn (hi pins s σ H _ I h) fun v s1 h1 => thn h1 fun itv s2 h2 => ?_) hs
  obtain ⟨it, fp, tn, J, H2, e, I2, T, st2, f2, W, ⟨m0, w0⟩, turn⟩ := h2
  subst e
  -- what stays true of the iterator's objects through the loop
  have stat : ∀ {H' : Hp}, (∀ b ∈ fp, H' b = none) → ∀ b ∈ fp, FpOk X pins H' b := fun hn b hb => ⟨hn b hb, (f2 b hb).2⟩
  refine codeAny_forLoop_any (fun n s' => ∃ i σ' H', Inv X pins σ' H' s' ∧ tn i s'.heap ∧ (∀ b ∈ fp, H' b = none) ∧ W i n σ' H') ?_ m0 ⟨0, σ, H2, I2, st2, fun b hb => (f2 b hb).1, w0⟩
  rintro n s3 ⟨i, σ3, H3, I3, st3, fr3, w3⟩
  rcases turn i n σ3 H3 w3 with ⟨stop, qn⟩ | ⟨go, N, hN, step⟩
  · refine wpAny_passesOwn hp (thn (T.done X rfl rfl rfl hc i pins s3 σ3 H3 X.xe I3 (stat fr3) st3 stop) fun r s4 ⟨hr, I4⟩ => ?_)
    subst hr
    exact wpAny_execs_nil ⟨σ3, H3, I4, qn⟩
  · refine wpAny_passesOwn hp (thn (T.item X rfl rfl rfl hc i pins s3 σ3 H3 X.xe I3 (stat fr3) st3 go) fun r s4 ⟨u, hr, h4⟩ => ?_)
    subst hr
    refine wpAny_passesOwn hp (thn h4 fun _ s5 ⟨x, H5, I5, r5, y5, st5, fr5⟩ => ?_)
    have I5' := I5.pinned (stat fr5) (T.obj _ _ st5)
    refine wpAny_passesOwn hp (thn (hg _ s5 σ3 H5 x u _ I5' r5 (step x H5 y5)) fun _ s6 ⟨σ6, H6, I6, q6⟩ => ?_)
    refine wpAny_passesOwn hp (thn (hb _ s6 σ6 H6 _ I6 q6) fun f s7 q7 => ?_)
    have again : ∀ {σ7 : St} {H7 : Hp}, Inv X (pins ++ pinsAt fp s5.heap) σ7 H7 s7 → N σ7 H7 → ∃ m, m < n ∧ ∃ i σ' H', Inv X pins σ' H' s7 ∧ tn i s7.heap ∧ (∀ b ∈ fp, H' b = none) ∧ W i m σ' H' := fun {σ7 H7} I7 n7 => by
      obtain ⟨m', hm, w7⟩ := hN σ7 H7 n7
      refine ⟨m', hm, i + 1, σ7, H7, I7.unpinned, T.keep _ _ _ st5 fun b hb o e => (I7.pin (b, o) (List.mem_append_right _ (List.mem_append_right _ (mem_pinsAt hb e)))).1, fun b hb => ?_, w7⟩
      obtain ⟨o, e, d⟩ := T.obj _ _ st5 b hb
      exact (I7.pin (b, o) (List.mem_append_right _ (List.mem_append_right _ (mem_pinsAt hb e)))).2.1
    cases f with
    | next => obtain ⟨σ7, H7, I7, n7⟩ := q7; exact again I7 n7
    | cont => obtain ⟨σ7, H7, I7, n7⟩ := q7; exact again I7 n7
    | brk => obtain ⟨σ7, H7, I7, q7⟩ := q7; exact ⟨σ7, H7, I7.unpinned, q7⟩
    | ret v => obtain ⟨x7, σ7, H7, I7, r7, q7⟩ := q7; exact ⟨x7, σ7, H7, I7.unpinned, r7, q7⟩
end

theorem for_list {K : PySem.W.Frag} {a : Addr} {xs : List V} {g : TG} {tb : TS} {D : Ends} {σ : St} {H : Hp} (Pv : Nat → St → Hp → Prop) (h0 : Pv 0 σ H) (hl : ∀ i σ H, i ≤ xs.length → Pv i σ H → SqL K H a xs)
    (hs : ∀ i x σ H, xs[i]? = some x → Pv i σ H → g x σ H fun σ2 H2 => tb { D with nx := Pv (i + 1), ct := Pv (i + 1), bk := D.nx } σ2 H2) (hd : ∀ σ H, Pv xs.length σ H → D.nx σ H) :
    ∃ W : Nat → Nat → St → Hp → Prop, (∃ m, W 0 m σ H) ∧ ∀ i m σ H, W i m σ H →
      ((Itl K a).stop i H ∧ D.nx σ H) ∨ ((Itl K a).go i H ∧ ∃ N : St → Hp → Prop, (∀ σ' H', N σ' H' → ∃ m', m' < m ∧ W (i + 1) m' σ' H') ∧ ∀ x H', (Itl K a).yld i H x H' → g x σ H' fun σ2 H2 => tb { D with nx := N, ct := N, bk := D.nx } σ2 H2) := by
  refine ⟨fun i m σ H => m = xs.length - i ∧ i ≤ xs.length ∧ Pv i σ H, ⟨xs.length, by simp, Nat.zero_le _, h0⟩, ?_⟩
  rintro i m σ H ⟨rfl, hi, p⟩
  have q := hl i σ H hi p
  by_cases hlt : i < xs.length
  · refine .inr ⟨⟨xs, xs[i], q, by simp [hlt]⟩, Pv (i + 1), fun σ' H' p' => ⟨xs.length - (i + 1), by omega, rfl, hlt, p'⟩, fun x H' y => ?_⟩
    obtain ⟨e, y⟩ := y
    subst e
    exact hs i x σ _ (y xs q) p
  · have e : i = xs.length := by omega
    subst e
    exact .inl ⟨⟨xs, q, Nat.le_refl _⟩, hd σ H p⟩
theorem for_tup {K : PySem.W.Frag} {a : Addr} {xs : List V} {g : TG} {tb : TS} {D : Ends} {σ : St} {H : Hp} (Pv : Nat → St → Hp → Prop) (h0 : Pv 0 σ H) (hl : ∀ i σ H, i ≤ xs.length → Pv i σ H → SqT K H a xs)
    (hs : ∀ i x σ H, xs[i]? = some x → Pv i σ H → g x σ H fun σ2 H2 => tb { D with nx := Pv (i + 1), ct := Pv (i + 1), bk := D.nx } σ2 H2) (hd : ∀ σ H, Pv xs.length σ H → D.nx σ H) :
    ∃ W : Nat → Nat → St → Hp → Prop, (∃ m, W 0 m σ H) ∧ ∀ i m σ H, W i m σ H →
      ((Itt K a).stop i H ∧ D.nx σ H) ∨ ((Itt K a).go i H ∧ ∃ N : St → Hp → Prop, (∀ σ' H', N σ' H' → ∃ m', m' < m ∧ W (i + 1) m' σ' H') ∧ ∀ x H', (Itt K a).yld i H x H' → g x σ H' fun σ2 H2 => tb { D with nx := N, ct := N, bk := D.nx } σ2 H2) := by
  refine ⟨fun i m σ H => m = xs.length - i ∧ i ≤ xs.length ∧ Pv i σ H, ⟨xs.length, by simp, Nat.zero_le _, h0⟩, ?_⟩
  rintro i m σ H ⟨rfl, hi, p⟩
  have q := hl i σ H hi p
  by_cases hlt : i < xs.length
  · refine .inr ⟨⟨xs, xs[i], q, by simp [hlt]⟩, Pv (i + 1), fun σ' H' p' => ⟨xs.length - (i + 1), by omega, rfl, hlt, p'⟩, fun x H' y => ?_⟩
    obtain ⟨e, y⟩ := y
    subst e
    exact hs i x σ _ (y xs q) p
  · have e : i = xs.length := by omega
    subst e
    exact .inl ⟨⟨xs, q, Nat.le_refl _⟩, hd σ H p⟩
theorem for_range {lo : Int} {n : Nat} {g : TG} {tb : TS} {D : Ends} {σ : St} {H : Hp} (Pv : Nat → St → Hp → Prop) (h0 : Pv 0 σ H)
    (hs : ∀ i σ H, i < n → Pv i σ H → g (.int (lo + i)) σ H fun σ2 H2 => tb { D with nx := Pv (i + 1), ct := Pv (i + 1), bk := D.nx } σ2 H2) (hd : ∀ σ H, Pv n σ H → D.nx σ H) :
    ∃ W : Nat → Nat → St → Hp → Prop, (∃ m, W 0 m σ H) ∧ ∀ i m σ H, W i m σ H →
      ((Itr lo n).stop i H ∧ D.nx σ H) ∨ ((Itr lo n).go i H ∧ ∃ N : St → Hp → Prop, (∀ σ' H', N σ' H' → ∃ m', m' < m ∧ W (i + 1) m' σ' H') ∧ ∀ x H', (Itr lo n).yld i H x H' → g x σ H' fun σ2 H2 => tb { D with nx := N, ct := N, bk := D.nx } σ2 H2) := by
  refine ⟨fun i m σ H => m = n - i ∧ i ≤ n ∧ Pv i σ H, ⟨n, by simp, Nat.zero_le _, h0⟩, ?_⟩
  rintro i m σ H ⟨rfl, hi, p⟩
  by_cases hlt : i < n
  · refine .inr ⟨hlt, Pv (i + 1), fun σ' H' p' => ⟨n - (i + 1), by omega, rfl, hlt, p'⟩, fun x H' y => ?_⟩
    obtain ⟨e, y⟩ := y
    subst e y
    exact hs i σ _ hlt p
  · have e : i = n := by omega
    subst e
    exact .inl ⟨Nat.le_refl _, hd σ H p⟩
end L2

namespace L2
open PySem PySem.Spec PyProof.Rows

abbrev R2 := V → V → Hp → VK → Prop
def OpR (X : Cx) (f : Value → Value → Sem Value) (r : R2) : Prop :=
  ∀ (pins : List (Addr × Obj)) (s : Shared) (σ : St) (H : Hp) (x y : V) (v u : Value) (Q : VK), Inv X pins σ H s → RelV x v → RelV y u → r x y H Q →
    wpAny (model X.prog X.w) X.A (f v u) (EP X pins σ Q) X.xe s
def UnR (X : Cx) (f : Value → Sem Value) (r : V → Hp → VK → Prop) : Prop :=
  ∀ (pins : List (Addr × Obj)) (s : Shared) (σ : St) (H : Hp) (x : V) (v : Value) (Q : VK), Inv X pins σ H s → RelV x v → r x H Q →
    wpAny (model X.prog X.w) X.A (f v) (EP X pins σ Q) X.xe s
def CallR (X : Cx) (f : Value) (r : List V → Hp → VK → Prop) : Prop :=
  ∀ (pins : List (Addr × Obj)) (s : Shared) (σ : St) (H : Hp) (xs : List V) (us : List Value) (Q : VK), Inv X pins σ H s → Vals xs us → r xs H Q →
    wpAny (model X.prog X.w) X.A (call f us) (EP X pins σ Q) X.xe s
def tOp (r : R2) (ta tb : TE) : TE := fun σ H Q => ta σ H fun x H1 => tb σ H1 fun y H2 => r x y H2 Q
def tUn (r : V → Hp → VK → Prop) (ta : TE) : TE := fun σ H Q => ta σ H fun x H1 => r x H1 Q
def rI (C : Int → Int → Prop) (g : Int → Int → V) : R2 := fun x y H Q => ∃ i j, x = .int i ∧ y = .int j ∧ C i j ∧ Q (g i j) H
def rI0 (g : Int → Int → V) : R2 := fun x y H Q => ∃ i j, x = .int i ∧ y = .int j ∧ Q (g i j) H
def rU (g : Int → V) : V → Hp → VK → Prop := fun x H Q => ∃ i, x = .int i ∧ Q (g i) H

section
variable {X : Cx} {a b c : Expr} {ta tb tc : TE} {pos : Pos}

theorem binT (ha : PE X a ta) (hb : PE X b tb) {pins : List (Addr × Obj)} {s : Shared} {σ : St} {H : Hp} {R : V → V → Hp → Prop} (I : Inv X pins σ H s)
    (h : ta σ H fun x H1 => tb σ H1 fun y H2 => R x y H2) {Q : Value → Shared → Prop} {f : Value → Value → Sem Value}
    (hf : ∀ v u s2 x y H2, Inv X pins σ H2 s2 → RelV x v → RelV y u → R x y H2 → wpAny (model X.prog X.w) X.A (f v u) Q X.xe s2) :
    wpAny (model X.prog X.w) X.A (eval a X.env) (fun v s₁ => wpAny (model X.prog X.w) X.A (eval b X.env) (fun u s₂ => wpAny (model X.prog X.w) X.A (f v u) Q X.xe s₂) X.xe s₁) X.xe s := by
  refine thn (ha pins s σ H _ I h) fun v s1 ⟨x, H1, I1, r1, q1⟩ => ?_
  refine thn (hb pins s1 σ H1 _ I1 q1) fun u s2 ⟨y, H2, I2, r2, q2⟩ => ?_
  exact hf v u s2 x y H2 I2 r1 r2 q2

theorem pe_op {op : Operator} {r : R2} (ho : OpR X (binaryOp op) r) (ha : PE X a ta) (hb : PE X b tb) : PE X (.BinOp a op b pos) (tOp r ta tb) := by
  intro pins s σ H Q I h
  exact wpAny_BinOp (binT ha hb I h fun v u s2 x y H2 I2 rx ry q => ho pins s2 σ H2 x y v u Q I2 rx ry q)
theorem pe_un {op : UnaryOp} {r : V → Hp → VK → Prop} (ho : UnR X (unaryOp op) r) (ha : PE X a ta) : PE X (.UnaryOp op a pos) (tUn r ta) := by
  intro pins s σ H Q I h
  exact UnaryOp_ (thn (ha pins s σ H _ I h) fun v s1 ⟨x, H1, I1, r1, q1⟩ => ho pins s1 σ H1 x v Q I1 r1 q1)
theorem opI {f : Value → Value → Sem Value} {C : Int → Int → Prop} {g : Int → Int → Int}
    (rule : ∀ (i j : Int) (t u : Tok) (s : Shared) (Q : Value → Shared → Prop) (E : Value → Shared → Prop), C i j → Q (.int (g i j) s.toks) { s with toks := s.toks + 1 } → wpAny (model X.prog X.w) X.A (f (.int i t) (.int j u)) Q E s) :
    OpR X f (rI C fun i j => .int (g i j)) := by
  intro pins s σ H x y v u Q I rx ry h
  obtain ⟨i, j, rfl, rfl, hc, q⟩ := h
  obtain ⟨t, rfl⟩ := rx
  obtain ⟨t', rfl⟩ := ry
  exact rule i j t t' s _ _ hc ⟨.int (g i j), H, I.tok _, ⟨_, rfl⟩, q⟩
theorem opI0 {f : Value → Value → Sem Value} {g : Int → Int → Int}
    (rule : ∀ (i j : Int) (t u : Tok) (s : Shared) (Q : Value → Shared → Prop) (E : Value → Shared → Prop), Q (.int (g i j) s.toks) { s with toks := s.toks + 1 } → wpAny (model X.prog X.w) X.A (f (.int i t) (.int j u)) Q E s) :
    OpR X f (rI0 fun i j => .int (g i j)) := by
  intro pins s σ H x y v u Q I rx ry h
  obtain ⟨i, j, rfl, rfl, q⟩ := h
  obtain ⟨t, rfl⟩ := rx
  obtain ⟨t', rfl⟩ := ry
  exact rule i j t t' s _ _ ⟨.int (g i j), H, I.tok _, ⟨_, rfl⟩, q⟩
theorem opB0 {f : Value → Value → Sem Value} {g : Int → Int → Bool}
    (rule : ∀ (i j : Int) (t u : Tok) (s : Shared) (Q : Value → Shared → Prop) (E : Value → Shared → Prop), Q (.bool (g i j)) s → wpAny (model X.prog X.w) X.A (f (.int i t) (.int j u)) Q E s) :
    OpR X f (rI0 fun i j => .bl (g i j)) := by
  intro pins s σ H x y v u Q I rx ry h
  obtain ⟨i, j, rfl, rfl, q⟩ := h
  obtain ⟨t, rfl⟩ := rx
  obtain ⟨t', rfl⟩ := ry
  exact rule i j t t' s _ _ ⟨.bl (g i j), H, I, rfl, q⟩

def CDiv (i j : Int) : Prop := 0 < j ∧ j < 1073741824
def CPow (i j : Int) : Prop := 0 ≤ j ∧ j ≤ 1000000 ∧ i.natAbs < 2 ^ 64
def CMul (i j : Int) : Prop := (-(2 ^ 64) < i ∧ i < 2 ^ 64) ∨ (-(2 ^ 64) < j ∧ j < 2 ^ 64)
theorem CMul.ok {i j : Int} (h : CMul i j) : IntMulOk i j := by
  rcases h with ⟨h1, h2⟩ | ⟨h1, h2⟩
  · exact .of_left (intBits_le_64 h1 h2)
  · exact .of_right (intBits_le_64 h1 h2)
theorem op_add : OpR X (binaryOp .Add) (rI0 fun i j => .int (i + j)) := opI0 fun _ _ _ _ _ _ _ q => add_int q
theorem op_sub : OpR X (binaryOp .Sub) (rI0 fun i j => .int (i - j)) := opI0 fun _ _ _ _ _ _ _ q => sub_int q
theorem op_mul : OpR X (binaryOp .Mult) (rI CMul fun i j => .int (i * j)) := opI fun _ _ _ _ _ _ _ hc q => mul_int q hc.ok
theorem op_fdiv : OpR X (binaryOp .FloorDiv) (rI CDiv fun i j => .int (i / j)) := opI fun i j _ _ _ _ _ hc q => by
  have h1 : (0 : Int) < j := hc.1
  have h2 : j < 1073741824 := hc.2
  exact floordiv_int (by omega) (by rw [Int.fdiv_eq_ediv_of_nonneg i (by omega)]; exact q) (.inl (PyProof.noPylong_small (by omega)))
theorem op_mod : OpR X (binaryOp .Mod) (rI (fun _ j => 0 < j) fun i j => .int (i % j)) := opI fun i j _ _ _ _ _ hc q => by
  have h1 : (0 : Int) < j := hc
  exact mod_int' (by omega) (by rw [Int.fmod_eq_emod_of_nonneg i (by omega)]; exact q)
theorem op_pow : OpR X (binaryOp .Pow) (rI CPow fun i j => .int (i ^ j.toNat)) := opI fun _ _ _ _ _ _ _ hc q => pow_int_small hc.1 hc.2.1 hc.2.2 q
theorem unI {f : Value → Sem Value} {g : Int → Int}
    (rule : ∀ (i : Int) (t : Tok) (s : Shared) (Q : Value → Shared → Prop) (E : Value → Shared → Prop), Q (.int (g i) s.toks) { s with toks := s.toks + 1 } → wpAny (model X.prog X.w) X.A (f (.int i t)) Q E s) :
    UnR X f (rU fun i => .int (g i)) := by
  intro pins s σ H x v Q I rx h
  obtain ⟨i, rfl, q⟩ := h
  obtain ⟨t, rfl⟩ := rx
  exact rule i t s _ _ ⟨.int (g i), H, I.tok _, ⟨_, rfl⟩, q⟩
theorem un_neg : UnR X (unaryOp .USub) (rU fun i => .int (-i)) := unI fun _ _ _ _ _ q => neg_int q
end

def scal : V → V → Bool
  | .non, .non => true | .non, .int _ => true | .int _, .non => true | .non, .bl _ => true | .bl _, .non => true | .non, .str _ => true | .str _, .non => true
  | .int _, .int _ => true | .bl _, .bl _ => true | .str _, .str _ => true | .byt _, .byt _ => true
  | .int _, .str _ => true | .str _, .int _ => true | .bl _, .str _ => true | .str _, .bl _ => true
  | _, _ => false
def rEq : R2 := fun x y H Q => scal x y = true ∧ Q (.bl (decide (x = y))) H
def rNe : R2 := fun x y H Q => scal x y = true ∧ Q (.bl (!decide (x = y))) H

theorem dec_int {i j : Int} : decide (V.int i = V.int j) = (i == j) := by
  rw [Bool.eq_iff_iff]
  simp
theorem dec_bl {i j : Bool} : decide (V.bl i = V.bl j) = (i == j) := by
  rw [Bool.eq_iff_iff]
  simp
theorem dec_str {i j : Str} : decide (V.str i = V.str j) = (i == j) := by
  rw [Bool.eq_iff_iff]
  simp
theorem dec_byt {i j : Array UInt8} : decide (V.byt i = V.byt j) = (i.toList == j.toList) := by
  rw [Bool.eq_iff_iff]
  cases i
  cases j
  simp

section
variable {X : Cx} {a b c : Expr} {ta tb tc : TE} {pos : Pos}
theorem fin_bl {pins : List (Addr × Obj)} {σ : St} {H : Hp} {s : Shared} {Q : VK} {k k' : Bool} (I : Inv X pins σ H s) (q : Q (.bl k) H) (e : k = k') : EP X pins σ Q (.bool k') s := by
  subst e
  exact ⟨.bl k, H, I, rfl, q⟩
theorem op_eq : OpR X (compareOp .Eq) rEq := by
  intro pins s σ H x y v u Q I rx ry h
  obtain ⟨hs, q⟩ := h
  cases x with
  | non =>
    cases rx
    cases y with
    | non => cases ry; exact PySem.EqNone.eq_none_none (fin_bl I q (by simp))
    | bl j => cases ry; exact PySem.EqNone.eq_none_bool (fin_bl I q (by simp))
    | int j => obtain ⟨t', rfl⟩ := ry; exact PySem.EqNone.eq_none_int (fin_bl I q (by simp))
    | str j => obtain ⟨t', rfl⟩ := ry; exact PySem.EqNone.eq_none_str (fin_bl I q (by simp))
    | _ => exact absurd (show false = true from hs) Bool.false_ne_true
  | bl i =>
    cases rx
    cases y with
    | non => cases ry; exact PySem.EqNone.eq_bool_none (fin_bl I q (by simp))
    | bl j => cases ry; exact eq_bool (fin_bl I q dec_bl)
    | str j => obtain ⟨t', rfl⟩ := ry; exact PySem.EqMixed.eq_bool_str (fin_bl I q (by simp))
    | _ => exact absurd (show false = true from hs) Bool.false_ne_true
  | int i =>
    obtain ⟨t, rfl⟩ := rx
    cases y with
    | non => cases ry; exact PySem.EqNone.eq_int_none (fin_bl I q (by simp))
    | int j => obtain ⟨t', rfl⟩ := ry; exact eq_int (fin_bl I q dec_int)
    | str j => obtain ⟨t', rfl⟩ := ry; exact PySem.EqMixed.eq_int_str (fin_bl I q (by simp))
    | _ => exact absurd (show false = true from hs) Bool.false_ne_true
  | str i =>
    obtain ⟨t, rfl⟩ := rx
    cases y with
    | non => cases ry; exact PySem.EqNone.eq_str_none (fin_bl I q (by simp))
    | bl j => cases ry; exact PySem.EqMixed.eq_str_bool (fin_bl I q (by simp))
    | int j => obtain ⟨t', rfl⟩ := ry; exact PySem.EqMixed.eq_str_int (fin_bl I q (by simp))
    | str j => obtain ⟨t', rfl⟩ := ry; exact eq_str (fin_bl I q dec_str)
    | _ => exact absurd (show false = true from hs) Bool.false_ne_true
  | byt i =>
    obtain ⟨t, rfl⟩ := rx
    cases y with
    | byt j => obtain ⟨t', rfl⟩ := ry; exact PySem.W.eq_bytes (fin_bl I q dec_byt)
    | _ => exact absurd (show false = true from hs) Bool.false_ne_true
  | _ => cases y <;> exact absurd (show false = true from hs) Bool.false_ne_true
theorem op_ne : OpR X (compareOp .NotEq) rNe := by
  intro pins s σ H x y v u Q I rx ry h
  obtain ⟨hs, q⟩ := h
  cases x with
  | non =>
    cases rx
    cases y with
    | non => cases ry; exact PySem.EqNone.ne_none_none (fin_bl I q (by simp))
    | bl j => cases ry; exact PySem.EqNone.ne_none_bool (fin_bl I q (by simp))
    | int j => obtain ⟨t', rfl⟩ := ry; exact PySem.EqNone.ne_none_int (fin_bl I q (by simp))
    | str j => obtain ⟨t', rfl⟩ := ry; exact PySem.EqNone.ne_none_str (fin_bl I q (by simp))
    | _ => exact absurd (show false = true from hs) Bool.false_ne_true
  | bl i =>
    cases rx
    cases y with
    | non => cases ry; exact PySem.EqNone.ne_bool_none (fin_bl I q (by simp))
    | bl j => cases ry; exact ne_bool (fin_bl I q (congrArg not dec_bl))
    | str j => obtain ⟨t', rfl⟩ := ry; exact PySem.EqMixed.ne_bool_str (fin_bl I q (by simp))
    | _ => exact absurd (show false = true from hs) Bool.false_ne_true
  | int i =>
    obtain ⟨t, rfl⟩ := rx
    cases y with
    | non => cases ry; exact PySem.EqNone.ne_int_none (fin_bl I q (by simp))
    | int j => obtain ⟨t', rfl⟩ := ry; exact ne_int (fin_bl I q (congrArg not dec_int))
    | str j => obtain ⟨t', rfl⟩ := ry; exact PySem.EqMixed.ne_int_str (fin_bl I q (by simp))
    | _ => exact absurd (show false = true from hs) Bool.false_ne_true
  | str i =>
    obtain ⟨t, rfl⟩ := rx
    cases y with
    | non => cases ry; exact PySem.EqNone.ne_str_none (fin_bl I q (by simp))
    | bl j => cases ry; exact PySem.EqMixed.ne_str_bool (fin_bl I q (by simp))
    | int j => obtain ⟨t', rfl⟩ := ry; exact PySem.EqMixed.ne_str_int (fin_bl I q (by simp))
    | str j => obtain ⟨t', rfl⟩ := ry; exact ne_str (fin_bl I q (congrArg not dec_str))
    | _ => exact absurd (show false = true from hs) Bool.false_ne_true
  | byt i =>
    obtain ⟨t, rfl⟩ := rx
    cases y with
    | byt j => obtain ⟨t', rfl⟩ := ry; exact PySem.W.ne_bytes (fin_bl I q (congrArg not dec_byt))
    | _ => exact absurd (show false = true from hs) Bool.false_ne_true
  | _ => cases y <;> exact absurd (show false = true from hs) Bool.false_ne_true

theorem op_lt : OpR X (compareOp .Lt) (rI0 fun i j => .bl (decide (i < j))) := opB0 fun _ _ _ _ _ _ _ q => lt_int q
theorem op_gt : OpR X (compareOp .Gt) (rI0 fun i j => .bl (decide (j < i))) := opB0 fun _ _ _ _ _ _ _ q => gt_int q
theorem op_ge : OpR X (compareOp .GtE) (rI0 fun i j => .bl (decide (j ≤ i))) := opB0 fun _ _ _ _ _ _ _ q => ge_int q
theorem nomark (b : Expr) {op : CmpOp} (h : op ≠ .In := by decide) (h2 : op ≠ .NotIn := by decide) : behindInMarks op b = false := by
  have e1 : (op == CmpOp.In) = false := by cases op <;> first | rfl | exact absurd rfl h
  have e2 : (op == CmpOp.NotIn) = false := by cases op <;> first | rfl | exact absurd rfl h2
  cases b <;> simp [behindInMarks, e1, e2]
theorem pe_cmpR {op : CmpOp} {r : R2} (ho : OpR X (compareOp op) r) (ha : PE X a ta) (hb : PE X b tb) (hm : behindInMarks op b = false) : PE X (.Compare a [op] [b] pos) (tOp r ta tb) := by
  intro pins s σ H Q I h
  exact wpAny_Compare1 (binT ha hb I h fun v u s2 x y H2 I2 rx ry q => ho pins s2 σ H2 x y v u Q I2 rx ry q) hm
def tTest (t : TE) : TT := fun σ H Q => t σ H fun x H' => ∃ k, x = .bl k ∧ Q k H'
theorem pt_cmpR {op : CmpOp} {r : R2} (ho : OpR X (compareOp op) r) (ha : PE X a ta) (hb : PE X b tb) (hm : behindInMarks op b = false) : PT X (.Compare a [op] [b] pos) (tTest (tOp r ta tb)) := by
  intro pins s σ H Q I h
  refine wpAny_isTrue_Compare1 (thn (ha pins s σ H _ I h) fun v s1 ⟨x, H1, I1, r1, q1⟩ => thn (hb pins s1 σ H1 _ I1 q1) fun u s2 ⟨y, H2, I2, r2, q2⟩ =>
    thn (ho pins s2 σ H2 x y v u _ I2 r1 r2 q2) fun c s3 ⟨z, H3, I3, r3, k, e, q3⟩ => ?_) hm
  subst e
  cases r3
  exact wpAny_truthy_bool ⟨H3, I3, q3⟩
theorem line63 : (sizeLine : Nat) < 2 ^ 63 := by rw [sizeLine_eq]; decide
theorem op_add_str : OpR X (binaryOp .Add) (fun x y H Q => ∃ i j, x = .str i ∧ y = .str j ∧ i.length + j.length ≤ sizeLine ∧ Q (.str (i ++ j)) H) := by
  intro pins s σ H x y v u Q I rx ry h
  obtain ⟨i, j, rfl, rfl, hz, q⟩ := h
  obtain ⟨t, rfl⟩ := rx
  obtain ⟨t', rfl⟩ := ry
  exact add_str (fun t' tk => ⟨.str (i ++ j), H, I.tok _, ⟨_, rfl⟩, q⟩) hz
theorem vals1 {x : V} {us : List Value} (r : Vals [x] us) : ∃ u, us = [u] ∧ RelV x u := by
  cases r with
  | cons r1 r2 => cases r2; exact ⟨_, rfl, r1⟩
theorem vals2 {x y : V} {us : List Value} (r : Vals [x, y] us) : ∃ u w', us = [u, w'] ∧ RelV x u ∧ RelV y w' := by
  cases r with
  | cons r1 r2 =>
    cases r2 with
    | cons r3 r4 => cases r4; exact ⟨_, _, rfl, r1, r3⟩
theorem call_abs : CallR X (.builtin "abs") (fun xs H Q => ∃ i, xs = [.int i] ∧ Q (.int (if i < 0 then -i else i)) H) := by
  intro pins s σ H xs us Q I r h
  obtain ⟨i, rfl, q⟩ := h
  obtain ⟨u, rfl, t, rfl⟩ := vals1 r
  exact call_abs_int fun u tk => ⟨.int (if i < 0 then -i else i), H, I.tok _, ⟨_, rfl⟩, q⟩
theorem call_max2 (hc : X.calm = true) : CallR X (.builtin "max") (fun xs H Q => ∃ i j, xs = [.int i, .int j] ∧ Q (.int (if j > i then j else i)) H) := by
  intro pins s σ H xs us Q I r h
  obtain ⟨i, j, rfl, q⟩ := h
  obtain ⟨u, w', rfl, ⟨t, rfl⟩, ⟨t', rfl⟩⟩ := vals2 r
  refine max_two_ints (I.ok.hd hc) fun h' tk k => ⟨_, H, I.kept k, ?_, q⟩
  by_cases hj : j > i
  · rw [if_pos hj, if_pos hj]; exact ⟨_, rfl⟩
  · rw [if_neg hj, if_neg hj]; exact ⟨_, rfl⟩
theorem call_min2 (hc : X.calm = true) : CallR X (.builtin "min") (fun xs H Q => ∃ i j, xs = [.int i, .int j] ∧ Q (.int (if j < i then j else i)) H) := by
  intro pins s σ H xs us Q I r h
  obtain ⟨i, j, rfl, q⟩ := h
  obtain ⟨u, w', rfl, ⟨t, rfl⟩, ⟨t', rfl⟩⟩ := vals2 r
  refine min_two_ints (I.ok.hd hc) fun h' tk k => ⟨_, H, I.kept k, ?_, q⟩
  by_cases hj : j < i
  · rw [if_pos hj, if_pos hj]; exact ⟨_, rfl⟩
  · rw [if_neg hj, if_neg hj]; exact ⟨_, rfl⟩
theorem call_int1 : CallR X (.type "int") (fun xs H Q => (∃ i, xs = [.int i] ∧ Q (.int i) H) ∨ ∃ k, xs = [.bl k] ∧ Q (.int (if k then 1 else 0)) H) := by
  intro pins s σ H xs us Q I r h
  rcases h with ⟨i, rfl, q⟩ | ⟨k, rfl, q⟩
  · obtain ⟨u, rfl, t, rfl⟩ := vals1 r
    exact call_int_int ⟨.int i, H, I, ⟨_, rfl⟩, q⟩
  · obtain ⟨u, rfl, r1⟩ := vals1 r
    cases r1
    exact call_int_bool ⟨.int (if k then 1 else 0), H, I.tok _, ⟨_, rfl⟩, q⟩
end
end L2

namespace L2
open PySem PySem.Spec PyProof.Rows

structure ObjM (h : Heap) (x dx C : Addr) (mA : Str → Option Value) : Prop where
  obj : h.get? x = some (PySem.W.instObj C dx)
  ns : h.Ns1 dx mA
  ne : dx ≠ x

theorem lookIn_ns {h : Heap} {dx : Addr} {mA : Str → Option Value} (n : h.Ns1 dx mA) : ∃ od, h.get? dx = some od ∧ ∀ name, PySem.W.lookIn name od = some (mA name) := by
  obtain ⟨o, es, ep, ho, hd, hk, _, hm⟩ := n
  refine ⟨o, ho, fun name => ?_⟩
  have e := hm name
  unfold nsFind findBy at e
  rw [← Array.find?_toList] at e
  unfold PySem.W.lookIn
  rw [hd]
  dsimp only
  split
  · rename_i y q
    rw [q] at e
    exact congrArg some e
  · rename_i q
    rw [q] at e
    have a : es.toList.any (·.refKey) = false := by
      rw [List.any_eq_false]
      intro y hy
      obtain ⟨z, t, hkey⟩ := hk y (Array.mem_toList_iff.mp hy)
      simp [DictEntry.refKey, hkey]
    have a' : ¬ es.toList.any (·.refKey) = true := by rw [a]; exact Bool.false_ne_true
    rw [if_neg a']
    exact congrArg some e

theorem ObjM.look {h : Heap} {x dx C : Addr} {mA : Str → Option Value} (I : ObjM h x dx C mA) : ∃ od, PySem.W.InstAt h x (PySem.W.instObj C dx) C (some od) ∧ ∀ name, PySem.W.lookIn name od = some (mA name) :=
  let ⟨od, ho, hl⟩ := lookIn_ns I.ns
  ⟨od, ⟨I.obj, rfl, rfl, ho⟩, hl⟩

section
variable {prog : Program} {w : World} {A : Around} {E : Value → Shared → Prop} {s : Shared} {K : PySem.W.Frag} {x dx C f : Addr} {mA : Str → Option Value} {name : Str} {v : Value}

end

section
variable {P : Program} {w : World} {H H' : Hp} {h h' : Heap} {a C dx : Addr} {fs fs' : List (Str × V)}
theorem ins_get (hok : HOk P w H h) (e : H a = some (.ins C dx fs)) : ∃ mA, ObjM h a dx C mA ∧ (∀ f, RelO (fs.lookup f) (mA f)) ∧ PySem.Within mA (fs.map (·.1)) ∧ fs.length ≤ 1000 ∧ H dx = some (.own a) := by
  obtain ⟨d, z, ne, ob, mA, n, r, q⟩ := (show ObjOk P w H h a (.ins C dx fs) from hok a _ e)
  exact ⟨mA, ⟨ob, n, ne⟩, r, q, z, d⟩
end

structure Cls (K : PySem.W.Frag) (C : Addr) : Prop where
  pg : PySem.W.plainGet K C Str.empty = true
  hd : PySem.W.hasDictIn K C = true
  po : PySem.W.plainOver K C = true
  sa : PySem.W.findIn K (.ref C) "__setattr__" = some (some (.builtin "object.__setattr__"))
theorem Cls.get {K : PySem.W.Frag} {C : Addr} (c : Cls K C) (f : Str) : PySem.W.plainGet K C f = true := c.pg
section
variable {X : Cx} {pins : List (Addr × Obj)} {σ : St} {H : Hp} {s : Shared} {a C dx : Addr} {fs : List (Str × V)} {f : Str} {v : V} {A : Around} {E : Value → Shared → Prop}

theorem attr_of {prog : Program} {w : World} {env : Env} {e : Expr} {f : Str} {pos : Pos} {s : Shared} {Q : Value → Shared → Prop} (hb : attributeBase e f env (eval e env) = eval e env)
    (h : wpAny (model prog w) A (eval e env) (fun o s₁ => wpAny (model prog w) A (getAttr o f true) Q E s₁) E s) : wpAny (model prog w) A (eval (.Attribute e f pos) env) Q E s :=
  Attribute_any_ h (by rw [arm_eval_Attribute, hb])
end


section
variable {X : Cx} {pins : List (Addr × Obj)} {σ : St} {H : Hp} {s : Shared} {A : Around} {E : Value → Shared → Prop} {Q : Value → Shared → Prop} {c : Value} {b : Bool}
inductive TyOf (K : PySem.W.Frag) (H : Hp) : V → Value → Prop where
  | non : TyOf K H .non (.type "NoneType")
  | bl (x : Bool) : TyOf K H (.bl x) (.type "bool")
  | int (i : Int) : TyOf K H (.int i) (.type "int")
  | str (x : Str) : TyOf K H (.str x) (.type "str")
  | flt (x : UInt64) : TyOf K H (.flt x) (.type "float")
  | lst {a : Addr} {xs : List V} (e : H a = some (.lst xs)) : TyOf K H (.ref a) (.type "list")
  | frz {a : Addr} {o : Obj} {xs : List V} (e : H a = some (.frz o (.lst xs))) : TyOf K H (.ref a) (.type "list")
  | tup {a : Addr} {xs : List V} (e : H a = some (.tup xs)) : TyOf K H (.ref a) (.type "tuple")
  | dK {a : Addr} {kvs : List (Key × V)} (e : H a = some (.dK kvs)) : TyOf K H (.ref a) (.type "dict")
  | dT {a : Addr} {kvs : List (List Key × V)} (e : H a = some (.dT kvs)) : TyOf K H (.ref a) (.type "dict")
  | ins {a C dx : Addr} {fs : List (Str × V)} (e : H a = some (.ins C dx fs)) (cl : Cls K C) (ha : PySem.W.findIn K (.ref C) "__class__" = some (some (.builtin "object.__class__")))
      (hn : PySem.W.specialIn K (.builtin "object.__class__") "__get__" = some (some (.builtin "getset_descriptor.__get__"))) (htk : PySem.W.takesIn K (.builtin "object.__class__") = some true)
      (hm : PySem.W.mroIn K C (.type "object") = some true) : TyOf K H (.ref a) (.ref C)
theorem isinst_ok {x : V} {u t : Value} (I : Inv X pins σ H s) (rx : RelV x u) (ty : TyOf X.K H x t) (e : PySem.W.kitOne X.K t c = some b) (h : ∀ tk, Q (.bool b) { s with toks := tk }) :
    wpAny (model X.prog X.w) A (call (.builtin "isinstance") [u, c]) Q E s := by
  cases ty with
  | non => cases (show u = Value.none from rx); exact PySem.W.kia_one PySem.W.kitx_none I.kIn True.intro e (fun z => nomatch z) h
  | bl y => cases (show u = Value.bool y from rx); exact PySem.W.kia_one PySem.W.kitx_bool I.kIn True.intro e (fun z => nomatch z) h
  | int i => obtain ⟨t, q⟩ := (show ∃ t, u = Value.int i t from rx); cases q; exact PySem.W.kia_one PySem.W.kitx_int I.kIn True.intro e (fun z => nomatch z) h
  | str y => obtain ⟨t, q⟩ := (show ∃ t, u = Value.str y t from rx); cases q; exact PySem.W.kia_one PySem.W.kitx_str I.kIn True.intro e (fun z => nomatch z) h
  | flt y => obtain ⟨t, q⟩ := (show ∃ t, u = Value.float y t from rx); cases q; exact PySem.W.kia_one PySem.W.kitx_float I.kIn True.intro e (fun z => nomatch z) h
  | @lst a xs ea =>
    cases (show u = Value.ref a from rx)
    obtain ⟨_, _, n, _, h1⟩ := (show ObjOk X.prog X.w H s.heap a (.lst xs) from I.hok a _ ea)
    exact PySem.W.kia_one PySem.W.kitx_list I.kIn ⟨_, h1, rfl⟩ e (fun z => nomatch z) h
  | @frz a ob xs ea =>
    cases (show u = Value.ref a from rx)
    obtain ⟨_, _, _, n, _, h1⟩ := (show ObjOk X.prog X.w H s.heap a (.frz ob (.lst xs)) from I.hok a _ ea)
    exact PySem.W.kia_one PySem.W.kitx_list I.kIn ⟨_, h1, rfl⟩ e (fun z => nomatch z) h
  | @tup a xs ea =>
    cases (show u = Value.ref a from rx)
    obtain ⟨_, _, _, p⟩ := (show ObjOk X.prog X.w H s.heap a (.tup xs) from I.hok a _ ea)
    obtain ⟨o, h1, h2, _⟩ := p
    exact PySem.W.kia_one PySem.W.kitx_tuple I.kIn ⟨o, h1, h2⟩ e (fun z => nomatch z) h
  | @dK a kvs ea =>
    cases (show u = Value.ref a from rx)
    obtain ⟨_, _, vs, _, p⟩ := (show ObjOk X.prog X.w H s.heap a (.dK kvs) from I.hok a _ ea)
    obtain ⟨o, es, ep, h1, h2, _⟩ := p
    exact PySem.W.kia_one PySem.W.kitx_dict I.kIn ⟨o, h1, h2.1⟩ e (fun z => nomatch z) h
  | @dT a kvs ea =>
    cases (show u = Value.ref a from rx)
    obtain ⟨_, _, xs, _, o, es, ep, h1, h2, _⟩ := (show ObjOk X.prog X.w H s.heap a (.dT kvs) from I.hok a _ ea)
    exact PySem.W.kia_one PySem.W.kitx_dict I.kIn ⟨o, h1, h2.1⟩ e (fun z => nomatch z) h
  | @ins a C dx fs ea cl ha hn htk hm =>
    cases (show u = Value.ref a from rx)
    obtain ⟨mA, O, _⟩ := ins_get I.hok ea
    obtain ⟨od, J, _⟩ := O.look
    exact PySem.W.kia_one (PySem.W.kitx_own (cl.get _) cl.hd ha hn htk hm) I.kIn J e (fun z => nomatch z) h
end
end L2

namespace L2
open PySem PySem.Spec PyProof.Rows

structure Room (k : Nat) (A : Around) : Prop where
  hd : A.handled = none
  dp : A.depth + 3 * k + 5 < recursionLimit
  un : A.units + 16 * k + 200 < cLine
theorem Room.mono {j k : Nat} {A : Around} (r : Room k A) (h : j ≤ k) : Room j A := ⟨r.hd, by have := r.dp; omega, by have := r.un; omega⟩
theorem Room.deeper {k : Nat} {A : Around} (r : Room (k + 1) A) (env : Env) : Room k (A.deeper env) :=
  ⟨r.hd, by have := r.dp; show A.depth + 1 + 3 * k + 5 < _; omega, by have := r.un; show A.units + 3 + 16 * k + 200 < _; omega⟩
theorem Room.in1 {k : Nat} {A : Around} (r : Room (k + 1) A) : Room k A.in1 :=
  ⟨r.hd, by have := r.dp; show A.depth + 3 * k + 5 < _; omega, by have := r.un; show A.units + 1 + 16 * k + 200 < _; omega⟩
theorem make_depth {A : Around} {C : Addr} {us : List Value} {kw : List (Str × Value)} : (A.under (.builtin "type.__call__" ⟨.ref C :: us, kw⟩)).depth = A.depth + 1 := by
  first | rfl | simp [Around.under, Code.weight, Code.isCreation, Code.isGuard, Code.isCaller, Code.frames, Code.isFrame, guardIds]
theorem make_units {A : Around} {C : Addr} {us : List Value} {kw : List (Str × Value)} : (A.under (.builtin "type.__call__" ⟨.ref C :: us, kw⟩)).units = A.units + 1 := by
  first | rfl | simp [Around.under, Code.cUnits, Code.frames, Code.isFrame]
theorem Room.make {k : Nat} {A : Around} (r : Room (k + 1) A) (C : Addr) (us : List Value) (kw : List (Str × Value)) : Room k (A.under (.builtin "type.__call__" ⟨.ref C :: us, kw⟩)) :=
  ⟨r.hd, by have := r.dp; rw [make_depth]; omega, by have := r.un; rw [make_units]; omega⟩
theorem Room.depth {k : Nat} {A : Around} (r : Room k A) : A.depth < recursionLimit := by have := r.dp; omega
theorem Room.units {k : Nat} {A : Around} (r : Room k A) : A.units + 64 < cLine := by have := r.un; omega
def tNil : TA := fun _ H Q => Q [] H
def tCons (ta : TE) (tr : TA) : TA := fun σ H Q => ta σ H fun x H1 => tr σ H1 fun xs H2 => Q (x :: xs) H2
section
variable {X : Cx} {e : Expr} {es : List Expr} {te : TE} {t : TA} {pos : Pos}
theorem pa_nil : PA X [] tNil := fun _ _ _ _ H Q I h => Calls.spliced_nil ⟨[], H, I, .nil, h⟩
theorem pa_cons (ha : PE X e te) (hr : PA X es t) (hs : starEach (e :: es) X.env = (false, eval e X.env) :: starEach es X.env := by rfl) : PA X (e :: es) (tCons te t) := by
  intro pos pins s σ H Q I h
  rw [hs]
  show wpAny _ _ (spliced ((false, eval e X.env) :: backTo pos (starEach es X.env))) _ _ s
  refine Calls.spliced_cons (thn (ha pins s σ H _ I h) fun u s1 ⟨x, H1, I1, r1, q1⟩ => ?_)
  exact thn (hr pos pins s1 σ H1 _ I1 q1) fun us s2 ⟨xs, H2, I2, r2, q2⟩ => ⟨x :: xs, H2, I2, .cons r1 r2, q2⟩

def tTup (t : TA) : TE := fun σ H Q => t σ H fun xs H1 => xs.length ≤ sizeLine ∧ ∀ p, H1 p = none → Q (.ref p) (upd H1 p (.tup xs))
def tLst (t : TA) : TE := fun σ H Q => t σ H fun xs H1 => xs.length ≤ sizeLine ∧ ∀ p, H1 p = none → Q (.ref p) (upd H1 p (.lst xs))
theorem pe_tup {x1} (h : PA X es t) : PE X (.Tuple es x1 pos) (tTup t) := by
  intro pins s σ H Q I hq
  refine wpAny_Tuple_spliced (thn (h pos pins s σ H _ I hq) fun us s1 ⟨xs, H1, I1, r, z, q⟩ => ⟨by rw [← r.length]; exact z, ?_⟩)
  have hf : H1 s1.heap.objs.size = none := I1.hok.fresh (Nat.le_refl _)
  refine ⟨.ref s1.heap.objs.size, upd H1 s1.heap.objs.size (.tup xs), I1.laid (t' := s1.toks) (fun b u e => Heap.get?_push_of_some _ e) (Nat.le_refl _) ?_, rfl, q _ hf⟩
  exact ⟨z, us, r, ⟨_, Heap.get?_push_size _ rfl, rfl, _, rfl⟩⟩
theorem pe_lst (h : PA X es t) : PE X (.List es pos) (tLst t) := by
  intro pins s σ H Q I hq
  refine wpAny_List_spliced (thn (h pos pins s σ H _ I hq) fun us s1 ⟨xs, H1, I1, r, z, q⟩ => ⟨by rw [← r.length]; exact z, ?_⟩)
  have hf : H1 s1.heap.objs.size = none := I1.hok.fresh (Nat.le_refl _)
  refine ⟨.ref s1.heap.objs.size, upd H1 s1.heap.objs.size (.lst xs), I1.laid (t' := s1.toks) (fun b u e => Heap.get?_push_of_some _ e) (Nat.le_refl _) ?_, rfl, q _ hf⟩
  exact ⟨z, us, 0, r, Heap.get?_push_size _ rfl⟩
end

abbrev Sp := List V → Hp → VK → XK → Prop
abbrev CXT := List Env → Hp → Shared → XK → Value → Shared → Prop

structure Env0 (P : Program) (w : World) (K : PySem.W.Frag) (mg : Str → Option Value) (base : Heap) (A : Around) (outer : List Env) (s : Shared) (H : Hp) : Prop where
  frames : A.frames = some outer
  mod : Mod K mg base
  bs : ∀ b o, base.get? b = some o → s.heap.get? b = some o ∧ H b = none
  bsz : base.objs.size ≤ s.heap.objs.size
  funs : s.heap.FunFrames base outer
  frf : ∀ b ∈ frs outer, H b = none
  hok : HOk P w H s.heap
  bare : AllBare s.gens
def CE (outer : List Env) (P : Program) (w : World) (H : Hp) (s : Shared) (Q : VK) (u : Value) (s' : Shared) : Prop :=
  ∃ v H', s'.os = s.os ∧ AllBare s'.gens ∧ Un (frs outer) [] H H' s.heap s'.heap ∧ HOk P w H' s'.heap ∧ RelV v u ∧ Q v H'
def CR (CX : CXT) (outer : List Env) (P : Program) (w : World) (H : Hp) (s : Shared) (Q : VK) (E : XK) (r : Result) (s' : Shared) : Prop :=
  match r with
  | .ok (.ret u) => CE outer P w H s Q u s'
  | .ok _ => False
  | .error e => CX outer H s E e s'
structure FnOk (P : Program) (w : World) (K : PySem.W.Frag) (mg : Str → Option Value) (base : Heap) (CX : CXT) (k : Nat) (f : Addr) (fd : FuncData) (ps : List Str) (sp : Sp) : Prop where
  len : ∀ vs H Q E, sp vs H Q E → vs.length = ps.length
  run : ∀ (A : Around) (outer : List Env) (s : Shared) (H : Hp) (args : Args) (us : List Value) (vs : List V) (Q : VK) (E : XK), Room k A → Env0 P w K mg base A outer s H → BindsTo s fd args (ps.zip us) → Vals vs us → sp vs H Q E →
    codeAny (model P w) A (.call (.ref f) args) (CR CX outer P w H s Q E) s
theorem FnOk.mono {P : Program} {w : World} {K : PySem.W.Frag} {mg : Str → Option Value} {base : Heap} {CX : CXT} {j k : Nat} {f : Addr} {fd : FuncData} {ps : List Str} {sp : Sp} (F : FnOk P w K mg base CX j f fd ps sp) (h : j ≤ k) :
    FnOk P w K mg base CX k f fd ps sp := ⟨F.len, fun A outer s H args us vs Q E hr => F.run A outer s H args us vs Q E (hr.mono h)⟩
theorem Env0.make {P : Program} {w : World} {K : PySem.W.Frag} {mg : Str → Option Value} {base : Heap} {A : Around} {outer : List Env} {s : Shared} {H : Hp} (e : Env0 P w K mg base A outer s H) (C : Addr) (us : List Value) (kw : List (Str × Value)) :
    Env0 P w K mg base (A.under (.builtin "type.__call__" ⟨.ref C :: us, kw⟩)) outer s H := ⟨by first | exact e.frames | (simpa [Around.under, Code.envs, Code.isFrame, pushEnvs] using e.frames), e.mod, e.bs, e.bsz, e.funs, e.frf, e.hok, e.bare⟩
theorem Env0.in1 {P : Program} {w : World} {K : PySem.W.Frag} {mg : Str → Option Value} {base : Heap} {A : Around} {outer : List Env} {s : Shared} {H : Hp} (e : Env0 P w K mg base A outer s H) :
    Env0 P w K mg base A.in1 outer s H := ⟨e.frames, e.mod, e.bs, e.bsz, e.funs, e.frf, e.hok, e.bare⟩

section
variable {X : Cx} {pins : List (Addr × Obj)} {σ : St} {H : Hp} {s s' : Shared}
theorem Inv.env0 (I : Inv X pins σ H s) : Env0 X.prog X.w X.K X.mg X.base X.A X.stack s H :=
  ⟨I.ok.frames, I.ok.mod, I.bs, Nat.le_trans I.ok.bsz I.sz, I.stack, I.stkFree, I.hok, I.bare⟩
theorem Inv.after {Q : VK} {u : Value} (I : Inv X pins σ H s) (h : CE X.stack X.prog X.w H s Q u s') : EP X pins σ Q u s' := by
  obtain ⟨v, H', os, bare, un, hok, r, q⟩ := h
  obtain ⟨hh, g, d, t, os'⟩ := s'
  obtain rfl : os' = s.os := os
  exact ⟨v, H', I.call (h' := hh) (g' := g) (d' := d) (t' := t) (ch := []) un hok bare (fun b z => absurd z (by simp)), r, q⟩
end

def tCall (sp : Sp) (dvs : List V) (E : XK) (t : TA) : TE := fun σ H Q => t σ H fun vs H1 => sp (vs ++ dvs) H1 Q E
def Binds (K : PySem.W.Frag) (fd : FuncData) (ps : List Str) (ds : List Value) : Prop :=
  ∀ (s : Shared) (us : List Value), K.In s.heap → (us ++ ds).length = ps.length → BindsTo s fd ⟨us, []⟩ (ps.zip (us ++ ds))
theorem Binds.all {K : PySem.W.Frag} {fd : FuncData} {ps : List Str} (h : ∀ us : List Value, us.length = ps.length → bindArgs fd ⟨us, []⟩ = pure (ps.zip us)) : Binds K fd ps [] := fun s us _ hl => by
  rw [List.append_nil] at hl ⊢
  exact .of_eq (h us hl)

def Passes (CX : CXT) (X : Cx) (E : XK) : Prop := ∀ (pins : List (Addr × Obj)) (σ : St) (H : Hp) (s : Shared) (e : Value) (s' : Shared), Inv X pins σ H s → CX X.stack H s E e s' → X.xe e s'

section
variable {X : Cx} {CX : CXT} {k : Nat} {f C : Addr} {fd : FuncData} {ps : List Str} {sp : Sp} {dvs : List V} {ds : List Value} {E : XK} {x m : Str} {p pos apos : Pos} {e o : Expr} {es : List Expr} {ta : TE} {t : TA}

theorem run_fn {pins : List (Addr × Obj)} {σ : St} {H : Hp} {s : Shared} {Q : VK} {us : List Value} {vs : List V} (F : FnOk X.prog X.w X.K X.mg X.base CX k f fd ps sp) (hr : Room k X.A) (hb : Binds X.K fd ps ds) (hd : Vals dvs ds) (hx : Passes CX X E)
    (I : Inv X pins σ H s) (r : Vals vs us) (h : sp (vs ++ dvs) H Q E) : wpAny (model X.prog X.w) X.A (call (.ref f) us) (EP X pins σ Q) X.xe s := by
  have r2 : Vals (vs ++ dvs) (us ++ ds) := r.append hd
  have hl : (us ++ ds).length = ps.length := by rw [← r2.length]; exact F.len _ _ _ _ h
  refine wpAny_call (codeAny_mono (F.run X.A X.stack s H ⟨us, []⟩ (us ++ ds) (vs ++ dvs) Q E hr I.env0 (hb s us I.kIn hl) r2 h) fun r s' hq => ?_)
  cases r with
  | error e => exact hx pins σ H s e s' I hq
  | ok fl =>
    cases fl with
    | ret u => exact I.after hq
    | next => exact False.elim hq
    | brk => exact False.elim hq
    | cont => exact False.elim hq

theorem pe_call (F : FnOk X.prog X.w X.K X.mg X.base CX k f fd ps sp) (hr : Room k X.A) (hg : Gl X x) (hm : X.mg x = some (.ref f)) (hk : PySem.W.keepIn X.K (.ref f) = true) (hb : Binds X.K fd ps ds) (hd : Vals dvs ds) (hx : Passes CX X E)
    (ha : PA X (e :: es) t) (hdb : (x == ("__debug__" : Str)) = false := by decide) (he : starEach (e :: es) X.env = (false, eval e X.env) :: starEach es X.env := by rfl) (hpl : (backTo pos (starEach es X.env)).any (·.1) = false := by rfl) :
    PE X (.Call (.Name x p) (e :: es) [] pos) (tCall sp dvs E t) := by
  intro pins s σ H Q I h
  refine wpAny_Call_Name_kw (ld_glob I hg hm ?_ hdb)
  refine PySem.W.callWith_K (h₀ := X.base) I.ok.mod.kin hk (thn (ha pos pins s σ H _ I h) fun us s1 ⟨vs, H1, I1, r, q⟩ => ⟨I1.kIn, ?_⟩) he hpl
  exact run_fn F hr hb hd hx I1 r q
end


structure FnScope (N P : List Str) (sc : Scope) : Prop where
  kind : sc.kind = .function
  co : sc.isCoroutine = false
  gen : sc.isGenerator = false
  nd : N.Nodup
  pre : N.take P.length = P
  par : ∀ x ∈ P, sc.names.lookup x = some .local ∨ sc.names.lookup x = some .cell
  nofree : ∀ y ∈ sc.names, y.2 ≠ .free

theorem bindL_out {kindOf : Str → Option NameKind} {x : Str} : ∀ {binds : List (Str × Value)} {m : Str → Option Value}, (∀ v, (x, v) ∉ binds) → bindL kindOf binds m x = m x
  | [], _, _ => rfl
  | (n, v) :: r, m, h => by
    unfold bindL
    rw [bindL_out fun w hw => h w (List.mem_cons_of_mem _ hw)]
    split
    · have : x ≠ n := by rintro rfl; exact h v List.mem_cons_self
      simp [this]
    · rfl
theorem bindC_out {kindOf : Str → Option NameKind} {x : Str} : ∀ {binds : List (Str × Value)} {m : Str → Option Value}, (∀ v, (x, v) ∉ binds) → bindC kindOf binds m x = m x
  | [], _, _ => rfl
  | (n, v) :: r, m, h => by
    unfold bindC
    rw [bindC_out fun w hw => h w (List.mem_cons_of_mem _ hw)]
    split
    · rfl
    · have : x ≠ n := by rintro rfl; exact h v List.mem_cons_self
      simp [this]
theorem bindL_get {kindOf : Str → Option NameKind} {x : Str} {v : Value} : ∀ {P : List Str} {vs : List Value} {i : Nat} {m : Str → Option Value}, P.Nodup → P[i]? = some x → vs[i]? = some v → kindOf x = some .local →
    bindL kindOf (P.zip vs) m x = some v
  | [], _, _, _, _, h, _, _ => by simp at h
  | _ :: _, [], _, _, _, _, h, _ => by simp at h
  | p :: P, w :: vs, 0, m, nd, h1, h2, hk => by
    simp at h1 h2; subst h1; subst h2
    show bindL kindOf ((p, w) :: P.zip vs) m p = _
    unfold bindL
    rw [bindL_out fun v hv => (List.nodup_cons.mp nd).1 (List.of_mem_zip hv).1, if_pos hk]
    simp
  | p :: P, w :: vs, i + 1, m, nd, h1, h2, hk => by
    show bindL kindOf ((p, w) :: P.zip vs) m x = _
    unfold bindL
    exact bindL_get (i := i) (List.nodup_cons.mp nd).2 (by simpa using h1) (by simpa using h2) hk
theorem bindC_get {kindOf : Str → Option NameKind} {x : Str} {v : Value} : ∀ {P : List Str} {vs : List Value} {i : Nat} {m : Str → Option Value}, P.Nodup → P[i]? = some x → vs[i]? = some v → kindOf x ≠ some .local →
    bindC kindOf (P.zip vs) m x = some v
  | [], _, _, _, _, h, _, _ => by simp at h
  | _ :: _, [], _, _, _, _, h, _ => by simp at h
  | p :: P, w :: vs, 0, m, nd, h1, h2, hk => by
    simp at h1 h2; subst h1; subst h2
    show bindC kindOf ((p, w) :: P.zip vs) m p = _
    unfold bindC
    rw [bindC_out fun v hv => (List.nodup_cons.mp nd).1 (List.of_mem_zip hv).1, if_neg hk]
    simp
  | p :: P, w :: vs, i + 1, m, nd, h1, h2, hk => by
    show bindC kindOf ((p, w) :: P.zip vs) m x = _
    unfold bindC
    exact bindC_get (i := i) (List.nodup_cons.mp nd).2 (by simpa using h1) (by simpa using h2) hk

def start (N : List Str) (vs : List V) : St := vs.map some ++ List.replicate (N.length - vs.length) none

def cxOf (CX : CXT) (P : Program) (w : World) (K : PySem.W.Frag) (mg : Str → Option Value) (base : Heap) (N : List Str) (qual : Str) (scope : Scope) (f : Addr) (cd : Value) (A : Around) (outer : List Env) (s : Shared) (H : Hp) (E : XK) : Cx where
  prog := P
  w := w
  K := K
  mg := mg
  base := base
  A := A.deeper (envOfC qual scope s.heap.objs.size f cd)
  N := N
  s₀ := s
  H₀ := H
  env := envOfC qual scope s.heap.objs.size f cd
  outer := outer
  stack := envOfC qual scope s.heap.objs.size f cd :: outer
  ex := []
  calm := true
  fn := fun _ => true
  pn := []
  xe := fun e s' => wpAny (model P w) (A.deeper (envOfC qual scope s.heap.objs.size f cd)) (leaving (envOfC qual scope s.heap.objs.size f cd) e) (fun _ s'' => CX outer H s E e s'') (fun e' s'' => CX outer H s E e' s'') s'

theorem cell_has {sc : Scope} {n : Nat} {x : Str} (h : sc.names.lookup x = some .cell) : ∃ c, (cellsFrom n sc.names []).lookup x = some c := by
  have q := PySem.W.cellsFrom_some sc.names n [] (.inl h)
  exact Option.isSome_iff_exists.mp q

theorem inv_start {CX : CXT} {P : Program} {w : World} {K : PySem.W.Frag} {mg : Str → Option Value} {base : Heap} {N ps : List Str} {qual : Str} {scope : Scope} {f : Addr} {cd : Value} {A : Around} {outer : List Env} {s s1 : Shared} {H : Hp} {E : XK} {us : List Value} {vs : List V}
    (S : FnScope N ps scope) (hd : A.handled = none) (e0 : Env0 P w K mg base A outer s H) (hl : vs.length = ps.length) (r : Vals vs us)
    (x : InCallC s s.heap.objs.size (bindL (envOfC qual scope s.heap.objs.size f cd).kindOf (ps.zip us) fun _ => none) (cellsFrom (s.heap.objs.size + 1) scope.names []) (bindC (envOfC qual scope s.heap.objs.size f cd).kindOf (ps.zip us) fun _ => none) s1) :
    Inv (cxOf CX P w K mg base N qual scope f cd A outer s H E) [] (start N vs) H s1 := by
  have hpl : ps.length ≤ N.length := by have := congrArg List.length S.pre; rw [List.length_take] at this; omega
  obtain ⟨h1, tk, rfl, hk⟩ := x.done
  have noA : ∀ b : Addr, b ∉ (cxOf CX P w K mg base N qual scope f cd A outer s H E).ex := fun b z => absurd (show b ∈ ([] : List Addr) from z) (by simp)
  refine ⟨⟨e0.mod, S.kind, rfl, rfl, Nat.le_refl _, fun y z c h1 h2 => ?_, fun y hy => ?_, fun y c _ h => ?_, fun _ => hd, Around.frames_deeper e0.frames, .inr ⟨rfl, rfl⟩, fun b z => absurd z (noA b), e0.bs, e0.bsz, fun b _ _ => noA b, fun b z => absurd z (noA b), e0.funs, e0.frf⟩,
    rfl, e0.bare, Un.kept hk, ⟨_, x.toInCall.ns, fun i y v h1 h2 h3 => ?_⟩, fun y c h => ⟨_, x.cell y c h⟩, e0.hok.fresh (Nat.le_refl _), fun y c h => ?_, fun p hp => absurd (show p ∈ ([] : List (Addr × Obj)) from hp) (by simp), e0.hok.kept hk, ?_⟩
  · exact name_of_addr x.apart (PySem.mem_of_lookup h1) (PySem.mem_of_lookup h2)
  · have hy : scope.names.lookup y = some .cell ∨ scope.names.lookup y = some .free := hy
    rcases hy with hy | hy
    · exact cell_has hy
    · exact absurd rfl (S.nofree _ (PySem.mem_of_lookup hy))
  · exact Nat.le_of_lt (x.above y c (PySem.mem_of_lookup h))
  · have hi : i < vs.length := by
      unfold start at h2
      by_cases hi : i < vs.length
      · exact hi
      · rw [List.getElem?_append_right (by simpa using hi)] at h2
        rw [List.getElem?_replicate] at h2
        split at h2 <;> cases h2
    have ha : vs[i]? = some v := by
      unfold start at h2
      rw [List.getElem?_append_left (by simpa using hi), List.getElem?_map] at h2
      cases e : vs[i]? with
      | none => rw [e] at h2; cases h2
      | some a => rw [e] at h2; cases h2; rfl
    obtain ⟨u, hu, rv⟩ := r.get ha
    have hp : ps[i]? = some y := by
      rw [← S.pre, List.getElem?_take_of_lt (by omega)]; exact h1
    have ndP : ps.Nodup := by rw [← S.pre]; exact S.nd.sublist (List.take_sublist _ _)
    refine ⟨u, rv, ?_⟩
    rcases S.par y (List.mem_of_getElem? hp) with k | k
    · exact .inl ⟨k, bindL_get ndP hp hu k⟩
    · obtain ⟨c, e⟩ := cell_has (n := s.heap.objs.size + 1) k
      refine .inr ⟨.inl k, c, e, ?_⟩
      have q := x.cell y c e
      rw [bindC_get ndP hp hu (by show scope.names.lookup y ≠ _; rw [k]; decide)] at q
      exact q
  · exact e0.hok.fresh (Nat.le_of_lt (x.above y c (PySem.mem_of_lookup h)))
  · unfold start
    show _ = N.length
    rw [List.length_append, List.length_map, List.length_replicate]
    omega

theorem fn_of {CX : CXT} {P : Program} {w : World} {K : PySem.W.Frag} {mg : Str → Option Value} {base : Heap} {k : Nat} {f : Addr} {name qual : Str} {params : Arguments} {body : List Stmt} {scope : Scope} {dV kV doc pm cdv ct oc : Value} {an od : Option Addr}
    {osl : Array (Option Value)} {N ps : List Str} {sp : Sp} (lk : K.lookup f = some ⟨oc, od, .func (PySem.W.fnOf name qual params body scope dV kV doc pm an cdv ct), osl⟩) (hcd : PySem.W.codeIn K cdv qual = true) (S : FnScope N ps scope)
    (len : ∀ vs H Q E, sp vs H Q E → vs.length = ps.length)
    (hbody : ∀ (A : Around) (outer : List Env) (s : Shared) (H : Hp) (vs : List V) (Q : VK) (E : XK), Room k (A.deeper (envOfC qual scope s.heap.objs.size f cdv)) → sp vs H Q E →
      ∃ t, PSs (cxOf CX P w K mg base N qual scope f cdv A outer s H E) body t ∧ t { nx := fun _ H' => Q .non H', rt := Q } (start N vs) H) :
    FnOk P w K mg base CX (k + 1) f (PySem.W.fnOf name qual params body scope dV kV doc pm an cdv ct) ps sp := by
  refine ⟨len, fun A outer s H args us vs Q E hr e0 hb r hsp => ?_⟩
  have hl := len _ _ _ _ hsp
  have KX : K.In s.heap := e0.mod.kin.keeps fun b o e => (e0.bs b o e).1
  have lim : s.heap.NoLimit := e0.mod.nolimit.keeps fun b o e => (e0.bs b o e).1
  have hkind : ∀ y ∈ ps.zip us, scope.names.lookup y.1 = some .local ∨ (scope.names.lookup y.1 = some .cell ∧ ((cellsFrom (s.heap.objs.size + 1) scope.names []).lookup y.1).isSome = true) := fun ⟨n, v⟩ hy => by
    rcases S.par n (List.of_mem_zip hy).1 with q | q
    · exact .inl q
    · exact .inr ⟨q, PySem.W.cellsFrom_some _ _ _ (.inl q)⟩
  refine codeAny_call_function hr.depth (KX _ _ lk) rfl S.co S.gen rfl (PySem.W.codeRec_of KX hcd) (hb _ _ _ _ ?_)
  refine wpAny_newFunctionEnv_cells S.kind hkind fun env he s1 x => ?_
  subst he
  refine ⟨lim.keeps x.toInCall.keep, codeAny_func ?_⟩
  obtain ⟨t, ht, hq⟩ := hbody A outer s H vs Q E (hr.deeper _) hsp
  have I : Inv (cxOf CX P w K mg base N qual scope f cdv A outer s H E) [] (start N vs) H s1 := inv_start S hr.hd e0 hl r x
  refine wpAny_mono (ht [] s1 (start N vs) H _ I hq) (fun fl s' hs => ?_) fun e s' hs => hs
  have fin : ∀ {σ' : St} {H' : Hp} {v : V} {u : Value}, Inv (cxOf CX P w K mg base N qual scope f cdv A outer s H E) [] σ' H' s' → RelV v u → Q v H' → CE outer P w H s Q u s' :=
    fun {σ' H' v u} J rv q => ⟨v, H', J.os, J.bare, J.base, J.hok, rv, q⟩
  cases fl with
  | ret u =>
    obtain ⟨v, σ', H', J, rv, q⟩ := hs
    exact fin J rv q
  | next =>
    obtain ⟨σ', H', J, q⟩ := hs
    exact fin (v := V.non) (u := Value.none) J rfl q
  | brk =>
    obtain ⟨_, _, _, q⟩ := hs
    exact False.elim q
  | cont =>
    obtain ⟨_, _, _, q⟩ := hs
    exact False.elim q
end L2

namespace L2
open PySem PySem.Spec PyProof.Rows
section
variable {X : Cx} {x : Str} {p pos : Pos} {e : Expr} {es : List Expr} {t : TA} {id T : String} {r : List V → Hp → VK → Prop}

def tCB (r : List V → Hp → VK → Prop) (t : TA) : TE := fun σ H Q => t σ H fun vs H1 => r vs H1 Q
theorem pe_callB (hc : CallR X (.builtin id) r) (hg : Gl X x) (hm : X.mg x = none) (hv : bootBuiltins x = some (.builtin id)) (ha : PA X (e :: es) t) (hn : x ≠ "__name__" := by decide) (hdb : (x == ("__debug__" : Str)) = false := by decide)
    (he : starEach (e :: es) X.env = (false, eval e X.env) :: starEach es X.env := by rfl) (hpl : (backTo pos (starEach es X.env)).any (·.1) = false := by rfl) : PE X (.Call (.Name x p) (e :: es) [] pos) (tCB r t) := by
  intro pins s σ H Q I h
  refine wpAny_Call_Name_kw (ld_blt I hg hm hv ?_ hn hdb)
  exact PyProof.Rows.callWith_builtin1 (thn (ha pos pins s σ H _ I h) fun us s1 ⟨vs, H1, I1, r1, q1⟩ => hc pins s1 σ H1 vs us Q I1 r1 q1) he hpl
theorem pe_callTy (hc : CallR X (.type T) r) (hg : Gl X x) (hm : X.mg x = none) (hv : bootBuiltins x = some (.type T)) (ha : PA X (e :: es) t) (hn : x ≠ "__name__" := by decide) (hdb : (x == ("__debug__" : Str)) = false := by decide)
    (he : starEach (e :: es) X.env = (false, eval e X.env) :: starEach es X.env := by rfl) (hpl : (backTo pos (starEach es X.env)).any (·.1) = false := by rfl) : PE X (.Call (.Name x p) (e :: es) [] pos) (tCB r t) := by
  intro pins s σ H Q I h
  refine wpAny_Call_Name_kw (ld_blt I hg hm hv ?_ hn hdb)
  exact PyProof.Rows.callWith_type1 (thn (ha pos pins s σ H _ I h) fun us s1 ⟨vs, H1, I1, r1, q1⟩ => hc pins s1 σ H1 vs us Q I1 r1 q1) he hpl
end
end L2

namespace HT
open PySem PyProof.Rows

section
open PySem.SeqAt
open PySem.AutoSeq1 (wpAny_loadPart')
open PySem.MeetsSeq PySem.MeetsSeq2 PySem.MeetsSeq3

end

section
variable {prog : Program} {w : World} {A : Around} {E : Value → Shared → Prop} {s : Shared}

def sIx (n d : Nat) : Option Int → Nat
  | none => d
  | some v => if v < 0 then (v + (n : Int)).toNat else min v.toNat n
theorem sIx_nat (n d k : Nat) : sIx n d (some (k : Int)) = min k n := by
  show (if (k : Int) < 0 then ((k : Int) + (n : Int)).toNat else min (k : Int).toNat n) = min k n
  rw [if_neg (by omega), Int.toNat_natCast]
theorem sIx_le (n d : Nat) (hd : d ≤ n) (o : Option Int) : sIx n d o ≤ n := by
  cases o with
  | none => exact hd
  | some v =>
    show (if v < 0 then (v + (n : Int)).toNat else min v.toNat n) ≤ n
    by_cases hv : v < 0
    · rw [if_pos hv]; omega
    · rw [if_neg hv]; exact Nat.min_le_right _ _
end
end HT

namespace L2
open PySem PySem.Spec PyProof.Rows

abbrev TO := St → Hp → (Option Int → Hp → Prop) → Prop
def PO (X : Cx) (e : Option Expr) (t : TO) : Prop :=
  ∀ (pins : List (Addr × Obj)) (s : Shared) (σ : St) (H : Hp) (Q : Option Int → Hp → Prop), Inv X pins σ H s → t σ H Q →
    wpAny (model X.prog X.w) X.A (evalPart e X.env) (fun u s' => ∃ o H', Inv X pins σ H' s' ∧ IsPart u o ∧ Q o H') X.xe s
def tNoPart : TO := fun _ H Q => Q none H
def tPart (t : TE) : TO := fun σ H Q => t σ H fun x H1 => ∃ i, x = .int i ∧ Q (some i) H1

section
variable {X : Cx} {e : Expr} {te : TE} {lo hi : Option Expr} {tl th : TO} {pos p2 : Pos}

theorem po_none : PO X none tNoPart := by
  intro pins s σ H Q I h
  rw [evalPart_none]
  exact wpAny_pure ⟨none, H, I, .none, h⟩
theorem po_some (h : PE X e te) : PO X (some e) (tPart te) := by
  intro pins s σ H Q I hw
  rw [evalPart_some]
  refine thn (h pins s σ H _ I hw) fun u s1 ⟨x, H1, I1, r1, q1⟩ => ?_
  obtain ⟨i, rfl, q⟩ := q1
  obtain ⟨t, rfl⟩ := r1
  exact ⟨some i, H1, I1, .int i t, q⟩

def SlR (X : Cx) (r : V → Option Int → Option Int → Hp → VK → Prop) : Prop :=
  ∀ (pins : List (Addr × Obj)) (s : Shared) (σ : St) (H : Hp) (x : V) (v vl vu : Value) (lo hi : Option Int) (sl : Addr) (Q : VK), Inv X pins σ H s → RelV x v → s.heap.IsSliceOf sl vl vu .none → IsPart vl lo → IsPart vu hi → r x lo hi H Q →
    ∃ T id, typeLookup (.type T) "__getitem__" = pure (some (.builtin id)) ∧ s.TypeIs v T ∧ wpAny (model X.prog X.w) X.A (getItem v (.ref sl)) (EP X pins σ Q) X.xe s
def tSl (r : V → Option Int → Option Int → Hp → VK → Prop) (te : TE) (tl th : TO) : TE := fun σ H Q => te σ H fun x H1 => tl σ H1 fun l H2 => th σ H2 fun u H3 => r x l u H3 Q
theorem pe_slice {r : V → Option Int → Option Int → Hp → VK → Prop} (hr : SlR X r) (he : PE X e te) (hl : PO X lo tl) (hu : PO X hi th) : PE X (.Subscript e (.Slice lo hi none p2) pos) (tSl r te tl th) := by
  intro pins s σ H Q I h
  refine Subscript_ (thn (he pins s σ H _ I h) fun v s1 ⟨x, H1, I1, r1, q1⟩ => ?_)
  refine wpAny_Slice (thn (hl pins s1 σ H1 _ I1 q1) fun vl s2 ⟨l, H2, I2, pl, q2⟩ => thn (hu pins s2 σ H2 _ I2 q2) fun vu s3 ⟨u, H3, I3, pu, q3⟩ => ?_)
  rw [evalPart_none]
  refine wpAny_pure ?_
  have I4 : Inv X pins σ H3 { s3 with heap := s3.heap.push { cls := .type "slice", data := .fields #[vl, vu, .none] } } := I3.kept (t' := s3.toks) fun b ob q => Heap.get?_push_of_some _ q
  obtain ⟨T, id, hT, ht, hg⟩ := hr pins { s3 with heap := s3.heap.push { cls := .type "slice", data := .fields #[vl, vu, .none] } } σ H3 x v vl vu l u s3.heap.objs.size Q I4 r1 (Heap.IsSliceOf.new ..) pl pu q3
  show wpAny (model X.prog X.w) X.A (subscriptTail e (.Slice lo hi none p2) v (.ref s3.heap.objs.size)) (EP X pins σ Q) X.xe { s3 with heap := s3.heap.push { cls := .type "slice", data := .fields #[vl, vu, .none] } }
  exact tail_any (ops := [.ref s3.heap.objs.size, v]) ht hT hg (by with_unfolding_all rfl)

def cutV (xs : List V) (lo hi : Option Int) : List V := (xs.drop (HT.sIx xs.length 0 lo)).take (HT.sIx xs.length xs.length hi - HT.sIx xs.length 0 lo)
theorem cutV_length (xs : List V) (lo hi : Option Int) : (cutV xs lo hi).length ≤ xs.length := by
  unfold cutV
  rw [List.length_take, List.length_drop]
  omega
end
end L2

namespace L2
open PySem PySem.Spec PyProof.Rows

def ixN (n : Nat) (i : Int) : Option Nat := if 0 ≤ i then (if i < n then some i.toNat else none) else if -(n : Int) ≤ i then some (i + n).toNat else none
def atI {α : Type} (xs : List α) (i : Int) : Option α := (ixN xs.length i).bind fun j => xs[j]?
theorem ixN_seq {n : Nat} {i : Int} {j : Nat} (h : ixN n i = some j) : seqIndex? i n = some j ∧ j < n ∧ -(n : Int) ≤ i ∧ i < n := by
  unfold ixN at h
  by_cases h0 : 0 ≤ i
  · rw [if_pos h0] at h
    by_cases h1 : i < n
    · rw [if_pos h1] at h
      have e : i.toNat = j := Option.some.inj h
      exact ⟨by rw [seqIndex_of h0 h1, e], by omega, by omega, h1⟩
    · rw [if_neg h1] at h; cases h
  · rw [if_neg h0] at h
    by_cases h1 : -(n : Int) ≤ i
    · rw [if_pos h1] at h
      have e : (i + n).toNat = j := Option.some.inj h
      exact ⟨by rw [seqIndex_neg (by omega) h1, e], by omega, h1, by omega⟩
    · rw [if_neg h1] at h; cases h
theorem atI_get {α : Type} {xs : List α} {i : Int} {v : α} (h : atI xs i = some v) : ∃ j, seqIndex? i xs.length = some j ∧ xs[j]? = some v ∧ j < xs.length ∧ -(xs.length : Int) ≤ i ∧ i < xs.length := by
  unfold atI at h
  cases e : ixN xs.length i with
  | none => rw [e] at h; cases h
  | some j =>
    rw [e] at h
    obtain ⟨h1, h2, h3, h4⟩ := ixN_seq e
    exact ⟨j, h1, h, h2, h3, h4⟩
theorem atI_nat {α : Type} {xs : List α} {j : Nat} {v : α} (h : xs[j]? = some v) : atI xs (j : Int) = some v := by
  have hj : j < xs.length := (List.getElem?_eq_some_iff.mp h).1
  have e : ixN xs.length (j : Int) = some j := by
    unfold ixN
    rw [if_pos (by omega), if_pos (by omega)]; simp
  unfold atI; rw [e]; exact h
theorem atI_last {α : Type} (xs : List α) (v : α) : atI (xs ++ [v]) (-1) = some v := by
  have hl : (xs ++ [v]).length = xs.length + 1 := by simp
  have e : ixN (xs ++ [v]).length (-1) = some xs.length := by
    unfold ixN
    rw [hl, if_neg (by decide), if_pos (by omega)]
    congr 1
    omega
  unfold atI
  rw [e]
  show (xs ++ [v])[xs.length]? = some v
  simp

def PlainIx (b : Expr) : Prop := ∀ o i, subscripted b false o i = operate [o, i] (getItem o i)
def IxR (X : Cx) (r : R2) : Prop :=
  ∀ (value slice : Expr) (pins : List (Addr × Obj)) (s : Shared) (σ : St) (H : Hp) (x y : V) (v u : Value) (Q : VK), Inv X pins σ H s → RelV x v → RelV y u → r x y H Q →
    subscripted slice false v u = operate [v, u] (getItem v u) → wpAny (model X.prog X.w) X.A (subscriptTail value slice v u) (EP X pins σ Q) X.xe s
def MtR (X : Cx) (id : String) (r : V → List V → Hp → VK → Prop) : Prop :=
  ∀ (pins : List (Addr × Obj)) (s : Shared) (σ : St) (H : Hp) (x : V) (xs : List V) (v : Value) (us : List Value) (Q : VK), Inv X pins σ H s → RelV x v → Vals xs us → r x xs H Q →
    wpAny (model X.prog X.w) X.A (call (.builtin id) (v :: us)) (EP X pins σ Q) X.xe s
section
variable {X : Cx} {a b : Expr} {ta tb : TE} {pos : Pos}
theorem pe_ix {r : R2} (hr : IxR X r) (ha : PE X a ta) (hb : PE X b tb) (hs : PlainIx b) : PE X (.Subscript a b pos) (tOp r ta tb) := by
  intro pins s σ H Q I h
  exact Subscript_ (binT ha hb I h fun v u s2 x y H2 I2 rx ry q => hr a b pins s2 σ H2 x y v u Q I2 rx ry q (hs _ _))

def rIxL (K : PySem.W.Frag) : R2 := fun x y H Q => ∃ p xs i v, x = .ref p ∧ y = .int i ∧ SqL K H p xs ∧ atI xs i = some v ∧ Q v H
def rIxS : R2 := fun x y H Q => ∃ z i c, x = .str z ∧ y = .int i ∧ z.length ≤ sizeLine ∧ atI z.cps.toList i = some c ∧ Q (.str ⟨#[c]⟩) H
theorem ix_list : IxR X (rIxL X.K) := by
  intro value slice pins s σ H x y v u Q I rx ry h hs
  obtain ⟨p, xs, i, z, rfl, rfl, hq, he, q⟩ := h
  cases rx
  obtain ⟨t, rfl⟩ := ry
  obtain ⟨its, r, pl, hz⟩ := I.list hq
  obtain ⟨j, h1, h2, h3, h4, h5⟩ := atI_get he
  obtain ⟨w, ew, rw'⟩ := r.get h2
  have hl := r.length
  have hn := line63
  have fin : EP X pins σ Q w s := ⟨z, H, I, rw', q⟩
  by_cases h0 : 0 ≤ i
  · have hj : i.toNat = j := by
      rw [seqIndex_of h0 h5] at h1
      exact Option.some.inj h1
    exact item_listR pl.isList h0 (by omega) (by rw [hj]; simpa using ew) fin hs
  · have hj : (i + (its.toArray.size : Int)).toNat = j := by
      rw [seqIndex_neg (by omega) h4] at h1
      rw [List.size_toArray, ← hl]
      exact Option.some.inj h1
    exact subscriptTail_builtinR (x := w) pl.isList.typeIs slot_list_getitem.lookup
      (wpAny_getItem_list_neg (Q := fun r s' => r = w ∧ EP X pins σ Q r s') pl.isList (by omega) (by rw [List.size_toArray] <;> omega) (by omega) (by rw [hj]; simpa using ew) ⟨rfl, fin⟩) hs
theorem ix_str : IxR X rIxS := by
  intro value slice pins s σ H x y v u Q I rx ry h hs
  obtain ⟨z, i, c, rfl, rfl, hz, he, q⟩ := h
  obtain ⟨t, rfl⟩ := rx
  obtain ⟨t', rfl⟩ := ry
  obtain ⟨j, h1, h2, h3, h4, h5⟩ := atI_get he
  have hl : z.cps.toList.length = z.length := by simp [Str.length]
  rw [hl] at h1 h4 h5
  have hn := line63
  exact tail_any (typeIs_str s z t) slot_str_getitem.lookup (getItem_str (c := c) (by
    have e1 : decide (i < -(2 ^ 63 : Int)) = false := decide_eq_false (by omega)
    have e2 : decide (i ≥ 2 ^ 63) = false := decide_eq_false (by omega)
    rw [e1, e2, Bool.or_false]) (by rw [h1]; simpa using h2) ⟨.str ⟨#[c]⟩, H, I.tok _, ⟨_, rfl⟩, q⟩) hs
theorem mapSeq_set (its : List Value) (n j : Nat) (u : Value) : Obj.mapSeq (·.setIfInBounds j u) { cls := .type "list", data := .seq its.toArray n } = { cls := .type "list", data := .seq (its.set j u).toArray n } := by
  simp [Obj.mapSeq]
theorem Inv.lst {pins : List (Addr × Obj)} {σ : St} {H : Hp} {s : Shared} {p : Addr} {xs : List V} (I : Inv X pins σ H s) (h : H p = some (.lst xs)) :
    ∃ (its : List Value) (n : Nat), Vals xs its ∧ s.heap.get? p = some { cls := .type "list", data := .seq its.toArray n } ∧ xs.length ≤ sizeLine := by
  obtain ⟨z, its, n, r, e⟩ := I.hok p _ h
  exact ⟨its, n, r, e, z⟩
theorem Inv.lstUpd {pins : List (Addr × Obj)} {σ : St} {H : Hp} {s : Shared} {p : Addr} {xs ys : List V} {its its' : List Value} {n n' : Nat} {f : Obj → Obj} (I : Inv X pins σ H s) (h : H p = some (.lst xs))
    (ho : s.heap.get? p = some { cls := .type "list", data := .seq its.toArray n }) (hf : f { cls := .type "list", data := .seq its.toArray n } = { cls := .type "list", data := .seq its'.toArray n' }) (r : Vals ys its') (hz : ys.length ≤ sizeLine) (t : Nat) :
    Inv X pins σ (upd H p (.lst ys)) { s with heap := s.heap.update p f, toks := t } := by
  have e : (s.heap.update p f).get? p = some { cls := .type "list", data := .seq its'.toArray n' } := by
    rw [Heap.get?_update_self f ho (by rw [hf] <;> rfl), hf]
  refine I.write (x := p) (e := p) (by rw [h]; trivial) (.inl rfl) (fun b u hb q => (Heap.get?_update_other _ _ (Ne.symm hb)).trans q) ⟨_, e⟩ ?_
  exact ⟨hz, its', n', r, e⟩
def rSetL : V → V → V → Hp → (Hp → Prop) → Prop := fun o i v H Q => ∃ p xs k j, o = .ref p ∧ i = .int k ∧ H p = some (.lst xs) ∧ ixN xs.length k = some j ∧ Q (upd H p (.lst (xs.set j v)))
theorem set_list : PSet X rSetL := by
  intro pins s σ H o i v ov iv u Q I ro ri rv h
  obtain ⟨p, xs, k, j, rfl, rfl, hp, hj, q⟩ := h
  cases ro
  obtain ⟨t, rfl⟩ := ri
  obtain ⟨its, n, r, ho, hz⟩ := I.lst hp
  obtain ⟨h1, h2, h3, h4⟩ := ixN_seq hj
  have hl := r.length
  have hn := line63
  have I' : Inv X pins σ (upd H p (.lst (xs.set j v))) { s with heap := s.heap.update p (Obj.mapSeq (·.setIfInBounds j u)) } :=
    I.lstUpd hp ho (mapSeq_set its n j u) (r.set rv j) (by rw [List.length_set]; exact hz) s.toks
  by_cases h0 : 0 ≤ k
  · have hk : k.toNat = j := by
      rw [seqIndex_of h0 h4] at h1
      exact Option.some.inj h1
    exact PySem.W.ki_setAt ho h0 (by omega) (by rw [List.size_toArray, ← hl]; exact h4) (by rw [hk]; exact ⟨_, I', q⟩)
  · have hk : (k + (its.toArray.size : Int)).toNat = j := by
      rw [seqIndex_neg (by omega) h3] at h1
      rw [List.size_toArray, ← hl]
      exact Option.some.inj h1
    exact PySem.W.ki_setBack ho (by omega) (by rw [List.size_toArray, ← hl]; exact h3) (by omega) (by rw [hk]; exact ⟨_, I', q⟩)

theorem slice_bounds (lo hi : Option Int) (n : Nat) : (sliceBounds lo hi none n).1 = ((HT.sIx n 0 lo : Nat) : Int) ∧ (sliceBounds lo hi none n).2.1 = ((HT.sIx n n hi : Nat) : Int) ∧ (sliceBounds lo hi none n).2.2 = 1 := by
  refine ⟨?_, ?_, rfl⟩
  · cases lo with
    | none => simp [sliceBounds, HT.sIx]
    | some i =>
      simp only [sliceBounds, HT.sIx, Option.getD_none, show (1 : Int) > 0 by decide, if_true]
      by_cases h : i < 0
      · simp only [h, if_true] <;> omega
      · simp only [h, if_false] <;> omega
  · cases hi with
    | none => simp [sliceBounds, HT.sIx]
    | some i =>
      simp only [sliceBounds, HT.sIx, Option.getD_none, show (1 : Int) > 0 by decide, if_true]
      by_cases h : i < 0
      · simp only [h, if_true] <;> omega
      · simp only [h, if_false] <;> omega
theorem slicePick_cut (its : List Value) (lo hi : Option Int) : slicePick its.toArray lo hi none = ((its.drop (HT.sIx its.length 0 lo)).take (HT.sIx its.length its.length hi - HT.sIx its.length 0 lo)).toArray := by
  obtain ⟨h1, h2, h3⟩ := slice_bounds lo hi its.toArray.size
  unfold slicePick
  rw [h1, h2, h3]
  simp only [sliceRange_one, pick_run, List.size_toArray] <;> rfl
def rSlL (K : PySem.W.Frag) : V → Option Int → Option Int → Hp → VK → Prop := fun x lo hi H Q => ∃ a xs, x = .ref a ∧ SqL K H a xs ∧ ∀ p, H p = none → Q (.ref p) (upd H p (.lst (cutV xs lo hi)))
theorem sl_list : SlR X (rSlL X.K) := by
  intro pins s σ H x v vl vu lo hi sl Q I rx hs pl pu h
  obtain ⟨a, xs, rfl, hx, q⟩ := h
  cases rx
  obtain ⟨its, r, ht, hz⟩ := I.list hx
  have hlen := r.length
  refine ⟨"list", _, slot_list_getitem.lookup, ht.isList.typeIs, ?_⟩
  refine wpAny_getItem_list_slice ht.isList hs pl pu .none (by simp) ?_ (by rw [List.size_toArray] <;> omega)
  rw [slicePick_cut, ← hlen]
  refine ⟨.ref s.heap.objs.size, _, I.laid (t' := s.toks) (o := .lst (cutV xs lo hi)) (fun b ob q => Heap.get?_push_of_some _ q) (Nat.le_refl _) ?_, rfl, q _ (I.hok.fresh (Nat.le_refl _))⟩
  exact ⟨Nat.le_trans (cutV_length xs lo hi) hz, _, 0, (r.drop (HT.sIx xs.length 0 lo)).take (HT.sIx xs.length xs.length hi - HT.sIx xs.length 0 lo), Heap.get?_push_size _ rfl⟩

def flatV : V → Bool
  | .non => true
  | .bl _ => true
  | .int _ => true
  | .str _ => true
  | _ => false
def eqV : V → V → Bool
  | .non, .non => true
  | .bl a, .bl b => a == b
  | .bl a, .int b => (if a then 1 else 0) == b
  | .int a, .bl b => a == (if b then 1 else 0)
  | .int a, .int b => a == b
  | .str a, .str b => a == b
  | _, _ => false
theorem eqAt_V {A : Around} {s : Shared} {y x : V} {u v : Value} (ry : RelV y u) (rx : RelV x v) (fy : flatV y = true) (fx : flatV x = true) : SeqAt.EqAt A s u v (eqV y x) := by
  cases y with
  | non =>
    cases ry
    cases x with
    | non => cases rx; exact SeqAt.EqAt.same _
    | bl b => cases rx; exact SeqAt.EqAt.none_bool b
    | int b => obtain ⟨t, rfl⟩ := rx; exact SeqAt.EqAt.none_int b t
    | str b => obtain ⟨t, rfl⟩ := rx; exact SeqAt.EqAt.none_str b t
    | _ => exact absurd (show false = true from fx) Bool.false_ne_true
  | bl a =>
    cases ry
    cases x with
    | non => cases rx; exact SeqAt.EqAt.bool_none a
    | bl b => cases rx; exact SeqAt.EqAt.bool_bool a b
    | int b => obtain ⟨t, rfl⟩ := rx; exact SeqAt.EqAt.bool_int a b t
    | str b => obtain ⟨t, rfl⟩ := rx; exact SeqAt.EqAt.bool_str a b t
    | _ => exact absurd (show false = true from fx) Bool.false_ne_true
  | int a =>
    obtain ⟨t', rfl⟩ := ry
    cases x with
    | non => cases rx; exact SeqAt.EqAt.int_none a t'
    | bl b => cases rx; exact SeqAt.EqAt.int_bool a t' b
    | int b => obtain ⟨t, rfl⟩ := rx; exact SeqAt.EqAt.int_int a t' b t
    | str b => obtain ⟨t, rfl⟩ := rx; exact SeqAt.EqAt.int_str a t' b t
    | _ => exact absurd (show false = true from fx) Bool.false_ne_true
  | str a =>
    obtain ⟨t', rfl⟩ := ry
    cases x with
    | non => cases rx; exact SeqAt.EqAt.str_none a t'
    | bl b => cases rx; exact SeqAt.EqAt.str_bool a t' b
    | int b => obtain ⟨t, rfl⟩ := rx; exact SeqAt.EqAt.str_int a t' b t
    | str b => obtain ⟨t, rfl⟩ := rx; exact SeqAt.EqAt.str_str a t' b t
    | _ => exact absurd (show false = true from fx) Bool.false_ne_true
  | _ => exact absurd (show false = true from fy) Bool.false_ne_true
def eqU (x : V) (u : Value) : Bool := match u with
  | .none => eqV .non x
  | .bool b => eqV (.bl b) x
  | .int i _ => eqV (.int i) x
  | .str z _ => eqV (.str z) x
  | _ => false
theorem eqU_of {x y : V} {u : Value} (r : RelV y u) (f : flatV y = true) : eqU x u = eqV y x := by
  cases y with
  | non => cases r; rfl
  | bl b => cases r; rfl
  | int i => obtain ⟨t, rfl⟩ := r; rfl
  | str z => obtain ⟨t, rfl⟩ := r; rfl
  | _ => exact absurd (show false = true from f) Bool.false_ne_true
theorem any_eqU {x : V} : ∀ {xs : List V} {us : List Value}, Vals xs us → xs.all flatV = true → us.any (eqU x) = xs.any fun y => eqV y x
  | _, _, .nil, _ => rfl
  | y :: xs, u :: us, .cons r t, f => by
    rw [List.all_cons, Bool.and_eq_true] at f
    rw [List.any_cons, List.any_cons, eqU_of r f.1, any_eqU t f.2]
theorem mem_eqAt {A : Around} {s : Shared} {x : V} {v : Value} (rx : RelV x v) (fx : flatV x = true) : ∀ {xs : List V} {us : List Value}, Vals xs us → xs.all flatV = true → ∀ u ∈ us, SeqAt.EqAt A s u v (eqU x u)
  | _, _, .nil, _ => fun u hu => by cases hu
  | y :: xs, u :: us, .cons r t, f => fun u' hu => by
    rw [List.all_cons, Bool.and_eq_true] at f
    rcases List.mem_cons.mp hu with rfl | hu
    · rw [eqU_of r f.1]; exact eqAt_V r rx f.1 fx
    · exact mem_eqAt rx fx t f.2 u' hu
def inV (x : V) (xs : List V) : Bool := xs.any fun y => eqV y x
def rIn (K : PySem.W.Frag) (neg : Bool) : R2 := fun x y H Q => ∃ p xs, y = .ref p ∧ (SqL K H p xs ∨ SqT K H p xs) ∧ flatV x = true ∧ xs.all flatV = true ∧ Q (.bl (if neg then !inV x xs else inV x xs)) H
theorem op_in_seq : OpR X (compareOp .In) (rIn X.K false) := by
  intro pins s σ H x y v u Q I rx ry h
  obtain ⟨p, xs, rfl, hq, fx, fs, q⟩ := h
  cases ry
  rcases hq with hq | hq
  · obtain ⟨its, r, pl, hz⟩ := I.list hq
    refine SeqAt.in_listAt (eqU x) pl.isList (fun w hw => mem_eqAt rx fx r fs w (by simpa using hw)) ⟨.bl _, H, I, rfl, ?_⟩
    rw [show its.toArray.any (eqU x) = its.any (eqU x) by simp, any_eqU r fs]
    exact q
  · obtain ⟨its, r, pl, hz⟩ := I.tuple hq
    refine SeqAt.in_tupleAt (eqU x) pl (fun w hw => mem_eqAt rx fx r fs w (by simpa using hw)) ⟨.bl _, H, I, rfl, ?_⟩
    rw [show its.toArray.any (eqU x) = its.any (eqU x) by simp, any_eqU r fs]
    exact q
theorem op_notIn_seq : OpR X (compareOp .NotIn) (rIn X.K true) := by
  intro pins s σ H x y v u Q I rx ry h
  obtain ⟨p, xs, rfl, hq, fx, fs, q⟩ := h
  cases ry
  rcases hq with hq | hq
  · obtain ⟨its, r, pl, hz⟩ := I.list hq
    refine SeqAt.notIn_listAt (eqU x) pl.isList (fun w hw => mem_eqAt rx fx r fs w (by simpa using hw)) ⟨.bl _, H, I, rfl, ?_⟩
    rw [show its.toArray.any (eqU x) = its.any (eqU x) by simp, any_eqU r fs]
    exact q
  · obtain ⟨its, r, pl, hz⟩ := I.tuple hq
    refine SeqAt.notIn_tupleAt (eqU x) pl (fun w hw => mem_eqAt rx fx r fs w (by simpa using hw)) ⟨.bl _, H, I, rfl, ?_⟩
    rw [show its.toArray.any (eqU x) = its.any (eqU x) by simp, any_eqU r fs]
    exact q
theorem call_len_seq : CallR X (.builtin "len") (fun xs H Q => ∃ p ys, xs = [.ref p] ∧ (SqL X.K H p ys ∨ SqT X.K H p ys) ∧ Q (.int ys.length) H) := by
  intro pins s σ H xs us Q I r h
  obtain ⟨p, ys, rfl, hq, q⟩ := h
  obtain ⟨u, rfl, rx⟩ := vals1 r
  cases rx
  have hn := line63
  rcases hq with hq | hq
  · obtain ⟨its, r', pl, hz⟩ := I.list hq
    have hlen := r'.length
    exact Calls.call_len_list pl.isList (by simp only [List.size_toArray] <;> omega) ⟨.int ys.length, H, I.tok _, ⟨s.toks + 1, by rw [List.size_toArray, hlen]⟩, q⟩
  · obtain ⟨its, r', pl, hz⟩ := I.tuple hq
    have hlen := r'.length
    exact len_tuple pl (by simp only [List.size_toArray] <;> omega) ⟨.int ys.length, H, I.tok _, ⟨s.toks + 1, by rw [List.size_toArray, hlen]⟩, q⟩
theorem call_len_str : CallR X (.builtin "len") (fun xs H Q => ∃ z, xs = [.str z] ∧ z.length ≤ sizeLine ∧ Q (.int z.length) H) := by
  intro pins s σ H xs us Q I r h
  obtain ⟨z, rfl, hz, q⟩ := h
  obtain ⟨u, rfl, t, rfl⟩ := vals1 r
  have hn := line63
  exact len_str (by omega) ⟨.int z.length, H, I.tok _, ⟨_, rfl⟩, q⟩
theorem call_list_of : CallR X (.type "list") (fun xs H Q => ∃ p ys, xs = [.ref p] ∧ (SqL X.K H p ys ∨ SqT X.K H p ys) ∧ ∀ l, H l = none → Q (.ref l) (upd H l (.lst ys))) := by
  intro pins s σ H xs us Q I r h
  obtain ⟨p, ys, rfl, hq, q⟩ := h
  obtain ⟨u, rfl, rx⟩ := vals1 r
  cases rx
  have fin : ∀ (its : List Value), Vals ys its → ys.length ≤ sizeLine → ∀ (h' : Heap) (c' : Nat), (∀ b o', s.heap.get? b = some o' → h'.get? b = some o') →
      h'.get? s.heap.objs.size = some { cls := .type "list", dict := none, data := .seq its.toArray c', slots := #[] } → EP X pins σ Q (.ref s.heap.objs.size) { s with heap := h' } := fun its r' hz h' c' kp e =>
    ⟨.ref s.heap.objs.size, _, I.laid (t' := s.toks) kp (Nat.le_refl _) (show ObjOk X.prog X.w _ h' _ (.lst ys) from ⟨hz, its, c', r', e⟩), rfl, q _ (I.hok.fresh (Nat.le_refl _))⟩
  rcases hq with hq | hq
  · obtain ⟨its, r', pl, hz⟩ := I.list hq
    have hlen := r'.length
    obtain ⟨o, ho, hc, n, hd⟩ := pl.isList
    exact call_list_seq p (.inl rfl) ho hc hd (fun h' c' kp e => fin its r' hz h' c' kp e) (by simp only [List.size_toArray] <;> omega)
  · obtain ⟨its, r', pl, hz⟩ := I.tuple hq
    have hlen := r'.length
    obtain ⟨o, ho, hc, n, hd⟩ := pl
    exact call_list_seq p (.inr rfl) ho hc hd (fun h' c' kp e => fin its r' hz h' c' kp e) (by simp only [List.size_toArray] <;> omega)
def tyV (K : PySem.W.Frag) (T : String) (x : V) (H : Hp) : Prop := match x with
  | .str _ => T = "str"
  | .int _ => T = "int"
  | .ref p => (T = "list" ∧ ∃ xs, SqL K H p xs) ∨ (T = "tuple" ∧ ∃ o, K.lookup p = some o ∧ o.cls = .type "tuple" ∧ o.dict = none) ∨
      (T = "dict" ∧ ((∃ kvs, H p = some (.dK kvs)) ∨ ∃ kvs, H p = some (.dT kvs))) ∨ (T = "set" ∧ ∃ S n, H p = some (.set S n))
  | _ => False
theorem tyV_is {pins : List (Addr × Obj)} {σ : St} {H : Hp} {s : Shared} {T : String} {x : V} {v : Value} (I : Inv X pins σ H s) (r : RelV x v) (ty : tyV X.K T x H) :
    s.TypeIs v T ∧ ∀ a, v = .ref a → ∃ ob, s.heap.get? a = some ob ∧ ob.dict = none := by
  cases x with
  | str z =>
    obtain ⟨t, rfl⟩ := r
    cases (show T = "str" from ty)
    exact ⟨typeIs_str s z t, fun _ e => nomatch e⟩
  | int i =>
    obtain ⟨t, rfl⟩ := r
    cases (show T = "int" from ty)
    exact ⟨typeIs_int s i t, fun _ e => nomatch e⟩
  | ref p =>
    cases r
    rcases ty with ⟨rfl, xs, hq⟩ | ⟨rfl, o, hk, hc, hd⟩ | ⟨rfl, hk⟩ | ⟨rfl, S, n, hk⟩
    · obtain ⟨its, _, pl, _⟩ := I.list hq
      refine ⟨pl.isList.typeIs, fun a e => ?_⟩
      cases e
      obtain ⟨o, n, e, c, hd, _⟩ := pl
      exact ⟨o, e, hd⟩
    · refine ⟨⟨o, I.kIn p o hk, hc⟩, fun a e => ?_⟩
      cases e
      exact ⟨o, I.kIn _ o hk, hd⟩
    · have z : ∃ o, s.heap.get? p = some o ∧ o.ExactDict := by
        rcases hk with ⟨kvs, hk⟩ | ⟨kvs, hk⟩
        · obtain ⟨_, _, _, _, o, _, _, e, ex, _⟩ := I.hok p _ hk
          exact ⟨o, e, ex⟩
        · obtain ⟨_, _, _, _, o, _, _, e, ex, _⟩ := I.hok p _ hk
          exact ⟨o, e, ex⟩
      obtain ⟨o, e, ex⟩ := z
      refine ⟨⟨o, e, ex.1⟩, fun a e2 => ?_⟩
      cases e2
      exact ⟨o, e, ex.2.1⟩
    · obtain ⟨o, _, _, _, e, ex, _⟩ := I.hok p _ hk
      refine ⟨⟨o, e, ex.1⟩, fun a e2 => ?_⟩
      cases e2
      exact ⟨o, e, ex.2.1⟩
  | _ => exact False.elim ty
def tBM0 (K : PySem.W.Frag) (T : String) (r : V → List V → Hp → VK → Prop) (to : TE) : TE := fun σ H Q => to σ H fun x H1 => tyV K T x H1 ∧ r x [] H1 Q
def tBM (K : PySem.W.Frag) (T : String) (r : V → List V → Hp → VK → Prop) (to : TE) (t : TA) : TE := fun σ H Q => to σ H fun x H1 => tyV K T x H1 ∧ t σ H1 fun xs H2 => r x xs H2 Q
variable {o e : Expr} {es : List Expr} {to : TE} {t : TA} {name : Str} {apos cpos : Pos} {T id : String} {r : V → List V → Hp → VK → Prop}
theorem pe_bm0 (pa : PlainAttrs T) (slot : Slot T name id) (hty : typeOf (.builtin id) = pure (.type "method_descriptor")) (hm : MtR X id r) (ho : PE X o to)
    (hbase : attributeBase o name X.env (eval o X.env) = eval o X.env := by rfl) (hline : (apos.endLine == cpos.line) = true := by rfl) : PE X (.Call (.Attribute o name apos) [] [] cpos) (tBM0 X.K T r to) := by
  intro pins s σ H Q I h
  refine wpAny_Call_method0_late hbase hline (thn (ho pins s σ H _ I h) fun v s1 ⟨x, H1, I1, r1, ty, q1⟩ => ?_)
  obtain ⟨h1, h2⟩ := tyV_is I1 r1 ty
  exact ⟨T, id, pa, slot, hty, h1, h2, Calls.callWith_builtin rfl (PySem.evalArgs_none (hm pins s1 σ H1 x [] v [] Q I1 r1 .nil q1))⟩
theorem pe_bm (pa : PlainAttrs T) (slot : Slot T name id) (hty : typeOf (.builtin id) = pure (.type "method_descriptor")) (hm : MtR X id r) (ho : PE X o to) (ha : PA X (e :: es) t)
    (hbase : attributeBase o name X.env (eval o X.env) = eval o X.env := by rfl)
    (hfew : ((backTo cpos (starEach (e :: es) X.env)).all (fun x => !x.1) && (backToKw cpos (keywordEach [] X.env)).all (fun x => x.1.isSome)
      && decide ((e :: es).length + ([] : List Keyword).length + (if ([] : List Keyword).isEmpty then 0 else 1) < 30)) = true := by rfl)
    (hline : (apos.endLine == cpos.line) = true := by rfl) (hs : starEach (e :: es) X.env = (false, eval e X.env) :: starEach es X.env := by rfl) (hplain : (backTo cpos (starEach es X.env)).any (·.1) = false := by rfl) :
    PE X (.Call (.Attribute o name apos) (e :: es) [] cpos) (tBM X.K T r to t) := by
  intro pins s σ H Q I h
  refine wpAny_Call_method_late hbase hfew hline rfl (thn (ho pins s σ H _ I h) fun v s1 ⟨x, H1, I1, r1, ty, q1⟩ => ?_)
  obtain ⟨h1, h2⟩ := tyV_is I1 r1 ty
  refine ⟨T, id, pa, slot, hty, h1, h2, ?_⟩
  have hA := ha cpos pins s1 σ H1 _ I1 q1
  rw [hs] at hA ⊢
  refine Calls.callWith_builtin (by show (false || (backTo cpos (starEach es X.env)).any (·.1)) = false; rw [hplain] <;> rfl) (Calls.evalArgs_plain ?_)
  exact thn hA fun us s2 ⟨vs, H2, I2, r2, q2⟩ => hm pins s2 σ H2 x vs v us Q I2 r1 r2 q2
/- xs.append(e), list.index on a module's tuple .. are MtR facts of 06m -/
end
end L2

namespace L2
open PySem PySem.Spec PyProof.Rows

def MtM (X : Cx) (id : String) (r : V → List V → Hp → VK → Prop) : Prop :=
  ∀ (pins : List (Addr × Obj)) (s : Shared) (σ : St) (H : Hp) (x : V) (xs : List V) (v : Value) (us : List Value) (Q : VK), Inv X pins σ H s → RelV x v → Vals xs us → r x xs H Q →
    wpAny (model X.prog X.w) X.A (call (.builtin id) (v :: us)) (EP X pins σ Q) X.xe s

theorem Vals.one : ∀ {x : V} {us : List Value}, Vals [x] us → ∃ u, us = [u] ∧ RelV x u
  | _, _, .cons r .nil => ⟨_, rfl, r⟩
theorem Vals.zero : ∀ {us : List Value}, Vals [] us → us = []
  | _, .nil => rfl
theorem Vals.dropLast {xs : List V} {us : List Value} (h : Vals xs us) : Vals xs.dropLast us.dropLast := by
  induction h with
  | nil => exact .nil
  | cons r t ih =>
    cases t with
    | nil => exact .nil
    | cons q t' => exact .cons r ih
theorem Vals.rep {xs : List V} {us : List Value} (h : Vals xs us) : ∀ k : Nat, Vals (List.replicate k xs).flatten (List.replicate k us).flatten
  | 0 => .nil
  | k + 1 => by
    rw [List.replicate_succ, List.replicate_succ, List.flatten_cons, List.flatten_cons]
    exact Vals.append h (Vals.rep h k)
theorem erase_last {α : Type} (l : List α) : l.eraseIdx (l.length - 1) = l.dropLast := by
  induction l with
  | nil => rfl
  | cons a r ih =>
    cases r with
    | nil => rfl
    | cons b r =>
      have e : (a :: b :: r).length - 1 = ((b :: r).length - 1) + 1 := by
        have h1 : (a :: b :: r).length = r.length + 2 := rfl
        have h2 : (b :: r).length = r.length + 1 := rfl
        omega
      rw [e, List.eraseIdx_cons_succ, ih]
      all_goals rfl
theorem foldl_rep (its : List Value) : ∀ (k : Nat) (acc : List Value),
    List.foldl (fun x1 x2 => x1 ++ x2) acc.toArray (List.replicate k its.toArray) = (acc ++ (List.replicate k its).flatten).toArray
  | 0, acc => by simp
  | k + 1, acc => by
    have e : acc.toArray ++ its.toArray = (acc ++ its).toArray := by simp
    have e2 : (acc ++ its) ++ (List.replicate k its).flatten = acc ++ (List.replicate (k + 1) its).flatten := by
      rw [List.replicate_succ, List.flatten_cons, List.append_assoc]
    rw [← e2, ← foldl_rep its k (acc ++ its), ← e, List.replicate_succ, List.foldl_cons]

section
variable {X : Cx} {pins : List (Addr × Obj)} {σ : St} {H : Hp} {s : Shared} {l b : Addr} {xs ys zs : List V}

theorem Inv.lset {its its' : List Value} {n : Nat} {f : Array Value → Array Value} {t' : Nat} (I : Inv X pins σ H s) (hH : H l = some (.lst xs))
    (e : s.heap.get? l = some { cls := .type "list", data := .seq its.toArray n }) (hf : f its.toArray = its'.toArray) (hv : Vals ys its') (hz : ys.length ≤ sizeLine) :
    Inv X pins σ (upd H l (.lst ys)) { s with heap := s.heap.update l (Obj.mapSeq f), toks := t' } := by
  have q := PySem.IsL.update e f
  rw [hf] at q
  refine I.write (x := l) (e := l) (by rw [hH]; exact trivial) (.inl rfl) (fun b' u hb hu => (Heap.get?_update_other s.heap (Obj.mapSeq f) (Ne.symm hb)).trans hu) ⟨_, q⟩ ?_
  exact ⟨hz, its', _, hv, q⟩
theorem Inv.lnew {its : List Value} {t' : Nat} (I : Inv X pins σ H s) (hv : Vals ys its) (hz : ys.length ≤ sizeLine) :
    Inv X pins σ (upd H s.heap.objs.size (.lst ys)) { s with heap := s.heap.push { cls := .type "list", data := .seq its.toArray }, toks := t' } :=
  I.laid (fun _ _ q => Heap.get?_push_of_some _ q) (Nat.le_refl _) ⟨hz, its, 0, hv, Heap.get?_push_size _ rfl⟩
theorem Inv.fresh (I : Inv X pins σ H s) : H s.heap.objs.size = none := I.hok.fresh (Nat.le_refl _)
theorem Inv.lstM (I : Inv X pins σ H s) (hH : H l = some (.lst xs)) : xs.length ≤ sizeLine ∧ ∃ (its : List Value) (n : Nat), Vals xs its ∧ xs.length = its.length ∧ s.heap.get? l = some { cls := .type "list", data := .seq its.toArray n } := by
  obtain ⟨z, its, n, r, e⟩ := I.hok l _ hH
  exact ⟨z, its, n, r, r.length, e⟩

theorem notLongL {n : Nat} (h : n ≤ sizeLine) : Builtin.List.listTooLong n = false := by
  unfold Builtin.List.listTooLong
  exact decide_eq_false (by omega)
end

section
variable {X : Cx}

def rAppend : V → List V → Hp → VK → Prop := fun x vs H Q => ∃ l xs y, x = .ref l ∧ vs = [y] ∧ H l = some (.lst xs) ∧ xs.length < sizeLine ∧ Q .non (upd H l (.lst (xs ++ [y])))
theorem mt_append : MtM X "list.append" rAppend := by
  intro pins s σ H x vs v us Q I rx rv h
  obtain ⟨l, xs, y, rfl, rfl, hH, hz, q⟩ := h
  cases rx
  obtain ⟨u, rfl, ru⟩ := rv.one
  obtain ⟨z, its, n, r, hl, e⟩ := I.lstM hH
  refine call_meets F.slot_list_append ⟨_, e, rfl⟩ F.entry_list_append (F.args_list_append_2 _ _) (PySem.list_append l its.toArray n u (by rw [List.size_toArray]; omega)) ⟨e, ?_⟩
  refine ⟨.non, _, I.lset (its' := its ++ [u]) hH e (by simp) (r.append (.cons ru .nil)) ?_, rfl, q⟩
  rw [List.length_append, List.length_singleton]
  omega

def rExtend : V → List V → Hp → VK → Prop := fun x vs H Q => ∃ l b xs zs, x = .ref l ∧ vs = [.ref b] ∧ H l = some (.lst xs) ∧ H b = some (.lst zs) ∧ xs.length + zs.length ≤ sizeLine ∧ Q .non (upd H l (.lst (xs ++ zs)))
theorem mt_extend : MtM X "list.extend" rExtend := by
  intro pins s σ H x vs v us Q I rx rv h
  obtain ⟨l, b, xs, zs, rfl, rfl, hH, hB, hz, q⟩ := h
  cases rx
  obtain ⟨u, rfl, ru⟩ := rv.one
  cases ru
  obtain ⟨z, its, n, r, hl, e⟩ := I.lstM hH
  obtain ⟨z2, its2, n2, r2, hl2, e2⟩ := I.lstM hB
  have hsz : its.toArray.size + its2.toArray.size ≤ sizeLine := by rw [List.size_toArray, List.size_toArray]; omega
  have hlong : ¬ (!its.toArray.isEmpty && Builtin.List.listTooLong (its.toArray.size + its2.toArray.size)) = true := by
    rw [notLongL hsz, Bool.and_false]
    exact Bool.false_ne_true
  refine call_meets F.slot_list_extend ⟨_, e, rfl⟩ F.entry_list_extend (F.args_list_extend_2 _ _)
    (AutoSeq1.list_extend_list_list_0 l its.toArray n b its2.toArray n2 hlong (by rw [List.size_toArray]; omega) (by omega)) ⟨e, e2, ?_⟩
  refine ⟨.non, _, I.lset (its' := its ++ its2) hH e (by simp) (r.append r2) ?_, rfl, q⟩
  rw [List.length_append]
  omega

def rPop : V → List V → Hp → VK → Prop := fun x vs H Q => ∃ l xs y, x = .ref l ∧ vs = [] ∧ H l = some (.lst xs) ∧ xs[xs.length - 1]? = some y ∧ Q y (upd H l (.lst xs.dropLast))
theorem mt_pop : MtM X "list.pop" rPop := by
  intro pins s σ H x vs v us Q I rx rv h
  obtain ⟨l, xs, y, rfl, rfl, hH, hy, q⟩ := h
  cases rx
  have hus := rv.zero
  subst hus
  obtain ⟨z, its, n, r, hl, e⟩ := I.lstM hH
  obtain ⟨u, hu, ru⟩ := r.get hy
  have hy' : its.toArray[its.toArray.size - 1]? = some u := by
    show its.toArray[its.length - 1]? = some u
    rw [← Array.getElem?_toList, ← hl]
    exact hu
  refine call_meets F.slot_list_pop ⟨_, e, rfl⟩ F.entry_list_pop (F.args_list_pop_1 _) (MeetsSeq.list_pop_last l its.toArray n u hy' (by rw [List.size_toArray]; omega)) ⟨e, ?_⟩
  refine ⟨y, _, I.lset (its' := its.dropLast) hH e ?_ r.dropLast ?_, ru, q⟩
  · show its.toArray.eraseIdxIfInBounds (its.toArray.size - 1) = its.dropLast.toArray
    rw [List.size_toArray, List.eraseIdxIfInBounds_toArray, erase_last]
  · rw [List.length_dropLast]
    omega

def rCat : R2 := fun x y H Q => ∃ l b xs zs, x = .ref l ∧ y = .ref b ∧ H l = some (.lst xs) ∧ H b = some (.lst zs) ∧ xs.length + zs.length ≤ sizeLine ∧ ∀ p, H p = none → Q (.ref p) (upd H p (.lst (xs ++ zs)))
theorem op_cat : OpR X (binaryOp .Add) rCat := by
  intro pins s σ H x y v u Q I rx ry h
  obtain ⟨l, b, xs, zs, rfl, rfl, hH, hB, hz, q⟩ := h
  cases rx
  cases ry
  obtain ⟨z, its, n, r, hl, e⟩ := I.lstM hH
  obtain ⟨z2, its2, n2, r2, hl2, e2⟩ := I.lstM hB
  refine PySem.P.add_list e e2 ?_ (by rw [List.size_toArray, List.size_toArray]; omega)
  have ea : its.toArray ++ its2.toArray = (its ++ its2).toArray := by simp
  rw [ea]
  exact ⟨.ref _, _, I.lnew (t' := s.toks) (r.append r2) (by rw [List.length_append]; omega), rfl, q _ I.fresh⟩
def rRep : R2 := fun x y H Q => ∃ l k xs, x = .ref l ∧ y = .int k ∧ H l = some (.lst xs) ∧ -(2 ^ 63) ≤ k ∧ k < 2 ^ 63 ∧ xs.length * k.toNat ≤ sizeLine ∧
  ∀ p, H p = none → Q (.ref p) (upd H p (.lst (List.replicate k.toNat xs).flatten))
theorem len_rep {α : Type} (xs : List α) (k : Nat) : (List.replicate k xs).flatten.length = k * xs.length := by
  induction k with
  | zero => simp
  | succ k ih => rw [List.replicate_succ, List.flatten_cons, List.length_append, ih, Nat.succ_mul, Nat.add_comm]
theorem op_rep : OpR X (binaryOp .Mult) rRep := by
  intro pins s σ H x y v u Q I rx ry h
  obtain ⟨l, k, xs, rfl, rfl, hH, h1, h2, hz, q⟩ := h
  cases rx
  obtain ⟨t, rfl⟩ := ry
  obtain ⟨z, its, n, r, hl, e⟩ := I.lstM hH
  have hlen : its.toArray.size * k.toNat ≤ sizeLine := by rw [List.size_toArray, ← hl]; exact hz
  have hcap : ¬ its.toArray.size * k.toNat > (2 ^ 63 - 1) / 8 := by
    have : (sizeLine : Nat) ≤ (2 ^ 63 - 1) / 8 := by decide
    omega
  have hfit : ¬ (!Builtin.List.listFitsIndex k) = true := by
    rw [fitsIndex_both h1 h2]
    exact Bool.false_ne_true
  have hlong : ¬ Builtin.List.listTooLong (its.toArray.size * k.toNat) = true := by
    rw [notLongL hlen]
    exact Bool.false_ne_true
  have hnew : List.foldl (fun x1 x2 => x1 ++ x2) #[] (List.replicate (if its.toArray.isEmpty = true then 0 else k.toNat) its.toArray) = (List.replicate k.toNat its).flatten.toArray := by
    have f0 : ∀ m : Nat, List.foldl (fun x1 x2 => x1 ++ x2) #[] (List.replicate m its.toArray) = (List.replicate m its).flatten.toArray := fun m => by
      have := foldl_rep its m []
      rw [List.nil_append] at this
      exact this
    rw [f0]
    cases its with
    | nil => simp
    | cons a r' => rw [if_neg (by simp)]
  refine wpAny_binaryOp_repeat_ref (T := "list") (U := "int") (by decide) ⟨_, e, rfl⟩ (fun s' => typeIs_int s' k t) noFill_list_mul F.fills_int_mul F.slot_int_rmul repeat_list F.slot_int_index.lookup
    (call_meets F.slot_int_rmul (typeIs_int s k t) F.entry_int_rmul (F.args_int_rmul_2 _ _) (int___rmul___int_list k t l its.toArray n)
      ⟨e, rfl, ⟨_, e, rfl⟩, call_meets F.slot_list_mul ⟨_, e, rfl⟩ F.entry_list_mul (F.args_list_mul_2 _ _) (AutoListH.list___mul___list_int_3 l its.toArray n k t hfit hcap hlong) ⟨e, ?_⟩⟩)
  rw [hnew]
  exact ⟨.ref _, _, I.lnew (t' := s.toks) (r.rep k.toNat) (by rw [len_rep, Nat.mul_comm]; exact hz), rfl, q _ I.fresh⟩

end


end L2

namespace Att
open PySem PySem.W PySem.Calls PyProof.Rows

theorem ints_of_wellAll {P : Params} {h : Heap} : ∀ (ns : List Int) (vs : List Value), WellAll P h vs (ns.map WData.int) → IntsAre vs ns := by
  intro ns
  induction ns with
  | nil =>
    intro vs w
    rw [List.map_nil] at w
    cases w
    exact .nil
  | cons n ns ih =>
    intro vs w
    rw [List.map_cons] at w
    cases w with
    | cons a b =>
      cases a
      exact .cons _ _ (ih _ b)

theorem script_of {l : OpenLaw} {n : Nat} (hn : l.most = some n) {P : Params} {h : Heap} {args : List WData} {vals : List Value}
    (hpre : l.row.toRowW.claim.pre args = true) (hwl : WellAll P h vals args) :
    ∃ a vs ns, vals = [Value.ref a] ∧ args = [WData.list (ns.map WData.int)] ∧ h.get? a = some { cls := .type "list", data := .seq vs.toArray } ∧ IntsAre vs ns ∧ ns.length ≤ n := by
  have hsh : WShape.hasAll [] args [.list .int] = true := (pre_splitW hpre).1
  have hc : l.pre.holds [] { args := args } = true := (pre_splitW hpre).2
  obtain ⟨d, r, rfl, h1, h2⟩ := hasAllW_cons hsh
  obtain rfl := hasAllW_nil h2
  obtain ⟨xs, rfl, h3⟩ := hasW_list h1
  obtain ⟨ns, rfl⟩ := items_int h3
  have hlen : ns.length ≤ n := by
    unfold OpenLaw.pre at hc
    have h4 : (WTm.not (.lt (.lit (.int (n : Int))) (.len (.arg 0)))).holds [] { args := [.list (ns.map .int)] } = true := by
      have h4 := (holds_andW hc).1
      rw [hn] at h4
      exact h4
    have h5 := condW_of h4 (w_not (w_lt w_lit (w_len_list (w_arg rfl))))
    rw [List.length_map] at h5
    refine Nat.le_of_not_lt fun q => ?_
    have q' : (n : Int) < ((ns.length : Nat) : Int) := by omega
    first
      | (rw [decide_eq_true q'] at h5; exact absurd h5 (by decide))
      | (simp at h5; omega)
  cases hwl with
  | cons w1 w2 =>
    cases w2
    cases w1 with
    | list ho hall => exact ⟨_, _, ns, rfl, rfl, ho, ints_of_wellAll ns _ hall, hlen⟩

theorem post_true (l : OpenLaw) (args : List WData) : l.row.toRowW.claim.post args (.bool true) args = true :=
  postW_of (r := l.row.toRowW) (X := (true == true))
    (show WShape.has [] (.bool true) .bool = true by first | rfl | decide | simp [WShape.has, WShape.arms, WShape.armsAll])
    (show (WTm.eq .res (.lit (.bool true))).value [] { args := args, res := some (.bool true), after := args } = some (.bool (true == true)) from w_eq_bool (w_res rfl) w_lit) rfl

theorem attach_call {l : OpenLaw} {n : Nat} {q : Program} {loose : List Str} {XP : (Str → Option Value) → Heap → Prop} {YP : World → Heap → Prop} {d : DefRec}
    (hn : l.most = some n) (hdf : d.params.defaults = [])
    (call : ∀ (w : World) (s₀ s₁ : Shared) (mg mb : Str → Option Value) (fa : Addr) (o : Obj) (pm cd doc : Value) (a : Addr) (vs : List Value) (ns : List Int),
      Ground q loose [] XP w s₀ mg mb s₁.heap → YP w s₁.heap →
      s₁.heap.get? fa = some o → o.data = .func (docDef d.name d.params d.body d.scope pm cd doc) → s₁.heap.CodeRec cd d.name → mg d.name = some (.ref fa) →
      s₁.heap.get? a = some { cls := .type "list", data := .seq vs.toArray } → IntsAre vs ns → ns.length ≤ n → s₁.gens = #[] →
      codeAny (model l.prog w) callerA (.call (.ref fa) ⟨[.ref a], []⟩) (fun r s' => r = .ok (.ret (.bool true)) ∧ OldK s₁.heap s'.heap ∧ s'.os = s₁.os ∧ AllBare s'.gens) s₁) :
    WalkO q loose XP YP l.row.toRowW d [] (fun f vs => PySem.call f vs) := by
  intro w s₀ s₁ mg mb G Y fa o pm cd doc dV kV ho hd hcd hD hmg hg args vals as hpre hlay hrd hwl hlo
  obtain rfl : dV = .none := Dflts.none hD hdf
  obtain rfl : kV = .none := Dflts.noKw hD
  obtain ⟨a, vs, ns, rfl, rfl, hobj, hints, hlen⟩ := script_of hn hpre hwl
  refine enter_call (codeAny_mono (call w s₀ s₁ mg mb fa o pm cd doc a vs ns G Y ho (fd_plain hd) hcd hmg hobj hints hlen hg) fun r s' hq => ?_)
  obtain ⟨rfl, h2, h3, h4⟩ := hq
  exact ⟨.inl ⟨.bool true, .bool true, [], rfl, fun _ => rfl, .bool true, post_true l _, fun _ => ⟨List.Pairwise.nil, fun _ hm => (nomatch hm)⟩⟩, h2, h3, h4⟩

section
variable {prog : Program} {w : World} {A : Around} {E : Value → Shared → Prop} {s : Shared} {K : Frag}

end
end Att

namespace L2
open PySem PySem.Spec PyProof.Rows

theorem vals_ints : ∀ {vs : List Value} {ns : List Int}, IntsAre vs ns → Vals (ns.map V.int) vs
  | _, _, .nil => .nil
  | _, _, .cons n t h => .cons ⟨t, rfl⟩ (vals_ints h)

end L2

namespace L2
open PySem PySem.Spec PyProof.Rows

end L2



namespace L2
open PySem PySem.Spec PyProof.Rows

def inClass (s : Stmt) (j : Nat) : Stmt := match s with
  | .ClassDef _ _ _ body _ _ _ _ _ _ _ => body.getD j (.Pass ⟨0, 0, 0, 0⟩)
  | _ => .Pass ⟨0, 0, 0, 0⟩
def defArgs (s : Stmt) : Arguments := match s with
  | .FunctionDef _ a _ _ _ _ _ _ _ _ => a
  | _ => { posonlyargs := [], args := [], vararg := none, kwonlyargs := [], kw_defaults := [], kwarg := none, defaults := [] }
def defBody (s : Stmt) : List Stmt := match s with
  | .FunctionDef _ _ b _ _ _ _ _ _ _ => b
  | _ => []
def defScope (s : Stmt) : Scope := match s with
  | .FunctionDef _ _ _ _ _ _ sc _ _ _ => sc
  | _ => { kind := .function, names := [], isGenerator := false, isCoroutine := false }

abbrev CX0 : CXT := fun _ _ _ _ _ _ => False
abbrev E0 : XK := fun _ _ _ => False
theorem pass0 {X : Cx} : Passes CX0 X E0 := fun _ _ _ _ _ _ _ h => h.elim

structure Fun (K : PySem.W.Frag) (x qual : Str) (st : Stmt) (f : Addr) (fd : FuncData) : Prop where
  ex : ∃ (oc : Value) (od : Option Addr) (kV doc pm : Value) (an : Option Addr) (cdv ct : Value) (osl : Array (Option Value)),
    fd = PySem.W.fnOf x qual (defArgs st) (defBody st) (defScope st) .none kV doc pm an cdv ct ∧ K.lookup f = some ⟨oc, od, .func fd, osl⟩ ∧ PySem.W.codeIn K cdv qual = true
  kp : PySem.W.keepIn K (.ref f) = true
section
variable {P : Program} {w : World} {K : PySem.W.Frag} {mg : Str → Option Value} {base : Heap}
theorem Fun.ok {x qual : Str} {st : Stmt} {f : Addr} {fd : FuncData} {N ps : List Str} {k : Nat} {sp : Sp} (F : Fun K x qual st f fd) (S : FnScope N ps (defScope st)) (len : ∀ vs H Q E, sp vs H Q E → vs.length = ps.length)
    (hbody : ∀ (cdv : Value) (A : Around) (outer : List Env) (s : Shared) (H : Hp) (vs : List V) (Q : VK) (E : XK), Room k (A.deeper (envOfC qual (defScope st) s.heap.objs.size f cdv)) → sp vs H Q E →
      ∃ t, PSs (cxOf CX0 P w K mg base N qual (defScope st) f cdv A outer s H E).nox (defBody st) t ∧ t { nx := fun _ H' => Q .non H', rt := Q } (start N vs) H) : FnOk P w K mg base CX0 (k + 1) f fd ps sp := by
  obtain ⟨oc, od, kV, doc, pm, an, cdv, ct, osl, rfl, lk, hcd⟩ := F.ex
  refine fn_of lk hcd S len fun A outer s H vs Q E hr hsp => ?_
  obtain ⟨t, h, q⟩ := hbody cdv A outer s H vs Q E hr hsp
  exact ⟨t, h.nox, q⟩
theorem Fun.binds {x qual : Str} {st : Stmt} {f : Addr} {fd : FuncData} {ps : List Str} (F : Fun K x qual st f fd)
    (h : ∀ (kV doc pm : Value) (an : Option Addr) (cdv ct : Value) (us : List Value), us.length = ps.length → bindArgs (PySem.W.fnOf x qual (defArgs st) (defBody st) (defScope st) .none kV doc pm an cdv ct) ⟨us, []⟩ = pure (ps.zip us)) : Binds K fd ps [] := by
  obtain ⟨oc, od, kV, doc, pm, an, cdv, ct, osl, rfl, lk, hcd⟩ := F.ex
  exact .all (h kV doc pm an cdv ct)
theorem fun_mk {x qual : Str} {st : Stmt} {f : Addr} {oc : Value} {od an : Option Addr} {osl : Array (Option Value)} {kV doc pm cdv ct : Value} (l : K.lookup f = some ⟨oc, od, .func (PySem.W.fnOf x qual (defArgs st) (defBody st) (defScope st) .none kV doc pm an cdv ct), osl⟩)
    (c : PySem.W.codeIn K cdv qual = true) (k : PySem.W.keepIn K (.ref f) = true) : Fun K x qual st f (PySem.W.fnOf x qual (defArgs st) (defBody st) (defScope st) .none kV doc pm an cdv ct) := ⟨⟨oc, od, kV, doc, pm, an, cdv, ct, osl, rfl, l, c⟩, k⟩
end
theorem small1000 {n : Nat} (h : n ≤ 1000) : n < sizeLine := Nat.lt_of_le_of_lt h (by decide)

section
variable {X : Cx}
theorem pv (i : Nat) {x : Str} {pos : Pos} (hN : X.N[i]? = some x := by rfl) (hv : Vis X.env.scope x := by first | exact Or.inl rfl | exact Or.inr (Or.inl rfl) | exact Or.inr (Or.inr rfl)) (hd : (x == ("__debug__" : Str)) = false := by decide)
    (hcd : (x == ("__classdict__" : Str)) = false := by decide) : PE X (.Name x pos) (tVar i) := pe_var hN hv hd hcd
end

theorem iteF {A B : Prop} (h : B) : if false = true then A else B := by
  rw [if_neg Bool.false_ne_true]
  exact h
theorem iteT {A B : Prop} (h : A) : if true = true then A else B := by
  rw [if_pos rfl]
  exact h
def Same (H H' : Hp) : Prop := ∀ b o, H b = some o → H' b = some o
theorem Same.refl (H : Hp) : Same H H := fun _ _ h => h
theorem Same.trans {H H1 H2 : Hp} (a : Same H H1) (b : Same H1 H2) : Same H H2 := fun c o h => b c o (a c o h)
theorem Same.free {H H' : Hp} (e : Same H H') {l : Addr} (h : H' l = Option.none) : H l = Option.none := by
  cases q : H l with
  | none => rfl
  | some o =>
    rw [e l o q] at h
    cases h
theorem Same.seq {K : PySem.W.Frag} {H H' : Hp} {a : Addr} {xs : List V} (e : Same H H') (h : SqL K H a xs) : SqL K H' a xs := by
  rcases h with (h | ⟨o, h⟩) | h
  · exact .inl (.inl (e _ _ h))
  · exact .inl (.inr ⟨o, e _ _ h⟩)
  · exact .inr h

end L2


section
set_option Elab.async false
set_option linter.all false
set_option maxRecDepth 100000
set_option maxHeartbeats 4000000
namespace L2
open PySem PySem.Spec PyProof.Rows

section
variable {prog : Program} {w : World} {A : Around} {R : Result → Shared → Prop} {s : Shared}
def lcTests (ifs : List Expr) (env : Env) : Sem Bool :=
  forIn ifs true fun c r => if r = true then do let ok ← isTrue c env (eval c env); pure (ForInStep.yield ok) else pure (ForInStep.yield r)
theorem lc_loop {elt tg iter : Expr} {ifs : List Expr} {scope : Scope} {pos : Pos} {it acc : Value} {env : Env} (J : Nat → Shared → Prop)
    (turn : ∀ n s, J n s → wpAny (model prog w) A (pyNext it) (fun r s1 => match r with
      | none => R (.ok .next) s1
      | some v => wpAny (model prog w) A (letOwnedTupleGo tg it v) (fun _ s2 => wpAny (model prog w) A (assign tg env v) (fun _ s3 => wpAny (model prog w) A (lcTests ifs env) (fun ok s4 =>
          if ok = true then wpAny (model prog w) A (eval elt env) (fun x s5 => wpAny (model prog w) A (call (.builtin "list.append") [acc, x]) (fun _ s6 => ∃ m, m < n ∧ J m s6) (fun _ _ => False) s5) (fun _ _ => False) s4
          else ∃ m, m < n ∧ J m s4) (fun _ _ => False) s3) (fun _ _ => False) s2) (fun _ _ => False) s1) (fun _ _ => False) s)
    (n : Nat) (h : J n s) : codeAny (model prog w) A (.compLoop (.ListComp elt [⟨tg, iter, ifs, 0⟩] scope pos) 0 it acc env) R s := by
  refine codeAny_loop rfl J (fun n s hJ => ?_) n h
  show wpAny _ A (Sem.onRaise (compTurn (.ListComp elt [⟨tg, iter, ifs, 0⟩] scope pos) 0 it acc env) _) _ _ s
  refine wpAny_noted ?_
  rw [compTurn_list]
  refine wpAny_bind (wpAny_standAt (wpAny_bind (wpAny_mono (turn n s hJ) (fun r s1 h1 => ?_) (fun _ _ z => z.elim))))
  cases r with
  | none => exact wpAny_pure h1
  | some v =>
    refine wpAny_bind (wpAny_mono h1 (fun _ s2 h2 => wpAny_bind (wpAny_mono h2 (fun _ s3 h3 => wpAny_bind (wpAny_mono h3 (fun ok s4 h4 => ?_) (fun _ _ z => z.elim))) (fun _ _ z => z.elim))) (fun _ _ z => z.elim))
    cases ok with
    | false => exact wpAny_pure ⟨rfl, h4⟩
    | true => exact wpAny_bind (wpAny_bind (wpAny_mono h4 (fun x s5 h5 => wpAny_bind (wpAny_mono h5 (fun _ s6 h6 => wpAny_pure (wpAny_pure ⟨rfl, h6⟩)) (fun _ _ z => z.elim))) (fun _ _ z => z.elim)))
end

def cloGo (env : Env) : List (Str × NameKind) → List (Str × Addr) → List (Str × Addr)
  | [], cs => cs
  | y :: r, cs => if y.2 = .free then cloGo env r ((y.1, (env.cells.lookup y.1).getD 0) :: cs) else cloGo env r cs
theorem clo_run {env : Env} (f : Str × NameKind → List (Str × Addr) → Sem (ForInStep (List (Str × Addr))))
    (h1 : ∀ y cs c, y.2 = .free → env.cells.lookup y.1 = some c → f y cs = pure (.yield ((y.1, c) :: cs))) (h2 : ∀ y cs, y.2 ≠ .free → f y cs = pure (.yield cs)) :
    ∀ (ns : List (Str × NameKind)) (cs : List (Str × Addr)), (∀ y ∈ ns, y.2 = .free → ∃ c, env.cells.lookup y.1 = some c) → forIn ns cs f = (pure (cloGo env ns cs) : Sem (List (Str × Addr)))
  | [], cs, _ => by simp [cloGo]
  | y :: r, cs, h => by
    have hr : ∀ z ∈ r, z.2 = .free → ∃ c, env.cells.lookup z.1 = some c := fun z hz => h z (List.mem_cons_of_mem _ hz)
    rw [List.forIn_cons]
    by_cases hy : y.2 = .free
    · obtain ⟨c, hc⟩ := h y List.mem_cons_self hy
      rw [h1 y cs c hy hc]
      simp only [cloGo, if_pos hy, hc, Option.getD_some]
      exact clo_run f h1 h2 r _ hr
    · rw [h2 y cs hy]
      simp only [cloGo, if_neg hy]
      exact clo_run f h1 h2 r _ hr
theorem closure_eq {scope : Scope} {env : Env} (h : ∀ y ∈ scope.names, y.2 = .free → ∃ c, env.cells.lookup y.1 = some c) : closureFor scope env = pure (cloGo env scope.names []) := by
  unfold closureFor
  dsimp only
  rw [clo_run (env := env) _ (fun y cs c hy hc => ?_) (fun y cs hy => ?_) scope.names [] h]
  · rfl
  · obtain ⟨n, k⟩ := y
    dsimp only at hy hc ⊢
    subst hy
    simp only [cellOf, hc, beq_self_eq_true, if_true]
    rfl
  · obtain ⟨n, k⟩ := y
    have e : (k == NameKind.free) = false := by simpa using hy
    simp only [e, Bool.false_eq_true, if_false]
theorem cloGo_sub {env : Env} : ∀ (ns : List (Str × NameKind)) (cs : List (Str × Addr)) (x : Str) (c : Addr), (∀ y ∈ ns, y.2 = .free → ∃ c, env.cells.lookup y.1 = some c) →
    (∀ z d, cs.lookup z = some d → env.cells.lookup z = some d) → (cloGo env ns cs).lookup x = some c → env.cells.lookup x = some c
  | [], cs, x, c, _, hc, h => hc x c h
  | y :: r, cs, x, c, hy, hc, h => by
    have hr : ∀ z ∈ r, z.2 = .free → ∃ c, env.cells.lookup z.1 = some c := fun z hz => hy z (List.mem_cons_of_mem _ hz)
    unfold cloGo at h
    split at h
    · rename_i hk
      obtain ⟨d, hd⟩ := hy y List.mem_cons_self hk
      rw [hd] at h
      refine cloGo_sub r _ x c hr (fun z e hz => ?_) h
      rw [List.lookup_cons] at hz
      split at hz
      · rename_i hzy
        cases hz
        rw [eq_of_beq hzy]; exact hd
      · exact hc z e hz
    · exact cloGo_sub r _ x c hr hc h
theorem cloGo_keep {env : Env} : ∀ (ns : List (Str × NameKind)) (cs : List (Str × Addr)) (x : Str), (cs.lookup x).isSome = true → ((cloGo env ns cs).lookup x).isSome = true
  | [], _, _, h => h
  | y :: r, cs, x, h => by
    unfold cloGo
    split
    · refine cloGo_keep r _ x ?_
      rw [List.lookup_cons]
      split
      · rfl
      · exact h
    · exact cloGo_keep r _ x h
theorem cloGo_has {env : Env} : ∀ (ns : List (Str × NameKind)) (cs : List (Str × Addr)) (x : Str), (x, NameKind.free) ∈ ns → ((cloGo env ns cs).lookup x).isSome = true
  | [], _, _, h => by simp at h
  | y :: r, cs, x, h => by
    rcases List.mem_cons.mp h with e | e
    · subst e
      unfold cloGo
      rw [if_pos rfl]
      exact cloGo_keep r _ x (by simp)
    · unfold cloGo
      split
      · exact cloGo_has r _ x e
      · exact cloGo_has r _ x e
theorem relabel_of {scope : Scope} {env : Env} {x : Str} {k : NameKind} (h : (relabel scope env).names.lookup x = some k) : (x, k) ∈ scope.names ∨ ((x, NameKind.free) ∈ scope.names ∧ k = NameKind.cell) := by
  have m := PySem.mem_of_lookup h
  obtain ⟨⟨n, k'⟩, hm, e⟩ := List.mem_map.mp m
  dsimp only at e
  split at e
  · rename_i hk
    cases e
    simp only [Bool.and_eq_true, beq_iff_eq] at hk
    rw [hk.1.1] at hm
    exact .inr ⟨hm, rfl⟩
  · cases e
    exact .inl hm
theorem relabel_free {scope : Scope} {env : Env} (hk : env.scope.kind = .function) {x : Str} (hx : env.kindOf x = some .cell) (h : scope.names.lookup x = some .free) : (relabel scope env).names.lookup x = some .cell := by
  unfold relabel
  show (scope.names.map _).lookup x = some NameKind.cell
  generalize scope.names = ns at h
  induction ns with
  | nil => simp at h
  | cons y r ih =>
    obtain ⟨n, k⟩ := y
    rw [List.lookup_cons] at h
    rw [List.map_cons]
    split at h
    · rename_i hn
      cases h
      rw [← eq_of_beq hn]
      simp [hk, hx]
    · rename_i hn
      dsimp only
      split
      · rw [List.lookup_cons, hn]; exact ih h
      · rw [List.lookup_cons, hn]; exact ih h

def cxLc (X : Cx) (scope : Scope) (N : List Str) (C : Addr) (s : Shared) (H : Hp) (fp : List Addr) : Cx :=
  { X with N := N, s₀ := s, H₀ := H, env := compEnvC scope (cloGo X.env scope.names []) C X.env, outer := X.stack, ex := fp, fn := fun _ => false, pn := [], xe := fun _ _ => False }
structure LcScope (N₀ : List Str) (sc₀ sc : Scope) (x : Str) (N : List Str) (ix : List Nat) : Prop where
  kind : sc.kind = .function
  nocell : ∀ y ∈ sc.names, y.2 ≠ .cell
  names : ∀ y ∈ sc.names, y.2 = .local → sc.names.lookup y.1 = some .local
  free : ∀ y ∈ sc.names, y.2 = .free → sc₀.names.lookup y.1 = some .cell
  nd : N.Nodup
  hd : N.head? = some x
  loc : sc.names.lookup x = some .local
  len : N.length = ix.length + 1
  at_ : ∀ p ∈ N.tail.zip ix, N₀[p.2]? = some p.1 ∧ sc.names.lookup p.1 = some .free
def frV (σ : St) (ix : List Nat) : St := ix.map fun j => (σ[j]?).getD none
def PIf (X : Cx) (ifs : List Expr) (t : TT) : Prop :=
  ∀ (pins : List (Addr × Obj)) (s : Shared) (σ : St) (H : Hp) (Q : Bool → Hp → Prop), Inv X pins σ H s → t σ H Q → wpAny (model X.prog X.w) X.A (lcTests ifs X.env) (TP X pins σ Q) X.xe s
def tYes : TT := fun _ H Q => Q true H
theorem pif_nil {X : Cx} : PIf X [] tYes := fun pins s σ H Q I h => wpAny_tests_nil ⟨H, I, h⟩
def rdLc (J : It) (H1 : Hp) (fr : St) (tc : TT) (te : TE) (Q : VK) : Prop := ∀ D, H1 D = none → ∃ W : Nat → Nat → Hp → Prop, (∃ m, W 0 m (upd H1 D (.lst []))) ∧ ∀ i m H, W i m H →
  (J.stop i H ∧ Q (.ref D) H) ∨ (J.go i H ∧ ∀ x H', J.yld i H x H' → tc (some x :: fr) H' fun b H3 =>
    if b = true then te (some x :: fr) H3 fun y H4 => ∃ ys, H4 D = some (.lst ys) ∧ ys.length < sizeLine ∧ ∃ m', m' < m ∧ W (i + 1) m' (upd H4 D (.lst (ys ++ [y]))) else ∃ m', m' < m ∧ W (i + 1) m' H3)
def tLc (wi : TI) (ix : List Nat) (tc : TT) (te : TE) : TE := fun σ H Q => wi σ H fun J H1 => rdLc J H1 (frV σ ix) tc te Q

section
variable {X : Cx} {scope : Scope} {N : List Str} {ix : List Nat} {x : Str} {px : Pos} {elt iter : Expr} {ifs : List Expr} {tc : TT} {te : TE} {pos : Pos}
theorem lc_ok {pins : List (Addr × Obj)} {σ : St} {H2 : Hp} {s2 : Shared} {J : It} {fp : List Addr} {it : Addr} {tn : Nat → Heap → Prop} {tg : Expr} (L : LcScope X.N X.env.scope scope x N ix) (I2 : Inv X pins σ H2 s2)
    (T : Turn X.prog X.w X.K tg J fp it tn) (st2 : tn 0 s2.heap) (f2 : ∀ b ∈ fp, FpOk X pins H2 b) {C : Addr} {s3 s4 : Shared} {H3 : Hp} (I3 : Inv X pins σ H3 s3) (I4 : Inv X pins σ H3 s4) (hle : s2.heap.objs.size ≤ s3.heap.objs.size)
    (hC : C = s3.heap.objs.size) (ho : s4.os = s3.os) (kp : ∀ b u, s3.heap.get? b = some u → s4.heap.get? b = some u) {m : Str → Option Value} (hns : s4.heap.Ns C m) : Inv (cxLc X scope N C s3 H3 fp) [] (none :: frV σ ix) H3 s4 := by
  have hfree : ∀ y ∈ scope.names, y.2 = .free → ∃ c, X.env.cells.lookup y.1 = some c := fun y hy hf => I2.ok.has y.1 (.inl (L.free y hy hf))
  have sub : ∀ y c, (cloGo X.env scope.names []).lookup y = some c → X.env.cells.lookup y = some c := fun y c h => cloGo_sub _ _ y c hfree (fun _ _ z => by simp at z) h
  have lt2 : ∀ b ∈ fp, b < s2.heap.objs.size := fun b hb => by obtain ⟨o, e, _⟩ := T.obj _ _ st2 b hb; exact Heap.lt_size e
  have okY : (cxLc X scope N C s3 H3 fp).Ok := by
    refine ⟨I2.ok.mod, L.kind, I2.ok.glob, I2.ok.blt, Nat.le_of_eq hC.symm, fun y z c h1 h2 => I2.ok.inj y z c (sub y c h1) (sub z c h2), fun y hy => ?_, fun y c z _ => ?_, I2.ok.hd, I2.ok.frames, .inl rfl, fun b hb => ⟨?_, fun y c h => (f2 b hb).2.2.2.2.1 y c (sub y c h)⟩,
      I3.bs, Nat.le_trans I3.ok.bsz I3.sz, fun b o e hb => ?_, fun b hb z => ?_, I3.stack, I3.stkFree⟩
    · have hk : (y, NameKind.free) ∈ scope.names := by
        rcases hy with hy | hy
        · rcases relabel_of hy with q | q
          · exact absurd rfl (L.nocell _ q)
          · exact q.1
        · rcases relabel_of hy with q | q
          · exact q
          · exact absurd q.2 (by decide)
      exact Option.isSome_iff_exists.mp (cloGo_has _ _ y hk)
    · cases (show false = true from z)
    · have l := lt2 b hb
      show b ≠ C
      rw [hC]
      exact Nat.ne_of_lt (Nat.lt_of_lt_of_le l hle)
    · rcases (f2 b hb).2.2.2.1 with q | q
      · exact I2.ok.noex b o e q
      · exact absurd (Nat.lt_of_lt_of_le (Heap.lt_size e) (Nat.le_trans I2.ok.bsz q)) (Nat.lt_irrefl _)
    · rcases List.mem_cons.mp (I2.stkSub b z) with q | q
      · exact (f2 b hb).2.1 q
      · exact (f2 b hb).2.2.1 q
  refine ⟨okY, ho, I4.bare, Un.kept kp, ⟨m, hns, fun i y v h1 h2 h3 => ?_⟩, fun y c e => I4.cell y c (sub y c e), ?_, fun y c e => I4.freeC y c (sub y c e), fun p hp => absurd (show p ∈ ([] : List (Addr × Obj)) from hp) (by simp), I4.hok, ?_⟩
  · cases i with
    | zero => cases (show some none = some (some v) from h2)
    | succ k =>
      have h2 : (frV σ ix)[k]? = some (some v) := h2
      have h1 : N[k + 1]? = some y := h1
      unfold frV at h2
      rw [List.getElem?_map] at h2
      cases hj : ix[k]? with
      | none => rw [hj] at h2; cases h2
      | some j =>
        rw [hj] at h2
        have h2 : (σ[j]?).getD none = some v := Option.some.inj h2
        have h2' : σ[j]? = some (some v) := by
          cases e : σ[j]? with
          | none => rw [e] at h2; cases h2
          | some z => rw [e] at h2; exact congrArg some h2
        have ht : N.tail[k]? = some y := by rw [List.getElem?_tail]; exact h1
        have hz : (y, j) ∈ N.tail.zip ix := List.mem_of_getElem? (i := k) (by rw [List.getElem?_zip_eq_some]; exact ⟨ht, hj⟩)
        obtain ⟨q1, q2⟩ := L.at_ _ hz
        have hm := PySem.mem_of_lookup q2
        have hcell := L.free _ hm rfl
        obtain ⟨m', hn', hl'⟩ := I4.loc
        obtain ⟨u, r, lk⟩ := hl' j y v q1 h2' (.inr (.inl hcell))
        refine ⟨u, r, .inr ⟨.inl (relabel_free I2.ok.kind hcell q2), ?_⟩⟩
        rcases lk with lk | ⟨_, c, e, z⟩
        · rw [show X.env.kindOf y = some .cell from hcell] at lk
          cases lk.1
        · obtain ⟨c', e'⟩ := Option.isSome_iff_exists.mp (cloGo_has (env := X.env) scope.names [] y hm)
          have e2 := sub y c' e'
          rw [e] at e2
          cases e2
          exact ⟨c, e', z⟩
  · show H3 C = none
    exact I3.hok.fresh (Nat.le_of_eq hC.symm)
  · show (none :: frV σ ix).length = N.length
    rw [L.len]
    simp [frV]
theorem lc_run {tgt : Expr} (htg : tgt = .Name x px) {pins : List (Addr × Obj)} {σ : St} {H2 : Hp} {s2 : Shared} {J : It} {fp : List Addr} {it : Addr} {tn : Nat → Heap → Prop} (hc : X.calm = true) (L : LcScope X.N X.env.scope scope x N ix) (I2 : Inv X pins σ H2 s2)
    (T : Turn X.prog X.w X.K tgt J fp it tn) (st2 : tn 0 s2.heap) (f2 : ∀ b ∈ fp, FpOk X pins H2 b)
    (hif : ∀ C s H, PIf (cxLc X scope N C s H fp) ifs tc) (he : ∀ C s H, PE (cxLc X scope N C s H fp) elt te) {Q : VK} (rd : rdLc J H2 (frV σ ix) tc te Q) {RR : Value → Addr → Result → Shared → Prop} {E : Value → Shared → Prop}
    (fin : ∀ D C H' s' m, Inv X pins σ H' s' → s2.heap.objs.size ≤ C → H' C = none → s'.heap.Ns C m → Q (.ref D) H' → RR (.ref D) C (.ok .next) s') :
    wpAny (model X.prog X.w) X.A (newList []) (fun acc s3 => wpAny (model X.prog X.w) X.A (newFunctionEnv scope X.env.globals (cloGo X.env scope.names []) [] X.env.qual none .none (some X.env)) (fun cenv s4 =>
      codeAny (model X.prog X.w) X.A (.compStart (.ListComp elt [⟨tgt, iter, ifs, 0⟩] scope pos) 0 (.ref it) acc { cenv with scope := relabel scope X.env }) (RR acc cenv.locals) s4) E s3) E s2 := by
  refine wpAny_newObj_type (wpAny_newFunctionEnv L.nocell (by intro y hy; simp at hy) (fun h1 hns hsb => ?_) L.kind)
  dsimp only at hns hsb ⊢
  have I3 : Inv X pins σ (upd H2 s2.heap.objs.size (.lst [])) { s2 with heap := s2.heap.push { cls := .type "list", dict := none, data := .seq ([] : List Value).toArray } } := I2.lnew (its := []) (t' := s2.toks) .nil (Nat.zero_le _)
  generalize hH3 : s2.heap.push { cls := .type "list", dict := none, data := .seq ([] : List Value).toArray } = h3 at hns hsb I3 ⊢
  have hsz : h3.objs.size = s2.heap.objs.size + 1 := by rw [← hH3, Heap.size_push]
  have kp34 : ∀ b u, h3.get? b = some u → h1.get? b = some u := fun b u e => hsb.extBut b u (Nat.ne_of_lt (Heap.lt_size e)) (Heap.get?_push_of_some _ e)
  have I4 : Inv X pins σ (upd H2 s2.heap.objs.size (.lst [])) { s2 with heap := h1, toks := s2.toks + ([] : List (Str × Value)).length } := I3.kept (t' := s2.toks + ([] : List (Str × Value)).length) kp34
  have kp24 : ∀ b u, s2.heap.get? b = some u → h1.get? b = some u := fun b u e => kp34 b u (by rw [← hH3]; exact Heap.get?_push_of_some _ e)
  have IY := lc_ok (C := h3.objs.size) (s3 := { s2 with heap := h3 }) L I2 T st2 f2 I3 I4 (by show s2.heap.objs.size ≤ h3.objs.size; omega) rfl rfl kp34 hns
  have fD : H2 s2.heap.objs.size = none := I2.hok.fresh (Nat.le_refl _)
  have lt2 : ∀ b ∈ fp, b < s2.heap.objs.size := fun b hb => by obtain ⟨o, e, _⟩ := T.obj _ _ st2 b hb; exact Heap.lt_size e
  have st4 : tn 0 h1 := T.keep _ _ _ st2 fun b _ o e => kp24 b o e
  have stat : ∀ {pn : List (Addr × Obj)} {H' : Hp}, pn = [] → (∀ b ∈ fp, H' b = none) → ∀ b ∈ fp, FpOk (cxLc X scope N h3.objs.size { s2 with heap := h3 } (upd H2 s2.heap.objs.size (.lst [])) fp) pn H' b := fun hp hn b hb => by
    subst hp
    exact ⟨hn b hb, (IY.ok.exf b hb).1, IY.ok.exfs b hb, .inl hb, (IY.ok.exf b hb).2, fun p hp => absurd (show p ∈ ([] : List (Addr × Obj)) from hp) (by simp)⟩
  obtain ⟨W, ⟨m0, w0⟩, turn⟩ := rd _ fD
  have loop : codeAny (model X.prog X.w) X.A (.compLoop (.ListComp elt [⟨tgt, iter, ifs, 0⟩] scope pos) 0 (.ref it) (.ref s2.heap.objs.size) (compEnvC scope (cloGo X.env scope.names []) h3.objs.size X.env)) (RR (.ref s2.heap.objs.size) h3.objs.size)
      { s2 with heap := h1, toks := s2.toks + ([] : List (Str × Value)).length } := by
    refine lc_loop (fun n s' => ∃ i H', Inv (cxLc X scope N h3.objs.size { s2 with heap := h3 } (upd H2 s2.heap.objs.size (.lst [])) fp) [] (none :: frV σ ix) H' s' ∧ tn i s'.heap ∧ (∀ b ∈ fp, H' b = none) ∧ W i n H') ?_ m0
      ⟨0, _, IY, st4, fun b hb => by rw [upd_ne (Nat.ne_of_lt (lt2 b hb))]; exact (f2 b hb).1, w0⟩
    rintro n s5 ⟨i, H5, I5, st5, fr5, w5⟩
    rcases turn i n H5 w5 with ⟨stop, q⟩ | ⟨go, step⟩
    · refine thn (T.done (cxLc X scope N h3.objs.size { s2 with heap := h3 } (upd H2 s2.heap.objs.size (.lst [])) fp) rfl rfl rfl hc i [] s5 _ H5 (fun _ _ => False) I5 (stat rfl fr5) st5 stop) fun r s6 ⟨hr, I6⟩ => ?_
      subst hr
      obtain ⟨m6, hn6, _⟩ := I6.loc
      have u1 : Un (frs X.stack) fp H2 (upd H2 s2.heap.objs.size (.lst [])) s2.heap h3 := Un.laid (fun b u e => by rw [← hH3]; exact Heap.get?_push_of_some _ e) (Nat.le_refl _) fD
      have back : Inv X pins σ H5 s6 := I2.call' (ch := fp) (I6.os.trans rfl) (u1.trans I6.base) I6.hok I6.bare fun b hb => ⟨(f2 b hb).2.2.2.1, (f2 b hb).2.1, (f2 b hb).2.2.2.2.1, (f2 b hb).2.2.2.2.2⟩
      exact fin _ _ H5 s6 m6 back (by omega) I6.free hn6 q
    · refine thn (T.item (cxLc X scope N h3.objs.size { s2 with heap := h3 } (upd H2 s2.heap.objs.size (.lst [])) fp) rfl rfl rfl hc i [] s5 _ H5 (fun _ _ => False) I5 (stat rfl fr5) st5 go) fun r s6 ⟨u, hr, h6⟩ => ?_
      subst hr
      refine thn h6 fun _ s7 ⟨y, H7, I7, r7, y7, st7, fr7⟩ => ?_
      have I7' := I7.pinned (stat rfl fr7) (T.obj _ _ st7)
      have hg : PG (cxLc X scope N h3.objs.size { s2 with heap := h3 } (upd H2 s2.heap.objs.size (.lst [])) fp) tgt (gName 0) := by
        rw [htg]
        have hi : N[0]? = some x := by have := L.hd; rwa [List.head?_eq_getElem?] at this
        exact pg_name L.nd hi (.inl (lookup_relabel_local L.loc)) (.inr (lookup_relabel_local L.loc))
      refine thn (hg _ s7 _ H7 y u (fun σ' H' => σ' = some y :: frV σ ix ∧ H' = H7) I7' r7 ⟨rfl, rfl⟩) fun _ s8 ⟨σ8, H8, I8, e8, e8'⟩ => ?_
      subst e8 e8'
      refine thn (hif _ _ _ _ s8 _ _ _ I8 (step y _ y7)) fun ok s9 ⟨H9, I9, q9⟩ => ?_
      have again : ∀ {sz : Shared} {Hz : Hp} {m' : Nat}, Inv (cxLc X scope N h3.objs.size { s2 with heap := h3 } (upd H2 s2.heap.objs.size (.lst [])) fp) ([] ++ pinsAt fp s7.heap) (some y :: frV σ ix) Hz sz → m' < n → W (i + 1) m' Hz →
          ∃ m, m < n ∧ ∃ i H', Inv (cxLc X scope N h3.objs.size { s2 with heap := h3 } (upd H2 s2.heap.objs.size (.lst [])) fp) [] (none :: frV σ ix) H' sz ∧ tn i sz.heap ∧ (∀ b ∈ fp, H' b = none) ∧ W i m H' := fun {sz Hz m'} Iz hm wz => by
        refine ⟨m', hm, i + 1, Hz, Iz.unpinned.weak (by simp) (fun j v e => ?_), T.keep _ _ _ st7 fun b hb o e => (Iz.pin (b, o) (List.mem_append_right _ (List.mem_append_right _ (mem_pinsAt hb e)))).1, fun b hb => ?_, wz⟩
        · cases j with
          | zero => cases e
          | succ j => exact e
        · obtain ⟨o, e, d⟩ := T.obj _ _ st7 b hb
          exact (Iz.pin (b, o) (List.mem_append_right _ (List.mem_append_right _ (mem_pinsAt hb e)))).2.1
      cases ok with
      | false =>
        obtain ⟨m', hm, wz⟩ := q9
        exact again I9 hm wz
      | true =>
        refine thn (he _ _ _ _ s9 _ _ _ I9 q9) fun xv s10 ⟨z, H10, I10, r10, ys, hD, hl, m', hm, wz⟩ => ?_
        refine thn (mt_append _ s10 _ H10 (.ref s2.heap.objs.size) [z] (.ref s2.heap.objs.size) [xv] (fun _ Hz => Hz = upd H10 s2.heap.objs.size (.lst (ys ++ [z]))) I10 rfl (.cons r10 .nil) ⟨_, ys, z, rfl, rfl, hD, hl, rfl⟩) fun _ s11 ⟨_, H11, I11, _, q11⟩ => ?_
        subst q11
        exact again I11 hm wz
  exact codeAny_compStart_list loop (T.self X.A 0 _ _ _ st4 loop)
theorem pe_lc {wi : TI} (hc : X.calm = true) (L : LcScope X.N X.env.scope scope x N ix) (hi : PI X (.Name x px) iter wi) (hif : ∀ C s H fp, PIf (cxLc X scope N C s H fp) ifs tc) (he : ∀ C s H fp, PE (cxLc X scope N C s H fp) elt te)
    (hs : ∀ z, foldedSetIterable iter X.env z = pure z := by intro _; rfl) : PE X (.ListComp elt [⟨.Name x px, iter, ifs, 0⟩] scope pos) (tLc wi ix tc te) := by
  intro pins s σ H Q I h
  have hfree : ∀ y ∈ scope.names, y.2 = .free → ∃ c, X.env.cells.lookup y.1 = some c := fun y hy hf => I.ok.has y.1 (.inl (L.free y hy hf))
  rw [eval_ListComp]
  refine wpAny_comprehension_free (use := none) rfl hs (closure_eq hfree) L.kind L.names (thn (hi pins s σ H _ I h) fun v s1 h1 => thn h1 fun itv s2 h2 => ?_)
  obtain ⟨it, fp, tn, J, H2, e, I2, T, st2, f2, rd⟩ := h2
  subst e
  refine lc_run (RR := fun acc C => compPost (model X.prog X.w) X.A X.xe none _ acc C) rfl hc L I2 T st2 f2 (fun C s H => hif C s H fp) (fun C s H => he C s H fp) rd fun D C H' s' m I' hC hf hn q => ?_
  refine ⟨m, hn, fun h' hsb => ⟨.ref D, H', ?_, rfl, q⟩⟩
  have l2 := I2.lt
  refine I'.turned (t' := s'.toks) (it := C) (fun b o hb e => hsb.extBut b o hb e) hf (Nat.ne_of_gt (Nat.lt_of_lt_of_le l2 hC)) (.inr (Nat.le_trans I2.sz hC)) (fun y c e => ?_) fun p hp => ?_
  · obtain ⟨v, hv⟩ := I2.cell y c e
    exact Nat.ne_of_lt (Nat.lt_of_lt_of_le hv.lt hC)
  · exact Nat.ne_of_lt (Nat.lt_of_lt_of_le (Heap.lt_size (I2.pin p hp).1) hC)
theorem ps_setlc {wi : TI} {i : Nat} {y : Str} {py spos : Pos} (hc : X.calm = true) (L : LcScope X.N X.env.scope scope x N ix) (hN : X.N.Nodup) (hy : X.N[i]? = some y) (hl : X.env.scope.names.lookup y = some .local)
    (hi : PI X (.Name x px) iter wi) (hif : ∀ C s H fp, PIf (cxLc X scope N C s H fp) ifs tc) (he : ∀ C s H fp, PE (cxLc X scope N C s H fp) elt te)
    (hsw : swapsWith (.ListComp elt [⟨.Name x px, iter, ifs, 0⟩] scope pos) (some (.Name y py)) spos.line X.env = pure true := by rfl)
    (hs : ∀ z, foldedSetIterable iter X.env z = pure z := by intro _; rfl) : PS X (.Assign [.Name y py] (.ListComp elt [⟨.Name x px, iter, ifs, 0⟩] scope pos) spos) (tAsg (tLc wi ix tc te) (gName i)) := by
  intro pins s σ H D I h
  have hfree : ∀ y ∈ scope.names, y.2 = .free → ∃ c, X.env.cells.lookup y.1 = some c := fun y hy hf => I.ok.has y.1 (.inl (L.free y hy hf))
  rw [exec_Assign_Name_used _ _ _ _ hsw]
  refine wpAny_bind (wpAny_standAt (wpAny_bind ?_))
  show wpAny _ X.A (do let _ ← comprehension (.ListComp elt [⟨.Name x px, iter, ifs, 0⟩] scope pos) scope X.env _ (newList []) false (eval iter X.env) (some (assign (.Name y py) X.env))) _ _ s
  refine wpAny_bind (thn (Q := fun _ s' => SP X pins D .next s') (wpAny_comprehension_free (use := some (assign (.Name y py) X.env)) rfl hs (closure_eq hfree) L.kind L.names (thn (hi pins s σ H _ I h) fun v s1 h1 => thn h1 fun itv s2 h2 => ?_)) fun _ s' hq => wpAny_pure (wpAny_pure hq))
  obtain ⟨it, fp, tn, J, H2, e, I2, T, st2, f2, rd⟩ := h2
  subst e
  refine lc_run (RR := fun acc C => compPost (model X.prog X.w) X.A X.xe (some (assign (.Name y py) X.env)) _ acc C) rfl hc L I2 T st2 f2 (fun C s H => hif C s H fp) (fun C s H => he C s H fp) rd fun Da C H' s' m I' hC hf hn q => ?_
  have l2 := I2.lt
  have nC : C ≠ X.env.locals := Nat.ne_of_gt (Nat.lt_of_lt_of_le l2 hC)
  have nF : C ∉ X.fs := I2.nofs hC
  obtain ⟨oC, es, ep, hget, hdat, hrest⟩ := id hn
  have Ip : Inv X (pins ++ [(C, oC)]) σ H' s' := I'.pins_of fun p hp => (List.mem_append.mp hp).elim (fun z => I'.pin p (List.mem_append_right _ z)) fun z => by
    have e : p = (C, oC) := by simpa using z
    subst e
    exact ⟨hget, hf, nC, nF, fun v z => by rw [hdat] at z; cases z⟩
  have hg : PG X (.Name y py) (gName i) := pg_name hN hy (.inl hl) (.inr hl)
  show wpAny _ X.A (assign (.Name y py) X.env (.ref Da)) _ _ s'
  refine thn (hg _ s' σ H' (.ref Da) (.ref Da) D.nx Ip rfl q) fun _ s'' ⟨σ'', H'', I'', q''⟩ => ?_
  obtain ⟨g1, g2, _⟩ := I''.pin (C, oC) (List.mem_append_right _ (List.mem_append_right _ (by simp)))
  refine ⟨m, ⟨oC, es, ep, g1, hdat, hrest⟩, fun h' hsb => ⟨σ'', H'', ?_, q''⟩⟩
  refine I''.unpinned.turned (t' := s''.toks) (it := C) (fun b o hb e => hsb.extBut b o hb e) g2 nC (.inr (Nat.le_trans I2.sz hC)) (fun y c e => ?_) fun p hp => ?_
  · obtain ⟨v, hv⟩ := I2.cell y c e
    exact Nat.ne_of_lt (Nat.lt_of_lt_of_le hv.lt hC)
  · exact Nat.ne_of_lt (Nat.lt_of_lt_of_le (Heap.lt_size (I2.pin p hp).1) hC)
end

theorem same_upd {H : Hp} {D : Addr} {o : HO} (h : H D = none) : Same H (upd H D o) := fun b u e => by rw [upd_ne (ne_of_none e h)]; exact e
theorem lc_same {J : It} {H1 : Hp} {fr : St} {tc : TT} {te : TE} {Q : VK} (n : Nat) (item : Nat → V) (acc : Nat → List V) (h0 : acc 0 = []) (hz : ∀ i, i < n → (acc i).length < sizeLine)
    (hgo : ∀ i H, i < n → Same H1 H → J.go i H) (hy : ∀ i H x H', i < n → Same H1 H → J.yld i H x H' → x = item i ∧ H' = H) (hst : ∀ H, Same H1 H → J.stop n H)
    (turn : ∀ i H (R : Hp → Prop) (A : VK), i < n → Same H1 H → (acc (i + 1) = acc i → ∀ H', Same H H' → R H') → (∀ y H', acc (i + 1) = acc i ++ [y] → Same H H' → A y H') →
      tc (some (item i) :: fr) H fun b H3 => if b = true then te (some (item i) :: fr) H3 A else R H3)
    (fin : ∀ D H, H1 D = none → Same H1 H → H D = some (.lst (acc n)) → Q (.ref D) H) : rdLc J H1 fr tc te Q := by
  intro D hD
  refine ⟨fun i m H => i ≤ n ∧ m = n - i ∧ Same H1 H ∧ H D = some (.lst (acc i)), ⟨n, Nat.zero_le _, rfl, same_upd hD, by rw [upd_same, h0]⟩, ?_⟩
  rintro i m H ⟨hi, rfl, sm, hl⟩
  by_cases h : i = n
  · subst h
    exact .inl ⟨hst H sm, fin D H hD sm hl⟩
  · have hlt : i < n := Nat.lt_of_le_of_ne hi h
    refine .inr ⟨hgo i H hlt sm, fun x H' hyl => ?_⟩
    obtain ⟨rfl, rfl⟩ := hy i H x H' hlt sm hyl
    refine turn i H' _ _ hlt sm (fun ea H3 s3 => ?_) (fun y H4 ea s4 => ?_)
    · exact ⟨n - (i + 1), by omega, by omega, rfl, sm.trans s3, by rw [ea]; exact s3 _ _ hl⟩
    · refine ⟨acc i, s4 _ _ hl, hz i hlt, n - (i + 1), by omega, by omega, rfl, fun b u e => ?_, by rw [upd_same, ea]⟩
      rw [upd_ne (ne_of_none e hD)]
      exact s4 _ _ (sm _ _ e)
theorem lc_list {K : PySem.W.Frag} {a : Addr} {xs : List V} {H1 : Hp} {fr : St} {tc : TT} {te : TE} {Q : VK} (hl : SqL K H1 a xs) (acc : Nat → List V) (h0 : acc 0 = []) (hz : ∀ i, i < xs.length → (acc i).length < sizeLine)
    (turn : ∀ (i : Nat) x H (R : Hp → Prop) (A : VK), xs[i]? = some x → Same H1 H → (acc (i + 1) = acc i → ∀ H', Same H H' → R H') → (∀ y H', acc (i + 1) = acc i ++ [y] → Same H H' → A y H') →
      tc (some x :: fr) H fun b H3 => if b = true then te (some x :: fr) H3 A else R H3)
    (fin : ∀ D H, H1 D = none → Same H1 H → H D = some (.lst (acc xs.length)) → Q (.ref D) H) : rdLc (Itl K a) H1 fr tc te Q := by
  refine lc_same xs.length (fun i => xs.getD i .non) acc h0 hz (fun i H hi sm => ⟨xs, xs[i], sm.seq hl, by simp [hi]⟩) (fun i H x H' hi sm h => ⟨?_, h.1⟩) (fun H sm => ⟨xs, sm.seq hl, Nat.le_refl _⟩) (fun i H R A hi sm => turn i _ H R A (by simp [hi]) sm) fin
  have := h.2 xs (sm.seq hl)
  simp [List.getD, this]
end L2
end

section
set_option Elab.async false
set_option linter.all false
set_option maxRecDepth 100000
set_option maxHeartbeats 4000000
namespace L2
open PySem PySem.Spec PyProof.Rows

theorem b_int : bootBuiltins "int" = some (.type "int") := by decide +kernel
theorem b_str : bootBuiltins "str" = some (.type "str") := by decide +kernel
theorem b_bool : bootBuiltins "bool" = some (.type "bool") := by decide +kernel
theorem b_list : bootBuiltins "list" = some (.type "list") := by decide +kernel
theorem b_len : bootBuiltins "len" = some (.builtin "len") := by decide +kernel
theorem b_isinstance : bootBuiltins "isinstance" = some (.builtin "isinstance") := by decide +kernel
theorem b_min : bootBuiltins "min" = some (.builtin "min") := by decide +kernel
theorem b_max : bootBuiltins "max" = some (.builtin "max") := by decide +kernel
theorem b_sorted : bootBuiltins "sorted" = some (.builtin "sorted") := by decide +kernel
structure Cal (P : Program) (w : World) (K : PySem.W.Frag) (mg : Str → Option Value) (base : Heap) (name : Str) (k : Nat) (ps : List Str) (sp : Sp) : Prop where
  ex : ∃ (f : Addr) (fd : FuncData), FnOk P w K mg base CX0 k f fd ps sp ∧ Binds K fd ps [] ∧ mg name = some (.ref f) ∧ PySem.W.keepIn K (.ref f) = true
section
variable {X : Cx} {k : Nat} {ps : List Str} {sp : Sp} {name m : Str} {p pos apos : Pos} {e o : Expr} {es : List Expr} {ta : TE} {t : TA}
theorem pe_fn (C : Cal X.prog X.w X.K X.mg X.base name k ps sp) (hr : Room k X.A) (ha : PA X (e :: es) t) (hg : Gl X name := by rfl) (hdb : (name == ("__debug__" : Str)) = false := by decide)
    (he : starEach (e :: es) X.env = (false, eval e X.env) :: starEach es X.env := by rfl) (hpl : (backTo pos (starEach es X.env)).any (·.1) = false := by rfl) : PE X (.Call (.Name name p) (e :: es) [] pos) (tCall sp [] E0 t) := by
  obtain ⟨f, fd, F, b, hm, hk⟩ := C.ex
  exact pe_call F hr hg hm hk b .nil pass0 ha hdb he hpl
end

section
variable {X : Cx}
def rIsi (K : PySem.W.Frag) : List V → Hp → VK → Prop := fun xs H Q => ∃ x n t b, xs = [x, .ty n] ∧ TyOf K H x t ∧ PySem.W.kitOne K t (.type n) = some b ∧ Q (.bl b) H
theorem call_isinst : CallR X (.builtin "isinstance") (rIsi X.K) := by
  intro pins s σ H xs us Q I r h
  obtain ⟨x, n, t, b, rfl, ty, e, q⟩ := h
  obtain ⟨u, w', rfl, ru, rw'⟩ := vals2 r
  cases (show w' = Value.type n from rw')
  exact isinst_ok I ru ty e fun tk => ⟨.bl b, H, I.tok tk, rfl, q⟩
end

theorem ext_cps {x y : Str} (h : x.cps.toList = y.cps.toList) : x = y := by
  obtain ⟨a⟩ := x
  obtain ⟨b⟩ := y
  have : a = b := Array.toList_inj.mp h
  rw [this]
def sgn (c : Nat) : Str := ⟨#[c]⟩
def repS (x : Str) (k : Nat) : Str := ⟨(List.replicate k x.cps.toList).flatten.toArray⟩
theorem repS_length (x : Str) (k : Nat) : (repS x k).length = k * x.length := by
  show (List.replicate k x.cps.toList).flatten.toArray.size = k * x.cps.size
  rw [List.size_toArray, len_rep]
  simp
theorem foldl_app (a : Array Nat) : ∀ (k : Nat) (acc : Array Nat), ((List.replicate k a).foldl (· ++ ·) acc).toList = acc.toList ++ (List.replicate k a.toList).flatten
  | 0, acc => by simp
  | k + 1, acc => by
    rw [List.replicate_succ, List.foldl_cons, foldl_app a k, List.replicate_succ]
    simp [List.append_assoc]
section
variable {X : Cx}
def rMulS : R2 := fun x y H Q => ∃ z k, x = .str z ∧ y = .int k ∧ -(2 ^ 40) < k ∧ k < 2 ^ 40 ∧ z.length * k.toNat ≤ sizeLine ∧ z.length ≤ sizeLine ∧ Q (.str (repS z k.toNat)) H
theorem op_mulS : OpR X (binaryOp .Mult) rMulS := by
  intro pins s σ H x y v u Q I rx ry h
  obtain ⟨z, k, rfl, rfl, k1, k2, hz, hz2, q⟩ := h
  obtain ⟨t, rfl⟩ := rx
  obtain ⟨t', rfl⟩ := ry
  have hs := line63
  have hs' := sizeLine_eq
  refine PySem.P.mul_str ?_ ?_ ?_ ?_
  · rw [decide_eq_false (by omega), decide_eq_false (by omega)]; rfl
  · intro h1 _ hgt
    have hk : k ≤ 2 ^ 40 := by omega
    have : (z.length : Int) ≤ (2 ^ 63 - 1) / k := by
      rw [Int.le_ediv_iff_mul_le (by omega)]
      have e : (z.length : Int) * k = ((z.length * k.toNat : Nat) : Int) := by
        rw [Int.natCast_mul, Int.toNat_of_nonneg (by omega)]
      rw [e]
      omega
    omega
  · intro _ _
    unfold Builtin.Str.tooLong
    simpa using hz
  · split
    · rename_i h1
      have e : repS z k.toNat = Str.empty := by
        rw [show k.toNat = 0 by omega]; rfl
      rw [e] at q
      exact ⟨by decide, .str Str.empty, H, I.tok _, ⟨_, rfl⟩, q⟩
    · rename_i h1
      split
      · rename_i h2
        have e : repS z k.toNat = z := by
          refine ext_cps ?_
          show (List.replicate k.toNat z.cps.toList).flatten.toArray.toList = _
          rcases Bool.or_eq_true_iff.mp h2 with h2 | h2
          · have : k = 1 := by simpa using h2
            subst this
            simp
          · have : z.length = 0 := by simpa using h2
            have e0 : z.cps.toList = [] := by
              have : z.cps.size = 0 := this
              simpa using this
            rw [e0]
            simp
        rw [e] at q
        exact ⟨.str z, H, I, ⟨_, rfl⟩, q⟩
      · have e : (⟨(List.replicate k.toNat z.cps).foldl (· ++ ·) #[]⟩ : Str) = repS z k.toNat := by
          refine ext_cps ?_
          show ((List.replicate k.toNat z.cps).foldl (· ++ ·) #[]).toList = _
          rw [foldl_app]
          simp [repS]
        refine ⟨?_, .str (repS z k.toNat), H, I.tok _, ⟨s.toks, by rw [e]⟩, q⟩
        rw [e, repS_length, Nat.mul_comm]
        exact hz
theorem strsAre_of {ys : List Str} : ∀ {us : List Value}, Vals (ys.map V.str) us → StrsAre us ys := by
  induction ys with
  | nil => intro us r; rw [List.map_nil] at r; cases r; exact .nil
  | cons y ys ih =>
    intro us r
    rw [List.map_cons] at r
    cases r with
    | cons r1 r2 =>
      obtain ⟨t, e⟩ := r1
      subst e
      exact .cons y t (ih r2)
def rJoin (K : PySem.W.Frag) : V → List V → Hp → VK → Prop := fun x vs H Q => ∃ sep p ys, x = .str sep ∧ vs = [.ref p] ∧ SqL K H p (ys.map V.str) ∧ (ys.map (·.length)).sum + ys.length * sep.length ≤ 16777216 ∧ Q (.str (Txt.join sep ys)) H
theorem mt_join : MtM X "str.join" (rJoin X.K) := by
  intro pins s σ H x vs v us Q I rx rv h
  obtain ⟨sep, p, ys, rfl, rfl, hp, hz, q⟩ := h
  obtain ⟨t, rfl⟩ := rx
  obtain ⟨u, rfl, ru⟩ := rv.one
  cases ru
  obtain ⟨its, r, pl, _⟩ := I.list hp
  exact join_list pl.isList (by simpa using strsAre_of r) hz fun t' k => ⟨.str (Txt.join sep ys), H, I.tok k, ⟨t', rfl⟩, q⟩
theorem fold_glue : ∀ (ys : List Str) (a : Array Nat), (ys.foldl (fun acc p => acc ++ ("" : Str).cps ++ p.cps) a).toList = a.toList ++ (ys.map fun y => y.cps.toList).flatten
  | [], a => by simp
  | y :: r, a => by
    rw [List.foldl_cons, fold_glue r]
    have e : ("" : Str).cps = #[] := rfl
    rw [e]
    simp [List.append_assoc]
theorem join_empty (ys : List Str) : (Txt.join ("" : Str) ys).cps.toList = (ys.map fun y => y.cps.toList).flatten := by
  show ((ys.drop 1).foldl (fun acc p => acc ++ ("" : Str).cps ++ p.cps) (ys.headD Str.empty).cps).toList = _
  rw [fold_glue]
  cases ys with
  | nil => rfl
  | cons y r => simp
end
end L2
end

section
set_option Elab.async false
set_option linter.all false
namespace L2
open PySem
def nostar : Expr → Bool
  | .Starred .. => false
  | _ => true
theorem starEach_of {e : Expr} {es : List Expr} {env : Env} (h : nostar e = true) : starEach (e :: es) env = (false, eval e env) :: starEach es env := by
  cases e <;> first | rfl | cases h
section
variable {X : Cx} {e : Expr} {es : List Expr} {te : TE} {t : TA}
theorem pa_d (ha : PE X e te) (hr : PA X es t) (hs : nostar e = true) : PA X (e :: es) (tCons te t) := pa_cons ha hr (starEach_of hs)
end
structure PAi (X : Cx) (es : List Expr) (t : TA) : Prop where
  h : PA X es t
structure PEi (X : Cx) (e : Expr) (t : TE) : Prop where
  h : PE X e t
structure PSi (X : Cx) (st : Stmt) (t : TS) : Prop where
  h : PS X st t
structure PSsI (X : Cx) (sts : List Stmt) (t : TS) : Prop where
  h : PSs X sts t
section
variable {X : Cx} {e a b : Expr} {es : List Expr} {te ta tb : TE} {t : TA} {pos : Pos} {st : Stmt} {rest : List Stmt} {u u2 : TS}
theorem ai_nil : PAi X [] tNil := ⟨pa_nil⟩
theorem ai_c (ha : PE X e te) (hr : PAi X es t) (hs : nostar e = true) : PAi X (e :: es) (tCons te t) := ⟨pa_d ha hr.h hs⟩
theorem ei_lst (h : PAi X es t) : PEi X (.List es pos) (tLst t) := ⟨pe_lst h.h⟩
theorem ei_ix {r : R2} (hr : IxR X r) (ha : PEi X a ta) (hb : PE X b tb) (hs : PlainIx b) : PEi X (.Subscript a b pos) (tOp r ta tb) := ⟨pe_ix hr ha.h hb hs⟩
theorem si (h : PS X st u) : PSi X st u := ⟨h⟩
theorem si_set {i : Nat} {x : Str} {pos' : Pos} (hN : X.N.Nodup) (hi : X.N[i]? = some x) (hx : Loc X.env.scope x) (he : PEi X e te) (hs : swapsWith e (some (.Name x pos')) pos.line X.env = pure false := by rfl) (hf : X.fn x = true ∨ X.env.scope.names.lookup x = some .local := by first | exact .inl rfl | exact .inr rfl | assumption) :
    PSi X (.Assign [.Name x pos'] e pos) (tAsg te (gName i)) := ⟨ps_set hN hi hx he.h hs hf⟩
theorem bi_cons (h1 : PSi X st u) (h2 : PSsI X rest u2) : PSsI X (st :: rest) (tSeq u u2) := ⟨pss_cons h1.h h2.h⟩
theorem bi_one (h1 : PSi X st u) : PSsI X [st] u := ⟨pss_one h1.h⟩
end
theorem us1 {P : List Value → Prop} (h : ∀ a, P [a]) : ∀ us : List Value, us.length = 1 → P us
  | [_], _ => h _
theorem us2 {P : List Value → Prop} (h : ∀ a b, P [a, b]) : ∀ us : List Value, us.length = 2 → P us
  | [_, _], _ => h _ _
theorem us3 {P : List Value → Prop} (h : ∀ a b c, P [a, b, c]) : ∀ us : List Value, us.length = 3 → P us
  | [_, _, _], _ => h _ _ _
end L2
end

section
set_option Elab.async false
set_option linter.all false
set_option maxRecDepth 100000
namespace L2
open PySem PySem.Spec PyProof.Rows
section
variable {σ : St} {H : Hp} {D : Ends} {Q : VK} {t u : TS} {te ta tb : TE} {QB : Bool → Hp → Prop}
theorem r_seq (h : t { D with nx := u D } σ H) : tSeq t u D σ H := h
theorem r_next (h : D.nx σ H) : tNext D σ H := h
theorem r_asg {g : TG} (h : te σ H fun x H1 => g x σ H1 D.nx) : tAsg te g D σ H := h
theorem r_gname {i : Nat} {v : V} {R : St → Hp → Prop} (h : R (σ.set i (some v)) H) : gName i v σ H R := h
theorem r_ret (h : te σ H D.rt) : tRet te D σ H := h
theorem r_drop (h : te σ H fun _ H1 => D.nx σ H1) : tDrop te D σ H := h
theorem r_ifs {c : TT} (h : c σ H fun b H1 => if b = true then t D σ H1 else u D σ H1) : tIfS c t u D σ H := h
theorem r_aug {i : Nat} {ti : TIp} {x : V} (e : σ[i]? = some (some x)) (h : te σ H fun y H1 => ti x y H1 fun z H2 => D.nx (σ.set i (some z)) H2) : tAug i te ti D σ H := ⟨x, e, h⟩
theorem r_var {i : Nat} {v : V} (e : σ[i]? = some (some v)) (h : Q v H) : tVar i σ H Q := ⟨v, e, h⟩
theorem r_c {v : V} (h : Q v H) : tC v σ H Q := h
theorem r_op {r : R2} (h : ta σ H fun x H1 => tb σ H1 fun y H2 => r x y H2 Q) : tOp r ta tb σ H Q := h
theorem r_un {r : V → Hp → VK → Prop} (h : ta σ H fun x H1 => r x H1 Q) : tUn r ta σ H Q := h
theorem r_rU {g : Int → V} {i : Int} (h : Q (g i) H) : rU g (.int i) H Q := ⟨i, rfl, h⟩
theorem r_rI0 {g : Int → Int → V} {i j : Int} (h : Q (g i j) H) : rI0 g (.int i) (.int j) H Q := ⟨i, j, rfl, rfl, h⟩
theorem r_ipI {f : Int → Int → Int} {i j : Int} (h : Q (.int (f i j)) H) : ipI f (.int i) (.int j) H Q := ⟨i, j, rfl, rfl, h⟩
theorem r_rEq {x y : V} (e : scal x y = true) (h : Q (.bl (decide (x = y))) H) : rEq x y H Q := ⟨e, h⟩
theorem r_rNe {x y : V} (e : scal x y = true) (h : Q (.bl (!decide (x = y))) H) : rNe x y H Q := ⟨e, h⟩
theorem r_test (h : te σ H fun x H' => ∃ k, x = .bl k ∧ QB k H') : tTest te σ H QB := h
theorem r_tB (h : te σ H fun x H' => ∃ k, x = .bl k ∧ QB k H') : tB te σ H QB := h
theorem r_bl {k : Bool} {P : Bool → Prop} (h : P k) : ∃ k', V.bl k = .bl k' ∧ P k' := ⟨k, rfl, h⟩
theorem r_not {c : TT} (h : c σ H fun b H1 => QB (!b) H1) : tNot c σ H QB := h
theorem r_and {c d : TT} (h : c σ H fun b H1 => if b = true then d σ H1 QB else QB false H1) : tAnd c d σ H QB := h
theorem r_or {c d : TT} (h : c σ H fun b H1 => if b = true then QB true H1 else d σ H1 QB) : tOr c d σ H QB := h
theorem r_andV (h : ta σ H fun x H1 => ∃ c, x = .bl c ∧ if c = true then tb σ H1 Q else Q (.bl false) H1) : tAndV ta tb σ H Q := h
theorem r_ifE {c : TT} (h : c σ H fun b H1 => if b = true then ta σ H1 Q else tb σ H1 Q) : tIf c ta tb σ H Q := h
theorem r_notN (h : ta σ H fun x H1 => Q (.bl (!decide (x = .non))) H1) : tNotN ta σ H Q := h
theorem r_yes (h : QB true H) : tYes σ H QB := h
variable {tA tR : TA} {QA : List V → Hp → Prop}
theorem r_nil (h : QA [] H) : tNil σ H QA := h
theorem r_cons (h : te σ H fun x H1 => tR σ H1 fun xs H2 => QA (x :: xs) H2) : tCons te tR σ H QA := h
theorem r_call {sp : Sp} {E : XK} (h : tA σ H fun vs H1 => sp (vs ++ []) H1 Q E) : tCall sp [] E tA σ H Q := h
theorem r_cB {r : List V → Hp → VK → Prop} (h : tA σ H fun vs H1 => r vs H1 Q) : tCB r tA σ H Q := h
theorem r_lst (h : tA σ H fun xs H1 => xs.length ≤ sizeLine ∧ ∀ p, H1 p = none → Q (.ref p) (upd H1 p (.lst xs))) : tLst tA σ H Q := h
theorem r_tup (h : tA σ H fun xs H1 => xs.length ≤ sizeLine ∧ ∀ p, H1 p = none → Q (.ref p) (upd H1 p (.tup xs))) : tTup tA σ H Q := h
theorem r_bm {K : PySem.W.Frag} {T : String} {r : V → List V → Hp → VK → Prop} (h : te σ H fun x H1 => tyV K T x H1 ∧ tA σ H1 fun xs H2 => r x xs H2 Q) : tBM K T r te tA σ H Q := h
theorem r_sl {r : V → Option Int → Option Int → Hp → VK → Prop} {tl th : TO} (h : te σ H fun x H1 => tl σ H1 fun l H2 => th σ H2 fun u H3 => r x l u H3 Q) : tSl r te tl th σ H Q := h
theorem r_nopart {QO : Option Int → Hp → Prop} (h : QO none H) : tNoPart σ H QO := h
theorem r_part {QO : Option Int → Hp → Prop} (h : te σ H fun x H1 => ∃ i, x = .int i ∧ QO (some i) H1) : tPart te σ H QO := h
theorem r_int {P : Int → Prop} {i : Int} (h : P i) : ∃ j, V.int i = .int j ∧ P j := ⟨i, rfl, h⟩
def forB (J : It) (g : TG) (tb : TS) (D : Ends) (σ : St) (H1 : Hp) : Prop := ∃ W : Nat → Nat → St → Hp → Prop, (∃ m, W 0 m σ H1) ∧ ∀ i m σ H, W i m σ H →
  (J.stop i H ∧ D.nx σ H) ∨ (J.go i H ∧ ∃ N : St → Hp → Prop, (∀ σ' H', N σ' H' → ∃ m', m' < m ∧ W (i + 1) m' σ' H') ∧ ∀ x H', J.yld i H x H' → g x σ H' fun σ2 H2 => tb { D with nx := N, ct := N, bk := D.nx } σ2 H2)
theorem r_for {wi : TI} {g : TG} (h : wi σ H fun J H1 => forB J g t D σ H1) : tFor wi g t D σ H := h
theorem r_rng1 {R : It → Hp → Prop} (h : tA σ H fun vs H1 => ∃ j : Int, vs = [.int j] ∧ -(2 ^ 62) ≤ j ∧ j < 2 ^ 62 ∧ R (Itr 0 j.toNat) H1) : iRng1 tA σ H R := h
theorem r_ilist {K : PySem.W.Frag} {R : It → Hp → Prop} (h : te σ H fun x H1 => ∃ a, x = .ref a ∧ (∃ xs, SqL K H1 a xs) ∧ R (Itl K a) H1) : iList K te σ H R := h
theorem r_itup {K : PySem.W.Frag} {R : It → Hp → Prop} (h : te σ H fun x H1 => ∃ a, x = .ref a ∧ (∃ xs, SqT K H1 a xs) ∧ R (Itt K a) H1) : iTup K te σ H R := h
theorem r_lc {wi : TI} {ix : List Nat} {tc : TT} (h : wi σ H fun J H1 => rdLc J H1 (frV σ ix) tc te Q) : tLc wi ix tc te σ H Q := h
theorem r_ixL {K : PySem.W.Frag} {p : Addr} {xs : List V} {i : Int} {v : V} (hs : SqL K H p xs) (e : atI xs i = some v) (h : Q v H) : rIxL K (.ref p) (.int i) H Q := ⟨p, xs, i, v, rfl, rfl, hs, e, h⟩
theorem r_append {l : Addr} {xs : List V} {y : V} (hl : H l = some (.lst xs)) (hz : xs.length < sizeLine) (h : Q .non (upd H l (.lst (xs ++ [y])))) : rAppend (.ref l) [y] H Q := ⟨l, xs, y, rfl, rfl, hl, hz, h⟩
end
theorem while_rd {c : TT} {tb : TS} {D : Ends} {σ : St} {H : Hp} (Pv : St → Hp → Prop) (μ : St → Hp → Nat) (h0 : Pv σ H)
    (hs : ∀ m σ H, Pv σ H → μ σ H = m → c σ H fun b H1 => if b = true then ∃ N : St → Hp → Prop, (∀ σ' H', N σ' H' → ∃ m', m' < m ∧ (Pv σ' H' ∧ μ σ' H' = m')) ∧ tb { D with nx := N, ct := N, bk := D.nx } σ H1 else D.nx σ H1) : tWhile c tb D σ H :=
  ⟨fun m σ H => Pv σ H ∧ μ σ H = m, ⟨_, h0, rfl⟩, fun m σ H h => hs m σ H h.1 h.2⟩
theorem r_turn {tb : TS} {rt : VK} {bk : St → Hp → Prop} {σ : St} {H1 : Hp} {Pv : St → Hp → Prop} {μ : St → Hp → Nat} {m : Nat}
    (h : tb { nx := fun σ' H' => Pv σ' H' ∧ μ σ' H' < m, rt := rt, bk := bk, ct := fun σ' H' => Pv σ' H' ∧ μ σ' H' < m } σ H1) :
    ∃ N : St → Hp → Prop, (∀ σ' H', N σ' H' → ∃ m', m' < m ∧ (Pv σ' H' ∧ μ σ' H' = m')) ∧ tb { nx := N, rt := rt, bk := bk, ct := N } σ H1 := ⟨_, fun σ' H' z => ⟨_, z.2, z.1, rfl⟩, h⟩
section
variable {H : Hp} {Q : VK} {g : Int → Int → V} {i j : Int}
theorem r_mod (c : 0 < j) (h : Q (g i j) H) : rI (fun _ j => 0 < j) g (.int i) (.int j) H Q := ⟨i, j, rfl, rfl, c, h⟩
theorem r_div (c1 : 0 < j) (c2 : j < 1073741824) (h : Q (g i j) H) : rI CDiv g (.int i) (.int j) H Q := ⟨i, j, rfl, rfl, ⟨c1, c2⟩, h⟩
theorem r_mulR (c1 : -(2 ^ 64) < j) (c2 : j < 2 ^ 64) (h : Q (g i j) H) : rI CMul g (.int i) (.int j) H Q := ⟨i, j, rfl, rfl, .inr ⟨c1, c2⟩, h⟩
theorem r_mulL (c1 : -(2 ^ 64) < i) (c2 : i < 2 ^ 64) (h : Q (g i j) H) : rI CMul g (.int i) (.int j) H Q := ⟨i, j, rfl, rfl, .inl ⟨c1, c2⟩, h⟩
end
theorem iteP {c A B : Prop} [Decidable c] (h1 : c → A) (h2 : ¬ c → B) : if decide c = true then A else B := by
  by_cases h : c
  · rw [decide_eq_true h, if_pos rfl]
    exact h1 h
  · rw [decide_eq_false h, if_neg Bool.false_ne_true]
    exact h2 h
theorem iteN {c A B : Prop} [Decidable c] (h1 : ¬ c → A) (h2 : c → B) : if (!decide c) = true then A else B := by
  by_cases h : c
  · rw [decide_eq_true h, if_neg (by decide)]
    exact h2 h
  · rw [decide_eq_false h, if_pos (by decide)]
    exact h1 h
def tIfJ (c : TT) (t u : TS) : TS := fun D σ H => ∃ J : St → Hp → Prop, (∀ σ H, J σ H → D.nx σ H) ∧ c σ H fun b H1 => if b = true then t { D with nx := J } σ H1 else u { D with nx := J } σ H1
theorem ps_ifJ {X : Cx} {c : Expr} {a b : List Stmt} {tc : TT} {t u : TS} {pos : Pos} (hc : PT X c tc) (ha : PSs X a t) (hb : PSs X b u) : PS X (.If c a b pos) (tIfJ tc t u) := by
  intro pins s σ H D I h
  obtain ⟨J, hJ, h⟩ := h
  refine thn (ps_if hc ha hb pins s σ H { D with nx := J } I h) fun f s' q => ?_
  cases f with
  | next =>
    obtain ⟨σ', H', I', q'⟩ := q
    exact ⟨σ', H', I', hJ _ _ q'⟩
  | brk => exact q
  | cont => exact q
  | ret u => exact q
theorem r_ifJ {c : TT} {t u : TS} {D : Ends} {σ : St} {H : Hp} (J : St → Hp → Prop) (h : c σ H fun b H1 => if b = true then t { D with nx := J } σ H1 else u { D with nx := J } σ H1) (hJ : ∀ σ H, J σ H → D.nx σ H) : tIfJ c t u D σ H := ⟨J, hJ, h⟩
end L2
end

section
set_option Elab.async false
set_option linter.all false
set_option maxRecDepth 100000
set_option maxHeartbeats 4000000
namespace L2
open PySem PySem.Spec PyProof.Rows

def Itr3 (lo st : Int) (n : Nat) : It := ⟨fun i _ => i < n, fun i H x H' => H' = H ∧ x = .int (lo + i * st), fun i _ => n ≤ i⟩
theorem turn_range3 {P : Program} {w : World} {K : PySem.W.Frag} {tg : Expr} (it : Addr) (lo dt : Int) (n : Nat) : Turn P w K tg (Itr3 lo dt n) [it] it (fun i h => IsRangeIter h it (lo + (i : Nat) * dt) ((n : Int) - (i : Nat)) dt) where
  mem := by simp
  obj := fun i h st b hb => by
    have e : b = it := by simpa using hb
    subst e
    exact ⟨_, st, fun v z => by
      have z' : Data.fields _ = Data.cell v := z
      cases z'⟩
  keep := fun i h h' st k => k it (by simp) _ st
  item := by
    intro X hP hw hK hc i pins s σ H E I hf st hg
    subst hP hw hK
    obtain ⟨f0, f1, f2, f3, f4, f5⟩ := hf it (by simp)
    have W := Walks.range (prog := X.prog) (w := X.w) (I.ok.hd hc) it lo dt n
    refine W.item i s _ _ hg st fun v h' tk hv st' kk => ?_
    obtain ⟨t, rfl⟩ := hv
    have I1 : Inv X pins σ H { s with heap := h', toks := tk } := I.turned (fun b o hb e => kk b o (by simpa using hb) e) f0 f1 f3 f4 f5
    exact ⟨_, rfl, go_of (s := { s with heap := h', toks := tk }) (n := "range_iterator") st' rfl rfl (by decide) ⟨.int _, H, I1, ⟨t, rfl⟩, ⟨rfl, rfl⟩, st', fun b hb => (hf b hb).1⟩⟩
  done := by
    intro X hP hw hK hc i pins s σ H E I hf st hg
    subst hP hw hK
    obtain ⟨f0, f1, f2, f3, f4, f5⟩ := hf it (by simp)
    exact wpAny_pyNext_range_end (I.ok.hd hc) st (by have : n ≤ i := hg; omega) fun h' eb => ⟨rfl, I.turned (t' := s.toks) (fun b o hb e => eb b o hb e) f0 f1 f3 f4 f5⟩
  self := fun _ _ _ _ _ st h => wpAny_pyIter_rangeiter st h
theorem for_steps {lo st : Int} {n : Nat} {g : TG} {tb : TS} {D : Ends} {σ : St} {H : Hp} (Pv : Nat → St → Hp → Prop) (h0 : Pv 0 σ H)
    (hs : ∀ (i : Nat) σ H, i < n → Pv i σ H → g (.int (lo + i * st)) σ H fun σ2 H2 => tb { D with nx := Pv (i + 1), ct := Pv (i + 1), bk := D.nx } σ2 H2) (hd : ∀ σ H, Pv n σ H → D.nx σ H) : forB (Itr3 lo st n) g tb D σ H := by
  refine ⟨fun i m σ H => i ≤ n ∧ m = n - i ∧ Pv i σ H, ⟨n, Nat.zero_le _, rfl, h0⟩, ?_⟩
  rintro i m σ H ⟨hi, rfl, hP⟩
  by_cases h : i = n
  · subst h
    exact .inl ⟨Nat.le_refl _, hd σ H hP⟩
  · have hlt : i < n := Nat.lt_of_le_of_ne hi h
    refine .inr ⟨hlt, Pv (i + 1), fun σ' H' hN => ⟨n - (i + 1), by omega, hlt, rfl, hN⟩, fun x H' hy => ?_⟩
    obtain ⟨rfl, rfl⟩ := hy
    exact hs i σ _ hlt hP
def Its (z : Str) : It := ⟨fun i _ => i < z.cps.size, fun i H x H' => H' = H ∧ ∃ c, z.cps[i]? = some c ∧ x = .str (sgn c), fun i _ => z.cps.size ≤ i⟩
section
variable {X : Cx} {tg : Expr}
def iStr (tl : TE) : TI := fun σ H R => tl σ H fun x H1 => ∃ z, x = .str z ∧ R (Its z) H1
theorem turn_str {P : Program} {w : World} {K : PySem.W.Frag} {tg : Expr} {it : Addr} {z : Str} {ty : String} {t : Tok} (hty : ty = "str_ascii_iterator" ∨ ty = "str_iterator")
    (W : ∀ A' : Around, A'.handled = none → Walks P w A' it [it] [it] z.cps.size (SignAt z) (fun i h => h.IsStrIter it ty z t i))
    (hself : ∀ (A : Around) (i : Nat) (s : Shared) (Q : Value → Shared → Prop) (E : Value → Shared → Prop), s.heap.IsStrIter it ty z t i → Q (.ref it) s → wpAny (model P w) A (pyIter (.ref it)) Q E s) : Turn P w K tg (Its z) [it] it (fun i h => h.IsStrIter it ty z t i) where
  mem := by simp
  obj := fun i h st b hb => by
    have e : b = it := by simpa using hb
    subst e
    obtain ⟨o, e, c, d⟩ := st
    exact ⟨o, e, fun v z => by rw [d] at z; cases z⟩
  keep := fun i h h' st k => let ⟨o, ho, r⟩ := st; ⟨o, k it (by simp) o ho, r⟩
  item := by
    intro X hP hw hK hc i pins s σ H E I hf st hg
    subst hP hw hK
    obtain ⟨f0, f1, f2, f3, f4, f5⟩ := hf it (by simp)
    refine (W X.A (I.ok.hd hc)).item i s _ _ hg st fun v h' tk hv st' kk => ?_
    obtain ⟨c, u, hc', rfl⟩ := hv
    have I1 : Inv X pins σ H { s with heap := h', toks := tk } := I.turned (fun b o hb e => kk b o (by simpa using hb) e) f0 f1 f3 f4 f5
    obtain ⟨o, e, cc, d⟩ := id st'
    exact ⟨_, rfl, go_of (s := { s with heap := h', toks := tk }) e cc d (by rcases hty with rfl | rfl <;> decide) ⟨.str (sgn c), H, I1, ⟨u, rfl⟩, ⟨rfl, c, hc', rfl⟩, st', fun b hb => (hf b hb).1⟩⟩
  done := by
    intro X hP hw hK hc i pins s σ H E I hf st hg
    subst hP hw hK
    obtain ⟨f0, f1, f2, f3, f4, f5⟩ := hf it (by simp)
    rcases hty with rfl | rfl
    · exact wpAny_pyNext_ascii_end (I.ok.hd hc) st (Array.getElem?_eq_none hg) fun h' eb => ⟨rfl, I.turned (t' := s.toks) (fun b o hb e => eb b o hb e) f0 f1 f3 f4 f5⟩
    · exact wpAny_pyNext_wide_end (I.ok.hd hc) st (Array.getElem?_eq_none hg) fun h' eb => ⟨rfl, I.turned (t' := s.toks) (fun b o hb e => eb b o hb e) f0 f1 f3 f4 f5⟩
  self := fun A i s Q E st h => hself A i s Q E st h
theorem pi_str {l : Expr} {tl : TE} (hl : PE X l tl) : PI X tg l (iStr tl) := by
  intro pins s σ H R I h
  refine thn (hl pins s σ H _ I h) fun v s1 ⟨x, H1, I1, r1, q1⟩ => ?_
  obtain ⟨z, e, q⟩ := q1
  subst e
  obtain ⟨t, rfl⟩ := r1
  have fin : ∀ (o : Obj) (ty : String), (ty = "str_ascii_iterator" ∨ ty = "str_iterator") → (∀ A' : Around, A'.handled = none → Walks X.prog X.w A' s1.heap.objs.size [s1.heap.objs.size] [s1.heap.objs.size] z.cps.size (SignAt z) (fun i h => h.IsStrIter s1.heap.objs.size ty z t i)) →
      (∀ (A : Around) (i : Nat) (s : Shared) (Q : Value → Shared → Prop) (E : Value → Shared → Prop), s.heap.IsStrIter s1.heap.objs.size ty z t i → Q (.ref s1.heap.objs.size) s → wpAny (model X.prog X.w) A (pyIter (.ref s1.heap.objs.size)) Q E s) →
      (s1.heap.push o).IsStrIter s1.heap.objs.size ty z t 0 → PIE X pins σ tg R (.ref s1.heap.objs.size) { s1 with heap := s1.heap.push o } := fun o ty hty W hs h0 => by
    refine ⟨s1.heap.objs.size, [s1.heap.objs.size], _, _, H1, rfl, I1.kept (t' := s1.toks) fun b o e => Heap.get?_push_of_some _ e, turn_str hty W hs, h0, fun b hb => ?_, q⟩
    have e : b = s1.heap.objs.size := by simpa using hb
    subst e
    exact I1.fpOk (Nat.le_refl _) (I1.hok.fresh (Nat.le_refl _))
  cases ha : z.cps.all (· < 128)
  · exact wpAny_pyIter_wide ha (fin _ _ (.inr rfl) (fun A' hA => Walks.strWide hA _ z t) (fun A i s Q E st h => wpAny_pyIter_striter_wide st h) ⟨_, Heap.get?_push_size _ rfl, rfl, rfl⟩)
  · exact wpAny_pyIter_ascii ha (fin _ _ (.inl rfl) (fun A' hA => Walks.strAscii hA _ z t) (fun A i s Q E st h => wpAny_pyIter_striter_ascii st h) ⟨_, Heap.get?_push_size _ rfl, rfl, rfl⟩)
end
theorem r_istr {tl : TE} {σ : St} {H : Hp} {R : It → Hp → Prop} (h : tl σ H fun x H1 => ∃ z, x = .str z ∧ R (Its z) H1) : iStr tl σ H R := h
def cutS (z : Str) (lo hi : Option Int) : Str := ⟨((z.cps.toList.drop (HT.sIx z.cps.size 0 lo)).take (HT.sIx z.cps.size z.cps.size hi - HT.sIx z.cps.size 0 lo)).toArray⟩
def rSlS : V → Option Int → Option Int → Hp → VK → Prop := fun x lo hi H Q => ∃ z, x = .str z ∧ z.length ≤ sizeLine ∧ Q (.str (cutS z lo hi)) H
theorem strIx (lo hi : Option Int) (n : Nat) : Builtin.Str.strSliceIndices lo hi 1 n = (List.range (HT.sIx n n hi - HT.sIx n 0 lo)).map (HT.sIx n 0 lo + ·) := by
  have e : Builtin.Str.strSliceIndices lo hi 1 n = sliceRange ((HT.sIx n 0 lo : Nat) : Int) ((HT.sIx n n hi : Nat) : Int) 1 := by
    unfold Builtin.Str.strSliceIndices
    dsimp only
    congr 1
    · cases lo with
      | none => simp [HT.sIx]
      | some i =>
        simp only [HT.sIx, show (1 : Int) > 0 by decide, if_true]
        by_cases h : i < 0
        · simp only [h, if_true]
          omega
        · simp only [h, if_false]
          omega
    · cases hi with
      | none => simp [HT.sIx]
      | some i =>
        simp only [HT.sIx, show (1 : Int) > 0 by decide, if_true]
        by_cases h : i < 0
        · simp only [h, if_true]
          omega
        · simp only [h, if_false]
          omega
  rw [e, sliceRange_one]
theorem cut_made (z : Str) (t : Tok) (l u : Option (Int × Tok)) : (sliceMade z t l u none = .val (.str z t) ∧ cutS z (l.map (·.1)) (u.map (·.1)) = z) ∨ sliceMade z t l u none = .str (cutS z (l.map (·.1)) (u.map (·.1))) := by
  have hp : slicePicked z l u none = (List.range (HT.sIx z.length z.length (u.map (·.1)) - HT.sIx z.length 0 (l.map (·.1)))).map (HT.sIx z.length 0 (l.map (·.1)) + ·) := strIx _ _ _
  have hc : (slicePicked z l u none).filterMap (z.cps[·]?) = (cutS z (l.map (·.1)) (u.map (·.1))).cps.toList := by
    rw [hp, pick_run]
    rfl
  unfold sliceMade
  split
  · rename_i hw
    left
    refine ⟨rfl, ext_cps ?_⟩
    have hlen : (slicePicked z l u none).length = z.length := by simpa using hw
    rw [hp, List.length_map, List.length_range] at hlen
    have h1 := HT.sIx_le z.length 0 (Nat.zero_le _) (l.map (·.1))
    have h2 := HT.sIx_le z.length z.length (Nat.le_refl _) (u.map (·.1))
    have e1 : HT.sIx z.length 0 (l.map (·.1)) = 0 ∨ z.length = 0 := by omega
    show ((z.cps.toList.drop (HT.sIx z.cps.size 0 (l.map (·.1)))).take _).toArray.toList = _
    rw [show z.cps.size = z.length from rfl] at *
    rcases e1 with e1 | e1
    · rw [e1, Nat.sub_zero] at hlen
      rw [e1, hlen, Nat.sub_zero, List.drop_zero, List.toList_toArray]
      exact List.take_of_length_le (by simp [Str.length])
    · have : z.cps.toList = [] := by
        have : z.cps.size = 0 := e1
        simpa using this
      rw [this]
      simp
  · right
    rw [hc]
section
variable {X : Cx}
theorem sl_str : SlR X rSlS := by
  intro pins s σ H x v vl vu lo hi sl Q I rx hs pl pu h
  obtain ⟨z, rfl, hz, q⟩ := h
  obtain ⟨t, rfl⟩ := rx
  refine ⟨"str", _, PySem.F.slot_str_getitem.lookup, typeIs_str _ _ _, ?_⟩
  obtain ⟨l, el, el'⟩ : ∃ l : Option (Int × Tok), vl = partValue l ∧ lo = l.map (·.1) := by
    cases pl with
    | none => exact ⟨none, rfl, rfl⟩
    | int i t => exact ⟨some (i, t), rfl, rfl⟩
  obtain ⟨u, eu, eu'⟩ : ∃ u : Option (Int × Tok), vu = partValue u ∧ hi = u.map (·.1) := by
    cases pu with
    | none => exact ⟨none, rfl, rfl⟩
    | int i t => exact ⟨some (i, t), rfl, rfl⟩
  subst el el' eu eu'
  refine wpAny_getItem_str_slice (l := l) (u := u) (st := none) hs rfl ?_
  rcases cut_made z t l u with ⟨e, e2⟩ | e
  · rw [e]
    rw [e2] at q
    exact ⟨.str z, H, I, ⟨t, rfl⟩, q⟩
  · rw [e]
    refine ⟨?_, .str _, H, I.tok _, ⟨_, rfl⟩, q⟩
    refine Nat.le_trans ?_ hz
    show (List.take _ (List.drop _ z.cps.toList)).toArray.size ≤ z.cps.size
    rw [List.size_toArray, List.length_take, List.length_drop]
    simp
    omega
end
end L2
end

section
set_option Elab.async false
set_option linter.all false
set_option maxRecDepth 100000
set_option maxHeartbeats 4000000
namespace L2
open PySem PySem.Spec PyProof.Rows
theorem b_enumerate : bootBuiltins "enumerate" = some (.type "enumerate") := by decide +kernel

theorem Inv.turnT {X : Cx} {pins : List (Addr × Obj)} {σ : List (Option V)} {H : Hp} {s : Shared} {h' : Heap} {t' : Nat} {wr : List Addr} {T : Addr} {xs : List V} {us : List Value} (I : Inv X pins σ H s)
    (k : ∀ b o, b ∉ wr → s.heap.get? b = some o → h'.get? b = some o) (hf : ∀ b ∈ wr, FpOk X pins H b) (hT : s.heap.objs.size ≤ T) (hI : h'.IsTuple T us.toArray) (rv : Vals xs us) (hz : xs.length ≤ sizeLine) :
    Inv X pins σ (upd H T (.tup xs)) { s with heap := h', toks := t' } := by
  have hn : H T = none := I.hok.fresh hT
  have nT : ∀ b u, H b = some u → b ≠ T := fun b u e => ne_of_none e hn
  have nW : ∀ b u, H b = some u → b ∉ wr := fun b u e z => by rw [(hf b z).1] at e; cases e
  refine I.step (g' := s.gens) (d' := s.drawn) (ch := wr) (fun b hb => ?_) (fun b o _ _ hc e _ => k b o hc e) (fun b o _ _ hc e _ => ⟨o.slots, k b o hc e⟩) (fun b o hc e n => ?_)
    (fun b o hc e => ⟨o, k b o hc e⟩) (fun b xs e => by rw [upd_ne (nT _ _ e)]; exact e) (fun b o u e => by rw [upd_ne (nT _ _ e)]; exact e) (fun b ps e => ⟨#[], by rw [upd_ne (nT _ _ e), e]; simp⟩) (fun m hm => ?_) (fun b u e => ?_) I.bare
  · obtain ⟨_, f1, _, f3, f4, f5⟩ := hf b hb
    exact ⟨f3, f1, f4, f5⟩
  · rw [upd_ne (Nat.ne_of_lt (Nat.lt_of_lt_of_le (Heap.lt_size e) hT))]
    exact n
  · obtain ⟨o, es, ep, ho, r⟩ := hm
    exact ⟨o, es, ep, k _ o (fun z => (hf _ z).2.1 rfl) ho, r⟩
  · by_cases hb : b = T
    · subst hb
      rw [upd_same] at e
      cases e
      exact ⟨hz, us, rv, hI⟩
    · rw [upd_ne hb] at e
      refine (I.hok b u e).stay (fun c v hc q => k c v ?_ q) (fun c q => by rw [upd_ne (nT _ _ q)]; exact q) fun c ys q => by rw [upd_ne (nT _ _ q)]; exact q
      rcases hc with z | z
      · rw [z]; exact nW b u e
      · exact nW c _ z
theorem Inv.turnW {X : Cx} {pins : List (Addr × Obj)} {σ : List (Option V)} {H : Hp} {s : Shared} {h' : Heap} {t' : Nat} {wr : List Addr} (I : Inv X pins σ H s)
    (k : ∀ b o, b ∉ wr → s.heap.get? b = some o → h'.get? b = some o) (hf : ∀ b ∈ wr, FpOk X pins H b) : Inv X pins σ H { s with heap := h', toks := t' } := by
  have nW : ∀ b u, H b = some u → b ∉ wr := fun b u e z => by rw [(hf b z).1] at e; cases e
  refine I.step (g' := s.gens) (d' := s.drawn) (ch := wr) (fun b hb => ?_) (fun b o _ _ hc e _ => k b o hc e) (fun b o _ _ hc e _ => ⟨o.slots, k b o hc e⟩) (fun b o hc e n => n)
    (fun b o hc e => ⟨o, k b o hc e⟩) (fun _ _ e => e) (fun _ _ _ e => e) (fun b ps e => ⟨#[], by rw [e]; simp⟩) (fun m hm => ?_) (fun b u e => ?_) I.bare
  · obtain ⟨_, f1, _, f3, f4, f5⟩ := hf b hb
    exact ⟨f3, f1, f4, f5⟩
  · obtain ⟨o, es, ep, ho, r⟩ := hm
    exact ⟨o, es, ep, k _ o (fun z => (hf _ z).2.1 rfl) ho, r⟩
  · refine (I.hok b u e).stay (fun c v hc q => k c v ?_ q) (fun _ q => q) fun _ _ q => q
    rcases hc with z | z
    · rw [z]; exact nW b u e
    · exact nW c _ z
theorem cls_ne {h : Heap} {a b : Addr} {o u : Obj} (h1 : h.get? a = some o) (h2 : h.get? b = some u) (d : o.cls ≠ u.cls) : a ≠ b := fun e => by
  subst e
  rw [h1] at h2
  cases h2
  exact d rfl
def Itz (K : PySem.W.Frag) (a b : Addr) : It :=
  ⟨fun i H => ∃ xs ys x y, SqL K H a xs ∧ SqL K H b ys ∧ xs[i]? = some x ∧ ys[i]? = some y,
   fun i H v H' => ∃ t x y, H t = none ∧ v = .ref t ∧ (∀ xs, SqL K H a xs → xs[i]? = some x) ∧ (∀ ys, SqL K H b ys → ys[i]? = some y) ∧ H' = upd H t (.tup [x, y]),
   fun i H => ∃ xs ys, SqL K H a xs ∧ SqL K H b ys ∧ i = min xs.length ys.length⟩
def StZ (z TI TO i1 i2 l1 l2 : Addr) (i : Nat) (h : Heap) : Prop := IsZip h z TI TO .none ∧ IsPair h TI (.ref i1) (.ref i2) ∧ (∃ a b, IsPair h TO a b) ∧ h.IsListIter i1 l1 i ∧ h.IsListIter i2 l2 i
structure ApartZ (z TI TO i1 i2 : Addr) : Prop where
  TIz : TI ≠ z
  TOz : TO ≠ z
  i1z : i1 ≠ z
  i2z : i2 ≠ z
  TITO : TI ≠ TO
  TIi1 : TI ≠ i1
  TIi2 : TI ≠ i2
  TOi1 : TO ≠ i1
  TOi2 : TO ≠ i2
  i12 : i1 ≠ i2
theorem apartZ {h : Heap} {z TI TO i1 i2 a b : Addr} {i : Nat} {xs ys : Array Value} (D : ApartZ z TI TO i1 i2) (st : StZ z TI TO i1 i2 a b i h) (ha : h.IsList a xs) (hb : h.IsList b ys) : ZipApart z TI TO i1 i2 a b := by
  obtain ⟨hz, hTI, ⟨u, v, hTO⟩, ⟨o1, e1, c1, _⟩, ⟨o2, e2, c2, _⟩⟩ := st
  obtain ⟨oa, ea, ca, _⟩ := ha
  obtain ⟨ob, eb, cb, _⟩ := hb
  refine ⟨D.TIz, D.TOz, D.i1z, D.i2z, D.TITO, D.TIi1, D.TIi2, D.TOi1, D.TOi2, D.i12, cls_ne ea hz ?_, cls_ne ea hTO ?_, cls_ne ea e1 ?_, cls_ne ea e2 ?_, cls_ne eb hz ?_, cls_ne eb hTO ?_, cls_ne eb e1 ?_, cls_ne eb e2 ?_⟩
  · rw [ca]; exact show Value.type "list" ≠ Value.type "zip" by decide
  · rw [ca]; exact show Value.type "list" ≠ Value.type "tuple" by decide
  · rw [ca, c1]; decide
  · rw [ca, c2]; decide
  · rw [cb]; exact show Value.type "list" ≠ Value.type "zip" by decide
  · rw [cb]; exact show Value.type "list" ≠ Value.type "tuple" by decide
  · rw [cb, c1]; decide
  · rw [cb, c2]; decide
theorem le_z2 {n c : Nat} (h : c = n + 1 ∨ c = n) : n ≤ c := by omega
theorem ne_z1 (n : Nat) : n + 1 ≠ n := by omega
theorem turn_zip {P : Program} {w : World} {K : PySem.W.Frag} {elts : List Expr} {k : Nat} {pos : Pos} (z TI TO i1 i2 a b : Addr) (D : ApartZ z TI TO i1 i2) :
    Turn P w K (.Tuple elts k pos) (Itz K a b) [z, TI, TO, i1, i2] z (StZ z TI TO i1 i2 a b) where
  mem := by simp
  obj := fun i h st c hc => by
    obtain ⟨hz, hTI, ⟨u, v, hTO⟩, ⟨o1, e1, c1, d1⟩, ⟨o2, e2, c2, d2⟩⟩ := st
    simp only [List.mem_cons, List.not_mem_nil, or_false] at hc
    rcases hc with rfl | rfl | rfl | rfl | rfl
    · exact ⟨_, hz, fun v z => by cases z⟩
    · exact ⟨_, hTI, fun v z => by cases z⟩
    · exact ⟨_, hTO, fun v z => by cases z⟩
    · exact ⟨_, e1, fun v z => by rw [d1] at z; cases z⟩
    · exact ⟨_, e2, fun v z => by rw [d2] at z; cases z⟩
  keep := fun i h h' st kk => by
    obtain ⟨hz, hTI, ⟨u, v, hTO⟩, h1, h2⟩ := st
    exact ⟨kk _ (by simp) _ hz, kk _ (by simp) _ hTI, ⟨u, v, kk _ (by simp) _ hTO⟩, h1.at fun o e => kk _ (by simp) o e, h2.at fun o e => kk _ (by simp) o e⟩
  item := by
    intro X hP hw hK hc i pins s σ H E I hf st hg
    subst hP hw hK
    obtain ⟨xs, ys, x, y, ha, hb, hx, hy⟩ := hg
    obtain ⟨its, rv, p, hz⟩ := I.list ha
    obtain ⟨its2, rv2, p2, hz2⟩ := I.list hb
    have W := WalksT.zip2 (prog := X.prog) (w := X.w) (A := X.A) (I.ok.hd hc) z TI TO i1 i2 a b (apartZ D st p.isList p2.isList) its.toArray its2.toArray
    obtain ⟨u1, hu1, ru1⟩ := rv.get hx
    obtain ⟨u2, hu2, ru2⟩ := rv2.get hy
    have l1 := (List.getElem?_eq_some_iff.mp hu1).1
    have l2 := (List.getElem?_eq_some_iff.mp hu2).1
    obtain ⟨s1, s2, s3, s4, s5⟩ := id st
    refine W.item i s _ _ (by simp; omega) ⟨s1, s2, s3, s4, s5, p.isList, p2.isList⟩ fun T vals h' tk hv hT hTu mid kk => ?_
    obtain ⟨v1, v2, e1, e2, rfl⟩ := hv
    have e1 : v1 = u1 := by have := e1; simp only [List.getElem?_toArray] at this; rw [hu1] at this; exact (Option.some.inj this).symm
    have e2 : v2 = u2 := by have := e2; simp only [List.getElem?_toArray] at this; rw [hu2] at this; exact (Option.some.inj this).symm
    subst e1 e2
    have nT := W.apart i T h' mid
    refine ⟨.ref T, rfl, W.go elts k pos i T { s with heap := h', toks := tk } _ _ mid fun h'' st'' kk2 => ?_⟩
    have hTu2 : h''.IsTuple T ([v1, v2] : List Value).toArray := by
      obtain ⟨o, e, r⟩ := hTu
      exact ⟨o, kk2 T o nT e, r⟩
    have I2 : Inv X pins σ (upd H T (.tup [x, y])) { s with heap := h'', toks := tk } := I.turnT (t' := tk) (fun b o hb e => kk2 b o hb (kk b o hb e)) (fun b hb => hf b (by simp at hb ⊢; rcases hb with rfl | rfl | rfl | rfl <;> simp)) hT hTu2 (.cons ru1 (.cons ru2 .nil)) (show 2 ≤ sizeLine by decide)
    refine ⟨.ref T, _, I2, rfl, ⟨T, x, y, I.hok.fresh hT, rfl, fun xs' h => by rw [I.list_inj h ha]; exact hx, fun ys' h => by rw [I.list_inj h hb]; exact hy, rfl⟩, ⟨st''.1, st''.2.1, st''.2.2.1, st''.2.2.2.1, st''.2.2.2.2.1⟩, fun c hc' => ?_⟩
    have hlt : c < s.heap.objs.size := by
      obtain ⟨q, ⟨t1, t2, t3⟩⟩ : c ∈ [z, TI, TO, i1, i2] ∧ (IsZip s.heap z TI TO .none ∧ IsPair s.heap TI (.ref i1) (.ref i2) ∧ True) := ⟨hc', s1, s2, trivial⟩
      obtain ⟨u, v, s3⟩ := s3
      obtain ⟨o4, s4, _⟩ := s4
      obtain ⟨o5, s5, _⟩ := s5
      simp only [List.mem_cons, List.not_mem_nil, or_false] at hc'
      rcases hc' with rfl | rfl | rfl | rfl | rfl
      · exact Heap.lt_size s1
      · exact Heap.lt_size s2
      · exact Heap.lt_size s3
      · exact Heap.lt_size s4
      · exact Heap.lt_size s5
    rw [upd_ne (Nat.ne_of_lt (Nat.lt_of_lt_of_le hlt hT))]
    exact (hf c hc').1
  done := by
    intro X hP hw hK hc i pins s σ H E I hf st hg
    subst hP hw hK
    obtain ⟨xs, ys, ha, hb, hi⟩ := hg
    obtain ⟨its, rv, p, hz⟩ := I.list ha
    obtain ⟨its2, rv2, p2, hz2⟩ := I.list hb
    have W := WalksT.zip2 (prog := X.prog) (w := X.w) (A := X.A) (I.ok.hd hc) z TI TO i1 i2 a b (apartZ D st p.isList p2.isList) its.toArray its2.toArray
    have hl := rv.length
    have hl2 := rv2.length
    have hi2 : i = min its.toArray.size its2.toArray.size := by rw [hi, hl, hl2]; simp
    obtain ⟨s1, s2, s3, s4, s5⟩ := id st
    refine W.done s _ _ (by rw [← hi2]; exact ⟨s1, s2, s3, s4, s5, p.isList, p2.isList⟩) fun h' tk kk => ⟨rfl, ?_⟩
    exact I.turnW (t' := tk) kk fun b hb => hf b (by simp at hb ⊢; rcases hb with rfl | rfl | rfl | rfl <;> simp)
  self := fun _ _ _ _ _ st h => wpAny_pyIter_zip st.1 h
def Ite (K : PySem.W.Frag) (a : Addr) : It :=
  ⟨fun i H => ∃ xs x, SqL K H a xs ∧ xs[i]? = some x,
   fun i H v H' => ∃ t x, H t = none ∧ v = .ref t ∧ (∀ xs, SqL K H a xs → xs[i]? = some x) ∧ H' = upd H t (.tup [.int i, x]),
   fun i H => ∃ xs, SqL K H a xs ∧ i = xs.length⟩
def StE (e it l : Addr) (i : Nat) (h : Heap) : Prop := (∃ old, IsEnum h e it i old) ∧ h.IsListIter it l i
theorem turn_enum {P : Program} {w : World} {K : PySem.W.Frag} {elts : List Expr} {k : Nat} {pos : Pos} (e it a : Addr) (D : e ≠ it) :
    Turn P w K (.Tuple elts k pos) (Ite K a) [e, it] e (StE e it a) where
  mem := by simp
  obj := fun i h st c hc => by
    obtain ⟨⟨old, he⟩, ⟨o1, e1, c1, d1⟩⟩ := st
    simp only [List.mem_cons, List.not_mem_nil, or_false] at hc
    rcases hc with rfl | rfl
    · exact ⟨_, he, fun v z => by cases z⟩
    · exact ⟨_, e1, fun v z => by rw [d1] at z; cases z⟩
  keep := fun i h h' st kk => by
    obtain ⟨⟨old, he⟩, h1⟩ := st
    exact ⟨⟨old, kk _ (by simp) _ he⟩, h1.at fun o e => kk _ (by simp) o e⟩
  item := by
    intro X hP hw hK hc i pins s σ H E I hf st hg
    subst hP hw hK
    obtain ⟨xs, x, ha, hx⟩ := hg
    obtain ⟨its, rv, p, hz⟩ := I.list ha
    obtain ⟨⟨old, s1⟩, s2⟩ := id st
    have n1 : a ≠ e := by obtain ⟨oa, ea, ca, _⟩ := p.isList; exact cls_ne ea s1 (by rw [ca]; exact show Value.type "list" ≠ Value.type "enumerate" by decide)
    have n2 : a ≠ it := by obtain ⟨oa, ea, ca, _⟩ := p.isList; obtain ⟨o1, e1, c1, _⟩ := s2; exact cls_ne ea e1 (by rw [ca, c1]; decide)
    have W := WalksT.enumerate (prog := X.prog) (w := X.w) (A := X.A) (I.ok.hd hc) e it a D n1 n2 its.toArray
    obtain ⟨u1, hu1, ru1⟩ := rv.get hx
    have l1 := (List.getElem?_eq_some_iff.mp hu1).1
    refine W.item i s _ _ (by simpa using l1) ⟨⟨old, s1⟩, s2, p.isList⟩ fun T vals h' tk hv hT hTu mid kk => ?_
    obtain ⟨t, v1, e1, rfl⟩ := hv
    have e1 : v1 = u1 := by have := e1; simp only [List.getElem?_toArray] at this; rw [hu1] at this; exact (Option.some.inj this).symm
    subst e1
    have nT := W.apart i T h' mid
    refine ⟨.ref T, rfl, W.go elts k pos i T { s with heap := h', toks := tk } _ _ mid fun h'' st'' kk2 => ?_⟩
    have hTu2 : h''.IsTuple T ([Value.int (i : Int) t, v1] : List Value).toArray := by
      obtain ⟨o, e, r⟩ := hTu
      exact ⟨o, kk2 T o nT e, r⟩
    have I2 : Inv X pins σ (upd H T (.tup [.int i, x])) { s with heap := h'', toks := tk } := I.turnT (t' := tk) (fun b o hb e => kk2 b o hb (kk b o hb e)) (fun b hb => hf b hb) hT hTu2 (.cons ⟨t, rfl⟩ (.cons ru1 .nil)) (show 2 ≤ sizeLine by decide)
    refine ⟨.ref T, _, I2, rfl, ⟨T, x, I.hok.fresh hT, rfl, fun xs' h => by rw [I.list_inj h ha]; exact hx, rfl⟩, ⟨?_, st''.2.1⟩, fun c hc' => ?_⟩
    · exact st''.1
    have hlt : c < s.heap.objs.size := by
      obtain ⟨o5, s5, _⟩ := s2
      simp only [List.mem_cons, List.not_mem_nil, or_false] at hc'
      rcases hc' with rfl | rfl
      · exact Heap.lt_size s1
      · exact Heap.lt_size s5
    rw [upd_ne (Nat.ne_of_lt (Nat.lt_of_lt_of_le hlt hT))]
    exact (hf c hc').1
  done := by
    intro X hP hw hK hc i pins s σ H E I hf st hg
    subst hP hw hK
    obtain ⟨xs, ha, hi⟩ := hg
    obtain ⟨its, rv, p, hz⟩ := I.list ha
    obtain ⟨⟨old, s1⟩, s2⟩ := id st
    have n1 : a ≠ e := by obtain ⟨oa, ea, ca, _⟩ := p.isList; exact cls_ne ea s1 (by rw [ca]; exact show Value.type "list" ≠ Value.type "enumerate" by decide)
    have n2 : a ≠ it := by obtain ⟨oa, ea, ca, _⟩ := p.isList; obtain ⟨o1, e1, c1, _⟩ := s2; exact cls_ne ea e1 (by rw [ca, c1]; decide)
    have W := WalksT.enumerate (prog := X.prog) (w := X.w) (A := X.A) (I.ok.hd hc) e it a D n1 n2 its.toArray
    have hl := rv.length
    have hi2 : i = its.toArray.size := by rw [hi, hl]; simp
    refine W.done s _ _ (by rw [← hi2]; exact ⟨⟨old, s1⟩, s2, p.isList⟩) fun h' tk kk => ⟨rfl, ?_⟩
    exact I.turnW (t' := tk) kk fun b hb => hf b hb
  self := fun _ _ _ _ _ st h => wpAny_pyIter_enum (Classical.choose_spec st.1) h
section
variable {X : Cx} {elts : List Expr} {k : Nat} {tpos : Pos}
def iEnum (K : PySem.W.Frag) (ta : TA) : TI := fun σ H R => ta σ H fun vs H1 => ∃ a, vs = [.ref a] ∧ (∃ xs, SqL K H1 a xs) ∧ R (Ite K a) H1
theorem pi_enum {a : Expr} {ta : TA} {p pos : Pos} (hg : Gl X "enumerate") (hm : X.mg "enumerate" = none) (ha : PA X [a] ta) (hs : starEach [a] X.env = [(false, eval a X.env)] := by rfl) :
    PI X (.Tuple elts k tpos) (.Call (.Name "enumerate" p) [a] [] pos) (iEnum X.K ta) := by
  intro pins s σ H R I h
  refine Call_ (ld_blt I hg hm b_enumerate (PyProof.Rows.callWith_type1 (thn (ha pos pins s σ H _ I h) fun us s1 ⟨vs, H1, I1, r1, q1⟩ => ?_) hs rfl))
  obtain ⟨a, e, ⟨xs, hx⟩, q⟩ := q1
  subst e
  obtain ⟨u, rfl, ru⟩ := vals1 r1
  cases ru
  obtain ⟨its, rv, p, hz⟩ := I1.list hx
  refine call_enumerate_list p.isList fun h' g1 g2 hsz kk => ?_
  refine wpAny_pyIter_enum (s := { s1 with heap := h' }) g1 ?_
  refine ⟨s1.heap.objs.size + 1, [s1.heap.objs.size + 1, s1.heap.objs.size], _, _, H1, rfl, I1.kept (t' := s1.toks) kk,
    turn_enum _ _ a (ne_z1 _), ⟨⟨_, g1⟩, g2⟩, fun c hc => ?_, q⟩
  have hle : s1.heap.objs.size ≤ c := by
    simp only [List.mem_cons, List.not_mem_nil, or_false] at hc
    exact le_z2 hc
  exact I1.fpOk hle (I1.hok.fresh hle)
end
end L2
end

section
set_option Elab.async false
set_option linter.all false
set_option maxRecDepth 100000
set_option maxHeartbeats 4000000
namespace L2
open PySem PySem.Spec PyProof.Rows
theorem r_ienum {K : PySem.W.Frag} {tA : TA} {σ : St} {H : Hp} {R : It → Hp → Prop} (h : tA σ H fun vs H1 => ∃ a, vs = [.ref a] ∧ (∃ xs, SqL K H1 a xs) ∧ R (Ite K a) H1) : iEnum K tA σ H R := h
theorem r_gtup2 {K : PySem.W.Frag} {σ : St} {H : Hp} {R : St → Hp → Prop} {a : Addr} {x y : V} {i j : Nat} (hs : SqT K H a [x, y]) (h : R ((σ.set i (some x)).set j (some y)) H) : gTup K 2 (gCons (gName i) (gCons (gName j) gNil)) (.ref a) σ H R :=
  ⟨a, [x, y], rfl, hs, rfl, x, [y], rfl, y, [], rfl, rfl, h⟩
theorem for_enum {K : PySem.W.Frag} {a : Addr} {xs : List V} {i1 i2 : Nat} {tb : TS} {D : Ends} {σ : St} {H : Hp} (Pv : Nat → St → Hp → Prop) (h0 : Pv 0 σ H) (hl : ∀ i σ H, i ≤ xs.length → Pv i σ H → SqL K H a xs)
    (step : ∀ i x σ H t, xs[i]? = some x → Pv i σ H → H t = none → tb { D with nx := Pv (i + 1), ct := Pv (i + 1), bk := D.nx } ((σ.set i1 (some (.int i))).set i2 (some x)) (upd H t (.tup [.int i, x])))
    (fin : ∀ σ H, Pv xs.length σ H → D.nx σ H) : forB (Ite K a) (gTup K 2 (gCons (gName i1) (gCons (gName i2) gNil))) tb D σ H := by
  refine ⟨fun i m σ H => i ≤ xs.length ∧ m = xs.length - i ∧ Pv i σ H, ⟨_, Nat.zero_le _, rfl, h0⟩, ?_⟩
  rintro i m σ H ⟨hi, rfl, hp⟩
  by_cases h : i = xs.length
  · exact .inl ⟨⟨xs, hl i σ H hi hp, h⟩, fin σ H (h ▸ hp)⟩
  · have hlt : i < xs.length := Nat.lt_of_le_of_ne hi h
    refine .inr ⟨⟨xs, xs[i], hl i σ H hi hp, by simp⟩, Pv (i + 1), fun σ' H' q => ⟨xs.length - (i + 1), by omega, hlt, rfl, q⟩, fun v H' hy => ?_⟩
    obtain ⟨t, x, hn, rfl, hx, rfl⟩ := hy
    exact r_gtup2 (SqT.of upd_same) (step i x σ H t (hx xs (hl i σ H hi hp)) hp hn)
end L2
end

section
set_option Elab.async false
set_option linter.all false
set_option maxRecDepth 100000
set_option maxHeartbeats 4000000
namespace L2
open PySem PySem.Spec PyProof.Rows
def Ites (z : Str) : It :=
  ⟨fun i _ => i < z.cps.size, fun i H v H' => ∃ t c, H t = none ∧ v = .ref t ∧ z.cps[i]? = some c ∧ H' = upd H t (.tup [.int i, .str (sgn c)]), fun i _ => i = z.cps.size⟩
theorem turn_enumS {P : Program} {w : World} {K : PySem.W.Frag} {elts : List Expr} {k : Nat} {pos : Pos} {e it : Addr} {z : Str} {ty : String} {t : Tok} (hne : e ≠ it)
    (D : ∀ A' : Around, A'.handled = none → Draws P w A' it [it] z.cps.size (fun i v => ∃ c u, z.cps[i]? = some c ∧ v = .str ⟨#[c]⟩ u) (fun i h => h.IsStrIter it ty z t i)) :
    Turn P w K (.Tuple elts k pos) (Ites z) [e, it] e (fun i h => (∃ old, IsEnum h e it i old) ∧ h.IsStrIter it ty z t i) where
  mem := by simp
  obj := fun i h st c hc => by
    obtain ⟨⟨old, he⟩, ⟨o1, e1, c1, d1⟩⟩ := st
    simp only [List.mem_cons, List.not_mem_nil, or_false] at hc
    rcases hc with rfl | rfl
    · exact ⟨_, he, fun v z => by cases z⟩
    · exact ⟨_, e1, fun v z => by rw [d1] at z; cases z⟩
  keep := fun i h h' st kk => by
    obtain ⟨⟨old, he⟩, ⟨o, ho, r⟩⟩ := st
    exact ⟨⟨old, kk _ (by simp) _ he⟩, ⟨o, kk _ (by simp) o ho, r⟩⟩
  item := by
    intro X hP hw hK hc i pins s σ H E I hf st hg
    subst hP hw hK
    have W := WalksT.enumerateD (D X.A.in1 (I.ok.hd hc)) e hne (by simpa using hne) (by simp)
    refine W.item i s _ _ hg st fun T vals h' tk hv hT hTu mid kk => ?_
    obtain ⟨t1, x, ⟨c, u, hc', rfl⟩, rfl⟩ := hv
    have nT := W.apart i T h' mid
    refine ⟨.ref T, rfl, W.go elts k pos i T { s with heap := h', toks := tk } _ _ mid fun h'' st'' kk2 => ?_⟩
    have hTu2 : h''.IsTuple T ([Value.int (i : Int) t1, Value.str ⟨#[c]⟩ u] : List Value).toArray := by
      obtain ⟨o, e, r⟩ := hTu
      exact ⟨o, kk2 T o nT e, r⟩
    have I2 : Inv X pins σ (upd H T (.tup [.int i, .str (sgn c)])) { s with heap := h'', toks := tk } := I.turnT (t' := tk) (fun b o hb e => kk2 b o hb (kk b o hb e)) (fun b hb => hf b hb) hT hTu2 (.cons ⟨t1, rfl⟩ (.cons ⟨u, rfl⟩ .nil)) (show 2 ≤ sizeLine by decide)
    refine ⟨.ref T, _, I2, rfl, ⟨T, c, I.hok.fresh hT, rfl, hc', rfl⟩, st'', fun b hb => ?_⟩
    have hlt : b < s.heap.objs.size := by
      obtain ⟨⟨old, s1⟩, ⟨o5, s5, _⟩⟩ := id st
      simp only [List.mem_cons, List.not_mem_nil, or_false] at hb
      rcases hb with rfl | rfl
      · exact Heap.lt_size s1
      · exact Heap.lt_size s5
    rw [upd_ne (Nat.ne_of_lt (Nat.lt_of_lt_of_le hlt hT))]
    exact (hf b hb).1
  done := by
    intro X hP hw hK hc i pins s σ H E I hf st hg
    subst hP hw hK
    have W := WalksT.enumerateD (D X.A.in1 (I.ok.hd hc)) e hne (by simpa using hne) (by simp)
    have hi : i = z.cps.size := hg
    refine W.done s _ _ (by rw [← hi]; exact st) fun h' tk kk => ⟨rfl, ?_⟩
    exact I.turnW (t' := tk) kk fun b hb => hf b hb
  self := fun _ _ _ _ _ st h => wpAny_pyIter_enum (Classical.choose_spec st.1) h
section
variable {X : Cx} {elts : List Expr} {k : Nat} {tpos : Pos}
def iEnumS (ta : TA) : TI := fun σ H R => ta σ H fun vs H1 => ∃ z, vs = [.str z] ∧ R (Ites z) H1
theorem pi_enumS {a : Expr} {ta : TA} {p pos : Pos} (hg : Gl X "enumerate") (hm : X.mg "enumerate" = none) (ha : PA X [a] ta) (hs : starEach [a] X.env = [(false, eval a X.env)] := by rfl) :
    PI X (.Tuple elts k tpos) (.Call (.Name "enumerate" p) [a] [] pos) (iEnumS ta) := by
  intro pins s σ H R I h
  refine Call_ (ld_blt I hg hm b_enumerate (PyProof.Rows.callWith_type1 (thn (ha pos pins s σ H _ I h) fun us s1 ⟨vs, H1, I1, r1, q1⟩ => ?_) hs rfl))
  obtain ⟨z, e, q⟩ := q1
  subst e
  obtain ⟨u, rfl, ⟨t, rfl⟩⟩ := vals1 r1
  refine call_enumerate_str fun h' g1 g2 hsz kk => ?_
  refine wpAny_pyIter_enum (s := { s1 with heap := h' }) g1 ?_
  have fin : ∀ ty : String, h'.IsStrIter s1.heap.objs.size ty z t 0 → (∀ A' : Around, A'.handled = none → Draws X.prog X.w A' s1.heap.objs.size [s1.heap.objs.size] z.cps.size (fun i v => ∃ c u, z.cps[i]? = some c ∧ v = .str ⟨#[c]⟩ u) (fun i h => h.IsStrIter s1.heap.objs.size ty z t i)) →
      PIE X pins σ (.Tuple elts k tpos) R (.ref (s1.heap.objs.size + 1)) { s1 with heap := h' } := fun ty g2 D => by
    refine ⟨s1.heap.objs.size + 1, [s1.heap.objs.size + 1, s1.heap.objs.size], _, _, H1, rfl, I1.kept (t' := s1.toks) kk, turn_enumS (ne_z1 _) D, ⟨⟨_, g1⟩, g2⟩, fun c hc => ?_, q⟩
    have hle : s1.heap.objs.size ≤ c := by
      simp only [List.mem_cons, List.not_mem_nil, or_false] at hc
      exact le_z2 hc
    exact I1.fpOk hle (I1.hok.fresh hle)
  by_cases ha : z.cps.all (· < 128) = true
  · have e : strIterType z = "str_ascii_iterator" := by unfold strIterType; rw [if_pos ha]
    exact fin _ (e ▸ g2) fun A' hA => Draws.strAscii hA _ z t
  · have e : strIterType z = "str_iterator" := by unfold strIterType; rw [if_neg ha]
    exact fin _ (e ▸ g2) fun A' hA => Draws.strWide hA _ z t
end
theorem r_ienumS {tA : TA} {σ : St} {H : Hp} {R : It → Hp → Prop} (h : tA σ H fun vs H1 => ∃ z, vs = [.str z] ∧ R (Ites z) H1) : iEnumS tA σ H R := h
theorem for_enumS {K : PySem.W.Frag} {z : Str} {i1 i2 : Nat} {tb : TS} {D : Ends} {σ : St} {H : Hp} (Pv : Nat → St → Hp → Prop) (h0 : Pv 0 σ H)
    (step : ∀ i c σ H t, z.cps[i]? = some c → Pv i σ H → H t = none → tb { D with nx := Pv (i + 1), ct := Pv (i + 1), bk := D.nx } ((σ.set i1 (some (.int i))).set i2 (some (.str (sgn c)))) (upd H t (.tup [.int i, .str (sgn c)])))
    (fin : ∀ σ H, Pv z.cps.size σ H → D.nx σ H) : forB (Ites z) (gTup K 2 (gCons (gName i1) (gCons (gName i2) gNil))) tb D σ H := by
  refine ⟨fun i m σ H => i ≤ z.cps.size ∧ m = z.cps.size - i ∧ Pv i σ H, ⟨_, Nat.zero_le _, rfl, h0⟩, ?_⟩
  rintro i m σ H ⟨hi, rfl, hp⟩
  by_cases h : i = z.cps.size
  · exact .inl ⟨h, fin σ H (h ▸ hp)⟩
  · have hlt : i < z.cps.size := Nat.lt_of_le_of_ne hi h
    refine .inr ⟨hlt, Pv (i + 1), fun σ' H' q => ⟨z.cps.size - (i + 1), by omega, hlt, rfl, q⟩, fun v H' hy => ?_⟩
    obtain ⟨t, c, hn, rfl, hx, rfl⟩ := hy
    exact r_gtup2 (SqT.of upd_same) (step i c σ H t hx hp hn)
end L2
end

section
set_option Elab.async false
set_option linter.all false
set_option maxRecDepth 100000
set_option maxHeartbeats 4000000
namespace L2
open PySem PySem.Spec PyProof.Rows
namespace IB
open PySem.NumText PySem.Calls
def v2 (cs : List Nat) : Nat := cs.foldl (fun a c => a * 2 + (c - 48)) 0
end IB
end L2
end

section
set_option Elab.async false
set_option linter.all false
set_option maxRecDepth 100000
set_option maxHeartbeats 4000000
namespace L2
open PySem PySem.Spec PyProof.Rows
inductive SameD (K : PySem.W.Frag) (H : Hp) : Nat → V → V → Prop where
  | flat {n : Nat} {x : V} (h : flatV x = true) : SameD K H n x x
  | tup {n : Nat} {a b : Addr} {xs ys : List V} (h1 : SqT K H a xs) (h2 : SqT K H b ys) (hl : xs.length = ys.length) (h : ∀ (j : Nat) (x y : V), xs[j]? = some x → ys[j]? = some y → SameD K H n x y) : SameD K H (n + 1) (.ref a) (.ref b)
  | lst {n : Nat} {a b : Addr} {xs ys : List V} (h1 : SqL K H a xs) (h2 : SqL K H b ys) (hl : xs.length = ys.length) (h : ∀ (j : Nat) (x y : V), xs[j]? = some x → ys[j]? = some y → SameD K H n x y) : SameD K H (n + 1) (.ref a) (.ref b)
theorem eqV_self {x : V} (h : flatV x = true) : eqV x x = true := by
  cases x <;> first | rfl | (simp [eqV]; done) | cases h
theorem SameD.flats {K : PySem.W.Frag} {H : Hp} {n : Nat} {xs : List V} (h : xs.all flatV = true) : ∀ (j : Nat) (x y : V), xs[j]? = some x → xs[j]? = some y → SameD K H n x y := fun j x y h1 h2 => by
  rw [h1] at h2
  cases h2
  exact .flat (List.all_eq_true.mp h x (List.mem_of_getElem? h1))
theorem SameD.tups {K : PySem.W.Frag} {H : Hp} {n : Nat} {a b : Addr} {xs : List V} (h1 : SqT K H a xs) (h2 : SqT K H b xs) (h : xs.all flatV = true) : SameD K H (n + 1) (.ref a) (.ref b) := .tup h1 h2 rfl (SameD.flats h)
theorem flat_ints (ns : List Int) : (ns.map V.int).all flatV = true := by simp [List.all_eq_true, flatV]
section
variable {X : Cx} {pins : List (Addr × Obj)} {σ : St} {H : Hp} {s : Shared}
theorem all_true {n : Nat} {e : Nat → Bool} (h : ∀ j, e j = true) : (List.range n).all e = true := by simp [h]
mutual
theorem SameD.eqAt (I : Inv X pins σ H s) : ∀ {n : Nat} {x y : V} {A : Around} {u v : Value}, A.units + n < cLine → SameD X.K H n x y → RelV x u → RelV y v → SeqAt.EqAt A s u v true
  | _, _, _, A, u, v, hu, .flat h, ru, rv => by
    have := eqAt_V (A := A) (s := s) ru rv h h
    rw [eqV_self h] at this
    exact this
  | n + 1, .ref a, .ref b, A, u, v, hu, .tup (xs := xs) (ys := ys) h1 h2 hl h, ru, rv => by
    cases ru; cases rv
    by_cases hab : a = b
    · subst hab; exact SeqAt.EqAt.same _
    · obtain ⟨is, r1, p1, _⟩ := I.tuple h1
      obtain ⟨js, r2, p2, _⟩ := I.tuple h2
      have l1 := r1.length; have l2 := r2.length
      have := SeqAt.RcAt.tuples (A := A) (e := fun _ => true) p1 p2 (by omega) fun j a1 a2 => SameD.items I (by show A.units + 1 + n < cLine; omega) h r1 r2 j (by simpa using a1) (by simpa using a2)
      refine SeqAt.EqAt.of_refs hab ?_
      rw [all_true fun _ => rfl] at this
      simpa [← l1, ← l2, hl] using this
  | n + 1, .ref a, .ref b, A, u, v, hu, .lst (xs := xs) (ys := ys) h1 h2 hl h, ru, rv => by
    cases ru; cases rv
    by_cases hab : a = b
    · subst hab; exact SeqAt.EqAt.same _
    · obtain ⟨is, r1, p1, _⟩ := I.list h1
      obtain ⟨js, r2, p2, _⟩ := I.list h2
      have l1 := r1.length; have l2 := r2.length
      have := SeqAt.RcAt.lists (A := A) (e := fun _ => true) p1.isList p2.isList (by simp; omega) (by omega) fun j a1 a2 => SameD.items I (by show A.units + 1 + n < cLine; omega) h r1 r2 j (by simpa using a1) (by simpa using a2)
      refine SeqAt.EqAt.of_refs hab ?_
      rw [all_true fun _ => rfl] at this
      exact this
theorem SameD.items (I : Inv X pins σ H s) {n : Nat} {A : Around} {xs ys : List V} {us vs : List Value} (hu : A.units + n < cLine) (h : ∀ (j : Nat) (x y : V), xs[j]? = some x → ys[j]? = some y → SameD X.K H n x y) (r1 : Vals xs us) (r2 : Vals ys vs) (j : Nat) (h1 : j < us.length) (h2 : j < vs.length) :
    SeqAt.EqAt A s us[j] vs[j] true := by
  have l1 := r1.length; have l2 := r2.length
  obtain ⟨x, ex⟩ : ∃ x, xs[j]? = some x := ⟨_, List.getElem?_eq_getElem (by omega)⟩
  obtain ⟨y, ey⟩ : ∃ y, ys[j]? = some y := ⟨_, List.getElem?_eq_getElem (by omega)⟩
  obtain ⟨u, eu, ru⟩ := r1.get ex
  obtain ⟨v, ev, rv⟩ := r2.get ey
  rw [List.getElem?_eq_getElem h1] at eu
  rw [List.getElem?_eq_getElem h2] at ev
  cases eu; cases ev
  exact SameD.eqAt I hu (h j x y ex ey) ru rv
end
end
def rSame (K : PySem.W.Frag) (r : Bool) : R2 := fun x y H Q => ∃ a b, x = .ref a ∧ y = .ref b ∧ SameD K H 60 x y ∧ Q (.bl r) H
section
variable {X : Cx}
theorem op_eqD (hu : X.A.units + 60 < cLine) : OpR X (compareOp .Eq) (rSame X.K true) := by
  intro pins s σ H x y v u Q I rx ry h
  obtain ⟨a, b, rfl, rfl, hs, q⟩ := h
  cases rx; cases ry
  cases hs with
  | flat h => cases h
  | @tup n _ _ xs ys h1 h2 hl h =>
    obtain ⟨is, r1, p1, _⟩ := I.tuple h1
    obtain ⟨js, r2, p2, _⟩ := I.tuple h2
    have l1 := r1.length; have l2 := r2.length
    have := SeqAt.RcAt.tuples (A := X.A) (e := fun _ => true) p1 p2 (by omega) fun j a1 a2 => SameD.items I (by show X.A.units + 1 + 59 < cLine; omega) h r1 r2 j (by simpa using a1) (by simpa using a2)
    rw [all_true fun _ => rfl] at this
    refine this _ _ _ _ ⟨.bl true, H, I, ?_, q⟩
    simp [RelV, ← l1, ← l2, hl]
  | @lst n _ _ xs ys h1 h2 hl h =>
    obtain ⟨is, r1, p1, _⟩ := I.list h1
    obtain ⟨js, r2, p2, _⟩ := I.list h2
    have l1 := r1.length; have l2 := r2.length
    have := SeqAt.RcAt.lists (A := X.A) (e := fun _ => true) p1.isList p2.isList (by simp; omega) (by omega) fun j a1 a2 => SameD.items I (by show X.A.units + 1 + 59 < cLine; omega) h r1 r2 j (by simpa using a1) (by simpa using a2)
    rw [all_true fun _ => rfl] at this
    exact this _ _ _ _ ⟨.bl true, H, I, rfl, q⟩
theorem op_neD (hu : X.A.units + 60 < cLine) : OpR X (compareOp .NotEq) (rSame X.K false) := by
  intro pins s σ H x y v u Q I rx ry h
  obtain ⟨a, b, rfl, rfl, hs, q⟩ := h
  cases rx; cases ry
  cases hs with
  | flat h => cases h
  | @tup n _ _ xs ys h1 h2 hl h =>
    obtain ⟨is, r1, p1, _⟩ := I.tuple h1
    obtain ⟨js, r2, p2, _⟩ := I.tuple h2
    have l1 := r1.length; have l2 := r2.length
    have := SeqAt.RcNeAt.tuples (A := X.A) (e := fun _ => true) p1 p2 (by omega) fun j a1 a2 => SameD.items I (by show X.A.units + 1 + 59 < cLine; omega) h r1 r2 j (by simpa using a1) (by simpa using a2)
    rw [all_true fun _ => rfl] at this
    refine this _ _ _ _ ⟨.bl false, H, I, ?_, q⟩
    simp [RelV, ← l1, ← l2, hl]
  | @lst n _ _ xs ys h1 h2 hl h =>
    obtain ⟨is, r1, p1, _⟩ := I.list h1
    obtain ⟨js, r2, p2, _⟩ := I.list h2
    have l1 := r1.length; have l2 := r2.length
    have := SeqAt.RcNeAt.lists (A := X.A) (e := fun _ => true) p1.isList p2.isList (by simp; omega) (by omega) fun j a1 a2 => SameD.items I (by show X.A.units + 1 + 59 < cLine; omega) h r1 r2 j (by simpa using a1) (by simpa using a2)
    rw [all_true fun _ => rfl] at this
    exact this _ _ _ _ ⟨.bl false, H, I, rfl, q⟩
end
theorem r_same {K : PySem.W.Frag} {H : Hp} {Q : VK} {a b : Addr} {r : Bool} (h : SameD K H 60 (.ref a) (.ref b)) (q : Q (.bl r) H) : rSame K r (.ref a) (.ref b) H Q := ⟨a, b, rfl, rfl, h, q⟩
theorem hu60 {A : Around} {k : Nat} (hr : Room k A) : A.units + 60 < cLine := by have := hr.units; omega
end L2
end

section
set_option Elab.async false
set_option linter.all false
set_option maxRecDepth 100000
set_option maxHeartbeats 4000000
namespace L2
open PySem PySem.Spec PyProof.Rows
def eqL (xs ys : List V) : Bool := decide (xs.length = ys.length) && (List.range xs.length).all fun j => eqV (xs.getD j .non) (ys.getD j .non)
def rEqL (K : PySem.W.Frag) (n : Bool) : R2 := fun x y H Q => ∃ a b xs ys, x = .ref a ∧ y = .ref b ∧ SqL K H a xs ∧ SqL K H b ys ∧ xs.all flatV = true ∧ ys.all flatV = true ∧ Q (.bl (n != eqL xs ys)) H
section
variable {X : Cx} {pins : List (Addr × Obj)} {σ : St} {H : Hp} {s : Shared}
theorem eqL_items {A : Around} {xs ys : List V} {us vs : List Value} (f1 : xs.all flatV = true) (f2 : ys.all flatV = true) (r1 : Vals xs us) (r2 : Vals ys vs) (j : Nat) (h1 : j < us.length) (h2 : j < vs.length) :
    SeqAt.EqAt A s us[j] vs[j] (eqV (xs.getD j .non) (ys.getD j .non)) := by
  have l1 := r1.length; have l2 := r2.length
  have e1 : xs[j]? = some (xs[j]'(by omega)) := List.getElem?_eq_getElem _
  have e2 : ys[j]? = some (ys[j]'(by omega)) := List.getElem?_eq_getElem _
  obtain ⟨u, eu, ru⟩ := r1.get e1
  obtain ⟨v, ev, rv⟩ := r2.get e2
  rw [List.getElem?_eq_getElem h1] at eu
  rw [List.getElem?_eq_getElem h2] at ev
  cases eu; cases ev
  simp only [List.getD, e1, e2, Option.getD_some]
  exact eqAt_V ru rv (List.all_eq_true.mp f1 _ (List.mem_of_getElem? e1)) (List.all_eq_true.mp f2 _ (List.mem_of_getElem? e2))
end
section
variable {X : Cx}
theorem op_eqL (hu : X.A.units + 60 < cLine) : OpR X (compareOp .Eq) (rEqL X.K false) := by
  intro pins s σ H x y v u Q I rx ry h
  obtain ⟨a, b, xs, ys, rfl, rfl, h1, h2, f1, f2, q⟩ := h
  cases rx; cases ry
  obtain ⟨is, r1, p1, _⟩ := I.list h1
  obtain ⟨js, r2, p2, _⟩ := I.list h2
  have l1 := r1.length; have l2 := r2.length
  by_cases hl : xs.length = ys.length
  · have := SeqAt.RcAt.lists (A := X.A) (e := fun j => eqV (xs.getD j .non) (ys.getD j .non)) p1.isList p2.isList (by simp; omega) (by omega) fun j a1 a2 => eqL_items (s := s) f1 f2 r1 r2 j (by simpa using a1) (by simpa using a2)
    refine this _ _ _ _ ⟨.bl (false != eqL xs ys), H, I, ?_, q⟩
    unfold eqL
    rw [decide_eq_true hl]
    simp [RelV, ← l1]
  · have := SeqAt.RcAt.lists_lengths (A := X.A) p1.isList p2.isList (by simp; omega) (by omega)
    refine this _ _ _ _ ⟨.bl (false != eqL xs ys), H, I, ?_, q⟩
    unfold eqL
    rw [decide_eq_false hl]
    simp [RelV]
theorem op_neL (hu : X.A.units + 60 < cLine) : OpR X (compareOp .NotEq) (rEqL X.K true) := by
  intro pins s σ H x y v u Q I rx ry h
  obtain ⟨a, b, xs, ys, rfl, rfl, h1, h2, f1, f2, q⟩ := h
  cases rx; cases ry
  obtain ⟨is, r1, p1, _⟩ := I.list h1
  obtain ⟨js, r2, p2, _⟩ := I.list h2
  have l1 := r1.length; have l2 := r2.length
  by_cases hl : xs.length = ys.length
  · have := SeqAt.RcNeAt.lists (A := X.A) (e := fun j => eqV (xs.getD j .non) (ys.getD j .non)) p1.isList p2.isList (by simp; omega) (by omega) fun j a1 a2 => eqL_items (s := s) f1 f2 r1 r2 j (by simpa using a1) (by simpa using a2)
    refine this _ _ _ _ ⟨.bl (true != eqL xs ys), H, I, ?_, q⟩
    unfold eqL
    rw [decide_eq_true hl]
    simp [RelV, ← l1]
  · have := SeqAt.RcNeAt.lists_lengths (A := X.A) p1.isList p2.isList (by simp; omega) (by omega)
    refine this _ _ _ _ ⟨.bl (true != eqL xs ys), H, I, ?_, q⟩
    unfold eqL
    rw [decide_eq_false hl]
    simp [RelV]
end
theorem eqL_ints (ns ms : List Int) : eqL (ns.map V.int) (ms.map V.int) = decide (ns = ms) := by
  unfold eqL
  rw [List.length_map, List.length_map]
  by_cases hl : ns.length = ms.length
  · rw [decide_eq_true hl, Bool.true_and]
    by_cases h : ns = ms
    · subst h
      rw [decide_eq_true rfl, List.all_eq_true]
      intro j hj
      have hj : j < ns.length := List.mem_range.mp hj
      simp [List.getD, hj, eqV]
    · rw [decide_eq_false h]
      refine Bool.eq_false_iff.mpr fun hc => h (List.ext_getElem hl fun j h1 h2 => ?_)
      have := List.all_eq_true.mp hc j (List.mem_range.mpr h1)
      simp [List.getD, h1, h2, eqV] at this
      exact this
  · rw [decide_eq_false hl, Bool.false_and, decide_eq_false]
    intro e
    exact hl (by rw [e])
theorem r_neI {K : PySem.W.Frag} {H : Hp} {Q : VK} {a b : Addr} {ns ms : List Int} (h1 : SqL K H a (ns.map V.int)) (h2 : SqL K H b (ms.map V.int)) (q : Q (.bl (!decide (ns = ms))) H) : rEqL K true (.ref a) (.ref b) H Q := by
  refine ⟨a, b, _, _, rfl, rfl, h1, h2, flat_ints _, flat_ints _, ?_⟩
  rw [eqL_ints]
  cases hd : decide (ns = ms) <;> (rw [hd] at q; exact q)
end L2
end

section
set_option Elab.async false
set_option linter.all false
set_option maxRecDepth 100000
set_option maxHeartbeats 4000000
namespace L2
open PySem PySem.Spec PyProof.Rows
theorem down_size (lo hi : Int) : Builtin.Range.rangeSize lo hi (-1) = ((lo - hi).toNat : Int) := by
  unfold Builtin.Range.rangeSize
  rw [if_neg (by omega)]
  by_cases h : lo > hi
  · rw [if_pos h]
    rw [show (-(-1) : Int) = 1 by decide, Int.ediv_one]
    omega
  · rw [if_neg h]
    omega
theorem down_small {lo hi : Int} (h1 : -(2 ^ 40) ≤ lo) (h2 : lo < 2 ^ 40) (h3 : -(2 ^ 40) ≤ hi) (h4 : hi < 2 ^ 40) : Builtin.Range.small lo hi (-1) = true := by
  unfold Builtin.Range.small
  rw [down_size, if_neg (by omega)]
  simp only [Builtin.Range.rangeFitsLong, Bool.and_eq_true, Bool.or_eq_true, decide_eq_true_eq, beq_iff_eq]
  refine ⟨⟨⟨⟨?_, ?_⟩, ?_⟩, ?_⟩, .inr ?_⟩ <;> omega
end L2
end

section
set_option Elab.async false
set_option linter.all false
set_option maxRecDepth 100000
set_option maxHeartbeats 4000000
namespace L2
open PySem PySem.Spec PyProof.Rows
end L2
end

section
set_option Elab.async false
set_option linter.all false
set_option maxRecDepth 100000
set_option maxHeartbeats 4000000
namespace L2
open PySem PySem.Spec PyProof.Rows
section
variable {X : Cx}
theorem pe_globI {x : Str} {i : Int} {pos : Pos} (hg : Gl X x) (hm : ∃ t, X.mg x = some (.int i t)) (hd : (x == ("__debug__" : Str)) = false := by decide) : PE X (.Name x pos) (tC (.int i)) := by
  obtain ⟨t, h⟩ := hm
  exact pe_glob hg h ⟨t, rfl⟩ hd
end
section
variable {σ : St} {H : Hp} {D : Ends} {Q : VK} {te : TE} {QB : Bool → Hp → Prop} {tA : TA}
theorem r_bm0 {K : PySem.W.Frag} {T : String} {r : V → List V → Hp → VK → Prop} (h : te σ H fun x H1 => tyV K T x H1 ∧ r x [] H1 Q) : tBM0 K T r te σ H Q := h
end
theorem iteNT {A B : Prop} (h : B) : if (!true) = true then A else B := by
  rw [if_neg (by decide)]
  exact h
theorem iteNF {A B : Prop} (h : A) : if (!false) = true then A else B := by
  rw [if_pos (by decide)]
  exact h
def SameBut (x : Addr) (H H' : Hp) : Prop := ∀ b o, b ≠ x → H b = some o → H' b = some o
theorem SameBut.trans {H H1 H2 : Hp} {x : Addr} (a : SameBut x H H1) (b : SameBut x H1 H2) : SameBut x H H2 := fun c o n h => b c o n (a c o n h)
end L2
end

section
set_option Elab.async false
set_option linter.all false
set_option maxRecDepth 100000
set_option maxHeartbeats 4000000
namespace L2
open PySem PySem.Spec PyProof.Rows
end L2
end

section
set_option Elab.async false
set_option linter.all false
set_option maxRecDepth 100000
set_option maxHeartbeats 4000000
namespace L2
open PySem PySem.Spec PyProof.Rows
theorem b_abs : bootBuiltins "abs" = some (.builtin "abs") := by decide +kernel
end L2
namespace L2
open PySem PySem.Spec PyProof.Rows
theorem for_str {z : Str} {g : TG} {tb : TS} {D : Ends} {σ : St} {H : Hp} (Pv : Nat → St → Hp → Prop) (h0 : Pv 0 σ H)
    (hs : ∀ (i c : Nat) σ H, z.cps[i]? = some c → Pv i σ H → g (.str (sgn c)) σ H fun σ2 H2 => tb { D with nx := Pv (i + 1), ct := Pv (i + 1), bk := D.nx } σ2 H2) (hd : ∀ σ H, Pv z.cps.size σ H → D.nx σ H) : forB (Its z) g tb D σ H := by
  refine ⟨fun i m σ H => i ≤ z.cps.size ∧ m = z.cps.size - i ∧ Pv i σ H, ⟨_, Nat.zero_le _, rfl, h0⟩, ?_⟩
  rintro i m σ H ⟨hi, rfl, hP⟩
  by_cases h : i = z.cps.size
  · subst h
    exact .inl ⟨Nat.le_refl _, hd σ H hP⟩
  · have hlt : i < z.cps.size := Nat.lt_of_le_of_ne hi h
    refine .inr ⟨hlt, Pv (i + 1), fun σ' H' hN => ⟨z.cps.size - (i + 1), by omega, hlt, rfl, hN⟩, fun x H' hy => ?_⟩
    obtain ⟨rfl, c, hc, rfl⟩ := hy
    exact hs i c σ _ hc hP
end L2
end

section
set_option Elab.async false
set_option linter.all false
set_option maxRecDepth 100000
set_option maxHeartbeats 4000000
namespace L2
open PySem PySem.Spec PyProof.Rows
def Kd {α : Type} : Sem α → Prop
  | .pure _ => True
  | .raise _ => True
  | .unsupported _ => True
  | .finish _ => True
  | .rule _ k => Kd (k ())
  | .at _ k => Kd (k ())
  | .load _ _ k => ∀ o, Kd (k o)
  | .update _ _ f k => (∀ o, (f o).dict = o.dict ∧ (f o).isFreed = o.isFreed) ∧ Kd (k ())
  | .alloc _ k => ∀ a, Kd (k a)
  | .loadIfAlive _ k => ∀ o, Kd (k o)
  | .point _ k => Kd (k ())
  | .fresh k => ∀ t, Kd (k t)
  | .ask k => ∀ x, Kd (k x)
  | .stack k => ∀ x, Kd (k x)
  | .handled _ k => ∀ x, Kd (k x)
  | .thread k => ∀ x, Kd (k x)
  | _ => False
theorem Kd.bind {α β : Type} {m : Sem α} {f : α → Sem β} (h : Kd m) (hf : ∀ a, Kd (f a)) : Kd (m >>= f) := by
  show Kd (m.bind f)
  induction m <;> first | exact hf _ | exact h.elim | exact trivial | skip
  all_goals (rename_i ih; first | exact ih _ h | exact fun o => ih o (h o) | exact ⟨h.1, ih _ h.2⟩)
def DictK (h h' : Heap) : Prop := ∀ b o, h.get? b = some o → ∃ o', h'.get? b = some o' ∧ o'.dict = o.dict
theorem DictK.refl (h : Heap) : DictK h h := fun _ o e => ⟨o, e, rfl⟩
theorem DictK.trans {h1 h2 h3 : Heap} (a : DictK h1 h2) (b : DictK h2 h3) : DictK h1 h3 := fun x o e => by
  obtain ⟨o1, e1, d1⟩ := a x o e
  obtain ⟨o2, e2, d2⟩ := b x o1 e1
  exact ⟨o2, e2, d2.trans d1⟩
theorem dictK_push (h : Heap) (o : Obj) : DictK h (h.push o) := fun _ u e => ⟨u, Heap.get?_push_of_some _ e, rfl⟩
theorem dictK_upd {h : Heap} {a : Addr} {f : Obj → Obj} (hf : ∀ o, (f o).dict = o.dict ∧ (f o).isFreed = o.isFreed) : DictK h (h.update a f) := fun b o e => by
  by_cases hb : b = a
  · subst hb
    have fr := (Heap.get?_some_iff.mp e).2
    exact ⟨f o, Heap.get?_update_self f e (by rw [(hf o).2]; exact fr), (hf o).1⟩
  · exact ⟨o, (Heap.get?_update_other _ _ (Ne.symm hb)).trans e, rfl⟩
theorem kd_wp {α : Type} {M : Model} {Γ : PySem.Ctx} {m : Sem α} : ∀ {Q : α → Pos → Shared → Prop} {E : Value → Pos → Shared → Prop} {p : Pos} {s : Shared}, Kd m → Sem.wp M Γ m Q E p s → Sem.wp M Γ m (fun a p' s' => Q a p' s' ∧ DictK s.heap s'.heap) E p s := by
  induction m with
  | pure x => exact fun _ h => ⟨h, DictK.refl _⟩
  | raise v => exact fun _ h => h
  | unsupported => exact fun _ h => h
  | finish => exact fun _ h => h
  | rule _ k ih => exact fun q h => ih _ q h
  | «at» _ k ih => exact fun q h => ih _ q h
  | load a _ k ih =>
    intro Q E p s q h
    obtain ⟨o, ho, h⟩ := h
    exact ⟨o, ho, ih o (q o) h⟩
  | update a _ f k ih =>
    intro Q E p s q h
    obtain ⟨ha, h⟩ := h
    exact ⟨ha, Sem.wp_mono _ _ _ (fun _ _ _ z => ⟨z.1, (dictK_upd q.1).trans z.2⟩) (fun _ _ _ z => z) _ _ (ih _ q.2 h)⟩
  | alloc o k ih =>
    intro Q E p s q h
    exact Sem.wp_mono _ _ _ (fun _ _ _ z => ⟨z.1, (dictK_push _ o).trans z.2⟩) (fun _ _ _ z => z) _ _ (ih _ (q _) h)
  | loadIfAlive _ k ih => exact fun q h => ih _ (q _) h
  | point _ k ih => exact fun q h => ih _ q h
  | fresh k ih => exact fun q h => ih _ (q _) h
  | ask k ih => exact fun q h => ih _ (q _) h
  | stack k ih => exact fun q h => ih _ (q _) h
  | handled _ k ih => exact fun q h => ih _ (q _) h
  | thread k ih => exact fun q h => ih _ (q _) h
  | _ => exact fun q => q.elim
theorem kd_any {α : Type} {M : Model} {A : Around} {m : Sem α} {Q : α → Shared → Prop} {E : Value → Shared → Prop} {s : Shared} (q : Kd m) (h : wpAny M A m Q E s) : wpAny M A m (fun a s' => Q a s' ∧ DictK s.heap s'.heap) E s := fun Γ p hΓ => kd_wp q (h Γ p hΓ)
theorem kd_load (a : Addr) : Kd (load a) := fun _ => trivial
theorem kd_fieldsOf (v : Value) : Kd (fieldsOf v) := by
  unfold fieldsOf
  split
  · exact Kd.bind (kd_load _) fun o => by split <;> exact trivial
  · exact trivial
theorem kd_field (v : Value) (i : Nat) : Kd (field v i) := Kd.bind (kd_fieldsOf v) fun a => by split <;> exact trivial
theorem kd_mapF (f : Array Value → Array Value) (o : Obj) : (Obj.mapFields f o).dict = o.dict ∧ (Obj.mapFields f o).isFreed = o.isFreed := by
  obtain ⟨c, d, dt, sl⟩ := o
  cases dt <;> exact ⟨rfl, rfl⟩
theorem kd_setField (v : Value) (i : Nat) (x : Value) : Kd (setField v i x) := by
  unfold setField
  split
  · unfold updateField
    refine Kd.bind (kd_load _) fun o => ?_
    split
    · split
      · exact ⟨kd_mapF _, trivial⟩
      · exact trivial
    · exact trivial
  · exact trivial
theorem kd_setFlight (e : Value) (f : Option Addr) : Kd (setFlight e f) := by
  unfold setFlight
  refine Kd.bind (kd_field _ _) fun tb => ?_
  split
  · exact kd_setField _ _ _
  · exact trivial
theorem kd_ready : ∀ l : List Env, Kd (readyFrames l)
  | [] => trivial
  | env :: outer => by
    unfold readyFrames
    split
    · rename_i f hf
      refine Kd.bind (kd_load _) fun o => ?_
      split
      · exact trivial
      · refine Kd.bind ?_ fun i => Kd.bind ?_ fun b => ⟨fun o => ?_, kd_ready outer⟩
        · unfold behindIsImport
          split
          · exact trivial
          · split
            · exact trivial
            · exact Kd.bind (kd_field _ _) fun _ => trivial
        · unfold keptBack
          split
          · split
            · exact trivial
            · refine Kd.bind ?_ fun _ => trivial
              unfold underTheClaimsCaller
              exact fun _ => trivial
          · exact trivial
        · obtain ⟨c, d, dt, sl⟩ := o
          cases dt <;> exact ⟨rfl, rfl⟩
    · exact trivial
theorem kd_frameOf (env : Env) : Kd (PySem.frameOf env) := by
  unfold PySem.frameOf
  refine Kd.bind (fun _ => trivial) fun l => Kd.bind ?_ fun o => ?_
  · unfold frameObject
    split
    · exact trivial
    · exact Kd.bind (kd_ready _) fun _ => trivial
  · split <;> exact trivial
theorem kd_place (f : Addr) (b : Bool) : Kd (entryPlaceOf f b) := by
  unfold entryPlaceOf
  refine Kd.bind (fun _ => trivial) fun l => ?_
  split <;> exact trivial
theorem kd_entry (a b c d e : Value) (l : List Value) : Kd (EntryCells.newEntry a b c d e l) := by
  unfold EntryCells.newEntry newFields
  generalize ([a, b, c, d, e] ++ if l.isEmpty = true then List.replicate 6 Value.none else l).toArray = vs
  unfold newObj
  dsimp only
  have as_is : Kd (newObjAsIs (.type "traceback") (.fields vs) none) := Kd.bind (m := alloc _) (fun _ => trivial) fun _ => trivial
  split
  · exact Kd.bind (m := unsupported _) trivial fun _ => as_is
  · exact as_is
theorem kd_note (e : Value) (env : Env) : Kd (noteFrame e env) := by
  unfold noteFrame
  have jp : ∀ (f : Addr) (head : Value), Kd (do
      let a ← PySem.frameOf env
      let b ← entryPlaceOf f (head != Value.none)
      let c ← EntryCells.newEntry head a Value.none (rawInt ↑f) Value.none b
      setField e 1 c) := fun f head => Kd.bind (kd_frameOf _) fun _ => Kd.bind (kd_place _ _) fun _ => Kd.bind (kd_entry _ _ _ _ _ _) fun _ => kd_setField _ _ _
  split
  · refine Kd.bind (kd_field _ _) fun head => ?_
    dsimp only
    split
    · refine Kd.bind (kd_field _ _) fun v => ?_
      split
      · exact trivial
      · exact Kd.bind (kd_setField _ _ _) fun _ => jp _ _
    · exact jp _ _
  · exact trivial
theorem kd_leaving (e : Value) (env : Env) : Kd (leaving env e) := Kd.bind (kd_note _ _) fun _ => kd_setFlight _ _
end L2
end

section
set_option Elab.async false
set_option linter.all false
set_option maxRecDepth 100000
set_option maxHeartbeats 4000000
namespace L2
open PySem PySem.Spec PyProof.Rows
def FlyD (B : Heap) (l : List Env) (e : Addr) (cls a0 : Value) (od : Option Addr) (h : Heap) : Prop := Heap.FlyingW B l e cls a0 h ∧ ∃ o, h.get? e = some o ∧ o.dict = od
def HeldD (B : Heap) (l : List Env) (e : Addr) (cls a0 : Value) (od : Option Addr) (L : Addr) (h : Heap) : Prop := Heap.HeldW B l e cls a0 L h ∧ ∃ o, h.get? e = some o ∧ o.dict = od
theorem FlyD.first {B h : Heap} {l : List Env} {e : Addr} {cls a0 : Value} {od : Option Addr} (x : FlyD B l e cls a0 od h) : ∃ oe vs, h.get? e = some oe ∧ oe.cls = cls ∧ oe.data = .fields vs ∧ oe.dict = od := by
  obtain ⟨f, o, ho, hd⟩ := x
  obtain ⟨oe, vs, he, hc, hv, _⟩ := f.first
  rw [ho] at he
  cases he
  exact ⟨o, vs, ho, hc, hv, hd⟩
section
variable {M : Model} {A : Around} {E : Value → Shared → Prop} {s : Shared} {B : Heap} {env : Env} {outer l : List Env} {L e : Addr} {cls a0 : Value} {od : Option Addr} {Q : Unit → Shared → Prop}
theorem dict_on {h h' : Heap} (k : DictK h h') (x : ∃ o, h.get? e = some o ∧ o.dict = od) : ∃ o, h'.get? e = some o ∧ o.dict = od := by
  obtain ⟨o, ho, hd⟩ := x
  obtain ⟨o2, ho2, hd2⟩ := k e o ho
  exact ⟨o2, ho2, hd2.trans hd⟩
theorem leaves_onD (hfr : A.frames = some (env :: outer)) (hf : env.frame = some L) (fl : FlyD B (env :: outer) e cls a0 od s.heap) (q : ∀ h', FlyD B outer e cls a0 od h' → s.heap.UpToSlots h' → Q () { s with heap := h' }) : wpAny M A (leaving env (.ref e)) Q E s := by
  refine wpAny_mono (kd_any (kd_leaving _ _) (wpAny_leaves_onW (Q := fun _ s' => ∃ h', s' = { s with heap := h' } ∧ Heap.FlyingW B outer e cls a0 h' ∧ s.heap.UpToSlots h') hfr hf fl.1 fun h' f u => ⟨h', rfl, f, u⟩)) (fun _ s' z => ?_) fun _ _ z => z
  obtain ⟨⟨h', rfl, f, u⟩, k⟩ := z
  exact q h' ⟨f, dict_on k fl.2⟩ u
theorem looks_onD (hfr : A.frames = some (env :: outer)) (hf : env.frame = some L) (fl : FlyD B (env :: outer) e cls a0 od s.heap) (q : ∀ h', HeldD B (env :: outer) e cls a0 od L h' → s.heap.UpToSlots h' → Q () { s with heap := h' }) : wpAny M A (noteFrame (.ref e) env) Q E s := by
  refine wpAny_mono (kd_any (kd_note _ _) (wpAny_looks_onW (Q := fun _ s' => ∃ h', s' = { s with heap := h' } ∧ Heap.HeldW B (env :: outer) e cls a0 L h' ∧ s.heap.UpToSlots h') hfr hf fl.1 fun h' f u => ⟨h', rfl, f, u⟩)) (fun _ s' z => ?_) fun _ _ z => z
  obtain ⟨⟨h', rfl, f, u⟩, k⟩ := z
  exact q h' ⟨f, dict_on k fl.2⟩ u
theorem landsD (hh : HeldD B l e cls a0 od L s.heap) (q : ∀ h', FlyD B l e cls a0 od h' → s.heap.UpToSlots h' → Q () { s with heap := h' }) : wpAny M A (setFlight (.ref e) none) Q E s := by
  refine wpAny_mono (kd_any (kd_setFlight _ _) (wpAny_landsW (Q := fun _ s' => ∃ h', s' = { s with heap := h' } ∧ Heap.FlyingW B l e cls a0 h' ∧ s.heap.UpToSlots h') hh.1 fun h' f u => ⟨h', rfl, f, u⟩)) (fun _ s' z => ?_) fun _ _ z => z
  obtain ⟨⟨h', rfl, f, u⟩, k⟩ := z
  exact q h' ⟨f, dict_on k hh.2⟩ u
theorem againD (fl : FlyD B l e cls a0 od s.heap) (q : ∀ h', FlyD B l e cls a0 od h' → s.heap.UpToSlots h' → Q () { s with heap := h' }) : wpAny M A (setFlight (.ref e) none) Q E s := by
  refine wpAny_mono (kd_any (kd_setFlight _ _) (lands_againW (Q := fun _ s' => ∃ h', s' = { s with heap := h' } ∧ Heap.FlyingW B l e cls a0 h' ∧ s.heap.UpToSlots h') fl.1 fun h' f u => ⟨h', rfl, f, u⟩)) (fun _ s' z => ?_) fun _ _ z => z
  obtain ⟨⟨h', rfl, f, u⟩, k⟩ := z
  exact q h' ⟨f, dict_on k fl.2⟩ u
end
end L2
namespace L2
open PySem PySem.Spec PyProof.Rows
structure Flies (outer : List Env) (H' : Hp) (h h' : Heap) (e C : Addr) (od : Option Addr) : Prop where
  new : h.get? e = none
  unt : H' e = none
  fly : ∃ a0 B, FlyD B outer e (.ref C) a0 od h' ∧ ∀ b o, h'.get? b = some o → B.get? b = none → b = e ∨ b ∈ frs outer ∨ (h.get? b = none ∧ H' b = none)
theorem ObjOk.there {P : Program} {w : World} {H : Hp} {h : Heap} {a : Addr} {o : HO} (x : ObjOk P w H h a o) : ∃ ob, h.get? a = some ob := by
  cases o with
  | lst xs => obtain ⟨_, _, _, _, e⟩ := x; exact ⟨_, e⟩
  | tup xs => obtain ⟨_, _, _, o, e, _⟩ := x; exact ⟨_, e⟩
  | dK kvs => obtain ⟨_, _, _, _, o, _, _, e, _⟩ := x; exact ⟨_, e⟩
  | dT kvs => obtain ⟨_, _, _, _, o, _, _, e, _⟩ := x; exact ⟨_, e⟩
  | set S n => obtain ⟨o, _, _, _, e, _⟩ := x; exact ⟨_, e⟩
  | ins C dx fs => obtain ⟨_, _, _, e, _⟩ := x; exact ⟨_, e⟩
  | own y => exact x
  | xd fs => obtain ⟨_, ⟨_, _, _, e, _⟩, _⟩ := x; exact ⟨_, e⟩
  | rng lo hi => obtain ⟨_, _, _, e⟩ := x; exact ⟨_, e⟩
  | frz ob u => obtain ⟨e, _⟩ := x; exact ⟨_, e⟩
  | tbl ps => exact ⟨_, (show h.get? a = some _ from x)⟩
  | met f y => exact ⟨_, (show h.get? a = some _ from x)⟩
  | ext φ => obtain ⟨_, e, _⟩ := x; exact e
def CXE (P : Program) (w : World) : CXT := fun outer H s E ex s' => ∃ e C od H', ex = .ref e ∧ s'.os = s.os ∧ AllBare s'.gens ∧ Un (frs outer) [] H H' s.heap s'.heap ∧ HOk P w H' s'.heap ∧ (∀ b ∈ frs outer, H' b = none) ∧ Flies outer H' s.heap s'.heap e C od ∧ E (.ref C) od H'
theorem hok_fly {P : Program} {w : World} {H : Hp} {h h' : Heap} {B : Heap} {outer : List Env} {e : Addr} {n : Heap} (ok : HOk P w H h) (st : B.StaysIn h') (he : H e = none) (hf : ∀ b ∈ frs outer, H b = none)
    (hB : ∀ b o, h.get? b = some o → B.get? b = none → b = e ∨ b ∈ frs outer ∨ (n.get? b = none ∧ H b = none)) (hBh : ∀ b o, B.get? b = some o → h.get? b = some o) : HOk P w H h' := fun a u ea => by
  have tr : ∀ b v, H b = some v → ∀ o, h.get? b = some o → h'.get? b = some o := fun b v ev o eo => by
    cases q : B.get? b with
    | some o' =>
      have := hBh b o' q
      rw [eo] at this
      cases this
      exact st b o q
    | none =>
      rcases hB b o eo q with z | z | z
      · rw [z, he] at ev; cases ev
      · rw [hf b z] at ev; cases ev
      · rw [z.2] at ev; cases ev
  refine (ok a u ea).stay (fun b o hb q => ?_) (fun _ q => q) fun _ _ q => q
  rcases hb with z | z
  · subst z; exact tr b u ea o q
  · exact tr b _ z o q
section
variable {P : Program} {w : World} {K : PySem.W.Frag} {mg : Str → Option Value} {base : Heap} {N : List Str} {qual : Str} {scope : Scope} {f : Addr} {cd : Value} {A : Around} {outer : List Env} {s₀ : Shared} {H₀ : Hp} {E : XK}
theorem fly_out {pins : List (Addr × Obj)} {σ : St} {H H' : Hp} {s : Shared} {e C : Addr} {od : Option Addr} {a0 : Value} {B h1 h2 : Heap} {g : Array GenState} {d : Drawn} {t : Nat} {CX : CXT} (I : Inv (cxOf CX P w K mg base N qual scope f cd A outer s₀ H₀ E) pins σ H s)
    (un : Un (frs (cxOf CX P w K mg base N qual scope f cd A outer s₀ H₀ E).stack) [] H H' s.heap h1) (hok : HOk P w H' h1) (hfr : ∀ b ∈ frs (cxOf CX P w K mg base N qual scope f cd A outer s₀ H₀ E).stack, H' b = none) (hg : AllBare g)
    (hn : s.heap.get? e = none) (hu : H' e = none) (hB : ∀ b o, h1.get? b = some o → B.get? b = none → b = e ∨ b ∈ frs (cxOf CX P w K mg base N qual scope f cd A outer s₀ H₀ E).stack ∨ (s.heap.get? b = none ∧ H' b = none)) (hBh : B.StaysIn h1)
    (fl : FlyD B outer e (.ref C) a0 od h2) (up : h1.UpToSlots h2) (q : E (.ref C) od H') : CXE P w outer H₀ s₀ E (.ref e) { s with heap := h2, gens := g, drawn := d, toks := t } := by
  have hBst : B.StaysIn h2 := fl.1.1
  have st : ∀ b, b ∈ frs (cxOf CX P w K mg base N qual scope f cd A outer s₀ H₀ E).stack → b = s₀.heap.objs.size ∨ b ∈ frs outer := fun b hb => by
    rcases List.mem_cons.mp (I.stkSub b hb) with z | z
    · exact .inl z
    · exact .inr z
  have so : ∀ b, b ∈ frs outer → b ∈ frs (cxOf CX P w K mg base N qual scope f cd A outer s₀ H₀ E).stack := fun b hb => List.mem_cons_of_mem _ hb
  have neL : ∀ b o, s₀.heap.get? b = some o → b ≠ s₀.heap.objs.size := fun b o z => Nat.ne_of_lt (Heap.lt_size z)
  have inS : ∀ b o, s₀.heap.get? b = some o → ∃ o', s.heap.get? b = some o' := fun b o z => I.base.there b o z (by intro y; cases y)
  have in1 : ∀ b o, s.heap.get? b = some o → ∃ o', h1.get? b = some o' := fun b o z => un.there b o z (by simp)
  have fz : ∀ b ∈ frs (cxOf CX P w K mg base N qual scope f cd A outer s₀ H₀ E).stack, ∀ o, h1.get? b = some o → ∃ sl, h2.get? b = some { o with slots := sl } := fun b hb o z => by
    refine up b o z fun vs y => ?_
    obtain ⟨_, o', ho', hd⟩ := I.stack.mem hb
    obtain ⟨sl, z2⟩ := un.any ho' (I.stkFree b hb) (by simp)
    rw [z] at z2
    cases z2
    exact hd vs y
  have keep1 : ∀ b o, s.heap.get? b = some o → h1.get? b = some o → b ∉ frs (cxOf CX P w K mg base N qual scope f cd A outer s₀ H₀ E).stack → h2.get? b = some o := fun b o z z1 nf => by
    cases y : B.get? b with
    | some o' =>
      have := hBh b o' y
      rw [z1] at this
      cases this
      exact hBst b o y
    | none =>
      rcases hB b o z1 y with r | r | r
      · rw [r, hn] at z; cases z
      · exact absurd r nf
      · rw [r.1] at z; cases z
  refine ⟨e, C, od, H', rfl, I.os, hg, ⟨fun b o z n nf _ => ?_, fun b o z n nf _ => ?_, fun b o z n _ => ?_, fun b o z _ => ?_, fun b xs z => un.tups b xs (I.base.tups b xs z), fun b o u z => un.frzs b o u (I.base.frzs b o u z), fun b ps z => ?_⟩, ?_, fun b hb => hfr b (so b hb), ⟨?_, hu, a0, B, fl, fun b o z y => ?_⟩, q⟩
  · have z1 := I.base.keep b o z n nf (by intro y; cases y)
    have n1 := I.base.free b o z n (by intro y; cases y)
    have nf1 : b ∉ frs (cxOf CX P w K mg base N qual scope f cd A outer s₀ H₀ E).stack := fun y => (st b y).elim (neL b o z) nf
    exact keep1 b o z1 (un.keep b o z1 n1 nf1 (by simp)) nf1
  · obtain ⟨sl, z1⟩ := I.base.slot b o z n nf (by intro y; cases y)
    have n1 := I.base.free b o z n (by intro y; cases y)
    obtain ⟨sl2, z2⟩ := un.any z1 n1 (by simp)
    obtain ⟨sl3, z3⟩ := fz b (so b nf) _ z2
    exact ⟨sl3, z3⟩
  · obtain ⟨o', z1⟩ := inS b o z
    exact un.free b o' z1 (I.base.free b o z n (by intro y; cases y)) (by simp)
  · obtain ⟨o1, z1⟩ := inS b o z
    obtain ⟨o2, z2⟩ := in1 b o1 z1
    cases y : B.get? b with
    | some o' => exact ⟨o', hBst b o' y⟩
    | none =>
      rcases hB b o2 z2 y with r | r | r
      · rw [r, hn] at z1; cases z1
      · obtain ⟨sl, z3⟩ := fz b r o2 z2
        exact ⟨_, z3⟩
      · rw [r.1] at z1; cases z1
  · obtain ⟨m1, e1⟩ := I.base.tbls b ps z
    obtain ⟨m2, e2⟩ := un.tbls b _ e1
    exact ⟨m1 ++ m2, by rw [e2, Array.append_assoc]⟩
  · exact hok_fly (n := s.heap) (e := e) (outer := (cxOf CX P w K mg base N qual scope f cd A outer s₀ H₀ E).stack) hok hBst hu hfr hB hBh
  · cases y : s₀.heap.get? e with
    | none => rfl
    | some o =>
      obtain ⟨o', z⟩ := inS e o y
      rw [hn] at z; cases z
  · cases y1 : h1.get? b with
    | none =>
      refine .inr (.inr ⟨?_, ?_⟩)
      · cases y2 : s₀.heap.get? b with
        | none => rfl
        | some o0 =>
          obtain ⟨o1, z1⟩ := inS b o0 y2
          obtain ⟨o2, z2⟩ := in1 b o1 z1
          rw [y1] at z2; cases z2
      · cases y2 : H' b with
        | none => rfl
        | some v =>
          have := (hok b v y2).there
          obtain ⟨o2, z2⟩ := this
          rw [y1] at z2; cases z2
    | some o1 =>
      rcases hB b o1 y1 y with r | r | r
      · exact .inl r
      · rcases st b r with r2 | r2
        · refine .inr (.inr ⟨?_, hfr b r⟩)
          cases y2 : s₀.heap.get? b with
          | none => rfl
          | some o0 => exact absurd r2 (neL b o0 y2)
        · exact .inr (.inl r2)
      · refine .inr (.inr ⟨?_, r.2⟩)
        cases y2 : s₀.heap.get? b with
        | none => rfl
        | some o0 =>
          obtain ⟨o1, z1⟩ := inS b o0 y2
          rw [r.1] at z1; cases z1
theorem pass_on {CX : CXT} (hCX : CX = CXE P w) : Passes (CXE P w) (cxOf CX P w K mg base N qual scope f cd A outer s₀ H₀ E) E := by
  subst hCX
  intro pins σ H s ex s' I h
  obtain ⟨e, C, od, H', rfl, ho, hg, un, hok, hfr, ⟨hn, hu, a0, B, fl, hB⟩, q⟩ := h
  show wpAny (model P w) (A.deeper (envOfC qual scope s₀.heap.objs.size f cd)) (leaving (envOfC qual scope s₀.heap.objs.size f cd) (.ref e)) _ _ s'
  refine leaves_onD (L := s₀.heap.objs.size) I.ok.frames rfl fl fun h2 fl2 up => ?_
  obtain ⟨hp, g, d, t, os⟩ := s'
  have ho : os = s.os := ho
  subst ho
  exact fly_out (s := s) (g := g) (d := d) (t := t) I un hok hfr hg hn hu hB fl.1.1 fl2 up q
end
abbrev veMro : List Value := [.type "ValueError", .type "Exception", .type "BaseException", .type "object"]
theorem exc_obj {K : PySem.W.Frag} {h : Heap} {C : Addr} {bB : List Value} {nid : String} (X : K.In h) (q : PySem.W.excIn K C bB nid = true) :
    ∃ bm N nm qn bs hdct sn sub ab col dd k0 k1 k2 k3 k5 mN, h.get? C = some (excClassObj nm qn C N bs bm hdct sn sub ab col dd k0 k1 k2 k3 k5 nid) ∧ h.Ns N mN ∧ mN "__init__" = none ∧ OwnTail h bB bm := by
  unfold PySem.W.excIn at q
  split at q
  case h_2 => exact Bool.noConfusion q
  case h_1 d1 c1 l1 look =>
    split at q
    case h_2 => exact Bool.noConfusion q
    case h_1 C2 m2 r0 r1 r2 r3 nn r5 eqm eqs =>
      simp only [Bool.and_eq_true, beq_iff_eq, Bool.not_eq_true'] at q
      obtain ⟨⟨⟨⟨⟨w1, w2⟩, w3⟩, w4⟩, w5⟩, w6⟩ := q
      subst w1 w2
      obtain ⟨x1, x2, x3, x4, x5, x6, x7, x8, x9, x10, x11⟩ := c1
      dsimp only at eqm w3 w5 w6
      subst eqm w3
      have l2 : l1 = #[r0, r1, r2, r3, some (.builtin nn), r5] := by
        have := congrArg List.toArray eqs
        simpa using this
      subst l2
      exact ⟨m2, x4, x1, x5, x2, x6, x7, x8, x9, x10, d1, r0, r1, r2, r3, r5, h.nsMap x4, X _ _ look, .of_isNs (PySem.W.isNs_of_in X w5), PySem.W.nsMap_none_of_in X w5 w6, PySem.W.tail_of_in X w4⟩
end L2
namespace L2
open PySem PySem.Spec PyProof.Rows
def Cx.re (X : Cx) (A' : Around) (c : Bool) (xe' : Value → Shared → Prop) : Cx := { X with A := A', calm := c, xe := xe' }
section
variable {X : Cx} {pins : List (Addr × Obj)} {σ : St} {H : Hp} {s : Shared} {A' : Around} {c : Bool} {xe' : Value → Shared → Prop}
theorem Inv.re (I : Inv X pins σ H s) (hf : A'.frames = some X.stack) (hh : c = true → A'.handled = none) : Inv (X.re A' c xe') pins σ H s :=
  ⟨⟨I.ok.mod, I.ok.kind, I.ok.glob, I.ok.blt, I.ok.above, I.ok.inj, I.ok.has, I.ok.cab, hh, hf, I.ok.stk, I.ok.exf, I.ok.bs, I.ok.bsz, I.ok.noex, I.ok.exfs, I.ok.funs, I.ok.frf⟩, I.os, I.bare, I.base, I.loc, I.cell, I.free, I.freeC, I.pin, I.hok, I.len⟩
theorem Inv.unre (ok : X.Ok) (I : Inv (X.re A' c xe') pins σ H s) : Inv X pins σ H s := ⟨ok, I.os, I.bare, I.base, I.loc, I.cell, I.free, I.freeC, I.pin, I.hok, I.len⟩
end
section
variable {X : Cx} {pins : List (Addr × Obj)} {σ : St} {H H' : Hp} {s s' : Shared} {e C : Addr} {B h1 h2 : Heap}
theorem un_land (I : Inv X pins σ H s) (un : Un (frs X.stack) [] H H' s.heap h1) (hB : ∀ b o, h1.get? b = some o → B.get? b = none → b = e ∨ b ∈ frs X.stack ∨ (s.heap.get? b = none ∧ H' b = none)) (hBh : B.StaysIn h1) (st : B.StaysIn h2) (up : h1.UpToSlots h2)
    (hn : s.heap.get? e = none) : Un (frs X.stack) [] H H' s.heap h2 := by
  have fz : ∀ b ∈ frs X.stack, ∀ o, h1.get? b = some o → ∃ sl, h2.get? b = some { o with slots := sl } := fun b hb o z => by
    refine up b o z fun vs y => ?_
    obtain ⟨_, o', ho', hd⟩ := I.stack.mem hb
    obtain ⟨sl, z2⟩ := un.any ho' (I.stkFree b hb) (by simp)
    rw [z] at z2
    cases z2
    exact hd vs y
  refine ⟨fun b o z n nf nx => ?_, fun b o z n nf nx => ?_, un.free, fun b o z nx => ?_, un.tups, un.frzs, un.tbls⟩
  · have z1 := un.keep b o z n nf nx
    cases y : B.get? b with
    | some o' =>
      have := hBh b o' y
      rw [z1] at this
      cases this
      exact st b o y
    | none =>
      rcases hB b o z1 y with r | r | r
      · rw [r, hn] at z; cases z
      · exact absurd r nf
      · rw [r.1] at z; cases z
  · obtain ⟨sl, z1⟩ := un.slot b o z n nf nx
    obtain ⟨sl2, z2⟩ := fz b nf _ z1
    exact ⟨sl2, z2⟩
  · obtain ⟨o1, z1⟩ := un.there b o z nx
    cases y : B.get? b with
    | some o' => exact ⟨o', st b o' y⟩
    | none =>
      rcases hB b o1 z1 y with r | r | r
      · rw [r, hn] at z; cases z
      · obtain ⟨sl, z3⟩ := fz b r o1 z1
        exact ⟨_, z3⟩
      · rw [r.1] at z; cases z
def IsExc (e C : Addr) (od : Option Addr) (h : Heap) : Prop := ∃ o vs, h.get? e = some o ∧ o.cls = .ref C ∧ o.data = .fields vs ∧ o.dict = od
def excO (e C : Addr) (od : Option Addr) : HO := .ext (IsExc e C od)
theorem isExc_stays {od : Option Addr} {h1 h2 : Heap} (x : IsExc e C od h1) (k : ∀ o, h1.get? e = some o → h2.get? e = some o) : IsExc e C od h2 := let ⟨o, vs, e1, r⟩ := x; ⟨o, vs, k o e1, r⟩
theorem Inv.track {od : Option Addr} (I0 : Inv X pins σ H s) (hex : X.ex = []) (hn0 : s.heap.get? e = none) (I : Inv X pins σ H' s') (hu : H' e = none) (he : IsExc e C od s'.heap) : Inv X pins σ (upd H' e (excO e C od)) s' := by
  have nl : X.env.locals ≠ e := fun z => by
    obtain ⟨m, ⟨o, _, _, ho, _⟩, _⟩ := I0.loc
    rw [z, hn0] at ho; cases ho
  have nc : ∀ x c, X.env.cells.lookup x = some c → c ≠ e := fun x c q z => by
    obtain ⟨v, o, ho, _⟩ := I0.cell x c q
    rw [z, hn0] at ho; cases ho
  have np : ∀ p ∈ X.pn ++ pins, p.1 ≠ e := fun p hp z => by
    have := (I0.pin p hp).1
    rw [z, hn0] at this; cases this
  have n0 : ∀ b o, X.s₀.heap.get? b = some o → b ≠ e := fun b o q z => by
    subst z
    obtain ⟨o', q'⟩ := I0.base.there b o q (by rw [hex]; simp)
    rw [hn0] at q'; cases q'
  have nt : ∀ {b : Addr} {u : HO}, H' b = some u → b ≠ e := fun q => ne_of_none q hu
  refine ⟨I.ok, I.os, I.bare, ⟨I.base.keep, I.base.slot, fun b o q n nx => ?_, I.base.there, fun b xs q => ?_, fun b o u q => ?_, fun b ps q => ?_⟩, I.loc, I.cell, ?_, fun x c q => ?_, fun p hp => ?_, fun b u q => ?_, I.len⟩
  · rw [upd_ne (n0 b o q)]; exact I.base.free b o q n nx
  · have := I.base.tups b xs q; rw [upd_ne (nt this)]; exact this
  · have := I.base.frzs b o u q; rw [upd_ne (nt this)]; exact this
  · obtain ⟨m, q'⟩ := I.base.tbls b ps q; exact ⟨m, by rw [upd_ne (nt q')]; exact q'⟩
  · rw [upd_ne nl]; exact I.free
  · rw [upd_ne (nc x c q)]; exact I.freeC x c q
  · obtain ⟨q1, q2, q3⟩ := I.pin p hp
    exact ⟨q1, by rw [upd_ne (np p hp)]; exact q2, q3⟩
  · by_cases hb : b = e
    · subst hb
      rw [upd_same] at q
      cases q
      obtain ⟨o, vs, he1, r⟩ := id he
      exact ⟨he, ⟨o, he1⟩, fun h1 h2 x k => isExc_stays x k⟩
    · rw [upd_ne hb] at q
      exact (I.hok b u q).stay (fun _ _ _ z => z) (fun c z => by rw [upd_ne (nt z)]; exact z) fun c xs z => by rw [upd_ne (nt z)]; exact z
theorem unbind_ok {M : Model} {A : Around} {E : Value → Shared → Prop} {n : Str} {i : Nat} {pos : Pos} {Q : Unit → Shared → Prop} (I : Inv X pins σ H s) (hN : X.N.Nodup) (hi : X.N[i]? = some n) (hl : X.env.kindOf n = some .local)
    (h : ∀ s', Inv X pins (σ.set i none) H s' → Q () s') : wpAny M A (do bindName X.env n .none; unbindBehindTheSuite X.env n pos) Q E s := by
  obtain ⟨m, hn, hlk⟩ := id I.loc
  have hcls : (X.env.scope.kind == .class || (X.env.scope.kind == .module && X.env.locals != X.env.globals)) = false := by rw [I.ok.kind]; rfl
  have hiσ : i < σ.length := by rw [I.len]; exact (List.getElem?_eq_some_iff.mp hi).1
  have cne := I.cne
  refine wpAny_nameGoes_keeps hl hn hcls fun h' v hn' hs => ?_
  have old : ∀ b o, X.s₀.heap.get? b = some o → b ≠ X.env.locals := fun b o q => Nat.ne_of_lt (Nat.lt_of_lt_of_le (Heap.lt_size q) I.ok.above)
  refine h _ ⟨I.ok, I.os, I.bare, ⟨fun b o q n nf nx => ?_, fun b o q n nf nx => ?_, I.base.free, fun b o q nx => ?_, I.base.tups, I.base.frzs, I.base.tbls⟩, ⟨_, hn', fun j y v' e1 e2 e3 => ?_⟩, fun y c q => ?_, I.free, I.freeC, fun p hp => ?_, fun b u q => ?_, by simpa using I.len⟩
  · exact (hs.2 b (old b o q)).trans (I.base.keep b o q n nf nx)
  · obtain ⟨sl, z⟩ := I.base.slot b o q n nf nx
    exact ⟨sl, (hs.2 b (old b o q)).trans z⟩
  · obtain ⟨o', z⟩ := I.base.there b o q nx
    exact ⟨o', (hs.2 b (old b o q)).trans z⟩
  · by_cases hj : j = i
    · subst hj
      rw [List.getElem?_set_self hiσ] at e2
      cases e2
    · rw [List.getElem?_set_ne (Ne.symm hj)] at e2
      obtain ⟨u', r', q⟩ := hlk j y v' e1 e2 e3
      refine ⟨u', r', ?_⟩
      rcases q with ⟨k, z⟩ | ⟨k, c, z, z2⟩
      · refine .inl ⟨k, ?_⟩
        have : y ≠ n := fun w => hj (nodup_ix hN e1 (w ▸ hi))
        simp [this, z]
      · exact .inr ⟨k, c, z, z2.sameBut hs (cne y c z)⟩
  · obtain ⟨w', z⟩ := I.cell y c q
    exact ⟨w', z.sameBut hs (cne y c q)⟩
  · obtain ⟨q1, q2, q3, q4, q5⟩ := I.pin p hp
    exact ⟨(hs.2 p.1 q3).trans q1, q2, q3, q4, q5⟩
  · refine (I.hok b u q).stay (fun c w' hc z => (hs.2 c ?_).trans z) (fun _ z => z) fun _ _ z => z
    rintro rfl
    rcases hc with hc | hc
    · rw [← hc, I.free] at q; cases q
    · rw [I.free] at hc; cases hc
end
def PSsAt (X : Cx) (pins : List (Addr × Obj)) (σ : St) (st : List Stmt) (t : TS) : Prop := ∀ (s : Shared) (H : Hp) (D : Ends), Inv X pins σ H s → t D σ H → wpAny (model X.prog X.w) X.A (execs st X.env) (SP X pins D) X.xe s
def PSAt (X : Cx) (pins : List (Addr × Obj)) (σ : St) (st : Stmt) (t : TS) : Prop := ∀ (s : Shared) (H : Hp) (D : Ends), Inv X pins σ H s → t D σ H → wpAny (model X.prog X.w) X.A (exec st X.env) (SP X pins D) X.xe s
def PEAt (X : Cx) (pins : List (Addr × Obj)) (σ : St) (e : Expr) (t : TE) : Prop := ∀ (s : Shared) (H : Hp) (Q : VK), Inv X pins σ H s → t σ H Q → wpAny (model X.prog X.w) X.A (eval e X.env) (EP X pins σ Q) X.xe s
def PassAt (CX : CXT) (X : Cx) (pins : List (Addr × Obj)) (σ : St) (E : XK) : Prop := ∀ (H : Hp) (s : Shared) (e : Value) (s' : Shared), Inv X pins σ H s → CX X.stack H s E e s' → X.xe e s'
section
variable {X : Cx} {pins : List (Addr × Obj)} {σ : St} {pos : Pos} {e : Expr} {te : TE} {t u : TS}
theorem PE.at (h : PE X e te) : PEAt X pins σ e te := fun s H Q I q => h pins s σ H Q I q
theorem PS.at {st : Stmt} (h : PS X st t) : PSAt X pins σ st t := fun s H D I q => h pins s σ H D I q
theorem ps_set_at {i : Nat} {x : Str} {pos' : Pos} (hN : X.N.Nodup) (hi : X.N[i]? = some x) (hx : Loc X.env.scope x) (he : PEAt X pins σ e te) (hs : swapsWith e (some (.Name x pos')) pos.line X.env = pure false := by rfl) (hf : X.fn x = true ∨ X.env.scope.names.lookup x = some .local := by first | exact .inl rfl | exact .inr rfl | assumption) :
    PSAt X pins σ (.Assign [.Name x pos'] e pos) (tAsg te (gName i)) := by
  intro s H D I h
  refine wpAny_Assign_Name (thn (he s H _ I h) fun v s1 ⟨y, H1, I1, r1, q1⟩ => ?_) hs
  exact store_ok I1 hN hi hx r1 (fun s2 I2 => ⟨_, H1, I2, q1⟩) hf
theorem pss_one_at {st : Stmt} (h1 : PSAt X pins σ st t) : PSsAt X pins σ [st] t := by
  intro s H D I h
  refine wpAny_execs_cons (thn (h1 s H D I h) fun f s1 q => ?_)
  cases f with
  | next => exact wpAny_execs_nil q
  | brk => exact q
  | cont => exact q
  | ret v => exact q
end
structure CalE (P : Program) (w : World) (K : PySem.W.Frag) (mg : Str → Option Value) (base : Heap) (name : Str) (k : Nat) (ps : List Str) (sp : Sp) : Prop where
  ex : ∃ (f : Addr) (fd : FuncData), FnOk P w K mg base (CXE P w) k f fd ps sp ∧ Binds K fd ps [] ∧ mg name = some (.ref f) ∧ PySem.W.keepIn K (.ref f) = true
section
variable {X : Cx} {k : Nat} {C : Addr} {ps : List Str} {sp : Sp} {name m : Str} {p pos apos : Pos} {e o : Expr} {es : List Expr} {ta : TE} {t : TA} {pl : Sem Bool} {E : XK} {pins : List (Addr × Obj)} {σ : St} {CX : CXT} {f : Addr} {fd : FuncData}
theorem pe_fnE (C : CalE X.prog X.w X.K X.mg X.base name k ps sp) (hr : Room k X.A) (hx : Passes (CXE X.prog X.w) X E) (ha : PA X (e :: es) t) (hg : Gl X name := by rfl) (hdb : (name == ("__debug__" : Str)) = false := by decide)
    (he : starEach (e :: es) X.env = (false, eval e X.env) :: starEach es X.env := by rfl) (hpl : (backTo pos (starEach es X.env)).any (·.1) = false := by rfl) : PE X (.Call (.Name name p) (e :: es) [] pos) (tCall sp [] E t) := by
  obtain ⟨f, fd, F, b, hm, hk⟩ := C.ex
  exact pe_call F hr hg hm hk b .nil hx ha hdb he hpl
theorem run_at {H : Hp} {s : Shared} {Q : VK} {us : List Value} {vs : List V} (F : FnOk X.prog X.w X.K X.mg X.base CX k f fd ps sp) (hr : Room k X.A) (hb : Binds X.K fd ps []) (hx : PassAt CX X pins σ E) (I : Inv X pins σ H s) (r : Vals vs us) (h : sp (vs ++ []) H Q E) :
    wpAny (model X.prog X.w) X.A (call (.ref f) us) (EP X pins σ Q) X.xe s := by
  have r2 : Vals (vs ++ []) (us ++ []) := r.append .nil
  have hl : (us ++ []).length = ps.length := by rw [← r2.length]; exact F.len _ _ _ _ h
  refine wpAny_call (codeAny_mono (F.run X.A X.stack s H ⟨us, []⟩ (us ++ []) (vs ++ []) Q E hr I.env0 (hb s us I.kIn hl) r2 h) fun r s' hq => ?_)
  cases r with
  | error e => exact hx H s e s' I hq
  | ok fl =>
    cases fl with
    | ret u => exact I.after hq
    | next => exact hq.elim
    | brk => exact hq.elim
    | cont => exact hq.elim
theorem pe_fn_at (C : CalE X.prog X.w X.K X.mg X.base name k ps sp) (hr : Room k X.A) (hx : PassAt (CXE X.prog X.w) X pins σ E) (ha : PA X (e :: es) t) (hg : Gl X name := by rfl) (hdb : (name == ("__debug__" : Str)) = false := by decide)
    (he : starEach (e :: es) X.env = (false, eval e X.env) :: starEach es X.env := by rfl) (hpl : (backTo pos (starEach es X.env)).any (·.1) = false := by rfl) : PEAt X pins σ (.Call (.Name name p) (e :: es) [] pos) (tCall sp [] E t) := by
  obtain ⟨f, fd, F, b, hm, hk⟩ := C.ex
  intro s H Q I h
  refine wpAny_Call_Name_kw (ld_glob I hg hm ?_ hdb)
  refine PySem.W.callWith_K (h₀ := X.base) I.ok.mod.kin hk (thn (ha pos pins s σ H _ I h) fun us s1 ⟨vs, H1, I1, r, q⟩ => ⟨I1.kIn, ?_⟩) he hpl
  exact run_at F hr b hx I1 r q
end
def landW (X : Cx) (E : XK) (pins : List (Addr × Obj)) (σ : St) : Value → Shared → Prop := fun ex s1 => ∃ H0 s0, Inv X pins σ H0 s0 ∧ CXE X.prog X.w X.stack H0 s0 E ex s1
theorem land_pass {X : Cx} {E : XK} {pins : List (Addr × Obj)} {σ : St} : PassAt (CXE X.prog X.w) (X.wish (landW X E pins σ)) pins σ E := fun H s e s' I h => ⟨H, s, I.unwish, h⟩
def tTry (K : PySem.W.Frag) (i : Nat) (C0 : Value) (tb : XK → TS) (th : TS) : TS := fun D σ H => ∃ E : XK, tb E D σ H ∧ ∀ C od H' e, E (.ref C) od H' → H' e = none → PySem.W.exmOne K (.ref C) C0 = some true ∧
  th { nx := fun σ' H2 => D.nx (σ'.set i none) H2, rt := D.rt, bk := fun σ' H2 => D.bk (σ'.set i none) H2, ct := fun σ' H2 => D.ct (σ'.set i none) H2 } (σ.set i (some (.ref e))) (upd H' e (excO e C od))
section
variable {X : Cx} {i : Nat} {n x : Str} {C0 : Value} {np hpos pos : Pos} {body suite : List Stmt} {b0 : Stmt} {tb : XK → TS} {th : TS}
theorem mark_frames {A : Around} {v : Option Value} : (A.mark v).frames = A.frames := rfl
theorem ps_try (hst : X.stack = X.env :: X.outer) (hfr : X.env.frame = some X.env.locals) (hex : X.ex = []) (hN : X.N.Nodup) (hi : X.N[i]? = some n) (hl : X.env.kindOf n = some .local) (hg : Gl X x) (hm : X.mg x = some C0)
    (hb : ∀ E pins σ, PSsAt (X.wish (landW X E pins σ)) pins σ body (tb E)) (hs : ∀ e, PSs (X.re (X.A.mark (some (.ref e))) false fun _ _ => False) (b0 :: suite) th) (hdb : (x == ("__debug__" : Str)) = false := by decide) :
    PS X (.Try body [.ExceptHandler (some (.Name x np)) (some n) (b0 :: suite) hpos] [] [] pos) (tTry X.K i C0 tb th) := by
  intro pins s σ H D I h
  obtain ⟨E, hb1, hh⟩ := h
  refine wpAny_Try_except (wpAny_mono (hb E pins σ s H D (I.wish _) hb1) (fun f s1 q => ?_) fun ex s1 q => ?_)
  · have q := q.unwish
    cases f with
    | next => exact wpAny_execs_nil q
    | brk => exact q
    | cont => exact q
    | ret v => exact q
  · obtain ⟨H0, s0, I0, e, C, od, H', rfl, ho, hgn, un, hok, hfree, ⟨hn, hu, a0, B, fl, hB⟩, hE⟩ := q
    have fl' := fl
    rw [hst] at fl'
    refine looks_onD (by rw [I.ok.frames, hst]) hfr fl' fun h4 held4 up4 => ?_
    refine landsD held4 fun h5 fl5 up5 => ?_
    have inv : ∀ h6, B.StaysIn h6 → s1.heap.UpToSlots h6 → Inv X pins σ H' { s1 with heap := h6 } := fun h6 st up =>
      I0.call' (s' := { s1 with heap := h6 }) (ch := []) ho (un_land I0 un hB fl.1.1 st up hn) (hok_fly (n := s0.heap) (e := e) (outer := X.stack) hok st hu hfree hB fl.1.1) hgn (fun b z => absurd z (by simp))
    have I5 := inv h5 fl5.1.1 (up4.trans up5)
    refine wpAny_handleBy_cons (codeAny_handlers_test ?_) (by intro q; cases q)
    refine ld_glob (X := X.re (X.A.mark (some (.ref e))) false fun _ _ => False) (I5.re (by rw [mark_frames]; exact I.ok.frames) (by intro z; cases z)) hg hm ?_ hdb
    obtain ⟨hx, hth⟩ := hh C od H' e hE hu
    have LT : PySem.W.Looks (model X.prog X.w) h5 (typeOf (.ref e)) (.ref C) := by
      obtain ⟨ob, hob, hc⟩ := fl5.1.there
      exact hc ▸ (PySem.W.Looks.ld hob).andThen .now
    refine (PySem.W.exm_one I5.kIn LT hx).here ?_
    refine codeAny_handlers_suite_as ?_
    refine againD fl5 fun h6 fl6 up6 => ?_
    have I6 := inv h6 fl6.1.1 ((up4.trans up5).trans up6)
    obtain ⟨oe, ws, hoe, hoec, hoed, hodd⟩ := fl6.first
    have I6t := Inv.track I0 hex hn I6 hu ⟨oe, ws, hoe, hoec, hoed, hodd⟩
    have I6m : Inv (X.re (X.A.mark (some (.ref e))) false fun _ _ => False) pins σ (upd H' e (excO e C od)) { s1 with heap := h6 } := I6t.re (by rw [mark_frames]; exact I.ok.frames) (by intro z; cases z)
    refine store_ok (X := X.re (X.A.mark (some (.ref e))) false fun _ _ => False) (v := .ref e) I6m hN hi (.inl hl) rfl (fun s7 I7 => ?_) (.inr hl)
    refine wpAny_mono (hs e pins s7 _ _ _ I7 hth) (fun f s8 q8 => ?_) (fun _ _ z => z.elim)
    cases f with
    | next =>
      obtain ⟨σ8, H8, I8, q⟩ := q8
      exact unbind_ok (I8.unre I.ok) hN hi hl fun s9 I9 => ⟨_, H8, I9, q⟩
    | brk =>
      obtain ⟨σ8, H8, I8, q⟩ := q8
      exact unbind_ok (I8.unre I.ok) hN hi hl fun s9 I9 => ⟨_, H8, I9, q⟩
    | cont =>
      obtain ⟨σ8, H8, I8, q⟩ := q8
      exact unbind_ok (I8.unre I.ok) hN hi hl fun s9 I9 => ⟨_, H8, I9, q⟩
    | ret v =>
      obtain ⟨v8, σ8, H8, I8, r8, q⟩ := q8
      exact unbind_ok (I8.unre I.ok) hN hi hl fun s9 I9 => ⟨v8, _, H8, I9, r8, q⟩
end
section
variable {P : Program} {w : World} {K : PySem.W.Frag} {mg : Str → Option Value} {base : Heap}
theorem Fun.okE {x qual : Str} {st : Stmt} {f : Addr} {fd : FuncData} {N ps : List Str} {k : Nat} {sp : Sp} (F : Fun K x qual st f fd) (S : FnScope N ps (defScope st)) (len : ∀ vs H Q E, sp vs H Q E → vs.length = ps.length)
    (hbody : ∀ (cdv : Value) (A : Around) (outer : List Env) (s : Shared) (H : Hp) (vs : List V) (Q : VK) (E : XK), Room k (A.deeper (envOfC qual (defScope st) s.heap.objs.size f cdv)) → sp vs H Q E →
      ∃ t, PSs (cxOf (CXE P w) P w K mg base N qual (defScope st) f cdv A outer s H E) (defBody st) t ∧ t { nx := fun _ H' => Q .non H', rt := Q } (start N vs) H) : FnOk P w K mg base (CXE P w) (k + 1) f fd ps sp := by
  obtain ⟨oc, od, kV, doc, pm, an, cdv, ct, osl, rfl, lk, hcd⟩ := F.ex
  exact fn_of lk hcd S len fun A outer s H vs Q E hr hsp => hbody cdv A outer s H vs Q E hr hsp
end
structure RoomU (k : Nat) (A : Around) : Prop where
  dp : A.depth + 3 * k + 5 < recursionLimit
  un : A.units + 16 * k + 200 < cLine
theorem Room.u {k : Nat} {A : Around} (r : Room k A) : RoomU k A := ⟨r.dp, r.un⟩
theorem ix_listK (K : PySem.W.Frag) {X : Cx} (h : X.K = K := by rfl) : IxR X (rIxL K) := by
  subst h
  exact ix_list
end L2
namespace L2
open PySem PySem.Spec PySem.W PyProof.Rows Builtin.Getset_descriptor
structure ExcK (K : PySem.W.Frag) (D : Addr) : Prop where
  ga : findIn K (.ref D) "__getattribute__" = some (some (.builtin "BaseException.__getattribute__"))
  gx : findIn K (.ref D) "__getattr__" = some none
  ca : findIn K (.ref D) "__class__" = some (some (.builtin "object.__class__"))
  sp : specialIn K (.builtin "object.__class__") "__get__" = some (some (.builtin "getset_descriptor.__get__"))
  tk : takesIn K (.builtin "object.__class__") = some true
  mo : mroIn K D (.type "object") = some true
  mb : mroIn K D (.type "BaseException") = some true
theorem ExcK.cl {K : PySem.W.Frag} {D : Addr} (Z : ExcK K D) : (clsIn K D).isSome = true := by
  obtain ⟨cd, a, _⟩ := Option.bind_eq_some_iff.mp Z.mo
  rw [a]
  rfl
section
variable {prog : Program} {w : World} {A : Around} {E : Value → Shared → Prop} {s : Shared} {K : PySem.W.Frag} {x D : Addr} {ox : Obj} {od0 : Option Obj} {od : Option Addr}
theorem find_exc {M : Model} {h : Heap} (Z : ExcK K D) (X : K.In h) : Looks M h (Builtin.ObjectAttr.find (.ref x) (.ref D) "__class__") (.bind (.builtin "getset_descriptor.__get__") (.builtin "object.__class__")) := by
  have L3 := looks_takesIn (M := M) X Z.tk
  refine (looks_findIn X Z.ca).andThen ((looks_specialIn X Z.sp).andThen ?_)
  exact (show Looks M h (Builtin.ObjectAttr.dataDescriptor? (some (.builtin "object.__class__")) (some (.builtin "getset_descriptor.__get__"))) (some (.builtin "getset_descriptor.__get__", .builtin "object.__class__")) from L3.andThen .now).andThen (Looks.tag .now)
theorem cls_get {R : Result → Shared → Prop} {tp : Value} (X : K.In s.heap) (L0 : Looks (model prog w) s.heap (typeOf (.ref x)) (.ref D)) (hm : mroIn K D (.type "object") = some true) (h : R (.ok (.ret (.ref D))) s) :
    codeAny (model prog w) A (.call (.builtin "getset_descriptor.__get__") ⟨[.builtin "object.__class__", .ref x, tp], []⟩) R s := by
  obtain ⟨hh, g, dr, t, os⟩ := s
  have L1 := looks_mroIn (M := model prog w) X hm
  refine codeAny_call_builtin KF.slot_gs.plain KF.entry_gs (KF.slot_gs.check _ _ _ _ _ _ _ _ KF.type_class (KF.args_gs _ _ _) ?_); unfold Builtin.«getset_descriptor.__get__» descrGet; rw [dga_obj]
  refine wpAny_bind (wpAny_pure ?_); unfold descrGetter descrCheckInstance descrNameAndClass isInstance; simp only [KF.owner_class]; repeat lk
  refine ⟨Code.quiet_builtin _ (by decide +kernel), codeAny_builtin KF.entry_class ?_⟩; unfold Builtin.«object.__class__» shownTypeOf; repeat lk
  exact h
theorem exc_class {Q : Option Value → Shared → Prop} (Z : ExcK K D) (X : K.In s.heap) (I : IsExc x D od s.heap) (h : Q (some (.ref D)) { s with toks := s.toks + 1 }) : wpAny (model prog w) A (getAttr? (.ref x) "__class__") Q E s := by
  obtain ⟨hh, g, d, t, os⟩ := s
  obtain ⟨ox, ws, hox, hoc, _⟩ := I
  have L0 : Looks (model prog w) hh (typeOf (.ref x)) (.ref D) := hoc ▸ (Looks.ld hox).andThen .now
  have L1 := looks_findIn (M := model prog w) X Z.ga
  have L2 := looks_findIn (M := model prog w) X Z.gx
  have LF := find_exc (M := model prog w) (x := x) Z X
  have LB := looks_mroIn (M := model prog w) X Z.mb
  unfold getAttr? getAttrBy? getAttrBy
  refine wpAny_bind (wpAny_mkText (wpAny_bind (wpAny_attempt (wpAny_holding (wpAny_bind (L0.at (wpAny_bind (L1.at ?_))))))))
  show wpAny _ _ (getAttrByItsOwn _ _ _ _ _ _) _ _ _
  unfold getAttrByItsOwn hookBefore
  refine wpAny_bind (L2.at (wpAny_bind (wpAny_attempt (wpAny_holding ?_))))
  show wpAny _ _ (boundAndCalled _ _ _) _ _ _
  unfold boundAndCalled
  refine wpAny_bind (wpAny_of_eq (F.excAttr_ValueError.ga.bind (.ref x)) ?_)
  show wpAny _ _ (call (.builtin "BaseException.__getattribute__") [.ref x, .str "__class__" t]) _ _ _
  refine wpAny_call (codeAny_call_builtin F.excAttr_ValueError.ga.plain F.entry_bexc_ga ?_)
  have hk : builtinKind "BaseException.__getattribute__" = some .slot := by decide +kernel
  have hsp : splitId "BaseException.__getattribute__" = some ("BaseException", "__getattribute__") := by decide +kernel
  simp only [checkBuiltinCall, hk, hsp]
  have ha := F.args_bexc_ga (.ref x) (.str "__class__" t)
  refine wpAny_bind ?_
  unfold isInstance
  iterate 4 lk
  refine wpAny_of_eq (a := ()) ?_ ?_
  · have ha' := ha
    unfold argsOk at ha'
    cases hsig : Manifest.signature? "BaseException.__getattribute__" with
    | none => rfl
    | some sig =>
      rw [hsig] at ha'
      exact ha'
  unfold Builtin.«object.__getattribute__»
  refine wpAny_bind (wpAny_pure ?_)
  refine wpAny_bind (wpAny_pure (wpAny_bind (L0.at (wpAny_bind (LF.at ?_)))))
  show wpAny _ _ (holding [Value.builtin "object.__class__"] (call (.builtin "getset_descriptor.__get__") [.builtin "object.__class__", .ref x, .ref D]) >>= ret) _ _ _
  refine wpAny_bind (wpAny_holding (wpAny_call (cls_get (s := ⟨hh, g, d, t + 1, os⟩) X L0 Z.mo (wpAny_pure ?_))))
  exact handed_on rfl (wpAny_pure h)
theorem kitx_exc (Z : ExcK K D) : KitX K (.ref x) (.ref D) (IsExc x D od) where
  ty := fun M h X p => by
    obtain ⟨ox, ws, hox, hoc, _⟩ := p
    exact hoc ▸ (Looks.ld hox).andThen .now
  it := fun M h X p => by
    obtain ⟨cd, hc⟩ := Option.isSome_iff_exists.mp Z.cl
    unfold clsIn at hc
    split at hc
    · rename_i c' d' cd' sl' ho
      intro A' Q' E' s' k q
      unfold isType loadHead; exact wpAny_bind (wpAny_loadPart (k _ _ (X _ _ ho)) (wpAny_pure q))
    · cases hc
  ne := fun h tp dd its n sl X htp => by
    obtain ⟨cd, hc⟩ := Option.isSome_iff_exists.mp Z.cl
    refine Bool.eq_false_iff.mpr fun q => ?_
    have e : D = tp := Value.ref.inj (beq_iff_eq.mp q)
    subst e
    unfold clsIn at hc
    split at hc
    · rename_i c' d' cd' sl' ho
      have z := (X _ _ ho).symm.trans htp
      cases z
    · cases hc
  ca := fun X p k => exc_class Z X p k
end
def clsV : V → Value → Prop
  | .ty n, v => v = .type n
  | .ref a, v => v = .ref a
  | _, _ => False
def rIsX (K : PySem.W.Frag) : List V → Hp → VK → Prop := fun xs H Q => ∃ e C od c cv b, xs = [.ref e, c] ∧ H e = some (excO e C od) ∧ ExcK K C ∧ clsV c cv ∧ PySem.W.kitOne K (.ref C) cv = some b ∧ Q (.bl b) H
theorem call_isinstX {X : Cx} : CallR X (.builtin "isinstance") (rIsX X.K) := by
  intro pins s σ H xs us Q I r h
  obtain ⟨e, C, od, c, cv, b, rfl, he, Z, hcv, hk, q⟩ := h
  obtain ⟨u, w', rfl, ru, rw'⟩ := vals2 r
  cases (show u = Value.ref e from ru)
  have hw : w' = cv := by
    cases c <;> first | exact hcv.elim | exact (show w' = _ from rw').trans (show cv = _ from hcv).symm
  subst hw
  obtain ⟨p, _, _⟩ := (show ObjOk X.prog X.w H s.heap e (excO e C od) from I.hok e _ he)
  exact PySem.W.kia_one (kitx_exc Z) I.kIn p hk (fun z => nomatch z) fun tk => ⟨.bl b, H, I.tok tk, rfl, q⟩
theorem call_isinstXK (K : PySem.W.Frag) {X : Cx} (h : X.K = K := by rfl) : CallR X (.builtin "isinstance") (rIsX K) := by
  subst h
  exact call_isinstX
theorem b_ValueError : bootBuiltins "ValueError" = some (.type "ValueError") := by decide +kernel
end L2
namespace L2
open PySem PySem.Spec PyProof.Rows
section
variable {X : Cx}
def clsVs : List V → List Value → Prop
  | [], [] => True
  | c :: r, v :: s => clsV c v ∧ clsVs r s
  | _, _ => False
theorem clsVs_eq : ∀ {cs : List V} {vs us : List Value}, clsVs cs vs → Vals cs us → us = vs
  | [], [], _, _, .nil => rfl
  | [], _ :: _, _, h, _ => h.elim
  | _ :: _, [], _, h, _ => h.elim
  | c :: r, v :: s, _, h, .cons (b := u) h1 h2 => by
    have e : u = v := by
      have h0 := h.1
      cases c <;> first | exact h0.elim | exact (show u = _ from h1).trans (show v = _ from h0).symm
    rw [e, clsVs_eq h.2 h2]
def rIsXT (K : PySem.W.Frag) : List V → Hp → VK → Prop := fun xs H Q => ∃ e C od t cs cvs b, xs = [.ref e, .ref t] ∧ H e = some (excO e C od) ∧ ExcK K C ∧ H t = some (.tup cs) ∧ clsVs cs cvs ∧ PySem.W.kitAny K (.ref C) cvs = some b ∧ Q (.bl b) H
theorem call_isinstXT (K : PySem.W.Frag) {X : Cx} (h : X.K = K := by rfl) : CallR X (.builtin "isinstance") (rIsXT K) := by
  subst h
  intro pins s σ H xs us Q I r h
  obtain ⟨e, C, od, t, cs, cvs, b, rfl, he, Z, ht, hcs, hk, q⟩ := h
  obtain ⟨u, w', rfl, ru, rw'⟩ := vals2 r
  cases (show u = Value.ref e from ru)
  cases (show w' = Value.ref t from rw')
  obtain ⟨p, _, _⟩ := (show ObjOk X.prog X.w H s.heap e (excO e C od) from I.hok e _ he)
  obtain ⟨_, its, rv, hT⟩ := (show ObjOk X.prog X.w H s.heap t (.tup cs) from I.hok t _ ht)
  have hi := clsVs_eq hcs rv
  subst hi
  obtain ⟨o, eo, h1, n, h2⟩ := hT
  obtain ⟨c, d, da, sl⟩ := o
  obtain rfl := h1
  obtain rfl := h2
  exact PySem.W.kia_tup (kitx_exc Z) I.kIn p eo hk (fun z => nomatch z) fun tk => ⟨.bl b, H, I.tok tk, rfl, q⟩
end
theorem inv_big {X : Cx} {pins : List (Addr × Obj)} {σ : St} {H : Hp} {s : Shared} (I : Inv X pins σ H s) : sysModules < s.heap.objs.size :=
  Nat.lt_trans (by decide) (show mainGlobals < s.heap.objs.size from (I.mod.glob.keeps I.bk).lt)
def tDNew : TE := fun _ H Q => ∀ p, H p = none → Q (.ref p) (upd H p (.dK []))
theorem dict_new {P : Program} {w : World} {H : Hp} (h : Heap) (hb : sysModules < h.objs.size) : ObjOk P w H (h.push { cls := .type "dict", data := .dict #[] }) h.objs.size (.dK []) :=
  ⟨Nat.zero_le _, beq_eq_false_iff_ne.mpr (Ne.symm (Nat.ne_of_lt hb)), [], .nil, Heap.DictOf.new h⟩
theorem pe_dnew {X : Cx} {pos : Pos} : PE X (.Dict [] [] pos) tDNew := fun pins s σ H Q I h =>
  wpAny_Dict_empty ⟨.ref s.heap.objs.size, _, I.laid (a := s.heap.objs.size) (o := .dK []) (t' := s.toks) (fun _ _ q => Heap.get?_push_of_some _ q) (Nat.le_refl _) (dict_new s.heap (inv_big I)), rfl, h _ (I.hok.fresh (Nat.le_refl _))⟩
theorem r_dnew {σ : St} {H : Hp} {Q : VK} (h : ∀ p, H p = none → Q (.ref p) (upd H p (.dK []))) : tDNew σ H Q := h
end L2
end

section
set_option Elab.async false
set_option linter.all false
set_option maxRecDepth 100000
set_option maxHeartbeats 4000000
namespace L2
open PySem PySem.Spec PySem.W PyProof.Rows
abbrev xObj (C t : Addr) (od : Option Addr) : Obj := { cls := .ref C, dict := od, data := .fields #[.ref t, .none, .none, .none, .bool false, .none] }
structure OwnX (K : PySem.W.Frag) (W C f : Addr) : Prop where
  wex : excIn K W veMro "ValueError.__new__" = true
  ob : ∃ nm qn N bs sn sub ab col dd k0 k1 k2 k3 k5, K.lookup C = some (excClassObj nm qn C N bs (.ref W :: veMro) true sn sub ab col dd k0 k1 k2 k3 k5 "ValueError.__new__")
  ini : findIn K (.ref C) "__init__" = some (some (.ref f))
  fn : typeIn K (.ref f) = some (.type "function")
  sa : findIn K (.ref C) "__setattr__" = some (some (.builtin "object.__setattr__"))
  pl : findIn K (.ref C) "place" = some none
section
variable {prog : Program} {w : World} {A : Around} {E : Value → Shared → Prop} {s : Shared} {K : PySem.W.Frag} {W C f e t : Addr} {od : Option Addr}
theorem own_tail {h : Heap} (X : K.In h) (q : excIn K W veMro "ValueError.__new__" = true) : OwnTail h veMro (.ref W :: veMro) := by
  obtain ⟨bm, N, nm, qn, bs, hdct, sn, sub, ab, col, dd, k0, k1, k2, k3, k5, mN, hC, hN, hni, hT⟩ := exc_obj X q
  exact .own hC hN hni .base
theorem binit_call {v : Value} {Q : Value → Shared → Prop} (O : OwnX K W C f) (X : K.In s.heap) (he : s.heap.get? e = some (xObj C t od))
    (q : ∀ h' t', (∀ b o, b ≠ e → s.heap.get? b = some o → h'.get? b = some o) → h'.get? e = some (xObj C t' od) → Q .none { s with heap := h' }) : wpAny (model prog w) A (call (.builtin "ValueError.__init__") [.ref e, v]) Q E s := by
  obtain ⟨hh, g, d, tk, os⟩ := s
  obtain ⟨nm, qn, N, bs, sn, sub, ab, col, dd, k0, k1, k2, k3, k5, lk⟩ := O.ob
  have hC := X _ _ lk
  have T := own_tail X O.wex
  have B := PySem.F.excBase_ValueError
  refine wpAny_call (codeAny_call_builtin B.init.plain B.initEntry (wpAny_check_init_subT B T hC he rfl ?_))
  wp_walk
  refine q _ hh.objs.size (fun b o hb z => ?_) ?_
  · exact (Heap.get?_update_other _ _ (Ne.symm hb)).trans (Heap.get?_push_of_some _ z)
  · exact Heap.get?_update_self _ (Heap.get?_push_of_some _ he) rfl
theorem own_store {v : Value} {Q : Unit → Shared → Prop} (O : OwnX K W C f) (Z : ExcK K C) (X : K.In s.heap) (he : s.heap.get? e = some (xObj C t none))
    (q : ∀ h' dx tk, (∀ b o, b ≠ e → s.heap.get? b = some o → h'.get? b = some o) → h'.get? e = some (xObj C t (some dx)) → dx ≠ e → s.heap.objs.size ≤ dx → h'.Ns1 dx (fun y => if y = "place" then some v else none) → Q () { s with heap := h', toks := tk }) :
    wpAny (model prog w) A (setAttr (.ref e) "place" v) Q E s := by
  obtain ⟨hh, g, d, tk, os⟩ := s
  have X : K.In hh := X
  have he : hh.get? e = some (xObj C t none) := he
  obtain ⟨nm, qn, N, bs, sn, sub, ab, col, dd, k0, k1, k2, k3, k5, lk⟩ := O.ob
  have SF := PySem.F.store_object
  have J : InstAt hh e (xObj C t none) C none := ⟨he, rfl, rfl, True.intro⟩
  have hc : clsIn K C = some ⟨nm, bs, .ref C :: .ref W :: veMro, N, qn, true, sn, sub, ab, col, false⟩ := by
    unfold clsIn
    rw [lk]
  have isO : Looks (model prog w) hh (isInstance (.ref e) (.type "object")) true := J.type.andThen (looks_mroIn X Z.mo)
  have hm : Looks (model prog w) hh (mroOf (.ref C)) (.ref C :: .ref W :: veMro) := (looks_clsIn X hc).andThen .now
  refine set_plain X J O.sa ?_
  refine codeAny_call_builtin SF.slot.plain SF.entry (@check_slot (model prog w) _ _ ⟨hh, g, d, tk + 1, os⟩ "object.__setattr__" "object" "__setattr__" (.ref e) [.str "place" tk, v] [] _ SF.kind SF.split isO (SF.args (.ref e) (.str "place" tk) v) ?_)
  rw [osa_eq, refuse_eq]
  refine wpAny_bind (wpAny_bind (J.type.here (wpAny_bind (hm.here ?_))))
  rw [refuseLoop_ref, refuseLoop_ref, show refuseLoop (.ref e) "__setattr__" veMro = pure () from PySem.F.store_ValueError.passes _]
  refine wpAny_pure (wpAny_bind (J.type.here (wpAny_bind ((looks_findIn X O.pl).here (wpAny_bind ?_)))))
  refine wpAny_pure ?_
  show wpAny _ _ (Builtin.ObjectAttr.storeInOwnDict (.ref e) (.ref C) (.str "place" tk) "place" v false) _ _ _
  have hcl := X _ _ lk
  have he1 : (hh.push emptyDict).get? e = some (xObj C t none) := Heap.get?_push_of_some _ he
  have hes : e ≠ hh.objs.size := Nat.ne_of_lt (Heap.lt_size he)
  refine wpAny_bind (wpAny_pure (wpAny_bind ?_))
  refine wpAny_bind (wpAny_loadPart he (wpAny_bind ((looks_clsIn X hc).here ?_)))
  show wpAny _ _ (do
    let d ← alloc { cls := Value.type "dict", data := Data.dict #[] }
    update e fun o => { cls := o.cls, dict := some d, data := o.data, slots := o.slots }
    dictMade (.ref C) e d) _ _ _
  refine wpAny_bind (wpAny_alloc' (wpAny_bind (wpAny_update' he1 (wpAny_pure ?_))))
  show wpAny _ _ (Builtin.ObjectAttr.storeInDict hh.objs.size (.str "place" tk) "place" v) _ _ _
  have hd2 : ((hh.push emptyDict).update e fun o => { cls := o.cls, dict := some hh.objs.size, data := o.data, slots := o.slots }).get? hh.objs.size = some emptyDict :=
    (Heap.get?_update_other _ _ hes).trans (Heap.get?_push_size hh rfl)
  have hn2 : ((hh.push emptyDict).update e fun o => { cls := o.cls, dict := some hh.objs.size, data := o.data, slots := o.slots }).Ns hh.objs.size (fun _ => none) := ⟨_, #[], _, hd2, rfl, (fun en hen => absurd hen (by simp)), fun _ => rfl⟩
  have he2 : ((hh.push emptyDict).update e fun o => { cls := o.cls, dict := some hh.objs.size, data := o.data, slots := o.slots }).get? e = some (xObj C t (some hh.objs.size)) := Heap.get?_update_self _ he1 rfl
  have hk2 : ∀ b o, b ≠ e → hh.get? b = some o → ((hh.push emptyDict).update e fun o => { cls := o.cls, dict := some hh.objs.size, data := o.data, slots := o.slots }).get? b = some o := fun b o hb z => (Heap.get?_update_other _ _ (Ne.symm hb)).trans (Heap.get?_push_of_some _ z)
  unfold Builtin.ObjectAttr.storeInDict Builtin.ObjectAttr.newKeyGuard
  refine wpAny_bind (wpAny_pure (wpAny_bind (wpAny_nsSet1 (Heap.Ns1.of_empty hn2) fun h' hn' hs => ?_)))
  obtain ⟨ob1, es1, ep1, at1, da1, ct1⟩ := hn'.count (Within.cons "place" v Within.nil)
  refine wpAny_bind (wpAny_lookBehind at1 (da1 ▸ pastItsLine_dict (Nat.le_trans ct1 (by decide))) ?_)
  refine wpAny_pure ?_
  refine q h' hh.objs.size _ (fun b o hb z => (hs.2 b (Nat.ne_of_lt (Heap.lt_size z))).trans (hk2 b o hb z)) ((hs.2 e hes).trans he2) (Ne.symm hes) (Nat.le_refl _) ?_
  obtain ⟨o', es, ep, e1, e2, e3, eu, e4⟩ := hn'
  exact ⟨o', es, ep, e1, e2, e3, eu, fun y => by rw [e4 y]⟩
theorem own_place {v : Value} {o : Obj} {vs : Array Value} {dx : Addr} {mA : Str → Option Value} {Q : Value → Shared → Prop} (O : OwnX K W C f) (Z : ExcK K C) (X : K.In s.heap) (he : s.heap.get? e = some o) (hoc : o.cls = .ref C) (hod : o.data = .fields vs) (hdx : o.dict = some dx)
    (hn : s.heap.Ns1 dx mA) (hm : mA "place" = some v) (hh' : handedIn v = true) (q : ∀ tk, Q v { s with toks := tk }) : wpAny (model prog w) A (getAttr (.ref e) "place" true) Q E s := by
  obtain ⟨hh, g, d, tk, os⟩ := s
  have X : K.In hh := X
  obtain ⟨oc, odi, oda, osl⟩ := o
  dsimp only at hoc hod hdx
  subst hoc hod hdx
  obtain ⟨nm, qn, N, bs, sn, sub, ab, col, dd, k0, k1, k2, k3, k5, lk⟩ := O.ob
  have hc : clsIn K C = some ⟨nm, bs, .ref C :: .ref W :: veMro, N, qn, true, sn, sub, ab, col, false⟩ := by
    unfold clsIn
    rw [lk]
  have L0 : Looks (model prog w) hh (typeOf (.ref e)) (.ref C) := (Looks.ld he).andThen .now
  have L1 := looks_findIn (M := model prog w) X Z.ga
  have L2 := looks_findIn (M := model prog w) X Z.gx
  have LB := looks_mroIn (M := model prog w) X Z.mb
  have LP := looks_findIn (M := model prog w) X O.pl
  unfold getAttr getAttrBy
  refine wpAny_bind (wpAny_mkText (wpAny_holding (wpAny_bind (L0.at (wpAny_bind (L1.at ?_))))))
  show wpAny _ _ (getAttrByItsOwn _ _ _ _ _ _) _ _ _
  unfold getAttrByItsOwn hookBefore
  refine wpAny_bind (L2.at (wpAny_bind (wpAny_attempt (wpAny_holding ?_))))
  show wpAny _ _ (boundAndCalled _ _ _) _ _ _
  unfold boundAndCalled
  refine wpAny_bind (wpAny_of_eq (PySem.F.excAttr_ValueError.ga.bind (.ref e)) ?_)
  show wpAny _ _ (call (.builtin "BaseException.__getattribute__") [.ref e, .str "place" tk]) _ _ _
  refine wpAny_call (codeAny_call_builtin PySem.F.excAttr_ValueError.ga.plain PySem.F.entry_bexc_ga ?_)
  have kd : builtinKind "BaseException.__getattribute__" = some .slot := by decide +kernel
  have sp : splitId "BaseException.__getattribute__" = some ("BaseException", "__getattribute__") := by decide +kernel
  simp only [checkBuiltinCall, kd, sp]
  have ha := PySem.F.args_bexc_ga (.ref e) (.str "place" tk)
  refine wpAny_bind ?_
  unfold isInstance
  iterate 4 lk
  refine wpAny_of_eq (a := ()) ?_ ?_
  · unfold argsOk at ha
    cases hsig : Manifest.signature? "BaseException.__getattribute__" with
    | none => rfl
    | some sig =>
      rw [hsig] at ha
      exact ha
  unfold Builtin.«object.__getattribute__»
  refine wpAny_bind (wpAny_pure ?_)
  refine wpAny_bind (wpAny_pure (wpAny_bind (L0.at (wpAny_bind ?_))))
  refine wpAny_bind (LP.at ?_)
  refine wpAny_bind (wpAny_pure (wpAny_bind (wpAny_pure ?_)))
  show wpAny _ _ (Builtin.ObjectAttr.ownThenClass (.ref e) "place" none none) _ _ _
  unfold Builtin.ObjectAttr.ownThenClass Builtin.ObjectAttr.inOwnDict Builtin.ObjectAttr.ownDict
  refine wpAny_bind (wpAny_bind ?_)
  refine wpAny_bind ((Looks.ld he).at ?_)
  show wpAny _ _ (instanceDict e false) _ _ _
  refine wpAny_bind (wpAny_loadPart he (wpAny_bind ((looks_clsIn X hc).here (wpAny_pure ?_))))
  show wpAny _ _ (nsGet dx "place") _ _ _
  refine wpAny_nsGet hn.ns ?_
  rw [hm]
  refine wpAny_bind (wpAny_rule (wpAny_pure ?_))
  exact wpAny_pure (handed_on hh' (q _))
theorem own_call {rest : List Value} {Q : Value → Shared → Prop} (O : OwnX K W C f) (X : K.In s.heap) (hr : rest.length ≤ sizeLine)
    (q : ∀ h' e, Heap.MadeExcOf s.heap h' e (.ref C) rest → s.heap.objs.size ≤ e → wpAny (model prog w) (A.under (.builtin "type.__call__" ⟨.ref C :: rest, []⟩)) (call (.ref f) (.ref e :: rest)) (fun r s' => r = .none ∧ Q (.ref e) s') E { s with heap := h' }) :
    wpAny (model prog w) A (call (.ref C) rest) Q E s := by
  obtain ⟨hh, g, d, tk, os⟩ := s
  have X : K.In hh := X
  obtain ⟨nm, qn, N, bs, sn, sub, ab, col, dd, k0, k1, k2, k3, k5, lk⟩ := O.ob
  have hC : hh.get? C = _ := X _ _ lk
  have T := own_tail X O.wex
  have B := PySem.F.excBase_ValueError
  have f1 := tc_lookup
  have f2 := tc_bind (.ref C)
  have tC : (⟨hh, g, d, tk, os⟩ : Shared).TypeIs (.ref C) "type" := ⟨_, hC, rfl⟩
  refine wpAny_call (codeAny_of_tree ?_)
  show wpAny _ _ (callAny (.ref C) _) _ _ _
  repeat (any_goals (first | assumption | with_reducible refine wpAny_loadPart_at hC ?_ | wp_step))
  refine ⟨rfl, codeAny_call_builtin_at (Code.quiet_builtin _ (by decide +kernel)) entry_typeCall (wpAny_check_type_call_sub hC ?_)⟩
  repeat (first | with_reducible refine wpAny_loadPart_at hC ?_ | with_reducible refine wpAny_madeBy_exc hC ?_ | wp_step)
  refine codeAny_call_builtin_code (Code.quiet_builtin _ B.quiet) (wpAny_check_new_subT B T hC (codeAny_exc_new_subT B T hC ?_ hr))
  show wpAny _ _ _ _ _ _
  have hget : ((hh.push { cls := .type "tuple", data := .seq rest.toArray }).push (xObj C hh.objs.size none)).get? (hh.objs.size + 1) = some (xObj C hh.objs.size none) := by heap_get
  have kp : ∀ b o, hh.get? b = some o → ((hh.push { cls := .type "tuple", data := .seq rest.toArray }).push (xObj C hh.objs.size none)).get? b = some o := fun b o z => Heap.get?_push_of_some _ (Heap.get?_push_of_some _ z)
  have hC₁ := kp _ _ hC
  have hcC : (Value.ref C :: .ref W :: veMro).contains (.ref C) = true := by simp
  have X1 : K.In ((hh.push { cls := .type "tuple", data := .seq rest.toArray }).push (xObj C hh.objs.size none)) := fun b o z => kp b o (X b o z)
  have mx : Heap.MadeExcOf hh ((hh.push { cls := .type "tuple", data := .seq rest.toArray }).push (xObj C hh.objs.size none)) (hh.objs.size + 1) (.ref C) rest := by
    refine ⟨kp, Heap.get?_none_of_le (Nat.le_succ _), hh.objs.size, hget, Heap.get?_none_of_le (Nat.le_refl _), ?_⟩
    exact Heap.get?_push_of_some _ (Heap.get?_push_size hh rfl)
  have J : InstAt ((hh.push { cls := .type "tuple", data := .seq rest.toArray }).push (xObj C hh.objs.size none)) (hh.objs.size + 1) (xObj C hh.objs.size none) C none := ⟨hget, rfl, rfl, True.intro⟩
  unfold isInstance
  repeat (first | with_reducible refine wpAny_loadPart_at hget ?_ | (with_reducible refine wpAny_isSubtype_exc hC₁ ?_; rw [hcC]) | wp_step)
  refine wpAny_isSubtype_exc hC₁ ?_
  rw [hcC]
  rw [if_neg (by decide)]
  refine wpAny_bind (wpAny_holding (special_fn X1 J O.ini O.fn ?_))
  refine wpAny_mono (q _ _ mx (Nat.le_succ _)) (fun v s' z => ?_) fun _ _ z => z
  obtain ⟨rfl, z⟩ := z
  exact wpAny_pure z
end
end L2
end

section
set_option Elab.async false
set_option linter.all false
set_option maxRecDepth 100000
set_option maxHeartbeats 4000000
namespace L2
open PySem PySem.Spec PySem.W PyProof.Rows
def IsRaw (e C : Addr) (od : Option Addr) (h : Heap) : Prop := ∃ t, h.get? e = some (xObj C t od)
def rawX (e C : Addr) (od : Option Addr) : HO := .ext (IsRaw e C od)
theorem raw_ok {P : Program} {w : World} {H : Hp} {h : Heap} {e C : Addr} {od : Option Addr} (x : IsRaw e C od h) : ObjOk P w H h e (rawX e C od) :=
  ⟨x, let ⟨_, z⟩ := x; ⟨_, z⟩, fun _ _ ⟨t, z⟩ k => ⟨t, k _ z⟩⟩
structure BaseX (K : PySem.W.Frag) (mg : Str → Option Value) (x : Str) (W : Addr) : Prop where
  at_ : mg x = some (.ref W)
  ga : specialIn K (.ref W) "__getattribute__" = some (some (.builtin "type.__getattribute__"))
  rd : readsIn K W (.type "type") = true
  ini : findCls K (.ref W) (.type "type") "__init__" = some (.val (.builtin "ValueError.__init__"))
theorem upd_id {H : Hp} {e : Addr} {o : HO} (h : H e = some o) : upd H e o = H := by
  funext b
  by_cases hb : b = e
  · subst hb; rw [upd_same, h]
  · rw [upd_ne hb]
section
variable {X : Cx} {x : Str} {W C f : Addr} {np apos pos p1 p2 pos' : Pos} {a o e value : Expr} {as : List Expr} {t : TA} {te ta tv : TE} {pl : Sem Bool}
def tBinit (K : PySem.W.Frag) (W : Addr) (t : TA) : TE := fun σ H Q => t σ H fun vs H1 => ∃ e C f od z, vs = [.ref e, .str z] ∧ H1 e = some (rawX e C od) ∧ OwnX K W C f ∧ Q .non H1
theorem pe_binit (B : BaseX X.K X.mg x W) (hg : Gl X x) (ha : PA X (a :: as) t) (hdb : (x == ("__debug__" : Str)) = false := by decide)
    (he : backTo pos (starEach (a :: as) X.env) = (false, eval a X.env) :: backTo pos (starEach as X.env) := by rfl) (hpl : (backTo pos (starEach (a :: as) X.env)).any (·.1) = false := by rfl)
    (ht : eval (.Call (.Attribute (.Name x np) "__init__" apos) (a :: as) [] pos) X.env = (do
      let ov ← eval (.Name x np) X.env
      standAt apos.atName
      let (f, first) ← holding [ov] (getMethod ov "__init__" pl)
      callWith pos f first (backTo pos (starEach (a :: as) X.env)) (backToKw pos (keywordEach [] X.env))) := by rfl) :
    PE X (.Call (.Attribute (.Name x np) "__init__" apos) (a :: as) [] pos) (tBinit X.K W t) := by
  intro pins s σ H Q I h
  refine methodCall_KW (ld_glob I hg B.at_ ?_ hdb) ht
  refine method_cls I.kIn B.ga (cls_value I.kIn B.rd B.ini rfl ?_)
  refine Calls.callWith_builtin hpl ?_
  have hs := ha pos pins _ σ H _ (I.tok (s.toks + 1)) h
  rw [he] at hs ⊢
  refine Calls.evalArgs_plain (thn hs fun us s1 ⟨vs, H1, I1, r, e, C, f, od, z, ev, hx, O, q⟩ => ?_)
  subst ev
  obtain ⟨u, u2, rfl, ru, ru2⟩ := vals2 r
  obtain rfl : u = Value.ref e := ru
  obtain ⟨⟨t0, h0⟩, _, _⟩ := (show ObjOk X.prog X.w H1 s1.heap e (rawX e C od) from I1.hok e _ hx)
  refine binit_call O I1.kIn h0 fun h' t' hk he' => ⟨.non, H1, ?_, rfl, q⟩
  have z := I1.write (x := e) (e := e) (o := rawX e C od) (h' := h') (t' := s1.toks) (by rw [hx]; exact True.intro) (.inl rfl) hk ⟨_, he'⟩ (raw_ok ⟨t', he'⟩)
  rw [upd_id hx] at z
  exact z
def tFstr (te : TE) : TE := fun σ H Q => te σ H fun v H1 => ∃ i : Int, v = .int i ∧ i.natAbs < 10 ^ 12 ∧ ∀ z, Q (.str z) H1
theorem log_small {n : Nat} (h : n < 10 ^ 12) : n.log2 < 1920 := by
  have : n.log2 < 40 := by
    by_cases h0 : n = 0
    · subst h0; decide
    · exact (Nat.log2_lt h0).mpr (Nat.lt_of_lt_of_le h (by decide))
  omega
theorem pe_fstr {c : Str} {j : Nat} (hc : c.length ≤ 1000) (he : PE X e te) : PE X (.JoinedStr [.Constant (.str c) j p1, .FormattedValue e (-1) none p2] pos) (tFstr te) := by
  intro pins s σ H Q I h
  have sl : 2000 ≤ sizeLine := by decide
  refine JoinedStr_many (joinParts_cons (Calls.Constant_str ⟨?_, joinParts_cons (FormattedValue_plain (thn (he pins _ σ H _ (I.tok _) h) fun u s1 ⟨v, H1, I1, r, i, ev, hi, q⟩ => ?_))⟩))
  · rw [strLen_append]
    show 0 + c.length ≤ _
    omega
  · subst ev
    obtain ⟨tk, rfl⟩ := r
    have hl := int_text_length_le10 (k := 12) (by decide) hi
    have hz : (Str.empty ++ c ++ (Str.ofString (toString i))).length ≤ sizeLine := by
      rw [strLen_append, strLen_append]
      show 0 + c.length + _ ≤ _
      have : (Str.ofString (toString i)).length ≤ 13 := by rw [PySem.ofString_length]; exact hl
      omega
    refine formatField_int_small (log_small hi) ⟨hz, joinParts_nil ⟨.str _, H1, I1.tok _, ⟨_, rfl⟩, q _⟩ hz⟩
def sPlace (K : PySem.W.Frag) (ta tv : TE) : TS := fun D σ H => tv σ H fun y H1 => ta σ H1 fun x H2 => ∃ e W C f, x = .ref e ∧ H2 e = some (rawX e C none) ∧ OwnX K W C f ∧ ExcK K C ∧
  ∀ dx, H2 dx = none → D.nx σ (upd (upd H2 dx (.xd [("place", y)])) e (rawX e C (some dx)))
theorem ps_place (ha : PE X o ta) (hv : PE X value tv) (hs : swapsWith value (some (.Attribute o "place" pos')) pos.line X.env = pure false := by rfl) : PS X (.Assign [.Attribute o "place" pos'] value pos) (sPlace X.K ta tv) := by
  intro pins s σ H D I h
  refine plainObj_wpAny_Assign_Attribute (thn (hv pins s σ H _ I h) fun u s1 ⟨y, H1, I1, ry, q⟩ => thn (ha pins s1 σ H1 _ I1 q) fun ov s2 ⟨x, H2, I2, rx, e, W, C, f, ex, hx, O, Z, q2⟩ => ?_) hs
  subst ex
  obtain rfl : ov = Value.ref e := rx
  obtain ⟨⟨t0, h0⟩, _, _⟩ := (show ObjOk X.prog X.w H2 s2.heap e (rawX e C none) from I2.hok e _ hx)
  refine own_store O Z I2.kIn h0 fun h' dx tk hk he' hne hsz hn => ⟨σ, _, ?_, q2 dx (I2.hok.fresh hsz)⟩
  have fr := I2.hok.fresh hsz
  have nb : ∀ b ob, s2.heap.get? b = some ob → b ≠ dx := fun b ob z => Nat.ne_of_lt (Nat.lt_of_lt_of_le (Heap.lt_size z) hsz)
  have nt : ∀ {b : Addr} {u : HO}, H2 b = some u → b ≠ dx := fun z => ne_of_none z fr
  have ne : ∀ {b : Addr}, H2 b = none → b ≠ e := fun z y => by rw [y, hx] at z; cases z
  have mv : ∀ {b : Addr}, b ≠ e → b ≠ dx → upd (upd H2 dx (.xd [("place", y)])) e (rawX e C (some dx)) b = H2 b := fun z z2 => by rw [upd_ne z, upd_ne z2]
  have xt : ∀ {b : Addr} {u : HO}, H2 b = some u → u ≠ rawX e C none → b ≠ e := fun z n y => by rw [y, hx] at z; cases z; exact n rfl
  refine I2.un (t' := tk) ⟨fun b ob z n _ _ => hk b ob (ne n) z, fun b ob z n _ _ => ⟨ob.slots, hk b ob (ne n) z⟩, fun b ob z n _ => by rw [mv (ne n) (nb b ob z)]; exact n, fun b ob z _ => ?_, fun b xs z => ?_, fun b ob u z => ?_, fun b ps z => ?_⟩ fun b ob z => ?_
  · by_cases hb : b = e
    · subst hb; exact ⟨_, he'⟩
    · exact ⟨ob, hk b ob hb z⟩
  · rw [mv (xt z (by intro y; cases y)) (nt z)]; exact z
  · rw [mv (xt z (by intro y; cases y)) (nt z)]; exact z
  · exact ⟨#[], by rw [mv (xt z (by intro y; cases y)) (nt z)]; simpa using z⟩
  · by_cases hb : b = e
    · subst hb
      rw [upd_same] at z
      cases z
      exact raw_ok ⟨t0, he'⟩
    · rw [upd_ne hb] at z
      by_cases hb2 : b = dx
      · subst hb2
        rw [upd_same] at z
        cases z
        refine ⟨_, hn, fun f => ?_⟩
        by_cases hf : f = "place"
        · subst hf
          simpa [RelO] using ry
        · have : List.lookup f [(("place" : Str), y)] = none := by
            rw [List.lookup, show (f == ("place" : Str)) = false from beq_eq_false_iff_ne.mpr hf]
            rfl
          rw [this]
          simp [RelO, hf]
      · rw [upd_ne hb2] at z
        refine (I2.hok b ob z).stay (fun c w' hc y => hk c w' ?_ y) (fun c y => ?_) fun c xs y => ?_
        · rcases hc with rfl | hc
          · exact hb
          · exact xt hc (by intro y; cases y)
        · rw [mv (xt y (by intro y; cases y)) (nt y)]; exact y
        · rw [mv (xt y (by intro y; cases y)) (nt y)]; exact y
def tPlace (K : PySem.W.Frag) (te : TE) : TE := fun σ H Q => te σ H fun x H1 => ∃ e W C f dx fs i, x = .ref e ∧ H1 e = some (excO e C (some dx)) ∧ OwnX K W C f ∧ ExcK K C ∧ H1 dx = some (.xd fs) ∧ fs.lookup ("place" : Str) = some (V.int i) ∧ Q (.int i) H1
theorem pe_place (he : PE X e te) (hb : attributeBase e "place" X.env (eval e X.env) = eval e X.env := by rfl) : PE X (.Attribute e "place" pos) (tPlace X.K te) := by
  intro pins s σ H Q I h
  refine attr_of hb (thn (he pins s σ H _ I h) fun u s1 ⟨y, H1, I1, ry, x, W, C, f, dx, fs, i, ey, hx, O, Z, hd, hl, q⟩ => ?_)
  subst ey
  obtain rfl : u = Value.ref x := ry
  obtain ⟨⟨ox, ws, hox, hoc, hod, hdd⟩, _, _⟩ := (show ObjOk X.prog X.w H1 s1.heap x (excO x C (some dx)) from I1.hok x _ hx)
  obtain ⟨mA, hn, hr⟩ := (show ObjOk X.prog X.w H1 s1.heap dx (.xd fs) from I1.hok dx _ hd)
  have rr := hr "place"
  rw [hl] at rr
  cases em : mA "place" with
  | none => rw [em] at rr; exact rr.elim
  | some v =>
    rw [em] at rr
    obtain ⟨tk, rfl⟩ := (show ∃ tk, v = Value.int i tk from rr)
    exact own_place O Z I1.kIn hox hoc hod hdd hn em rfl fun tk' => ⟨.int i, H1, I1.tok _, ⟨_, rfl⟩, q⟩
end
section
variable {M : Model} {prog : Program} {w : World} {A : Around} {E : Value → Shared → Prop} {s : Shared} {env : Env} {K : PySem.W.Frag} {W C f : Addr}
theorem raise_own {x : Sem Value} {Q : Flow → Shared → Prop} (O : OwnX K W C f) (hh : A.handled = none) (q : wpAny M A x (fun v s₁ => ∃ e t od, v = .ref e ∧ K.In s₁.heap ∧ s₁.heap.get? e = some (xObj C t od) ∧ E (.ref e) s₁) E s) :
    wpAny M A (raiseStmt env (some x) none) Q E s := by
  have cB : (Value.ref C :: .ref W :: veMro).contains (.type "BaseException") = true := by simp [veMro]
  unfold raiseStmt
  refine wpAny_bind (thn q fun v s₁ ⟨e, t, od, ev, X, hx, hE⟩ => ?_)
  subst ev
  obtain ⟨nm, qn, N, bs, sn, sub, ab, col, dd, k0, k1, k2, k3, k5, lk⟩ := O.ob
  have hC := X _ _ lk
  obtain ⟨hp, g, d, tk, os⟩ := s₁
  repeat (first | with_reducible refine wpAny_loadPart_at hx ?_ | with_reducible refine wpAny_loadPart_at hC ?_ | (with_reducible refine wpAny_isSubtype_exc hC ?_; rw [cB]) | wp_step)
  exact wpAny_raiseNew_none hh hE
theorem Raise_own {x : Str} {np cpos pos : Pos} {args : List Expr} {Q : Flow → Shared → Prop} (O : OwnX K W C f) (hh : A.handled = none) (hplain : (backTo cpos (starEach args env)).any (·.1) = false)
    (q : wpAny (model prog w) A (eval (.Name x np) env) (fun v s₁ => v = .ref C ∧ wpAny (model prog w) A (evalArgs (.ref C) true (backTo cpos (starEach args env)) []) (fun a s₂ => a.kw = [] ∧ a.pos.length ≤ sizeLine ∧ K.In s₂.heap ∧
      ∀ h' e, Heap.MadeExcOf s₂.heap h' e (.ref C) a.pos → s₂.heap.objs.size ≤ e → wpAny (model prog w) (A.under (.builtin "type.__call__" ⟨.ref C :: a.pos, []⟩)) (call (.ref f) (.ref e :: a.pos)) (fun r s₃ => r = .none ∧ ∃ t od, K.In s₃.heap ∧ s₃.heap.get? e = some (xObj C t od) ∧ E (.ref e) s₃) E { s₂ with heap := h' }) E s₁) E s) :
    wpAny (model prog w) A (exec (.Raise (some (.Call (.Name x np) args [] cpos)) none pos) env) Q E s := by
  rw [arm_exec_Raise]
  simp only [evalOpt, Option.map]
  refine wpAny_bind (wpAny_standAt (raise_own O hh (wpAny_bind (thn (wpAny_Call_ofName (thn q fun v s₁ q1 => ?_)) fun v s₃ q3 => wpAny_bind (wpAny_standAt (wpAny_pure q3))))))
  obtain ⟨rfl, q1⟩ := q1
  unfold callWith
  refine wpAny_bind (wpAny_holding (thn q1 fun a s₂ q2 => wpAny_bind (wpAny_standAt ?_)))
  obtain ⟨ap, ak⟩ := a
  obtain ⟨hk, hl, X, q2⟩ := q2
  obtain rfl : ak = [] := hk
  obtain ⟨nm, qn, N, bs, sn, sub, ab, col, dd, k0, k1, k2, k3, k5, lk⟩ := O.ob
  obtain ⟨hp, g, d, tk, os⟩ := s₂
  simp only [hplain]
  refine wpAny_bind (wpAny_keeperOf_exc (X _ _ lk) ?_)
  refine wpAny_bind (own_call O X hl fun h' e mx he => thn (q2 h' e mx he) fun r s₃ q3 => ⟨q3.1, wpAny_bind (wpAny_holding (wpAny_point (wpAny_pure ?_)))⟩)
  obtain ⟨_, t, od, X3, h3, q3⟩ := q3
  exact ⟨e, t, od, rfl, X3, h3, q3⟩
end
def spInit (C : Addr) : Sp := fun vs H Q _ => ∃ (e : Addr) (i : Int), vs = [.ref e, .int i] ∧ H e = some (rawX e C none) ∧ i.natAbs < 10 ^ 12 ∧ ∀ dx, H dx = none → Q .non (upd (upd H dx (.xd [("place", .int i)])) e (rawX e C (some dx)))
structure ExcI (P : Program) (w : World) (K : PySem.W.Frag) (mg : Str → Option Value) (base : Heap) (name : Str) (W C : Addr) (k : Nat) (ps : List Str) : Prop where
  ex : ∃ (f : Addr) (fd : FuncData), FnOk P w K mg base CX0 k f fd ps (spInit C) ∧ Binds K fd ps [] ∧ OwnX K W C f
  at_ : mg name = some (.ref C)
  ek : ExcK K C
def tRaiseI (C : Addr) (E : XK) (t : TA) : TS := fun _ σ H => t σ H fun vs H1 => ∃ i : Int, vs = [.int i] ∧ i.natAbs < 10 ^ 12 ∧ ∀ dx, H1 dx = none → E (.ref C) (some dx) (upd H1 dx (.xd [("place", .int i)]))
section
variable {P : Program} {w : World} {K : PySem.W.Frag} {mg : Str → Option Value} {base : Heap} {N : List Str} {qual : Str} {scope : Scope} {f : Addr} {cd : Value} {A : Around} {outer : List Env} {s₀ : Shared} {H₀ : Hp} {E : XK}
theorem raise_from {pins : List (Addr × Obj)} {σ : St} {H H' : Hp} {s s3 : Shared} {e C t : Addr} {od : Option Addr} (I : Inv (cxOf (CXE P w) P w K mg base N qual scope f cd A outer s₀ H₀ E) pins σ H s) (hn : s.heap.get? e = none) (ho : s3.os = s.os) (hg : AllBare s3.gens)
    (un : Un (frs (cxOf (CXE P w) P w K mg base N qual scope f cd A outer s₀ H₀ E).stack) [] H H' s.heap s3.heap) (hok : HOk P w H' s3.heap) (hu : H' e = none) (he : s3.heap.get? e = some (xObj C t od)) (q : E (.ref C) od H') :
    (cxOf (CXE P w) P w K mg base N qual scope f cd A outer s₀ H₀ E).xe (.ref e) s3 := by
  show wpAny (model P w) (A.deeper (envOfC qual scope s₀.heap.objs.size f cd)) (leaving (envOfC qual scope s₀.heap.objs.size f cd) (.ref e)) _ _ _
  have I3 := I.call' ho un hok hg (by simp)
  have hfr : ∀ b ∈ frs (cxOf (CXE P w) P w K mg base N qual scope f cd A outer s₀ H₀ E).stack, H' b = none := I3.stkFree
  have hin : ∀ env ∈ (cxOf (CXE P w) P w K mg base N qual scope f cd A outer s₀ H₀ E).stack, ∀ b, env.frame = some b → b ∈ e :: frs (cxOf (CXE P w) P w K mg base N qual scope f cd A outer s₀ H₀ E).stack := fun env he b hb => List.mem_cons_of_mem _ (List.mem_filterMap.mpr ⟨env, he, hb⟩)
  have hen : (PySem.W.hideAll s3.heap (e :: frs (cxOf (CXE P w) P w K mg base N qual scope f cd A outer s₀ H₀ E).stack)).get? e = none := PySem.W.hideAll_none _ List.mem_cons_self
  have hBh : (PySem.W.hideAll s3.heap (e :: frs (cxOf (CXE P w) P w K mg base N qual scope f cd A outer s₀ H₀ E).stack)).StaysIn s3.heap := fun b o z => PySem.W.of_hideAll _ z
  refine wpAny_mono (kd_any (kd_leaving _ _) (wpAny_leaving_firstW (L := s₀.heap.objs.size) (outer := outer) (base := PySem.W.hideAll s3.heap (e :: frs (cxOf (CXE P w) P w K mg base N qual scope f cd A outer s₀ H₀ E).stack)) (a0 := .ref t)
    (Q := fun _ s' => ∃ h2, s' = { s3 with heap := h2 } ∧ Heap.LeftW (PySem.W.hideAll s3.heap (e :: frs (cxOf (CXE P w) P w K mg base N qual scope f cd A outer s₀ H₀ E).stack)) (envOfC qual scope s₀.heap.objs.size f cd :: outer) e (.ref C) (.ref t) s3.heap h2)
    I.ok.frames (PySem.W.funFrames_hide I3.stack hin) rfl he hBh hen rfl rfl rfl fun h2 L => ⟨h2, rfl, L⟩)) (fun _ s' z => ?_) fun _ _ z => z
  obtain ⟨⟨h2, rfl, k1, ⟨_, _, k2⟩, k3, k4⟩, kd⟩ := z
  obtain ⟨hp, g, d, tt, os⟩ := s3
  have ho : os = s.os := ho
  subst ho
  refine fly_out (s := s) (g := g) (d := d) (t := tt) (h1 := hp) I un hok hfr hg hn hu (fun b o z y => ?_) hBh (⟨⟨k1, hen, k2, k3⟩, dict_on kd ⟨_, he, rfl⟩⟩ : FlyD _ outer e (.ref C) (.ref t) od h2) k4 q
  by_cases hb : b ∈ e :: frs (cxOf (CXE P w) P w K mg base N qual scope f cd A outer s₀ H₀ E).stack
  · rcases List.mem_cons.mp hb with z | z
    · exact .inl z
    · exact .inr (.inl z)
  · rw [PySem.W.hideAll_get _ z hb] at y
    cases y
theorem ps_raiseI {x : Str} {W C : Addr} {k : Nat} {ps : List Str} {np cpos pos : Pos} {a : Expr} {as : List Expr} {t : TA} (Y : ExcI P w K mg base x W C k ps) (hr : Room (k + 1) (cxOf (CXE P w) P w K mg base N qual scope f cd A outer s₀ H₀ E).A) (hg : Gl (cxOf (CXE P w) P w K mg base N qual scope f cd A outer s₀ H₀ E) x)
    (ha : PA (cxOf (CXE P w) P w K mg base N qual scope f cd A outer s₀ H₀ E) (a :: as) t) (hdb : (x == ("__debug__" : Str)) = false := by decide)
    (he : starEach (a :: as) (cxOf (CXE P w) P w K mg base N qual scope f cd A outer s₀ H₀ E).env = (false, eval a (cxOf (CXE P w) P w K mg base N qual scope f cd A outer s₀ H₀ E).env) :: starEach as (cxOf (CXE P w) P w K mg base N qual scope f cd A outer s₀ H₀ E).env := by rfl)
    (hpl : (backTo cpos (starEach as (cxOf (CXE P w) P w K mg base N qual scope f cd A outer s₀ H₀ E).env)).any (·.1) = false := by rfl) :
    PS (cxOf (CXE P w) P w K mg base N qual scope f cd A outer s₀ H₀ E) (.Raise (some (.Call (.Name x np) (a :: as) [] cpos)) none pos) (tRaiseI C E t) := by
  intro pins s σ H D I h
  obtain ⟨fi, fd, F, B, O⟩ := Y.ex
  refine Raise_own O (I.ok.hd rfl) ?_ ?_
  · rw [he]
    show ((false || (backTo cpos (starEach as _)).any (·.1))) = false
    rw [hpl]
    rfl
  refine ld_glob I hg Y.at_ ⟨rfl, ?_⟩ hdb
  have hs := ha cpos pins s σ H _ I h
  rw [he] at hs ⊢
  refine Calls.evalArgs_plain (thn hs fun us s2 ⟨vs, H1, I1, r, i, ev, hi, q⟩ => ⟨rfl, ?_, I1.kIn, fun h1 e mx hsz => ?_⟩)
  · have := r.length
    subst ev
    show us.length ≤ sizeLine
    rw [← this]
    show 1 ≤ sizeLine
    decide
  subst ev
  have new : H1 e = none := I1.hok.fresh hsz
  obtain ⟨t, het, _⟩ := mx.there
  have I2 := I1.laid (a := e) (o := rawX e C none) (t' := s2.toks) mx.keeps hsz (raw_ok ⟨t, het⟩)
  have hl : (Value.ref e :: us).length = ps.length := by
    rw [← F.len [.ref e, .int i] (upd H1 e (rawX e C none)) (fun _ _ => True) E0 ⟨e, i, rfl, upd_same, hi, fun _ _ => True.intro⟩]
    show us.length + 1 = _
    rw [← r.length]
    rfl
  refine wpAny_call (codeAny_mono (F.run _ _ _ (upd H1 e (rawX e C none)) ⟨.ref e :: us, []⟩ (.ref e :: us) [.ref e, .int i] (fun v H2 => v = .non ∧ ∃ dx, upd H1 e (rawX e C none) dx = none ∧ H2 = upd (upd (upd H1 e (rawX e C none)) dx (.xd [("place", .int i)])) e (rawX e C (some dx))) E0
    (hr.make C us []) (I2.env0.make C us []) (by have := B _ (Value.ref e :: us) I2.kIn (by simpa using hl); simpa using this) (.cons rfl r) ⟨e, i, rfl, upd_same, hi, fun dx hd => ⟨rfl, dx, hd, rfl⟩⟩) fun r' s3 hq => ?_)
  cases r' with
  | error x => exact hq.elim
  | ok fl =>
    cases fl with
    | next => exact hq.elim
    | brk => exact hq.elim
    | cont => exact hq.elim
    | ret u =>
      obtain ⟨v, H3, ho, hg3, un, hok, rv, evn, dx, hd, eH⟩ := hq
      subst evn
      obtain rfl : u = Value.none := rv
      have hde : dx ≠ e := fun z => by rw [z, upd_same] at hd; cases hd
      have hd1 : H1 dx = none := by rw [upd_ne hde] at hd; exact hd
      have e3 : H3 e = some (rawX e C (some dx)) := by rw [eH, upd_same]
      obtain ⟨⟨t3, he3⟩, _, _⟩ := (show ObjOk P w H3 s3.heap e (rawX e C (some dx)) from hok e _ e3)
      have mv : ∀ b, b ≠ e → H3 b = upd H1 dx (.xd [("place", .int i)]) b := fun b hb => by
        rw [eH, upd_ne hb]
        by_cases h2 : b = dx
        · subst h2; rw [upd_same, upd_same]
        · rw [upd_ne h2, upd_ne h2, upd_ne hb]
      have hu : upd H1 dx (.xd [("place", .int i)]) e = none := by rw [upd_ne (Ne.symm hde)]; exact new
      have nb : ∀ b o, s2.heap.get? b = some o → b ≠ e := fun b o z y => by rw [y, mx.new] at z; cases z
      have nt : ∀ {b : Addr} {o : HO}, H1 b = some o → b ≠ e := fun z => ne_of_none z new
      have m1 : ∀ b, b ≠ e → upd H1 e (rawX e C none) b = H1 b := fun b hb => upd_ne hb
      have I3 := I2.call' ho un hok hg3 (by simp)
      refine ⟨rfl, t3, some dx, I3.kIn, he3, raise_from (H' := upd H1 dx (.xd [("place", .int i)])) I1 mx.new ho hg3 ⟨fun b o z n nf nx => ?_, fun b o z n nf nx => ?_, fun b o z n nx => ?_, fun b o z nx => ?_, fun b xs z => ?_, fun b o u z => ?_, fun b ps z => ?_⟩ (fun b o z => ?_) hu he3 (q dx hd1)⟩
      · exact un.keep b o (mx.keeps b o z) (by rw [m1 b (nb b o z)]; exact n) nf nx
      · exact un.slot b o (mx.keeps b o z) (by rw [m1 b (nb b o z)]; exact n) nf nx
      · rw [← mv b (nb b o z)]; exact un.free b o (mx.keeps b o z) (by rw [m1 b (nb b o z)]; exact n) nx
      · exact un.there b o (mx.keeps b o z) nx
      · rw [← mv b (nt z)]; exact un.tups b xs (by rw [m1 b (nt z)]; exact z)
      · rw [← mv b (nt z)]; exact un.frzs b o u (by rw [m1 b (nt z)]; exact z)
      · rw [← mv b (nt z)]; exact un.tbls b ps (by rw [m1 b (nt z)]; exact z)
      · have hb : b ≠ e := fun y => by rw [y, hu] at z; cases z
        rw [← mv b hb] at z
        refine (hok b o z).stay (fun _ _ _ y => y) (fun c y => ?_) fun c xs y => ?_
        · rw [← mv c (fun y2 => by rw [y2, e3] at y; cases y)]; exact y
        · rw [← mv c (fun y2 => by rw [y2, e3] at y; cases y)]; exact y
end
end L2
end

section
set_option Elab.async false
set_option linter.all false
set_option maxRecDepth 100000
set_option maxHeartbeats 4000000
namespace L2
open PySem PySem.Spec PyProof.Rows
section
variable {σ : St} {H : Hp} {D : Ends} {Q : VK} {te ta tv : TE} {t : TA} {K : PySem.W.Frag} {W C : Addr} {E : XK}
theorem r_binit (h : t σ H fun vs H1 => ∃ e C f od z, vs = [.ref e, .str z] ∧ H1 e = some (rawX e C od) ∧ OwnX K W C f ∧ Q .non H1) : tBinit K W t σ H Q := h
theorem r_fstr (h : te σ H fun v H1 => ∃ i : Int, v = .int i ∧ i.natAbs < 10 ^ 12 ∧ ∀ z, Q (.str z) H1) : tFstr te σ H Q := h
theorem r_splace (h : tv σ H fun y H1 => ta σ H1 fun x H2 => ∃ e W C f, x = .ref e ∧ H2 e = some (rawX e C none) ∧ OwnX K W C f ∧ ExcK K C ∧ ∀ dx, H2 dx = none → D.nx σ (upd (upd H2 dx (.xd [("place", y)])) e (rawX e C (some dx)))) : sPlace K ta tv D σ H := h
theorem r_place (h : te σ H fun x H1 => ∃ e W C f dx fs i, x = .ref e ∧ H1 e = some (excO e C (some dx)) ∧ OwnX K W C f ∧ ExcK K C ∧ H1 dx = some (.xd fs) ∧ fs.lookup ("place" : Str) = some (V.int i) ∧ Q (.int i) H1) : tPlace K te σ H Q := h
theorem r_raiseI (h : t σ H fun vs H1 => ∃ i : Int, vs = [.int i] ∧ i.natAbs < 10 ^ 12 ∧ ∀ dx, H1 dx = none → E (.ref C) (some dx) (upd H1 dx (.xd [("place", .int i)]))) : tRaiseI C E t D σ H := h
end
theorem call_isinK (K : PySem.W.Frag) {X : Cx} (h : X.K = K := by rfl) : CallR X (.builtin "isinstance") (rIsi K) := by
  subst h
  exact call_isinst
end L2
end

section
set_option Elab.async false
set_option linter.all false
set_option maxRecDepth 100000
set_option maxHeartbeats 4000000
namespace L2
open PySem PySem.Spec PyProof.Rows
open Builtin.Str (occurrences partsBetween)
section
variable {X : Cx}
theorem strsVals (l : List (Str × Tok)) : Vals ((l.map (·.1)).map V.str) (strValues l) := by
  induction l with
  | nil => exact .nil
  | cons p r ih => exact .cons ⟨_, rfl⟩ ih
end
end L2
end

section
set_option Elab.async false
set_option linter.all false
set_option maxRecDepth 100000
set_option maxHeartbeats 4000000
namespace L2
open PySem PySem.Spec PyProof.Rows
end L2
end

section
set_option Elab.async false
set_option linter.all false
set_option maxRecDepth 100000
set_option maxHeartbeats 4000000
namespace L2
open PySem PySem.Spec PyProof.Rows
end L2
end

section
set_option Elab.async false
set_option linter.all false
set_option maxRecDepth 100000
set_option maxHeartbeats 4000000
namespace L2
open PySem PySem.Spec PyProof.Rows
end L2
end

section
set_option Elab.async false
set_option linter.all false
set_option maxRecDepth 100000
set_option maxHeartbeats 4000000
namespace L2
open PySem PySem.Spec PyProof.Rows
end L2
end

section
set_option Elab.async false
set_option linter.all false
set_option maxRecDepth 100000
set_option maxHeartbeats 4000000
namespace L2
open PySem PySem.Spec PyProof.Rows
end L2
end

section
set_option Elab.async false
set_option linter.all false
set_option maxRecDepth 100000
set_option maxHeartbeats 4000000
namespace L2
open PySem PySem.Spec PyProof.Rows

end L2
end

section
set_option Elab.async false
set_option linter.all false
set_option maxRecDepth 100000
set_option maxHeartbeats 4000000
namespace L2
open PySem PySem.Spec PyProof.Rows
theorem vals_of_at : ∀ {xs : List V} {us : List Value}, xs.length = us.length → (∀ (i : Nat) x u, xs[i]? = some x → us[i]? = some u → RelV x u) → Vals xs us
  | [], [], _, _ => .nil
  | x :: xs, u :: us, hl, h => .cons (h 0 x u rfl rfl) (vals_of_at (Nat.succ.inj hl) fun i y v e1 e2 => h (i + 1) y v e1 e2)
section
variable {X : Cx}
def tLRng (ta : TA) : TE := fun σ H Q => ta σ H fun vs H1 => ∃ j : Nat, vs = [.int j] ∧ j ≤ 100000 ∧ ∀ p, H1 p = none → Q (.ref p) (upd H1 p (.lst ((List.range j).map fun i : Nat => V.int i)))
theorem pe_lrange {a : Expr} {ta : TA} {p q pos pos2 : Pos} (hcal : X.calm = true) (hg : Gl X "list") (hm : X.mg "list" = none) (hg2 : Gl X "range") (hm2 : X.mg "range" = none) (ha : PA X [a] ta)
    (hs : starEach [a] X.env = [(false, eval a X.env)] := by rfl)
    (hs3 : starEach [Expr.Call (.Name "range" q) [a] [] pos2] X.env = [(false, eval (.Call (.Name "range" q) [a] [] pos2) X.env)] := by rfl) :
    PE X (.Call (.Name "list" p) [.Call (.Name "range" q) [a] [] pos2] [] pos) (tLRng ta) := by
  intro pins s σ H Q I h
  refine wpAny_Call_Name_kw (ld_blt I hg hm b_list (PyProof.Rows.callWith_type1 ?_ hs3 rfl) (by decide) (by decide))
  rw [hs3]
  refine Calls.spliced_cons ?_
  show wpAny _ _ (eval (Expr.Call (.Name "range" q) [a] [] pos2) X.env) _ _ _
  refine wpAny_Call_Name_kw (ld_blt I hg2 hm2 boot_range (PyProof.Rows.callWith_type1 (thn (ha pos2 pins s σ H _ I h) fun us s1 ⟨vs, H1, I1, r1, q1⟩ => ?_) hs rfl) (by decide) (by decide))
  obtain ⟨j, e, hj, q⟩ := q1
  subst e
  obtain ⟨u, rfl, t, rfl⟩ := vals1 r1
  refine call_range_1 (Calls.spliced_nil ?_)
  have e2 : Builtin.Range.rangeSize 0 (j : Int) 1 = j := by rw [rangeSize_one]; split <;> omega
  refine call_list_range (I1.ok.hd hcal) (IsRange.new ..) (small_one (by omega) (by omega) (by omega) (by omega)) e2 (by omega) fun h' tk acc c kp ho it => ?_
  have hv : Vals ((List.range j).map fun i : Nat => V.int i) acc.toList := vals_of_at (by rw [List.length_map, List.length_range, Array.length_toList, it.1]) fun i x u e1 e3 => by
    have hi : i < j := by have := (List.getElem?_eq_some_iff.mp e1).1; simpa using this
    rw [List.getElem?_map, List.getElem?_range hi] at e1
    cases e1
    have e4 : acc[i]? = some u := by rw [← Array.getElem?_toList]; exact e3
    obtain ⟨t, e5⟩ := it.2 i u e4
    exact ⟨t, by rw [e5]; simp⟩
  have up : ∀ b o, s1.heap.get? b = some o → h'.get? b = some o := fun b o e => kp _ _ (Heap.get?_push_of_some _ e)
  have hle : s1.heap.objs.size ≤ (s1.heap.push { cls := .type "range", data := .fields #[.int 0 s1.toks, .int j t, .int 1 (s1.toks + 1)] }).objs.size := by rw [Heap.size_push]; omega
  refine ⟨.ref _, _, I1.laid (t' := tk) (o := .lst _) up hle ⟨?_, acc.toList, c, hv, ho⟩, rfl, q _ (I1.hok.fresh hle)⟩
  rw [List.length_map, List.length_range]
  exact Nat.le_of_lt (Nat.lt_of_le_of_lt hj (by decide))
theorem r_lrng {σ : St} {H : Hp} {Q : VK} {ta : TA} (h : ta σ H fun vs H1 => ∃ j : Nat, vs = [.int j] ∧ j ≤ 100000 ∧ ∀ p, H1 p = none → Q (.ref p) (upd H1 p (.lst ((List.range j).map fun i : Nat => V.int i)))) : tLRng ta σ H Q := h
end
structure FunD (K : PySem.W.Frag) (x qual : Str) (st : Stmt) (f : Addr) (fd : FuncData) : Prop where
  ex : ∃ (oc : Value) (od : Option Addr) (T : Addr) (kV doc pm : Value) (an : Option Addr) (cdv ct : Value) (osl : Array (Option Value)) (o : Obj) (v : Value) (n : Nat),
    fd = PySem.W.fnOf x qual (defArgs st) (defBody st) (defScope st) (.ref T) kV doc pm an cdv ct ∧ K.lookup f = some ⟨oc, od, .func fd, osl⟩ ∧ PySem.W.codeIn K cdv qual = true ∧ K.lookup T = some o ∧ o.data = .seq #[v] n
section
variable {P : Program} {w : World} {K : PySem.W.Frag} {mg : Str → Option Value} {base : Heap}
theorem FunD.binds {x qual : Str} {st : Stmt} {f : Addr} {fd : FuncData} {ps : List Str} (F : FunD K x qual st f fd)
    (h : ∀ (T : Addr) (kV doc pm : Value) (an : Option Addr) (cdv ct : Value) (us : List Value), us.length = ps.length → ∃ k, bindArgs (PySem.W.fnOf x qual (defArgs st) (defBody st) (defScope st) (.ref T) kV doc pm an cdv ct) ⟨us, []⟩ = seqItems? (.ref T) >>= k ∧ ∀ v, k (some #[v]) = pure (ps.zip us)) : Binds K fd ps [] := by
  obtain ⟨oc, od, T, kV, doc, pm, an, cdv, ct, osl, o, v, n, rfl, lk, hcd, hT, hd⟩ := F.ex
  intro s us KX hl
  rw [List.append_nil] at hl ⊢
  obtain ⟨k, h1, h2⟩ := h T kV doc pm an cdv ct us hl
  exact BindsTo.of_defaults rfl (KX _ _ hT) hd h1 (h2 v)
end
end L2
namespace L2
open PySem PySem.Spec PyProof.Rows
section
variable {σ : St} {H : Hp}
theorem r_gsub {to ti : TE} {t : TSet} {v : V} {R : St → Hp → Prop} (h : to σ H fun o H1 => ti σ H1 fun i H2 => t o i v H2 fun H3 => R σ H3) : gSub to ti t v σ H R := h
theorem ixN_nat {n j : Nat} (h : j < n) : ixN n (j : Int) = some j := by
  unfold ixN
  rw [if_pos (by omega), if_pos (by omega)]
  simp
theorem r_setL {p : Addr} {xs : List V} {j : Nat} {i : Int} {v : V} {R : Hp → Prop} (h : H p = some (.lst xs)) (hi : i = j) (hj : j < xs.length) (q : R (upd H p (.lst (xs.set j v)))) : rSetL (.ref p) (.int i) v H R :=
  ⟨p, xs, i, j, rfl, rfl, h, by rw [hi]; exact ixN_nat hj, q⟩
end
end L2
end

section
set_option Elab.async false
set_option linter.all false
set_option maxRecDepth 100000
set_option maxHeartbeats 4000000
namespace L2
open PySem PySem.Spec PyProof.Rows
section
variable {κ : Type} [DecidableEq κ]
def valV (kvs : List (κ × V)) (k : κ) : Option V := (kvs.find? fun kv => decide (kv.1 = k)).map (·.2)
def putK (kvs : List (κ × V)) (k : κ) (v : V) : List (κ × V) :=
  if (kvs.any fun kv => decide (kv.1 = k)) = true then kvs.map (fun kv => if kv.1 = k then (kv.1, v) else kv) else kvs ++ [(k, v)]
theorem RelO.getD {o : Option V} {u : Option Value} {d : V} {d' : Value} (r : RelO o u) (rd : RelV d d') : RelV (o.getD d) (u.getD d') := by
  cases o with
  | none => cases u with
    | none => exact rd
    | some _ => exact (show False from r).elim
  | some _ => cases u with
    | none => exact (show False from r).elim
    | some _ => exact r

theorem KV.any {kvs : List (κ × V)} {vs : List (κ × Value)} (r : KV kvs vs) (k : κ) : (kvs.any fun kv => decide (kv.1 = k)) = vs.any fun kv => decide (kv.1 = k) := by
  unfold KV at r
  induction r with
  | nil => rfl
  | cons h t ih => rw [List.any_cons, List.any_cons, ih, h.1]
theorem KV.keys {kvs : List (κ × V)} {vs : List (κ × Value)} (r : KV kvs vs) : kvs.map (·.1) = vs.map (·.1) := by
  unfold KV at r
  induction r with
  | nil => rfl
  | cons h t ih => rw [List.map_cons, List.map_cons, ih, h.1]
theorem KV.length {kvs : List (κ × V)} {vs : List (κ × Value)} (r : KV kvs vs) : kvs.length = vs.length := Paired.length r
end


abbrev KT (H : Hp) : List (List Key × V) → List (List Key × Addr × Value) → Prop := Paired fun p q => p.1 = q.1 ∧ H q.2.1 = some (.tup (p.1.map kV)) ∧ RelV p.2 q.2.2
theorem KT.keeps {H H' : Hp} {kvs : List (List Key × V)} {xs : List (List Key × Addr × Value)} (r : KT H kvs xs) (ht : ∀ b ys, H b = some (.tup ys) → H' b = some (.tup ys)) : KT H' kvs xs :=
  Paired.mapP r fun _ _ z => ⟨z.1, ht _ _ z.2.1, z.2.2⟩


def DGet (H : Hp) (a : Addr) (y : V) (r : Option V) : Prop :=
  (∃ kvs k, Rd H a (.dK kvs) ∧ y = kV k ∧ r = valV kvs k) ∨ ∃ kvs k b, Rd H a (.dT kvs) ∧ y = .ref b ∧ H b = some (.tup (k.map kV)) ∧ r = valV kvs k
def DPut (H : Hp) (a : Addr) (y v : V) (H' : Hp) : Prop :=
  (∃ kvs k, H a = some (.dK kvs) ∧ y = kV k ∧ kvs.length < sizeLine ∧ H' = upd H a (.dK (putK kvs k v))) ∨
  ∃ kvs k b, H a = some (.dT kvs) ∧ y = .ref b ∧ H b = some (.tup (k.map kV)) ∧ kvs.length < sizeLine ∧ H' = upd H a (.dT (putK kvs k v))
theorem DGet.k {H : Hp} {a : Addr} {kvs : List (Key × V)} {k : Key} (e : H a = some (.dK kvs)) : DGet H a (kV k) (valV kvs k) := .inl ⟨kvs, k, .inl e, rfl, rfl⟩
theorem DGet.t {H : Hp} {a b : Addr} {kvs : List (List Key × V)} {k : List Key} (e : H a = some (.dT kvs)) (eb : H b = some (.tup (k.map kV))) : DGet H a (.ref b) (valV kvs k) := .inr ⟨kvs, k, b, .inl e, rfl, eb, rfl⟩
theorem DPut.k {H : Hp} {a : Addr} {kvs : List (Key × V)} {k : Key} {v : V} (e : H a = some (.dK kvs)) (hl : kvs.length < sizeLine) : DPut H a (kV k) v (upd H a (.dK (putK kvs k v))) := .inl ⟨kvs, k, e, rfl, hl, rfl⟩
theorem DPut.t {H : Hp} {a b : Addr} {kvs : List (List Key × V)} {k : List Key} {v : V} (e : H a = some (.dT kvs)) (eb : H b = some (.tup (k.map kV))) (hl : kvs.length < sizeLine) :
    DPut H a (.ref b) v (upd H a (.dT (putK kvs k v))) := .inr ⟨kvs, k, b, e, rfl, eb, hl, rfl⟩


section
variable {X : Cx} {pins : List (Addr × Obj)} {σ : St} {H : Hp} {s : Shared} {a : Addr} {y v : V} {u r : Value} {o : Option V} {A : Around} {E : Value → Shared → Prop}

end





end L2
end

section
set_option Elab.async false
set_option linter.all false
namespace TW
theorem few_below : ∀ (n : Nat) (l : List Nat), l.Nodup → (∀ x ∈ l, x < n) → l.length ≤ n
  | 0, [], _, _ => Nat.le_refl _
  | 0, x :: l, _, h => absurd (h x List.mem_cons_self) (Nat.not_lt_zero _)
  | n + 1, l, hn, h => by
    by_cases hm : n ∈ l
    · have h1 := few_below n (l.erase n) (hn.erase n) fun x hx => by
        have h2 := (hn.mem_erase_iff).mp hx
        have := h x h2.2
        omega
      rw [List.length_erase_of_mem hm] at h1
      omega
    · have := few_below n l hn fun x hx => by
        have := h x hx
        have : x ≠ n := fun e => hm (e ▸ hx)
        omega
      omega
end TW
end

section
set_option Elab.async false
set_option linter.all false
set_option maxRecDepth 100000
set_option maxHeartbeats 4000000
namespace L2
open PySem PySem.Spec PyProof.Rows
end L2
end

section
set_option Elab.async false
set_option linter.all false
set_option maxRecDepth 100000
set_option maxHeartbeats 4000000
namespace L2
open PySem PySem.Spec PyProof.Rows
end L2
end

section
set_option Elab.async false
set_option linter.all false
set_option maxRecDepth 100000
set_option maxHeartbeats 4000000
namespace L2
open PySem PySem.Spec PyProof.Rows
end L2
end

section
set_option Elab.async false
set_option linter.all false
namespace TW
section
variable {α : Type} (lt : α → α → Bool)
def mg : List α → List α → List α
  | [], ys => ys
  | x :: xs, [] => x :: xs
  | x :: xs, y :: ys => if lt y x = true then y :: mg (x :: xs) ys else x :: mg xs (y :: ys)
termination_by xs ys => xs.length + ys.length
theorem mg_nil (ys : List α) : mg lt [] ys = ys := by rw [mg]
theorem mg_nil' (xs : List α) : mg lt xs [] = xs := by cases xs <;> rw [mg]
theorem mg_cons (x y : α) (xs ys : List α) : mg lt (x :: xs) (y :: ys) = if lt y x = true then y :: mg lt (x :: xs) ys else x :: mg lt xs (y :: ys) := by rw [mg]
theorem mg_b {x y : α} {xs ys : List α} (h : lt y x = true) : mg lt (x :: xs) (y :: ys) = y :: mg lt (x :: xs) ys := by rw [mg_cons, if_pos h]
theorem mg_a {x y : α} {xs ys : List α} (h : lt y x = false) : mg lt (x :: xs) (y :: ys) = x :: mg lt xs (y :: ys) := by rw [mg_cons, if_neg (by rw [h]; decide)]
theorem mg_head_a {ys : List α} : ∀ {as xs : List α}, (∀ a ∈ as, ∀ y ∈ ys, lt y a = false) → mg lt (as ++ xs) ys = as ++ mg lt xs ys
  | [], _, _ => rfl
  | a :: as, xs, h => by
    cases ys with
    | nil => rw [mg_nil', mg_nil']
    | cons y ys =>
      rw [List.cons_append, mg_a lt (h a List.mem_cons_self y List.mem_cons_self), mg_head_a fun b hb => h b (List.mem_cons_of_mem _ hb)]
      rfl
theorem mg_head_b {xs : List α} : ∀ {bs ys : List α}, (∀ b ∈ bs, ∀ x ∈ xs, lt b x = true) → mg lt xs (bs ++ ys) = bs ++ mg lt xs ys
  | [], _, _ => rfl
  | b :: bs, ys, h => by
    cases xs with
    | nil => rw [mg_nil, mg_nil]
    | cons x xs =>
      rw [List.cons_append, mg_b lt (h b List.mem_cons_self x List.mem_cons_self), mg_head_b fun c hc => h c (List.mem_cons_of_mem _ hc)]
      rfl
theorem mg_tail_a {as : List α} : ∀ (xs ys : List α), (∀ a ∈ as, ∀ y ∈ ys, lt y a = true) → mg lt (xs ++ as) ys = mg lt xs ys ++ as
  | [], ys, h => by
    have := mg_head_b lt (xs := as) (bs := ys) (ys := []) fun b hb x hx => h x hx b hb
    rw [List.append_nil, mg_nil'] at this
    rw [List.nil_append, this, mg_nil]
  | x :: xs, [], h => by rw [mg_nil', mg_nil']
  | x :: xs, y :: ys, h => by
    rw [List.cons_append, mg_cons, mg_cons]
    split
    · have := mg_tail_a (x :: xs) ys fun a ha z hz => h a ha z (List.mem_cons_of_mem _ hz)
      rw [List.cons_append] at this
      rw [this]
      rfl
    · rw [mg_tail_a xs (y :: ys) h]
      rfl
termination_by xs ys => xs.length + ys.length
theorem mg_tail_b {bs : List α} : ∀ (xs ys : List α), (∀ b ∈ bs, ∀ x ∈ xs, lt b x = false) → mg lt xs (ys ++ bs) = mg lt xs ys ++ bs
  | [], ys, h => by rw [mg_nil, mg_nil]
  | x :: xs, [], h => by
    have := mg_head_a lt (ys := bs) (as := x :: xs) (xs := []) fun a ha y hy => h y hy a ha
    rw [List.append_nil, mg_nil] at this
    rw [List.nil_append, this, mg_nil']
  | x :: xs, y :: ys, h => by
    rw [List.cons_append, mg_cons, mg_cons]
    split
    · rw [mg_tail_b (x :: xs) ys h]
      rfl
    · have := mg_tail_b xs (y :: ys) fun b hb z hz => h b hb z (List.mem_cons_of_mem _ hz)
      rw [List.cons_append] at this
      rw [this]
      rfl
termination_by xs ys => xs.length + ys.length
theorem mg_perm : ∀ (xs ys : List α), (mg lt xs ys).Perm (xs ++ ys)
  | [], ys => by rw [mg_nil]; exact List.Perm.refl _
  | x :: xs, [] => by rw [mg_nil', List.append_nil]
  | x :: xs, y :: ys => by
    rw [mg_cons]
    split
    · exact ((mg_perm (x :: xs) ys).cons y).trans List.perm_middle.symm
    · exact (mg_perm xs (y :: ys)).cons x
termination_by xs ys => xs.length + ys.length
def Srt (l : List α) : Prop := l.Pairwise fun a b => lt b a = false
structure Swo : Prop where
  irr : ∀ a, lt a a = false
  tr : ∀ a b c, lt a b = true → lt b c = true → lt a c = true
  ng : ∀ a b c, lt a c = true → lt a b = true ∨ lt b c = true
variable {lt}
section
variable (o : Swo lt)
include o
theorem Swo.asy {a b : α} (h : lt a b = true) : lt b a = false := by
  cases e : lt b a with
  | false => rfl
  | true => have := o.tr _ _ _ h e; rw [o.irr] at this; cases this
theorem Swo.le {a b c : α} (h1 : lt b a = false) (h2 : lt c b = false) : lt c a = false := by
  cases e : lt c a with
  | false => rfl
  | true =>
    rcases o.ng c b a e with h | h
    · rw [h2] at h; cases h
    · rw [h1] at h; cases h
theorem Swo.ltle {a b c : α} (h1 : lt a b = true) (h2 : lt c b = false) : lt a c = true := by
  rcases o.ng a c b h1 with h | h
  · exact h
  · rw [h2] at h; cases h
theorem Swo.lelt {a b c : α} (h1 : lt b a = false) (h2 : lt b c = true) : lt a c = true := by
  rcases o.ng b a c h2 with h | h
  · rw [h1] at h; cases h
  · exact h
theorem mg_assoc : ∀ a b c : List α, mg lt (mg lt a b) c = mg lt a (mg lt b c)
  | [], b, c => by rw [mg_nil, mg_nil]
  | x :: a, [], c => by rw [mg_nil', mg_nil]
  | x :: a, y :: b, [] => by rw [mg_nil', mg_nil']
  | x :: a, y :: b, z :: c => by
    cases h1 : lt y x with
    | true =>
      cases h2 : lt z y with
      | true =>
        have ih := mg_assoc (x :: a) (y :: b) c
        rw [mg_b lt h1] at ih ⊢
        rw [mg_b lt h2, mg_b lt h2, mg_b lt (o.tr _ _ _ h2 h1), ih]
      | false =>
        have ih := mg_assoc (x :: a) b (z :: c)
        rw [mg_b lt h1, mg_a lt h2, mg_a lt h2, mg_b lt h1, ih]
    | false =>
      cases h3 : lt z x with
      | true =>
        have h2 : lt z y = true := by
          rcases o.ng z y x h3 with h | h
          · exact h
          · rw [h1] at h; cases h
        have ih := mg_assoc (x :: a) (y :: b) c
        rw [mg_a lt h1] at ih ⊢
        rw [mg_b lt h3, mg_b lt h2, mg_b lt h3, ih]
      | false =>
        have ih := mg_assoc a (y :: b) (z :: c)
        rw [mg_a lt h1, mg_a lt h3, ih]
        cases h2 : lt z y with
        | true => rw [mg_b lt h2, mg_a lt h3]
        | false => rw [mg_a lt h2, mg_a lt h1]
termination_by a b c => a.length + b.length + c.length
theorem srt_mg : ∀ {xs ys : List α}, Srt lt xs → Srt lt ys → Srt lt (mg lt xs ys)
  | [], ys, _, h => by rw [mg_nil]; exact h
  | x :: xs, [], h, _ => by rw [mg_nil']; exact h
  | x :: xs, y :: ys, h1, h2 => by
    have a1 := List.pairwise_cons.mp h1
    have a2 := List.pairwise_cons.mp h2
    rw [mg_cons]
    split
    · rename_i hl
      refine List.pairwise_cons.mpr ⟨fun z hz => ?_, srt_mg h1 a2.2⟩
      rcases List.mem_append.mp ((mg_perm lt _ _).mem_iff.mp hz) with hz | hz
      · rcases List.mem_cons.mp hz with rfl | hz
        · exact o.asy hl
        · exact o.le (o.asy hl) (a1.1 z hz)
      · exact a2.1 z hz
    · rename_i hl
      have hl : lt y x = false := by simpa using hl
      refine List.pairwise_cons.mpr ⟨fun z hz => ?_, srt_mg a1.2 h2⟩
      rcases List.mem_append.mp ((mg_perm lt _ _).mem_iff.mp hz) with hz | hz
      · exact a1.1 z hz
      · rcases List.mem_cons.mp hz with rfl | hz
        · exact hl
        · exact o.le hl (a2.1 z hz)
termination_by xs ys => xs.length + ys.length
end
variable (lt)
def ssort (l : List α) : List α := l.foldl (fun a x => mg lt a [x]) []
theorem ssort_snoc (l : List α) (x : α) : ssort lt (l ++ [x]) = mg lt (ssort lt l) [x] := by unfold ssort; rw [List.foldl_append]; rfl
theorem ssort_perm (l : List α) : (ssort lt l).Perm l := by
  have key : ∀ (l a : List α), (l.foldl (fun a x => mg lt a [x]) a).Perm (a ++ l) := fun l => by
    induction l with
    | nil => intro a; rw [List.append_nil]; exact List.Perm.refl _
    | cons x l ih =>
      intro a
      refine (ih _).trans ?_
      refine ((mg_perm lt a [x]).append_right l).trans ?_
      rw [List.append_assoc]
      exact List.Perm.refl _
  exact key l []
theorem ssort_len (l : List α) : (ssort lt l).length = l.length := (ssort_perm lt l).length_eq
theorem snoc_ind {P : List α → Prop} (h0 : P []) (h1 : ∀ l x, P l → P (l ++ [x])) (l : List α) : P l := by
  have key : ∀ n, ∀ l : List α, l.length = n → P l := fun n => by
    induction n with
    | zero => intro l h; rw [List.length_eq_zero_iff.mp h]; exact h0
    | succ n ih =>
      intro l h
      have hne : l ≠ [] := fun e => by rw [e] at h; cases h
      rw [← List.dropLast_concat_getLast hne]
      exact h1 _ _ (ih _ (by rw [List.length_dropLast]; omega))
  exact key _ l rfl
variable {lt}
theorem ssort_app (o : Swo lt) (a : List α) (b : List α) : ssort lt (a ++ b) = mg lt (ssort lt a) (ssort lt b) := by
  induction b using snoc_ind with
  | h0 => rw [List.append_nil]; exact (mg_nil' lt _).symm
  | h1 l x ih => rw [← List.append_assoc, ssort_snoc, ssort_snoc, ih, mg_assoc o]
theorem ssort_srt (o : Swo lt) (a : List α) : Srt lt (ssort lt a) := by
  induction a using snoc_ind with
  | h0 => exact List.Pairwise.nil
  | h1 l x ih => rw [ssort_snoc]; exact srt_mg o ih (List.pairwise_singleton _ _)
theorem ssort_id {a : List α} (h : Srt lt a) : ssort lt a = a := by
  induction a using snoc_ind with
  | h0 => rfl
  | h1 l x ih =>
    have hp := List.pairwise_append.mp h
    rw [ssort_snoc, ih hp.1]
    have := mg_head_a lt (ys := [x]) (as := l) (xs := []) fun a ha y hy => by rw [List.mem_singleton.mp hy]; exact hp.2.2 a ha x (List.mem_singleton.mpr rfl)
    rw [List.append_nil, mg_nil] at this
    exact this
theorem mg_map {β : Type} {lt' : β → β → Bool} {f : α → β} (h : ∀ a b, lt' (f a) (f b) = lt a b) : ∀ xs ys : List α, mg lt' (xs.map f) (ys.map f) = (mg lt xs ys).map f
  | [], ys => by rw [mg_nil]; exact mg_nil _ _
  | x :: xs, [] => by rw [mg_nil']; exact mg_nil' _ _
  | x :: xs, y :: ys => by
    rw [List.map_cons, List.map_cons, mg_cons, mg_cons, h]
    split
    · have := mg_map h (x :: xs) ys
      rw [List.map_cons] at this
      rw [this]
      rfl
    · have := mg_map h xs (y :: ys)
      rw [List.map_cons] at this
      rw [this]
      rfl
termination_by xs ys => xs.length + ys.length
theorem ssort_map {β : Type} {lt' : β → β → Bool} {f : α → β} (h : ∀ a b, lt' (f a) (f b) = lt a b) (l : List α) : ssort lt' (l.map f) = (ssort lt l).map f := by
  induction l using snoc_ind with
  | h0 => rfl
  | h1 l x ih =>
    rw [List.map_append, List.map_cons, List.map_nil, ssort_snoc, ssort_snoc, ih]
    exact mg_map h _ [x]
end
end TW
end

section
set_option Elab.async false
set_option linter.all false
namespace TW
section
variable {α : Type} {lt : α → α → Bool}
theorem drop_at {l : List α} {i : Nat} {x : α} (h : l[i]? = some x) : l.drop i = x :: l.drop (i + 1) := by
  obtain ⟨hl, e⟩ := List.getElem?_eq_some_iff.mp h
  rw [List.drop_eq_getElem_cons hl, e]
theorem take_at {l : List α} {i : Nat} {x : α} (h : l[i]? = some x) : l.take (i + 1) = l.take i ++ [x] := by rw [List.take_add_one, h]; rfl
theorem srt_at {l : List α} (h : Srt lt l) {i j : Nat} {x y : α} (hij : i < j) (hx : l[i]? = some x) (hy : l[j]? = some y) : lt y x = false := by
  obtain ⟨h1, e1⟩ := List.getElem?_eq_some_iff.mp hx
  obtain ⟨h2, e2⟩ := List.getElem?_eq_some_iff.mp hy
  have := (List.pairwise_iff_getElem.mp h) i j h1 h2 hij
  rw [e1, e2] at this
  exact this
theorem srt_le (o : Swo lt) {l : List α} (h : Srt lt l) {i j : Nat} {x y : α} (hij : i ≤ j) (hx : l[i]? = some x) (hy : l[j]? = some y) : lt y x = false := by
  rcases Nat.lt_or_eq_of_le hij with hl | hl
  · exact srt_at h hl hx hy
  · rw [hl, hy] at hx
    cases hx
    exact o.irr _
theorem mem_drop {l : List α} {i : Nat} {x : α} (h : x ∈ l.drop i) : ∃ j, i ≤ j ∧ l[j]? = some x := by
  obtain ⟨k, hk⟩ := List.getElem?_of_mem h
  rw [List.getElem?_drop] at hk
  exact ⟨i + k, Nat.le_add_right _ _, hk⟩
theorem mem_take {l : List α} {i : Nat} {x : α} (h : x ∈ l.take i) : ∃ j, j < i ∧ l[j]? = some x := by
  obtain ⟨k, hk⟩ := List.getElem?_of_mem h
  rw [List.getElem?_take] at hk
  split at hk
  · exact ⟨k, by assumption, hk⟩
  · cases hk
theorem mem_stretch {l : List α} {i k : Nat} {x : α} (h : x ∈ (l.drop i).take k) : ∃ j, j < k ∧ l[i + j]? = some x := by
  obtain ⟨j, hj, e⟩ := mem_take h
  rw [List.getElem?_drop] at e
  exact ⟨j, hj, e⟩
theorem drop_split (l : List α) (i k : Nat) : l.drop i = (l.drop i).take k ++ l.drop (i + k) := by
  rw [← List.drop_drop, List.take_append_drop]
variable (o : Swo lt) {la lb out : List α} {ia ib : Nat}
def MI (lt : α → α → Bool) (la lb out : List α) (ia ib : Nat) : Prop := out ++ mg lt (la.drop ia) (lb.drop ib) = mg lt la lb
theorem MI.b {x y : α} (h : MI lt la lb out ia ib) (hx : la[ia]? = some x) (hy : lb[ib]? = some y) (hl : lt y x = true) : MI lt la lb (out ++ [y]) ia (ib + 1) := by
  unfold MI at h ⊢
  rw [← h, drop_at hx, drop_at hy, mg_b lt hl, List.append_assoc]
  rfl
theorem MI.a {x y : α} (h : MI lt la lb out ia ib) (hx : la[ia]? = some x) (hy : lb[ib]? = some y) (hl : lt y x = false) : MI lt la lb (out ++ [x]) (ia + 1) ib := by
  unfold MI at h ⊢
  rw [← h, drop_at hx, drop_at hy, mg_a lt hl, List.append_assoc]
  rfl
theorem MI.doneB (h : MI lt la lb out ia ib) (hb : lb.length ≤ ib) : out ++ la.drop ia ++ lb.drop ib = mg lt la lb := by
  unfold MI at h
  rw [← h, List.drop_of_length_le hb, mg_nil', List.append_nil]
theorem MI.doneA (h : MI lt la lb out ia ib) (hb : la.length ≤ ia) : out ++ la.drop ia ++ lb.drop ib = mg lt la lb := by
  unfold MI at h
  rw [← h, List.drop_of_length_le hb, mg_nil, List.append_nil]
theorem MI.lastA (h : MI lt la lb out ia ib) {x : α} (hx : la[ia]? = some x) (he : la.length ≤ ia + 1) (hl : ∀ y ∈ lb, lt y x = true) : out ++ lb.drop ib ++ la.drop ia = mg lt la lb := by
  unfold MI at h
  have e := mg_head_b lt (xs := la.drop ia) (bs := lb.drop ib) (ys := []) fun b hb z hz => by
    rw [drop_at hx, List.drop_of_length_le he] at hz
    rw [List.mem_singleton.mp hz]
    exact hl b (List.mem_of_mem_drop hb)
  rw [List.append_nil, mg_nil'] at e
  rw [← h, e, List.append_assoc]
include o in
theorem MI.as (h : MI lt la lb out ia ib) (sb : Srt lt lb) {k : Nat} {y : α} (hy : lb[ib]? = some y) (hk : ∀ i x, i < k → la[ia + i]? = some x → lt y x = false) : MI lt la lb (out ++ (la.drop ia).take k) (ia + k) ib := by
  unfold MI at h ⊢
  rw [← h]
  conv => rhs; rw [drop_split la ia k]
  rw [mg_head_a lt fun a ha z hz => ?_, List.append_assoc]
  obtain ⟨i, hi, e⟩ := mem_stretch ha
  obtain ⟨j, hj, e2⟩ := mem_drop hz
  exact o.le (hk i a hi e) (srt_le o sb hj hy e2)
include o in
theorem MI.bs (h : MI lt la lb out ia ib) (sa : Srt lt la) {k : Nat} {x : α} (hx : la[ia]? = some x) (hk : ∀ i y, i < k → lb[ib + i]? = some y → lt y x = true) : MI lt la lb (out ++ (lb.drop ib).take k) ia (ib + k) := by
  unfold MI at h ⊢
  rw [← h]
  conv => rhs; rw [drop_split lb ib k]
  rw [mg_head_b lt fun b hb z hz => ?_, List.append_assoc]
  obtain ⟨i, hi, e⟩ := mem_stretch hb
  obtain ⟨j, hj, e2⟩ := mem_drop hz
  exact o.ltle (hk i b hi e) (srt_le o sa hj hx e2)
variable {na nb : Nat}
def MH (lt : α → α → Bool) (la lb out : List α) (na nb : Nat) : Prop := mg lt (la.take na) (lb.take nb) ++ out.reverse = mg lt la lb
theorem take_split (l : List α) {c n : Nat} (h : c ≤ n) : l.take n = l.take c ++ (l.drop c).take (n - c) := by
  rw [show n = c + (n - c) by omega, List.take_add]
  congr 2
  omega
include o in
theorem MH.as (h : MH lt la lb out na nb) (sb : Srt lt lb) {c : Nat} {y : α} (hc : c ≤ na) (hn : 0 < nb) (hy : lb[nb - 1]? = some y) (hk : ∀ i x, c ≤ i → i < na → la[i]? = some x → lt y x = true) : MH lt la lb (out ++ ((la.drop c).take (na - c)).reverse) c nb := by
  unfold MH at h ⊢
  rw [← h, take_split la hc, mg_tail_a lt _ _ fun a ha z hz => ?_, List.reverse_append, List.reverse_reverse, List.append_assoc]
  obtain ⟨i, hi, e⟩ := mem_stretch ha
  obtain ⟨j, hj, e2⟩ := mem_take hz
  exact o.lelt (srt_le o sb (show j ≤ nb - 1 by omega) e2 hy) (hk (c + i) a (by omega) (by omega) e)
include o in
theorem MH.bs (h : MH lt la lb out na nb) (sa : Srt lt la) {c : Nat} {x : α} (hc : c ≤ nb) (hn : 0 < na) (hx : la[na - 1]? = some x) (hk : ∀ i y, c ≤ i → i < nb → lb[i]? = some y → lt y x = false) : MH lt la lb (out ++ ((lb.drop c).take (nb - c)).reverse) na c := by
  unfold MH at h ⊢
  rw [← h, take_split lb hc, mg_tail_b lt _ _ fun b hb z hz => ?_, List.reverse_append, List.reverse_reverse, List.append_assoc]
  obtain ⟨i, hi, e⟩ := mem_stretch hb
  obtain ⟨j, hj, e2⟩ := mem_take hz
  exact o.le (srt_le o sa (show j ≤ na - 1 by omega) e2 hx) (hk (c + i) b (by omega) (by omega) e)
theorem one_stretch {l : List α} {c n : Nat} {x : α} (hn : n = c + 1) (h : l[c]? = some x) : ((l.drop c).take (n - c)).reverse = [x] := by
  rw [hn, show c + 1 - c = 1 by omega, drop_at h]
  rfl
include o in
theorem MH.a {x y : α} (h : MH lt la lb out na nb) (sb : Srt lt lb) (hna : 0 < na) (hnb : 0 < nb) (hx : la[na - 1]? = some x) (hy : lb[nb - 1]? = some y) (hl : lt y x = true) : MH lt la lb (out ++ [x]) (na - 1) nb := by
  have := h.as o sb (c := na - 1) (by omega) hnb hy fun i z h1 h2 e => by
    have : i = na - 1 := by omega
    rw [this, hx] at e
    cases e
    exact hl
  rw [one_stretch (by omega) hx] at this
  exact this
include o in
theorem MH.b {x y : α} (h : MH lt la lb out na nb) (sa : Srt lt la) (hna : 0 < na) (hnb : 0 < nb) (hx : la[na - 1]? = some x) (hy : lb[nb - 1]? = some y) (hl : lt y x = false) : MH lt la lb (out ++ [y]) na (nb - 1) := by
  have := h.bs o sa (c := nb - 1) (by omega) hna hx fun i z h1 h2 e => by
    have : i = nb - 1 := by omega
    rw [this, hy] at e
    cases e
    exact hl
  rw [one_stretch (by omega) hy] at this
  exact this
theorem MH.doneA (h : MH lt la lb out 0 nb) : la.take 0 ++ lb.take nb ++ out.reverse = mg lt la lb := by
  unfold MH at h
  rw [← h, List.take_zero, mg_nil, List.nil_append]
theorem MH.doneB (h : MH lt la lb out na 0) : la.take na ++ lb.take 0 ++ out.reverse = mg lt la lb := by
  unfold MH at h
  rw [← h, List.take_zero, mg_nil', List.append_nil]
theorem MH.firstB (h : MH lt la lb out na 1) {y : α} (hy : lb[0]? = some y) (hl : ∀ x ∈ la, lt y x = true) : lb.take 1 ++ la.take na ++ out.reverse = mg lt la lb := by
  unfold MH at h
  have e := mg_head_b lt (xs := la.take na) (bs := lb.take 1) (ys := []) fun b hb z hz => by
    rw [take_at hy, List.take_zero, List.nil_append] at hb
    rw [List.mem_singleton.mp hb]
    exact hl z (List.mem_of_mem_take hz)
  rw [List.append_nil, mg_nil'] at e
  rw [← h, e]
end
end TW
end

section
set_option Elab.async false
set_option linter.all false
set_option maxRecDepth 100000
set_option maxHeartbeats 4000000
namespace L2
open PySem PySem.Spec PyProof.Rows
def gallopX : Bool → Keyed → Array Keyed → Nat → Nat → Nat → StateT SortSt Sem (Option Nat) := sortPriv% PySem.Builtin.gallop
def beyX (left : Bool) (key : Keyed) (arr : Array Keyed) (base i : Nat) : StateT SortSt Sem (Option Bool) := do
  let x ← elem' arr (base + i)
  if left = true then lt' x key else do
    let r ← lt' key x
    pure (r.map fun x => !x)
section
variable {prog : Program} {w : World} {A : Around} {E : Value → Shared → Prop} {s : Shared}
def LtOk (prog : Program) (w : World) (A : Around) (E : Value → Shared → Prop) (s : Shared) (kd : SortKind) (P : Keyed → Prop) (blt : Keyed → Keyed → Bool) : Prop :=
  ∀ (x y : Keyed) (st : SortSt) (Q : Option Bool → SortSt → Prop), P x → P y → kindOf st = kd → Q (some (blt x y)) st → wpS (model prog w) A E s (lt' x y) Q st
theorem wpS_elem {arr : Array Keyed} {i : Nat} {p : Keyed} {st : SortSt} {Q : Keyed → SortSt → Prop} (e : arr[i]? = some p) (h : Q p st) : wpS (model prog w) A E s (elem' arr i) Q st := by
  rw [elem'_eq, e]
  exact wpS_pure h
variable {kd : SortKind} {P : Keyed → Prop} {blt : Keyed → Keyed → Bool} (L : LtOk prog w A E s kd P blt)
include L
def beyB (blt : Keyed → Keyed → Bool) (left : Bool) (key x : Keyed) : Bool := if left = true then blt x key else !(blt key x)
theorem wpS_bey {left : Bool} {key x : Keyed} {arr : Array Keyed} {base i : Nat} {st : SortSt} {Q : Option Bool → SortSt → Prop} (hk : kindOf st = kd) (hP : P key) (hx : arr[base + i]? = some x) (hPx : P x) (h : Q (some (beyB blt left key x)) st) :
    wpS (model prog w) A E s (beyX left key arr base i) Q st := by
  unfold beyX
  refine wpS_bind (wpS_elem hx ?_)
  cases left with
  | true => exact L _ _ _ _ hPx hP hk h
  | false => exact wpS_bind (L _ _ _ _ hP hPx hk (wpS_pure h))
theorem wpS_gallop {left : Bool} {key : Keyed} {arr : Array Keyed} {base n hint : Nat} {bey : Nat → Bool} {st : SortSt} {Q : Option Nat → SortSt → Prop} (hk : kindOf st = kd) (hP : P key) (hh : hint < n)
    (hb : ∀ i, i < n → ∃ x, arr[base + i]? = some x ∧ P x ∧ beyB blt left key x = bey i) (mono : ∀ i j, i ≤ j → j < n → bey j = true → bey i = true)
    (h : ∀ c, c ≤ n → (∀ i, i < c → bey i = true) → (∀ i, c ≤ i → i < n → bey i = false) → Q (some c) st) : wpS (model prog w) A E s (gallopX left key arr base n hint) Q st := by
  have hB : ∀ (i : Nat) (R : Option Bool → SortSt → Prop), i < n → R (some (bey i)) st → wpS (model prog w) A E s (beyX left key arr base i) R st := fun i R hi r => by
    obtain ⟨x, e1, e2, e3⟩ := hb i hi
    exact wpS_bey L hk hP e1 e2 (by rw [e3]; exact r)
  have monoF : ∀ i j, i ≤ j → j < n → bey i = false → bey j = false := fun i j h1 h2 h3 => by
    cases e : bey j with
    | false => rfl
    | true => rw [mono i j h1 h2 e] at h3; cases h3
  refine wpS_bind (hB hint _ hh ?_)
  dsimp only
  -- the last part: halving
  have last : ∀ (lo hi : Nat) (F : Nat → Option (Option Nat) × Nat × Nat → StateT SortSt Sem (ForInStep (Option (Option Nat) × Nat × Nat))),
      (∀ x lo hi, F x (none, lo, hi) = if lo ≥ hi then pure (ForInStep.done (none, lo, hi)) else do
        let r ← beyX left key arr base (lo + (hi - lo) / 2)
        match r with
        | some more => if more = true then pure (ForInStep.yield (none, lo + (hi - lo) / 2 + 1, hi)) else pure (ForInStep.yield (none, lo, lo + (hi - lo) / 2))
        | x => pure (ForInStep.done (some none, lo, hi))) →
      lo ≤ hi → hi ≤ n → (∀ i, i < lo → bey i = true) → (∀ i, hi ≤ i → i < n → bey i = false) →
      wpS (model prog w) A E s (forIn [:n] (none, lo, hi) F) (fun r st' => r.1 = none ∧ st' = st ∧ r.2.2 ≤ n ∧ (∀ i, i < r.2.2 → bey i = true) ∧ (∀ i, r.2.2 ≤ i → i < n → bey i = false)) st := by
    intro lo hi F hF hle hin h1 h2
    refine wpS_forRange (I := fun x c st' => ∃ lo hi, c = (none, lo, hi) ∧ st' = st ∧ lo ≤ hi ∧ hi ≤ n ∧ hi - lo + x ≤ n ∧ (∀ i, i < lo → bey i = true) ∧ (∀ i, hi ≤ i → i < n → bey i = false)) ?_ ?_ ⟨lo, hi, rfl, rfl, hle, hin, by omega, h1, h2⟩
    · rintro x c st' _ hx ⟨lo, hi, rfl, rfl, hle, hin, hd, h1, h2⟩
      rw [hF]
      by_cases hge : lo ≥ hi
      · rw [if_pos hge]
        exact wpS_pure ⟨rfl, rfl, hin, fun i hi' => h1 i (by dsimp only at hi'; omega), h2⟩
      · rw [if_neg hge]
        refine wpS_bind (hB _ _ (by omega) ?_)
        dsimp only
        cases e : bey (lo + (hi - lo) / 2) with
        | true =>
          rw [if_pos rfl]
          exact wpS_pure ⟨_, _, rfl, rfl, by omega, hin, by omega, fun i hi' => mono i _ (by omega) (by omega) e, h2⟩
        | false =>
          rw [if_neg (by decide)]
          exact wpS_pure ⟨_, _, rfl, rfl, by omega, by omega, by omega, h1, fun i hi1 hi2 => monoF _ i hi1 hi2 e⟩
    · rintro c st' ⟨lo, hi, rfl, rfl, hle, hin, hd, h1, h2⟩
      have : max 0 n = n := by omega
      rw [this] at hd
      exact ⟨rfl, rfl, hin, fun i hi' => h1 i (by dsimp only at hi'; omega), h2⟩
  cases e0 : bey hint with
  | true =>
    rw [if_pos rfl]
    refine wpS_bind (wpS_mono (wpS_forRange (I := fun x c st' => ∃ lo of, c = (none, lo, of) ∧ st' = st ∧ lo < of ∧ x + 1 ≤ of ∧ lo < n - hint ∧ bey (hint + lo) = true)
      (Q := fun c st' => ∃ lo of, c = (none, lo, of) ∧ st' = st ∧ lo < of ∧ lo < n - hint ∧ bey (hint + lo) = true ∧ (n - hint ≤ of ∨ (of < n - hint ∧ bey (hint + of) = false))) ?_ ?_ ⟨0, 1, rfl, rfl, by omega, by omega, by omega, e0⟩) ?_)
    · rintro x c st' _ hx ⟨lo, of, rfl, rfl, h1, h2, h3, h4⟩
      dsimp only
      by_cases hge : of ≥ n - hint
      · rw [if_pos hge]
        exact wpS_pure ⟨lo, of, rfl, rfl, h1, h3, h4, .inl hge⟩
      · rw [if_neg hge]
        refine wpS_bind (hB _ _ (by omega) ?_)
        dsimp only
        cases e : bey (hint + of) with
        | true => exact wpS_pure ⟨of, 2 * of + 1, rfl, rfl, by omega, by omega, by omega, e⟩
        | false => exact wpS_pure ⟨lo, of, rfl, rfl, h1, h3, h4, .inr ⟨by omega, e⟩⟩
    · rintro c st' ⟨lo, of, rfl, rfl, h1, h2, h3, h4⟩
      exact ⟨lo, of, rfl, rfl, h1, h3, h4, .inl (by have : max 0 n = n := by omega
                                                    omega)⟩
    · rintro c st' ⟨lo, of, rfl, rfl, h1, h3, h4, h5⟩
      dsimp only
      refine wpS_bind (wpS_mono (last _ _ _ (fun x lo hi => rfl) ?_ ?_ ?_ ?_) ?_)
      · omega
      · omega
      · intro i hi
        exact mono i (hint + lo) (by omega) (by omega) h4
      · intro i hi1 hi2
        rcases h5 with h5 | ⟨h5, h6⟩
        · omega
        · exact monoF (hint + of) i (by omega) hi2 h6
      · rintro ⟨r, lo2, hi2⟩ st' ⟨e1, e2, e3, e4, e5⟩
        dsimp only at e1 e2 e3 e4 e5
        subst e1 e2
        exact wpS_pure (h hi2 e3 e4 e5)
  | false =>
    rw [if_neg (by decide)]
    refine wpS_bind (wpS_mono (wpS_forRange (I := fun x c st' => ∃ lo of, c = (none, lo, of) ∧ st' = st ∧ lo < of ∧ x + 1 ≤ of ∧ lo < hint + 1 ∧ bey (hint - lo) = false)
      (Q := fun c st' => ∃ lo of, c = (none, lo, of) ∧ st' = st ∧ lo < of ∧ lo < hint + 1 ∧ bey (hint - lo) = false ∧ (hint + 1 ≤ of ∨ (of < hint + 1 ∧ bey (hint - of) = true))) ?_ ?_ ⟨0, 1, rfl, rfl, by omega, by omega, by omega, e0⟩) ?_)
    · rintro x c st' _ hx ⟨lo, of, rfl, rfl, h1, h2, h3, h4⟩
      dsimp only
      by_cases hge : of ≥ hint + 1
      · rw [if_pos hge]
        exact wpS_pure ⟨lo, of, rfl, rfl, h1, h3, h4, .inl hge⟩
      · rw [if_neg hge]
        refine wpS_bind (hB _ _ (by omega) ?_)
        dsimp only
        cases e : bey (hint - of) with
        | true => exact wpS_pure ⟨lo, of, rfl, rfl, h1, h3, h4, .inr ⟨by omega, e⟩⟩
        | false => exact wpS_pure ⟨of, 2 * of + 1, rfl, rfl, by omega, by omega, by omega, e⟩
    · rintro c st' ⟨lo, of, rfl, rfl, h1, h2, h3, h4⟩
      exact ⟨lo, of, rfl, rfl, h1, h3, h4, .inl (by have : max 0 n = n := by omega
                                                    omega)⟩
    · rintro c st' ⟨lo, of, rfl, rfl, h1, h3, h4, h5⟩
      dsimp only
      refine wpS_bind (wpS_mono (last _ _ _ (fun x lo hi => rfl) ?_ ?_ ?_ ?_) ?_)
      · omega
      · omega
      · intro i hi
        rcases h5 with h5 | ⟨h5, h6⟩
        · omega
        · exact mono i (hint - of) (by omega) (by omega) h6
      · intro i hi1 hi2
        exact monoF (hint - lo) i (by omega) hi2 h4
      · rintro ⟨r, lo2, hi2⟩ st' ⟨e1, e2, e3, e4, e5⟩
        dsimp only at e1 e2 e3 e4 e5
        subst e1 e2
        exact wpS_pure (h hi2 e3 e4 e5)
end
end L2
end

section
set_option Elab.async false
set_option linter.all false
set_option maxRecDepth 100000
set_option maxHeartbeats 4000000
namespace L2
open PySem PySem.Spec PyProof.Rows TW
structure Keep (S : Prop) : Prop where
  h : S
theorem two_ways {c S T : Prop} [Decidable c] (h1 : Keep S → c → T) (h2 : Keep S → ¬ c → T) (h : S) : T := (Decidable.em c).elim (h1 ⟨h⟩) (h2 ⟨h⟩)
def mergeLoX : Array Keyed → Array Keyed → StateT SortSt Sem (Array Keyed) := sortPriv% PySem.Builtin.mergeLo
abbrev setG (st : SortSt) (g : Nat) : SortSt := SortSt.mk' (kindOf st) (arrOf st) (pendingOf st) g (failedOf st)
theorem ar_push (out : Array Keyed) (x : Keyed) : (out.push x).toList = out.toList ++ [x] := Array.toList_push ..
theorem ar_ext (out a : Array Keyed) (i k : Nat) : (out ++ a.extract i (i + k)).toList = out.toList ++ (a.toList.drop i).take k := by
  rw [Array.toList_append, Array.toList_extract, List.extract_eq_take_drop]
  congr 2
  omega
theorem ar_rest (a : Array Keyed) (i : Nat) : (a.extract i a.size).toList = a.toList.drop i := by
  rw [Array.toList_extract, List.extract_eq_take_drop, List.take_of_length_le (by rw [List.length_drop, Array.length_toList]; exact Nat.le_refl _)]
theorem ar_at {a : Array Keyed} {i : Nat} {x : Keyed} (h : a[i]? = some x) : a.toList[i]? = some x := by rw [Array.getElem?_toList]; exact h
theorem ar_get {a : Array Keyed} {i : Nat} (h : i < a.size) : ∃ x, a[i]? = some x := ⟨_, Array.getElem?_eq_getElem h⟩
section
variable {prog : Program} {w : World} {A : Around} {E : Value → Shared → Prop} {s : Shared}
theorem wpS_setG {g : Nat} {st : SortSt} {Q : Unit → SortSt → Prop} (h : Q () (setG st g)) : wpS (model prog w) A E s ((sortPriv% PySem.Builtin.setMinGallop) g) Q st := wpS_modify h
variable {kd : SortKind} {P : Keyed → Prop} {blt : Keyed → Keyed → Bool} (L : LtOk prog w A E s kd P blt) (o : Swo blt)
include L o
theorem wpS_mergeLo {a b : Array Keyed} {st : SortSt} {Q : Array Keyed → SortSt → Prop} (hk : kindOf st = kd) (ha : 0 < a.size) (hb : 0 < b.size) (pa : ∀ x ∈ a.toList, P x) (pb : ∀ x ∈ b.toList, P x) (sa : Srt blt a.toList) (sb : Srt blt b.toList)
    (hf : ∀ x y, a[0]? = some x → b[0]? = some y → blt y x = true) (hl : ∀ x, a[a.size - 1]? = some x → ∀ y ∈ b.toList, blt y x = true)
    (h : ∀ r g, r.toList = mg blt a.toList b.toList → Q r (setG st g)) : wpS (model prog w) A E s (mergeLoX a b) Q st := by
  have la : a.toList.length = a.size := Array.length_toList
  have lb : b.toList.length = b.size := Array.length_toList
  have PA : ∀ {i x}, a[i]? = some x → P x := fun e => pa _ (List.mem_of_getElem? (ar_at e))
  have PB : ∀ {i x}, b[i]? = some x → P x := fun e => pb _ (List.mem_of_getElem? (ar_at e))
  obtain ⟨b0, eb0⟩ := ar_get hb
  obtain ⟨a0, ea0⟩ := ar_get ha
  have h0 : MI blt a.toList b.toList [b0] 0 1 := (show MI blt a.toList b.toList [] 0 0 from rfl).b (ar_at ea0) (ar_at eb0) (hf _ _ ea0 eb0)
  have fin1 : ∀ {out : Array Keyed} {ia ib : Nat}, MI blt a.toList b.toList out.toList ia ib → b.size ≤ ib → (out ++ a.extract ia a.size ++ b.extract ib b.size).toList = mg blt a.toList b.toList := fun m e => by
    rw [Array.toList_append, Array.toList_append, ar_rest, ar_rest]
    exact m.doneB (by rw [lb]; exact e)
  have fin2 : ∀ {out : Array Keyed} {ia ib : Nat}, MI blt a.toList b.toList out.toList ia ib → a.size ≤ ia → (out ++ a.extract ia a.size ++ b.extract ib b.size).toList = mg blt a.toList b.toList := fun m e => by
    rw [Array.toList_append, Array.toList_append, ar_rest, ar_rest]
    exact m.doneA (by rw [la]; exact e)
  have fin3 : ∀ {out : Array Keyed} {ia ib : Nat}, MI blt a.toList b.toList out.toList ia ib → ia + 1 = a.size → (out ++ b.extract ib b.size ++ a.extract ia a.size).toList = mg blt a.toList b.toList := fun {out ia ib} m e => by
    obtain ⟨x, ex⟩ := ar_get (show ia < a.size by omega)
    rw [Array.toList_append, Array.toList_append, ar_rest, ar_rest]
    exact m.lastA (ar_at ex) (by rw [la]; omega) (hl x (by rw [← e]; exact ex))
  refine wpS_bind (wpS_lift (wpAny_rule ⟨rfl, ?_⟩))
  try dsimp only
  refine wpS_bind (wpS_elem eb0 ?_)
  try dsimp only
  by_cases c1 : (1 == b.size) = true
  · rw [if_pos c1]
    exact wpS_pure (h _ (gallopOf st) (fin1 (out := #[b0]) h0 (by rw [beq_iff_eq] at c1; omega)))
  rw [if_neg c1]
  by_cases c2 : (0 + 1 == a.size) = true
  · rw [if_pos c2]
    exact wpS_pure (h _ (gallopOf st) (fin3 (out := #[b0]) h0 (by rw [beq_iff_eq] at c2; omega)))
  rw [if_neg c2]
  rw [beq_iff_eq] at c1 c2
  refine wpS_bind (wpS_get ?_)
  refine wpS_bind (wpS_mono (wpS_forRange
    (I := fun x c st' => ∃ (out : Array Keyed) (ia ib g g' : Nat), c = (none, out, ia, ib, g) ∧ st' = setG st g' ∧ MI blt a.toList b.toList out.toList ia ib ∧ ia + 1 < a.size ∧ ib < b.size ∧ x ≤ ia + ib)
    (Q := fun c st' => ∃ (r : Array Keyed) (g' : Nat), c.1 = some r ∧ st' = setG st g' ∧ r.toList = mg blt a.toList b.toList) ?_ ?_ ⟨#[b0], 0, 1, _, gallopOf st, rfl, rfl, h0, by omega, by omega, Nat.zero_le _⟩) ?_)
  · rintro x c st' _ hx ⟨out, ia, ib, g, g', rfl, rfl, m, hia, hib, hpr⟩
    try dsimp only
    refine wpS_bind (wpS_mono (wpS_forRange
      (I := fun y c st' => ∃ (out : Array Keyed) (ia' ib' ac bc : Nat), c = (none, out, ia', ib', ac, bc) ∧ st' = setG st g' ∧ MI blt a.toList b.toList out.toList ia' ib' ∧ ia' + 1 < a.size ∧ ib' < b.size ∧ y + (ia + ib) ≤ ia' + ib')
      (Q := fun c st' => st' = setG st g' ∧ ((∃ r : Array Keyed, ∃ cc, c = (some r, cc) ∧ r.toList = mg blt a.toList b.toList) ∨ ∃ (out : Array Keyed) (ia' ib' ac bc : Nat), c = (none, out, ia', ib', ac, bc) ∧ MI blt a.toList b.toList out.toList ia' ib' ∧ ia' + 1 < a.size ∧ ib' < b.size ∧ ia + ib + 1 ≤ ia' + ib')) ?_ ?_ ⟨out, ia, ib, 0, 0, rfl, rfl, m, hia, hib, by omega⟩) ?_)
    · rintro y c st' _ hy ⟨out, ia, ib, ac, bc, rfl, rfl, m, hia, hib, hpr⟩
      try dsimp only
      obtain ⟨xa, ea⟩ := ar_get (show ia < a.size by omega)
      obtain ⟨xb, eb⟩ := ar_get hib
      refine wpS_bind (wpS_elem eb (wpS_bind (wpS_elem ea (wpS_bind (L _ _ _ _ (PB eb) (PA ea) hk ?_)))))
      try dsimp only
      cases hlt : blt xb xa with
      | true =>
        rw [if_pos rfl]
        refine wpS_bind (wpS_elem eb ?_)
        try dsimp only
        have m' : MI blt a.toList b.toList (out.push xb).toList ia (ib + 1) := by rw [ar_push]; exact m.b (ar_at ea) (ar_at eb) hlt
        by_cases c3 : (ib + 1 == b.size) = true
        · rw [if_pos c3]
          exact wpS_pure ⟨rfl, .inl ⟨_, _, rfl, fin1 m' (by rw [beq_iff_eq] at c3; omega)⟩⟩
        · rw [if_neg c3]
          rw [beq_iff_eq] at c3
          by_cases c4 : bc + 1 ≥ g
          · rw [if_pos c4]
            exact wpS_pure ⟨rfl, .inr ⟨_, _, _, _, _, rfl, m', hia, by omega, by omega⟩⟩
          · rw [if_neg c4]
            exact wpS_pure ⟨_, _, _, _, _, rfl, rfl, m', hia, by omega, by omega⟩
      | false =>
        rw [if_neg (by decide)]
        refine wpS_bind (wpS_elem ea ?_)
        try dsimp only
        have m' : MI blt a.toList b.toList (out.push xa).toList (ia + 1) ib := by rw [ar_push]; exact m.a (ar_at ea) (ar_at eb) hlt
        by_cases c3 : (ia + 1 + 1 == a.size) = true
        · rw [if_pos c3]
          exact wpS_pure ⟨rfl, .inl ⟨_, _, rfl, fin3 m' (by rw [beq_iff_eq] at c3; omega)⟩⟩
        · rw [if_neg c3]
          rw [beq_iff_eq] at c3
          by_cases c4 : ac + 1 ≥ g
          · rw [if_pos c4]
            exact wpS_pure ⟨rfl, .inr ⟨_, _, _, _, _, rfl, m', by omega, hib, by omega⟩⟩
          · rw [if_neg c4]
            exact wpS_pure ⟨_, _, _, _, _, rfl, rfl, m', by omega, hib, by omega⟩
    · rintro c st' ⟨out, ia', ib', ac, bc, rfl, rfl, m, hia', hib', hpr'⟩
      exfalso
      have : max 0 (a.size + b.size) = a.size + b.size := by omega
      omega
    · rintro c st' ⟨rfl, ⟨r, cc, rfl, hr⟩ | ⟨out, ia1, ib1, ac, bc, rfl, m1, hia1, hib1, hpr1⟩⟩
      · dsimp only
        exact wpS_pure ⟨r, g', rfl, rfl, hr⟩
      · dsimp only
        refine wpS_bind (wpS_lift (wpAny_rule ⟨rfl, ?_⟩))
        try dsimp only
        refine wpS_bind (wpS_mono (wpS_forRange
          (I := fun y c st' => ∃ (out : Array Keyed) (ia' ib' mg' ac bc g2 : Nat), c = (none, out, ia', ib', mg', ac, bc) ∧ st' = setG st g2 ∧ MI blt a.toList b.toList out.toList ia' ib' ∧ ia' + 1 < a.size ∧ ib' < b.size ∧ y + (ia1 + ib1) ≤ ia' + ib')
          (Q := fun c st' => ∃ g2, st' = setG st g2 ∧ ((∃ r : Array Keyed, ∃ cc, c = (some r, cc) ∧ r.toList = mg blt a.toList b.toList) ∨ ∃ (out : Array Keyed) (ia' ib' mg' ac bc : Nat), c = (none, out, ia', ib', mg', ac, bc) ∧ MI blt a.toList b.toList out.toList ia' ib' ∧ ia' + 1 < a.size ∧ ib' < b.size ∧ ia1 + ib1 ≤ ia' + ib')) ?_ ?_ ⟨out, ia1, ib1, _, ac, bc, g', rfl, rfl, m1, hia1, hib1, by omega⟩) ?_)
        · rintro y c st' _ hy ⟨out, ia, ib, mg', ac, bc, g2, rfl, rfl, m, hia, hib, hpr⟩
          try dsimp only
          obtain ⟨xb, eb⟩ := ar_get hib
          apply two_ways (c := mg' > 1)
          case h1 =>
            intro key cg
            rw [if_pos cg]
            generalize mg' - 1 = mg2
            revert mg2
            exact key.h
          case h2 =>
            intro key cg
            rw [if_neg cg]
            generalize mg' = mg2
            revert mg2
            exact key.h
          case h =>
            intro mg2
            refine wpS_bind (wpS_setG (wpS_bind (wpS_elem eb ?_)))
            have gb : ∀ i, i < a.size - ia → ∃ x, a[ia + i]? = some x ∧ P x ∧ beyB blt false xb x = (fun i => match a[ia + i]? with | some x => !(blt xb x) | none => false) i := fun i hi => by
              obtain ⟨x, ex⟩ := ar_get (show ia + i < a.size by omega)
              exact ⟨x, ex, PA ex, by dsimp only; rw [ex]; rfl⟩
            have gm : ∀ i j, i ≤ j → j < a.size - ia → (fun i => match a[ia + i]? with | some x => !(blt xb x) | none => false) j = true → (fun i => match a[ia + i]? with | some x => !(blt xb x) | none => false) i = true := fun i j hij hj e => by
              obtain ⟨x, ex⟩ := ar_get (show ia + i < a.size by omega)
              obtain ⟨z, ez⟩ := ar_get (show ia + j < a.size by omega)
              try dsimp only at e ⊢
              rw [ex]
              rw [ez] at e
              try dsimp only at e ⊢
              cases e1 : blt xb x with
              | false => rfl
              | true =>
                have := o.ltle e1 (srt_le o sa (show ia + i ≤ ia + j by omega) (ar_at ex) (ar_at ez))
                rw [this] at e
                cases e
            refine wpS_bind (wpS_gallop L hk (PB eb) (show 0 < a.size - ia by omega) gb gm (fun c hc1 hc2 hc3 => ?_))
            have hA1 : ∀ i x, i < c → a.toList[ia + i]? = some x → blt xb x = false := fun i x hi ex => by
              rw [Array.getElem?_toList] at ex
              have := hc2 i hi
              try dsimp only at this
              rw [ex] at this
              simpa using this
            have hA2 : ∀ i x, c ≤ i → a[ia + i]? = some x → blt xb x = true := fun i x hi ex => by
              have hl := (Array.getElem?_eq_some_iff.mp ex).1
              have := hc3 i hi (by omega)
              try dsimp only at this
              rw [ex] at this
              simpa using this
            have m2 : MI blt a.toList b.toList (out ++ a.extract ia (ia + c)).toList (ia + c) ib := by rw [ar_ext]; exact m.as o sb (ar_at eb) hA1
            try dsimp only
            apply two_ways (c := c > 0)
            case h1 =>
              intro key hc0
              rw [if_pos hc0]
              by_cases c5 : (ia + c + 1 == a.size) = true
              · rw [if_pos c5]
                exact wpS_pure ⟨_, rfl, .inl ⟨_, _, rfl, fin3 m2 (by rw [beq_iff_eq] at c5; omega)⟩⟩
              rw [if_neg c5]
              by_cases c6 : (ia + c == a.size) = true
              · rw [if_pos c6]
                exact wpS_pure ⟨_, rfl, .inl ⟨_, _, rfl, fin2 m2 (by rw [beq_iff_eq] at c6; omega)⟩⟩
              rw [if_neg c6]
              rw [beq_iff_eq] at c5 c6
              have hi2 : ia + c + 1 < a.size := by omega
              have hA3 : ∀ x, a[ia + c]? = some x → blt xb x = true := fun x ex => hA2 c x (Nat.le_refl _) ex
              have hp2 : y + (ia1 + ib1) ≤ ia + c + ib := by omega
              have m2 := m2
              revert hp2 hA3 hi2 m2
              generalize out ++ a.extract ia (ia + c) = out2
              generalize ia + c = ia2
              revert ia2 out2
              exact key.h
            case h2 =>
              intro key hc0
              rw [if_neg hc0]
              have e0 : c = 0 := by omega
              have hi2 : ia + 1 < a.size := by omega
              have hA3 : ∀ x, a[ia]? = some x → blt xb x = true := fun x ex => hA2 0 x (by omega) ex
              have hp2 : y + (ia1 + ib1) ≤ ia + ib := by omega
              clear m2
              have m2 := m
              revert hp2 hA3 hi2 m2
              generalize out = out2
              generalize ia = ia2
              revert ia2 out2
              exact key.h
            case h =>
              intro out2 ia2 hi2 hA3 hp2 m2
              obtain ⟨xa, ea⟩ := ar_get (show ia2 < a.size by omega)
              refine wpS_bind (wpS_elem eb ?_)
              have m3 : MI blt a.toList b.toList (out2.push xb).toList ia2 (ib + 1) := by rw [ar_push]; exact m2.b (ar_at ea) (ar_at eb) (hA3 xa ea)
              try dsimp only
              by_cases c7 : (ib + 1 == b.size) = true
              · rw [if_pos c7]
                exact wpS_pure ⟨_, rfl, .inl ⟨_, _, rfl, fin1 m3 (by rw [beq_iff_eq] at c7; omega)⟩⟩
              rw [if_neg c7]
              rw [beq_iff_eq] at c7
              refine wpS_bind (wpS_elem ea ?_)
              have gb : ∀ i, i < b.size - (ib + 1) → ∃ x, b[ib + 1 + i]? = some x ∧ P x ∧ beyB blt true xa x = (fun i => match b[ib + 1 + i]? with | some x => blt x xa | none => false) i := fun i hi => by
                obtain ⟨x, ex⟩ := ar_get (show ib + 1 + i < b.size by omega)
                exact ⟨x, ex, PB ex, by dsimp only; rw [ex]; rfl⟩
              have gm : ∀ i j, i ≤ j → j < b.size - (ib + 1) → (fun i => match b[ib + 1 + i]? with | some x => blt x xa | none => false) j = true → (fun i => match b[ib + 1 + i]? with | some x => blt x xa | none => false) i = true := fun i j hij hj e => by
                obtain ⟨x, ex⟩ := ar_get (show ib + 1 + i < b.size by omega)
                obtain ⟨z, ez⟩ := ar_get (show ib + 1 + j < b.size by omega)
                try dsimp only at e ⊢
                rw [ex]
                rw [ez] at e
                try dsimp only at e ⊢
                exact o.lelt (srt_le o sb (show ib + 1 + i ≤ ib + 1 + j by omega) (ar_at ex) (ar_at ez)) e
              refine wpS_bind (wpS_gallop L hk (PA ea) (show 0 < b.size - (ib + 1) by omega) gb gm (fun d hd1 hd2 hd3 => ?_))
              have hB1 : ∀ i x, i < d → b.toList[ib + 1 + i]? = some x → blt x xa = true := fun i x hi ex => by
                rw [Array.getElem?_toList] at ex
                have := hd2 i hi
                try dsimp only at this
                rw [ex] at this
                exact this
              have hB2 : ∀ i x, d ≤ i → b[ib + 1 + i]? = some x → blt x xa = false := fun i x hi ex => by
                have hl := (Array.getElem?_eq_some_iff.mp ex).1
                have := hd3 i hi (by omega)
                try dsimp only at this
                rw [ex] at this
                exact this
              have m4 : MI blt a.toList b.toList (out2.push xb ++ b.extract (ib + 1) (ib + 1 + d)).toList ia2 (ib + 1 + d) := by rw [ar_ext]; exact m3.bs o sa (ar_at ea) hB1
              try dsimp only
              apply two_ways (c := d > 0)
              case h1 =>
                intro key hd0
                rw [if_pos hd0]
                by_cases c8 : (ib + 1 + d == b.size) = true
                · rw [if_pos c8]
                  exact wpS_pure ⟨_, rfl, .inl ⟨_, _, rfl, fin1 m4 (by rw [beq_iff_eq] at c8; omega)⟩⟩
                rw [if_neg c8]
                rw [beq_iff_eq] at c8
                have hi4 : ib + 1 + d < b.size := by omega
                have hB3 : ∀ x, b[ib + 1 + d]? = some x → blt x xa = false := fun x ex => hB2 d x (Nat.le_refl _) ex
                have hp4 : y + (ia1 + ib1) + 1 ≤ ia2 + (ib + 1 + d) := by omega
                have m4 := m4
                revert hp4 hB3 hi4 m4
                generalize out2.push xb ++ b.extract (ib + 1) (ib + 1 + d) = out4
                generalize ib + 1 + d = ib4
                revert ib4 out4
                exact key.h
              case h2 =>
                intro key hd0
                rw [if_neg hd0]
                have hi4 : ib + 1 < b.size := by omega
                have hB3 : ∀ x, b[ib + 1]? = some x → blt x xa = false := fun x ex => hB2 0 x (by omega) ex
                have hp4 : y + (ia1 + ib1) + 1 ≤ ia2 + (ib + 1) := by omega
                clear m4
                have m4 := m3
                revert hp4 hB3 hi4 m4
                generalize out2.push xb = out4
                generalize ib + 1 = ib4
                revert ib4 out4
                exact key.h
              case h =>
                intro out4 ib4 hi4 hB3 hp4 m4
                obtain ⟨xb4, eb4⟩ := ar_get hi4
                refine wpS_bind (wpS_elem ea ?_)
                have m5 : MI blt a.toList b.toList (out4.push xa).toList (ia2 + 1) ib4 := by rw [ar_push]; exact m4.a (ar_at ea) (ar_at eb4) (hB3 xb4 eb4)
                try dsimp only
                by_cases c9 : (ia2 + 1 + 1 == a.size) = true
                · rw [if_pos c9]
                  exact wpS_pure ⟨_, rfl, .inl ⟨_, _, rfl, fin3 m5 (by rw [beq_iff_eq] at c9; omega)⟩⟩
                rw [if_neg c9]
                rw [beq_iff_eq] at c9
                by_cases c10 : (decide (c < 7) && decide (d < 7)) = true
                · rw [if_pos c10]
                  exact wpS_pure ⟨_, rfl, .inr ⟨_, _, _, _, _, _, rfl, m5, by omega, hi4, by omega⟩⟩
                · rw [if_neg c10]
                  exact wpS_pure ⟨_, _, _, _, _, _, _, rfl, rfl, m5, by omega, hi4, by omega⟩
        · rintro c st' ⟨out, ia', ib', mg', ac, bc, g2, rfl, rfl, m, hia', hib', hpr'⟩
          exfalso
          have : max 0 (a.size + b.size) = a.size + b.size := by omega
          omega
        · rintro c st' ⟨g2, rfl, ⟨r, cc, rfl, hr⟩ | ⟨out, ia2, ib2, mg2, ac, bc, rfl, m2, hia2, hib2, hpr2⟩⟩
          · dsimp only
            exact wpS_pure ⟨r, g2, rfl, rfl, hr⟩
          · dsimp only
            refine wpS_bind (wpS_setG (wpS_pure ⟨_, _, _, _, _, rfl, rfl, m2, hia2, hib2, by omega⟩))
  · rintro c st' ⟨out, ia, ib, g, g', rfl, rfl, m, hia, hib, hpr⟩
    exfalso
    have : max 0 (a.size + b.size) = a.size + b.size := by omega
    omega
  · rintro ⟨c, cc⟩ st' ⟨r, g', e, rfl, hr⟩
    try dsimp only at e
    subst e
    try dsimp only
    exact wpS_pure (h r g' hr)
end
end L2
end

section
set_option Elab.async false
set_option linter.all false
set_option maxRecDepth 100000
set_option maxHeartbeats 4000000
namespace L2
open PySem PySem.Spec PyProof.Rows TW
def mergeHiX : Array Keyed → Array Keyed → StateT SortSt Sem (Array Keyed) := sortPriv% PySem.Builtin.mergeHi
theorem ar_fore (a : Array Keyed) (n : Nat) : (a.extract 0 n).toList = a.toList.take n := by
  rw [Array.toList_extract, List.extract_eq_take_drop, List.drop_zero, Nat.sub_zero]
theorem ar_rev (out a : Array Keyed) (c n : Nat) : (out ++ (a.extract c n).reverse).toList = out.toList ++ ((a.toList.drop c).take (n - c)).reverse := by
  rw [Array.toList_append, Array.toList_reverse, Array.toList_extract, List.extract_eq_take_drop]
section
variable {prog : Program} {w : World} {A : Around} {E : Value → Shared → Prop} {s : Shared}
variable {kd : SortKind} {P : Keyed → Prop} {blt : Keyed → Keyed → Bool} (L : LtOk prog w A E s kd P blt) (o : Swo blt)
include L o
theorem wpS_mergeHi {a b : Array Keyed} {st : SortSt} {Q : Array Keyed → SortSt → Prop} (hk : kindOf st = kd) (ha : 0 < a.size) (hb : 0 < b.size) (pa : ∀ x ∈ a.toList, P x) (pb : ∀ x ∈ b.toList, P x) (sa : Srt blt a.toList) (sb : Srt blt b.toList)
    (hf : ∀ y, b[0]? = some y → ∀ x ∈ a.toList, blt y x = true) (hl : ∀ x, a[a.size - 1]? = some x → ∀ y ∈ b.toList, blt y x = true)
    (h : ∀ r g, r.toList = mg blt a.toList b.toList → Q r (setG st g)) : wpS (model prog w) A E s (mergeHiX a b) Q st := by
  have la : a.toList.length = a.size := Array.length_toList
  have lb : b.toList.length = b.size := Array.length_toList
  have PA : ∀ {i x}, a[i]? = some x → P x := fun e => pa _ (List.mem_of_getElem? (ar_at e))
  have PB : ∀ {i x}, b[i]? = some x → P x := fun e => pb _ (List.mem_of_getElem? (ar_at e))
  obtain ⟨b0, eb0⟩ := ar_get hb
  obtain ⟨al, eal⟩ := ar_get (show a.size - 1 < a.size by omega)
  have h0 : MH blt a.toList b.toList [al] (a.size - 1) b.size := by
    have e := mg_tail_a blt (as := [al]) (a.toList.take (a.size - 1)) b.toList fun x hx y hy => by rw [List.mem_singleton.mp hx]; exact hl al eal y hy
    rw [← take_at (ar_at eal), Nat.sub_add_cancel ha, ← la, List.take_length] at e
    unfold MH
    rw [← lb, List.take_length, e, la]
    rfl
  have finA : ∀ {out : Array Keyed} {na nb : Nat}, MH blt a.toList b.toList out.toList na nb → na = 0 → (a.extract 0 na ++ b.extract 0 nb ++ out.reverse).toList = mg blt a.toList b.toList := fun m e => by
    subst e
    rw [Array.toList_append, Array.toList_append, ar_fore, ar_fore, Array.toList_reverse]
    exact m.doneA
  have finB : ∀ {out : Array Keyed} {na nb : Nat}, MH blt a.toList b.toList out.toList na nb → nb = 0 → (a.extract 0 na ++ b.extract 0 nb ++ out.reverse).toList = mg blt a.toList b.toList := fun m e => by
    subst e
    rw [Array.toList_append, Array.toList_append, ar_fore, ar_fore, Array.toList_reverse]
    exact m.doneB
  have finF : ∀ {out : Array Keyed} {na nb : Nat}, MH blt a.toList b.toList out.toList na nb → nb = 1 → (b.extract 0 nb ++ a.extract 0 na ++ out.reverse).toList = mg blt a.toList b.toList := fun m e => by
    subst e
    rw [Array.toList_append, Array.toList_append, ar_fore, ar_fore, Array.toList_reverse]
    exact m.firstB (ar_at eb0) (hf b0 eb0)
  refine wpS_bind (wpS_lift (wpAny_rule ⟨rfl, ?_⟩))
  try dsimp only
  refine wpS_bind (wpS_elem eal ?_)
  try dsimp only
  by_cases c1 : (a.size - 1 == 0) = true
  · rw [if_pos c1]
    exact wpS_pure (h _ (gallopOf st) (finA (out := #[al]) h0 (by rw [beq_iff_eq] at c1; exact c1)))
  rw [if_neg c1]
  by_cases c2 : (b.size == 1) = true
  · rw [if_pos c2]
    exact wpS_pure (h _ (gallopOf st) (finF (out := #[al]) h0 (by rw [beq_iff_eq] at c2; exact c2)))
  rw [if_neg c2]
  rw [beq_iff_eq] at c1 c2
  refine wpS_bind (wpS_get ?_)
  refine wpS_bind (wpS_mono (wpS_forRange
    (I := fun x c st' => ∃ (out : Array Keyed) (na nb g g' : Nat), c = (none, na, nb, out, g) ∧ st' = setG st g' ∧ MH blt a.toList b.toList out.toList na nb ∧ 0 < na ∧ na ≤ a.size ∧ 1 < nb ∧ nb ≤ b.size ∧ x + (na + nb) ≤ a.size + b.size)
    (Q := fun c st' => ∃ (r : Array Keyed) (g' : Nat), c.1 = some r ∧ st' = setG st g' ∧ r.toList = mg blt a.toList b.toList) ?_ ?_ ⟨#[al], a.size - 1, b.size, _, gallopOf st, rfl, rfl, h0, by omega, by omega, by omega, by omega, by omega⟩) ?_)
  · rintro x c st' _ hx ⟨out, na, nb, g, g', rfl, rfl, m, hna, hna2, hnb, hnb2, hpr⟩
    try dsimp only
    refine wpS_bind (wpS_mono (wpS_forRange
      (I := fun y c st' => ∃ (out : Array Keyed) (na' nb' ac bc : Nat), c = (none, na', nb', out, ac, bc) ∧ st' = setG st g' ∧ MH blt a.toList b.toList out.toList na' nb' ∧ 0 < na' ∧ na' ≤ a.size ∧ 1 < nb' ∧ nb' ≤ b.size ∧ y + (na' + nb') ≤ na + nb)
      (Q := fun c st' => st' = setG st g' ∧ ((∃ r : Array Keyed, ∃ cc, c = (some r, cc) ∧ r.toList = mg blt a.toList b.toList) ∨ ∃ (out : Array Keyed) (na' nb' ac bc : Nat), c = (none, na', nb', out, ac, bc) ∧ MH blt a.toList b.toList out.toList na' nb' ∧ 0 < na' ∧ na' ≤ a.size ∧ 1 < nb' ∧ nb' ≤ b.size ∧ na' + nb' + 1 ≤ na + nb)) ?_ ?_ ⟨out, na, nb, 0, 0, rfl, rfl, m, hna, hna2, hnb, hnb2, by omega⟩) ?_)
    · rintro y c st' _ hy ⟨out, na, nb, ac, bc, rfl, rfl, m, hna, hna2, hnb, hnb2, hpr⟩
      try dsimp only
      obtain ⟨xa, ea⟩ := ar_get (show na - 1 < a.size by omega)
      obtain ⟨xb, eb⟩ := ar_get (show nb - 1 < b.size by omega)
      refine wpS_bind (wpS_elem eb (wpS_bind (wpS_elem ea (wpS_bind (L _ _ _ _ (PB eb) (PA ea) hk ?_)))))
      try dsimp only
      cases hlt : blt xb xa with
      | true =>
        rw [if_pos rfl]
        refine wpS_bind (wpS_elem ea ?_)
        try dsimp only
        have m' : MH blt a.toList b.toList (out.push xa).toList (na - 1) nb := by rw [ar_push]; exact m.a o sb hna (by omega) (ar_at ea) (ar_at eb) hlt
        by_cases c3 : (na - 1 == 0) = true
        · rw [if_pos c3]
          exact wpS_pure ⟨rfl, .inl ⟨_, _, rfl, finA m' (by rw [beq_iff_eq] at c3; exact c3)⟩⟩
        · rw [if_neg c3]
          rw [beq_iff_eq] at c3
          by_cases c4 : ac + 1 ≥ g
          · rw [if_pos c4]
            exact wpS_pure ⟨rfl, .inr ⟨_, _, _, _, _, rfl, m', by omega, by omega, hnb, hnb2, by omega⟩⟩
          · rw [if_neg c4]
            exact wpS_pure ⟨_, _, _, _, _, rfl, rfl, m', by omega, by omega, hnb, hnb2, by omega⟩
      | false =>
        rw [if_neg (by decide)]
        refine wpS_bind (wpS_elem eb ?_)
        try dsimp only
        have m' : MH blt a.toList b.toList (out.push xb).toList na (nb - 1) := by rw [ar_push]; exact m.b o sa hna (by omega) (ar_at ea) (ar_at eb) hlt
        by_cases c3 : (nb - 1 == 1) = true
        · rw [if_pos c3]
          exact wpS_pure ⟨rfl, .inl ⟨_, _, rfl, finF m' (by rw [beq_iff_eq] at c3; exact c3)⟩⟩
        · rw [if_neg c3]
          rw [beq_iff_eq] at c3
          by_cases c4 : bc + 1 ≥ g
          · rw [if_pos c4]
            exact wpS_pure ⟨rfl, .inr ⟨_, _, _, _, _, rfl, m', hna, hna2, by omega, by omega, by omega⟩⟩
          · rw [if_neg c4]
            exact wpS_pure ⟨_, _, _, _, _, rfl, rfl, m', hna, hna2, by omega, by omega, by omega⟩
    · rintro c st' ⟨out, na', nb', ac, bc, rfl, rfl, m, h1, h2, h3, h4, h5⟩
      exfalso
      have : max 0 (a.size + b.size) = a.size + b.size := by omega
      omega
    · rintro c st' ⟨rfl, ⟨r, cc, rfl, hr⟩ | ⟨out, na1, nb1, ac, bc, rfl, m1, q1, q2, q3, q4, q5⟩⟩
      · try dsimp only
        exact wpS_pure ⟨r, g', rfl, rfl, hr⟩
      · try dsimp only
        refine wpS_bind (wpS_lift (wpAny_rule ⟨rfl, ?_⟩))
        try dsimp only
        refine wpS_bind (wpS_mono (wpS_forRange
          (I := fun y c st' => ∃ (out : Array Keyed) (na' nb' mg' ac bc g2 : Nat), c = (none, na', nb', out, mg', ac, bc) ∧ st' = setG st g2 ∧ MH blt a.toList b.toList out.toList na' nb' ∧ 0 < na' ∧ na' ≤ a.size ∧ 1 < nb' ∧ nb' ≤ b.size ∧ y + (na' + nb') ≤ na1 + nb1)
          (Q := fun c st' => ∃ g2, st' = setG st g2 ∧ ((∃ r : Array Keyed, ∃ cc, c = (some r, cc) ∧ r.toList = mg blt a.toList b.toList) ∨ ∃ (out : Array Keyed) (na' nb' mg' ac bc : Nat), c = (none, na', nb', out, mg', ac, bc) ∧ MH blt a.toList b.toList out.toList na' nb' ∧ 0 < na' ∧ na' ≤ a.size ∧ 1 < nb' ∧ nb' ≤ b.size ∧ na' + nb' ≤ na1 + nb1)) ?_ ?_ ⟨out, na1, nb1, _, ac, bc, g', rfl, rfl, m1, q1, q2, q3, q4, by omega⟩) ?_)
        · rintro y c st' _ hy ⟨out, na, nb, mg', ac, bc, g2, rfl, rfl, m, hna, hna2, hnb, hnb2, hpr⟩
          try dsimp only
          obtain ⟨xb, eb⟩ := ar_get (show nb - 1 < b.size by omega)
          by_cases cg : mg' > 1
          case' pos => rw [if_pos cg]
          case' neg => rw [if_neg cg]
          all_goals
            refine wpS_bind (wpS_setG (wpS_bind (wpS_elem eb ?_)))
            have gb : ∀ i, i < na → ∃ x, a[0 + i]? = some x ∧ P x ∧ beyB blt false xb x = (fun i => match a[0 + i]? with | some x => !(blt xb x) | none => false) i := fun i hi => by
              obtain ⟨x, ex⟩ := ar_get (show 0 + i < a.size by omega)
              exact ⟨x, ex, PA ex, by dsimp only; rw [ex]; rfl⟩
            have gm : ∀ i j, i ≤ j → j < na → (fun i => match a[0 + i]? with | some x => !(blt xb x) | none => false) j = true → (fun i => match a[0 + i]? with | some x => !(blt xb x) | none => false) i = true := fun i j hij hj e => by
              obtain ⟨x, ex⟩ := ar_get (show 0 + i < a.size by omega)
              obtain ⟨z, ez⟩ := ar_get (show 0 + j < a.size by omega)
              dsimp only at e ⊢
              rw [ex]
              rw [ez] at e
              try dsimp only at e ⊢
              cases e1 : blt xb x with
              | false => rfl
              | true =>
                have := o.ltle e1 (srt_le o sa (show 0 + i ≤ 0 + j by omega) (ar_at ex) (ar_at ez))
                rw [this] at e
                cases e
            refine wpS_bind (wpS_gallop L hk (PB eb) (show na - 1 < na by omega) gb gm (fun c hc1 hc2 hc3 => ?_))
            have hA1 : ∀ i x, i < c → a[i]? = some x → blt xb x = false := fun i x hi ex => by
              have := hc2 i hi
              try dsimp only at this
              rw [Nat.zero_add, ex] at this
              simpa using this
            have hA2 : ∀ i x, c ≤ i → i < na → a.toList[i]? = some x → blt xb x = true := fun i x hi1 hi2 ex => by
              rw [Array.getElem?_toList] at ex
              have := hc3 i hi1 hi2
              try dsimp only at this
              rw [Nat.zero_add, ex] at this
              simpa using this
            have m2 : MH blt a.toList b.toList (out ++ (a.extract c na).reverse).toList c nb := by rw [ar_rev]; exact m.as o sb hc1 (by omega) (ar_at eb) hA2
            try dsimp only
            by_cases hc0 : na - c > 0
            case' pos =>
              rw [if_pos hc0]
              by_cases c5 : (c == 0) = true
              · rw [if_pos c5]
                exact wpS_pure ⟨_, rfl, .inl ⟨_, _, rfl, finA m2 (by rw [beq_iff_eq] at c5; exact c5)⟩⟩
              rw [if_neg c5]
              rw [beq_iff_eq] at c5
              have hi2 : 0 < c := by omega
              have hA3 : ∀ x, a[c - 1]? = some x → blt xb x = false := fun x ex => hA1 (c - 1) x (by omega) ex
              have hp2 : y + (c + nb) ≤ na1 + nb1 := by omega
              have hq2 : c ≤ a.size := by omega
              clear hA1 hA2 hc2 hc3 hc0 c5
              generalize out ++ (a.extract c na).reverse = out2 at *
              generalize hk2 : na - c = kk at *
              generalize c = na2 at *
            case' neg =>
              rw [if_neg hc0]
              have e0 : c = na := by omega
              have hi2 : 0 < na := hna
              have hA3 : ∀ x, a[na - 1]? = some x → blt xb x = false := fun x ex => hA1 (na - 1) x (by omega) ex
              have hp2 : y + (na + nb) ≤ na1 + nb1 := by omega
              have hq2 : na ≤ a.size := hna2
              clear hA1 hA2 hc2 hc3 hc0 m2
              have m2 := m
              clear m
              generalize hk2 : na - c = kk at *
              generalize out = out2 at *
              generalize na = na2 at *
            all_goals
              obtain ⟨xa, ea⟩ := ar_get (show na2 - 1 < a.size by omega)
              refine wpS_bind (wpS_elem eb ?_)
              have m3 : MH blt a.toList b.toList (out2.push xb).toList na2 (nb - 1) := by rw [ar_push]; exact m2.b o sa hi2 (by omega) (ar_at ea) (ar_at eb) (hA3 xa ea)
              try dsimp only
              by_cases c7 : (nb - 1 == 1) = true
              · rw [if_pos c7]
                exact wpS_pure ⟨_, rfl, .inl ⟨_, _, rfl, finF m3 (by rw [beq_iff_eq] at c7; exact c7)⟩⟩
              rw [if_neg c7]
              rw [beq_iff_eq] at c7
              refine wpS_bind (wpS_elem ea ?_)
              have gb : ∀ i, i < nb - 1 → ∃ x, b[0 + i]? = some x ∧ P x ∧ beyB blt true xa x = (fun i => match b[0 + i]? with | some x => blt x xa | none => false) i := fun i hi => by
                obtain ⟨x, ex⟩ := ar_get (show 0 + i < b.size by omega)
                exact ⟨x, ex, PB ex, by dsimp only; rw [ex]; rfl⟩
              have gm : ∀ i j, i ≤ j → j < nb - 1 → (fun i => match b[0 + i]? with | some x => blt x xa | none => false) j = true → (fun i => match b[0 + i]? with | some x => blt x xa | none => false) i = true := fun i j hij hj e => by
                obtain ⟨x, ex⟩ := ar_get (show 0 + i < b.size by omega)
                obtain ⟨z, ez⟩ := ar_get (show 0 + j < b.size by omega)
                dsimp only at e ⊢
                rw [ex]
                rw [ez] at e
                try dsimp only at e ⊢
                exact o.lelt (srt_le o sb (show 0 + i ≤ 0 + j by omega) (ar_at ex) (ar_at ez)) e
              refine wpS_bind (wpS_gallop L hk (PA ea) (show nb - 1 - 1 < nb - 1 by omega) gb gm (fun d hd1 hd2 hd3 => ?_))
              have hB1 : ∀ i x, i < d → b[i]? = some x → blt x xa = true := fun i x hi ex => by
                have := hd2 i hi
                try dsimp only at this
                rw [Nat.zero_add, ex] at this
                exact this
              have hB2 : ∀ i x, d ≤ i → i < nb - 1 → b.toList[i]? = some x → blt x xa = false := fun i x hi1 hi2 ex => by
                rw [Array.getElem?_toList] at ex
                have := hd3 i hi1 hi2
                try dsimp only at this
                rw [Nat.zero_add, ex] at this
                exact this
              have m4 : MH blt a.toList b.toList (out2.push xb ++ (b.extract d (nb - 1)).reverse).toList na2 d := by rw [ar_rev]; exact m3.bs o sa hd1 hi2 (ar_at ea) hB2
              try dsimp only
              by_cases hd0 : nb - 1 - d > 0
              case' pos =>
                rw [if_pos hd0]
                by_cases c8 : (d == 1) = true
                · rw [if_pos c8]
                  exact wpS_pure ⟨_, rfl, .inl ⟨_, _, rfl, finF m4 (by rw [beq_iff_eq] at c8; exact c8)⟩⟩
                rw [if_neg c8]
                by_cases c9 : (d == 0) = true
                · rw [if_pos c9]
                  exact wpS_pure ⟨_, rfl, .inl ⟨_, _, rfl, finB m4 (by rw [beq_iff_eq] at c9; exact c9)⟩⟩
                rw [if_neg c9]
                rw [beq_iff_eq] at c8 c9
                have hi4 : 1 < d := by omega
                have hB3 : ∀ x, b[d - 1]? = some x → blt x xa = true := fun x ex => hB1 (d - 1) x (by omega) ex
                have hp4 : y + (na2 + d) + 1 ≤ na1 + nb1 := by omega
                have hq4 : d ≤ b.size := by omega
                clear hB1 hB2 hd2 hd3 hd0 c8 c9
                generalize out2.push xb ++ (b.extract d (nb - 1)).reverse = out4 at *
                generalize hk4 : nb - 1 - d = kd4 at *
                generalize d = nb4 at *
              case' neg =>
                rw [if_neg hd0]
                have hi4 : 1 < nb - 1 := by omega
                have hB3 : ∀ x, b[nb - 1 - 1]? = some x → blt x xa = true := fun x ex => hB1 (nb - 1 - 1) x (by omega) ex
                have hp4 : y + (na2 + (nb - 1)) + 1 ≤ na1 + nb1 := by omega
                have hq4 : nb - 1 ≤ b.size := by omega
                clear hB1 hB2 hd2 hd3 hd0 m4
                have m4 := m3
                clear m3
                generalize hk4 : nb - 1 - d = kd4 at *
                generalize out2.push xb = out4 at *
                generalize nb - 1 = nb4 at *
              all_goals
                obtain ⟨xb4, eb4⟩ := ar_get (show nb4 - 1 < b.size by omega)
                refine wpS_bind (wpS_elem ea ?_)
                have m5 : MH blt a.toList b.toList (out4.push xa).toList (na2 - 1) nb4 := by rw [ar_push]; exact m4.a o sb hi2 (by omega) (ar_at ea) (ar_at eb4) (hB3 xb4 eb4)
                try dsimp only
                by_cases c9 : (na2 - 1 == 0) = true
                · rw [if_pos c9]
                  exact wpS_pure ⟨_, rfl, .inl ⟨_, _, rfl, finA m5 (by rw [beq_iff_eq] at c9; exact c9)⟩⟩
                rw [if_neg c9]
                rw [beq_iff_eq] at c9
                by_cases c10 : (decide (kk < 7) && decide (kd4 < 7)) = true
                · rw [if_pos c10]
                  exact wpS_pure ⟨_, rfl, .inr ⟨_, _, _, _, _, _, rfl, m5, by omega, by omega, hi4, hq4, by omega⟩⟩
                · rw [if_neg c10]
                  exact wpS_pure ⟨_, _, _, _, _, _, _, rfl, rfl, m5, by omega, by omega, hi4, hq4, by omega⟩
        · rintro c st' ⟨out, na', nb', mg', ac, bc, g2, rfl, rfl, m, h1, h2, h3, h4, h5⟩
          exfalso
          have : max 0 (a.size + b.size) = a.size + b.size := by omega
          omega
        · rintro c st' ⟨g2, rfl, ⟨r, cc, rfl, hr⟩ | ⟨out, na2, nb2, mg2, ac, bc, rfl, m2, r1, r2, r3, r4, r5⟩⟩
          · try dsimp only
            exact wpS_pure ⟨r, g2, rfl, rfl, hr⟩
          · try dsimp only
            refine wpS_bind (wpS_setG (wpS_pure ⟨_, _, _, _, _, rfl, rfl, m2, r1, r2, r3, r4, by omega⟩))
  · rintro c st' ⟨out, na, nb, g, g', rfl, rfl, m, h1, h2, h3, h4, h5⟩
    exfalso
    have : max 0 (a.size + b.size) = a.size + b.size := by omega
    omega
  · rintro ⟨c, cc⟩ st' ⟨r, g', e, rfl, hr⟩
    dsimp only at e
    subst e
    try dsimp only
    exact wpS_pure (h r g' hr)
end
end L2
end

section
set_option Elab.async false
set_option linter.all false
set_option maxRecDepth 100000
set_option maxHeartbeats 4000000
namespace L2
open PySem PySem.Spec PyProof.Rows TW
theorem bubble_list {xs : Array Keyed} {src d : Nat} (hs : src < xs.size) (hd : d ≤ src) {x : Keyed} (hx : xs[src]? = some x) :
    (bubble xs src d).toList = xs.toList.take (src - d) ++ [x] ++ (xs.toList.drop (src - d)).take d ++ xs.toList.drop (src + 1) := by
  have hl : xs.toList.length = xs.size := Array.length_toList
  refine List.ext_getElem? fun k => ?_
  rw [Array.getElem?_toList, getElem?_bubble hs d hd k]
  simp only [List.getElem?_append, List.getElem?_take, List.getElem?_drop, List.length_append, List.length_take, List.length_drop, List.length_singleton, hl, Array.getElem?_toList]
  by_cases h1 : k = src - d
  · rw [if_pos h1, hx, if_pos (by omega), if_pos (by omega), if_neg (by omega), h1, show src - d - min (src - d) xs.size = 0 by omega]
    rfl
  · rw [if_neg h1]
    by_cases h2 : src - d < k ∧ k ≤ src
    · rw [if_pos h2, if_pos (by omega), if_neg (by omega), if_pos (by omega)]
      congr 1
      omega
    · rw [if_neg h2]
      by_cases h3 : k < src - d
      · rw [if_pos (by omega), if_pos (by omega), if_pos (by omega), if_pos h3]
      · rw [if_neg (by omega)]
        congr 1
        omega
theorem mirror_list {xs : Array Keyed} {i j : Nat} (hij : i ≤ j) (hj : j ≤ xs.size) :
    (mirror xs i j ((j - i) / 2)).toList = xs.toList.take i ++ ((xs.toList.drop i).take (j - i)).reverse ++ xs.toList.drop j := by
  have hl : xs.toList.length = xs.size := Array.length_toList
  refine List.ext_getElem? fun k => ?_
  rw [Array.getElem?_toList, getElem?_mirror_all (i := i) hj k]
  have hll : ((xs.toList.drop i).take (j - i)).length = j - i := by rw [List.length_take, List.length_drop, hl]; omega
  by_cases h1 : i ≤ k ∧ k < j
  · rw [if_pos h1, List.getElem?_append_left (by rw [List.length_append, List.length_reverse, hll, List.length_take, hl]; omega), List.getElem?_append_right (by rw [List.length_take, hl]; omega), List.length_take, hl,
      List.getElem?_reverse (by rw [hll]; omega), hll, List.getElem?_take, if_pos (by omega), List.getElem?_drop, Array.getElem?_toList]
    congr 1
    omega
  · rw [if_neg h1]
    by_cases h2 : k < i
    · rw [List.getElem?_append_left (by rw [List.length_append, List.length_reverse, hll, List.length_take, hl]; omega), List.getElem?_append_left (by rw [List.length_take, hl]; omega), List.getElem?_take, if_pos h2, Array.getElem?_toList]
    · rw [List.getElem?_append_right (by rw [List.length_append, List.length_reverse, hll, List.length_take, hl]; omega), List.length_append, List.length_reverse, hll, List.length_take, hl, List.getElem?_drop, Array.getElem?_toList]
      congr 1
      omega
theorem fold_set (sa : Nat) : ∀ (l : List Keyed) (k : Nat) (xs : Array Keyed), sa + k + l.length ≤ xs.size →
    ((l.zipIdx k).foldl (fun a q => a.setIfInBounds (sa + q.2) q.1) xs).toList = xs.toList.take (sa + k) ++ l ++ xs.toList.drop (sa + k + l.length)
  | [], k, xs, h => by
    rw [List.zipIdx_nil, List.foldl_nil, List.append_nil, List.length_nil, Nat.add_zero, List.take_append_drop]
  | p :: l, k, xs, h => by
    have hl : xs.toList.length = xs.size := Array.length_toList
    rw [List.length_cons] at h
    rw [List.zipIdx_cons, List.foldl_cons, fold_set sa l (k + 1) _ (by rw [Array.size_setIfInBounds]; omega), Array.toList_setIfInBounds, List.length_cons]
    have e1 : (xs.toList.set (sa + k) p).take (sa + (k + 1)) = xs.toList.take (sa + k) ++ [p] := by
      rw [show sa + (k + 1) = sa + k + 1 by omega, take_at (x := p) (by rw [List.getElem?_set, if_pos rfl, if_pos (by omega)]), List.take_set_of_le (by omega)]
    have e2 : (xs.toList.set (sa + k) p).drop (sa + (k + 1) + l.length) = xs.toList.drop (sa + k + (l.length + 1)) := by
      rw [List.drop_set_of_lt (by omega)]
      congr 1
      omega
    rw [e1, e2, List.append_assoc, List.append_assoc, List.append_assoc]
    rfl
end L2
end

section
set_option Elab.async false
set_option linter.all false
set_option maxRecDepth 100000
set_option maxHeartbeats 4000000
namespace L2
open PySem PySem.Spec PyProof.Rows TW
section
variable {prog : Program} {w : World} {A : Around} {E : Value → Shared → Prop} {s : Shared}
theorem wpS_set {σ : Type} {M : Model} {st st' : σ} {Q : PUnit → σ → Prop} (h : Q ⟨⟩ st') : wpS M A E s (set st' : StateT σ Sem PUnit) Q st := by
  unfold wpS
  rw [StateT.run_set]
  exact wpAny_pure ⟨rfl, h⟩
theorem stretch_at {l : List Keyed} {i n j : Nat} (h : j < n) : ((l.drop i).take n)[j]? = l[i + j]? := by rw [List.getElem?_take, if_pos h, List.getElem?_drop]
theorem stretch_len {l : List Keyed} {i n : Nat} (h : i + n ≤ l.length) : ((l.drop i).take n).length = n := by rw [List.length_take, List.length_drop]; omega
theorem ext_list (a : Array Keyed) (i j : Nat) : (a.extract i j).toList = (a.toList.drop i).take (j - i) := by rw [Array.toList_extract, List.extract_eq_take_drop]
variable {kd : SortKind} {P : Keyed → Prop} {blt : Keyed → Keyed → Bool} (L : LtOk prog w A E s kd P blt) (o : Swo blt)
include L o
theorem wpS_mergeAt {st : SortSt} {i sa na nb p p' : Nat} {Q : Bool → SortSt → Prop} (hk : kindOf st = kd) (hf : failedOf st = none) (h1 : (pendingOf st)[i]? = some (sa, na, p)) (h2 : (pendingOf st)[i + 1]? = some (sa + na, nb, p')) (hn : 0 < na) (hm : 0 < nb)
    (hsz : sa + na + nb ≤ (arrOf st).size) (hP : ∀ x ∈ (arrOf st).toList, P x) (sU : Srt blt (((arrOf st).toList.drop sa).take na)) (sW : Srt blt (((arrOf st).toList.drop (sa + na)).take nb))
    (h : ∀ st' : SortSt, kindOf st' = kd → failedOf st' = none → pendingOf st' = ((pendingOf st).setIfInBounds i (sa, na + nb, p)).eraseIdxIfInBounds (i + 1) →
      (arrOf st').toList = (arrOf st).toList.take sa ++ mg blt (((arrOf st).toList.drop sa).take na) (((arrOf st).toList.drop (sa + na)).take nb) ++ (arrOf st).toList.drop (sa + na + nb) → Q true st') :
    wpS (model prog w) A E s (mergeAt' i) Q st := by
  have hl : (arrOf st).toList.length = (arrOf st).size := Array.length_toList
  have PA : ∀ {i x}, (arrOf st)[i]? = some x → P x := fun e => hP _ (List.mem_of_getElem? (ar_at e))
  have lU : (((arrOf st).toList.drop sa).take na).length = na := stretch_len (by omega)
  have lW : (((arrOf st).toList.drop (sa + na)).take nb).length = nb := stretch_len (by omega)
  have whole : (arrOf st).toList.take sa ++ (((arrOf st).toList.drop sa).take na ++ ((arrOf st).toList.drop (sa + na)).take nb) ++ (arrOf st).toList.drop (sa + na + nb) = (arrOf st).toList := by
    rw [← List.append_assoc, List.append_assoc, ← drop_split, List.append_assoc, ← drop_split, List.take_append_drop]
  refine wpS_bind (wpS_get ?_)
  rw [h1, h2]
  dsimp only
  obtain ⟨w0, e0⟩ := ar_get (show sa + na < (arrOf st).size by omega)
  refine wpS_bind (wpS_set ?_)
  refine wpS_bind (wpS_elem e0 ?_)
  have gb : ∀ j, j < na → ∃ x, (arrOf st)[sa + j]? = some x ∧ P x ∧ beyB blt false w0 x = (fun j => match (arrOf st)[sa + j]? with | some x => !(blt w0 x) | none => false) j := fun j hj => by
    obtain ⟨x, ex⟩ := ar_get (show sa + j < (arrOf st).size by omega)
    exact ⟨x, ex, PA ex, by dsimp only; rw [ex]; rfl⟩
  have gm : ∀ j j', j ≤ j' → j' < na → (fun j => match (arrOf st)[sa + j]? with | some x => !(blt w0 x) | none => false) j' = true → (fun j => match (arrOf st)[sa + j]? with | some x => !(blt w0 x) | none => false) j = true := fun j j' hij hj e => by
    obtain ⟨x, ex⟩ := ar_get (show sa + j < (arrOf st).size by omega)
    obtain ⟨z, ez⟩ := ar_get (show sa + j' < (arrOf st).size by omega)
    dsimp only at e ⊢
    rw [ex]
    rw [ez] at e
    try dsimp only at e ⊢
    cases e1 : blt w0 x with
    | false => rfl
    | true =>
      have := o.ltle e1 (srt_le o sU hij (by rw [stretch_at (by omega)]; exact ar_at ex) (by rw [stretch_at hj]; exact ar_at ez))
      rw [this] at e
      cases e
  refine wpS_bind (wpS_gallop L hk (PA e0) hn gb gm (fun c hc1 hc2 hc3 => ?_))
  have hA1 : ∀ j x, j < c → (arrOf st)[sa + j]? = some x → blt w0 x = false := fun j x hj ex => by
    have := hc2 j hj
    try dsimp only at this
    rw [ex] at this
    simpa using this
  have hA2 : ∀ j x, c ≤ j → j < na → (arrOf st)[sa + j]? = some x → blt w0 x = true := fun j x hj1 hj2 ex => by
    have := hc3 j hj1 hj2
    try dsimp only at this
    rw [ex] at this
    simpa using this
  clear gb gm hc2 hc3
  -- the first c stay ahead of all
  have hw0 : (((arrOf st).toList.drop (sa + na)).take nb)[0]? = some w0 := by rw [stretch_at hm]; exact ar_at e0
  have eU : mg blt (((arrOf st).toList.drop sa).take na) (((arrOf st).toList.drop (sa + na)).take nb) = ((arrOf st).toList.drop sa).take c ++ mg blt (((arrOf st).toList.drop (sa + c)).take (na - c)) (((arrOf st).toList.drop (sa + na)).take nb) := by
    have e1 : ((arrOf st).toList.drop sa).take na = ((arrOf st).toList.drop sa).take c ++ ((arrOf st).toList.drop (sa + c)).take (na - c) := by
      rw [take_split _ hc1, List.drop_drop]
    rw [e1, mg_head_a blt fun x hx y hy => ?_]
    obtain ⟨j, hj, ex⟩ := mem_stretch hx
    obtain ⟨j', ey⟩ := List.getElem?_of_mem hy
    rw [Array.getElem?_toList] at ex
    exact o.le (hA1 j x hj ex) (srt_le o sW (Nat.zero_le j') hw0 ey)
  try dsimp only
  by_cases c1 : (na - c == 0) = true
  · rw [if_pos c1]
    rw [beq_iff_eq] at c1
    refine wpS_pure (h _ hk hf rfl ?_)
    have : c = na := by omega
    rw [eU, this, Nat.sub_self, List.take_zero, mg_nil, whole]
  rw [if_neg c1]
  rw [beq_iff_eq] at c1
  have ia : sa + c + (na - c) - 1 = sa + na - 1 := by omega
  obtain ⟨al, eal⟩ := ar_get (show sa + na - 1 < (arrOf st).size by omega)
  refine wpS_bind (wpS_elem (by rw [ia]; exact eal) ?_)
  have gb : ∀ j, j < nb → ∃ x, (arrOf st)[sa + na + j]? = some x ∧ P x ∧ beyB blt true al x = (fun j => match (arrOf st)[sa + na + j]? with | some x => blt x al | none => false) j := fun j hj => by
    obtain ⟨x, ex⟩ := ar_get (show sa + na + j < (arrOf st).size by omega)
    exact ⟨x, ex, PA ex, by dsimp only; rw [ex]; rfl⟩
  have gm : ∀ j j', j ≤ j' → j' < nb → (fun j => match (arrOf st)[sa + na + j]? with | some x => blt x al | none => false) j' = true → (fun j => match (arrOf st)[sa + na + j]? with | some x => blt x al | none => false) j = true := fun j j' hij hj e => by
    obtain ⟨x, ex⟩ := ar_get (show sa + na + j < (arrOf st).size by omega)
    obtain ⟨z, ez⟩ := ar_get (show sa + na + j' < (arrOf st).size by omega)
    dsimp only at e ⊢
    rw [ex]
    rw [ez] at e
    try dsimp only at e ⊢
    exact o.lelt (srt_le o sW hij (by rw [stretch_at (by omega)]; exact ar_at ex) (by rw [stretch_at hj]; exact ar_at ez)) e
  refine wpS_bind (wpS_gallop L hk (PA eal) (show nb - 1 < nb by omega) gb gm (fun d hd1 hd2 hd3 => ?_))
  have hB1 : ∀ j x, j < d → (arrOf st)[sa + na + j]? = some x → blt x al = true := fun j x hj ex => by
    have := hd2 j hj
    try dsimp only at this
    rw [ex] at this
    exact this
  have hB2 : ∀ j x, d ≤ j → j < nb → (arrOf st)[sa + na + j]? = some x → blt x al = false := fun j x hj1 hj2 ex => by
    have := hd3 j hj1 hj2
    try dsimp only at this
    rw [ex] at this
    exact this
  clear gb gm hd2 hd3
  have lX : (((arrOf st).toList.drop (sa + c)).take (na - c)).length = na - c := stretch_len (by omega)
  have lY : (((arrOf st).toList.drop (sa + na)).take d).length = d := stretch_len (by omega)
  have sX : Srt blt (((arrOf st).toList.drop (sa + c)).take (na - c)) := by
    have e1 : ((arrOf st).toList.drop sa).take na = ((arrOf st).toList.drop sa).take c ++ ((arrOf st).toList.drop (sa + c)).take (na - c) := by
      rw [take_split _ hc1, List.drop_drop]
    rw [e1] at sU
    exact (List.pairwise_append.mp sU).2.1
  have eW1 : ((arrOf st).toList.drop (sa + na)).take nb = ((arrOf st).toList.drop (sa + na)).take d ++ ((arrOf st).toList.drop (sa + na + d)).take (nb - d) := by
    rw [take_split _ hd1, List.drop_drop]
  have sY : Srt blt (((arrOf st).toList.drop (sa + na)).take d) := by
    rw [eW1] at sW
    exact (List.pairwise_append.mp sW).1
  have hal : (((arrOf st).toList.drop (sa + c)).take (na - c))[na - c - 1]? = some al := by
    rw [stretch_at (by omega), show sa + c + (na - c - 1) = sa + na - 1 by omega]
    exact ar_at eal
  have eW : mg blt (((arrOf st).toList.drop (sa + c)).take (na - c)) (((arrOf st).toList.drop (sa + na)).take nb) = mg blt (((arrOf st).toList.drop (sa + c)).take (na - c)) (((arrOf st).toList.drop (sa + na)).take d) ++ ((arrOf st).toList.drop (sa + na + d)).take (nb - d) := by
    rw [eW1, mg_tail_b blt _ _ fun y hy x hx => ?_]
    obtain ⟨j, hj, ey⟩ := mem_stretch hy
    obtain ⟨j', ex⟩ := List.getElem?_of_mem hx
    have hj' := (List.getElem?_eq_some_iff.mp ex).1
    rw [lX] at hj'
    rw [Array.getElem?_toList, Nat.add_assoc] at ey
    exact o.le (srt_le o sX (show j' ≤ na - c - 1 by omega) ex hal) (hB2 (d + j) y (by omega) (by omega) ey)
  try dsimp only
  by_cases c2 : (d == 0) = true
  · rw [if_pos c2]
    rw [beq_iff_eq] at c2
    refine wpS_pure (h _ hk hf rfl ?_)
    rw [eU, eW, c2, List.take_zero, mg_nil', Nat.add_zero, Nat.sub_zero]
    have e1 : ((arrOf st).toList.drop sa).take na = ((arrOf st).toList.drop sa).take c ++ ((arrOf st).toList.drop (sa + c)).take (na - c) := by
      rw [take_split _ hc1, List.drop_drop]
    rw [← List.append_assoc (((arrOf st).toList.drop sa).take c), ← e1]
    exact whole.symm
  rw [if_neg c2]
  rw [beq_iff_eq] at c2
  -- both stretches
  have xL : ((arrOf st).extract (sa + c) (sa + na)).toList = ((arrOf st).toList.drop (sa + c)).take (na - c) := by
    rw [ext_list, show sa + na - (sa + c) = na - c by omega]
  have yL : ((arrOf st).extract (sa + na) (sa + na + d)).toList = ((arrOf st).toList.drop (sa + na)).take d := by
    rw [ext_list, show sa + na + d - (sa + na) = d by omega]
  have xS : ((arrOf st).extract (sa + c) (sa + na)).size = na - c := by rw [← Array.length_toList, xL, lX]
  have yS : ((arrOf st).extract (sa + na) (sa + na + d)).size = d := by rw [← Array.length_toList, yL, lY]
  have x0 : ∀ {i x}, ((arrOf st).extract (sa + c) (sa + na))[i]? = some x → i < na - c ∧ (arrOf st)[sa + c + i]? = some x := fun {i x} e => by
    have hi := (Array.getElem?_eq_some_iff.mp e).1
    rw [xS] at hi
    have := ar_at e
    rw [xL, stretch_at hi, Array.getElem?_toList] at this
    exact ⟨hi, this⟩
  have y0 : ∀ {i x}, ((arrOf st).extract (sa + na) (sa + na + d))[i]? = some x → i < d ∧ (arrOf st)[sa + na + i]? = some x := fun {i x} e => by
    have hi := (Array.getElem?_eq_some_iff.mp e).1
    rw [yS] at hi
    have := ar_at e
    rw [yL, stretch_at hi, Array.getElem?_toList] at this
    exact ⟨hi, this⟩
  have hlast : ∀ x, ((arrOf st).extract (sa + c) (sa + na))[((arrOf st).extract (sa + c) (sa + na)).size - 1]? = some x → ∀ y ∈ ((arrOf st).extract (sa + na) (sa + na + d)).toList, blt y x = true := fun x ex y hy => by
    obtain ⟨_, e2⟩ := x0 ex
    rw [xS, show sa + c + (na - c - 1) = sa + na - 1 by omega, eal] at e2
    cases e2
    rw [yL] at hy
    obtain ⟨j, hj, ey⟩ := mem_stretch hy
    rw [Array.getElem?_toList] at ey
    exact hB1 j y hj ey
  have hfirst : ∀ y, ((arrOf st).extract (sa + na) (sa + na + d))[0]? = some y → ∀ x ∈ ((arrOf st).extract (sa + c) (sa + na)).toList, blt y x = true := fun y ey x hx => by
    obtain ⟨_, e2⟩ := y0 ey
    rw [Nat.add_zero, e0] at e2
    cases e2
    rw [xL] at hx
    obtain ⟨j, hj, ex⟩ := mem_stretch hx
    rw [Array.getElem?_toList, Nat.add_assoc] at ex
    exact hA2 (c + j) x (by omega) (by omega) ex
  have fin : ∀ (r : Array Keyed) (st1 : SortSt), r.toList = mg blt ((arrOf st).extract (sa + c) (sa + na)).toList ((arrOf st).extract (sa + na) (sa + na + d)).toList → kindOf st1 = kd → failedOf st1 = none →
      pendingOf st1 = ((pendingOf st).setIfInBounds i (sa, na + nb, p)).eraseIdxIfInBounds (i + 1) → arrOf st1 = arrOf st →
      Q true (setArr st1 (r.toList.zipIdx.foldl (fun a q => a.setIfInBounds (sa + c + q.2) q.1) (arrOf st1))) := fun r st1 hr q1 q2 q3 q4 => by
    refine h _ q1 q2 q3 ?_
    show (r.toList.zipIdx.foldl (fun a q => a.setIfInBounds (sa + c + q.2) q.1) (arrOf st1)).toList = _
    have lr : r.toList.length = na - c + d := by rw [hr, (mg_perm blt _ _).length_eq, List.length_append, xL, yL, lX, lY]
    rw [q4, fold_set (sa + c) r.toList 0 (arrOf st) (by rw [lr]; omega), Nat.add_zero, lr, hr, xL, yL, eU, eW]
    have e3 : (arrOf st).toList.take (sa + c) = (arrOf st).toList.take sa ++ ((arrOf st).toList.drop sa).take c := by rw [List.take_add]
    have e4 : (arrOf st).toList.drop (sa + c + (na - c + d)) = ((arrOf st).toList.drop (sa + na + d)).take (nb - d) ++ (arrOf st).toList.drop (sa + na + nb) := by
      rw [show sa + c + (na - c + d) = sa + na + d by omega, show sa + na + nb = sa + na + d + (nb - d) by omega]
      exact drop_split _ _ _
    rw [e3, e4]
    simp only [List.append_assoc]
  have pX : ∀ x ∈ ((arrOf st).extract (sa + c) (sa + na)).toList, P x := fun x hx => by rw [xL] at hx; exact hP x (List.mem_of_mem_drop (List.mem_of_mem_take hx))
  have pY : ∀ x ∈ ((arrOf st).extract (sa + na) (sa + na + d)).toList, P x := fun x hx => by rw [yL] at hx; exact hP x (List.mem_of_mem_drop (List.mem_of_mem_take hx))
  have done : ∀ (r : Array Keyed) (g : Nat), r.toList = mg blt ((arrOf st).extract (sa + c) (sa + na)).toList ((arrOf st).extract (sa + na) (sa + na + d)).toList →
      Q (failedOf st).isNone (setArr (SortSt.mk' (kindOf st) (arrOf st) (((pendingOf st).setIfInBounds i (sa, na + nb, p)).eraseIdxIfInBounds (i + 1)) g (failedOf st)) (r.toList.zipIdx.foldl (fun a q => a.setIfInBounds (sa + c + q.2) q.1) (arrOf st))) := fun r g hr => by
    have := fin r (SortSt.mk' (kindOf st) (arrOf st) (((pendingOf st).setIfInBounds i (sa, na + nb, p)).eraseIdxIfInBounds (i + 1)) g (failedOf st)) hr hk hf rfl rfl
    rw [show (failedOf st).isNone = true by rw [hf]; rfl]
    exact this
  by_cases c3 : na - c ≤ d
  · rw [if_pos c3]
    refine wpS_bind (wpS_mergeLo L o hk (by rw [xS]; omega) (by rw [yS]; omega) pX pY (by rw [xL]; exact sX) (by rw [yL]; exact sY) (fun x y ex ey => hfirst y ey x (List.mem_of_getElem? (ar_at ex))) hlast fun r g hr => ?_)
    exact wpS_bind (wpS_modify (wpS_bind (wpS_get (wpS_pure (done r g hr)))))
  · rw [if_neg c3]
    refine wpS_bind (wpS_mergeHi L o hk (by rw [xS]; omega) (by rw [yS]; omega) pX pY (by rw [xL]; exact sX) (by rw [yL]; exact sY) hfirst hlast fun r g hr => ?_)
    exact wpS_bind (wpS_modify (wpS_bind (wpS_get (wpS_pure (done r g hr)))))
end
end L2
end

section
set_option Elab.async false
set_option linter.all false
set_option maxRecDepth 100000
set_option maxHeartbeats 4000000
namespace L2
open PySem PySem.Spec PyProof.Rows TW
theorem srt_snoc {blt : Keyed → Keyed → Bool} (o : Swo blt) {l : List Keyed} {x y : Keyed} (h : Srt blt l) (hy : l[l.length - 1]? = some y) (hx : blt x y = false) : Srt blt (l ++ [x]) := by
  refine List.pairwise_append.mpr ⟨h, List.pairwise_singleton _ _, fun a ha b hb => ?_⟩
  rw [List.mem_singleton.mp hb]
  obtain ⟨j, hj⟩ := List.getElem?_of_mem ha
  have hl := (List.getElem?_eq_some_iff.mp hj).1
  exact o.le (srt_le o h (show j ≤ l.length - 1 by omega) hj hy) hx
theorem mirror_mid {xs : Array Keyed} {U V W : List Keyed} {i j : Nat} (e : xs.toList = U ++ V ++ W) (hi : i = U.length) (hj : j = U.length + V.length) : (mirror xs i j ((j - i) / 2)).toList = U ++ V.reverse ++ W := by
  have hl : xs.size = U.length + V.length + W.length := by rw [← Array.length_toList, e, List.length_append, List.length_append]
  rw [mirror_list (by omega) (by omega), e, hi, hj]
  have e1 : (U ++ V ++ W).take U.length = U := by rw [List.append_assoc, List.take_append_of_le_length (Nat.le_refl _), List.take_length]
  have e2 : (U ++ V ++ W).drop U.length = V ++ W := by rw [List.append_assoc, List.drop_append_of_le_length (Nat.le_refl _), List.drop_length, List.nil_append]
  have e3 : (U ++ V ++ W).drop (U.length + V.length) = W := by rw [← List.drop_drop, e2, List.drop_append_of_le_length (Nat.le_refl _), List.drop_length, List.nil_append]
  rw [e1, e2, e3, Nat.add_sub_cancel_left, List.take_append_of_le_length (Nat.le_refl _), List.take_length]
theorem ssort_grow {blt : Keyed → Keyed → Bool} (o : Swo blt) {a b : List Keyed} (h : Srt blt (ssort blt a ++ b)) : ssort blt (a ++ b) = ssort blt a ++ b := by
  have hp := List.pairwise_append.mp h
  rw [ssort_app o, ssort_id hp.2.1]
  have := mg_head_a blt (ys := b) (as := ssort blt a) (xs := []) fun x hx y hy => hp.2.2 x hx y hy
  rw [List.append_nil, mg_nil] at this
  exact this
section
variable {prog : Program} {w : World} {A : Around} {E : Value → Shared → Prop} {s : Shared}
variable {kd : SortKind} {P : Keyed → Prop} {blt : Keyed → Keyed → Bool} (L : LtOk prog w A E s kd P blt) (o : Swo blt)
include L
theorem wpS_ltAtX {st : SortSt} {i j : Nat} {x y : Keyed} {Q : Option Bool → SortSt → Prop} (hk : kindOf st = kd) (hi : (arrOf st)[i]? = some x) (hj : (arrOf st)[j]? = some y) (px : P x) (py : P y) (h : Q (some (blt x y)) st) :
    wpS (model prog w) A E s (ltAt' i j) Q st := by
  rw [ltAt'_eq]
  refine wpS_bind (wpS_get ?_)
  exact wpS_bind (wpS_elem hi (wpS_bind (wpS_elem hj (L _ _ _ _ px py hk h))))
include o
theorem wpS_rise {st : SortSt} {lo a nrem : Nat} {T C D : List Keyed} {F : Nat → Option (Option Nat) × Nat → StateT SortSt Sem (ForInStep (Option (Option Nat) × Nat))} {Q : Option (Option Nat) × Nat → SortSt → Prop}
    (hF : ∀ x n, F x (none, n) = (do
      let r ← ltAt' (lo + n) (lo + n - 1)
      match r with
      | some smaller => if smaller = true then pure (ForInStep.done (none, n)) else pure (ForInStep.yield (none, n + 1))
      | x => pure (ForInStep.done (some none, n))))
    (hk : kindOf st = kd) (hP : ∀ x ∈ (arrOf st).toList, P x) (hT : T.length = lo) (hD : D.length = nrem) (ha : 1 ≤ a) (han : a ≤ nrem) (hC : C.length = a) (e : (arrOf st).toList = T ++ C ++ D.drop a) (sC : Srt blt C)
    (h : ∀ n, a ≤ n → n ≤ nrem → Srt blt (C ++ (D.drop a).take (n - a)) → (n = nrem ∨ ∃ x y, (C ++ D.drop a)[n]? = some x ∧ (C ++ D.drop a)[n - 1]? = some y ∧ blt x y = true) → Q (none, n) st) :
    wpS (model prog w) A E s (forIn [a:nrem] (none, a) F) Q st := by
  have hl : (C ++ D.drop a).length = nrem := by rw [List.length_append, List.length_drop]; omega
  have at_ : ∀ j, (arrOf st)[lo + j]? = (C ++ D.drop a)[j]? := fun j => by
    rw [← Array.getElem?_toList, e, List.append_assoc, List.getElem?_append_right (by omega), hT, Nat.add_sub_cancel_left]
  have ctk : ∀ n, a ≤ n → n ≤ nrem → C ++ (D.drop a).take (n - a) = (C ++ D.drop a).take n := fun n h1 h2 => by
    rw [List.take_append, List.take_of_length_le (l := C) (by omega), hC]
  refine wpS_forRange (I := fun x c st' => st' = st ∧ c = (none, x) ∧ Srt blt ((C ++ D.drop a).take x)) ?_ ?_ ⟨rfl, rfl, ?_⟩
  · rintro x c st' hx1 hx2 ⟨rfl, rfl, hs⟩
    rw [hF]
    obtain ⟨u, eu⟩ : ∃ u, (C ++ D.drop a)[x]? = some u := ⟨_, List.getElem?_eq_getElem (by omega)⟩
    obtain ⟨v, ev⟩ : ∃ v, (C ++ D.drop a)[x - 1]? = some v := ⟨_, List.getElem?_eq_getElem (by omega)⟩
    have pu : (arrOf st')[lo + x]? = some u := by rw [at_]; exact eu
    have pv : (arrOf st')[lo + x - 1]? = some v := by rw [show lo + x - 1 = lo + (x - 1) by omega, at_]; exact ev
    refine wpS_bind (wpS_ltAtX L hk pu pv (hP _ (List.mem_of_getElem? (ar_at pu))) (hP _ (List.mem_of_getElem? (ar_at pv))) ?_)
    dsimp only
    cases hb : blt u v with
    | true =>
      rw [if_pos rfl]
      exact wpS_pure (h x hx1 (by omega) (by rw [ctk x hx1 (by omega)]; exact hs) (.inr ⟨u, v, eu, ev, hb⟩))
    | false =>
      rw [if_neg (by decide)]
      refine wpS_pure ⟨rfl, rfl, ?_⟩
      rw [take_at eu]
      refine srt_snoc o hs ?_ hb
      rw [List.length_take, hl, show min x nrem - 1 = x - 1 by omega, List.getElem?_take, if_pos (by omega)]
      exact ev
  · rintro c st' ⟨rfl, rfl, hs⟩
    have : max a nrem = nrem := by omega
    rw [this] at hs ⊢
    exact h nrem han (Nat.le_refl _) (by rw [ctk nrem han (Nat.le_refl _)]; exact hs) (.inl rfl)
  · rw [← ctk a (Nat.le_refl _) han, Nat.sub_self, List.take_zero, List.append_nil]
    exact sC
theorem wpS_countRunX {st : SortSt} {lo nrem : Nat} {Q : Option Nat → SortSt → Prop} (hk : kindOf st = kd) (hP : ∀ x ∈ (arrOf st).toList, P x) (hn : lo + nrem = (arrOf st).size) (h1 : 1 ≤ nrem)
    (h : ∀ m (xs : Array Keyed), 1 ≤ m → m ≤ nrem → xs.toList = (arrOf st).toList.take lo ++ ssort blt (((arrOf st).toList.drop lo).take m) ++ ((arrOf st).toList.drop lo).drop m → Q (some m) (setArr st xs)) :
    wpS (model prog w) A E s (countRun' lo nrem) Q st := by
  have hl : (arrOf st).toList.length = (arrOf st).size := Array.length_toList
  generalize hT : (arrOf st).toList.take lo = T at *
  generalize hD : (arrOf st).toList.drop lo = D at *
  have e : (arrOf st).toList = T ++ D := by rw [← hT, ← hD, List.take_append_drop]
  have lT : T.length = lo := by rw [← hT, List.length_take]; omega
  have lD : D.length = nrem := by rw [← hD, List.length_drop]; omega
  obtain ⟨d0, e0⟩ : ∃ d0, D[0]? = some d0 := ⟨_, List.getElem?_eq_getElem (by omega)⟩
  have eD : D.take 1 ++ D.drop 1 = D := List.take_append_drop 1 D
  refine wpS_bind (wpS_rise L o (T := T) (C := D.take 1) (D := D) (fun x n => rfl) hk hP lT lD (Nat.le_refl 1) h1 (by rw [List.length_take]; omega) (by rw [List.append_assoc, eD]; exact e) (by rw [take_at e0]; exact List.pairwise_singleton _ _) fun n hn1 hn2 sn hor => ?_)
  have etk : D.take 1 ++ (D.drop 1).take (n - 1) = D.take n := by rw [show n = 1 + (n - 1) by omega, List.take_add, Nat.add_sub_cancel_left]
  rw [etk] at sn
  rw [eD] at hor
  dsimp only
  have PD : ∀ y ∈ D, P y := fun y hy => hP y (by rw [e]; exact List.mem_append_right _ hy)
  by_cases c1 : (n == nrem) = true
  · rw [if_pos c1]
    refine wpS_pure (h n (arrOf st) hn1 hn2 ?_)
    rw [ssort_id sn, List.append_assoc, List.take_append_drop]
    exact e
  rw [if_neg c1]
  rw [beq_iff_eq] at c1
  obtain ⟨x, y, ex, ey, hxy⟩ := hor.resolve_left c1
  have lDn : (D.take n).length = n := by rw [List.length_take]; omega
  by_cases hgt : n > 1
  case' pos =>
    rw [if_pos hgt]
    have a0 : (arrOf st)[lo]? = some d0 := by rw [← Array.getElem?_toList, e, List.getElem?_append_right (by omega), lT, Nat.sub_self]; exact e0
    have ay : (arrOf st)[lo + n - 1]? = some y := by rw [← Array.getElem?_toList, e, List.getElem?_append_right (by omega), lT, show lo + n - 1 - lo = n - 1 by omega]; exact ey
    refine wpS_bind (wpS_ltAtX L hk a0 ay (PD _ (List.mem_of_getElem? e0)) (PD _ (List.mem_of_getElem? ey)) ?_)
    dsimp only
    by_cases hrose : blt d0 y = true
    · rw [if_pos hrose]
      refine wpS_pure (h n (arrOf st) hn1 hn2 ?_)
      rw [ssort_id sn, List.append_assoc, List.take_append_drop]
      exact e
    rw [if_neg hrose]
    have hrose : blt d0 y = false := by simpa using hrose
    have key : ∀ j z, j < n → D[j]? = some z → blt z y = false := fun j z hj ez => by
      have h2 := srt_le o sn (Nat.zero_le j) (by rw [List.getElem?_take, if_pos (by omega)]; exact e0) (by rw [List.getElem?_take, if_pos hj]; exact ez)
      cases hc : blt z y with
      | false => rfl
      | true =>
        rcases o.ng z d0 y hc with h3 | h3
        · rw [h2] at h3; cases h3
        · rw [hrose] at h3; cases h3
    have hall : ∀ z ∈ D.take n, blt x z = true := fun z hz => by
      obtain ⟨j, hj, ez⟩ := mem_take hz
      exact o.ltle hxy (key j z hj ez)
    refine wpS_bind (wpS_reverse ?_)
    have m1 := mirror_mid (xs := arrOf st) (U := T) (V := D.take n) (W := D.drop n) (i := lo) (j := lo + n) (by rw [List.append_assoc, List.take_append_drop]; exact e) lT.symm (by rw [lDn, lT])
    generalize mirror (arrOf st) lo (lo + n) ((lo + n - lo) / 2) = xs1 at *
  case' neg =>
    rw [if_neg hgt]
    have n1 : n = 1 := by omega
    have hall : ∀ z ∈ D.take n, blt x z = true := fun z hz => by
      obtain ⟨j, hj, ez⟩ := mem_take hz
      have : j = n - 1 := by omega
      rw [this, ey] at ez
      cases ez
      exact hxy
    have m1 : (arrOf st).toList = T ++ (D.take n).reverse ++ D.drop n := by
      rw [n1, take_at e0, List.take_zero, List.nil_append, List.reverse_singleton, e, List.append_assoc]
      show T ++ D = T ++ (d0 :: D.drop (0 + 1))
      rw [← drop_at e0, List.drop_zero]
    show wpS _ _ _ _ _ _ (setArr st (arrOf st))
    generalize arrOf st = xs1 at m1 ⊢
  all_goals
    refine wpS_bind (wpS_lift (wpAny_rule ⟨rfl, ?_⟩))
    refine wpS_bind (wpS_mono (wpS_forRange
      (I := fun u c st' => ∃ (neq : Nat) (xs : Array Keyed) (hd tl : List Keyed), c = (none, u, neq) ∧ st' = setArr st xs ∧ xs.toList = T ++ (hd ++ tl) ++ D.drop u ∧ (hd ++ tl).length = u ∧ tl.length = neq + 1 ∧ ssort blt (D.take u) = tl ++ hd.reverse ∧ (∀ a ∈ hd, ∀ b ∈ tl, blt b a = true) ∧ (∀ a ∈ tl, ∀ b ∈ tl, blt a b = false))
      (Q := fun c st' => ∃ (m neq : Nat) (xs : Array Keyed) (hd tl : List Keyed), c = (none, m, neq) ∧ n + 1 ≤ m ∧ m ≤ nrem ∧ st' = setArr st xs ∧ xs.toList = T ++ (hd ++ tl) ++ D.drop m ∧ (hd ++ tl).length = m ∧ tl.length = neq + 1 ∧ ssort blt (D.take m) = tl ++ hd.reverse) ?_ ?_ ⟨0, xs1, (D.take n).reverse, [x], rfl, rfl, ?_, ?_, rfl, ?_, ?_, ?_⟩) ?_)
    · rintro u c st' hu1 hu2 ⟨neq, xs, hd, tl, rfl, rfl, q1, q2, q3, q4, q5, q6⟩
      dsimp only
      obtain ⟨v, ev⟩ : ∃ v, D[u]? = some v := ⟨_, List.getElem?_eq_getElem (by omega)⟩
      obtain ⟨t, et⟩ : ∃ t, tl[tl.length - 1]? = some t := ⟨_, List.getElem?_eq_getElem (by omega)⟩
      have htl := List.mem_of_getElem? et
      have PT : ∀ z ∈ tl, P z := fun z hz => PD z (List.mem_of_mem_take ((ssort_perm blt (D.take u)).mem_iff.mp (by rw [q4]; exact List.mem_append_left _ hz)))
      have pv : (arrOf (setArr st xs))[lo + u]? = some v := by
        show xs[lo + u]? = some v
        rw [← Array.getElem?_toList, q1, List.getElem?_append_right (by rw [List.length_append]; omega), List.length_append, q2, lT, Nat.sub_self, List.getElem?_drop, Nat.add_zero]
        exact ev
      have pt : (arrOf (setArr st xs))[lo + u - 1]? = some t := by
        show xs[lo + u - 1]? = some t
        rw [← Array.getElem?_toList, q1, List.append_assoc, List.getElem?_append_right (by omega), lT, List.getElem?_append_left (by rw [q2]; omega), List.getElem?_append_right (by rw [List.length_append] at q2; omega)]
        rw [List.length_append] at q2
        rw [show lo + u - 1 - lo - hd.length = tl.length - 1 by omega]
        exact et
      refine wpS_bind (wpS_ltAtX L hk pv pt (PD _ (List.mem_of_getElem? ev)) (PT _ htl) ?_)
      dsimp only
      have esn : ssort blt (D.take (u + 1)) = mg blt (tl ++ hd.reverse) [v] := by rw [take_at ev, ssort_snoc, q4]
      have edr := drop_at ev
      cases hs : blt v t with
      | true =>
        rw [if_pos rfl]
        have v1 : ∀ z ∈ tl, blt v z = true := fun z hz => o.ltle hs (q6 z hz t htl)
        have v2 : ∀ z ∈ hd, blt v z = true := fun z hz => o.tr _ _ _ hs (q5 z hz t htl)
        have e5 : ssort blt (D.take (u + 1)) = [v] ++ (hd ++ tl.reverse).reverse := by
          rw [esn, List.reverse_append, List.reverse_reverse]
          have := mg_head_b blt (xs := tl ++ hd.reverse) (bs := [v]) (ys := []) fun b hb z hz => by
            rw [List.mem_singleton.mp hb]
            rcases List.mem_append.mp hz with hz | hz
            · exact v1 z hz
            · exact v2 z (List.mem_reverse.mp hz)
          rw [List.append_nil, mg_nil'] at this
          exact this
        have fin : ∀ ys : Array Keyed, ys.toList = T ++ (hd ++ tl.reverse) ++ D.drop u → ∃ (neq' : Nat) (xs' : Array Keyed) (hd' tl' : List Keyed), ((none, u + 1, 0) : Option (Option Nat) × Nat × Nat) = (none, u + 1, neq') ∧ setArr st ys = setArr st xs' ∧ xs'.toList = T ++ (hd' ++ tl') ++ D.drop (u + 1) ∧ (hd' ++ tl').length = u + 1 ∧ tl'.length = neq' + 1 ∧ ssort blt (D.take (u + 1)) = tl' ++ hd'.reverse ∧ (∀ a ∈ hd', ∀ b ∈ tl', blt b a = true) ∧ (∀ a ∈ tl', ∀ b ∈ tl', blt a b = false) := fun ys ey => by
          refine ⟨0, ys, hd ++ tl.reverse, [v], rfl, rfl, ?_, ?_, rfl, e5, ?_, ?_⟩
          · rw [ey, edr]
            simp only [List.append_assoc, List.cons_append, List.nil_append]
          · rw [List.length_append, List.length_append, List.length_reverse, ← List.length_append, q2]
            rfl
          · intro a ha b hb
            rw [List.mem_singleton.mp hb]
            rcases List.mem_append.mp ha with ha | ha
            · exact v2 a ha
            · exact v1 a (List.mem_reverse.mp ha)
          · intro a ha b hb
            rw [List.mem_singleton.mp ha, List.mem_singleton.mp hb]
            exact o.irr v
        by_cases hq : neq > 0
        · rw [if_pos hq]
          refine wpS_bind (wpS_reverse (wpS_pure (fin _ ?_)))
          have hlen : hd.length + tl.length = u := by rw [← List.length_append]; exact q2
          have := mirror_mid (xs := xs) (U := T ++ hd) (V := tl) (W := D.drop u) (i := lo + u - (neq + 1)) (j := lo + u) (by rw [q1]; simp only [List.append_assoc]) (by rw [List.length_append]; omega) (by rw [List.length_append]; omega)
          show (mirror xs _ _ _).toList = _
          rw [this]
          simp only [List.append_assoc]
        · rw [if_neg hq]
          refine wpS_pure (fin _ ?_)
          have : tl.reverse = tl := by
            obtain ⟨z, rfl⟩ := List.length_eq_one_iff.mp (show tl.length = 1 by omega)
            rfl
          rw [this]
          exact q1
      | false =>
        rw [if_neg (by decide)]
        refine wpS_bind (wpS_ltAtX L hk pt pv (PT _ htl) (PD _ (List.mem_of_getElem? ev)) ?_)
        dsimp only
        cases hg : blt t v with
        | true =>
          rw [if_pos rfl]
          exact wpS_pure ⟨u, neq, xs, hd, tl, rfl, hu1, by omega, rfl, q1, q2, q3, q4⟩
        | false =>
          rw [if_neg (by decide)]
          have v1 : ∀ z ∈ tl, blt v z = false := fun z hz => o.le (q6 t htl z hz) hs
          have v3 : ∀ z ∈ tl, blt z v = false := fun z hz => o.le hg (q6 z hz t htl)
          have v2 : ∀ z ∈ hd, blt v z = true := fun z hz => o.lelt hg (q5 z hz t htl)
          refine wpS_pure ⟨neq + 1, xs, hd, tl ++ [v], rfl, rfl, ?_, ?_, ?_, ?_, ?_, ?_⟩
          · rw [q1, edr]
            simp only [List.append_assoc, List.cons_append, List.nil_append]
          · rw [← List.append_assoc, List.length_append, q2]
            rfl
          · rw [List.length_append, q3]
            rfl
          · rw [esn, mg_head_a blt fun a ha z hz => by rw [List.mem_singleton.mp hz]; exact v1 a ha]
            have := mg_head_b blt (xs := hd.reverse) (bs := [v]) (ys := []) fun b hb z hz => by
              rw [List.mem_singleton.mp hb]
              exact v2 z (List.mem_reverse.mp hz)
            rw [List.append_nil, mg_nil'] at this
            rw [this, List.append_assoc]
          · intro a ha b hb
            rcases List.mem_append.mp hb with hb | hb
            · exact q5 a ha b hb
            · rw [List.mem_singleton.mp hb]; exact v2 a ha
          · intro a ha b hb
            rcases List.mem_append.mp ha with ha | ha
            · rcases List.mem_append.mp hb with hb | hb
              · exact q6 a ha b hb
              · rw [List.mem_singleton.mp hb]; exact v3 a ha
            · rw [List.mem_singleton.mp ha]
              rcases List.mem_append.mp hb with hb | hb
              · exact v1 b hb
              · rw [List.mem_singleton.mp hb]; exact o.irr v
    · rintro c st' ⟨neq, xs, hd, tl, rfl, rfl, q1, q2, q3, q4, q5, q6⟩
      have hmx : max (n + 1) nrem = nrem := by omega
      rw [hmx] at q1 q2 q4 ⊢
      exact ⟨nrem, neq, xs, hd, tl, rfl, by omega, Nat.le_refl _, rfl, q1, q2, q3, q4⟩
    · rw [m1, drop_at ex]
      simp only [List.append_assoc, List.cons_append, List.nil_append]
    · rw [List.length_append, List.length_reverse, lDn]
      rfl
    · rw [take_at ex, ssort_snoc, ssort_id sn, List.reverse_reverse]
      have := mg_head_b blt (xs := D.take n) (bs := [x]) (ys := []) fun b hb z hz => by
        rw [List.mem_singleton.mp hb]
        exact hall z hz
      rw [List.append_nil, mg_nil'] at this
      exact this
    · intro a ha b hb
      rw [List.mem_singleton.mp hb]
      exact hall a (List.mem_reverse.mp ha)
    · intro a ha b hb
      rw [List.mem_singleton.mp ha, List.mem_singleton.mp hb]
      exact o.irr x
    · rintro c st' ⟨m, neq, xs, hd, tl, rfl, hm1, hm2, rfl, q1, q2, q3, q4⟩
      dsimp only
      have hlen : hd.length + tl.length = m := by rw [← List.length_append]; exact q2
      have last : ∀ ys : Array Keyed, ys.toList = T ++ (tl ++ hd.reverse) ++ D.drop m → ∀ F : Nat → Option (Option Nat) × Nat → StateT SortSt Sem (ForInStep (Option (Option Nat) × Nat)),
          (∀ x n, F x (none, n) = (do
            let r ← ltAt' (lo + n) (lo + n - 1)
            match r with
            | some smaller => if smaller = true then pure (ForInStep.done (none, n)) else pure (ForInStep.yield (none, n + 1))
            | x => pure (ForInStep.done (some none, n)))) →
          wpS (model prog w) A E s (forIn [m:nrem] (none, m) F) (fun r st' => ∃ m', r = (none, m') ∧ Q (some m') st') (setArr st ys) := fun ys ey F hF => by
        have sC : Srt blt (tl ++ hd.reverse) := by rw [← q4]; exact ssort_srt o _
        refine wpS_rise L o (T := T) (C := tl ++ hd.reverse) (D := D) hF hk ?_ lT lD (by omega) hm2 (by rw [List.length_append, List.length_reverse]; omega) ey sC fun n' hn1' hn2' sn' _ => ⟨n', rfl, h n' ys (by omega) hn2' ?_⟩
        · intro z hz
          have hz : z ∈ ys.toList := hz
          rw [ey] at hz
          rcases List.mem_append.mp hz with hz | hz
          · rcases List.mem_append.mp hz with hz | hz
            · exact hP z (by rw [e]; exact List.mem_append_left _ hz)
            · rw [← q4] at hz
              exact PD z (List.mem_of_mem_take ((ssort_perm blt _).mem_iff.mp hz))
          · exact PD z (List.mem_of_mem_drop hz)
        · rw [← q4] at sn'
          have e7 : D.take n' = D.take m ++ (D.drop m).take (n' - m) := by rw [take_split D hn1']
          rw [e7, ssort_grow o sn', ey, q4]
          have e8 : D.drop m = (D.drop m).take (n' - m) ++ D.drop n' := by
            have := drop_split D m (n' - m)
            rw [show m + (n' - m) = n' by omega] at this
            exact this
          conv => lhs; rw [e8]
          simp only [List.append_assoc]
      by_cases hq : neq > 0
      · rw [if_pos hq]
        have r1 := mirror_mid (xs := xs) (U := T ++ hd) (V := tl) (W := D.drop m) (i := lo + m - (neq + 1)) (j := lo + m) (by rw [q1]; simp only [List.append_assoc]) (by rw [List.length_append]; omega) (by rw [List.length_append]; omega)
        refine wpS_bind (wpS_reverse ?_)
        refine wpS_bind (wpS_reverse ?_)
        have r2 := mirror_mid (xs := mirror xs (lo + m - (neq + 1)) (lo + m) ((lo + m - (lo + m - (neq + 1))) / 2)) (U := T) (V := hd ++ tl.reverse) (W := D.drop m) (i := lo) (j := lo + m) (by rw [r1]; simp only [List.append_assoc]) lT.symm (by rw [List.length_append, List.length_reverse]; omega)
        rw [List.reverse_append, List.reverse_reverse] at r2
        refine wpS_bind (wpS_mono (last _ r2 _ (fun x n => rfl)) ?_)
        rintro c st' ⟨m', rfl, hQ⟩
        exact wpS_pure hQ
      · rw [if_neg hq]
        have hrv : tl.reverse = tl := by
          obtain ⟨z, rfl⟩ := List.length_eq_one_iff.mp (show tl.length = 1 by omega)
          rfl
        refine wpS_bind (wpS_reverse ?_)
        have r2 := mirror_mid (xs := xs) (U := T) (V := hd ++ tl) (W := D.drop m) (i := lo) (j := lo + m) q1 lT.symm (by rw [q2]; omega)
        rw [List.reverse_append, hrv] at r2
        refine wpS_bind (wpS_mono (last _ r2 _ (fun x n => rfl)) ?_)
        rintro c st' ⟨m', rfl, hQ⟩
        exact wpS_pure hQ
end
end L2
end

section
set_option Elab.async false
set_option linter.all false
set_option maxRecDepth 100000
set_option maxHeartbeats 4000000
namespace L2
open PySem PySem.Spec PyProof.Rows TW
def PendL : Nat → List (List Keyed) → List (Nat × Nat × Nat) → Prop
  | _, [], [] => True
  | s, g :: gs, (s', n, _) :: q => s' = s ∧ n = g.length ∧ PendL (s + g.length) gs q
  | _, _, _ => False
theorem pendL_app : ∀ {s : Nat} {A B : List (List Keyed)} {q : List (Nat × Nat × Nat)}, PendL s (A ++ B) q → ∃ q1 q2, q = q1 ++ q2 ∧ q1.length = A.length ∧ PendL s A q1 ∧ PendL (s + A.flatten.length) B q2
  | s, [], B, q, h => ⟨[], q, rfl, rfl, trivial, h⟩
  | s, g :: A, B, (s', n, p) :: q, h => by
    obtain ⟨h1, h2, h3⟩ := h
    obtain ⟨q1, q2, e, l, a, b⟩ := pendL_app h3
    refine ⟨(s', n, p) :: q1, q2, by rw [e]; rfl, by rw [List.length_cons, l]; rfl, ⟨h1, h2, a⟩, ?_⟩
    rw [List.flatten_cons, List.length_append, ← Nat.add_assoc]
    exact b
  | s, g :: A, B, [], h => h.elim
theorem pendL_join : ∀ {s : Nat} {A B : List (List Keyed)} {q1 q2 : List (Nat × Nat × Nat)}, PendL s A q1 → PendL (s + A.flatten.length) B q2 → PendL s (A ++ B) (q1 ++ q2)
  | s, [], B, [], q2, _, h => h
  | s, g :: A, B, (s', n, p) :: q1, q2, ⟨h1, h2, h3⟩, h => ⟨h1, h2, pendL_join h3 (by rw [List.flatten_cons, List.length_append, ← Nat.add_assoc] at h; exact h)⟩
  | s, [], B, _ :: _, q2, h, _ => h.elim
  | s, g :: A, B, [], q2, h, _ => h.elim
theorem pendL_len {s : Nat} {A : List (List Keyed)} {q : List (Nat × Nat × Nat)} (h : PendL s A q) : q.length = A.length := by
  rw [show A = A ++ [] by rw [List.append_nil]] at h
  obtain ⟨q1, q2, e, l, _, b⟩ := pendL_app h
  cases q2 with
  | nil => rw [e, List.append_nil, l]
  | cons x r => exact b.elim
theorem set_erase {α : Type} {q1 q2 : List α} {x y z : α} {i : Nat} (h : q1.length = i) : ((q1 ++ x :: y :: q2).set i z).eraseIdx (i + 1) = q1 ++ z :: q2 := by
  subst h
  rw [List.set_append_right _ _ (Nat.le_refl _), Nat.sub_self, List.set_cons_zero, List.eraseIdx_append_of_length_le (Nat.le_succ _), show q1.length.succ - q1.length = 1 by omega]
  rfl
theorem pendL_modify {pw : Nat} : ∀ {s : Nat} {A : List (List Keyed)} {q : List (Nat × Nat × Nat)} (i : Nat), PendL s A q → PendL s A (q.modify i fun x => (x.1, x.2.1, pw))
  | _, [], [], i, _ => by cases i <;> trivial
  | _, g :: A, (s', n, p) :: q, 0, ⟨h1, h2, h3⟩ => ⟨h1, h2, h3⟩
  | _, g :: A, (s', n, p) :: q, i + 1, ⟨h1, h2, h3⟩ => ⟨h1, h2, pendL_modify i h3⟩
  | _, [], _ :: _, _, h => h.elim
  | _, _ :: _, [], _, h => h.elim
theorem flat_len (blt : Keyed → Keyed → Bool) : ∀ A : List (List Keyed), ((A.map (ssort blt)).flatten).length = A.flatten.length
  | [] => rfl
  | g :: A => by rw [List.map_cons, List.flatten_cons, List.flatten_cons, List.length_append, List.length_append, ssort_len, flat_len blt A]
theorem flat_mem (blt : Keyed → Keyed → Bool) {x : Keyed} : ∀ {A : List (List Keyed)}, x ∈ (A.map (ssort blt)).flatten → x ∈ A.flatten
  | [], h => h
  | g :: A, h => by
    rw [List.map_cons, List.flatten_cons] at h
    rw [List.flatten_cons]
    rcases List.mem_append.mp h with h | h
    · exact List.mem_append_left _ ((ssort_perm blt g).mem_iff.mp h)
    · exact List.mem_append_right _ (flat_mem blt h)
theorem mid_split {U V W : List Keyed} : (U ++ (V ++ W)).take U.length = U ∧ (U ++ (V ++ W)).drop U.length = V ++ W ∧ ((U ++ (V ++ W)).drop U.length).take V.length = V ∧ (U ++ (V ++ W)).drop (U.length + V.length) = W := by
  have e2 : (U ++ (V ++ W)).drop U.length = V ++ W := by rw [List.drop_append_of_le_length (Nat.le_refl _), List.drop_length, List.nil_append]
  refine ⟨by rw [List.take_append_of_le_length (Nat.le_refl _), List.take_length], e2, ?_, ?_⟩
  · rw [e2, List.take_append_of_le_length (Nat.le_refl _), List.take_length]
  · rw [← List.drop_drop, e2, List.drop_append_of_le_length (Nat.le_refl _), List.drop_length, List.nil_append]
structure SI (kd : SortKind) (blt : Keyed → Keyed → Bool) (l0 : List Keyed) (segs : List (List Keyed)) (lo : Nat) (st : SortSt) : Prop where
  ne : ∀ g ∈ segs, g ≠ []
  all : segs.flatten ++ l0.drop lo = l0
  len : segs.flatten.length = lo
  arr : (arrOf st).toList = (segs.map (ssort blt)).flatten ++ l0.drop lo
  pend : PendL 0 segs (pendingOf st).toList
  kind : kindOf st = kd
  fail : failedOf st = none
theorem SI.few {kd : SortKind} {blt : Keyed → Keyed → Bool} {l0 : List Keyed} {segs : List (List Keyed)} {lo : Nat} {st : SortSt} (h : SI kd blt l0 segs lo st) : segs.length ≤ lo := by
  have key : ∀ A : List (List Keyed), (∀ g ∈ A, g ≠ []) → A.length ≤ A.flatten.length := fun A => by
    induction A with
    | nil => intro _; exact Nat.le_refl _
    | cons g A ih =>
      intro hn
      have h1 := ih fun x hx => hn x (List.mem_cons_of_mem _ hx)
      have h2 := List.length_pos_iff.mpr (hn g List.mem_cons_self)
      rw [List.flatten_cons, List.length_append, List.length_cons]
      omega
  have := key segs h.ne
  rw [h.len] at this
  exact this
theorem SI.size {kd : SortKind} {blt : Keyed → Keyed → Bool} {l0 : List Keyed} {segs : List (List Keyed)} {lo : Nat} {st : SortSt} (h : SI kd blt l0 segs lo st) : (arrOf st).size = l0.length := by
  rw [← Array.length_toList, h.arr, List.length_append, flat_len]
  have := congrArg List.length h.all
  rw [List.length_append] at this
  exact this
theorem SI.mem {kd : SortKind} {blt : Keyed → Keyed → Bool} {l0 : List Keyed} {segs : List (List Keyed)} {lo : Nat} {st : SortSt} (h : SI kd blt l0 segs lo st) {x : Keyed} (hx : x ∈ (arrOf st).toList) : x ∈ l0 := by
  rw [h.arr] at hx
  rw [← h.all]
  rcases List.mem_append.mp hx with hx | hx
  · exact List.mem_append_left _ (flat_mem blt hx)
  · exact List.mem_append_right _ hx
section
variable {prog : Program} {w : World} {A : Around} {E : Value → Shared → Prop} {s : Shared}
variable {kd : SortKind} {P : Keyed → Prop} {blt : Keyed → Keyed → Bool} (L : LtOk prog w A E s kd P blt) (o : Swo blt)
include L o
theorem wpS_binarySortX {st : SortSt} {lo n ok : Nat} {T D : List Keyed} {Q : Bool → SortSt → Prop} (hk : kindOf st = kd) (hP : ∀ x ∈ D, P x) (hT : T.length = lo) (hok : 1 ≤ ok) (hn : ok ≤ n) (hD : n ≤ D.length)
    (e : (arrOf st).toList = T ++ ssort blt (D.take ok) ++ D.drop ok) (h : ∀ xs : Array Keyed, xs.toList = T ++ ssort blt (D.take n) ++ D.drop n → Q true (setArr st xs)) :
    wpS (model prog w) A E s (binarySort' lo n ok) Q st := by
  have hmx : max ok 1 = ok := by omega
  refine wpS_bind (wpS_mono (wpS_forRange (I := fun k c st' => c = (none, ()) ∧ k ≤ n ∧ ∃ xs : Array Keyed, st' = setArr st xs ∧ xs.toList = T ++ ssort blt (D.take k) ++ D.drop k)
    (Q := fun c st' => c = (none, ()) ∧ ∃ xs : Array Keyed, st' = setArr st xs ∧ xs.toList = T ++ ssort blt (D.take n) ++ D.drop n) ?_ ?_ ⟨rfl, by omega, arrOf st, rfl, by rw [hmx]; exact e⟩) ?_)
  · rintro k c st' hk1 hk2 ⟨rfl, _, xs, rfl, ex⟩
    dsimp only
    obtain ⟨v, ev⟩ : ∃ v, D[k]? = some v := ⟨_, List.getElem?_eq_getElem (by omega)⟩
    have lS : (ssort blt (D.take k)).length = k := by rw [ssort_len, List.length_take]; omega
    have sS := ssort_srt o (D.take k)
    have pS : ∀ x ∈ ssort blt (D.take k), P x := fun x hx => hP x (List.mem_of_mem_take ((ssort_perm blt _).mem_iff.mp hx))
    have esn : ssort blt (D.take (k + 1)) = mg blt (ssort blt (D.take k)) [v] := by rw [take_at ev, ssort_snoc]
    generalize ssort blt (D.take k) = S at *
    have pv : xs[lo + k]? = some v := by
      rw [← Array.getElem?_toList, ex, List.getElem?_append_right (by rw [List.length_append]; omega), List.length_append, lS, hT, Nat.sub_self, List.getElem?_drop, Nat.add_zero]
      exact ev
    have pm : ∀ m, m < k → xs[lo + m]? = S[m]? := fun m hm => by
      rw [← Array.getElem?_toList, ex, List.append_assoc, List.getElem?_append_right (by omega), hT, Nat.add_sub_cancel_left, List.getElem?_append_left (by omega)]
    refine wpS_bind (wpS_mono (wpS_forRange (I := fun x c st' => ∃ l r, c = (none, l, r) ∧ st' = setArr st xs ∧ l ≤ r ∧ r ≤ k ∧ r - l + x ≤ k ∧ (∀ i z, i < l → S[i]? = some z → blt v z = false) ∧ (∀ i z, r ≤ i → S[i]? = some z → blt v z = true))
      (Q := fun c st' => ∃ l r, c = (none, l, r) ∧ st' = setArr st xs ∧ l ≤ k ∧ (∀ i z, i < l → S[i]? = some z → blt v z = false) ∧ (∀ i z, l ≤ i → S[i]? = some z → blt v z = true)) ?_ ?_ ⟨0, k, rfl, rfl, by omega, by omega, by omega, ?_, ?_⟩) ?_)
    · rintro x c st' _ hx ⟨l, r, rfl, rfl, q1, q2, q3, q4, q5⟩
      dsimp only
      by_cases hge : l ≥ r
      · rw [if_pos hge]
        exact wpS_pure ⟨l, r, rfl, rfl, by omega, q4, fun i z hi ez => q5 i z (by omega) ez⟩
      · rw [if_neg hge]
        obtain ⟨z, ez⟩ : ∃ z, S[(l + r) / 2]? = some z := ⟨_, List.getElem?_eq_getElem (by omega)⟩
        refine wpS_bind (wpS_ltAtX L hk pv (by show xs[_]? = _; rw [pm _ (by omega)]; exact ez) (hP _ (List.mem_of_getElem? ev)) (pS _ (List.mem_of_getElem? ez)) ?_)
        dsimp only
        cases hb : blt v z with
        | true =>
          rw [if_pos rfl]
          exact wpS_pure ⟨_, _, rfl, rfl, by omega, by omega, by omega, q4, fun i z' hi ez' => o.ltle hb (srt_le o sS hi ez ez')⟩
        | false =>
          rw [if_neg (by decide)]
          exact wpS_pure ⟨_, _, rfl, rfl, by omega, by omega, by omega, (fun i z' hi ez' => o.le (srt_le o sS (show i ≤ (l + r) / 2 by omega) ez' ez) hb), q5⟩
    · rintro c st' ⟨l, r, rfl, rfl, q1, q2, q3, q4, q5⟩
      have : max 0 k = k := by omega
      rw [this] at q3
      exact ⟨l, r, rfl, rfl, by omega, q4, fun i z hi ez => q5 i z (by omega) ez⟩
    · intro i z hi
      omega
    · intro i z hi ez
      have := (List.getElem?_eq_some_iff.mp ez).1
      omega
    · rintro c st' ⟨l, r, rfl, rfl, q1, q4, q5⟩
      dsimp only
      refine wpS_bind (?_ : wpS (model prog w) A E s (moveDown' (lo + k) (lo + l)) _ _)
      rw [moveDown'_eq]
      refine wpS_modify (wpS_pure ⟨rfl, by omega, bubble xs (lo + k) (lo + k - (lo + l)), rfl, ?_⟩)
      have hsz : xs.size = lo + D.length := by
        rw [← Array.length_toList, ex, List.length_append, List.length_append, lS, hT, List.length_drop]
        omega
      rw [bubble_list (by omega) (by omega) pv, show lo + k - (lo + k - (lo + l)) = lo + l by omega, show lo + k - (lo + l) = k - l by omega, ex]
      have hl : T.length + (S.take l).length = lo + l := by rw [List.length_take]; omega
      have e1 : T ++ S ++ D.drop k = (T ++ S.take l) ++ (S.drop l ++ D.drop k) := by
        conv => lhs; rw [← List.take_append_drop l S]
        simp only [List.append_assoc]
      have hl2 : (S.drop l).length = k - l := by rw [List.length_drop, lS]
      obtain ⟨m1, m2, m3, m4⟩ := mid_split (U := T ++ S.take l) (V := S.drop l) (W := D.drop k)
      rw [List.length_append, hl] at m1 m2 m3 m4
      rw [hl2] at m3 m4
      have e2 : (T ++ S ++ D.drop k).drop (lo + k + 1) = D.drop (k + 1) := by
        rw [← List.drop_drop, e1, show lo + k = lo + l + (k - l) by omega, m4, List.drop_drop]
      rw [e2, e1, m1, m3, esn]
      have hS : S = S.take l ++ S.drop l := (List.take_append_drop l S).symm
      conv => rhs; rw [hS]
      rw [mg_head_a blt fun a ha y hy => ?_]
      · have := mg_head_b blt (xs := S.drop l) (bs := [v]) (ys := []) fun b hb z hz => by
          rw [List.mem_singleton.mp hb]
          obtain ⟨j, hj, ez⟩ := mem_drop hz
          exact q5 j z hj ez
        rw [List.append_nil, mg_nil'] at this
        rw [this]
        simp only [List.append_assoc]
      · rw [List.mem_singleton.mp hy]
        obtain ⟨j, hj, ez⟩ := mem_take ha
        exact q4 j a hj ez
  · rintro c st' ⟨rfl, hle, xs, rfl, ex⟩
    rw [hmx] at hle ex
    have : max ok n = n := by omega
    rw [this] at ex
    exact ⟨rfl, xs, rfl, ex⟩
  · rintro c st' ⟨rfl, xs, rfl, ex⟩
    exact wpS_pure (h xs ex)
theorem wpS_mergeSI {l0 : List Keyed} {segs : List (List Keyed)} {lo i : Nat} {st : SortSt} {Q : Bool → SortSt → Prop} (hP : ∀ x ∈ l0, P x) (S : SI kd blt l0 segs lo st) (hi : i + 1 < segs.length)
    (h : ∀ segs' st', segs'.length + 1 = segs.length → SI kd blt l0 segs' lo st' → Q true st') : wpS (model prog w) A E s (mergeAt' i) Q st := by
  obtain ⟨A1, g, g', B, rfl, hA⟩ : ∃ A1 g g' B, segs = A1 ++ g :: g' :: B ∧ A1.length = i := by
    refine ⟨segs.take i, segs[i], segs[i + 1], segs.drop (i + 2), ?_, by rw [List.length_take]; omega⟩
    rw [← List.drop_eq_getElem_cons, ← List.drop_eq_getElem_cons, List.take_append_drop]
  obtain ⟨q1, q2, eq, lq, p1, p2⟩ := pendL_app S.pend
  obtain ⟨s1, n1, w1, q3, rfl⟩ : ∃ s1 n1 w1 q3, q2 = (s1, n1, w1) :: q3 := by
    cases q2 with
    | nil => exact p2.elim
    | cons t r => exact ⟨t.1, t.2.1, t.2.2, r, rfl⟩
  obtain ⟨es1, en1, p3⟩ := p2
  obtain ⟨s2, n2, w2, q4, rfl⟩ : ∃ s2 n2 w2 q4, q3 = (s2, n2, w2) :: q4 := by
    cases q3 with
    | nil => exact p3.elim
    | cons t r => exact ⟨t.1, t.2.1, t.2.2, r, rfl⟩
  obtain ⟨es2, en2, p4⟩ := p3
  rw [Nat.zero_add] at es1 es2 p4
  subst es1 en1 es2 en2
  have hg : g ≠ [] := S.ne g (by simp)
  have hg' : g' ≠ [] := S.ne g' (by simp)
  have earr : (arrOf st).toList = (A1.map (ssort blt)).flatten ++ (ssort blt g ++ (ssort blt g' ++ ((B.map (ssort blt)).flatten ++ l0.drop lo))) := by
    rw [S.arr, List.map_append, List.map_cons, List.map_cons, List.flatten_append, List.flatten_cons, List.flatten_cons]
    simp only [List.append_assoc]
  have lA : ((A1.map (ssort blt)).flatten).length = A1.flatten.length := flat_len blt A1
  have lg : (ssort blt g).length = g.length := ssort_len blt g
  have lg' : (ssort blt g').length = g'.length := ssort_len blt g'
  obtain ⟨m1, m2, m3, m4⟩ := mid_split (U := (A1.map (ssort blt)).flatten) (V := ssort blt g) (W := ssort blt g' ++ ((B.map (ssort blt)).flatten ++ l0.drop lo))
  rw [← earr, lA] at m1 m2 m3 m4
  rw [lg] at m3 m4
  obtain ⟨_, _, m5, m6⟩ := mid_split (U := (A1.map (ssort blt)).flatten ++ ssort blt g) (V := ssort blt g') (W := (B.map (ssort blt)).flatten ++ l0.drop lo)
  rw [List.append_assoc, ← earr, List.length_append, lA, lg, lg'] at m5 m6
  have hsz : A1.flatten.length + g.length + g'.length ≤ (arrOf st).size := by
    rw [← Array.length_toList, earr]
    simp only [List.length_append, lA, lg, lg']
    omega
  have i1 : (pendingOf st)[i]? = some (A1.flatten.length, g.length, w1) := by
    rw [← Array.getElem?_toList, eq, List.getElem?_append_right (by omega), lq, hA, Nat.sub_self]
    rfl
  have i2 : (pendingOf st)[i + 1]? = some (A1.flatten.length + g.length, g'.length, w2) := by
    rw [← Array.getElem?_toList, eq, List.getElem?_append_right (by omega), lq, hA, show i + 1 - i = 1 by omega]
    rfl
  refine wpS_mergeAt L o S.kind S.fail i1 i2 (List.length_pos_iff.mpr hg) (List.length_pos_iff.mpr hg') hsz (fun x hx => hP x (S.mem hx)) (by rw [m3]; exact ssort_srt o _) (by rw [m5]; exact ssort_srt o _) fun st' k1 k2 k3 k4 => ?_
  refine h (A1 ++ (g ++ g') :: B) st' (by simp only [List.length_append, List.length_cons]; omega) ⟨fun x hx => ?_, ?_, ?_, ?_, ?_, k1, k2⟩
  · rcases List.mem_append.mp hx with hx | hx
    · exact S.ne x (List.mem_append_left _ hx)
    · rcases List.mem_cons.mp hx with rfl | hx
      · exact fun e => hg (List.append_eq_nil_iff.mp e).1
      · exact S.ne x (List.mem_append_right _ (List.mem_cons_of_mem _ (List.mem_cons_of_mem _ hx)))
  · have := S.all
    simp only [List.flatten_append, List.flatten_cons, List.append_assoc] at this ⊢
    exact this
  · have := S.len
    simp only [List.flatten_append, List.flatten_cons, List.length_append] at this ⊢
    omega
  · rw [k4, m1, m3, m5, m6, ← ssort_app o, List.map_append, List.map_cons, List.flatten_append, List.flatten_cons]
    simp only [List.append_assoc]
  · rw [k3, Array.toList_eraseIdxIfInBounds, Array.toList_setIfInBounds, eq, set_erase (by omega)]
    refine pendL_join p1 ⟨by rw [Nat.zero_add], by rw [List.length_append], ?_⟩
    rw [Nat.zero_add, List.length_append, ← Nat.add_assoc]
    exact p4
theorem wpS_sortRunsX {l0 : List Keyed} {st : SortSt} {Q : Unit → SortSt → Prop} (hk : kindOf st = kd) (hf : failedOf st = none) (hp : pendingOf st = #[]) (e : (arrOf st).toList = l0) (hP : ∀ x ∈ l0, P x) (h2 : 1 ≤ l0.length)
    (h : ∀ st' : SortSt, failedOf st' = none → (arrOf st').toList = ssort blt l0 → Q () st') : wpS (model prog w) A E s sortRuns' Q st := by
  have hsz : (arrOf st).size = l0.length := by rw [← Array.length_toList, e]
  have S0 : SI kd blt l0 [] 0 st := ⟨(fun g hg => by cases hg), by rw [List.drop_zero]; rfl, rfl, by rw [e, List.drop_zero]; rfl, by rw [hp]; trivial, hk, hf⟩
  refine wpS_bind (wpS_get ?_)
  dsimp only
  generalize (arrOf st).size = sz at *
  subst hsz
  generalize (sortPriv% PySem.Builtin.minRun) l0.length l0.length 0 = mr
  refine wpS_bind (wpS_mono (wpS_forRange (I := fun x c st' => ∃ lo segs, c = (none, lo) ∧ x ≤ lo ∧ lo ≤ l0.length ∧ SI kd blt l0 segs lo st')
    (Q := fun c st' => ∃ segs, c = (none, l0.length) ∧ SI kd blt l0 segs l0.length st') ?_ ?_ ⟨0, [], rfl, Nat.le_refl _, Nat.zero_le _, S0⟩) ?_)
  · rintro x c st1 _ hx ⟨lo, segs, rfl, hxl, hlo, S⟩
    dsimp only
    by_cases hge : lo ≥ l0.length
    · rw [if_pos hge]
      have : lo = l0.length := by omega
      subst this
      exact wpS_pure ⟨segs, rfl, S⟩
    rw [if_neg hge]
    have lF : ((segs.map (ssort blt)).flatten).length = lo := by rw [flat_len, S.len]
    have dlo : (arrOf st1).toList.drop lo = l0.drop lo := by rw [S.arr, List.drop_append_of_le_length (by omega), List.drop_of_length_le (by omega), List.nil_append]
    have tlo : (arrOf st1).toList.take lo = (segs.map (ssort blt)).flatten := by rw [S.arr, List.take_append_of_le_length (by omega), List.take_of_length_le (by omega)]
    have lD : (l0.drop lo).length = l0.length - lo := List.length_drop
    have hD : ∀ x ∈ l0.drop lo, P x := fun x hx => hP x (List.mem_of_mem_drop hx)
    refine wpS_bind (wpS_countRunX L o S.kind (fun x hx => hP x (S.mem hx)) (by rw [S.size]; omega) (by omega) fun m xs hm1 hm2 ex => ?_)
    rw [dlo, tlo] at ex
    dsimp only
    by_cases hlt : m < mr
    case' pos =>
      rw [if_pos hlt]
      refine wpS_bind (wpS_lift (wpAny_rule ⟨rfl, ?_⟩))
      refine wpS_bind (wpS_binarySortX L o (st := setArr st1 xs) (lo := lo) (n := min (l0.length - lo) mr) (ok := m) (T := (segs.map (ssort blt)).flatten) (D := l0.drop lo) S.kind hD lF hm1 (by omega) (by omega) ex fun xs2 ex2 => ?_)
      rw [if_neg (by decide)]
      have hn1 : 1 ≤ min (l0.length - lo) mr := by omega
      have hn2 : min (l0.length - lo) mr ≤ l0.length - lo := by omega
      clear ex
      have ex := ex2
      clear ex2 hm1 hm2 hlt
      have hm1 := hn1
      have hm2 := hn2
      clear hn1 hn2
      generalize min (l0.length - lo) mr = n at *
      show wpS _ _ _ _ _ _ (setArr st1 xs2)
      generalize xs2 = xs3 at *
    case' neg =>
      rw [if_neg hlt]
      clear hlt
      generalize m = n at *
      generalize xs = xs3 at *
    all_goals
      have hl0' : ((l0.take lo ++ (ssort blt ((l0.drop lo).take n) ++ (l0.drop lo).drop n)).drop lo) = ssort blt ((l0.drop lo).take n) ++ (l0.drop lo).drop n := by
        rw [List.drop_append_of_le_length (by rw [List.length_take]; omega), List.drop_of_length_le (by rw [List.length_take]; omega), List.nil_append]
      have hsf : segs.flatten = l0.take lo := by
        have := congrArg (List.take lo) S.all
        rw [List.take_append_of_le_length (by rw [S.len]; exact Nat.le_refl _), List.take_of_length_le (by rw [S.len]; exact Nat.le_refl _)] at this
        exact this
      have S' : SI kd blt (l0.take lo ++ (ssort blt ((l0.drop lo).take n) ++ (l0.drop lo).drop n)) segs lo (setArr st1 xs3) :=
        ⟨S.ne, by rw [hl0', hsf], S.len, by show xs3.toList = _; rw [ex, hl0', List.append_assoc], S.pend, S.kind, S.fail⟩
      have hP' : ∀ x ∈ l0.take lo ++ (ssort blt ((l0.drop lo).take n) ++ (l0.drop lo).drop n), P x := fun x hx => by
        rcases List.mem_append.mp hx with hx | hx
        · exact hP x (List.mem_of_mem_take hx)
        · rcases List.mem_append.mp hx with hx | hx
          · exact hD x (List.mem_of_mem_take ((ssort_perm blt _).mem_iff.mp hx))
          · exact hD x (List.mem_of_mem_drop hx)
      have fin : ∀ (segs' : List (List Keyed)) (st3 : SortSt) (q : Array (Nat × Nat × Nat)), SI kd blt (l0.take lo ++ (ssort blt ((l0.drop lo).take n) ++ (l0.drop lo).drop n)) segs' lo st3 → PendL 0 segs' q.toList →
          SI kd blt l0 (segs' ++ [(l0.drop lo).take n]) (lo + n) (setPending st3 (q.push (lo, n, 0))) := fun segs' st3 q S3 hq => by
        have hsf' : segs'.flatten = l0.take lo := by
          have := congrArg (List.take lo) S3.all
          rw [List.take_append_of_le_length (by rw [S3.len]; exact Nat.le_refl _), List.take_of_length_le (by rw [S3.len]; exact Nat.le_refl _), List.take_append_of_le_length (by rw [List.length_take]; omega), List.take_of_length_le (l := l0.take lo) (by rw [List.length_take]; omega)] at this
          exact this
        have ln : ((l0.drop lo).take n).length = n := by rw [List.length_take]; omega
        refine ⟨fun g hg => ?_, ?_, ?_, ?_, ?_, S3.kind, S3.fail⟩
        · rcases List.mem_append.mp hg with hg | hg
          · exact S3.ne g hg
          · rw [List.mem_singleton.mp hg]
            exact fun z => by rw [z] at ln; simp at ln; omega
        · rw [List.flatten_append, List.flatten_singleton, hsf', ← List.drop_drop, List.append_assoc, List.take_append_drop, List.take_append_drop]
        · rw [List.flatten_append, List.flatten_singleton, List.length_append, S3.len, ln]
        · show (arrOf st3).toList = _
          rw [S3.arr, hl0', List.map_append, List.map_cons, List.map_nil, List.flatten_append, List.flatten_singleton, ← List.drop_drop, List.append_assoc]
        · show PendL 0 _ (q.push (lo, n, 0)).toList
          rw [Array.toList_push]
          refine pendL_join hq ⟨?_, ln.symm, trivial⟩
          rw [Nat.zero_add, S3.len]
      refine wpS_bind (wpS_get ?_)
      dsimp only
      cases hb : (pendingOf (setArr st1 xs3)).back? with
      | none =>
        dsimp only
        exact wpS_bind (wpS_modify (wpS_pure ⟨lo + n, _, rfl, by omega, by omega, fin segs (setArr st1 xs3) (pendingOf st1) S' S.pend⟩))
      | some t =>
        obtain ⟨s1, n1, w1⟩ := t
        dsimp only
        generalize (sortPriv% PySem.Builtin.power) l0.length (2 * s1 + n1) (2 * s1 + n1 + n1 + n) l0.length = pw
        refine wpS_bind (wpS_mono (wpS_forRange (I := fun x c st' => c = (none, ()) ∧ ∃ segs', SI kd blt (l0.take lo ++ (ssort blt ((l0.drop lo).take n) ++ (l0.drop lo).drop n)) segs' lo st')
          (Q := fun c st' => c = (none, ()) ∧ ∃ segs', SI kd blt (l0.take lo ++ (ssort blt ((l0.drop lo).take n) ++ (l0.drop lo).drop n)) segs' lo st') ?_ ?_ ⟨rfl, segs, S'⟩) ?_)
        · rintro y c st4 _ hy ⟨rfl, segs', S4⟩
          refine wpS_bind (wpS_get ?_)
          try dsimp only
          have hpl : (pendingOf st4).size = segs'.length := by rw [← Array.length_toList]; exact pendL_len S4.pend
          by_cases c1 : (pendingOf st4).size > 1
          · rw [if_pos c1]
            obtain ⟨t, et⟩ : ∃ t, (pendingOf st4)[(pendingOf st4).size - 2]? = some t := ⟨_, Array.getElem?_eq_getElem (by omega)⟩
            rw [et]
            obtain ⟨a1, a2, older⟩ := t
            dsimp only
            by_cases c2 : older ≤ pw
            · rw [if_pos c2]
              exact wpS_pure ⟨rfl, segs', S4⟩
            · rw [if_neg c2]
              refine wpS_bind (wpS_mergeSI L o (i := (pendingOf st4).size - 2) hP' S4 (by omega) fun segs5 st5 _ S5 => ?_)
              exact wpS_pure ⟨rfl, segs5, S5⟩
          · rw [if_neg c1]
            exact wpS_pure ⟨rfl, segs', S4⟩
        · rintro c st4 ⟨rfl, segs', S4⟩
          exact ⟨rfl, segs', S4⟩
        · rintro c st4 ⟨rfl, segs', S4⟩
          try dsimp only
          refine wpS_bind (wpS_modify (wpS_bind (wpS_modify (wpS_pure ⟨lo + n, _, rfl, by omega, by omega, fin segs' st4 ((pendingOf st4).modify ((pendingOf st4).size - 1) fun x => (x.1, x.2.1, pw)) S4 ?_⟩))))
          rw [Array.toList_modify]
          exact pendL_modify _ S4.pend
  · rintro c st1 ⟨lo, segs, rfl, hxl, hlo, S⟩
    have : max 0 l0.length = l0.length := by omega
    rw [this] at hxl
    have : lo = l0.length := by omega
    subst this
    exact ⟨segs, rfl, S⟩
  · rintro c st1 ⟨segs, rfl, S⟩
    dsimp only
    refine wpS_bind (wpS_mono (wpS_forRange (I := fun x c st' => c = (none, ()) ∧ ∃ segs, segs.length + x ≤ l0.length ∧ SI kd blt l0 segs l0.length st')
      (Q := fun c st' => c = (none, ()) ∧ ∃ segs, segs.length ≤ 1 ∧ SI kd blt l0 segs l0.length st') ?_ ?_ ⟨rfl, segs, S.few, S⟩) ?_)
    · rintro x c st1 _ hx ⟨rfl, segs, hl, S⟩
      refine wpS_bind (wpS_get ?_)
      try dsimp only
      have hpl : (pendingOf st1).size = segs.length := by rw [← Array.length_toList]; exact pendL_len S.pend
      by_cases c1 : (pendingOf st1).size ≤ 1
      · rw [if_pos c1]
        exact wpS_pure ⟨rfl, segs, by omega, S⟩
      rw [if_neg c1]
      have h9 : ∀ c : Bool, (if c = true then (pendingOf st1).size - 2 - 1 else (pendingOf st1).size - 2) ≤ (pendingOf st1).size - 2 := fun c => by
        cases c
        · exact Nat.le_refl _
        · exact Nat.sub_le _ _
      refine wpS_bind (wpS_mergeSI L o hP S (Nat.lt_of_le_of_lt (Nat.succ_le_succ (h9 _)) (by omega)) fun segs' st2 hl2 S2 => ?_)
      exact wpS_pure ⟨rfl, segs', by omega, S2⟩
    · rintro c st1 ⟨rfl, segs, hl, S⟩
      have : max 0 l0.length = l0.length := by omega
      rw [this] at hl
      exact ⟨rfl, segs, by omega, S⟩
    · rintro c st1 ⟨rfl, segs, hl, S⟩
      refine wpS_pure (h st1 S.fail ?_)
      have hlen := S.len
      have hall := S.all
      rw [List.drop_length, List.append_nil] at hall
      obtain ⟨g, rfl⟩ : ∃ g, segs = [g] := by
        cases segs with
        | nil => rw [List.flatten_nil, List.length_nil] at hlen; omega
        | cons g r =>
          rw [List.length_cons] at hl
          exact ⟨g, by rw [List.length_eq_zero_iff.mp (show r.length = 0 by omega)]⟩
      rw [List.flatten_singleton] at hall
      rw [S.arr, List.drop_length, List.append_nil, List.map_cons, List.map_nil, List.flatten_singleton, hall]
end
end L2
end

section
set_option Elab.async false
set_option linter.all false
set_option maxRecDepth 100000
set_option maxHeartbeats 4000000
namespace L2
open PySem PySem.Spec PyProof.Rows TW
def Is2 (h : Heap) (v : Value) (q : Int × Int) : Prop := ∃ a t u o n, v = .ref a ∧ h.get? a = some o ∧ o.cls = .type "tuple" ∧ o.data = .seq #[.int q.1 t, .int q.2 u] n
section
variable {prog : Program} {w : World} {A : Around} {E : Value → Shared → Prop} {s : Shared}
theorem Is2.keep {h h' : Heap} {v : Value} {q : Int × Int} (x : Is2 h v q) (k : ∀ b o, h.get? b = some o → o.cls = .type "tuple" → h'.get? b = some o) : Is2 h' v q := by
  obtain ⟨a, t, u, o, n, e, g, c, d⟩ := x
  exact ⟨a, t, u, o, n, e, k _ _ g c, c, d⟩
end
end L2
end

section
set_option Elab.async false
set_option linter.all false
set_option maxRecDepth 100000
set_option maxHeartbeats 4000000
namespace L2
open PySem PySem.Spec PyProof.Rows TW
def both (N H : Hp) : Hp := fun b => match N b with | some o => some o | none => H b
theorem both_new {N H : Hp} {b : Addr} {o : HO} (h : N b = some o) : both N H b = some o := by unfold both; rw [h]
theorem both_old {N H : Hp} {b : Addr} (h : N b = none) : both N H b = H b := by unfold both; rw [h]
def TupsAt (H : Hp) (as : List Addr) (qs : List (Int × Int)) : Prop := as.length = qs.length ∧ ∀ (i : Nat) a q, as[i]? = some a → qs[i]? = some q → H a = some (.tup [.int q.1, .int q.2])
theorem TupsAt.same {H H' : Hp} {as : List Addr} {qs : List (Int × Int)} (h : TupsAt H as qs) (s : Same H H') : TupsAt H' as qs := ⟨h.1, fun i a q e1 e2 => s _ _ (h.2 i a q e1 e2)⟩
end L2
end

section
set_option Elab.async false
set_option linter.all false
set_option maxRecDepth 100000
set_option maxHeartbeats 4000000
namespace L2
open PySem PySem.Spec PyProof.Rows
end L2
end

section
set_option Elab.async false
set_option linter.all false
set_option maxRecDepth 100000
set_option maxHeartbeats 4000000
namespace L2
open PySem PySem.Spec PyProof.Rows
def CodeObj (oc : Obj) (qual : Str) : Prop := ∃ vs t, oc.data = .fields vs ∧ vs[1]? = some (.str qual t)
def TabOk (H : Hp) (P : Addr) (pos : Pos) (qual : Str) : Prop := ∃ ps : Array Value, H P = some (.tbl ps) ∧ TriplesOk ps.toList ∧ (codeAmong pos ps.toList = none ∨ ∃ c' oc, codeAmong pos ps.toList = some (.ref c') ∧ H c' = some (.frz oc (.own 0)) ∧ CodeObj oc qual)
section
variable {X : Cx} {pins : List (Addr × Obj)} {σ : St} {H : Hp} {s : Shared}
theorem Inv.grown {P : Addr} {ps more : Array Value} {N : Hp} {h' : Heap} {t' : Nat} (I : Inv X pins σ H s) (hP : H P = some (.tbl ps)) (k : ∀ b u, b ≠ P → s.heap.get? b = some u → h'.get? b = some u) (hT : h'.get? P = some (PySem.W.tabObj (ps ++ more)))
    (hp : ∀ b o, N b = some o → s.heap.objs.size ≤ b) (new : ∀ b o, N b = some o → ObjOk X.prog X.w (both N (upd H P (.tbl (ps ++ more)))) h' b o) : Inv X pins σ (both N (upd H P (.tbl (ps ++ more)))) { s with heap := h', toks := t' } := by
  have hlt : P < s.heap.objs.size := (I.hok P _ hP).lt
  have hNP : N P = none := by
    cases e : N P with
    | none => rfl
    | some o => exact absurd hlt (Nat.not_lt.mpr (hp P o e))
  have hn : ∀ b o, N b = some o → H b = none := fun b o e => I.hok.fresh (hp b o e)
  have old : ∀ b u, s.heap.get? b = some u → N b = none := fun b u e => by
    cases hN : N b with
    | none => rfl
    | some o => exact absurd (Heap.lt_size e) (Nat.not_lt.mpr (hp b o hN))
  have sm : ∀ b o, b ≠ P → H b = some o → both N (upd H P (.tbl (ps ++ more))) b = some o := fun b o hb e => by
    have : N b = none := by
      cases hN : N b with
      | none => rfl
      | some u => rw [hn b u hN] at e; cases e
    rw [both_old this, upd_ne hb]
    exact e
  have neP : ∀ b, H b = none → b ≠ P := fun b e z => by rw [z, hP] at e; cases e
  refine I.un ⟨fun b u q n _ _ => k b u (neP b n) q, fun b u q n _ _ => ⟨u.slots, k b u (neP b n) q⟩, fun b u q n _ => by rw [both_old (old b u q), upd_ne (neP b n)]; exact n, fun b u q _ => ?_, fun b xs q => sm _ _ (fun z => by rw [z, hP] at q; cases q) q, fun b u xs q => sm _ _ (fun z => by rw [z, hP] at q; cases q) q, fun b qs q => ?_⟩ fun b o e => ?_
  · by_cases hb : b = P
    · rw [hb]; exact ⟨_, hT⟩
    · exact ⟨u, k b u hb q⟩
  · by_cases hb : b = P
    · rw [hb, hP] at q
      cases q
      exact ⟨more, by rw [hb, both_old hNP, upd_same]⟩
    · exact ⟨#[], by rw [sm b _ hb q]; simp⟩
  · cases hN : N b with
    | some u =>
      rw [both_new hN] at e
      cases e
      exact new b _ hN
    | none =>
      rw [both_old hN] at e
      by_cases hb : b = P
      · rw [hb, upd_same] at e
        cases e
        rw [hb]
        exact hT
      · rw [upd_ne hb] at e
        refine (I.hok b o e).stay (fun c v hc q => k c v (fun z => ?_) q) (fun c q => sm _ _ (fun z => by rw [z, hP] at q; cases q) q) fun c xs q => sm _ _ (fun z => by rw [z, hP] at q; cases q) q
        rcases hc with h | h
        · exact hb (h ▸ z)
        · rw [z, hP] at h; cases h
end
end L2
end

section
set_option Elab.async false
set_option linter.all false
set_option maxRecDepth 100000
set_option maxHeartbeats 4000000
namespace L2
open PySem PySem.Spec PyProof.Rows
def SameX (P : Addr) (H H' : Hp) : Prop := ∀ b u, b ≠ P → H b = some u → H' b = some u
section
variable {X : Cx} {pins : List (Addr × Obj)} {σ : St} {H : Hp} {s : Shared} {M : Model} {A : Around} {E : Value → Shared → Prop} {Q : Value → Shared → Prop} {c P : Addr} {pos : Pos} {qual : Str} {params : Arguments} {body : Expr} {scope : Scope} {clos : List (Str × Addr)}
theorem lam_make (I : Inv X pins σ H s) (T : TabOk H P pos qual) (C : PySem.W.CodeHd X.base c P) (hb : X.base.BuiltinsAt X.mg P) (hcode : X.env.code = .ref c) (hcl : closureFor scope X.env = pure clos) (hdef : defaultsOf params X.env = ([], [])) (hq : X.env.qual ++ "<lambda>" = qual)
    (h : ∀ (f c' : Addr) (oc : Obj) (pm ctv : Value) (s' : Shared) (H' : Hp), Inv X pins σ H' s' → TabOk H' P pos qual → SameX P H H' → H f = none → H' f = some (.frz (PySem.W.kla_obj "<lambda>" qual params body scope clos pm c' ctv) (.own 0)) → H' c' = some (.frz oc (.own 0)) → CodeObj oc qual → Q (.ref f) s') :
    wpAny M A (eval (.Lambda params body scope pos) X.env) Q E s := by
  obtain ⟨ps, hP, ht, hc⟩ := T
  refine PySem.W.kla_eval hdef ?_
  rw [hq]
  have hPs : s.heap.get? P = some (PySem.W.tabObj ps) := I.hok P _ hP
  have hg : s.heap.Ns mainGlobals X.mg := I.mod.glob.keeps I.bk
  have hgP : mainGlobals ≠ P := fun e => by
    obtain ⟨o, es, ep, e1, d, _⟩ := I.mod.glob
    have := (I.bs _ _ e1).2
    rw [e, hP] at this; cases this
  have hb' : s.heap.BuiltinsAt X.mg P := by
    obtain ⟨bm, o, a1, a2, a3, a4, a5, a6⟩ := hb
    exact ⟨bm, o, a1, a2, a3, a4, I.bk _ _ a5, a6⟩
  rcases hc with hc | ⟨c', oc, hc, hc', ho⟩
  · refine PySem.W.kla_makeFunction hcl I.ok.glob hg hcode (C.keeps I.bk) hPs ht hc hgP hb' fun c' ctv h' tk hx hge hlt hrec htb => ?_
    obtain ⟨c₂, oc, vs, t, e2, hoc, hd, hv⟩ := hrec
    cases e2
    let fo := PySem.W.kla_obj "<lambda>" qual params body scope clos ((X.mg "__name__").getD .none) c' ctv
    let N : Hp := fun b => if b = h'.objs.size then some (.frz fo (.own 0)) else if b = c' then some (.frz oc (.own 0)) else none
    have n1 : N h'.objs.size = some (.frz fo (.own 0)) := if_pos rfl
    have n2 : N c' = some (.frz oc (.own 0)) := (if_neg (Nat.ne_of_lt hlt)).trans (if_pos rfl)
    have n3 : ∀ b o, N b = some o → (b = h'.objs.size ∧ o = .frz fo (.own 0)) ∨ (b = c' ∧ o = .frz oc (.own 0)) := fun b o e => by
      by_cases h1 : b = h'.objs.size
      · rw [h1, n1] at e; cases e; exact .inl ⟨h1, rfl⟩
      · by_cases h2 : b = c'
        · rw [h2, n2] at e; cases e; exact .inr ⟨h2, rfl⟩
        · have : N b = none := (if_neg h1).trans (if_neg h2)
          rw [this] at e; cases e
    have hp : ∀ b o, N b = some o → s.heap.objs.size ≤ b := fun b o e => by
      rcases n3 b o e with ⟨r, _⟩ | ⟨r, _⟩ <;> rw [r]
      · exact Nat.le_trans hge (Nat.le_of_lt hlt)
      · exact hge
    have hNP : N P = none := by
      cases e : N P with
      | none => rfl
      | some o => exact absurd (I.hok P _ hP).lt (Nat.not_lt.mpr (hp P o e))
    have gf : (h'.push fo).get? h'.objs.size = some fo := Heap.get?_push_size _ rfl
    have gc : (h'.push fo).get? c' = some oc := Heap.get?_push_of_some _ hoc
    have I' := Inv.grown (N := N) (more := #[PySem.rawInt pos.line, PySem.rawInt pos.col, .ref c']) (h' := h'.push fo) (t' := tk) I hP (fun b u hb e => Heap.get?_push_of_some _ (hx b u hb e)) (Heap.get?_push_of_some _ htb) hp fun b o e => by
      rcases n3 b o e with ⟨r, r'⟩ | ⟨r, r'⟩ <;> rw [r, r']
      · exact ⟨gf, _, gf⟩
      · exact ⟨gc, _, gc⟩
    refine h _ c' oc _ ctv _ _ I' ⟨_, by rw [both_old hNP, upd_same], ?_, .inr ⟨c', oc, ?_, both_new n2, vs, t, hd, hv⟩⟩ (fun b u hb e => ?_) (I.hok.fresh (hp _ _ n1)) (both_new n1) (both_new n2) ⟨vs, t, hd, hv⟩
    · rw [Array.toList_append]; exact TriplesOk_snoc _ _ _ _ ht
    · rw [Array.toList_append]; exact codeAmong_snoc _ ht hc
    · have : N b = none := by
        cases hN : N b with
        | none => rfl
        | some o => rw [I.hok.fresh (hp b o hN)] at e; cases e
      rw [both_old this, upd_ne hb]; exact e
  · refine PySem.W.kla_makeFunctionHit hcl I.ok.glob hg hcode (C.keeps I.bk) hPs ht hc hb' fun ctv h' tk hk hsz => ?_
    let fo := PySem.W.kla_obj "<lambda>" qual params body scope clos ((X.mg "__name__").getD .none) c' ctv
    let N : Hp := fun b => if b = h'.objs.size then some (.frz fo (.own 0)) else none
    have n1 : N h'.objs.size = some (.frz fo (.own 0)) := if_pos rfl
    have n3 : ∀ b o, N b = some o → b = h'.objs.size ∧ o = .frz fo (.own 0) := fun b o e => by
      by_cases h1 : b = h'.objs.size
      · rw [h1, n1] at e; cases e; exact ⟨h1, rfl⟩
      · have : N b = none := if_neg h1
        rw [this] at e; cases e
    have hp : ∀ b o, N b = some o → s.heap.objs.size ≤ b := fun b o e => by rw [(n3 b o e).1]; exact hsz
    have hn : ∀ b u, H b = some u → N b = none := fun b u e => by
      cases hN : N b with
      | none => rfl
      | some o => rw [I.hok.fresh (hp b o hN)] at e; cases e
    have gf : (h'.push fo).get? h'.objs.size = some fo := Heap.get?_push_size _ rfl
    have I' := Inv.grown (N := N) (more := #[]) (h' := h'.push fo) (t' := tk) I hP (fun b u _ e => Heap.get?_push_of_some _ (hk b u e)) (by rw [Array.append_empty]; exact Heap.get?_push_of_some _ (hk _ _ hPs)) hp fun b o e => by
      rw [(n3 b o e).1, (n3 b o e).2]; exact ⟨gf, _, gf⟩
    rw [Array.append_empty] at I'
    have old : ∀ b u, b ≠ P → H b = some u → both N (upd H P (.tbl ps)) b = some u := fun b u hb e => by rw [both_old (hn b u e), upd_ne hb]; exact e
    have hcP : c' ≠ P := ne_of hc' hP (by intro q; cases q)
    exact h _ c' oc _ ctv _ _ I' ⟨ps, by rw [both_old (hn P _ hP), upd_same], ht, .inr ⟨c', oc, hc, old _ _ hcP hc', ho⟩⟩ old (I.hok.fresh (hp _ _ n1)) (both_new n1) (old _ _ hcP hc') ho
end
end L2
end

section
set_option Elab.async false
set_option linter.all false
set_option maxRecDepth 100000
set_option maxHeartbeats 4000000
namespace L2
open PySem PySem.Spec PyProof.Rows
section
variable {prog : Program} {w : World} {A : Around} {R : Result → Shared → Prop} {s : Shared}
theorem lam_call {f c' c a : Addr} {qual k d : Str} {params : Arguments} {scope : Scope} {cl : List (Str × Addr)} {pm ctv u v : Value} {pk pd pp : Pos} {its : Array Value} {i : Int} {ti : Tok}
    (ho : s.heap.get? f = some (PySem.W.kla_obj "<lambda>" qual params (.Subscript (.Name d pd) (.Name k pk) pp) scope cl pm c' ctv)) (hcd : s.heap.CodeRec (.ref c') qual) (hroom : A.depth < recursionLimit) (hlim : s.heap.NoLimit)
    (hbind : bindArgs (PySem.W.kla_fn "<lambda>" qual params (.Subscript (.Name d pd) (.Name k pk) pp) scope cl pm (.ref c') ctv) ⟨[.int i ti], []⟩ = pure [(k, .int i ti)])
    (hk : scope.kind = .function) (hco : scope.isCoroutine = false) (hgen : scope.isGenerator = false) (lk : scope.names.lookup k = some .local) (ld : scope.names.lookup d = some .free) (hcell : ∀ x ∈ scope.names, x.2 ≠ .cell) (hcl : cl.lookup d = some c)
    (hd : (d == ("__classdict__" : Str)) = false) (nk : (k == ("__debug__" : Str)) = false) (nd : (d == ("__debug__" : Str)) = false)
    (hcv : s.heap.IsCell c (some (.ref a))) (hl : s.heap.IsList a its) (h0 : 0 ≤ i) (hfit : i < 2 ^ 63) (hv : its[i.toNat]? = some v)
    (h : ∀ (h' : Heap) (tk : Tok), (∀ b o, s.heap.get? b = some o → h'.get? b = some o) → R (.ok (.ret v)) { s with heap := h', toks := tk }) :
    codeAny (model prog w) A (.call (.ref f) ⟨[.int i ti], []⟩) R s := by
  refine PySem.W.kla_callFunE hroom ho rfl hco hgen rfl hcd ?_
  rw [hbind]
  refine wpAny_pure (wpAny_newFunctionEnv hcell (fun y hy => by cases List.mem_singleton.mp hy; exact lk) (fun h₁ hns hsb => ⟨hlim.fresh _ hsb, ?_⟩) hk)
  have hk₁ : ∀ b o, s.heap.get? b = some o → h₁.get? b = some o := fun b o e => hsb.extBut b o (Nat.ne_of_lt (Heap.lt_size e)) (Heap.get?_push_of_some _ e)
  refine PySem.W.kla_codeExpr (Subscript_ (wpAny_Name (wpAny_loadName_free hk ld hcl (hcv.keeps hk₁) (wpAny_Name (wpAny_loadName_local hk lk hns (v := .int i ti) (by simp) (item_listR (let ⟨o, e, r⟩ := hl; ⟨o, hk₁ _ _ e, r⟩) h0 hfit hv (h h₁ _ hk₁))) nk) hd) nd))
end
end L2
end

section
set_option Elab.async false
set_option linter.all false
set_option maxRecDepth 100000
set_option maxHeartbeats 4000000
namespace L2
open PySem PySem.Spec PySem.W PyProof.Rows TW
def ltK (x y : Keyed) : Bool := decide (numOf x.1 < numOf y.1)
def ltKz (x y : Int × Value) : Bool := decide (x.1 < y.1)
theorem swo_ltK : Swo ltK := by
  refine ⟨fun a => by simp [ltK], fun a b c h1 h2 => ?_, fun a b c h1 => ?_⟩
  · simp only [ltK, decide_eq_true_eq] at h1 h2 ⊢; omega
  · simp only [ltK, decide_eq_true_eq] at h1 ⊢; omega
section
variable {prog : Program} {w : World} {A : Around} {E : Value → Shared → Prop} {s : Shared}
theorem ltOk_ints : LtOk prog w A E s oneType' (fun x => ∃ n t, x.1 = Value.int n t) ltK := by
  intro x y st Q hx hy hk h
  obtain ⟨x1, x2⟩ := x
  obtain ⟨y1, y2⟩ := y
  obtain ⟨a, t, e1⟩ := hx
  obtain ⟨b, u, e2⟩ := hy
  dsimp only at e1 e2
  subst e1 e2
  rw [lt'_eq]
  refine wpS_bind (wpS_get ?_)
  rw [hk]
  refine wpS_bind (wpS_lift (wpAny_attempt ?_))
  exact kat_lt_int ⟨rfl, wpS_pure h⟩
theorem key_out {keys : Array Value} {vs : List Value} {kz : List Int} (hk : IntsAre keys.toList kz) : (ssort ltK (keys.zip vs.toArray).toList).map (·.2) = (ssort ltKz (kz.zip vs)).map (·.2) := by
  have e2 : (keys.toList.zip vs).map (fun p : Keyed => (numOf p.1, p.2)) = kz.zip vs := by
    rw [← hk.nums, List.zip_map_left]
    exact List.map_congr_left fun ⟨x, y⟩ _ => rfl
  rw [← e2, ssort_map (lt := ltK) (f := fun p : Keyed => (numOf p.1, p.2)) (fun _ _ => rfl), List.map_map, ksk_zip]
  rfl
theorem key_tail {a kS : Addr} {vs : List Value} {kz : List Int} {keys : Array Value} {e e1 : Nat} {st : SortSt} {P : PySem.Fin → Shared → Prop} (gk : s.heap.get? kS = some (seqObj "list" keys e)) (ga : s.heap.get? a = some (seqObj "list" #[] e1)) (hka : kS ≠ a)
    (hk : IntsAre keys.toList kz) (hlen : kz.length = vs.length) (hz : vs.length ≤ sizeLine) (hs : (arrOf st).toList = ssort ltK (keys.zip vs.toArray).toList) (hfl : failedOf st = none)
    (h : ∀ h' out c, (∀ b o, b ≠ a → b ≠ kS → s.heap.get? b = some o → h'.get? b = some o) → h'.get? a = some (seqObj "list" out c) → out.toList = (ssort ltKz (kz.zip vs)).map (·.2) → P (.done (.ret .none)) { s with heap := h' }) :
    wpAny (model prog w) A (ksk_tail a false e1 (.ref kS) st) P E s := by
  have hsz : keys.size = vs.length := by
    have h1 := hk.length
    rw [Array.length_toList] at h1
    omega
  have s1 := Heap.SameBut.update s.heap kS (Obj.mapSeq fun _ => (#[] : Array Value))
  have na1 : (s.heap.update kS (Obj.mapSeq fun _ => (#[] : Array Value))).get? a = some (seqObj "list" #[] e1) := (s1.2 a hka.symm).trans ga
  have s2 := Heap.SameBut.update (s.heap.update kS (Obj.mapSeq fun _ => (#[] : Array Value))) a (Obj.mapSeq fun _ => (arrOf st).map (·.2))
  obtain ⟨c2, hc2⟩ : ∃ c2, ((s.heap.update kS (Obj.mapSeq fun _ => (#[] : Array Value))).update a (Obj.mapSeq fun _ => (arrOf st).map (·.2))).get? a = some (seqObj "list" ((arrOf st).map (·.2)) c2) := ⟨_, get?_update_seq na1 fun _ => (arrOf st).map (·.2)⟩
  have eo : ((arrOf st).map (·.2)).toList = (ssort ltKz (kz.zip vs)).map (·.2) := by
    rw [Array.toList_map, hs, key_out hk]
  have so : ((arrOf st).map (·.2)).size ≤ sizeLine + 1 := by
    rw [← Array.length_toList, eo, List.length_map, ssort_len, List.length_zip]
    omega
  unfold ksk_tail
  try dsimp only
  refine wpAny_bind (listUpdate_at gk rfl ?_ (by rw [hsz]; exact hz) (Nat.zero_le _))
  refine wpAny_bind (wpAny_letGo ?_)
  refine wpAny_bind (seqEpoch_at na1 rfl ?_)
  simp only [Bool.false_eq_true, if_false]
  refine wpAny_bind (listUpdate_at na1 rfl ?_ (Nat.zero_le _) so)
  rw [hfl]
  simp only [bne_self_eq_false, Bool.false_eq_true, if_false]
  exact wpAny_pure (h _ _ c2 (fun b o h1 h2 q => (s2.2 b h1).trans ((s1.2 b h2).trans q)) hc2 eo)
theorem key_end {a kS : Addr} {vs : List Value} {kz : List Int} {keys : Array Value} {e e1 : Nat} {P : PySem.Fin → Shared → Prop} (gk : s.heap.get? kS = some (seqObj "list" keys e)) (ga : s.heap.get? a = some (seqObj "list" #[] e1)) (hka : kS ≠ a)
    (hk : IntsAre keys.toList kz) (hlen : kz.length = vs.length) (hz : vs.length ≤ sizeLine)
    (h : ∀ h' out c, (∀ b o, b ≠ a → b ≠ kS → s.heap.get? b = some o → h'.get? b = some o) → h'.get? a = some (seqObj "list" out c) → out.toList = (ssort ltKz (kz.zip vs)).map (·.2) → P (.done (.ret .none)) { s with heap := h' }) :
    wpAny (model prog w) A (ksk_end a false vs.toArray e1 (.ref kS) keys) P E s := by
  have hsz : keys.size = vs.length := by
    have h1 := hk.length
    rw [Array.length_toList] at h1
    omega
  have hzs : (keys.zip vs.toArray).size = vs.length := by rw [Array.size_zip, hsz, List.size_toArray, Nat.min_self]
  unfold ksk_end
  try dsimp only
  simp only [Bool.false_eq_true, if_false]
  by_cases h2 : vs.toArray.size < 2
  · rw [if_pos h2, if_pos h2]
    refine wpAny_bind (wpAny_pure ?_)
    rw [StateT.run_pure]
    refine wpAny_bind (wpAny_pure ?_)
    try dsimp only
    refine key_tail (st := SortSt.mk' general' (keys.zip vs.toArray) #[] 7 none) gk ga hka hk hlen hz ?_ rfl h
    show (keys.zip vs.toArray).toList = _
    refine (ssort_id ?_).symm
    have hl : (keys.zip vs.toArray).toList.length < 2 := by rw [Array.length_toList, hzs]; rw [List.size_toArray] at h2; exact h2
    match (keys.zip vs.toArray).toList, hl with
    | [], _ => exact List.Pairwise.nil
    | [x], _ => exact List.pairwise_singleton _ _
  · rw [if_neg h2, if_neg h2]
    rw [List.size_toArray] at h2
    rw [ksk_kind hk (by rw [hsz]; omega)]
    refine wpAny_bind (wpAny_pure ?_)
    refine wpAny_bind (wpAny_mono (wpS_sortRunsX (P := fun x => ∃ n t, x.1 = Value.int n t) ltOk_ints swo_ltK (l0 := (keys.zip vs.toArray).toList) (st := SortSt.mk' oneType' (keys.zip vs.toArray) #[] 7 none)
      (Q := fun _ st' => failedOf st' = none ∧ (arrOf st').toList = ssort ltK (keys.zip vs.toArray).toList) rfl rfl rfl rfl (fun x hx => ?_) (by rw [Array.length_toList, hzs]; omega) fun st' a1 a2 => ⟨a1, a2⟩) ?_ fun _ _ e => e)
    · rw [ksk_zip] at hx
      obtain ⟨x, y⟩ := x
      exact hk.all _ (List.of_mem_zip hx).1
    rintro ⟨⟨⟩, st'⟩ s' ⟨rfl, hf, hs⟩
    try dsimp only
    exact key_tail gk ga hka hk hlen hz hs hf h
end
end L2
end

section
set_option Elab.async false
set_option linter.all false
set_option maxRecDepth 100000
set_option maxHeartbeats 4000000
namespace L2
open PySem PySem.Spec PySem.W PyProof.Rows TW
section
variable {prog : Program} {w : World} {A : Around} {E : Value → Shared → Prop} {s : Shared}
def KeepBut (a : Addr) (h h' : Heap) : Prop := ∀ b o, b ≠ a → h.get? b = some o → h'.get? b = some o
theorem key_rest {a kS : Addr} {vs : List Value} {kz : List Int} {f : Value} {e1 : Nat} {s₀ : Shared} {P : PySem.Fin → Shared → Prop} (gk : s.heap.get? kS = some (seqObj "list" #[] 0)) (ga : s.heap.get? a = some (seqObj "list" #[] e1)) (hka : kS ≠ a) (hn : s₀.heap.get? kS = none)
    (keep : KeepBut a s₀.heap s.heap) (hlen : kz.length = vs.length) (hz : vs.length ≤ sizeLine)
    (turn : ∀ (i : Nat) (v : Value) (k : Int), vs[i]? = some v → kz[i]? = some k → ∀ (h : Heap) (tk : Nat) (Q : Value → Shared → Prop), KeepBut a s₀.heap h →
      (∀ t h' tk', (∀ b o, h.get? b = some o → h'.get? b = some o) → Q (.int k t) { s with heap := h', toks := tk' }) → wpAny (model prog w) A (call f [v]) Q (fun _ _ => False) { s with heap := h, toks := tk })
    (h : ∀ h' tk out c, KeepBut a s₀.heap h' → h'.get? a = some (seqObj "list" out c) → out.toList = (ssort ltKz (kz.zip vs)).map (·.2) → P (.done (.ret .none)) { s with heap := h', toks := tk }) :
    wpAny (model prog w) A (ksk_rest a f false vs.toArray e1 (.ref kS)) P E s := by
  unfold ksk_rest
  refine wpAny_bind (wpAny_rule ?_)
  first
    | rw [List.forIn_toArray]
    | (rw [← Array.forIn_toList]; simp only [List.toList_toArray])
    | rw [← Array.forIn_toList]
  refine wpAny_bind (ksk_fold (fun i s' => ∃ h' tk kA e, s' = { s with heap := h', toks := tk } ∧ KeepBut a s₀.heap h' ∧ h'.get? kS = some (seqObj "list" kA e) ∧ h'.get? a = some (seqObj "list" #[] e1) ∧ IntsAre kA.toList (kz.take i)) vs 0 s
    ⟨s.heap, s.toks, #[], 0, rfl, keep, gk, ga, by simpa using IntsAre.nil⟩ ?step ?done)
  case step =>
    rintro j x s' hx ⟨h', tk, kA, e, rfl, K', gk', ga', hk⟩
    simp only [Nat.zero_add] at hk ⊢
    have hj : j < vs.length := (List.getElem?_eq_some_iff.mp hx).1
    obtain ⟨k, hkj⟩ : ∃ k, kz[j]? = some k := ⟨_, List.getElem?_eq_getElem (by omega)⟩
    have hz2 : kA.size < vs.length := by
      have h1 := hk.length
      rw [Array.length_toList, List.length_take] at h1
      omega
    refine wpAny_bind (wpAny_attempt (wpAny_mono (turn j x k hx hkj h' tk (fun v s'' => ∃ (t : Tok) (g : Heap) (tk2 : Nat), v = .int k t ∧ s'' = { s with heap := g, toks := tk2 } ∧ ∀ b o, h'.get? b = some o → g.get? b = some o) K' fun t2 g tk2 kg => ⟨t2, g, tk2, rfl, rfl, kg⟩) (fun v s'' he => ?_) fun _ _ hF => hF.elim))
    obtain ⟨t2, g, tk2, rfl, rfl, kg⟩ := he
    try dsimp only
    have s1 := Heap.SameBut.update g kS (Obj.mapSeq (·.push (.int k t2)))
    obtain ⟨c2, hc2⟩ : ∃ c2, (g.update kS (Obj.mapSeq (·.push (.int k t2)))).get? kS = some (seqObj "list" (kA.push (.int k t2)) c2) := ⟨_, get?_update_seq (kg _ _ gk') (·.push (.int k t2))⟩
    have ek : kz.take (j + 1) = kz.take j ++ [k] := by rw [List.take_add_one, hkj]; simp
    have ea : (kA.push (Value.int k t2)).toList = kA.toList ++ [Value.int k t2] := by simp
    refine wpAny_bind (listUpdate_at (kg _ _ gk') rfl ?_ (by omega) (Nat.le_trans (Nat.le_of_eq (Array.size_push ..)) (by omega)))
    exact wpAny_pure ⟨rfl, _, _, kA.push (.int k t2), c2, rfl, fun b o hb q => (s1.2 b (fun z => by rw [z, hn] at q; cases q)).trans (kg _ _ (K' b o hb q)), hc2, (s1.2 a hka.symm).trans (kg _ _ ga'), by rw [ea, ek]; exact ksk_snoc hk⟩
  case done =>
    rintro s' ⟨h', tk, kA, e, rfl, K', gk', ga', hk⟩
    have hk' : IntsAre kA.toList kz := by
      have e3 : kz.take (0 + vs.length) = kz := List.take_of_length_le (by omega)
      rw [e3] at hk
      exact hk
    try dsimp only
    refine wpAny_bind (listItems_at gk' rfl ?_)
    exact key_end gk' ga' hka hk' hlen hz fun h3 out c k3 g3 e3 => h h3 tk out c (fun b o hb q => k3 b o hb (fun z => by rw [z, hn] at q; cases q) (K' b o hb q)) g3 e3
theorem key_tree {a : Addr} {vs : List Value} {kz : List Int} {f : Value} {n : Nat} {P : PySem.Fin → Shared → Prop} (ho : s.heap.get? a = some (seqObj "list" vs.toArray n)) (hlen : kz.length = vs.length) (hz : vs.length ≤ sizeLine)
    (turn : ∀ (i : Nat) (v : Value) (k : Int), vs[i]? = some v → kz[i]? = some k → ∀ (h : Heap) (tk : Nat) (Q : Value → Shared → Prop), KeepBut a s.heap h →
      (∀ t h' tk', (∀ b o, h.get? b = some o → h'.get? b = some o) → Q (.int k t) { s with heap := h', toks := tk' }) → wpAny (model prog w) A (call f [v]) Q (fun _ _ => False) { s with heap := h, toks := tk })
    (h : ∀ h' tk out c, KeepBut a s.heap h' → h'.get? a = some (seqObj "list" out c) → out.toList = (ssort ltKz (kz.zip vs)).map (·.2) → P (.done (.ret .none)) { s with heap := h', toks := tk }) :
    wpAny (model prog w) A (ksk_tree a f false) P E s := by
  have ha : a < s.heap.objs.size := Heap.lt_size ho
  have s1 := Heap.SameBut.update s.heap a (Obj.mapSeq fun _ => (#[] : Array Value))
  obtain ⟨e1, ho1⟩ : ∃ e1, (s.heap.update a (Obj.mapSeq fun _ => (#[] : Array Value))).get? a = some (seqObj "list" #[] e1) := ⟨_, get?_update_seq ho fun _ => #[]⟩
  have hkS : ((s.heap.update a (Obj.mapSeq fun _ => (#[] : Array Value))).push (seqObj "tuple" vs.toArray 0)).objs.size = s.heap.objs.size + 1 := by rw [size_push', Heap.size_update]
  unfold ksk_tree
  refine wpAny_bind (listItems_at ho rfl ?_)
  refine wpAny_bind (listUpdate_at ho rfl ?_ (by simpa using hz) (Nat.zero_le _))
  refine wpAny_bind (seqEpoch_at ho1 rfl ?_)
  refine wpAny_bind (wpAny_newTuple ?_ (by show vs.length ≤ _; exact hz))
  refine wpAny_bind (wpAny_newList ?_ (Nat.zero_le _))
  refine wpAny_holding ?_
  exact key_rest (s₀ := s) (s := { s with heap := ((s.heap.update a (Obj.mapSeq fun _ => (#[] : Array Value))).push (seqObj "tuple" vs.toArray 0)).push (seqObj "list" #[] 0) }) (kS := ((s.heap.update a (Obj.mapSeq fun _ => (#[] : Array Value))).push (seqObj "tuple" vs.toArray 0)).objs.size)
    (Heap.get?_push_size _ rfl) (Heap.get?_push_of_some _ (Heap.get?_push_of_some _ ho1)) (by rw [hkS]; exact Nat.ne_of_gt (Nat.lt_succ_of_lt ha)) (by rw [hkS]; exact Heap.get?_none_of_le (Nat.le_succ _))
    (fun b o hb q => Heap.get?_push_of_some _ (Heap.get?_push_of_some _ ((s1.2 b hb).trans q))) hlen hz turn h
end
end L2
end

section
set_option Elab.async false
set_option linter.all false
set_option maxRecDepth 100000
set_option maxHeartbeats 4000000
namespace L2
open PySem PySem.Spec PySem.W PyProof.Rows TW
end L2
end

section
set_option Elab.async false
set_option linter.all false
set_option maxRecDepth 100000
set_option maxHeartbeats 4000000
namespace L2
open PySem PySem.Spec PySem.W PyProof.Rows TW
section
variable {prog : Program} {w : World} {A : Around} {s : Shared}
theorem col_list {l : Addr} {vs : List Value} (hl : s.heap.IsList l vs.toArray) (hz : vs.length ≤ sizeLine) (E' : Value → Shared → Prop) (Q' : List Value → Shared → Prop)
    (h : ∀ h' tk, (∀ b o, s.heap.get? b = some o → h'.get? b = some o) → s.heap.objs.size ≤ h'.objs.size → Q' vs { s with heap := h', toks := tk }) : wpAny (model prog w) A (collect (.ref l)) Q' E' s := by
  refine collect_list hl (h _ s.toks (fun b o q => ?_) (by rw [Heap.size_update, size_push']; exact Nat.le_succ _)) hz
  have hlt : b < s.heap.objs.size := Heap.lt_size q
  rw [Heap.get?_update_ne _ _ _ _ (Nat.ne_of_lt hlt), Heap.get?_push_ne _ _ _ (Nat.ne_of_lt hlt)]
  exact q
end
end L2
end

section
set_option Elab.async false
set_option linter.all false
set_option maxRecDepth 100000
set_option maxHeartbeats 4000000
namespace L2
open PySem PySem.Spec PySem.W PyProof.Rows TW
theorem ints_of_at : ∀ {us : List Value} {ns : List Int}, us.length = ns.length → (∀ (i : Nat) u n, us[i]? = some u → ns[i]? = some n → ∃ t, u = .int n t) → IntsAre us ns
  | [], [], _, _ => .nil
  | u :: us, n :: ns, hl, h => by
    obtain ⟨t, rfl⟩ := h 0 u n rfl rfl
    exact .cons n t (ints_of_at (Nat.succ.inj hl) fun i v m e1 e2 => h (i + 1) v m e1 e2)
theorem ints_vals : ∀ {us : List Value} {ns : List Int}, Vals (ns.map V.int) us → IntsAre us ns
  | [], [], _ => .nil
  | _ :: _, [], h => by cases h
  | [], _ :: _, h => by cases h
  | u :: us, n :: ns, h => by
    cases h with
    | cons h1 h2 => obtain ⟨t, rfl⟩ := h1; exact .cons n t (ints_vals h2)
def ltI (x y : Int × Int) : Bool := decide (x.1 < y.1)
def keyOrder (kz ns : List Int) : List Int := (ssort ltI (kz.zip ns)).map (·.2)
theorem ints_of_all : ∀ l : List Value, (∀ v ∈ l, ∃ n t, v = Value.int n t) → IntsAre l (l.map numOf)
  | [], _ => .nil
  | v :: l, h => by
    obtain ⟨n, t, rfl⟩ := h _ (List.mem_cons_self ..)
    exact .cons n t (ints_of_all l fun u hu => h u (List.mem_cons_of_mem _ hu))
theorem key_ints {vs : List Value} {ns kz : List Int} (h : IntsAre vs ns) : IntsAre ((ssort ltKz (kz.zip vs)).map (·.2)) (keyOrder kz ns) := by
  have e1 : (ssort ltKz (kz.zip vs)).map (fun p : Int × Value => (p.1, numOf p.2)) = ssort ltI (kz.zip ns) := by
    rw [← ssort_map (f := fun p : Int × Value => (p.1, numOf p.2)) (lt := ltKz) (lt' := ltI) (fun _ _ => rfl)]
    congr 1
    rw [← h.nums, List.zip_map_right]
    exact List.map_congr_left fun ⟨x, y⟩ _ => rfl
  have e2 : keyOrder kz ns = ((ssort ltKz (kz.zip vs)).map (·.2)).map numOf := by
    unfold keyOrder
    rw [← e1, List.map_map, List.map_map]
    rfl
  rw [e2]
  refine ints_of_all _ fun v hv => ?_
  obtain ⟨p, hp, rfl⟩ := List.mem_map.mp hv
  have := (ssort_perm (lt := ltKz) (kz.zip vs)).mem_iff.mp hp
  obtain ⟨x, y⟩ := p
  exact h.all _ (List.of_mem_zip this).2
section
variable {prog : Program} {w : World} {A : Around} {E : Value → Shared → Prop} {s : Shared}
theorem col_range {r : Addr} {n : Nat} {t u v : Tok} (hh : A.handled = none) (hr : IsRange s.heap r 0 n 1 t u v) (hn : n ≤ 100000) (E' : Value → Shared → Prop) (Q' : List Value → Shared → Prop)
    (h : ∀ vs h' tk, IntsAre vs ((List.range n).map fun i : Nat => (i : Int)) → (∀ b o, s.heap.get? b = some o → h'.get? b = some o) → s.heap.objs.size ≤ h'.objs.size → Q' vs { s with heap := h', toks := tk }) : wpAny (model prog w) A (collect (.ref r)) Q' E' s := by
  have e2 : Builtin.Range.rangeSize 0 (n : Int) 1 = n := by rw [rangeSize_one]; split <;> omega
  have key : ∀ R : Result → Shared → Prop, (∀ (h' : Heap) (tk : Nat) (acc' : Array Value) (c' : Nat), (∀ b o, s.heap.get? b = some o → h'.get? b = some o) → h'.get? s.heap.objs.size = some { cls := .type "list", dict := none, data := .seq acc' c', slots := #[] } →
      ItemsOf (fun i v => ∃ t, v = .int (0 + (i : Int) * 1) t) acc' n → R (.ok (.ret (.ref s.heap.objs.size))) { s with heap := h', toks := tk }) → codeAny (model prog w) A (.builtin "proto.collect" ⟨[.ref r], []⟩) R s := fun R hR => by
    refine codeAny_builtin F.entry_proto_collect ?_
    rw [Around.under_plainId F.plain_proto_collect _]
    show wpAny _ A.in1 (newList [] >>= fun l => again (.builtin "list.__iadd__" ⟨[l, .ref r], []⟩)) _ _ s
    refine wpAny_bind (wpAny_newObj_type ?_)
    refine wpAny_pure ⟨plainId_quiet F.plain_list_iadd _, codeAny_builtin F.entry_list_iadd ?_⟩
    rw [Around.under_plainId F.plain_list_iadd _]
    have hS₁ : (s.heap.push { cls := .type "list", data := .seq ([] : List Value).toArray }).get? s.heap.objs.size = some { cls := .type "list", data := .seq ([] : List Value).toArray } := Heap.get?_push_size _ rfl
    show wpAny _ A.in1 (Builtin.List.listExtendWith (.ref s.heap.objs.size) (.ref r) (.ref s.heap.objs.size)) _ _ _
    exact wpAny_extend_range (R := R) (s := { s with heap := s.heap.push { cls := .type "list", data := .seq ([] : List Value).toArray } }) hh (Heap.get?_push_of_some _ hr) (small_one (by omega) (by omega) (by omega) (by omega)) e2 (by omega) _ _ _ hS₁ fun h' tk acc' c' hk hS' hacc =>
      hR h' tk acc' c' (fun b o q => hk b o (Nat.ne_of_lt (Heap.lt_size q)) (Heap.get?_push_of_some _ q)) hS' hacc
  unfold collect
  refine wpAny_bind (wpAny_runValue (key _ fun h' tk acc' c' hk hS' hacc => ?_))
  show wpAny _ A (load s.heap.objs.size >>= _) _ _ _
  refine wpAny_bind (wpAny_load hS' ?_)
  refine wpAny_pure (h _ h' tk ?_ hk (Nat.le_of_lt (Heap.lt_size hS')))
  refine ints_of_at (by rw [List.length_map, List.length_range, Array.length_toList, hacc.1]) fun i x y e1 e3 => ?_
  have hi : i < n := by have := (List.getElem?_eq_some_iff.mp e3).1; simpa using this
  rw [List.getElem?_map, List.getElem?_range hi] at e3
  cases e3
  have e4 : acc'[i]? = some x := by rw [← Array.getElem?_toList]; exact e1
  obtain ⟨t, e5⟩ := hacc.2 i x e4
  exact ⟨t, by rw [e5]; simp⟩
theorem key_sortedI {arg : Value} {ns kz : List Int} {q : Addr} {Q : Value → Shared → Prop} (hlen : kz.length = ns.length) (hz : ns.length ≤ sizeLine)
    (hcol : ∀ (E' : Value → Shared → Prop) (Q' : List Value → Shared → Prop), (∀ vs h' tk, IntsAre vs ns → (∀ b o, s.heap.get? b = some o → h'.get? b = some o) → s.heap.objs.size ≤ h'.objs.size → Q' vs { s with heap := h', toks := tk }) → wpAny (model prog w) A.in1 (collect arg) Q' E' s)
    (turn : ∀ (i : Nat) (n k : Int) (t : Tok), ns[i]? = some n → kz[i]? = some k → ∀ (h : Heap) (tk : Nat) (Q : Value → Shared → Prop), (∀ b o, s.heap.get? b = some o → h.get? b = some o) →
      (∀ t h' tk', (∀ b o, h.get? b = some o → h'.get? b = some o) → Q (.int k t) { s with heap := h', toks := tk' }) → wpAny (model prog w) A.in1.in1 (call (.ref q) [.int n t]) Q (fun _ _ => False) { s with heap := h, toks := tk })
    (h : ∀ D h' tk out c, s.heap.objs.size ≤ D → (∀ b o, s.heap.get? b = some o → h'.get? b = some o) → h'.get? D = some (seqObj "list" out c) → IntsAre out.toList (keyOrder kz ns) → Q (.ref D) { s with heap := h', toks := tk }) :
    wpAny (model prog w) A (call (.builtin "sorted") [arg] [(Str.ofString "key", .ref q)]) Q E s := by
  refine call_function_entry_kw kind_sorted plain_sorted entry_sorted (ksk_s1 _ _) ?_
  unfold Builtin.«sorted»
  refine wpAny_bind (m := checkCount "sorted" 1 1 _) (wpAny_pure ?_)
  refine wpAny_bind (hcol _ _ fun vs h1 tk1 hI k1 z1 => ?_)
  have hlv : vs.length = ns.length := hI.length
  refine wpAny_bind (wpAny_newList ?_ (by rw [hlv]; exact hz))
  have hoL : (h1.push (seqObj "list" vs.toArray 0)).get? h1.objs.size = some (seqObj "list" vs.toArray 0) := Heap.get?_push_size _ rfl
  have keep : ∀ b o, s.heap.get? b = some o → (h1.push (seqObj "list" vs.toArray 0)).get? b = some o := fun b o q => Heap.get?_push_of_some _ (k1 b o q)
  have nD : ∀ b o, s.heap.get? b = some o → b ≠ h1.objs.size := fun b o q => Nat.ne_of_lt (Nat.lt_of_lt_of_le (Heap.lt_size q) z1)
  show wpAny _ _ _ _ _ { s with heap := h1.push (seqObj "list" vs.toArray 0), toks := tk1 }
  refine wpAny_bind (wpAny_holding (wpAny_call_entry_kw slot_list_sort ⟨_, hoL, rfl⟩ entry_list_sort ?body (ksk_l1 _ _)))
  case body =>
    show wpAny (model prog w) A.in1.in1 (Builtin.«list.sort» ⟨[.ref h1.objs.size], [(Str.ofString "key", .ref q)]⟩) _ _ _
    rw [ksk_t1]
    refine key_tree (kz := kz) (s := { s with heap := h1.push (seqObj "list" vs.toArray 0), toks := tk1 }) hoL (by rw [hlv]; exact hlen) (by rw [hlv]; exact hz) (fun i v k e1 e2 h2 tk Q2 kb q2 => ?_) fun h2 tk out c kb g e => ?_
    · obtain ⟨n, t, rfl, e3⟩ := hI.at i v e1
      exact turn i n k t e3 e2 h2 tk Q2 (fun b o q => kb b o (nD b o q) (keep b o q)) q2
    · exact ⟨_, rfl, wpAny_pure ⟨_, rfl, h _ h2 tk out c z1 (fun b o q => kb b o (nD b o q) (keep b o q)) g (by rw [e]; exact key_ints hI)⟩⟩
end
abbrev lamArgs (k : Str) (pa : Pos) : Arguments := { posonlyargs := [], args := [{ arg := k, annotation := none, pos := pa }], vararg := none, kwonlyargs := [], kw_defaults := [], kwarg := none, defaults := [] }
abbrev lamScope (k d : Str) : Scope := { kind := .function, names := [(k, .local), (d, .free)], isGenerator := false, isCoroutine := false, more := [] }
abbrev lamBody (k d : Str) (pd pk pp : Pos) : Expr := .Subscript (.Name d pd) (.Name k pk) pp
section
variable {X : Cx}
def placesI (n : Nat) : List Int := (List.range n).map fun j : Nat => (j : Int)
def tSortK (P : Addr) (lpos : Pos) (qual : Str) (i : Nat) (ta : TE) : TE := fun σ H Q => ta σ H fun x H1 => ∃ r l ds, x = .ref r ∧ σ[i]? = some (some (.ref l)) ∧ H1 l = some (.lst (ds.map V.int)) ∧ ds.length ≤ 100000 ∧
  (H1 r = some (.lst ((placesI ds.length).map V.int)) ∨ H1 r = some (.rng 0 ds.length)) ∧ TabOk H1 P lpos qual ∧
  ∀ p H', SameX P H1 H' → TabOk H' P lpos qual → H1 p = none → H' p = some (.lst ((keyOrder ds (placesI ds.length)).map V.int)) → Q (.ref p) H'
theorem r_sortK {P : Addr} {lpos : Pos} {qual : Str} {i : Nat} {ta : TE} {σ : St} {H : Hp} {Q : VK} (h : ta σ H fun x H1 => ∃ r l ds, x = .ref r ∧ σ[i]? = some (some (.ref l)) ∧ H1 l = some (.lst (ds.map V.int)) ∧ ds.length ≤ 100000 ∧
  (H1 r = some (.lst ((placesI ds.length).map V.int)) ∨ H1 r = some (.rng 0 ds.length)) ∧ TabOk H1 P lpos qual ∧
  ∀ p H', SameX P H1 H' → TabOk H' P lpos qual → H1 p = none → H' p = some (.lst ((keyOrder ds (placesI ds.length)).map V.int)) → Q (.ref p) H') : tSortK P lpos qual i ta σ H Q := h
theorem pe_sortK {a : Expr} {ta : TE} {p pos pa pd pk pp lpos kpos : Pos} {d k qual : Str} {i : Nat} {c P cl : Addr} (hcal : X.calm = true) (hr : Room 1 X.A) (hg : Gl X "sorted") (hm : X.mg "sorted" = none) (ha : PE X a ta)
    (C : PySem.W.CodeHd X.base c P) (hb : X.base.BuiltinsAt X.mg P) (hcode : X.env.code = .ref c) (hN : X.N[i]? = some d) (hkd : X.env.scope.names.lookup d = some .cell) (hce : X.env.cells.lookup d = some cl)
    (hcl : closureFor (lamScope k d) X.env = pure [(d, cl)]) (hq : X.env.qual ++ "<lambda>" = qual)
    (hbind : ∀ (pm cv ctv : Value) (n : Int) (t : Tok), bindArgs (PySem.W.kla_fn "<lambda>" qual (lamArgs k pa) (lamBody k d pd pk pp) (lamScope k d) [(d, cl)] pm cv ctv) ⟨[.int n t], []⟩ = pure [(k, .int n t)]) (hs : starEach [a] X.env = [(false, eval a X.env)] := by rfl)
    (ek : (d == k) = false := by decide) (hd : (d == ("__classdict__" : Str)) = false := by decide) (nk : (k == ("__debug__" : Str)) = false := by decide) (nd : (d == ("__debug__" : Str)) = false := by decide) :
    PE X (.Call (.Name "sorted" p) [a] [⟨some "key", .Lambda (lamArgs k pa) (lamBody k d pd pk pp) (lamScope k d) lpos, kpos⟩] pos) (tSortK P lpos qual i ta) := by
  intro pins s σ H Q I h
  refine wpAny_Call_Name_kw (ld_blt I hg hm b_sorted (callWith_kw ?_ (by rw [hs]; rfl) (by rw [hs]; rfl) rfl rfl) (by decide) (by decide))
  rw [hs]
  refine Calls.spliced_cons ?_
  show wpAny _ _ (eval a X.env) _ _ _
  refine thn (ha pins s σ H _ I h) fun v s1 ⟨x, H1, I1, r1, r, l, ds, ex, hσ, hl, hz, hrr, hT, q⟩ => ?_
  subst ex
  obtain rfl : v = Value.ref r := r1
  refine Calls.spliced_nil ?_
  show wpAny _ _ (evalAll [(do let v ← eval (.Lambda (lamArgs k pa) (lamBody k d pd pk pp) (lamScope k d) lpos) X.env; standAt pos; pure v)]) _ _ _
  unfold evalAll
  refine wpAny_bind (wpAny_bind (lam_make I1 hT C hb hcode hcl rfl hq fun f c' oc pm ctv s2 H2 I2 hT2 sm hf0 hf hc' hoc => ?_))
  refine wpAny_bind (wpAny_standAt (wpAny_pure ?_))
  unfold evalAll
  refine wpAny_bind (wpAny_holding (wpAny_pure (wpAny_pure ?_)))
  show wpAny _ _ (call (.builtin "sorted") [.ref r] [(Str.ofString "key", .ref f)]) _ _ _
  have hlP : l ≠ P := fun e => by obtain ⟨ps, e1, _⟩ := hT; rw [e, e1] at hl; cases hl
  have hl2 : H2 l = some (.lst (ds.map V.int)) := sm _ _ hlP hl
  obtain ⟨_, its, nn, hv, hit⟩ := I2.hok l _ hl2
  have hiI : IntsAre its ds := ints_vals hv
  have hfo : s2.heap.get? f = some _ := (I2.hok f _ hf).1
  have hco : s2.heap.get? c' = some oc := (I2.hok c' _ hc').1
  have hcell : s2.heap.IsCell cl (some (.ref l)) := by
    obtain ⟨m, _, hlo⟩ := I2.loc
    obtain ⟨u, ru, lk⟩ := hlo i d (.ref l) hN hσ (.inr (.inl hkd))
    obtain rfl : u = Value.ref l := ru
    rcases lk with ⟨hk, _⟩ | ⟨_, c2, hc2, hx⟩
    · have : some NameKind.cell = some NameKind.local := hkd.symm.trans hk
      cases this
    · rw [hce] at hc2
      cases hc2
      exact hx
  have hlen : (placesI ds.length).length = ds.length := by unfold placesI; rw [List.length_map, List.length_range]
  refine key_sortedI (ns := placesI ds.length) (kz := ds) hlen.symm (by rw [hlen]; exact Nat.le_trans hz (by decide)) (fun E' Q' hQ => ?_) (fun j n kk t e1 e2 h3 tk Q3 kp q3 => ?_) fun D h' tk out cc hD kp hat hout => ?_
  · rcases hrr with hr1 | hr1
    · have hrP : r ≠ P := fun e => by obtain ⟨ps, e1, _⟩ := hT; rw [e, e1] at hr1; cases hr1
      obtain ⟨_, vs, nr, hv2, hit2⟩ := I2.hok r _ (sm _ _ hrP hr1)
      exact col_list (vs := vs) ⟨_, hit2, rfl, _, rfl⟩ (by rw [← hv2.length, List.length_map, hlen]; exact Nat.le_trans hz (by decide)) E' Q' fun h' tk kp z => hQ vs h' tk (ints_vals hv2) kp z
    · have hrP : r ≠ P := fun e => by obtain ⟨ps, e1, _⟩ := hT; rw [e, e1] at hr1; cases hr1
      obtain ⟨t, u, v, hit2⟩ := I2.hok r _ (sm _ _ hrP hr1)
      exact col_range (A := X.A.in1) (n := ds.length) (I.ok.hd hcal) hit2 hz E' Q' hQ
  · have hj : j < ds.length := (List.getElem?_eq_some_iff.mp e2).1
    obtain rfl : (j : Int) = n := by
      unfold placesI at e1
      rw [List.getElem?_map, List.getElem?_range hj] at e1
      cases e1; rfl
    obtain ⟨vk, hvk⟩ : ∃ vk, its[j]? = some vk := ⟨_, List.getElem?_eq_getElem (by rw [hiI.length]; exact hj)⟩
    obtain ⟨k2, tk2, rfl, e3⟩ := hiI.at j vk hvk
    rw [e2] at e3
    cases e3
    refine wpAny_call (lam_call (u := .none) (kp _ _ hfo) (let ⟨vs, t, e1, e2⟩ := hoc; ⟨c', oc, vs, t, rfl, kp _ _ hco, e1, e2⟩) (show X.A.depth < recursionLimit from Room.depth hr) ((I2.mod.nolimit.keeps I2.bk).keeps kp) (hbind _ _ _ _ _) rfl rfl rfl (by simp) ?_ (by simp) (by simp) hd nk nd (hcell.keeps kp) (its := its.toArray) ⟨_, kp _ _ hit, rfl, _, rfl⟩ (by omega) (by omega) (by simpa using hvk) fun h4 tk4 k4 => q3 tk2 h4 tk4 k4)
    show List.lookup d [(k, NameKind.local), (d, NameKind.free)] = some .free
    simp [List.lookup, ek]
  · have I3 : Inv X pins σ (upd H2 D (.lst ((keyOrder ds (placesI ds.length)).map V.int))) { s2 with heap := h', toks := tk } := I2.laid kp hD ⟨by
        have h1 := hout.length
        rw [List.length_map]
        unfold keyOrder
        rw [List.length_map, ssort_len, List.length_zip, hlen, Nat.min_self]
        exact Nat.le_trans hz (by decide), out.toList, cc, vals_ints hout, hat⟩
    have hD2 : H2 D = none := I2.hok.fresh hD
    have hD1 : H1 D = none := by
      cases e : H1 D with
      | none => rfl
      | some u =>
        by_cases hDP : D = P
        · obtain ⟨ps, e1, _⟩ := hT2
          rw [hDP, e1] at hD2; cases hD2
        · rw [sm D u hDP e] at hD2; cases hD2
    refine ⟨.ref D, _, I3, rfl, q D _ (fun b u hb e => ?_) ?_ hD1 upd_same⟩
    · rw [upd_ne (fun z => by rw [z, hD1] at e; cases e)]
      exact sm b u hb e
    · obtain ⟨ps, e1, e2, e3⟩ := hT2
      have nP : P ≠ D := fun z => by rw [z, hD2] at e1; cases e1
      refine ⟨ps, by rw [upd_ne nP]; exact e1, e2, e3.imp id fun ⟨c2, oc2, a1, a2, a3⟩ => ⟨c2, oc2, a1, ?_, a3⟩⟩
      rw [upd_ne (fun z => by rw [z, hD2] at a2; cases a2)]
      exact a2
end
end L2
end

section
set_option Elab.async false
set_option linter.all false
set_option maxRecDepth 100000
set_option maxHeartbeats 4000000
namespace L2
open PySem PySem.Spec PyProof.Rows
def CodeHdO (o : Obj) (c P : Addr) : Prop := ∃ vs file tf flags tg inF text tt, o.cls = .type "code" ∧ o.data = .fields vs ∧ vs[11]? = some (.ref P) ∧ vs.getD 11 .none = .ref P ∧ vs.getD 18 .none = .str file tf ∧
    vs.getD 7 .none = .int flags tg ∧ vs.getD 9 .none = .bool inF ∧ vs.getD 10 .none = .int text tt ∧ c ≠ P
theorem CodeHdO.at {h : Heap} {o : Obj} {c P : Addr} (x : CodeHdO o c P) (e : h.get? c = some o) : PySem.W.CodeHd h c P := by
  obtain ⟨vs, file, tf, flags, tg, inF, text, tt, a1, a2, a3, a4, a5, a6, a7, a8, a9⟩ := x
  exact ⟨o, vs, file, tf, flags, tg, inF, text, tt, e, a1, a2, a3, a4, a5, a6, a7, a8, a9⟩
theorem law_callT2 {P : Program} {w : World} {K : PySem.W.Frag} {mg mb : Str → Option Value} {CX : CXT} {k : Nat} {fa a : Addr} {fd : FuncData} {x : Str} {sp : Sp} {s₁ : Shared} {vs : List Value} {ns : List Int} {tabs : List (Addr × Addr)}
    (hT : PySem.W.TabsAt tabs s₁.heap) (hTK : ∀ q ∈ tabs, K.lookup q.2 = none) (hB : ∃ bm ob, mg "__builtins__" = some (.ref bm) ∧ bm ≠ builtinsNs ∧ s₁.heap.get? bm = some ob ∧ ob.cls = .type "module" ∧ ob.dict = some builtinsNs ∧ ob.data = .plain) (KX : K.In s₁.heap) (hns : s₁.heap.Ns mainGlobals mg) (hb : s₁.heap.Ns builtinsNs mb) (hbb : ∀ x : Str, x ≠ "__name__" → mb x = bootBuiltins x) (hlim : s₁.heap.NoLimit) (hg : s₁.gens = #[])
    (ha : s₁.heap.get? a = some { cls := .type "list", data := .seq vs.toArray }) (hi : IntsAre vs ns) (hl : ns.length ≤ sizeLine) (hr : Room k callerA)
    (F : ∀ base : Heap, K.In base → base.Ns mainGlobals mg → (∀ q ∈ tabs, base.BuiltinsAt mg q.2) → FnOk P w K mg base CX k fa fd [x] sp) (hbind : ∀ (s : Shared) (u : Value), BindsTo s fd ⟨[u], []⟩ [(x, u)])
    (hsp : ∀ H : Hp, (∀ q ∈ tabs, H q.2 = some (.tbl #[])) → SqL K H a (ns.map V.int) → sp [.ref a] H (fun v _ => v = .bl true) fun _ _ _ => False)
    (hCX : ∀ H e s', CX [] H s₁ (fun _ _ _ => False) e s' → False) :
    codeAny (model P w) callerA (.call (.ref fa) ⟨[.ref a], []⟩) (fun r s' => r = .ok (.ret (.bool true)) ∧ OldK s₁.heap s'.heap ∧ s'.os = s₁.os ∧ AllBare s'.gens) s₁ := by
  have rv := vals_ints hi
  have tabAt : ∀ b, b ∈ tabs.map (·.2) → s₁.heap.get? b = some (PySem.W.tabObj #[]) ∧ K.lookup b = none ∧ isCodeTable s₁.heap b := fun b hm => by
    obtain ⟨q, hq, rfl⟩ := List.mem_map.mp hm
    exact ⟨(hT q hq).2, hTK q hq, ((hT q hq).1.tab (hT q hq).2).isCodeTable⟩
  have haT : a ∉ tabs.map (·.2) := fun hm => by
    have := (tabAt a hm).1
    rw [ha] at this
    cases this
  let H : Hp := fun b => if b ∈ tabs.map (·.2) then some (.tbl #[]) else if b = a ∧ K.lookup a = none then some (.frz { cls := .type "list", data := .seq vs.toArray } (.lst (ns.map V.int))) else none
  have H1 : ∀ b, b ∈ tabs.map (·.2) → H b = some (.tbl #[]) := fun b hm => if_pos hm
  have H2 : ∀ b, b ∉ tabs.map (·.2) → ¬ (b = a ∧ K.lookup a = none) → H b = none := fun b h1 h2 => (if_neg h1).trans (if_neg h2)
  have H3 : K.lookup a = none → H a = some (.frz { cls := .type "list", data := .seq vs.toArray } (.lst (ns.map V.int))) := fun h => (if_neg haT).trans (if_pos ⟨rfl, h⟩)
  have cases3 : ∀ b, (b ∈ tabs.map (·.2)) ∨ (b = a ∧ K.lookup a = none ∧ b ∉ tabs.map (·.2)) ∨ (H b = none) := fun b => by
    by_cases h1 : b ∈ tabs.map (·.2)
    · exact .inl h1
    · by_cases h2 : b = a ∧ K.lookup a = none
      · exact .inr (.inl ⟨h2.1, h2.2, h1⟩)
      · exact .inr (.inr (H2 b h1 h2))
  have hok : HOk P w H s₁.heap := fun b o e => by
    rcases cases3 b with h | ⟨rfl, h1, _⟩ | h
    · rw [H1 b h] at e
      cases e
      exact (tabAt b h).1
    · rw [H3 h1] at e
      cases e
      exact ⟨ha, by rw [List.length_map]; exact hl, vs, _, rv, ha⟩
    · rw [h] at e
      cases e
  have noD : ∀ {b : Addr} {o : Obj} {es : Array DictEntry} {ep : Nat}, s₁.heap.get? b = some o → o.data = .dict es ep → H b = none := fun {b o es ep} e d => by
    rcases cases3 b with h | ⟨rfl, _, _⟩ | h
    · rw [(tabAt b h).1] at e
      cases e
      have d' : Data.fields #[] = Data.dict es ep := d
      cases d'
    · rw [ha] at e
      cases e
      have d' : Data.seq vs.toArray _ = Data.dict es ep := d
      cases d'
    · exact h
  have nsK : ∀ {b : Addr} {m : Str → Option Value}, s₁.heap.Ns b m → (hidT s₁.heap H).Ns b m := fun {b m} ⟨o, es, ep, e, d, r⟩ => ⟨o, es, ep, hidT_get e (noD e d), d, r⟩
  have hKb : K.In (hidT s₁.heap H) := fun b o e => hidT_get (KX b o e) (by
    rcases cases3 b with h | ⟨rfl, h1, _⟩ | h
    · rw [(tabAt b h).2.1] at e; cases e
    · rw [h1] at e; cases e
    · exact h)
  have hBa : ∀ q ∈ tabs, (hidT s₁.heap H).BuiltinsAt mg q.2 := fun q hq => by
    obtain ⟨bm, ob, b1, b2, b3, b4, b5, b6⟩ := hB
    have n1 : bm ≠ mainGlobals := fun z => by
      obtain ⟨o, es, ep, e, d, _⟩ := hns
      rw [z, e] at b3
      cases b3
      rw [d] at b6; cases b6
    have nP : bm ∉ tabs.map (·.2) := fun hm => by
      have := (tabAt bm hm).1
      rw [b3] at this
      cases this
      cases b6
    have hn : H bm = none := by
      rcases cases3 bm with h | ⟨h, _, _⟩ | h
      · exact absurd h nP
      · rw [h, ha] at b3
        cases b3
        cases b6
      · exact h
    exact ⟨bm, ob, b1, b2, n1, fun z => nP (z ▸ List.mem_map_of_mem hq), hidT_get b3 hn, b4, b5, b6⟩
  have hM : Mod K mg (hidT s₁.heap H) := ⟨hKb, nsK hns, ⟨mb, nsK hb, hbb⟩, let ⟨mc, h1, h2⟩ := hlim; ⟨mc, nsK h1, h2⟩⟩
  have e0 : Env0 P w K mg (hidT s₁.heap H) callerA [] s₁ H := ⟨rfl, hM, fun b o e => of_hidT e, Nat.le_of_eq (hidT_size _ _), trivial, fun b hb => absurd (show b ∈ ([] : List Addr) from hb) (by simp), hok, .of_eq hg⟩
  have hS : SqL K H a (ns.map V.int) := by
    cases hk : K.lookup a with
    | none => exact .inl (.inr ⟨_, H3 hk⟩)
    | some o =>
      have e := KX a o hk
      rw [ha] at e
      cases e
      exact .inr ⟨_, vs.toArray, _, hk, rfl, rfl, rfl, by rw [List.size_toArray, hi.length]; exact hl, by simpa using rv⟩
  refine codeAny_mono ((F _ hKb (nsK hns) hBa).run callerA [] s₁ H ⟨[.ref a], []⟩ [.ref a] [.ref a] _ _ hr e0 (hbind s₁ (.ref a)) (.cons rfl .nil) (hsp H (fun q hq => H1 _ (List.mem_map_of_mem hq)) hS)) fun r s' h => ?_
  cases r with
  | error e => exact (hCX H e s' h).elim
  | ok fl =>
    cases fl with
    | next => exact False.elim h
    | brk => exact False.elim h
    | cont => exact False.elim h
    | ret u =>
      obtain ⟨v, H', os, bare, un, hok', r', q⟩ := h
      have q' : v = .bl true := q
      subst q'
      obtain rfl : u = Value.bool true := r'
      have out : ∀ b o, s₁.heap.get? b = some o → (b ∈ tabs.map (·.2) ∧ ∃ more, s'.heap.get? b = some (PySem.W.tabObj more)) ∨ s'.heap.get? b = some o := fun b o e => by
        rcases cases3 b with h | ⟨rfl, h1, _⟩ | h
        · obtain ⟨more, hm⟩ := un.tbls b _ (H1 b h)
          exact .inl ⟨h, _, hok' b _ hm⟩
        · obtain ⟨e2, _⟩ := hok' _ _ (un.frzs _ _ _ (H3 h1))
          rw [ha] at e
          cases e
          exact .inr e2
        · exact .inr (un.keep b o e h (by intro z; exact absurd (show b ∈ ([] : List Addr) from z) (by simp)) (by simp))
      refine ⟨rfl, ⟨fun b o e => ?_, fun b o e => ?_⟩, os, bare⟩
      · rcases out b o e with ⟨h, more, hm⟩ | h
        · have e1 := (tabAt b h).1
          rw [e] at e1
          cases e1
          exact .inr (.inl ⟨(tabAt b h).2.2, rfl, #[], more, rfl, by rw [Array.empty_append]; exact hm⟩)
        · exact .inl h
      · rcases out b o e with ⟨_, more, hm⟩ | h
        · exact ⟨_, hm⟩
        · exact ⟨o, h⟩
theorem walk_ofT2 {l : PySem.W.OpenLaw} {n k : Nat} {q : Program} {loose : List Str} {XP : (Str → Option Value) → Heap → Prop} {YP : World → Heap → Prop} {d : DefRec} {K : Params → PySem.W.Frag} {CX : World → CXT} {sp : World → Sp} {x : Str} {tabs : List (Addr × Addr)}
    (hn : l.most = some n) (hn2 : n ≤ sizeLine) (hdf : d.params.defaults = []) (hr : Room k callerA)
    (hY : ∀ (w : World) (h : Heap), YP w h → (K w.params).In h) (hTb : ∀ (w : World) (h : Heap), YP w h → PySem.W.TabsAt tabs h) (hTK : ∀ w : World, ∀ p ∈ tabs, (K w.params).lookup p.2 = none)
    (F : ∀ (w : World) (mg : Str → Option Value) (fa : Addr) (h : Heap), (K w.params).In h → h.Ns mainGlobals mg → mg d.name = some (.ref fa) →
      ∃ fd : FuncData, (∀ (s : Shared) (u : Value), BindsTo s fd ⟨[u], []⟩ [(x, u)]) ∧
        ∀ base : Heap, (K w.params).In base → base.Ns mainGlobals mg → (∀ q ∈ tabs, base.BuiltinsAt mg q.2) → FnOk l.prog w (K w.params) mg base (CX w) k fa fd [x] (sp w))
    (hsp : ∀ (w : World) (H : Hp) (a : Addr) (ns : List Int), ns.length ≤ n → (∀ p ∈ tabs, H p.2 = some (.tbl #[])) → SqL (K w.params) H a (ns.map V.int) → sp w [.ref a] H (fun v _ => v = .bl true) fun _ _ _ => False)
    (hCX : ∀ (w : World) (H : Hp) (s : Shared) (e : Value) (s' : Shared), CX w [] H s (fun _ _ _ => False) e s' → False) :
    PySem.W.WalkO q loose XP YP l.row.toRowW d [] (fun f vs => PySem.call f vs) := by
  refine Att.attach_call hn hdf fun w s₀ s₁ mg mb fa o pm cd doc a vs ns G Y ho hd hcd hmg hobj hints hlen hg => ?_
  have KX := hY w _ Y
  obtain ⟨fd, hb, hF⟩ := F w mg fa _ KX G.T.g hmg
  exact law_callT2 (hTb w _ Y) (hTK w) G.T.bmain KX G.T.g G.T.b G.T.builtins G.T.nolimit hg hobj hints (Nat.le_trans hlen hn2) hr hF hb (fun H hO hS => hsp w H a ns hlen hO hS) fun H e s' => hCX w H s₁ e s'
structure FunL (K : PySem.W.Frag) (x qual : Str) (st : Stmt) (f : Addr) (fd : FuncData) (c P : Addr) : Prop where
  ex : ∃ (oc : Value) (od : Option Addr) (kV doc pm : Value) (an : Option Addr) (ct : Value) (osl : Array (Option Value)),
    fd = PySem.W.fnOf x qual (defArgs st) (defBody st) (defScope st) .none kV doc pm an (.ref c) ct ∧ K.lookup f = some ⟨oc, od, .func fd, osl⟩ ∧ PySem.W.codeIn K (.ref c) qual = true
  kp : PySem.W.keepIn K (.ref f) = true
  hd : ∃ oc, K.lookup c = some oc ∧ CodeHdO oc c P
section
variable {P : Program} {w : World} {K : PySem.W.Frag} {mg : Str → Option Value} {base : Heap}
theorem FunL.ok {x qual : Str} {st : Stmt} {f c Pt : Addr} {fd : FuncData} {N ps : List Str} {k : Nat} {sp : Sp} (F : FunL K x qual st f fd c Pt) (S : FnScope N ps (defScope st)) (len : ∀ vs H Q E, sp vs H Q E → vs.length = ps.length)
    (hbody : ∀ (A : Around) (outer : List Env) (s : Shared) (H : Hp) (vs : List V) (Q : VK) (E : XK), Room k (A.deeper (envOfC qual (defScope st) s.heap.objs.size f (.ref c))) → sp vs H Q E →
      ∃ t, PSs (cxOf CX0 P w K mg base N qual (defScope st) f (.ref c) A outer s H E).nox (defBody st) t ∧ t { nx := fun _ H' => Q .non H', rt := Q } (start N vs) H) : FnOk P w K mg base CX0 (k + 1) f fd ps sp := by
  obtain ⟨oc, od, kV, doc, pm, an, ct, osl, rfl, lk, hcd⟩ := F.ex
  refine fn_of lk hcd S len fun A outer s H vs Q E hr hsp => ?_
  obtain ⟨t, h, q⟩ := hbody A outer s H vs Q E hr hsp
  exact ⟨t, h.nox, q⟩
theorem FunL.code {x qual : Str} {st : Stmt} {f c Pt : Addr} {fd : FuncData} (F : FunL K x qual st f fd c Pt) (hK : K.In base) : PySem.W.CodeHd base c Pt := let ⟨oc, e, h⟩ := F.hd; h.at (hK _ _ e)
theorem FunL.binds {x qual : Str} {st : Stmt} {f c Pt : Addr} {fd : FuncData} {ps : List Str} (F : FunL K x qual st f fd c Pt)
    (h : ∀ (kV doc pm : Value) (an : Option Addr) (cdv ct : Value) (us : List Value), us.length = ps.length → bindArgs (PySem.W.fnOf x qual (defArgs st) (defBody st) (defScope st) .none kV doc pm an cdv ct) ⟨us, []⟩ = pure (ps.zip us)) : Binds K fd ps [] := by
  obtain ⟨oc, od, kV, doc, pm, an, ct, osl, rfl, lk, hcd⟩ := F.ex
  exact .all (h kV doc pm an (.ref c) ct)
theorem fun_mkL {x qual : Str} {st : Stmt} {f c Pt : Addr} {oc : Value} {od an : Option Addr} {osl : Array (Option Value)} {kV doc pm ct : Value} {oo : Obj} (l : K.lookup f = some ⟨oc, od, .func (PySem.W.fnOf x qual (defArgs st) (defBody st) (defScope st) .none kV doc pm an (.ref c) ct), osl⟩)
    (cc : PySem.W.codeIn K (.ref c) qual = true) (k : PySem.W.keepIn K (.ref f) = true) (lc : K.lookup c = some oo) (hc : CodeHdO oo c Pt) : FunL K x qual st f (PySem.W.fnOf x qual (defArgs st) (defBody st) (defScope st) .none kV doc pm an (.ref c) ct) c Pt := ⟨⟨oc, od, kV, doc, pm, an, ct, osl, rfl, l, cc⟩, k, oo, lc, hc⟩
end
end L2
end

section
set_option Elab.async false
set_option linter.all false
set_option maxRecDepth 100000
set_option maxHeartbeats 4000000
namespace L2
open PySem PySem.Spec PyProof.Rows
theorem sub_ri_reversed : isSubtype (.type "range_iterator") (.type "reversed") = pure false := by rw [isSubtype_type]; kernel_rfl
def rangeRev (n : Nat) : Obj := { cls := .type "range_iterator", data := .fields #[rawInt ((n : Int) - 1), rawInt (n : Int), rawInt (-1)] }
section
variable {prog : Program} {w : World} {A : Around} {E : Value → Shared → Prop} {s : Shared}
theorem call_range_reversed {r : Addr} {n : Nat} {t u v : Tok} {Q : Value → Shared → Prop} (hr : IsRange s.heap r 0 n 1 t u v) (hn : n ≤ 100000)
    (h : Q (.ref s.heap.objs.size) { s with heap := s.heap.push (rangeRev n) }) : wpAny (model prog w) A (call (.builtin "range.__reversed__") [.ref r]) Q E s := by
  have hT : s.TypeIs (.ref r) "range" := ⟨_, hr, rfl⟩
  have e2 : Builtin.Range.rangeSize 0 (n : Int) 1 = n := by rw [rangeSize_one]; split <;> omega
  have hs : (Builtin.Range.rangeFitsLong 0 && Builtin.Range.rangeFitsLong (n : Int) && Builtin.Range.rangeFitsLong 1 && Builtin.Range.rangeFitsLong (-1) && Builtin.Range.rangeFitsLong (0 - 1) && Builtin.Range.rangeFitsLong (n : Int)) = true := by
    simp only [Builtin.Range.rangeFitsLong, Bool.and_eq_true, decide_eq_true_eq]
    omega
  refine wpAny_call_entry F.slot_range_reversed hT F.entry_range_reversed ?_ (F.args_range_reversed_1 _)
  unfold Builtin.«range.__reversed__»
  refine wpAny_bind (wpAny_of_eq (a := Value.ref r) rfl ?_)
  refine wpAny_bind ?_
  unfold Builtin.Range.rangeFields
  refine wpAny_bind (wpAny_field hr rfl (x := .int 0 t) rfl ?_)
  refine wpAny_bind (m := asInt? (.int 0 t)) (wpAny_pure ?_)
  refine wpAny_bind (wpAny_field hr rfl (x := .int n u) rfl ?_)
  refine wpAny_bind (m := asInt? (.int n u)) (wpAny_pure ?_)
  refine wpAny_bind (wpAny_field hr rfl (x := .int 1 v) rfl ?_)
  refine wpAny_bind ?_
  show wpAny _ _ (pure (some (1 : Int))) _ _ _
  refine wpAny_pure ?_
  show wpAny _ _ (pure ((0 : Int), ((n : Int), (1 : Int)))) _ _ _
  refine wpAny_pure ?_
  dsimp only
  rw [e2, hs]
  rw [if_neg (by decide)]
  refine wpAny_bind (wpAny_newObj_type ?_)
  refine wpAny_pure ⟨_, rfl, ?_⟩
  have e3 : (0 : Int) + ((n : Int) - 1) * 1 = (n : Int) - 1 := by omega
  rw [e3]
  exact h
theorem code_reversed_newR {r : Addr} {n : Nat} {t u v : Tok} {Q₁ : Value → Shared → Prop} (hr : IsRange s.heap r 0 n 1 t u v) (hn : n ≤ 100000)
    (h : Q₁ (.ref s.heap.objs.size) { s with heap := s.heap.push (rangeRev n) }) :
    codeAny (model prog w) A (.call (.builtin "reversed.__new__") ⟨[.type "reversed", .ref r], []⟩) (wants Q₁ E) s := by
  have hT : s.TypeIs (.ref r) "range" := ⟨_, hr, rfl⟩
  refine codeAny_of_tree ?_
  show wpAny _ A.in1 (do checkBuiltinCall "reversed.__new__" ⟨[.type "reversed", .ref r], []⟩; again (.builtin "reversed.__new__" ⟨[.type "reversed", .ref r], []⟩)) _ _ s
  refine wpAny_bind (wpAny_of_eq (F.newCall_reversed_1 _) (wpAny_pure ⟨plainId_quiet F.plain_reversed_new _, codeAny_builtin F.entry_reversed_new ?_⟩))
  rw [Around.under_plainId F.plain_reversed_new _]
  unfold Builtin.«reversed.__new__»
  refine wpAny_bind (wpAny_of_eq (newClass_reversed _) ?_)
  try dsimp only
  refine wpAny_bind (wpAny_of_eq (a := ()) (by first | rfl | kernel_rfl) ?_)
  refine wpAny_bind (wpAny_of_eq (a := ()) (by first | rfl | kernel_rfl) ?_)
  try dsimp only
  refine wpAny_bind (wpAny_specialOf hT F.slot_range_reversed.lookup ?_)
  try dsimp only
  refine wpAny_bind (wpAny_of_eq (F.slot_range_reversed.bind _) ?_)
  try dsimp only
  first
  | rw [if_neg (show ¬ ((Value.builtin "range.__reversed__" == Value.none) = true) from Bool.false_ne_true)]
  | (show wpAny _ _ (if (Value.builtin "range.__reversed__" == Value.none) = true then _ else _) _ _ _; rw [if_neg (show ¬ ((Value.builtin "range.__reversed__" == Value.none) = true) from Bool.false_ne_true)])
  refine wpAny_bind (wpAny_rule ?_)
  refine wpAny_bind (m := runValue (.call (.builtin "range.__reversed__") ⟨[.ref r], []⟩)) (show wpAny _ _ (call (.builtin "range.__reversed__") [.ref r]) _ _ _ from call_range_reversed hr hn ?_)
  first
  | exact wpAny_pure h
  | exact wpAny_bind (wpAny_pure (wpAny_pure h))
theorem call_reversed_range {r : Addr} {n : Nat} {t u v : Tok} {Q : Value → Shared → Prop} (hr : IsRange s.heap r 0 n 1 t u v) (hn : n ≤ 100000)
    (h : Q (.ref s.heap.objs.size) { s with heap := s.heap.push (rangeRev n) }) : wpAny (model prog w) A (call (.type "reversed") [.ref r]) Q E s := by
  refine callType_other (U := "range_iterator") (Q₁ := fun obj s₁ => obj = .ref s.heap.objs.size ∧ s₁ = { s with heap := s.heap.push (rangeRev n) }) (by decide +kernel) F.create_reversed ⟨_, _, F.mro_reversed⟩ F.made_reversed sub_ri_reversed (F.typeCall_reversed_1 _) (code_reversed_newR hr hn ⟨rfl, rfl⟩) ?_
  rintro obj s₁ ⟨rfl, rfl⟩
  exact ⟨⟨_, Heap.get?_push_size _ rfl, rfl⟩, h⟩
end
theorem boot_reversed : bootBuiltins "reversed" = some (.type "reversed") := by decide +kernel
section
variable {X : Cx} {tg : Expr}
def iRevR (ta : TA) : TI := fun σ H R => ta σ H fun vs H1 => ∃ n : Nat, vs = [.int n] ∧ n ≤ 100000 ∧ R (Itr3 ((n : Int) - 1) (-1) n) H1
theorem r_revR {tA : TA} {σ : St} {H : Hp} {R : It → Hp → Prop} (h : tA σ H fun vs H1 => ∃ n : Nat, vs = [.int n] ∧ n ≤ 100000 ∧ R (Itr3 ((n : Int) - 1) (-1) n) H1) : iRevR tA σ H R := h
theorem pi_revR {a : Expr} {ta : TA} {p q pos pos2 : Pos} (hg : Gl X "reversed") (hm : X.mg "reversed" = none) (hg2 : Gl X "range") (hm2 : X.mg "range" = none) (ha : PA X [a] ta) (hs : starEach [a] X.env = [(false, eval a X.env)] := by rfl)
    (hs3 : starEach [Expr.Call (.Name "range" q) [a] [] pos2] X.env = [(false, eval (.Call (.Name "range" q) [a] [] pos2) X.env)] := by rfl) : PI X tg (.Call (.Name "reversed" p) [.Call (.Name "range" q) [a] [] pos2] [] pos) (iRevR ta) := by
  intro pins s σ H R I h
  refine Call_ (ld_blt I hg hm boot_reversed (PyProof.Rows.callWith_type1 ?_ hs3 rfl))
  rw [hs3]
  refine Calls.spliced_cons ?_
  show wpAny _ _ (eval (Expr.Call (.Name "range" q) [a] [] pos2) X.env) _ _ _
  refine wpAny_Call_Name_kw (ld_blt I hg2 hm2 boot_range (PyProof.Rows.callWith_type1 (thn (ha pos2 pins s σ H _ I h) fun us s1 ⟨vs, H1, I1, r1, q1⟩ => ?_) hs rfl) (by decide) (by decide))
  obtain ⟨n, e, hn, q⟩ := q1
  subst e
  obtain ⟨u, rfl, t, rfl⟩ := vals1 r1
  refine call_range_1 (Calls.spliced_nil ?_)
  refine call_reversed_range (IsRange.new ..) hn ?_
  have I2 : Inv X pins σ H1 { s1 with heap := s1.heap.push { cls := .type "range", data := .fields #[.int 0 s1.toks, .int n t, .int 1 (s1.toks + 1)] }, toks := s1.toks + 1 + 1 } := I1.kept fun b o e => Heap.get?_push_of_some _ e
  refine wpAny_pyIter_rangeiter (x := (n : Int) - 1) (left := n) (step := -1) (Heap.get?_push_size _ rfl) ?_
  refine ⟨_, [_], _, _, H1, rfl, I2.kept (t' := s1.toks + 1 + 1) fun b o e => Heap.get?_push_of_some _ e, turn_range3 _ ((n : Int) - 1) (-1) n, ?_, fun b hb => ?_, q⟩
  · have e1 : (n : Int) - 1 + ((0 : Nat) : Int) * (-1) = (n : Int) - 1 := by simp
    have e2 : ((n : Nat) : Int) - ((0 : Nat) : Int) = (n : Int) := by simp
    show IsRangeIter _ _ ((n : Int) - 1 + ((0 : Nat) : Int) * (-1)) (((n : Nat) : Int) - ((0 : Nat) : Int)) (-1)
    rw [e1, e2]
    exact Heap.get?_push_size _ rfl
  · have e := List.mem_singleton.mp hb
    subst e
    exact I2.fpOk (Nat.le_refl _) (I2.hok.fresh (Nat.le_refl _))
end
end L2
end

section
set_option Elab.async false
set_option linter.all false
set_option maxRecDepth 100000
set_option maxHeartbeats 4000000
namespace L2
open PySem PySem.Spec PyProof.Rows
theorem get_listA {X : Cx} : PGet X (rIxL X.K) := by
  intro pins s σ H x y v u Q I rx ry h
  obtain ⟨p, xs, i, z, rfl, rfl, hq, he, q⟩ := h
  cases rx
  obtain ⟨t, rfl⟩ := ry
  obtain ⟨its, r, pl, hz⟩ := I.list hq
  obtain ⟨j, h1, h2, h3, h4, h5⟩ := atI_get he
  obtain ⟨w, ew, rw'⟩ := r.get h2
  have hl := r.length
  have hn := line63
  have fin : EP X pins σ Q w s := ⟨z, H, I, rw', q⟩
  by_cases h0 : 0 ≤ i
  · have hj : i.toNat = j := by
      rw [seqIndex_of h0 h5] at h1
      exact Option.some.inj h1
    exact wpAny_getItem_list pl.isList h0 (by omega) (by rw [hj]; simpa using ew) fin
  · have hj : (i + (its.toArray.size : Int)).toNat = j := by
      rw [seqIndex_neg (by omega) h4] at h1
      rw [List.size_toArray, ← hl]
      exact Option.some.inj h1
    exact wpAny_getItem_list_neg pl.isList (by omega) (by rw [List.size_toArray] <;> omega) (by omega) (by rw [hj]; simpa using ew) fin
section
variable {to ti te : TE} {tget : V → V → Hp → VK → Prop} {tip : TIp} {tset : TSet} {D : Ends} {σ : St} {H : Hp}
theorem r_augS (h : to σ H fun o H1 => ti σ H1 fun i H2 => tget o i H2 fun x H3 => te σ H3 fun y H4 => tip x y H4 fun z H5 => tset o i z H5 fun H6 => D.nx σ H6) : tAugS to ti te tget tip tset D σ H := h
end
theorem r_setLast {p : Addr} {xs : List V} {x v : V} {H : Hp} {R : Hp → Prop} (h : H p = some (.lst (xs ++ [x]))) (q : R (upd H p (.lst (xs ++ [v])))) : rSetL (.ref p) (.int (-1)) v H R := by
  refine ⟨p, _, -1, xs.length, rfl, rfl, h, ?_, ?_⟩
  · unfold ixN
    rw [if_neg (by decide), if_pos (by simp; omega)]
    simp
    omega
  · rw [List.set_append_right _ _ (Nat.le_refl _), Nat.sub_self]
    exact q
end L2
end

section
set_option Elab.async false
set_option linter.all false
set_option maxRecDepth 100000
set_option maxHeartbeats 4000000
namespace L2
open PySem PySem.Spec PyProof.Rows
open Builtin.Str (occurrences partsBetween)
section
variable {X : Cx}
def rSplitX : V → List V → Hp → VK → Prop := fun x vs H Q => ∃ z y, x = .str z ∧ vs = [.str y] ∧ (y.length == 0) = false ∧ z.length ≤ 100000 ∧ ∀ D, H D = none → Q (.ref D) (upd H D (.lst ((Txt.split z y).map V.str)))
theorem mt_splitX : MtM X "str.split" rSplitX := by
  intro pins s σ H x vs v us Q I rx rv h
  obtain ⟨z, y, rfl, rfl, hy, hz, q⟩ := h
  obtain ⟨t, rfl⟩ := rx
  obtain ⟨u, rfl, ru⟩ := rv.one
  obtain ⟨t', rfl⟩ := ru
  have sl : 200000 ≤ sizeLine := by decide
  have fin : ∀ (l : List (Str × Tok)) (n tk : Nat), l.map (·.1) = Txt.split z y → EP X pins σ Q (.ref s.heap.objs.size) { s with heap := s.heap.push { cls := .type "list", data := .seq (strValues l).toArray n }, toks := tk } := fun l n tk e => by
    have hl := len_le_of_split e
    refine ⟨.ref s.heap.objs.size, upd H s.heap.objs.size (.lst ((l.map (·.1)).map V.str)), I.laid (fun b o w => Heap.get?_push_of_some _ w) (Nat.le_refl _) ⟨?_, strValues l, n, strsVals l, Heap.get?_push_size _ rfl⟩, rfl, e ▸ q _ (I.hok.fresh (Nat.le_refl _))⟩
    rw [List.length_map, List.length_map]
    omega
  cases h1 : (decide (z.length < y.length) || decide (Builtin.Str.strKind z < Builtin.Str.strKind y))
  · cases hf : (occurrences z y 0 z.length (z.length + 1)).isEmpty
    · have hp : (partsBetween z (occurrences z y 0 z.length (z.length + 1)) y.length).length ≤ sizeLine := by
        rw [len_partsBetween]
        have := StrLaws.occ_length_le z y 0 z.length (z.length + 1)
        omega
      refine call_meets F.slot_str_split (typeIs_str _ _ _) F.entry_str_split (F.args_str_split_2 _ _) (meets_str_split_sep z y t t' h1 hy hf (by omega) hp) ?_
      show wants _ _ _ { s with toks := _, heap := s.heap.push { cls := .type "list", data := .seq (strsFrom s.toks (partsBetween z (occurrences z y 0 z.length (z.length + 1)) y.length)).toArray } }
      rw [strsFrom_eq]
      exact fin (numbered s.toks _) _ _ ((numbered_texts _ _).trans ((if_neg (ne_true_of_eq_false h1)).trans (if_neg (ne_true_of_eq_false hf))).symm)
    · exact call_meets F.slot_str_split (typeIs_str _ _ _) F.entry_str_split (F.args_str_split_2 _ _) (meets_str_split_not_found z y t t' h1 hy hf) (fin [(z, t)] _ _ ((if_neg (ne_true_of_eq_false h1)).trans (if_pos hf)).symm)
  · exact call_meets F.slot_str_split (typeIs_str _ _ _) F.entry_str_split (F.args_str_split_2 _ _) (meets_str_split_cannot_occur z y t t' h1) (fin [(z, t)] _ _ (if_pos h1).symm)
end
end L2
end

section
set_option Elab.async false
set_option linter.all false
namespace TW
open PySem PySem.StrLaws PySem.Builtin.Str
theorem occ_run (x : Str) (c : Nat) : ∀ (m a : Nat) (st : Array Nat × Nat), st.2 ≤ a → st.1.size ≤ a → a + m ≤ x.length + 1 →
    (forIn (List.range' a m) st (occBody x ⟨#[c]⟩ x.length (x.length + 1))).run.fst.toList = st.1.toList ++ (List.range' a m).filter fun i => x.cps.toList[i]? == some c
  | 0, a, st, _, _, _ => by
    rw [List.range'_zero, List.filter_nil, List.append_nil]
    rfl
  | m + 1, a, st, h1, h2, h3 => by
    rw [List.range'_succ, List.forIn_cons]
    unfold occBody
    by_cases hc : x.cps.toList[a]? = some c
    · have hs := (subAt_one x c a).mpr hc
      rw [if_pos ⟨⟨⟨by omega, h1⟩, hs.1⟩, hs.2⟩]
      have ih := occ_run x c m (a + 1) (st.1.push a, a + 1) (Nat.le_refl _) (by simp; omega) (by omega)
      refine Eq.trans ih ?_
      rw [List.filter_cons_of_pos (by simp [hc])]
      simp
    · rw [if_neg (fun h => hc ((subAt_one x c a).mp ⟨h.1.2, h.2⟩))]
      have ih := occ_run x c m (a + 1) st (by omega) (by omega) (by omega)
      refine Eq.trans ih ?_
      rw [List.filter_cons_of_neg (by simpa using hc)]
theorem occ_all (x : Str) (c : Nat) : occurrences x ⟨#[c]⟩ 0 x.length (x.length + 1) = (List.range' 0 (x.length + 1)).filter fun i => x.cps.toList[i]? == some c := by
  rw [occ_eq]
  exact occ_run x c (x.length + 1) 0 (#[], 0) (Nat.le_refl _) (Nat.le_refl _) (by omega)
def grC (ns : List Nat) : List Nat := (ns.map fun n => List.replicate n 49 ++ [48]).flatten
def cuts : Nat → List Nat → List Nat
  | _, [] => []
  | a, n :: r => (a + n) :: cuts (a + n + 1) r
theorem fil_ones (L : List Nat) : ∀ (n a : Nat), (∀ i, a ≤ i → i < a + n → L[i]? = some 49) → (List.range' a n).filter (fun i => L[i]? == some 48) = []
  | 0, _, _ => rfl
  | n + 1, a, h => by
    rw [List.range'_succ, List.filter_cons_of_neg (by rw [h a (Nat.le_refl _) (by omega)]; simp)]
    exact fil_ones L n (a + 1) fun i h1 h2 => h i (by omega) (by omega)
theorem fil_cuts : ∀ (ns pre : List Nat), (List.range' pre.length ((grC ns).length + 1)).filter (fun i => (pre ++ grC ns)[i]? == some 48) = cuts pre.length ns
  | [], pre => by
    show (List.range' pre.length 1).filter _ = []
    rw [show List.range' pre.length 1 = [pre.length] from rfl, List.filter_cons_of_neg]
    · rfl
    · rw [List.getElem?_eq_none (by simp [grC])]
      simp
  | n :: r, pre => by
    have e : grC (n :: r) = List.replicate n 49 ++ (48 :: grC r) := by
      show List.replicate n 49 ++ [48] ++ grC r = _
      rw [List.append_assoc]
      rfl
    have el : (grC (n :: r)).length + 1 = n + (1 + ((grC r).length + 1)) := by rw [e]; simp; omega
    rw [el, ← List.range'_append_1, List.filter_append, ← List.range'_append_1, List.filter_append]
    have h1 : ∀ i, pre.length ≤ i → i < pre.length + n → (pre ++ grC (n :: r))[i]? = some 49 := fun i h1 h2 => by
      rw [e, List.getElem?_append_right h1, List.getElem?_append_left (by simp; omega), List.getElem?_replicate, if_pos (by omega)]
    rw [fil_ones _ n _ h1, List.nil_append]
    have h2 : (pre ++ grC (n :: r))[pre.length + n]? = some 48 := by
      rw [e, List.getElem?_append_right (by omega), List.getElem?_append_right (by simp)]
      simp
    rw [show List.range' (pre.length + n) 1 = [pre.length + n] from rfl, List.filter_cons_of_pos (by rw [h2]; rfl)]
    have ih := fil_cuts r (pre ++ List.replicate n 49 ++ [48])
    have el2 : (pre ++ List.replicate n 49 ++ [48]).length = pre.length + n + 1 := by simp; omega
    have el3 : pre ++ List.replicate n 49 ++ [48] ++ grC r = pre ++ grC (n :: r) := by rw [e]; simp
    rw [el2, el3] at ih
    show (pre.length + n) :: (List.filter _ []) ++ _ = _
    rw [List.filter_nil]
    show (pre.length + n) :: List.filter _ _ = (pre.length + n) :: cuts (pre.length + n + 1) r
    rw [ih]
theorem parts_cuts : ∀ (ns pre : List Nat) (x : Str), x.cps.toList = pre ++ grC ns → partsFrom x 1 pre.length (cuts pre.length ns) = (ns.map fun n => (⟨(List.replicate n 49).toArray⟩ : Str)) ++ [⟨#[]⟩]
  | [], pre, x, h => by
    show [strSub x pre.length x.length] = [_]
    congr 1
    apply Str.ext'
    apply Array.toList_inj.mp
    rw [strSub_toList, h]
    simp [grC]
  | n :: r, pre, x, h => by
    have e : grC (n :: r) = List.replicate n 49 ++ (48 :: grC r) := by
      show List.replicate n 49 ++ [48] ++ grC r = _
      rw [List.append_assoc]
      rfl
    have ih := parts_cuts r (pre ++ List.replicate n 49 ++ [48]) x (by rw [h, e]; simp)
    have el2 : (pre ++ List.replicate n 49 ++ [48]).length = pre.length + n + 1 := by simp; omega
    rw [el2] at ih
    show strSub x pre.length (pre.length + n) :: partsFrom x 1 (pre.length + n + 1) (cuts (pre.length + n + 1) r) = (⟨(List.replicate n 49).toArray⟩ : Str) :: ((r.map fun n => (⟨(List.replicate n 49).toArray⟩ : Str)) ++ [⟨#[]⟩])
    rw [ih]
    congr 1
    apply Str.ext'
    apply Array.toList_inj.mp
    rw [strSub_toList, h, e]
    simp
theorem split_groups (ns : List Nat) : Txt.split (⟨(grC ns).toArray⟩ : Str) ⟨#[48]⟩ = (ns.map fun n => (⟨(List.replicate n 49).toArray⟩ : Str)) ++ [⟨#[]⟩] := by
  have p := parts_cuts ns [] ⟨(grC ns).toArray⟩ (by simp)
  have f := fil_cuts ns []
  have o := occ_all ⟨(grC ns).toArray⟩ 48
  rw [show (⟨(grC ns).toArray⟩ : Str).length = (grC ns).length from by simp [Str.length]] at o
  have o2 : occurrences (⟨(grC ns).toArray⟩ : Str) ⟨#[48]⟩ 0 (grC ns).length ((grC ns).length + 1) = cuts 0 ns := by
    rw [o]
    exact f
  cases ns with
  | nil => rfl
  | cons n r =>
    have hl : (⟨(grC (n :: r)).toArray⟩ : Str).length = (grC (n :: r)).length := by simp [Str.length]
    have h1 : 1 ≤ (grC (n :: r)).length := by
      show 1 ≤ (List.replicate n 49 ++ [48] ++ grC r).length
      simp
      omega
    have k1 : ∀ x : Str, 1 ≤ PySem.Builtin.Str.strKind x := fun x => by unfold PySem.Builtin.Str.strKind; split; omega; split <;> omega
    unfold Txt.split
    rw [if_neg, hl, o2, if_neg, partsBetween_eq]
    · exact p
    · simp [cuts]
    · rw [hl]
      have := k1 ⟨(grC (n :: r)).toArray⟩
      have e2 : PySem.Builtin.Str.strKind (⟨#[48]⟩ : Str) = 1 := by simp [PySem.Builtin.Str.strKind]
      rw [e2]
      simp
      have e3 : (⟨#[48]⟩ : Str).length = 1 := rfl
      omega
end TW
end

section
set_option Elab.async false
set_option linter.all false
set_option maxRecDepth 100000
set_option maxHeartbeats 4000000
namespace L2
open PySem PySem.Spec PyProof.Rows
section
variable {X : Cx}
def tLRngD (ta : TA) : TE := fun σ H Q => ta σ H fun vs H1 => ∃ i j : Nat, vs = [.int i, .int j, .int (-1)] ∧ i ≤ 100000 ∧ j ≤ i ∧ ∀ p, H1 p = none → Q (.ref p) (upd H1 p (.lst ((List.range (i - j)).map fun t : Nat => V.int (i - t : Nat))))
theorem pe_lrangeD {a b c : Expr} {ta : TA} {p q pos pos2 : Pos} (hcal : X.calm = true) (hg : Gl X "list") (hm : X.mg "list" = none) (hg2 : Gl X "range") (hm2 : X.mg "range" = none) (ha : PA X [a, b, c] ta)
    (hs : starEach [a, b, c] X.env = [(false, eval a X.env), (false, eval b X.env), (false, eval c X.env)] := by rfl) (hs2 : starEach [b, c] X.env = [(false, eval b X.env), (false, eval c X.env)] := by rfl)
    (hs3 : starEach [Expr.Call (.Name "range" q) [a, b, c] [] pos2] X.env = [(false, eval (.Call (.Name "range" q) [a, b, c] [] pos2) X.env)] := by rfl) :
    PE X (.Call (.Name "list" p) [.Call (.Name "range" q) [a, b, c] [] pos2] [] pos) (tLRngD ta) := by
  intro pins s σ H Q I h
  refine wpAny_Call_Name_kw (ld_blt I hg hm b_list (PyProof.Rows.callWith_type1 ?_ hs3 rfl) (by decide) (by decide))
  rw [hs3]
  refine Calls.spliced_cons ?_
  show wpAny _ _ (eval (Expr.Call (.Name "range" q) [a, b, c] [] pos2) X.env) _ _ _
  refine wpAny_Call_Name_kw (ld_blt I hg2 hm2 boot_range (PyProof.Rows.callWith_type1 (thn (ha pos2 pins s σ H _ I h) fun us s1 ⟨vs, H1, I1, r1, q1⟩ => ?_) (by rw [hs, hs2]) (by rw [hs2]; rfl)) (by decide) (by decide))
  obtain ⟨i, j, e, hi, hj, q⟩ := q1
  subst e
  cases r1 with
  | cons r rr =>
    cases rr with
    | cons r' rr =>
      cases rr with
      | cons r'' rr =>
        cases rr
        obtain ⟨t, rfl⟩ := r
        obtain ⟨t', rfl⟩ := r'
        obtain ⟨t'', rfl⟩ := r''
        refine call_range_3 (by omega) (Calls.spliced_nil ?_) (.inl (PyProof.noPylong_small (by omega)))
        have e2 : Builtin.Range.rangeSize (i : Int) (j : Int) (-1) = ((i - j : Nat) : Int) := by rw [down_size]; omega
        refine call_list_range (I1.ok.hd hcal) (IsRange.new ..) (down_small (by omega) (by omega) (by omega) (by omega)) e2 (by omega) fun h' tk acc c kp ho it => ?_
        have hv : Vals ((List.range (i - j)).map fun t : Nat => V.int (i - t : Nat)) acc.toList := vals_of_at (by rw [List.length_map, List.length_range, Array.length_toList, it.1]) fun k x u e1 e3 => by
          have hk : k < i - j := by have := (List.getElem?_eq_some_iff.mp e1).1; simpa using this
          rw [List.getElem?_map, List.getElem?_range hk] at e1
          cases e1
          have e4 : acc[k]? = some u := by rw [← Array.getElem?_toList]; exact e3
          obtain ⟨t, e5⟩ := it.2 k u e4
          exact ⟨t, by rw [e5, show (i : Int) + (k : Int) * -1 = ((i - k : Nat) : Int) by omega]⟩
        have up : ∀ b o, s1.heap.get? b = some o → h'.get? b = some o := fun b o e => kp _ _ (Heap.get?_push_of_some _ e)
        have hle : s1.heap.objs.size ≤ (s1.heap.push { cls := .type "range", data := .fields #[.int i t, .int j t', .int (-1) t''] }).objs.size := by rw [Heap.size_push]; omega
        refine ⟨.ref _, _, I1.laid (t' := tk) (o := .lst _) up hle ⟨?_, acc.toList, c, hv, ho⟩, rfl, q _ (I1.hok.fresh hle)⟩
        rw [List.length_map, List.length_range]
        exact Nat.le_of_lt (Nat.lt_of_le_of_lt (show i - j ≤ 100000 by omega) (by decide))
theorem call_lenK2 (K : PySem.W.Frag) {X : Cx} (h : X.K = K := by rfl) : CallR X (.builtin "len") (fun xs H Q => ∃ p ys, xs = [.ref p] ∧ (SqL K H p ys ∨ SqT K H p ys) ∧ Q (.int ys.length) H) := by
  subst h
  exact call_len_seq
theorem r_lrngD {σ : St} {H : Hp} {Q : VK} {ta : TA} (h : ta σ H fun vs H1 => ∃ i j : Nat, vs = [.int i, .int j, .int (-1)] ∧ i ≤ 100000 ∧ j ≤ i ∧ ∀ p, H1 p = none → Q (.ref p) (upd H1 p (.lst ((List.range (i - j)).map fun t : Nat => V.int (i - t : Nat))))) : tLRngD ta σ H Q := h
end
end L2
end

section
namespace TW
end TW
end

section
namespace TW
end TW
end

section
namespace TW
end TW
end

section
namespace TW
end TW
end

section
set_option Elab.async false
set_option linter.all false
namespace TW
def bal : Nat → Nat → Nat
  | 0, 0 => 1
  | 0, _ + 1 => 0
  | m + 1, 0 => bal m 1
  | m + 1, k + 1 => bal m (k + 2) + bal m k
end TW
end

section
set_option Elab.async false
set_option linter.all false
namespace TW
end TW
end

section
set_option Elab.async false
set_option linter.all false
namespace TW
def dAt (ds : List Nat) (k : Nat) : Nat := ds.getD k 0
def opn (ds : List Nat) : Nat → Nat
  | 0 => 0
  | k + 1 => dAt ds k + 1
def way (ds : List Nat) : Nat → List Int
  | 0 => [-1]
  | k + 1 => (way ds k).take (dAt ds k + 1) ++ [(k : Int)]
def Dok (ds : List Nat) : Prop := ∀ k, k < ds.length → dAt ds k ≤ opn ds k
def eld (ds : List Nat) (k : Nat) : Int := (way ds k).getD (dAt ds k) 0
def elds (ds : List Nat) : List Int := (List.range ds.length).map (eld ds)
theorem way_len {ds : List Nat} (h : Dok ds) : ∀ k, k ≤ ds.length → (way ds k).length = opn ds k + 1
  | 0, _ => rfl
  | k + 1, hk => by
    show ((way ds k).take (dAt ds k + 1) ++ [(k : Int)]).length = dAt ds k + 1 + 1
    have := way_len h k (by omega)
    have := h k (by omega)
    rw [List.length_append, List.length_take]
    simp only [List.length_cons, List.length_nil]
    omega
theorem way_zero {ds : List Nat} (h : Dok ds) : ∀ k, k ≤ ds.length → (way ds k)[0]? = some (-1)
  | 0, _ => rfl
  | k + 1, hk => by
    show ((way ds k).take (dAt ds k + 1) ++ [(k : Int)])[0]? = some (-1)
    have e := way_zero h k (by omega)
    have hl := way_len h k (by omega)
    rw [List.getElem?_append_left (by rw [List.length_take]; omega), List.getElem?_take_of_lt (by omega)]
    exact e
theorem way_at {ds : List Nat} (h : Dok ds) : ∀ (k j : Nat) (x : Int), k ≤ ds.length → (way ds k)[j + 1]? = some x → ∃ v : Nat, x = (v : Int) ∧ v < k ∧ dAt ds v = j
  | 0, j, x, _, e => by cases e
  | k + 1, j, x, hk, e => by
    have e : ((way ds k).take (dAt ds k + 1) ++ [(k : Int)])[j + 1]? = some x := e
    have hl := way_len h k (by omega)
    have hd := h k (by omega)
    have hl2 : ((way ds k).take (dAt ds k + 1)).length = dAt ds k + 1 := by rw [List.length_take]; omega
    by_cases hj : j + 1 < dAt ds k + 1
    · rw [List.getElem?_append_left (by omega), List.getElem?_take_of_lt hj] at e
      obtain ⟨v, hv, hlt, hdv⟩ := way_at h k j x (by omega) e
      exact ⟨v, hv, by omega, hdv⟩
    · rw [List.getElem?_append_right (by omega), hl2] at e
      have e0 : j + 1 - (dAt ds k + 1) = 0 := by
        have := (List.getElem?_eq_some_iff.mp e).1
        simp only [List.length_cons, List.length_nil] at this
        omega
      rw [e0] at e
      have e := Option.some.inj e
      exact ⟨k, e.symm, by omega, by omega⟩
theorem way_lt {ds : List Nat} (h : Dok ds) : ∀ (k i j : Nat) (x y : Int), k ≤ ds.length → i < j → (way ds k)[i]? = some x → (way ds k)[j]? = some y → x < y
  | 0, i, j, x, y, _, hij, e1, e2 => by
    have := (List.getElem?_eq_some_iff.mp e2).1
    simp only [way, List.length_cons, List.length_nil] at this
    omega
  | k + 1, i, j, x, y, hk, hij, e1, e2 => by
    have hl := way_len h k (by omega)
    have hd := h k (by omega)
    have hl2 : ((way ds k).take (dAt ds k + 1)).length = dAt ds k + 1 := by rw [List.length_take]; omega
    have e2' : ((way ds k).take (dAt ds k + 1) ++ [(k : Int)])[j]? = some y := e2
    have e1' : ((way ds k).take (dAt ds k + 1) ++ [(k : Int)])[i]? = some x := e1
    by_cases hj : j < dAt ds k + 1
    · rw [List.getElem?_append_left (by omega), List.getElem?_take_of_lt hj] at e2'
      rw [List.getElem?_append_left (by omega), List.getElem?_take_of_lt (by omega)] at e1'
      exact way_lt h k i j x y (by omega) hij e1' e2'
    · rw [List.getElem?_append_right (by omega), hl2] at e2'
      have e0 : j - (dAt ds k + 1) = 0 := by
        have := (List.getElem?_eq_some_iff.mp e2').1
        simp only [List.length_cons, List.length_nil] at this
        omega
      rw [e0] at e2'
      have ey := Option.some.inj e2'
      rw [List.getElem?_append_left (by omega), List.getElem?_take_of_lt (by omega)] at e1'
      cases i with
      | zero =>
        rw [way_zero h k (by omega)] at e1'
        have := Option.some.inj e1'
        omega
      | succ i =>
        obtain ⟨v, hv, hlt, _⟩ := way_at h k i x (by omega) e1'
        omega
theorem eld_at {ds : List Nat} (h : Dok ds) {k : Nat} (hk : k < ds.length) : (way ds k)[dAt ds k]? = some (eld ds k) := by
  have hl := way_len h k (by omega)
  have hd := h k hk
  unfold eld List.getD
  rw [List.getElem?_eq_getElem (by omega)]
  rfl
theorem eld_top {ds : List Nat} (h : Dok ds) {k : Nat} (hk : k < ds.length) (e : eld ds k = -1) : dAt ds k = 0 := by
  have ha := eld_at h hk
  cases hd : dAt ds k with
  | zero => rfl
  | succ j =>
    rw [hd] at ha
    obtain ⟨v, hv, _⟩ := way_at h k j _ (by omega) ha
    omega
theorem eld_deep {ds : List Nat} (h : Dok ds) {k : Nat} (hk : k < ds.length) (e : eld ds k ≠ -1) : ∃ v : Nat, eld ds k = (v : Int) ∧ v < k ∧ dAt ds k = dAt ds v + 1 := by
  have ha := eld_at h hk
  cases hd : dAt ds k with
  | zero =>
    rw [hd, way_zero h k (by omega)] at ha
    exact absurd (Option.some.inj ha).symm e
  | succ j =>
    rw [hd] at ha
    obtain ⟨v, hv, hlt, hdv⟩ := way_at h k j _ (by omega) ha
    exact ⟨v, hv, hlt, by omega⟩
theorem eld_ge {ds : List Nat} (h : Dok ds) {k : Nat} (hk : k < ds.length) : -1 ≤ eld ds k := by
  by_cases e : eld ds k = -1
  · omega
  · obtain ⟨v, hv, _⟩ := eld_deep h hk e
    omega
theorem elds_len (ds : List Nat) : (elds ds).length = ds.length := by unfold elds; rw [List.length_map, List.length_range]
theorem elds_at {ds : List Nat} {k : Nat} (hk : k < ds.length) : (elds ds)[k]? = some (eld ds k) := by
  unfold elds
  rw [List.getElem?_map, List.getElem?_range hk]
  rfl
def pieceB (ds : List Nat) (k : Nat) : List Bool := List.replicate (opn ds k - dAt ds k) false ++ [true]
def rowP (ds : List Nat) (k : Nat) : List Bool := ((List.range k).map (pieceB ds)).flatten
def rowD (ds : List Nat) : List Bool := rowP ds ds.length ++ List.replicate (opn ds ds.length) false
theorem rowP_succ (ds : List Nat) (k : Nat) : rowP ds (k + 1) = rowP ds k ++ pieceB ds k := by
  unfold rowP
  rw [List.range_succ, List.map_append, List.flatten_append]
  simp
theorem rowP_len {ds : List Nat} (h : Dok ds) : ∀ k, k ≤ ds.length → (rowP ds k).length + opn ds k = 2 * k
  | 0, _ => rfl
  | k + 1, hk => by
    have := rowP_len h k (by omega)
    have := h k (by omega)
    rw [rowP_succ, List.length_append]
    show (rowP ds k).length + (List.replicate (opn ds k - dAt ds k) false ++ [true]).length + (dAt ds k + 1) = 2 * (k + 1)
    rw [List.length_append, List.length_replicate]
    simp only [List.length_cons, List.length_nil]
    omega
theorem rowD_len {ds : List Nat} (h : Dok ds) : (rowD ds).length = 2 * ds.length := by
  unfold rowD
  rw [List.length_append, List.length_replicate]
  exact rowP_len h _ (Nat.le_refl _)
end TW
end

section
set_option Elab.async false
set_option linter.all false
namespace TW
end TW
end

section
set_option Elab.async false
set_option linter.all false
namespace TW
end TW
end

section
set_option linter.all false
namespace TW
end TW
end

section
set_option Elab.async false
set_option linter.all false
namespace TW
def sgF (b : Nat) : List Nat → Nat → Nat → Nat → Option Nat
  | [], p, h, _ => if 0 < h then some p else none
  | c :: r, p, h, k => if c = 49 ∧ b ≤ h ∧ k < 4000 then sgF b r (p + 1) (h + 1) (k + 1) else if c = 48 ∧ 0 < h then sgF b r (p + 1) (h - 1) k else some p
theorem sg_groups : ∀ (cs : List Nat) (p h k : Nat), sgF 1 cs p h k = none → ∃ ns, cs = grC ns ∧ ns.length = h + ns.sum
  | [], p, h, k, e => by
    unfold sgF at e
    by_cases h0 : 0 < h
    · rw [if_pos h0] at e; cases e
    · exact ⟨[], rfl, by simp; omega⟩
  | c :: r, p, h, k, e => by
    unfold sgF at e
    by_cases hA : c = 49 ∧ 1 ≤ h ∧ k < 4000
    · rw [if_pos hA] at e
      obtain ⟨ns, e1, e2⟩ := sg_groups r _ _ _ e
      cases ns with
      | nil => simp at e2
      | cons n ns =>
        refine ⟨(n + 1) :: ns, ?_, ?_⟩
        · rw [e1, hA.1]
          rfl
        · simp only [List.length_cons, List.sum_cons] at e2 ⊢
          omega
    · rw [if_neg hA] at e
      by_cases hB : c = 48 ∧ 0 < h
      · rw [if_pos hB] at e
        obtain ⟨ns, e1, e2⟩ := sg_groups r _ _ _ e
        refine ⟨0 :: ns, ?_, ?_⟩
        · rw [e1, hB.1]
          rfl
        · simp only [List.length_cons, List.sum_cons]
          omega
      · rw [if_neg hB] at e
        cases e
def Gd : Nat → List Nat → Prop
  | h, [] => h = 0
  | h, n :: r => 0 < h ∧ Gd (h + n - 1) r
theorem gr_cons (n : Nat) (r : List Nat) : grC (n :: r) = List.replicate n 49 ++ 48 :: grC r := by
  show List.replicate n 49 ++ [48] ++ grC r = _
  rw [List.append_assoc]
  rfl
theorem sg_ones : ∀ (n : Nat) (r : List Nat) (p h k : Nat), k ≤ 4000 → (sgF 1 (List.replicate n 49 ++ 48 :: r) p h k = none ↔ 0 < h ∧ k + n ≤ 4000 ∧ sgF 1 r (p + n + 1) (h + n - 1) (k + n) = none)
  | 0, r, p, h, k, hk => by
    show (if 48 = 49 ∧ 1 ≤ h ∧ k < 4000 then sgF 1 r (p + 1) (h + 1) (k + 1) else if 48 = 48 ∧ 0 < h then sgF 1 r (p + 1) (h - 1) k else some p) = none ↔ _
    rw [if_neg (by omega)]
    by_cases h0 : 0 < h
    · rw [if_pos ⟨rfl, h0⟩]
      exact ⟨fun e => ⟨h0, by omega, e⟩, fun e => e.2.2⟩
    · rw [if_neg (fun e => h0 e.2)]
      exact ⟨fun e => (by cases e), fun e => absurd e.1 h0⟩
  | n + 1, r, p, h, k, hk => by
    rw [List.replicate_succ]
    show (if 49 = 49 ∧ 1 ≤ h ∧ k < 4000 then sgF 1 (List.replicate n 49 ++ 48 :: r) (p + 1) (h + 1) (k + 1) else if 49 = 48 ∧ 0 < h then sgF 1 (List.replicate n 49 ++ 48 :: r) (p + 1) (h - 1) k else some p) = none ↔ _
    by_cases hA : 49 = 49 ∧ 1 ≤ h ∧ k < 4000
    · rw [if_pos hA]
      have ih := sg_ones n r (p + 1) (h + 1) (k + 1) (by omega)
      rw [ih, show p + 1 + n + 1 = p + (n + 1) + 1 by omega, show h + 1 + n - 1 = h + (n + 1) - 1 by omega, show k + 1 + n = k + (n + 1) by omega]
      exact ⟨fun e => ⟨by omega, e.2⟩, fun e => ⟨by omega, e.2⟩⟩
    · rw [if_neg hA, if_neg (by omega)]
      exact ⟨fun e => (by cases e), fun e => absurd (⟨rfl, by omega, by omega⟩ : 49 = 49 ∧ 1 ≤ h ∧ k < 4000) hA⟩
theorem sg_iff : ∀ (ns : List Nat) (p h k : Nat), k ≤ 4000 → (sgF 1 (grC ns) p h k = none ↔ Gd h ns ∧ k + ns.sum ≤ 4000)
  | [], p, h, k, hk => by
    show (if 0 < h then some p else none) = none ↔ _
    by_cases h0 : 0 < h
    · rw [if_pos h0]
      exact ⟨fun e => (by cases e), fun e => absurd (show h = 0 from e.1) (by omega)⟩
    · rw [if_neg h0]
      exact ⟨fun _ => ⟨show h = 0 by omega, by simpa using hk⟩, fun _ => rfl⟩
  | n :: r, p, h, k, hk => by
    rw [gr_cons, sg_ones n _ p h k hk, List.sum_cons]
    constructor
    · rintro ⟨h1, h2, h3⟩
      have := (sg_iff r _ _ _ h2).mp h3
      exact ⟨⟨h1, this.1⟩, by omega⟩
    · rintro ⟨⟨h1, h2⟩, h3⟩
      exact ⟨h1, by omega, (sg_iff r _ _ _ (by omega)).mpr ⟨h2, by omega⟩⟩
theorem Gd.len : ∀ {ns : List Nat} {h : Nat}, Gd h ns → ns.length = h + ns.sum
  | [], h, g => by have : h = 0 := g; subst this; rfl
  | n :: r, h, ⟨h1, h2⟩ => by
    have := h2.len
    rw [List.length_cons, List.sum_cons]
    omega
theorem Gd.at : ∀ {ns : List Nat} {h : Nat}, Gd h ns → ∀ i, i < ns.length → i < h + (ns.take i).sum
  | [], h, g, i, hi => by cases hi
  | n :: r, h, ⟨h1, h2⟩, 0, hi => by simpa using h1
  | n :: r, h, ⟨h1, h2⟩, i + 1, hi => by
    have := h2.at i (by simpa using hi)
    rw [List.take_succ_cons, List.sum_cons]
    omega
theorem gd_of : ∀ {ns : List Nat} {h : Nat}, ns.length = h + ns.sum → (∀ i, i < ns.length → i < h + (ns.take i).sum) → Gd h ns
  | [], h, e, _ => by
    show h = 0
    simp at e
    omega
  | n :: r, h, e, g => by
    have g0 := g 0 (by simp)
    rw [List.length_cons, List.sum_cons] at e
    have g0 : 0 < h := by simpa using g0
    refine ⟨g0, gd_of (by omega) fun i hi => ?_⟩
    have := g (i + 1) (by simpa using hi)
    rw [List.take_succ_cons, List.sum_cons] at this
    omega
def pre (ns : List Nat) (g : Nat) : Nat := (ns.take g).sum
theorem pre_succ {ns : List Nat} {g : Nat} (h : g < ns.length) : pre ns (g + 1) = pre ns g + ns[g] := by
  unfold pre
  rw [List.take_add_one, List.getElem?_eq_getElem h, List.sum_append]
  simp
theorem pre_mono (ns : List Nat) {a b : Nat} (h : a ≤ b) : pre ns a ≤ pre ns b := by
  unfold pre
  have e : ns.take a = (ns.take b).take a := by rw [List.take_take, Nat.min_eq_left h]
  rw [e]
  generalize ns.take b = l
  have := congrArg List.sum (List.take_append_drop a l)
  rw [List.sum_append] at this
  omega
theorem pre_le (ns : List Nat) (a : Nat) : pre ns a ≤ ns.sum := by
  have := congrArg List.sum (List.take_append_drop a ns)
  rw [List.sum_append] at this
  unfold pre
  omega
def down (a b : Nat) : List Nat := (List.range (a - b)).map fun i => a - i
theorem down_len (a b : Nat) : (down a b).length = a - b := by unfold down; rw [List.length_map, List.length_range]
theorem mem_down {a b x : Nat} (h : x ∈ down a b) : b < x ∧ x ≤ a := by
  obtain ⟨i, hi, rfl⟩ := List.mem_map.mp h
  have := List.mem_range.mp hi
  omega
theorem down_nodup (a b : Nat) : (down a b).Nodup := by
  unfold down
  rw [List.Nodup, List.pairwise_iff_getElem]
  intro i j hi hj hij
  simp only [List.length_map, List.length_range] at hi hj
  simp only [List.getElem_map, List.getElem_range]
  omega
def lvS (ns : List Nat) (s : List Nat × List Nat) : List Nat × List Nat :=
  match s.2 with
  | [] => s
  | g :: w => (s.1 ++ [ns.getD g 0], (down (pre ns (g + 1)) (pre ns g)).reverse ++ w)
def lvN (ns : List Nat) : Nat → List Nat × List Nat
  | 0 => ([], [0])
  | m + 1 => lvS ns (lvN ns m)
structure Lv (ns vis by' wt : List Nat) : Prop where
  h1 : by' = vis.map fun g => ns.getD g 0
  h2 : (vis ++ wt).Nodup
  h3 : ∀ x ∈ vis ++ wt, x < ns.length
  h4 : ∀ x ∈ vis ++ wt, x ≠ 0 → ∃ g ∈ vis, pre ns g < x ∧ x ≤ pre ns (g + 1)
  h5 : wt.length + vis.length = 1 + by'.sum
  h6 : ∀ i, i < by'.length → i < 1 + (by'.take i).sum
theorem lv_zero {ns : List Nat} (h : 0 < ns.length) : Lv ns [] [] [0] :=
  ⟨rfl, by simp, by simpa using h, by simp, rfl, by simp⟩
theorem Lv.few {ns vis by' wt : List Nat} (L : Lv ns vis by' wt) : vis.length + wt.length ≤ ns.length := by
  rw [← List.length_append]
  exact few_below _ _ L.h2 L.h3
theorem Lv.step {ns vis by' w : List Nat} {g : Nat} (hg : Gd 1 ns) (L : Lv ns vis by' (g :: w)) : Lv ns (vis ++ [g]) (by' ++ [ns.getD g 0]) ((down (pre ns (g + 1)) (pre ns g)).reverse ++ w) := by
  have hgl : g < ns.length := L.h3 g (by simp)
  have egd : ns.getD g 0 = ns[g] := by unfold List.getD; rw [List.getElem?_eq_getElem hgl]; rfl
  have hlen := hg.len
  have hbl : by'.length = vis.length := by rw [L.h1, List.length_map]
  have hnd := L.h2
  rw [List.nodup_append] at hnd
  obtain ⟨n1, n2, n3⟩ := hnd
  rw [List.nodup_cons] at n2
  have hgv : g ∉ vis := fun h => n3 g h g (by simp) rfl
  have hps := pre_succ hgl
  have hgr : g ≤ pre ns g := by have := hg.at g hgl; unfold pre; omega
  have hnew : ∀ x ∈ down (pre ns (g + 1)) (pre ns g), x ∉ vis ++ g :: w := by
    intro x hx hx2
    have hd := mem_down hx
    obtain ⟨g', hg', hl, hr⟩ := L.h4 x hx2 (by omega)
    have hne : g' ≠ g := fun e => hgv (e ▸ hg')
    by_cases hlt : g' < g
    · have := pre_mono ns (show g' + 1 ≤ g by omega)
      omega
    · have := pre_mono ns (show g + 1 ≤ g' by omega)
      omega
  refine ⟨?_, ?_, ?_, ?_, ?_, ?_⟩
  · rw [List.map_append, ← L.h1]
    rfl
  · rw [List.append_assoc, List.nodup_append]
    refine ⟨n1, ?_, ?_⟩
    · rw [List.singleton_append, List.nodup_cons, List.nodup_append]
      refine ⟨?_, List.pairwise_reverse.mpr ((down_nodup _ _).imp fun h => h.symm), n2.2, ?_⟩
      · intro h
        rcases List.mem_append.mp h with h | h
        · exact hnew g (List.mem_reverse.mp h) (by simp)
        · exact n2.1 h
      · intro a ha b hb e
        subst e
        exact hnew a (List.mem_reverse.mp ha) (by simp [hb])
    · intro a ha b hb e
      subst e
      rw [List.singleton_append] at hb
      rcases List.mem_cons.mp hb with h | h
      · exact hgv (h ▸ ha)
      · rcases List.mem_append.mp h with h | h
        · exact hnew a (List.mem_reverse.mp h) (List.mem_append_left _ ha)
        · exact n3 a ha a (List.mem_cons_of_mem _ h) rfl
  · intro x hx
    rw [List.append_assoc, List.singleton_append] at hx
    rcases List.mem_append.mp hx with h | h
    · exact L.h3 x (List.mem_append_left _ h)
    · rcases List.mem_cons.mp h with h | h
      · exact h ▸ hgl
      · rcases List.mem_append.mp h with h | h
        · have := mem_down (List.mem_reverse.mp h)
          have := pre_le ns (g + 1)
          omega
        · exact L.h3 x (by simp [h])
  · intro x hx h0
    rw [List.append_assoc, List.singleton_append] at hx
    have old : x ∈ vis ++ g :: w → ∃ g' ∈ vis ++ [g], pre ns g' < x ∧ x ≤ pre ns (g' + 1) := fun h => by
      obtain ⟨g', e1, e2⟩ := L.h4 x h h0
      exact ⟨g', List.mem_append_left _ e1, e2⟩
    rcases List.mem_append.mp hx with h | h
    · exact old (List.mem_append_left _ h)
    · rcases List.mem_cons.mp h with h | h
      · exact old (by simp [h])
      · rcases List.mem_append.mp h with h | h
        · exact ⟨g, by simp, mem_down (List.mem_reverse.mp h)⟩
        · exact old (by simp [h])
  · have := L.h5
    rw [List.length_append, List.length_append, List.sum_append, List.length_reverse, down_len, egd]
    simp only [List.length_cons, List.length_nil, List.sum_cons, List.sum_nil] at this ⊢
    omega
  · intro i hi
    rw [List.length_append] at hi
    by_cases hlt : i < by'.length
    · rw [List.take_append_of_le_length (by omega)]
      exact L.h6 i hlt
    · have hi2 : i = by'.length := by simp at hi; omega
      rw [hi2, List.take_left' rfl]
      have := L.h5
      simp only [List.length_cons] at this
      omega
theorem Lv.fin {ns vis by' : List Nat} (L : Lv ns vis by' []) : Gd 1 by' ∧ by'.sum + 1 ≤ ns.length := by
  have h5 := L.h5
  have hf := L.few
  have hbl : by'.length = vis.length := by rw [L.h1, List.length_map]
  simp at h5 hf
  exact ⟨gd_of (by omega) L.h6, by omega⟩
def popZ : List Nat → Nat × List Nat
  | [] => (0, [])
  | [a] => (0, [a])
  | a :: b :: r => if a = 0 then ((popZ (b :: r)).1 + 1, (popZ (b :: r)).2) else (0, a :: b :: r)
def coR : List Nat → List Nat → List Bool
  | [], _ => []
  | _ :: _, [] => []
  | m :: ms, a :: r => true :: (List.replicate (popZ (m :: (a - 1) :: r)).1 false ++ coR ms (popZ (m :: (a - 1) :: r)).2)
def Top (st : List Nat) : Prop := st ≠ [] ∧ (1 < st.length → 0 < st.headD 0)
theorem popZ_ok : ∀ {st : List Nat}, st ≠ [] → Top (popZ st).2 ∧ (popZ st).2.sum = st.sum ∧ (popZ st).1 + (popZ st).2.length = st.length
  | [], h => absurd rfl h
  | [a], h => ⟨⟨by simp [popZ], fun h => by simp [popZ] at h⟩, rfl, by simp [popZ]⟩
  | a :: b :: r, h => by
    unfold popZ
    by_cases e : a = 0
    · rw [if_pos e]
      obtain ⟨h1, h2, h3⟩ := popZ_ok (st := b :: r) (by simp)
      refine ⟨h1, ?_, ?_⟩
      · show (popZ (b :: r)).2.sum = (a :: b :: r).sum
        rw [h2, e, List.sum_cons (a := 0), Nat.zero_add]
      · show (popZ (b :: r)).1 + 1 + (popZ (b :: r)).2.length = _
        rw [List.length_cons (a := a)]
        omega
    · rw [if_neg e]
      exact ⟨⟨by simp, fun _ => by simp; omega⟩, rfl, by simp⟩
def cd (b : Bool) : Nat := if b then 49 else 48
theorem sg_zeros : ∀ (j : Nat) (r : List Nat) (p h k : Nat), j ≤ h → sgF 0 (List.replicate j 48 ++ r) p h k = sgF 0 r (p + j) (h - j) k
  | 0, r, p, h, k, _ => rfl
  | j + 1, r, p, h, k, hj => by
    rw [List.replicate_succ]
    show (if 48 = 49 ∧ 0 ≤ h ∧ k < 4000 then sgF 0 (List.replicate j 48 ++ r) (p + 1) (h + 1) (k + 1) else if 48 = 48 ∧ 0 < h then sgF 0 (List.replicate j 48 ++ r) (p + 1) (h - 1) k else some p) = _
    rw [if_neg (by omega), if_pos ⟨rfl, by omega⟩, sg_zeros j r _ _ _ (by omega), show p + 1 + j = p + (j + 1) by omega, show h - 1 - j = h - (j + 1) by omega]
theorem co_good : ∀ (ms st : List Nat) (p k : Nat), Top st → Gd st.sum ms → k + ms.length ≤ 4000 → sgF 0 ((coR ms st).map cd) p (st.length - 1) k = none
  | [], st, p, k, ht, hg, hk => by
    have h0 : st.sum = 0 := hg
    obtain ⟨h1, h2⟩ := ht
    cases st with
    | nil => exact absurd rfl h1
    | cons a r =>
      cases r with
      | nil => rfl
      | cons b r =>
        have := h2 (by simp)
        simp at this h0
        omega
  | m :: ms, st, p, k, ht, hg, hk => by
    obtain ⟨h1, h2⟩ := ht
    obtain ⟨g1, g2⟩ := hg
    cases st with
    | nil => exact absurd rfl h1
    | cons a r =>
      have ha : 0 < a := by
        cases r with
        | nil => simpa using g1
        | cons b r => exact h2 (by simp)
      obtain ⟨q1, q2, q3⟩ := popZ_ok (st := m :: (a - 1) :: r) (by simp)
      have hne := q1.1
      have hlen : 0 < (popZ (m :: (a - 1) :: r)).2.length := List.length_pos_iff.mpr hne
      have e0 : (coR (m :: ms) (a :: r)).map cd = 49 :: (List.replicate (popZ (m :: (a - 1) :: r)).1 48 ++ (coR ms (popZ (m :: (a - 1) :: r)).2).map cd) := by
        show (true :: (List.replicate (popZ (m :: (a - 1) :: r)).1 false ++ coR ms (popZ (m :: (a - 1) :: r)).2)).map cd = _
        rw [List.map_cons, List.map_append, List.map_replicate]
        rfl
      rw [e0]
      rw [List.length_cons] at hk
      simp only [List.length_cons] at q3
      show (if 49 = 49 ∧ 0 ≤ (a :: r).length - 1 ∧ k < 4000 then sgF 0 (List.replicate (popZ (m :: (a - 1) :: r)).1 48 ++ (coR ms (popZ (m :: (a - 1) :: r)).2).map cd) (p + 1) ((a :: r).length - 1 + 1) (k + 1) else _) = none
      rw [if_pos ⟨rfl, Nat.zero_le _, by omega⟩, sg_zeros _ _ _ _ _ (by simp only [List.length_cons]; omega)]
      have e1 : (a :: r).length - 1 + 1 - (popZ (m :: (a - 1) :: r)).1 = (popZ (m :: (a - 1) :: r)).2.length - 1 := by
        simp only [List.length_cons]
        omega
      rw [e1]
      refine co_good ms _ _ _ q1 ?_ (by omega)
      rw [q2]
      have e2 : (m :: (a - 1) :: r).sum = (a :: r).sum + m - 1 := by
        simp only [List.sum_cons]
        omega
      rw [e2]
      exact g2
def ocR : List Nat → List Nat → List Nat → List Nat
  | [], g, _ => g
  | c :: r, g, p => if c = 49 then ocR r (g.set (p.headD 0) (g.getD (p.headD 0) 0 + 1) ++ [0]) (g.length :: p) else ocR r g p.tail
theorem sum_set : ∀ {g : List Nat} {i : Nat}, i < g.length → (g.set i (g.getD i 0 + 1)).sum = g.sum + 1
  | [], i, h => by cases h
  | a :: r, 0, _ => by simp; omega
  | a :: r, i + 1, h => by
    have := sum_set (g := r) (i := i) (by simpa using h)
    simp at this ⊢
    omega
def up (l : List Nat) : List Nat := l.dropLast ++ [l.getLastD 0 + 1]
def olU (L : List (List Nat)) (d : Nat) : List (List Nat) :=
  let L1 := L.set d (up (L.getD d []))
  let L2 := if d + 1 = L1.length then L1 ++ [[]] else L1
  L2.set (d + 1) (L2.getD (d + 1) [] ++ [0])
def olR : List Nat → List (List Nat) → Nat → List (List Nat)
  | [], L, _ => L
  | c :: r, L, d => if c = 49 then olR r (olU L d) (d + 1) else olR r L (d - 1)
end TW
namespace TW
theorem fl_set_len : ∀ {L : List (List Nat)} {i : Nat} {R : List Nat}, i < L.length → (L.set i R).flatten.length + (L.getD i []).length = L.flatten.length + R.length
  | [], i, R, h => by cases h
  | a :: L, 0, R, _ => by simp; omega
  | a :: L, i + 1, R, h => by
    have := fl_set_len (L := L) (i := i) (R := R) (by simpa using h)
    simp at this ⊢
    omega
theorem fl_set_sum : ∀ {L : List (List Nat)} {i : Nat} {R : List Nat}, i < L.length → (L.set i R).flatten.sum + (L.getD i []).sum = L.flatten.sum + R.sum
  | [], i, R, h => by cases h
  | a :: L, 0, R, _ => by simp [List.sum_append]; omega
  | a :: L, i + 1, R, h => by
    have := fl_set_sum (L := L) (i := i) (R := R) (by simpa using h)
    simp only [List.set_cons_succ, List.flatten_cons, List.sum_append, List.getD_cons_succ] at this ⊢
    omega
theorem up_snoc (l : List Nat) (x : Nat) : up (l ++ [x]) = l ++ [x + 1] := by
  unfold up
  rw [List.dropLast_concat]
  simp
theorem up_ok {l : List Nat} (h : l ≠ []) : (up l).length = l.length ∧ (up l).sum = l.sum + 1 := by
  have e := List.dropLast_concat_getLast h
  rw [← e, up_snoc]
  simp
  omega
structure OlP (L : List (List Nat)) (d k : Nat) : Prop where
  hd : d < L.length
  ne : ∀ j, j ≤ d → L.getD j [] ≠ []
  hl : L.flatten.length = k + 1
  hs : L.flatten.sum = k
  hk : L.length ≤ k + 1
theorem ol_zero : OlP [[0]] 0 0 := ⟨by simp, fun j hj => by obtain rfl : j = 0 := by omega
                                                            simp, rfl, rfl, Nat.le_refl _⟩
theorem OlP.down {L : List (List Nat)} {d k : Nat} (h : OlP L d k) : OlP L (d - 1) k := ⟨by have := h.hd; omega, fun j hj => h.ne j (by omega), h.hl, h.hs, h.hk⟩
theorem getD_set_self {α : Type} (L : List α) {i : Nat} (R x : α) (h : i < L.length) : (L.set i R).getD i x = R := by
  unfold List.getD
  rw [List.getElem?_set_self h]
  rfl
theorem getD_set_ne {α : Type} (L : List α) {i j : Nat} (R x : α) (h : i ≠ j) : (L.set i R).getD j x = L.getD j x := by
  unfold List.getD
  rw [List.getElem?_set_ne h]
theorem getD_app {α : Type} (L M : List α) {j : Nat} (x : α) (h : j < L.length) : (L ++ M).getD j x = L.getD j x := by
  unfold List.getD
  rw [List.getElem?_append_left h]
def olM (L : List (List Nat)) (d : Nat) : List (List Nat) := if d + 1 = (L.set d (up (L.getD d []))).length then L.set d (up (L.getD d [])) ++ [[]] else L.set d (up (L.getD d []))
theorem olU_eq (L : List (List Nat)) (d : Nat) : olU L d = (olM L d).set (d + 1) ((olM L d).getD (d + 1) [] ++ [0]) := rfl
theorem olM_ok {L : List (List Nat)} {d k : Nat} (h : OlP L d k) : d + 1 < (olM L d).length ∧ (olM L d).flatten.length = k + 1 ∧ (olM L d).flatten.sum = k + 1 ∧ (olM L d).length ≤ k + 2 ∧ ∀ j, j ≤ d → (olM L d).getD j [] ≠ [] := by
  have hd := h.hd
  have hk := h.hk
  obtain ⟨u1, u2⟩ := up_ok (h.ne d (Nat.le_refl _))
  have f1 := fl_set_len (L := L) (i := d) (R := up (L.getD d [])) hd
  have f2 := fl_set_sum (L := L) (i := d) (R := up (L.getD d [])) hd
  have hl := h.hl
  have hs := h.hs
  have hn : ∀ j, j ≤ d → (L.set d (up (L.getD d []))).getD j [] ≠ [] := fun j hj => by
    by_cases e : d = j
    · subst e
      rw [getD_set_self _ _ _ hd]
      intro e
      have := congrArg List.length e
      rw [u1] at this
      exact h.ne d (Nat.le_refl _) (List.length_eq_zero_iff.mp this)
    · rw [getD_set_ne _ _ _ e]
      exact h.ne j hj
  unfold olM
  by_cases e : d + 1 = (L.set d (up (L.getD d []))).length
  · rw [if_pos e]
    rw [List.length_set] at e
    refine ⟨?_, ?_, ?_, ?_, fun j hj => ?_⟩
    · rw [List.length_append, List.length_set]; simp; omega
    · rw [List.flatten_append, List.length_append, show ([[]] : List (List Nat)).flatten = [] from rfl, List.length_nil]; omega
    · rw [List.flatten_append, List.sum_append, show ([[]] : List (List Nat)).flatten = [] from rfl, List.sum_nil]; omega
    · rw [List.length_append, List.length_set]; simp; omega
    · rw [getD_app _ _ _ (by rw [List.length_set]; omega)]
      exact hn j hj
  · rw [if_neg e]
    rw [List.length_set] at e
    exact ⟨by rw [List.length_set]; omega, by omega, by omega, by rw [List.length_set]; omega, hn⟩
theorem olU_ok {L : List (List Nat)} {d k : Nat} (h : OlP L d k) : OlP (olU L d) (d + 1) (k + 1) := by
  obtain ⟨h1, h2, h3, h4, h5⟩ := olM_ok h
  rw [olU_eq]
  have f1 := fl_set_len (L := olM L d) (i := d + 1) (R := (olM L d).getD (d + 1) [] ++ [0]) h1
  have f2 := fl_set_sum (L := olM L d) (i := d + 1) (R := (olM L d).getD (d + 1) [] ++ [0]) h1
  rw [List.length_append] at f1
  rw [List.sum_append] at f2
  simp only [List.length_cons, List.length_nil, List.sum_cons, List.sum_nil] at f1 f2
  refine ⟨by rw [List.length_set]; exact h1, fun j hj => ?_, by omega, by omega, by rw [List.length_set]; omega⟩
  by_cases e : d + 1 = j
  · subst e
    rw [getD_set_self _ _ _ h1]
    simp
  · rw [getD_set_ne _ _ _ e]
    exact h5 j (by omega)
theorem lv_all {ns : List Nat} (hg : Gd 1 ns) : ∀ m, ∃ vis, Lv ns vis (lvN ns m).1 (lvN ns m).2
  | 0 => ⟨[], lv_zero (by have := hg.len; omega)⟩
  | m + 1 => by
    obtain ⟨vis, L⟩ := lv_all hg m
    show ∃ vis, Lv ns vis (lvS ns (lvN ns m)).1 (lvS ns (lvN ns m)).2
    cases hw : (lvN ns m).2 with
    | nil =>
      have e : lvS ns (lvN ns m) = lvN ns m := by unfold lvS; rw [hw]
      rw [e]
      exact ⟨vis, L⟩
    | cons g w =>
      have e : lvS ns (lvN ns m) = ((lvN ns m).1 ++ [ns.getD g 0], (down (pre ns (g + 1)) (pre ns g)).reverse ++ w) := by unfold lvS; rw [hw]
      rw [e]
      rw [hw] at L
      exact ⟨_, L.step hg⟩
end TW
end

section
set_option Elab.async false
set_option linter.all false
namespace TW
def kids (ds : List Nat) (k : Nat) (v : Int) : List Nat := (List.range k).filter fun j => decide (eld ds j = v)
theorem kids_le (ds : List Nat) (k : Nat) (v : Int) : (kids ds k v).length ≤ k := by
  unfold kids
  exact Nat.le_trans (List.length_filter_le ..) (by rw [List.length_range]; exact Nat.le_refl _)
theorem kids_yes {ds : List Nat} {k : Nat} {v : Int} (h : eld ds k = v) : kids ds (k + 1) v = kids ds k v ++ [k] := by
  unfold kids
  rw [List.range_succ, List.filter_append, List.filter_cons_of_pos (by simpa using h)]
  rfl
theorem kids_no {ds : List Nat} {k : Nat} {v : Int} (h : eld ds k ≠ v) : kids ds (k + 1) v = kids ds k v := by
  unfold kids
  rw [List.range_succ, List.filter_append, List.filter_cons_of_neg (by simpa using h)]
  simp
end TW
namespace TW
end TW
namespace TW
end TW
namespace TW
end TW
namespace TW
end TW
end

section
set_option Elab.async false
set_option linter.all false
set_option maxRecDepth 100000
set_option maxHeartbeats 4000000
namespace HD
open PySem PySem.W PySem.Calls PyProof.Rows

def topRunT (tb : String → Option Builtin) (p : Program) (w : World) (m : Nat) (ann : Option Value) : Nat → SharedT → Thread → Option SharedT
  | 0, _, _ => none
  | n + 1, s, t => match through t with
    | true => some s
    | false => match stepOk m ann t with
      | false => none
      | true => match stepT (denote tb) p w s t with
        | some (s', t') => topRunT tb p w m ann n s' t'
        | none => none
theorem topRun_of {tb : String → Option Builtin} {p : Program} {w : World} {m : Nat} {ann : Option Value} : ∀ {n : Nat} {s s' : SharedT} {t : Thread}, topRunT tb p w m ann n s t = some s' → topRun tb p w m ann n s.abs t = some s'.abs
  | 0, _, _, _, h => by cases h
  | n + 1, s, s', t, h => by
    unfold topRunT at h
    unfold topRun
    cases he : through t with
    | true => rw [he] at h; cases h; rfl
    | false =>
      rw [he] at h
      cases hk : stepOk m ann t with
      | false => rw [hk] at h; cases h
      | true =>
        rw [hk] at h
        cases hs : stepT (denote tb) p w s t with
        | none => rw [hs] at h; cases h
        | some r => obtain ⟨s₂, t₂⟩ := r; rw [hs] at h; rw [stepT_spec hs]; exact topRun_of h

def insAll : List Obj → Nat → BT → BT
  | [], _, t => t
  | o :: l, n, t => insAll l (n + 1) (t.ins n o)
noncomputable def bootTree (P : Params) : BT := insAll (boot_heap P).objs.toList 0 .nil
def bootSize : Nat := 11
noncomputable def bootT (w : World) (os : OsState) : SharedT := ⟨bootTree w.params, bootSize, (boot_heap w.params).life, #[], boot_drawn, boot_toks, os⟩
def looksT {α : Type} (Yf : Shared → α) (h0 : Heap) (p q : Program) (loose : List Str) (s : Shared) :=
  (staticsOk (importedModules p.main.body) h0 s.heap && namesBound p s.heap && gensDone s && laidKept h0 s.heap,
    openSeen q loose (importedModules p.main.body) (fun _ => true) true s, Yf s)
def bothT {α : Type} (Yf : Shared → α) (s0 : SharedT) (h0 : Heap) (m : Nat) (p q : Program) (loose : List Str) (M : Nat) (w : World) :=
  (topRunT treeTable p w m (some (.ref 6)) M s0 (topStub p)).map fun s => looksT Yf h0 p q loose s.abs
theorem boot_abs (P : Params) : absHeap (bootTree P) bootSize (boot_heap P).life = boot_heap P := by kernel_rfl
theorem boot_size (P : Params) : ((boot_heap P).isNs mainGlobals && (#[] : Array GenState).size == 0, (boot_heap P).objs.size, (boot_heap P).nsMap mainGlobals "__annotations__") = (true, bootSize, some (.ref 6)) := by kernel_rfl
theorem left_of {p q : Program} {loose : List Str} {α : Type} {Yf : Shared → α} {Ya : World → α} {M N : Nat} (e : opening p = plainProg p.main.scope.names) (f : ∀ s, fenceModules? p s = some s) (hN : Nat.ble 600 N = true) (le : Nat.ble M N = true)
    (both : ∀ w : World, (fun os => bothT Yf (bootT w os) (boot_heap w.params) bootSize p q loose M w) = fun _ => some (true, openGood q loose, Ya w)) :
    LeftO p q loose (fun _ => true) Yf Ya N := fun w => by
  obtain ⟨⟨h, gs, d, k, os⟩, e1, e'⟩ := Option.map_eq_some_iff.mp (boot_open e hN f w)
  obtain ⟨rfl, rfl, rfl, rfl⟩ : h = boot_heap w.params ∧ gs = Array.mk [] ∧ d = boot_drawn ∧ k = boot_toks := by simpa using e'
  have b := congrFun (both w) os
  unfold bothT at b
  obtain ⟨s, r, l⟩ := Option.map_eq_some_iff.mp b
  have r2 := topRun_of r
  have r3 := topRun_mono (N - M) _ _ _ _ r2
  rw [show M + (N - M) = N by have := Nat.le_of_ble_eq_true le; omega] at r3
  have eb : (bootT w os).abs = ⟨boot_heap w.params, Array.mk [], boot_drawn, boot_toks, os⟩ := by
    show Shared.mk (absHeap (bootTree w.params) bootSize (boot_heap w.params).life) (Array.mk []) boot_drawn boot_toks os = _
    rw [boot_abs]
  rw [eb] at r3
  obtain ⟨z1, z2, z3⟩ : _ ∧ _ ∧ _ := by simpa only [Prod.mk.injEq] using boot_size w.params
  obtain ⟨l1, l2, l3⟩ : _ ∧ _ ∧ _ := by simpa only [looksT, Prod.mk.injEq] using l
  have t : topFrom treeTable p w N ⟨boot_heap w.params, Array.mk [], boot_drawn, boot_toks, os⟩ = some s.abs := by
    unfold topFrom
    dsimp only
    rw [z1, z2, z3, r3]
    show (match staticsOk (importedModules p.main.body) (boot_heap w.params) s.abs.heap && namesBound p s.abs.heap && gensDone s.abs && laidKept (boot_heap w.params) s.abs.heap with | true => _ | false => _) = _
    rw [l1]
  unfold openEnds
  rw [e1]
  show (topFrom treeTable p w N _).map _ = _
  rw [t]
  exact congrArg some (Prod.ext l2 l3)
def recOf : Stmt → DefRec
  | .FunctionDef n a b _ _ _ sc _ _ pos => ⟨n, a, b, sc, pos⟩
  | _ => ⟨"", default, [], default, default⟩
end HD
lay_quick HD.bothT
theorem HD.both_eq : @HD.bothT = @PySem.W.Fast.tw3498524332178927239 := PySem.W.Fast.te3498524332178927239
end

set_option Elab.async false
set_option linter.all false
set_option maxRecDepth 100000
set_option maxHeartbeats 4000000
local macro_rules | `(tactic| walk_at "rd") => `(tactic| repeat (first | with_reducible refine L2.r_seq ?_ | with_reducible refine L2.r_next ?_ | with_reducible refine L2.r_asg ?_ | with_reducible refine L2.r_gname ?_ | with_reducible refine L2.r_ret ?_ | with_reducible refine L2.r_retN ?_ | with_reducible refine L2.r_drop ?_ | with_reducible refine L2.r_ifs ?_ | with_reducible refine L2.r_test ?_ | with_reducible refine L2.r_tB ?_ | with_reducible refine L2.r_not ?_ | with_reducible refine L2.r_and ?_ | with_reducible refine L2.r_or ?_ | with_reducible refine L2.r_isN ?_ | with_reducible refine L2.r_notN ?_ | with_reducible refine L2.r_op ?_ | with_reducible refine L2.r_un ?_ | with_reducible refine L2.r_rU ?_ | with_reducible refine L2.r_c ?_ | with_reducible refine L2.r_rI0 ?_ | with_reducible refine L2.r_ipI ?_ | with_reducible refine L2.r_bl ?_ | with_reducible refine L2.r_int ?_ | with_reducible refine L2.r_nil ?_ | with_reducible refine L2.r_cons ?_ | with_reducible refine L2.r_call ?_ | with_reducible refine L2.r_cB ?_ | with_reducible refine L2.r_lst ?_ | with_reducible refine L2.r_tup ?_ | with_reducible refine L2.r_bm ?_ | with_reducible refine L2.r_bm0 ?_ | with_reducible refine L2.r_sl ?_ | with_reducible refine L2.r_nopart ?_ | with_reducible refine L2.r_part ?_ | with_reducible refine L2.r_for ?_ | with_reducible refine L2.r_rng1 ?_ | with_reducible refine L2.r_rng2 ?_ | with_reducible refine L2.r_rng3 ?_ | with_reducible refine L2.r_ilist ?_ | with_reducible refine L2.r_itup ?_ | with_reducible refine L2.r_istr ?_ | with_reducible refine L2.r_lc ?_ | with_reducible refine L2.r_yes ?_ | with_reducible refine L2.r_ifE ?_ | with_reducible refine L2.r_chain ?_ | with_reducible refine L2.r_andV ?_ | with_reducible refine L2.r_orV ?_ | with_reducible refine L2.r_notV ?_ | with_reducible refine L2.r_fld ?_ | with_reducible refine L2.r_sfld ?_ | with_reducible refine L2.r_make ?_ | with_reducible refine L2.r_meth ?_ | with_reducible refine L2.r_rev ?_ | with_reducible refine L2.r_cBK ?_ | with_reducible refine L2.r_izip ?_ | with_reducible refine L2.r_ienum ?_ | with_reducible refine L2.r_lc2 ?_ | with_reducible refine L2.r_ienumS ?_ | with_reducible refine L2.r_rngD ?_ | with_reducible refine L2.r_dnew ?_ | with_reducible refine L2.r_binit ?_ | with_reducible refine L2.r_fstr ?_ | with_reducible refine L2.r_splace ?_ | with_reducible refine L2.r_place ?_ | with_reducible refine L2.r_raiseI ?_ | with_reducible refine L2.r_sortK ?_ | with_reducible refine L2.r_rngE ?_ | with_reducible refine L2.r_revR ?_ | with_reducible refine L2.r_lrng ?_ | with_reducible refine L2.r_lrngD ?_ | with_reducible refine L2.r_gsub ?_ | with_reducible refine L2.r_augS ?_ | with_reducible refine L2.r_mod (by decide) ?_ | with_reducible refine L2.r_shr (by decide) ?_ | with_reducible refine L2.r_div (by decide) (by decide) ?_ | with_reducible refine L2.r_mulR (by decide) (by decide) ?_ | with_reducible refine L2.r_mulL (by decide) (by decide) ?_ | with_reducible refine L2.r_rEq rfl ?_ | with_reducible refine L2.r_rNe rfl ?_ | with_reducible refine L2.iteT ?_ | with_reducible refine L2.iteF ?_ | with_reducible refine L2.iteNT ?_ | with_reducible refine L2.iteNF ?_ | refine L2.r_var rfl ?_ | refine L2.r_aug rfl ?_ | dsimp only))
namespace TK
open PySem L2 TW
local macro_rules | `(tactic| k_is) => `(tactic| walk_at "rd")
def top (i : Nat) : Stmt := PySem.Challenge.pw_tightwood_k92_rows_that_are_none.main.body.getD i (.Pass ⟨0, 0, 0, 0⟩)
abbrev s_NoWood_init : Stmt := inClass (top 5) 0
theorem sc_NoWood_init : FnScope ["self", "place"] ["self", "place"] (defScope s_NoWood_init) := ⟨rfl, rfl, rfl, by decide +kernel, rfl, by decide +kernel, by decide +kernel⟩
abbrev s_check_signs : Stmt := top 12
theorem sc_check_signs : FnScope ["row", "begin", "height", "knots", "place", "sign", "opens", "closes"] ["row", "begin"] (defScope s_check_signs) := ⟨rfl, rfl, rfl, by decide +kernel, rfl, by decide +kernel, by decide +kernel⟩
abbrev s_counted_row : Stmt := top 10
theorem sc_counted_row : FnScope ["many"] ["many"] (defScope s_counted_row) := ⟨rfl, rfl, rfl, by decide +kernel, rfl, by decide +kernel, by decide +kernel⟩
theorem lc_counted_row_0 : LcScope ["many"] (defScope s_counted_row) { kind := .function, names := [(".0", .local), ("one", .local)], isGenerator := false, isCoroutine := false, more := [] } "one" ["one"] [] := ⟨rfl, by decide +kernel, by decide +kernel, by decide +kernel, by decide +kernel, rfl, rfl, rfl, by decide +kernel⟩
abbrev s_law_groups : Stmt := top 29
theorem sc_law_groups : FnScope ["_law_groups_here"] ["_law_groups_here"] (defScope s_law_groups) := ⟨rfl, rfl, rfl, by decide +kernel, rfl, by decide +kernel, by decide +kernel⟩
theorem lc_law_groups_0 : LcScope ["_law_groups_here"] (defScope s_law_groups) { kind := .function, names := [(".0", .local), ("_law_many", .local)], isGenerator := false, isCoroutine := false, more := [] } "_law_many" ["_law_many"] [] := ⟨rfl, by decide +kernel, by decide +kernel, by decide +kernel, by decide +kernel, rfl, rfl, rfl, by decide +kernel⟩
abbrev s_groups_of : Stmt := top 13
theorem sc_groups_of : FnScope ["row"] ["row"] (defScope s_groups_of) := ⟨rfl, rfl, rfl, by decide +kernel, rfl, by decide +kernel, by decide +kernel⟩
theorem lc_groups_of_0 : LcScope ["row"] (defScope s_groups_of) { kind := .function, names := [(".0", .local), ("group", .local), ("len", .globalImplicit)], isGenerator := false, isCoroutine := false, more := [] } "group" ["group"] [] := ⟨rfl, by decide +kernel, by decide +kernel, by decide +kernel, by decide +kernel, rfl, rfl, rfl, by decide +kernel⟩
abbrev s_running_sums : Stmt := top 7
theorem sc_running_sums : FnScope ["numbers", "sums", "number"] ["numbers"] (defScope s_running_sums) := ⟨rfl, rfl, rfl, by decide +kernel, rfl, by decide +kernel, by decide +kernel⟩
abbrev s_open_to_counts : Stmt := top 15
theorem sc_open_to_counts : FnScope ["row", "groups", "path", "sign"] ["row"] (defScope s_open_to_counts) := ⟨rfl, rfl, rfl, by decide +kernel, rfl, by decide +kernel, by decide +kernel⟩
abbrev s_levels_to_counts : Stmt := top 17
theorem sc_levels_to_counts : FnScope ["row", "groups", "ahead", "by_opening", "waiting", "group"] ["row"] (defScope s_levels_to_counts) := ⟨rfl, rfl, rfl, by decide +kernel, rfl, by decide +kernel, by decide +kernel⟩
abbrev s_counts_to_open : Stmt := top 18
theorem sc_counts_to_open : FnScope ["row", "groups", "signs", "waiting", "many"] ["row"] (defScope s_counts_to_open) := ⟨rfl, rfl, rfl, by decide +kernel, rfl, by decide +kernel, by decide +kernel⟩
abbrev s_open_to_levels : Stmt := top 14
theorem sc_open_to_levels : FnScope ["row", "levels", "depth", "sign"] ["row"] (defScope s_open_to_levels) := ⟨rfl, rfl, rfl, by decide +kernel, rfl, by decide +kernel, by decide +kernel⟩
theorem lc_open_to_levels_0 : LcScope ["row", "levels", "depth", "sign"] (defScope s_open_to_levels) { kind := .function, names := [(".0", .local), ("level", .local), ("counted_row", .globalImplicit)], isGenerator := false, isCoroutine := false, more := [] } "level" ["level"] [] := ⟨rfl, by decide +kernel, by decide +kernel, by decide +kernel, by decide +kernel, rfl, rfl, rfl, by decide +kernel⟩
abbrev s_levels_to_open : Stmt := top 16
theorem sc_levels_to_open : FnScope ["row"] ["row"] (defScope s_levels_to_open) := ⟨rfl, rfl, rfl, by decide +kernel, rfl, by decide +kernel, by decide +kernel⟩
abbrev s_counts_to_levels : Stmt := top 19
theorem sc_counts_to_levels : FnScope ["row"] ["row"] (defScope s_counts_to_levels) := ⟨rfl, rfl, rfl, by decide +kernel, rfl, by decide +kernel, by decide +kernel⟩
abbrev s_law_led : Stmt := top 32
theorem sc_law_led : FnScope ["_law_row", "_law_one", "_law_other"] ["_law_row", "_law_one", "_law_other"] (defScope s_law_led) := ⟨rfl, rfl, rfl, by decide +kernel, rfl, by decide +kernel, by decide +kernel⟩
abbrev s_law_digit : Stmt := top 33
theorem sc_law_digit : FnScope ["_law_left", "_law_many", "_law_found"] ["_law_left", "_law_many"] (defScope s_law_digit) := ⟨rfl, rfl, rfl, by decide +kernel, rfl, by decide +kernel, by decide +kernel⟩
abbrev s_law_spoilt : Stmt := top 34
theorem sc_law_spoilt : FnScope ["_law_row", "_law_left", "_law_turn", "_law_way", "_law_at", "_law_sign"] ["_law_row", "_law_left"] (defScope s_law_spoilt) := ⟨rfl, rfl, rfl, by decide +kernel, rfl, by decide +kernel, by decide +kernel⟩
abbrev s_law_longest : Stmt := top 35
theorem sc_law_longest : FnScope ["_law_row", "_law_kind", "_law_height", "_law_ones", "_law_place", "_law_sign"] ["_law_row", "_law_kind"] (defScope s_law_longest) := ⟨rfl, rfl, rfl, by decide +kernel, rfl, by decide +kernel, by decide +kernel⟩
abbrev s_law_told : Stmt := top 36
theorem sc_law_told : FnScope ["_law_row", "_law_one", "_law_other", "_law_found", "e"] ["_law_row", "_law_one", "_law_other"] (defScope s_law_told) := ⟨rfl, rfl, rfl, by decide +kernel, rfl, by decide +kernel, by decide +kernel⟩
abbrev s_law_cell_at : Stmt := top 21
theorem sc_law_cell_at : FnScope ["_law_script", "_law_k"] ["_law_script", "_law_k"] (defScope s_law_cell_at) := ⟨rfl, rfl, rfl, by decide +kernel, rfl, by decide +kernel, by decide +kernel⟩
abbrev s_law_twice : Stmt := top 22
theorem sc_law_twice : FnScope ["_law_cell", "_law_k", "_law_number"] ["_law_cell", "_law_k"] (defScope s_law_twice) := ⟨rfl, rfl, rfl, by decide +kernel, rfl, by decide +kernel, by decide +kernel⟩
abbrev s_law_grown : Stmt := top 23
theorem sc_law_grown : FnScope ["_law_cell", "_law_many", "_law_elders", "_law_way", "_law_k", "_law_at"] ["_law_cell", "_law_many"] (defScope s_law_grown) := ⟨rfl, rfl, rfl, by decide +kernel, rfl, by decide +kernel, by decide +kernel⟩
abbrev s_law_drawn : Stmt := top 24
theorem sc_law_drawn : FnScope ["_law_script", "_law_many", "_law_elders", "_law_way", "_law_k", "_law_number", "_law_size", "_law_turn", "_law_at"] ["_law_script", "_law_many"] (defScope s_law_drawn) := ⟨rfl, rfl, rfl, by decide +kernel, rfl, by decide +kernel, by decide +kernel⟩
abbrev s_law_repeated : Stmt := top 25
theorem sc_law_repeated : FnScope ["_law_elders", "_law_times", "_law_hung", "_law_found", "_law_turn", "_law_size", "_law_base"] ["_law_elders", "_law_times", "_law_hung"] (defScope s_law_repeated) := ⟨rfl, rfl, rfl, by decide +kernel, rfl, by decide +kernel, by decide +kernel⟩
theorem lc_law_repeated_0 : LcScope ["_law_elders", "_law_times", "_law_hung", "_law_found", "_law_turn", "_law_size", "_law_base"] (defScope s_law_repeated) { kind := .function, names := [(".0", .local), ("_law_elder", .local), ("_law_base", .free), ("_law_size", .free)], isGenerator := false, isCoroutine := false, more := [] } "_law_elder" ["_law_elder", "_law_base", "_law_size"] [6, 5] := ⟨rfl, by decide +kernel, by decide +kernel, by decide +kernel, by decide +kernel, rfl, rfl, rfl, by decide +kernel⟩
abbrev s_law_wood : Stmt := top 26
theorem sc_law_wood : FnScope ["_law_script", "_law_most", "_law_large", "_law_number", "_law_many", "_law_elders"] ["_law_script", "_law_most", "_law_large"] (defScope s_law_wood) := ⟨rfl, rfl, rfl, by decide +kernel, rfl, by decide +kernel, by decide +kernel⟩
abbrev s_law_plain : Stmt := top 27
theorem sc_law_plain : FnScope ["_law_elders", "_law_elder", "_law_inner", "_law_tops", "_law_deep", "_law_k", "_law_below"] ["_law_elders"] (defScope s_law_plain) := ⟨rfl, rfl, rfl, by decide +kernel, rfl, by decide +kernel, by decide +kernel⟩
theorem lc_law_plain_0 : LcScope ["_law_elders", "_law_elder", "_law_inner", "_law_tops", "_law_deep", "_law_k", "_law_below"] (defScope s_law_plain) { kind := .function, names := [(".0", .local), ("_law_elder", .local)], isGenerator := false, isCoroutine := false, more := [] } "_law_elder" ["_law_elder"] [] := ⟨rfl, by decide +kernel, by decide +kernel, by decide +kernel, by decide +kernel, rfl, rfl, rfl, by decide +kernel⟩
abbrev s_law_order : Stmt := top 28
theorem sc_law_order : FnScope ["_law_deep"] ["_law_deep"] (defScope s_law_order) := ⟨rfl, rfl, rfl, by decide +kernel, rfl, by decide +kernel, by decide +kernel⟩
abbrev s_law_open_row : Stmt := top 30
theorem sc_law_open_row : FnScope ["_law_elders", "_law_signs", "_law_way", "_law_k", "_law_elder"] ["_law_elders"] (defScope s_law_open_row) := ⟨rfl, rfl, rfl, by decide +kernel, rfl, by decide +kernel, by decide +kernel⟩
abbrev s_law_rows : Stmt := top 31
theorem sc_law_rows : FnScope ["_law_elders", "_law_plain_here", "_law_inner", "_law_tops", "_law_deep", "_law_below", "_law_levels", "_law_counts"] ["_law_elders", "_law_plain_here"] (defScope s_law_rows) := ⟨rfl, rfl, rfl, by decide +kernel, rfl, by decide +kernel, by decide +kernel⟩
theorem lc_law_rows_0 : LcScope ["_law_elders", "_law_plain_here", "_law_inner", "_law_tops", "_law_deep", "_law_below", "_law_levels", "_law_counts"] (defScope s_law_rows) { kind := .function, names := [(".0", .local), ("_law_k", .local), ("len", .globalImplicit), ("_law_inner", .free)], isGenerator := false, isCoroutine := false, more := [] } "_law_k" ["_law_k", "_law_inner"] [2] := ⟨rfl, by decide +kernel, by decide +kernel, by decide +kernel, by decide +kernel, rfl, rfl, rfl, by decide +kernel⟩
theorem lc_law_rows_1 : LcScope ["_law_elders", "_law_plain_here", "_law_inner", "_law_tops", "_law_deep", "_law_below", "_law_levels", "_law_counts"] (defScope s_law_rows) { kind := .function, names := [(".0", .local), ("_law_children", .local), ("len", .globalImplicit)], isGenerator := false, isCoroutine := false, more := [] } "_law_children" ["_law_children"] [] := ⟨rfl, by decide +kernel, by decide +kernel, by decide +kernel, by decide +kernel, rfl, rfl, rfl, by decide +kernel⟩
abbrev s_law : Stmt := top 37
theorem sc_law : FnScope ["_law_script", "_law_elders", "_law_rows_here", "_law_cell", "_law_left", "_law_kind", "_law_row", "_law_great", "_law_due", "_law_answer", "_law_step", "_law_odd"] ["_law_script"] (defScope s_law) := ⟨rfl, rfl, rfl, by decide +kernel, rfl, by decide +kernel, by decide +kernel⟩
abbrev pos_law_order : Pos := ⟨162, 51, 162, 83⟩
def signs (l : List Bool) : Str := ⟨(l.map fun b => if b then 49 else 48).toArray⟩
def optV : Option Nat → V
  | none => .non
  | some p => .int p
theorem signs_len (l : List Bool) : (signs l).length = l.length := by
  show (l.map _).toArray.size = _
  rw [List.size_toArray, List.length_map]
theorem rep_signs (b : Bool) (k : Nat) : repS (sgn (if b then 49 else 48)) k = signs (List.replicate k b) := by
  refine ext_cps ?_
  show (List.replicate k [if b then 49 else 48]).flatten.toArray.toList = ((List.replicate k b).map _).toArray.toList
  rw [List.toList_toArray, List.toList_toArray, List.map_replicate]
  induction k with
  | zero => rfl
  | succ k ih =>
    rw [List.replicate_succ, List.flatten_cons, ih, List.replicate_succ]
    rfl
theorem signs_cps (l : List Bool) : (signs l).cps.toList = l.map fun b => if b then 49 else 48 := by
  show (l.map _).toArray.toList = _
  rw [List.toList_toArray]
theorem signs_append (a b : List Bool) : signs a ++ signs b = signs (a ++ b) := by
  refine ext_cps ?_
  show ((signs a).cps ++ (signs b).cps).toList = _
  rw [Array.toList_append, signs_cps, signs_cps, signs_cps, List.map_append]
abbrev nV (ns : List Nat) : List V := ns.map fun n : Nat => V.int n
theorem nV_range (f : Nat → Nat) (i : Nat) : nV ((List.range (i + 1)).map f) = nV ((List.range i).map f) ++ [V.int (f i : Nat)] := by
  unfold nV
  rw [List.range_succ, List.map_append, List.map_append]
  rfl
theorem few {n : Nat} (h : n ≤ 1000) : n ≤ sizeLine := Nat.le_of_lt (small1000 h)
theorem small20000 {n : Nat} (h : n ≤ 100000) : n < sizeLine := Nat.lt_of_le_of_lt h (by decide)
theorem at_lt {α : Type} {l : List α} {i : Nat} {b : α} (h : l[i]? = some b) : i < l.length := (List.getElem?_eq_some_iff.mp h).1

def isI : V → Bool
  | .int _ => true
  | _ => false
def Any (K : PySem.W.Frag) (H : Hp) (x : V) : Prop := ∃ t b1 b2, TyOf K H x t ∧ PySem.W.kitOne K t (.type "int") = some b1 ∧ PySem.W.kitOne K t (.type "bool") = some b2 ∧ (b1 && !b2) = isI x
section
variable {K : PySem.W.Frag} {H H' : Hp}
theorem TyOf.same {x : V} {t : Value} (s : Same H H') (h : TyOf K H x t) : TyOf K H' x t := by
  cases h with
  | non => exact .non
  | bl b => exact .bl b
  | int i => exact .int i
  | str z => exact .str z
  | flt z => exact .flt z
  | lst e => exact .lst (s _ _ e)
  | frz e => exact .frz (s _ _ e)
  | tup e => exact .tup (s _ _ e)
  | dK e => exact .dK (s _ _ e)
  | dT e => exact .dT (s _ _ e)
  | ins e cl ha hn htk hm => exact .ins (s _ _ e) cl ha hn htk hm
theorem Any.same {x : V} (s : Same H H') (h : Any K H x) : Any K H' x := let ⟨t, b1, b2, h1, r⟩ := h; ⟨t, b1, b2, TyOf.same s h1, r⟩
end
theorem emod_nat (r : Int) (n : Nat) : ∃ k : Nat, r % ((n : Int) + 1) = (k : Int) ∧ k ≤ n := by
  have h0 := Int.emod_nonneg r (show ((n : Int) + 1) ≠ 0 by omega)
  have h1 := Int.emod_lt_of_pos r (show (0 : Int) < (n : Int) + 1 by omega)
  exact ⟨(r % ((n : Int) + 1)).toNat, by omega, by omega⟩
def rowB (j : Nat) : List Nat := (List.range (j + 1)).map (bal j)
theorem nV_len (l : List Nat) : (nV l).length = l.length := by unfold nV; rw [List.length_map]
theorem nV_at {l : List Nat} {i : Nat} {n : Nat} (h : l[i]? = some n) : (nV l)[i]? = some (.int (n : Nat)) := by
  unfold nV
  rw [List.getElem?_map, h]
  rfl
theorem nV_app (l m : List Nat) : nV l ++ nV m = nV (l ++ m) := by unfold nV; rw [List.map_append]
theorem push_same {H H1 : Hp} {a : Addr} {o : HO} (s : Same H H1) (h : H a = none) : Same H (upd H1 a o) := fun b u e => by
  rw [upd_ne (ne_of_none e h)]
  exact s _ _ e
def Rows (H : Hp) (as : List Addr) : Prop := ∀ (j : Nat) (a : Addr), as[j]? = some a → H a = some (.lst (nV (rowB j)))
theorem Rows.same {H H' : Hp} {as : List Addr} (h : Rows H as) (s : Same H H') : Rows H' as := fun j a e => s _ _ (h j a e)
theorem iV_at {l : List Int} {i : Nat} {n : Int} (h : l[i]? = some n) : (l.map V.int)[i]? = some (.int n) := by
  rw [List.getElem?_map, h]
  rfl
theorem iV_get {l : List Int} {i : Nat} {x : V} (h : (l.map V.int)[i]? = some x) : ∃ n, l[i]? = some n ∧ x = .int n := by
  rw [List.getElem?_map] at h
  cases e : l[i]? with
  | none => rw [e] at h; cases h
  | some n =>
    rw [e] at h
    exact ⟨n, rfl, (Option.some.inj h).symm⟩
theorem last_take {l : List Int} {m : Nat} {x : Int} (h0 : 0 < m) (h : l[m - 1]? = some x) : atI ((l.take m).map V.int) (-1) = some (.int x) := by
  have hm := at_lt h
  have e : l.take m = l.take (m - 1) ++ [x] := by
    rw [show m = m - 1 + 1 by omega, List.take_add_one, h]
    rfl
  rw [e, List.map_append]
  exact atI_last _ _
theorem len_take {l : List Int} {m : Nat} (h : m ≤ l.length) : ((l.take m).map V.int).length = m := by rw [List.length_map, List.length_take]; omega
theorem drop_last {l : List Int} {m : Nat} (h : m ≤ l.length) : ((l.take m).map V.int).dropLast = (l.take (m - 1)).map V.int := by
  rw [← List.map_dropLast, List.dropLast_eq_take, List.take_take, List.length_take]
  congr 2
  omega
def lenAt (H : Hp) (p : Addr) : Nat := match H p with | some (.lst xs) => xs.length | _ => 0
theorem lenAt_of {H : Hp} {p : Addr} {xs : List V} (h : H p = some (.lst xs)) : lenAt H p = xs.length := by unfold lenAt; rw [h]
theorem rd_joinS {K : PySem.W.Frag} {H1 : Hp} {Q : VK} {p : Addr} {ls : List (List Bool)} (hl : H1 p = some (.lst (ls.map fun l => .str (signs l)))) (hz : ls.flatten.length ≤ 100000) (q : Q (.str (signs ls.flatten)) H1) : rJoin K (.str "") [.ref p] H1 Q := by
  refine ⟨"", p, ls.map signs, rfl, rfl, SqL.of ?_, ?_, ?_⟩
  · rw [hl, List.map_map]
    rfl
  · have e : ((ls.map signs).map (·.length)).sum = ls.flatten.length := by
      rw [List.length_flatten, List.map_map]
      congr 1
      refine List.map_congr_left fun l _ => ?_
      exact signs_len l
    rw [e]
    show ls.flatten.length + _ * 0 ≤ _
    omega
  · have e : Txt.join ("" : Str) (ls.map signs) = signs ls.flatten := by
      refine ext_cps ?_
      rw [join_empty, List.map_map]
      show ((ls.map fun l => (l.map fun b => if b then 49 else 48).toArray.toList)).flatten = (ls.flatten.map _).toArray.toList
      simp only [List.toList_toArray]
      rw [List.map_flatten]
    rw [e]
    exact q
theorem opn_le {ds : List Nat} (h : Dok ds) : ∀ k, k ≤ ds.length → opn ds k ≤ k
  | 0, _ => Nat.le_refl _
  | k + 1, hk => by
    show dAt ds k + 1 ≤ k + 1
    have := h k (by omega)
    have := opn_le h k (by omega)
    omega
theorem dAt_snoc {ds : List Nat} {d j : Nat} (h : j < ds.length) : dAt (ds ++ [d]) j = dAt ds j := by
  unfold dAt List.getD
  rw [List.getElem?_append_left h]
theorem dAt_new (ds : List Nat) (d : Nat) : dAt (ds ++ [d]) ds.length = d := by
  unfold dAt List.getD
  rw [List.getElem?_append_right (Nat.le_refl _), Nat.sub_self]
  rfl
theorem opn_snoc {ds : List Nat} {d : Nat} : ∀ k, k ≤ ds.length → opn (ds ++ [d]) k = opn ds k
  | 0, _ => rfl
  | k + 1, h => by
    show dAt (ds ++ [d]) k + 1 = dAt ds k + 1
    rw [dAt_snoc (by omega)]
theorem way_snoc {ds : List Nat} {d : Nat} : ∀ k, k ≤ ds.length → way (ds ++ [d]) k = way ds k
  | 0, _ => rfl
  | k + 1, h => by
    show (way (ds ++ [d]) k).take (dAt (ds ++ [d]) k + 1) ++ [(k : Int)] = _
    rw [way_snoc k (by omega), dAt_snoc (by omega)]
    rfl
theorem dok_snoc {ds : List Nat} {d : Nat} (h : Dok ds) (hd : d ≤ opn ds ds.length) : Dok (ds ++ [d]) := fun k hk => by
  rw [List.length_append] at hk
  simp only [List.length_cons, List.length_nil] at hk
  by_cases e : k = ds.length
  · subst e
    rw [dAt_new, opn_snoc _ (Nat.le_refl _)]
    exact hd
  · rw [dAt_snoc (by omega), opn_snoc k (by omega)]
    exact h k (by omega)
theorem elds_snoc (ds : List Nat) (d : Nat) : elds (ds ++ [d]) = elds ds ++ [(way ds ds.length).getD d 0] := by
  unfold elds
  rw [List.length_append]
  show (List.range (ds.length + 1)).map _ = _
  rw [List.range_succ, List.map_append]
  congr 1
  · refine List.map_congr_left fun k hk => ?_
    have hk := List.mem_range.mp hk
    unfold eld
    rw [way_snoc k (by omega), dAt_snoc hk]
  · show [eld (ds ++ [d]) ds.length] = _
    unfold eld
    rw [way_snoc _ (Nat.le_refl _), dAt_new]
theorem way_next (ds : List Nat) (d : Nat) : way (ds ++ [d]) (ds.length + 1) = (way ds ds.length).take (d + 1) ++ [(ds.length : Int)] := by
  show (way (ds ++ [d]) ds.length).take (dAt (ds ++ [d]) ds.length + 1) ++ _ = _
  rw [way_snoc _ (Nat.le_refl _), dAt_new]
theorem way_head {ds : List Nat} (h : Dok ds) {k : Nat} (hk : k ≤ ds.length) : way ds k = -1 :: (way ds k).tail := by
  have e := way_zero h k hk
  cases hw : way ds k with
  | nil => rw [hw] at e; cases e
  | cons x r =>
    rw [hw] at e
    obtain rfl := Option.some.inj e
    rfl

def Fault (xs : List V) (k : Nat) : Prop := ∃ ds, Dok ds ∧ ds.length = k ∧ k < xs.length ∧ k ≤ 4000 ∧ xs.take k = (elds ds).map V.int ∧ (k = 4000 ∨ ∀ e, xs[k]? = some (V.int e) → e ∉ way ds k)
def FaultO : Option (List V) → Nat → Prop
  | some xs, k => Fault xs k
  | none, k => k = 0
theorem take_at {xs : List V} {ds : List Nat} {n j : Nat} (hl : ds.length = n) (h : xs.take n = (elds ds).map V.int) (hj : j < n) : xs[j]? = some (.int (eld ds j)) := by
  have e : (xs.take n)[j]? = some (.int (eld ds j)) := by
    rw [h]
    exact iV_at (elds_at (by omega))
  rw [List.getElem?_take_of_lt hj] at e
  exact e
def Th (K : PySem.W.Frag) (H : Hp) (v : V) : Option (List V) → Prop
  | some xs => ∃ a, v = .ref a ∧ H a = some (.lst xs) ∧ xs.all flatV = true ∧ xs.length ≤ 10000 ∧ xs.length ≠ 4000
  | none => ∃ t, TyOf K H v t ∧ PySem.W.kitOne K t (.type "list") = some false
theorem Th.same {K : PySem.W.Frag} {H H' : Hp} {v : V} {o : Option (List V)} (s : Same H H') (h : Th K H v o) : Th K H' v o := by
  cases o with
  | some xs => obtain ⟨a, e, ha, r⟩ := h; exact ⟨a, e, s _ _ ha, r⟩
  | none => obtain ⟨t, ht, r⟩ := h; exact ⟨t, TyOf.same s ht, r⟩
def NoWd (C : Addr) (H : Hp) (E : XK) (o : Option (List V)) : Prop := ∀ k : Nat, FaultO o k → ∀ dx H', Same H H' → H dx = none → H' dx = some (.xd [("place", .int k)]) → E (.ref C) (some dx) H'
theorem NoWd.same {C : Addr} {H H1 : Hp} {E : XK} {o : Option (List V)} (s : Same H H1) (h : NoWd C H E o) : NoWd C H1 E o := fun k hk dx H' s1 hx hx1 => h k hk dx H' (s.trans s1) (s.free hx) hx1

theorem cut_to (xs : List V) (m : Nat) : cutV xs none (some (m : Int)) = xs.take m := by
  unfold cutV
  rw [HT.sIx_nat]
  show (xs.drop 0).take (min m xs.length - 0) = xs.take m
  rw [List.drop_zero, Nat.sub_zero]
  by_cases h : m ≤ xs.length
  · rw [Nat.min_eq_left h]
  · rw [Nat.min_eq_right (by omega), List.take_of_length_le (Nat.le_refl _), List.take_of_length_le (by omega)]
theorem dok_init {ds : List Nat} {d : Nat} (h : Dok (ds ++ [d])) : Dok ds ∧ d ≤ opn ds ds.length := by
  refine ⟨fun k hk => ?_, ?_⟩
  · have := h k (by rw [List.length_append]; omega)
    rw [dAt_snoc hk, opn_snoc k (by omega)] at this
    exact this
  · have := h ds.length (by rw [List.length_append]; simp)
    rw [dAt_new, opn_snoc _ (Nat.le_refl _)] at this
    exact this
def shI (n : Nat) (b e : Int) : Int := if e < 0 then b else e + n
def catD (ds : List Nat) (D : Nat) (es : List Nat) : List Nat := ds ++ es.map (· + D)
theorem catD_len (ds : List Nat) (D : Nat) (es : List Nat) : (catD ds D es).length = ds.length + es.length := by unfold catD; rw [List.length_append, List.length_map]
theorem cat_all {ds : List Nat} (h1 : Dok ds) {D : Nat} (hD : D ≤ opn ds ds.length) (es : List Nat) (h2 : Dok es) : Dok (catD ds D es) ∧ elds (catD ds D es) = elds ds ++ (elds es).map (shI ds.length ((way ds ds.length).getD D 0)) ∧
    (es ≠ [] → way (catD ds D es) (catD ds D es).length = (way ds ds.length).take (D + 1) ++ (way es es.length).tail.map (fun x : Int => x + (ds.length : Int))) := by
  have hw := way_len h1 ds.length (Nat.le_refl _)
  induction es using snoc_ind with
  | h0 =>
    have e : catD ds D [] = ds := by unfold catD; simp
    rw [e]
    exact ⟨h1, by show elds ds = elds ds ++ []; simp, fun z => absurd rfl z⟩
  | h1 es d ih =>
    obtain ⟨h2a, hd⟩ := dok_init h2
    obtain ⟨k1, k2, k3⟩ := ih h2a
    have ec : catD ds D (es ++ [d]) = catD ds D es ++ [d + D] := by unfold catD; rw [List.map_append, ← List.append_assoc]; rfl
    have hwe := way_len h2a es.length (Nat.le_refl _)
    have hhe := way_head h2a (k := es.length) (Nat.le_refl _)
    have htl : (way es es.length).tail.length = opn es es.length := by rw [List.length_tail]; omega
    have hwc := way_len k1 (catD ds D es).length (Nat.le_refl _)
    by_cases he : es = []
    · subst he
      have e0 : catD ds D [] = ds := by unfold catD; simp
      have d0 : d = 0 := Nat.le_zero.mp hd
      subst d0
      rw [ec, e0, Nat.zero_add]
      refine ⟨dok_snoc h1 hD, ?_, fun _ => ?_⟩
      · rw [elds_snoc]
        rfl
      · rw [List.length_append]
        show way (ds ++ [D]) (ds.length + 1) = _
        rw [way_next]
        congr 1
        show [(ds.length : Int)] = [(0 : Int) + (ds.length : Int)]
        rw [Int.zero_add]
    · have k3 := k3 he
      have htk : ((way ds ds.length).take (D + 1)).length = D + 1 := by rw [List.length_take]; omega
      have hopn : opn (catD ds D es) (catD ds D es).length = D + opn es es.length := by
        rw [k3, List.length_append, List.length_map, htl, htk] at hwc
        omega
      rw [ec]
      refine ⟨dok_snoc k1 (by rw [hopn]; omega), ?_, fun _ => ?_⟩
      · rw [elds_snoc, elds_snoc, k2, List.map_append, ← List.append_assoc]
        congr 1
        show [_] = [_]
        congr 1
        rw [k3]
        cases d with
        | zero =>
          have e1 : (way es es.length).getD 0 0 = -1 := by rw [hhe]; rfl
          rw [e1, Nat.zero_add]
          unfold shI
          rw [if_pos (by decide)]
          unfold List.getD
          rw [List.getElem?_append_left (by omega), List.getElem?_take_of_lt (by omega)]
        | succ d =>
          have hx : (way es es.length)[d + 1]? = some ((way es es.length)[d + 1]'(by omega)) := List.getElem?_eq_getElem _
          generalize (way es es.length)[d + 1]'(by omega) = x at hx
          obtain ⟨v, rfl, _⟩ := way_at h2a es.length d x (Nat.le_refl _) hx
          have e1 : (way es es.length).getD (d + 1) 0 = (v : Int) := by unfold List.getD; rw [hx]; rfl
          rw [e1]
          unfold shI
          rw [if_neg (by omega)]
          unfold List.getD
          rw [List.getElem?_append_right (by omega), htk, List.getElem?_map, show d + 1 + D - (D + 1) = d by omega]
          rw [hhe] at hx
          rw [List.getElem?_cons_succ] at hx
          rw [hx]
          rfl
      · have e2 : (catD ds D es ++ [d + D]).length = (catD ds D es).length + 1 := by rw [List.length_append]; rfl
        have e3 : (es ++ [d]).length = es.length + 1 := by rw [List.length_append]; rfl
        rw [e2, way_next, e3, way_next, k3]
        have e4 : ((way es es.length).take (d + 1) ++ [(es.length : Int)]).tail = (way es es.length).tail.take d ++ [(es.length : Int)] := by
          rw [hhe]
          rfl
        rw [e4, List.map_append, ← List.append_assoc]
        have e5 : ((way ds ds.length).take (D + 1) ++ (way es es.length).tail.map (fun x : Int => x + (ds.length : Int))).take (d + D + 1) = (way ds ds.length).take (D + 1) ++ ((way es es.length).tail.take d).map (fun x : Int => x + (ds.length : Int)) := by
          rw [List.take_append, htk, List.take_of_length_le (by omega), show d + D + 1 - (D + 1) = d by omega, List.map_take]
        rw [e5]
        congr 1
        show [((catD ds D es).length : Int)] = [(es.length : Int) + (ds.length : Int)]
        rw [catD_len]
        congr 1
        omega

theorem pe_placeK (K : PySem.W.Frag) {X : Cx} {e : Expr} {te : TE} {pos : Pos} (he : PE X e te) (h : X.K = K := by rfl) (hb : attributeBase e "place" X.env (eval e X.env) = eval e X.env := by rfl) : PE X (.Attribute e "place" pos) (tPlace K te) := by
  subst h
  exact pe_place he hb
def ThA (K : PySem.W.Frag) (H : Hp) (v : V) : Option (List V) → Prop
  | some xs => ∃ a, v = .ref a ∧ H a = some (.lst xs) ∧ (∀ x ∈ xs, Any K H x) ∧ xs.length ≤ 10000 ∧ xs.length ≠ 4000
  | none => ∃ t, TyOf K H v t ∧ PySem.W.kitOne K t (.type "list") = some false
theorem ThA.same {K : PySem.W.Frag} {H H' : Hp} {v : V} {o : Option (List V)} (s : Same H H') (h : ThA K H v o) : ThA K H' v o := by
  cases o with
  | some xs => obtain ⟨a, e, ha, hf, r⟩ := h; exact ⟨a, e, s _ _ ha, fun x hx => (hf x hx).same s, r⟩
  | none => obtain ⟨t, ht, r⟩ := h; exact ⟨t, TyOf.same s ht, r⟩
structure SameT (H H' : Hp) : Prop where
  keep : ∀ b u, (∀ ps, u ≠ .tbl ps) → H b = some u → H' b = some u
  tb : ∀ b ps, H b = some (.tbl ps) → ∃ ps', H' b = some (.tbl ps')
theorem SameT.trans {H H1 H2 : Hp} (a : SameT H H1) (b : SameT H1 H2) : SameT H H2 := ⟨fun c u n e => b.keep c u n (a.keep c u n e), fun c ps e => let ⟨ps', e'⟩ := a.tb c ps e; b.tb c ps' e'⟩
theorem SameT.lst {H H' : Hp} (s : SameT H H') {a : Addr} {xs : List V} (h : H a = some (.lst xs)) : H' a = some (.lst xs) := s.keep _ _ (by intro ps e; cases e) h
theorem SameT.tup {H H' : Hp} (s : SameT H H') {a : Addr} {xs : List V} (h : H a = some (.tup xs)) : H' a = some (.tup xs) := s.keep _ _ (by intro ps e; cases e) h
theorem SameT.seq {K : PySem.W.Frag} {H H' : Hp} {a : Addr} {xs : List V} (s : SameT H H') (h : SqL K H a xs) : SqL K H' a xs := by
  rcases h with (h | ⟨o, h⟩) | h
  · exact .inl (.inl (s.keep _ _ (by intro ps e; cases e) h))
  · exact .inl (.inr ⟨o, s.keep _ _ (by intro ps e; cases e) h⟩)
  · exact .inr h
theorem sameT_of {H H' : Hp} (s : Same H H') : SameT H H' := ⟨fun b u _ e => s b u e, fun b ps e => ⟨ps, s b _ e⟩⟩
theorem SameT.free {H H' : Hp} (s : SameT H H') {l : Addr} (e : H' l = none) : H l = none := by
  cases q : H l with
  | none => rfl
  | some o =>
    by_cases ho : ∃ ps, o = .tbl ps
    · obtain ⟨ps, rfl⟩ := ho
      obtain ⟨ps', e2⟩ := s.tb l ps q
      rw [e2] at e; cases e
    · rw [s.keep l o (fun ps z => ho ⟨ps, z⟩) q] at e; cases e
structure Tb where
  P : Addr
  pos : Pos
  qual : Str
def Tb.ok (t : Tb) (H : Hp) : Prop := TabOk H t.P t.pos t.qual
theorem Tb.same {t : Tb} {H H' : Hp} (s : Same H H') (h : t.ok H) : t.ok H' := by
  obtain ⟨ps, e1, e2, e3⟩ := h
  exact ⟨ps, s _ _ e1, e2, e3.imp id fun ⟨c, oc, a1, a2, a3⟩ => ⟨c, oc, a1, s _ _ a2, a3⟩⟩
theorem sameT_X {P : Addr} {H H' : Hp} (s : SameX P H H') (hP : ∃ ps, H P = some (.tbl ps)) (hP' : ∃ ps, H' P = some (.tbl ps)) : SameT H H' := by
  refine ⟨fun b u n e => s b u (fun z => ?_) e, fun b ps e => ?_⟩
  · obtain ⟨ps, hP⟩ := hP
    rw [z, hP] at e
    cases e
    exact n ps rfl
  · by_cases hb : b = P
    · rw [hb]; exact hP'
    · exact ⟨ps, s b _ hb e⟩
theorem Tb.tbl {t : Tb} {H : Hp} (h : t.ok H) : ∃ ps, H t.P = some (.tbl ps) := let ⟨ps, e, _⟩ := h; ⟨ps, e⟩
def Tb2 (t u : Tb) (H : Hp) : Prop := t.ok H ∧ u.ok H ∧ t.P ≠ u.P
theorem Tb2.same {t u : Tb} {H H' : Hp} (s : Same H H') (h : Tb2 t u H) : Tb2 t u H' := ⟨Tb.same s h.1, Tb.same s h.2.1, h.2.2⟩
abbrev iN (ds : List Nat) : List Int := ds.map fun n : Nat => (n : Int)
def ordD (ds : List Nat) : List Int := keyOrder (iN ds) (placesI ds.length)
theorem nV_iN (ds : List Nat) : nV ds = (iN ds).map V.int := by unfold nV iN; rw [List.map_map]; rfl
theorem ordD_len (ds : List Nat) : (ordD ds).length = ds.length := by
  unfold ordD keyOrder placesI
  rw [List.length_map, ssort_len, List.length_zip, List.length_map, List.length_map, List.length_range, Nat.min_self]
theorem ordD_perm (ds : List Nat) : (ordD ds).Perm (placesI ds.length) := by
  have h := (ssort_perm (lt := ltI) ((iN ds).zip (placesI ds.length))).map (·.2)
  have e : ((iN ds).zip (placesI ds.length)).map (·.2) = placesI ds.length := by
    rw [List.map_snd_zip]
    unfold placesI
    rw [List.length_map, List.length_map, List.length_range]
    exact Nat.le_refl _
  rw [e] at h
  exact h
theorem placesI_nodup (n : Nat) : (placesI n).Nodup := by
  unfold placesI
  exact List.Pairwise.map _ (fun a b h e => h (by omega)) List.nodup_range
theorem placesI_mem {n : Nat} {x : Int} (h : x ∈ placesI n) : 0 ≤ x ∧ x.toNat < n := by
  unfold placesI at h
  obtain ⟨j, hj, rfl⟩ := List.mem_map.mp h
  have := List.mem_range.mp hj
  exact ⟨by omega, by omega⟩
theorem ordD_mem {ds : List Nat} {x : Int} (h : x ∈ ordD ds) : 0 ≤ x ∧ x.toNat < ds.length := placesI_mem ((ordD_perm ds).mem_iff.mp h)
theorem ordD_nodup (ds : List Nat) : (ordD ds).Nodup := (ordD_perm ds).nodup_iff.mpr (placesI_nodup _)
def isS : V → Bool
  | .str _ => true
  | _ => false
def AnyS (K : PySem.W.Frag) (H : Hp) (x : V) : Prop := ∃ t, TyOf K H x t ∧ PySem.W.kitOne K t (.type "str") = some (isS x)
section
variable {K : PySem.W.Frag} {H H' : Hp}
theorem anyS_int (i : Int) : AnyS K H (.int i) := ⟨_, .int i, by rfl⟩
theorem anyS_bl (b : Bool) : AnyS K H (.bl b) := ⟨_, .bl b, by rfl⟩
theorem anyS_non : AnyS K H .non := ⟨_, .non, by rfl⟩
theorem anyS_str (z : Str) : AnyS K H (.str z) := ⟨_, .str z, by rfl⟩
theorem anyS_tup {a : Addr} {xs : List V} (h : H a = some (.tup xs)) : AnyS K H (.ref a) := ⟨_, .tup h, by rfl⟩
theorem anyS_lst {a : Addr} {xs : List V} (h : H a = some (.lst xs)) : AnyS K H (.ref a) := ⟨_, .lst h, by rfl⟩
theorem anyS_dct {a : Addr} {xs : List (Key × V)} (h : H a = some (.dK xs)) : AnyS K H (.ref a) := ⟨_, .dK h, by rfl⟩
theorem AnyS.same {x : V} (s : Same H H') (h : AnyS K H x) : AnyS K H' x := let ⟨t, h1, r⟩ := h; ⟨t, TyOf.same s h1, r⟩
end
theorem cps_len (z : Str) : z.cps.toList.length = z.length := Array.length_toList
theorem cps_drop {z : Str} {i c : Nat} (h : z.cps[i]? = some c) : z.cps.toList.drop i = c :: z.cps.toList.drop (i + 1) := by
  rw [← Array.getElem?_toList] at h
  have hi := at_lt h
  rw [List.drop_eq_getElem_cons hi]
  rw [List.getElem?_eq_getElem hi] at h
  rw [Option.some.inj h]
theorem sgn_one {c : Nat} (h : V.str (sgn c) = V.str ("1" : Str)) : c = 49 := by
  have e := congrArg (fun z : Str => z.cps.toList) (V.str.inj h)
  exact (List.cons.inj (show [c] = [49] from e)).1
theorem sgn_one' {c : Nat} (h : ¬ V.str (sgn c) = V.str ("1" : Str)) : ¬ c = 49 := fun e => h (by rw [e]; rfl)
def sgV (b : Nat) : V → Option Nat
  | .str z => sgF b z.cps.toList 0 b 0
  | _ => some 0
theorem nV_get {l : List Nat} {i : Nat} {x : V} (h : (nV l)[i]? = some x) : ∃ n, l[i]? = some n ∧ x = .int (n : Nat) := by
  unfold nV at h
  rw [List.getElem?_map] at h
  cases e : l[i]? with
  | none => rw [e] at h; cases h
  | some n =>
    rw [e] at h
    exact ⟨n, rfl, (Option.some.inj h).symm⟩
def grB (ns : List Nat) : List Bool := (ns.map fun n => List.replicate n true ++ [false]).flatten
theorem grB_len (ns : List Nat) : (grB ns).length = ns.sum + ns.length := by
  induction ns with
  | nil => rfl
  | cons n r ih =>
    show (List.replicate n true ++ [false] ++ grB r).length = _
    rw [List.length_append, ih]
    simp
    omega
theorem mem_le_sum {ns : List Nat} {i n : Nat} (h : ns[i]? = some n) : n ≤ ns.sum := by
  induction ns generalizing i with
  | nil => cases h
  | cons m r ih =>
    cases i with
    | zero => cases h; simp
    | succ i => have := ih (i := i) h; simp; omega
def spGroups : Sp := fun vs H Q _ => ∃ (l : Addr) (ns : List Nat), vs = [.ref l] ∧ H l = some (.lst (nV ns)) ∧ ns.sum + ns.length ≤ 20000 ∧ ∀ H', Same H H' → Q (.str (signs (grB ns))) H'


structure Txt (K : PySem.W.Frag) (mg : Str → Option Value) (C_WoodError : Addr) (C_NoBits : Addr) (C_NoPlace : Addr) (C_NoRow : Addr) (C_NoWood : Addr) : Prop where
  g_WoodError : mg "WoodError" = some (.ref C_WoodError)
  g_NoBits : mg "NoBits" = some (.ref C_NoBits)
  g_NoPlace : mg "NoPlace" = some (.ref C_NoPlace)
  g_NoRow : mg "NoRow" = some (.ref C_NoRow)
  g_NoWood : mg "NoWood" = some (.ref C_NoWood)
  ex_WoodError : PySem.W.excIn K C_WoodError veMro "ValueError.__new__" = true
  bg_WoodError : PySem.W.specialIn K (.ref C_WoodError) "__getattribute__" = some (some (.builtin "type.__getattribute__"))
  br_WoodError : PySem.W.readsIn K C_WoodError (.type "type") = true
  bi_WoodError : PySem.W.findCls K (.ref C_WoodError) (.type "type") "__init__" = some (.val (.builtin "ValueError.__init__"))
  sa_NoWood : PySem.W.findIn K (.ref C_NoWood) "__setattr__" = some (some (.builtin "object.__setattr__"))
  pl_NoWood : PySem.W.findIn K (.ref C_NoWood) "place" = some none
  ga_NoWood : PySem.W.findIn K (.ref C_NoWood) "__getattribute__" = some (some (.builtin "BaseException.__getattribute__"))
  gx_NoWood : PySem.W.findIn K (.ref C_NoWood) "__getattr__" = some none
  ca_NoWood : PySem.W.findIn K (.ref C_NoWood) "__class__" = some (some (.builtin "object.__class__"))
  sp_NoWood : PySem.W.specialIn K (.builtin "object.__class__") "__get__" = some (some (.builtin "getset_descriptor.__get__"))
  tk_NoWood : PySem.W.takesIn K (.builtin "object.__class__") = some true
  mo_NoWood : PySem.W.mroIn K C_NoWood (.type "object") = some true
  mb_NoWood : PySem.W.mroIn K C_NoWood (.type "BaseException") = some true
  em_NoWood : PySem.W.exmOne K (.ref C_NoWood) (.ref C_WoodError) = some true
  em2_NoWood : PySem.W.exmOne K (.ref C_NoWood) (.ref C_NoWood) = some true
  kit_NoWood_ValueError : PySem.W.kitOne K (.ref C_NoWood) (.type "ValueError") = some true
  kit_NoWood_NoRow : PySem.W.kitOne K (.ref C_NoWood) (.ref C_NoRow) = some false
  kit_NoWood_NoWood : PySem.W.kitOne K (.ref C_NoWood) (.ref C_NoWood) = some true
  kit_NoWood_NoBits : PySem.W.kitOne K (.ref C_NoWood) (.ref C_NoBits) = some false
  kit_NoWood_NoPlace : PySem.W.kitOne K (.ref C_NoWood) (.ref C_NoPlace) = some false
  g_MOST_KNOTS : ∃ t, mg "MOST_KNOTS" = some (.int 4000 t)
  n_range : mg "range" = none
  n_len : mg "len" = none
  n_int : mg "int" = none
  n_bool : mg "bool" = none
  n_str : mg "str" = none
  n_isinstance : mg "isinstance" = none
  n_list : mg "list" = none
  n_enumerate : mg "enumerate" = none
  n_abs : mg "abs" = none
  n_max : mg "max" = none
  n_min : mg "min" = none
  n_sorted : mg "sorted" = none
  n_reversed : mg "reversed" = none
  n_ValueError : mg "ValueError" = none
  ow_NoWood : ∃ f, OwnX K C_WoodError C_NoWood f
theorem Txt.bw {K : PySem.W.Frag} {mg : Str → Option Value} {C_WoodError : Addr} {C_NoBits : Addr} {C_NoPlace : Addr} {C_NoRow : Addr} {C_NoWood : Addr} (T : Txt K mg C_WoodError C_NoBits C_NoPlace C_NoRow C_NoWood) : BaseX K mg "WoodError" C_WoodError := ⟨T.g_WoodError, T.bg_WoodError, T.br_WoodError, T.bi_WoodError⟩
theorem Txt.k_NoWood {K : PySem.W.Frag} {mg : Str → Option Value} {C_WoodError : Addr} {C_NoBits : Addr} {C_NoPlace : Addr} {C_NoRow : Addr} {C_NoWood : Addr} (T : Txt K mg C_WoodError C_NoBits C_NoPlace C_NoRow C_NoWood) : ExcK K C_NoWood := ⟨T.ga_NoWood, T.gx_NoWood, T.ca_NoWood, T.sp_NoWood, T.tk_NoWood, T.mo_NoWood, T.mb_NoWood⟩
section
variable {P : Program} {w : World} {K : PySem.W.Frag} {mg : Str → Option Value} {base : Heap} {C_WoodError C_NoBits C_NoPlace C_NoRow C_NoWood : Addr}
theorem ok_NoWood_init {f : Addr} {fd : FuncData} (F : Fun K "__init__" "NoWood.__init__" s_NoWood_init f fd) (T : Txt K mg C_WoodError C_NoBits C_NoPlace C_NoRow C_NoWood) : FnOk P w K mg base CX0 1 f fd ["self", "place"] (spInit C_NoWood) := by
  refine F.ok sc_NoWood_init (fun vs H Q E h => ?_) (fun cdv A outer s H vs Q E hr h => ?_)
  · obtain ⟨e, i, rfl, _⟩ := h
    rfl
  · obtain ⟨e, i, rfl, he, hi, q⟩ := h
    obtain ⟨fo, O⟩ := T.ow_NoWood
    refine ⟨_, (pss_cons (ps_expr (pe_binit T.bw rfl (pa_d (pv 0) (pa_d (pe_fstr (by decide) (pv 1)) pa_nil rfl) rfl)))
      (pss_one (ps_place (pv 0) (pv 1)))), ?_⟩
    k_is
    refine ⟨hi, fun z => ?_⟩
    k_is
    refine ⟨e, C_NoWood, fo, none, z, rfl, he, O, ?_⟩
    k_is
    refine ⟨e, _, C_NoWood, fo, rfl, he, O, T.k_NoWood, fun dx hd => ?_⟩
    k_is
    exact q dx hd

def spCheckS (K : PySem.W.Frag) (C : Addr) : Sp := fun vs H Q E => ∃ (v : V) (b : Nat), vs = [v, .int b] ∧ b ≤ 1 ∧ AnyS K H v ∧ (∀ z, v = .str z → z.length ≤ 9000) ∧ (sgV b v = none → ∀ H', Same H H' → Q .non H') ∧
  ∀ d : Nat, sgV b v = some d → ∀ dx H', Same H H' → H dx = none → H' dx = some (.xd [("place", .int d)]) → E (.ref C) (some dx) H'
theorem small12 {i : Nat} (h : i ≤ 10000) : ((i : Int)).natAbs < 10 ^ 12 := by
  have : (10000 : Nat) < 10 ^ 12 := by decide
  omega
theorem ok_check_signs {f : Addr} {fd : FuncData} (F : Fun K "check_signs" "check_signs" s_check_signs f fd) (T : Txt K mg C_WoodError C_NoBits C_NoPlace C_NoRow C_NoWood) (x_NoWood : ExcI P w K mg base "NoWood" C_WoodError C_NoWood 1 ["self", "place"]) : FnOk P w K mg base (CXE P w) 3 f fd ["row", "begin"] (spCheckS K C_NoWood) := by
  refine F.okE sc_check_signs (fun vs H Q E h => ?_) (fun cdv A outer s H vs Q E hr h => ?_)
  · obtain ⟨v, b, rfl, _⟩ := h
    rfl
  · obtain ⟨v, b, rfl, hb1, hS, hz, q, qe⟩ := h
    refine ⟨_, (pss_cons (ps_if (pt_not (pt_val (pe_callB call_isinst (by rfl) T.n_isinstance b_isinstance (pa_d (pv 0) (pa_d (pe_bltn (v := .ty "str") rfl T.n_str b_str rfl) pa_nil rfl) rfl)))) (pss_one (ps_raiseI x_NoWood (hr.mono (by decide : 2 ≤ _)) rfl (pa_d pe_int pa_nil rfl)))
      pss_nil)
      (pss_cons (ps_set (i := 2) sc_check_signs.nd rfl (Or.inl rfl) (pv 1))
      (pss_cons (ps_set (i := 3) sc_check_signs.nd rfl (Or.inl rfl) pe_int)
      (pss_cons (ps_for PassesOwn.leaving rfl (pi_enumS rfl T.n_enumerate (pa_d (pv 0) pa_nil rfl)) (pg_tup rfl (pgs_cons (pg_name (i := 4) sc_check_signs.nd rfl (Or.inl rfl)) (pgs_cons (pg_name (i := 5) sc_check_signs.nd rfl (Or.inl rfl)) pgs_nil)))
      (pss_cons (ps_set (i := 6) sc_check_signs.nd rfl (Or.inl rfl) (pe_and (pe_cmpR op_eq (pv 5) pe_str (nomark _)) (pe_and (pe_cmpR op_ge (pv 2) (pv 1) (nomark _)) (pe_one (pe_cmpR op_lt (pv 3) (pe_globI rfl T.g_MOST_KNOTS) (nomark _))))))
      (pss_cons (ps_set (i := 7) sc_check_signs.nd rfl (Or.inl rfl) (pe_and (pe_cmpR op_eq (pv 5) pe_str (nomark _)) (pe_one (pe_cmpR op_gt (pv 2) pe_int (nomark _)))))
      (pss_cons (ps_if (PW.pt (pw_and (pt_not (pt_val (pv 6))) (pw_and1 (pt_not (pt_val (pv 7)))))) (pss_one (ps_raiseI x_NoWood (hr.mono (by decide : 2 ≤ _)) rfl (pa_d (pv 4) pa_nil rfl)))
      pss_nil)
      (pss_cons (ps_aug (i := 2) sc_check_signs.nd rfl (Or.inl rfl) (pe_ifExp (pt_val (pv 6)) pe_int (pe_un un_neg pe_int)) ip_add)
      (pss_one (ps_aug (i := 3) sc_check_signs.nd rfl (Or.inl rfl) (pe_ifExp (pt_val (pv 6)) pe_int pe_int) ip_add)))))))
      (pss_one (ps_if (pt_cmpR op_gt (pv 2) pe_int (nomark _)) (pss_one (ps_raiseI x_NoWood (hr.mono (by decide : 2 ≤ _)) rfl (pa_d (pe_callB call_len_str (by rfl) T.n_len b_len (pa_d (pv 0) pa_nil rfl)) pa_nil rfl)))
      pss_nil)))))), ?_⟩
    k_is
    obtain ⟨t, h1, h2⟩ := hS
    refine ⟨_, _, _, _, rfl, h1, h2, ?_⟩
    cases v with
    | str z =>
      have hz := hz z rfl
      rw [show isS (V.str z) = true from rfl]
      k_is
      refine ⟨_, rfl, ?_⟩
      have hzs : z.cps.size = z.length := rfl
      refine for_enumS (fun i σ H1 => (∃ (h k : Nat) (v4 v5 v6 v7 : Option V), σ = [some (.str z), some (.int b), some (.int h), some (.int k), v4, v5, v6, v7] ∧ h ≤ i + 1 ∧ k ≤ i ∧ sgF b (z.cps.toList.drop i) i h k = sgV b (.str z)) ∧ Same H H1) ?_ ?_ ?_
      · exact ⟨⟨b, 0, _, _, _, _, rfl, by omega, Nat.le_refl _, rfl⟩, Same.refl _⟩
      · rintro i c σ H1 t hc ⟨⟨h, k, v4, v5, v6, v7, rfl, hhi, hki, hd⟩, s1⟩ ht
        have hi : i < z.length := (Array.getElem?_eq_some_iff.mp hc).1
        rw [cps_drop hc] at hd
        unfold sgF at hd
        have s2 := s1.trans (same_upd (o := .tup [.int i, .str (sgn c)]) ht)
        generalize upd H1 t (.tup [.int i, .str (sgn c)]) = H2 at *
        have out : sgV b (.str z) = some i → ∀ dx, H2 dx = none → E (.ref C_NoWood) (some dx) (upd H2 dx (.xd [("place", .int (i : Nat))])) := fun e dx hx => qe i e dx _ (s2.trans (same_upd hx)) (s2.free hx) upd_same
        have sm : ((i : Nat) : Int).natAbs < 10 ^ 12 := small12 (by omega)
        k_is
        have n01 : ¬ V.str (sgn 49) = V.str ("0" : Str) := fun e => by
          have e := congrArg (fun z : Str => z.cps.toList) (V.str.inj e)
          cases (List.cons.inj (show [49] = [48] from e)).1
        refine iteP (fun h1 => ?_) (fun h1 => ?_)
        · obtain rfl := sgn_one h1
          rw [if_neg (c := 49 = 48 ∧ 0 < h) (by omega)] at hd
          k_is
          refine iteP (fun h2 => ?_) (fun h2 => ?_)
          · k_is
            by_cases hk : k < 4000
            · rw [if_pos ⟨rfl, by omega, hk⟩] at hd
              rw [show decide ((k : Int) < 4000) = true from decide_eq_true (by omega)]
              refine iteP (fun e => absurd e n01) (fun _ => ?_)
              k_is
              exact ⟨⟨h + 1, k + 1, _, _, _, _, rfl, by omega, by omega, hd⟩, s2⟩
            · rw [if_neg (by omega)] at hd
              rw [show decide ((k : Int) < 4000) = false from decide_eq_false (by omega)]
              refine iteP (fun e => absurd e n01) (fun _ => ?_)
              k_is
              exact ⟨_, rfl, sm, out hd.symm⟩
          · rw [if_neg (by omega)] at hd
            k_is
            refine iteP (fun e => absurd e n01) (fun _ => ?_)
            k_is
            exact ⟨_, rfl, sm, out hd.symm⟩
        · have hc1 := sgn_one' h1
          rw [if_neg (fun e => hc1 e.1)] at hd
          k_is
          refine iteP (fun h2 => ?_) (fun h2 => ?_)
          · have hc0 : c = 48 := by
              have e := congrArg (fun z : Str => z.cps.toList) (V.str.inj h2)
              exact (List.cons.inj (show [c] = [48] from e)).1
            by_cases h0 : 0 < h
            · rw [if_pos ⟨hc0, h0⟩] at hd
              k_is
              rw [show decide (0 < (h : Int)) = true from decide_eq_true (by omega)]
              k_is
              refine ⟨⟨h - 1, k, some (.int i), some (.str (sgn c)), some (.bl false), some (.bl true), ?_, by omega, by omega, hd⟩, s2⟩
              rw [show ((h - 1 : Nat) : Int) = (h : Int) + -1 by omega]
              rfl
            · rw [if_neg (fun e => h0 e.2)] at hd
              k_is
              rw [show decide (0 < (h : Int)) = false from decide_eq_false (by omega)]
              k_is
              exact ⟨_, rfl, sm, out hd.symm⟩
          · rw [if_neg (fun e => h2 (by rw [e.1]; rfl))] at hd
            k_is
            exact ⟨_, rfl, sm, out hd.symm⟩
      · rintro σ H1 ⟨⟨h, k, v4, v5, v6, v7, rfl, hhi, hki, hd⟩, s1⟩
        rw [List.drop_of_length_le (by rw [cps_len, hzs]; exact Nat.le_refl _)] at hd
        have hd : (if 0 < h then some z.cps.size else none) = sgV b (.str z) := hd
        rw [hzs] at hd
        k_is
        refine iteP (fun h1 => ?_) (fun h1 => ?_)
        · rw [if_pos (by omega)] at hd
          k_is
          refine ⟨_, rfl, Nat.le_of_lt (small20000 (by omega)), ?_⟩
          k_is
          exact ⟨_, rfl, small12 (i := z.length) (by omega), fun dx hx => qe _ hd.symm dx _ (s1.trans (same_upd hx)) (s1.free hx) upd_same⟩
        · rw [if_neg (by omega)] at hd
          k_is
          exact q hd.symm H1 s1
    | _ =>
      rw [show isS _ = false from rfl]
      k_is
      exact ⟨_, rfl, by decide, fun dx hx => qe 0 rfl dx _ (same_upd hx) hx upd_same⟩

theorem ok_counted_row {f : Addr} {fd : FuncData} (F : Fun K "counted_row" "counted_row" s_counted_row f fd) (T : Txt K mg C_WoodError C_NoBits C_NoPlace C_NoRow C_NoWood) : FnOk P w K mg base CX0 1 f fd ["many"] spGroups := by
  refine F.ok sc_counted_row (fun vs H Q E h => ?_) (fun cdv A outer s H vs Q E hr h => ?_)
  · obtain ⟨l, ns, rfl, _⟩ := h
    rfl
  · obtain ⟨l, ns, rfl, hl, hn, q⟩ := h
    refine ⟨_, (pss_one (ps_ret (pe_bm PySem.F.plainAttrs_str PySem.F.slot_str_join PySem.F.type_str_join mt_join pe_str (pa_d (pe_lc rfl lc_counted_row_0 (pi_list (pv 0)) (fun _ _ _ _ => pif_nil) (fun _ _ _ _ => (pe_op op_add_str (pe_op op_mulS pe_str (pv 0)) pe_str))) pa_nil rfl)))), ?_⟩
    k_is
    refine ⟨rfl, ?_⟩
    k_is
    refine ⟨_, rfl, ⟨_, SqL.of hl⟩, ?_⟩
    refine lc_list (xs := nV ns) (SqL.of hl) (fun i => (ns.take i).map fun n => V.str (signs (List.replicate n true ++ [false]))) rfl (fun i hi => ?_) (fun i x H1 R A hx s1 _ hA => ?_) (fun D H1 hD s1 h1 => ?_)
    · rw [List.length_map, List.length_take]
      exact small20000 (by omega)
    · obtain ⟨n, hn1, rfl⟩ := nV_get hx
      have hns := mem_le_sum hn1
      k_is
      refine ⟨"1", (n : Int), rfl, rfl, by omega, by omega, ?_, few (by decide), ?_⟩
      · exact Nat.le_of_lt (small20000 (by rw [show ("1" : Str).length = 1 by rfl]; omega))
      have e0 : repS ("1" : Str) ((n : Int)).toNat = signs (List.replicate n true) := by
        rw [Int.toNat_natCast]
        exact rep_signs true _
      rw [e0]
      k_is
      have e1 : signs (List.replicate n true) ++ ("0" : Str) = signs (List.replicate n true ++ [false]) := signs_append (List.replicate n true) [false]
      refine ⟨_, "0", rfl, rfl, ?_, ?_⟩
      · rw [signs_len, List.length_replicate]
        exact Nat.le_of_lt (small20000 (by rw [show ("0" : Str).length = 1 by rfl]; omega))
      rw [e1]
      refine hA _ _ ?_ (Same.refl _)
      rw [List.take_add_one, hn1, List.map_append]
      rfl
    · k_is
      refine rd_joinS (ls := ns.map fun n => List.replicate n true ++ [false]) ?_ ?_ (q _ s1)
      · rw [h1, nV_len, List.take_of_length_le (Nat.le_refl _), List.map_map]
        rfl
      · show (grB ns).length ≤ _
        rw [grB_len]
        omega

theorem ok_law_groups {f : Addr} {fd : FuncData} (F : Fun K "_law_groups" "_law_groups" s_law_groups f fd) (T : Txt K mg C_WoodError C_NoBits C_NoPlace C_NoRow C_NoWood) : FnOk P w K mg base CX0 1 f fd ["_law_groups_here"] spGroups := by
  refine F.ok sc_law_groups (fun vs H Q E h => ?_) (fun cdv A outer s H vs Q E hr h => ?_)
  · obtain ⟨l, ns, rfl, _⟩ := h
    rfl
  · obtain ⟨l, ns, rfl, hl, hn, q⟩ := h
    refine ⟨_, (pss_one (ps_ret (pe_bm PySem.F.plainAttrs_str PySem.F.slot_str_join PySem.F.type_str_join mt_join pe_str (pa_d (pe_lc rfl lc_law_groups_0 (pi_list (pv 0)) (fun _ _ _ _ => pif_nil) (fun _ _ _ _ => (pe_op op_add_str (pe_op op_mulS pe_str (pv 0)) pe_str))) pa_nil rfl)))), ?_⟩
    k_is
    refine ⟨rfl, ?_⟩
    k_is
    refine ⟨_, rfl, ⟨_, SqL.of hl⟩, ?_⟩
    refine lc_list (xs := nV ns) (SqL.of hl) (fun i => (ns.take i).map fun n => V.str (signs (List.replicate n true ++ [false]))) rfl (fun i hi => ?_) (fun i x H1 R A hx s1 _ hA => ?_) (fun D H1 hD s1 h1 => ?_)
    · rw [List.length_map, List.length_take]
      exact small20000 (by omega)
    · obtain ⟨n, hn1, rfl⟩ := nV_get hx
      have hns := mem_le_sum hn1
      k_is
      refine ⟨"1", (n : Int), rfl, rfl, by omega, by omega, ?_, few (by decide), ?_⟩
      · exact Nat.le_of_lt (small20000 (by rw [show ("1" : Str).length = 1 by rfl]; omega))
      have e0 : repS ("1" : Str) ((n : Int)).toNat = signs (List.replicate n true) := by
        rw [Int.toNat_natCast]
        exact rep_signs true _
      rw [e0]
      k_is
      have e1 : signs (List.replicate n true) ++ ("0" : Str) = signs (List.replicate n true ++ [false]) := signs_append (List.replicate n true) [false]
      refine ⟨_, "0", rfl, rfl, ?_, ?_⟩
      · rw [signs_len, List.length_replicate]
        exact Nat.le_of_lt (small20000 (by rw [show ("0" : Str).length = 1 by rfl]; omega))
      rw [e1]
      refine hA _ _ ?_ (Same.refl _)
      rw [List.take_add_one, hn1, List.map_append]
      rfl
    · k_is
      refine rd_joinS (ls := ns.map fun n => List.replicate n true ++ [false]) ?_ ?_ (q _ s1)
      · rw [h1, nV_len, List.take_of_length_le (Nat.le_refl _), List.map_map]
        rfl
      · show (grB ns).length ≤ _
        rw [grB_len]
        omega

theorem cut_init (xs : List V) : cutV xs none (some (-1)) = xs.take (xs.length - 1) := by
  have e : (if (-1 : Int) < 0 then ((-1 : Int) + (xs.length : Int)).toNat else min (-1 : Int).toNat xs.length) = xs.length - 1 := by rw [if_pos (by decide)]; omega
  show List.take ((if (-1 : Int) < 0 then ((-1 : Int) + (xs.length : Int)).toNat else min (-1 : Int).toNat xs.length) - 0) (List.drop 0 xs) = _
  rw [e, Nat.sub_zero, List.drop_zero]
def spGroupsOf : Sp := fun vs H Q _ => ∃ ns : List Nat, vs = [.str (signs (grB ns))] ∧ ns.sum + ns.length ≤ 20000 ∧ ∀ p H', Same H H' → H p = none → H' p = some (.lst (nV ns)) → Q (.ref p) H'
theorem grB_grC (ns : List Nat) : signs (grB ns) = ⟨(grC ns).toArray⟩ := by
  unfold signs
  congr 2
  induction ns with
  | nil => rfl
  | cons n r ih =>
    show (List.replicate n true ++ [false] ++ grB r).map _ = List.replicate n 49 ++ [48] ++ grC r
    rw [List.map_append, ih]
    simp
theorem ok_groups_of {f : Addr} {fd : FuncData} (F : Fun K "groups_of" "groups_of" s_groups_of f fd) (T : Txt K mg C_WoodError C_NoBits C_NoPlace C_NoRow C_NoWood) : FnOk P w K mg base CX0 1 f fd ["row"] spGroupsOf := by
  refine F.ok sc_groups_of (fun vs H Q E h => ?_) (fun cdv A outer s H vs Q E hr h => ?_)
  · obtain ⟨ns, rfl, _⟩ := h
    rfl
  · obtain ⟨ns, rfl, hn, q⟩ := h
    refine ⟨_, (pss_one (ps_ret (pe_lc rfl lc_groups_of_0 (pi_list (pe_slice sl_list (pe_bm PySem.F.plainAttrs_str PySem.F.slot_str_split PySem.F.type_str_split mt_splitX (pv 0) (pa_d pe_str pa_nil rfl)) po_none (po_some (pe_un un_neg pe_int)))) (fun _ _ _ _ => pif_nil) (fun _ _ _ _ => (pe_callB call_len_str (by rfl) T.n_len b_len (pa_d (pv 0) pa_nil rfl)))))), ?_⟩
    k_is
    refine ⟨rfl, ?_⟩
    k_is
    have es : Txt.split (signs (grB ns)) ("0" : Str) = (ns.map fun n => (⟨(List.replicate n 49).toArray⟩ : Str)) ++ [⟨#[]⟩] := by
      rw [grB_grC]
      exact split_groups ns
    refine ⟨_, _, rfl, rfl, rfl, ?_, fun D hD => ?_⟩
    · rw [signs_len, grB_len]
      omega
    rw [es]
    have s1 := same_upd (o := .lst (((ns.map fun n => (⟨(List.replicate n 49).toArray⟩ : Str)) ++ [(⟨#[]⟩ : Str)]).map V.str)) hD
    have hD1 : upd H D (.lst (((ns.map fun n => (⟨(List.replicate n 49).toArray⟩ : Str)) ++ [(⟨#[]⟩ : Str)]).map V.str)) D = some (.lst (((ns.map fun n => (⟨(List.replicate n 49).toArray⟩ : Str)) ++ [(⟨#[]⟩ : Str)]).map V.str)) := upd_same
    generalize upd H D (.lst (((ns.map fun n => (⟨(List.replicate n 49).toArray⟩ : Str)) ++ [(⟨#[]⟩ : Str)]).map V.str)) = H1 at *
    k_is
    refine ⟨D, _, rfl, SqL.of hD1, fun D2 hD2 => ?_⟩
    rw [cut_init, List.length_map, List.length_append, List.length_singleton, Nat.add_sub_cancel, List.map_append, List.take_left' (by simp)]
    have s2 := s1.trans (same_upd (o := .lst ((ns.map fun n => (⟨(List.replicate n 49).toArray⟩ : Str)).map V.str)) hD2)
    have hD3 : upd H1 D2 (.lst ((ns.map fun n => (⟨(List.replicate n 49).toArray⟩ : Str)).map V.str)) D2 = some (.lst ((ns.map fun n => (⟨(List.replicate n 49).toArray⟩ : Str)).map V.str)) := upd_same
    generalize upd H1 D2 (.lst ((ns.map fun n => (⟨(List.replicate n 49).toArray⟩ : Str)).map V.str)) = H2 at *
    k_is
    refine ⟨_, rfl, ⟨_, SqL.of hD3⟩, ?_⟩
    refine lc_list (SqL.of hD3) (fun i => nV (ns.take i)) rfl (fun i hi => ?_) (fun i x H3 R A hx s3 _ hA => ?_) (fun D4 H4 hD4 s4 h4 => ?_)
    · rw [nV_len, List.length_take]
      exact small20000 (by omega)
    · rw [List.getElem?_map, List.getElem?_map] at hx
      cases e : ns[i]? with
      | none => rw [e] at hx; cases hx
      | some n =>
        rw [e] at hx
        cases hx
        have hns := mem_le_sum e
        k_is
        have hl : (⟨(List.replicate n 49).toArray⟩ : Str).length = n := by simp [Str.length]
        refine ⟨_, rfl, by rw [hl]; exact Nat.le_of_lt (small20000 (by omega)), ?_⟩
        rw [hl]
        refine hA _ _ ?_ (Same.refl _)
        rw [List.take_add_one, e]
        unfold nV
        rw [List.map_append]
        rfl
    · refine q _ _ (s2.trans s4) (s2.free hD4) ?_
      rw [h4, List.length_map, List.length_map, List.take_of_length_le (Nat.le_refl _)]

def spRun : Sp := fun vs H Q _ => ∃ (a : Addr) (xs : List Nat), vs = [.ref a] ∧ H a = some (.lst (nV xs)) ∧ xs.length ≤ 10000 ∧ ∀ p H', Same H H' → H p = none → H' p = some (.lst (nV ((List.range (xs.length + 1)).map fun i => (xs.take i).sum))) → Q (.ref p) H'
theorem ok_running_sums {f : Addr} {fd : FuncData} (F : Fun K "running_sums" "running_sums" s_running_sums f fd) (T : Txt K mg C_WoodError C_NoBits C_NoPlace C_NoRow C_NoWood) : FnOk P w K mg base CX0 1 f fd ["numbers"] spRun := by
  refine F.ok sc_running_sums (fun vs H Q E h => ?_) (fun cdv A outer s H vs Q E hr h => ?_)
  · obtain ⟨a, xs, rfl, _⟩ := h
    rfl
  · obtain ⟨a, xs, rfl, ha, hn, q⟩ := h
    refine ⟨_, (pss_cons (ps_set (i := 1) sc_running_sums.nd rfl (Or.inl rfl) (pe_lst (pa_d pe_int pa_nil rfl)))
      (pss_cons (ps_for PassesOwn.never rfl (pi_list (pv 0)) (pg_name (i := 2) sc_running_sums.nd rfl (Or.inl rfl))
      (pss_one (ps_expr (pe_bm PySem.F.plainAttrs_list PySem.F.slot_list_append PySem.F.type_list_append mt_append (pv 1) (pa_d (pe_op op_add (pe_ix ix_list (pv 1) (pe_un un_neg pe_int) (fun _ _ => rfl)) (pv 2)) pa_nil rfl)))))
      (pss_one (ps_ret (pv 1))))), ?_⟩
    k_is
    refine ⟨few (by simp), fun p hp => ?_⟩
    have t0 := same_upd (o := .lst [V.int 0]) hp
    k_is
    refine ⟨a, rfl, ⟨_, SqL.of (t0 _ _ ha)⟩, ?_⟩
    refine for_list (xs := nV xs) (fun i σ H1 => (∃ v : Option V, σ = [some (.ref a), some (.ref p), v]) ∧ H1 p = some (.lst (nV ((List.range (i + 1)).map fun i => (xs.take i).sum))) ∧ Same H H1) ⟨⟨_, rfl⟩, upd_same, t0⟩ (fun i σ H1 _ h => SqL.of (h.2.2 _ _ ha)) ?_ ?_
    · rintro i x σ H1 hx ⟨⟨v, rfl⟩, hp1, s1⟩
      have hi := at_lt hx
      rw [show (nV xs).length = xs.length by unfold nV; rw [List.length_map]] at hi
      obtain rfl : x = .int (xs[i] : Nat) := by
        unfold nV at hx
        rw [List.getElem?_map, List.getElem?_eq_getElem hi] at hx
        exact (Option.some.inj hx).symm
      k_is
      refine ⟨.inl ⟨rfl, _, SqL.of hp1⟩, ?_⟩
      k_is
      refine r_ixL (SqL.of hp1) (v := .int ((xs.take i).sum : Nat)) ?_ ?_
      · rw [nV_range]
        exact atI_last _ _
      k_is
      refine r_append hp1 ?_ ?_
      · unfold nV
        rw [List.length_map, List.length_map, List.length_range]
        exact small20000 (by omega)
      k_is
      refine ⟨⟨_, rfl⟩, ?_, fun b u e => ?_⟩
      · rw [upd_same, nV_range _ (i + 1), List.take_add_one, List.getElem?_eq_getElem hi, List.sum_append]
        show some (HO.lst (_ ++ [V.int (((xs.take i).sum : Nat) + (xs[i] : Nat) : Int)])) = some (HO.lst (_ ++ [V.int (((xs.take i).sum + [xs[i]].sum : Nat) : Int)]))
        rw [List.sum_singleton, Int.natCast_add]
      · rw [upd_ne (ne_of_none e hp)]
        exact s1 _ _ e
    · rintro σ H1 ⟨⟨v, rfl⟩, hp1, s1⟩
      rw [show (nV xs).length = xs.length by unfold nV; rw [List.length_map]] at hp1
      k_is
      exact q p H1 s1 hp hp1

theorem ocR_cons (c : Nat) (r g p : List Nat) : ocR (c :: r) g p = if c = 49 then ocR r (g.set (p.headD 0) (g.getD (p.headD 0) 0 + 1) ++ [0]) (g.length :: p) else ocR r g p.tail := rfl
def spLed (K : PySem.W.Frag) (C : Addr) (b : Nat) (G : Str → Str → Prop) : Sp := fun vs H Q E => ∃ v : V, vs = [v] ∧ AnyS K H v ∧ (∀ z, v = .str z → z.length ≤ 9000) ∧ (∀ z, v = .str z → sgF b z.cps.toList 0 b 0 = none → ∀ z' : Str, G z z' → ∀ H', Same H H' → Q (.str z') H') ∧
  ∀ d : Nat, sgV b v = some d → ∀ dx H', Same H H' → H dx = none → H' dx = some (.xd [("place", .int d)]) → E (.ref C) (some dx) H'
theorem sgV_str {b : Nat} {v : V} (h : sgV b v = none) : ∃ z, v = .str z := by
  cases v with
  | str z => exact ⟨z, rfl⟩
  | _ => cases h
def gOC (z z' : Str) : Prop := z' = signs (grB (ocR z.cps.toList [0] [0]))
theorem rev_last (p : List Nat) (t : Nat) : atI (nV (t :: p).reverse) (-1) = some (.int (t : Nat)) := by
  unfold nV
  rw [List.reverse_cons, List.map_append]
  exact atI_last _ _
theorem nV_set (g : List Nat) (t x : Nat) : (nV g).set t (.int ((x : Int) + 1)) = nV (g.set t (x + 1)) := by
  unfold nV
  rw [List.map_set]
  rfl
theorem rev_pop (p : List Nat) (t : Nat) : (nV (t :: p).reverse)[(nV (t :: p).reverse).length - 1]? = some (.int (t : Nat)) ∧ (nV (t :: p).reverse).dropLast = nV p.reverse := by
  have e : nV (t :: p).reverse = nV p.reverse ++ [V.int (t : Nat)] := by unfold nV; rw [List.reverse_cons, List.map_append]; rfl
  rw [e]
  constructor
  · rw [List.length_append, List.getElem?_append_right (by simp)]
    simp
  · rw [List.dropLast_concat]
theorem ok_open_to_counts {f : Addr} {fd : FuncData} (F : Fun K "open_to_counts" "open_to_counts" s_open_to_counts f fd) (T : Txt K mg C_WoodError C_NoBits C_NoPlace C_NoRow C_NoWood) (c_check_signs : CalE P w K mg base "check_signs" 3 ["row", "begin"] (spCheckS K C_NoWood)) (c_counted_row : Cal P w K mg base "counted_row" 1 ["many"] spGroups) : FnOk P w K mg base (CXE P w) 4 f fd ["row"] (spLed K C_NoWood 0 gOC) := by
  refine F.okE sc_open_to_counts (fun vs H Q E h => ?_) (fun cdv A outer s H vs Q E hr h => ?_)
  · obtain ⟨v, rfl, _⟩ := h
    rfl
  · obtain ⟨v, rfl, hS, hz, q, qe⟩ := h
    refine ⟨_, (pss_cons (ps_expr (pe_fnE c_check_signs (hr.mono (by decide : 3 ≤ _)) (pass_on rfl) (pa_d (pv 0) (pa_d pe_int pa_nil rfl) rfl)))
      (pss_cons (ps_set (i := 1) sc_open_to_counts.nd rfl (Or.inl rfl) (pe_lst (pa_d pe_int pa_nil rfl)))
      (pss_cons (ps_set (i := 2) sc_open_to_counts.nd rfl (Or.inl rfl) (pe_lst (pa_d pe_int pa_nil rfl)))
      (pss_cons (ps_for PassesOwn.leaving rfl (pi_str (pv 0)) (pg_name (i := 3) sc_open_to_counts.nd rfl (Or.inl rfl))
      (pss_one (ps_if (pt_cmpR op_eq (pv 3) pe_str (nomark _)) (pss_cons (ps_augS (pv 1) (pe_ix ix_list (pv 2) (pe_un un_neg pe_int) (fun _ _ => rfl)) get_listA pe_int ip_add set_list)
      (pss_cons (ps_expr (pe_bm PySem.F.plainAttrs_list PySem.F.slot_list_append PySem.F.type_list_append mt_append (pv 2) (pa_d (pe_callB call_len_seq (by rfl) T.n_len b_len (pa_d (pv 1) pa_nil rfl)) pa_nil rfl)))
      (pss_one (ps_expr (pe_bm PySem.F.plainAttrs_list PySem.F.slot_list_append PySem.F.type_list_append mt_append (pv 1) (pa_d pe_int pa_nil rfl))))))
      (pss_one (ps_expr (pe_bm0 PySem.F.plainAttrs_list PySem.F.slot_list_pop PySem.F.type_list_pop mt_pop (pv 2)))))))
      (pss_one (ps_ret (pe_fn c_counted_row (hr.mono (by decide : 1 ≤ _)) (pa_d (pv 1) pa_nil rfl)))))))), ?_⟩
    k_is
    refine ⟨v, 0, rfl, by decide, hS, hz, fun hn H1 s1 => ?_, qe⟩
    obtain ⟨z, rfl⟩ := sgV_str hn
    have hz := hz z rfl
    have q := q z rfl hn _ rfl
    k_is
    refine ⟨few (by simp), fun a ha => ?_⟩
    have ta := same_upd (o := .lst [V.int 0]) ha
    k_is
    refine ⟨few (by simp), fun b hb => ?_⟩
    have tb := same_upd (o := .lst [V.int 0]) hb
    have hab : a ≠ b := ne_of_none upd_same hb
    have an : H a = none := s1.free ha
    have bn : H b = none := s1.free (ta.free hb)
    k_is
    refine ⟨z, rfl, ?_⟩
    refine for_str (fun i σ H2 => (∃ (g p : List Nat) (h k : Nat) (v : Option V), σ = [some (.str z), some (.ref a), some (.ref b), v] ∧ H2 a = some (.lst (nV g)) ∧ H2 b = some (.lst (nV p.reverse)) ∧ sgF 0 (z.cps.toList.drop i) i h k = none ∧ p.length = h + 1 ∧ h ≤ i ∧ g.length = k + 1 ∧ k ≤ i ∧ g.sum = k ∧ (∀ x ∈ p, x < g.length) ∧ ocR (z.cps.toList.drop i) g p = ocR z.cps.toList [0] [0]) ∧ Same H H2) ?_ ?_ ?_
    · exact ⟨⟨[0], [0], 0, 0, _, rfl, tb _ _ upd_same, upd_same, hn, rfl, Nat.le_refl _, rfl, Nat.le_refl _, rfl, by simp, rfl⟩, (s1.trans ta).trans tb⟩
    · rintro i c σ H2 hc ⟨⟨g, p, h, k, v, rfl, ha2, hb2, hs, hpl, hhi, hgl, hki, hgs, hpg, hR⟩, s2⟩
      have hi : i < z.length := (Array.getElem?_eq_some_iff.mp hc).1
      rw [cps_drop hc] at hs hR
      unfold sgF at hs
      rw [ocR_cons] at hR
      cases p with
      | nil => simp at hpl
      | cons t p =>
        have htg : t < g.length := hpg t (by simp)
        have egt : g[t]? = some (g.getD t 0) := by unfold List.getD; rw [List.getElem?_eq_getElem htg]; rfl
        k_is
        refine iteP (fun h1 => ?_) (fun h1 => ?_)
        · obtain rfl := sgn_one h1
          have hA : 49 = 49 ∧ 0 ≤ h ∧ k < 4000 := by
            by_cases hA : 49 = 49 ∧ 0 ≤ h ∧ k < 4000
            · exact hA
            · rw [if_neg hA, if_neg (by omega)] at hs
              cases hs
          rw [if_pos hA] at hs
          rw [if_pos rfl] at hR
          have hss := sum_set htg
          k_is
          refine r_ixL (SqL.of hb2) (rev_last p t) ?_
          k_is
          refine r_ixL (SqL.of ha2) (atI_nat (nV_at egt)) ?_
          k_is
          refine r_setL ha2 rfl (by rw [nV_len]; exact htg) ?_
          rw [nV_set]
          have hR : ocR (z.cps.toList.drop (i + 1)) (g.set t (g.getD t 0 + 1) ++ [0]) (g.length :: t :: p) = ocR z.cps.toList [0] [0] := hR
          have hgl2 : (g.set t (g.getD t 0 + 1)).length = g.length := List.length_set
          generalize g.set t (g.getD t 0 + 1) = g2 at *
          have s3 := push_same (o := .lst (nV g2)) s2 an
          have ha3 : upd H2 a (.lst (nV g2)) a = some (.lst (nV g2)) := upd_same
          have hb3 : upd H2 a (.lst (nV g2)) b = some (.lst (nV (t :: p).reverse)) := by rw [upd_ne hab.symm]; exact hb2
          generalize upd H2 a (.lst (nV g2)) = H3 at *
          k_is
          refine ⟨.inl ⟨rfl, _, SqL.of hb3⟩, ?_⟩
          k_is
          refine ⟨a, _, rfl, .inl (SqL.of ha3), ?_⟩
          rw [nV_len, hgl2]
          k_is
          refine r_append hb3 ?_ ?_
          · rw [nV_len, List.length_reverse, hpl]
            exact small20000 (by omega)
          have eb : nV (t :: p).reverse ++ [V.int (g.length : Nat)] = nV (g.length :: t :: p).reverse := by
            rw [List.reverse_cons (a := g.length)]
            exact nV_app _ [g.length]
          rw [eb]
          have s4 := push_same (o := .lst (nV (g.length :: t :: p).reverse)) s3 bn
          have ha4 : upd H3 b (.lst (nV (g.length :: t :: p).reverse)) a = some (.lst (nV g2)) := by rw [upd_ne hab]; exact ha3
          have hb4 : upd H3 b (.lst (nV (g.length :: t :: p).reverse)) b = some (.lst (nV (g.length :: t :: p).reverse)) := upd_same
          generalize upd H3 b (.lst (nV (g.length :: t :: p).reverse)) = H4 at *
          k_is
          refine ⟨.inl ⟨rfl, _, SqL.of ha4⟩, ?_⟩
          k_is
          refine r_append ha4 ?_ ?_
          · rw [nV_len, hgl2]
            exact small20000 (by omega)
          rw [show nV g2 ++ [V.int 0] = nV (g2 ++ [0]) from nV_app _ [0]]
          k_is
          refine ⟨⟨g2 ++ [0], g.length :: t :: p, h + 1, k + 1, _, rfl, upd_same, by rw [upd_ne hab.symm]; exact hb4, hs, by simp only [List.length_cons] at hpl ⊢; omega, by omega, by rw [List.length_append, hgl2, hgl]; rfl, by omega, by rw [List.sum_append, hss, hgs]; rfl, ?_, hR⟩, push_same s4 an⟩
          intro x hx
          rw [List.length_append, hgl2]
          rcases List.mem_cons.mp hx with e | e
          · rw [e]; simp
          · have := hpg x e; simp; omega
        · have hc1 := sgn_one' h1
          have hB : c = 48 ∧ 0 < h := by
            by_cases hB : c = 48 ∧ 0 < h
            · exact hB
            · rw [if_neg (fun e => hc1 e.1), if_neg hB] at hs
              cases hs
          rw [if_neg (fun e => hc1 e.1), if_pos hB] at hs
          rw [if_neg hc1] at hR
          k_is
          refine ⟨.inl ⟨rfl, _, SqL.of hb2⟩, ?_⟩
          k_is
          refine ⟨b, _, _, rfl, rfl, hb2, (rev_pop p t).1, ?_⟩
          rw [(rev_pop p t).2]
          refine ⟨⟨g, p, h - 1, k, _, rfl, by rw [upd_ne hab]; exact ha2, upd_same, hs, by simp only [List.length_cons] at hpl; omega, by omega, hgl, by omega, hgs, fun x hx => hpg x (by simp [hx]), hR⟩, push_same s2 bn⟩
    · rintro σ H2 ⟨⟨g, p, h, k, v, rfl, ha2, hb2, hs, hpl, hhi, hgl, hki, hgs, hpg, hR⟩, s2⟩
      have hzs : z.cps.size = z.length := rfl
      rw [List.drop_of_length_le (by rw [cps_len, hzs]; exact Nat.le_refl _)] at hR
      rw [hzs] at hki
      k_is
      refine ⟨a, g, rfl, ha2, by omega, fun H3 s3 => ?_⟩
      rw [show g = ocR z.cps.toList [0] [0] from hR]
      exact q _ (s2.trans s3)

theorem str_of {z : Str} {cs : List Nat} (h : z.cps.toList = cs) : z = ⟨cs.toArray⟩ := by
  cases z with
  | mk a =>
    congr 1
    rw [← h]
theorem ahead_at (f : Nat → Nat) {n g : Nat} (h : g < n) : atI (nV ((List.range n).map f)) (g : Int) = some (.int (f g : Nat)) := by
  refine atI_nat (nV_at ?_)
  rw [List.getElem?_map, List.getElem?_range h]
  rfl
def gLC (z z' : Str) : Prop := ∃ ns m, z.cps.toList = grC ns ∧ (lvN ns m).2 = [] ∧ z' = signs (grB (lvN ns m).1)
theorem ok_levels_to_counts {f : Addr} {fd : FuncData} (F : Fun K "levels_to_counts" "levels_to_counts" s_levels_to_counts f fd) (T : Txt K mg C_WoodError C_NoBits C_NoPlace C_NoRow C_NoWood) (c_check_signs : CalE P w K mg base "check_signs" 3 ["row", "begin"] (spCheckS K C_NoWood)) (c_counted_row : Cal P w K mg base "counted_row" 1 ["many"] spGroups)
    (c_groups_of : Cal P w K mg base "groups_of" 1 ["row"] spGroupsOf) (c_running_sums : Cal P w K mg base "running_sums" 1 ["numbers"] spRun) : FnOk P w K mg base (CXE P w) 4 f fd ["row"] (spLed K C_NoWood 1 gLC) := by
  refine F.okE sc_levels_to_counts (fun vs H Q E h => ?_) (fun cdv A outer s H vs Q E hr h => ?_)
  · obtain ⟨v, rfl, _⟩ := h
    rfl
  · obtain ⟨v, rfl, hS, hz, q, qe⟩ := h
    refine ⟨_, (pss_cons (ps_expr (pe_fnE c_check_signs (hr.mono (by decide : 3 ≤ _)) (pass_on rfl) (pa_d (pv 0) (pa_d pe_int pa_nil rfl) rfl)))
      (pss_cons (ps_set (i := 1) sc_levels_to_counts.nd rfl (Or.inl rfl) (pe_fn c_groups_of (hr.mono (by decide : 1 ≤ _)) (pa_d (pv 0) pa_nil rfl)))
      (pss_cons (ps_set (i := 2) sc_levels_to_counts.nd rfl (Or.inl rfl) (pe_fn c_running_sums (hr.mono (by decide : 1 ≤ _)) (pa_d (pv 1) pa_nil rfl)))
      (pss_cons (ps_set (i := 3) sc_levels_to_counts.nd rfl (Or.inl rfl) (pe_lst pa_nil))
      (pss_cons (ps_set (i := 4) sc_levels_to_counts.nd rfl (Or.inl rfl) (pe_lst (pa_d pe_int pa_nil rfl)))
      (pss_cons (ps_while PassesOwn.leaving (pt_cmpR op_gt (pe_callB call_len_seq (by rfl) T.n_len b_len (pa_d (pv 4) pa_nil rfl)) pe_int (nomark _))
      (pss_cons (ps_set (i := 5) sc_levels_to_counts.nd rfl (Or.inl rfl) (pe_bm0 PySem.F.plainAttrs_list PySem.F.slot_list_pop PySem.F.type_list_pop mt_pop (pv 4)))
      (pss_cons (ps_expr (pe_bm PySem.F.plainAttrs_list PySem.F.slot_list_append PySem.F.type_list_append mt_append (pv 3) (pa_d (pe_ix ix_list (pv 1) (pv 5) (fun _ _ => rfl)) pa_nil rfl)))
      (pss_one (ps_expr (pe_bm PySem.F.plainAttrs_list PySem.F.slot_list_extend PySem.F.type_list_extend mt_extend (pv 4) (pa_d (pe_lrangeD rfl rfl T.n_list rfl T.n_range (pa_d (pe_ix ix_list (pv 2) (pe_op op_add (pv 5) pe_int) (fun _ _ => rfl)) (pa_d (pe_ix ix_list (pv 2) (pv 5) (fun _ _ => rfl)) (pa_d (pe_un un_neg pe_int) pa_nil rfl) rfl) rfl)) pa_nil rfl)))))))
      (pss_one (ps_ret (pe_fn c_counted_row (hr.mono (by decide : 1 ≤ _)) (pa_d (pv 3) pa_nil rfl)))))))))), ?_⟩
    k_is
    refine ⟨v, 1, rfl, by decide, hS, hz, fun hn H1 s1 => ?_, qe⟩
    obtain ⟨z, rfl⟩ := sgV_str hn
    have hz := hz z rfl
    have q := q z rfl hn
    have hn : sgF 1 z.cps.toList 0 1 0 = none := hn
    obtain ⟨ns, hc, _⟩ := sg_groups _ _ _ _ hn
    have hgg := (sg_iff ns 0 1 0 (by decide)).mp (hc ▸ hn)
    have hg := hgg.1
    have hsum := hgg.2
    have hlen := hg.len
    have ez : z = signs (grB ns) := by rw [grB_grC]; exact str_of hc
    k_is
    refine ⟨ns, by rw [← ez]; rfl, by omega, fun p H2 s2 f2 h2 => ?_⟩
    k_is
    refine ⟨p, ns, rfl, h2, by omega, fun pa H3 s3 f3 h3 => ?_⟩
    k_is
    refine ⟨Nat.zero_le _, fun bo hbo => ?_⟩
    have tb := same_upd (o := .lst []) hbo
    k_is
    refine ⟨few (by simp), fun wa hwa => ?_⟩
    have tw := same_upd (o := .lst [V.int 0]) hwa
    have hne : bo ≠ wa := ne_of_none upd_same hwa
    have s3' := (s1.trans s2).trans s3
    have bn : H bo = none := s3'.free hbo
    have wn : H wa = none := s3'.free (tb.free hwa)
    have h2' := s3 _ _ h2
    have e1 : p ≠ bo := ne_of_none h2' hbo
    have e2 : p ≠ wa := ne_of_none (tb _ _ h2') hwa
    have e3 : pa ≠ bo := ne_of_none h3 hbo
    have e4 : pa ≠ wa := ne_of_none (tb _ _ h3) hwa
    k_is
    refine while_rd (fun σ H6 => ∃ (m : Nat) (vis : List Nat) (v : Option V), σ = [some (.str z), some (.ref p), some (.ref pa), some (.ref bo), some (.ref wa), v] ∧ Lv ns vis (lvN ns m).1 (lvN ns m).2 ∧ H6 bo = some (.lst (nV (lvN ns m).1)) ∧ H6 wa = some (.lst (nV (lvN ns m).2.reverse)) ∧ H6 p = some (.lst (nV ns)) ∧ H6 pa = some (.lst (nV ((List.range (ns.length + 1)).map (pre ns)))) ∧ Same H H6) (fun _ H6 => ns.length + 1 - lenAt H6 bo) ?_ ?_
    · exact ⟨0, [], _, rfl, lv_zero (by omega), tw _ _ upd_same, upd_same, tw _ _ (tb _ _ h2'), tw _ _ (tb _ _ h3), (s3'.trans tb).trans tw⟩
    rintro mz σ H6 ⟨m, vis, v, rfl, L, hb6, hw6, hp6, ha6, s6⟩ hmz
    have hfew := L.few
    have hbl : (lvN ns m).1.length = vis.length := by rw [L.h1, List.length_map]
    k_is
    refine ⟨wa, _, rfl, .inl (SqL.of hw6), ?_⟩
    k_is
    rw [nV_len, List.length_reverse]
    cases hw : (lvN ns m).2 with
    | nil =>
      refine iteP (fun h => absurd h (by simp)) (fun _ => ?_)
      k_is
      refine ⟨bo, _, rfl, hb6, ?_, fun H7 s7 => q _ ⟨ns, m, hc, hw, rfl⟩ _ (s6.trans s7)⟩
      rw [hw] at L
      have := L.fin
      have := this.1.len
      omega
    | cons g w =>
      rw [hw] at L hw6 hfew
      have L2 := L.step hg
      have hgl : g < ns.length := L.h3 g (by simp)
      have egd : ns[g]? = some (ns.getD g 0) := by unfold List.getD; rw [List.getElem?_eq_getElem hgl]; rfl
      have hm1 : lvN ns (m + 1) = ((lvN ns m).1 ++ [ns.getD g 0], (down (pre ns (g + 1)) (pre ns g)).reverse ++ w) := by
        show lvS ns (lvN ns m) = _
        unfold lvS
        rw [hw]
      refine iteP (fun _ => ?_) (fun h => absurd (by simp only [List.length_cons]; omega) h)
      refine r_turn ?_
      k_is
      refine ⟨.inl ⟨rfl, _, SqL.of hw6⟩, ?_⟩
      k_is
      refine ⟨wa, _, _, rfl, rfl, hw6, (rev_pop w g).1, ?_⟩
      rw [(rev_pop w g).2]
      have s7 := push_same (o := .lst (nV w.reverse)) s6 wn
      have hw7 : upd H6 wa (.lst (nV w.reverse)) wa = some (.lst (nV w.reverse)) := upd_same
      have hb7 : upd H6 wa (.lst (nV w.reverse)) bo = some (.lst (nV (lvN ns m).1)) := by rw [upd_ne hne]; exact hb6
      have hp7 : upd H6 wa (.lst (nV w.reverse)) p = some (.lst (nV ns)) := by rw [upd_ne e2]; exact hp6
      have ha7 : upd H6 wa (.lst (nV w.reverse)) pa = some (.lst (nV ((List.range (ns.length + 1)).map (pre ns)))) := by rw [upd_ne e4]; exact ha6
      generalize upd H6 wa (.lst (nV w.reverse)) = H7 at *
      k_is
      refine ⟨.inl ⟨rfl, _, SqL.of hb7⟩, ?_⟩
      k_is
      refine r_ixL (SqL.of hp7) (atI_nat (nV_at egd)) ?_
      k_is
      refine r_append hb7 ?_ ?_
      · rw [nV_len, hbl]
        exact small20000 (by omega)
      rw [show nV (lvN ns m).1 ++ [V.int (ns.getD g 0 : Nat)] = nV (lvN ns (m + 1)).1 by rw [hm1]; exact nV_app _ [ns.getD g 0]]
      have s8 := push_same (o := .lst (nV (lvN ns (m + 1)).1)) s7 bn
      have hb8 : upd H7 bo (.lst (nV (lvN ns (m + 1)).1)) bo = some (.lst (nV (lvN ns (m + 1)).1)) := upd_same
      have hw8 : upd H7 bo (.lst (nV (lvN ns (m + 1)).1)) wa = some (.lst (nV w.reverse)) := by rw [upd_ne hne.symm]; exact hw7
      have hp8 : upd H7 bo (.lst (nV (lvN ns (m + 1)).1)) p = some (.lst (nV ns)) := by rw [upd_ne e1]; exact hp7
      have ha8 : upd H7 bo (.lst (nV (lvN ns (m + 1)).1)) pa = some (.lst (nV ((List.range (ns.length + 1)).map (pre ns)))) := by rw [upd_ne e3]; exact ha7
      generalize upd H7 bo (.lst (nV (lvN ns (m + 1)).1)) = H8 at *
      k_is
      refine ⟨.inl ⟨rfl, _, SqL.of hw8⟩, ?_⟩
      k_is
      refine r_ixL (SqL.of ha8) (ahead_at (pre ns) (g := g + 1) (by omega)) ?_
      k_is
      refine r_ixL (SqL.of ha8) (ahead_at (pre ns) (g := g) (by omega)) ?_
      k_is
      have hle := pre_le ns (g + 1)
      refine ⟨pre ns (g + 1), pre ns g, rfl, by omega, pre_mono ns (by omega), fun pr hpr => ?_⟩
      rw [show ((List.range (pre ns (g + 1) - pre ns g)).map fun t : Nat => V.int (pre ns (g + 1) - t : Nat)) = nV (down (pre ns (g + 1)) (pre ns g)) by unfold nV down; rw [List.map_map]; rfl]
      have t9 := same_upd (o := .lst (nV (down (pre ns (g + 1)) (pre ns g)))) hpr
      have hw9 := t9 _ _ hw8
      have hr9 : upd H8 pr (.lst (nV (down (pre ns (g + 1)) (pre ns g)))) pr = some (.lst (nV (down (pre ns (g + 1)) (pre ns g)))) := upd_same
      have s9 := s8.trans t9
      have hb9 := t9 _ _ hb8
      have hp9 := t9 _ _ hp8
      have ha9 := t9 _ _ ha8
      generalize upd H8 pr (.lst (nV (down (pre ns (g + 1)) (pre ns g)))) = H9 at *
      k_is
      refine ⟨wa, pr, _, _, rfl, rfl, hw9, hr9, ?_, ?_⟩
      · rw [nV_len, nV_len, List.length_reverse, down_len]
        simp only [List.length_cons] at hfew
        exact Nat.le_of_lt (small20000 (by omega))
      rw [nV_app, show w.reverse ++ down (pre ns (g + 1)) (pre ns g) = (lvN ns (m + 1)).2.reverse by rw [hm1, List.reverse_append, List.reverse_reverse]]
      refine ⟨⟨m + 1, vis ++ [g], _, rfl, by rw [hm1]; exact L2, by rw [upd_ne hne]; exact hb9, upd_same, by rw [upd_ne e2]; exact hp9, by rw [upd_ne e4]; exact ha9, push_same s9 wn⟩, ?_⟩
      rw [← hmz, lenAt_of hb6, lenAt_of (show upd H9 wa _ bo = _ by rw [upd_ne hne]; exact hb9), nV_len, nV_len, hm1]
      simp only [List.length_append, List.length_cons, List.length_nil] at hfew ⊢
      omega

theorem cut_from (xs : List V) (m : Nat) : cutV xs (some (m : Int)) none = xs.drop m := by
  unfold cutV
  rw [HT.sIx_nat]
  show (xs.drop (min m xs.length)).take (xs.length - min m xs.length) = xs.drop m
  by_cases h : m ≤ xs.length
  · rw [Nat.min_eq_left h]
    exact List.take_of_length_le (by rw [List.length_drop]; exact Nat.le_refl _)
  · rw [Nat.min_eq_right (by omega), List.drop_of_length_le (Nat.le_refl _), List.drop_of_length_le (by omega)]
    simp
def sgB (b : Bool) : V := .str (signs [b])
theorem popZ_zero (c : Nat) (st : List Nat) : popZ (0 :: c :: st) = ((popZ (c :: st)).1 + 1, (popZ (c :: st)).2) := by rw [popZ, if_pos rfl]
theorem flat_one (sg : List Bool) : (sg.map fun b => [b]).flatten = sg := by
  induction sg with
  | nil => rfl
  | cons a r ih => rw [List.map_cons, List.flatten_cons, ih]; rfl
def gCO (z z' : Str) : Prop := ∃ n ms, z.cps.toList = grC (n :: ms) ∧ z' = signs (coR ms [n])
theorem rev_set (p : List Nat) (t x : Nat) : nV (t :: p).reverse = nV p.reverse ++ [V.int (t : Nat)] := by unfold nV; rw [List.reverse_cons, List.map_append]; rfl
theorem ok_counts_to_open {f : Addr} {fd : FuncData} (F : Fun K "counts_to_open" "counts_to_open" s_counts_to_open f fd) (T : Txt K mg C_WoodError C_NoBits C_NoPlace C_NoRow C_NoWood) (c_check_signs : CalE P w K mg base "check_signs" 3 ["row", "begin"] (spCheckS K C_NoWood)) (c_groups_of : Cal P w K mg base "groups_of" 1 ["row"] spGroupsOf) : FnOk P w K mg base (CXE P w) 4 f fd ["row"] (spLed K C_NoWood 1 gCO) := by
  refine F.okE sc_counts_to_open (fun vs H Q E h => ?_) (fun cdv A outer s H vs Q E hr h => ?_)
  · obtain ⟨v, rfl, _⟩ := h
    rfl
  · obtain ⟨v, rfl, hS, hz, q, qe⟩ := h
    refine ⟨_, (pss_cons (ps_expr (pe_fnE c_check_signs (hr.mono (by decide : 3 ≤ _)) (pass_on rfl) (pa_d (pv 0) (pa_d pe_int pa_nil rfl) rfl)))
      (pss_cons (ps_set (i := 1) sc_counts_to_open.nd rfl (Or.inl rfl) (pe_fn c_groups_of (hr.mono (by decide : 1 ≤ _)) (pa_d (pv 0) pa_nil rfl)))
      (pss_cons (ps_set (i := 2) sc_counts_to_open.nd rfl (Or.inl rfl) (pe_lst pa_nil))
      (pss_cons (ps_set (i := 3) sc_counts_to_open.nd rfl (Or.inl rfl) (pe_slice sl_list (pv 1) po_none (po_some pe_int)))
      (pss_cons (ps_for PassesOwn.leaving rfl (pi_list (pe_slice sl_list (pv 1) (po_some pe_int) po_none)) (pg_name (i := 4) sc_counts_to_open.nd rfl (Or.inl rfl))
      (pss_cons (ps_expr (pe_bm PySem.F.plainAttrs_list PySem.F.slot_list_append PySem.F.type_list_append mt_append (pv 2) (pa_d pe_str pa_nil rfl)))
      (pss_cons (ps_augS (pv 3) (pe_un un_neg pe_int) get_listA pe_int ip_sub set_list)
      (pss_cons (ps_expr (pe_bm PySem.F.plainAttrs_list PySem.F.slot_list_append PySem.F.type_list_append mt_append (pv 3) (pa_d (pv 4) pa_nil rfl)))
      (pss_one (ps_while PassesOwn.leaving (PW.pt (pw_and (pt_cmpR op_gt (pe_callB call_len_seq (by rfl) T.n_len b_len (pa_d (pv 3) pa_nil rfl)) pe_int (nomark _)) (pw_and1 (pt_cmpR op_eq (pe_ix ix_list (pv 3) (pe_un un_neg pe_int) (fun _ _ => rfl)) pe_int (nomark _)))))
      (pss_cons (ps_expr (pe_bm PySem.F.plainAttrs_list PySem.F.slot_list_append PySem.F.type_list_append mt_append (pv 2) (pa_d pe_str pa_nil rfl)))
      (pss_one (ps_expr (pe_bm0 PySem.F.plainAttrs_list PySem.F.slot_list_pop PySem.F.type_list_pop mt_pop (pv 3)))))))))))
      (pss_one (ps_ret (pe_bm PySem.F.plainAttrs_str PySem.F.slot_str_join PySem.F.type_str_join mt_join pe_str (pa_d (pv 2) pa_nil rfl))))))))), ?_⟩
    k_is
    refine ⟨v, 1, rfl, by decide, hS, hz, fun hn H1 s1 => ?_, qe⟩
    obtain ⟨z, rfl⟩ := sgV_str hn
    have hz := hz z rfl
    have q := q z rfl hn
    have hn : sgF 1 z.cps.toList 0 1 0 = none := hn
    obtain ⟨ns, hc, _⟩ := sg_groups _ _ _ _ hn
    have hgg := (sg_iff ns 0 1 0 (by decide)).mp (hc ▸ hn)
    have hg := hgg.1
    have hsum := hgg.2
    have hlen := hg.len
    have ez : z = signs (grB ns) := by rw [grB_grC]; exact str_of hc
    cases ns with
    | nil => simp at hlen
    | cons n ms =>
    have q := q _ ⟨n, ms, hc, rfl⟩
    have hg0 : Gd [n].sum ms := by
      have := hg.2
      rw [show 1 + n - 1 = [n].sum by simp] at this
      exact this
    rw [List.length_cons] at hlen
    k_is
    refine ⟨n :: ms, by rw [← ez]; rfl, by rw [List.length_cons]; omega, fun p H2 s2 f2 h2 => ?_⟩
    k_is
    refine ⟨Nat.zero_le _, fun sl hsl => ?_⟩
    have ts := same_upd (o := .lst []) hsl
    k_is
    refine ⟨p, _, rfl, SqL.of (ts _ _ h2), fun wa hwa => ?_⟩
    rw [show cutV (nV (n :: ms)) none (some 1) = nV [n] from cut_to _ 1] at *
    have tw := same_upd (o := .lst (nV [n])) hwa
    k_is
    refine ⟨p, _, rfl, SqL.of (tw _ _ (ts _ _ h2)), fun li hli => ?_⟩
    rw [show cutV (nV (n :: ms)) (some 1) none = nV ms from cut_from _ 1] at *
    have tl := same_upd (o := .lst (nV ms)) hli
    have s2' := s1.trans s2
    have sn : H sl = none := s2'.free hsl
    have wn : H wa = none := s2'.free (ts.free hwa)
    have e1 : sl ≠ wa := ne_of_none upd_same hwa
    have e2 : sl ≠ li := ne_of_none (tw _ _ upd_same) hli
    have e3 : wa ≠ li := ne_of_none upd_same hli
    k_is
    refine ⟨li, rfl, ⟨_, SqL.of upd_same⟩, ?_⟩
    refine for_list (xs := nV ms) (fun i σ H3 => (∃ (sg : List Bool) (st : List Nat) (v : Option V), σ = [some (.str z), some (.ref p), some (.ref sl), some (.ref wa), v] ∧ H3 sl = some (.lst (sg.map sgB)) ∧ H3 wa = some (.lst (nV st.reverse)) ∧ Top st ∧ Gd st.sum (ms.drop i) ∧ sg.length + st.length = 2 * i + 1 ∧ sg ++ coR (ms.drop i) st = coR ms [n]) ∧ H3 li = some (.lst (nV ms)) ∧ Same H H3) ?_ (fun i σ H1 _ h => SqL.of h.2.1) ?_ ?_
    · exact ⟨⟨[], [n], _, rfl, tl _ _ (tw _ _ upd_same), tl _ _ upd_same, ⟨by simp, fun h => by simp at h⟩, hg0, rfl, rfl⟩, upd_same, ((s2'.trans ts).trans tw).trans tl⟩
    · rintro i x σ H3 hx ⟨⟨sg, st, v, rfl, hs3, hw3, ht, hgd, hln, hR⟩, hl3, s3⟩
      obtain ⟨m, hm, rfl⟩ := nV_get hx
      have him := at_lt hm
      have ed : ms.drop i = m :: ms.drop (i + 1) := by
        rw [List.drop_eq_getElem_cons him]
        rw [List.getElem?_eq_getElem him] at hm
        rw [Option.some.inj hm]
      rw [ed] at hgd hR
      cases st with
      | nil => exact absurd rfl ht.1
      | cons a r =>
        have ha : 0 < a := by
          cases r with
          | nil => simpa using hgd.1
          | cons b r => exact ht.2 (by simp)
        obtain ⟨q1, q2, q3⟩ := popZ_ok (st := m :: (a - 1) :: r) (by simp)
        have hR : sg ++ (true :: (List.replicate (popZ (m :: (a - 1) :: r)).1 false ++ coR (ms.drop (i + 1)) (popZ (m :: (a - 1) :: r)).2)) = coR ms [n] := hR
        have hg2 : Gd (m :: (a - 1) :: r).sum (ms.drop (i + 1)) := by
          have := hgd.2
          rw [show (a :: r).sum + m - 1 = (m :: (a - 1) :: r).sum by simp only [List.sum_cons]; omega] at this
          exact this
        simp only [List.length_cons] at hln q3
        k_is
        refine ⟨.inl ⟨rfl, _, SqL.of hs3⟩, ?_⟩
        k_is
        refine r_append hs3 ?_ ?_
        · rw [List.length_map]
          exact small20000 (by omega)
        rw [show sg.map sgB ++ [V.str ("1" : Str)] = (sg ++ [true]).map sgB by rw [List.map_append]; rfl]
        have s4 := push_same (o := .lst ((sg ++ [true]).map sgB)) s3 sn
        have hs4 : upd H3 sl (.lst ((sg ++ [true]).map sgB)) sl = some (.lst ((sg ++ [true]).map sgB)) := upd_same
        have hw4 : upd H3 sl (.lst ((sg ++ [true]).map sgB)) wa = some (.lst (nV (a :: r).reverse)) := by rw [upd_ne e1.symm]; exact hw3
        have hl4 : upd H3 sl (.lst ((sg ++ [true]).map sgB)) li = some (.lst (nV ms)) := by rw [upd_ne e2.symm]; exact hl3
        generalize upd H3 sl (.lst ((sg ++ [true]).map sgB)) = H4 at *
        k_is
        refine r_ixL (SqL.of hw4) (rev_last r a) ?_
        k_is
        refine r_setLast (by rw [hw4, rev_set r a 0]) ?_
        rw [show nV r.reverse ++ [V.int ((a : Nat) - 1 : Int)] = nV ((a - 1) :: r).reverse by rw [rev_set r (a - 1) 0, show ((a - 1 : Nat) : Int) = (a : Int) - 1 by omega]]
        have s5 := push_same (o := .lst (nV ((a - 1) :: r).reverse)) s4 wn
        have hs5 : upd H4 wa (.lst (nV ((a - 1) :: r).reverse)) sl = some (.lst ((sg ++ [true]).map sgB)) := by rw [upd_ne e1]; exact hs4
        have hw5 : upd H4 wa (.lst (nV ((a - 1) :: r).reverse)) wa = some (.lst (nV ((a - 1) :: r).reverse)) := upd_same
        have hl5 : upd H4 wa (.lst (nV ((a - 1) :: r).reverse)) li = some (.lst (nV ms)) := by rw [upd_ne e3.symm]; exact hl4
        generalize upd H4 wa (.lst (nV ((a - 1) :: r).reverse)) = H5 at *
        k_is
        refine ⟨.inl ⟨rfl, _, SqL.of hw5⟩, ?_⟩
        k_is
        refine r_append hw5 ?_ ?_
        · rw [nV_len, List.length_reverse, List.length_cons]
          exact small20000 (by omega)
        rw [show nV ((a - 1) :: r).reverse ++ [V.int (m : Nat)] = nV (m :: (a - 1) :: r).reverse from (rev_set ((a - 1) :: r) m 0).symm]
        generalize hst : m :: (a - 1) :: r = st0 at *
        have s6 := push_same (o := .lst (nV st0.reverse)) s5 wn
        have hs6 : upd H5 wa (.lst (nV st0.reverse)) sl = some (.lst ((sg ++ [true]).map sgB)) := by rw [upd_ne e1]; exact hs5
        have hw6 : upd H5 wa (.lst (nV st0.reverse)) wa = some (.lst (nV st0.reverse)) := upd_same
        have hl6 : upd H5 wa (.lst (nV st0.reverse)) li = some (.lst (nV ms)) := by rw [upd_ne e3.symm]; exact hl5
        generalize upd H5 wa (.lst (nV st0.reverse)) = H6 at *
        k_is
        refine while_rd (fun σ H7 => ∃ (j : Nat) (st : List Nat), σ = [some (.str z), some (.ref p), some (.ref sl), some (.ref wa), some (.int (m : Nat))] ∧ H7 sl = some (.lst ((sg ++ [true] ++ List.replicate j false).map sgB)) ∧ H7 wa = some (.lst (nV st.reverse)) ∧ st ≠ [] ∧ j + (popZ st).1 = (popZ st0).1 ∧ (popZ st).2 = (popZ st0).2 ∧ H7 li = some (.lst (nV ms)) ∧ Same H H7) (fun _ H7 => lenAt H7 wa) ?_ ?_
        · exact ⟨0, st0, rfl, by rw [List.replicate_zero, List.append_nil]; exact hs6, hw6, by rw [← hst]; simp, by rw [Nat.zero_add], rfl, hl6, s6⟩
        rintro mz σ H7 ⟨j, st, rfl, hs7, hw7, hne, hj, hq, hl7, s7⟩ hmz
        have out : (popZ st).1 = 0 → (popZ st).2 = st → (∃ (sg : List Bool) (st : List Nat) (v : Option V), [some (V.str z), some (V.ref p), some (V.ref sl), some (V.ref wa), some (V.int (m : Nat))] = [some (.str z), some (.ref p), some (.ref sl), some (.ref wa), v] ∧ H7 sl = some (.lst (sg.map sgB)) ∧ H7 wa = some (.lst (nV st.reverse)) ∧ Top st ∧ Gd st.sum (ms.drop (i + 1)) ∧ sg.length + st.length = 2 * (i + 1) + 1 ∧ sg ++ coR (ms.drop (i + 1)) st = coR ms [n]) ∧ H7 li = some (.lst (nV ms)) ∧ Same H H7 := fun z0 z1 => by
          have ej : j = (popZ st0).1 := by omega
          refine ⟨⟨_, st, _, rfl, hs7, hw7, by rw [← z1, hq]; exact q1, by rw [← z1, hq, q2]; exact hg2, ?_, ?_⟩, hl7, s7⟩
          · rw [← z1, hq, List.length_append, List.length_append, List.length_replicate, ej]
            simp only [List.length_cons, List.length_nil]
            omega
          · rw [← hR, ej, ← z1, hq]
            simp only [List.append_assoc, List.singleton_append]
            rfl
        k_is
        refine ⟨wa, _, rfl, .inl (SqL.of hw7), ?_⟩
        k_is
        rw [nV_len, List.length_reverse]
        cases st with
        | nil => exact absurd rfl hne
        | cons b st =>
        cases st with
        | nil =>
          refine iteP (fun h => absurd h (by simp)) (fun _ => ?_)
          exact out rfl rfl
        | cons c st =>
          refine iteP (fun _ => ?_) (fun h => absurd (by simp only [List.length_cons]; omega) h)
          k_is
          refine r_ixL (SqL.of hw7) (rev_last (c :: st) b) ?_
          k_is
          by_cases hb : b = 0
          · subst hb
            rw [popZ_zero] at hj hq
            have hj : j + ((popZ (c :: st)).1 + 1) = (popZ st0).1 := hj
            have hq : (popZ (c :: st)).2 = (popZ st0).2 := hq
            refine iteP (fun _ => ?_) (fun h => absurd rfl h)
            refine r_turn ?_
            k_is
            refine ⟨.inl ⟨rfl, _, SqL.of hs7⟩, ?_⟩
            k_is
            refine r_append hs7 ?_ ?_
            · rw [List.length_map, List.length_append, List.length_append, List.length_replicate]
              simp only [List.length_cons, List.length_nil]
              exact small20000 (by omega)
            rw [show (sg ++ [true] ++ List.replicate j false).map sgB ++ [V.str ("0" : Str)] = (sg ++ [true] ++ List.replicate (j + 1) false).map sgB by rw [List.replicate_succ', ← List.append_assoc _ _ [false], @List.map_append _ _ sgB _ [false]]; rfl]
            have s8 := push_same (o := .lst ((sg ++ [true] ++ List.replicate (j + 1) false).map sgB)) s7 sn
            have hs8 : upd H7 sl (.lst ((sg ++ [true] ++ List.replicate (j + 1) false).map sgB)) sl = some (.lst ((sg ++ [true] ++ List.replicate (j + 1) false).map sgB)) := upd_same
            have hw8 : upd H7 sl (.lst ((sg ++ [true] ++ List.replicate (j + 1) false).map sgB)) wa = some (.lst (nV (0 :: c :: st).reverse)) := by rw [upd_ne e1.symm]; exact hw7
            have hl8 : upd H7 sl (.lst ((sg ++ [true] ++ List.replicate (j + 1) false).map sgB)) li = some (.lst (nV ms)) := by rw [upd_ne e2.symm]; exact hl7
            generalize upd H7 sl (.lst ((sg ++ [true] ++ List.replicate (j + 1) false).map sgB)) = H8 at *
            k_is
            refine ⟨.inl ⟨rfl, _, SqL.of hw8⟩, ?_⟩
            k_is
            refine ⟨wa, _, _, rfl, rfl, hw8, (rev_pop (c :: st) 0).1, ?_⟩
            rw [(rev_pop (c :: st) 0).2]
            refine ⟨⟨j + 1, c :: st, rfl, by rw [upd_ne e1]; exact hs8, upd_same, by simp, by omega, hq, by rw [upd_ne e3.symm]; exact hl8, push_same s8 wn⟩, ?_⟩
            rw [← hmz, lenAt_of hw7, lenAt_of upd_same, nV_len, nV_len]
            simp
          · refine iteP (fun h => absurd h (fun e => hb (by have := V.int.inj e; omega))) (fun _ => ?_)
            refine out ?_ ?_
            · unfold popZ
              rw [if_neg hb]
            · unfold popZ
              rw [if_neg hb]
    · rintro σ H3 ⟨⟨sg, st, v, rfl, hs3, hw3, ht, hgd, hln, hR⟩, hl3, s3⟩
      rw [nV_len] at hgd hln hR
      rw [List.drop_of_length_le (Nat.le_refl _)] at hR
      have hR : sg ++ [] = coR ms [n] := hR
      rw [List.append_nil] at hR
      have hfl := flat_one sg
      k_is
      refine ⟨rfl, ?_⟩
      k_is
      refine rd_joinS (ls := sg.map fun b => [b]) ?_ ?_ ?_
      · rw [hs3, List.map_map]
        rfl
      · rw [hfl]
        omega
      · rw [hfl, hR]
        exact q _ s3

theorem olR_cons (c : Nat) (r : List Nat) (L : List (List Nat)) (d : Nat) : olR (c :: r) L d = if c = 49 then olR r (olU L d) (d + 1) else olR r L (d - 1) := rfl
def gOL (z z' : Str) : Prop := z' = signs (grB (olR z.cps.toList [[0]] 0).flatten)
structure OlI (H : Hp) (lv : Addr) (rs : List Addr) (L : List (List Nat)) (H1 : Hp) : Prop where
  s : Same H H1
  hL : H1 lv = some (.lst (rs.map V.ref))
  ln : rs.length = L.length
  hr : ∀ (i : Nat) r, rs[i]? = some r → H1 r = some (.lst (nV (L.getD i [])))
  nd : rs.Nodup
  fr : ∀ r ∈ rs, r ≠ lv ∧ H r = none
theorem OlI.same {H H1 H2 : Hp} {lv : Addr} {rs : List Addr} {L : List (List Nat)} (h : OlI H lv rs L H1) (s2 : Same H1 H2) : OlI H lv rs L H2 := ⟨h.s.trans s2, s2 _ _ h.hL, h.ln, fun i r e => s2 _ _ (h.hr i r e), h.nd, h.fr⟩
theorem nd_at {α : Type} {l : List α} (h : l.Nodup) {i j : Nat} {x : α} (e1 : l[i]? = some x) (e2 : l[j]? = some x) : i = j := by
  have hi := at_lt e1
  have hj := at_lt e2
  rw [List.getElem?_eq_getElem hi] at e1
  rw [List.getElem?_eq_getElem hj] at e2
  rw [List.Nodup, List.pairwise_iff_getElem] at h
  by_cases a : i < j
  · exact absurd (by rw [Option.some.inj e1, Option.some.inj e2]) (h i j hi hj a)
  · by_cases b : j < i
    · exact absurd (by rw [Option.some.inj e1, Option.some.inj e2]) (h j i hj hi b)
    · omega
theorem OlI.set {H H1 : Hp} {lv : Addr} {rs : List Addr} {L : List (List Nat)} (h : OlI H lv rs L H1) {d : Nat} {r : Addr} (e : rs[d]? = some r) (R : List Nat) : OlI H lv rs (L.set d R) (upd H1 r (.lst (nV R))) := by
  have hm := List.mem_of_getElem? e
  have hd := at_lt e
  refine ⟨push_same h.s (h.fr r hm).2, by rw [upd_ne (h.fr r hm).1.symm]; exact h.hL, by rw [List.length_set]; exact h.ln, fun i r' e' => ?_, h.nd, h.fr⟩
  by_cases hi : d = i
  · subst hi
    rw [e] at e'
    obtain rfl := Option.some.inj e'
    rw [upd_same, getD_set_self _ _ _ (by rw [← h.ln]; exact hd)]
  · rw [upd_ne (fun e2 => hi (nd_at h.nd e (by rw [e', e2]))), getD_set_ne _ _ _ hi]
    exact h.hr i r' e'
theorem OlI.push {H H1 : Hp} {lv : Addr} {rs : List Addr} {L : List (List Nat)} (h : OlI H lv rs L H1) (hlv : H lv = none) {p : Addr} (hp : H1 p = none) : OlI H lv (rs ++ [p]) (L ++ [[]]) (upd (upd H1 p (.lst [])) lv (.lst (rs.map V.ref ++ [V.ref p]))) := by
  have t := same_upd (o := .lst []) hp
  have hpl : p ≠ lv := (ne_of_none h.hL hp).symm
  have hpr : ∀ r ∈ rs, r ≠ p := fun r hr => by
    obtain ⟨i, hi⟩ := List.mem_iff_getElem?.mp hr
    exact ne_of_none (h.hr i r hi) hp
  refine ⟨push_same (h.s.trans t) hlv, by rw [upd_same, List.map_append]; rfl, by rw [List.length_append, List.length_append, h.ln]; rfl, fun i r e => ?_, ?_, fun r hr => ?_⟩
  · by_cases hi : i < rs.length
    · rw [List.getElem?_append_left hi] at e
      have hm := List.mem_of_getElem? e
      rw [upd_ne (h.fr r hm).1, upd_ne (hpr r hm), getD_app _ _ _ (by rw [← h.ln]; exact hi)]
      exact h.hr i r e
    · have hi2 := at_lt e
      rw [List.length_append] at hi2
      have hi3 : i = rs.length := by simp at hi2; omega
      subst hi3
      rw [List.getElem?_append_right (Nat.le_refl _), Nat.sub_self] at e
      obtain rfl : p = r := Option.some.inj e
      rw [upd_ne hpl, upd_same]
      congr 3
      unfold List.getD
      rw [h.ln, List.getElem?_append_right (Nat.le_refl _), Nat.sub_self]
      rfl
  · rw [List.nodup_append]
    refine ⟨h.nd, by simp, fun a ha b hb => ?_⟩
    rw [List.mem_singleton.mp hb]
    exact hpr a ha
  · rcases List.mem_append.mp hr with h1 | h1
    · exact h.fr r h1
    · rw [List.mem_singleton.mp h1]
      exact ⟨hpl, h.s.free hp⟩
theorem grB_flat (L : List (List Nat)) : (L.map grB).flatten = grB L.flatten := by
  induction L with
  | nil => rfl
  | cons a r ih =>
    rw [List.map_cons, List.flatten_cons, List.flatten_cons, ih]
    unfold grB
    rw [List.map_append, List.flatten_append]
theorem fl_len_at {L : List (List Nat)} {i : Nat} : (L.getD i []).length ≤ L.flatten.length ∧ (L.getD i []).sum ≤ L.flatten.sum := by
  by_cases h : i < L.length
  · have f1 := fl_set_len (L := L) (i := i) (R := []) h
    have f2 := fl_set_sum (L := L) (i := i) (R := []) h
    simp only [List.length_nil, List.sum_nil] at f1 f2
    omega
  · have e : L.getD i [] = [] := by unfold List.getD; rw [List.getElem?_eq_none (by omega)]; rfl
    rw [e]
    exact ⟨Nat.zero_le _, Nat.zero_le _⟩
theorem last_snoc {l : List Nat} (h : l ≠ []) : nV l = nV l.dropLast ++ [V.int (l.getLastD 0 : Nat)] := by
  have e := List.dropLast_concat_getLast h
  have e2 : l.getLastD 0 = l.getLast h := by rw [List.getLastD_eq_getLast?, List.getLast?_eq_some_getLast h]; rfl
  rw [e2]
  conv => lhs; rw [← e]
  exact (nV_app _ [l.getLast h]).symm
theorem ok_open_to_levels {f : Addr} {fd : FuncData} (F : Fun K "open_to_levels" "open_to_levels" s_open_to_levels f fd) (T : Txt K mg C_WoodError C_NoBits C_NoPlace C_NoRow C_NoWood) (c_check_signs : CalE P w K mg base "check_signs" 3 ["row", "begin"] (spCheckS K C_NoWood)) (c_counted_row : Cal P w K mg base "counted_row" 1 ["many"] spGroups) : FnOk P w K mg base (CXE P w) 4 f fd ["row"] (spLed K C_NoWood 0 gOL) := by
  refine F.okE sc_open_to_levels (fun vs H Q E h => ?_) (fun cdv A outer s H vs Q E hr h => ?_)
  · obtain ⟨v, rfl, _⟩ := h
    rfl
  · obtain ⟨v, rfl, hS, hz, q, qe⟩ := h
    refine ⟨_, (pss_cons (ps_expr (pe_fnE c_check_signs (hr.mono (by decide : 3 ≤ _)) (pass_on rfl) (pa_d (pv 0) (pa_d pe_int pa_nil rfl) rfl)))
      (pss_cons (ps_set (i := 1) sc_open_to_levels.nd rfl (Or.inl rfl) (pe_lst (pa_d (pe_lst (pa_d pe_int pa_nil rfl)) pa_nil rfl)))
      (pss_cons (ps_set (i := 2) sc_open_to_levels.nd rfl (Or.inl rfl) pe_int)
      (pss_cons (ps_for PassesOwn.leaving rfl (pi_str (pv 0)) (pg_name (i := 3) sc_open_to_levels.nd rfl (Or.inl rfl))
      (pss_one (ps_if (pt_cmpR op_eq (pv 3) pe_str (nomark _)) (pss_cons (ps_augS (pe_ix ix_list (pv 1) (pv 2) (fun _ _ => rfl)) (pe_un un_neg pe_int) get_listA pe_int ip_add set_list)
      (pss_cons (ps_aug (i := 2) sc_open_to_levels.nd rfl (Or.inl rfl) pe_int ip_add)
      (pss_cons (ps_ifJ (pt_cmpR op_eq (pv 2) (pe_callB call_len_seq (by rfl) T.n_len b_len (pa_d (pv 1) pa_nil rfl)) (nomark _)) (pss_one (ps_expr (pe_bm PySem.F.plainAttrs_list PySem.F.slot_list_append PySem.F.type_list_append mt_append (pv 1) (pa_d (pe_lst pa_nil) pa_nil rfl))))
      pss_nil)
      (pss_one (ps_expr (pe_bm PySem.F.plainAttrs_list PySem.F.slot_list_append PySem.F.type_list_append mt_append (pe_ix ix_list (pv 1) (pv 2) (fun _ _ => rfl)) (pa_d pe_int pa_nil rfl)))))))
      (pss_one (ps_aug (i := 2) sc_open_to_levels.nd rfl (Or.inl rfl) pe_int ip_sub)))))
      (pss_one (ps_ret (pe_bm PySem.F.plainAttrs_str PySem.F.slot_str_join PySem.F.type_str_join mt_join pe_str (pa_d (pe_lc rfl lc_open_to_levels_0 (pi_list (pv 1)) (fun _ _ _ _ => pif_nil) (fun _ _ _ _ => (pe_fn c_counted_row (hr.mono (by decide : 1 ≤ _)) (pa_d (pv 0) pa_nil rfl)))) pa_nil rfl)))))))), ?_⟩
    k_is
    refine ⟨v, 0, rfl, by decide, hS, hz, fun hn H1 s1 => ?_, qe⟩
    obtain ⟨z, rfl⟩ := sgV_str hn
    have hz := hz z rfl
    have q := q z rfl hn _ rfl
    k_is
    refine ⟨few (by simp), fun p0 hp0 => ?_⟩
    have t0 := same_upd (o := .lst [V.int 0]) hp0
    k_is
    refine ⟨few (by simp), fun lv hlv => ?_⟩
    have t1 := same_upd (o := .lst [V.ref p0]) hlv
    have ln : H lv = none := s1.free (t0.free hlv)
    have J0 : OlI H lv [p0] [[0]] (upd (upd H1 p0 (.lst [V.int 0])) lv (.lst [V.ref p0])) := by
      refine ⟨(s1.trans t0).trans t1, upd_same, rfl, fun i r e => ?_, by simp, fun r hr => ?_⟩
      · cases i with
        | zero =>
          obtain rfl : p0 = r := Option.some.inj e
          exact t1 _ _ upd_same
        | succ i => cases e
      · rw [List.mem_singleton.mp hr]
        exact ⟨ne_of_none upd_same hlv, s1.free hp0⟩
    generalize upd (upd H1 p0 (.lst [V.int 0])) lv (.lst [V.ref p0]) = H2 at J0
    k_is
    refine ⟨z, rfl, ?_⟩
    refine for_str (fun i σ H3 => ∃ (rs : List Addr) (L : List (List Nat)) (d k : Nat) (v : Option V), σ = [some (.str z), some (.ref lv), some (.int (d : Nat)), v] ∧ OlI H lv rs L H3 ∧ OlP L d k ∧ sgF 0 (z.cps.toList.drop i) i d k = none ∧ k ≤ i ∧ olR (z.cps.toList.drop i) L d = olR z.cps.toList [[0]] 0) ?_ ?_ ?_
    · exact ⟨[p0], [[0]], 0, 0, _, rfl, J0, ol_zero, hn, Nat.le_refl _, rfl⟩
    · rintro i c σ H3 hc ⟨rs, L, d, k, v, rfl, J3, hP, hs, hki, hR⟩
      have hi : i < z.length := (Array.getElem?_eq_some_iff.mp hc).1
      rw [cps_drop hc] at hs hR
      unfold sgF at hs
      rw [olR_cons] at hR
      have hkk := hP.hk
      have hln := J3.ln
      k_is
      refine iteP (fun h1 => ?_) (fun h1 => ?_)
      · obtain rfl := sgn_one h1
        have hA : 49 = 49 ∧ 0 ≤ d ∧ k < 4000 := by
          by_cases hA : 49 = 49 ∧ 0 ≤ d ∧ k < 4000
          · exact hA
          · rw [if_neg hA, if_neg (by omega)] at hs
            cases hs
        rw [if_pos hA] at hs
        rw [if_pos rfl] at hR
        have hU := olU_ok hP
        have hM := olM_ok hP
        have hdl : d < rs.length := by rw [hln]; exact hP.hd
        have er : rs[d]? = some rs[d] := List.getElem?_eq_getElem hdl
        generalize rs[d] = r at er
        have hrd := J3.hr d r er
        have hned := hP.ne d (Nat.le_refl _)
        k_is
        refine r_ixL (SqL.of J3.hL) (v := .ref r) (atI_nat (by rw [List.getElem?_map, er]; rfl)) ?_
        k_is
        refine r_ixL (SqL.of hrd) (v := .int ((L.getD d []).getLastD 0 : Nat)) (by rw [last_snoc hned]; exact atI_last _ _) ?_
        k_is
        refine r_setLast (by rw [hrd, last_snoc hned]) ?_
        rw [show nV (L.getD d []).dropLast ++ [V.int (((L.getD d []).getLastD 0 : Nat) + 1 : Int)] = nV (up (L.getD d [])) from nV_app _ [(L.getD d []).getLastD 0 + 1]]
        have J4 := J3.set er (up (L.getD d []))
        generalize upd H3 r (.lst (nV (up (L.getD d [])))) = H4 at *
        k_is
        have hset : (L.set d (up (L.getD d []))).length = L.length := List.length_set
        refine r_ifJ (fun σ H5 => ∃ rs2, σ = [some (.str z), some (.ref lv), some (.int ((d + 1 : Nat) : Int)), some (.str (sgn 49))] ∧ OlI H lv rs2 (olM L d) H5) ?_ ?_
        · k_is
          refine ⟨lv, _, rfl, .inl (SqL.of J4.hL), ?_⟩
          k_is
          rw [List.length_map, hln]
          refine iteP (fun he => ?_) (fun he => ?_)
          · have he : d + 1 = L.length := by have := V.int.inj he; omega
            have eM : olM L d = L.set d (up (L.getD d [])) ++ [[]] := by unfold olM; rw [if_pos (by omega)]
            k_is
            refine ⟨.inl ⟨rfl, _, SqL.of J4.hL⟩, ?_⟩
            k_is
            refine ⟨Nat.zero_le _, fun p5 hp5 => ?_⟩
            have t5 := same_upd (o := .lst []) hp5
            k_is
            refine r_append (t5 _ _ J4.hL) ?_ ?_
            · rw [List.length_map]
              exact small20000 (by omega)
            rw [eM]
            exact ⟨rs ++ [p5], rfl, J4.push ln hp5⟩
          · have he : ¬ d + 1 = L.length := fun e => he (by rw [← e]; rfl)
            have eM : olM L d = L.set d (up (L.getD d [])) := by unfold olM; rw [if_neg (by omega)]
            k_is
            rw [eM]
            exact ⟨rs, rfl, J4⟩
        · rintro σ H5 ⟨rs5, rfl, J5⟩
          have hl5 := J5.ln
          have hd5 : d + 1 < rs5.length := by rw [hl5]; exact hM.1
          have er5 : rs5[d + 1]? = some rs5[d + 1] := List.getElem?_eq_getElem hd5
          generalize rs5[d + 1] = r5 at er5
          have hr5 := J5.hr (d + 1) r5 er5
          have hfl := fl_len_at (L := olM L d) (i := d + 1)
          have hM2 := hM.2.1
          k_is
          refine r_ixL (SqL.of J5.hL) (v := .ref r5) (atI_nat (by rw [List.getElem?_map, er5]; rfl)) ?_
          k_is
          refine ⟨.inl ⟨rfl, _, SqL.of hr5⟩, ?_⟩
          k_is
          refine r_append hr5 ?_ ?_
          · rw [nV_len]
            exact small20000 (by omega)
          rw [show nV ((olM L d).getD (d + 1) []) ++ [V.int 0] = nV ((olM L d).getD (d + 1) [] ++ [0]) from nV_app _ [0]]
          exact ⟨rs5, olU L d, d + 1, k + 1, _, rfl, J5.set er5 _, hU, hs, by omega, hR⟩
      · have hc1 := sgn_one' h1
        have hB : c = 48 ∧ 0 < d := by
          by_cases hB : c = 48 ∧ 0 < d
          · exact hB
          · rw [if_neg (fun e => hc1 e.1), if_neg hB] at hs
            cases hs
        rw [if_neg (fun e => hc1 e.1), if_pos hB] at hs
        rw [if_neg hc1] at hR
        k_is
        refine ⟨rs, L, d - 1, k, some (.str (sgn c)), ?_, J3, hP.down, hs, by omega, hR⟩
        rw [show ((d - 1 : Nat) : Int) = (d : Int) - 1 by omega]
        rfl
    · rintro σ H3 ⟨rs, L, d, k, v, rfl, J3, hP, hs, hki, hR⟩
      have hzs : z.cps.size = z.length := rfl
      rw [List.drop_of_length_le (by rw [cps_len, hzs]; exact Nat.le_refl _)] at hR
      have hR : L = olR z.cps.toList [[0]] 0 := hR
      rw [hzs] at hki
      have hl := hP.hl
      have hsm := hP.hs
      have hkk := hP.hk
      have hln := J3.ln
      k_is
      refine ⟨rfl, ?_⟩
      k_is
      refine ⟨lv, rfl, ⟨_, SqL.of J3.hL⟩, ?_⟩
      refine lc_list (xs := rs.map V.ref) (SqL.of J3.hL) (fun i => (L.take i).map fun l => V.str (signs (grB l))) rfl (fun i hi => ?_) (fun i x H4 R A hx s4 _ hA => ?_) (fun D H4 hD s4 h4 => ?_)
      · rw [List.length_map, List.length_take]
        exact small20000 (by omega)
      · rw [List.getElem?_map] at hx
        cases er : rs[i]? with
        | none => rw [er] at hx; cases hx
        | some r =>
          rw [er] at hx
          obtain rfl : x = .ref r := (Option.some.inj hx).symm
          have hil : i < L.length := by rw [← hln]; exact at_lt er
          have hfl := fl_len_at (L := L) (i := i)
          k_is
          refine ⟨r, L.getD i [], rfl, s4 _ _ (J3.hr i r er), by omega, fun H5 s5 => ?_⟩
          refine hA _ _ ?_ s5
          rw [List.take_add_one, List.getElem?_eq_getElem hil, List.map_append]
          unfold List.getD
          rw [List.getElem?_eq_getElem hil]
          rfl
      · rw [List.length_map, hln, List.take_of_length_le (Nat.le_refl _)] at h4
        k_is
        refine rd_joinS (ls := L.map grB) ?_ ?_ ?_
        · rw [h4, List.map_map]
          rfl
        · rw [grB_flat, grB_len]
          omega
        · rw [grB_flat, hR]
          exact q _ (J3.s.trans s4)

theorem co_len : ∀ (ms st : List Nat), (coR ms st).length ≤ 2 * ms.length + st.length
  | [], st => Nat.zero_le _
  | m :: ms, [] => Nat.zero_le _
  | m :: ms, a :: r => by
    have h := co_len ms (popZ (m :: (a - 1) :: r)).2
    obtain ⟨_, _, q3⟩ := popZ_ok (st := m :: (a - 1) :: r) (by simp)
    show (true :: (List.replicate (popZ (m :: (a - 1) :: r)).1 false ++ coR ms (popZ (m :: (a - 1) :: r)).2)).length ≤ _
    simp only [List.length_cons, List.length_append, List.length_replicate] at q3 ⊢
    omega
theorem gLC_good {z z' : Str} (hn : sgF 1 z.cps.toList 0 1 0 = none) (h : gLC z z') : sgF 1 z'.cps.toList 0 1 0 = none ∧ z'.length ≤ 9000 := by
  obtain ⟨ns, m, hc, hw, rfl⟩ := h
  have hgg := (sg_iff ns 0 1 0 (by decide)).mp (hc ▸ hn)
  have hlen := hgg.1.len
  have hsum := hgg.2
  obtain ⟨vis, L⟩ := lv_all hgg.1 m
  rw [hw] at L
  have hf := L.fin
  have hl := hf.1.len
  constructor
  · rw [grB_grC]
    exact (sg_iff _ 0 1 0 (by decide)).mpr ⟨hf.1, by omega⟩
  · rw [signs_len, grB_len]
    omega
theorem gCO_good {z z' : Str} (hn : sgF 1 z.cps.toList 0 1 0 = none) (h : gCO z z') : sgF 0 z'.cps.toList 0 0 0 = none ∧ z'.length ≤ 9000 := by
  obtain ⟨n, ms, hc, rfl⟩ := h
  have hgg := (sg_iff (n :: ms) 0 1 0 (by decide)).mp (hc ▸ hn)
  have hlen := hgg.1.len
  have hsum := hgg.2
  rw [List.length_cons] at hlen
  have hg0 : Gd [n].sum ms := by
    have := hgg.1.2
    rw [show 1 + n - 1 = [n].sum by simp] at this
    exact this
  constructor
  · rw [signs_cps]
    exact co_good ms [n] 0 0 ⟨by simp, fun h => by simp at h⟩ hg0 (by omega)
  · rw [signs_len]
    have := co_len ms [n]
    simp only [List.length_cons, List.length_nil] at this
    omega
theorem sgV_of {b : Nat} {z : Str} (h : sgF b z.cps.toList 0 b 0 = none) : sgV b (.str z) = none := h
def gLO (z z' : Str) : Prop := ∃ z1, gLC z z1 ∧ gCO z1 z'
theorem ok_levels_to_open {f : Addr} {fd : FuncData} (F : Fun K "levels_to_open" "levels_to_open" s_levels_to_open f fd) (T : Txt K mg C_WoodError C_NoBits C_NoPlace C_NoRow C_NoWood) (c_levels_to_counts : CalE P w K mg base "levels_to_counts" 4 ["row"] (spLed K C_NoWood 1 gLC)) (c_counts_to_open : CalE P w K mg base "counts_to_open" 4 ["row"] (spLed K C_NoWood 1 gCO)) : FnOk P w K mg base (CXE P w) 5 f fd ["row"] (spLed K C_NoWood 1 gLO) := by
  refine F.okE sc_levels_to_open (fun vs H Q E h => ?_) (fun cdv A outer s H vs Q E hr h => ?_)
  · obtain ⟨v, rfl, _⟩ := h
    rfl
  · obtain ⟨v, rfl, hS, hz, q, qe⟩ := h
    refine ⟨_, (pss_one (ps_ret (pe_fnE c_counts_to_open (hr.mono (by decide : 4 ≤ _)) (pass_on rfl) (pa_d (pe_fnE c_levels_to_counts (hr.mono (by decide : 4 ≤ _)) (pass_on rfl) (pa_d (pv 0) pa_nil rfl)) pa_nil rfl)))), ?_⟩
    k_is
    refine ⟨v, rfl, hS, hz, fun z hv hn z1 hG H1 s1 => ?_, qe⟩
    obtain ⟨g1, g2⟩ := gLC_good hn hG
    refine ⟨.str z1, rfl, anyS_str _, fun z2 e => by rw [← V.str.inj e]; exact g2, fun z2 e hn2 z3 hG2 H2 s2 => ?_, fun d hd => ?_⟩
    · obtain rfl := V.str.inj e
      exact q z hv hn z3 ⟨z1, hG, hG2⟩ H2 (s1.trans s2)
    · rw [sgV_of g1] at hd
      cases hd

def gCL (z z' : Str) : Prop := ∃ z1, gCO z z1 ∧ gOL z1 z'
theorem ok_counts_to_levels {f : Addr} {fd : FuncData} (F : Fun K "counts_to_levels" "counts_to_levels" s_counts_to_levels f fd) (T : Txt K mg C_WoodError C_NoBits C_NoPlace C_NoRow C_NoWood) (c_counts_to_open : CalE P w K mg base "counts_to_open" 4 ["row"] (spLed K C_NoWood 1 gCO)) (c_open_to_levels : CalE P w K mg base "open_to_levels" 4 ["row"] (spLed K C_NoWood 0 gOL)) : FnOk P w K mg base (CXE P w) 5 f fd ["row"] (spLed K C_NoWood 1 gCL) := by
  refine F.okE sc_counts_to_levels (fun vs H Q E h => ?_) (fun cdv A outer s H vs Q E hr h => ?_)
  · obtain ⟨v, rfl, _⟩ := h
    rfl
  · obtain ⟨v, rfl, hS, hz, q, qe⟩ := h
    refine ⟨_, (pss_one (ps_ret (pe_fnE c_open_to_levels (hr.mono (by decide : 4 ≤ _)) (pass_on rfl) (pa_d (pe_fnE c_counts_to_open (hr.mono (by decide : 4 ≤ _)) (pass_on rfl) (pa_d (pv 0) pa_nil rfl)) pa_nil rfl)))), ?_⟩
    k_is
    refine ⟨v, rfl, hS, hz, fun z hv hn z1 hG H1 s1 => ?_, qe⟩
    obtain ⟨g1, g2⟩ := gCO_good hn hG
    refine ⟨.str z1, rfl, anyS_str _, fun z2 e => by rw [← V.str.inj e]; exact g2, fun z2 e hn2 z3 hG2 H2 s2 => ?_, fun d hd => ?_⟩
    · obtain rfl := V.str.inj e
      exact q z hv hn z3 ⟨z1, hG, hG2⟩ H2 (s1.trans s2)
    · rw [sgV_of g1] at hd
      cases hd

def bgn (one : Nat) : Nat := if one = 0 then 0 else 1
def gLed (one other : Nat) : Str → Str → Prop :=
  if one = 0 then (if other = 1 then gOL else gOC) else if one = 1 then (if other = 0 then gLO else gLC) else if other = 0 then gCO else gCL
def spLedL (K : PySem.W.Frag) (C : Addr) : Sp := fun vs H Q E => ∃ (v : V) (one other : Nat), vs = [v, .int one, .int other] ∧ spLed K C (bgn one) (gLed one other) [v] H Q E
theorem ok_law_led {f : Addr} {fd : FuncData} (F : Fun K "_law_led" "_law_led" s_law_led f fd) (T : Txt K mg C_WoodError C_NoBits C_NoPlace C_NoRow C_NoWood) (c_open_to_levels : CalE P w K mg base "open_to_levels" 4 ["row"] (spLed K C_NoWood 0 gOL)) (c_open_to_counts : CalE P w K mg base "open_to_counts" 4 ["row"] (spLed K C_NoWood 0 gOC)) (c_levels_to_open : CalE P w K mg base "levels_to_open" 5 ["row"] (spLed K C_NoWood 1 gLO))
    (c_levels_to_counts : CalE P w K mg base "levels_to_counts" 4 ["row"] (spLed K C_NoWood 1 gLC)) (c_counts_to_open : CalE P w K mg base "counts_to_open" 4 ["row"] (spLed K C_NoWood 1 gCO)) (c_counts_to_levels : CalE P w K mg base "counts_to_levels" 5 ["row"] (spLed K C_NoWood 1 gCL)) : FnOk P w K mg base (CXE P w) 6 f fd ["_law_row", "_law_one", "_law_other"] (spLedL K C_NoWood) := by
  refine F.okE sc_law_led (fun vs H Q E h => ?_) (fun cdv A outer s H vs Q E hr h => ?_)
  · obtain ⟨v, one, other, rfl, _⟩ := h
    rfl
  · obtain ⟨v, one, other, rfl, h⟩ := h
    unfold bgn gLed at h
    refine ⟨_, (pss_cons (ps_if (pt_cmpR op_eq (pv 1) pe_int (nomark _)) (pss_cons (ps_if (pt_cmpR op_eq (pv 2) pe_int (nomark _)) (pss_one (ps_ret (pe_fnE c_open_to_levels (hr.mono (by decide : 4 ≤ _)) (pass_on rfl) (pa_d (pv 0) pa_nil rfl))))
      pss_nil)
      (pss_one (ps_ret (pe_fnE c_open_to_counts (hr.mono (by decide : 4 ≤ _)) (pass_on rfl) (pa_d (pv 0) pa_nil rfl)))))
      pss_nil)
      (pss_cons (ps_if (pt_cmpR op_eq (pv 1) pe_int (nomark _)) (pss_cons (ps_if (pt_cmpR op_eq (pv 2) pe_int (nomark _)) (pss_one (ps_ret (pe_fnE c_levels_to_open (hr.mono (by decide : 5 ≤ _)) (pass_on rfl) (pa_d (pv 0) pa_nil rfl))))
      pss_nil)
      (pss_one (ps_ret (pe_fnE c_levels_to_counts (hr.mono (by decide : 4 ≤ _)) (pass_on rfl) (pa_d (pv 0) pa_nil rfl)))))
      pss_nil)
      (pss_cons (ps_if (pt_cmpR op_eq (pv 2) pe_int (nomark _)) (pss_one (ps_ret (pe_fnE c_counts_to_open (hr.mono (by decide : 4 ≤ _)) (pass_on rfl) (pa_d (pv 0) pa_nil rfl))))
      pss_nil)
      (pss_one (ps_ret (pe_fnE c_counts_to_levels (hr.mono (by decide : 5 ≤ _)) (pass_on rfl) (pa_d (pv 0) pa_nil rfl))))))), ?_⟩
    k_is
    refine iteP (fun e1 => ?_) (fun e1 => ?_)
    · have e1 : one = 0 := by have := V.int.inj e1; omega
      rw [if_pos e1, if_pos e1] at h
      k_is
      refine iteP (fun e2 => ?_) (fun e2 => ?_)
      · have e2 : other = 1 := by have := V.int.inj e2; omega
        rw [if_pos e2] at h
        k_is
        exact h
      · have e2 : ¬ other = 1 := fun e => e2 (by rw [e]; rfl)
        rw [if_neg e2] at h
        k_is
        exact h
    · have e1 : ¬ one = 0 := fun e => e1 (by rw [e]; rfl)
      rw [if_neg e1, if_neg e1] at h
      k_is
      refine iteP (fun e3 => ?_) (fun e3 => ?_)
      · have e3 : one = 1 := by have := V.int.inj e3; omega
        rw [if_pos e3] at h
        k_is
        refine iteP (fun e2 => ?_) (fun e2 => ?_)
        · have e2 : other = 0 := by have := V.int.inj e2; omega
          rw [if_pos e2] at h
          k_is
          exact h
        · have e2 : ¬ other = 0 := fun e => e2 (by rw [e]; rfl)
          rw [if_neg e2] at h
          k_is
          exact h
      · have e3 : ¬ one = 1 := fun e => e3 (by rw [e]; rfl)
        rw [if_neg e3] at h
        k_is
        refine iteP (fun e2 => ?_) (fun e2 => ?_)
        · have e2 : other = 0 := by have := V.int.inj e2; omega
          rw [if_pos e2] at h
          k_is
          exact h
        · have e2 : ¬ other = 0 := fun e => e2 (by rw [e]; rfl)
          rw [if_neg e2] at h
          k_is
          exact h

def spDigit : Sp := fun vs H Q _ => ∃ (l : Addr) (x : Int) (m : Nat), vs = [.ref l, .int m] ∧ H l = some (.lst [.int x]) ∧ 0 < m ∧ m ≤ 100000 ∧ ∀ (r : Nat) (y : Int), r < m → Q (.int r) (upd H l (.lst [.int y]))
theorem ok_law_digit {f : Addr} {fd : FuncData} (F : Fun K "_law_digit" "_law_digit" s_law_digit f fd) (T : Txt K mg C_WoodError C_NoBits C_NoPlace C_NoRow C_NoWood) : FnOk P w K mg base CX0 1 f fd ["_law_left", "_law_many"] spDigit := by
  refine F.ok sc_law_digit (fun vs H Q E h => ?_) (fun cdv A outer s H vs Q E hr h => ?_)
  · obtain ⟨l, x, m, rfl, _⟩ := h
    rfl
  · obtain ⟨l, x, m, rfl, hl, h0, h1, q⟩ := h
    refine ⟨_, (pss_cons (ps_set (i := 2) sc_law_digit.nd rfl (Or.inl rfl) (pe_op op_mod (pe_ix ix_list (pv 0) pe_int (fun _ _ => rfl)) (pv 1)))
      (pss_cons (ps_asg (pe_op op_fdiv (pe_ix ix_list (pv 0) pe_int (fun _ _ => rfl)) (pv 1)) (pg_sub (pv 0) pe_int set_list))
      (pss_one (ps_ret (pv 2))))), ?_⟩
    k_is
    refine r_ixL (SqL.of hl) (v := .int x) rfl ?_
    k_is
    refine r_mod (by omega) ?_
    k_is
    refine r_ixL (SqL.of hl) (v := .int x) rfl ?_
    k_is
    refine r_div (by omega) (by omega) ?_
    k_is
    refine r_setL (j := 0) hl rfl (by simp) ?_
    k_is
    have e0 := Int.emod_nonneg x (show (m : Int) ≠ 0 by omega)
    have e1 := Int.emod_lt_of_pos x (show (0 : Int) < (m : Int) by omega)
    rw [show x % (m : Int) = ((x % (m : Int)).toNat : Int) by omega]
    exact q _ _ (by omega)

def spSpoilL : Sp := fun vs H Q _ => ∃ (z : Str) (l : Addr) (x : Int), vs = [.str z, .ref l] ∧ z.length ≤ 1000 ∧ H l = some (.lst [.int x]) ∧ ∀ (z' : Str) (y : Int) H', z'.length ≤ 8 * (z.length + 1) → SameX l H H' → H' l = some (.lst [.int y]) → Q (.str z') H'
theorem SameX.upd {l : Addr} {H H' : Hp} {o : HO} (s : SameX l H H') : SameX l H (upd H' l o) := fun b u n e => by rw [upd_ne n]; exact s b u n e
theorem cut_len (z : Str) (lo hi : Option Int) : (cutS z lo hi).length ≤ z.length := by
  show (List.take _ (List.drop _ _)).toArray.size ≤ z.cps.size
  rw [List.size_toArray, List.length_take, List.length_drop, Array.length_toList]
  omega
theorem app_len (a b : Str) : (a ++ b).length = a.length + b.length := by
  show (a.cps ++ b.cps).size = _
  rw [Array.size_append]
  rfl
theorem grow2 {m B n i : Nat} (h : m + 1 ≤ 2 ^ i * B) (hn : n ≤ 2 * m + 1) : n + 1 ≤ 2 ^ (i + 1) * B := by
  rw [Nat.pow_succ, Nat.mul_assoc, Nat.mul_left_comm]
  omega
theorem ok_law_spoilt {f : Addr} {fd : FuncData} (F : Fun K "_law_spoilt" "_law_spoilt" s_law_spoilt f fd) (T : Txt K mg C_WoodError C_NoBits C_NoPlace C_NoRow C_NoWood) (c_law_digit : Cal P w K mg base "_law_digit" 1 ["_law_left", "_law_many"] spDigit) : FnOk P w K mg base CX0 2 f fd ["_law_row", "_law_left"] spSpoilL := by
  refine F.ok sc_law_spoilt (fun vs H Q E h => ?_) (fun cdv A outer s H vs Q E hr h => ?_)
  · obtain ⟨z, l, x, rfl, _⟩ := h
    rfl
  · obtain ⟨z, l, x, rfl, hz, hl, q⟩ := h
    refine ⟨_, (pss_cons (ps_for PassesOwn.never rfl (pi_range1 rfl T.n_range (pa_d (pe_fn c_law_digit (hr.mono (by decide : 1 ≤ _)) (pa_d (pv 1) (pa_d pe_int pa_nil rfl) rfl)) pa_nil rfl)) (pg_name (i := 2) sc_law_spoilt.nd rfl (Or.inl rfl))
      (pss_cons (ps_set (i := 3) sc_law_spoilt.nd rfl (Or.inl rfl) (pe_fn c_law_digit (hr.mono (by decide : 1 ≤ _)) (pa_d (pv 1) (pa_d pe_int pa_nil rfl) rfl)))
      (pss_cons (ps_set (i := 4) sc_law_spoilt.nd rfl (Or.inl rfl) (pe_fn c_law_digit (hr.mono (by decide : 1 ≤ _)) (pa_d (pv 1) (pa_d (pe_op op_add (pe_callB call_len_str (by rfl) T.n_len b_len (pa_d (pv 0) pa_nil rfl)) pe_int) pa_nil rfl) rfl)))
      (pss_cons (ps_set (i := 5) sc_law_spoilt.nd rfl (Or.inl rfl) (pe_ix ix_str pe_str (pe_fn c_law_digit (hr.mono (by decide : 1 ≤ _)) (pa_d (pv 1) (pa_d pe_int pa_nil rfl) rfl)) (fun _ _ => rfl)))
      (pss_one (ps_if (pt_cmpR op_eq (pv 3) pe_int (nomark _)) (pss_one (ps_set (i := 0) sc_law_spoilt.nd rfl (Or.inl rfl) (pe_op op_add_str (pe_op op_add_str (pe_slice sl_str (pv 0) po_none (po_some (pv 4))) (pv 5)) (pe_slice sl_str (pv 0) (po_some (pv 4)) po_none))))
      (pss_one (ps_if (pt_cmpR op_eq (pv 3) pe_int (nomark _)) (pss_one (ps_set (i := 0) sc_law_spoilt.nd rfl (Or.inl rfl) (pe_op op_add_str (pe_op op_add_str (pe_slice sl_str (pv 0) po_none (po_some (pv 4))) (pv 5)) (pe_slice sl_str (pv 0) (po_some (pe_op op_add (pv 4) pe_int)) po_none))))
      (pss_one (ps_if (pt_cmpR op_eq (pv 3) pe_int (nomark _)) (pss_one (ps_set (i := 0) sc_law_spoilt.nd rfl (Or.inl rfl) (pe_op op_add_str (pe_slice sl_str (pv 0) po_none (po_some (pv 4))) (pe_slice sl_str (pv 0) (po_some (pe_op op_add (pv 4) pe_int)) po_none))))
      (pss_one (ps_set (i := 0) sc_law_spoilt.nd rfl (Or.inl rfl) (pe_slice sl_str (pv 0) po_none (po_some (pv 4)))))))))))))))
      (pss_one (ps_ret (pv 0)))), ?_⟩
    have hB : ∀ i, i ≤ 3 → 2 ^ i * (z.length + 1) ≤ 8 * (z.length + 1) := fun i hi => Nat.mul_le_mul_right _ (Nat.pow_le_pow_right (n := 2) (by decide) hi)
    k_is
    refine ⟨l, x, 4, rfl, hl, by decide, by decide, fun n y hn => ?_⟩
    k_is
    refine ⟨_, rfl, by omega, by omega, ?_⟩
    rw [Int.toNat_natCast]
    refine for_range (fun i σ H1 => (∃ (z1 : Str) (v2 v3 v4 v5 : Option V), σ = [some (.str z1), some (.ref l), v2, v3, v4, v5] ∧ z1.length + 1 ≤ 2 ^ i * (z.length + 1)) ∧ SameX l H H1 ∧ ∃ y, H1 l = some (.lst [.int y])) ?_ ?_ ?_
    · exact ⟨⟨z, _, _, _, _, rfl, by omega⟩, SameX.upd (fun b u _ e => e), y, upd_same⟩
    · rintro i σ H1 hi ⟨⟨z1, v2, v3, v4, v5, rfl, hz1⟩, sx, y1, hl1⟩
      have hBi := hB i (by omega)
      have hzl : z1.length ≤ sizeLine := Nat.le_of_lt (small20000 (by omega))
      k_is
      refine ⟨l, y1, 4, rfl, hl1, by decide, by decide, fun w y2 hw => ?_⟩
      k_is
      refine ⟨_, rfl, hzl, ?_⟩
      k_is
      refine ⟨l, y2, z1.length + 1, rfl, upd_same, by omega, by omega, fun at' y3 hat => ?_⟩
      k_is
      refine ⟨l, y3, 15, rfl, upd_same, by decide, by decide, fun sg y4 hsg => ?_⟩
      have sx4 : SameX l H (upd (upd (upd H1 l (.lst [.int y2])) l (.lst [.int y3])) l (.lst [.int y4])) := SameX.upd (SameX.upd (SameX.upd sx))
      have hl4 : upd (upd (upd H1 l (.lst [.int y2])) l (.lst [.int y3])) l (.lst [.int y4]) l = some (.lst [.int y4]) := upd_same
      generalize upd (upd (upd H1 l (.lst [.int y2])) l (.lst [.int y3])) l (.lst [.int y4]) = H4 at *
      k_is
      have hch : ∃ c, ("01 2-aO+l_x\n\t.I" : Str).cps.toList[sg]? = some c := ⟨("01 2-aO+l_x\n\t.I" : Str).cps.toList[sg]'(Nat.lt_of_lt_of_le hsg (by decide)), List.getElem?_eq_getElem _⟩
      obtain ⟨ch, hch⟩ := hch
      refine ⟨_, _, ch, rfl, rfl, few (by decide), atI_nat hch, ?_⟩
      have h1 : (⟨#[ch]⟩ : Str).length = 1 := rfl
      k_is
      refine iteP (fun _ => ?_) (fun _ => ?_)
      · k_is
        refine ⟨z1, rfl, hzl, ?_⟩
        k_is
        have c1 := cut_len z1 none (some (at' : Int))
        generalize cutS z1 none (some (at' : Int)) = za at *
        refine ⟨za, _, rfl, rfl, Nat.le_of_lt (small20000 (by omega)), ?_⟩
        k_is
        refine ⟨z1, rfl, hzl, ?_⟩
        k_is
        have c2 := cut_len z1 (some (at' : Int)) none
        generalize cutS z1 (some (at' : Int)) none = zb at *
        refine ⟨_, zb, rfl, rfl, Nat.le_of_lt (small20000 (by rw [app_len]; omega)), ?_⟩
        k_is
        exact ⟨⟨_, _, _, _, _, rfl, grow2 hz1 (by rw [app_len, app_len]; omega)⟩, sx4, y4, hl4⟩
      · k_is
        refine iteP (fun _ => ?_) (fun _ => ?_)
        · k_is
          refine ⟨z1, rfl, hzl, ?_⟩
          k_is
          have c1 := cut_len z1 none (some (at' : Int))
          generalize cutS z1 none (some (at' : Int)) = za at *
          refine ⟨za, _, rfl, rfl, Nat.le_of_lt (small20000 (by omega)), ?_⟩
          k_is
          refine ⟨z1, rfl, hzl, ?_⟩
          k_is
          have c2 := cut_len z1 (some ((at' : Int) + 1)) none
          generalize cutS z1 (some ((at' : Int) + 1)) none = zb at *
          refine ⟨_, zb, rfl, rfl, Nat.le_of_lt (small20000 (by rw [app_len]; omega)), ?_⟩
          k_is
          exact ⟨⟨_, _, _, _, _, rfl, grow2 hz1 (by rw [app_len, app_len]; omega)⟩, sx4, y4, hl4⟩
        · k_is
          refine iteP (fun _ => ?_) (fun _ => ?_)
          · k_is
            refine ⟨z1, rfl, hzl, ?_⟩
            k_is
            refine ⟨z1, rfl, hzl, ?_⟩
            k_is
            have c1 := cut_len z1 none (some (at' : Int))
            generalize cutS z1 none (some (at' : Int)) = za at *
            have c2 := cut_len z1 (some ((at' : Int) + 1)) none
            generalize cutS z1 (some ((at' : Int) + 1)) none = zb at *
            refine ⟨za, zb, rfl, rfl, Nat.le_of_lt (small20000 (by omega)), ?_⟩
            k_is
            exact ⟨⟨_, _, _, _, _, rfl, grow2 hz1 (by rw [app_len]; omega)⟩, sx4, y4, hl4⟩
          · k_is
            refine ⟨z1, rfl, hzl, ?_⟩
            k_is
            have c1 := cut_len z1 none (some (at' : Int))
            exact ⟨⟨_, _, _, _, _, rfl, grow2 hz1 (by omega)⟩, sx4, y4, hl4⟩
    · rintro σ H1 ⟨⟨z1, v2, v3, v4, v5, rfl, hz1⟩, sx, y1, hl1⟩
      have hBn := hB n (by omega)
      k_is
      exact q z1 y1 H1 (by omega) sx hl1

def ovN : Option Nat → V
  | none => .non
  | some d => .int d
theorem in_01 (c : Nat) : (if true = true then !inV (V.str (sgn c)) [V.str "0", V.str "1"] else inV (V.str (sgn c)) [V.str "0", V.str "1"]) = !decide (c = 48 ∨ c = 49) := by
  rw [if_pos rfl]
  congr 1
  by_cases h0 : c = 48
  · subst h0; rfl
  · by_cases h1 : c = 49
    · subst h1; rfl
    · rw [decide_eq_false (by omega)]
      have e0 : (("0" : Str) == sgn c) = false := beq_eq_false_iff_ne.mpr fun e => h0 ((List.cons.inj (show [48] = [c] from congrArg (fun z : Str => z.cps.toList) e)).1.symm)
      have e1 : (("1" : Str) == sgn c) = false := beq_eq_false_iff_ne.mpr fun e => h1 ((List.cons.inj (show [49] = [c] from congrArg (fun z : Str => z.cps.toList) e)).1.symm)
      show ((("0" : Str) == sgn c) || ((("1" : Str) == sgn c) || false)) = false
      rw [e0, e1]
      rfl
def spLong : Sp := fun vs H Q _ => ∃ (z : Str) (kd : Nat), vs = [.str z, .int kd] ∧ kd ≤ 2 ∧ z.length ≤ 9000 ∧ ∀ H', Same H H' → Q (ovN (sgV (bgn kd) (.str z))) H'
theorem ok_law_longest {f : Addr} {fd : FuncData} (F : Fun K "_law_longest" "_law_longest" s_law_longest f fd) (T : Txt K mg C_WoodError C_NoBits C_NoPlace C_NoRow C_NoWood) : FnOk P w K mg base CX0 1 f fd ["_law_row", "_law_kind"] spLong := by
  refine F.ok sc_law_longest (fun vs H Q E h => ?_) (fun cdv A outer s H vs Q E hr h => ?_)
  · obtain ⟨z, kd, rfl, _⟩ := h
    rfl
  · obtain ⟨z, kd, rfl, hk, hz, q⟩ := h
    refine ⟨_, (pss_cons (ps_set (i := 2) sc_law_longest.nd rfl (Or.inl rfl) pe_int)
      (pss_cons (ps_set (i := 3) sc_law_longest.nd rfl (Or.inl rfl) pe_int)
      (pss_cons (ps_for PassesOwn.never rfl (pi_enumS rfl T.n_enumerate (pa_d (pv 0) pa_nil rfl)) (pg_tup rfl (pgs_cons (pg_name (i := 4) sc_law_longest.nd rfl (Or.inl rfl)) (pgs_cons (pg_name (i := 5) sc_law_longest.nd rfl (Or.inl rfl)) pgs_nil)))
      (pss_cons (ps_if (PW.pt (pw_or (pt_cmpR op_notIn_seq (pv 5) (pe_lst (pa_d pe_str (pa_d pe_str pa_nil rfl) rfl)) rfl) (pw_or1 (PW.pt (pw_and (pt_cmpR op_gt (pv 1) pe_int (nomark _)) (pw_and1 (pt_cmpR op_lt (pv 2) pe_int (nomark _)))))))) (pss_one (ps_ret (pv 4)))
      pss_nil)
      (pss_one (ps_if (pt_cmpR op_eq (pv 5) pe_str (nomark _)) (pss_cons (ps_if (pt_cmpR op_eq (pv 3) pe_int (nomark _)) (pss_one (ps_ret (pv 4)))
      pss_nil)
      (pss_cons (ps_set (i := 3) sc_law_longest.nd rfl (Or.inl rfl) (pe_op op_add (pv 3) pe_int))
      (pss_one (ps_set (i := 2) sc_law_longest.nd rfl (Or.inl rfl) (pe_op op_add (pv 2) pe_int)))))
      (pss_cons (ps_if (PW.pt (pw_and (pt_cmpR op_eq (pv 1) pe_int (nomark _)) (pw_and1 (pt_cmpR op_eq (pv 2) pe_int (nomark _))))) (pss_one (ps_ret (pv 4)))
      pss_nil)
      (pss_one (ps_set (i := 2) sc_law_longest.nd rfl (Or.inl rfl) (pe_op op_sub (pv 2) pe_int))))))))
      (pss_cons (ps_if (pt_cmpR op_ne (pv 2) (pe_op op_sub pe_int (pe_callTy call_int1 (by rfl) T.n_int b_int (pa_d (pe_cmpR op_gt (pv 1) pe_int (nomark _)) pa_nil rfl))) (nomark _)) (pss_one (ps_ret (pe_callB call_len_str (by rfl) T.n_len b_len (pa_d (pv 0) pa_nil rfl))))
      pss_nil)
      (pss_one (ps_ret pe_non)))))), ?_⟩
    have hzs : z.cps.size = z.length := rfl
    have hb : bgn kd ≤ 1 := by unfold bgn; split <;> omega
    have hb0 : bgn kd = 0 ↔ kd = 0 := by unfold bgn; split <;> omega
    generalize bgn kd = b at *
    k_is
    refine ⟨_, rfl, ?_⟩
    refine for_enumS (fun i σ H1 => (∃ (h k : Nat) (v4 v5 : Option V), σ = [some (.str z), some (.int kd), some (.int ((h : Int) - b)), some (.int k), v4, v5] ∧ h ≤ i + 1 ∧ k ≤ i ∧ k ≤ 4000 ∧ sgF b (z.cps.toList.drop i) i h k = sgV b (.str z)) ∧ Same H H1) ?_ ?_ ?_
    · refine ⟨⟨b, 0, none, none, ?_, by omega, Nat.le_refl _, by omega, rfl⟩, Same.refl _⟩
      rw [show ((b : Int) - b) = 0 by omega]
      rfl
    · rintro i c σ H1 t hc ⟨⟨h, k, v4, v5, rfl, hhi, hki, hk4, hd⟩, s1⟩ ht
      have hi : i < z.length := (Array.getElem?_eq_some_iff.mp hc).1
      rw [cps_drop hc] at hd
      unfold sgF at hd
      have s2 := s1.trans (same_upd (o := .tup [.int i, .str (sgn c)]) ht)
      generalize upd H1 t (.tup [.int i, .str (sgn c)]) = H2 at *
      k_is
      refine ⟨few (by simp), fun q1 hq1 => ?_⟩
      have u1 := same_upd (o := .lst [V.str "0", V.str "1"]) hq1
      have s3 := s2.trans u1
      k_is
      refine ⟨q1, _, rfl, .inl (SqL.of upd_same), rfl, rfl, ?_⟩
      generalize upd H2 q1 (.lst [V.str "0", V.str "1"]) = H3 at *
      k_is
      rw [in_01]
      have out : some i = sgV b (.str z) → Q (.int (i : Nat)) H3 := fun e => by
        have := q H3 s3
        rw [← e] at this
        exact this
      by_cases h01 : c = 48 ∨ c = 49
      · rw [decide_eq_true h01]
        k_is
        refine iteP (fun hk0 => ?_) (fun hk0 => ?_)
        · k_is
          refine iteP (fun hh => ?_) (fun hh => ?_)
          · have hb1 : b = 1 := by omega
            rw [if_neg (by omega), if_neg (by omega)] at hd
            k_is
            exact out hd
          · have hb1 : b = 1 := by omega
            subst hb1
            k_is
            refine iteP (fun e1 => ?_) (fun e1 => ?_)
            · obtain rfl := sgn_one e1
              k_is
              refine iteP (fun ek => ?_) (fun ek => ?_)
              · have ek : k = 4000 := by have := V.int.inj ek; omega
                rw [if_neg (by omega), if_neg (by omega)] at hd
                k_is
                exact out hd
              · have ek : k ≠ 4000 := fun e => ek (by rw [e]; rfl)
                rw [if_pos ⟨rfl, by omega, by omega⟩] at hd
                k_is
                refine ⟨⟨h + 1, k + 1, some (.int i), some (.str (sgn 49)), ?_, by omega, by omega, by omega, hd⟩, s3⟩
                rw [show (((h + 1 : Nat) : Int) - ((1 : Nat) : Int)) = (h : Int) - ((1 : Nat) : Int) + 1 by omega]
                rfl
            · have hc8 : c = 48 := h01.resolve_right fun e => e1 (by rw [e]; rfl)
              subst hc8
              rw [if_neg (by omega), if_pos ⟨rfl, by omega⟩] at hd
              k_is
              refine iteP (fun e => absurd (V.int.inj e) (by omega)) (fun _ => ?_)
              k_is
              refine ⟨⟨h - 1, k, some (.int i), some (.str (sgn 48)), ?_, by omega, by omega, hk4, hd⟩, s3⟩
              rw [show (((h - 1 : Nat) : Int) - ((1 : Nat) : Int)) = (h : Int) - ((1 : Nat) : Int) - 1 by omega]
              rfl
        · have hb1 : b = 0 := hb0.mpr (by omega)
          have hk0 : kd = 0 := by omega
          subst hb1
          k_is
          refine iteP (fun e1 => ?_) (fun e1 => ?_)
          · obtain rfl := sgn_one e1
            k_is
            refine iteP (fun ek => ?_) (fun ek => ?_)
            · have ek : k = 4000 := by have := V.int.inj ek; omega
              rw [if_neg (by omega), if_neg (by omega)] at hd
              k_is
              exact out hd
            · have ek : k ≠ 4000 := fun e => ek (by rw [e]; rfl)
              rw [if_pos ⟨rfl, by omega, by omega⟩] at hd
              k_is
              refine ⟨⟨h + 1, k + 1, some (.int i), some (.str (sgn 49)), ?_, by omega, by omega, by omega, hd⟩, s3⟩
              rw [show (((h + 1 : Nat) : Int) - ((0 : Nat) : Int)) = (h : Int) - ((0 : Nat) : Int) + 1 by omega]
              rfl
          · have hc8 : c = 48 := h01.resolve_right fun e => e1 (by rw [e]; rfl)
            subst hc8
            rw [if_neg (by omega)] at hd
            k_is
            refine iteP (fun _ => ?_) (fun e => absurd (by rw [hk0]; rfl) e)
            k_is
            refine iteP (fun e0 => ?_) (fun e0 => ?_)
            · have e0 : h = 0 := by have := V.int.inj e0; omega
              rw [if_neg (by omega)] at hd
              k_is
              exact out hd
            · have e0 : h ≠ 0 := fun e => e0 (by rw [e]; rfl)
              rw [if_pos ⟨rfl, by omega⟩] at hd
              k_is
              refine ⟨⟨h - 1, k, some (.int i), some (.str (sgn 48)), ?_, by omega, by omega, hk4, hd⟩, s3⟩
              rw [show (((h - 1 : Nat) : Int) - ((0 : Nat) : Int)) = (h : Int) - ((0 : Nat) : Int) - 1 by omega]
              rfl
      · rw [decide_eq_false h01]
        rw [if_neg (fun e => h01 (.inr e.1)), if_neg (fun e => h01 (.inl e.1))] at hd
        k_is
        exact out hd
    · rintro σ H1 ⟨⟨h, k, v4, v5, rfl, hhi, hki, hk4, hd⟩, s1⟩
      rw [List.drop_of_length_le (by rw [cps_len, hzs]; exact Nat.le_refl _)] at hd
      have hd : (if 0 < h then some z.cps.size else none) = sgV b (.str z) := hd
      rw [hzs] at hd
      k_is
      refine .inr ⟨_, rfl, ?_⟩
      k_is
      have eb : (0 : Int) - (if decide (0 < (kd : Int)) = true then 1 else 0) = 0 - (b : Int) := by
        by_cases e : kd = 0
        · rw [if_neg (by simp; omega), hb0.mpr e]
          rfl
        · rw [if_pos (by simp; omega)]
          have : b ≠ 0 := fun e2 => e (hb0.mp e2)
          omega
      rw [eb]
      refine iteN (fun hne => ?_) (fun he => ?_)
      · have h0 : 0 < h := by
          rcases Nat.eq_zero_or_pos h with e | e
          · exact absurd (by rw [e]; rfl) hne
          · exact e
        rw [if_pos h0] at hd
        k_is
        refine ⟨_, rfl, Nat.le_of_lt (small20000 (by omega)), ?_⟩
        have := q H1 s1
        rw [← hd] at this
        exact this
      · have h0 : h = 0 := by have := V.int.inj he; omega
        rw [if_neg (by omega)] at hd
        k_is
        have := q H1 s1
        rw [← hd] at this
        exact this

def spTold (K : PySem.W.Frag) : Sp := fun vs H Q _ => ∃ (v : V) (one other : Nat), vs = [v, .int one, .int other] ∧ AnyS K H v ∧ (∀ z, v = .str z → z.length ≤ 9000) ∧ (sgV (bgn one) v = none → ∀ H', Same H H' → Q (.str "text") H') ∧
  ∀ d : Nat, sgV (bgn one) v = some d → ∀ p H', Same H H' → H' p = some (.tup [.str "none", .int d]) → Q (.ref p) H'
theorem ok_law_told {f : Addr} {fd : FuncData} (F : Fun K "_law_told" "_law_told" s_law_told f fd) (T : Txt K mg C_WoodError C_NoBits C_NoPlace C_NoRow C_NoWood) (c_law_led : CalE P w K mg base "_law_led" 6 ["_law_row", "_law_one", "_law_other"] (spLedL K C_NoWood)) : FnOk P w K mg base CX0 7 f fd ["_law_row", "_law_one", "_law_other"] (spTold K) := by
  refine F.ok sc_law_told (fun vs H Q E h => ?_) (fun cdv A outer s H vs Q E hr h => ?_)
  · obtain ⟨v, one, other, rfl, _⟩ := h
    rfl
  · obtain ⟨v, one, other, rfl, hS, hz, q, qk⟩ := h
    refine ⟨_, (pss_cons (ps_set (i := 3) sc_law_told.nd rfl (Or.inl rfl) pe_non)
      (pss_cons (ps_try (i := 4) rfl rfl rfl sc_law_told.nd rfl rfl rfl T.g_WoodError (fun E pins σ => (pss_one_at (ps_set_at (i := 3) sc_law_told.nd rfl (Or.inl rfl) (pe_fn_at c_law_led (hr.mono (by decide : 6 ≤ _)) land_pass (pa_d (pv 0) (pa_d (pv 1) (pa_d (pv 2) pa_nil rfl) rfl) rfl)))))
      (fun e => (pss_cons (ps_if (PW.pt (pw_or (pt_not (pt_val (pe_callB (call_isinstXK K) (by rfl) T.n_isinstance b_isinstance (pa_d (pv 4) (pa_d (pe_glob (v := .ref _) rfl T.g_NoWood rfl) pa_nil rfl) rfl)))) (pw_or (pt_not (pt_val (pe_callB (call_isinstXK K) (by rfl) T.n_isinstance b_isinstance (pa_d (pv 4) (pa_d (pe_bltn (v := .ty "ValueError") rfl T.n_ValueError b_ValueError rfl) pa_nil rfl) rfl)))) (pw_or1 (pt_val (pe_callB (call_isinstXT K) (by rfl) T.n_isinstance b_isinstance (pa_d (pv 4) (pa_d (pe_tup (pa_d (pe_glob (v := .ref _) rfl T.g_NoRow rfl) (pa_d (pe_glob (v := .ref _) rfl T.g_NoBits rfl) (pa_d (pe_glob (v := .ref _) rfl T.g_NoPlace rfl) pa_nil rfl) rfl) rfl)) pa_nil rfl) rfl))))))) (pss_one (ps_ret (pe_tup (pa_d pe_str (pa_d pe_int pa_nil rfl) rfl))))
      pss_nil)
      (pss_cons (ps_if (PW.pt (pw_or (pt_not (pt_val (pe_callB (call_isinK K) (by rfl) T.n_isinstance b_isinstance (pa_d (pe_placeK K (pv 4)) (pa_d (pe_bltn (v := .ty "int") rfl T.n_int b_int rfl) pa_nil rfl) rfl)))) (pw_or1 (pt_val (pe_callB (call_isinK K) (by rfl) T.n_isinstance b_isinstance (pa_d (pe_placeK K (pv 4)) (pa_d (pe_bltn (v := .ty "bool") rfl T.n_bool b_bool rfl) pa_nil rfl) rfl)))))) (pss_one (ps_ret (pe_tup (pa_d pe_str (pa_d pe_int pa_nil rfl) rfl))))
      pss_nil)
      (pss_one (ps_ret (pe_tup (pa_d pe_str (pa_d (pe_placeK K (pv 4)) pa_nil rfl) rfl))))))))
      (pss_one (ps_ret (pe_ix ix_list (pe_lst (pa_d pe_str (pa_d pe_str pa_nil rfl) rfl)) (pe_callTy call_int1 (by rfl) T.n_int b_int (pa_d (pe_callB call_isinst (by rfl) T.n_isinstance b_isinstance (pa_d (pv 3) (pa_d (pe_bltn (v := .ty "str") rfl T.n_str b_str rfl) pa_nil rfl) rfl)) pa_nil rfl)) (fun _ _ => rfl)))))), ?_⟩
    k_is
    refine ⟨fun C od H' => Same H H' ∧ C = .ref C_NoWood ∧ ∃ (dx : Addr) (k : Nat), od = some dx ∧ sgV (bgn one) v = some k ∧ H' dx = some (.xd [("place", .int k)]), ?_, ?_⟩
    · k_is
      refine ⟨v, one, other, rfl, v, rfl, hS, hz, fun z hv hn z' _ H1 s1 => ?_, fun d hd dx H1 s1 _ hx => ⟨s1, rfl, dx, d, rfl, hd, hx⟩⟩
      subst hv
      have q := q hn
      k_is
      refine ⟨few (by simp), fun p hp => ?_⟩
      have u := same_upd (o := .lst [V.str "other", V.str "text"]) hp
      k_is
      refine ⟨_, _, _, _, rfl, .str _, (by rfl), ?_⟩
      k_is
      refine .inr ⟨_, rfl, ?_⟩
      refine r_ixL (SqL.of upd_same) (v := .str "text") rfl ?_
      exact q _ (s1.trans u)
    · rintro C od H' e ⟨sH, hC, dx, k, rfl, hf, hx⟩ he
      have hC := Value.ref.inj hC
      rw [hC] at *
      have t1 := same_upd (o := excO e C_NoWood (some dx)) he
      have s1 := sH.trans t1
      have he1 : upd H' e (excO e C_NoWood (some dx)) e = some (excO e C_NoWood (some dx)) := upd_same
      have hx1 := t1 _ _ hx
      generalize upd H' e (excO e C_NoWood (some dx)) = H1 at *
      refine ⟨T.em_NoWood, ?_⟩
      obtain ⟨fo, O⟩ := T.ow_NoWood
      k_is
      refine ⟨e, C_NoWood, (some dx), _, _, _, rfl, he1, T.k_NoWood, rfl, T.kit_NoWood_NoWood, ?_⟩
      k_is
      refine ⟨e, C_NoWood, (some dx), _, _, _, rfl, he1, T.k_NoWood, rfl, T.kit_NoWood_ValueError, ?_⟩
      k_is
      refine ⟨few (by simp), fun t2 h2 => ?_⟩
      have u2 := same_upd (o := .tup [V.ref C_NoRow, V.ref C_NoBits, V.ref C_NoPlace]) h2
      k_is
      refine ⟨e, C_NoWood, (some dx), t2, _, [.ref C_NoRow, .ref C_NoBits, .ref C_NoPlace], false, rfl, u2 _ _ he1, T.k_NoWood, upd_same, ⟨rfl, rfl, rfl, trivial⟩, by simp only [PySem.W.kitAny, T.kit_NoWood_NoRow, T.kit_NoWood_NoBits, T.kit_NoWood_NoPlace], ?_⟩
      k_is
      refine ⟨e, C_WoodError, C_NoWood, fo, dx, _, k, rfl, u2 _ _ he1, O, T.k_NoWood, u2 _ _ hx1, rfl, ?_⟩
      k_is
      refine ⟨_, _, _, _, rfl, .int _, (by rfl), ?_⟩
      k_is
      refine ⟨e, C_WoodError, C_NoWood, fo, dx, _, k, rfl, u2 _ _ he1, O, T.k_NoWood, u2 _ _ hx1, rfl, ?_⟩
      k_is
      refine ⟨_, _, _, false, rfl, .int _, (by rfl), ?_⟩
      k_is
      refine ⟨e, C_WoodError, C_NoWood, fo, dx, _, k, rfl, u2 _ _ he1, O, T.k_NoWood, u2 _ _ hx1, rfl, ?_⟩
      k_is
      refine ⟨few (by simp), fun p3 h3 => ?_⟩
      k_is
      have s3 := (s1.trans u2).trans (same_upd (o := .tup [V.str "none", V.int (k : Int)]) h3)
      exact qk k hf p3 _ s3 upd_same

def spCell (K : PySem.W.Frag) : Sp := fun vs H Q _ => ∃ (a : Addr) (ns : List Int) (k : Nat), vs = [.ref a, .int k] ∧ SqL K H a (ns.map V.int) ∧ ∀ c : Int, Q (.int c) H
theorem ok_law_cell_at {f : Addr} {fd : FuncData} (F : Fun K "_law_cell_at" "_law_cell_at" s_law_cell_at f fd) (T : Txt K mg C_WoodError C_NoBits C_NoPlace C_NoRow C_NoWood) : FnOk P w K mg base CX0 1 f fd ["_law_script", "_law_k"] (spCell K) := by
  refine F.ok sc_law_cell_at (fun vs H Q E h => ?_) (fun cdv A outer s H vs Q E hr h => ?_)
  · obtain ⟨a, ns, k, rfl, _⟩ := h
    rfl
  · obtain ⟨a, ns, k, rfl, hS, q⟩ := h
    refine ⟨_, (pss_cons (ps_if (pt_cmpR op_lt (pv 1) (pe_callB call_len_seq (by rfl) T.n_len b_len (pa_d (pv 0) pa_nil rfl)) (nomark _)) (pss_one (ps_ret (pe_ix ix_list (pv 0) (pv 1) (fun _ _ => rfl))))
      pss_nil)
      (pss_one (ps_ret pe_int))), ?_⟩
    k_is
    refine ⟨a, _, rfl, .inl hS, ?_⟩
    k_is
    rw [List.length_map]
    refine iteP (fun hb => ?_) (fun hb => ?_)
    · k_is
      have hk : k < ns.length := by omega
      refine r_ixL hS (v := .int ns[k]) ?_ (q _)
      refine atI_nat ?_
      rw [List.getElem?_map, List.getElem?_eq_getElem hk]
      rfl
    · k_is
      exact q 0

def spTwice : Sp := fun vs H Q _ => ∃ (c : Int) (k : Nat), vs = [.int c, .int k] ∧ k ≤ 1000 ∧ ∀ r : Nat, r < 300000000 → Q (.int r) H
theorem ok_law_twice {f : Addr} {fd : FuncData} (F : Fun K "_law_twice" "_law_twice" s_law_twice f fd) (T : Txt K mg C_WoodError C_NoBits C_NoPlace C_NoRow C_NoWood) : FnOk P w K mg base CX0 1 f fd ["_law_cell", "_law_k"] spTwice := by
  refine F.ok sc_law_twice (fun vs H Q E h => ?_) (fun cdv A outer s H vs Q E hr h => ?_)
  · obtain ⟨c, k, rfl, _⟩ := h
    rfl
  · obtain ⟨c, k, rfl, hk, q⟩ := h
    refine ⟨_, (pss_cons (ps_set (i := 2) sc_law_twice.nd rfl (Or.inl rfl) (pe_op op_mod (pe_op op_mul (pe_op op_add (pe_op op_add (pe_op op_add (pe_op op_mod (pv 0) pe_int) (pe_op op_mul (pe_op op_mul pe_int (pv 1)) (pv 1))) (pv 1)) pe_int) pe_int) pe_int))
      (pss_one (ps_ret (pe_op op_fdiv (pe_op op_mod (pe_op op_mul (pe_op op_add (pv 2) (pv 1)) pe_int) pe_int) pe_int)))), ?_⟩
    k_is
    refine r_mulR (by omega) (by omega) ?_
    k_is
    generalize ((c % 2147483647 + 7919 * (k : Int) * k + k + 1) * 48271 % 2147483629 + k) * 69621 = z
    have h0 := Int.emod_nonneg z (show (2147483647 : Int) ≠ 0 by decide)
    have h1 := Int.emod_lt_of_pos z (show (0 : Int) < 2147483647 by decide)
    have e : z % 2147483647 / 8 = ((z % 2147483647 / 8).toNat : Int) := by omega
    rw [e]
    exact q _ (by omega)

def spGrown : Sp := fun vs H Q _ => ∃ (c : Int) (n : Nat), vs = [.int c, .int n] ∧ n ≤ 60 ∧ ∀ p (ds : List Nat) H', Same H H' → H p = none → H' p = some (.lst ((elds ds).map V.int)) → Dok ds → ds.length = n → Q (.ref p) H'
theorem way_cons {ds : List Nat} (h : Dok ds) {k : Nat} (hk : k ≤ ds.length) : [V.int (-1)] ++ (way ds k).tail.map V.int = (way ds k).map V.int := by
  rw [way_head h hk]
  rfl
theorem way_getV {ds : List Nat} (h : Dok ds) {k d : Nat} (hk : k ≤ ds.length) (hd : d ≤ opn ds k) : atI ((way ds k).map V.int) (d : Int) = some (.int ((way ds k).getD d 0)) := by
  refine atI_nat (iV_at ?_)
  have hw := way_len h k hk
  unfold List.getD
  rw [List.getElem?_eq_getElem (by omega)]
  rfl
theorem ok_law_grown {f : Addr} {fd : FuncData} (F : Fun K "_law_grown" "_law_grown" s_law_grown f fd) (T : Txt K mg C_WoodError C_NoBits C_NoPlace C_NoRow C_NoWood) : FnOk P w K mg base CX0 1 f fd ["_law_cell", "_law_many"] spGrown := by
  refine F.ok sc_law_grown (fun vs H Q E h => ?_) (fun cdv A outer s H vs Q E hr h => ?_)
  · obtain ⟨c, n, rfl, _⟩ := h
    rfl
  · obtain ⟨c, n, rfl, hn, q⟩ := h
    refine ⟨_, (pss_cons (ps_set (i := 2) sc_law_grown.nd rfl (Or.inl rfl) (pe_lst pa_nil))
      (pss_cons (ps_set (i := 3) sc_law_grown.nd rfl (Or.inl rfl) (pe_lst pa_nil))
      (pss_cons (ps_for PassesOwn.never rfl (pi_range1 rfl T.n_range (pa_d (pv 1) pa_nil rfl)) (pg_name (i := 4) sc_law_grown.nd rfl (Or.inl rfl))
      (pss_cons (ps_set (i := 5) sc_law_grown.nd rfl (Or.inl rfl) (pe_op op_mod (pv 0) (pe_op op_add (pe_callB call_len_seq (by rfl) T.n_len b_len (pa_d (pv 3) pa_nil rfl)) pe_int)))
      (pss_cons (ps_set (i := 0) sc_law_grown.nd rfl (Or.inl rfl) (pe_op op_fdiv (pv 0) (pe_op op_add (pe_callB call_len_seq (by rfl) T.n_len b_len (pa_d (pv 3) pa_nil rfl)) pe_int)))
      (pss_cons (ps_expr (pe_bm PySem.F.plainAttrs_list PySem.F.slot_list_append PySem.F.type_list_append mt_append (pv 2) (pa_d (pe_ix ix_list (pe_op op_cat (pe_lst (pa_d (pe_un un_neg pe_int) pa_nil rfl)) (pv 3)) (pv 5) (fun _ _ => rfl)) pa_nil rfl)))
      (pss_one (ps_set (i := 3) sc_law_grown.nd rfl (Or.inl rfl) (pe_op op_cat (pe_slice sl_list (pv 3) po_none (po_some (pv 5))) (pe_lst (pa_d (pv 4) pa_nil rfl)))))))))
      (pss_one (ps_ret (pv 2)))))), ?_⟩
    k_is
    refine ⟨Nat.zero_le _, fun p hp => ?_⟩
    k_is
    refine ⟨Nat.zero_le _, fun p0 hp0 => ?_⟩
    have t0 := same_upd (o := .lst []) hp
    have t1 := same_upd (o := .lst []) hp0
    k_is
    refine ⟨_, rfl, by omega, by omega, ?_⟩
    rw [Int.toNat_natCast]
    refine for_range (fun k σ H1 => (∃ (q : Addr) (ds : List Nat) (g : Int) (v w : Option V), σ = [some (.int g), some (.int n), some (.ref p), some (.ref q), v, w] ∧ Dok ds ∧ ds.length = k ∧ H1 p = some (.lst ((elds ds).map V.int)) ∧ H1 q = some (.lst ((way ds k).tail.map V.int)) ∧ p ≠ q) ∧ Same H H1) ?_ ?_ ?_
    · exact ⟨⟨p0, [], _, _, _, rfl, (fun k hk => by cases hk), rfl, t1 _ _ upd_same, upd_same, ne_of_none upd_same hp0⟩, t0.trans t1⟩
    · rintro k σ H1 hk ⟨⟨q1, ds, g, v, w', rfl, hD, hl, hp1, hq1, hne⟩, s1⟩
      have hw := way_len hD k (by omega)
      have hok := opn_le hD k (by omega)
      have hwt : (way ds k).tail.length = opn ds k := by rw [List.length_tail]; omega
      k_is
      refine ⟨q1, _, rfl, .inl (SqL.of hq1), ?_⟩
      k_is
      rw [List.length_map, hwt]
      refine r_mod (by omega) ?_
      k_is
      obtain ⟨d, hd, hd1⟩ := emod_nat g (opn ds k)
      rw [hd]
      refine ⟨q1, _, rfl, .inl (SqL.of hq1), ?_⟩
      k_is
      rw [List.length_map, hwt]
      refine r_div (by omega) (by omega) ?_
      k_is
      refine ⟨.inl ⟨rfl, _, SqL.of hp1⟩, ?_⟩
      k_is
      refine ⟨few (by simp), fun q3 h3 => ?_⟩
      have u3 := same_upd (o := .lst [V.int (-1)]) h3
      k_is
      refine ⟨q3, q1, _, _, rfl, rfl, upd_same, u3 _ _ hq1, ?_, fun q4 h4 => ?_⟩
      · rw [List.length_map, hwt]
        exact few (by simp only [List.length_cons, List.length_nil]; omega)
      rw [way_cons hD (by omega)] at *
      have u4 := u3.trans (same_upd (o := .lst ((way ds k).map V.int)) h4)
      have h44 : (upd (upd H1 q3 (.lst [V.int (-1)])) q4 (.lst ((way ds k).map V.int))) q4 = some (.lst ((way ds k).map V.int)) := upd_same
      generalize (upd (upd H1 q3 (.lst [V.int (-1)])) q4 (.lst ((way ds k).map V.int))) = H4 at *
      k_is
      refine r_ixL (SqL.of h44) (way_getV hD (by omega) hd1) ?_
      k_is
      refine r_append (u4 _ _ hp1) ?_ ?_
      · rw [List.length_map, elds_len]
        exact small20000 (by omega)
      have s5 := push_same (o := .lst ((elds ds).map V.int ++ [V.int ((way ds k).getD d 0)])) (s1.trans u4) hp
      have hq5 : upd H4 p (.lst ((elds ds).map V.int ++ [V.int ((way ds k).getD d 0)])) q1 = some (.lst ((way ds k).tail.map V.int)) := by rw [upd_ne hne.symm]; exact u4 _ _ hq1
      have hp5 : upd H4 p (.lst ((elds ds).map V.int ++ [V.int ((way ds k).getD d 0)])) p = some (.lst ((elds ds).map V.int ++ [V.int ((way ds k).getD d 0)])) := upd_same
      generalize upd H4 p (.lst ((elds ds).map V.int ++ [V.int ((way ds k).getD d 0)])) = H5 at *
      k_is
      refine ⟨q1, _, rfl, SqL.of hq5, fun q6 h6 => ?_⟩
      rw [cut_to, ← List.map_take] at *
      have u6 := same_upd (o := .lst (((way ds k).tail.take d).map V.int)) h6
      k_is
      refine ⟨few (by simp), fun q7 h7 => ?_⟩
      have u7 := same_upd (o := .lst [V.int (0 + (k : Int))]) h7
      refine ⟨q6, q7, _, _, rfl, rfl, u7 _ _ upd_same, upd_same, ?_, fun q8 h8 => ?_⟩
      · rw [List.length_map, List.length_take]
        exact few (by simp only [List.length_cons, List.length_nil]; omega)
      have u8 := same_upd (o := .lst (((way ds k).tail.take d).map V.int ++ [V.int (0 + (k : Int))])) h8
      k_is
      have hp8 := u8 _ _ (u7 _ _ (u6 _ _ hp5))
      refine ⟨⟨q8, ds ++ [d], _, _, _, rfl, dok_snoc hD (by rw [hl]; exact hd1), by rw [List.length_append, hl]; rfl, ?_, ?_, ne_of_none (u7 _ _ (u6 _ _ hp5)) h8⟩, ((s5.trans u6).trans u7).trans u8⟩
      · rw [hp8, elds_snoc, List.map_append, hl]
        rfl
      · have e := way_next ds d
        rw [hl] at e
        rw [upd_same, e, show (0 + (k : Int)) = (k : Int) by omega]
        have e2 : ((way ds k).take (d + 1) ++ [(k : Int)]).tail = (way ds k).tail.take d ++ [(k : Int)] := by
          rw [way_head hD (by omega)]
          rfl
        rw [e2, List.map_append]
        rfl
    · rintro σ H1 ⟨⟨q1, ds, g, v, w', rfl, hD, hl, hp1, hq1, hne⟩, s1⟩
      k_is
      exact q p ds H1 s1 hp hp1 hD hl

def spDrawn (K : PySem.W.Frag) : Sp := fun vs H Q _ => ∃ (a : Addr) (ns : List Int) (n : Nat), vs = [.ref a, .int n] ∧ SqL K H a (ns.map V.int) ∧ n ≤ 60 ∧ ∀ p (ds : List Nat) H', Same H H' → H p = none → H' p = some (.lst ((elds ds).map V.int)) → Dok ds → ds.length = n → Q (.ref p) H'
theorem ok_law_drawn {f : Addr} {fd : FuncData} (F : Fun K "_law_drawn" "_law_drawn" s_law_drawn f fd) (T : Txt K mg C_WoodError C_NoBits C_NoPlace C_NoRow C_NoWood) (c_law_cell_at : Cal P w K mg base "_law_cell_at" 1 ["_law_script", "_law_k"] (spCell K)) (c_law_twice : Cal P w K mg base "_law_twice" 1 ["_law_cell", "_law_k"] spTwice) : FnOk P w K mg base CX0 2 f fd ["_law_script", "_law_many"] (spDrawn K) := by
  refine F.ok sc_law_drawn (fun vs H Q E h => ?_) (fun cdv A outer s H vs Q E hr h => ?_)
  · obtain ⟨a, ns, n, rfl, _⟩ := h
    rfl
  · obtain ⟨a, ns, n, rfl, hS, hn, q⟩ := h
    refine ⟨_, (pss_cons (ps_set (i := 2) sc_law_drawn.nd rfl (Or.inl rfl) (pe_lst pa_nil))
      (pss_cons (ps_set (i := 3) sc_law_drawn.nd rfl (Or.inl rfl) (pe_lst pa_nil))
      (pss_cons (ps_for PassesOwn.never rfl (pi_range1 rfl T.n_range (pa_d (pv 1) pa_nil rfl)) (pg_name (i := 4) sc_law_drawn.nd rfl (Or.inl rfl))
      (pss_cons (ps_set (i := 5) sc_law_drawn.nd rfl (Or.inl rfl) (pe_fn c_law_twice (hr.mono (by decide : 1 ≤ _)) (pa_d (pe_fn c_law_cell_at (hr.mono (by decide : 1 ≤ _)) (pa_d (pv 0) (pa_d (pe_op op_add pe_int (pv 4)) pa_nil rfl) rfl)) (pa_d (pv 4) pa_nil rfl) rfl)))
      (pss_cons (ps_set (i := 6) sc_law_drawn.nd rfl (Or.inl rfl) (pe_callB call_len_seq (by rfl) T.n_len b_len (pa_d (pv 3) pa_nil rfl)))
      (pss_cons (ps_set (i := 7) sc_law_drawn.nd rfl (Or.inl rfl) (pe_op op_mod (pe_op op_fdiv (pv 5) pe_int) (pe_op op_add (pv 6) pe_int)))
      (pss_cons (ps_set (i := 8) sc_law_drawn.nd rfl (Or.inl rfl) (pe_ix ix_list (pe_lst (pa_d (pv 7) (pa_d (pv 6) (pa_d (pe_callB (call_max2 rfl) (by rfl) T.n_max b_max (pa_d pe_int (pa_d (pe_op op_sub (pv 6) (pe_op op_mod (pe_op op_fdiv (pv 5) pe_int) pe_int)) pa_nil rfl) rfl)) (pa_d (pe_callB (call_min2 rfl) (by rfl) T.n_min b_min (pa_d (pv 7) (pa_d pe_int pa_nil rfl) rfl)) pa_nil rfl) rfl) rfl) rfl)) (pe_op op_mod (pv 5) pe_int) (fun _ _ => rfl)))
      (pss_cons (ps_expr (pe_bm PySem.F.plainAttrs_list PySem.F.slot_list_append PySem.F.type_list_append mt_append (pv 2) (pa_d (pe_ix ix_list (pe_op op_cat (pe_lst (pa_d (pe_un un_neg pe_int) pa_nil rfl)) (pv 3)) (pv 8) (fun _ _ => rfl)) pa_nil rfl)))
      (pss_one (ps_set (i := 3) sc_law_drawn.nd rfl (Or.inl rfl) (pe_op op_cat (pe_slice sl_list (pv 3) po_none (po_some (pv 8))) (pe_lst (pa_d (pv 4) pa_nil rfl)))))))))))
      (pss_one (ps_ret (pv 2)))))), ?_⟩
    k_is
    refine ⟨Nat.zero_le _, fun p hp => ?_⟩
    k_is
    refine ⟨Nat.zero_le _, fun p0 hp0 => ?_⟩
    have t0 := same_upd (o := .lst []) hp
    have t1 := same_upd (o := .lst []) hp0
    k_is
    refine ⟨_, rfl, by omega, by omega, ?_⟩
    rw [Int.toNat_natCast]
    refine for_range (fun k σ H1 => (∃ (q : Addr) (ds : List Nat) (v4 v5 v6 v7 v8 : Option V), σ = [some (.ref a), some (.int n), some (.ref p), some (.ref q), v4, v5, v6, v7, v8] ∧ Dok ds ∧ ds.length = k ∧ H1 p = some (.lst ((elds ds).map V.int)) ∧ H1 q = some (.lst ((way ds k).tail.map V.int)) ∧ p ≠ q) ∧ Same H H1) ?_ ?_ ?_
    · exact ⟨⟨p0, [], _, _, _, _, _, rfl, (fun k hk => by cases hk), rfl, t1 _ _ upd_same, upd_same, ne_of_none upd_same hp0⟩, t0.trans t1⟩
    · rintro k σ H1 hk ⟨⟨q1, ds, v4, v5, v6, v7, v8, rfl, hD, hl, hp1, hq1, hne⟩, s1⟩
      have hw := way_len hD k (by omega)
      have hok := opn_le hD k (by omega)
      have hwt : (way ds k).tail.length = opn ds k := by rw [List.length_tail]; omega
      k_is
      refine ⟨a, ns, 3 + k, by simp, s1.seq hS, fun c => ?_⟩
      k_is
      refine ⟨c, k, by simp, by omega, fun r hr1 => ?_⟩
      k_is
      refine ⟨q1, _, rfl, .inl (SqL.of hq1), ?_⟩
      k_is
      rw [List.length_map, hwt]
      refine r_mod (by omega) ?_
      k_is
      obtain ⟨d0, hd0, hd01⟩ := emod_nat ((r : Int) / 4) (opn ds k)
      rw [hd0]
      k_is
      refine ⟨_, _, rfl, ?_⟩
      k_is
      refine ⟨_, _, rfl, ?_⟩
      k_is
      refine ⟨few (by simp), fun q9 h9 => ?_⟩
      k_is
      obtain ⟨d, hat, hd1⟩ : ∃ d : Nat, atI [V.int (d0 : Int), V.int (opn ds k : Int), V.int (if (opn ds k : Int) - (r : Int) / 4 % 3 > 0 then (opn ds k : Int) - (r : Int) / 4 % 3 else 0), V.int (if (2 : Int) < (d0 : Int) then 2 else (d0 : Int))] ((r : Int) % 4) = some (.int d) ∧ d ≤ opn ds k := by
        have h4 : (r : Int) % 4 = ((r % 4 : Nat) : Int) := (Int.natCast_emod r 4).symm
        rw [h4]
        have hr4 : r % 4 < 4 := Nat.mod_lt _ (by decide)
        generalize r % 4 = m at *
        match m, hr4 with
        | 0, _ => exact ⟨d0, atI_nat rfl, hd01⟩
        | 1, _ => exact ⟨opn ds k, atI_nat rfl, Nat.le_refl _⟩
        | 2, _ =>
          refine ⟨((opn ds k : Int) - (r : Int) / 4 % 3).toNat, (atI_nat rfl).trans ?_, by omega⟩
          congr 2
          split <;> omega
        | 3, _ =>
          refine ⟨min 2 d0, (atI_nat rfl).trans ?_, by omega⟩
          congr 2
          split <;> omega
      have u9 := same_upd (o := .lst [V.int (d0 : Int), V.int (opn ds k : Int), V.int (if (opn ds k : Int) - (r : Int) / 4 % 3 > 0 then (opn ds k : Int) - (r : Int) / 4 % 3 else 0), V.int (if (2 : Int) < (d0 : Int) then 2 else (d0 : Int))]) h9
      refine r_ixL (SqL.of upd_same) hat ?_
      replace hp1 := u9 _ _ hp1
      replace hq1 := u9 _ _ hq1
      replace s1 := s1.trans u9
      generalize upd H1 q9 _ = H1 at *
      k_is
      refine ⟨.inl ⟨rfl, _, SqL.of hp1⟩, ?_⟩
      k_is
      refine ⟨few (by simp), fun q3 h3 => ?_⟩
      have u3 := same_upd (o := .lst [V.int (-1)]) h3
      k_is
      refine ⟨q3, q1, _, _, rfl, rfl, upd_same, u3 _ _ hq1, ?_, fun q4 h4 => ?_⟩
      · rw [List.length_map, hwt]
        exact few (by simp only [List.length_cons, List.length_nil]; omega)
      rw [way_cons hD (by omega)] at *
      have u4 := u3.trans (same_upd (o := .lst ((way ds k).map V.int)) h4)
      have h44 : (upd (upd H1 q3 (.lst [V.int (-1)])) q4 (.lst ((way ds k).map V.int))) q4 = some (.lst ((way ds k).map V.int)) := upd_same
      generalize (upd (upd H1 q3 (.lst [V.int (-1)])) q4 (.lst ((way ds k).map V.int))) = H4 at *
      k_is
      refine r_ixL (SqL.of h44) (way_getV hD (by omega) hd1) ?_
      k_is
      refine r_append (u4 _ _ hp1) ?_ ?_
      · rw [List.length_map, elds_len]
        exact small20000 (by omega)
      have s5 := push_same (o := .lst ((elds ds).map V.int ++ [V.int ((way ds k).getD d 0)])) (s1.trans u4) hp
      have hq5 : upd H4 p (.lst ((elds ds).map V.int ++ [V.int ((way ds k).getD d 0)])) q1 = some (.lst ((way ds k).tail.map V.int)) := by rw [upd_ne hne.symm]; exact u4 _ _ hq1
      have hp5 : upd H4 p (.lst ((elds ds).map V.int ++ [V.int ((way ds k).getD d 0)])) p = some (.lst ((elds ds).map V.int ++ [V.int ((way ds k).getD d 0)])) := upd_same
      generalize upd H4 p (.lst ((elds ds).map V.int ++ [V.int ((way ds k).getD d 0)])) = H5 at *
      k_is
      refine ⟨q1, _, rfl, SqL.of hq5, fun q6 h6 => ?_⟩
      rw [cut_to, ← List.map_take] at *
      have u6 := same_upd (o := .lst (((way ds k).tail.take d).map V.int)) h6
      k_is
      refine ⟨few (by simp), fun q7 h7 => ?_⟩
      have u7 := same_upd (o := .lst [V.int (0 + (k : Int))]) h7
      refine ⟨q6, q7, _, _, rfl, rfl, u7 _ _ upd_same, upd_same, ?_, fun q8 h8 => ?_⟩
      · rw [List.length_map, List.length_take]
        exact few (by simp only [List.length_cons, List.length_nil]; omega)
      have u8 := same_upd (o := .lst (((way ds k).tail.take d).map V.int ++ [V.int (0 + (k : Int))])) h8
      k_is
      have hp8 := u8 _ _ (u7 _ _ (u6 _ _ hp5))
      refine ⟨⟨q8, ds ++ [d], _, _, _, _, _, rfl, dok_snoc hD (by rw [hl]; exact hd1), by rw [List.length_append, hl]; rfl, ?_, ?_, ne_of_none (u7 _ _ (u6 _ _ hp5)) h8⟩, ((s5.trans u6).trans u7).trans u8⟩
      · rw [hp8, elds_snoc, List.map_append, hl]
        rfl
      · have e := way_next ds d
        rw [hl] at e
        rw [upd_same, e, show (0 + (k : Int)) = (k : Int) by omega]
        have e2 : ((way ds k).take (d + 1) ++ [(k : Int)]).tail = (way ds k).tail.take d ++ [(k : Int)] := by
          rw [way_head hD (by omega)]
          rfl
        rw [e2, List.map_append]
        rfl
    · rintro σ H1 ⟨⟨q1, ds, v4, v5, v6, v7, v8, rfl, hD, hl, hp1, hq1, hne⟩, s1⟩
      k_is
      exact q p ds H1 s1 hp hp1 hD hl

def spRep : Sp := fun vs H Q _ => ∃ (a : Addr) (ds : List Nat) (m : Nat) (b : Bool), vs = [.ref a, .int m, .bl b] ∧ H a = some (.lst ((elds ds).map V.int)) ∧ Dok ds ∧ 0 < ds.length ∧ m * ds.length ≤ 1000 ∧ ds.length ≤ 60 ∧ ∀ p (es : List Nat) H', Same H H' → H p = none → H' p = some (.lst ((elds es).map V.int)) → Dok es → es.length = (m + 1) * ds.length → Q (.ref p) H'
theorem way_lastI {ds : List Nat} (h : Dok ds) (hp : 0 < ds.length) : (way ds ds.length).getD (opn ds ds.length) 0 = (ds.length : Int) - 1 := by
  obtain ⟨k, hk⟩ : ∃ k, ds.length = k + 1 := ⟨ds.length - 1, by omega⟩
  rw [hk]
  show ((way ds k).take (dAt ds k + 1) ++ [(k : Int)]).getD (dAt ds k + 1) 0 = _
  have hw := way_len h k (by omega)
  have := h k (by omega)
  unfold List.getD
  rw [List.getElem?_append_right (by rw [List.length_take]; omega), List.length_take, Nat.min_eq_left (by omega), Nat.sub_self]
  show (k : Int) = ((k + 1 : Nat) : Int) - 1
  omega
theorem ok_law_repeated {f : Addr} {fd : FuncData} (F : Fun K "_law_repeated" "_law_repeated" s_law_repeated f fd) (T : Txt K mg C_WoodError C_NoBits C_NoPlace C_NoRow C_NoWood) : FnOk P w K mg base CX0 1 f fd ["_law_elders", "_law_times", "_law_hung"] spRep := by
  refine F.ok sc_law_repeated (fun vs H Q E h => ?_) (fun cdv A outer s H vs Q E hr h => ?_)
  · obtain ⟨a, ds, m, b, rfl, _⟩ := h
    rfl
  · obtain ⟨a, ds, m, b, rfl, ha, hD, hpos, hm, hn, q⟩ := h
    have hm1 : m ≤ 1000 := Nat.le_trans (Nat.le_mul_of_pos_right m hpos) hm
    refine ⟨_, (pss_cons (ps_set (i := 3) sc_law_repeated.nd rfl (Or.inl rfl) (pe_callTy call_list_of (by rfl) T.n_list b_list (pa_d (pv 0) pa_nil rfl)))
      (pss_cons (ps_for PassesOwn.never rfl (pi_range1 rfl T.n_range (pa_d (pv 1) pa_nil rfl)) (pg_name (i := 4) sc_law_repeated.nd rfl (Or.inl rfl))
      (pss_cons (ps_set (i := 5) sc_law_repeated.nd rfl (Or.inr rfl) (pe_callB call_len_seq (by rfl) T.n_len b_len (pa_d (pv 3) pa_nil rfl)))
      (pss_cons (ps_set (i := 6) sc_law_repeated.nd rfl (Or.inr rfl) (pe_un un_neg pe_int))
      (pss_cons (ps_ifJ (pt_val (pv 2)) (pss_one (ps_set (i := 6) sc_law_repeated.nd rfl (Or.inr rfl) (pe_op op_sub (pv 5) pe_int)))
      pss_nil)
      (pss_one (ps_set (i := 3) sc_law_repeated.nd rfl (Or.inl rfl) (pe_op op_cat (pv 3) (pe_lc rfl lc_law_repeated_0 (pi_list (pv 0)) (fun _ _ _ _ => pif_nil) (fun _ _ _ _ => (pe_ifExp (pt_cmpR op_lt (pv 0) pe_int (nomark _)) (pv 1) (pe_op op_add (pv 0) (pv 2))))))))))))
      (pss_one (ps_ret (pv 3))))), ?_⟩
    k_is
    refine ⟨a, _, rfl, .inl (SqL.of ha), fun p hp => ?_⟩
    have t0 := same_upd (o := .lst ((elds ds).map V.int)) hp
    k_is
    refine ⟨_, rfl, by omega, by omega, ?_⟩
    rw [Int.toNat_natCast]
    refine for_range (fun k σ H1 => (∃ (p1 : Addr) (es : List Nat) (v4 v5 v6 : Option V), σ = [some (.ref a), some (.int m), some (.bl b), some (.ref p1), v4, v5, v6] ∧ Dok es ∧ es.length = (k + 1) * ds.length ∧ H p1 = none ∧ H1 p1 = some (.lst ((elds es).map V.int))) ∧ Same H H1) ?_ ?_ ?_
    · exact ⟨⟨p, ds, _, _, _, rfl, hD, by omega, hp, upd_same⟩, t0⟩
    · rintro k σ H1 hk ⟨⟨p1, es, v4, v5, v6, rfl, hE, hl, hp0, hp1⟩, s1⟩
      have hlm : (k + 1) * ds.length ≤ 1000 := Nat.le_trans (Nat.mul_le_mul_right _ (by omega)) hm
      have hlp : 0 < es.length := by rw [hl]; exact Nat.mul_pos (Nat.succ_pos _) hpos
      k_is
      refine ⟨p1, _, rfl, .inl (SqL.of hp1), ?_⟩
      k_is
      rw [List.length_map, elds_len]
      refine r_ifJ (fun σ H' => H' = H1 ∧ ∃ D : Nat, D ≤ opn es es.length ∧ σ = [some (.ref a), some (.int m), some (.bl b), some (.ref p1), some (.int (0 + (k : Int))), some (.int (es.length : Int)), some (.int ((way es es.length).getD D 0))]) ?_ ?_
      · k_is
        cases b with
        | true =>
          k_is
          refine ⟨rfl, opn es es.length, Nat.le_refl _, ?_⟩
          rw [way_lastI hE hlp]
          rfl
        | false =>
          k_is
          refine ⟨rfl, 0, Nat.zero_le _, ?_⟩
          have e1 : (way es es.length).getD 0 0 = -1 := by rw [way_head hE (Nat.le_refl _)]; rfl
          rw [e1]
          rfl
      · rintro σ H' ⟨rfl, D, hDo, rfl⟩
        k_is
        generalize hbs : (way es es.length).getD D 0 = bs
        refine ⟨a, rfl, ⟨_, SqL.of (s1 _ _ ha)⟩, ?_⟩
        refine lc_list (SqL.of (s1 _ _ ha)) (fun i => ((elds ds).take i |>.map (shI es.length bs)).map V.int) rfl (fun i hi => ?_) (fun i x H2 R A hx s2 kR kA => ?_) (fun D2 H2 hD2 s2 hl2 => ?_)
        · rw [List.length_map, List.length_map, List.length_take]
          exact small20000 (by rw [elds_len]; omega)
        · obtain ⟨n, hn2, rfl⟩ := iV_get hx
          have hacc : (((elds ds).take (i + 1)).map (shI es.length bs)).map V.int = (((elds ds).take i).map (shI es.length bs)).map V.int ++ [.int (shI es.length bs n)] := by
            rw [List.take_add_one, hn2, List.map_append, List.map_append]
            rfl
          k_is
          refine iteP (fun h => ?_) (fun h => ?_)
          · k_is
            refine kA _ _ ?_ (Same.refl _)
            rw [hacc]
            unfold shI
            rw [if_pos h]
          · k_is
            refine kA _ _ ?_ (Same.refl _)
            rw [hacc]
            unfold shI
            rw [if_neg h]
        · rw [List.take_of_length_le (by rw [List.length_map]; exact Nat.le_refl _)] at hl2
          obtain ⟨c1, c2, _⟩ := cat_all hE hDo ds hD
          rw [hbs] at c2
          k_is
          refine ⟨p1, D2, _, _, rfl, rfl, s2 _ _ hp1, hl2, ?_, fun p3 hp3 => ?_⟩
          · simp only [List.length_map, elds_len]
            exact Nat.le_of_lt (small20000 (by omega))
          have u3 := same_upd (o := .lst ((elds es).map V.int ++ ((elds ds).map (shI es.length bs)).map V.int)) hp3
          k_is
          refine ⟨⟨p3, catD es D ds, _, _, _, rfl, c1, ?_, (s1.trans s2).free hp3, ?_⟩, (s1.trans s2).trans u3⟩
          · rw [catD_len, hl, Nat.add_mul (k + 1) 1, Nat.one_mul]
          · rw [upd_same, c2, List.map_append]
    · rintro σ H1 ⟨⟨p1, es, v4, v5, v6, rfl, hE, hl, hp0, hp1⟩, s1⟩
      k_is
      exact q p1 es H1 s1 hp0 hp1 hE hl

def spWoodL (K : PySem.W.Frag) : Sp := fun vs H Q _ => ∃ (a : Addr) (ns : List Int) (L : Nat), vs = [.ref a, .int 60, .int L] ∧ SqL K H a (ns.map V.int) ∧ L ≤ 400 ∧ ∀ p (ds : List Nat) H', Same H H' → H p = none → H' p = some (.lst ((elds ds).map V.int)) → Dok ds → ds.length ≤ 460 → Q (.ref p) H'
theorem ok_law_wood {f : Addr} {fd : FuncData} (F : Fun K "_law_wood" "_law_wood" s_law_wood f fd) (T : Txt K mg C_WoodError C_NoBits C_NoPlace C_NoRow C_NoWood) (c_law_cell_at : Cal P w K mg base "_law_cell_at" 1 ["_law_script", "_law_k"] (spCell K)) (c_law_grown : Cal P w K mg base "_law_grown" 1 ["_law_cell", "_law_many"] spGrown) (c_law_drawn : Cal P w K mg base "_law_drawn" 2 ["_law_script", "_law_many"] (spDrawn K)) (c_law_repeated : Cal P w K mg base "_law_repeated" 1 ["_law_elders", "_law_times", "_law_hung"] spRep) : FnOk P w K mg base CX0 3 f fd ["_law_script", "_law_most", "_law_large"] (spWoodL K) := by
  refine F.ok sc_law_wood (fun vs H Q E h => ?_) (fun cdv A outer s H vs Q E hr h => ?_)
  · obtain ⟨a, ns, L, rfl, _⟩ := h
    rfl
  · obtain ⟨a, ns, L, rfl, hS, hL, q⟩ := h
    refine ⟨_, (pss_cons (ps_set (i := 3) sc_law_wood.nd rfl (Or.inl rfl) (pe_fn c_law_cell_at (hr.mono (by decide : 1 ≤ _)) (pa_d (pv 0) (pa_d pe_int pa_nil rfl) rfl)))
      (pss_cons (ps_set (i := 4) sc_law_wood.nd rfl (Or.inl rfl) (pe_op op_mod (pe_op op_fdiv (pv 3) pe_int) (pe_op op_add (pv 1) pe_int)))
      (pss_cons (ps_set (i := 5) sc_law_wood.nd rfl (Or.inl rfl) (pe_fn c_law_drawn (hr.mono (by decide : 2 ≤ _)) (pa_d (pv 0) (pa_d (pv 4) pa_nil rfl) rfl)))
      (pss_cons (ps_ifJ (PW.pt (pw_and (pt_cmpR op_eq (pe_op op_mod (pv 3) pe_int) pe_int (nomark _)) (pw_and1 (pt_cmpR op_ge (pe_callB call_abs (by rfl) T.n_abs b_abs (pa_d (pe_fn c_law_cell_at (hr.mono (by decide : 1 ≤ _)) (pa_d (pv 0) (pa_d pe_int pa_nil rfl) rfl)) pa_nil rfl)) (pe_op op_pow pe_int pe_int) (nomark _))))) (pss_one (ps_set (i := 5) sc_law_wood.nd rfl (Or.inl rfl) (pe_fn c_law_grown (hr.mono (by decide : 1 ≤ _)) (pa_d (pe_fn c_law_cell_at (hr.mono (by decide : 1 ≤ _)) (pa_d (pv 0) (pa_d pe_int pa_nil rfl) rfl)) (pa_d (pv 4) pa_nil rfl) rfl))))
      pss_nil)
      (pss_cons (ps_ifJ (PW.pt (pw_and (pt_cmpR op_eq (pe_op op_mod (pe_op op_fdiv (pv 3) pe_int) pe_int) pe_int (nomark _)) (pw_and1 (pt_cmpR op_gt (pv 4) pe_int (nomark _))))) (pss_one (ps_set (i := 5) sc_law_wood.nd rfl (Or.inl rfl) (pe_fn c_law_repeated (hr.mono (by decide : 1 ≤ _)) (pa_d (pv 5) (pa_d (pe_op op_fdiv (pv 2) (pv 4)) (pa_d (pe_cmpR op_eq (pe_op op_mod (pe_fn c_law_cell_at (hr.mono (by decide : 1 ≤ _)) (pa_d (pv 0) (pa_d pe_int pa_nil rfl) rfl)) pe_int) pe_int (nomark _)) pa_nil rfl) rfl) rfl))))
      pss_nil)
      (pss_one (ps_ret (pv 5)))))))), ?_⟩
    k_is
    refine ⟨a, ns, 0, rfl, hS, fun c => ?_⟩
    k_is
    obtain ⟨n, hn, hn1⟩ := emod_nat (c / 8) 60
    have hn' : c / 8 % (60 + 1) = (n : Int) := hn
    rw [hn']
    refine ⟨a, ns, n, rfl, hS, hn1, fun p0 d0 H1 s1 hp0 h0 hD0 hl0 => ?_⟩
    k_is
    refine r_ifJ (fun σ H' => Same H H' ∧ ∃ (p : Addr) (ds : List Nat), σ = [some (.ref a), some (.int 60), some (.int L), some (.int c), some (.int n), some (.ref p)] ∧ H p = none ∧ H' p = some (.lst ((elds ds).map V.int)) ∧ Dok ds ∧ ds.length = n) ?_ ?_
    · k_is
      have keep : Same H H1 ∧ ∃ (p : Addr) (ds : List Nat), [some (V.ref a), some (.int 60), some (.int L), some (.int c), some (.int n), some (.ref p0)] = [some (V.ref a), some (.int 60), some (.int L), some (.int c), some (.int n), some (.ref p)] ∧ H p = none ∧ H1 p = some (.lst ((elds ds).map V.int)) ∧ Dok ds ∧ ds.length = n := ⟨s1, p0, d0, rfl, hp0, h0, hD0, hl0⟩
      refine iteP (fun h2 => ?_) (fun h2 => ?_)
      · k_is
        refine ⟨a, ns, 1, rfl, s1.seq hS, fun c1 => ?_⟩
        k_is
        refine ⟨_, rfl, ?_⟩
        k_is
        refine ⟨10, 18, rfl, rfl, ⟨by decide, by decide, by decide⟩, ?_⟩
        k_is
        refine iteP (fun h3 => ?_) (fun h3 => ?_)
        · k_is
          refine ⟨a, ns, 1, rfl, s1.seq hS, fun c2 => ?_⟩
          k_is
          refine ⟨c2, n, rfl, hn1, fun p1 d1 H3 s3 hp1 h1 hD1 hl1 => ?_⟩
          k_is
          exact ⟨s1.trans s3, p1, d1, rfl, s1.free hp1, h1, hD1, hl1⟩
        · k_is
          exact keep
      · k_is
        exact keep
    · rintro σ H2 ⟨s2, p, ds, rfl, hp, h2, hD, hl⟩
      k_is
      refine r_ifJ (fun σ H' => Same H H' ∧ ∃ (p : Addr) (es : List Nat), σ = [some (.ref a), some (.int 60), some (.int L), some (.int c), some (.int n), some (.ref p)] ∧ H p = none ∧ H' p = some (.lst ((elds es).map V.int)) ∧ Dok es ∧ es.length ≤ 460) ?_ ?_
      · have keep : Same H H2 ∧ ∃ (q : Addr) (es : List Nat), [some (V.ref a), some (.int 60), some (.int L), some (.int c), some (.int n), some (.ref p)] = [some (V.ref a), some (.int 60), some (.int L), some (.int c), some (.int n), some (.ref q)] ∧ H q = none ∧ H2 q = some (.lst ((elds es).map V.int)) ∧ Dok es ∧ es.length ≤ 460 := ⟨s2, p, ds, rfl, hp, h2, hD, by omega⟩
        k_is
        refine iteP (fun h4 => ?_) (fun h4 => ?_)
        · k_is
          refine iteP (fun h5 => ?_) (fun h5 => ?_)
          · k_is
            refine r_div (by omega) (by omega) ?_
            k_is
            refine ⟨a, ns, 2, rfl, s2.seq hS, fun c3 => ?_⟩
            k_is
            have e1 : (L : Int) / (n : Int) = ((L / n : Nat) : Int) := (Int.natCast_ediv L n).symm
            have hm : L / n * n ≤ L := Nat.div_mul_le_self L n
            rw [e1]
            refine ⟨p, ds, L / n, _, rfl, h2, hD, by omega, by rw [hl]; omega, by omega, fun p4 es H4 s4 hp4 h44 hE hle => ?_⟩
            k_is
            refine ⟨s2.trans s4, p4, es, rfl, s2.free hp4, h44, hE, ?_⟩
            rw [hle, hl, Nat.add_mul, Nat.one_mul]
            omega
          · k_is
            exact keep
        · k_is
          exact keep
      · rintro σ H5 ⟨s5, p5, es, rfl, hp5, h5, hE, hle⟩
        k_is
        exact q p5 es H5 s5 hp5 h5 hE hle

theorem take_nextP {ds : List Nat} {k : Nat} (hk : k < ds.length) : nV (ds.take k) ++ [V.int (dAt ds k : Nat)] = nV (ds.take (k + 1)) := by
  unfold nV dAt List.getD
  rw [List.take_add_one, List.getElem?_eq_getElem hk, List.map_append]
  rfl
theorem zero_repP (n : Nat) : (List.replicate n [V.int 0]).flatten = (List.replicate n (0 : Int)).map V.int := by
  induction n with
  | zero => rfl
  | succ n ih => rw [List.replicate_succ, List.replicate_succ, List.flatten_cons, ih]; rfl
theorem lc_lists {K : PySem.W.Frag} {a : Addr} {xs : List V} {H1 : Hp} {fr : St} {Q : VK} (hl : SqL K H1 a xs) (hz : xs.length ≤ 5000)
    (fin : ∀ D (rs : List Addr) H, H1 D = none → Same H1 H → H D = some (.lst (rs.map V.ref)) → rs.length = xs.length → (∀ r ∈ rs, r ≠ D ∧ H1 r = none ∧ H r = some (.lst [])) → rs.Nodup → Q (.ref D) H) : rdLc (Itl K a) H1 fr tYes (tLst tNil) Q := by
  intro D hD
  refine ⟨fun i m H => i ≤ xs.length ∧ m = xs.length - i ∧ Same H1 H ∧ ∃ rs : List Addr, H D = some (.lst (rs.map V.ref)) ∧ rs.length = i ∧ (∀ r ∈ rs, r ≠ D ∧ H1 r = none ∧ H r = some (.lst [])) ∧ rs.Nodup, ⟨xs.length, Nat.zero_le _, rfl, same_upd hD, [], upd_same, rfl, (fun r hr => by cases hr), List.nodup_nil⟩, ?_⟩
  rintro i m H ⟨hi, rfl, sm, rs, hl2, hlen, hr, hnd⟩
  by_cases h : i = xs.length
  · exact .inl ⟨⟨xs, sm.seq hl, by omega⟩, fin D rs H hD sm hl2 (by omega) hr hnd⟩
  · have hlt : i < xs.length := Nat.lt_of_le_of_ne hi h
    refine .inr ⟨⟨xs, xs[i], sm.seq hl, by simp [hlt]⟩, fun x H' hyl => ?_⟩
    obtain rfl : H' = H := hyl.1
    refine ⟨Nat.zero_le _, fun p hp => ⟨rs.map V.ref, ?_, ?_, xs.length - (i + 1), by omega, by omega, rfl, fun b u e => ?_, rs ++ [p], ?_, by rw [List.length_append, hlen]; rfl, fun r hr2 => ?_, ?_⟩⟩
    · rw [upd_ne (ne_of_none hl2 hp)]
      exact hl2
    · rw [List.length_map]
      exact small20000 (by omega)
    · rw [upd_ne (ne_of_none e hD), upd_ne (ne_of_none (sm _ _ e) hp)]
      exact sm _ _ e
    · rw [upd_same, List.map_append]
      rfl
    · have hpD : p ≠ D := (ne_of_none hl2 hp).symm
      rcases List.mem_append.mp hr2 with h1 | h1
      · obtain ⟨a1, a2, a3⟩ := hr r h1
        exact ⟨a1, a2, by rw [upd_ne a1, upd_ne (ne_of_none a3 hp)]; exact a3⟩
      · obtain rfl := List.mem_singleton.mp h1
        exact ⟨hpD, sm.free hp, by rw [upd_ne hpD, upd_same]⟩
    · rw [List.nodup_append]
      refine ⟨hnd, by simp, fun x hx y hy => ?_⟩
      rw [List.mem_singleton.mp hy]
      exact ne_of_none (hr x hx).2.2 hp
structure PlAt (ds : List Nat) (H : Hp) (pi pt pd : Addr) (rs : List Addr) : Prop where
  hi : H pi = some (.lst (rs.map V.ref))
  ln : rs.length = ds.length
  hr : ∀ (i : Nat) r, rs[i]? = some r → H r = some (.lst (nV (kids ds ds.length i)))
  ht : H pt = some (.lst (nV (kids ds ds.length (-1))))
  hd : H pd = some (.lst (nV ds))
theorem PlAt.same {ds : List Nat} {H H' : Hp} {pi pt pd : Addr} {rs : List Addr} (h : PlAt ds H pi pt pd rs) (s : Same H H') : PlAt ds H' pi pt pd rs := ⟨s _ _ h.hi, h.ln, fun i r e => s _ _ (h.hr i r e), s _ _ h.ht, s _ _ h.hd⟩
def spPlain : Sp := fun vs H Q _ => ∃ (a : Addr) (ds : List Nat), vs = [.ref a] ∧ H a = some (.lst ((elds ds).map V.int)) ∧ Dok ds ∧ ds.length ≤ 3000 ∧ ∀ t pi pt pd x4 rs H', Same H H' → H' t = some (.tup [.ref pi, .ref pt, .ref pd, x4]) → PlAt ds H' pi pt pd rs → Q (.ref t) H'
structure PlI (H : Hp) (D p1 p2 : Addr) (rs : List Addr) (ds : List Nat) (k : Nat) (H1 : Hp) : Prop where
  s : Same H H1
  hD : H1 D = some (.lst (rs.map V.ref))
  hr : ∀ (i : Nat) r, rs[i]? = some r → r ≠ D ∧ r ≠ p1 ∧ r ≠ p2 ∧ H r = none ∧ H1 r = some (.lst (nV (kids ds k i)))
  ht : H1 p1 = some (.lst (nV (kids ds k (-1))))
  hd : H1 p2 = some (.lst (nV (ds.take k)))
theorem PlI.same {H H1 H2 : Hp} {D p1 p2 : Addr} {rs : List Addr} {ds : List Nat} {k : Nat} (h : PlI H D p1 p2 rs ds k H1) (s2 : Same H1 H2) : PlI H D p1 p2 rs ds k H2 :=
  ⟨h.s.trans s2, s2 _ _ h.hD, fun i r hr => let ⟨a1, a2, a3, a4, a5⟩ := h.hr i r hr; ⟨a1, a2, a3, a4, s2 _ _ a5⟩, s2 _ _ h.ht, s2 _ _ h.hd⟩
theorem nd_atP {α : Type} {l : List α} (h : l.Nodup) {i j : Nat} {x : α} (e1 : l[i]? = some x) (e2 : l[j]? = some x) : i = j := by
  have hi := at_lt e1
  have hj := at_lt e2
  rw [List.getElem?_eq_getElem hi] at e1
  rw [List.getElem?_eq_getElem hj] at e2
  rw [List.Nodup, List.pairwise_iff_getElem] at h
  by_cases a : i < j
  · exact absurd (by rw [Option.some.inj e1, Option.some.inj e2]) (h i j hi hj a)
  · by_cases b : j < i
    · exact absurd (by rw [Option.some.inj e1, Option.some.inj e2]) (h j i hj hi b)
    · omega
theorem ok_law_plain {f : Addr} {fd : FuncData} (F : Fun K "_law_plain" "_law_plain" s_law_plain f fd) (T : Txt K mg C_WoodError C_NoBits C_NoPlace C_NoRow C_NoWood) : FnOk P w K mg base CX0 1 f fd ["_law_elders"] spPlain := by
  refine F.ok sc_law_plain (fun vs H Q E h => ?_) (fun cdv A outer s H vs Q E hr h => ?_)
  · obtain ⟨a, ds, rfl, _⟩ := h
    rfl
  · obtain ⟨a, ds, rfl, ha, hD, hn, q⟩ := h
    have hle : ((elds ds).map V.int).length = ds.length := by rw [List.length_map, elds_len]
    refine ⟨_, (pss_cons (ps_setlc (i := 2) rfl lc_law_plain_0 sc_law_plain.nd rfl rfl (pi_list (pv 0)) (fun _ _ _ _ => pif_nil) (fun _ _ _ _ => (pe_lst pa_nil)))
      (pss_cons (ps_set (i := 3) sc_law_plain.nd rfl (Or.inl rfl) (pe_lst pa_nil))
      (pss_cons (ps_set (i := 4) sc_law_plain.nd rfl (Or.inl rfl) (pe_lst pa_nil))
      (pss_cons (ps_for PassesOwn.never rfl (pi_enum rfl T.n_enumerate (pa_d (pv 0) pa_nil rfl)) (pg_tup rfl (pgs_cons (pg_name (i := 5) sc_law_plain.nd rfl (Or.inl rfl)) (pgs_cons (pg_name (i := 1) sc_law_plain.nd rfl (Or.inl rfl)) pgs_nil)))
      (pss_one (ps_if (pt_cmpR op_lt (pv 1) pe_int (nomark _)) (pss_cons (ps_expr (pe_bm PySem.F.plainAttrs_list PySem.F.slot_list_append PySem.F.type_list_append mt_append (pv 3) (pa_d (pv 5) pa_nil rfl)))
      (pss_one (ps_expr (pe_bm PySem.F.plainAttrs_list PySem.F.slot_list_append PySem.F.type_list_append mt_append (pv 4) (pa_d pe_int pa_nil rfl)))))
      (pss_cons (ps_expr (pe_bm PySem.F.plainAttrs_list PySem.F.slot_list_append PySem.F.type_list_append mt_append (pe_ix ix_list (pv 2) (pv 1) (fun _ _ => rfl)) (pa_d (pv 5) pa_nil rfl)))
      (pss_one (ps_expr (pe_bm PySem.F.plainAttrs_list PySem.F.slot_list_append PySem.F.type_list_append mt_append (pv 4) (pa_d (pe_op op_add (pe_ix ix_list (pv 4) (pv 1) (fun _ _ => rfl)) pe_int) pa_nil rfl))))))))
      (pss_cons (ps_set (i := 6) sc_law_plain.nd rfl (Or.inl rfl) (pe_op op_rep (pe_lst (pa_d pe_int pa_nil rfl)) (pe_callB call_len_seq (by rfl) T.n_len b_len (pa_d (pv 0) pa_nil rfl))))
      (pss_cons (ps_for PassesOwn.never rfl (pi_revR rfl T.n_reversed rfl T.n_range (pa_d (pe_callB call_len_seq (by rfl) T.n_len b_len (pa_d (pv 0) pa_nil rfl)) pa_nil rfl)) (pg_name (i := 5) sc_law_plain.nd rfl (Or.inl rfl))
      (pss_one (ps_if (pt_cmpR op_ge (pe_ix ix_list (pv 0) (pv 5) (fun _ _ => rfl)) pe_int (nomark _)) (pss_one (ps_asg (pe_op op_add (pe_op op_add (pe_ix ix_list (pv 6) (pe_ix ix_list (pv 0) (pv 5) (fun _ _ => rfl)) (fun _ _ => rfl)) (pe_ix ix_list (pv 6) (pv 5) (fun _ _ => rfl))) pe_int) (pg_sub (pv 6) (pe_ix ix_list (pv 0) (pv 5) (fun _ _ => rfl)) set_list)))
      pss_nil)))
      (pss_one (ps_ret (pe_tup (pa_d (pv 2) (pa_d (pv 3) (pa_d (pv 4) (pa_d (pv 6) pa_nil rfl) rfl) rfl) rfl)))))))))), ?_⟩
    k_is
    refine ⟨a, rfl, ⟨_, SqL.of ha⟩, ?_⟩
    refine lc_lists (SqL.of ha) (by omega) (fun D rs H1 hDn s1 hD1 hrl hr1 hnd => ?_)
    rw [hle] at hrl
    k_is
    refine ⟨Nat.zero_le _, fun p1 hp1 => ?_⟩
    have u1 := same_upd (o := .lst []) hp1
    k_is
    refine ⟨Nat.zero_le _, fun p2 hp2 => ?_⟩
    have u2 := same_upd (o := .lst []) hp2
    have n12 : p1 ≠ p2 := ne_of_none upd_same hp2
    have nD1 : D ≠ p1 := ne_of_none hD1 hp1
    have nD2 : D ≠ p2 := ne_of_none (u1 _ _ hD1) hp2
    have h1n : H p1 = none := s1.free hp1
    have h2n : H p2 = none := s1.free (u1.free hp2)
    have J0 : PlI H D p1 p2 rs ds 0 (upd (upd H1 p1 (.lst [])) p2 (.lst [])) := ⟨(s1.trans u1).trans u2, u2 _ _ (u1 _ _ hD1), fun i r hr => by
      obtain ⟨a1, a2, a3⟩ := hr1 r (List.mem_of_getElem? hr)
      exact ⟨a1, ne_of_none a3 hp1, ne_of_none (u1 _ _ a3) hp2, a2, u2 _ _ (u1 _ _ a3)⟩, u2 _ _ upd_same, upd_same⟩
    generalize (upd (upd H1 p1 (.lst [])) p2 (.lst [])) = H2 at J0
    k_is
    refine ⟨a, rfl, ⟨_, SqL.of (J0.s _ _ ha)⟩, ?_⟩
    refine for_enum (xs := (elds ds).map V.int) (fun k σ H3 => (∃ v1 v5 v6 : Option V, σ = [some (.ref a), v1, some (.ref D), some (.ref p1), some (.ref p2), v5, v6]) ∧ PlI H D p1 p2 rs ds k H3) ⟨⟨_, _, _, rfl⟩, J0⟩ (fun k σ H3 _ h => SqL.of (h.2.s _ _ ha)) ?_ ?_
    · rintro k x σ H3 t hx ⟨⟨v1, v5, v6, rfl⟩, J3⟩ ht
      obtain ⟨e, he, rfl⟩ := iV_get hx
      have hk : k < ds.length := by have := at_lt he; rw [elds_len] at this; exact this
      obtain rfl : eld ds k = e := by rw [elds_at hk] at he; exact Option.some.inj he
      have J4 := J3.same (same_upd (o := .tup [.int k, .int (eld ds k)]) ht)
      generalize upd H3 t (.tup [.int k, .int (eld ds k)]) = H4 at J4
      have ht1 := J4.ht
      have htl := kids_le ds k (-1)
      have hdl : (nV (ds.take k)).length = k := by unfold nV; rw [List.length_map, List.length_take]; omega
      k_is
      refine iteP (fun hneg => ?_) (fun hpos => ?_)
      · have hd0 : dAt ds k = 0 := eld_top hD hk (by have := eld_ge hD hk; omega)
        k_is
        refine ⟨.inl ⟨rfl, _, SqL.of ht1⟩, ?_⟩
        k_is
        refine r_append ht1 (by rw [nV_len]; exact small20000 (by omega)) ?_
        have hem : eld ds k = -1 := by have := eld_ge hD hk; omega
        rw [show nV (kids ds k (-1)) ++ [V.int (k : Int)] = nV (kids ds (k + 1) (-1)) by rw [kids_yes hem]; exact nV_app _ [k]]
        k_is
        have hp25 : upd H4 p1 (.lst (nV (kids ds (k + 1) (-1)))) p2 = some (.lst (nV (ds.take k))) := by rw [upd_ne n12.symm]; exact J4.hd
        refine ⟨.inl ⟨rfl, _, SqL.of hp25⟩, ?_⟩
        k_is
        refine r_append hp25 (by rw [hdl]; exact small20000 (by omega)) ?_
        k_is
        refine ⟨⟨_, _, _, rfl⟩, push_same (push_same J4.s h1n) h2n, ?_, fun i r hr => ?_, by rw [upd_ne n12, upd_same], ?_⟩
        · rw [upd_ne nD2, upd_ne nD1]; exact J4.hD
        · obtain ⟨a1, a2, a3, a4, a5⟩ := J4.hr i r hr
          exact ⟨a1, a2, a3, a4, by rw [upd_ne a3, upd_ne a2, kids_no (by omega)]; exact a5⟩
        · rw [upd_same, ← take_nextP hk, hd0]; rfl
      · obtain ⟨v, hv, hvk, hdv⟩ := eld_deep hD hk (by omega)
        have hky : kids ds (k + 1) v = kids ds k v ++ [k] := kids_yes hv
        have hkn : ∀ i : Int, i ≠ v → kids ds (k + 1) i = kids ds k i := fun i hi => kids_no (by rw [hv]; exact fun e => hi e.symm)
        rw [hv] at *
        k_is
        have hrv : rs[v]? = some (rs[v]'(by omega)) := List.getElem?_eq_getElem _
        generalize rs[v]'(by omega) = r at hrv
        obtain ⟨a1, a2, a3, a4, a5⟩ := J4.hr v r hrv
        have hvl := kids_le ds k v
        refine r_ixL (SqL.of J4.hD) (v := .ref r) (atI_nat (by rw [List.getElem?_map, hrv]; rfl)) ?_
        k_is
        refine ⟨.inl ⟨rfl, _, SqL.of a5⟩, ?_⟩
        k_is
        refine r_append a5 (by rw [nV_len]; exact small20000 (by omega)) ?_
        rw [show nV (kids ds k v) ++ [V.int (k : Int)] = nV (kids ds (k + 1) v) by rw [hky]; exact nV_app _ [k]]
        k_is
        have hp25 : upd H4 r (.lst (nV (kids ds (k + 1) v))) p2 = some (.lst (nV (ds.take k))) := by rw [upd_ne a3.symm]; exact J4.hd
        refine ⟨.inl ⟨rfl, _, SqL.of hp25⟩, ?_⟩
        k_is
        have hat : atI (nV (ds.take k)) (v : Int) = some (.int (dAt ds v : Nat)) := by
          refine atI_nat ?_
          unfold nV
          rw [List.getElem?_map, List.getElem?_take_of_lt hvk]
          unfold dAt List.getD
          rw [List.getElem?_eq_getElem (by omega)]
          rfl
        refine r_ixL (SqL.of hp25) hat ?_
        k_is
        refine r_append hp25 (by rw [hdl]; exact small20000 (by omega)) ?_
        k_is
        refine ⟨⟨_, _, _, rfl⟩, push_same (push_same J4.s a4) h2n, ?_, fun i r' hr' => ?_, by rw [upd_ne n12, upd_ne a2.symm, hkn (-1) (by omega)]; exact ht1, ?_⟩
        · rw [upd_ne nD2, upd_ne a1.symm]; exact J4.hD
        · obtain ⟨b1, b2, b3, b4, b5⟩ := J4.hr i r' hr'
          by_cases hrr : i = v
          · subst hrr
            rw [hrv] at hr'
            obtain rfl := Option.some.inj hr'
            exact ⟨b1, b2, b3, b4, by rw [upd_ne b3, upd_same]⟩
          · refine ⟨b1, b2, b3, b4, ?_⟩
            rw [upd_ne b3, upd_ne (fun e => hrr (nd_atP hnd hr' (by rw [e]; exact hrv))), hkn i (by omega)]
            exact b5
        · rw [upd_same, ← take_nextP hk, hdv]; rfl
    · rintro σ H3 ⟨⟨v1, v5, v6, rfl⟩, J3⟩
      rw [hle] at J3
      have hd3 := J3.hd
      rw [List.take_of_length_le (Nat.le_refl _)] at hd3
      have s3 := J3.s
      have hD3 := J3.hD
      k_is
      refine ⟨few (by simp), fun p hp => ?_⟩
      have u0 := same_upd (o := .lst [V.int 0]) hp
      k_is
      refine ⟨a, _, rfl, .inl (SqL.of (u0 _ _ (s3 _ _ ha))), ?_⟩
      k_is
      rw [hle]
      refine ⟨p, ds.length, _, rfl, rfl, upd_same, by omega, by omega, Nat.le_of_lt (small20000 (by simp; omega)), fun m hm => ?_⟩
      have u1 := u0.trans (same_upd (o := .lst (List.replicate ((ds.length : Nat) : Int).toNat [V.int 0]).flatten) hm)
      have hm0 : H3 m = none := u0.free hm
      have hM : ∃ bs : List Int, bs.length = ds.length ∧ (upd (upd H3 p (.lst [V.int 0])) m (.lst (List.replicate ((ds.length : Nat) : Int).toNat [V.int 0]).flatten)) m = some (.lst (bs.map V.int)) := ⟨List.replicate ds.length 0, List.length_replicate, by rw [upd_same, Int.toNat_natCast, zero_repP]⟩
      generalize (upd (upd H3 p (.lst [V.int 0])) m (.lst (List.replicate ((ds.length : Nat) : Int).toNat [V.int 0]).flatten)) = H4 at *
      k_is
      refine ⟨a, _, rfl, .inl (SqL.of (u1 _ _ (s3 _ _ ha))), ?_⟩
      k_is
      rw [hle]
      refine ⟨ds.length, rfl, by omega, ?_⟩
      refine for_steps (fun k σ H5 => (∃ v1 v5 : Option V, σ = [some (.ref a), v1, some (.ref D), some (.ref p1), some (.ref p2), v5, some (.ref m)]) ∧ Same H3 H5 ∧ ∃ bs : List Int, bs.length = ds.length ∧ H5 m = some (.lst (bs.map V.int))) ⟨⟨_, _, rfl⟩, u1, hM⟩ ?_ ?_
      · rintro k σ H5 hk ⟨⟨v1, v5, rfl⟩, s5, bs, hbl, hm5⟩
        have ek : (ds.length : Int) - 1 + (k : Int) * (-1) = ((ds.length - 1 - k : Nat) : Int) := by omega
        rw [ek]
        have hj : ds.length - 1 - k < ds.length := by omega
        generalize ds.length - 1 - k = j at hj
        have haj : SqL K H5 a ((elds ds).map V.int) := SqL.of (s5 _ _ (s3 _ _ ha))
        have hej : atI ((elds ds).map V.int) (j : Int) = some (.int (eld ds j)) := atI_nat (iV_at (elds_at hj))
        k_is
        refine r_ixL haj hej ?_
        k_is
        refine iteP (fun hge => ?_) (fun hge => ?_)
        · obtain ⟨v, hv, hvk, _⟩ := eld_deep hD hj (by omega)
          have hbv : atI (bs.map V.int) (v : Int) = some (.int bs[v]) := atI_nat (iV_at (List.getElem?_eq_getElem (by omega)))
          have hbj : atI (bs.map V.int) (j : Int) = some (.int bs[j]) := atI_nat (iV_at (List.getElem?_eq_getElem (by omega)))
          k_is
          refine r_ixL haj hej ?_
          rw [hv]
          k_is
          refine r_ixL (SqL.of hm5) hbv ?_
          k_is
          refine r_ixL (SqL.of hm5) hbj ?_
          k_is
          refine r_ixL haj hej ?_
          k_is
          refine r_setL (j := v) hm5 (by rw [hv]) (by rw [List.length_map]; omega) ?_
          k_is
          refine ⟨⟨_, _, rfl⟩, push_same s5 hm0, bs.set v (bs[v] + bs[j] + 1), by rw [List.length_set]; exact hbl, ?_⟩
          rw [upd_same, List.map_set]
        · k_is
          exact ⟨⟨_, _, rfl⟩, s5, bs, hbl, hm5⟩
      · rintro σ H5 ⟨⟨v1, v5, rfl⟩, s5, bs, hbl, hm5⟩
        k_is
        refine ⟨few (by simp), fun t ht => ?_⟩
        have ut := same_upd (o := .tup [.ref D, .ref p1, .ref p2, .ref m]) ht
        exact q t D p1 p2 _ rs _ ((s3.trans s5).trans ut) upd_same ⟨ut _ _ (s5 _ _ hD3), hrl, fun i r e => ut _ _ (s5 _ _ (J3.hr i r e).2.2.2.2), ut _ _ (s5 _ _ J3.ht), ut _ _ (s5 _ _ hd3)⟩

def spOrd1 (t : Tb) : Sp := fun vs H Q _ => ∃ (l : Addr) (ds : List Nat), vs = [.ref l] ∧ H l = some (.lst (nV ds)) ∧ ds.length ≤ 10000 ∧ t.ok H ∧ ∀ p H', SameT H H' → t.ok H' → H p = none → H' p = some (.lst ((ordD ds).map V.int)) → Q (.ref p) H'
theorem ok_law_order {f c Pt : Addr} {fd : FuncData} (F : FunL K "_law_order" "_law_order" s_law_order f fd c Pt) (T : Txt K mg C_WoodError C_NoBits C_NoPlace C_NoRow C_NoWood) (hK : K.In base) (hB : base.BuiltinsAt mg Pt) : FnOk P w K mg base CX0 2 f fd ["_law_deep"] (spOrd1 ⟨Pt, pos_law_order, "_law_order.<locals>.<lambda>"⟩) := by
  refine F.ok sc_law_order (fun vs H Q E h => ?_) (fun A outer s H vs Q E hr h => ?_)
  · obtain ⟨l, ds, rfl, _⟩ := h
    rfl
  · obtain ⟨l, ds, rfl, hl, hn, ht, q⟩ := h
    refine ⟨_, (pss_one (ps_ret (pe_sortK (qual := "_law_order.<locals>.<lambda>") (i := 0) (cl := s.heap.objs.size + 1) rfl (hr.mono (by decide : 1 ≤ _)) rfl T.n_sorted (pe_lrange rfl rfl T.n_list rfl T.n_range (pa_d (pe_callB call_len_seq (by rfl) T.n_len b_len (pa_d (pv 0) pa_nil rfl)) pa_nil rfl)) (F.code hK) hB rfl rfl (by kernel_rfl) (by kernel_rfl) (by kernel_rfl) (by kernel_rfl) (fun _ _ _ _ _ => rfl)))), ?_⟩
    k_is
    refine ⟨l, _, rfl, .inl (SqL.of hl), ?_⟩
    k_is
    have e1 : (nV ds).length = ds.length := by unfold nV; rw [List.length_map]
    rw [e1]
    refine ⟨ds.length, rfl, by omega, fun p hp => ?_⟩
    have s1 := same_upd (o := .lst ((List.range ds.length).map fun i : Nat => V.int i)) hp
    have el : (iN ds).length = ds.length := List.length_map ..
    refine ⟨p, l, iN ds, rfl, rfl, by rw [← nV_iN]; exact s1 _ _ hl, by rw [el]; omega, .inl (by rw [el, upd_same]; unfold placesI; rw [List.map_map]; rfl), Tb.same s1 ht, fun p2 H' sx t2 hp2 hp3 => ?_⟩
    have hP := Tb.tbl (Tb.same s1 ht)
    refine q p2 H' ((sameT_of s1).trans (sameT_X sx hP (Tb.tbl (t := ⟨Pt, _, _⟩) t2))) t2 (s1.free hp2) ?_
    rw [hp3, el]
    rfl

def spOpenRow : Sp := fun vs H Q _ => ∃ (a : Addr) (ds : List Nat), vs = [.ref a] ∧ H a = some (.lst ((elds ds).map V.int)) ∧ Dok ds ∧ ds.length ≤ 3000 ∧ ∀ H', Same H H' → Q (.str (signs (rowD ds))) H'
theorem ok_law_open_row {f : Addr} {fd : FuncData} (F : Fun K "_law_open_row" "_law_open_row" s_law_open_row f fd) (T : Txt K mg C_WoodError C_NoBits C_NoPlace C_NoRow C_NoWood) : FnOk P w K mg base CX0 1 f fd ["_law_elders"] spOpenRow := by
  refine F.ok sc_law_open_row (fun vs H Q E h => ?_) (fun cdv A outer s H vs Q E hr h => ?_)
  · obtain ⟨a, ds, rfl, _⟩ := h
    rfl
  · obtain ⟨a, ds, rfl, ha, hD, hn, q⟩ := h
    refine ⟨_, (pss_cons (ps_set (i := 1) sc_law_open_row.nd rfl (Or.inl rfl) pe_str)
      (pss_cons (ps_set (i := 2) sc_law_open_row.nd rfl (Or.inl rfl) (pe_lst pa_nil))
      (pss_cons (ps_for PassesOwn.never rfl (pi_enum rfl T.n_enumerate (pa_d (pv 0) pa_nil rfl)) (pg_tup rfl (pgs_cons (pg_name (i := 3) sc_law_open_row.nd rfl (Or.inl rfl)) (pgs_cons (pg_name (i := 4) sc_law_open_row.nd rfl (Or.inl rfl)) pgs_nil)))
      (pss_cons (ps_while PassesOwn.never (PW.pt (pw_and (pt_cmpR (op_neL (hu60 hr)) (pv 2) (pe_lst pa_nil) (nomark _)) (pw_and1 (pt_cmpR op_ne (pe_ix ix_list (pv 2) (pe_un un_neg pe_int) (fun _ _ => rfl)) (pv 4) (nomark _)))))
      (pss_cons (ps_expr (pe_bm0 PySem.F.plainAttrs_list PySem.F.slot_list_pop PySem.F.type_list_pop mt_pop (pv 2)))
      (pss_one (ps_set (i := 1) sc_law_open_row.nd rfl (Or.inl rfl) (pe_op op_add_str (pv 1) pe_str)))))
      (pss_cons (ps_expr (pe_bm PySem.F.plainAttrs_list PySem.F.slot_list_append PySem.F.type_list_append mt_append (pv 2) (pa_d (pv 3) pa_nil rfl)))
      (pss_one (ps_set (i := 1) sc_law_open_row.nd rfl (Or.inl rfl) (pe_op op_add_str (pv 1) pe_str))))))
      (pss_one (ps_ret (pe_op op_add_str (pv 1) (pe_op op_mulS pe_str (pe_callB call_len_seq (by rfl) T.n_len b_len (pa_d (pv 2) pa_nil rfl))))))))), ?_⟩
    k_is
    refine ⟨Nat.zero_le _, fun p hp => ?_⟩
    have t0 := same_upd (o := .lst []) hp
    k_is
    refine ⟨a, rfl, ⟨_, SqL.of (t0 _ _ ha)⟩, ?_⟩
    refine for_enum (xs := (elds ds).map V.int) (fun k σ H1 => (∃ v v' : Option V, σ = [some (.ref a), some (.str (signs (rowP ds k))), some (.ref p), v, v']) ∧ H1 p = some (.lst ((way ds k).tail.map V.int)) ∧ Same H H1) ⟨⟨_, _, rfl⟩, upd_same, t0⟩ (fun k σ H1 _ h => SqL.of (h.2.2 _ _ ha)) ?_ ?_
    · rintro k x σ H0 t hx ⟨⟨v, v', rfl⟩, hp1, s1⟩ htn
      obtain ⟨e, he, rfl⟩ := iV_get hx
      have hk : k < ds.length := by have := at_lt he; rw [elds_len] at this; exact this
      obtain rfl : eld ds k = e := by rw [elds_at hk] at he; exact Option.some.inj he
      have s1 := s1.trans (same_upd (o := .tup [.int k, .int (eld ds k)]) htn)
      have hp1 := same_upd (o := .tup [.int k, .int (eld ds k)]) htn _ _ hp1
      generalize upd H0 t (.tup [.int k, .int (eld ds k)]) = H1 at *
      have hw := way_len hD k (by omega)
      have hh := way_head hD (k := k) (by omega)
      have hok := opn_le hD k (by omega)
      have hd := hD k hk
      have hrl := rowP_len hD k (by omega)
      have hea := eld_at hD hk
      have hwt : (way ds k).tail.length = opn ds k := by rw [List.length_tail]; omega
      k_is
      refine while_rd (fun σ H2 => ∃ m, dAt ds k ≤ m ∧ m ≤ opn ds k ∧ σ = [some (.ref a), some (.str (signs (rowP ds k ++ List.replicate (opn ds k - m) false))), some (.ref p), some (.int (k : Int)), some (.int (eld ds k))] ∧ H2 p = some (.lst (((way ds k).tail.take m).map V.int)) ∧ Same H H2) (fun _ H2 => lenAt H2 p)
        ⟨opn ds k, hd, Nat.le_refl _, by rw [Nat.sub_self, List.replicate_zero, List.append_nil]; rfl, by rw [List.take_of_length_le (by omega)]; exact hp1, s1⟩ ?_
      rintro z σ H2 ⟨m, hm1, hm2, rfl, hp2, s2⟩ hz
      rw [lenAt_of hp2, List.length_map, List.length_take, hwt, Nat.min_eq_left hm2] at hz
      have out : m = dAt ds k → ∀ H3, Same H H3 → H3 p = some (.lst (((way ds k).tail.take m).map V.int)) → signs (rowP ds k ++ List.replicate (opn ds k - m) false) ++ ("1" : Str) = signs (rowP ds (k + 1)) ∧ ((way ds k).tail.take m).map V.int ++ [V.int (k : Int)] = (way ds (k + 1)).tail.map V.int := fun e H3 _ _ => by
        subst e
        constructor
        · rw [rowP_succ]
          show signs _ ++ signs [true] = _
          rw [signs_append, List.append_assoc]
          rfl
        · show _ = ((way ds k).take (dAt ds k + 1) ++ [(k : Int)]).tail.map V.int
          have e2 : ((way ds k).take (dAt ds k + 1) ++ [(k : Int)]).tail = (way ds k).tail.take (dAt ds k) ++ [(k : Int)] := by
            rw [hh]
            rfl
          rw [e2, List.map_append]
          rfl
      k_is
      refine ⟨Nat.zero_le _, fun e hE => ?_⟩
      have tE := same_upd (o := .lst []) hE
      have hp3 := tE _ _ hp2
      have s3 := s2.trans tE
      refine r_neI (ns := (way ds k).tail.take m) (ms := []) (SqL.of hp3) (SqL.of upd_same) ?_
      generalize upd H2 e (.lst []) = H3 at *
      k_is
      refine iteN (fun hne => ?_) (fun hem => ?_)
      · have hm0 : 0 < m := by
          cases m with
          | zero => exact absurd rfl hne
          | succ m => omega
        have hx1 : (way ds k).tail[m - 1]? = some ((way ds k).tail[m - 1]'(by omega)) := List.getElem?_eq_getElem _
        generalize (way ds k).tail[m - 1]'(by omega) = y at hx1
        have hx2 : (way ds k)[m]? = some y := by
          rw [List.getElem?_tail, show m - 1 + 1 = m by omega] at hx1
          exact hx1
        k_is
        refine r_ixL (SqL.of hp3) (last_take hm0 hx1) ?_
        k_is
        refine iteN (fun h => ?_) (fun h => ?_)
        · have hmne : m ≠ dAt ds k := fun e => by
            rw [e, hea] at hx2
            exact h (congrArg V.int (Option.some.inj hx2).symm)
          refine r_turn ?_
          k_is
          refine ⟨.inl ⟨rfl, _, SqL.of hp3⟩, ?_⟩
          have hml : m ≤ (way ds k).tail.length := by omega
          refine ⟨p, _, .int y, rfl, rfl, hp3, ?_, ?_⟩
          · rw [len_take hml, iV_at (n := y)]
            rw [List.getElem?_take_of_lt (by omega)]
            exact hx1
          k_is
          rw [drop_last hml]
          refine ⟨_, "0", rfl, rfl, ?_, ?_⟩
          · rw [signs_len, List.length_append, List.length_replicate]
            exact Nat.le_of_lt (small20000 (by rw [show ("0" : Str).length = 1 by rfl]; omega))
          k_is
          refine ⟨⟨m - 1, by omega, by omega, ?_, upd_same, push_same s3 hp⟩, ?_⟩
          · have e : signs (rowP ds k ++ List.replicate (opn ds k - m) false) ++ ("0" : Str) = signs (rowP ds k ++ List.replicate (opn ds k - (m - 1)) false) := by
              show signs _ ++ signs [false] = _
              rw [signs_append, List.append_assoc, show opn ds k - (m - 1) = opn ds k - m + 1 by omega, List.replicate_succ']
            rw [e]
            rfl
          · rw [lenAt_of upd_same, len_take (by omega)]
            omega
        · have hy := V.int.inj h
          have hme : m = dAt ds k := by
            by_cases e : m = dAt ds k
            · exact e
            · have := way_lt hD k (dAt ds k) m _ _ (by omega) (by omega) hea hx2
              omega
          k_is
          refine ⟨.inl ⟨rfl, _, SqL.of hp3⟩, ?_⟩
          k_is
          refine r_append hp3 ?_ ?_
          · rw [List.length_map, List.length_take]
            exact small20000 (by omega)
          k_is
          refine ⟨_, "1", rfl, rfl, ?_, ?_⟩
          · rw [signs_len, List.length_append, List.length_replicate]
            exact Nat.le_of_lt (small20000 (by rw [show ("1" : Str).length = 1 by rfl]; omega))
          k_is
          obtain ⟨o1, o2⟩ := out hme H3 s3 hp3
          rw [o1, o2]
          exact ⟨⟨_, _, rfl⟩, upd_same, push_same s3 hp⟩
      · have hme : m = dAt ds k := by
          have hl0 : ((way ds k).tail.take m).length = 0 := by rw [hem]; rfl
          rw [List.length_take, hwt] at hl0
          omega
        k_is
        refine ⟨.inl ⟨rfl, _, SqL.of hp3⟩, ?_⟩
        k_is
        refine r_append hp3 ?_ ?_
        · rw [List.length_map, List.length_take]
          exact small20000 (by omega)
        k_is
        refine ⟨_, "1", rfl, rfl, ?_, ?_⟩
        · rw [signs_len, List.length_append, List.length_replicate]
          exact Nat.le_of_lt (small20000 (by rw [show ("1" : Str).length = 1 by rfl]; omega))
        k_is
        obtain ⟨o1, o2⟩ := out hme H3 s3 hp3
        rw [o1, o2]
        exact ⟨⟨_, _, rfl⟩, upd_same, push_same s3 hp⟩
    · rintro σ H1 ⟨⟨v, v', rfl⟩, hp1, s1⟩
      rw [List.length_map, elds_len] at *
      have hok := opn_le hD ds.length (Nat.le_refl _)
      have hw := way_len hD ds.length (Nat.le_refl _)
      have hrl := rowP_len hD ds.length (Nat.le_refl _)
      have hwt : (way ds ds.length).tail.length = opn ds ds.length := by rw [List.length_tail]; omega
      k_is
      refine ⟨p, _, rfl, .inl (SqL.of hp1), ?_⟩
      k_is
      rw [List.length_map, hwt]
      refine ⟨"0", (opn ds ds.length : Int), rfl, rfl, by omega, by omega, ?_, few (by decide), ?_⟩
      · exact Nat.le_of_lt (small20000 (by rw [show ("0" : Str).length = 1 by rfl]; omega))
      have e0 : repS ("0" : Str) ((opn ds ds.length : Int)).toNat = signs (List.replicate (opn ds ds.length) false) := by
        rw [Int.toNat_natCast]
        exact rep_signs false _
      rw [e0]
      k_is
      refine ⟨_, _, rfl, rfl, ?_, ?_⟩
      · rw [signs_len, signs_len, List.length_replicate]
        exact Nat.le_of_lt (small20000 (by omega))
      rw [signs_append]
      exact q H1 s1

theorem kids_succ (ds : List Nat) (k : Nat) : ∀ vs : List Int, (vs.map fun v => (kids ds (k + 1) v).length).sum = (vs.map fun v => (kids ds k v).length).sum + vs.count (eld ds k)
  | [] => rfl
  | v :: vs => by
    have ih := kids_succ ds k vs
    rw [List.map_cons, List.map_cons, List.sum_cons, List.sum_cons, List.count_cons, ih]
    by_cases h : eld ds k = v
    · rw [kids_yes h, List.length_append, if_pos (by simpa using h.symm)]
      simp only [List.length_cons, List.length_nil]
      omega
    · rw [kids_no h, if_neg (by simpa using fun e => h e.symm)]
      omega
theorem kids_sum (ds : List Nat) {vs : List Int} (h : vs.Nodup) : ∀ k, (vs.map fun v => (kids ds k v).length).sum ≤ k
  | 0 => by
    have : ∀ vs : List Int, (vs.map fun v => (kids ds 0 v).length).sum = 0 := fun vs => by
      induction vs with
      | nil => rfl
      | cons v vs ih => rw [List.map_cons, List.sum_cons, ih]; rfl
    rw [this]
    exact Nat.le_refl _
  | k + 1 => by
    have ih := kids_sum ds h k
    have hc := List.nodup_iff_count.mp h (eld ds k)
    rw [kids_succ]
    omega
def lvG (ds : List Nat) : List Nat := ((-1) :: ordD ds).map fun v => (kids ds ds.length v).length
def cnG (ds : List Nat) : List Nat := ((-1) :: placesI ds.length).map fun v => (kids ds ds.length v).length
theorem lvG_sum (ds : List Nat) : (lvG ds).sum ≤ ds.length ∧ (lvG ds).length = ds.length + 1 := by
  refine ⟨kids_sum ds (List.nodup_cons.mpr ⟨fun h => ?_, ordD_nodup ds⟩) _, ?_⟩
  · have := (ordD_mem h).1
    omega
  · unfold lvG
    rw [List.length_map, List.length_cons, ordD_len]
theorem cnG_sum (ds : List Nat) : (cnG ds).sum ≤ ds.length ∧ (cnG ds).length = ds.length + 1 := by
  refine ⟨kids_sum ds (List.nodup_cons.mpr ⟨fun h => ?_, placesI_nodup _⟩) _, ?_⟩
  · have := (placesI_mem h).1
    omega
  · unfold cnG placesI
    rw [List.length_map, List.length_cons, List.length_map, List.length_range]
theorem PlAt.sameT {ds : List Nat} {H H' : Hp} {pi pt pd : Addr} {rs : List Addr} (h : PlAt ds H pi pt pd rs) (s : SameT H H') : PlAt ds H' pi pt pd rs := ⟨s.lst h.hi, h.ln, fun i r e => s.lst (h.hr i r e), s.lst h.ht, s.lst h.hd⟩
theorem r_gtup4 {K : PySem.W.Frag} {σ : St} {H : Hp} {R : St → Hp → Prop} {a : Addr} {x y z u : V} {i j k l : Nat} (hs : SqT K H a [x, y, z, u]) (h : R ((((σ.set i (some x)).set j (some y)).set k (some z)).set l (some u)) H) : gTup K 4 (gCons (gName i) (gCons (gName j) (gCons (gName k) (gCons (gName l) gNil)))) (.ref a) σ H R :=
  ⟨a, [x, y, z, u], rfl, hs, rfl, x, [y, z, u], rfl, y, [z, u], rfl, z, [u], rfl, u, [], rfl, rfl, h⟩
def spRows (t : Tb) : Sp := fun vs H Q _ => ∃ (a tp pi pt pd : Addr) (x4 : V) (rs : List Addr) (ds : List Nat), vs = [.ref a, .ref tp] ∧ H a = some (.lst ((elds ds).map V.int)) ∧ Dok ds ∧ ds.length ≤ 3000 ∧ H tp = some (.tup [.ref pi, .ref pt, .ref pd, x4]) ∧ PlAt ds H pi pt pd rs ∧ t.ok H ∧
  ∀ p H', SameT H H' → t.ok H' → H p = none → H' p = some (.lst [.str (signs (rowD ds)), .str (signs (grB (lvG ds))), .str (signs (grB (cnG ds)))]) → Q (.ref p) H'
theorem ok_law_rows {f : Addr} {fd : FuncData} {t : Tb} (F : Fun K "_law_rows" "_law_rows" s_law_rows f fd) (T : Txt K mg C_WoodError C_NoBits C_NoPlace C_NoRow C_NoWood) (c_law_order : Cal P w K mg base "_law_order" 2 ["_law_deep"] (spOrd1 t)) (c_law_groups : Cal P w K mg base "_law_groups" 1 ["_law_groups_here"] spGroups) (c_law_open_row : Cal P w K mg base "_law_open_row" 1 ["_law_elders"] spOpenRow) : FnOk P w K mg base CX0 3 f fd ["_law_elders", "_law_plain_here"] (spRows t) := by
  refine F.ok sc_law_rows (fun vs H Q E h => ?_) (fun cdv A outer s H vs Q E hr h => ?_)
  · obtain ⟨a, tp, pi, pt, pd, x4, rs, ds, rfl, _⟩ := h
    rfl
  · obtain ⟨a, tp, pi, pt, pd, x4, rs, ds, rfl, ha, hD, hn, htp, hP, hT, q⟩ := h
    have hl1 := lvG_sum ds
    have hc1 := cnG_sum ds
    have hord := ordD_len ds
    refine ⟨_, (pss_cons (ps_asg (pv 1) (pg_tup rfl (pgs_cons (pg_name (i := 2) sc_law_rows.nd rfl (Or.inr rfl)) (pgs_cons (pg_name (i := 3) sc_law_rows.nd rfl (Or.inl rfl)) (pgs_cons (pg_name (i := 4) sc_law_rows.nd rfl (Or.inl rfl)) (pgs_cons (pg_name (i := 5) sc_law_rows.nd rfl (Or.inl rfl)) pgs_nil))))))
      (pss_cons (ps_set (i := 6) sc_law_rows.nd rfl (Or.inl rfl) (pe_op op_cat (pe_lst (pa_d (pe_callB call_len_seq (by rfl) T.n_len b_len (pa_d (pv 3) pa_nil rfl)) pa_nil rfl)) (pe_lc rfl lc_law_rows_0 (pi_list (pe_fn c_law_order (hr.mono (by decide : 2 ≤ _)) (pa_d (pv 4) pa_nil rfl))) (fun _ _ _ _ => pif_nil) (fun _ _ _ _ => (pe_callB (call_lenK2 K) (by rfl) T.n_len b_len (pa_d (pe_ix (ix_listK K) (pv 1) (pv 0) (fun _ _ => rfl)) pa_nil rfl))))))
      (pss_cons (ps_set (i := 7) sc_law_rows.nd rfl (Or.inl rfl) (pe_op op_cat (pe_lst (pa_d (pe_callB call_len_seq (by rfl) T.n_len b_len (pa_d (pv 3) pa_nil rfl)) pa_nil rfl)) (pe_lc rfl lc_law_rows_1 (pi_list (pv 2)) (fun _ _ _ _ => pif_nil) (fun _ _ _ _ => (pe_callB (call_lenK2 K) (by rfl) T.n_len b_len (pa_d (pv 0) pa_nil rfl))))))
      (pss_one (ps_ret (pe_lst (pa_d (pe_fn c_law_open_row (hr.mono (by decide : 1 ≤ _)) (pa_d (pv 0) pa_nil rfl)) (pa_d (pe_fn c_law_groups (hr.mono (by decide : 1 ≤ _)) (pa_d (pv 6) pa_nil rfl)) (pa_d (pe_fn c_law_groups (hr.mono (by decide : 1 ≤ _)) (pa_d (pv 7) pa_nil rfl)) pa_nil rfl) rfl) rfl))))))), ?_⟩
    k_is
    refine r_gtup4 (SqT.of htp) ?_
    k_is
    refine ⟨pt, _, rfl, .inl (SqL.of hP.ht), ?_⟩
    k_is
    rw [nV_len]
    refine ⟨few (by simp), fun q1 h1 => ?_⟩
    have u1 := same_upd (o := .lst [V.int ((kids ds ds.length (-1)).length : Nat)]) h1
    have hP1 := hP.same u1
    have hq1 : upd H q1 (.lst [V.int ((kids ds ds.length (-1)).length : Nat)]) q1 = some (.lst [V.int ((kids ds ds.length (-1)).length : Nat)]) := upd_same
    have ha1 := u1 _ _ ha
    have hT1 := Tb.same u1 hT
    have sT1 := sameT_of u1
    generalize upd H q1 (.lst [V.int ((kids ds ds.length (-1)).length : Nat)]) = H1 at *
    k_is
    refine ⟨pd, ds, rfl, hP1.hd, by omega, hT1, fun po H2 s2 t2 hpo0 hpo => ?_⟩
    have hP2 := hP1.sameT s2
    have hq2 := s2.lst hq1
    have ha2 := s2.lst ha1
    have sT2 := sT1.trans s2
    k_is
    refine ⟨po, rfl, ⟨_, SqL.of hpo⟩, ?_⟩
    refine lc_list (xs := (ordD ds).map V.int) (SqL.of hpo) (fun i => nV (((ordD ds).take i).map fun v => (kids ds ds.length v).length)) rfl (fun i hi => ?_) (fun i x H3 R A hx s3 _ hA => ?_) (fun D3 H3 hD3 s3 h3 => ?_)
    · rw [nV_len, List.length_map, List.length_take]
      exact small20000 (by omega)
    · obtain ⟨n, hn1, rfl⟩ := iV_get hx
      obtain ⟨m1, m2⟩ := ordD_mem (List.mem_of_getElem? hn1)
      obtain ⟨v, rfl⟩ : ∃ v : Nat, n = (v : Int) := ⟨n.toNat, by omega⟩
      have hvl : v < rs.length := by rw [hP2.ln]; omega
      have er : rs[v]? = some rs[v] := List.getElem?_eq_getElem hvl
      generalize rs[v] = r at er
      k_is
      refine r_ixL (SqL.of (s3 _ _ hP2.hi)) (v := .ref r) (atI_nat (by rw [List.getElem?_map, er]; rfl)) ?_
      k_is
      refine ⟨r, _, rfl, .inl (SqL.of (s3 _ _ (hP2.hr v r er))), ?_⟩
      rw [nV_len]
      refine hA _ _ ?_ (Same.refl _)
      rw [List.take_add_one, hn1, List.map_append, ← nV_app]
      rfl
    rw [List.length_map, List.take_of_length_le (Nat.le_refl _)] at h3
    have sT3 := sT2.trans (sameT_of s3)
    have hP3 := hP2.same s3
    have hq3 := s3 _ _ hq2
    have ha3 := s3 _ _ ha2
    have t3 := Tb.same s3 t2
    k_is
    refine ⟨q1, D3, _, _, rfl, rfl, hq3, h3, ?_, fun q4 h4 => ?_⟩
    · rw [nV_len, List.length_map]
      exact Nat.le_of_lt (small20000 (by simp only [List.length_cons, List.length_nil]; omega))
    rw [show [V.int ((kids ds ds.length (-1)).length : Nat)] ++ nV ((ordD ds).map fun v => (kids ds ds.length v).length) = nV (lvG ds) from rfl] at *
    have u4 := same_upd (o := .lst (nV (lvG ds))) h4
    have hq4 : upd H3 q4 (.lst (nV (lvG ds))) q4 = some (.lst (nV (lvG ds))) := upd_same
    have sT4 := sT3.trans (sameT_of u4)
    have hP4 := hP3.same u4
    have ha4 := u4 _ _ ha3
    have t4 := Tb.same u4 t3
    generalize upd H3 q4 (.lst (nV (lvG ds))) = H4 at *
    k_is
    refine ⟨pt, _, rfl, .inl (SqL.of hP4.ht), ?_⟩
    k_is
    rw [nV_len]
    refine ⟨few (by simp), fun q5 h5 => ?_⟩
    have u5 := same_upd (o := .lst [V.int ((kids ds ds.length (-1)).length : Nat)]) h5
    have hq5 : upd H4 q5 (.lst [V.int ((kids ds ds.length (-1)).length : Nat)]) q5 = some (.lst [V.int ((kids ds ds.length (-1)).length : Nat)]) := upd_same
    have hP5 := hP4.same u5
    have ha5 := u5 _ _ ha4
    have sT5 := sT4.trans (sameT_of u5)
    have t5 := Tb.same u5 t4
    have hl5 := u5 _ _ hq4
    generalize upd H4 q5 (.lst [V.int ((kids ds ds.length (-1)).length : Nat)]) = H5 at *
    k_is
    refine ⟨pi, rfl, ⟨_, SqL.of hP5.hi⟩, ?_⟩
    refine lc_list (xs := rs.map V.ref) (SqL.of hP5.hi) (fun i => nV (((placesI ds.length).take i).map fun v => (kids ds ds.length v).length)) rfl (fun i hi => ?_) (fun i x H6 R A hx s6 _ hA => ?_) (fun D6 H6 hD6 s6 h6 => ?_)
    · rw [List.length_map, hP5.ln] at hi
      rw [nV_len, List.length_map, List.length_take]
      exact small20000 (by omega)
    · rw [List.getElem?_map] at hx
      cases er : rs[i]? with
      | none => rw [er] at hx; cases hx
      | some r =>
        rw [er] at hx
        obtain rfl : x = .ref r := (Option.some.inj hx).symm
        have hil : i < ds.length := by rw [← hP5.ln]; exact at_lt er
        k_is
        refine ⟨r, _, rfl, .inl (SqL.of (s6 _ _ (hP5.hr i r er))), ?_⟩
        rw [nV_len]
        refine hA _ _ ?_ (Same.refl _)
        have hpi : (placesI ds.length)[i]? = some (i : Int) := by unfold placesI; rw [List.getElem?_map, List.getElem?_range hil]; rfl
        rw [List.take_add_one, hpi, List.map_append, ← nV_app]
        rfl
    have hpl : (placesI ds.length).length = ds.length := by unfold placesI; rw [List.length_map, List.length_range]
    rw [List.length_map, hP5.ln, List.take_of_length_le (by rw [hpl]; exact Nat.le_refl _)] at h6
    have sT6 := sT5.trans (sameT_of s6)
    have hq6 := s6 _ _ hq5
    have ha6 := s6 _ _ ha5
    have t6 := Tb.same s6 t5
    have hl6 := s6 _ _ hl5
    k_is
    refine ⟨q5, D6, _, _, rfl, rfl, hq6, h6, ?_, fun q7 h7 => ?_⟩
    · rw [nV_len, List.length_map, hpl]
      exact Nat.le_of_lt (small20000 (by simp only [List.length_cons, List.length_nil]; omega))
    rw [show [V.int ((kids ds ds.length (-1)).length : Nat)] ++ nV ((placesI ds.length).map fun v => (kids ds ds.length v).length) = nV (cnG ds) from rfl] at *
    have u7 := same_upd (o := .lst (nV (cnG ds))) h7
    have hq7 : upd H6 q7 (.lst (nV (cnG ds))) q7 = some (.lst (nV (cnG ds))) := upd_same
    have sT7 := sT6.trans (sameT_of u7)
    have ha7 := u7 _ _ ha6
    have t7 := Tb.same u7 t6
    have hl7 := u7 _ _ hl6
    generalize upd H6 q7 (.lst (nV (cnG ds))) = H7 at *
    k_is
    refine ⟨a, ds, rfl, ha7, hD, hn, fun H8 s8 => ?_⟩
    k_is
    refine ⟨q4, lvG ds, rfl, s8 _ _ hl7, by omega, fun H9 s9 => ?_⟩
    k_is
    refine ⟨q7, cnG ds, rfl, s9 _ _ (s8 _ _ hq7), by omega, fun H10 s10 => ?_⟩
    k_is
    refine ⟨few (by simp), fun p hp => ?_⟩
    have s710 := (s8.trans s9).trans s10
    have u11 := s710.trans (same_upd (o := .lst [V.str (signs (rowD ds)), V.str (signs (grB (lvG ds))), V.str (signs (grB (cnG ds)))]) hp)
    exact q p _ (sT7.trans (sameT_of u11)) (Tb.same u11 t7) (sT7.free (s710.free hp)) upd_same

def rSameNs (K : PySem.W.Frag) : R2 := fun x y H Q => (scal x y = true ∧ x = y ∧ Q (.bl false) H) ∨ rSame K false x y H Q
theorem op_neS {X : Cx} (hu : X.A.units + 60 < cLine) : OpR X (compareOp .NotEq) (rSameNs X.K) := by
  intro pins s σ H x y u v Q I rx ry h
  rcases h with ⟨hs, rfl, q⟩ | h
  · exact op_ne pins s σ H x x u v Q I rx ry ⟨hs, by rw [decide_eq_true rfl]; exact q⟩
  · exact op_neD hu pins s σ H x y u v Q I rx ry h
def spLaw (K : PySem.W.Frag) (t : Tb) : Sp := fun vs H Q _ => ∃ (a : Addr) (ns : List Int), vs = [.ref a] ∧ SqL K H a (ns.map V.int) ∧ ns.length ≤ 63 ∧ t.ok H ∧ ∀ H', Q (.bl true) H'
theorem menuV92 {xs : List V} {i : Int} {k : Nat} (h : xs.length = k) (h0 : 0 ≤ i) (h1 : i < k) : ∃ v, v ∈ xs ∧ atI xs i = some v := by
  obtain ⟨j, rfl⟩ : ∃ j : Nat, i = (j : Int) := ⟨i.toNat, by omega⟩
  have hj : j < xs.length := by omega
  exact ⟨xs[j], List.getElem_mem hj, atI_nat (List.getElem?_eq_getElem hj)⟩
def Answ (o : Option Nat) (v : V) (H : Hp) : Prop := (o = none ∧ v = .str "text") ∨ ∃ (d : Nat) (t : Addr), o = some d ∧ v = .ref t ∧ H t = some (.tup [.str "none", .int d])
theorem Answ.same {o : Option Nat} {v : V} {H H' : Hp} (h : Answ o v H) (s : Same H H') : Answ o v H' := h.imp id fun ⟨d, t, a1, a2, a3⟩ => ⟨d, t, a1, a2, s _ _ a3⟩
theorem rows_len {ds : List Nat} (hD : Dok ds) (hn : ds.length ≤ 460) {i : Nat} (hi : i < 3) : ∃ z : Str, atI [V.str (signs (rowD ds)), .str (signs (grB (lvG ds))), .str (signs (grB (cnG ds)))] (i : Int) = some (.str z) ∧ z.length ≤ 930 := by
  have h1 := lvG_sum ds
  have h2 := cnG_sum ds
  match i, hi with
  | 0, _ => exact ⟨_, rfl, by rw [signs_len, rowD_len hD]; omega⟩
  | 1, _ => exact ⟨_, rfl, by rw [signs_len, grB_len]; omega⟩
  | 2, _ => exact ⟨_, rfl, by rw [signs_len, grB_len]; omega⟩
theorem ok_law {f : Addr} {fd : FuncData} {t : Tb} (F : Fun K "law" "law" s_law f fd) (T : Txt K mg C_WoodError C_NoBits C_NoPlace C_NoRow C_NoWood) (c_law_cell_at : Cal P w K mg base "_law_cell_at" 1 ["_law_script", "_law_k"] (spCell K)) (c_law_twice : Cal P w K mg base "_law_twice" 1 ["_law_cell", "_law_k"] spTwice)
    (c_law_wood : Cal P w K mg base "_law_wood" 3 ["_law_script", "_law_most", "_law_large"] (spWoodL K)) (c_law_plain : Cal P w K mg base "_law_plain" 1 ["_law_elders"] spPlain)
    (c_law_rows : Cal P w K mg base "_law_rows" 3 ["_law_elders", "_law_plain_here"] (spRows t)) (c_law_digit : Cal P w K mg base "_law_digit" 1 ["_law_left", "_law_many"] spDigit) (c_law_spoilt : Cal P w K mg base "_law_spoilt" 2 ["_law_row", "_law_left"] spSpoilL)
    (c_law_longest : Cal P w K mg base "_law_longest" 1 ["_law_row", "_law_kind"] spLong) (c_law_told : Cal P w K mg base "_law_told" 7 ["_law_row", "_law_one", "_law_other"] (spTold K)) : FnOk P w K mg base CX0 8 f fd ["_law_script"] (spLaw K t) := by
  refine F.ok sc_law (fun vs H Q E h => ?_) (fun cdv A outer s H vs Q E hr h => ?_)
  · obtain ⟨a, ns, rfl, _⟩ := h
    rfl
  · obtain ⟨a, ns, rfl, hS, hlen, hTb, q⟩ := h
    refine ⟨_, (pss_cons (ps_set (i := 1) sc_law.nd rfl (Or.inl rfl) (pe_fn c_law_wood (hr.mono (by decide : 3 ≤ _)) (pa_d (pv 0) (pa_d pe_int (pa_d pe_int pa_nil rfl) rfl) rfl)))
      (pss_cons (ps_set (i := 2) sc_law.nd rfl (Or.inl rfl) (pe_fn c_law_rows (hr.mono (by decide : 3 ≤ _)) (pa_d (pv 1) (pa_d (pe_fn c_law_plain (hr.mono (by decide : 1 ≤ _)) (pa_d (pv 1) pa_nil rfl)) pa_nil rfl) rfl)))
      (pss_cons (ps_set (i := 3) sc_law.nd rfl (Or.inl rfl) (pe_fn c_law_cell_at (hr.mono (by decide : 1 ≤ _)) (pa_d (pv 0) (pa_d pe_int pa_nil rfl) rfl)))
      (pss_cons (ps_ifJ (PW.pt (pw_and (pt_cmpR op_eq (pe_op op_mod (pe_fn c_law_cell_at (hr.mono (by decide : 1 ≤ _)) (pa_d (pv 0) (pa_d pe_int pa_nil rfl) rfl)) pe_int) pe_int (nomark _)) (pw_and1 (pt_cmpR op_ge (pe_callB call_abs (by rfl) T.n_abs b_abs (pa_d (pv 3) pa_nil rfl)) (pe_op op_pow pe_int pe_int) (nomark _))))) (pss_one (ps_set (i := 4) sc_law.nd rfl (Or.inl rfl) (pe_lst (pa_d (pe_callB call_abs (by rfl) T.n_abs b_abs (pa_d (pv 3) pa_nil rfl)) pa_nil rfl))))
      (pss_one (ps_set (i := 4) sc_law.nd rfl (Or.inl rfl) (pe_lst (pa_d (pe_op op_mul (pe_op op_mul (pe_fn c_law_twice (hr.mono (by decide : 1 ≤ _)) (pa_d (pv 3) (pa_d pe_int pa_nil rfl) rfl)) (pe_fn c_law_twice (hr.mono (by decide : 1 ≤ _)) (pa_d (pv 3) (pa_d pe_int pa_nil rfl) rfl))) (pe_fn c_law_twice (hr.mono (by decide : 1 ≤ _)) (pa_d (pv 3) (pa_d pe_int pa_nil rfl) rfl))) pa_nil rfl)))))
      (pss_cons (ps_set (i := 5) sc_law.nd rfl (Or.inl rfl) (pe_fn c_law_digit (hr.mono (by decide : 1 ≤ _)) (pa_d (pv 4) (pa_d pe_int pa_nil rfl) rfl)))
      (pss_cons (ps_set (i := 6) sc_law.nd rfl (Or.inl rfl) (pe_fn c_law_spoilt (hr.mono (by decide : 2 ≤ _)) (pa_d (pe_ix ix_list (pv 2) (pv 5) (fun _ _ => rfl)) (pa_d (pv 4) pa_nil rfl) rfl)))
      (pss_cons (ps_set (i := 7) sc_law.nd rfl (Or.inl rfl) (pe_fn c_law_digit (hr.mono (by decide : 1 ≤ _)) (pa_d (pv 4) (pa_d pe_int pa_nil rfl) rfl)))
      (pss_cons (ps_ifJ (pt_cmpR op_in_seq (pv 7) (pe_tup (pa_d pe_int (pa_d pe_int pa_nil rfl) rfl)) rfl) (pss_one (ps_set (i := 6) sc_law.nd rfl (Or.inl rfl) (pe_op op_add_str (pe_op op_mulS pe_str (pe_op op_add pe_int (pv 7))) (pe_op op_mulS pe_str (pe_op op_add (pe_op op_add pe_int (pv 7)) (pe_callTy call_int1 (by rfl) T.n_int b_int (pa_d (pe_cmpR op_gt (pv 5) pe_int (nomark _)) pa_nil rfl)))))))
      pss_nil)
      (pss_cons (ps_set (i := 8) sc_law.nd rfl (Or.inl rfl) (pe_fn c_law_longest (hr.mono (by decide : 1 ≤ _)) (pa_d (pv 6) (pa_d (pv 5) pa_nil rfl) rfl)))
      (pss_cons (ps_set (i := 9) sc_law.nd rfl (Or.inl rfl) pe_str)
      (pss_cons (ps_ifJ (pt_cmp (pc_notN (pv 8))) (pss_one (ps_set (i := 9) sc_law.nd rfl (Or.inl rfl) (pe_tup (pa_d pe_str (pa_d (pv 8) pa_nil rfl) rfl))))
      pss_nil)
      (pss_cons (ps_for PassesOwn.never rfl (pi_tup (pe_tup (pa_d pe_int (pa_d pe_int pa_nil rfl) rfl))) (pg_name (i := 10) sc_law.nd rfl (Or.inl rfl))
      (PSsI.h (bi_cons (si (ps_if (pt_cmpR (op_neS (hu60 hr)) (pe_fn c_law_told (hr.mono (by decide : 7 ≤ _)) (pa_d (pv 6) (pa_d (pv 5) (pa_d (pe_op op_mod (pe_op op_add (pv 5) (pv 10)) pe_int) pa_nil rfl) rfl) rfl)) (pv 9) (nomark _)) (pss_one (ps_ret pe_bl))
      pss_nil))
      (bi_cons (si_set (i := 11) sc_law.nd rfl (Or.inl rfl) (ei_ix ix_list (ei_lst (ai_c pe_non (ai_c pe_int (ai_c pe_bl (ai_c (pe_lst (pa_d pe_str (pa_d pe_str pa_nil rfl) rfl)) (ai_c (pe_tup (pa_d pe_str (pa_d pe_str pa_nil rfl) rfl)) (ai_c pe_dnew ai_nil rfl) rfl) rfl) rfl) rfl) rfl)) (pe_op op_mod (pv 3) pe_int) (fun _ _ => rfl)))
      (bi_one (si (ps_if (pt_cmpR (op_neD (hu60 hr)) (pe_fn c_law_told (hr.mono (by decide : 7 ≤ _)) (pa_d (pv 11) (pa_d (pv 5) (pa_d (pe_op op_mod (pe_op op_add (pv 5) (pv 10)) pe_int) pa_nil rfl) rfl) rfl)) (pe_tup (pa_d pe_str (pa_d pe_int pa_nil rfl) rfl)) (nomark _)) (pss_one (ps_ret pe_bl))
      pss_nil)))))))
      (pss_one (ps_ret pe_bl)))))))))))))), ?_⟩
    k_is
    refine ⟨a, ns, 120, rfl, hS, by omega, fun p1 ds H1 s1 hp1 h1 hD hl1 => ?_⟩
    k_is
    refine ⟨p1, ds, rfl, h1, hD, by omega, fun tt pi pt pd x4 rs H2 s2 ht hP => ?_⟩
    refine ⟨p1, tt, pi, pt, pd, x4, rs, ds, rfl, s2 _ _ h1, hD, by omega, ht, hP, Tb.same (s1.trans s2) hTb, fun pr H3 s3 t3 hpr0 hpr => ?_⟩
    have hS3 : SqL K H3 a (ns.map V.int) := s3.seq ((s1.trans s2).seq hS)
    clear t3 s3 hpr0 hP ht s2 hTb
    k_is
    refine ⟨a, ns, 2, rfl, hS3, fun c => ?_⟩
    k_is
    refine r_ifJ (fun σ H' => ∃ (l : Addr) (x : Int), σ = [some (.ref a), some (.ref p1), some (.ref pr), some (.int c), some (.ref l), none, none, none, none, none, none, none] ∧ H' l = some (.lst [.int x]) ∧ pr ≠ l ∧ H' pr = some (.lst [V.str (signs (rowD ds)), .str (signs (grB (lvG ds))), .str (signs (grB (cnG ds)))])) ?_ ?_
    · have other : ∀ (x : Int) (l : Addr), H3 l = none → ∃ (l' : Addr) (x' : Int), [some (V.ref a), some (.ref p1), some (.ref pr), some (.int c), some (.ref l), none, none, none, none, none, none, none] = [some (V.ref a), some (.ref p1), some (.ref pr), some (.int c), some (.ref l'), none, none, none, none, none, none, none] ∧ (upd H3 l (.lst [.int x])) l' = some (.lst [.int x']) ∧ pr ≠ l' ∧ (upd H3 l (.lst [.int x])) pr = some (.lst [V.str (signs (rowD ds)), .str (signs (grB (lvG ds))), .str (signs (grB (cnG ds)))]) :=
        fun x l hl => ⟨l, x, rfl, upd_same, ne_of_none hpr hl, same_upd hl _ _ hpr⟩
      k_is
      refine ⟨a, ns, 0, rfl, hS3, fun c0 => ?_⟩
      k_is
      refine iteP (fun _ => ?_) (fun _ => ?_)
      · k_is
        refine ⟨_, rfl, ?_⟩
        k_is
        refine ⟨10, 18, rfl, rfl, ⟨by decide, by decide, by decide⟩, ?_⟩
        k_is
        refine iteP (fun _ => ?_) (fun _ => ?_)
        · k_is
          refine ⟨_, rfl, ?_⟩
          k_is
          refine ⟨few (by simp), fun l hl => ?_⟩
          k_is
          exact other _ l hl
        · k_is
          refine ⟨c, 95, rfl, by decide, fun r1 hr1 => ?_⟩
          k_is
          refine ⟨c, 96, rfl, by decide, fun r2 hr2 => ?_⟩
          refine r_mulR (by omega) (by omega) ?_
          k_is
          refine ⟨c, 97, rfl, by decide, fun r3 hr3 => ?_⟩
          refine r_mulR (by omega) (by omega) ?_
          k_is
          refine ⟨few (by simp), fun l hl => ?_⟩
          k_is
          exact other _ l hl
      · k_is
        refine ⟨c, 95, rfl, by decide, fun r1 hr1 => ?_⟩
        k_is
        refine ⟨c, 96, rfl, by decide, fun r2 hr2 => ?_⟩
        refine r_mulR (by omega) (by omega) ?_
        k_is
        refine ⟨c, 97, rfl, by decide, fun r3 hr3 => ?_⟩
        refine r_mulR (by omega) (by omega) ?_
        k_is
        refine ⟨few (by simp), fun l hl => ?_⟩
        k_is
        exact other _ l hl
    · rintro σ H4 ⟨l, x, rfl, hl4, hprl, hpr4⟩
      k_is
      refine ⟨l, x, 3, rfl, hl4, by decide, by decide, fun kd y hkd => ?_⟩
      obtain ⟨z0, hz0, hz0l⟩ := rows_len hD (by omega) hkd
      k_is
      refine r_ixL (SqL.of (by rw [upd_ne hprl]; exact hpr4)) hz0 ?_
      k_is
      refine ⟨z0, l, y, rfl, by omega, upd_same, fun z1 y1 H5 hz1 s5 hl5 => ?_⟩
      k_is
      refine ⟨l, y1, 8, rfl, hl5, by decide, by decide, fun g y2 hg => ?_⟩
      generalize upd H5 l (.lst [.int y2]) = H6
      k_is
      refine r_ifJ (fun σ H' => ∃ z : Str, σ = [some (.ref a), some (.ref p1), some (.ref pr), some (.int c), some (.ref l), some (.int (kd : Int)), some (.str z), some (.int (g : Int)), none, none, none, none] ∧ z.length ≤ 9000) ?_ ?_
      · k_is
        refine ⟨few (by simp), fun q1 hq1 => ?_⟩
        k_is
        refine ⟨q1, _, rfl, .inr (SqT.of upd_same), rfl, rfl, ?_⟩
        k_is
        generalize (if false = true then !inV (V.int (g : Int)) [V.int 5, V.int 6] else inV (V.int (g : Int)) [V.int 5, V.int 6]) = bb
        cases bb with
        | false =>
          k_is
          exact ⟨z1, rfl, by omega⟩
        | true =>
          k_is
          refine ⟨"1", 3995 + (g : Int), rfl, rfl, by omega, by omega, ?_, few (by decide), ?_⟩
          · exact Nat.le_of_lt (small20000 (by rw [show ("1" : Str).length = 1 by rfl]; omega))
          have e1 : (repS ("1" : Str) (3995 + (g : Int)).toNat).length ≤ 4010 := by
            rw [show repS ("1" : Str) (3995 + (g : Int)).toNat = signs (List.replicate (3995 + (g : Int)).toNat true) from rep_signs true _, signs_len, List.length_replicate]
            omega
          generalize repS ("1" : Str) (3995 + (g : Int)).toNat = za at *
          k_is
          refine .inr ⟨_, rfl, ?_⟩
          have hbit : ∃ m : Nat, (if decide (0 < (kd : Int)) = true then (1 : Int) else 0) = (m : Int) ∧ m ≤ 1 := by
            split
            · exact ⟨1, rfl, by decide⟩
            · exact ⟨0, rfl, by decide⟩
          obtain ⟨m, hm, hm1⟩ := hbit
          rw [hm]
          k_is
          refine ⟨"0", 3995 + (g : Int) + (m : Int), rfl, rfl, by omega, by omega, ?_, few (by decide), ?_⟩
          · exact Nat.le_of_lt (small20000 (by rw [show ("0" : Str).length = 1 by rfl]; omega))
          have e2 : (repS ("0" : Str) (3995 + (g : Int) + (m : Int)).toNat).length ≤ 4010 := by
            rw [show repS ("0" : Str) (3995 + (g : Int) + (m : Int)).toNat = signs (List.replicate (3995 + (g : Int) + (m : Int)).toNat false) from rep_signs false _, signs_len, List.length_replicate]
            omega
          generalize repS ("0" : Str) (3995 + (g : Int) + (m : Int)).toNat = zb at *
          refine ⟨za, zb, rfl, rfl, Nat.le_of_lt (small20000 (by omega)), ?_⟩
          k_is
          exact ⟨_, rfl, by rw [app_len]; omega⟩
      · rintro σ H7 ⟨z, rfl, hz⟩
        k_is
        refine ⟨z, kd, rfl, by omega, hz, fun H8 s8 => ?_⟩
        k_is
        refine r_ifJ (fun σ H' => ∃ v v8 : V, σ = [some (.ref a), some (.ref p1), some (.ref pr), some (.int c), some (.ref l), some (.int (kd : Int)), some (.str z), some (.int (g : Int)), some v8, some v, none, none] ∧ Answ (sgV (bgn kd) (.str z)) v H') ?_ ?_
        · k_is
          cases hsg : sgV (bgn kd) (.str z) with
          | none =>
            rw [show (!decide (ovN none = V.non)) = false from rfl]
            k_is
            exact ⟨.str "text", .non, rfl, .inl ⟨rfl, rfl⟩⟩
          | some d =>
            rw [show (!decide (ovN (some d) = V.non)) = true from rfl]
            k_is
            refine ⟨few (by simp), fun tq htq => ?_⟩
            k_is
            exact ⟨.ref tq, .int d, rfl, .inr ⟨d, tq, rfl, rfl, upd_same⟩⟩
        · rintro σ H9 ⟨v, v8, rfl, hA⟩
          k_is
          refine ⟨few (by simp), fun tu htu => ⟨tu, rfl, ⟨_, SqT.of upd_same⟩, ?_⟩⟩
          have hA0 : Answ (sgV (bgn kd) (.str z)) v (upd H9 tu (.tup [V.int 1, V.int 2])) := hA.same (same_upd htu)
          refine for_tup (xs := [V.int 1, V.int 2]) (fun i σ H' => (∃ v10 v11 : Option V, σ = [some (.ref a), some (.ref p1), some (.ref pr), some (.int c), some (.ref l), some (.int (kd : Int)), some (.str z), some (.int (g : Int)), some v8, some v, v10, v11]) ∧ Answ (sgV (bgn kd) (.str z)) v H' ∧ H' tu = some (.tup [V.int 1, V.int 2])) ⟨⟨_, _, rfl⟩, hA0, upd_same⟩ (fun i σ H' _ h => SqT.of h.2.2) ?_ ?_
          · rintro i x' σ H' hx ⟨⟨v10, v11, rfl⟩, hA1, htu1⟩
            obtain ⟨st, rfl⟩ : ∃ st : Nat, x' = .int (st : Int) := by
              match i, hx with
              | 0, hx => exact ⟨1, (Option.some.inj hx).symm⟩
              | 1, hx => exact ⟨2, (Option.some.inj hx).symm⟩
            obtain ⟨o, ho, ho1⟩ := emod_nat ((kd : Int) + st) 2
            have ho : ((kd : Int) + st) % 3 = (o : Int) := ho
            k_is
            rw [ho]
            refine ⟨.str z, kd, o, rfl, anyS_str _, fun z2 e => by rw [← V.str.inj e]; exact hz, fun hn H2 s2 => ?c1, fun d hd pq H2 s2 hpq => ?c2⟩
            case' c1 =>
              have hA2 := hA1.same s2
              have htu2 := s2 _ _ htu1
              have hv : v = .str "text" := by
                rcases hA2 with ⟨_, e⟩ | ⟨d, t, e, _⟩
                · exact e
                · rw [hn] at e
                  cases e
              subst hv
              k_is
              refine .inl ⟨rfl, rfl, ?_⟩
              k_is
            case' c2 =>
              have hA2 := hA1.same s2
              have htu2 := s2 _ _ htu1
              obtain ⟨tq, rfl, htq⟩ : ∃ tq, v = .ref tq ∧ H2 tq = some (.tup [.str "none", .int d]) := by
                rcases hA2 with ⟨e, _⟩ | ⟨d2, t, e, e2, e3⟩
                · rw [hd] at e
                  cases e
                · rw [hd] at e
                  obtain rfl := Option.some.inj e
                  exact ⟨t, e2, e3⟩
              k_is
              refine .inr (r_same (.tup (SqT.of hpq) (SqT.of htq) rfl (SameD.flats rfl)) ?_)
              k_is
            all_goals
              refine ⟨few (by simp), fun o1 hn1 => ?_⟩
              have w1 := same_upd (o := .lst [V.str "1", V.str "0"]) hn1
              have g1 : upd H2 o1 (.lst [V.str "1", V.str "0"]) o1 = some (.lst [V.str "1", V.str "0"]) := upd_same
              generalize upd H2 o1 (.lst [V.str "1", V.str "0"]) = K1 at *
              k_is
              refine ⟨few (by simp), fun o2 hn2 => ?_⟩
              have w2 := same_upd (o := .tup [V.str "1", V.str "0"]) hn2
              have g2 : upd K1 o2 (.tup [V.str "1", V.str "0"]) o2 = some (.tup [V.str "1", V.str "0"]) := upd_same
              generalize upd K1 o2 (.tup [V.str "1", V.str "0"]) = K2 at *
              k_is
              intro o3 hn3
              have w3 := same_upd (o := .dK []) hn3
              have g3 : upd K2 o3 (.dK []) o3 = some (.dK []) := upd_same
              generalize upd K2 o3 (.dK []) = K3 at *
              k_is
              refine ⟨few (by simp), fun o4 hn4 => ?_⟩
              have w4 := same_upd (o := .lst [V.non, V.int 5, V.bl true, V.ref o1, V.ref o2, V.ref o3]) hn4
              have g4 : upd K3 o4 (.lst [V.non, V.int 5, V.bl true, V.ref o1, V.ref o2, V.ref o3]) o4 = some (.lst [V.non, V.int 5, V.bl true, V.ref o1, V.ref o2, V.ref o3]) := upd_same
              generalize upd K3 o4 (.lst [V.non, V.int 5, V.bl true, V.ref o1, V.ref o2, V.ref o3]) = K4 at *
              k_is
              obtain ⟨od, hod, hat⟩ := menuV92 (xs := [V.non, V.int 5, V.bl true, V.ref o1, V.ref o2, V.ref o3]) (k := 6) (i := c % 6) rfl (by omega) (by omega)
              have hAny : AnyS K K4 od ∧ sgV (bgn kd) od = some 0 ∧ ∀ z2, od ≠ .str z2 := by
                rcases hod with _ | ⟨_, _ | ⟨_, _ | ⟨_, _ | ⟨_, _ | ⟨_, _ | ⟨_, hv⟩⟩⟩⟩⟩⟩
                · exact ⟨anyS_non, rfl, fun _ e => by cases e⟩
                · exact ⟨anyS_int _, rfl, fun _ e => by cases e⟩
                · exact ⟨anyS_bl _, rfl, fun _ e => by cases e⟩
                · exact ⟨anyS_lst (w4 _ _ (w3 _ _ (w2 _ _ g1))), rfl, fun _ e => by cases e⟩
                · exact ⟨anyS_tup (w4 _ _ (w3 _ _ g2)), rfl, fun _ e => by cases e⟩
                · exact ⟨anyS_dct (w4 _ _ g3), rfl, fun _ e => by cases e⟩
                · exact absurd hv List.not_mem_nil
              refine r_ixL (SqL.of g4) hat ?_
              k_is
              rw [ho]
              refine ⟨od, kd, o, rfl, hAny.1, fun z2 e => absurd e (hAny.2.2 z2), fun hno => ?_, fun d2 hd2 pq2 H5' s5' hpq2 => ?_⟩
              · rw [hAny.2.1] at hno
                cases hno
              · rw [hAny.2.1] at hd2
                obtain rfl := Option.some.inj hd2
                k_is
                refine ⟨few (by simp), fun t6 ht6 => ?_⟩
                have w6 := same_upd (o := .tup [V.str "none", V.int 0]) ht6
                refine r_same (.tup (SqT.of (w6 _ _ hpq2)) (SqT.of upd_same) rfl (SameD.flats rfl)) ?_
                k_is
                have sAll := ((((w1.trans w2).trans w3).trans w4).trans s5').trans w6
                exact ⟨⟨_, _, rfl⟩, hA2.same sAll, sAll _ _ htu2⟩
          · rintro σ H' ⟨⟨v10, v11, rfl⟩, hA1, htu1⟩
            k_is
            exact q H'

end
set_option maxHeartbeats 8000000 in
theorem all_mk {l : PySem.W.OpenLaw} {w : World} {K : PySem.W.Frag} {h : Heap} {mg : Str → Option Value} {fa : Addr} (X : K.In h) (G : h.Ns mainGlobals mg) (hfa : mg "law" = some (.ref fa))
    {f0 : Addr} {od0 an0 : Option Addr} {sl0 : Array (Option Value)} {oc0 kV0 dc0 pm0 cd0 ct0 : Value}
    {f1 : Addr} {od1 an1 : Option Addr} {sl1 : Array (Option Value)} {oc1 kV1 dc1 pm1 cd1 ct1 : Value}
    {f2 : Addr} {od2 an2 : Option Addr} {sl2 : Array (Option Value)} {oc2 kV2 dc2 pm2 cd2 ct2 : Value}
    {f3 : Addr} {od3 an3 : Option Addr} {sl3 : Array (Option Value)} {oc3 kV3 dc3 pm3 cd3 ct3 : Value}
    {f4 : Addr} {od4 an4 : Option Addr} {sl4 : Array (Option Value)} {oc4 kV4 dc4 pm4 cd4 ct4 : Value}
    {f5 : Addr} {od5 an5 : Option Addr} {sl5 : Array (Option Value)} {oc5 kV5 dc5 pm5 cd5 ct5 : Value}
    {f6 : Addr} {od6 an6 : Option Addr} {sl6 : Array (Option Value)} {oc6 kV6 dc6 pm6 cd6 ct6 : Value}
    {f7 : Addr} {od7 an7 : Option Addr} {sl7 : Array (Option Value)} {oc7 kV7 dc7 pm7 cd7 ct7 : Value}
    {f8 : Addr} {od8 an8 : Option Addr} {sl8 : Array (Option Value)} {oc8 kV8 dc8 pm8 cd8 ct8 : Value}
    {f9 : Addr} {od9 an9 : Option Addr} {sl9 : Array (Option Value)} {oc9 kV9 dc9 pm9 cd9 ct9 : Value}
    {f10 : Addr} {od10 an10 : Option Addr} {sl10 : Array (Option Value)} {oc10 kV10 dc10 pm10 cd10 ct10 : Value}
    {f11 : Addr} {od11 an11 : Option Addr} {sl11 : Array (Option Value)} {oc11 kV11 dc11 pm11 cd11 ct11 : Value}
    {f12 : Addr} {od12 an12 : Option Addr} {sl12 : Array (Option Value)} {oc12 kV12 dc12 pm12 cd12 ct12 : Value}
    {f13 : Addr} {od13 an13 : Option Addr} {sl13 : Array (Option Value)} {oc13 kV13 dc13 pm13 cd13 ct13 : Value}
    {f14 : Addr} {od14 an14 : Option Addr} {sl14 : Array (Option Value)} {oc14 kV14 dc14 pm14 cd14 ct14 : Value}
    {f15 : Addr} {od15 an15 : Option Addr} {sl15 : Array (Option Value)} {oc15 kV15 dc15 pm15 cd15 ct15 : Value}
    {f16 : Addr} {od16 an16 : Option Addr} {sl16 : Array (Option Value)} {oc16 kV16 dc16 pm16 cd16 ct16 : Value}
    {f17 : Addr} {od17 an17 : Option Addr} {sl17 : Array (Option Value)} {oc17 kV17 dc17 pm17 cd17 ct17 : Value}
    {f18 : Addr} {od18 an18 : Option Addr} {sl18 : Array (Option Value)} {oc18 kV18 dc18 pm18 cd18 ct18 : Value}
    {f19 : Addr} {od19 an19 : Option Addr} {sl19 : Array (Option Value)} {oc19 kV19 dc19 pm19 cd19 ct19 : Value}
    {f20 : Addr} {od20 an20 : Option Addr} {sl20 : Array (Option Value)} {oc20 kV20 dc20 pm20 cd20 ct20 : Value}
    {f21 : Addr} {od21 an21 : Option Addr} {sl21 : Array (Option Value)} {oc21 kV21 dc21 pm21 cd21 ct21 : Value}
    {f22 : Addr} {od22 an22 : Option Addr} {sl22 : Array (Option Value)} {oc22 kV22 dc22 pm22 cd22 ct22 : Value}
    {f23 : Addr} {od23 an23 : Option Addr} {sl23 : Array (Option Value)} {oc23 kV23 dc23 pm23 cd23 ct23 : Value}
    {f24 : Addr} {od24 an24 : Option Addr} {sl24 : Array (Option Value)} {oc24 kV24 dc24 pm24 ct24 : Value}
    {oo24 : Obj}
    {f25 : Addr} {od25 an25 : Option Addr} {sl25 : Array (Option Value)} {oc25 kV25 dc25 pm25 cd25 ct25 : Value}
    {f26 : Addr} {od26 an26 : Option Addr} {sl26 : Array (Option Value)} {oc26 kV26 dc26 pm26 cd26 ct26 : Value}
    {f27 : Addr} {od27 an27 : Option Addr} {sl27 : Array (Option Value)} {oc27 kV27 dc27 pm27 cd27 ct27 : Value}
    {t_MOST_KNOTS : Tok}
    {C_WoodError : Addr}
    {C_NoBits : Addr}
    {C_NoPlace : Addr}
    {C_NoRow : Addr}
    {C_NoWood : Addr}
    {nm_NoWood qn_NoWood : Str} {N_NoWood : Addr} {bs_NoWood : List Value} {sn_NoWood : List Str} {sub_NoWood : List Value} {ab_NoWood : Bool} {col_NoWood : Option Bool} {dd_NoWood : Option Addr} {k0_NoWood k1_NoWood k2_NoWood k3_NoWood k5_NoWood : Option Value}
    (i0 : PySem.W.isFn K (.ref f0) = true)
    (a0 : PySem.W.findIn K (.ref C_NoWood) "__init__" = some (some (.ref f0))) (l0 : K.lookup f0 = some ⟨oc0, od0, .func (PySem.W.fnOf "__init__" "NoWood.__init__" (defArgs s_NoWood_init) (defBody s_NoWood_init) (defScope s_NoWood_init) .none kV0 dc0 pm0 an0 cd0 ct0), sl0⟩) (c0 : PySem.W.codeIn K cd0 "NoWood.__init__" = true) (k0 : PySem.W.keepIn K (.ref f0) = true)
    (a1 : PySem.W.nsIn K mainGlobals "check_signs" = some (some (.ref f1))) (l1 : K.lookup f1 = some ⟨oc1, od1, .func (PySem.W.fnOf "check_signs" "check_signs" (defArgs s_check_signs) (defBody s_check_signs) (defScope s_check_signs) .none kV1 dc1 pm1 an1 cd1 ct1), sl1⟩) (c1 : PySem.W.codeIn K cd1 "check_signs" = true) (k1 : PySem.W.keepIn K (.ref f1) = true)
    (a2 : PySem.W.nsIn K mainGlobals "counted_row" = some (some (.ref f2))) (l2 : K.lookup f2 = some ⟨oc2, od2, .func (PySem.W.fnOf "counted_row" "counted_row" (defArgs s_counted_row) (defBody s_counted_row) (defScope s_counted_row) .none kV2 dc2 pm2 an2 cd2 ct2), sl2⟩) (c2 : PySem.W.codeIn K cd2 "counted_row" = true) (k2 : PySem.W.keepIn K (.ref f2) = true)
    (a3 : PySem.W.nsIn K mainGlobals "_law_groups" = some (some (.ref f3))) (l3 : K.lookup f3 = some ⟨oc3, od3, .func (PySem.W.fnOf "_law_groups" "_law_groups" (defArgs s_law_groups) (defBody s_law_groups) (defScope s_law_groups) .none kV3 dc3 pm3 an3 cd3 ct3), sl3⟩) (c3 : PySem.W.codeIn K cd3 "_law_groups" = true) (k3 : PySem.W.keepIn K (.ref f3) = true)
    (a4 : PySem.W.nsIn K mainGlobals "groups_of" = some (some (.ref f4))) (l4 : K.lookup f4 = some ⟨oc4, od4, .func (PySem.W.fnOf "groups_of" "groups_of" (defArgs s_groups_of) (defBody s_groups_of) (defScope s_groups_of) .none kV4 dc4 pm4 an4 cd4 ct4), sl4⟩) (c4 : PySem.W.codeIn K cd4 "groups_of" = true) (k4 : PySem.W.keepIn K (.ref f4) = true)
    (a5 : PySem.W.nsIn K mainGlobals "running_sums" = some (some (.ref f5))) (l5 : K.lookup f5 = some ⟨oc5, od5, .func (PySem.W.fnOf "running_sums" "running_sums" (defArgs s_running_sums) (defBody s_running_sums) (defScope s_running_sums) .none kV5 dc5 pm5 an5 cd5 ct5), sl5⟩) (c5 : PySem.W.codeIn K cd5 "running_sums" = true) (k5 : PySem.W.keepIn K (.ref f5) = true)
    (a6 : PySem.W.nsIn K mainGlobals "open_to_counts" = some (some (.ref f6))) (l6 : K.lookup f6 = some ⟨oc6, od6, .func (PySem.W.fnOf "open_to_counts" "open_to_counts" (defArgs s_open_to_counts) (defBody s_open_to_counts) (defScope s_open_to_counts) .none kV6 dc6 pm6 an6 cd6 ct6), sl6⟩) (c6 : PySem.W.codeIn K cd6 "open_to_counts" = true) (k6 : PySem.W.keepIn K (.ref f6) = true)
    (a7 : PySem.W.nsIn K mainGlobals "levels_to_counts" = some (some (.ref f7))) (l7 : K.lookup f7 = some ⟨oc7, od7, .func (PySem.W.fnOf "levels_to_counts" "levels_to_counts" (defArgs s_levels_to_counts) (defBody s_levels_to_counts) (defScope s_levels_to_counts) .none kV7 dc7 pm7 an7 cd7 ct7), sl7⟩) (c7 : PySem.W.codeIn K cd7 "levels_to_counts" = true) (k7 : PySem.W.keepIn K (.ref f7) = true)
    (a8 : PySem.W.nsIn K mainGlobals "counts_to_open" = some (some (.ref f8))) (l8 : K.lookup f8 = some ⟨oc8, od8, .func (PySem.W.fnOf "counts_to_open" "counts_to_open" (defArgs s_counts_to_open) (defBody s_counts_to_open) (defScope s_counts_to_open) .none kV8 dc8 pm8 an8 cd8 ct8), sl8⟩) (c8 : PySem.W.codeIn K cd8 "counts_to_open" = true) (k8 : PySem.W.keepIn K (.ref f8) = true)
    (a9 : PySem.W.nsIn K mainGlobals "open_to_levels" = some (some (.ref f9))) (l9 : K.lookup f9 = some ⟨oc9, od9, .func (PySem.W.fnOf "open_to_levels" "open_to_levels" (defArgs s_open_to_levels) (defBody s_open_to_levels) (defScope s_open_to_levels) .none kV9 dc9 pm9 an9 cd9 ct9), sl9⟩) (c9 : PySem.W.codeIn K cd9 "open_to_levels" = true) (k9 : PySem.W.keepIn K (.ref f9) = true)
    (a10 : PySem.W.nsIn K mainGlobals "levels_to_open" = some (some (.ref f10))) (l10 : K.lookup f10 = some ⟨oc10, od10, .func (PySem.W.fnOf "levels_to_open" "levels_to_open" (defArgs s_levels_to_open) (defBody s_levels_to_open) (defScope s_levels_to_open) .none kV10 dc10 pm10 an10 cd10 ct10), sl10⟩) (c10 : PySem.W.codeIn K cd10 "levels_to_open" = true) (k10 : PySem.W.keepIn K (.ref f10) = true)
    (a11 : PySem.W.nsIn K mainGlobals "counts_to_levels" = some (some (.ref f11))) (l11 : K.lookup f11 = some ⟨oc11, od11, .func (PySem.W.fnOf "counts_to_levels" "counts_to_levels" (defArgs s_counts_to_levels) (defBody s_counts_to_levels) (defScope s_counts_to_levels) .none kV11 dc11 pm11 an11 cd11 ct11), sl11⟩) (c11 : PySem.W.codeIn K cd11 "counts_to_levels" = true) (k11 : PySem.W.keepIn K (.ref f11) = true)
    (a12 : PySem.W.nsIn K mainGlobals "_law_led" = some (some (.ref f12))) (l12 : K.lookup f12 = some ⟨oc12, od12, .func (PySem.W.fnOf "_law_led" "_law_led" (defArgs s_law_led) (defBody s_law_led) (defScope s_law_led) .none kV12 dc12 pm12 an12 cd12 ct12), sl12⟩) (c12 : PySem.W.codeIn K cd12 "_law_led" = true) (k12 : PySem.W.keepIn K (.ref f12) = true)
    (a13 : PySem.W.nsIn K mainGlobals "_law_digit" = some (some (.ref f13))) (l13 : K.lookup f13 = some ⟨oc13, od13, .func (PySem.W.fnOf "_law_digit" "_law_digit" (defArgs s_law_digit) (defBody s_law_digit) (defScope s_law_digit) .none kV13 dc13 pm13 an13 cd13 ct13), sl13⟩) (c13 : PySem.W.codeIn K cd13 "_law_digit" = true) (k13 : PySem.W.keepIn K (.ref f13) = true)
    (a14 : PySem.W.nsIn K mainGlobals "_law_spoilt" = some (some (.ref f14))) (l14 : K.lookup f14 = some ⟨oc14, od14, .func (PySem.W.fnOf "_law_spoilt" "_law_spoilt" (defArgs s_law_spoilt) (defBody s_law_spoilt) (defScope s_law_spoilt) .none kV14 dc14 pm14 an14 cd14 ct14), sl14⟩) (c14 : PySem.W.codeIn K cd14 "_law_spoilt" = true) (k14 : PySem.W.keepIn K (.ref f14) = true)
    (a15 : PySem.W.nsIn K mainGlobals "_law_longest" = some (some (.ref f15))) (l15 : K.lookup f15 = some ⟨oc15, od15, .func (PySem.W.fnOf "_law_longest" "_law_longest" (defArgs s_law_longest) (defBody s_law_longest) (defScope s_law_longest) .none kV15 dc15 pm15 an15 cd15 ct15), sl15⟩) (c15 : PySem.W.codeIn K cd15 "_law_longest" = true) (k15 : PySem.W.keepIn K (.ref f15) = true)
    (a16 : PySem.W.nsIn K mainGlobals "_law_told" = some (some (.ref f16))) (l16 : K.lookup f16 = some ⟨oc16, od16, .func (PySem.W.fnOf "_law_told" "_law_told" (defArgs s_law_told) (defBody s_law_told) (defScope s_law_told) .none kV16 dc16 pm16 an16 cd16 ct16), sl16⟩) (c16 : PySem.W.codeIn K cd16 "_law_told" = true) (k16 : PySem.W.keepIn K (.ref f16) = true)
    (a17 : PySem.W.nsIn K mainGlobals "_law_cell_at" = some (some (.ref f17))) (l17 : K.lookup f17 = some ⟨oc17, od17, .func (PySem.W.fnOf "_law_cell_at" "_law_cell_at" (defArgs s_law_cell_at) (defBody s_law_cell_at) (defScope s_law_cell_at) .none kV17 dc17 pm17 an17 cd17 ct17), sl17⟩) (c17 : PySem.W.codeIn K cd17 "_law_cell_at" = true) (k17 : PySem.W.keepIn K (.ref f17) = true)
    (a18 : PySem.W.nsIn K mainGlobals "_law_twice" = some (some (.ref f18))) (l18 : K.lookup f18 = some ⟨oc18, od18, .func (PySem.W.fnOf "_law_twice" "_law_twice" (defArgs s_law_twice) (defBody s_law_twice) (defScope s_law_twice) .none kV18 dc18 pm18 an18 cd18 ct18), sl18⟩) (c18 : PySem.W.codeIn K cd18 "_law_twice" = true) (k18 : PySem.W.keepIn K (.ref f18) = true)
    (a19 : PySem.W.nsIn K mainGlobals "_law_grown" = some (some (.ref f19))) (l19 : K.lookup f19 = some ⟨oc19, od19, .func (PySem.W.fnOf "_law_grown" "_law_grown" (defArgs s_law_grown) (defBody s_law_grown) (defScope s_law_grown) .none kV19 dc19 pm19 an19 cd19 ct19), sl19⟩) (c19 : PySem.W.codeIn K cd19 "_law_grown" = true) (k19 : PySem.W.keepIn K (.ref f19) = true)
    (a20 : PySem.W.nsIn K mainGlobals "_law_drawn" = some (some (.ref f20))) (l20 : K.lookup f20 = some ⟨oc20, od20, .func (PySem.W.fnOf "_law_drawn" "_law_drawn" (defArgs s_law_drawn) (defBody s_law_drawn) (defScope s_law_drawn) .none kV20 dc20 pm20 an20 cd20 ct20), sl20⟩) (c20 : PySem.W.codeIn K cd20 "_law_drawn" = true) (k20 : PySem.W.keepIn K (.ref f20) = true)
    (a21 : PySem.W.nsIn K mainGlobals "_law_repeated" = some (some (.ref f21))) (l21 : K.lookup f21 = some ⟨oc21, od21, .func (PySem.W.fnOf "_law_repeated" "_law_repeated" (defArgs s_law_repeated) (defBody s_law_repeated) (defScope s_law_repeated) .none kV21 dc21 pm21 an21 cd21 ct21), sl21⟩) (c21 : PySem.W.codeIn K cd21 "_law_repeated" = true) (k21 : PySem.W.keepIn K (.ref f21) = true)
    (a22 : PySem.W.nsIn K mainGlobals "_law_wood" = some (some (.ref f22))) (l22 : K.lookup f22 = some ⟨oc22, od22, .func (PySem.W.fnOf "_law_wood" "_law_wood" (defArgs s_law_wood) (defBody s_law_wood) (defScope s_law_wood) .none kV22 dc22 pm22 an22 cd22 ct22), sl22⟩) (c22 : PySem.W.codeIn K cd22 "_law_wood" = true) (k22 : PySem.W.keepIn K (.ref f22) = true)
    (a23 : PySem.W.nsIn K mainGlobals "_law_plain" = some (some (.ref f23))) (l23 : K.lookup f23 = some ⟨oc23, od23, .func (PySem.W.fnOf "_law_plain" "_law_plain" (defArgs s_law_plain) (defBody s_law_plain) (defScope s_law_plain) .none kV23 dc23 pm23 an23 cd23 ct23), sl23⟩) (c23 : PySem.W.codeIn K cd23 "_law_plain" = true) (k23 : PySem.W.keepIn K (.ref f23) = true)
    (a24 : PySem.W.nsIn K mainGlobals "_law_order" = some (some (.ref f24))) (l24 : K.lookup f24 = some ⟨oc24, od24, .func (PySem.W.fnOf "_law_order" "_law_order" (defArgs s_law_order) (defBody s_law_order) (defScope s_law_order) .none kV24 dc24 pm24 an24 (.ref 204) ct24), sl24⟩) (c24 : PySem.W.codeIn K (.ref 204) "_law_order" = true) (k24 : PySem.W.keepIn K (.ref f24) = true)
    (lc24 : K.lookup 204 = some oo24) (hc24 : CodeHdO oo24 204 200)
    (a25 : PySem.W.nsIn K mainGlobals "_law_open_row" = some (some (.ref f25))) (l25 : K.lookup f25 = some ⟨oc25, od25, .func (PySem.W.fnOf "_law_open_row" "_law_open_row" (defArgs s_law_open_row) (defBody s_law_open_row) (defScope s_law_open_row) .none kV25 dc25 pm25 an25 cd25 ct25), sl25⟩) (c25 : PySem.W.codeIn K cd25 "_law_open_row" = true) (k25 : PySem.W.keepIn K (.ref f25) = true)
    (a26 : PySem.W.nsIn K mainGlobals "_law_rows" = some (some (.ref f26))) (l26 : K.lookup f26 = some ⟨oc26, od26, .func (PySem.W.fnOf "_law_rows" "_law_rows" (defArgs s_law_rows) (defBody s_law_rows) (defScope s_law_rows) .none kV26 dc26 pm26 an26 cd26 ct26), sl26⟩) (c26 : PySem.W.codeIn K cd26 "_law_rows" = true) (k26 : PySem.W.keepIn K (.ref f26) = true)
    (a27 : PySem.W.nsIn K mainGlobals "law" = some (some (.ref f27))) (l27 : K.lookup f27 = some ⟨oc27, od27, .func (PySem.W.fnOf "law" "law" (defArgs s_law) (defBody s_law) (defScope s_law) .none kV27 dc27 pm27 an27 cd27 ct27), sl27⟩) (c27 : PySem.W.codeIn K cd27 "law" = true) (k27 : PySem.W.keepIn K (.ref f27) = true)
    (g_MOST_KNOTS : PySem.W.nsIn K mainGlobals "MOST_KNOTS" = some (some (.int 4000 t_MOST_KNOTS)))
    (z_range : PySem.W.nsIn K mainGlobals "range" = some none)
    (z_len : PySem.W.nsIn K mainGlobals "len" = some none)
    (z_int : PySem.W.nsIn K mainGlobals "int" = some none)
    (z_bool : PySem.W.nsIn K mainGlobals "bool" = some none)
    (z_str : PySem.W.nsIn K mainGlobals "str" = some none)
    (z_isinstance : PySem.W.nsIn K mainGlobals "isinstance" = some none)
    (z_list : PySem.W.nsIn K mainGlobals "list" = some none)
    (z_enumerate : PySem.W.nsIn K mainGlobals "enumerate" = some none)
    (z_abs : PySem.W.nsIn K mainGlobals "abs" = some none)
    (z_max : PySem.W.nsIn K mainGlobals "max" = some none)
    (z_min : PySem.W.nsIn K mainGlobals "min" = some none)
    (z_sorted : PySem.W.nsIn K mainGlobals "sorted" = some none)
    (z_reversed : PySem.W.nsIn K mainGlobals "reversed" = some none)
    (z_ValueError : PySem.W.nsIn K mainGlobals "ValueError" = some none)
    (eg_WoodError : PySem.W.nsIn K mainGlobals "WoodError" = some (some (.ref C_WoodError)))
    (eg_NoBits : PySem.W.nsIn K mainGlobals "NoBits" = some (some (.ref C_NoBits)))
    (eg_NoPlace : PySem.W.nsIn K mainGlobals "NoPlace" = some (some (.ref C_NoPlace)))
    (eg_NoRow : PySem.W.nsIn K mainGlobals "NoRow" = some (some (.ref C_NoRow)))
    (eg_NoWood : PySem.W.nsIn K mainGlobals "NoWood" = some (some (.ref C_NoWood)))
    (ex_WoodError : PySem.W.excIn K C_WoodError veMro "ValueError.__new__" = true)
    (bg_WoodError : PySem.W.specialIn K (.ref C_WoodError) "__getattribute__" = some (some (.builtin "type.__getattribute__")))
    (br_WoodError : PySem.W.readsIn K C_WoodError (.type "type") = true)
    (bi_WoodError : PySem.W.findCls K (.ref C_WoodError) (.type "type") "__init__" = some (.val (.builtin "ValueError.__init__")))
    (sa_NoWood : PySem.W.findIn K (.ref C_NoWood) "__setattr__" = some (some (.builtin "object.__setattr__")))
    (pl_NoWood : PySem.W.findIn K (.ref C_NoWood) "place" = some none)
    (ga_NoWood : PySem.W.findIn K (.ref C_NoWood) "__getattribute__" = some (some (.builtin "BaseException.__getattribute__")))
    (gx_NoWood : PySem.W.findIn K (.ref C_NoWood) "__getattr__" = some none)
    (ca_NoWood : PySem.W.findIn K (.ref C_NoWood) "__class__" = some (some (.builtin "object.__class__")))
    (sp_NoWood : PySem.W.specialIn K (.builtin "object.__class__") "__get__" = some (some (.builtin "getset_descriptor.__get__")))
    (tk_NoWood : PySem.W.takesIn K (.builtin "object.__class__") = some true)
    (mo_NoWood : PySem.W.mroIn K C_NoWood (.type "object") = some true)
    (mb_NoWood : PySem.W.mroIn K C_NoWood (.type "BaseException") = some true)
    (em_NoWood : PySem.W.exmOne K (.ref C_NoWood) (.ref C_WoodError) = some true)
    (em2_NoWood : PySem.W.exmOne K (.ref C_NoWood) (.ref C_NoWood) = some true)
    (kit_NoWood_ValueError : PySem.W.kitOne K (.ref C_NoWood) (.type "ValueError") = some true)
    (kit_NoWood_NoRow : PySem.W.kitOne K (.ref C_NoWood) (.ref C_NoRow) = some false)
    (kit_NoWood_NoWood : PySem.W.kitOne K (.ref C_NoWood) (.ref C_NoWood) = some true)
    (kit_NoWood_NoBits : PySem.W.kitOne K (.ref C_NoWood) (.ref C_NoBits) = some false)
    (kit_NoWood_NoPlace : PySem.W.kitOne K (.ref C_NoWood) (.ref C_NoPlace) = some false)
    (ob_NoWood : K.lookup C_NoWood = some (excClassObj nm_NoWood qn_NoWood C_NoWood N_NoWood bs_NoWood (.ref C_WoodError :: veMro) true sn_NoWood sub_NoWood ab_NoWood col_NoWood dd_NoWood k0_NoWood k1_NoWood k2_NoWood k3_NoWood k5_NoWood "ValueError.__new__"))
    : ∃ fd : FuncData, (∀ (s : Shared) (v : Value), BindsTo s fd ⟨[v], []⟩ [("_law_script", v)]) ∧ ∀ base : Heap, K.In base → base.Ns mainGlobals mg → (∀ q ∈ ([(204, 200)] : List (Addr × Addr)), base.BuiltinsAt mg q.2) → FnOk l.prog w K mg base CX0 8 fa fd ["_law_script"] (spLaw K ⟨200, pos_law_order, "_law_order.<locals>.<lambda>"⟩) := by
  have e := hfa.symm.trans (PySem.W.mg_of X G a27)
  cases e
  have O_NoWood : OwnX K C_WoodError C_NoWood f0 := ⟨ex_WoodError, ⟨_, _, _, _, _, _, _, _, _, _, _, _, _, _, ob_NoWood⟩, a0, beq_iff_eq.mp i0, sa_NoWood, pl_NoWood⟩
  have T : Txt K mg C_WoodError C_NoBits C_NoPlace C_NoRow C_NoWood := ⟨PySem.W.mg_of X G eg_WoodError, PySem.W.mg_of X G eg_NoBits, PySem.W.mg_of X G eg_NoPlace, PySem.W.mg_of X G eg_NoRow, PySem.W.mg_of X G eg_NoWood, ex_WoodError, bg_WoodError, br_WoodError, bi_WoodError, sa_NoWood, pl_NoWood, ga_NoWood, gx_NoWood, ca_NoWood, sp_NoWood, tk_NoWood, mo_NoWood, mb_NoWood, em_NoWood, em2_NoWood, kit_NoWood_ValueError, kit_NoWood_NoRow, kit_NoWood_NoWood, kit_NoWood_NoBits, kit_NoWood_NoPlace, ⟨_, PySem.W.mg_of X G g_MOST_KNOTS⟩, PySem.W.mg_none_of X G z_range, PySem.W.mg_none_of X G z_len, PySem.W.mg_none_of X G z_int, PySem.W.mg_none_of X G z_bool, PySem.W.mg_none_of X G z_str, PySem.W.mg_none_of X G z_isinstance, PySem.W.mg_none_of X G z_list, PySem.W.mg_none_of X G z_enumerate, PySem.W.mg_none_of X G z_abs, PySem.W.mg_none_of X G z_max, PySem.W.mg_none_of X G z_min, PySem.W.mg_none_of X G z_sorted, PySem.W.mg_none_of X G z_reversed, PySem.W.mg_none_of X G z_ValueError, ⟨_, O_NoWood⟩⟩
  have F0 := fun_mk (st := s_NoWood_init) l0 c0 k0
  have b0 := F0.binds (ps := ["self", "place"]) fun _ _ _ _ _ _ => us2 fun _ _ => rfl
  have F1 := fun_mk (st := s_check_signs) l1 c1 k1
  have b1 := F1.binds (ps := ["row", "begin"]) fun _ _ _ _ _ _ => us2 fun _ _ => rfl
  have F2 := fun_mk (st := s_counted_row) l2 c2 k2
  have b2 := F2.binds (ps := ["many"]) fun _ _ _ _ _ _ => us1 fun _ => rfl
  have F3 := fun_mk (st := s_law_groups) l3 c3 k3
  have b3 := F3.binds (ps := ["_law_groups_here"]) fun _ _ _ _ _ _ => us1 fun _ => rfl
  have F4 := fun_mk (st := s_groups_of) l4 c4 k4
  have b4 := F4.binds (ps := ["row"]) fun _ _ _ _ _ _ => us1 fun _ => rfl
  have F5 := fun_mk (st := s_running_sums) l5 c5 k5
  have b5 := F5.binds (ps := ["numbers"]) fun _ _ _ _ _ _ => us1 fun _ => rfl
  have F6 := fun_mk (st := s_open_to_counts) l6 c6 k6
  have b6 := F6.binds (ps := ["row"]) fun _ _ _ _ _ _ => us1 fun _ => rfl
  have F7 := fun_mk (st := s_levels_to_counts) l7 c7 k7
  have b7 := F7.binds (ps := ["row"]) fun _ _ _ _ _ _ => us1 fun _ => rfl
  have F8 := fun_mk (st := s_counts_to_open) l8 c8 k8
  have b8 := F8.binds (ps := ["row"]) fun _ _ _ _ _ _ => us1 fun _ => rfl
  have F9 := fun_mk (st := s_open_to_levels) l9 c9 k9
  have b9 := F9.binds (ps := ["row"]) fun _ _ _ _ _ _ => us1 fun _ => rfl
  have F10 := fun_mk (st := s_levels_to_open) l10 c10 k10
  have b10 := F10.binds (ps := ["row"]) fun _ _ _ _ _ _ => us1 fun _ => rfl
  have F11 := fun_mk (st := s_counts_to_levels) l11 c11 k11
  have b11 := F11.binds (ps := ["row"]) fun _ _ _ _ _ _ => us1 fun _ => rfl
  have F12 := fun_mk (st := s_law_led) l12 c12 k12
  have b12 := F12.binds (ps := ["_law_row", "_law_one", "_law_other"]) fun _ _ _ _ _ _ => us3 fun _ _ _ => rfl
  have F13 := fun_mk (st := s_law_digit) l13 c13 k13
  have b13 := F13.binds (ps := ["_law_left", "_law_many"]) fun _ _ _ _ _ _ => us2 fun _ _ => rfl
  have F14 := fun_mk (st := s_law_spoilt) l14 c14 k14
  have b14 := F14.binds (ps := ["_law_row", "_law_left"]) fun _ _ _ _ _ _ => us2 fun _ _ => rfl
  have F15 := fun_mk (st := s_law_longest) l15 c15 k15
  have b15 := F15.binds (ps := ["_law_row", "_law_kind"]) fun _ _ _ _ _ _ => us2 fun _ _ => rfl
  have F16 := fun_mk (st := s_law_told) l16 c16 k16
  have b16 := F16.binds (ps := ["_law_row", "_law_one", "_law_other"]) fun _ _ _ _ _ _ => us3 fun _ _ _ => rfl
  have F17 := fun_mk (st := s_law_cell_at) l17 c17 k17
  have b17 := F17.binds (ps := ["_law_script", "_law_k"]) fun _ _ _ _ _ _ => us2 fun _ _ => rfl
  have F18 := fun_mk (st := s_law_twice) l18 c18 k18
  have b18 := F18.binds (ps := ["_law_cell", "_law_k"]) fun _ _ _ _ _ _ => us2 fun _ _ => rfl
  have F19 := fun_mk (st := s_law_grown) l19 c19 k19
  have b19 := F19.binds (ps := ["_law_cell", "_law_many"]) fun _ _ _ _ _ _ => us2 fun _ _ => rfl
  have F20 := fun_mk (st := s_law_drawn) l20 c20 k20
  have b20 := F20.binds (ps := ["_law_script", "_law_many"]) fun _ _ _ _ _ _ => us2 fun _ _ => rfl
  have F21 := fun_mk (st := s_law_repeated) l21 c21 k21
  have b21 := F21.binds (ps := ["_law_elders", "_law_times", "_law_hung"]) fun _ _ _ _ _ _ => us3 fun _ _ _ => rfl
  have F22 := fun_mk (st := s_law_wood) l22 c22 k22
  have b22 := F22.binds (ps := ["_law_script", "_law_most", "_law_large"]) fun _ _ _ _ _ _ => us3 fun _ _ _ => rfl
  have F23 := fun_mk (st := s_law_plain) l23 c23 k23
  have b23 := F23.binds (ps := ["_law_elders"]) fun _ _ _ _ _ _ => us1 fun _ => rfl
  have F24 := fun_mkL (st := s_law_order) l24 c24 k24 lc24 hc24
  have b24 := F24.binds (ps := ["_law_deep"]) fun _ _ _ _ _ _ => us1 fun _ => rfl
  have F25 := fun_mk (st := s_law_open_row) l25 c25 k25
  have b25 := F25.binds (ps := ["_law_elders"]) fun _ _ _ _ _ _ => us1 fun _ => rfl
  have F26 := fun_mk (st := s_law_rows) l26 c26 k26
  have b26 := F26.binds (ps := ["_law_elders", "_law_plain_here"]) fun _ _ _ _ _ _ => us2 fun _ _ => rfl
  have F27 := fun_mk (st := s_law) l27 c27 k27
  refine ⟨PySem.W.fnOf "law" "law" (defArgs s_law) (defBody s_law) (defScope s_law) .none kV27 dc27 pm27 an27 cd27 ct27, fun s v => .of_eq rfl, fun base hK _ hB => ?_⟩
  have V0 : ExcI l.prog w K mg base "NoWood" C_WoodError C_NoWood 1 ["self", "place"] := ⟨⟨f0, _, ok_NoWood_init F0 T, b0, O_NoWood⟩, T.g_NoWood, T.k_NoWood⟩
  have V1 : CalE l.prog w K mg base "check_signs" 3 ["row", "begin"] (spCheckS K C_NoWood) := ⟨⟨f1, _, ok_check_signs F1 T V0, b1, PySem.W.mg_of X G a1, k1⟩⟩
  have V2 : Cal l.prog w K mg base "counted_row" 1 ["many"] spGroups := ⟨⟨f2, _, ok_counted_row F2 T, b2, PySem.W.mg_of X G a2, k2⟩⟩
  have V3 : Cal l.prog w K mg base "_law_groups" 1 ["_law_groups_here"] spGroups := ⟨⟨f3, _, ok_law_groups F3 T, b3, PySem.W.mg_of X G a3, k3⟩⟩
  have V4 : Cal l.prog w K mg base "groups_of" 1 ["row"] spGroupsOf := ⟨⟨f4, _, ok_groups_of F4 T, b4, PySem.W.mg_of X G a4, k4⟩⟩
  have V5 : Cal l.prog w K mg base "running_sums" 1 ["numbers"] spRun := ⟨⟨f5, _, ok_running_sums F5 T, b5, PySem.W.mg_of X G a5, k5⟩⟩
  have V6 : CalE l.prog w K mg base "open_to_counts" 4 ["row"] (spLed K C_NoWood 0 gOC) := ⟨⟨f6, _, ok_open_to_counts F6 T V1 V2, b6, PySem.W.mg_of X G a6, k6⟩⟩
  have V7 : CalE l.prog w K mg base "levels_to_counts" 4 ["row"] (spLed K C_NoWood 1 gLC) := ⟨⟨f7, _, ok_levels_to_counts F7 T V1 V2 V4 V5, b7, PySem.W.mg_of X G a7, k7⟩⟩
  have V8 : CalE l.prog w K mg base "counts_to_open" 4 ["row"] (spLed K C_NoWood 1 gCO) := ⟨⟨f8, _, ok_counts_to_open F8 T V1 V4, b8, PySem.W.mg_of X G a8, k8⟩⟩
  have V9 : CalE l.prog w K mg base "open_to_levels" 4 ["row"] (spLed K C_NoWood 0 gOL) := ⟨⟨f9, _, ok_open_to_levels F9 T V1 V2, b9, PySem.W.mg_of X G a9, k9⟩⟩
  have V10 : CalE l.prog w K mg base "levels_to_open" 5 ["row"] (spLed K C_NoWood 1 gLO) := ⟨⟨f10, _, ok_levels_to_open F10 T V7 V8, b10, PySem.W.mg_of X G a10, k10⟩⟩
  have V11 : CalE l.prog w K mg base "counts_to_levels" 5 ["row"] (spLed K C_NoWood 1 gCL) := ⟨⟨f11, _, ok_counts_to_levels F11 T V8 V9, b11, PySem.W.mg_of X G a11, k11⟩⟩
  have V12 : CalE l.prog w K mg base "_law_led" 6 ["_law_row", "_law_one", "_law_other"] (spLedL K C_NoWood) := ⟨⟨f12, _, ok_law_led F12 T V9 V6 V10 V7 V8 V11, b12, PySem.W.mg_of X G a12, k12⟩⟩
  have V13 : Cal l.prog w K mg base "_law_digit" 1 ["_law_left", "_law_many"] spDigit := ⟨⟨f13, _, ok_law_digit F13 T, b13, PySem.W.mg_of X G a13, k13⟩⟩
  have V14 : Cal l.prog w K mg base "_law_spoilt" 2 ["_law_row", "_law_left"] spSpoilL := ⟨⟨f14, _, ok_law_spoilt F14 T V13, b14, PySem.W.mg_of X G a14, k14⟩⟩
  have V15 : Cal l.prog w K mg base "_law_longest" 1 ["_law_row", "_law_kind"] spLong := ⟨⟨f15, _, ok_law_longest F15 T, b15, PySem.W.mg_of X G a15, k15⟩⟩
  have V16 : Cal l.prog w K mg base "_law_told" 7 ["_law_row", "_law_one", "_law_other"] (spTold K) := ⟨⟨f16, _, ok_law_told F16 T V12, b16, PySem.W.mg_of X G a16, k16⟩⟩
  have V17 : Cal l.prog w K mg base "_law_cell_at" 1 ["_law_script", "_law_k"] (spCell K) := ⟨⟨f17, _, ok_law_cell_at F17 T, b17, PySem.W.mg_of X G a17, k17⟩⟩
  have V18 : Cal l.prog w K mg base "_law_twice" 1 ["_law_cell", "_law_k"] spTwice := ⟨⟨f18, _, ok_law_twice F18 T, b18, PySem.W.mg_of X G a18, k18⟩⟩
  have V19 : Cal l.prog w K mg base "_law_grown" 1 ["_law_cell", "_law_many"] spGrown := ⟨⟨f19, _, ok_law_grown F19 T, b19, PySem.W.mg_of X G a19, k19⟩⟩
  have V20 : Cal l.prog w K mg base "_law_drawn" 2 ["_law_script", "_law_many"] (spDrawn K) := ⟨⟨f20, _, ok_law_drawn F20 T V17 V18, b20, PySem.W.mg_of X G a20, k20⟩⟩
  have V21 : Cal l.prog w K mg base "_law_repeated" 1 ["_law_elders", "_law_times", "_law_hung"] spRep := ⟨⟨f21, _, ok_law_repeated F21 T, b21, PySem.W.mg_of X G a21, k21⟩⟩
  have V22 : Cal l.prog w K mg base "_law_wood" 3 ["_law_script", "_law_most", "_law_large"] (spWoodL K) := ⟨⟨f22, _, ok_law_wood F22 T V17 V19 V20 V21, b22, PySem.W.mg_of X G a22, k22⟩⟩
  have V23 : Cal l.prog w K mg base "_law_plain" 1 ["_law_elders"] spPlain := ⟨⟨f23, _, ok_law_plain F23 T, b23, PySem.W.mg_of X G a23, k23⟩⟩
  have V24 : Cal l.prog w K mg base "_law_order" 2 ["_law_deep"] (spOrd1 ⟨200, pos_law_order, "_law_order.<locals>.<lambda>"⟩) := ⟨⟨f24, _, ok_law_order F24 T hK (hB (204, 200) (by simp)), b24, PySem.W.mg_of X G a24, k24⟩⟩
  have V25 : Cal l.prog w K mg base "_law_open_row" 1 ["_law_elders"] spOpenRow := ⟨⟨f25, _, ok_law_open_row F25 T, b25, PySem.W.mg_of X G a25, k25⟩⟩
  have V26 : Cal l.prog w K mg base "_law_rows" 3 ["_law_elders", "_law_plain_here"] (spRows ⟨200, pos_law_order, "_law_order.<locals>.<lambda>"⟩) := ⟨⟨f26, _, ok_law_rows F26 T V24 V3 V25, b26, PySem.W.mg_of X G a26, k26⟩⟩
  exact ok_law F27 T V17 V18 V22 V23 V26 V13 V14 V15 V16
theorem walk {l : PySem.W.OpenLaw} {q : Program} {loose : List Str} {XP : (Str → Option Value) → Heap → Prop} {YP : World → Heap → Prop} {d : DefRec} {K : Params → PySem.W.Frag} (hn : l.most = some 63) (hdf : d.params.defaults = [])
    (hY : ∀ (w : World) (h : Heap), YP w h → (K w.params).In h) (hTb : ∀ (w : World) (h : Heap), YP w h → PySem.W.TabsAt [(204, 200)] h) (hTK : ∀ w : World, ∀ p ∈ ([(204, 200)] : List (Addr × Addr)), (K w.params).lookup p.2 = none)
    (F : ∀ (w : World) (mg : Str → Option Value) (fa : Addr) (h : Heap), (K w.params).In h → h.Ns mainGlobals mg → mg d.name = some (.ref fa) →
      ∃ fd : FuncData, (∀ (s : Shared) (u : Value), BindsTo s fd ⟨[u], []⟩ [("_law_script", u)]) ∧ ∀ base : Heap, (K w.params).In base → base.Ns mainGlobals mg → (∀ q ∈ ([(204, 200)] : List (Addr × Addr)), base.BuiltinsAt mg q.2) → FnOk l.prog w (K w.params) mg base CX0 8 fa fd ["_law_script"] (spLaw (K w.params) ⟨200, pos_law_order, "_law_order.<locals>.<lambda>"⟩)) :
    PySem.W.WalkO q loose XP YP l.row.toRowW d [] (fun f vs => PySem.call f vs) :=
  L2.walk_ofT2 (n := 63) (k := 8) (x := "_law_script") (tabs := [(204, 200)]) (CX := fun _ => CX0) (sp := fun w => (spLaw (K w.params) ⟨200, pos_law_order, "_law_order.<locals>.<lambda>"⟩)) hn (by decide) hdf ⟨rfl, by decide, by decide⟩ hY hTb hTK F (fun _ _ a ns hl hO hS => ⟨a, ns, rfl, hS, hl, ⟨#[], hO (204, 200) (by simp), trivial, .inl rfl⟩, fun _ => rfl⟩) fun _ _ _ _ _ z => z
end TK
noncomputable def PySem.W.Fast.tw7882839319991249425 : PySem.Program := PySem.Challenge.pw_tightwood_k92_rows_that_are_none
theorem PySem.W.Fast.te7882839319991249425 : PySem.Challenge.pw_tightwood_k92_rows_that_are_none = PySem.W.Fast.tw7882839319991249425 := rfl
def HD.loose : List PySem.Str := [PySem.Str.ofString "WoodError", PySem.Str.ofString "NoBits", PySem.Str.ofString "NoPlace", PySem.Str.ofString "NoRow", PySem.Str.ofString "NoWood", PySem.Str.ofString "running_sums", PySem.Str.ofString "MOST_KNOTS", PySem.Str.ofString "counted_row", PySem.Str.ofString "check_signs", PySem.Str.ofString "groups_of", PySem.Str.ofString "open_to_levels", PySem.Str.ofString "open_to_counts", PySem.Str.ofString "levels_to_open", PySem.Str.ofString "levels_to_counts", PySem.Str.ofString "counts_to_open", PySem.Str.ofString "counts_to_levels", PySem.Str.ofString "_law_cell_at", PySem.Str.ofString "_law_twice", PySem.Str.ofString "_law_grown", PySem.Str.ofString "_law_drawn", PySem.Str.ofString "_law_repeated", PySem.Str.ofString "_law_wood", PySem.Str.ofString "_law_plain", PySem.Str.ofString "_law_order", PySem.Str.ofString "_law_groups", PySem.Str.ofString "_law_open_row", PySem.Str.ofString "_law_rows", PySem.Str.ofString "_law_led", PySem.Str.ofString "_law_digit", PySem.Str.ofString "_law_spoilt", PySem.Str.ofString "_law_longest", PySem.Str.ofString "_law_told"]
def HD.LD : PySem.DefRec := HD.recOf (PySem.Challenge.pw_tightwood_k92_rows_that_are_none.main.body.getD 37 (.Pass ⟨0, 0, 0, 0⟩))
def HD.VQ : PySem.Program := PySem.W.view PySem.Challenge.pw_tightwood_k92_rows_that_are_none [37]
local macro_rules | `(tactic| o_head $H) => `(tactic| (refine PySem.W.holds_open (q := HD.VQ) (loose := HD.loose) (d := HD.LD) (kwd := []) (Xt := fun _ => true) (XP := fun _ _ => True) (Yf := PySem.W.Hook.obs $H) (Ya := PySem.W.Hook.val $H) (YP := PySem.W.Hook.says $H) (N := 100000) (HD.left_of (p := PySem.Challenge.pw_tightwood_k92_rows_that_are_none) (q := HD.VQ) (loose := HD.loose) (Yf := PySem.W.Hook.obs $H) (Ya := PySem.W.Hook.val $H) (N := 100000) (M := 100000) (by kernel_rfl) (fun _ => by kernel_rfl) (by kernel_rfl) (by kernel_rfl) fun w => by rw [HD.both_eq]; kernel_rfl) (PySem.W.Hook.of $H) (PySem.W.Hook.keeps $H) (fun _ _ => trivial) (fun _ _ _ _ _ => trivial) (by kernel_rfl) (by kernel_rfl) (by kernel_rfl) (fun _ _ => PySem.W.recFacts_nil rfl) rfl (by assumption) (by decide +kernel) ⟨rfl, rfl, rfl, rfl, rfl, by decide +kernel⟩ ?_ ?_))
open PySem PySem.W PyProof.Rows
set_option maxRecDepth 100000 in
set_option maxHeartbeats 0 in
theorem PySem.Challenge.cw_tightwood_k92_rows_that_are_none_holds : PySem.Challenge.rw_tightwood_k92_rows_that_are_none.Holds := by
  w_on; o_law; k_head
  · w_witness2
  k_fill
  refine TK.walk (l := PySem.Challenge.rw_tightwood_k92_rows_that_are_none) rfl (by kernel_rfl) (fun w h Y => PySem.W.km_in_of Y) (fun w h Y => List.forall_mem_cons.mpr ⟨⟨PySem.W.codeHd_of_K (c := 204) (P := 200) (PySem.W.km_in_of Y) (by kernel_rfl), PySem.W.km_tabs_of Y 200 (by simp)⟩, fun _ h => nomatch h⟩) (fun w => List.forall_mem_cons.mpr ⟨by kernel_rfl, fun _ h => nomatch h⟩) ?F
  case F =>
    intro w mg fa h KX G hmg
    refine' TK.all_mk KX G hmg ?i0 ?a0 ?l0 ?c0 ?k0 ?a1 ?l1 ?c1 ?k1 ?a2 ?l2 ?c2 ?k2 ?a3 ?l3 ?c3 ?k3 ?a4 ?l4 ?c4 ?k4 ?a5 ?l5 ?c5 ?k5 ?a6 ?l6 ?c6 ?k6 ?a7 ?l7 ?c7 ?k7 ?a8 ?l8 ?c8 ?k8 ?a9 ?l9 ?c9 ?k9 ?a10 ?l10 ?c10 ?k10 ?a11 ?l11 ?c11 ?k11 ?a12 ?l12 ?c12 ?k12 ?a13 ?l13 ?c13 ?k13 ?a14 ?l14 ?c14 ?k14 ?a15 ?l15 ?c15 ?k15 ?a16 ?l16 ?c16 ?k16 ?a17 ?l17 ?c17 ?k17 ?a18 ?l18 ?c18 ?k18 ?a19 ?l19 ?c19 ?k19 ?a20 ?l20 ?c20 ?k20 ?a21 ?l21 ?c21 ?k21 ?a22 ?l22 ?c22 ?k22 ?a23 ?l23 ?c23 ?k23 ?a24 ?l24 ?c24 ?k24 ?lc24 ?hc24 ?a25 ?l25 ?c25 ?k25 ?a26 ?l26 ?c26 ?k26 ?a27 ?l27 ?c27 ?k27 ?g_MOST_KNOTS ?z_range ?z_len ?z_int ?z_bool ?z_str ?z_isinstance ?z_list ?z_enumerate ?z_abs ?z_max ?z_min ?z_sorted ?z_reversed ?z_ValueError ?eg_WoodError ?eg_NoBits ?eg_NoPlace ?eg_NoRow ?eg_NoWood ?ex_WoodError ?bg_WoodError ?br_WoodError ?bi_WoodError ?sa_NoWood ?pl_NoWood ?ga_NoWood ?gx_NoWood ?ca_NoWood ?sp_NoWood ?tk_NoWood ?mo_NoWood ?mb_NoWood ?em_NoWood ?em2_NoWood ?kit_NoWood_ValueError ?kit_NoWood_NoRow ?kit_NoWood_NoWood ?kit_NoWood_NoBits ?kit_NoWood_NoPlace ?ob_NoWood
    (case eg_WoodError => k_is)
    (case eg_NoBits => k_is)
    (case eg_NoPlace => k_is)
    (case eg_NoRow => k_is)
    (case eg_NoWood => k_is)
    (case a0 => k_is)
    (case l0 => k_is)
    (case c0 => k_is)
    (case k0 => k_is)
    (case i0 => k_is)
    (case a1 => k_is)
    (case l1 => k_is)
    (case c1 => k_is)
    (case k1 => k_is)
    (case a2 => k_is)
    (case l2 => k_is)
    (case c2 => k_is)
    (case k2 => k_is)
    (case a3 => k_is)
    (case l3 => k_is)
    (case c3 => k_is)
    (case k3 => k_is)
    (case a4 => k_is)
    (case l4 => k_is)
    (case c4 => k_is)
    (case k4 => k_is)
    (case a5 => k_is)
    (case l5 => k_is)
    (case c5 => k_is)
    (case k5 => k_is)
    (case a6 => k_is)
    (case l6 => k_is)
    (case c6 => k_is)
    (case k6 => k_is)
    (case a7 => k_is)
    (case l7 => k_is)
    (case c7 => k_is)
    (case k7 => k_is)
    (case a8 => k_is)
    (case l8 => k_is)
    (case c8 => k_is)
    (case k8 => k_is)
    (case a9 => k_is)
    (case l9 => k_is)
    (case c9 => k_is)
    (case k9 => k_is)
    (case a10 => k_is)
    (case l10 => k_is)
    (case c10 => k_is)
    (case k10 => k_is)
    (case a11 => k_is)
    (case l11 => k_is)
    (case c11 => k_is)
    (case k11 => k_is)
    (case a12 => k_is)
    (case l12 => k_is)
    (case c12 => k_is)
    (case k12 => k_is)
    (case a13 => k_is)
    (case l13 => k_is)
    (case c13 => k_is)
    (case k13 => k_is)
    (case a14 => k_is)
    (case l14 => k_is)
    (case c14 => k_is)
    (case k14 => k_is)
    (case a15 => k_is)
    (case l15 => k_is)
    (case c15 => k_is)
    (case k15 => k_is)
    (case a16 => k_is)
    (case l16 => k_is)
    (case c16 => k_is)
    (case k16 => k_is)
    (case a17 => k_is)
    (case l17 => k_is)
    (case c17 => k_is)
    (case k17 => k_is)
    (case a18 => k_is)
    (case l18 => k_is)
    (case c18 => k_is)
    (case k18 => k_is)
    (case a19 => k_is)
    (case l19 => k_is)
    (case c19 => k_is)
    (case k19 => k_is)
    (case a20 => k_is)
    (case l20 => k_is)
    (case c20 => k_is)
    (case k20 => k_is)
    (case a21 => k_is)
    (case l21 => k_is)
    (case c21 => k_is)
    (case k21 => k_is)
    (case a22 => k_is)
    (case l22 => k_is)
    (case c22 => k_is)
    (case k22 => k_is)
    (case a23 => k_is)
    (case l23 => k_is)
    (case c23 => k_is)
    (case k23 => k_is)
    (case a24 => k_is)
    (case l24 => k_is)
    (case c24 => k_is)
    (case k24 => k_is)
    (case lc24 => k_is)
    (case hc24 => exact ⟨_, _, _, _, _, _, _, _, rfl, rfl, rfl, rfl, rfl, rfl, rfl, rfl, by decide⟩)
    (case a25 => k_is)
    (case l25 => k_is)
    (case c25 => k_is)
    (case k25 => k_is)
    (case a26 => k_is)
    (case l26 => k_is)
    (case c26 => k_is)
    (case k26 => k_is)
    (case a27 => k_is)
    (case l27 => k_is)
    (case c27 => k_is)
    (case k27 => k_is)
    (case g_MOST_KNOTS => k_is)
    (case z_range => k_is)
    (case z_len => k_is)
    (case z_int => k_is)
    (case z_bool => k_is)
    (case z_str => k_is)
    (case z_isinstance => k_is)
    (case z_list => k_is)
    (case z_enumerate => k_is)
    (case z_abs => k_is)
    (case z_max => k_is)
    (case z_min => k_is)
    (case z_sorted => k_is)
    (case z_reversed => k_is)
    (case z_ValueError => k_is)
    (case ex_WoodError => k_exc)
    (case bg_WoodError => k_is)
    (case br_WoodError => k_is)
    (case bi_WoodError => k_is)
    (case sa_NoWood => k_is)
    (case pl_NoWood => k_is)
    (case ga_NoWood => k_is)
    (case gx_NoWood => k_is)
    (case ca_NoWood => k_is)
    (case sp_NoWood => k_is)
    (case tk_NoWood => k_is)
    (case mo_NoWood => k_is)
    (case mb_NoWood => k_is)
    (case em_NoWood => kts_exm)
    (case em2_NoWood => kts_exm)
    (case kit_NoWood_ValueError => kit_is)
    (case kit_NoWood_NoRow => kit_is)
    (case kit_NoWood_NoWood => kit_is)
    (case kit_NoWood_NoBits => kit_is)
    (case kit_NoWood_NoPlace => kit_is)
    (case ob_NoWood => k_is)
#print axioms PySem.Challenge.cw_tightwood_k92_rows_that_are_none_holds
