import PyProof.Rows.All
import Wide.All
import OpenK.AllK
import Wide.FinOn
import Lean
import PyProof.EqAt
import PyProof.EqKinds
import PyProof.TupleCall
import KE.KDictOf
import KE.KLam
import KE.KNest
import KE.KNestM
import KE.KSortKey
import KE.KSortTup
import KE.KTryMore
import OpenK.KCls
import PyProof.AttrMissHeap
import PyProof.Draws
import PyProof.EnumMake
import PyProof.EnumStmt
import PyProof.InstStoreFacts
import PyProof.ListRange
import PyProof.ObjNew
import PyProof.SliceList
import PyProof.WalksEnum
import PyProof.ZipIter
import PySem.Challenge.RW_tightwood_k72_pieces_in_form
set_option Elab.async false
set_option linter.all false
set_option maxRecDepth 100000
namespace L2
open PySem PySem.Spec PyProof.Rows

abbrev Key := Sum Int Str
def keyIs : Key → Value → Bool
  | .inl k, v => Value.isInt k v
  | .inr x, v => Value.isStrOf x v
def keyH (w : World) : Key → Int
  | .inl k => hashInt k
  | .inr x => hashStr w x
theorem keyIs_shape : ∀ {k : Key} {v : Value}, keyIs k v = true → (∃ i t, k = Sum.inl i ∧ v = Value.int i t) ∨ (∃ x t, k = Sum.inr x ∧ v = Value.str x t)
  | .inl i, v, h => by
    obtain ⟨t, e⟩ := Value.isInt_shape (k := i) (v := v) h
    exact .inl ⟨i, t, rfl, e⟩
  | .inr x, v, h => by
    obtain ⟨t, e⟩ := Value.isStrOf_shape (x := x) (v := v) h
    exact .inr ⟨x, t, rfl, e⟩
theorem key_ll (a b : Int) : decide ((Sum.inl a : Key) = Sum.inl b) = (a == b) := by
  by_cases e : a = b
  · subst e; simp
  · have h : ¬ (Sum.inl a : Key) = Sum.inl b := fun q => e (Sum.inl.inj q)
    rw [decide_eq_false h]
    exact (beq_eq_false_iff_ne.mpr e).symm
theorem key_rr (a b : Str) : decide ((Sum.inr a : Key) = Sum.inr b) = decide (a = b) := by
  by_cases e : a = b
  · subst e; simp
  · have h : ¬ (Sum.inr a : Key) = Sum.inr b := fun q => e (Sum.inr.inj q)
    rw [decide_eq_false h, decide_eq_false e]
theorem key_lr (a : Int) (b : Str) : decide ((Sum.inl a : Key) = Sum.inr b) = false := decide_eq_false (fun q => nomatch q)
theorem key_rl (a : Str) (b : Int) : decide ((Sum.inr a : Key) = Sum.inl b) = false := decide_eq_false (fun q => nomatch q)

def mixKind (prog : Program) (w : World) : PySem.KeyKind prog w Key where
  is := keyIs
  hash := keyH w
  inj := fun v a b ha hb => by
    rcases keyIs_shape ha with ⟨i, t, rfl, rfl⟩ | ⟨x, t, rfl, rfl⟩
    · rcases keyIs_shape hb with ⟨j, u, rfl, e⟩ | ⟨y, u, rfl, e⟩
      · injection e with e1 _; rw [e1]
      · exact nomatch e
    · rcases keyIs_shape hb with ⟨j, u, rfl, e⟩ | ⟨y, u, rfl, e⟩
      · exact nomatch e
      · injection e with e1 _; rw [e1]
  byValue := fun k v h => by
    rcases keyIs_shape h with ⟨i, t, rfl, rfl⟩ | ⟨x, t, rfl, rfl⟩ <;> rfl
  pyHash := fun hv h => by
    rcases keyIs_shape hv with ⟨i, t, rfl, rfl⟩ | ⟨x, t, rfl, rfl⟩
    · exact wpAny_pyHash_int h
    · exact wpAny_pyHash_str h
  eqBool := fun hu hv h => by
    rcases keyIs_shape hu with ⟨i, t, rfl, rfl⟩ | ⟨x, t, rfl, rfl⟩
    · rcases keyIs_shape hv with ⟨j, u, rfl, rfl⟩ | ⟨y, u, rfl, rfl⟩
      · rw [key_ll] at h; exact wpAny_eqBool_int h
      · rw [key_lr] at h; exact SeqAt.EqAt.int_str i t y u _ _ _ _ h
    · rcases keyIs_shape hv with ⟨j, u, rfl, rfl⟩ | ⟨y, u, rfl, rfl⟩
      · rw [key_rl] at h; exact SeqAt.EqAt.str_int x t j u _ _ _ _ h
      · rw [key_rr] at h; exact wpAny_eqBool_str h
  «strs» := fun k x t v h => by
    rcases keyIs_shape h with ⟨i, u, rfl, e⟩ | ⟨y, u, rfl, e⟩
    · exact nomatch e
    · injection e with e1 _
      subst e1
      cases v <;> rfl

end L2

namespace L2
open PySem PySem.Spec PyProof.Rows

inductive V where
  | non | bl (b : Bool) | int (i : Int) | str (x : Str) | byt (b : Array UInt8) | flt (b : UInt64) | ref (a : Addr) | ty (n : String)
  deriving DecidableEq

def RelV : V → Value → Prop
  | .non, u => u = Value.none
  | .bl b, u => u = Value.bool b
  | .int i, u => ∃ t, u = Value.int i t
  | .str x, u => ∃ t, u = Value.str x t
  | .byt b, u => ∃ t, u = Value.bytes b t
  | .flt b, u => ∃ t, u = Value.float b t
  | .ref a, u => u = Value.ref a
  | .ty n, u => u = Value.type n

abbrev Vals : List V → List Value → Prop := Paired RelV
theorem Vals.length {xs : List V} {us : List Value} (r : Vals xs us) : xs.length = us.length := Paired.length r
theorem Vals.get : ∀ {xs : List V} {us : List Value} {i : Nat} {x : V}, Vals xs us → xs[i]? = some x → ∃ u, us[i]? = some u ∧ RelV x u
  | _, _, _, _, .nil, e => by simp at e
  | _, _, 0, _, .cons r _, e => by simp at e; subst e; exact ⟨_, rfl, r⟩
  | _, _, i + 1, x, .cons _ t, e => by
    obtain ⟨u, h1, h2⟩ := Vals.get (i := i) (x := x) t (by simpa using e)
    exact ⟨u, by simpa using h1, h2⟩
theorem Vals.set {x : V} {u : Value} (r : RelV x u) : ∀ {xs : List V} {us : List Value} (i : Nat), Vals xs us → Vals (xs.set i x) (us.set i u)
  | _, _, _, .nil => .nil
  | _, _, 0, .cons _ t => .cons r t
  | _, _, i + 1, .cons q t => .cons q (Vals.set r i t)
theorem Vals.append : ∀ {xs ys : List V} {us ws : List Value}, Vals xs us → Vals ys ws → Vals (xs ++ ys) (us ++ ws)
  | _, _, _, _, .nil, s => s
  | _, _, _, _, .cons r t, s => .cons r (Vals.append t s)
theorem Vals.take : ∀ {xs : List V} {us : List Value} (n : Nat), Vals xs us → Vals (xs.take n) (us.take n)
  | _, _, 0, _ => .nil
  | _, _, _ + 1, .nil => .nil
  | _, _, n + 1, .cons r t => .cons r (Vals.take n t)
theorem Vals.drop : ∀ {xs : List V} {us : List Value} (n : Nat), Vals xs us → Vals (xs.drop n) (us.drop n)
  | _, _, 0, r => r
  | _, _, _ + 1, .nil => .nil
  | _, _, n + 1, .cons _ t => Vals.drop n t
def RelO : Option V → Option Value → Prop
  | some v, some u => RelV v u
  | none, none => True
  | _, _ => False
def KV {κ : Type} : List (κ × V) → List (κ × Value) → Prop := Paired fun (p : κ × V) (q : κ × Value) => p.1 = q.1 ∧ RelV p.2 q.2

def kV : Key → V
  | .inl i => .int i
  | .inr x => .str x

inductive HO where
    | lst (xs : List V)
    | tup (xs : List V)
    | dK (kvs : List (Key × V)) | dT (kvs : List (List Key × V))
    | set (S : Int → Bool) (n : Nat)
    | ins (C dx : Addr) (fs : List (Str × V))
    | own (x : Addr)
    | xd (fs : List (Str × V))
    | met (f x : Addr)
    | rng (lo hi : Int)
    | frz (o : Obj) (u : HO)
    | tbl (ps : Array Value)
    | ext (φ : Heap → Prop)

abbrev Hp := Addr → Option HO
def upd (H : Hp) (a : Addr) (o : HO) : Hp := fun b => if b = a then some o else H b
theorem upd_same {H : Hp} {a : Addr} {o : HO} : upd H a o a = some o := by unfold upd; rw [if_pos rfl]
theorem upd_ne {H : Hp} {a b : Addr} {o : HO} (h : b ≠ a) : upd H a o b = H b := by unfold upd; rw [if_neg h]
theorem upd_upd {H : Hp} {a : Addr} {o u : HO} : upd (upd H a o) a u = upd H a u := by
  funext b; unfold upd; split <;> rfl
theorem ne_of {H : Hp} {a b : Addr} {o u : HO} (h : H a = some o) (h' : H b = some u) (d : o ≠ u) : a ≠ b := by
  intro e; subst e; rw [h] at h'; exact d (Option.some.inj h')
theorem ne_of_none {H : Hp} {a b : Addr} {o : HO} (h : H a = some o) (h' : H b = none) : a ≠ b := by
  intro e; subst e; rw [h] at h'; cases h'

section
variable (P : Program) (w : World)
def ObjOk (H : Hp) (h : Heap) (a : Addr) : HO → Prop
  | .lst xs => xs.length ≤ sizeLine ∧ ∃ (its : List Value) (n : Nat), Vals xs its ∧ h.get? a = some { cls := .type "list", data := .seq its.toArray n }
  | .tup xs => xs.length ≤ sizeLine ∧ ∃ its : List Value, Vals xs its ∧ IsTup h a its.toArray
  | .dK kvs => kvs.length ≤ sizeLine ∧ (a == sysModules) = false ∧ ∃ vs, KV kvs vs ∧ h.DictOf (mixKind P w) a vs
  | .dT kvs => kvs.length ≤ sizeLine ∧ (a == sysModules) = false ∧ ∃ xs : List (List Key × Addr × Value),
      Paired (fun (p : List Key × V) (q : List Key × Addr × Value) => p.1 = q.1 ∧ H q.2.1 = some (.tup (p.1.map kV)) ∧ RelV p.2 q.2.2) kvs xs ∧
      ∃ o es ep, h.get? a = some o ∧ o.ExactDict ∧ o.data = .dict es ep ∧ es.toList = xs.map (entryOfKey (tupleKind (mixKind P w))) ∧ (xs.map (·.1)).Nodup
  | .set S n => h.SetOf (intKind P w) a S n
  | .ins C dx fs => H dx = some (.own a) ∧ fs.length ≤ 1000 ∧ dx ≠ a ∧ h.get? a = some (PySem.W.instObj C dx) ∧
      ∃ mA, h.Ns1 dx mA ∧ (∀ f, RelO (fs.lookup f) (mA f)) ∧ PySem.Within mA (fs.map (·.1))
  | .own _ => ∃ o, h.get? a = some o
  | .xd fs => ∃ mA, h.Ns1 a mA ∧ ∀ f, RelO (fs.lookup f) (mA f)
  | .rng lo hi => ∃ t u v, h.get? a = some { cls := .type "range", data := .fields #[.int lo t, .int hi u, .int 1 v] }
  | .frz o u => h.get? a = some o ∧ ObjOk H h a u
  | .tbl ps => h.get? a = some { cls := .none, data := .fields ps }
  | .met f x => h.get? a = some (PySem.W.methodObj (.ref f) (.ref x))
  | .ext φ => φ h ∧ (∃ o, h.get? a = some o) ∧ ∀ h1 h2 : Heap, φ h1 → (∀ o, h1.get? a = some o → h2.get? a = some o) → φ h2
def HOk (H : Hp) (h : Heap) : Prop := ∀ a o, H a = some o → ObjOk P w H h a o
end

section
variable {P : Program} {w : World} {H H' : Hp} {h h' : Heap} {a : Addr} {o : HO}
theorem ObjOk.lt (x : ObjOk P w H h a o) : a < h.objs.size := by
  cases o with
  | lst xs => obtain ⟨_, _, _, _, e⟩ := x; exact Heap.lt_size e
  | tup xs => obtain ⟨_, _, _, p⟩ := x; exact p.lt
  | dK kvs => obtain ⟨_, _, _, _, o, _, _, e, _⟩ := x; exact Heap.lt_size e
  | dT kvs => obtain ⟨_, _, _, _, o, _, _, e, _⟩ := x; exact Heap.lt_size e
  | set S n => obtain ⟨o, _, _, _, e, _⟩ := x; exact Heap.lt_size e
  | ins C dx fs => obtain ⟨_, _, _, e, _⟩ := x; exact Heap.lt_size e
  | own y => obtain ⟨_, e⟩ := x; exact Heap.lt_size e
  | xd fs => obtain ⟨_, ⟨_, _, _, e, _⟩, _⟩ := x; exact Heap.lt_size e
  | rng lo hi => obtain ⟨_, _, _, e⟩ := x; exact Heap.lt_size e
  | frz ob u => obtain ⟨e, _⟩ := x; exact Heap.lt_size e
  | tbl ps => exact Heap.lt_size (show h.get? a = some _ from x)
  | met f y => exact Heap.lt_size (show h.get? a = some _ from x)
  | ext φ => obtain ⟨_, ⟨_, e⟩, _⟩ := x; exact Heap.lt_size e
theorem Paired.mapP {α β : Type} {F G : α → β → Prop} : ∀ {l₁ : List α} {l₂ : List β}, Paired F l₁ l₂ → (∀ a b, F a b → G a b) → Paired G l₁ l₂
  | _, _, .nil, _ => .nil
  | _, _, .cons r t, f => .cons (f _ _ r) (Paired.mapP t f)
theorem ObjOk.stay (x : ObjOk P w H h a o) (k : ∀ b u, (b = a ∨ H b = some (.own a)) → h.get? b = some u → h'.get? b = some u)
    (ho : ∀ b, H b = some (.own a) → H' b = some (.own a)) (ht : ∀ b xs, H b = some (.tup xs) → H' b = some (.tup xs)) : ObjOk P w H' h' a o := by
  induction o with
  | lst xs => obtain ⟨z, its, n, r, e⟩ := x; exact ⟨z, its, n, r, k _ _ (.inl rfl) e⟩
  | tup xs => obtain ⟨z, its, r, ob, e, c⟩ := x; exact ⟨z, its, r, ob, k _ _ (.inl rfl) e, c⟩
  | dK kvs => obtain ⟨z, y, vs, r, ob, es, ep, e, c⟩ := x; exact ⟨z, y, vs, r, ob, es, ep, k _ _ (.inl rfl) e, c⟩
  | dT kvs =>
    obtain ⟨z, y, xs, r, ob, es, ep, e, c⟩ := x
    exact ⟨z, y, xs, Paired.mapP r fun p q z => ⟨z.1, ht _ _ z.2.1, z.2.2⟩, ob, es, ep, k _ _ (.inl rfl) e, c⟩
  | set S n => obtain ⟨ob, es, ep, t, e, c⟩ := x; exact ⟨ob, es, ep, t, k _ _ (.inl rfl) e, c⟩
  | ins C dx fs =>
    obtain ⟨d, z, ne, e, mA, ⟨od, es, ep, e2, c⟩, r⟩ := x
    exact ⟨ho _ d, z, ne, k _ _ (.inl rfl) e, mA, ⟨od, es, ep, k _ _ (.inr d) e2, c⟩, r⟩
  | own y => obtain ⟨ob, e⟩ := x; exact ⟨ob, k _ _ (.inl rfl) e⟩
  | xd fs => obtain ⟨mA, ⟨od, es, ep, e, c⟩, r⟩ := x; exact ⟨mA, ⟨od, es, ep, k _ _ (.inl rfl) e, c⟩, r⟩
  | rng lo hi => obtain ⟨t, u, v, e⟩ := x; exact ⟨t, u, v, k _ _ (.inl rfl) e⟩
  | frz ob u ih => obtain ⟨e, q⟩ := x; exact ⟨k _ _ (.inl rfl) e, ih q⟩
  | tbl ps =>
    have e : h.get? a = some { cls := .none, data := .fields ps } := x
    show h'.get? a = some { cls := .none, data := .fields ps }
    exact k a _ (.inl rfl) e
  | met f y =>
    have e : h.get? a = some (PySem.W.methodObj (.ref f) (.ref y)) := x
    show h'.get? a = some (PySem.W.methodObj (.ref f) (.ref y))
    exact k a _ (.inl rfl) e
  | ext φ => obtain ⟨p, ⟨o, e⟩, st⟩ := x; exact ⟨st _ _ p fun o q => k _ _ (.inl rfl) q, ⟨o, k _ _ (.inl rfl) e⟩, st⟩
theorem HOk.lt (x : HOk P w H h) (e : H a = some o) : a < h.objs.size := (x a o e).lt
theorem HOk.fresh (x : HOk P w H h) (e : h.objs.size ≤ a) : H a = none := by
  cases q : H a with
  | none => rfl
  | some u => exact absurd (Nat.lt_of_lt_of_le (x.lt q) e) (Nat.lt_irrefl _)
theorem HOk.kept (x : HOk P w H h) (k : ∀ b u, h.get? b = some u → h'.get? b = some u) : HOk P w H h' := fun a o e =>
  (x a o e).stay (fun b u _ q => k b u q) (fun _ q => q) fun _ _ q => q
theorem HOk.laid (x : HOk P w H h) (k : ∀ b u, h.get? b = some u → h'.get? b = some u) (hp : h.objs.size ≤ a) (new : ObjOk P w (upd H a o) h' a o) : HOk P w (upd H a o) h' := fun b u e => by
  have hn := x.fresh hp
  by_cases hb : b = a
  · subst hb; rw [upd_same] at e; cases e; exact new
  · rw [upd_ne hb] at e
    exact (x b u e).stay (fun c v _ q => k c v q) (fun c q => by rw [upd_ne (ne_of_none q hn)]; exact q) fun c xs q => by rw [upd_ne (ne_of_none q hn)]; exact q
end

def Rd (H : Hp) (a : Addr) (u : HO) : Prop := H a = some u ∨ ∃ o, H a = some (.frz o u)
theorem Rd.ok {P : Program} {w : World} {H : Hp} {h : Heap} {a : Addr} {u : HO} (r : Rd H a u) (x : HOk P w H h) : ObjOk P w H h a u := by
  rcases r with r | ⟨o, r⟩
  · exact x a u r
  · obtain ⟨_, q⟩ := x a _ r
    exact q
def Mut : Option HO → Prop
  | some (.lst _) => True
  | some (.dK _) => True
  | some (.dT _) => True
  | some (.set _ _) => True
  | some (.ins _ _ _) => True
  | some (.ext _) => True
  | _ => False
section
variable {P : Program} {w : World} {H : Hp} {h h' : Heap} {x e : Addr} {o' : HO}
theorem HOk.write (ok : HOk P w H h) (mu : Mut (H x)) (he : e = x ∨ H e = some (.own x)) (k : ∀ b u, b ≠ e → h.get? b = some u → h'.get? b = some u) (heo : ∃ u, h'.get? e = some u)
    (new : ObjOk P w (upd H x o') h' x o') : HOk P w (upd H x o') h' := fun b u q => by
  have nown : ∀ c y, H c = some (.own y) → c ≠ x := fun c y r z => by subst z; rw [r] at mu; exact mu
  have ntup : ∀ c xs, H c = some (.tup xs) → c ≠ x := fun c xs r z => by subst z; rw [r] at mu; exact mu
  by_cases hb : b = x
  · subst hb; rw [upd_same] at q; cases q; exact new
  · rw [upd_ne hb] at q
    by_cases hbe : b = e
    · have q' : H b = some (.own x) := by
        rcases he with z | z
        · exact absurd (hbe.trans z) hb
        · rw [hbe]; exact z
      rw [q] at q'; cases q'
      obtain ⟨v, hv⟩ := heo
      exact ⟨v, by rw [hbe]; exact hv⟩
    · refine (ok b u q).stay (fun c v hc r => k c v ?_ r) (fun c r => by rw [upd_ne (nown c b r)]; exact r) fun c xs r => by rw [upd_ne (ntup c xs r)]; exact r
      rcases hc with rfl | hc
      · exact hbe
      · rintro rfl
        rcases he with z | z
        · exact nown c b hc z
        · rw [hc] at z; cases z; exact hb rfl
end

structure Un (fs ex : List Addr) (H H' : Hp) (h h' : Heap) : Prop where
  keep : ∀ b o, h.get? b = some o → H b = none → b ∉ fs → b ∉ ex → h'.get? b = some o
  slot : ∀ b o, h.get? b = some o → H b = none → b ∈ fs → b ∉ ex → ∃ sl, h'.get? b = some { o with slots := sl }
  free : ∀ b o, h.get? b = some o → H b = none → b ∉ ex → H' b = none
  there : ∀ b o, h.get? b = some o → b ∉ ex → ∃ o', h'.get? b = some o'
  tups : ∀ b xs, H b = some (.tup xs) → H' b = some (.tup xs)
  frzs : ∀ b o u, H b = some (.frz o u) → H' b = some (.frz o u)
  tbls : ∀ b ps, H b = some (.tbl ps) → ∃ more, H' b = some (.tbl (ps ++ more))
section
variable {fs fs' ex ex' : List Addr} {H H1 H2 : Hp} {h h1 h2 h' : Heap} {a x e : Addr} {o : HO}
theorem Un.any (u : Un fs ex H H1 h h1) {b : Addr} {ob : Obj} (q : h.get? b = some ob) (n : H b = none) (hx : b ∉ ex) : ∃ sl, h1.get? b = some { ob with slots := sl } := by
  by_cases hb : b ∈ fs
  · exact u.slot b ob q n hb hx
  · exact ⟨ob.slots, u.keep b ob q n hb hx⟩
theorem Un.trans (a : Un fs ex H H1 h h1) (b : Un fs ex H1 H2 h1 h2) : Un fs ex H H2 h h2 where
  keep := fun c ob q n hc hx => b.keep c ob (a.keep c ob q n hc hx) (a.free c ob q n hx) hc hx
  slot := fun c ob q n hc hx => by
    obtain ⟨sl, e1⟩ := a.slot c ob q n hc hx
    obtain ⟨sl', e2⟩ := b.slot c _ e1 (a.free c ob q n hx) hc hx
    exact ⟨sl', e2⟩
  free := fun c ob q n hx => by
    obtain ⟨o', e1⟩ := a.there c ob q hx
    exact b.free c o' e1 (a.free c ob q n hx) hx
  there := fun c ob q hx => by
    obtain ⟨o', e1⟩ := a.there c ob q hx
    exact b.there c o' e1 hx
  tups := fun c xs q => b.tups c xs (a.tups c xs q)
  frzs := fun c ob xs q => b.frzs c ob xs (a.frzs c ob xs q)
  tbls := fun c ps q => by
    obtain ⟨m1, e1⟩ := a.tbls c ps q
    obtain ⟨m2, e2⟩ := b.tbls c _ e1
    exact ⟨m1 ++ m2, by rw [e2, Array.append_assoc]⟩
theorem Un.kept (k : ∀ b u, h.get? b = some u → h'.get? b = some u) : Un fs ex H H h h' :=
  ⟨fun b ob q _ _ _ => k b ob q, fun b ob q _ _ _ => ⟨ob.slots, k b ob q⟩, fun _ _ _ n _ => n, fun b ob q _ => ⟨ob, k b ob q⟩, fun _ _ q => q, fun _ _ _ q => q, fun _ ps q => ⟨#[], by rw [q]; simp⟩⟩
theorem Un.refl : Un fs ex H H h h := Un.kept fun _ _ q => q
theorem Un.laid (k : ∀ b u, h.get? b = some u → h'.get? b = some u) (hp : h.objs.size ≤ a) (hn : H a = none) : Un fs ex H (upd H a o) h h' where
  keep := fun b u q _ _ _ => k b u q
  slot := fun b u q _ _ _ => ⟨u.slots, k b u q⟩
  free := fun b u q n _ => by rw [upd_ne (Nat.ne_of_lt (Nat.lt_of_lt_of_le (Heap.lt_size q) hp))]; exact n
  there := fun b u q _ => ⟨u, k b u q⟩
  tups := fun b xs q => by rw [upd_ne (ne_of_none q hn)]; exact q
  frzs := fun b u xs q => by rw [upd_ne (ne_of_none q hn)]; exact q
  tbls := fun b ps q => ⟨#[], by rw [upd_ne (ne_of_none q hn), q]; simp⟩
theorem Un.write (mu : Mut (H x)) (he : e = x ∨ H e = some (.own x)) (k : ∀ b u, b ≠ e → h.get? b = some u → h'.get? b = some u) (heo : ∃ u, h'.get? e = some u) : Un fs ex H (upd H x o) h h' := by
  have hx : ∀ b, H b = none → b ≠ x := fun b n z => by subst z; rw [n] at mu; exact mu
  have hb : ∀ b, H b = none → b ≠ e := fun b n z => by
    subst z
    rcases he with r | r
    · exact hx b n r
    · rw [n] at r; cases r
  have hm : ∀ b u, H b = some u → ¬ Mut (some u) → b ≠ x := fun b u q nm z => by subst z; rw [q] at mu; exact nm mu
  refine ⟨fun b u q n _ _ => k b u (hb b n) q, fun b u q n _ _ => ⟨u.slots, k b u (hb b n) q⟩, fun b u q n _ => by rw [upd_ne (hx b n)]; exact n, fun b u q _ => ?_,
    fun b xs q => by rw [upd_ne (hm b _ q fun z => z)]; exact q, fun b u xs q => by rw [upd_ne (hm b _ q fun z => z)]; exact q, fun b ps q => ⟨#[], by rw [upd_ne (hm b _ q fun z => z), q]; simp⟩⟩
  by_cases hbe : b = e
  · subst hbe; exact heo
  · exact ⟨u, k b u hbe q⟩
end

def trk (h : Heap) (H : Hp) : List Addr := (List.range h.objs.size).filter fun a => (H a).isSome
def hidT (h : Heap) (H : Hp) : Heap := PySem.W.hideAll h (trk h H)
theorem hidT_size (h : Heap) (H : Hp) : (hidT h H).objs.size = h.objs.size := PySem.W.hideAll_size _ _
theorem hidT_get {h : Heap} {H : Hp} {b : Addr} {o : Obj} (e : h.get? b = some o) (n : H b = none) : (hidT h H).get? b = some o :=
  PySem.W.hideAll_get _ e fun hm => by
    have q : (H b).isSome = true := (List.mem_filter.mp hm).2
    rw [n] at q; simp at q
theorem of_hidT {h : Heap} {H : Hp} {b : Addr} {o : Obj} (e : (hidT h H).get? b = some o) : h.get? b = some o ∧ H b = none := by
  have e' : h.get? b = some o := PySem.W.of_hideAll (trk h H) e
  refine ⟨e', ?_⟩
  cases q : H b with
  | none => rfl
  | some x =>
    have hm : b ∈ trk h H := List.mem_filter.mpr ⟨List.mem_range.mpr (Heap.lt_size e'), by simp [q]⟩
    have z : (hidT h H).get? b = none := PySem.W.hideAll_none (trk h H) hm
    rw [z] at e; cases e

def allNews (g h : Heap) (L : Addr) : List (Addr × Obj) := (List.range h.objs.size).filterMap fun a => if a = L ∨ (g.get? a).isSome = true then none else (h.get? a).map fun o => (a, o)
def rest (g h : Heap) (L d : Addr) : List (Addr × Obj) := (allNews g h L).filter fun p => decide (p.1 ≠ d)
end L2

namespace L2
open PySem PySem.Spec PyProof.Rows

structure Mod (K : PySem.W.Frag) (mg : Str → Option Value) (base : Heap) : Prop where
  kin : K.In base
  glob : base.Ns mainGlobals mg
  blt : ∃ mb, base.Ns builtinsNs mb ∧ ∀ x : Str, x ≠ "__name__" → mb x = bootBuiltins x
  nolimit : base.NoLimit

structure Cx where
  prog : Program
  w : World
  K : PySem.W.Frag
  mg : Str → Option Value
  base : Heap
  A : Around
  N : List Str
  s₀ : Shared
  H₀ : Hp
  env : Env
  outer : List Env
  stack : List Env
  ex : List Addr
  fn : Str → Bool
  calm : Bool
  pn : List (Addr × Obj)
  xe : Value → Shared → Prop
def frs (l : List Env) : List Addr := l.filterMap (·.frame)
abbrev Cx.fs (X : Cx) : List Addr := frs X.outer

def Vis (sc : Scope) (x : Str) : Prop := sc.names.lookup x = some .local ∨ sc.names.lookup x = some .cell ∨ sc.names.lookup x = some .free
def Loc (sc : Scope) (x : Str) : Prop := sc.names.lookup x = some .local ∨ sc.names.lookup x = some .cell
def Look (env : Env) (h : Heap) (m : Str → Option Value) (x : Str) (u : Value) : Prop :=
  (env.kindOf x = some .local ∧ m x = some u) ∨ ((env.kindOf x = some .cell ∨ env.kindOf x = some .free) ∧ ∃ c, env.cells.lookup x = some c ∧ h.IsCell c (some u))

structure Cx.Ok (X : Cx) : Prop where
  mod : Mod X.K X.mg X.base
  kind : X.env.scope.kind = .function
  glob : X.env.globals = mainGlobals
  blt : X.env.builtins = builtinsNs
  above : X.s₀.heap.objs.size ≤ X.env.locals
  inj : ∀ x y c, X.env.cells.lookup x = some c → X.env.cells.lookup y = some c → x = y
  has : ∀ x, (X.env.kindOf x = some .cell ∨ X.env.kindOf x = some .free) → ∃ c, X.env.cells.lookup x = some c
  cab : ∀ x c, X.fn x = true → X.env.cells.lookup x = some c → X.s₀.heap.objs.size ≤ c
  hd : X.calm = true → X.A.handled = none
  frames : X.A.frames = some X.stack
  stk : X.stack = X.outer ∨ (X.stack = X.env :: X.outer ∧ X.env.frame = some X.env.locals)
  exf : ∀ b ∈ X.ex, b ≠ X.env.locals ∧ ∀ x c, X.env.cells.lookup x = some c → c ≠ b
  bs : ∀ b o, X.base.get? b = some o → X.s₀.heap.get? b = some o ∧ X.H₀ b = none
  bsz : X.base.objs.size ≤ X.s₀.heap.objs.size
  noex : ∀ b o, X.base.get? b = some o → b ∉ X.ex
  exfs : ∀ b ∈ X.ex, b ∉ X.fs
  funs : X.s₀.heap.FunFrames X.base X.outer
  frf : ∀ b ∈ X.fs, X.H₀ b = none

structure Inv (X : Cx) (pins : List (Addr × Obj)) (σ : List (Option V)) (H : Hp) (s : Shared) : Prop where
  ok : X.Ok
  os : s.os = X.s₀.os
  bare : AllBare s.gens
  base : Un X.fs X.ex X.H₀ H X.s₀.heap s.heap
  loc : ∃ m, s.heap.Ns X.env.locals m ∧ ∀ (i : Nat) (x : Str) (v : V), X.N[i]? = some x → σ[i]? = some (some v) → Vis X.env.scope x → ∃ u, RelV v u ∧ Look X.env s.heap m x u
  cell : ∀ x c, X.env.cells.lookup x = some c → ∃ v, s.heap.IsCell c v
  free : H X.env.locals = none
  freeC : ∀ x c, X.env.cells.lookup x = some c → H c = none
  pin : ∀ p ∈ X.pn ++ pins, s.heap.get? p.1 = some p.2 ∧ H p.1 = none ∧ p.1 ≠ X.env.locals ∧ p.1 ∉ X.fs ∧ ∀ v, p.2.data ≠ .cell v
  hok : HOk X.prog X.w H s.heap
  len : σ.length = X.N.length

section
variable {X : Cx} {pins : List (Addr × Obj)} {σ : List (Option V)} {H H' : Hp} {s : Shared} {h' : Heap}

theorem Cx.Ok.nofr (ok : X.Ok) {b : Addr} {o : Obj} (e : X.base.get? b = some o) : b ∉ X.fs := fun hb => by
  have := (ok.funs.mem hb).1
  rw [e] at this; cases this
theorem Inv.bs (I : Inv X pins σ H s) : ∀ b o, X.base.get? b = some o → s.heap.get? b = some o ∧ H b = none := fun b o e =>
  ⟨I.base.keep b o (I.ok.bs b o e).1 (I.ok.bs b o e).2 (I.ok.nofr e) (I.ok.noex b o e), I.base.free b o (I.ok.bs b o e).1 (I.ok.bs b o e).2 (I.ok.noex b o e)⟩
theorem Inv.bk (I : Inv X pins σ H s) : ∀ b o, X.base.get? b = some o → s.heap.get? b = some o := fun b o e => (I.bs b o e).1
theorem Inv.mod (I : Inv X pins σ H s) : Mod X.K X.mg X.base := I.ok.mod
theorem Inv.kIn (I : Inv X pins σ H s) : X.K.In s.heap := I.ok.mod.kin.keeps I.bk
theorem Inv.nolimit (I : Inv X pins σ H s) : s.heap.NoLimit := I.ok.mod.nolimit.keeps I.bk
theorem Inv.fr (I : Inv X pins σ H s) : ∃ m, Fr X.base X.env.locals s.heap m :=
  let ⟨m, hn, _⟩ := I.loc
  ⟨m, hn, I.bk, Nat.le_trans I.ok.bsz I.ok.above⟩
theorem Inv.lt (I : Inv X pins σ H s) : X.env.locals < s.heap.objs.size := let ⟨_, hn, _⟩ := I.loc; hn.lt
theorem Inv.sz (I : Inv X pins σ H s) : X.s₀.heap.objs.size ≤ s.heap.objs.size := Nat.le_trans I.ok.above (Nat.le_of_lt I.lt)
theorem Inv.nofs (I : Inv X pins σ H s) {a : Addr} (h : s.heap.objs.size ≤ a) : a ∉ X.fs := fun hb => by
  obtain ⟨_, o, ho, _⟩ := I.ok.funs.mem hb
  exact absurd (Nat.lt_of_lt_of_le (Heap.lt_size ho) (Nat.le_trans I.sz h)) (Nat.lt_irrefl _)
theorem Inv.cne (I : Inv X pins σ H s) : ∀ x c, X.env.cells.lookup x = some c → c ≠ X.env.locals := fun x c e z => by
  obtain ⟨v, o, ho, hd⟩ := I.cell x c e
  obtain ⟨m, ⟨o', es, ep, ho', hd', _⟩, _⟩ := I.loc
  rw [z, ho'] at ho; cases ho; rw [hd'] at hd; cases hd
theorem Inv.funs (I : Inv X pins σ H s) : s.heap.FunFrames X.base X.outer := by
  have all : ∀ (l : List Env), (∀ b ∈ frs l, b ∈ X.fs) → X.s₀.heap.FunFrames X.base l → s.heap.FunFrames X.base l := by
    intro l
    induction l with
    | nil => intro _ _; trivial
    | cons env r ih =>
      intro hs hl
      obtain ⟨hk, ⟨L, o, hf, hn, ho, hd⟩, hr⟩ := hl
      have hL : L ∈ X.fs := hs L (by unfold frs; rw [List.filterMap_cons, hf]; exact List.mem_cons_self)
      obtain ⟨sl, e⟩ := I.base.slot L o ho (I.ok.frf L hL) hL fun z => I.ok.exfs L z hL
      exact ⟨hk, ⟨L, _, hf, hn, e, hd⟩, ih (fun b hb => hs b (by unfold frs; rw [List.filterMap_cons, hf]; exact List.mem_cons_of_mem _ hb)) hr⟩
  exact all X.outer (fun _ hb => hb) I.ok.funs

theorem Inv.stack (I : Inv X pins σ H s) : s.heap.FunFrames X.base X.stack := by
  rcases I.ok.stk with e | ⟨e, hf⟩
  · rw [e]; exact I.funs
  · rw [e]
    obtain ⟨m, hn, _⟩ := I.loc
    refine .cons (by rw [I.ok.kind]; decide) hf hn ?_ I.funs
    exact Heap.get?_none_of_le (Nat.le_trans I.ok.bsz I.ok.above)
theorem Inv.stkSub (I : Inv X pins σ H s) : ∀ b ∈ frs X.stack, b ∈ X.env.locals :: X.fs := fun b hb => by
  rcases I.ok.stk with e | ⟨e, hf⟩
  · rw [e] at hb; exact List.mem_cons_of_mem _ hb
  · rw [e] at hb
    unfold frs at hb
    rw [List.filterMap_cons, hf] at hb
    exact hb
theorem Inv.stkFree (I : Inv X pins σ H s) : ∀ b ∈ frs X.stack, H b = none := fun b hb => by
  rcases List.mem_cons.mp (I.stkSub b hb) with e | hb
  · rw [e]; exact I.free
  · obtain ⟨_, o, ho, _⟩ := I.ok.funs.mem hb
    exact I.base.free b o ho (I.ok.frf b hb) fun z => I.ok.exfs b z hb

theorem Inv.step {g' : Array GenState} {t' : Nat} {d' : Drawn} {ch : List Addr} (I : Inv X pins σ H s)
    (hch : ∀ b ∈ ch, (b ∈ X.ex ∨ X.s₀.heap.objs.size ≤ b) ∧ b ≠ X.env.locals ∧ (∀ x c, X.env.cells.lookup x = some c → c ≠ b) ∧ ∀ p ∈ X.pn ++ pins, p.1 ≠ b)
    (keep : ∀ b o, b ≠ X.env.locals → b ∉ X.fs → b ∉ ch → s.heap.get? b = some o → H b = none → h'.get? b = some o)
    (slot : ∀ b o, b ≠ X.env.locals → b ∈ X.fs → b ∉ ch → s.heap.get? b = some o → H b = none → ∃ sl, h'.get? b = some { o with slots := sl }) (free : ∀ b o, b ∉ ch → s.heap.get? b = some o → H b = none → H' b = none)
    (there : ∀ b o, b ∉ ch → s.heap.get? b = some o → ∃ o', h'.get? b = some o')
    (tups : ∀ b xs, H b = some (.tup xs) → H' b = some (.tup xs)) (frzs : ∀ b o u, H b = some (.frz o u) → H' b = some (.frz o u)) (tbls : ∀ b ps, H b = some (.tbl ps) → ∃ more, H' b = some (.tbl (ps ++ more)))
    (ns : ∀ m, s.heap.Ns X.env.locals m → h'.Ns X.env.locals m) (hok : HOk X.prog X.w H' h') (hg : AllBare g') :
    Inv X pins σ H' { s with heap := h', gens := g', drawn := d', toks := t' } := by
  have neL : ∀ b o, X.s₀.heap.get? b = some o → b ≠ X.env.locals := fun b o e => Nat.ne_of_lt (Nat.lt_of_lt_of_le (Heap.lt_size e) I.ok.above)
  have neC : ∀ b o, X.s₀.heap.get? b = some o → b ∉ X.ex → b ∉ ch := fun b o e hx hb => by
    rcases (hch b hb).1 with z | z
    · exact hx z
    · exact absurd (Nat.lt_of_lt_of_le (Heap.lt_size e) z) (Nat.lt_irrefl _)
  have cellK : ∀ x c, X.env.cells.lookup x = some c → ∀ v, s.heap.IsCell c v → h'.IsCell c v := fun x c e v ⟨o, ho, hd⟩ => by
    have nch : c ∉ ch := fun z => (hch c z).2.2.1 x c e rfl
    by_cases hc : c ∈ X.fs
    · obtain ⟨sl, q⟩ := slot c o (I.cne x c e) hc nch ho (I.freeC x c e)
      exact ⟨_, q, hd⟩
    · exact ⟨o, keep c o (I.cne x c e) hc nch ho (I.freeC x c e), hd⟩
  refine ⟨I.ok, I.os, hg, ⟨fun b o e n hb hx => ?_, fun b o e n hb hx => ?_, fun b o e n hx => ?_, fun b o e hx => ?_, fun b xs e => tups b xs (I.base.tups b xs e), fun b o xs e => frzs b o xs (I.base.frzs b o xs e), fun b ps e => ?_⟩, ?_, fun x c e => ?_, ?_, fun x c e => ?_, fun p hp => ?_, hok, I.len⟩
  · exact keep b o (neL b o e) hb (neC b o e hx) (I.base.keep b o e n hb hx) (I.base.free b o e n hx)
  · obtain ⟨sl, e1⟩ := I.base.slot b o e n hb hx
    obtain ⟨sl', e2⟩ := slot b _ (neL b o e) hb (neC b o e hx) e1 (I.base.free b o e n hx)
    exact ⟨sl', e2⟩
  · obtain ⟨o', e1⟩ := I.base.there b o e hx
    exact free b o' (neC b o e hx) e1 (I.base.free b o e n hx)
  · obtain ⟨o', e1⟩ := I.base.there b o e hx
    exact there b o' (neC b o e hx) e1
  · obtain ⟨m1, e1⟩ := I.base.tbls b ps e
    obtain ⟨m2, e2⟩ := tbls b _ e1
    exact ⟨m1 ++ m2, by rw [e2, Array.append_assoc]⟩
  · obtain ⟨m, hn, hl⟩ := I.loc
    refine ⟨m, ns m hn, fun i x v e1 e2 e3 => ?_⟩
    obtain ⟨u, r, l⟩ := hl i x v e1 e2 e3
    refine ⟨u, r, ?_⟩
    rcases l with l | ⟨k, c, e, z⟩
    · exact .inl l
    · exact .inr ⟨k, c, e, cellK x c e _ z⟩
  · obtain ⟨v, z⟩ := I.cell x c e
    exact ⟨v, cellK x c e v z⟩
  · obtain ⟨m, ⟨o, _, _, ho, _⟩, _⟩ := I.loc
    exact free _ o (fun z => (hch _ z).2.1 rfl) ho I.free
  · obtain ⟨v, o, ho, hd⟩ := I.cell x c e
    exact free c o (fun z => (hch c z).2.2.1 x c e rfl) ho (I.freeC x c e)
  · obtain ⟨e, n, ne, nf, d⟩ := I.pin p hp
    have nch : p.1 ∉ ch := fun z => (hch p.1 z).2.2.2 p hp rfl
    exact ⟨keep p.1 p.2 ne nf nch e n, free p.1 p.2 nch e n, ne, nf, d⟩
theorem Inv.un {t' : Nat} (I : Inv X pins σ H s) (u : Un X.fs [] H H' s.heap h') (hok : HOk X.prog X.w H' h') : Inv X pins σ H' { s with heap := h', toks := t' } := by
  obtain ⟨m, ⟨o, es, ep, ho, r⟩, _⟩ := id I.loc
  obtain ⟨sl, hL⟩ := u.any ho I.free (by simp)
  exact I.step (g' := s.gens) (d' := s.drawn) (ch := []) (fun _ z => nomatch z) (fun b o _ hb _ e n => u.keep b o e n hb (by simp)) (fun b o _ hb _ e n => u.slot b o e n hb (by simp)) (fun b o _ e n => u.free b o e n (by simp)) (fun b o _ e => u.there b o e (by simp)) u.tups u.frzs u.tbls (fun m' hm => by
    obtain ⟨o', es', ep', ho', r'⟩ := hm
    rw [ho] at ho'; cases ho'
    exact ⟨_, es', ep', hL, r'⟩) hok I.bare
theorem Inv.call {g' : Array GenState} {t' : Nat} {d' : Drawn} {ch : List Addr} (I : Inv X pins σ H s) (u : Un (frs X.stack) ch H H' s.heap h') (hok : HOk X.prog X.w H' h') (hg : AllBare g')
    (hch : ∀ b ∈ ch, (b ∈ X.ex ∨ X.s₀.heap.objs.size ≤ b) ∧ b ≠ X.env.locals ∧ (∀ x c, X.env.cells.lookup x = some c → c ≠ b) ∧ ∀ p ∈ X.pn ++ pins, p.1 ≠ b) :
    Inv X pins σ H' { s with heap := h', gens := g', drawn := d', toks := t' } := by
  obtain ⟨m, ⟨o, es, ep, ho, r⟩, _⟩ := id I.loc
  obtain ⟨sl, hL⟩ := u.any ho I.free fun z => (hch _ z).2.1 rfl
  exact I.step (ch := ch) hch (fun b o hL hb hc e n => u.keep b o e n (fun z => (List.mem_cons.mp (I.stkSub b z)).elim hL hb) hc) (fun b o _ _ hc e n => u.any e n hc) (fun b o hc e n => u.free b o e n hc) (fun b o hc e => u.there b o e hc) u.tups u.frzs u.tbls (fun m' hm => by
    obtain ⟨o', es', ep', ho', r'⟩ := hm
    rw [ho] at ho'; cases ho'
    exact ⟨_, es', ep', hL, r'⟩) hok hg
theorem Inv.turned {t' : Nat} {it : Addr} (I : Inv X pins σ H s) (k : ∀ b o, b ≠ it → s.heap.get? b = some o → h'.get? b = some o) (hn : H it = none) (hL : it ≠ X.env.locals)
    (h1 : it ∈ X.ex ∨ X.s₀.heap.objs.size ≤ it) (h2 : ∀ x c, X.env.cells.lookup x = some c → c ≠ it) (h3 : ∀ p ∈ X.pn ++ pins, p.1 ≠ it) : Inv X pins σ H { s with heap := h', toks := t' } := by
  have nit : ∀ b u, H b = some u → b ≠ it := fun b u e z => by rw [z, hn] at e; cases e
  refine I.step (g' := s.gens) (d' := s.drawn) (ch := [it]) (fun b hb => ?_) (fun b o _ _ hc e _ => k b o (fun z => hc (by simp [z])) e) (fun b o _ _ hc e _ => ⟨o.slots, k b o (fun z => hc (by simp [z])) e⟩) (fun _ _ _ _ n => n)
    (fun b o hc e => ⟨o, k b o (fun z => hc (by simp [z])) e⟩) (fun _ _ e => e) (fun _ _ _ e => e) (fun b ps e => ⟨#[], by rw [e]; simp⟩) (fun m hm => ?_) (fun b u e => ?_) I.bare
  · have e : b = it := by simpa using hb
    subst e
    exact ⟨h1, hL, h2, h3⟩
  · obtain ⟨o, es, ep, ho, r⟩ := hm
    exact ⟨o, es, ep, k _ o (Ne.symm hL) ho, r⟩
  · refine (I.hok b u e).stay (fun c v hc q => k c v ?_ q) (fun _ q => q) fun _ _ q => q
    rcases hc with z | z
    · rw [z]; exact nit b u e
    · exact nit c _ z
theorem Inv.tok (I : Inv X pins σ H s) (t : Nat) : Inv X pins σ H { s with toks := t } := I.un (h' := s.heap) (t' := t) Un.refl I.hok
theorem Inv.kept {t' : Nat} (I : Inv X pins σ H s) (k : ∀ b u, s.heap.get? b = some u → h'.get? b = some u) : Inv X pins σ H { s with heap := h', toks := t' } := I.un (Un.kept k) (I.hok.kept k)
theorem Inv.laid {a : Addr} {o : HO} {t' : Nat} (I : Inv X pins σ H s) (k : ∀ b u, s.heap.get? b = some u → h'.get? b = some u) (hp : s.heap.objs.size ≤ a) (new : ObjOk X.prog X.w (upd H a o) h' a o) :
    Inv X pins σ (upd H a o) { s with heap := h', toks := t' } := I.un (Un.laid k hp (I.hok.fresh hp)) (I.hok.laid k hp new)
theorem Inv.write {x e : Addr} {o : HO} {t' : Nat} (I : Inv X pins σ H s) (mu : Mut (H x)) (he : e = x ∨ H e = some (.own x)) (k : ∀ b u, b ≠ e → s.heap.get? b = some u → h'.get? b = some u) (heo : ∃ u, h'.get? e = some u)
    (new : ObjOk X.prog X.w (upd H x o) h' x o) : Inv X pins σ (upd H x o) { s with heap := h', toks := t' } := I.un (Un.write mu he k heo) (I.hok.write mu he k heo new)
theorem Inv.weak {σ' : List (Option V)} (I : Inv X pins σ H s) (hl : σ'.length = σ.length) (w : ∀ (i : Nat) v, σ'[i]? = some (some v) → σ[i]? = some (some v)) : Inv X pins σ' H s :=
  ⟨I.ok, I.os, I.bare, I.base, let ⟨m, hn, hl'⟩ := I.loc; ⟨m, hn, fun i x v e1 e2 e3 => hl' i x v e1 (w i v e2) e3⟩, I.cell, I.free, I.freeC, I.pin, I.hok, hl.trans I.len⟩
theorem Inv.pins_of {pins' : List (Addr × Obj)} (I : Inv X pins σ H s) (h : ∀ p ∈ pins', s.heap.get? p.1 = some p.2 ∧ H p.1 = none ∧ p.1 ≠ X.env.locals ∧ p.1 ∉ X.fs ∧ ∀ v, p.2.data ≠ .cell v) : Inv X pins' σ H s :=
  ⟨I.ok, I.os, I.bare, I.base, I.loc, I.cell, I.free, I.freeC, fun p hp => (List.mem_append.mp hp).elim (fun z => I.pin p (List.mem_append_left _ z)) (h p), I.hok, I.len⟩

theorem nodup_ix {N : List Str} (hN : N.Nodup) {i j : Nat} {x : Str} (a : N[i]? = some x) (b : N[j]? = some x) : i = j := by
  obtain ⟨h1, e1⟩ := List.getElem?_eq_some_iff.mp a
  obtain ⟨h2, e2⟩ := List.getElem?_eq_some_iff.mp b
  exact (List.getElem_inj hN).mp (e1.trans e2.symm)

theorem store_ok2 {M : Model} {A : Around} {E : Value → Shared → Prop} {i : Nat} {x : Str} {v : V} {u : Value} {Q : Unit → Shared → Prop} (I : Inv X pins σ H s) (hN : X.N.Nodup) (hi : X.N[i]? = some x) (hx : Loc X.env.scope x) (r : RelV v u)
    (h : ∀ s', Inv X pins (σ.set i (some v)) H s' → (∃ a, Heap.SameBut a s.heap s'.heap ∧ (a = X.env.locals ∨ X.env.cells.lookup x = some a)) → Q () s') (hf : X.fn x = true ∨ X.env.scope.names.lookup x = some .local := by first | exact .inl rfl | exact .inr rfl | assumption) : wpAny M A (storeName X.env x u) Q E s := by
  obtain ⟨m, hn, hl⟩ := id I.loc
  have hcls : (X.env.scope.kind == .class || (X.env.scope.kind == .module && X.env.locals != X.env.globals)) = false := by rw [I.ok.kind]; rfl
  have hiσ : i < σ.length := by rw [I.len]; exact (List.getElem?_eq_some_iff.mp hi).1
  have cne := I.cne
  have tracked : ∀ {a : Addr} {h' : Heap}, (∃ o, s.heap.get? a = some o ∧ H a = none) → Heap.SameBut a s.heap h' → HOk X.prog X.w H h' := fun {a h'} ha hs b ob e => by
    obtain ⟨_, _, hfree⟩ := ha
    refine (I.hok b ob e).stay (fun c w' hc q => (hs.2 c ?_).trans q) (fun _ q => q) fun _ _ q => q
    rintro rfl
    rcases hc with rfl | hc
    · rw [hfree] at e; cases e
    · rw [hfree] at hc; cases hc
  rcases hx with hk | hk
  · refine wpAny_storeName_local hk hn (fun h' hn' hs => ?_) hcls
    obtain ⟨oL, _, _, hoL, _⟩ := id hn
    refine h _ ⟨I.ok, I.os, I.bare, ⟨fun b o e n hb hx => ?_, fun b o e n hb hx => ?_, I.base.free, fun b o e hx => ?_, I.base.tups, I.base.frzs, I.base.tbls⟩, ⟨_, hn', fun j y v' e1 e2 e3 => ?_⟩, fun y c e => ?_, I.free, I.freeC, fun p hp => ?_, tracked ⟨oL, hoL, I.free⟩ hs, by simpa using I.len⟩ ⟨_, hs, .inl rfl⟩
    · exact (hs.2 b (Nat.ne_of_lt (Nat.lt_of_lt_of_le (Heap.lt_size e) I.ok.above))).trans (I.base.keep b o e n hb hx)
    · obtain ⟨sl, e1⟩ := I.base.slot b o e n hb hx
      exact ⟨sl, (hs.2 b (Nat.ne_of_lt (Nat.lt_of_lt_of_le (Heap.lt_size e) I.ok.above))).trans e1⟩
    · obtain ⟨o', e1⟩ := I.base.there b o e hx
      exact ⟨o', (hs.2 b (Nat.ne_of_lt (Nat.lt_of_lt_of_le (Heap.lt_size e) I.ok.above))).trans e1⟩
    · by_cases hj : j = i
      · subst hj
        rw [hi] at e1; cases e1
        rw [List.getElem?_set_self hiσ] at e2
        cases e2
        exact ⟨u, r, .inl ⟨hk, by simp⟩⟩
      · rw [List.getElem?_set_ne (Ne.symm hj)] at e2
        obtain ⟨u', r', q⟩ := hl j y v' e1 e2 e3
        refine ⟨u', r', ?_⟩
        rcases q with ⟨k, e⟩ | ⟨k, c, e, z⟩
        · refine .inl ⟨k, ?_⟩
          have : y ≠ x := fun e => hj (nodup_ix hN e1 (e ▸ hi))
          simp [this, e]
        · exact .inr ⟨k, c, e, z.sameBut hs (cne y c e)⟩
    · obtain ⟨w', z⟩ := I.cell y c e
      exact ⟨w', z.sameBut hs (cne y c e)⟩
    · obtain ⟨e, n, ne, nf, d⟩ := I.pin p hp
      exact ⟨(hs.2 p.1 ne).trans e, n, ne, nf, d⟩
  · have hfn : X.fn x = true := by
      rcases hf with z | z
      · exact z
      · rw [z] at hk; cases hk
    obtain ⟨c, hc⟩ := I.ok.has x (.inl hk)
    obtain ⟨w', z⟩ := I.cell x c hc
    refine wpAny_storeName_cell I.ok.kind hk hc z (fun h' hc' hs => ?_)
    obtain ⟨oc, hoc, hocd⟩ := id z
    refine h { s with heap := h' } ⟨I.ok, I.os, I.bare, ⟨fun b o e n hb hx => ?_, fun b o e n hb hx => ?_, I.base.free, fun b o e hx => ?_, I.base.tups, I.base.frzs, I.base.tbls⟩, ⟨m, hn.sameBut hs (Ne.symm (cne x c hc)), fun j y v' e1 e2 e3 => ?_⟩, fun y c' e => ?_, I.free, I.freeC, fun p hp => ?_, tracked ⟨oc, hoc, I.freeC x c hc⟩ hs, by simpa using I.len⟩ ⟨c, hs, .inr hc⟩
    · exact (hs.2 b (Nat.ne_of_lt (Nat.lt_of_lt_of_le (Heap.lt_size e) (I.ok.cab x c hfn hc)))).trans (I.base.keep b o e n hb hx)
    · obtain ⟨sl, e1⟩ := I.base.slot b o e n hb hx
      exact ⟨sl, (hs.2 b (Nat.ne_of_lt (Nat.lt_of_lt_of_le (Heap.lt_size e) (I.ok.cab x c hfn hc)))).trans e1⟩
    · obtain ⟨o', e1⟩ := I.base.there b o e hx
      exact ⟨o', (hs.2 b (Nat.ne_of_lt (Nat.lt_of_lt_of_le (Heap.lt_size e) (I.ok.cab x c hfn hc)))).trans e1⟩
    · by_cases hj : j = i
      · subst hj
        rw [hi] at e1; cases e1
        rw [List.getElem?_set_self hiσ] at e2
        cases e2
        exact ⟨u, r, .inr ⟨.inl hk, c, hc, hc'⟩⟩
      · rw [List.getElem?_set_ne (Ne.symm hj)] at e2
        obtain ⟨u', r', q⟩ := hl j y v' e1 e2 e3
        refine ⟨u', r', ?_⟩
        rcases q with q | ⟨k, c', e, z'⟩
        · exact .inl q
        · refine .inr ⟨k, c', e, z'.sameBut hs ?_⟩
          rintro rfl
          exact hj (nodup_ix hN e1 (I.ok.inj _ _ _ e hc ▸ hi))
    · by_cases hcc : c' = c
      · subst hcc; exact ⟨_, hc'⟩
      · obtain ⟨w2, z2⟩ := I.cell y c' e
        exact ⟨w2, z2.sameBut hs hcc⟩
    · obtain ⟨e, n, ne, nf, d⟩ := I.pin p hp
      refine ⟨(hs.2 p.1 ?_).trans e, n, ne, nf, d⟩
      intro q
      rw [q, hoc] at e
      have q' : oc = p.2 := Option.some.inj e
      exact d w' (by rw [← q']; exact hocd)
theorem store_ok {M : Model} {A : Around} {E : Value → Shared → Prop} {i : Nat} {x : Str} {v : V} {u : Value} {Q : Unit → Shared → Prop} (I : Inv X pins σ H s) (hN : X.N.Nodup) (hi : X.N[i]? = some x) (hx : Loc X.env.scope x) (r : RelV v u)
    (h : ∀ s', Inv X pins (σ.set i (some v)) H s' → Q () s') (hf : X.fn x = true ∨ X.env.scope.names.lookup x = some .local := by first | exact .inl rfl | exact .inr rfl | assumption) : wpAny M A (storeName X.env x u) Q E s :=
  store_ok2 I hN hi hx r (fun s' I' _ => h s' I') hf
theorem Inv.call' {s' : Shared} {ch : List Addr} (I : Inv X pins σ H s) (ho : s'.os = s.os) (u : Un (frs X.stack) ch H H' s.heap s'.heap) (hok : HOk X.prog X.w H' s'.heap) (hg : AllBare s'.gens)
    (hch : ∀ b ∈ ch, (b ∈ X.ex ∨ X.s₀.heap.objs.size ≤ b) ∧ b ≠ X.env.locals ∧ (∀ x c, X.env.cells.lookup x = some c → c ≠ b) ∧ ∀ p ∈ X.pn ++ pins, p.1 ≠ b) : Inv X pins σ H' s' := by
  obtain ⟨h', g', d', t', o'⟩ := s'
  have e : o' = s.os := ho
  subst e
  exact I.call (g' := g') (t' := t') (d' := d') u hok hg hch
end

abbrev XK := Value → Option Addr → Hp → Prop
abbrev St := List (Option V)
abbrev VK := V → Hp → Prop
abbrev TE := St → Hp → VK → Prop
abbrev TT := St → Hp → (Bool → Hp → Prop) → Prop
abbrev TA := St → Hp → (List V → Hp → Prop) → Prop
structure Ends where
  nx : St → Hp → Prop
  rt : VK
  bk : St → Hp → Prop := fun _ _ => False
  ct : St → Hp → Prop := fun _ _ => False
abbrev TS := Ends → St → Hp → Prop

def EP (X : Cx) (pins : List (Addr × Obj)) (σ : St) (Q : VK) (u : Value) (s' : Shared) : Prop := ∃ v H', Inv X pins σ H' s' ∧ RelV v u ∧ Q v H'
def TP (X : Cx) (pins : List (Addr × Obj)) (σ : St) (Q : Bool → Hp → Prop) (b : Bool) (s' : Shared) : Prop := ∃ H', Inv X pins σ H' s' ∧ Q b H'
def AP (X : Cx) (pins : List (Addr × Obj)) (σ : St) (Q : List V → Hp → Prop) (us : List Value) (s' : Shared) : Prop := ∃ vs H', Inv X pins σ H' s' ∧ Vals vs us ∧ Q vs H'
def SP (X : Cx) (pins : List (Addr × Obj)) (D : Ends) (f : Flow) (s' : Shared) : Prop :=
  match f with
  | .next => ∃ σ' H', Inv X pins σ' H' s' ∧ D.nx σ' H'
  | .brk => ∃ σ' H', Inv X pins σ' H' s' ∧ D.bk σ' H'
  | .cont => ∃ σ' H', Inv X pins σ' H' s' ∧ D.ct σ' H'
  | .ret u => ∃ v σ' H', Inv X pins σ' H' s' ∧ RelV v u ∧ D.rt v H'

def PE (X : Cx) (e : Expr) (t : TE) : Prop :=
  ∀ (pins : List (Addr × Obj)) (s : Shared) (σ : St) (H : Hp) (Q : VK), Inv X pins σ H s → t σ H Q → wpAny (model X.prog X.w) X.A (eval e X.env) (EP X pins σ Q) X.xe s
def PT (X : Cx) (e : Expr) (t : TT) : Prop :=
  ∀ (pins : List (Addr × Obj)) (s : Shared) (σ : St) (H : Hp) (Q : Bool → Hp → Prop), Inv X pins σ H s → t σ H Q → wpAny (model X.prog X.w) X.A (isTrue e X.env (eval e X.env)) (TP X pins σ Q) X.xe s
def PW (X : Cx) (e : Expr) (t : TT) : Prop :=
  ∀ (whole : Sem Value) (pins : List (Addr × Obj)) (s : Shared) (σ : St) (H : Hp) (Q : Bool → Hp → Prop), Inv X pins σ H s → t σ H Q → wpAny (model X.prog X.w) X.A (isTrue e X.env whole) (TP X pins σ Q) X.xe s
theorem PW.pt {X : Cx} {e : Expr} {t : TT} (h : PW X e t) : PT X e t := h _
def PA (X : Cx) (es : List Expr) (t : TA) : Prop :=
  ∀ (pos : Pos) (pins : List (Addr × Obj)) (s : Shared) (σ : St) (H : Hp) (Q : List V → Hp → Prop), Inv X pins σ H s → t σ H Q → wpAny (model X.prog X.w) X.A (spliced (backTo pos (starEach es X.env))) (AP X pins σ Q) X.xe s
def PS (X : Cx) (st : Stmt) (t : TS) : Prop :=
  ∀ (pins : List (Addr × Obj)) (s : Shared) (σ : St) (H : Hp) (D : Ends), Inv X pins σ H s → t D σ H → wpAny (model X.prog X.w) X.A (exec st X.env) (SP X pins D) X.xe s
def PSs (X : Cx) (st : List Stmt) (t : TS) : Prop :=
  ∀ (pins : List (Addr × Obj)) (s : Shared) (σ : St) (H : Hp) (D : Ends), Inv X pins σ H s → t D σ H → wpAny (model X.prog X.w) X.A (execs st X.env) (SP X pins D) X.xe s
theorem thn {α : Type} {t : Sem α} {Q Q' : α → Shared → Prop} {M : Model} {A : Around} {E : Value → Shared → Prop} {s : Shared} (h : wpAny M A t Q E s) (hQ : ∀ a s, Q a s → Q' a s) : wpAny M A t Q' E s := wpAny_mono h hQ fun _ _ x => x
end L2

namespace L2
open PySem PySem.Spec PyProof.Rows
section
variable {X : Cx}

theorem bin {a b : Expr} {ta tb : TE} (ha : PE X a ta) (hb : PE X b tb) {pins : List (Addr × Obj)} {s : Shared} {σ : St} {H : Hp} {R : V → V → Hp → Prop} (I : Inv X pins σ H s) (h : ta σ H fun x H1 => tb σ H1 fun y H2 => R x y H2)
    {α : Type} {Q : α → Shared → Prop} {f : Value → Value → Sem α}
    (hf : ∀ v u s2 x y H2, Inv X pins σ H2 s2 → RelV x v → RelV y u → R x y H2 → wpAny (model X.prog X.w) X.A (f v u) Q X.xe s2) :
    wpAny (model X.prog X.w) X.A (eval a X.env) (fun v s₁ => wpAny (model X.prog X.w) X.A (eval b X.env) (fun u s₂ => wpAny (model X.prog X.w) X.A (f v u) Q X.xe s₂) X.xe s₁) X.xe s := by
  refine thn (ha pins s σ H _ I h) fun v s1 ⟨x, H1, I1, r1, q1⟩ => ?_
  refine thn (hb pins s1 σ H1 _ I1 q1) fun u s2 ⟨y, H2, I2, r2, q2⟩ => ?_
  exact hf v u s2 x y H2 I2 r1 r2 q2

def tVar (i : Nat) : TE := fun σ H Q => ∃ v, σ[i]? = some (some v) ∧ Q v H
def tC (v : V) : TE := fun _ H Q => Q v H
theorem pe_var {i : Nat} {x : Str} {pos : Pos} (hN : X.N[i]? = some x) (hv : Vis X.env.scope x) (hd : (x == ("__debug__" : Str)) = false := by decide) (hcd : (x == ("__classdict__" : Str)) = false := by decide) : PE X (.Name x pos) (tVar i) := by
  intro pins s σ H Q I h
  obtain ⟨v, e, h⟩ := h
  obtain ⟨m, hn, hl⟩ := I.loc
  obtain ⟨u, r, l⟩ := hl i x v hN e hv
  have fin : EP X pins σ Q u s := ⟨v, H, I, r, h⟩
  rcases l with ⟨hk, hm⟩ | ⟨hk, c, hc, hcell⟩
  · exact wpAny_Name (wpAny_loadName_local I.ok.kind hk hn hm fin) hd
  · rcases hk with hk | hk
    · exact wpAny_Name (wpAny_loadName_cell I.ok.kind hk hc hcell fin) hd
    · exact wpAny_Name (wpAny_loadName_free I.ok.kind hk hc hcell fin hcd) hd
theorem pe_int {i j pos} : PE X (.Constant (.int i) j pos) (tC (.int i)) := fun _ _ _ H _ I h => wpAny_Constant_int ⟨.int i, H, I.tok _, ⟨_, rfl⟩, h⟩
theorem pe_bl {b j pos} : PE X (.Constant (.bool b) j pos) (tC (.bl b)) := fun _ _ _ H _ I h => Constant_bool ⟨.bl b, H, I, rfl, h⟩
theorem pe_non {j pos} : PE X (.Constant .none j pos) (tC .non) := fun _ _ _ H _ I h => Constant_none ⟨.non, H, I, rfl, h⟩
theorem pe_str {x j pos} : PE X (.Constant (.str x) j pos) (tC (.str x)) := fun _ _ _ H _ I h => Calls.Constant_str ⟨.str x, H, I.tok _, ⟨_, rfl⟩, h⟩

def Gl (X : Cx) (x : Str) : Prop := X.env.kindOf x = some .globalImplicit
theorem ld_glob {E : Value → Shared → Prop} {pins : List (Addr × Obj)} {s : Shared} {σ : St} {H : Hp} {x : Str} {u : Value} {pos : Pos} {Q : Value → Shared → Prop} (I : Inv X pins σ H s) (hg : Gl X x) (hm : X.mg x = some u) (h : Q u s)
    (hd : (x == ("__debug__" : Str)) = false := by decide) : wpAny (model X.prog X.w) X.A (eval (.Name x pos) X.env) Q E s :=
  Calls.Name_function_global I.ok.kind hg (Calls.loadGlobal_global (by rw [I.ok.glob]; exact I.mod.glob.keeps I.bk) hm h) hd
theorem ld_blt {E : Value → Shared → Prop} {pins : List (Addr × Obj)} {s : Shared} {σ : St} {H : Hp} {x : Str} {u : Value} {pos : Pos} {Q : Value → Shared → Prop} (I : Inv X pins σ H s) (hg : Gl X x) (hm : X.mg x = none) (hv : bootBuiltins x = some u) (h : Q u s)
    (hn : x ≠ "__name__" := by decide) (hd : (x == ("__debug__" : Str)) = false := by decide) : wpAny (model X.prog X.w) X.A (eval (.Name x pos) X.env) Q E s := by
  obtain ⟨mb, h1, h2⟩ := I.mod.blt
  exact Calls.Name_function_global I.ok.kind hg (Calls.loadGlobal_builtin (by rw [I.ok.glob]; exact I.mod.glob.keeps I.bk) hm (by rw [I.ok.blt]; exact h1.keeps I.bk) ((h2 x hn).trans hv) h) hd
theorem pe_glob {x : Str} {v : V} {u : Value} {pos : Pos} (hg : Gl X x) (hm : X.mg x = some u) (r : RelV v u) (hd : (x == ("__debug__" : Str)) = false := by decide) : PE X (.Name x pos) (tC v) :=
  fun _ _ _ H _ I h => ld_glob I hg hm ⟨v, H, I, r, h⟩ hd
theorem pe_bltn {x : Str} {v : V} {u : Value} {pos : Pos} (hg : Gl X x) (hm : X.mg x = none) (hv : bootBuiltins x = some u) (r : RelV v u) (hn : x ≠ "__name__" := by decide) (hd : (x == ("__debug__" : Str)) = false := by decide) : PE X (.Name x pos) (tC v) :=
  fun _ _ _ H _ I h => ld_blt I hg hm hv ⟨v, H, I, r, h⟩ hn hd

variable {a b : Expr} {ta tb : TE} {pos : Pos}
def PC (X : Cx) (op : CmpOp) (a b : Expr) (t : TE) : Prop :=
  ∀ (pins : List (Addr × Obj)) (s : Shared) (σ : St) (H : Hp) (Q : VK), Inv X pins σ H s → t σ H Q →
    wpAny (model X.prog X.w) X.A (eval a X.env) (fun v s₁ => wpAny (model X.prog X.w) X.A (eval b X.env) (fun u s₂ => wpAny (model X.prog X.w) X.A (compareOp op v u) (EP X pins σ Q) X.xe s₂) X.xe s₁) X.xe s
theorem nobehind (b : Expr) {op : CmpOp} (h : op ≠ .In) (h2 : op ≠ .NotIn) : behindInMarks op b = false := by
  have e1 : (op == CmpOp.In) = false := by cases op <;> first | rfl | exact absurd rfl h
  have e2 : (op == CmpOp.NotIn) = false := by cases op <;> first | rfl | exact absurd rfl h2
  cases b <;> simp [behindInMarks, e1, e2]
def tB (t : TE) : TT := fun σ H Q => t σ H fun x H1 => ∃ c, x = .bl c ∧ Q c H1
theorem pt_cmp {op : CmpOp} {t : TE} (h : PC X op a b t) (h1 : behindInMarks op b = false := by first | exact nobehind _ (by decide) (by decide) | rfl) : PT X (.Compare a [op] [b] pos) (tB t) := by
  intro pins s σ H Q I hw
  refine wpAny_isTrue_Compare1 (thn (h pins s σ H _ I hw) fun v s1 h1 => thn h1 fun u s2 h2 => thn h2 fun c s3 ⟨x, H1, I1, r1, q1⟩ => ?_) h1
  obtain ⟨d, rfl, q⟩ := q1
  cases r1
  exact wpAny_truthy_bool ⟨H1, I1, q⟩
theorem pt_val {e : Expr} {t : TE} (h : PE X e t) (he : ∀ whole, isTrue e X.env whole = (do let v ← whole; standAt e.pos; holding [v] (truthy v)) := by intro _; rfl) : PT X e (tB t) := by
  intro pins s σ H Q I hw
  refine isTrue_plain (thn (h pins s σ H _ I hw) fun v s1 ⟨x, H1, I1, r1, q1⟩ => ?_) (he _)
  obtain ⟨d, rfl, q⟩ := q1
  cases r1
  exact wpAny_truthy_bool ⟨H1, I1, q⟩

variable {tA tB' : TT} {rest : List Expr}
def tAnd (t u : TT) : TT := fun σ H Q => t σ H fun c H1 => if c = true then u σ H1 Q else Q false H1
def tOr (t u : TT) : TT := fun σ H Q => t σ H fun c H1 => if c = true then Q true H1 else u σ H1 Q
def tNot (t : TT) : TT := fun σ H Q => t σ H fun c H1 => Q (!c) H1
theorem pw_and1 (ha : PT X a tA) : PW X (.BoolOp .And [a] pos) tA := by
  intro wh pins s σ H Q I h
  refine isTrue_and (thn (ha pins s σ H Q I h) fun c s1 e => ?_)
  cases c with
  | true => exact isTrue_and_nil e
  | false => exact e
theorem pw_or1 (ha : PT X a tA) : PW X (.BoolOp .Or [a] pos) tA := by
  intro wh pins s σ H Q I h
  refine isTrue_or (thn (ha pins s σ H Q I h) fun c s1 e => ?_)
  cases c with
  | false => exact isTrue_or_nil e
  | true => exact e
theorem pw_and (ha : PT X a tA) (hb : PW X (.BoolOp .And (b :: rest) pos) tB') : PW X (.BoolOp .And (a :: b :: rest) pos) (tAnd tA tB') := by
  intro wh pins s σ H Q I h
  refine isTrue_and (thn (ha pins s σ H _ I h) fun c s1 ⟨H1, I1, q1⟩ => ?_)
  cases c with
  | true => exact hb wh pins s1 σ H1 Q I1 q1
  | false => exact ⟨H1, I1, q1⟩
theorem pw_or (ha : PT X a tA) (hb : PW X (.BoolOp .Or (b :: rest) pos) tB') : PW X (.BoolOp .Or (a :: b :: rest) pos) (tOr tA tB') := by
  intro wh pins s σ H Q I h
  refine isTrue_or (thn (ha pins s σ H _ I h) fun c s1 ⟨H1, I1, q1⟩ => ?_)
  cases c with
  | true => exact ⟨H1, I1, q1⟩
  | false => exact hb wh pins s1 σ H1 Q I1 q1
theorem pt_not (ha : PT X a tA) : PT X (.UnaryOp .Not a pos) (tNot tA) := by
  intro pins s σ H Q I h
  exact isTrue_not (ha pins s σ H (fun c H1 => Q (!c) H1) I h)
def tAndV (ta tb : TE) : TE := fun σ H Q => ta σ H fun x H1 => ∃ c, x = .bl c ∧ if c = true then tb σ H1 Q else Q (.bl false) H1
def tNotV (ta : TE) : TE := fun σ H Q => ta σ H fun x H1 => ∃ c, x = .bl c ∧ Q (.bl (!c)) H1
theorem pe_one {op} {t : TE} (h : PE X a t) : PE X (.BoolOp op [a] pos) t := fun pins s σ H Q I hw => BoolOp_one (h pins s σ H Q I hw)
theorem pe_and (ha : PE X a ta) (hb : PE X (.BoolOp .And (b :: rest) pos) tb) : PE X (.BoolOp .And (a :: b :: rest) pos) (tAndV ta tb) := by
  intro pins s σ H Q I h
  refine BoolOp_and (thn (ha pins s σ H _ I h) fun v s1 ⟨x, H1, I1, r1, q1⟩ => ?_)
  obtain ⟨c, rfl, q1⟩ := q1
  cases r1
  refine wpAny_truthy_bool ?_
  cases c with
  | true => exact hb pins s1 σ H1 Q I1 q1
  | false => exact ⟨.bl false, H1, I1, rfl, q1⟩
theorem pe_not (ha : PE X a ta) : PE X (.UnaryOp .Not a pos) (tNotV ta) := by
  intro pins s σ H Q I h
  refine UnaryOp_ (thn (ha pins s σ H _ I h) fun v s1 ⟨x, H1, I1, r1, q1⟩ => ?_)
  obtain ⟨c, rfl, q1⟩ := q1
  cases r1
  exact not_of (wpAny_truthy_bool ⟨.bl (!c), H1, I1, rfl, q1⟩)
def tIf (t : TT) (ta tb : TE) : TE := fun σ H Q => t σ H fun c H1 => if c = true then ta σ H1 Q else tb σ H1 Q
theorem pe_ifExp {c : Expr} (hc : PT X c tA) (ha : PE X a ta) (hb : PE X b tb) : PE X (.IfExp c a b pos) (tIf tA ta tb) := by
  intro pins s σ H Q I h
  refine wpAny_IfExp (thn (hc pins s σ H _ I h) fun d s1 ⟨H1, I1, q1⟩ => ?_)
  cases d with
  | true => exact ha pins s1 σ H1 Q I1 q1
  | false => exact hb pins s1 σ H1 Q I1 q1
end
end L2

namespace L2
open PySem PySem.Spec PyProof.Rows

def SqL (K : PySem.W.Frag) (H : Hp) (a : Addr) (xs : List V) : Prop :=
  Rd H a (.lst xs) ∨
    ∃ (o : Obj) (its : Array Value) (n : Nat), K.lookup a = some o ∧ o.cls = .type "list" ∧ o.dict = none ∧ o.data = .seq its n ∧ its.size ≤ sizeLine ∧ Vals xs its.toList
def SqT (K : PySem.W.Frag) (H : Hp) (a : Addr) (xs : List V) : Prop :=
  Rd H a (.tup xs) ∨
    ∃ (o : Obj) (its : Array Value) (n : Nat), K.lookup a = some o ∧ o.cls = .type "tuple" ∧ o.data = .seq its n ∧ its.size ≤ sizeLine ∧ Vals xs its.toList
def absV : Value → Option V
  | .none => some .non
  | .bool b => some (.bl b)
  | .int i _ => some (.int i)
  | .str x _ => some (.str x)
  | .bytes b _ => some (.byt b)
  | .float b _ => some (.flt b)
  | .ref a => some (.ref a)
  | .type n => some (.ty n)
  | _ => none
theorem RelV.abs {x : V} {u : Value} (r : RelV x u) : absV u = some x := by
  cases x with
  | non => cases r; rfl
  | bl _ => cases r; rfl
  | int _ => obtain ⟨t, rfl⟩ := r; rfl
  | str _ => obtain ⟨t, rfl⟩ := r; rfl
  | byt _ => obtain ⟨t, rfl⟩ := r; rfl
  | flt _ => obtain ⟨t, rfl⟩ := r; rfl
  | ref _ => cases r; rfl
  | ty _ => cases r; rfl
theorem RelV.inj {x y : V} {u : Value} (r : RelV x u) (q : RelV y u) : x = y := Option.some.inj (r.abs.symm.trans q.abs)
theorem Vals.inj : ∀ {xs ys : List V} {us : List Value}, Vals xs us → Vals ys us → xs = ys
  | _, _, _, .nil, .nil => rfl
  | _, _, _, .cons r t, .cons r' t' => by rw [r.inj r', Vals.inj t t']
section
variable {X : Cx} {pins : List (Addr × Obj)} {σ : St} {H : Hp} {s : Shared} {a : Addr} {xs ys : List V}
theorem SqL.of {K : PySem.W.Frag} (h : H a = some (.lst xs)) : SqL K H a xs := .inl (.inl h)
theorem SqT.of {K : PySem.W.Frag} (h : H a = some (.tup xs)) : SqT K H a xs := .inl (.inl h)
theorem Inv.list (I : Inv X pins σ H s) (h : SqL X.K H a xs) : ∃ its : List Value, Vals xs its ∧ PlainL s.heap a its.toArray ∧ xs.length ≤ sizeLine := by
  rcases h with h | ⟨o, its, n, hk, hc, hd, hs, hz, r⟩
  · obtain ⟨z, its, n, r, e⟩ := h.ok I.hok
    exact ⟨its, r, ⟨_, n, e, rfl, rfl, rfl⟩, z⟩
  · refine ⟨its.toList, r, ⟨o, n, I.kIn a o hk, hc, hd, by simpa using hs⟩, ?_⟩
    have e := r.length
    simp only [Array.length_toList] at e
    omega
theorem Inv.tuple (I : Inv X pins σ H s) (h : SqT X.K H a xs) : ∃ its : List Value, Vals xs its ∧ IsTup s.heap a its.toArray ∧ xs.length ≤ sizeLine := by
  rcases h with h | ⟨o, its, n, hk, hc, hs, hz, r⟩
  · obtain ⟨z, its, r, p⟩ := h.ok I.hok
    exact ⟨its, r, p, z⟩
  · refine ⟨its.toList, r, ⟨o, I.kIn a o hk, hc, n, by simpa using hs⟩, ?_⟩
    have e := r.length
    simp only [Array.length_toList] at e
    omega
theorem Inv.list_inj (I : Inv X pins σ H s) (h : SqL X.K H a xs) (h' : SqL X.K H a ys) : xs = ys := by
  obtain ⟨its, r, ⟨o, n, e, _, _, d⟩, _⟩ := I.list h
  obtain ⟨its', r', ⟨o', n', e', _, _, d'⟩, _⟩ := I.list h'
  rw [e] at e'; cases e'
  rw [d] at d'
  injection d' with d1 _
  have : its = its' := by simpa using congrArg Array.toList d1
  subst this
  exact r.inj r'
end

abbrev Cx.wish (X : Cx) (E : Value → Shared → Prop) : Cx := { X with xe := E }
abbrev Cx.nox (X : Cx) : Cx := X.wish fun _ _ => False
theorem Cx.Ok.wish {X : Cx} (ok : X.Ok) (E : Value → Shared → Prop) : (X.wish E).Ok :=
  ⟨ok.mod, ok.kind, ok.glob, ok.blt, ok.above, ok.inj, ok.has, ok.cab, ok.hd, ok.frames, ok.stk, ok.exf, ok.bs, ok.bsz, ok.noex, ok.exfs, ok.funs, ok.frf⟩
theorem Cx.Ok.unwish {X : Cx} {E : Value → Shared → Prop} (ok : (X.wish E).Ok) : X.Ok :=
  ⟨ok.mod, ok.kind, ok.glob, ok.blt, ok.above, ok.inj, ok.has, ok.cab, ok.hd, ok.frames, ok.stk, ok.exf, ok.bs, ok.bsz, ok.noex, ok.exfs, ok.funs, ok.frf⟩
section
variable {X : Cx} {pins : List (Addr × Obj)} {σ : St} {H : Hp} {s : Shared} {E : Value → Shared → Prop}
theorem Inv.wish (I : Inv X pins σ H s) (E : Value → Shared → Prop) : Inv (X.wish E) pins σ H s := ⟨I.ok.wish E, I.os, I.bare, I.base, I.loc, I.cell, I.free, I.freeC, I.pin, I.hok, I.len⟩
theorem Inv.unwish (I : Inv (X.wish E) pins σ H s) : Inv X pins σ H s := ⟨I.ok.unwish, I.os, I.bare, I.base, I.loc, I.cell, I.free, I.freeC, I.pin, I.hok, I.len⟩
theorem SP.unwish {D : Ends} {f : Flow} {s' : Shared} (h : SP (X.wish E) pins D f s') : SP X pins D f s' := by
  cases f with
  | next => obtain ⟨σ', H', I, q⟩ := h; exact ⟨σ', H', I.unwish, q⟩
  | brk => obtain ⟨σ', H', I, q⟩ := h; exact ⟨σ', H', I.unwish, q⟩
  | cont => obtain ⟨σ', H', I, q⟩ := h; exact ⟨σ', H', I.unwish, q⟩
  | ret u => obtain ⟨v, σ', H', I, r, q⟩ := h; exact ⟨v, σ', H', I.unwish, r, q⟩
theorem PSs.nox {st : List Stmt} {t : TS} (h : PSs X.nox st t) : PSs X st t := fun pins s σ H D I hw =>
  wpAny_mono (h pins s σ H D (I.wish _) hw) (fun _ _ q => q.unwish) fun _ _ z => False.elim z
end

section
variable {X : Cx} {st : Stmt} {rest : List Stmt} {t u : TS} {e : Expr} {te : TE} {pos : Pos}
def tNext : TS := fun D σ H => D.nx σ H
def tSeq (t u : TS) : TS := fun D σ H => t { D with nx := u D } σ H
theorem pss_nil : PSs X [] tNext := fun _ _ σ H _ I h => wpAny_execs_nil ⟨σ, H, I, h⟩
theorem pss_cons (h1 : PS X st t) (h2 : PSs X rest u) : PSs X (st :: rest) (tSeq t u) := by
  intro pins s σ H D I h
  refine wpAny_execs_cons (thn (h1 pins s σ H { D with nx := u D } I h) fun f s1 q => ?_)
  cases f with
  | next =>
    obtain ⟨σ', H', I', q⟩ := q
    exact h2 pins s1 σ' H' D I' q
  | ret v => exact q
  | brk => exact q
  | cont => exact q
theorem pss_one (h1 : PS X st t) : PSs X [st] t := by
  intro pins s σ H D I h
  refine wpAny_execs_cons (thn (h1 pins s σ H D I h) fun f s1 q => ?_)
  cases f with
  | next => exact wpAny_execs_nil q
  | ret v => exact q
  | brk => exact q
  | cont => exact q
theorem Inv.quiet {pins : List (Addr × Obj)} {σ : St} {H : Hp} {s : Shared} (I : Inv X pins σ H s) : interactive X.env = false := by simp [interactive, I.ok.kind]
def tDrop (te : TE) : TS := fun D σ H => te σ H fun _ H1 => D.nx σ H1
theorem ps_expr (he : PE X e te) (hs : swapsWith e none pos.line X.env = pure false := by rfl) : PS X (.Expr e pos) (tDrop te) := by
  intro pins s σ H D I h
  exact wpAny_Expr_any (thn (he pins s σ H _ I h) fun v s1 ⟨x, H1, I1, r1, q1⟩ => ⟨σ, H1, I1, q1⟩) I.quiet hs
def tRet (te : TE) : TS := fun D σ H => te σ H D.rt
theorem ps_ret (he : PE X e te) : PS X (.Return (some e) pos) (tRet te) := by
  intro pins s σ H D I h
  exact wpAny_Return_some (thn (he pins s σ H _ I h) fun v s1 ⟨x, H1, I1, r1, q1⟩ => ⟨x, σ, H1, I1, r1, q1⟩)
def tIfS (c : TT) (t u : TS) : TS := fun D σ H => c σ H fun b H1 => if b = true then t D σ H1 else u D σ H1
theorem ps_if {c : Expr} {a b : List Stmt} {tc : TT} (hc : PT X c tc) (ha : PSs X a t) (hb : PSs X b u) : PS X (.If c a b pos) (tIfS tc t u) := by
  intro pins s σ H D I h
  refine wpAny_If (thn (hc pins s σ H _ I h) fun d s1 ⟨H1, I1, q1⟩ => ?_)
  cases d with
  | true => exact ha pins s1 σ H1 D I1 q1
  | false => exact hb pins s1 σ H1 D I1 q1
def tNever : TS := fun _ _ _ => False
theorem ps_never : PS X st tNever := fun _ _ _ _ _ _ h => h.elim
end

abbrev TG := V → St → Hp → (St → Hp → Prop) → Prop
abbrev TGs := List V → St → Hp → (St → Hp → Prop) → Prop
def PG (X : Cx) (target : Expr) (t : TG) : Prop :=
  ∀ (pins : List (Addr × Obj)) (s : Shared) (σ : St) (H : Hp) (v : V) (u : Value) (Q : St → Hp → Prop), Inv X pins σ H s → RelV v u → t v σ H Q →
    wpAny (model X.prog X.w) X.A (assign target X.env u) (fun _ s' => ∃ σ' H', Inv X pins σ' H' s' ∧ Q σ' H') X.xe s
def PGs (X : Cx) (ts : List Expr) (t : TGs) : Prop :=
  ∀ (pins : List (Addr × Obj)) (s : Shared) (σ : St) (H : Hp) (vs : List V) (us : List Value) (Q : St → Hp → Prop), Inv X pins σ H s → Vals vs us → t vs σ H Q →
    wpAny (model X.prog X.w) X.A (assignInOrder ((assignEach ts X.env).map (·.2)) us) (fun _ s' => ∃ σ' H', Inv X pins σ' H' s' ∧ Q σ' H') X.xe s
abbrev TIp := V → V → Hp → VK → Prop
def PIp (X : Cx) (op : Operator) (t : TIp) : Prop :=
  ∀ (pins : List (Addr × Obj)) (s : Shared) (σ : St) (H : Hp) (x y : V) (v u : Value) (Q : VK), Inv X pins σ H s → RelV x v → RelV y u → t x y H Q →
    wpAny (model X.prog X.w) X.A (inplaceOp op v u) (EP X pins σ Q) X.xe s
section
variable {X : Cx} {pos : Pos}
def gName (i : Nat) : TG := fun v σ H Q => Q (σ.set i (some v)) H
theorem pg_name {i : Nat} {x : Str} (hN : X.N.Nodup) (hi : X.N[i]? = some x) (hx : Loc X.env.scope x) (hf : X.fn x = true ∨ X.env.scope.names.lookup x = some .local := by first | exact .inl rfl | exact .inr rfl | assumption) : PG X (.Name x pos) (gName i) := by
  intro pins s σ H v u Q I r h
  exact wpAny_assign_Name (store_ok I hN hi hx r (fun s' I' => ⟨_, H, I', h⟩) hf)
def gNil : TGs := fun vs σ H Q => vs = [] ∧ Q σ H
def gCons (t : TG) (u : TGs) : TGs := fun vs σ H Q => ∃ v r, vs = v :: r ∧ t v σ H fun σ' H' => u r σ' H' Q
theorem pgs_nil : PGs X [] gNil := by
  intro pins s σ H vs us Q I r h
  obtain ⟨e, h⟩ := h
  subst e
  cases r
  exact assignInOrder_nil ⟨σ, H, I, h⟩
theorem pgs_cons {e : Expr} {es : List Expr} {t : TG} {u : TGs} (h1 : PG X e t) (h2 : PGs X es u)
    (hs : (assignEach (e :: es) X.env).map (·.2) = assign e X.env :: (assignEach es X.env).map (·.2) := by rfl) : PGs X (e :: es) (gCons t u) := by
  intro pins s σ H vs us Q I r h
  obtain ⟨v, vr, e1, h⟩ := h
  subst e1
  cases r with
  | cons r rr =>
    rw [hs]
    refine assignInOrder_cons (thn (h1 pins s σ H _ _ _ I r h) fun _ s1 ⟨σ1, H1, I1, q1⟩ => ?_)
    exact h2 pins s1 σ1 H1 _ _ Q I1 rr q1
def gTup (K : PySem.W.Frag) (n : Nat) (t : TGs) : TG := fun v σ H Q => ∃ a xs, v = .ref a ∧ SqT K H a xs ∧ xs.length = n ∧ t xs σ H Q
theorem pg_tup {es : List Expr} {k : Nat} {t : TGs} {n : Nat} (hc : X.calm = true) (h : PGs X es t)
    (hn : (assignEach es X.env).length = n := by rfl) (hst : (assignEach es X.env).findIdx? (·.1) = none := by rfl) : PG X (.Tuple es k pos) (gTup X.K n t) := by
  intro pins s σ H v u Q I r hw
  obtain ⟨a, xs, e1, hq, hl, hw⟩ := hw
  subst e1
  cases r
  obtain ⟨its, rv, ht, hz⟩ := I.tuple hq
  refine assign_Tuple_tuple (I.ok.hd hc) ht (by simp [hn, ← hl, rv.length]) hst fun h' hx => ?_
  have I1 : Inv X pins σ H { s with heap := h' } := I.kept (t' := s.toks) fun b o e => hx b o (Nat.ne_of_lt (Heap.lt_size e)) e
  exact h pins _ σ H xs _ Q I1 (by simpa using rv) hw
def tAsg (te : TE) (g : TG) : TS := fun D σ H => te σ H fun x H1 => g x σ H1 D.nx
theorem ps_set {i : Nat} {x : Str} {e : Expr} {te : TE} {pos' : Pos} (hN : X.N.Nodup) (hi : X.N[i]? = some x) (hx : Loc X.env.scope x) (he : PE X e te) (hs : swapsWith e (some (.Name x pos')) pos.line X.env = pure false := by rfl) (hf : X.fn x = true ∨ X.env.scope.names.lookup x = some .local := by first | exact .inl rfl | exact .inr rfl | assumption) :
    PS X (.Assign [.Name x pos'] e pos) (tAsg te (gName i)) := by
  intro pins s σ H D I h
  refine wpAny_Assign_Name (thn (he pins s σ H _ I h) fun v s1 ⟨y, H1, I1, r1, q1⟩ => ?_) hs
  exact store_ok I1 hN hi hx r1 (fun s2 I2 => ⟨_, H1, I2, q1⟩) hf
def tAug (i : Nat) (te : TE) (ti : TIp) : TS := fun D σ H => ∃ x, σ[i]? = some (some x) ∧ te σ H fun y H1 => ti x y H1 fun z H2 => D.nx (σ.set i (some z)) H2
theorem ps_aug {i : Nat} {x : Str} {e : Expr} {te : TE} {op : Operator} {ti : TIp} {pos' : Pos} (hN : X.N.Nodup) (hi : X.N[i]? = some x) (hx : Loc X.env.scope x) (he : PE X e te) (ho : PIp X op ti) (hf : X.fn x = true ∨ X.env.scope.names.lookup x = some .local := by first | exact .inl rfl | exact .inr rfl | assumption) :
    PS X (.AugAssign (.Name x pos') op e pos) (tAug i te ti) := by
  intro pins s σ H D I h
  obtain ⟨v, e1, h⟩ := h
  obtain ⟨m, hn, hl⟩ := I.loc
  have vis : Vis X.env.scope x := by rcases hx with k | k; exact .inl k; exact .inr (.inl k)
  obtain ⟨u, r, l⟩ := hl i x v hi e1 vis
  refine wpAny_AugAssign_Name ?_
  have go : wpAny (model X.prog X.w) X.A (eval e X.env) (fun w s₂ => wpAny (model X.prog X.w) X.A (inplaceOp op u w) (fun r s₃ => wpAny (model X.prog X.w) X.A (storeName X.env x r) (fun _ => SP X pins D .next) X.xe s₃) X.xe s₂) X.xe s := by
    refine thn (he pins s σ H _ I h) fun w s1 ⟨y, H1, I1, r1, q1⟩ => ?_
    refine thn (ho pins s1 σ H1 v y u w _ I1 r r1 q1) fun z s2 ⟨zv, H2, I2, r2, q2⟩ => ?_
    exact store_ok I2 hN hi hx r2 (fun s3 I3 => ⟨_, H2, I3, q2⟩) hf
  rcases l with ⟨hk, hm⟩ | ⟨hk, c, hc, hcell⟩
  · exact wpAny_loadName_local I.ok.kind hk hn hm go
  · rcases hk with hk | hk
    · exact wpAny_loadName_cell I.ok.kind hk hc hcell go
    · rcases hx with k | k
      · have : X.env.scope.names.lookup x = some .free := hk
        rw [k] at this; cases this
      · have : X.env.scope.names.lookup x = some .free := hk
        rw [k] at this; cases this
def ipI (f : Int → Int → Int) : TIp := fun x y H Q => ∃ i j, x = .int i ∧ y = .int j ∧ Q (.int (f i j)) H
theorem ip_add : PIp X .Add (ipI fun i j => i + j) := by
  intro pins s σ H x y v u Q I r1 r2 h
  obtain ⟨i, j, e1, e2, q⟩ := h
  subst e1; subst e2
  obtain ⟨t, rfl⟩ := r1
  obtain ⟨t', rfl⟩ := r2
  exact iadd_int ⟨.int _, H, I.tok _, ⟨_, rfl⟩, q⟩
end

section
variable {X : Cx} {pos : Pos}
def tWhile (c : TT) (tb : TS) : TS := fun D σ H => ∃ W : Nat → St → Hp → Prop, (∃ m, W m σ H) ∧ ∀ m σ H, W m σ H →
  c σ H fun b H1 => if b = true then ∃ N : St → Hp → Prop, (∀ σ' H', N σ' H' → ∃ m', m' < m ∧ W m' σ' H') ∧ tb { D with nx := N, ct := N, bk := D.nx } σ H1 else D.nx σ H1
theorem ps_while {c : Expr} {body : List Stmt} {tc : TT} {tb : TS} (hp : PassesOwn (model X.prog X.w) X.A X.env X.xe) (hc : PT X c tc) (hb : PSs X body tb) : PS X (.While c body [] pos) (tWhile tc tb) := by
  intro pins s σ H D I h
  obtain ⟨W, ⟨m0, w0⟩, turn⟩ := h
  refine wpAny_While (codeAny_whileLoop (fun n s' => ∃ σ' H', Inv X pins σ' H' s' ∧ W n σ' H') ?_ m0 ⟨σ, H, I, w0⟩)
  rintro n s1 ⟨σ1, H1, I1, w1⟩
  refine wpAny_passesOwn hp (thn (hc pins s1 σ1 H1 _ I1 (turn n σ1 H1 w1)) fun b s2 ⟨H2, I2, q2⟩ => ?_)
  cases b with
  | true =>
    obtain ⟨N, hN, q2⟩ := q2
    rw [if_pos rfl]
    refine wpAny_passesOwn hp (thn (hb pins s2 σ1 H2 _ I2 q2) fun f s3 q3 => ?_)
    cases f with
    | next =>
      obtain ⟨σ3, H3, I3, n3⟩ := q3
      obtain ⟨m', hm, w3⟩ := hN σ3 H3 n3
      exact ⟨m', hm, σ3, H3, I3, w3⟩
    | cont =>
      obtain ⟨σ3, H3, I3, n3⟩ := q3
      obtain ⟨m', hm, w3⟩ := hN σ3 H3 n3
      exact ⟨m', hm, σ3, H3, I3, w3⟩
    | brk => exact q3
    | ret v => exact q3
  | false =>
    rw [if_neg Bool.false_ne_true]
    exact wpAny_execs_nil ⟨σ1, H2, I2, q2⟩
end

structure It where
  go : Nat → Hp → Prop
  yld : Nat → Hp → V → Hp → Prop
  stop : Nat → Hp → Prop
def FpOk (X : Cx) (pins : List (Addr × Obj)) (H : Hp) (b : Addr) : Prop :=
  H b = none ∧ b ≠ X.env.locals ∧ b ∉ X.fs ∧ (b ∈ X.ex ∨ X.s₀.heap.objs.size ≤ b) ∧ (∀ x c, X.env.cells.lookup x = some c → c ≠ b) ∧ ∀ p ∈ X.pn ++ pins, p.1 ≠ b
theorem Inv.fpOk {X : Cx} {pins : List (Addr × Obj)} {σ : St} {H H' : Hp} {s : Shared} {b : Addr} (I : Inv X pins σ H s) (hb : s.heap.objs.size ≤ b) (hn : H' b = none) : FpOk X pins H' b := by
  refine ⟨hn, Nat.ne_of_gt (Nat.lt_of_lt_of_le I.lt hb), I.nofs hb, .inr (Nat.le_trans I.sz hb), fun x c e z => ?_, fun p hp z => ?_⟩
  · obtain ⟨v, q⟩ := I.cell x c e
    exact absurd (Nat.lt_of_lt_of_le q.lt (by rw [z]; exact hb)) (Nat.lt_irrefl _)
  · exact absurd (Nat.lt_of_lt_of_le (Heap.lt_size (I.pin p hp).1) (by rw [z]; exact hb)) (Nat.lt_irrefl _)
structure Turn (P : Program) (w : World) (K : PySem.W.Frag) (tg : Expr) (J : It) (fp : List Addr) (it : Addr) (tn : Nat → Heap → Prop) : Prop where
  mem : it ∈ fp
  obj : ∀ i h, tn i h → ∀ b ∈ fp, ∃ o, h.get? b = some o ∧ ∀ v, o.data ≠ .cell v
  keep : ∀ i h h', tn i h → (∀ b ∈ fp, ∀ o, h.get? b = some o → h'.get? b = some o) → tn i h'
  item : ∀ (X : Cx), X.prog = P → X.w = w → X.K = K → X.calm = true → ∀ (i : Nat) (pins : List (Addr × Obj)) (s : Shared) (σ : St) (H : Hp) (E : Value → Shared → Prop), Inv X pins σ H s → (∀ b ∈ fp, FpOk X pins H b) → tn i s.heap → J.go i H →
    wpAny (model P w) X.A (pyNext (.ref it)) (fun r s1 => ∃ u, r = some u ∧
      wpAny (model P w) X.A (letOwnedTupleGo tg (.ref it) u) (fun _ s2 => ∃ x H', Inv X pins σ H' s2 ∧ RelV x u ∧ J.yld i H x H' ∧ tn (i + 1) s2.heap ∧ ∀ b ∈ fp, H' b = none) E s1) E s
  done : ∀ (X : Cx), X.prog = P → X.w = w → X.K = K → X.calm = true → ∀ (i : Nat) (pins : List (Addr × Obj)) (s : Shared) (σ : St) (H : Hp) (E : Value → Shared → Prop), Inv X pins σ H s → (∀ b ∈ fp, FpOk X pins H b) → tn i s.heap → J.stop i H →
    wpAny (model P w) X.A (pyNext (.ref it)) (fun r s1 => r = none ∧ Inv X pins σ H s1) E s
  self : ∀ (A : Around) (i : Nat) (s : Shared) (Q : Value → Shared → Prop) (E : Value → Shared → Prop), tn i s.heap → Q (.ref it) s → wpAny (model P w) A (pyIter (.ref it)) Q E s
abbrev TI := St → Hp → (It → Hp → Prop) → Prop
def PIE (X : Cx) (pins : List (Addr × Obj)) (σ : St) (tg : Expr) (R : It → Hp → Prop) (itv : Value) (s2 : Shared) : Prop :=
  ∃ (it : Addr) (fp : List Addr) (tn : Nat → Heap → Prop) (J : It) (H' : Hp), itv = .ref it ∧ Inv X pins σ H' s2 ∧ Turn X.prog X.w X.K tg J fp it tn ∧ tn 0 s2.heap ∧ (∀ b ∈ fp, FpOk X pins H' b) ∧ R J H'
def PI (X : Cx) (tg iter : Expr) (wi : TI) : Prop :=
  ∀ (pins : List (Addr × Obj)) (s : Shared) (σ : St) (H : Hp) (R : It → Hp → Prop), Inv X pins σ H s → wi σ H R →
    wpAny (model X.prog X.w) X.A (eval iter X.env) (fun v s1 => wpAny (model X.prog X.w) X.A (pyIter v) (PIE X pins σ tg R) X.xe s1) X.xe s

theorem go_of {M : Model} {A : Around} {E : Value → Shared → Prop} {s : Shared} {tg : Expr} {it : Addr} {u : Value} {o : Obj} {n : String} {vs : Array Value} {Q : Unit → Shared → Prop} (ho : s.heap.get? it = some o) (hc : o.cls = .type n) (hd : o.data = .fields vs)
    (hn : ["enumerate", "zip", "dict_itemiterator", "dict_reverseitemiterator", "odict_iterator", "itertools.zip_longest", "itertools.pairwise"].contains n = false) (hQ : Q () s) : wpAny M A (letOwnedTupleGo tg (.ref it) u) Q E s := by
  unfold letOwnedTupleGo
  cases tg <;> first
    | exact wpAny_pure hQ
    | (cases u <;> first
        | exact wpAny_pure hQ
        | (refine wpAny_bind (wpAny_load ho ?_)
           rw [hc, hd]
           show wpAny M A (if (["enumerate", "zip", "dict_itemiterator", "dict_reverseitemiterator", "odict_iterator", "itertools.zip_longest", "itertools.pairwise"].contains n && vs[0]? == some (rawInt _)) = true then _ else _) Q E s
           rw [if_neg (by intro h; rw [hn, Bool.false_and] at h; cases h)]
           exact wpAny_pure hQ))

def Itl (K : PySem.W.Frag) (a : Addr) : It :=
  ⟨fun i H => ∃ xs x, SqL K H a xs ∧ xs[i]? = some x, fun i H x H' => H' = H ∧ ∀ xs, SqL K H a xs → xs[i]? = some x, fun i H => ∃ xs, SqL K H a xs ∧ xs.length ≤ i⟩
def Itr (lo : Int) (n : Nat) : It := ⟨fun i _ => i < n, fun i H x H' => H' = H ∧ x = .int (lo + i), fun i _ => n ≤ i⟩
theorem turn_list {P : Program} {w : World} {K : PySem.W.Frag} {tg : Expr} (a it : Addr) : Turn P w K tg (Itl K a) [it] it (fun i h => h.IsListIter it a i) where
  mem := by simp
  obj := fun i h st b hb => by
    have e : b = it := by simpa using hb
    subst e
    obtain ⟨o, e, c, d⟩ := st
    exact ⟨o, e, fun v z => by rw [d] at z; cases z⟩
  keep := fun i h h' st k => st.at fun o e => k it (by simp) o e
  item := by
    intro X hP hw hK hc i pins s σ H E I hf st hg
    subst hP hw hK
    obtain ⟨xs, x, hq, hx⟩ := hg
    obtain ⟨its, rv, p, hz⟩ := I.list hq
    obtain ⟨u, hu, ru⟩ := rv.get hx
    obtain ⟨f0, f1, f2, f3, f4, f5⟩ := hf it (by simp)
    refine wpAny_pyNext_list_item st p.isList (x := u) (by simpa using hu) fun h' st' sb => ?_
    have I1 : Inv X pins σ H { s with heap := h' } := I.turned (t' := s.toks) (fun b o hb e => (sb.2 b hb).trans e) f0 f1 f3 f4 f5
    obtain ⟨o, e, c, d⟩ := id st'
    exact ⟨u, rfl, go_of (s := { s with heap := h' }) e c d (by decide) ⟨x, H, I1, ru, ⟨rfl, fun ys hy => by rw [I.list_inj hy hq]; exact hx⟩, st', fun b hb => (hf b hb).1⟩⟩
  done := by
    intro X hP hw hK hc i pins s σ H E I hf st hg
    subst hP hw hK
    obtain ⟨xs, hq, hx⟩ := hg
    obtain ⟨its, rv, p, hz⟩ := I.list hq
    obtain ⟨f0, f1, f2, f3, f4, f5⟩ := hf it (by simp)
    have hl := rv.length
    exact wpAny_pyNext_list_end (I.ok.hd hc) st p.isList (by simp; omega) fun h' eb => ⟨rfl, I.turned (t' := s.toks) (fun b o hb e => eb b o hb e) f0 f1 f3 f4 f5⟩
  self := fun _ _ _ _ _ st h => wpAny_pyIter_listiter st h
theorem turn_range {P : Program} {w : World} {K : PySem.W.Frag} {tg : Expr} (it : Addr) (lo : Int) (n : Nat) : Turn P w K tg (Itr lo n) [it] it (fun i h => IsRangeIter h it (lo + (i : Nat) * 1) ((n : Int) - (i : Nat)) 1) where
  mem := by simp
  obj := fun i h st b hb => by
    have e : b = it := by simpa using hb
    subst e
    exact ⟨_, st, fun v z => by
      have z' : Data.fields _ = Data.cell v := z
      cases z'⟩
  keep := fun i h h' st k => k it (by simp) _ st
  item := by
    intro X hP hw hK hc i pins s σ H E I hf st hg
    subst hP hw hK
    obtain ⟨f0, f1, f2, f3, f4, f5⟩ := hf it (by simp)
    have W := Walks.range (prog := X.prog) (w := X.w) (I.ok.hd hc) it lo 1 n
    refine W.item i s _ _ hg st fun v h' tk hv st' kk => ?_
    obtain ⟨t, rfl⟩ := hv
    have I1 : Inv X pins σ H { s with heap := h', toks := tk } := I.turned (fun b o hb e => kk b o (by simpa using hb) e) f0 f1 f3 f4 f5
    refine ⟨_, rfl, go_of (s := { s with heap := h', toks := tk }) (n := "range_iterator") st' rfl rfl (by decide) ⟨.int (lo + i), H, I1, ⟨t, ?_⟩, ⟨rfl, rfl⟩, st', fun b hb => (hf b hb).1⟩⟩
    rw [Int.mul_one]
  done := by
    intro X hP hw hK hc i pins s σ H E I hf st hg
    subst hP hw hK
    obtain ⟨f0, f1, f2, f3, f4, f5⟩ := hf it (by simp)
    exact wpAny_pyNext_range_end (I.ok.hd hc) st (by have : n ≤ i := hg; omega) fun h' eb => ⟨rfl, I.turned (t' := s.toks) (fun b o hb e => eb b o hb e) f0 f1 f3 f4 f5⟩
  self := fun _ _ _ _ _ st h => wpAny_pyIter_rangeiter st h
end L2

namespace L2
open PySem PySem.Spec PyProof.Rows
section
variable {X : Cx} {tg : Expr}
def iList (K : PySem.W.Frag) (tl : TE) : TI := fun σ H R => tl σ H fun x H1 => ∃ a, x = .ref a ∧ (∃ xs, SqL K H1 a xs) ∧ R (Itl K a) H1
theorem pi_list {l : Expr} {tl : TE} (hl : PE X l tl) : PI X tg l (iList X.K tl) := by
  intro pins s σ H R I h
  refine thn (hl pins s σ H _ I h) fun v s1 ⟨x, H1, I1, r1, q1⟩ => ?_
  obtain ⟨a, e, ⟨xs, hq⟩, q⟩ := q1
  subst e
  cases r1
  obtain ⟨its, rv, p, hz⟩ := I1.list hq
  refine wpAny_pyIter_list p.isList ?_
  refine ⟨s1.heap.objs.size, [s1.heap.objs.size], _, _, H1, rfl, I1.kept (t' := s1.toks) fun b o e => Heap.get?_push_of_some _ e, turn_list a _, ⟨_, Heap.get?_push_size _ rfl, rfl, rfl⟩, fun b hb => ?_, q⟩
  have e : b = s1.heap.objs.size := by simpa using hb
  subst e
  exact I1.fpOk (Nat.le_refl _) (I1.hok.fresh (Nat.le_refl _))
theorem range_it {pins : List (Addr × Obj)} {σ : St} {H : Hp} {s : Shared} {R : It → Hp → Prop} {E : Value → Shared → Prop} {lo hi : Int} {t u v : Tok} {tk : Nat} (I : Inv X pins σ H s) (h1 : -(2 ^ 62) ≤ lo) (h2 : lo < 2 ^ 62) (h3 : -(2 ^ 62) ≤ hi) (h4 : hi < 2 ^ 62)
    (q : R (Itr lo (hi - lo).toNat) H) : wpAny (model X.prog X.w) X.A (pyIter (.ref s.heap.objs.size)) (PIE X pins σ tg R) E { s with heap := s.heap.push { cls := .type "range", data := .fields #[.int lo t, .int hi u, .int 1 v] }, toks := tk } := by
  refine wpAny_pyIter_range (IsRange.new ..) (small_one h1 h2 h3 h4) ?_
  have I1 : Inv X pins σ H { s with heap := s.heap.push { cls := .type "range", data := .fields #[.int lo t, .int hi u, .int 1 v] }, toks := tk } := I.kept fun b o e => Heap.get?_push_of_some _ e
  refine ⟨(s.heap.push { cls := .type "range", data := .fields #[.int lo t, .int hi u, .int 1 v] }).objs.size, [(s.heap.push { cls := .type "range", data := .fields #[.int lo t, .int hi u, .int 1 v] }).objs.size], _, _, H, rfl,
    I1.kept (t' := tk) fun b o e => Heap.get?_push_of_some _ e, turn_range _ lo (hi - lo).toNat, ?_, fun b hb => ?_, q⟩
  · have e1 : lo + ((0 : Nat) : Int) * 1 = lo := by simp
    have e2 : (((hi - lo).toNat : Nat) : Int) - ((0 : Nat) : Int) = Builtin.Range.rangeSize lo hi 1 := by rw [rangeSize_one]; split <;> omega
    show IsRangeIter _ _ (lo + ((0 : Nat) : Int) * 1) ((((hi - lo).toNat : Nat) : Int) - ((0 : Nat) : Int)) 1
    rw [e1, e2]
    exact Heap.get?_push_size _ rfl
  · have e : b = (s.heap.push { cls := .type "range", data := .fields #[.int lo t, .int hi u, .int 1 v] }).objs.size := by simpa using hb
    subst e
    exact I1.fpOk (Nat.le_refl _) (I1.hok.fresh (Nat.le_refl _))
def iRng1 (ta : TA) : TI := fun σ H R => ta σ H fun vs H1 => ∃ j : Int, vs = [.int j] ∧ -(2 ^ 62) ≤ j ∧ j < 2 ^ 62 ∧ R (Itr 0 j.toNat) H1
def iRng2 (ta : TA) : TI := fun σ H R => ta σ H fun vs H1 => ∃ i j : Int, vs = [.int i, .int j] ∧ (-(2 ^ 62) ≤ i ∧ i < 2 ^ 62 ∧ -(2 ^ 62) ≤ j ∧ j < 2 ^ 62) ∧ R (Itr i (j - i).toNat) H1
theorem pi_range1 {a : Expr} {ta : TA} {p pos : Pos} (hg : Gl X "range") (hm : X.mg "range" = none) (ha : PA X [a] ta) (hs : starEach [a] X.env = [(false, eval a X.env)] := by rfl) : PI X tg (.Call (.Name "range" p) [a] [] pos) (iRng1 ta) := by
  intro pins s σ H R I h
  refine Call_ (ld_blt I hg hm boot_range (PyProof.Rows.callWith_type1 (thn (ha pos pins s σ H _ I h) fun us s1 ⟨vs, H1, I1, r1, q1⟩ => ?_) hs rfl))
  obtain ⟨j, e, q1, q2, q⟩ := q1
  subst e
  cases r1 with
  | cons r rr =>
    cases rr
    obtain ⟨t, rfl⟩ := r
    exact call_range_1 (range_it I1 (by omega) (by omega) q1 q2 (by simpa using q))
theorem pi_range2 {a b : Expr} {ta : TA} {p pos : Pos} (hg : Gl X "range") (hm : X.mg "range" = none) (ha : PA X [a, b] ta) (hs : starEach [a, b] X.env = [(false, eval a X.env), (false, eval b X.env)] := by rfl) (hs2 : starEach [b] X.env = [(false, eval b X.env)] := by rfl) :
    PI X tg (.Call (.Name "range" p) [a, b] [] pos) (iRng2 ta) := by
  intro pins s σ H R I h
  refine Call_ (ld_blt I hg hm boot_range (PyProof.Rows.callWith_type1 (thn (ha pos pins s σ H _ I h) fun us s1 ⟨vs, H1, I1, r1, q1⟩ => ?_) (by rw [hs, hs2]) (by rw [hs2]; rfl)))
  obtain ⟨i, j, e, ⟨q1, q2, q3, q4⟩, q⟩ := q1
  subst e
  cases r1 with
  | cons r rr =>
    cases rr with
    | cons r' rr =>
      cases rr
      obtain ⟨t, rfl⟩ := r
      obtain ⟨t', rfl⟩ := r'
      exact call_range_2 (range_it I1 q1 q2 q3 q4 q)

def tFor (wi : TI) (g : TG) (tb : TS) : TS := fun D σ H => wi σ H fun J H1 => ∃ W : Nat → Nat → St → Hp → Prop, (∃ m, W 0 m σ H1) ∧ ∀ i m σ H, W i m σ H →
  (J.stop i H ∧ D.nx σ H) ∨ (J.go i H ∧ ∃ N : St → Hp → Prop, (∀ σ' H', N σ' H' → ∃ m', m' < m ∧ W (i + 1) m' σ' H') ∧ ∀ x H', J.yld i H x H' → g x σ H' fun σ2 H2 => tb { D with nx := N, ct := N, bk := D.nx } σ2 H2)
def pinsAt (fp : List Addr) (h : Heap) : List (Addr × Obj) := fp.filterMap fun b => (h.get? b).map fun o => (b, o)
theorem mem_pinsAt {fp : List Addr} {h : Heap} {b : Addr} {o : Obj} (hb : b ∈ fp) (e : h.get? b = some o) : (b, o) ∈ pinsAt fp h := List.mem_filterMap.mpr ⟨b, hb, by rw [e]; rfl⟩
theorem of_pinsAt {fp : List Addr} {h : Heap} {p : Addr × Obj} (hp : p ∈ pinsAt fp h) : p.1 ∈ fp ∧ h.get? p.1 = some p.2 := by
  obtain ⟨b, hb, e⟩ := List.mem_filterMap.mp hp
  cases q : h.get? b with
  | none => rw [q] at e; cases e
  | some o =>
    rw [q] at e
    have e' : (b, o) = p := Option.some.inj e
    subst e'
    exact ⟨hb, q⟩
theorem Inv.pinned {pins : List (Addr × Obj)} {σ : St} {H : Hp} {s : Shared} {fp : List Addr} (I : Inv X pins σ H s) (hf : ∀ b ∈ fp, FpOk X pins H b) (ho : ∀ b ∈ fp, ∃ o, s.heap.get? b = some o ∧ ∀ v, o.data ≠ .cell v) : Inv X (pins ++ pinsAt fp s.heap) σ H s :=
  I.pins_of fun p hp => (List.mem_append.mp hp).elim (fun z => I.pin p (List.mem_append_right _ z)) fun z => by
    obtain ⟨hb, e⟩ := of_pinsAt z
    obtain ⟨f0, f1, f2, _⟩ := hf p.1 hb
    obtain ⟨o, e', d⟩ := ho p.1 hb
    rw [e] at e'; cases e'
    exact ⟨e, f0, f1, f2, d⟩
theorem Inv.unpinned {pins pl : List (Addr × Obj)} {σ : St} {H : Hp} {s : Shared} (I : Inv X (pins ++ pl) σ H s) : Inv X pins σ H s := I.pins_of fun p hp => I.pin p (List.mem_append_right _ (List.mem_append_left _ hp))
theorem ps_for {iter : Expr} {body : List Stmt} {wi : TI} {g : TG} {tb : TS} {pos : Pos} (hp : PassesOwn (model X.prog X.w) X.A X.env X.xe) (hc : X.calm = true) (hi : PI X tg iter wi) (hg : PG X tg g) (hb : PSs X body tb)
    (hs : ∀ x, foldedSetIterable iter X.env x = pure x := by intro _; rfl) : PS X (.For tg iter body [] pos) (tFor wi g tb) := by
  intro pins s σ H D I h
  refine wpAny_For (thn (hi pins s σ H _ I h) fun v s1 h1 => thn h1 fun itv s2 h2 => ?_) hs
  obtain ⟨it, fp, tn, J, H2, e, I2, T, st2, f2, W, ⟨m0, w0⟩, turn⟩ := h2
  subst e
  -- what stays true of the iterator's objects through the loop
  have stat : ∀ {H' : Hp}, (∀ b ∈ fp, H' b = none) → ∀ b ∈ fp, FpOk X pins H' b := fun hn b hb => ⟨hn b hb, (f2 b hb).2⟩
  refine codeAny_forLoop_any (fun n s' => ∃ i σ' H', Inv X pins σ' H' s' ∧ tn i s'.heap ∧ (∀ b ∈ fp, H' b = none) ∧ W i n σ' H') ?_ m0 ⟨0, σ, H2, I2, st2, fun b hb => (f2 b hb).1, w0⟩
  rintro n s3 ⟨i, σ3, H3, I3, st3, fr3, w3⟩
  rcases turn i n σ3 H3 w3 with ⟨stop, qn⟩ | ⟨go, N, hN, step⟩
  · refine wpAny_passesOwn hp (thn (T.done X rfl rfl rfl hc i pins s3 σ3 H3 X.xe I3 (stat fr3) st3 stop) fun r s4 ⟨hr, I4⟩ => ?_)
    subst hr
    exact wpAny_execs_nil ⟨σ3, H3, I4, qn⟩
  · refine wpAny_passesOwn hp (thn (T.item X rfl rfl rfl hc i pins s3 σ3 H3 X.xe I3 (stat fr3) st3 go) fun r s4 ⟨u, hr, h4⟩ => ?_)
    subst hr
    refine wpAny_passesOwn hp (thn h4 fun _ s5 ⟨x, H5, I5, r5, y5, st5, fr5⟩ => ?_)
    have I5' := I5.pinned (stat fr5) (T.obj _ _ st5)
    refine wpAny_passesOwn hp (thn (hg _ s5 σ3 H5 x u _ I5' r5 (step x H5 y5)) fun _ s6 ⟨σ6, H6, I6, q6⟩ => ?_)
    refine wpAny_passesOwn hp (thn (hb _ s6 σ6 H6 _ I6 q6) fun f s7 q7 => ?_)
    have again : ∀ {σ7 : St} {H7 : Hp}, Inv X (pins ++ pinsAt fp s5.heap) σ7 H7 s7 → N σ7 H7 → ∃ m, m < n ∧ ∃ i σ' H', Inv X pins σ' H' s7 ∧ tn i s7.heap ∧ (∀ b ∈ fp, H' b = none) ∧ W i m σ' H' := fun {σ7 H7} I7 n7 => by
      obtain ⟨m', hm, w7⟩ := hN σ7 H7 n7
      refine ⟨m', hm, i + 1, σ7, H7, I7.unpinned, T.keep _ _ _ st5 fun b hb o e => (I7.pin (b, o) (List.mem_append_right _ (List.mem_append_right _ (mem_pinsAt hb e)))).1, fun b hb => ?_, w7⟩
      obtain ⟨o, e, d⟩ := T.obj _ _ st5 b hb
      exact (I7.pin (b, o) (List.mem_append_right _ (List.mem_append_right _ (mem_pinsAt hb e)))).2.1
    cases f with
    | next => obtain ⟨σ7, H7, I7, n7⟩ := q7; exact again I7 n7
    | cont => obtain ⟨σ7, H7, I7, n7⟩ := q7; exact again I7 n7
    | brk => obtain ⟨σ7, H7, I7, q7⟩ := q7; exact ⟨σ7, H7, I7.unpinned, q7⟩
    | ret v => obtain ⟨x7, σ7, H7, I7, r7, q7⟩ := q7; exact ⟨x7, σ7, H7, I7.unpinned, r7, q7⟩
end

theorem for_list {K : PySem.W.Frag} {a : Addr} {xs : List V} {g : TG} {tb : TS} {D : Ends} {σ : St} {H : Hp} (Pv : Nat → St → Hp → Prop) (h0 : Pv 0 σ H) (hl : ∀ i σ H, i ≤ xs.length → Pv i σ H → SqL K H a xs)
    (hs : ∀ i x σ H, xs[i]? = some x → Pv i σ H → g x σ H fun σ2 H2 => tb { D with nx := Pv (i + 1), ct := Pv (i + 1), bk := D.nx } σ2 H2) (hd : ∀ σ H, Pv xs.length σ H → D.nx σ H) :
    ∃ W : Nat → Nat → St → Hp → Prop, (∃ m, W 0 m σ H) ∧ ∀ i m σ H, W i m σ H →
      ((Itl K a).stop i H ∧ D.nx σ H) ∨ ((Itl K a).go i H ∧ ∃ N : St → Hp → Prop, (∀ σ' H', N σ' H' → ∃ m', m' < m ∧ W (i + 1) m' σ' H') ∧ ∀ x H', (Itl K a).yld i H x H' → g x σ H' fun σ2 H2 => tb { D with nx := N, ct := N, bk := D.nx } σ2 H2) := by
  refine ⟨fun i m σ H => m = xs.length - i ∧ i ≤ xs.length ∧ Pv i σ H, ⟨xs.length, by simp, Nat.zero_le _, h0⟩, ?_⟩
  rintro i m σ H ⟨rfl, hi, p⟩
  have q := hl i σ H hi p
  by_cases hlt : i < xs.length
  · refine .inr ⟨⟨xs, xs[i], q, by simp [hlt]⟩, Pv (i + 1), fun σ' H' p' => ⟨xs.length - (i + 1), by omega, rfl, hlt, p'⟩, fun x H' y => ?_⟩
    obtain ⟨e, y⟩ := y
    subst e
    exact hs i x σ _ (y xs q) p
  · have e : i = xs.length := by omega
    subst e
    exact .inl ⟨⟨xs, q, Nat.le_refl _⟩, hd σ H p⟩
theorem for_range {lo : Int} {n : Nat} {g : TG} {tb : TS} {D : Ends} {σ : St} {H : Hp} (Pv : Nat → St → Hp → Prop) (h0 : Pv 0 σ H)
    (hs : ∀ i σ H, i < n → Pv i σ H → g (.int (lo + i)) σ H fun σ2 H2 => tb { D with nx := Pv (i + 1), ct := Pv (i + 1), bk := D.nx } σ2 H2) (hd : ∀ σ H, Pv n σ H → D.nx σ H) :
    ∃ W : Nat → Nat → St → Hp → Prop, (∃ m, W 0 m σ H) ∧ ∀ i m σ H, W i m σ H →
      ((Itr lo n).stop i H ∧ D.nx σ H) ∨ ((Itr lo n).go i H ∧ ∃ N : St → Hp → Prop, (∀ σ' H', N σ' H' → ∃ m', m' < m ∧ W (i + 1) m' σ' H') ∧ ∀ x H', (Itr lo n).yld i H x H' → g x σ H' fun σ2 H2 => tb { D with nx := N, ct := N, bk := D.nx } σ2 H2) := by
  refine ⟨fun i m σ H => m = n - i ∧ i ≤ n ∧ Pv i σ H, ⟨n, by simp, Nat.zero_le _, h0⟩, ?_⟩
  rintro i m σ H ⟨rfl, hi, p⟩
  by_cases hlt : i < n
  · refine .inr ⟨hlt, Pv (i + 1), fun σ' H' p' => ⟨n - (i + 1), by omega, rfl, hlt, p'⟩, fun x H' y => ?_⟩
    obtain ⟨e, y⟩ := y
    subst e y
    exact hs i σ _ hlt p
  · have e : i = n := by omega
    subst e
    exact .inl ⟨Nat.le_refl _, hd σ H p⟩
end L2

namespace L2
open PySem PySem.Spec PyProof.Rows

abbrev R2 := V → V → Hp → VK → Prop
def OpR (X : Cx) (f : Value → Value → Sem Value) (r : R2) : Prop :=
  ∀ (pins : List (Addr × Obj)) (s : Shared) (σ : St) (H : Hp) (x y : V) (v u : Value) (Q : VK), Inv X pins σ H s → RelV x v → RelV y u → r x y H Q →
    wpAny (model X.prog X.w) X.A (f v u) (EP X pins σ Q) X.xe s
def UnR (X : Cx) (f : Value → Sem Value) (r : V → Hp → VK → Prop) : Prop :=
  ∀ (pins : List (Addr × Obj)) (s : Shared) (σ : St) (H : Hp) (x : V) (v : Value) (Q : VK), Inv X pins σ H s → RelV x v → r x H Q →
    wpAny (model X.prog X.w) X.A (f v) (EP X pins σ Q) X.xe s
def CallR (X : Cx) (f : Value) (r : List V → Hp → VK → Prop) : Prop :=
  ∀ (pins : List (Addr × Obj)) (s : Shared) (σ : St) (H : Hp) (xs : List V) (us : List Value) (Q : VK), Inv X pins σ H s → Vals xs us → r xs H Q →
    wpAny (model X.prog X.w) X.A (call f us) (EP X pins σ Q) X.xe s
def tOp (r : R2) (ta tb : TE) : TE := fun σ H Q => ta σ H fun x H1 => tb σ H1 fun y H2 => r x y H2 Q
def tUn (r : V → Hp → VK → Prop) (ta : TE) : TE := fun σ H Q => ta σ H fun x H1 => r x H1 Q
def rI (C : Int → Int → Prop) (g : Int → Int → V) : R2 := fun x y H Q => ∃ i j, x = .int i ∧ y = .int j ∧ C i j ∧ Q (g i j) H
def rI0 (g : Int → Int → V) : R2 := fun x y H Q => ∃ i j, x = .int i ∧ y = .int j ∧ Q (g i j) H
def rU (g : Int → V) : V → Hp → VK → Prop := fun x H Q => ∃ i, x = .int i ∧ Q (g i) H

section
variable {X : Cx} {a b c : Expr} {ta tb tc : TE} {pos : Pos}

theorem binT (ha : PE X a ta) (hb : PE X b tb) {pins : List (Addr × Obj)} {s : Shared} {σ : St} {H : Hp} {R : V → V → Hp → Prop} (I : Inv X pins σ H s)
    (h : ta σ H fun x H1 => tb σ H1 fun y H2 => R x y H2) {Q : Value → Shared → Prop} {f : Value → Value → Sem Value}
    (hf : ∀ v u s2 x y H2, Inv X pins σ H2 s2 → RelV x v → RelV y u → R x y H2 → wpAny (model X.prog X.w) X.A (f v u) Q X.xe s2) :
    wpAny (model X.prog X.w) X.A (eval a X.env) (fun v s₁ => wpAny (model X.prog X.w) X.A (eval b X.env) (fun u s₂ => wpAny (model X.prog X.w) X.A (f v u) Q X.xe s₂) X.xe s₁) X.xe s := by
  refine thn (ha pins s σ H _ I h) fun v s1 ⟨x, H1, I1, r1, q1⟩ => ?_
  refine thn (hb pins s1 σ H1 _ I1 q1) fun u s2 ⟨y, H2, I2, r2, q2⟩ => ?_
  exact hf v u s2 x y H2 I2 r1 r2 q2

theorem pe_op {op : Operator} {r : R2} (ho : OpR X (binaryOp op) r) (ha : PE X a ta) (hb : PE X b tb) : PE X (.BinOp a op b pos) (tOp r ta tb) := by
  intro pins s σ H Q I h
  exact wpAny_BinOp (binT ha hb I h fun v u s2 x y H2 I2 rx ry q => ho pins s2 σ H2 x y v u Q I2 rx ry q)
theorem pe_un {op : UnaryOp} {r : V → Hp → VK → Prop} (ho : UnR X (unaryOp op) r) (ha : PE X a ta) : PE X (.UnaryOp op a pos) (tUn r ta) := by
  intro pins s σ H Q I h
  exact UnaryOp_ (thn (ha pins s σ H _ I h) fun v s1 ⟨x, H1, I1, r1, q1⟩ => ho pins s1 σ H1 x v Q I1 r1 q1)
theorem opI {f : Value → Value → Sem Value} {C : Int → Int → Prop} {g : Int → Int → Int}
    (rule : ∀ (i j : Int) (t u : Tok) (s : Shared) (Q : Value → Shared → Prop) (E : Value → Shared → Prop), C i j → Q (.int (g i j) s.toks) { s with toks := s.toks + 1 } → wpAny (model X.prog X.w) X.A (f (.int i t) (.int j u)) Q E s) :
    OpR X f (rI C fun i j => .int (g i j)) := by
  intro pins s σ H x y v u Q I rx ry h
  obtain ⟨i, j, rfl, rfl, hc, q⟩ := h
  obtain ⟨t, rfl⟩ := rx
  obtain ⟨t', rfl⟩ := ry
  exact rule i j t t' s _ _ hc ⟨.int (g i j), H, I.tok _, ⟨_, rfl⟩, q⟩
theorem opI0 {f : Value → Value → Sem Value} {g : Int → Int → Int}
    (rule : ∀ (i j : Int) (t u : Tok) (s : Shared) (Q : Value → Shared → Prop) (E : Value → Shared → Prop), Q (.int (g i j) s.toks) { s with toks := s.toks + 1 } → wpAny (model X.prog X.w) X.A (f (.int i t) (.int j u)) Q E s) :
    OpR X f (rI0 fun i j => .int (g i j)) := by
  intro pins s σ H x y v u Q I rx ry h
  obtain ⟨i, j, rfl, rfl, q⟩ := h
  obtain ⟨t, rfl⟩ := rx
  obtain ⟨t', rfl⟩ := ry
  exact rule i j t t' s _ _ ⟨.int (g i j), H, I.tok _, ⟨_, rfl⟩, q⟩
theorem opB0 {f : Value → Value → Sem Value} {g : Int → Int → Bool}
    (rule : ∀ (i j : Int) (t u : Tok) (s : Shared) (Q : Value → Shared → Prop) (E : Value → Shared → Prop), Q (.bool (g i j)) s → wpAny (model X.prog X.w) X.A (f (.int i t) (.int j u)) Q E s) :
    OpR X f (rI0 fun i j => .bl (g i j)) := by
  intro pins s σ H x y v u Q I rx ry h
  obtain ⟨i, j, rfl, rfl, q⟩ := h
  obtain ⟨t, rfl⟩ := rx
  obtain ⟨t', rfl⟩ := ry
  exact rule i j t t' s _ _ ⟨.bl (g i j), H, I, rfl, q⟩

def CDiv (i j : Int) : Prop := 0 < j ∧ j < 1073741824
def CMul (i j : Int) : Prop := (-(2 ^ 64) < i ∧ i < 2 ^ 64) ∨ (-(2 ^ 64) < j ∧ j < 2 ^ 64)
theorem CMul.ok {i j : Int} (h : CMul i j) : IntMulOk i j := by
  rcases h with ⟨h1, h2⟩ | ⟨h1, h2⟩
  · exact .of_left (intBits_le_64 h1 h2)
  · exact .of_right (intBits_le_64 h1 h2)
theorem op_add : OpR X (binaryOp .Add) (rI0 fun i j => .int (i + j)) := opI0 fun _ _ _ _ _ _ _ q => add_int q
theorem op_sub : OpR X (binaryOp .Sub) (rI0 fun i j => .int (i - j)) := opI0 fun _ _ _ _ _ _ _ q => sub_int q
theorem op_mul : OpR X (binaryOp .Mult) (rI CMul fun i j => .int (i * j)) := opI fun _ _ _ _ _ _ _ hc q => mul_int q hc.ok
theorem op_fdiv : OpR X (binaryOp .FloorDiv) (rI CDiv fun i j => .int (i / j)) := opI fun i j _ _ _ _ _ hc q => by
  have h1 : (0 : Int) < j := hc.1
  have h2 : j < 1073741824 := hc.2
  exact floordiv_int (by omega) (by rw [Int.fdiv_eq_ediv_of_nonneg i (by omega)]; exact q) (.inl (PyProof.noPylong_small (by omega)))
theorem op_mod : OpR X (binaryOp .Mod) (rI (fun _ j => 0 < j) fun i j => .int (i % j)) := opI fun i j _ _ _ _ _ hc q => by
  have h1 : (0 : Int) < j := hc
  exact mod_int' (by omega) (by rw [Int.fmod_eq_emod_of_nonneg i (by omega)]; exact q)
theorem unI {f : Value → Sem Value} {g : Int → Int}
    (rule : ∀ (i : Int) (t : Tok) (s : Shared) (Q : Value → Shared → Prop) (E : Value → Shared → Prop), Q (.int (g i) s.toks) { s with toks := s.toks + 1 } → wpAny (model X.prog X.w) X.A (f (.int i t)) Q E s) :
    UnR X f (rU fun i => .int (g i)) := by
  intro pins s σ H x v Q I rx h
  obtain ⟨i, rfl, q⟩ := h
  obtain ⟨t, rfl⟩ := rx
  exact rule i t s _ _ ⟨.int (g i), H, I.tok _, ⟨_, rfl⟩, q⟩
theorem un_neg : UnR X (unaryOp .USub) (rU fun i => .int (-i)) := unI fun _ _ _ _ _ q => neg_int q
end

def scal : V → V → Bool
  | .non, .non => true | .non, .int _ => true | .int _, .non => true | .non, .bl _ => true | .bl _, .non => true | .non, .str _ => true | .str _, .non => true
  | .int _, .int _ => true | .bl _, .bl _ => true | .str _, .str _ => true | .byt _, .byt _ => true
  | .int _, .str _ => true | .str _, .int _ => true | .bl _, .str _ => true | .str _, .bl _ => true
  | _, _ => false
def rEq : R2 := fun x y H Q => scal x y = true ∧ Q (.bl (decide (x = y))) H
def rNe : R2 := fun x y H Q => scal x y = true ∧ Q (.bl (!decide (x = y))) H

theorem dec_int {i j : Int} : decide (V.int i = V.int j) = (i == j) := by
  rw [Bool.eq_iff_iff]
  simp
theorem dec_bl {i j : Bool} : decide (V.bl i = V.bl j) = (i == j) := by
  rw [Bool.eq_iff_iff]
  simp
theorem dec_str {i j : Str} : decide (V.str i = V.str j) = (i == j) := by
  rw [Bool.eq_iff_iff]
  simp
theorem dec_byt {i j : Array UInt8} : decide (V.byt i = V.byt j) = (i.toList == j.toList) := by
  rw [Bool.eq_iff_iff]
  cases i
  cases j
  simp

section
variable {X : Cx} {a b c : Expr} {ta tb tc : TE} {pos : Pos}
theorem fin_bl {pins : List (Addr × Obj)} {σ : St} {H : Hp} {s : Shared} {Q : VK} {k k' : Bool} (I : Inv X pins σ H s) (q : Q (.bl k) H) (e : k = k') : EP X pins σ Q (.bool k') s := by
  subst e
  exact ⟨.bl k, H, I, rfl, q⟩
theorem op_eq : OpR X (compareOp .Eq) rEq := by
  intro pins s σ H x y v u Q I rx ry h
  obtain ⟨hs, q⟩ := h
  cases x with
  | non =>
    cases rx
    cases y with
    | non => cases ry; exact PySem.EqNone.eq_none_none (fin_bl I q (by simp))
    | bl j => cases ry; exact PySem.EqNone.eq_none_bool (fin_bl I q (by simp))
    | int j => obtain ⟨t', rfl⟩ := ry; exact PySem.EqNone.eq_none_int (fin_bl I q (by simp))
    | str j => obtain ⟨t', rfl⟩ := ry; exact PySem.EqNone.eq_none_str (fin_bl I q (by simp))
    | _ => exact absurd (show false = true from hs) Bool.false_ne_true
  | bl i =>
    cases rx
    cases y with
    | non => cases ry; exact PySem.EqNone.eq_bool_none (fin_bl I q (by simp))
    | bl j => cases ry; exact eq_bool (fin_bl I q dec_bl)
    | str j => obtain ⟨t', rfl⟩ := ry; exact PySem.EqMixed.eq_bool_str (fin_bl I q (by simp))
    | _ => exact absurd (show false = true from hs) Bool.false_ne_true
  | int i =>
    obtain ⟨t, rfl⟩ := rx
    cases y with
    | non => cases ry; exact PySem.EqNone.eq_int_none (fin_bl I q (by simp))
    | int j => obtain ⟨t', rfl⟩ := ry; exact eq_int (fin_bl I q dec_int)
    | str j => obtain ⟨t', rfl⟩ := ry; exact PySem.EqMixed.eq_int_str (fin_bl I q (by simp))
    | _ => exact absurd (show false = true from hs) Bool.false_ne_true
  | str i =>
    obtain ⟨t, rfl⟩ := rx
    cases y with
    | non => cases ry; exact PySem.EqNone.eq_str_none (fin_bl I q (by simp))
    | bl j => cases ry; exact PySem.EqMixed.eq_str_bool (fin_bl I q (by simp))
    | int j => obtain ⟨t', rfl⟩ := ry; exact PySem.EqMixed.eq_str_int (fin_bl I q (by simp))
    | str j => obtain ⟨t', rfl⟩ := ry; exact eq_str (fin_bl I q dec_str)
    | _ => exact absurd (show false = true from hs) Bool.false_ne_true
  | byt i =>
    obtain ⟨t, rfl⟩ := rx
    cases y with
    | byt j => obtain ⟨t', rfl⟩ := ry; exact PySem.W.eq_bytes (fin_bl I q dec_byt)
    | _ => exact absurd (show false = true from hs) Bool.false_ne_true
  | _ => cases y <;> exact absurd (show false = true from hs) Bool.false_ne_true
theorem op_ne : OpR X (compareOp .NotEq) rNe := by
  intro pins s σ H x y v u Q I rx ry h
  obtain ⟨hs, q⟩ := h
  cases x with
  | non =>
    cases rx
    cases y with
    | non => cases ry; exact PySem.EqNone.ne_none_none (fin_bl I q (by simp))
    | bl j => cases ry; exact PySem.EqNone.ne_none_bool (fin_bl I q (by simp))
    | int j => obtain ⟨t', rfl⟩ := ry; exact PySem.EqNone.ne_none_int (fin_bl I q (by simp))
    | str j => obtain ⟨t', rfl⟩ := ry; exact PySem.EqNone.ne_none_str (fin_bl I q (by simp))
    | _ => exact absurd (show false = true from hs) Bool.false_ne_true
  | bl i =>
    cases rx
    cases y with
    | non => cases ry; exact PySem.EqNone.ne_bool_none (fin_bl I q (by simp))
    | bl j => cases ry; exact ne_bool (fin_bl I q (congrArg not dec_bl))
    | str j => obtain ⟨t', rfl⟩ := ry; exact PySem.EqMixed.ne_bool_str (fin_bl I q (by simp))
    | _ => exact absurd (show false = true from hs) Bool.false_ne_true
  | int i =>
    obtain ⟨t, rfl⟩ := rx
    cases y with
    | non => cases ry; exact PySem.EqNone.ne_int_none (fin_bl I q (by simp))
    | int j => obtain ⟨t', rfl⟩ := ry; exact ne_int (fin_bl I q (congrArg not dec_int))
    | str j => obtain ⟨t', rfl⟩ := ry; exact PySem.EqMixed.ne_int_str (fin_bl I q (by simp))
    | _ => exact absurd (show false = true from hs) Bool.false_ne_true
  | str i =>
    obtain ⟨t, rfl⟩ := rx
    cases y with
    | non => cases ry; exact PySem.EqNone.ne_str_none (fin_bl I q (by simp))
    | bl j => cases ry; exact PySem.EqMixed.ne_str_bool (fin_bl I q (by simp))
    | int j => obtain ⟨t', rfl⟩ := ry; exact PySem.EqMixed.ne_str_int (fin_bl I q (by simp))
    | str j => obtain ⟨t', rfl⟩ := ry; exact ne_str (fin_bl I q (congrArg not dec_str))
    | _ => exact absurd (show false = true from hs) Bool.false_ne_true
  | byt i =>
    obtain ⟨t, rfl⟩ := rx
    cases y with
    | byt j => obtain ⟨t', rfl⟩ := ry; exact PySem.W.ne_bytes (fin_bl I q (congrArg not dec_byt))
    | _ => exact absurd (show false = true from hs) Bool.false_ne_true
  | _ => cases y <;> exact absurd (show false = true from hs) Bool.false_ne_true

theorem op_lt : OpR X (compareOp .Lt) (rI0 fun i j => .bl (decide (i < j))) := opB0 fun _ _ _ _ _ _ _ q => lt_int q
theorem op_le : OpR X (compareOp .LtE) (rI0 fun i j => .bl (decide (i ≤ j))) := opB0 fun _ _ _ _ _ _ _ q => le_int q
theorem op_gt : OpR X (compareOp .Gt) (rI0 fun i j => .bl (decide (j < i))) := opB0 fun _ _ _ _ _ _ _ q => gt_int q
theorem op_ge : OpR X (compareOp .GtE) (rI0 fun i j => .bl (decide (j ≤ i))) := opB0 fun _ _ _ _ _ _ _ q => ge_int q
theorem nomark (b : Expr) {op : CmpOp} (h : op ≠ .In := by decide) (h2 : op ≠ .NotIn := by decide) : behindInMarks op b = false := by
  have e1 : (op == CmpOp.In) = false := by cases op <;> first | rfl | exact absurd rfl h
  have e2 : (op == CmpOp.NotIn) = false := by cases op <;> first | rfl | exact absurd rfl h2
  cases b <;> simp [behindInMarks, e1, e2]
theorem pe_cmpR {op : CmpOp} {r : R2} (ho : OpR X (compareOp op) r) (ha : PE X a ta) (hb : PE X b tb) (hm : behindInMarks op b = false) : PE X (.Compare a [op] [b] pos) (tOp r ta tb) := by
  intro pins s σ H Q I h
  exact wpAny_Compare1 (binT ha hb I h fun v u s2 x y H2 I2 rx ry q => ho pins s2 σ H2 x y v u Q I2 rx ry q) hm
def tTest (t : TE) : TT := fun σ H Q => t σ H fun x H' => ∃ k, x = .bl k ∧ Q k H'
theorem pt_cmpR {op : CmpOp} {r : R2} (ho : OpR X (compareOp op) r) (ha : PE X a ta) (hb : PE X b tb) (hm : behindInMarks op b = false) : PT X (.Compare a [op] [b] pos) (tTest (tOp r ta tb)) := by
  intro pins s σ H Q I h
  refine wpAny_isTrue_Compare1 (thn (ha pins s σ H _ I h) fun v s1 ⟨x, H1, I1, r1, q1⟩ => thn (hb pins s1 σ H1 _ I1 q1) fun u s2 ⟨y, H2, I2, r2, q2⟩ =>
    thn (ho pins s2 σ H2 x y v u _ I2 r1 r2 q2) fun c s3 ⟨z, H3, I3, r3, k, e, q3⟩ => ?_) hm
  subst e
  cases r3
  exact wpAny_truthy_bool ⟨H3, I3, q3⟩
def tChain (r r' : R2) (ta tb tc : TE) : TE := fun σ H Q => ta σ H fun x H1 => tb σ H1 fun y H2 => r x y H2 fun z H3 => ∃ k, z = .bl k ∧
  (if k = true then tc σ H3 fun w' H4 => r' y w' H4 Q else Q (.bl false) H3)
theorem pt_chain {op op' : CmpOp} {r r' : R2} (ho : OpR X (compareOp op) r) (ho' : OpR X (compareOp op') r') (ha : PE X a ta) (hb : PE X b tb) (hc : PE X c tc)
    (hm : lastMarks [op, op'] [b, c] = false := by with_unfolding_all rfl) : PT X (.Compare a [op, op'] [b, c] pos) (tTest (tChain r r' ta tb tc)) := by
  intro pins s σ H Q I h
  refine isTrue_chain (thn (ha pins s σ H _ I h) fun v s1 ⟨x, H1, I1, r1, q1⟩ => test_link (thn (hb pins s1 σ H1 _ I1 q1) fun u s2 ⟨y, H2, I2, r2, q2⟩ =>
    thn (ho pins s2 σ H2 x y v u _ I2 r1 r2 q2) fun d s3 ⟨z, H3, I3, r3, k, e, q3⟩ => ?_)) hm
  subst e
  cases r3
  refine wpAny_truthy_bool ?_
  cases k with
  | false =>
    obtain ⟨k', e', q'⟩ := q3
    cases e'
    exact ite_ff ⟨H3, I3, q'⟩
  | true =>
    refine ite_tt (test_last (thn (hc pins s3 σ H3 _ I3 q3) fun w' s4 ⟨z', H4, I4, r4, q4⟩ => thn (ho' pins s4 σ H4 y z' u w' _ I4 r2 r4 q4) fun d' s5 ⟨z2, H5, I5, r5, k2, e2, q5⟩ => ?_))
    subst e2
    cases r5
    exact wpAny_truthy_bool ⟨H5, I5, q5⟩

theorem line63 : (sizeLine : Nat) < 2 ^ 63 := by rw [sizeLine_eq]; decide
theorem op_add_str : OpR X (binaryOp .Add) (fun x y H Q => ∃ i j, x = .str i ∧ y = .str j ∧ i.length + j.length ≤ sizeLine ∧ Q (.str (i ++ j)) H) := by
  intro pins s σ H x y v u Q I rx ry h
  obtain ⟨i, j, rfl, rfl, hz, q⟩ := h
  obtain ⟨t, rfl⟩ := rx
  obtain ⟨t', rfl⟩ := ry
  exact add_str (fun t' tk => ⟨.str (i ++ j), H, I.tok _, ⟨_, rfl⟩, q⟩) hz
theorem vals1 {x : V} {us : List Value} (r : Vals [x] us) : ∃ u, us = [u] ∧ RelV x u := by
  cases r with
  | cons r1 r2 => cases r2; exact ⟨_, rfl, r1⟩
theorem vals2 {x y : V} {us : List Value} (r : Vals [x, y] us) : ∃ u w', us = [u, w'] ∧ RelV x u ∧ RelV y w' := by
  cases r with
  | cons r1 r2 =>
    cases r2 with
    | cons r3 r4 => cases r4; exact ⟨_, _, rfl, r1, r3⟩
theorem call_abs : CallR X (.builtin "abs") (fun xs H Q => ∃ i, xs = [.int i] ∧ Q (.int (if i < 0 then -i else i)) H) := by
  intro pins s σ H xs us Q I r h
  obtain ⟨i, rfl, q⟩ := h
  obtain ⟨u, rfl, t, rfl⟩ := vals1 r
  exact call_abs_int fun u tk => ⟨.int (if i < 0 then -i else i), H, I.tok _, ⟨_, rfl⟩, q⟩
theorem call_min2 (hc : X.calm = true) : CallR X (.builtin "min") (fun xs H Q => ∃ i j, xs = [.int i, .int j] ∧ Q (.int (if j < i then j else i)) H) := by
  intro pins s σ H xs us Q I r h
  obtain ⟨i, j, rfl, q⟩ := h
  obtain ⟨u, w', rfl, ⟨t, rfl⟩, ⟨t', rfl⟩⟩ := vals2 r
  refine min_two_ints (I.ok.hd hc) fun h' tk k => ⟨_, H, I.kept k, ?_, q⟩
  by_cases hj : j < i
  · rw [if_pos hj, if_pos hj]; exact ⟨_, rfl⟩
  · rw [if_neg hj, if_neg hj]; exact ⟨_, rfl⟩
theorem call_int1 : CallR X (.type "int") (fun xs H Q => (∃ i, xs = [.int i] ∧ Q (.int i) H) ∨ ∃ k, xs = [.bl k] ∧ Q (.int (if k then 1 else 0)) H) := by
  intro pins s σ H xs us Q I r h
  rcases h with ⟨i, rfl, q⟩ | ⟨k, rfl, q⟩
  · obtain ⟨u, rfl, t, rfl⟩ := vals1 r
    exact call_int_int ⟨.int i, H, I, ⟨_, rfl⟩, q⟩
  · obtain ⟨u, rfl, r1⟩ := vals1 r
    cases r1
    exact call_int_bool ⟨.int (if k then 1 else 0), H, I.tok _, ⟨_, rfl⟩, q⟩
end
end L2

namespace L2
open PySem PySem.Spec PyProof.Rows

structure ObjM (h : Heap) (x dx C : Addr) (mA : Str → Option Value) : Prop where
  obj : h.get? x = some (PySem.W.instObj C dx)
  ns : h.Ns1 dx mA
  ne : dx ≠ x

theorem lookIn_ns {h : Heap} {dx : Addr} {mA : Str → Option Value} (n : h.Ns1 dx mA) : ∃ od, h.get? dx = some od ∧ ∀ name, PySem.W.lookIn name od = some (mA name) := by
  obtain ⟨o, es, ep, ho, hd, hk, _, hm⟩ := n
  refine ⟨o, ho, fun name => ?_⟩
  have e := hm name
  unfold nsFind findBy at e
  rw [← Array.find?_toList] at e
  unfold PySem.W.lookIn
  rw [hd]
  dsimp only
  split
  · rename_i y q
    rw [q] at e
    exact congrArg some e
  · rename_i q
    rw [q] at e
    have a : es.toList.any (·.refKey) = false := by
      rw [List.any_eq_false]
      intro y hy
      obtain ⟨z, t, hkey⟩ := hk y (Array.mem_toList_iff.mp hy)
      simp [DictEntry.refKey, hkey]
    have a' : ¬ es.toList.any (·.refKey) = true := by rw [a]; exact Bool.false_ne_true
    rw [if_neg a']
    exact congrArg some e

theorem ObjM.look {h : Heap} {x dx C : Addr} {mA : Str → Option Value} (I : ObjM h x dx C mA) : ∃ od, PySem.W.InstAt h x (PySem.W.instObj C dx) C (some od) ∧ ∀ name, PySem.W.lookIn name od = some (mA name) :=
  let ⟨od, ho, hl⟩ := lookIn_ns I.ns
  ⟨od, ⟨I.obj, rfl, rfl, ho⟩, hl⟩

section
variable {prog : Program} {w : World} {A : Around} {E : Value → Shared → Prop} {s : Shared} {K : PySem.W.Frag} {x dx C f : Addr} {mA : Str → Option Value} {name : Str} {v : Value}

theorem get_map {expr : Bool} {Q : Value → Shared → Prop} (X : K.In s.heap) (I : ObjM s.heap x dx C mA) (hg : PySem.W.plainGet K C name = true) (hh : PySem.W.hasDictIn K C = true)
    (ha : PySem.W.findIn K (.ref C) name = some none) (hv : mA name = some v) (hv' : PySem.W.handedIn v = true) (h : Q v { s with toks := s.toks + 1 }) :
    wpAny (model prog w) A (getAttr (.ref x) name expr) Q E s := by
  obtain ⟨od, J, hl⟩ := I.look
  exact PySem.W.get_value X J (PySem.W.plainGet_of hg).1 (PySem.W.findObj_own hh ha rfl (by rw [hl, hv])) hv' h

theorem get_meth {pl : Sem Bool} {Q : Value × List Value → Shared → Prop} (X : K.In s.heap) (I : ObjM s.heap x dx C mA) (hg : PySem.W.plainGet K C name = true)
    (hf : PySem.W.findIn K (.ref C) name = some (some (.ref f))) (ht : PySem.W.isFn K (.ref f) = true) (hv : mA name = none) (h : Q (.ref f, [.ref x]) s) :
    wpAny (model prog w) A (getMethod (.ref x) name pl) Q E s := by
  obtain ⟨od, J, hl⟩ := I.look
  exact PySem.W.method_fn X J (PySem.W.plainGet_of hg).1 (PySem.W.plainGet_of hg).2 hf (beq_iff_eq.mp ht) (by show (PySem.W.lookIn name od).map (·.isSome) = some false; rw [hl, hv]; rfl) h

theorem set_map {ns : List Str} {Q : Unit → Shared → Prop} (X : K.In s.heap) (I : ObjM s.heap x dx C mA)
    (hs : PySem.W.findIn K (.ref C) "__setattr__" = some (some (.builtin "object.__setattr__"))) (hp : PySem.W.plainOver K C = true) (ht : PySem.W.takerIn K C name = some none) (hh : PySem.W.hasDictIn K C = true)
    (hw : PySem.Within mA ns) (hsz : ns.length ≤ sizeLine)
    (h : ∀ h', ObjM h' x dx C (fun y => if y = name then some v else mA y) → Heap.SameBut dx s.heap h' → Q () { s with heap := h', toks := s.toks + 2 }) :
    wpAny (model prog w) A (setAttr (.ref x) name v) Q E s := by
  obtain ⟨od, J, hl⟩ := I.look
  refine PySem.W.set_plain X J hs (PySem.W.osa_open (s := { s with toks := s.toks + 1 }) (r := none) X J hp ht fun b => ?_)
  obtain ⟨cd, hc, hd'⟩ := PySem.W.any_some hh
  have hx : s.heap.get? x = some ⟨.ref C, some dx, .plain, #[]⟩ := I.obj
  refine wpAny_bind (wpAny_pure (wpAny_bind (wpAny_bind (wpAny_loadPart hx (wpAny_bind (PySem.W.Looks.here (s := { s with toks := s.toks + 1 }) (PySem.W.looks_clsIn X hc) ?_))))))
  rw [hd']
  refine wpAny_pure (a := some dx) (wpAny_bind (wpAny_pure (wpAny_bind ?_)))
  refine wpAny_nsSet1 (s := { s with toks := s.toks + 1 }) I.ns fun h' hn2 hs2 => ?_
  obtain ⟨oD, esD, epD, hoD, hdD, hcD⟩ := hn2.count (PySem.Within.cons name v hw)
  refine wpAny_bind (wpAny_lookBehind hoD (by rw [hdD]; exact pastItsLine_dict (Nat.le_trans hcD (by rw [List.length_cons]; omega))) ?_)
  exact wpAny_pure (h _ ⟨(hs2.2 _ (Ne.symm I.ne)).trans I.obj, hn2, I.ne⟩ hs2)

theorem make_map {R : Result → Shared → Prop} {vs : List Value} {kw : List (Str × Value)} (X : K.In s.heap) (hm : PySem.W.makesIn K C = true)
    (hi : PySem.W.findIn K (.ref C) "__init__" = some (some (.ref f))) (hf : PySem.W.typeIn K (.ref f) = some (.type "function"))
    (h : codeAny (model prog w) (A.under (.builtin "type.__call__" ⟨.ref C :: vs, kw⟩)) (.call (.ref f) ⟨.ref (s.heap.objs.size + 1) :: vs, kw⟩) (PySem.W.InitBack (s.heap.objs.size + 1) R)
      { s with heap := (s.heap.push PySem.W.emptyDict).push (PySem.W.instObj C s.heap.objs.size) }) :
    codeAny (model prog w) A (.call (.ref C) ⟨vs, kw⟩) R s := by
  obtain ⟨hh, g, d, t, os⟩ := s
  exact PySem.W.make_core (PySem.W.makes_of X hm) (PySem.W.looks_findIn X hi) (fun self => PySem.W.bind_fn X self hf) (.inl rfl) h
end

def putF (f : Str) (v : V) : List (Str × V) → List (Str × V)
  | [] => [(f, v)]
  | (g, x) :: r => if g = f then (g, v) :: r else (g, x) :: putF f v r
theorem lookup_putF (f g : Str) (v : V) : ∀ fs : List (Str × V), (putF f v fs).lookup g = if g = f then some v else fs.lookup g
  | [] => by
    show List.lookup g [(f, v)] = _
    by_cases h : g = f
    · have hb : (g == f) = true := beq_iff_eq.mpr h
      simp only [List.lookup, hb, if_pos h]
    · have hb : (g == f) = false := beq_eq_false_iff_ne.mpr h
      simp only [List.lookup, hb, if_neg h]
  | (k, x) :: r => by
    have ih := lookup_putF f g v r
    rw [show putF f v ((k, x) :: r) = (if k = f then (k, v) :: r else (k, x) :: putF f v r) from rfl]
    by_cases hk : k = f
    · rw [if_pos hk]
      by_cases h : g = k
      · have hb : (g == k) = true := beq_iff_eq.mpr h
        simp only [List.lookup, hb, if_pos (h.trans hk)]
      · have hb : (g == k) = false := beq_eq_false_iff_ne.mpr h
        simp only [List.lookup, hb, if_neg (fun e : g = f => h (e.trans hk.symm))]
    · rw [if_neg hk]
      by_cases h : g = k
      · have hb : (g == k) = true := beq_iff_eq.mpr h
        simp only [List.lookup, hb, if_neg (fun e : g = f => hk (h.symm.trans e))]
      · have hb : (g == k) = false := beq_eq_false_iff_ne.mpr h
        simp only [List.lookup, hb]
        exact ih
theorem keys_putF (f : Str) (v : V) : ∀ fs : List (Str × V), f ∈ (putF f v fs).map (·.1) ∧ ∀ g, g ∈ fs.map (·.1) → g ∈ (putF f v fs).map (·.1)
  | [] => ⟨by simp [putF], fun g h => by simp at h⟩
  | (k, x) :: r => by
    obtain ⟨i1, i2⟩ := keys_putF f v r
    rw [show putF f v ((k, x) :: r) = (if k = f then (k, v) :: r else (k, x) :: putF f v r) from rfl]
    by_cases hk : k = f
    · rw [if_pos hk]
      subst hk
      exact ⟨by simp, fun g h => by simpa using h⟩
    · rw [if_neg hk]
      refine ⟨?_, fun g h => ?_⟩
      · rw [List.map_cons]
        exact List.mem_cons_of_mem _ i1
      · rw [List.map_cons] at h ⊢
        rcases List.mem_cons.mp h with e | e
        · exact List.mem_cons.mpr (.inl e)
        · exact List.mem_cons_of_mem _ (i2 g e)
theorem length_putF (f : Str) (v : V) : ∀ fs : List (Str × V), (putF f v fs).length ≤ fs.length + 1
  | [] => by simp [putF]
  | (k, x) :: r => by
    have ih := length_putF f v r
    rw [show putF f v ((k, x) :: r) = (if k = f then (k, v) :: r else (k, x) :: putF f v r) from rfl]
    by_cases hk : k = f
    · rw [if_pos hk, List.length_cons, List.length_cons]; omega
    · rw [if_neg hk, List.length_cons, List.length_cons]; omega

theorem RelO.some_of {v : V} {o : Option Value} (r : RelO (some v) o) : ∃ u, o = some u ∧ RelV v u := by
  cases o with
  | none => exact (show False from r).elim
  | some u => exact ⟨u, rfl, r⟩
theorem RelO.none_of {o : Option Value} (r : RelO none o) : o = none := by
  cases o with
  | none => rfl
  | some u => exact (show False from r).elim
theorem handed_of {v : V} {u : Value} (r : RelV v u) : PySem.W.handedIn u = true := by
  cases v with
  | non => cases (show u = Value.none from r); rfl
  | bl b => cases (show u = Value.bool b from r); rfl
  | int i => obtain ⟨t, e⟩ := (show ∃ t, u = Value.int i t from r); cases e; rfl
  | str x => obtain ⟨t, e⟩ := (show ∃ t, u = Value.str x t from r); cases e; rfl
  | byt b => obtain ⟨t, e⟩ := (show ∃ t, u = Value.bytes b t from r); cases e; rfl
  | flt b => obtain ⟨t, e⟩ := (show ∃ t, u = Value.float b t from r); cases e; rfl
  | ref a => cases (show u = Value.ref a from r); rfl
  | ty n => cases (show u = Value.type n from r); rfl

section
variable {P : Program} {w : World} {H H' : Hp} {h h' : Heap} {a C dx : Addr} {fs fs' : List (Str × V)}
theorem ins_get (hok : HOk P w H h) (e : H a = some (.ins C dx fs)) : ∃ mA, ObjM h a dx C mA ∧ (∀ f, RelO (fs.lookup f) (mA f)) ∧ PySem.Within mA (fs.map (·.1)) ∧ fs.length ≤ 1000 ∧ H dx = some (.own a) := by
  obtain ⟨d, z, ne, ob, mA, n, r, q⟩ := (show ObjOk P w H h a (.ins C dx fs) from hok a _ e)
  exact ⟨mA, ⟨ob, n, ne⟩, r, q, z, d⟩
end

structure Cls (K : PySem.W.Frag) (C : Addr) : Prop where
  pg : PySem.W.plainGet K C Str.empty = true
  hd : PySem.W.hasDictIn K C = true
  po : PySem.W.plainOver K C = true
  sa : PySem.W.findIn K (.ref C) "__setattr__" = some (some (.builtin "object.__setattr__"))
theorem Cls.get {K : PySem.W.Frag} {C : Addr} (c : Cls K C) (f : Str) : PySem.W.plainGet K C f = true := c.pg
def NoAttr (K : PySem.W.Frag) (C : Addr) (f : Str) : Prop := PySem.W.findIn K (.ref C) f = some none
theorem NoAttr.taker {K : PySem.W.Frag} {C : Addr} {f : Str} (n : NoAttr K C f) : PySem.W.takerIn K C f = some none := by
  unfold PySem.W.takerIn
  rw [show PySem.W.findIn K (.ref C) f = some none from n]
  rfl
structure Meth (K : PySem.W.Frag) (C : Addr) (m : Str) (f : Addr) : Prop where
  at_ : PySem.W.findIn K (.ref C) m = some (some (.ref f))
  fn : PySem.W.isFn K (.ref f) = true
  kp : PySem.W.keepIn K (.ref f) = true

section
variable {X : Cx} {pins : List (Addr × Obj)} {σ : St} {H : Hp} {s : Shared} {a C dx : Addr} {fs : List (Str × V)} {f : Str} {v : V} {A : Around} {E : Value → Shared → Prop}

theorem getattr_ok {b : Bool} {Q : Value → Shared → Prop} (I : Inv X pins σ H s) (e : H a = some (.ins C dx fs)) (c : Cls X.K C) (n : NoAttr X.K C f) (l : fs.lookup f = some v)
    (h : ∀ u s', Inv X pins σ H s' → RelV v u → Q u s') : wpAny (model X.prog X.w) A (getAttr (.ref a) f b) Q E s := by
  obtain ⟨mA, O, r, _, _, _⟩ := ins_get I.hok e
  obtain ⟨u, hu, ru⟩ := RelO.some_of (v := v) (o := mA f) (by rw [← l]; exact r f)
  exact get_map I.kIn O (c.get f) c.hd n hu (handed_of ru) (h u _ (I.tok _) ru)

theorem getmeth_ok {m : Str} {g : Addr} {pl : Sem Bool} {Q : Value × List Value → Shared → Prop} (I : Inv X pins σ H s) (e : H a = some (.ins C dx fs)) (c : Cls X.K C) (k : Meth X.K C m g) (l : fs.lookup m = none)
    (h : Q (.ref g, [.ref a]) s) : wpAny (model X.prog X.w) A (getMethod (.ref a) m pl) Q E s := by
  obtain ⟨mA, O, r, _, _, _⟩ := ins_get I.hok e
  have hn : mA m = none := RelO.none_of (by rw [← l]; exact r m)
  exact get_meth I.kIn O (c.get m) k.at_ k.fn hn h

theorem setattr_ok {y : V} {u : Value} {Q : Unit → Shared → Prop} (I : Inv X pins σ H s) (e : H a = some (.ins C dx fs)) (c : Cls X.K C) (n : NoAttr X.K C f) (hl : fs.length < 1000) (ry : RelV y u)
    (h : ∀ s', Inv X pins σ (upd H a (.ins C dx (putF f y fs))) s' → Q () s') : wpAny (model X.prog X.w) A (setAttr (.ref a) f u) Q E s := by
  obtain ⟨mA, O, r, wi, _, ho⟩ := ins_get I.hok e
  have hz : (fs.map (·.1)).length ≤ sizeLine := by rw [List.length_map, sizeLine_eq]; omega
  refine set_map I.kIn O c.sa c.po n.taker c.hd wi hz fun h' O' sb => h _ ?_
  have hd : ∃ o, h'.get? dx = some o := let ⟨o, _, _, e', _⟩ := O'.ns; ⟨o, e'⟩
  refine I.write (x := a) (e := dx) (by rw [e]; exact True.intro) (.inr ho) (fun b q hb z => (sb.2 b hb).trans z) hd ?_
  refine ⟨by rw [upd_ne O.ne]; exact ho, ?_, O.ne, O'.obj, _, O'.ns, fun g => ?_, fun g hg => ?_⟩
  · have := length_putF f y fs; omega
  · show RelO ((putF f y fs).lookup g) (if g = f then some u else mA g)
    rw [lookup_putF]
    by_cases q : g = f
    · rw [if_pos q, if_pos q]; exact ry
    · rw [if_neg q, if_neg q]; exact r g
  · by_cases q : g = f
    · rw [q]; exact (keys_putF f y fs).1
    · refine (keys_putF f y fs).2 g (wi g fun z => hg ?_)
      show (if g = f then some u else mA g) = none
      rw [if_neg q]; exact z

theorem Inv.made (I : Inv X pins σ H s) : Inv X pins σ (upd (upd H s.heap.objs.size (.own (s.heap.objs.size + 1))) (s.heap.objs.size + 1) (.ins C s.heap.objs.size []))
    { s with heap := (s.heap.push PySem.W.emptyDict).push (PySem.W.instObj C s.heap.objs.size) } := by
  have e1 : (s.heap.push PySem.W.emptyDict).get? s.heap.objs.size = some PySem.W.emptyDict := Heap.get?_push_size s.heap rfl
  have e2 : ((s.heap.push PySem.W.emptyDict).push (PySem.W.instObj C s.heap.objs.size)).get? (s.heap.objs.size + 1) = some (PySem.W.instObj C s.heap.objs.size) := by
    have := Heap.get?_push_size (s.heap.push PySem.W.emptyDict) (o := PySem.W.instObj C s.heap.objs.size) rfl
    rwa [Heap.size_push] at this
  have e3 : (s.heap.push PySem.W.emptyDict).Ns s.heap.objs.size (fun _ => none) := ⟨PySem.W.emptyDict, #[], _, e1, rfl, (fun e he => absurd he (by simp)), fun _ => rfl⟩
  have I1 := I.laid (a := s.heap.objs.size) (o := .own (s.heap.objs.size + 1)) (h' := s.heap.push PySem.W.emptyDict) (t' := s.toks) (fun b u q => Heap.get?_push_of_some _ q) (Nat.le_refl _) ⟨_, e1⟩
  refine I1.laid (a := s.heap.objs.size + 1) (o := .ins C s.heap.objs.size []) (t' := s.toks) (fun b u q => Heap.get?_push_of_some _ q) (Nat.le_of_eq (Heap.size_push _ _)) ?_
  have ne : s.heap.objs.size ≠ s.heap.objs.size + 1 := Nat.ne_of_lt (Nat.lt_succ_self _)
  refine ⟨by rw [upd_ne ne, upd_same], Nat.zero_le _, ne, e2, fun _ => none, (Heap.Ns1.of_empty e3).at fun o q => Heap.get?_push_of_some _ q, fun _ => True.intro, fun y hy => absurd rfl hy⟩

theorem attr_of {prog : Program} {w : World} {env : Env} {e : Expr} {f : Str} {pos : Pos} {s : Shared} {Q : Value → Shared → Prop} (hb : attributeBase e f env (eval e env) = eval e env)
    (h : wpAny (model prog w) A (eval e env) (fun o s₁ => wpAny (model prog w) A (getAttr o f true) Q E s₁) E s) : wpAny (model prog w) A (eval (.Attribute e f pos) env) Q E s :=
  Attribute_any_ h (by rw [arm_eval_Attribute, hb])
end

def tFld (K : PySem.W.Frag) (ta : TE) (f : Str) : TE := fun σ H Q => ta σ H fun x H1 => ∃ a C dx fs v, x = .ref a ∧ H1 a = some (.ins C dx fs) ∧ Cls K C ∧ NoAttr K C f ∧ fs.lookup f = some v ∧ Q v H1
def sFld (K : PySem.W.Frag) (ta tv : TE) (f : Str) : TS := fun D σ H => tv σ H fun y H1 => ta σ H1 fun x H2 => ∃ a C dx fs, x = .ref a ∧ H2 a = some (.ins C dx fs) ∧ Cls K C ∧ NoAttr K C f ∧ fs.length < 1000 ∧
  D.nx σ (upd H2 a (.ins C dx (putF f y fs)))
section
variable {X : Cx} {o e value : Expr} {f : Str} {pos pos' tpos : Pos} {ta tv : TE}
theorem pe_fld (he : PE X e ta) (hb : attributeBase e f X.env (eval e X.env) = eval e X.env) : PE X (.Attribute e f pos) (tFld X.K ta f) := by
  intro pins s σ H Q I h
  refine attr_of hb (thn (he pins s σ H _ I h) fun u s1 ⟨x, H1, I1, rx, a, C, dx, fs, v, ex, ea, c, n, l, q⟩ => ?_)
  subst ex
  obtain rfl : u = Value.ref a := rx
  exact getattr_ok I1 ea c n l fun u' s2 I2 ru => ⟨v, H1, I2, ru, q⟩
theorem ps_fld (ha : PE X o ta) (hv : PE X value tv) (hs : swapsWith value (some (.Attribute o f pos')) pos.line X.env = pure false) : PS X (.Assign [.Attribute o f pos'] value pos) (sFld X.K ta tv f) := by
  intro pins s σ H D I h
  refine plainObj_wpAny_Assign_Attribute (thn (hv pins s σ H _ I h) fun u s1 ⟨y, H1, I1, ry, q⟩ => thn (ha pins s1 σ H1 _ I1 q) fun ov s2 ⟨x, H2, I2, rx, a, C, dx, fs, ex, ea, c, n, l, q2⟩ => ?_) hs
  subst ex
  obtain rfl : ov = Value.ref a := rx
  exact setattr_ok I2 ea c n l ry fun s3 I3 => ⟨σ, _, I3, q2⟩
theorem methcall_of {pl : Sem Bool} {m : Str} {apos : Pos} {args : List Expr} {pins : List (Addr × Obj)} {s : Shared} {σ : St} {H : Hp} {Q : Value → Shared → Prop} {te : TE} (he : PE X e te) (I : Inv X pins σ H s)
    (h : te σ H fun x H1 => ∃ a C dx fs g, x = .ref a ∧ H1 a = some (.ins C dx fs) ∧ Cls X.K C ∧ Meth X.K C m g ∧ fs.lookup m = none ∧
      ∀ s1, Inv X pins σ H1 s1 → wpAny (model X.prog X.w) X.A (callWith pos (.ref g) [.ref a] (backTo pos (starEach args X.env)) (backToKw pos (keywordEach [] X.env))) Q X.xe s1)
    (ht : eval (.Call (.Attribute e m apos) args [] pos) X.env = (do
      let ov ← eval e X.env
      standAt apos.atName
      let (f, first) ← holding [ov] (getMethod ov m pl)
      callWith pos f first (backTo pos (starEach args X.env)) (backToKw pos (keywordEach [] X.env)))) :
    wpAny (model X.prog X.w) X.A (eval (.Call (.Attribute e m apos) args [] pos) X.env) Q X.xe s := by
  refine PySem.W.methodCall_KW (pl := pl) (thn (he pins s σ H _ I h) fun u s1 ⟨x, H1, I1, rx, a, C, dx, fs, g, ex, ea, c, k, l, q⟩ => ?_) ht
  subst ex
  obtain rfl : u = Value.ref a := rx
  exact getmeth_ok I1 ea c k l (q s1 I1)
end

section
variable {X : Cx} {pins : List (Addr × Obj)} {σ : St} {H : Hp} {s : Shared} {A : Around} {E : Value → Shared → Prop} {Q : Value → Shared → Prop} {c : Value} {b : Bool}
inductive TyOf (K : PySem.W.Frag) (H : Hp) : V → Value → Prop where
  | non : TyOf K H .non (.type "NoneType")
  | bl (x : Bool) : TyOf K H (.bl x) (.type "bool")
  | int (i : Int) : TyOf K H (.int i) (.type "int")
  | str (x : Str) : TyOf K H (.str x) (.type "str")
  | flt (x : UInt64) : TyOf K H (.flt x) (.type "float")
  | lst {a : Addr} {xs : List V} (e : H a = some (.lst xs)) : TyOf K H (.ref a) (.type "list")
  | frz {a : Addr} {o : Obj} {xs : List V} (e : H a = some (.frz o (.lst xs))) : TyOf K H (.ref a) (.type "list")
  | tup {a : Addr} {xs : List V} (e : H a = some (.tup xs)) : TyOf K H (.ref a) (.type "tuple")
  | dK {a : Addr} {kvs : List (Key × V)} (e : H a = some (.dK kvs)) : TyOf K H (.ref a) (.type "dict")
  | dT {a : Addr} {kvs : List (List Key × V)} (e : H a = some (.dT kvs)) : TyOf K H (.ref a) (.type "dict")
  | ins {a C dx : Addr} {fs : List (Str × V)} (e : H a = some (.ins C dx fs)) (cl : Cls K C) (ha : PySem.W.findIn K (.ref C) "__class__" = some (some (.builtin "object.__class__")))
      (hn : PySem.W.specialIn K (.builtin "object.__class__") "__get__" = some (some (.builtin "getset_descriptor.__get__"))) (htk : PySem.W.takesIn K (.builtin "object.__class__") = some true)
      (hm : PySem.W.mroIn K C (.type "object") = some true) : TyOf K H (.ref a) (.ref C)
theorem isinst_ok {x : V} {u t : Value} (I : Inv X pins σ H s) (rx : RelV x u) (ty : TyOf X.K H x t) (e : PySem.W.kitOne X.K t c = some b) (h : ∀ tk, Q (.bool b) { s with toks := tk }) :
    wpAny (model X.prog X.w) A (call (.builtin "isinstance") [u, c]) Q E s := by
  cases ty with
  | non => cases (show u = Value.none from rx); exact PySem.W.kia_one PySem.W.kitx_none I.kIn True.intro e (fun z => nomatch z) h
  | bl y => cases (show u = Value.bool y from rx); exact PySem.W.kia_one PySem.W.kitx_bool I.kIn True.intro e (fun z => nomatch z) h
  | int i => obtain ⟨t, q⟩ := (show ∃ t, u = Value.int i t from rx); cases q; exact PySem.W.kia_one PySem.W.kitx_int I.kIn True.intro e (fun z => nomatch z) h
  | str y => obtain ⟨t, q⟩ := (show ∃ t, u = Value.str y t from rx); cases q; exact PySem.W.kia_one PySem.W.kitx_str I.kIn True.intro e (fun z => nomatch z) h
  | flt y => obtain ⟨t, q⟩ := (show ∃ t, u = Value.float y t from rx); cases q; exact PySem.W.kia_one PySem.W.kitx_float I.kIn True.intro e (fun z => nomatch z) h
  | @lst a xs ea =>
    cases (show u = Value.ref a from rx)
    obtain ⟨_, _, n, _, h1⟩ := (show ObjOk X.prog X.w H s.heap a (.lst xs) from I.hok a _ ea)
    exact PySem.W.kia_one PySem.W.kitx_list I.kIn ⟨_, h1, rfl⟩ e (fun z => nomatch z) h
  | @frz a ob xs ea =>
    cases (show u = Value.ref a from rx)
    obtain ⟨_, _, _, n, _, h1⟩ := (show ObjOk X.prog X.w H s.heap a (.frz ob (.lst xs)) from I.hok a _ ea)
    exact PySem.W.kia_one PySem.W.kitx_list I.kIn ⟨_, h1, rfl⟩ e (fun z => nomatch z) h
  | @tup a xs ea =>
    cases (show u = Value.ref a from rx)
    obtain ⟨_, _, _, p⟩ := (show ObjOk X.prog X.w H s.heap a (.tup xs) from I.hok a _ ea)
    obtain ⟨o, h1, h2, _⟩ := p
    exact PySem.W.kia_one PySem.W.kitx_tuple I.kIn ⟨o, h1, h2⟩ e (fun z => nomatch z) h
  | @dK a kvs ea =>
    cases (show u = Value.ref a from rx)
    obtain ⟨_, _, vs, _, p⟩ := (show ObjOk X.prog X.w H s.heap a (.dK kvs) from I.hok a _ ea)
    obtain ⟨o, es, ep, h1, h2, _⟩ := p
    exact PySem.W.kia_one PySem.W.kitx_dict I.kIn ⟨o, h1, h2.1⟩ e (fun z => nomatch z) h
  | @dT a kvs ea =>
    cases (show u = Value.ref a from rx)
    obtain ⟨_, _, xs, _, o, es, ep, h1, h2, _⟩ := (show ObjOk X.prog X.w H s.heap a (.dT kvs) from I.hok a _ ea)
    exact PySem.W.kia_one PySem.W.kitx_dict I.kIn ⟨o, h1, h2.1⟩ e (fun z => nomatch z) h
  | @ins a C dx fs ea cl ha hn htk hm =>
    cases (show u = Value.ref a from rx)
    obtain ⟨mA, O, _⟩ := ins_get I.hok ea
    obtain ⟨od, J, _⟩ := O.look
    exact PySem.W.kia_one (PySem.W.kitx_own (cl.get _) cl.hd ha hn htk hm) I.kIn J e (fun z => nomatch z) h
end
end L2

namespace L2
open PySem PySem.Spec PyProof.Rows

structure Room (k : Nat) (A : Around) : Prop where
  hd : A.handled = none
  dp : A.depth + 3 * k + 5 < recursionLimit
  un : A.units + 16 * k + 200 < cLine
theorem Room.mono {j k : Nat} {A : Around} (r : Room k A) (h : j ≤ k) : Room j A := ⟨r.hd, by have := r.dp; omega, by have := r.un; omega⟩
theorem Room.deeper {k : Nat} {A : Around} (r : Room (k + 1) A) (env : Env) : Room k (A.deeper env) :=
  ⟨r.hd, by have := r.dp; show A.depth + 1 + 3 * k + 5 < _; omega, by have := r.un; show A.units + 3 + 16 * k + 200 < _; omega⟩
theorem make_depth {A : Around} {C : Addr} {us : List Value} {kw : List (Str × Value)} : (A.under (.builtin "type.__call__" ⟨.ref C :: us, kw⟩)).depth = A.depth + 1 := by
  first | rfl | simp [Around.under, Code.weight, Code.isCreation, Code.isGuard, Code.isCaller, Code.frames, Code.isFrame, guardIds]
theorem make_units {A : Around} {C : Addr} {us : List Value} {kw : List (Str × Value)} : (A.under (.builtin "type.__call__" ⟨.ref C :: us, kw⟩)).units = A.units + 1 := by
  first | rfl | simp [Around.under, Code.cUnits, Code.frames, Code.isFrame]
theorem Room.make {k : Nat} {A : Around} (r : Room (k + 1) A) (C : Addr) (us : List Value) (kw : List (Str × Value)) : Room k (A.under (.builtin "type.__call__" ⟨.ref C :: us, kw⟩)) :=
  ⟨r.hd, by have := r.dp; rw [make_depth]; omega, by have := r.un; rw [make_units]; omega⟩
theorem Room.depth {k : Nat} {A : Around} (r : Room k A) : A.depth < recursionLimit := by have := r.dp; omega
theorem Room.units {k : Nat} {A : Around} (r : Room k A) : A.units + 64 < cLine := by have := r.un; omega
def tNil : TA := fun _ H Q => Q [] H
def tCons (ta : TE) (tr : TA) : TA := fun σ H Q => ta σ H fun x H1 => tr σ H1 fun xs H2 => Q (x :: xs) H2
section
variable {X : Cx} {e : Expr} {es : List Expr} {te : TE} {t : TA} {pos : Pos}
theorem pa_nil : PA X [] tNil := fun _ _ _ _ H Q I h => Calls.spliced_nil ⟨[], H, I, .nil, h⟩
theorem pa_cons (ha : PE X e te) (hr : PA X es t) (hs : starEach (e :: es) X.env = (false, eval e X.env) :: starEach es X.env := by rfl) : PA X (e :: es) (tCons te t) := by
  intro pos pins s σ H Q I h
  rw [hs]
  show wpAny _ _ (spliced ((false, eval e X.env) :: backTo pos (starEach es X.env))) _ _ s
  refine Calls.spliced_cons (thn (ha pins s σ H _ I h) fun u s1 ⟨x, H1, I1, r1, q1⟩ => ?_)
  exact thn (hr pos pins s1 σ H1 _ I1 q1) fun us s2 ⟨xs, H2, I2, r2, q2⟩ => ⟨x :: xs, H2, I2, .cons r1 r2, q2⟩

def tTup (t : TA) : TE := fun σ H Q => t σ H fun xs H1 => xs.length ≤ sizeLine ∧ ∀ p, H1 p = none → Q (.ref p) (upd H1 p (.tup xs))
def tLst (t : TA) : TE := fun σ H Q => t σ H fun xs H1 => xs.length ≤ sizeLine ∧ ∀ p, H1 p = none → Q (.ref p) (upd H1 p (.lst xs))
theorem pe_tup {x1} (h : PA X es t) : PE X (.Tuple es x1 pos) (tTup t) := by
  intro pins s σ H Q I hq
  refine wpAny_Tuple_spliced (thn (h pos pins s σ H _ I hq) fun us s1 ⟨xs, H1, I1, r, z, q⟩ => ⟨by rw [← r.length]; exact z, ?_⟩)
  have hf : H1 s1.heap.objs.size = none := I1.hok.fresh (Nat.le_refl _)
  refine ⟨.ref s1.heap.objs.size, upd H1 s1.heap.objs.size (.tup xs), I1.laid (t' := s1.toks) (fun b u e => Heap.get?_push_of_some _ e) (Nat.le_refl _) ?_, rfl, q _ hf⟩
  exact ⟨z, us, r, ⟨_, Heap.get?_push_size _ rfl, rfl, _, rfl⟩⟩
theorem pe_lst (h : PA X es t) : PE X (.List es pos) (tLst t) := by
  intro pins s σ H Q I hq
  refine wpAny_List_spliced (thn (h pos pins s σ H _ I hq) fun us s1 ⟨xs, H1, I1, r, z, q⟩ => ⟨by rw [← r.length]; exact z, ?_⟩)
  have hf : H1 s1.heap.objs.size = none := I1.hok.fresh (Nat.le_refl _)
  refine ⟨.ref s1.heap.objs.size, upd H1 s1.heap.objs.size (.lst xs), I1.laid (t' := s1.toks) (fun b u e => Heap.get?_push_of_some _ e) (Nat.le_refl _) ?_, rfl, q _ hf⟩
  exact ⟨z, us, 0, r, Heap.get?_push_size _ rfl⟩
end

abbrev Sp := List V → Hp → VK → XK → Prop
abbrev CXT := List Env → Hp → Shared → XK → Value → Shared → Prop

structure Env0 (P : Program) (w : World) (K : PySem.W.Frag) (mg : Str → Option Value) (base : Heap) (A : Around) (outer : List Env) (s : Shared) (H : Hp) : Prop where
  frames : A.frames = some outer
  mod : Mod K mg base
  bs : ∀ b o, base.get? b = some o → s.heap.get? b = some o ∧ H b = none
  bsz : base.objs.size ≤ s.heap.objs.size
  funs : s.heap.FunFrames base outer
  frf : ∀ b ∈ frs outer, H b = none
  hok : HOk P w H s.heap
  bare : AllBare s.gens
def CE (outer : List Env) (P : Program) (w : World) (H : Hp) (s : Shared) (Q : VK) (u : Value) (s' : Shared) : Prop :=
  ∃ v H', s'.os = s.os ∧ AllBare s'.gens ∧ Un (frs outer) [] H H' s.heap s'.heap ∧ HOk P w H' s'.heap ∧ RelV v u ∧ Q v H'
def CR (CX : CXT) (outer : List Env) (P : Program) (w : World) (H : Hp) (s : Shared) (Q : VK) (E : XK) (r : Result) (s' : Shared) : Prop :=
  match r with
  | .ok (.ret u) => CE outer P w H s Q u s'
  | .ok _ => False
  | .error e => CX outer H s E e s'
structure FnOk (P : Program) (w : World) (K : PySem.W.Frag) (mg : Str → Option Value) (base : Heap) (CX : CXT) (k : Nat) (f : Addr) (fd : FuncData) (ps : List Str) (sp : Sp) : Prop where
  len : ∀ vs H Q E, sp vs H Q E → vs.length = ps.length
  run : ∀ (A : Around) (outer : List Env) (s : Shared) (H : Hp) (args : Args) (us : List Value) (vs : List V) (Q : VK) (E : XK), Room k A → Env0 P w K mg base A outer s H → BindsTo s fd args (ps.zip us) → Vals vs us → sp vs H Q E →
    codeAny (model P w) A (.call (.ref f) args) (CR CX outer P w H s Q E) s
theorem Env0.make {P : Program} {w : World} {K : PySem.W.Frag} {mg : Str → Option Value} {base : Heap} {A : Around} {outer : List Env} {s : Shared} {H : Hp} (e : Env0 P w K mg base A outer s H) (C : Addr) (us : List Value) (kw : List (Str × Value)) :
    Env0 P w K mg base (A.under (.builtin "type.__call__" ⟨.ref C :: us, kw⟩)) outer s H := ⟨by first | exact e.frames | (simpa [Around.under, Code.envs, Code.isFrame, pushEnvs] using e.frames), e.mod, e.bs, e.bsz, e.funs, e.frf, e.hok, e.bare⟩
section
variable {X : Cx} {pins : List (Addr × Obj)} {σ : St} {H : Hp} {s s' : Shared}
theorem Inv.env0 (I : Inv X pins σ H s) : Env0 X.prog X.w X.K X.mg X.base X.A X.stack s H :=
  ⟨I.ok.frames, I.ok.mod, I.bs, Nat.le_trans I.ok.bsz I.sz, I.stack, I.stkFree, I.hok, I.bare⟩
theorem Inv.after {Q : VK} {u : Value} (I : Inv X pins σ H s) (h : CE X.stack X.prog X.w H s Q u s') : EP X pins σ Q u s' := by
  obtain ⟨v, H', os, bare, un, hok, r, q⟩ := h
  obtain ⟨hh, g, d, t, os'⟩ := s'
  obtain rfl : os' = s.os := os
  exact ⟨v, H', I.call (h' := hh) (g' := g) (d' := d) (t' := t) (ch := []) un hok bare (fun b z => absurd z (by simp)), r, q⟩
end

def tCall (sp : Sp) (dvs : List V) (E : XK) (t : TA) : TE := fun σ H Q => t σ H fun vs H1 => sp (vs ++ dvs) H1 Q E
def tMeth (C : Addr) (m : Str) (sp : Sp) (dvs : List V) (E : XK) (ta : TE) (t : TA) : TE := fun σ H Q => ta σ H fun x H1 => ∃ a dx fs, x = .ref a ∧ H1 a = some (.ins C dx fs) ∧ fs.lookup m = none ∧
  t σ H1 fun vs H2 => sp (x :: (vs ++ dvs)) H2 Q E
def tMake (C : Addr) (sp : Sp) (dvs : List V) (E : XK) (t : TA) : TE := fun σ H Q => t σ H fun vs H1 => ∀ x dx, H1 x = none → H1 dx = none → dx ≠ x →
  sp (.ref x :: (vs ++ dvs)) (upd (upd H1 dx (.own x)) x (.ins C dx [])) (fun v H2 => v = .non ∧ Q (.ref x) H2) E

def Binds (K : PySem.W.Frag) (fd : FuncData) (ps : List Str) (ds : List Value) : Prop :=
  ∀ (s : Shared) (us : List Value), K.In s.heap → (us ++ ds).length = ps.length → BindsTo s fd ⟨us, []⟩ (ps.zip (us ++ ds))
theorem Binds.all {K : PySem.W.Frag} {fd : FuncData} {ps : List Str} (h : ∀ us : List Value, us.length = ps.length → bindArgs fd ⟨us, []⟩ = pure (ps.zip us)) : Binds K fd ps [] := fun s us _ hl => by
  rw [List.append_nil] at hl ⊢
  exact .of_eq (h us hl)

def Passes (CX : CXT) (X : Cx) (E : XK) : Prop := ∀ (pins : List (Addr × Obj)) (σ : St) (H : Hp) (s : Shared) (e : Value) (s' : Shared), Inv X pins σ H s → CX X.stack H s E e s' → X.xe e s'

section
variable {X : Cx} {CX : CXT} {k : Nat} {f C : Addr} {fd : FuncData} {ps : List Str} {sp : Sp} {dvs : List V} {ds : List Value} {E : XK} {x m : Str} {p pos apos : Pos} {e o : Expr} {es : List Expr} {ta : TE} {t : TA}

theorem run_fn {pins : List (Addr × Obj)} {σ : St} {H : Hp} {s : Shared} {Q : VK} {us : List Value} {vs : List V} (F : FnOk X.prog X.w X.K X.mg X.base CX k f fd ps sp) (hr : Room k X.A) (hb : Binds X.K fd ps ds) (hd : Vals dvs ds) (hx : Passes CX X E)
    (I : Inv X pins σ H s) (r : Vals vs us) (h : sp (vs ++ dvs) H Q E) : wpAny (model X.prog X.w) X.A (call (.ref f) us) (EP X pins σ Q) X.xe s := by
  have r2 : Vals (vs ++ dvs) (us ++ ds) := r.append hd
  have hl : (us ++ ds).length = ps.length := by rw [← r2.length]; exact F.len _ _ _ _ h
  refine wpAny_call (codeAny_mono (F.run X.A X.stack s H ⟨us, []⟩ (us ++ ds) (vs ++ dvs) Q E hr I.env0 (hb s us I.kIn hl) r2 h) fun r s' hq => ?_)
  cases r with
  | error e => exact hx pins σ H s e s' I hq
  | ok fl =>
    cases fl with
    | ret u => exact I.after hq
    | next => exact False.elim hq
    | brk => exact False.elim hq
    | cont => exact False.elim hq

theorem pe_call (F : FnOk X.prog X.w X.K X.mg X.base CX k f fd ps sp) (hr : Room k X.A) (hg : Gl X x) (hm : X.mg x = some (.ref f)) (hk : PySem.W.keepIn X.K (.ref f) = true) (hb : Binds X.K fd ps ds) (hd : Vals dvs ds) (hx : Passes CX X E)
    (ha : PA X (e :: es) t) (hdb : (x == ("__debug__" : Str)) = false := by decide) (he : starEach (e :: es) X.env = (false, eval e X.env) :: starEach es X.env := by rfl) (hpl : (backTo pos (starEach es X.env)).any (·.1) = false := by rfl) :
    PE X (.Call (.Name x p) (e :: es) [] pos) (tCall sp dvs E t) := by
  intro pins s σ H Q I h
  refine wpAny_Call_Name_kw (ld_glob I hg hm ?_ hdb)
  refine PySem.W.callWith_K (h₀ := X.base) I.ok.mod.kin hk (thn (ha pos pins s σ H _ I h) fun us s1 ⟨vs, H1, I1, r, q⟩ => ⟨I1.kIn, ?_⟩) he hpl
  exact run_fn F hr hb hd hx I1 r q
theorem pe_meth {pl : Sem Bool} (he : PE X o ta) (c : Cls X.K C) (hm : Meth X.K C m f) (F : FnOk X.prog X.w X.K X.mg X.base CX k f fd ps sp) (hr : Room k X.A) (hb : Binds X.K fd ps ds) (hd : Vals dvs ds) (hx : Passes CX X E) (ha : PA X (e :: es) t)
    (hst : starEach (e :: es) X.env = (false, eval e X.env) :: starEach es X.env := by rfl) (hpl : (backTo pos (starEach es X.env)).any (·.1) = false := by rfl)
    (ht : eval (.Call (.Attribute o m apos) (e :: es) [] pos) X.env = (do
      let ov ← eval o X.env
      standAt apos.atName
      let (f, first) ← holding [ov] (getMethod ov m pl)
      callWith pos f first (backTo pos (starEach (e :: es) X.env)) (backToKw pos (keywordEach [] X.env))) := by rfl) :
    PE X (.Call (.Attribute o m apos) (e :: es) [] pos) (tMeth C m sp dvs E ta t) := by
  intro pins s σ H Q I h
  refine PySem.W.methodCall_KW (pl := pl) (thn (he pins s σ H _ I h) fun u s1 ⟨x, H1, I1, rx, a, dx, fs, ex, ea, l, q⟩ => ?_) ht
  subst ex
  obtain rfl : u = Value.ref a := rx
  refine getmeth_ok I1 ea c hm l ?_
  refine PySem.W.callWith_K (first := [.ref a]) (h₀ := X.base) I.ok.mod.kin hm.kp (thn (ha pos pins s1 σ H1 _ I1 q) fun us s2 ⟨vs, H2, I2, r, q2⟩ => ⟨I2.kIn, ?_⟩) hst hpl
  exact run_fn (us := .ref a :: us) (vs := .ref a :: vs) F hr hb hd hx I2 (.cons rfl r) q2
theorem pe_meth0 {pl : Sem Bool} (he : PE X o ta) (c : Cls X.K C) (hm : Meth X.K C m f) (F : FnOk X.prog X.w X.K X.mg X.base CX k f fd ps sp) (hr : Room k X.A) (hb : Binds X.K fd ps ds) (hd : Vals dvs ds) (hx : Passes CX X E)
    (ht : eval (.Call (.Attribute o m apos) [] [] pos) X.env = (do
      let ov ← eval o X.env
      standAt apos.atName
      let (f, first) ← holding [ov] (getMethod ov m pl)
      callWith pos f first (backTo pos (starEach [] X.env)) (backToKw pos (keywordEach [] X.env))) := by rfl) :
    PE X (.Call (.Attribute o m apos) [] [] pos) (tMeth C m sp dvs E ta tNil) := by
  intro pins s σ H Q I h
  refine PySem.W.methodCall_KW (pl := pl) (thn (he pins s σ H _ I h) fun u s1 ⟨x, H1, I1, rx, a, dx, fs, ex, ea, l, q⟩ => ?_) ht
  subst ex
  obtain rfl : u = Value.ref a := rx
  refine getmeth_ok I1 ea c hm l ?_
  exact PySem.W.callWith_K0 (first := [.ref a]) I1.kIn hm.kp (run_fn (us := [.ref a]) (vs := [.ref a]) F hr hb hd hx I1 (.cons rfl .nil) q)

structure Mk (K : PySem.W.Frag) (C f : Addr) : Prop where
  makes : PySem.W.makesIn K C = true
  init : PySem.W.findIn K (.ref C) "__init__" = some (some (.ref f))
  fn : PySem.W.isFn K (.ref f) = true
  kp : PySem.W.keepIn K (.ref C) = true

theorem run_make {pins : List (Addr × Obj)} {σ : St} {H : Hp} {s : Shared} {Q : VK} {us : List Value} {vs : List V} (M : Mk X.K C f) (F : FnOk X.prog X.w X.K X.mg X.base CX k f fd ps sp) (hr : Room (k + 1) X.A) (hb : Binds X.K fd ps ds) (hd : Vals dvs ds)
    (hx : Passes CX X E) (I : Inv X pins σ H s) (r : Vals vs us)
    (h : ∀ x dx, H x = none → H dx = none → dx ≠ x → sp (.ref x :: (vs ++ dvs)) (upd (upd H dx (.own x)) x (.ins C dx [])) (fun v H2 => v = .non ∧ Q (.ref x) H2) E) :
    wpAny (model X.prog X.w) X.A (call (.ref C) us) (EP X pins σ Q) X.xe s := by
  have hq := h (s.heap.objs.size + 1) s.heap.objs.size (I.hok.fresh (Nat.le_succ _)) (I.hok.fresh (Nat.le_refl _)) (Nat.ne_of_lt (Nat.lt_succ_self _))
  have I2 := Inv.made (C := C) I
  have r2 : Vals (V.ref (s.heap.objs.size + 1) :: (vs ++ dvs)) (Value.ref (s.heap.objs.size + 1) :: (us ++ ds)) := .cons rfl (r.append hd)
  have hl : (Value.ref (s.heap.objs.size + 1) :: us ++ ds).length = ps.length := by
    have e := r2.length
    rw [F.len _ _ _ _ hq] at e
    exact e.symm
  refine wpAny_call (make_map (f := f) I.kIn M.makes M.init (beq_iff_eq.mp M.fn) (codeAny_mono (F.run _ X.stack _ _ ⟨Value.ref (s.heap.objs.size + 1) :: us, []⟩ (Value.ref (s.heap.objs.size + 1) :: (us ++ ds)) _ _ E (hr.make C us [])
    (I2.env0.make C us []) (hb _ (Value.ref (s.heap.objs.size + 1) :: us) I2.kIn hl) r2 hq) fun r s' hq' => ?_))
  cases r with
  | error e => exact hx pins σ _ _ e s' I2 hq'
  | ok fl =>
    cases fl with
    | ret u =>
      obtain ⟨v, H', I3, rv, ev, q3⟩ := I2.after hq'
      subst ev
      exact ⟨rv, ⟨V.ref (s.heap.objs.size + 1), H', I3, rfl, q3⟩⟩
    | next => exact False.elim hq'
    | brk => exact False.elim hq'
    | cont => exact False.elim hq'
theorem pe_make (M : Mk X.K C f) (F : FnOk X.prog X.w X.K X.mg X.base CX k f fd ps sp) (hr : Room (k + 1) X.A) (hg : Gl X x) (hm : X.mg x = some (.ref C)) (hb : Binds X.K fd ps ds) (hd : Vals dvs ds) (hx : Passes CX X E)
    (ha : PA X (e :: es) t) (hdb : (x == ("__debug__" : Str)) = false := by decide) (he : starEach (e :: es) X.env = (false, eval e X.env) :: starEach es X.env := by rfl) (hpl : (backTo pos (starEach es X.env)).any (·.1) = false := by rfl) :
    PE X (.Call (.Name x p) (e :: es) [] pos) (tMake C sp dvs E t) := by
  intro pins s σ H Q I h
  refine wpAny_Call_Name_kw (ld_glob I hg hm ?_ hdb)
  refine PySem.W.callWith_K (h₀ := X.base) I.ok.mod.kin M.kp (thn (ha pos pins s σ H _ I h) fun us s1 ⟨vs, H1, I1, r, q⟩ => ⟨I1.kIn, ?_⟩) he hpl
  exact run_make M F hr hb hd hx I1 r q
end

def PK (X : Cx) (kws : List Keyword) (t : TA) : Prop :=
  ∀ (pos : Pos) (pins : List (Addr × Obj)) (s : Shared) (σ : St) (H : Hp) (Q : List V → Hp → Prop), Inv X pins σ H s → t σ H Q → wpAny (model X.prog X.w) X.A (evalAll ((backToKw pos (keywordEach kws X.env)).map (·.2))) (AP X pins σ Q) X.xe s
section
variable {X : Cx} {CX : CXT} {k : Nat} {f C : Addr} {fd : FuncData} {ps ks : List Str} {sp : Sp} {E : XK} {x m : Str} {p pos apos kpos : Pos} {e o : Expr} {es : List Expr} {kws : List Keyword} {te ta : TE} {t tk : TA} {nm : Option Str}
theorem pk_nil : PK X [] tNil := fun _ _ _ _ H Q I h => wpAny_evalAll_nil ⟨[], H, I, .nil, h⟩
theorem pk_cons (ha : PE X e te) (hr : PK X kws t) : PK X (⟨nm, e, kpos⟩ :: kws) (tCons te t) := by
  intro pos pins s σ H Q I h
  show wpAny _ _ (evalAll ((do let v ← eval e X.env; standAt pos; pure v) :: (backToKw pos (keywordEach kws X.env)).map (·.2))) _ _ s
  refine wpAny_evalAll_cons (wpAny_bind (thn (ha pins s σ H _ I h) fun u s1 ⟨x, H1, I1, r1, q1⟩ => wpAny_bind (wpAny_standAt (wpAny_pure ?_))))
  exact thn (hr pos pins s1 σ H1 _ I1 q1) fun us s2 ⟨xs, H2, I2, r2, q2⟩ => ⟨x :: xs, H2, I2, .cons r1 r2, q2⟩

variable {g : List Value → List Value → List Value} {gV : List V → List V → List V}
end

structure FnScope (N P : List Str) (sc : Scope) : Prop where
  kind : sc.kind = .function
  co : sc.isCoroutine = false
  gen : sc.isGenerator = false
  nd : N.Nodup
  pre : N.take P.length = P
  par : ∀ x ∈ P, sc.names.lookup x = some .local ∨ sc.names.lookup x = some .cell
  nofree : ∀ y ∈ sc.names, y.2 ≠ .free

theorem bindL_out {kindOf : Str → Option NameKind} {x : Str} : ∀ {binds : List (Str × Value)} {m : Str → Option Value}, (∀ v, (x, v) ∉ binds) → bindL kindOf binds m x = m x
  | [], _, _ => rfl
  | (n, v) :: r, m, h => by
    unfold bindL
    rw [bindL_out fun w hw => h w (List.mem_cons_of_mem _ hw)]
    split
    · have : x ≠ n := by rintro rfl; exact h v List.mem_cons_self
      simp [this]
    · rfl
theorem bindC_out {kindOf : Str → Option NameKind} {x : Str} : ∀ {binds : List (Str × Value)} {m : Str → Option Value}, (∀ v, (x, v) ∉ binds) → bindC kindOf binds m x = m x
  | [], _, _ => rfl
  | (n, v) :: r, m, h => by
    unfold bindC
    rw [bindC_out fun w hw => h w (List.mem_cons_of_mem _ hw)]
    split
    · rfl
    · have : x ≠ n := by rintro rfl; exact h v List.mem_cons_self
      simp [this]
theorem bindL_get {kindOf : Str → Option NameKind} {x : Str} {v : Value} : ∀ {P : List Str} {vs : List Value} {i : Nat} {m : Str → Option Value}, P.Nodup → P[i]? = some x → vs[i]? = some v → kindOf x = some .local →
    bindL kindOf (P.zip vs) m x = some v
  | [], _, _, _, _, h, _, _ => by simp at h
  | _ :: _, [], _, _, _, _, h, _ => by simp at h
  | p :: P, w :: vs, 0, m, nd, h1, h2, hk => by
    simp at h1 h2; subst h1; subst h2
    show bindL kindOf ((p, w) :: P.zip vs) m p = _
    unfold bindL
    rw [bindL_out fun v hv => (List.nodup_cons.mp nd).1 (List.of_mem_zip hv).1, if_pos hk]
    simp
  | p :: P, w :: vs, i + 1, m, nd, h1, h2, hk => by
    show bindL kindOf ((p, w) :: P.zip vs) m x = _
    unfold bindL
    exact bindL_get (i := i) (List.nodup_cons.mp nd).2 (by simpa using h1) (by simpa using h2) hk
theorem bindC_get {kindOf : Str → Option NameKind} {x : Str} {v : Value} : ∀ {P : List Str} {vs : List Value} {i : Nat} {m : Str → Option Value}, P.Nodup → P[i]? = some x → vs[i]? = some v → kindOf x ≠ some .local →
    bindC kindOf (P.zip vs) m x = some v
  | [], _, _, _, _, h, _, _ => by simp at h
  | _ :: _, [], _, _, _, _, h, _ => by simp at h
  | p :: P, w :: vs, 0, m, nd, h1, h2, hk => by
    simp at h1 h2; subst h1; subst h2
    show bindC kindOf ((p, w) :: P.zip vs) m p = _
    unfold bindC
    rw [bindC_out fun v hv => (List.nodup_cons.mp nd).1 (List.of_mem_zip hv).1, if_neg hk]
    simp
  | p :: P, w :: vs, i + 1, m, nd, h1, h2, hk => by
    show bindC kindOf ((p, w) :: P.zip vs) m x = _
    unfold bindC
    exact bindC_get (i := i) (List.nodup_cons.mp nd).2 (by simpa using h1) (by simpa using h2) hk

def start (N : List Str) (vs : List V) : St := vs.map some ++ List.replicate (N.length - vs.length) none

def cxOf (CX : CXT) (P : Program) (w : World) (K : PySem.W.Frag) (mg : Str → Option Value) (base : Heap) (N : List Str) (qual : Str) (scope : Scope) (f : Addr) (cd : Value) (A : Around) (outer : List Env) (s : Shared) (H : Hp) (E : XK) : Cx where
  prog := P
  w := w
  K := K
  mg := mg
  base := base
  A := A.deeper (envOfC qual scope s.heap.objs.size f cd)
  N := N
  s₀ := s
  H₀ := H
  env := envOfC qual scope s.heap.objs.size f cd
  outer := outer
  stack := envOfC qual scope s.heap.objs.size f cd :: outer
  ex := []
  calm := true
  fn := fun _ => true
  pn := []
  xe := fun e s' => wpAny (model P w) (A.deeper (envOfC qual scope s.heap.objs.size f cd)) (leaving (envOfC qual scope s.heap.objs.size f cd) e) (fun _ s'' => CX outer H s E e s'') (fun e' s'' => CX outer H s E e' s'') s'

theorem cell_has {sc : Scope} {n : Nat} {x : Str} (h : sc.names.lookup x = some .cell) : ∃ c, (cellsFrom n sc.names []).lookup x = some c := by
  have q := PySem.W.cellsFrom_some sc.names n [] (.inl h)
  exact Option.isSome_iff_exists.mp q

theorem inv_start {CX : CXT} {P : Program} {w : World} {K : PySem.W.Frag} {mg : Str → Option Value} {base : Heap} {N ps : List Str} {qual : Str} {scope : Scope} {f : Addr} {cd : Value} {A : Around} {outer : List Env} {s s1 : Shared} {H : Hp} {E : XK} {us : List Value} {vs : List V}
    (S : FnScope N ps scope) (hd : A.handled = none) (e0 : Env0 P w K mg base A outer s H) (hl : vs.length = ps.length) (r : Vals vs us)
    (x : InCallC s s.heap.objs.size (bindL (envOfC qual scope s.heap.objs.size f cd).kindOf (ps.zip us) fun _ => none) (cellsFrom (s.heap.objs.size + 1) scope.names []) (bindC (envOfC qual scope s.heap.objs.size f cd).kindOf (ps.zip us) fun _ => none) s1) :
    Inv (cxOf CX P w K mg base N qual scope f cd A outer s H E) [] (start N vs) H s1 := by
  have hpl : ps.length ≤ N.length := by have := congrArg List.length S.pre; rw [List.length_take] at this; omega
  obtain ⟨h1, tk, rfl, hk⟩ := x.done
  have noA : ∀ b : Addr, b ∉ (cxOf CX P w K mg base N qual scope f cd A outer s H E).ex := fun b z => absurd (show b ∈ ([] : List Addr) from z) (by simp)
  refine ⟨⟨e0.mod, S.kind, rfl, rfl, Nat.le_refl _, fun y z c h1 h2 => ?_, fun y hy => ?_, fun y c _ h => ?_, fun _ => hd, Around.frames_deeper e0.frames, .inr ⟨rfl, rfl⟩, fun b z => absurd z (noA b), e0.bs, e0.bsz, fun b _ _ => noA b, fun b z => absurd z (noA b), e0.funs, e0.frf⟩,
    rfl, e0.bare, Un.kept hk, ⟨_, x.toInCall.ns, fun i y v h1 h2 h3 => ?_⟩, fun y c h => ⟨_, x.cell y c h⟩, e0.hok.fresh (Nat.le_refl _), fun y c h => ?_, fun p hp => absurd (show p ∈ ([] : List (Addr × Obj)) from hp) (by simp), e0.hok.kept hk, ?_⟩
  · exact name_of_addr x.apart (PySem.mem_of_lookup h1) (PySem.mem_of_lookup h2)
  · have hy : scope.names.lookup y = some .cell ∨ scope.names.lookup y = some .free := hy
    rcases hy with hy | hy
    · exact cell_has hy
    · exact absurd rfl (S.nofree _ (PySem.mem_of_lookup hy))
  · exact Nat.le_of_lt (x.above y c (PySem.mem_of_lookup h))
  · have hi : i < vs.length := by
      unfold start at h2
      by_cases hi : i < vs.length
      · exact hi
      · rw [List.getElem?_append_right (by simpa using hi)] at h2
        rw [List.getElem?_replicate] at h2
        split at h2 <;> cases h2
    have ha : vs[i]? = some v := by
      unfold start at h2
      rw [List.getElem?_append_left (by simpa using hi), List.getElem?_map] at h2
      cases e : vs[i]? with
      | none => rw [e] at h2; cases h2
      | some a => rw [e] at h2; cases h2; rfl
    obtain ⟨u, hu, rv⟩ := r.get ha
    have hp : ps[i]? = some y := by
      rw [← S.pre, List.getElem?_take_of_lt (by omega)]; exact h1
    have ndP : ps.Nodup := by rw [← S.pre]; exact S.nd.sublist (List.take_sublist _ _)
    refine ⟨u, rv, ?_⟩
    rcases S.par y (List.mem_of_getElem? hp) with k | k
    · exact .inl ⟨k, bindL_get ndP hp hu k⟩
    · obtain ⟨c, e⟩ := cell_has (n := s.heap.objs.size + 1) k
      refine .inr ⟨.inl k, c, e, ?_⟩
      have q := x.cell y c e
      rw [bindC_get ndP hp hu (by show scope.names.lookup y ≠ _; rw [k]; decide)] at q
      exact q
  · exact e0.hok.fresh (Nat.le_of_lt (x.above y c (PySem.mem_of_lookup h)))
  · unfold start
    show _ = N.length
    rw [List.length_append, List.length_map, List.length_replicate]
    omega

theorem fn_of {CX : CXT} {P : Program} {w : World} {K : PySem.W.Frag} {mg : Str → Option Value} {base : Heap} {k : Nat} {f : Addr} {name qual : Str} {params : Arguments} {body : List Stmt} {scope : Scope} {dV kV doc pm cdv ct oc : Value} {an od : Option Addr}
    {osl : Array (Option Value)} {N ps : List Str} {sp : Sp} (lk : K.lookup f = some ⟨oc, od, .func (PySem.W.fnOf name qual params body scope dV kV doc pm an cdv ct), osl⟩) (hcd : PySem.W.codeIn K cdv qual = true) (S : FnScope N ps scope)
    (len : ∀ vs H Q E, sp vs H Q E → vs.length = ps.length)
    (hbody : ∀ (A : Around) (outer : List Env) (s : Shared) (H : Hp) (vs : List V) (Q : VK) (E : XK), Room k (A.deeper (envOfC qual scope s.heap.objs.size f cdv)) → sp vs H Q E →
      ∃ t, PSs (cxOf CX P w K mg base N qual scope f cdv A outer s H E) body t ∧ t { nx := fun _ H' => Q .non H', rt := Q } (start N vs) H) :
    FnOk P w K mg base CX (k + 1) f (PySem.W.fnOf name qual params body scope dV kV doc pm an cdv ct) ps sp := by
  refine ⟨len, fun A outer s H args us vs Q E hr e0 hb r hsp => ?_⟩
  have hl := len _ _ _ _ hsp
  have KX : K.In s.heap := e0.mod.kin.keeps fun b o e => (e0.bs b o e).1
  have lim : s.heap.NoLimit := e0.mod.nolimit.keeps fun b o e => (e0.bs b o e).1
  have hkind : ∀ y ∈ ps.zip us, scope.names.lookup y.1 = some .local ∨ (scope.names.lookup y.1 = some .cell ∧ ((cellsFrom (s.heap.objs.size + 1) scope.names []).lookup y.1).isSome = true) := fun ⟨n, v⟩ hy => by
    rcases S.par n (List.of_mem_zip hy).1 with q | q
    · exact .inl q
    · exact .inr ⟨q, PySem.W.cellsFrom_some _ _ _ (.inl q)⟩
  refine codeAny_call_function hr.depth (KX _ _ lk) rfl S.co S.gen rfl (PySem.W.codeRec_of KX hcd) (hb _ _ _ _ ?_)
  refine wpAny_newFunctionEnv_cells S.kind hkind fun env he s1 x => ?_
  subst he
  refine ⟨lim.keeps x.toInCall.keep, codeAny_func ?_⟩
  obtain ⟨t, ht, hq⟩ := hbody A outer s H vs Q E (hr.deeper _) hsp
  have I : Inv (cxOf CX P w K mg base N qual scope f cdv A outer s H E) [] (start N vs) H s1 := inv_start S hr.hd e0 hl r x
  refine wpAny_mono (ht [] s1 (start N vs) H _ I hq) (fun fl s' hs => ?_) fun e s' hs => hs
  have fin : ∀ {σ' : St} {H' : Hp} {v : V} {u : Value}, Inv (cxOf CX P w K mg base N qual scope f cdv A outer s H E) [] σ' H' s' → RelV v u → Q v H' → CE outer P w H s Q u s' :=
    fun {σ' H' v u} J rv q => ⟨v, H', J.os, J.bare, J.base, J.hok, rv, q⟩
  cases fl with
  | ret u =>
    obtain ⟨v, σ', H', J, rv, q⟩ := hs
    exact fin J rv q
  | next =>
    obtain ⟨σ', H', J, q⟩ := hs
    exact fin (v := V.non) (u := Value.none) J rfl q
  | brk =>
    obtain ⟨_, _, _, q⟩ := hs
    exact False.elim q
  | cont =>
    obtain ⟨_, _, _, q⟩ := hs
    exact False.elim q
end L2

namespace L2
open PySem PySem.Spec PyProof.Rows
section
variable {X : Cx} {x : Str} {p pos : Pos} {e : Expr} {es : List Expr} {t : TA} {id T : String} {r : List V → Hp → VK → Prop}

def tCB (r : List V → Hp → VK → Prop) (t : TA) : TE := fun σ H Q => t σ H fun vs H1 => r vs H1 Q
theorem pe_callB (hc : CallR X (.builtin id) r) (hg : Gl X x) (hm : X.mg x = none) (hv : bootBuiltins x = some (.builtin id)) (ha : PA X (e :: es) t) (hn : x ≠ "__name__" := by decide) (hdb : (x == ("__debug__" : Str)) = false := by decide)
    (he : starEach (e :: es) X.env = (false, eval e X.env) :: starEach es X.env := by rfl) (hpl : (backTo pos (starEach es X.env)).any (·.1) = false := by rfl) : PE X (.Call (.Name x p) (e :: es) [] pos) (tCB r t) := by
  intro pins s σ H Q I h
  refine wpAny_Call_Name_kw (ld_blt I hg hm hv ?_ hn hdb)
  exact PyProof.Rows.callWith_builtin1 (thn (ha pos pins s σ H _ I h) fun us s1 ⟨vs, H1, I1, r1, q1⟩ => hc pins s1 σ H1 vs us Q I1 r1 q1) he hpl
theorem pe_callTy (hc : CallR X (.type T) r) (hg : Gl X x) (hm : X.mg x = none) (hv : bootBuiltins x = some (.type T)) (ha : PA X (e :: es) t) (hn : x ≠ "__name__" := by decide) (hdb : (x == ("__debug__" : Str)) = false := by decide)
    (he : starEach (e :: es) X.env = (false, eval e X.env) :: starEach es X.env := by rfl) (hpl : (backTo pos (starEach es X.env)).any (·.1) = false := by rfl) : PE X (.Call (.Name x p) (e :: es) [] pos) (tCB r t) := by
  intro pins s σ H Q I h
  refine wpAny_Call_Name_kw (ld_blt I hg hm hv ?_ hn hdb)
  exact PyProof.Rows.callWith_type1 (thn (ha pos pins s σ H _ I h) fun us s1 ⟨vs, H1, I1, r1, q1⟩ => hc pins s1 σ H1 vs us Q I1 r1 q1) he hpl
end
end L2

namespace HT
open PySem PyProof.Rows

section
open PySem.SeqAt
open PySem.AutoSeq1 (wpAny_loadPart')
open PySem.MeetsSeq PySem.MeetsSeq2 PySem.MeetsSeq3

end

section
variable {prog : Program} {w : World} {A : Around} {E : Value → Shared → Prop} {s : Shared}

def sIx (n d : Nat) : Option Int → Nat
  | none => d
  | some v => if v < 0 then (v + (n : Int)).toNat else min v.toNat n
theorem sIx_nat (n d k : Nat) : sIx n d (some (k : Int)) = min k n := by
  show (if (k : Int) < 0 then ((k : Int) + (n : Int)).toNat else min (k : Int).toNat n) = min k n
  rw [if_neg (by omega), Int.toNat_natCast]
theorem sIx_le (n d : Nat) (hd : d ≤ n) (o : Option Int) : sIx n d o ≤ n := by
  cases o with
  | none => exact hd
  | some v =>
    show (if v < 0 then (v + (n : Int)).toNat else min v.toNat n) ≤ n
    by_cases hv : v < 0
    · rw [if_pos hv]; omega
    · rw [if_neg hv]; exact Nat.min_le_right _ _
end
end HT

namespace L2
open PySem PySem.Spec PyProof.Rows

abbrev TO := St → Hp → (Option Int → Hp → Prop) → Prop
def PO (X : Cx) (e : Option Expr) (t : TO) : Prop :=
  ∀ (pins : List (Addr × Obj)) (s : Shared) (σ : St) (H : Hp) (Q : Option Int → Hp → Prop), Inv X pins σ H s → t σ H Q →
    wpAny (model X.prog X.w) X.A (evalPart e X.env) (fun u s' => ∃ o H', Inv X pins σ H' s' ∧ IsPart u o ∧ Q o H') X.xe s
def tNoPart : TO := fun _ H Q => Q none H
def tPart (t : TE) : TO := fun σ H Q => t σ H fun x H1 => ∃ i, x = .int i ∧ Q (some i) H1

theorem intsAre_of {ns : List Int} : ∀ {us : List Value}, Vals (ns.map V.int) us → IntsAre us ns := by
  induction ns with
  | nil => intro us r; rw [List.map_nil] at r; cases r; exact .nil
  | cons n ns ih =>
    intro us r
    rw [List.map_cons] at r
    cases r with
    | cons r1 r2 =>
      obtain ⟨t, e⟩ := r1
      subst e
      exact .cons n t (ih r2)

section
variable {X : Cx} {e : Expr} {te : TE} {lo hi : Option Expr} {tl th : TO} {pos p2 : Pos}

theorem po_none : PO X none tNoPart := by
  intro pins s σ H Q I h
  rw [evalPart_none]
  exact wpAny_pure ⟨none, H, I, .none, h⟩
theorem po_some (h : PE X e te) : PO X (some e) (tPart te) := by
  intro pins s σ H Q I hw
  rw [evalPart_some]
  refine thn (h pins s σ H _ I hw) fun u s1 ⟨x, H1, I1, r1, q1⟩ => ?_
  obtain ⟨i, rfl, q⟩ := q1
  obtain ⟨t, rfl⟩ := r1
  exact ⟨some i, H1, I1, .int i t, q⟩

def SlR (X : Cx) (r : V → Option Int → Option Int → Hp → VK → Prop) : Prop :=
  ∀ (pins : List (Addr × Obj)) (s : Shared) (σ : St) (H : Hp) (x : V) (v vl vu : Value) (lo hi : Option Int) (sl : Addr) (Q : VK), Inv X pins σ H s → RelV x v → s.heap.IsSliceOf sl vl vu .none → IsPart vl lo → IsPart vu hi → r x lo hi H Q →
    ∃ T id, typeLookup (.type T) "__getitem__" = pure (some (.builtin id)) ∧ s.TypeIs v T ∧ wpAny (model X.prog X.w) X.A (getItem v (.ref sl)) (EP X pins σ Q) X.xe s
def tSl (r : V → Option Int → Option Int → Hp → VK → Prop) (te : TE) (tl th : TO) : TE := fun σ H Q => te σ H fun x H1 => tl σ H1 fun l H2 => th σ H2 fun u H3 => r x l u H3 Q
theorem pe_slice {r : V → Option Int → Option Int → Hp → VK → Prop} (hr : SlR X r) (he : PE X e te) (hl : PO X lo tl) (hu : PO X hi th) : PE X (.Subscript e (.Slice lo hi none p2) pos) (tSl r te tl th) := by
  intro pins s σ H Q I h
  refine Subscript_ (thn (he pins s σ H _ I h) fun v s1 ⟨x, H1, I1, r1, q1⟩ => ?_)
  refine wpAny_Slice (thn (hl pins s1 σ H1 _ I1 q1) fun vl s2 ⟨l, H2, I2, pl, q2⟩ => thn (hu pins s2 σ H2 _ I2 q2) fun vu s3 ⟨u, H3, I3, pu, q3⟩ => ?_)
  rw [evalPart_none]
  refine wpAny_pure ?_
  have I4 : Inv X pins σ H3 { s3 with heap := s3.heap.push { cls := .type "slice", data := .fields #[vl, vu, .none] } } := I3.kept (t' := s3.toks) fun b ob q => Heap.get?_push_of_some _ q
  obtain ⟨T, id, hT, ht, hg⟩ := hr pins { s3 with heap := s3.heap.push { cls := .type "slice", data := .fields #[vl, vu, .none] } } σ H3 x v vl vu l u s3.heap.objs.size Q I4 r1 (Heap.IsSliceOf.new ..) pl pu q3
  show wpAny (model X.prog X.w) X.A (subscriptTail e (.Slice lo hi none p2) v (.ref s3.heap.objs.size)) (EP X pins σ Q) X.xe { s3 with heap := s3.heap.push { cls := .type "slice", data := .fields #[vl, vu, .none] } }
  exact tail_any (ops := [.ref s3.heap.objs.size, v]) ht hT hg (by with_unfolding_all rfl)

def cutV (xs : List V) (lo hi : Option Int) : List V := (xs.drop (HT.sIx xs.length 0 lo)).take (HT.sIx xs.length xs.length hi - HT.sIx xs.length 0 lo)
theorem cutV_length (xs : List V) (lo hi : Option Int) : (cutV xs lo hi).length ≤ xs.length := by
  unfold cutV
  rw [List.length_take, List.length_drop]
  omega
end
end L2

namespace L2
open PySem PySem.Spec PyProof.Rows

def ixN (n : Nat) (i : Int) : Option Nat := if 0 ≤ i then (if i < n then some i.toNat else none) else if -(n : Int) ≤ i then some (i + n).toNat else none
def atI {α : Type} (xs : List α) (i : Int) : Option α := (ixN xs.length i).bind fun j => xs[j]?
theorem ixN_seq {n : Nat} {i : Int} {j : Nat} (h : ixN n i = some j) : seqIndex? i n = some j ∧ j < n ∧ -(n : Int) ≤ i ∧ i < n := by
  unfold ixN at h
  by_cases h0 : 0 ≤ i
  · rw [if_pos h0] at h
    by_cases h1 : i < n
    · rw [if_pos h1] at h
      have e : i.toNat = j := Option.some.inj h
      exact ⟨by rw [seqIndex_of h0 h1, e], by omega, by omega, h1⟩
    · rw [if_neg h1] at h; cases h
  · rw [if_neg h0] at h
    by_cases h1 : -(n : Int) ≤ i
    · rw [if_pos h1] at h
      have e : (i + n).toNat = j := Option.some.inj h
      exact ⟨by rw [seqIndex_neg (by omega) h1, e], by omega, h1, by omega⟩
    · rw [if_neg h1] at h; cases h
theorem atI_get {α : Type} {xs : List α} {i : Int} {v : α} (h : atI xs i = some v) : ∃ j, seqIndex? i xs.length = some j ∧ xs[j]? = some v ∧ j < xs.length ∧ -(xs.length : Int) ≤ i ∧ i < xs.length := by
  unfold atI at h
  cases e : ixN xs.length i with
  | none => rw [e] at h; cases h
  | some j =>
    rw [e] at h
    obtain ⟨h1, h2, h3, h4⟩ := ixN_seq e
    exact ⟨j, h1, h, h2, h3, h4⟩
theorem atI_nat {α : Type} {xs : List α} {j : Nat} {v : α} (h : xs[j]? = some v) : atI xs (j : Int) = some v := by
  have hj : j < xs.length := (List.getElem?_eq_some_iff.mp h).1
  have e : ixN xs.length (j : Int) = some j := by
    unfold ixN
    rw [if_pos (by omega), if_pos (by omega)]; simp
  unfold atI; rw [e]; exact h
theorem atI_last {α : Type} (xs : List α) (v : α) : atI (xs ++ [v]) (-1) = some v := by
  have hl : (xs ++ [v]).length = xs.length + 1 := by simp
  have e : ixN (xs ++ [v]).length (-1) = some xs.length := by
    unfold ixN
    rw [hl, if_neg (by decide), if_pos (by omega)]
    congr 1
    omega
  unfold atI
  rw [e]
  show (xs ++ [v])[xs.length]? = some v
  simp

def PlainIx (b : Expr) : Prop := ∀ o i, subscripted b false o i = operate [o, i] (getItem o i)
def IxR (X : Cx) (r : R2) : Prop :=
  ∀ (value slice : Expr) (pins : List (Addr × Obj)) (s : Shared) (σ : St) (H : Hp) (x y : V) (v u : Value) (Q : VK), Inv X pins σ H s → RelV x v → RelV y u → r x y H Q →
    subscripted slice false v u = operate [v, u] (getItem v u) → wpAny (model X.prog X.w) X.A (subscriptTail value slice v u) (EP X pins σ Q) X.xe s
def MtR (X : Cx) (id : String) (r : V → List V → Hp → VK → Prop) : Prop :=
  ∀ (pins : List (Addr × Obj)) (s : Shared) (σ : St) (H : Hp) (x : V) (xs : List V) (v : Value) (us : List Value) (Q : VK), Inv X pins σ H s → RelV x v → Vals xs us → r x xs H Q →
    wpAny (model X.prog X.w) X.A (call (.builtin id) (v :: us)) (EP X pins σ Q) X.xe s
section
variable {X : Cx} {a b : Expr} {ta tb : TE} {pos : Pos}
theorem pe_ix {r : R2} (hr : IxR X r) (ha : PE X a ta) (hb : PE X b tb) (hs : PlainIx b) : PE X (.Subscript a b pos) (tOp r ta tb) := by
  intro pins s σ H Q I h
  exact Subscript_ (binT ha hb I h fun v u s2 x y H2 I2 rx ry q => hr a b pins s2 σ H2 x y v u Q I2 rx ry q (hs _ _))

def rIxL (K : PySem.W.Frag) : R2 := fun x y H Q => ∃ p xs i v, x = .ref p ∧ y = .int i ∧ SqL K H p xs ∧ atI xs i = some v ∧ Q v H
def rIxT (K : PySem.W.Frag) : R2 := fun x y H Q => ∃ p xs i v, x = .ref p ∧ y = .int i ∧ SqT K H p xs ∧ atI xs i = some v ∧ Q v H
theorem ix_list : IxR X (rIxL X.K) := by
  intro value slice pins s σ H x y v u Q I rx ry h hs
  obtain ⟨p, xs, i, z, rfl, rfl, hq, he, q⟩ := h
  cases rx
  obtain ⟨t, rfl⟩ := ry
  obtain ⟨its, r, pl, hz⟩ := I.list hq
  obtain ⟨j, h1, h2, h3, h4, h5⟩ := atI_get he
  obtain ⟨w, ew, rw'⟩ := r.get h2
  have hl := r.length
  have hn := line63
  have fin : EP X pins σ Q w s := ⟨z, H, I, rw', q⟩
  by_cases h0 : 0 ≤ i
  · have hj : i.toNat = j := by
      rw [seqIndex_of h0 h5] at h1
      exact Option.some.inj h1
    exact item_listR pl.isList h0 (by omega) (by rw [hj]; simpa using ew) fin hs
  · have hj : (i + (its.toArray.size : Int)).toNat = j := by
      rw [seqIndex_neg (by omega) h4] at h1
      rw [List.size_toArray, ← hl]
      exact Option.some.inj h1
    exact subscriptTail_builtinR (x := w) pl.isList.typeIs slot_list_getitem.lookup
      (wpAny_getItem_list_neg (Q := fun r s' => r = w ∧ EP X pins σ Q r s') pl.isList (by omega) (by rw [List.size_toArray] <;> omega) (by omega) (by rw [hj]; simpa using ew) ⟨rfl, fin⟩) hs
theorem ix_tup : IxR X (rIxT X.K) := by
  intro value slice pins s σ H x y v u Q I rx ry h hs
  obtain ⟨p, xs, i, z, rfl, rfl, hq, he, q⟩ := h
  cases rx
  obtain ⟨t, rfl⟩ := ry
  obtain ⟨its, r, pl, hz⟩ := I.tuple hq
  obtain ⟨j, h1, h2, h3, h4, h5⟩ := atI_get he
  obtain ⟨w, ew, rw'⟩ := r.get h2
  have hl := r.length
  have hn := line63
  have fin : EP X pins σ Q w s := ⟨z, H, I, rw', q⟩
  exact subscriptTail_builtinR (x := w) pl.typeIs slot_tuple_getitem.lookup
    (getItem_tuple (j := j) (Q := fun r s' => r = w ∧ EP X pins σ Q r s') pl (by omega) (by omega) (by rw [List.size_toArray, ← hl]; exact h1) (by simpa using ew) ⟨rfl, fin⟩) hs
theorem Inv.lst {pins : List (Addr × Obj)} {σ : St} {H : Hp} {s : Shared} {p : Addr} {xs : List V} (I : Inv X pins σ H s) (h : H p = some (.lst xs)) :
    ∃ (its : List Value) (n : Nat), Vals xs its ∧ s.heap.get? p = some { cls := .type "list", data := .seq its.toArray n } ∧ xs.length ≤ sizeLine := by
  obtain ⟨z, its, n, r, e⟩ := I.hok p _ h
  exact ⟨its, n, r, e, z⟩
theorem slice_bounds (lo hi : Option Int) (n : Nat) : (sliceBounds lo hi none n).1 = ((HT.sIx n 0 lo : Nat) : Int) ∧ (sliceBounds lo hi none n).2.1 = ((HT.sIx n n hi : Nat) : Int) ∧ (sliceBounds lo hi none n).2.2 = 1 := by
  refine ⟨?_, ?_, rfl⟩
  · cases lo with
    | none => simp [sliceBounds, HT.sIx]
    | some i =>
      simp only [sliceBounds, HT.sIx, Option.getD_none, show (1 : Int) > 0 by decide, if_true]
      by_cases h : i < 0
      · simp only [h, if_true] <;> omega
      · simp only [h, if_false] <;> omega
  · cases hi with
    | none => simp [sliceBounds, HT.sIx]
    | some i =>
      simp only [sliceBounds, HT.sIx, Option.getD_none, show (1 : Int) > 0 by decide, if_true]
      by_cases h : i < 0
      · simp only [h, if_true] <;> omega
      · simp only [h, if_false] <;> omega
theorem slicePick_cut (its : List Value) (lo hi : Option Int) : slicePick its.toArray lo hi none = ((its.drop (HT.sIx its.length 0 lo)).take (HT.sIx its.length its.length hi - HT.sIx its.length 0 lo)).toArray := by
  obtain ⟨h1, h2, h3⟩ := slice_bounds lo hi its.toArray.size
  unfold slicePick
  rw [h1, h2, h3]
  simp only [sliceRange_one, pick_run, List.size_toArray] <;> rfl
def rSlL (K : PySem.W.Frag) : V → Option Int → Option Int → Hp → VK → Prop := fun x lo hi H Q => ∃ a xs, x = .ref a ∧ SqL K H a xs ∧ ∀ p, H p = none → Q (.ref p) (upd H p (.lst (cutV xs lo hi)))
theorem sl_list : SlR X (rSlL X.K) := by
  intro pins s σ H x v vl vu lo hi sl Q I rx hs pl pu h
  obtain ⟨a, xs, rfl, hx, q⟩ := h
  cases rx
  obtain ⟨its, r, ht, hz⟩ := I.list hx
  have hlen := r.length
  refine ⟨"list", _, slot_list_getitem.lookup, ht.isList.typeIs, ?_⟩
  refine wpAny_getItem_list_slice ht.isList hs pl pu .none (by simp) ?_ (by rw [List.size_toArray] <;> omega)
  rw [slicePick_cut, ← hlen]
  refine ⟨.ref s.heap.objs.size, _, I.laid (t' := s.toks) (o := .lst (cutV xs lo hi)) (fun b ob q => Heap.get?_push_of_some _ q) (Nat.le_refl _) ?_, rfl, q _ (I.hok.fresh (Nat.le_refl _))⟩
  exact ⟨Nat.le_trans (cutV_length xs lo hi) hz, _, 0, (r.drop (HT.sIx xs.length 0 lo)).take (HT.sIx xs.length xs.length hi - HT.sIx xs.length 0 lo), Heap.get?_push_size _ rfl⟩

def flatV : V → Bool
  | .non => true
  | .bl _ => true
  | .int _ => true
  | .str _ => true
  | _ => false
def eqV : V → V → Bool
  | .non, .non => true
  | .bl a, .bl b => a == b
  | .bl a, .int b => (if a then 1 else 0) == b
  | .int a, .bl b => a == (if b then 1 else 0)
  | .int a, .int b => a == b
  | .str a, .str b => a == b
  | _, _ => false
theorem eqAt_V {A : Around} {s : Shared} {y x : V} {u v : Value} (ry : RelV y u) (rx : RelV x v) (fy : flatV y = true) (fx : flatV x = true) : SeqAt.EqAt A s u v (eqV y x) := by
  cases y with
  | non =>
    cases ry
    cases x with
    | non => cases rx; exact SeqAt.EqAt.same _
    | bl b => cases rx; exact SeqAt.EqAt.none_bool b
    | int b => obtain ⟨t, rfl⟩ := rx; exact SeqAt.EqAt.none_int b t
    | str b => obtain ⟨t, rfl⟩ := rx; exact SeqAt.EqAt.none_str b t
    | _ => exact absurd (show false = true from fx) Bool.false_ne_true
  | bl a =>
    cases ry
    cases x with
    | non => cases rx; exact SeqAt.EqAt.bool_none a
    | bl b => cases rx; exact SeqAt.EqAt.bool_bool a b
    | int b => obtain ⟨t, rfl⟩ := rx; exact SeqAt.EqAt.bool_int a b t
    | str b => obtain ⟨t, rfl⟩ := rx; exact SeqAt.EqAt.bool_str a b t
    | _ => exact absurd (show false = true from fx) Bool.false_ne_true
  | int a =>
    obtain ⟨t', rfl⟩ := ry
    cases x with
    | non => cases rx; exact SeqAt.EqAt.int_none a t'
    | bl b => cases rx; exact SeqAt.EqAt.int_bool a t' b
    | int b => obtain ⟨t, rfl⟩ := rx; exact SeqAt.EqAt.int_int a t' b t
    | str b => obtain ⟨t, rfl⟩ := rx; exact SeqAt.EqAt.int_str a t' b t
    | _ => exact absurd (show false = true from fx) Bool.false_ne_true
  | str a =>
    obtain ⟨t', rfl⟩ := ry
    cases x with
    | non => cases rx; exact SeqAt.EqAt.str_none a t'
    | bl b => cases rx; exact SeqAt.EqAt.str_bool a t' b
    | int b => obtain ⟨t, rfl⟩ := rx; exact SeqAt.EqAt.str_int a t' b t
    | str b => obtain ⟨t, rfl⟩ := rx; exact SeqAt.EqAt.str_str a t' b t
    | _ => exact absurd (show false = true from fx) Bool.false_ne_true
  | _ => exact absurd (show false = true from fy) Bool.false_ne_true
def eqU (x : V) (u : Value) : Bool := match u with
  | .none => eqV .non x
  | .bool b => eqV (.bl b) x
  | .int i _ => eqV (.int i) x
  | .str z _ => eqV (.str z) x
  | _ => false
theorem eqU_of {x y : V} {u : Value} (r : RelV y u) (f : flatV y = true) : eqU x u = eqV y x := by
  cases y with
  | non => cases r; rfl
  | bl b => cases r; rfl
  | int i => obtain ⟨t, rfl⟩ := r; rfl
  | str z => obtain ⟨t, rfl⟩ := r; rfl
  | _ => exact absurd (show false = true from f) Bool.false_ne_true
theorem mem_eqAt {A : Around} {s : Shared} {x : V} {v : Value} (rx : RelV x v) (fx : flatV x = true) : ∀ {xs : List V} {us : List Value}, Vals xs us → xs.all flatV = true → ∀ u ∈ us, SeqAt.EqAt A s u v (eqU x u)
  | _, _, .nil, _ => fun u hu => by cases hu
  | y :: xs, u :: us, .cons r t, f => fun u' hu => by
    rw [List.all_cons, Bool.and_eq_true] at f
    rcases List.mem_cons.mp hu with rfl | hu
    · rw [eqU_of r f.1]; exact eqAt_V r rx f.1 fx
    · exact mem_eqAt rx fx t f.2 u' hu
theorem op_notIn_str : OpR X (compareOp .NotIn) (fun x y H Q => ∃ i j, x = .str i ∧ y = .str j ∧ Q (.bl (!(!(Builtin.Str.occurrences j i 0 j.length 1).isEmpty))) H) := by
  intro pins s σ H x y v u Q I rx ry h
  obtain ⟨i, j, rfl, rfl, q⟩ := h
  obtain ⟨t, rfl⟩ := rx
  obtain ⟨t', rfl⟩ := ry
  exact notIn_str ⟨.bl _, H, I, rfl, q⟩

theorem call_len_seq : CallR X (.builtin "len") (fun xs H Q => ∃ p ys, xs = [.ref p] ∧ (SqL X.K H p ys ∨ SqT X.K H p ys) ∧ Q (.int ys.length) H) := by
  intro pins s σ H xs us Q I r h
  obtain ⟨p, ys, rfl, hq, q⟩ := h
  obtain ⟨u, rfl, rx⟩ := vals1 r
  cases rx
  have hn := line63
  rcases hq with hq | hq
  · obtain ⟨its, r', pl, hz⟩ := I.list hq
    have hlen := r'.length
    exact Calls.call_len_list pl.isList (by simp only [List.size_toArray] <;> omega) ⟨.int ys.length, H, I.tok _, ⟨s.toks + 1, by rw [List.size_toArray, hlen]⟩, q⟩
  · obtain ⟨its, r', pl, hz⟩ := I.tuple hq
    have hlen := r'.length
    exact len_tuple pl (by simp only [List.size_toArray] <;> omega) ⟨.int ys.length, H, I.tok _, ⟨s.toks + 1, by rw [List.size_toArray, hlen]⟩, q⟩
theorem call_len_str : CallR X (.builtin "len") (fun xs H Q => ∃ z, xs = [.str z] ∧ z.length ≤ sizeLine ∧ Q (.int z.length) H) := by
  intro pins s σ H xs us Q I r h
  obtain ⟨z, rfl, hz, q⟩ := h
  obtain ⟨u, rfl, t, rfl⟩ := vals1 r
  have hn := line63
  exact len_str (by omega) ⟨.int z.length, H, I.tok _, ⟨_, rfl⟩, q⟩
theorem call_list_of : CallR X (.type "list") (fun xs H Q => ∃ p ys, xs = [.ref p] ∧ (SqL X.K H p ys ∨ SqT X.K H p ys) ∧ ∀ l, H l = none → Q (.ref l) (upd H l (.lst ys))) := by
  intro pins s σ H xs us Q I r h
  obtain ⟨p, ys, rfl, hq, q⟩ := h
  obtain ⟨u, rfl, rx⟩ := vals1 r
  cases rx
  have fin : ∀ (its : List Value), Vals ys its → ys.length ≤ sizeLine → ∀ (h' : Heap) (c' : Nat), (∀ b o', s.heap.get? b = some o' → h'.get? b = some o') →
      h'.get? s.heap.objs.size = some { cls := .type "list", dict := none, data := .seq its.toArray c', slots := #[] } → EP X pins σ Q (.ref s.heap.objs.size) { s with heap := h' } := fun its r' hz h' c' kp e =>
    ⟨.ref s.heap.objs.size, _, I.laid (t' := s.toks) kp (Nat.le_refl _) (show ObjOk X.prog X.w _ h' _ (.lst ys) from ⟨hz, its, c', r', e⟩), rfl, q _ (I.hok.fresh (Nat.le_refl _))⟩
  rcases hq with hq | hq
  · obtain ⟨its, r', pl, hz⟩ := I.list hq
    have hlen := r'.length
    obtain ⟨o, ho, hc, n, hd⟩ := pl.isList
    exact call_list_seq p (.inl rfl) ho hc hd (fun h' c' kp e => fin its r' hz h' c' kp e) (by simp only [List.size_toArray] <;> omega)
  · obtain ⟨its, r', pl, hz⟩ := I.tuple hq
    have hlen := r'.length
    obtain ⟨o, ho, hc, n, hd⟩ := pl
    exact call_list_seq p (.inr rfl) ho hc hd (fun h' c' kp e => fin its r' hz h' c' kp e) (by simp only [List.size_toArray] <;> omega)
def tyV (K : PySem.W.Frag) (T : String) (x : V) (H : Hp) : Prop := match x with
  | .str _ => T = "str"
  | .int _ => T = "int"
  | .ref p => (T = "list" ∧ ∃ xs, SqL K H p xs) ∨ (T = "tuple" ∧ ∃ o, K.lookup p = some o ∧ o.cls = .type "tuple" ∧ o.dict = none) ∨
      (T = "dict" ∧ ((∃ kvs, H p = some (.dK kvs)) ∨ ∃ kvs, H p = some (.dT kvs))) ∨ (T = "set" ∧ ∃ S n, H p = some (.set S n))
  | _ => False
theorem tyV_is {pins : List (Addr × Obj)} {σ : St} {H : Hp} {s : Shared} {T : String} {x : V} {v : Value} (I : Inv X pins σ H s) (r : RelV x v) (ty : tyV X.K T x H) :
    s.TypeIs v T ∧ ∀ a, v = .ref a → ∃ ob, s.heap.get? a = some ob ∧ ob.dict = none := by
  cases x with
  | str z =>
    obtain ⟨t, rfl⟩ := r
    cases (show T = "str" from ty)
    exact ⟨typeIs_str s z t, fun _ e => nomatch e⟩
  | int i =>
    obtain ⟨t, rfl⟩ := r
    cases (show T = "int" from ty)
    exact ⟨typeIs_int s i t, fun _ e => nomatch e⟩
  | ref p =>
    cases r
    rcases ty with ⟨rfl, xs, hq⟩ | ⟨rfl, o, hk, hc, hd⟩ | ⟨rfl, hk⟩ | ⟨rfl, S, n, hk⟩
    · obtain ⟨its, _, pl, _⟩ := I.list hq
      refine ⟨pl.isList.typeIs, fun a e => ?_⟩
      cases e
      obtain ⟨o, n, e, c, hd, _⟩ := pl
      exact ⟨o, e, hd⟩
    · refine ⟨⟨o, I.kIn p o hk, hc⟩, fun a e => ?_⟩
      cases e
      exact ⟨o, I.kIn _ o hk, hd⟩
    · have z : ∃ o, s.heap.get? p = some o ∧ o.ExactDict := by
        rcases hk with ⟨kvs, hk⟩ | ⟨kvs, hk⟩
        · obtain ⟨_, _, _, _, o, _, _, e, ex, _⟩ := I.hok p _ hk
          exact ⟨o, e, ex⟩
        · obtain ⟨_, _, _, _, o, _, _, e, ex, _⟩ := I.hok p _ hk
          exact ⟨o, e, ex⟩
      obtain ⟨o, e, ex⟩ := z
      refine ⟨⟨o, e, ex.1⟩, fun a e2 => ?_⟩
      cases e2
      exact ⟨o, e, ex.2.1⟩
    · obtain ⟨o, _, _, _, e, ex, _⟩ := I.hok p _ hk
      refine ⟨⟨o, e, ex.1⟩, fun a e2 => ?_⟩
      cases e2
      exact ⟨o, e, ex.2.1⟩
  | _ => exact False.elim ty
def tBM0 (K : PySem.W.Frag) (T : String) (r : V → List V → Hp → VK → Prop) (to : TE) : TE := fun σ H Q => to σ H fun x H1 => tyV K T x H1 ∧ r x [] H1 Q
def tBM (K : PySem.W.Frag) (T : String) (r : V → List V → Hp → VK → Prop) (to : TE) (t : TA) : TE := fun σ H Q => to σ H fun x H1 => tyV K T x H1 ∧ t σ H1 fun xs H2 => r x xs H2 Q
variable {o e : Expr} {es : List Expr} {to : TE} {t : TA} {name : Str} {apos cpos : Pos} {T id : String} {r : V → List V → Hp → VK → Prop}
theorem pe_bm0 (pa : PlainAttrs T) (slot : Slot T name id) (hty : typeOf (.builtin id) = pure (.type "method_descriptor")) (hm : MtR X id r) (ho : PE X o to)
    (hbase : attributeBase o name X.env (eval o X.env) = eval o X.env := by rfl) (hline : (apos.endLine == cpos.line) = true := by rfl) : PE X (.Call (.Attribute o name apos) [] [] cpos) (tBM0 X.K T r to) := by
  intro pins s σ H Q I h
  refine wpAny_Call_method0_late hbase hline (thn (ho pins s σ H _ I h) fun v s1 ⟨x, H1, I1, r1, ty, q1⟩ => ?_)
  obtain ⟨h1, h2⟩ := tyV_is I1 r1 ty
  exact ⟨T, id, pa, slot, hty, h1, h2, Calls.callWith_builtin rfl (PySem.evalArgs_none (hm pins s1 σ H1 x [] v [] Q I1 r1 .nil q1))⟩
theorem pe_bm (pa : PlainAttrs T) (slot : Slot T name id) (hty : typeOf (.builtin id) = pure (.type "method_descriptor")) (hm : MtR X id r) (ho : PE X o to) (ha : PA X (e :: es) t)
    (hbase : attributeBase o name X.env (eval o X.env) = eval o X.env := by rfl)
    (hfew : ((backTo cpos (starEach (e :: es) X.env)).all (fun x => !x.1) && (backToKw cpos (keywordEach [] X.env)).all (fun x => x.1.isSome)
      && decide ((e :: es).length + ([] : List Keyword).length + (if ([] : List Keyword).isEmpty then 0 else 1) < 30)) = true := by rfl)
    (hline : (apos.endLine == cpos.line) = true := by rfl) (hs : starEach (e :: es) X.env = (false, eval e X.env) :: starEach es X.env := by rfl) (hplain : (backTo cpos (starEach es X.env)).any (·.1) = false := by rfl) :
    PE X (.Call (.Attribute o name apos) (e :: es) [] cpos) (tBM X.K T r to t) := by
  intro pins s σ H Q I h
  refine wpAny_Call_method_late hbase hfew hline rfl (thn (ho pins s σ H _ I h) fun v s1 ⟨x, H1, I1, r1, ty, q1⟩ => ?_)
  obtain ⟨h1, h2⟩ := tyV_is I1 r1 ty
  refine ⟨T, id, pa, slot, hty, h1, h2, ?_⟩
  have hA := ha cpos pins s1 σ H1 _ I1 q1
  rw [hs] at hA ⊢
  refine Calls.callWith_builtin (by show (false || (backTo cpos (starEach es X.env)).any (·.1)) = false; rw [hplain] <;> rfl) (Calls.evalArgs_plain ?_)
  exact thn hA fun us s2 ⟨vs, H2, I2, r2, q2⟩ => hm pins s2 σ H2 x vs v us Q I2 r1 r2 q2
/- xs.append(e), list.index on a module's tuple .. are MtR facts of 06m -/
end
end L2

namespace L2
open PySem PySem.Spec PyProof.Rows

def MtM (X : Cx) (id : String) (r : V → List V → Hp → VK → Prop) : Prop :=
  ∀ (pins : List (Addr × Obj)) (s : Shared) (σ : St) (H : Hp) (x : V) (xs : List V) (v : Value) (us : List Value) (Q : VK), Inv X pins σ H s → RelV x v → Vals xs us → r x xs H Q →
    wpAny (model X.prog X.w) X.A (call (.builtin id) (v :: us)) (EP X pins σ Q) X.xe s

theorem Vals.one : ∀ {x : V} {us : List Value}, Vals [x] us → ∃ u, us = [u] ∧ RelV x u
  | _, _, .cons r .nil => ⟨_, rfl, r⟩
theorem Vals.zero : ∀ {us : List Value}, Vals [] us → us = []
  | _, .nil => rfl
theorem Vals.dropLast {xs : List V} {us : List Value} (h : Vals xs us) : Vals xs.dropLast us.dropLast := by
  induction h with
  | nil => exact .nil
  | cons r t ih =>
    cases t with
    | nil => exact .nil
    | cons q t' => exact .cons r ih
theorem erase_last {α : Type} (l : List α) : l.eraseIdx (l.length - 1) = l.dropLast := by
  induction l with
  | nil => rfl
  | cons a r ih =>
    cases r with
    | nil => rfl
    | cons b r =>
      have e : (a :: b :: r).length - 1 = ((b :: r).length - 1) + 1 := by
        have h1 : (a :: b :: r).length = r.length + 2 := rfl
        have h2 : (b :: r).length = r.length + 1 := rfl
        omega
      rw [e, List.eraseIdx_cons_succ, ih]
      all_goals rfl
section
variable {X : Cx} {pins : List (Addr × Obj)} {σ : St} {H : Hp} {s : Shared} {l b : Addr} {xs ys zs : List V}

theorem Inv.lset {its its' : List Value} {n : Nat} {f : Array Value → Array Value} {t' : Nat} (I : Inv X pins σ H s) (hH : H l = some (.lst xs))
    (e : s.heap.get? l = some { cls := .type "list", data := .seq its.toArray n }) (hf : f its.toArray = its'.toArray) (hv : Vals ys its') (hz : ys.length ≤ sizeLine) :
    Inv X pins σ (upd H l (.lst ys)) { s with heap := s.heap.update l (Obj.mapSeq f), toks := t' } := by
  have q := PySem.IsL.update e f
  rw [hf] at q
  refine I.write (x := l) (e := l) (by rw [hH]; exact trivial) (.inl rfl) (fun b' u hb hu => (Heap.get?_update_other s.heap (Obj.mapSeq f) (Ne.symm hb)).trans hu) ⟨_, q⟩ ?_
  exact ⟨hz, its', _, hv, q⟩
theorem Inv.lnew {its : List Value} {t' : Nat} (I : Inv X pins σ H s) (hv : Vals ys its) (hz : ys.length ≤ sizeLine) :
    Inv X pins σ (upd H s.heap.objs.size (.lst ys)) { s with heap := s.heap.push { cls := .type "list", data := .seq its.toArray }, toks := t' } :=
  I.laid (fun _ _ q => Heap.get?_push_of_some _ q) (Nat.le_refl _) ⟨hz, its, 0, hv, Heap.get?_push_size _ rfl⟩
theorem Inv.fresh (I : Inv X pins σ H s) : H s.heap.objs.size = none := I.hok.fresh (Nat.le_refl _)
theorem Inv.lstM (I : Inv X pins σ H s) (hH : H l = some (.lst xs)) : xs.length ≤ sizeLine ∧ ∃ (its : List Value) (n : Nat), Vals xs its ∧ xs.length = its.length ∧ s.heap.get? l = some { cls := .type "list", data := .seq its.toArray n } := by
  obtain ⟨z, its, n, r, e⟩ := I.hok l _ hH
  exact ⟨z, its, n, r, r.length, e⟩

theorem notLongL {n : Nat} (h : n ≤ sizeLine) : Builtin.List.listTooLong n = false := by
  unfold Builtin.List.listTooLong
  exact decide_eq_false (by omega)
end

section
variable {X : Cx}

def rAppend : V → List V → Hp → VK → Prop := fun x vs H Q => ∃ l xs y, x = .ref l ∧ vs = [y] ∧ H l = some (.lst xs) ∧ xs.length < sizeLine ∧ Q .non (upd H l (.lst (xs ++ [y])))
theorem mt_append : MtM X "list.append" rAppend := by
  intro pins s σ H x vs v us Q I rx rv h
  obtain ⟨l, xs, y, rfl, rfl, hH, hz, q⟩ := h
  cases rx
  obtain ⟨u, rfl, ru⟩ := rv.one
  obtain ⟨z, its, n, r, hl, e⟩ := I.lstM hH
  refine call_meets F.slot_list_append ⟨_, e, rfl⟩ F.entry_list_append (F.args_list_append_2 _ _) (PySem.list_append l its.toArray n u (by rw [List.size_toArray]; omega)) ⟨e, ?_⟩
  refine ⟨.non, _, I.lset (its' := its ++ [u]) hH e (by simp) (r.append (.cons ru .nil)) ?_, rfl, q⟩
  rw [List.length_append, List.length_singleton]
  omega

def rExtend : V → List V → Hp → VK → Prop := fun x vs H Q => ∃ l b xs zs, x = .ref l ∧ vs = [.ref b] ∧ H l = some (.lst xs) ∧ H b = some (.lst zs) ∧ xs.length + zs.length ≤ sizeLine ∧ Q .non (upd H l (.lst (xs ++ zs)))
theorem mt_extend : MtM X "list.extend" rExtend := by
  intro pins s σ H x vs v us Q I rx rv h
  obtain ⟨l, b, xs, zs, rfl, rfl, hH, hB, hz, q⟩ := h
  cases rx
  obtain ⟨u, rfl, ru⟩ := rv.one
  cases ru
  obtain ⟨z, its, n, r, hl, e⟩ := I.lstM hH
  obtain ⟨z2, its2, n2, r2, hl2, e2⟩ := I.lstM hB
  have hsz : its.toArray.size + its2.toArray.size ≤ sizeLine := by rw [List.size_toArray, List.size_toArray]; omega
  have hlong : ¬ (!its.toArray.isEmpty && Builtin.List.listTooLong (its.toArray.size + its2.toArray.size)) = true := by
    rw [notLongL hsz, Bool.and_false]
    exact Bool.false_ne_true
  refine call_meets F.slot_list_extend ⟨_, e, rfl⟩ F.entry_list_extend (F.args_list_extend_2 _ _)
    (AutoSeq1.list_extend_list_list_0 l its.toArray n b its2.toArray n2 hlong (by rw [List.size_toArray]; omega) (by omega)) ⟨e, e2, ?_⟩
  refine ⟨.non, _, I.lset (its' := its ++ its2) hH e (by simp) (r.append r2) ?_, rfl, q⟩
  rw [List.length_append]
  omega

def rPop : V → List V → Hp → VK → Prop := fun x vs H Q => ∃ l xs y, x = .ref l ∧ vs = [] ∧ H l = some (.lst xs) ∧ xs[xs.length - 1]? = some y ∧ Q y (upd H l (.lst xs.dropLast))
theorem mt_pop : MtM X "list.pop" rPop := by
  intro pins s σ H x vs v us Q I rx rv h
  obtain ⟨l, xs, y, rfl, rfl, hH, hy, q⟩ := h
  cases rx
  have hus := rv.zero
  subst hus
  obtain ⟨z, its, n, r, hl, e⟩ := I.lstM hH
  obtain ⟨u, hu, ru⟩ := r.get hy
  have hy' : its.toArray[its.toArray.size - 1]? = some u := by
    show its.toArray[its.length - 1]? = some u
    rw [← Array.getElem?_toList, ← hl]
    exact hu
  refine call_meets F.slot_list_pop ⟨_, e, rfl⟩ F.entry_list_pop (F.args_list_pop_1 _) (MeetsSeq.list_pop_last l its.toArray n u hy' (by rw [List.size_toArray]; omega)) ⟨e, ?_⟩
  refine ⟨y, _, I.lset (its' := its.dropLast) hH e ?_ r.dropLast ?_, ru, q⟩
  · show its.toArray.eraseIdxIfInBounds (its.toArray.size - 1) = its.dropLast.toArray
    rw [List.size_toArray, List.eraseIdxIfInBounds_toArray, erase_last]
  · rw [List.length_dropLast]
    omega

def rCat : R2 := fun x y H Q => ∃ l b xs zs, x = .ref l ∧ y = .ref b ∧ H l = some (.lst xs) ∧ H b = some (.lst zs) ∧ xs.length + zs.length ≤ sizeLine ∧ ∀ p, H p = none → Q (.ref p) (upd H p (.lst (xs ++ zs)))
theorem op_cat : OpR X (binaryOp .Add) rCat := by
  intro pins s σ H x y v u Q I rx ry h
  obtain ⟨l, b, xs, zs, rfl, rfl, hH, hB, hz, q⟩ := h
  cases rx
  cases ry
  obtain ⟨z, its, n, r, hl, e⟩ := I.lstM hH
  obtain ⟨z2, its2, n2, r2, hl2, e2⟩ := I.lstM hB
  refine PySem.P.add_list e e2 ?_ (by rw [List.size_toArray, List.size_toArray]; omega)
  have ea : its.toArray ++ its2.toArray = (its ++ its2).toArray := by simp
  rw [ea]
  exact ⟨.ref _, _, I.lnew (t' := s.toks) (r.append r2) (by rw [List.length_append]; omega), rfl, q _ I.fresh⟩
theorem len_rep {α : Type} (xs : List α) (k : Nat) : (List.replicate k xs).flatten.length = k * xs.length := by
  induction k with
  | zero => simp
  | succ k ih => rw [List.replicate_succ, List.flatten_cons, List.length_append, ih, Nat.succ_mul, Nat.add_comm]
end


end L2

namespace Att
open PySem PySem.W PySem.Calls PyProof.Rows

theorem ints_of_wellAll {P : Params} {h : Heap} : ∀ (ns : List Int) (vs : List Value), WellAll P h vs (ns.map WData.int) → IntsAre vs ns := by
  intro ns
  induction ns with
  | nil =>
    intro vs w
    rw [List.map_nil] at w
    cases w
    exact .nil
  | cons n ns ih =>
    intro vs w
    rw [List.map_cons] at w
    cases w with
    | cons a b =>
      cases a
      exact .cons _ _ (ih _ b)

theorem script_of {l : OpenLaw} {n : Nat} (hn : l.most = some n) {P : Params} {h : Heap} {args : List WData} {vals : List Value}
    (hpre : l.row.toRowW.claim.pre args = true) (hwl : WellAll P h vals args) :
    ∃ a vs ns, vals = [Value.ref a] ∧ args = [WData.list (ns.map WData.int)] ∧ h.get? a = some { cls := .type "list", data := .seq vs.toArray } ∧ IntsAre vs ns ∧ ns.length ≤ n := by
  have hsh : WShape.hasAll [] args [.list .int] = true := (pre_splitW hpre).1
  have hc : l.pre.holds [] { args := args } = true := (pre_splitW hpre).2
  obtain ⟨d, r, rfl, h1, h2⟩ := hasAllW_cons hsh
  obtain rfl := hasAllW_nil h2
  obtain ⟨xs, rfl, h3⟩ := hasW_list h1
  obtain ⟨ns, rfl⟩ := items_int h3
  have hlen : ns.length ≤ n := by
    unfold OpenLaw.pre at hc
    have h4 : (WTm.not (.lt (.lit (.int (n : Int))) (.len (.arg 0)))).holds [] { args := [.list (ns.map .int)] } = true := by
      have h4 := (holds_andW hc).1
      rw [hn] at h4
      exact h4
    have h5 := condW_of h4 (w_not (w_lt w_lit (w_len_list (w_arg rfl))))
    rw [List.length_map] at h5
    refine Nat.le_of_not_lt fun q => ?_
    have q' : (n : Int) < ((ns.length : Nat) : Int) := by omega
    first
      | (rw [decide_eq_true q'] at h5; exact absurd h5 (by decide))
      | (simp at h5; omega)
  cases hwl with
  | cons w1 w2 =>
    cases w2
    cases w1 with
    | list ho hall => exact ⟨_, _, ns, rfl, rfl, ho, ints_of_wellAll ns _ hall, hlen⟩

theorem post_true (l : OpenLaw) (args : List WData) : l.row.toRowW.claim.post args (.bool true) args = true :=
  postW_of (r := l.row.toRowW) (X := (true == true))
    (show WShape.has [] (.bool true) .bool = true by first | rfl | decide | simp [WShape.has, WShape.arms, WShape.armsAll])
    (show (WTm.eq .res (.lit (.bool true))).value [] { args := args, res := some (.bool true), after := args } = some (.bool (true == true)) from w_eq_bool (w_res rfl) w_lit) rfl

theorem attach_call {l : OpenLaw} {n : Nat} {q : Program} {loose : List Str} {XP : (Str → Option Value) → Heap → Prop} {YP : World → Heap → Prop} {d : DefRec}
    (hn : l.most = some n) (hdf : d.params.defaults = [])
    (call : ∀ (w : World) (s₀ s₁ : Shared) (mg mb : Str → Option Value) (fa : Addr) (o : Obj) (pm cd doc : Value) (a : Addr) (vs : List Value) (ns : List Int),
      Ground q loose [] XP w s₀ mg mb s₁.heap → YP w s₁.heap →
      s₁.heap.get? fa = some o → o.data = .func (docDef d.name d.params d.body d.scope pm cd doc) → s₁.heap.CodeRec cd d.name → mg d.name = some (.ref fa) →
      s₁.heap.get? a = some { cls := .type "list", data := .seq vs.toArray } → IntsAre vs ns → ns.length ≤ n → s₁.gens = #[] →
      codeAny (model l.prog w) callerA (.call (.ref fa) ⟨[.ref a], []⟩) (fun r s' => r = .ok (.ret (.bool true)) ∧ OldK s₁.heap s'.heap ∧ s'.os = s₁.os ∧ AllBare s'.gens) s₁) :
    WalkO q loose XP YP l.row.toRowW d [] (fun f vs => PySem.call f vs) := by
  intro w s₀ s₁ mg mb G Y fa o pm cd doc dV kV ho hd hcd hD hmg hg args vals as hpre hlay hrd hwl hlo
  obtain rfl : dV = .none := Dflts.none hD hdf
  obtain rfl : kV = .none := Dflts.noKw hD
  obtain ⟨a, vs, ns, rfl, rfl, hobj, hints, hlen⟩ := script_of hn hpre hwl
  refine enter_call (codeAny_mono (call w s₀ s₁ mg mb fa o pm cd doc a vs ns G Y ho (fd_plain hd) hcd hmg hobj hints hlen hg) fun r s' hq => ?_)
  obtain ⟨rfl, h2, h3, h4⟩ := hq
  exact ⟨.inl ⟨.bool true, .bool true, [], rfl, fun _ => rfl, .bool true, post_true l _, fun _ => ⟨List.Pairwise.nil, fun _ hm => (nomatch hm)⟩⟩, h2, h3, h4⟩

section
variable {prog : Program} {w : World} {A : Around} {E : Value → Shared → Prop} {s : Shared} {K : Frag}

end
end Att

namespace L2
open PySem PySem.Spec PyProof.Rows

theorem vals_ints : ∀ {vs : List Value} {ns : List Int}, IntsAre vs ns → Vals (ns.map V.int) vs
  | _, _, .nil => .nil
  | _, _, .cons n t h => .cons ⟨t, rfl⟩ (vals_ints h)

end L2

namespace L2
open PySem PySem.Spec PyProof.Rows

end L2



namespace L2
open PySem PySem.Spec PyProof.Rows

def inClass (s : Stmt) (j : Nat) : Stmt := match s with
  | .ClassDef _ _ _ body _ _ _ _ _ _ _ => body.getD j (.Pass ⟨0, 0, 0, 0⟩)
  | _ => .Pass ⟨0, 0, 0, 0⟩
def defArgs (s : Stmt) : Arguments := match s with
  | .FunctionDef _ a _ _ _ _ _ _ _ _ => a
  | _ => { posonlyargs := [], args := [], vararg := none, kwonlyargs := [], kw_defaults := [], kwarg := none, defaults := [] }
def defBody (s : Stmt) : List Stmt := match s with
  | .FunctionDef _ _ b _ _ _ _ _ _ _ => b
  | _ => []
def defScope (s : Stmt) : Scope := match s with
  | .FunctionDef _ _ _ _ _ _ sc _ _ _ => sc
  | _ => { kind := .function, names := [], isGenerator := false, isCoroutine := false }

abbrev CX0 : CXT := fun _ _ _ _ _ _ => False
abbrev E0 : XK := fun _ _ _ => False
theorem pass0 {X : Cx} : Passes CX0 X E0 := fun _ _ _ _ _ _ _ h => h.elim

structure Fun (K : PySem.W.Frag) (x qual : Str) (st : Stmt) (f : Addr) (fd : FuncData) : Prop where
  ex : ∃ (oc : Value) (od : Option Addr) (kV doc pm : Value) (an : Option Addr) (cdv ct : Value) (osl : Array (Option Value)),
    fd = PySem.W.fnOf x qual (defArgs st) (defBody st) (defScope st) .none kV doc pm an cdv ct ∧ K.lookup f = some ⟨oc, od, .func fd, osl⟩ ∧ PySem.W.codeIn K cdv qual = true
  kp : PySem.W.keepIn K (.ref f) = true
section
variable {P : Program} {w : World} {K : PySem.W.Frag} {mg : Str → Option Value} {base : Heap}
theorem Fun.ok {x qual : Str} {st : Stmt} {f : Addr} {fd : FuncData} {N ps : List Str} {k : Nat} {sp : Sp} (F : Fun K x qual st f fd) (S : FnScope N ps (defScope st)) (len : ∀ vs H Q E, sp vs H Q E → vs.length = ps.length)
    (hbody : ∀ (cdv : Value) (A : Around) (outer : List Env) (s : Shared) (H : Hp) (vs : List V) (Q : VK) (E : XK), Room k (A.deeper (envOfC qual (defScope st) s.heap.objs.size f cdv)) → sp vs H Q E →
      ∃ t, PSs (cxOf CX0 P w K mg base N qual (defScope st) f cdv A outer s H E).nox (defBody st) t ∧ t { nx := fun _ H' => Q .non H', rt := Q } (start N vs) H) : FnOk P w K mg base CX0 (k + 1) f fd ps sp := by
  obtain ⟨oc, od, kV, doc, pm, an, cdv, ct, osl, rfl, lk, hcd⟩ := F.ex
  refine fn_of lk hcd S len fun A outer s H vs Q E hr hsp => ?_
  obtain ⟨t, h, q⟩ := hbody cdv A outer s H vs Q E hr hsp
  exact ⟨t, h.nox, q⟩
theorem Fun.binds {x qual : Str} {st : Stmt} {f : Addr} {fd : FuncData} {ps : List Str} (F : Fun K x qual st f fd)
    (h : ∀ (kV doc pm : Value) (an : Option Addr) (cdv ct : Value) (us : List Value), us.length = ps.length → bindArgs (PySem.W.fnOf x qual (defArgs st) (defBody st) (defScope st) .none kV doc pm an cdv ct) ⟨us, []⟩ = pure (ps.zip us)) : Binds K fd ps [] := by
  obtain ⟨oc, od, kV, doc, pm, an, cdv, ct, osl, rfl, lk, hcd⟩ := F.ex
  exact .all (h kV doc pm an cdv ct)
theorem fun_mk {x qual : Str} {st : Stmt} {f : Addr} {oc : Value} {od an : Option Addr} {osl : Array (Option Value)} {kV doc pm cdv ct : Value} (l : K.lookup f = some ⟨oc, od, .func (PySem.W.fnOf x qual (defArgs st) (defBody st) (defScope st) .none kV doc pm an cdv ct), osl⟩)
    (c : PySem.W.codeIn K cdv qual = true) (k : PySem.W.keepIn K (.ref f) = true) : Fun K x qual st f (PySem.W.fnOf x qual (defArgs st) (defBody st) (defScope st) .none kV doc pm an cdv ct) := ⟨⟨oc, od, kV, doc, pm, an, cdv, ct, osl, rfl, l, c⟩, k⟩
end
theorem small1000 {n : Nat} (h : n ≤ 1000) : n < sizeLine := Nat.lt_of_le_of_lt h (by decide)

section
variable {X : Cx}
theorem pv (i : Nat) {x : Str} {pos : Pos} (hN : X.N[i]? = some x := by rfl) (hv : Vis X.env.scope x := by first | exact Or.inl rfl | exact Or.inr (Or.inl rfl) | exact Or.inr (Or.inr rfl)) (hd : (x == ("__debug__" : Str)) = false := by decide)
    (hcd : (x == ("__classdict__" : Str)) = false := by decide) : PE X (.Name x pos) (tVar i) := pe_var hN hv hd hcd
end

theorem iteF {A B : Prop} (h : B) : if false = true then A else B := by
  rw [if_neg Bool.false_ne_true]
  exact h
theorem iteT {A B : Prop} (h : A) : if true = true then A else B := by
  rw [if_pos rfl]
  exact h
def Same (H H' : Hp) : Prop := ∀ b o, H b = some o → H' b = some o
theorem Same.refl (H : Hp) : Same H H := fun _ _ h => h
theorem Same.trans {H H1 H2 : Hp} (a : Same H H1) (b : Same H1 H2) : Same H H2 := fun c o h => b c o (a c o h)
theorem Same.free {H H' : Hp} (e : Same H H') {l : Addr} (h : H' l = Option.none) : H l = Option.none := by
  cases q : H l with
  | none => rfl
  | some o =>
    rw [e l o q] at h
    cases h
theorem Same.seq {K : PySem.W.Frag} {H H' : Hp} {a : Addr} {xs : List V} (e : Same H H') (h : SqL K H a xs) : SqL K H' a xs := by
  rcases h with (h | ⟨o, h⟩) | h
  · exact .inl (.inl (e _ _ h))
  · exact .inl (.inr ⟨o, e _ _ h⟩)
  · exact .inr h

end L2


section
set_option Elab.async false
set_option linter.all false
set_option maxRecDepth 100000
set_option maxHeartbeats 4000000
namespace L2
open PySem PySem.Spec PyProof.Rows

section
variable {prog : Program} {w : World} {A : Around} {R : Result → Shared → Prop} {s : Shared}
def lcTests (ifs : List Expr) (env : Env) : Sem Bool :=
  forIn ifs true fun c r => if r = true then do let ok ← isTrue c env (eval c env); pure (ForInStep.yield ok) else pure (ForInStep.yield r)
theorem lc_loop {elt tg iter : Expr} {ifs : List Expr} {scope : Scope} {pos : Pos} {it acc : Value} {env : Env} (J : Nat → Shared → Prop)
    (turn : ∀ n s, J n s → wpAny (model prog w) A (pyNext it) (fun r s1 => match r with
      | none => R (.ok .next) s1
      | some v => wpAny (model prog w) A (letOwnedTupleGo tg it v) (fun _ s2 => wpAny (model prog w) A (assign tg env v) (fun _ s3 => wpAny (model prog w) A (lcTests ifs env) (fun ok s4 =>
          if ok = true then wpAny (model prog w) A (eval elt env) (fun x s5 => wpAny (model prog w) A (call (.builtin "list.append") [acc, x]) (fun _ s6 => ∃ m, m < n ∧ J m s6) (fun _ _ => False) s5) (fun _ _ => False) s4
          else ∃ m, m < n ∧ J m s4) (fun _ _ => False) s3) (fun _ _ => False) s2) (fun _ _ => False) s1) (fun _ _ => False) s)
    (n : Nat) (h : J n s) : codeAny (model prog w) A (.compLoop (.ListComp elt [⟨tg, iter, ifs, 0⟩] scope pos) 0 it acc env) R s := by
  refine codeAny_loop rfl J (fun n s hJ => ?_) n h
  show wpAny _ A (Sem.onRaise (compTurn (.ListComp elt [⟨tg, iter, ifs, 0⟩] scope pos) 0 it acc env) _) _ _ s
  refine wpAny_noted ?_
  rw [compTurn_list]
  refine wpAny_bind (wpAny_standAt (wpAny_bind (wpAny_mono (turn n s hJ) (fun r s1 h1 => ?_) (fun _ _ z => z.elim))))
  cases r with
  | none => exact wpAny_pure h1
  | some v =>
    refine wpAny_bind (wpAny_mono h1 (fun _ s2 h2 => wpAny_bind (wpAny_mono h2 (fun _ s3 h3 => wpAny_bind (wpAny_mono h3 (fun ok s4 h4 => ?_) (fun _ _ z => z.elim))) (fun _ _ z => z.elim))) (fun _ _ z => z.elim))
    cases ok with
    | false => exact wpAny_pure ⟨rfl, h4⟩
    | true => exact wpAny_bind (wpAny_bind (wpAny_mono h4 (fun x s5 h5 => wpAny_bind (wpAny_mono h5 (fun _ s6 h6 => wpAny_pure (wpAny_pure ⟨rfl, h6⟩)) (fun _ _ z => z.elim))) (fun _ _ z => z.elim)))
end

def cloGo (env : Env) : List (Str × NameKind) → List (Str × Addr) → List (Str × Addr)
  | [], cs => cs
  | y :: r, cs => if y.2 = .free then cloGo env r ((y.1, (env.cells.lookup y.1).getD 0) :: cs) else cloGo env r cs
theorem clo_run {env : Env} (f : Str × NameKind → List (Str × Addr) → Sem (ForInStep (List (Str × Addr))))
    (h1 : ∀ y cs c, y.2 = .free → env.cells.lookup y.1 = some c → f y cs = pure (.yield ((y.1, c) :: cs))) (h2 : ∀ y cs, y.2 ≠ .free → f y cs = pure (.yield cs)) :
    ∀ (ns : List (Str × NameKind)) (cs : List (Str × Addr)), (∀ y ∈ ns, y.2 = .free → ∃ c, env.cells.lookup y.1 = some c) → forIn ns cs f = (pure (cloGo env ns cs) : Sem (List (Str × Addr)))
  | [], cs, _ => by simp [cloGo]
  | y :: r, cs, h => by
    have hr : ∀ z ∈ r, z.2 = .free → ∃ c, env.cells.lookup z.1 = some c := fun z hz => h z (List.mem_cons_of_mem _ hz)
    rw [List.forIn_cons]
    by_cases hy : y.2 = .free
    · obtain ⟨c, hc⟩ := h y List.mem_cons_self hy
      rw [h1 y cs c hy hc]
      simp only [cloGo, if_pos hy, hc, Option.getD_some]
      exact clo_run f h1 h2 r _ hr
    · rw [h2 y cs hy]
      simp only [cloGo, if_neg hy]
      exact clo_run f h1 h2 r _ hr
theorem closure_eq {scope : Scope} {env : Env} (h : ∀ y ∈ scope.names, y.2 = .free → ∃ c, env.cells.lookup y.1 = some c) : closureFor scope env = pure (cloGo env scope.names []) := by
  unfold closureFor
  dsimp only
  rw [clo_run (env := env) _ (fun y cs c hy hc => ?_) (fun y cs hy => ?_) scope.names [] h]
  · rfl
  · obtain ⟨n, k⟩ := y
    dsimp only at hy hc ⊢
    subst hy
    simp only [cellOf, hc, beq_self_eq_true, if_true]
    rfl
  · obtain ⟨n, k⟩ := y
    have e : (k == NameKind.free) = false := by simpa using hy
    simp only [e, Bool.false_eq_true, if_false]
theorem cloGo_sub {env : Env} : ∀ (ns : List (Str × NameKind)) (cs : List (Str × Addr)) (x : Str) (c : Addr), (∀ y ∈ ns, y.2 = .free → ∃ c, env.cells.lookup y.1 = some c) →
    (∀ z d, cs.lookup z = some d → env.cells.lookup z = some d) → (cloGo env ns cs).lookup x = some c → env.cells.lookup x = some c
  | [], cs, x, c, _, hc, h => hc x c h
  | y :: r, cs, x, c, hy, hc, h => by
    have hr : ∀ z ∈ r, z.2 = .free → ∃ c, env.cells.lookup z.1 = some c := fun z hz => hy z (List.mem_cons_of_mem _ hz)
    unfold cloGo at h
    split at h
    · rename_i hk
      obtain ⟨d, hd⟩ := hy y List.mem_cons_self hk
      rw [hd] at h
      refine cloGo_sub r _ x c hr (fun z e hz => ?_) h
      rw [List.lookup_cons] at hz
      split at hz
      · rename_i hzy
        cases hz
        rw [eq_of_beq hzy]; exact hd
      · exact hc z e hz
    · exact cloGo_sub r _ x c hr hc h
theorem cloGo_keep {env : Env} : ∀ (ns : List (Str × NameKind)) (cs : List (Str × Addr)) (x : Str), (cs.lookup x).isSome = true → ((cloGo env ns cs).lookup x).isSome = true
  | [], _, _, h => h
  | y :: r, cs, x, h => by
    unfold cloGo
    split
    · refine cloGo_keep r _ x ?_
      rw [List.lookup_cons]
      split
      · rfl
      · exact h
    · exact cloGo_keep r _ x h
theorem cloGo_has {env : Env} : ∀ (ns : List (Str × NameKind)) (cs : List (Str × Addr)) (x : Str), (x, NameKind.free) ∈ ns → ((cloGo env ns cs).lookup x).isSome = true
  | [], _, _, h => by simp at h
  | y :: r, cs, x, h => by
    rcases List.mem_cons.mp h with e | e
    · subst e
      unfold cloGo
      rw [if_pos rfl]
      exact cloGo_keep r _ x (by simp)
    · unfold cloGo
      split
      · exact cloGo_has r _ x e
      · exact cloGo_has r _ x e
theorem relabel_of {scope : Scope} {env : Env} {x : Str} {k : NameKind} (h : (relabel scope env).names.lookup x = some k) : (x, k) ∈ scope.names ∨ ((x, NameKind.free) ∈ scope.names ∧ k = NameKind.cell) := by
  have m := PySem.mem_of_lookup h
  obtain ⟨⟨n, k'⟩, hm, e⟩ := List.mem_map.mp m
  dsimp only at e
  split at e
  · rename_i hk
    cases e
    simp only [Bool.and_eq_true, beq_iff_eq] at hk
    rw [hk.1.1] at hm
    exact .inr ⟨hm, rfl⟩
  · cases e
    exact .inl hm
theorem relabel_free {scope : Scope} {env : Env} (hk : env.scope.kind = .function) {x : Str} (hx : env.kindOf x = some .cell) (h : scope.names.lookup x = some .free) : (relabel scope env).names.lookup x = some .cell := by
  unfold relabel
  show (scope.names.map _).lookup x = some NameKind.cell
  generalize scope.names = ns at h
  induction ns with
  | nil => simp at h
  | cons y r ih =>
    obtain ⟨n, k⟩ := y
    rw [List.lookup_cons] at h
    rw [List.map_cons]
    split at h
    · rename_i hn
      cases h
      rw [← eq_of_beq hn]
      simp [hk, hx]
    · rename_i hn
      dsimp only
      split
      · rw [List.lookup_cons, hn]; exact ih h
      · rw [List.lookup_cons, hn]; exact ih h

def cxLc (X : Cx) (scope : Scope) (N : List Str) (C : Addr) (s : Shared) (H : Hp) (fp : List Addr) : Cx :=
  { X with N := N, s₀ := s, H₀ := H, env := compEnvC scope (cloGo X.env scope.names []) C X.env, outer := X.stack, ex := fp, fn := fun _ => false, pn := [], xe := fun _ _ => False }
structure LcScope (N₀ : List Str) (sc₀ sc : Scope) (x : Str) (N : List Str) (ix : List Nat) : Prop where
  kind : sc.kind = .function
  nocell : ∀ y ∈ sc.names, y.2 ≠ .cell
  names : ∀ y ∈ sc.names, y.2 = .local → sc.names.lookup y.1 = some .local
  free : ∀ y ∈ sc.names, y.2 = .free → sc₀.names.lookup y.1 = some .cell
  nd : N.Nodup
  hd : N.head? = some x
  loc : sc.names.lookup x = some .local
  len : N.length = ix.length + 1
  at_ : ∀ p ∈ N.tail.zip ix, N₀[p.2]? = some p.1 ∧ sc.names.lookup p.1 = some .free
def frV (σ : St) (ix : List Nat) : St := ix.map fun j => (σ[j]?).getD none
def PIf (X : Cx) (ifs : List Expr) (t : TT) : Prop :=
  ∀ (pins : List (Addr × Obj)) (s : Shared) (σ : St) (H : Hp) (Q : Bool → Hp → Prop), Inv X pins σ H s → t σ H Q → wpAny (model X.prog X.w) X.A (lcTests ifs X.env) (TP X pins σ Q) X.xe s
def tYes : TT := fun _ H Q => Q true H
theorem pif_nil {X : Cx} : PIf X [] tYes := fun pins s σ H Q I h => wpAny_tests_nil ⟨H, I, h⟩
theorem pif_one {X : Cx} {c : Expr} {t : TT} (h : PT X c t) : PIf X [c] t := fun pins s σ H Q I hw => wpAny_tests_one (h pins s σ H Q I hw)
def rdLc (J : It) (H1 : Hp) (fr : St) (tc : TT) (te : TE) (Q : VK) : Prop := ∀ D, H1 D = none → ∃ W : Nat → Nat → Hp → Prop, (∃ m, W 0 m (upd H1 D (.lst []))) ∧ ∀ i m H, W i m H →
  (J.stop i H ∧ Q (.ref D) H) ∨ (J.go i H ∧ ∀ x H', J.yld i H x H' → tc (some x :: fr) H' fun b H3 =>
    if b = true then te (some x :: fr) H3 fun y H4 => ∃ ys, H4 D = some (.lst ys) ∧ ys.length < sizeLine ∧ ∃ m', m' < m ∧ W (i + 1) m' (upd H4 D (.lst (ys ++ [y]))) else ∃ m', m' < m ∧ W (i + 1) m' H3)
def tLc (wi : TI) (ix : List Nat) (tc : TT) (te : TE) : TE := fun σ H Q => wi σ H fun J H1 => rdLc J H1 (frV σ ix) tc te Q

section
variable {X : Cx} {scope : Scope} {N : List Str} {ix : List Nat} {x : Str} {px : Pos} {elt iter : Expr} {ifs : List Expr} {tc : TT} {te : TE} {pos : Pos}
theorem lc_ok {pins : List (Addr × Obj)} {σ : St} {H2 : Hp} {s2 : Shared} {J : It} {fp : List Addr} {it : Addr} {tn : Nat → Heap → Prop} {tg : Expr} (L : LcScope X.N X.env.scope scope x N ix) (I2 : Inv X pins σ H2 s2)
    (T : Turn X.prog X.w X.K tg J fp it tn) (st2 : tn 0 s2.heap) (f2 : ∀ b ∈ fp, FpOk X pins H2 b) {C : Addr} {s3 s4 : Shared} {H3 : Hp} (I3 : Inv X pins σ H3 s3) (I4 : Inv X pins σ H3 s4) (hle : s2.heap.objs.size ≤ s3.heap.objs.size)
    (hC : C = s3.heap.objs.size) (ho : s4.os = s3.os) (kp : ∀ b u, s3.heap.get? b = some u → s4.heap.get? b = some u) {m : Str → Option Value} (hns : s4.heap.Ns C m) : Inv (cxLc X scope N C s3 H3 fp) [] (none :: frV σ ix) H3 s4 := by
  have hfree : ∀ y ∈ scope.names, y.2 = .free → ∃ c, X.env.cells.lookup y.1 = some c := fun y hy hf => I2.ok.has y.1 (.inl (L.free y hy hf))
  have sub : ∀ y c, (cloGo X.env scope.names []).lookup y = some c → X.env.cells.lookup y = some c := fun y c h => cloGo_sub _ _ y c hfree (fun _ _ z => by simp at z) h
  have lt2 : ∀ b ∈ fp, b < s2.heap.objs.size := fun b hb => by obtain ⟨o, e, _⟩ := T.obj _ _ st2 b hb; exact Heap.lt_size e
  have okY : (cxLc X scope N C s3 H3 fp).Ok := by
    refine ⟨I2.ok.mod, L.kind, I2.ok.glob, I2.ok.blt, Nat.le_of_eq hC.symm, fun y z c h1 h2 => I2.ok.inj y z c (sub y c h1) (sub z c h2), fun y hy => ?_, fun y c z _ => ?_, I2.ok.hd, I2.ok.frames, .inl rfl, fun b hb => ⟨?_, fun y c h => (f2 b hb).2.2.2.2.1 y c (sub y c h)⟩,
      I3.bs, Nat.le_trans I3.ok.bsz I3.sz, fun b o e hb => ?_, fun b hb z => ?_, I3.stack, I3.stkFree⟩
    · have hk : (y, NameKind.free) ∈ scope.names := by
        rcases hy with hy | hy
        · rcases relabel_of hy with q | q
          · exact absurd rfl (L.nocell _ q)
          · exact q.1
        · rcases relabel_of hy with q | q
          · exact q
          · exact absurd q.2 (by decide)
      exact Option.isSome_iff_exists.mp (cloGo_has _ _ y hk)
    · cases (show false = true from z)
    · have l := lt2 b hb
      show b ≠ C
      rw [hC]
      exact Nat.ne_of_lt (Nat.lt_of_lt_of_le l hle)
    · rcases (f2 b hb).2.2.2.1 with q | q
      · exact I2.ok.noex b o e q
      · exact absurd (Nat.lt_of_lt_of_le (Heap.lt_size e) (Nat.le_trans I2.ok.bsz q)) (Nat.lt_irrefl _)
    · rcases List.mem_cons.mp (I2.stkSub b z) with q | q
      · exact (f2 b hb).2.1 q
      · exact (f2 b hb).2.2.1 q
  refine ⟨okY, ho, I4.bare, Un.kept kp, ⟨m, hns, fun i y v h1 h2 h3 => ?_⟩, fun y c e => I4.cell y c (sub y c e), ?_, fun y c e => I4.freeC y c (sub y c e), fun p hp => absurd (show p ∈ ([] : List (Addr × Obj)) from hp) (by simp), I4.hok, ?_⟩
  · cases i with
    | zero => cases (show some none = some (some v) from h2)
    | succ k =>
      have h2 : (frV σ ix)[k]? = some (some v) := h2
      have h1 : N[k + 1]? = some y := h1
      unfold frV at h2
      rw [List.getElem?_map] at h2
      cases hj : ix[k]? with
      | none => rw [hj] at h2; cases h2
      | some j =>
        rw [hj] at h2
        have h2 : (σ[j]?).getD none = some v := Option.some.inj h2
        have h2' : σ[j]? = some (some v) := by
          cases e : σ[j]? with
          | none => rw [e] at h2; cases h2
          | some z => rw [e] at h2; exact congrArg some h2
        have ht : N.tail[k]? = some y := by rw [List.getElem?_tail]; exact h1
        have hz : (y, j) ∈ N.tail.zip ix := List.mem_of_getElem? (i := k) (by rw [List.getElem?_zip_eq_some]; exact ⟨ht, hj⟩)
        obtain ⟨q1, q2⟩ := L.at_ _ hz
        have hm := PySem.mem_of_lookup q2
        have hcell := L.free _ hm rfl
        obtain ⟨m', hn', hl'⟩ := I4.loc
        obtain ⟨u, r, lk⟩ := hl' j y v q1 h2' (.inr (.inl hcell))
        refine ⟨u, r, .inr ⟨.inl (relabel_free I2.ok.kind hcell q2), ?_⟩⟩
        rcases lk with lk | ⟨_, c, e, z⟩
        · rw [show X.env.kindOf y = some .cell from hcell] at lk
          cases lk.1
        · obtain ⟨c', e'⟩ := Option.isSome_iff_exists.mp (cloGo_has (env := X.env) scope.names [] y hm)
          have e2 := sub y c' e'
          rw [e] at e2
          cases e2
          exact ⟨c, e', z⟩
  · show H3 C = none
    exact I3.hok.fresh (Nat.le_of_eq hC.symm)
  · show (none :: frV σ ix).length = N.length
    rw [L.len]
    simp [frV]
theorem lc_run {tgt : Expr} (htg : tgt = .Name x px) {pins : List (Addr × Obj)} {σ : St} {H2 : Hp} {s2 : Shared} {J : It} {fp : List Addr} {it : Addr} {tn : Nat → Heap → Prop} (hc : X.calm = true) (L : LcScope X.N X.env.scope scope x N ix) (I2 : Inv X pins σ H2 s2)
    (T : Turn X.prog X.w X.K tgt J fp it tn) (st2 : tn 0 s2.heap) (f2 : ∀ b ∈ fp, FpOk X pins H2 b)
    (hif : ∀ C s H, PIf (cxLc X scope N C s H fp) ifs tc) (he : ∀ C s H, PE (cxLc X scope N C s H fp) elt te) {Q : VK} (rd : rdLc J H2 (frV σ ix) tc te Q) {RR : Value → Addr → Result → Shared → Prop} {E : Value → Shared → Prop}
    (fin : ∀ D C H' s' m, Inv X pins σ H' s' → s2.heap.objs.size ≤ C → H' C = none → s'.heap.Ns C m → Q (.ref D) H' → RR (.ref D) C (.ok .next) s') :
    wpAny (model X.prog X.w) X.A (newList []) (fun acc s3 => wpAny (model X.prog X.w) X.A (newFunctionEnv scope X.env.globals (cloGo X.env scope.names []) [] X.env.qual none .none (some X.env)) (fun cenv s4 =>
      codeAny (model X.prog X.w) X.A (.compStart (.ListComp elt [⟨tgt, iter, ifs, 0⟩] scope pos) 0 (.ref it) acc { cenv with scope := relabel scope X.env }) (RR acc cenv.locals) s4) E s3) E s2 := by
  refine wpAny_newObj_type (wpAny_newFunctionEnv L.nocell (by intro y hy; simp at hy) (fun h1 hns hsb => ?_) L.kind)
  dsimp only at hns hsb ⊢
  have I3 : Inv X pins σ (upd H2 s2.heap.objs.size (.lst [])) { s2 with heap := s2.heap.push { cls := .type "list", dict := none, data := .seq ([] : List Value).toArray } } := I2.lnew (its := []) (t' := s2.toks) .nil (Nat.zero_le _)
  generalize hH3 : s2.heap.push { cls := .type "list", dict := none, data := .seq ([] : List Value).toArray } = h3 at hns hsb I3 ⊢
  have hsz : h3.objs.size = s2.heap.objs.size + 1 := by rw [← hH3, Heap.size_push]
  have kp34 : ∀ b u, h3.get? b = some u → h1.get? b = some u := fun b u e => hsb.extBut b u (Nat.ne_of_lt (Heap.lt_size e)) (Heap.get?_push_of_some _ e)
  have I4 : Inv X pins σ (upd H2 s2.heap.objs.size (.lst [])) { s2 with heap := h1, toks := s2.toks + ([] : List (Str × Value)).length } := I3.kept (t' := s2.toks + ([] : List (Str × Value)).length) kp34
  have kp24 : ∀ b u, s2.heap.get? b = some u → h1.get? b = some u := fun b u e => kp34 b u (by rw [← hH3]; exact Heap.get?_push_of_some _ e)
  have IY := lc_ok (C := h3.objs.size) (s3 := { s2 with heap := h3 }) L I2 T st2 f2 I3 I4 (by show s2.heap.objs.size ≤ h3.objs.size; omega) rfl rfl kp34 hns
  have fD : H2 s2.heap.objs.size = none := I2.hok.fresh (Nat.le_refl _)
  have lt2 : ∀ b ∈ fp, b < s2.heap.objs.size := fun b hb => by obtain ⟨o, e, _⟩ := T.obj _ _ st2 b hb; exact Heap.lt_size e
  have st4 : tn 0 h1 := T.keep _ _ _ st2 fun b _ o e => kp24 b o e
  have stat : ∀ {pn : List (Addr × Obj)} {H' : Hp}, pn = [] → (∀ b ∈ fp, H' b = none) → ∀ b ∈ fp, FpOk (cxLc X scope N h3.objs.size { s2 with heap := h3 } (upd H2 s2.heap.objs.size (.lst [])) fp) pn H' b := fun hp hn b hb => by
    subst hp
    exact ⟨hn b hb, (IY.ok.exf b hb).1, IY.ok.exfs b hb, .inl hb, (IY.ok.exf b hb).2, fun p hp => absurd (show p ∈ ([] : List (Addr × Obj)) from hp) (by simp)⟩
  obtain ⟨W, ⟨m0, w0⟩, turn⟩ := rd _ fD
  have loop : codeAny (model X.prog X.w) X.A (.compLoop (.ListComp elt [⟨tgt, iter, ifs, 0⟩] scope pos) 0 (.ref it) (.ref s2.heap.objs.size) (compEnvC scope (cloGo X.env scope.names []) h3.objs.size X.env)) (RR (.ref s2.heap.objs.size) h3.objs.size)
      { s2 with heap := h1, toks := s2.toks + ([] : List (Str × Value)).length } := by
    refine lc_loop (fun n s' => ∃ i H', Inv (cxLc X scope N h3.objs.size { s2 with heap := h3 } (upd H2 s2.heap.objs.size (.lst [])) fp) [] (none :: frV σ ix) H' s' ∧ tn i s'.heap ∧ (∀ b ∈ fp, H' b = none) ∧ W i n H') ?_ m0
      ⟨0, _, IY, st4, fun b hb => by rw [upd_ne (Nat.ne_of_lt (lt2 b hb))]; exact (f2 b hb).1, w0⟩
    rintro n s5 ⟨i, H5, I5, st5, fr5, w5⟩
    rcases turn i n H5 w5 with ⟨stop, q⟩ | ⟨go, step⟩
    · refine thn (T.done (cxLc X scope N h3.objs.size { s2 with heap := h3 } (upd H2 s2.heap.objs.size (.lst [])) fp) rfl rfl rfl hc i [] s5 _ H5 (fun _ _ => False) I5 (stat rfl fr5) st5 stop) fun r s6 ⟨hr, I6⟩ => ?_
      subst hr
      obtain ⟨m6, hn6, _⟩ := I6.loc
      have u1 : Un (frs X.stack) fp H2 (upd H2 s2.heap.objs.size (.lst [])) s2.heap h3 := Un.laid (fun b u e => by rw [← hH3]; exact Heap.get?_push_of_some _ e) (Nat.le_refl _) fD
      have back : Inv X pins σ H5 s6 := I2.call' (ch := fp) (I6.os.trans rfl) (u1.trans I6.base) I6.hok I6.bare fun b hb => ⟨(f2 b hb).2.2.2.1, (f2 b hb).2.1, (f2 b hb).2.2.2.2.1, (f2 b hb).2.2.2.2.2⟩
      exact fin _ _ H5 s6 m6 back (by omega) I6.free hn6 q
    · refine thn (T.item (cxLc X scope N h3.objs.size { s2 with heap := h3 } (upd H2 s2.heap.objs.size (.lst [])) fp) rfl rfl rfl hc i [] s5 _ H5 (fun _ _ => False) I5 (stat rfl fr5) st5 go) fun r s6 ⟨u, hr, h6⟩ => ?_
      subst hr
      refine thn h6 fun _ s7 ⟨y, H7, I7, r7, y7, st7, fr7⟩ => ?_
      have I7' := I7.pinned (stat rfl fr7) (T.obj _ _ st7)
      have hg : PG (cxLc X scope N h3.objs.size { s2 with heap := h3 } (upd H2 s2.heap.objs.size (.lst [])) fp) tgt (gName 0) := by
        rw [htg]
        have hi : N[0]? = some x := by have := L.hd; rwa [List.head?_eq_getElem?] at this
        exact pg_name L.nd hi (.inl (lookup_relabel_local L.loc)) (.inr (lookup_relabel_local L.loc))
      refine thn (hg _ s7 _ H7 y u (fun σ' H' => σ' = some y :: frV σ ix ∧ H' = H7) I7' r7 ⟨rfl, rfl⟩) fun _ s8 ⟨σ8, H8, I8, e8, e8'⟩ => ?_
      subst e8 e8'
      refine thn (hif _ _ _ _ s8 _ _ _ I8 (step y _ y7)) fun ok s9 ⟨H9, I9, q9⟩ => ?_
      have again : ∀ {sz : Shared} {Hz : Hp} {m' : Nat}, Inv (cxLc X scope N h3.objs.size { s2 with heap := h3 } (upd H2 s2.heap.objs.size (.lst [])) fp) ([] ++ pinsAt fp s7.heap) (some y :: frV σ ix) Hz sz → m' < n → W (i + 1) m' Hz →
          ∃ m, m < n ∧ ∃ i H', Inv (cxLc X scope N h3.objs.size { s2 with heap := h3 } (upd H2 s2.heap.objs.size (.lst [])) fp) [] (none :: frV σ ix) H' sz ∧ tn i sz.heap ∧ (∀ b ∈ fp, H' b = none) ∧ W i m H' := fun {sz Hz m'} Iz hm wz => by
        refine ⟨m', hm, i + 1, Hz, Iz.unpinned.weak (by simp) (fun j v e => ?_), T.keep _ _ _ st7 fun b hb o e => (Iz.pin (b, o) (List.mem_append_right _ (List.mem_append_right _ (mem_pinsAt hb e)))).1, fun b hb => ?_, wz⟩
        · cases j with
          | zero => cases e
          | succ j => exact e
        · obtain ⟨o, e, d⟩ := T.obj _ _ st7 b hb
          exact (Iz.pin (b, o) (List.mem_append_right _ (List.mem_append_right _ (mem_pinsAt hb e)))).2.1
      cases ok with
      | false =>
        obtain ⟨m', hm, wz⟩ := q9
        exact again I9 hm wz
      | true =>
        refine thn (he _ _ _ _ s9 _ _ _ I9 q9) fun xv s10 ⟨z, H10, I10, r10, ys, hD, hl, m', hm, wz⟩ => ?_
        refine thn (mt_append _ s10 _ H10 (.ref s2.heap.objs.size) [z] (.ref s2.heap.objs.size) [xv] (fun _ Hz => Hz = upd H10 s2.heap.objs.size (.lst (ys ++ [z]))) I10 rfl (.cons r10 .nil) ⟨_, ys, z, rfl, rfl, hD, hl, rfl⟩) fun _ s11 ⟨_, H11, I11, _, q11⟩ => ?_
        subst q11
        exact again I11 hm wz
  exact codeAny_compStart_list loop (T.self X.A 0 _ _ _ st4 loop)
theorem pe_lc {wi : TI} (hc : X.calm = true) (L : LcScope X.N X.env.scope scope x N ix) (hi : PI X (.Name x px) iter wi) (hif : ∀ C s H fp, PIf (cxLc X scope N C s H fp) ifs tc) (he : ∀ C s H fp, PE (cxLc X scope N C s H fp) elt te)
    (hs : ∀ z, foldedSetIterable iter X.env z = pure z := by intro _; rfl) : PE X (.ListComp elt [⟨.Name x px, iter, ifs, 0⟩] scope pos) (tLc wi ix tc te) := by
  intro pins s σ H Q I h
  have hfree : ∀ y ∈ scope.names, y.2 = .free → ∃ c, X.env.cells.lookup y.1 = some c := fun y hy hf => I.ok.has y.1 (.inl (L.free y hy hf))
  rw [eval_ListComp]
  refine wpAny_comprehension_free (use := none) rfl hs (closure_eq hfree) L.kind L.names (thn (hi pins s σ H _ I h) fun v s1 h1 => thn h1 fun itv s2 h2 => ?_)
  obtain ⟨it, fp, tn, J, H2, e, I2, T, st2, f2, rd⟩ := h2
  subst e
  refine lc_run (RR := fun acc C => compPost (model X.prog X.w) X.A X.xe none _ acc C) rfl hc L I2 T st2 f2 (fun C s H => hif C s H fp) (fun C s H => he C s H fp) rd fun D C H' s' m I' hC hf hn q => ?_
  refine ⟨m, hn, fun h' hsb => ⟨.ref D, H', ?_, rfl, q⟩⟩
  have l2 := I2.lt
  refine I'.turned (t' := s'.toks) (it := C) (fun b o hb e => hsb.extBut b o hb e) hf (Nat.ne_of_gt (Nat.lt_of_lt_of_le l2 hC)) (.inr (Nat.le_trans I2.sz hC)) (fun y c e => ?_) fun p hp => ?_
  · obtain ⟨v, hv⟩ := I2.cell y c e
    exact Nat.ne_of_lt (Nat.lt_of_lt_of_le hv.lt hC)
  · exact Nat.ne_of_lt (Nat.lt_of_lt_of_le (Heap.lt_size (I2.pin p hp).1) hC)
theorem ps_setlc {wi : TI} {i : Nat} {y : Str} {py spos : Pos} (hc : X.calm = true) (L : LcScope X.N X.env.scope scope x N ix) (hN : X.N.Nodup) (hy : X.N[i]? = some y) (hl : X.env.scope.names.lookup y = some .local)
    (hi : PI X (.Name x px) iter wi) (hif : ∀ C s H fp, PIf (cxLc X scope N C s H fp) ifs tc) (he : ∀ C s H fp, PE (cxLc X scope N C s H fp) elt te)
    (hsw : swapsWith (.ListComp elt [⟨.Name x px, iter, ifs, 0⟩] scope pos) (some (.Name y py)) spos.line X.env = pure true := by rfl)
    (hs : ∀ z, foldedSetIterable iter X.env z = pure z := by intro _; rfl) : PS X (.Assign [.Name y py] (.ListComp elt [⟨.Name x px, iter, ifs, 0⟩] scope pos) spos) (tAsg (tLc wi ix tc te) (gName i)) := by
  intro pins s σ H D I h
  have hfree : ∀ y ∈ scope.names, y.2 = .free → ∃ c, X.env.cells.lookup y.1 = some c := fun y hy hf => I.ok.has y.1 (.inl (L.free y hy hf))
  rw [exec_Assign_Name_used _ _ _ _ hsw]
  refine wpAny_bind (wpAny_standAt (wpAny_bind ?_))
  show wpAny _ X.A (do let _ ← comprehension (.ListComp elt [⟨.Name x px, iter, ifs, 0⟩] scope pos) scope X.env _ (newList []) false (eval iter X.env) (some (assign (.Name y py) X.env))) _ _ s
  refine wpAny_bind (thn (Q := fun _ s' => SP X pins D .next s') (wpAny_comprehension_free (use := some (assign (.Name y py) X.env)) rfl hs (closure_eq hfree) L.kind L.names (thn (hi pins s σ H _ I h) fun v s1 h1 => thn h1 fun itv s2 h2 => ?_)) fun _ s' hq => wpAny_pure (wpAny_pure hq))
  obtain ⟨it, fp, tn, J, H2, e, I2, T, st2, f2, rd⟩ := h2
  subst e
  refine lc_run (RR := fun acc C => compPost (model X.prog X.w) X.A X.xe (some (assign (.Name y py) X.env)) _ acc C) rfl hc L I2 T st2 f2 (fun C s H => hif C s H fp) (fun C s H => he C s H fp) rd fun Da C H' s' m I' hC hf hn q => ?_
  have l2 := I2.lt
  have nC : C ≠ X.env.locals := Nat.ne_of_gt (Nat.lt_of_lt_of_le l2 hC)
  have nF : C ∉ X.fs := I2.nofs hC
  obtain ⟨oC, es, ep, hget, hdat, hrest⟩ := id hn
  have Ip : Inv X (pins ++ [(C, oC)]) σ H' s' := I'.pins_of fun p hp => (List.mem_append.mp hp).elim (fun z => I'.pin p (List.mem_append_right _ z)) fun z => by
    have e : p = (C, oC) := by simpa using z
    subst e
    exact ⟨hget, hf, nC, nF, fun v z => by rw [hdat] at z; cases z⟩
  have hg : PG X (.Name y py) (gName i) := pg_name hN hy (.inl hl) (.inr hl)
  show wpAny _ X.A (assign (.Name y py) X.env (.ref Da)) _ _ s'
  refine thn (hg _ s' σ H' (.ref Da) (.ref Da) D.nx Ip rfl q) fun _ s'' ⟨σ'', H'', I'', q''⟩ => ?_
  obtain ⟨g1, g2, _⟩ := I''.pin (C, oC) (List.mem_append_right _ (List.mem_append_right _ (by simp)))
  refine ⟨m, ⟨oC, es, ep, g1, hdat, hrest⟩, fun h' hsb => ⟨σ'', H'', ?_, q''⟩⟩
  refine I''.unpinned.turned (t' := s''.toks) (it := C) (fun b o hb e => hsb.extBut b o hb e) g2 nC (.inr (Nat.le_trans I2.sz hC)) (fun y c e => ?_) fun p hp => ?_
  · obtain ⟨v, hv⟩ := I2.cell y c e
    exact Nat.ne_of_lt (Nat.lt_of_lt_of_le hv.lt hC)
  · exact Nat.ne_of_lt (Nat.lt_of_lt_of_le (Heap.lt_size (I2.pin p hp).1) hC)
end

theorem same_upd {H : Hp} {D : Addr} {o : HO} (h : H D = none) : Same H (upd H D o) := fun b u e => by rw [upd_ne (ne_of_none e h)]; exact e
theorem lc_same {J : It} {H1 : Hp} {fr : St} {tc : TT} {te : TE} {Q : VK} (n : Nat) (item : Nat → V) (acc : Nat → List V) (h0 : acc 0 = []) (hz : ∀ i, i < n → (acc i).length < sizeLine)
    (hgo : ∀ i H, i < n → Same H1 H → J.go i H) (hy : ∀ i H x H', i < n → Same H1 H → J.yld i H x H' → x = item i ∧ H' = H) (hst : ∀ H, Same H1 H → J.stop n H)
    (turn : ∀ i H (R : Hp → Prop) (A : VK), i < n → Same H1 H → (acc (i + 1) = acc i → ∀ H', Same H H' → R H') → (∀ y H', acc (i + 1) = acc i ++ [y] → Same H H' → A y H') →
      tc (some (item i) :: fr) H fun b H3 => if b = true then te (some (item i) :: fr) H3 A else R H3)
    (fin : ∀ D H, H1 D = none → Same H1 H → H D = some (.lst (acc n)) → Q (.ref D) H) : rdLc J H1 fr tc te Q := by
  intro D hD
  refine ⟨fun i m H => i ≤ n ∧ m = n - i ∧ Same H1 H ∧ H D = some (.lst (acc i)), ⟨n, Nat.zero_le _, rfl, same_upd hD, by rw [upd_same, h0]⟩, ?_⟩
  rintro i m H ⟨hi, rfl, sm, hl⟩
  by_cases h : i = n
  · subst h
    exact .inl ⟨hst H sm, fin D H hD sm hl⟩
  · have hlt : i < n := Nat.lt_of_le_of_ne hi h
    refine .inr ⟨hgo i H hlt sm, fun x H' hyl => ?_⟩
    obtain ⟨rfl, rfl⟩ := hy i H x H' hlt sm hyl
    refine turn i H' _ _ hlt sm (fun ea H3 s3 => ?_) (fun y H4 ea s4 => ?_)
    · exact ⟨n - (i + 1), by omega, by omega, rfl, sm.trans s3, by rw [ea]; exact s3 _ _ hl⟩
    · refine ⟨acc i, s4 _ _ hl, hz i hlt, n - (i + 1), by omega, by omega, rfl, fun b u e => ?_, by rw [upd_same, ea]⟩
      rw [upd_ne (ne_of_none e hD)]
      exact s4 _ _ (sm _ _ e)
theorem lc_range {lo : Int} {n : Nat} {H1 : Hp} {fr : St} {tc : TT} {te : TE} {Q : VK} (acc : Nat → List V) (h0 : acc 0 = []) (hz : ∀ i, i < n → (acc i).length < sizeLine)
    (turn : ∀ (i : Nat) H (R : Hp → Prop) (A : VK), i < n → Same H1 H → (acc (i + 1) = acc i → ∀ H', Same H H' → R H') → (∀ y H', acc (i + 1) = acc i ++ [y] → Same H H' → A y H') →
      tc (some (.int (lo + i)) :: fr) H fun b H3 => if b = true then te (some (.int (lo + i)) :: fr) H3 A else R H3)
    (fin : ∀ D H, H1 D = none → Same H1 H → H D = some (.lst (acc n)) → Q (.ref D) H) : rdLc (Itr lo n) H1 fr tc te Q :=
  lc_same n (fun i => .int (lo + i)) acc h0 hz (fun i H hi _ => hi) (fun i H x H' _ _ h => ⟨h.2, h.1⟩) (fun H _ => Nat.le_refl n) turn fin
theorem lc_list {K : PySem.W.Frag} {a : Addr} {xs : List V} {H1 : Hp} {fr : St} {tc : TT} {te : TE} {Q : VK} (hl : SqL K H1 a xs) (acc : Nat → List V) (h0 : acc 0 = []) (hz : ∀ i, i < xs.length → (acc i).length < sizeLine)
    (turn : ∀ (i : Nat) x H (R : Hp → Prop) (A : VK), xs[i]? = some x → Same H1 H → (acc (i + 1) = acc i → ∀ H', Same H H' → R H') → (∀ y H', acc (i + 1) = acc i ++ [y] → Same H H' → A y H') →
      tc (some x :: fr) H fun b H3 => if b = true then te (some x :: fr) H3 A else R H3)
    (fin : ∀ D H, H1 D = none → Same H1 H → H D = some (.lst (acc xs.length)) → Q (.ref D) H) : rdLc (Itl K a) H1 fr tc te Q := by
  refine lc_same xs.length (fun i => xs.getD i .non) acc h0 hz (fun i H hi sm => ⟨xs, xs[i], sm.seq hl, by simp [hi]⟩) (fun i H x H' hi sm h => ⟨?_, h.1⟩) (fun H sm => ⟨xs, sm.seq hl, Nat.le_refl _⟩) (fun i H R A hi sm => turn i _ H R A (by simp [hi]) sm) fin
  have := h.2 xs (sm.seq hl)
  simp [List.getD, this]
end L2
end

section
set_option Elab.async false
set_option linter.all false
set_option maxRecDepth 100000
set_option maxHeartbeats 4000000
namespace L2
open PySem PySem.Spec PyProof.Rows

theorem b_int : bootBuiltins "int" = some (.type "int") := by decide +kernel
theorem b_str : bootBuiltins "str" = some (.type "str") := by decide +kernel
theorem b_bool : bootBuiltins "bool" = some (.type "bool") := by decide +kernel
theorem b_list : bootBuiltins "list" = some (.type "list") := by decide +kernel
theorem b_tuple : bootBuiltins "tuple" = some (.type "tuple") := by decide +kernel
theorem b_len : bootBuiltins "len" = some (.builtin "len") := by decide +kernel
theorem b_isinstance : bootBuiltins "isinstance" = some (.builtin "isinstance") := by decide +kernel
theorem b_min : bootBuiltins "min" = some (.builtin "min") := by decide +kernel
theorem b_max : bootBuiltins "max" = some (.builtin "max") := by decide +kernel
structure Cal (P : Program) (w : World) (K : PySem.W.Frag) (mg : Str → Option Value) (base : Heap) (name : Str) (k : Nat) (ps : List Str) (sp : Sp) : Prop where
  ex : ∃ (f : Addr) (fd : FuncData), FnOk P w K mg base CX0 k f fd ps sp ∧ Binds K fd ps [] ∧ mg name = some (.ref f) ∧ PySem.W.keepIn K (.ref f) = true
section
variable {X : Cx} {k : Nat} {ps : List Str} {sp : Sp} {name m : Str} {p pos apos : Pos} {e o : Expr} {es : List Expr} {ta : TE} {t : TA}
theorem pe_fn (C : Cal X.prog X.w X.K X.mg X.base name k ps sp) (hr : Room k X.A) (ha : PA X (e :: es) t) (hg : Gl X name := by rfl) (hdb : (name == ("__debug__" : Str)) = false := by decide)
    (he : starEach (e :: es) X.env = (false, eval e X.env) :: starEach es X.env := by rfl) (hpl : (backTo pos (starEach es X.env)).any (·.1) = false := by rfl) : PE X (.Call (.Name name p) (e :: es) [] pos) (tCall sp [] E0 t) := by
  obtain ⟨f, fd, F, b, hm, hk⟩ := C.ex
  exact pe_call F hr hg hm hk b .nil pass0 ha hdb he hpl
end

section
variable {X : Cx}
def rIsi (K : PySem.W.Frag) : List V → Hp → VK → Prop := fun xs H Q => ∃ x n t b, xs = [x, .ty n] ∧ TyOf K H x t ∧ PySem.W.kitOne K t (.type n) = some b ∧ Q (.bl b) H
theorem call_isinst : CallR X (.builtin "isinstance") (rIsi X.K) := by
  intro pins s σ H xs us Q I r h
  obtain ⟨x, n, t, b, rfl, ty, e, q⟩ := h
  obtain ⟨u, w', rfl, ru, rw'⟩ := vals2 r
  cases (show w' = Value.type n from rw')
  exact isinst_ok I ru ty e fun tk => ⟨.bl b, H, I.tok tk, rfl, q⟩
theorem kit_int_bool {K : PySem.W.Frag} : PySem.W.kitOne K (.type "int") (.type "bool") = some false := by rfl
theorem kit_int_int {K : PySem.W.Frag} : PySem.W.kitOne K (.type "int") (.type "int") = some true := by rfl
theorem kit_str_str {K : PySem.W.Frag} : PySem.W.kitOne K (.type "str") (.type "str") = some true := by rfl
theorem kit_tuple_tuple {K : PySem.W.Frag} : PySem.W.kitOne K (.type "tuple") (.type "tuple") = some true := by rfl
end

theorem ext_cps {x y : Str} (h : x.cps.toList = y.cps.toList) : x = y := by
  obtain ⟨a⟩ := x
  obtain ⟨b⟩ := y
  have : a = b := Array.toList_inj.mp h
  rw [this]
def sgn (c : Nat) : Str := ⟨#[c]⟩
def repS (x : Str) (k : Nat) : Str := ⟨(List.replicate k x.cps.toList).flatten.toArray⟩
theorem repS_length (x : Str) (k : Nat) : (repS x k).length = k * x.length := by
  show (List.replicate k x.cps.toList).flatten.toArray.size = k * x.cps.size
  rw [List.size_toArray, len_rep]
  simp
theorem foldl_app (a : Array Nat) : ∀ (k : Nat) (acc : Array Nat), ((List.replicate k a).foldl (· ++ ·) acc).toList = acc.toList ++ (List.replicate k a.toList).flatten
  | 0, acc => by simp
  | k + 1, acc => by
    rw [List.replicate_succ, List.foldl_cons, foldl_app a k, List.replicate_succ]
    simp [List.append_assoc]
section
variable {X : Cx}
def rMulS : R2 := fun x y H Q => ∃ z k, x = .str z ∧ y = .int k ∧ -(2 ^ 40) < k ∧ k < 2 ^ 40 ∧ z.length * k.toNat ≤ sizeLine ∧ z.length ≤ sizeLine ∧ Q (.str (repS z k.toNat)) H
theorem op_mulS : OpR X (binaryOp .Mult) rMulS := by
  intro pins s σ H x y v u Q I rx ry h
  obtain ⟨z, k, rfl, rfl, k1, k2, hz, hz2, q⟩ := h
  obtain ⟨t, rfl⟩ := rx
  obtain ⟨t', rfl⟩ := ry
  have hs := line63
  have hs' := sizeLine_eq
  refine PySem.P.mul_str ?_ ?_ ?_ ?_
  · rw [decide_eq_false (by omega), decide_eq_false (by omega)]; rfl
  · intro h1 _ hgt
    have hk : k ≤ 2 ^ 40 := by omega
    have : (z.length : Int) ≤ (2 ^ 63 - 1) / k := by
      rw [Int.le_ediv_iff_mul_le (by omega)]
      have e : (z.length : Int) * k = ((z.length * k.toNat : Nat) : Int) := by
        rw [Int.natCast_mul, Int.toNat_of_nonneg (by omega)]
      rw [e]
      omega
    omega
  · intro _ _
    unfold Builtin.Str.tooLong
    simpa using hz
  · split
    · rename_i h1
      have e : repS z k.toNat = Str.empty := by
        rw [show k.toNat = 0 by omega]; rfl
      rw [e] at q
      exact ⟨by decide, .str Str.empty, H, I.tok _, ⟨_, rfl⟩, q⟩
    · rename_i h1
      split
      · rename_i h2
        have e : repS z k.toNat = z := by
          refine ext_cps ?_
          show (List.replicate k.toNat z.cps.toList).flatten.toArray.toList = _
          rcases Bool.or_eq_true_iff.mp h2 with h2 | h2
          · have : k = 1 := by simpa using h2
            subst this
            simp
          · have : z.length = 0 := by simpa using h2
            have e0 : z.cps.toList = [] := by
              have : z.cps.size = 0 := this
              simpa using this
            rw [e0]
            simp
        rw [e] at q
        exact ⟨.str z, H, I, ⟨_, rfl⟩, q⟩
      · have e : (⟨(List.replicate k.toNat z.cps).foldl (· ++ ·) #[]⟩ : Str) = repS z k.toNat := by
          refine ext_cps ?_
          show ((List.replicate k.toNat z.cps).foldl (· ++ ·) #[]).toList = _
          rw [foldl_app]
          simp [repS]
        refine ⟨?_, .str (repS z k.toNat), H, I.tok _, ⟨s.toks, by rw [e]⟩, q⟩
        rw [e, repS_length, Nat.mul_comm]
        exact hz
theorem strsAre_of {ys : List Str} : ∀ {us : List Value}, Vals (ys.map V.str) us → StrsAre us ys := by
  induction ys with
  | nil => intro us r; rw [List.map_nil] at r; cases r; exact .nil
  | cons y ys ih =>
    intro us r
    rw [List.map_cons] at r
    cases r with
    | cons r1 r2 =>
      obtain ⟨t, e⟩ := r1
      subst e
      exact .cons y t (ih r2)
def rJoin (K : PySem.W.Frag) : V → List V → Hp → VK → Prop := fun x vs H Q => ∃ sep p ys, x = .str sep ∧ vs = [.ref p] ∧ SqL K H p (ys.map V.str) ∧ (ys.map (·.length)).sum + ys.length * sep.length ≤ 16777216 ∧ Q (.str (Txt.join sep ys)) H
theorem mt_join : MtM X "str.join" (rJoin X.K) := by
  intro pins s σ H x vs v us Q I rx rv h
  obtain ⟨sep, p, ys, rfl, rfl, hp, hz, q⟩ := h
  obtain ⟨t, rfl⟩ := rx
  obtain ⟨u, rfl, ru⟩ := rv.one
  cases ru
  obtain ⟨its, r, pl, _⟩ := I.list hp
  exact join_list pl.isList (by simpa using strsAre_of r) hz fun t' k => ⟨.str (Txt.join sep ys), H, I.tok k, ⟨t', rfl⟩, q⟩
theorem fold_glue : ∀ (ys : List Str) (a : Array Nat), (ys.foldl (fun acc p => acc ++ ("" : Str).cps ++ p.cps) a).toList = a.toList ++ (ys.map fun y => y.cps.toList).flatten
  | [], a => by simp
  | y :: r, a => by
    rw [List.foldl_cons, fold_glue r]
    have e : ("" : Str).cps = #[] := rfl
    rw [e]
    simp [List.append_assoc]
theorem join_empty (ys : List Str) : (Txt.join ("" : Str) ys).cps.toList = (ys.map fun y => y.cps.toList).flatten := by
  show ((ys.drop 1).foldl (fun acc p => acc ++ ("" : Str).cps ++ p.cps) (ys.headD Str.empty).cps).toList = _
  rw [fold_glue]
  cases ys with
  | nil => rfl
  | cons y r => simp
end
end L2
end

section
set_option Elab.async false
set_option linter.all false
namespace L2
open PySem
def nostar : Expr → Bool
  | .Starred .. => false
  | _ => true
theorem starEach_of {e : Expr} {es : List Expr} {env : Env} (h : nostar e = true) : starEach (e :: es) env = (false, eval e env) :: starEach es env := by
  cases e <;> first | rfl | cases h
section
variable {X : Cx} {e : Expr} {es : List Expr} {te : TE} {t : TA}
theorem pa_d (ha : PE X e te) (hr : PA X es t) (hs : nostar e = true) : PA X (e :: es) (tCons te t) := pa_cons ha hr (starEach_of hs)
end
theorem us1 {P : List Value → Prop} (h : ∀ a, P [a]) : ∀ us : List Value, us.length = 1 → P us
  | [_], _ => h _
theorem us2 {P : List Value → Prop} (h : ∀ a b, P [a, b]) : ∀ us : List Value, us.length = 2 → P us
  | [_, _], _ => h _ _
theorem us3 {P : List Value → Prop} (h : ∀ a b c, P [a, b, c]) : ∀ us : List Value, us.length = 3 → P us
  | [_, _, _], _ => h _ _ _
theorem us4 {P : List Value → Prop} (h : ∀ a b c d, P [a, b, c, d]) : ∀ us : List Value, us.length = 4 → P us
  | [_, _, _, _], _ => h _ _ _ _
end L2
end

section
set_option Elab.async false
set_option linter.all false
set_option maxRecDepth 100000
namespace L2
open PySem PySem.Spec PyProof.Rows
section
variable {σ : St} {H : Hp} {D : Ends} {Q : VK} {t u : TS} {te ta tb : TE} {QB : Bool → Hp → Prop}
theorem r_seq (h : t { D with nx := u D } σ H) : tSeq t u D σ H := h
theorem r_next (h : D.nx σ H) : tNext D σ H := h
theorem r_asg {g : TG} (h : te σ H fun x H1 => g x σ H1 D.nx) : tAsg te g D σ H := h
theorem r_gname {i : Nat} {v : V} {R : St → Hp → Prop} (h : R (σ.set i (some v)) H) : gName i v σ H R := h
theorem r_ret (h : te σ H D.rt) : tRet te D σ H := h
theorem r_drop (h : te σ H fun _ H1 => D.nx σ H1) : tDrop te D σ H := h
theorem r_ifs {c : TT} (h : c σ H fun b H1 => if b = true then t D σ H1 else u D σ H1) : tIfS c t u D σ H := h
theorem r_aug {i : Nat} {ti : TIp} {x : V} (e : σ[i]? = some (some x)) (h : te σ H fun y H1 => ti x y H1 fun z H2 => D.nx (σ.set i (some z)) H2) : tAug i te ti D σ H := ⟨x, e, h⟩
theorem r_var {i : Nat} {v : V} (e : σ[i]? = some (some v)) (h : Q v H) : tVar i σ H Q := ⟨v, e, h⟩
theorem r_c {v : V} (h : Q v H) : tC v σ H Q := h
theorem r_op {r : R2} (h : ta σ H fun x H1 => tb σ H1 fun y H2 => r x y H2 Q) : tOp r ta tb σ H Q := h
theorem r_un {r : V → Hp → VK → Prop} (h : ta σ H fun x H1 => r x H1 Q) : tUn r ta σ H Q := h
theorem r_rU {g : Int → V} {i : Int} (h : Q (g i) H) : rU g (.int i) H Q := ⟨i, rfl, h⟩
theorem r_rI0 {g : Int → Int → V} {i j : Int} (h : Q (g i j) H) : rI0 g (.int i) (.int j) H Q := ⟨i, j, rfl, rfl, h⟩
theorem r_ipI {f : Int → Int → Int} {i j : Int} (h : Q (.int (f i j)) H) : ipI f (.int i) (.int j) H Q := ⟨i, j, rfl, rfl, h⟩
theorem r_rEq {x y : V} (e : scal x y = true) (h : Q (.bl (decide (x = y))) H) : rEq x y H Q := ⟨e, h⟩
theorem r_rNe {x y : V} (e : scal x y = true) (h : Q (.bl (!decide (x = y))) H) : rNe x y H Q := ⟨e, h⟩
theorem r_test (h : te σ H fun x H' => ∃ k, x = .bl k ∧ QB k H') : tTest te σ H QB := h
theorem r_tB (h : te σ H fun x H' => ∃ k, x = .bl k ∧ QB k H') : tB te σ H QB := h
theorem r_bl {k : Bool} {P : Bool → Prop} (h : P k) : ∃ k', V.bl k = .bl k' ∧ P k' := ⟨k, rfl, h⟩
theorem r_not {c : TT} (h : c σ H fun b H1 => QB (!b) H1) : tNot c σ H QB := h
theorem r_and {c d : TT} (h : c σ H fun b H1 => if b = true then d σ H1 QB else QB false H1) : tAnd c d σ H QB := h
theorem r_or {c d : TT} (h : c σ H fun b H1 => if b = true then QB true H1 else d σ H1 QB) : tOr c d σ H QB := h
theorem r_andV (h : ta σ H fun x H1 => ∃ c, x = .bl c ∧ if c = true then tb σ H1 Q else Q (.bl false) H1) : tAndV ta tb σ H Q := h
theorem r_notV (h : ta σ H fun x H1 => ∃ c, x = .bl c ∧ Q (.bl (!c)) H1) : tNotV ta σ H Q := h
theorem r_ifE {c : TT} (h : c σ H fun b H1 => if b = true then ta σ H1 Q else tb σ H1 Q) : tIf c ta tb σ H Q := h
theorem r_chain {r r' : R2} {tc : TE} (h : ta σ H fun x H1 => tb σ H1 fun y H2 => r x y H2 fun z H3 => ∃ k, z = .bl k ∧ (if k = true then tc σ H3 fun w' H4 => r' y w' H4 Q else Q (.bl false) H3)) : tChain r r' ta tb tc σ H Q := h
theorem r_yes (h : QB true H) : tYes σ H QB := h
variable {tA tR : TA} {QA : List V → Hp → Prop}
theorem r_nil (h : QA [] H) : tNil σ H QA := h
theorem r_cons (h : te σ H fun x H1 => tR σ H1 fun xs H2 => QA (x :: xs) H2) : tCons te tR σ H QA := h
theorem r_call {sp : Sp} {E : XK} (h : tA σ H fun vs H1 => sp (vs ++ []) H1 Q E) : tCall sp [] E tA σ H Q := h
theorem r_cB {r : List V → Hp → VK → Prop} (h : tA σ H fun vs H1 => r vs H1 Q) : tCB r tA σ H Q := h
theorem r_lst (h : tA σ H fun xs H1 => xs.length ≤ sizeLine ∧ ∀ p, H1 p = none → Q (.ref p) (upd H1 p (.lst xs))) : tLst tA σ H Q := h
theorem r_tup (h : tA σ H fun xs H1 => xs.length ≤ sizeLine ∧ ∀ p, H1 p = none → Q (.ref p) (upd H1 p (.tup xs))) : tTup tA σ H Q := h
theorem r_bm {K : PySem.W.Frag} {T : String} {r : V → List V → Hp → VK → Prop} (h : te σ H fun x H1 => tyV K T x H1 ∧ tA σ H1 fun xs H2 => r x xs H2 Q) : tBM K T r te tA σ H Q := h
theorem r_sl {r : V → Option Int → Option Int → Hp → VK → Prop} {tl th : TO} (h : te σ H fun x H1 => tl σ H1 fun l H2 => th σ H2 fun u H3 => r x l u H3 Q) : tSl r te tl th σ H Q := h
theorem r_nopart {QO : Option Int → Hp → Prop} (h : QO none H) : tNoPart σ H QO := h
theorem r_part {QO : Option Int → Hp → Prop} (h : te σ H fun x H1 => ∃ i, x = .int i ∧ QO (some i) H1) : tPart te σ H QO := h
theorem r_int {P : Int → Prop} {i : Int} (h : P i) : ∃ j, V.int i = .int j ∧ P j := ⟨i, rfl, h⟩
def forB (J : It) (g : TG) (tb : TS) (D : Ends) (σ : St) (H1 : Hp) : Prop := ∃ W : Nat → Nat → St → Hp → Prop, (∃ m, W 0 m σ H1) ∧ ∀ i m σ H, W i m σ H →
  (J.stop i H ∧ D.nx σ H) ∨ (J.go i H ∧ ∃ N : St → Hp → Prop, (∀ σ' H', N σ' H' → ∃ m', m' < m ∧ W (i + 1) m' σ' H') ∧ ∀ x H', J.yld i H x H' → g x σ H' fun σ2 H2 => tb { D with nx := N, ct := N, bk := D.nx } σ2 H2)
theorem r_for {wi : TI} {g : TG} (h : wi σ H fun J H1 => forB J g t D σ H1) : tFor wi g t D σ H := h
theorem r_rng1 {R : It → Hp → Prop} (h : tA σ H fun vs H1 => ∃ j : Int, vs = [.int j] ∧ -(2 ^ 62) ≤ j ∧ j < 2 ^ 62 ∧ R (Itr 0 j.toNat) H1) : iRng1 tA σ H R := h
theorem r_rng2 {R : It → Hp → Prop} (h : tA σ H fun vs H1 => ∃ i j : Int, vs = [.int i, .int j] ∧ (-(2 ^ 62) ≤ i ∧ i < 2 ^ 62 ∧ -(2 ^ 62) ≤ j ∧ j < 2 ^ 62) ∧ R (Itr i (j - i).toNat) H1) : iRng2 tA σ H R := h
theorem r_ilist {K : PySem.W.Frag} {R : It → Hp → Prop} (h : te σ H fun x H1 => ∃ a, x = .ref a ∧ (∃ xs, SqL K H1 a xs) ∧ R (Itl K a) H1) : iList K te σ H R := h
theorem r_lc {wi : TI} {ix : List Nat} {tc : TT} (h : wi σ H fun J H1 => rdLc J H1 (frV σ ix) tc te Q) : tLc wi ix tc te σ H Q := h
theorem r_ixL {K : PySem.W.Frag} {p : Addr} {xs : List V} {i : Int} {v : V} (hs : SqL K H p xs) (e : atI xs i = some v) (h : Q v H) : rIxL K (.ref p) (.int i) H Q := ⟨p, xs, i, v, rfl, rfl, hs, e, h⟩
theorem r_ixT {K : PySem.W.Frag} {p : Addr} {xs : List V} {i : Int} {v : V} (hs : SqT K H p xs) (e : atI xs i = some v) (h : Q v H) : rIxT K (.ref p) (.int i) H Q := ⟨p, xs, i, v, rfl, rfl, hs, e, h⟩
theorem r_append {l : Addr} {xs : List V} {y : V} (hl : H l = some (.lst xs)) (hz : xs.length < sizeLine) (h : Q .non (upd H l (.lst (xs ++ [y])))) : rAppend (.ref l) [y] H Q := ⟨l, xs, y, rfl, rfl, hl, hz, h⟩
end
theorem while_rd {c : TT} {tb : TS} {D : Ends} {σ : St} {H : Hp} (Pv : St → Hp → Prop) (μ : St → Hp → Nat) (h0 : Pv σ H)
    (hs : ∀ m σ H, Pv σ H → μ σ H = m → c σ H fun b H1 => if b = true then ∃ N : St → Hp → Prop, (∀ σ' H', N σ' H' → ∃ m', m' < m ∧ (Pv σ' H' ∧ μ σ' H' = m')) ∧ tb { D with nx := N, ct := N, bk := D.nx } σ H1 else D.nx σ H1) : tWhile c tb D σ H :=
  ⟨fun m σ H => Pv σ H ∧ μ σ H = m, ⟨_, h0, rfl⟩, fun m σ H h => hs m σ H h.1 h.2⟩
theorem r_turn {tb : TS} {rt : VK} {bk : St → Hp → Prop} {σ : St} {H1 : Hp} {Pv : St → Hp → Prop} {μ : St → Hp → Nat} {m : Nat}
    (h : tb { nx := fun σ' H' => Pv σ' H' ∧ μ σ' H' < m, rt := rt, bk := bk, ct := fun σ' H' => Pv σ' H' ∧ μ σ' H' < m } σ H1) :
    ∃ N : St → Hp → Prop, (∀ σ' H', N σ' H' → ∃ m', m' < m ∧ (Pv σ' H' ∧ μ σ' H' = m')) ∧ tb { nx := N, rt := rt, bk := bk, ct := N } σ H1 := ⟨_, fun σ' H' z => ⟨_, z.2, z.1, rfl⟩, h⟩
section
variable {H : Hp} {Q : VK} {g : Int → Int → V} {i j : Int}
theorem r_mod (c : 0 < j) (h : Q (g i j) H) : rI (fun _ j => 0 < j) g (.int i) (.int j) H Q := ⟨i, j, rfl, rfl, c, h⟩
theorem r_div (c1 : 0 < j) (c2 : j < 1073741824) (h : Q (g i j) H) : rI CDiv g (.int i) (.int j) H Q := ⟨i, j, rfl, rfl, ⟨c1, c2⟩, h⟩
theorem r_mulR (c1 : -(2 ^ 64) < j) (c2 : j < 2 ^ 64) (h : Q (g i j) H) : rI CMul g (.int i) (.int j) H Q := ⟨i, j, rfl, rfl, .inr ⟨c1, c2⟩, h⟩
theorem r_mulL (c1 : -(2 ^ 64) < i) (c2 : i < 2 ^ 64) (h : Q (g i j) H) : rI CMul g (.int i) (.int j) H Q := ⟨i, j, rfl, rfl, .inl ⟨c1, c2⟩, h⟩
end
theorem iteP {c A B : Prop} [Decidable c] (h1 : c → A) (h2 : ¬ c → B) : if decide c = true then A else B := by
  by_cases h : c
  · rw [decide_eq_true h, if_pos rfl]
    exact h1 h
  · rw [decide_eq_false h, if_neg Bool.false_ne_true]
    exact h2 h
theorem iteN {c A B : Prop} [Decidable c] (h1 : ¬ c → A) (h2 : c → B) : if (!decide c) = true then A else B := by
  by_cases h : c
  · rw [decide_eq_true h, if_neg (by decide)]
    exact h2 h
  · rw [decide_eq_false h, if_pos (by decide)]
    exact h1 h
def tIfJ (c : TT) (t u : TS) : TS := fun D σ H => ∃ J : St → Hp → Prop, (∀ σ H, J σ H → D.nx σ H) ∧ c σ H fun b H1 => if b = true then t { D with nx := J } σ H1 else u { D with nx := J } σ H1
theorem ps_ifJ {X : Cx} {c : Expr} {a b : List Stmt} {tc : TT} {t u : TS} {pos : Pos} (hc : PT X c tc) (ha : PSs X a t) (hb : PSs X b u) : PS X (.If c a b pos) (tIfJ tc t u) := by
  intro pins s σ H D I h
  obtain ⟨J, hJ, h⟩ := h
  refine thn (ps_if hc ha hb pins s σ H { D with nx := J } I h) fun f s' q => ?_
  cases f with
  | next =>
    obtain ⟨σ', H', I', q'⟩ := q
    exact ⟨σ', H', I', hJ _ _ q'⟩
  | brk => exact q
  | cont => exact q
  | ret u => exact q
theorem r_ifJ {c : TT} {t u : TS} {D : Ends} {σ : St} {H : Hp} (J : St → Hp → Prop) (h : c σ H fun b H1 => if b = true then t { D with nx := J } σ H1 else u { D with nx := J } σ H1) (hJ : ∀ σ H, J σ H → D.nx σ H) : tIfJ c t u D σ H := ⟨J, hJ, h⟩
end L2
end

section
set_option Elab.async false
set_option linter.all false
set_option maxRecDepth 100000
set_option maxHeartbeats 4000000
namespace L2
open PySem PySem.Spec PyProof.Rows

def Its (z : Str) : It := ⟨fun i _ => i < z.cps.size, fun i H x H' => H' = H ∧ ∃ c, z.cps[i]? = some c ∧ x = .str (sgn c), fun i _ => z.cps.size ≤ i⟩
section
variable {X : Cx} {tg : Expr}
def iStr (tl : TE) : TI := fun σ H R => tl σ H fun x H1 => ∃ z, x = .str z ∧ R (Its z) H1
theorem turn_str {P : Program} {w : World} {K : PySem.W.Frag} {tg : Expr} {it : Addr} {z : Str} {ty : String} {t : Tok} (hty : ty = "str_ascii_iterator" ∨ ty = "str_iterator")
    (W : ∀ A' : Around, A'.handled = none → Walks P w A' it [it] [it] z.cps.size (SignAt z) (fun i h => h.IsStrIter it ty z t i))
    (hself : ∀ (A : Around) (i : Nat) (s : Shared) (Q : Value → Shared → Prop) (E : Value → Shared → Prop), s.heap.IsStrIter it ty z t i → Q (.ref it) s → wpAny (model P w) A (pyIter (.ref it)) Q E s) : Turn P w K tg (Its z) [it] it (fun i h => h.IsStrIter it ty z t i) where
  mem := by simp
  obj := fun i h st b hb => by
    have e : b = it := by simpa using hb
    subst e
    obtain ⟨o, e, c, d⟩ := st
    exact ⟨o, e, fun v z => by rw [d] at z; cases z⟩
  keep := fun i h h' st k => let ⟨o, ho, r⟩ := st; ⟨o, k it (by simp) o ho, r⟩
  item := by
    intro X hP hw hK hc i pins s σ H E I hf st hg
    subst hP hw hK
    obtain ⟨f0, f1, f2, f3, f4, f5⟩ := hf it (by simp)
    refine (W X.A (I.ok.hd hc)).item i s _ _ hg st fun v h' tk hv st' kk => ?_
    obtain ⟨c, u, hc', rfl⟩ := hv
    have I1 : Inv X pins σ H { s with heap := h', toks := tk } := I.turned (fun b o hb e => kk b o (by simpa using hb) e) f0 f1 f3 f4 f5
    obtain ⟨o, e, cc, d⟩ := id st'
    exact ⟨_, rfl, go_of (s := { s with heap := h', toks := tk }) e cc d (by rcases hty with rfl | rfl <;> decide) ⟨.str (sgn c), H, I1, ⟨u, rfl⟩, ⟨rfl, c, hc', rfl⟩, st', fun b hb => (hf b hb).1⟩⟩
  done := by
    intro X hP hw hK hc i pins s σ H E I hf st hg
    subst hP hw hK
    obtain ⟨f0, f1, f2, f3, f4, f5⟩ := hf it (by simp)
    rcases hty with rfl | rfl
    · exact wpAny_pyNext_ascii_end (I.ok.hd hc) st (Array.getElem?_eq_none hg) fun h' eb => ⟨rfl, I.turned (t' := s.toks) (fun b o hb e => eb b o hb e) f0 f1 f3 f4 f5⟩
    · exact wpAny_pyNext_wide_end (I.ok.hd hc) st (Array.getElem?_eq_none hg) fun h' eb => ⟨rfl, I.turned (t' := s.toks) (fun b o hb e => eb b o hb e) f0 f1 f3 f4 f5⟩
  self := fun A i s Q E st h => hself A i s Q E st h
theorem pi_str {l : Expr} {tl : TE} (hl : PE X l tl) : PI X tg l (iStr tl) := by
  intro pins s σ H R I h
  refine thn (hl pins s σ H _ I h) fun v s1 ⟨x, H1, I1, r1, q1⟩ => ?_
  obtain ⟨z, e, q⟩ := q1
  subst e
  obtain ⟨t, rfl⟩ := r1
  have fin : ∀ (o : Obj) (ty : String), (ty = "str_ascii_iterator" ∨ ty = "str_iterator") → (∀ A' : Around, A'.handled = none → Walks X.prog X.w A' s1.heap.objs.size [s1.heap.objs.size] [s1.heap.objs.size] z.cps.size (SignAt z) (fun i h => h.IsStrIter s1.heap.objs.size ty z t i)) →
      (∀ (A : Around) (i : Nat) (s : Shared) (Q : Value → Shared → Prop) (E : Value → Shared → Prop), s.heap.IsStrIter s1.heap.objs.size ty z t i → Q (.ref s1.heap.objs.size) s → wpAny (model X.prog X.w) A (pyIter (.ref s1.heap.objs.size)) Q E s) →
      (s1.heap.push o).IsStrIter s1.heap.objs.size ty z t 0 → PIE X pins σ tg R (.ref s1.heap.objs.size) { s1 with heap := s1.heap.push o } := fun o ty hty W hs h0 => by
    refine ⟨s1.heap.objs.size, [s1.heap.objs.size], _, _, H1, rfl, I1.kept (t' := s1.toks) fun b o e => Heap.get?_push_of_some _ e, turn_str hty W hs, h0, fun b hb => ?_, q⟩
    have e : b = s1.heap.objs.size := by simpa using hb
    subst e
    exact I1.fpOk (Nat.le_refl _) (I1.hok.fresh (Nat.le_refl _))
  cases ha : z.cps.all (· < 128)
  · exact wpAny_pyIter_wide ha (fin _ _ (.inr rfl) (fun A' hA => Walks.strWide hA _ z t) (fun A i s Q E st h => wpAny_pyIter_striter_wide st h) ⟨_, Heap.get?_push_size _ rfl, rfl, rfl⟩)
  · exact wpAny_pyIter_ascii ha (fin _ _ (.inl rfl) (fun A' hA => Walks.strAscii hA _ z t) (fun A i s Q E st h => wpAny_pyIter_striter_ascii st h) ⟨_, Heap.get?_push_size _ rfl, rfl, rfl⟩)
end
theorem r_istr {tl : TE} {σ : St} {H : Hp} {R : It → Hp → Prop} (h : tl σ H fun x H1 => ∃ z, x = .str z ∧ R (Its z) H1) : iStr tl σ H R := h
def cutS (z : Str) (lo hi : Option Int) : Str := ⟨((z.cps.toList.drop (HT.sIx z.cps.size 0 lo)).take (HT.sIx z.cps.size z.cps.size hi - HT.sIx z.cps.size 0 lo)).toArray⟩
def rSlS : V → Option Int → Option Int → Hp → VK → Prop := fun x lo hi H Q => ∃ z, x = .str z ∧ z.length ≤ sizeLine ∧ Q (.str (cutS z lo hi)) H
theorem strIx (lo hi : Option Int) (n : Nat) : Builtin.Str.strSliceIndices lo hi 1 n = (List.range (HT.sIx n n hi - HT.sIx n 0 lo)).map (HT.sIx n 0 lo + ·) := by
  have e : Builtin.Str.strSliceIndices lo hi 1 n = sliceRange ((HT.sIx n 0 lo : Nat) : Int) ((HT.sIx n n hi : Nat) : Int) 1 := by
    unfold Builtin.Str.strSliceIndices
    dsimp only
    congr 1
    · cases lo with
      | none => simp [HT.sIx]
      | some i =>
        simp only [HT.sIx, show (1 : Int) > 0 by decide, if_true]
        by_cases h : i < 0
        · simp only [h, if_true]
          omega
        · simp only [h, if_false]
          omega
    · cases hi with
      | none => simp [HT.sIx]
      | some i =>
        simp only [HT.sIx, show (1 : Int) > 0 by decide, if_true]
        by_cases h : i < 0
        · simp only [h, if_true]
          omega
        · simp only [h, if_false]
          omega
  rw [e, sliceRange_one]
theorem cut_made (z : Str) (t : Tok) (l u : Option (Int × Tok)) : (sliceMade z t l u none = .val (.str z t) ∧ cutS z (l.map (·.1)) (u.map (·.1)) = z) ∨ sliceMade z t l u none = .str (cutS z (l.map (·.1)) (u.map (·.1))) := by
  have hp : slicePicked z l u none = (List.range (HT.sIx z.length z.length (u.map (·.1)) - HT.sIx z.length 0 (l.map (·.1)))).map (HT.sIx z.length 0 (l.map (·.1)) + ·) := strIx _ _ _
  have hc : (slicePicked z l u none).filterMap (z.cps[·]?) = (cutS z (l.map (·.1)) (u.map (·.1))).cps.toList := by
    rw [hp, pick_run]
    rfl
  unfold sliceMade
  split
  · rename_i hw
    left
    refine ⟨rfl, ext_cps ?_⟩
    have hlen : (slicePicked z l u none).length = z.length := by simpa using hw
    rw [hp, List.length_map, List.length_range] at hlen
    have h1 := HT.sIx_le z.length 0 (Nat.zero_le _) (l.map (·.1))
    have h2 := HT.sIx_le z.length z.length (Nat.le_refl _) (u.map (·.1))
    have e1 : HT.sIx z.length 0 (l.map (·.1)) = 0 ∨ z.length = 0 := by omega
    show ((z.cps.toList.drop (HT.sIx z.cps.size 0 (l.map (·.1)))).take _).toArray.toList = _
    rw [show z.cps.size = z.length from rfl] at *
    rcases e1 with e1 | e1
    · rw [e1, Nat.sub_zero] at hlen
      rw [e1, hlen, Nat.sub_zero, List.drop_zero, List.toList_toArray]
      exact List.take_of_length_le (by simp [Str.length])
    · have : z.cps.toList = [] := by
        have : z.cps.size = 0 := e1
        simpa using this
      rw [this]
      simp
  · right
    rw [hc]
section
variable {X : Cx}
theorem sl_str : SlR X rSlS := by
  intro pins s σ H x v vl vu lo hi sl Q I rx hs pl pu h
  obtain ⟨z, rfl, hz, q⟩ := h
  obtain ⟨t, rfl⟩ := rx
  refine ⟨"str", _, PySem.F.slot_str_getitem.lookup, typeIs_str _ _ _, ?_⟩
  obtain ⟨l, el, el'⟩ : ∃ l : Option (Int × Tok), vl = partValue l ∧ lo = l.map (·.1) := by
    cases pl with
    | none => exact ⟨none, rfl, rfl⟩
    | int i t => exact ⟨some (i, t), rfl, rfl⟩
  obtain ⟨u, eu, eu'⟩ : ∃ u : Option (Int × Tok), vu = partValue u ∧ hi = u.map (·.1) := by
    cases pu with
    | none => exact ⟨none, rfl, rfl⟩
    | int i t => exact ⟨some (i, t), rfl, rfl⟩
  subst el el' eu eu'
  refine wpAny_getItem_str_slice (l := l) (u := u) (st := none) hs rfl ?_
  rcases cut_made z t l u with ⟨e, e2⟩ | e
  · rw [e]
    rw [e2] at q
    exact ⟨.str z, H, I, ⟨t, rfl⟩, q⟩
  · rw [e]
    refine ⟨?_, .str _, H, I.tok _, ⟨_, rfl⟩, q⟩
    refine Nat.le_trans ?_ hz
    show (List.take _ (List.drop _ z.cps.toList)).toArray.size ≤ z.cps.size
    rw [List.size_toArray, List.length_take, List.length_drop]
    simp
    omega
end
end L2
end

section
set_option Elab.async false
set_option linter.all false
set_option maxRecDepth 100000
set_option maxHeartbeats 4000000
namespace L2
open PySem PySem.Spec PyProof.Rows
theorem b_zip : bootBuiltins "zip" = some (.type "zip") := by decide +kernel
theorem b_enumerate : bootBuiltins "enumerate" = some (.type "enumerate") := by decide +kernel

theorem Inv.turnT {X : Cx} {pins : List (Addr × Obj)} {σ : List (Option V)} {H : Hp} {s : Shared} {h' : Heap} {t' : Nat} {wr : List Addr} {T : Addr} {xs : List V} {us : List Value} (I : Inv X pins σ H s)
    (k : ∀ b o, b ∉ wr → s.heap.get? b = some o → h'.get? b = some o) (hf : ∀ b ∈ wr, FpOk X pins H b) (hT : s.heap.objs.size ≤ T) (hI : h'.IsTuple T us.toArray) (rv : Vals xs us) (hz : xs.length ≤ sizeLine) :
    Inv X pins σ (upd H T (.tup xs)) { s with heap := h', toks := t' } := by
  have hn : H T = none := I.hok.fresh hT
  have nT : ∀ b u, H b = some u → b ≠ T := fun b u e => ne_of_none e hn
  have nW : ∀ b u, H b = some u → b ∉ wr := fun b u e z => by rw [(hf b z).1] at e; cases e
  refine I.step (g' := s.gens) (d' := s.drawn) (ch := wr) (fun b hb => ?_) (fun b o _ _ hc e _ => k b o hc e) (fun b o _ _ hc e _ => ⟨o.slots, k b o hc e⟩) (fun b o hc e n => ?_)
    (fun b o hc e => ⟨o, k b o hc e⟩) (fun b xs e => by rw [upd_ne (nT _ _ e)]; exact e) (fun b o u e => by rw [upd_ne (nT _ _ e)]; exact e) (fun b ps e => ⟨#[], by rw [upd_ne (nT _ _ e), e]; simp⟩) (fun m hm => ?_) (fun b u e => ?_) I.bare
  · obtain ⟨_, f1, _, f3, f4, f5⟩ := hf b hb
    exact ⟨f3, f1, f4, f5⟩
  · rw [upd_ne (Nat.ne_of_lt (Nat.lt_of_lt_of_le (Heap.lt_size e) hT))]
    exact n
  · obtain ⟨o, es, ep, ho, r⟩ := hm
    exact ⟨o, es, ep, k _ o (fun z => (hf _ z).2.1 rfl) ho, r⟩
  · by_cases hb : b = T
    · subst hb
      rw [upd_same] at e
      cases e
      exact ⟨hz, us, rv, hI⟩
    · rw [upd_ne hb] at e
      refine (I.hok b u e).stay (fun c v hc q => k c v ?_ q) (fun c q => by rw [upd_ne (nT _ _ q)]; exact q) fun c ys q => by rw [upd_ne (nT _ _ q)]; exact q
      rcases hc with z | z
      · rw [z]; exact nW b u e
      · exact nW c _ z
theorem Inv.turnW {X : Cx} {pins : List (Addr × Obj)} {σ : List (Option V)} {H : Hp} {s : Shared} {h' : Heap} {t' : Nat} {wr : List Addr} (I : Inv X pins σ H s)
    (k : ∀ b o, b ∉ wr → s.heap.get? b = some o → h'.get? b = some o) (hf : ∀ b ∈ wr, FpOk X pins H b) : Inv X pins σ H { s with heap := h', toks := t' } := by
  have nW : ∀ b u, H b = some u → b ∉ wr := fun b u e z => by rw [(hf b z).1] at e; cases e
  refine I.step (g' := s.gens) (d' := s.drawn) (ch := wr) (fun b hb => ?_) (fun b o _ _ hc e _ => k b o hc e) (fun b o _ _ hc e _ => ⟨o.slots, k b o hc e⟩) (fun b o hc e n => n)
    (fun b o hc e => ⟨o, k b o hc e⟩) (fun _ _ e => e) (fun _ _ _ e => e) (fun b ps e => ⟨#[], by rw [e]; simp⟩) (fun m hm => ?_) (fun b u e => ?_) I.bare
  · obtain ⟨_, f1, _, f3, f4, f5⟩ := hf b hb
    exact ⟨f3, f1, f4, f5⟩
  · obtain ⟨o, es, ep, ho, r⟩ := hm
    exact ⟨o, es, ep, k _ o (fun z => (hf _ z).2.1 rfl) ho, r⟩
  · refine (I.hok b u e).stay (fun c v hc q => k c v ?_ q) (fun _ q => q) fun _ _ q => q
    rcases hc with z | z
    · rw [z]; exact nW b u e
    · exact nW c _ z
theorem cls_ne {h : Heap} {a b : Addr} {o u : Obj} (h1 : h.get? a = some o) (h2 : h.get? b = some u) (d : o.cls ≠ u.cls) : a ≠ b := fun e => by
  subst e
  rw [h1] at h2
  cases h2
  exact d rfl
def Itz (K : PySem.W.Frag) (a b : Addr) : It :=
  ⟨fun i H => ∃ xs ys x y, SqL K H a xs ∧ SqL K H b ys ∧ xs[i]? = some x ∧ ys[i]? = some y,
   fun i H v H' => ∃ t x y, H t = none ∧ v = .ref t ∧ (∀ xs, SqL K H a xs → xs[i]? = some x) ∧ (∀ ys, SqL K H b ys → ys[i]? = some y) ∧ H' = upd H t (.tup [x, y]),
   fun i H => ∃ xs ys, SqL K H a xs ∧ SqL K H b ys ∧ i = min xs.length ys.length⟩
def StZ (z TI TO i1 i2 l1 l2 : Addr) (i : Nat) (h : Heap) : Prop := IsZip h z TI TO .none ∧ IsPair h TI (.ref i1) (.ref i2) ∧ (∃ a b, IsPair h TO a b) ∧ h.IsListIter i1 l1 i ∧ h.IsListIter i2 l2 i
structure ApartZ (z TI TO i1 i2 : Addr) : Prop where
  TIz : TI ≠ z
  TOz : TO ≠ z
  i1z : i1 ≠ z
  i2z : i2 ≠ z
  TITO : TI ≠ TO
  TIi1 : TI ≠ i1
  TIi2 : TI ≠ i2
  TOi1 : TO ≠ i1
  TOi2 : TO ≠ i2
  i12 : i1 ≠ i2
theorem apartZ {h : Heap} {z TI TO i1 i2 a b : Addr} {i : Nat} {xs ys : Array Value} (D : ApartZ z TI TO i1 i2) (st : StZ z TI TO i1 i2 a b i h) (ha : h.IsList a xs) (hb : h.IsList b ys) : ZipApart z TI TO i1 i2 a b := by
  obtain ⟨hz, hTI, ⟨u, v, hTO⟩, ⟨o1, e1, c1, _⟩, ⟨o2, e2, c2, _⟩⟩ := st
  obtain ⟨oa, ea, ca, _⟩ := ha
  obtain ⟨ob, eb, cb, _⟩ := hb
  refine ⟨D.TIz, D.TOz, D.i1z, D.i2z, D.TITO, D.TIi1, D.TIi2, D.TOi1, D.TOi2, D.i12, cls_ne ea hz ?_, cls_ne ea hTO ?_, cls_ne ea e1 ?_, cls_ne ea e2 ?_, cls_ne eb hz ?_, cls_ne eb hTO ?_, cls_ne eb e1 ?_, cls_ne eb e2 ?_⟩
  · rw [ca]; exact show Value.type "list" ≠ Value.type "zip" by decide
  · rw [ca]; exact show Value.type "list" ≠ Value.type "tuple" by decide
  · rw [ca, c1]; decide
  · rw [ca, c2]; decide
  · rw [cb]; exact show Value.type "list" ≠ Value.type "zip" by decide
  · rw [cb]; exact show Value.type "list" ≠ Value.type "tuple" by decide
  · rw [cb, c1]; decide
  · rw [cb, c2]; decide
theorem apartZ_new (n : Nat) : ApartZ (n + 4) (n + 2) (n + 3) n (n + 1) := by
  constructor <;> (intro h; have h : (_ : Nat) = _ := h; omega)
theorem le_z5 {n c : Nat} (h : c = n + 4 ∨ c = n + 2 ∨ c = n + 3 ∨ c = n ∨ c = n + 1) : n ≤ c := by omega
theorem le_z2 {n c : Nat} (h : c = n + 1 ∨ c = n) : n ≤ c := by omega
theorem ne_z1 (n : Nat) : n + 1 ≠ n := by omega
theorem turn_zip {P : Program} {w : World} {K : PySem.W.Frag} {elts : List Expr} {k : Nat} {pos : Pos} (z TI TO i1 i2 a b : Addr) (D : ApartZ z TI TO i1 i2) :
    Turn P w K (.Tuple elts k pos) (Itz K a b) [z, TI, TO, i1, i2] z (StZ z TI TO i1 i2 a b) where
  mem := by simp
  obj := fun i h st c hc => by
    obtain ⟨hz, hTI, ⟨u, v, hTO⟩, ⟨o1, e1, c1, d1⟩, ⟨o2, e2, c2, d2⟩⟩ := st
    simp only [List.mem_cons, List.not_mem_nil, or_false] at hc
    rcases hc with rfl | rfl | rfl | rfl | rfl
    · exact ⟨_, hz, fun v z => by cases z⟩
    · exact ⟨_, hTI, fun v z => by cases z⟩
    · exact ⟨_, hTO, fun v z => by cases z⟩
    · exact ⟨_, e1, fun v z => by rw [d1] at z; cases z⟩
    · exact ⟨_, e2, fun v z => by rw [d2] at z; cases z⟩
  keep := fun i h h' st kk => by
    obtain ⟨hz, hTI, ⟨u, v, hTO⟩, h1, h2⟩ := st
    exact ⟨kk _ (by simp) _ hz, kk _ (by simp) _ hTI, ⟨u, v, kk _ (by simp) _ hTO⟩, h1.at fun o e => kk _ (by simp) o e, h2.at fun o e => kk _ (by simp) o e⟩
  item := by
    intro X hP hw hK hc i pins s σ H E I hf st hg
    subst hP hw hK
    obtain ⟨xs, ys, x, y, ha, hb, hx, hy⟩ := hg
    obtain ⟨its, rv, p, hz⟩ := I.list ha
    obtain ⟨its2, rv2, p2, hz2⟩ := I.list hb
    have W := WalksT.zip2 (prog := X.prog) (w := X.w) (A := X.A) (I.ok.hd hc) z TI TO i1 i2 a b (apartZ D st p.isList p2.isList) its.toArray its2.toArray
    obtain ⟨u1, hu1, ru1⟩ := rv.get hx
    obtain ⟨u2, hu2, ru2⟩ := rv2.get hy
    have l1 := (List.getElem?_eq_some_iff.mp hu1).1
    have l2 := (List.getElem?_eq_some_iff.mp hu2).1
    obtain ⟨s1, s2, s3, s4, s5⟩ := id st
    refine W.item i s _ _ (by simp; omega) ⟨s1, s2, s3, s4, s5, p.isList, p2.isList⟩ fun T vals h' tk hv hT hTu mid kk => ?_
    obtain ⟨v1, v2, e1, e2, rfl⟩ := hv
    have e1 : v1 = u1 := by have := e1; simp only [List.getElem?_toArray] at this; rw [hu1] at this; exact (Option.some.inj this).symm
    have e2 : v2 = u2 := by have := e2; simp only [List.getElem?_toArray] at this; rw [hu2] at this; exact (Option.some.inj this).symm
    subst e1 e2
    have nT := W.apart i T h' mid
    refine ⟨.ref T, rfl, W.go elts k pos i T { s with heap := h', toks := tk } _ _ mid fun h'' st'' kk2 => ?_⟩
    have hTu2 : h''.IsTuple T ([v1, v2] : List Value).toArray := by
      obtain ⟨o, e, r⟩ := hTu
      exact ⟨o, kk2 T o nT e, r⟩
    have I2 : Inv X pins σ (upd H T (.tup [x, y])) { s with heap := h'', toks := tk } := I.turnT (t' := tk) (fun b o hb e => kk2 b o hb (kk b o hb e)) (fun b hb => hf b (by simp at hb ⊢; rcases hb with rfl | rfl | rfl | rfl <;> simp)) hT hTu2 (.cons ru1 (.cons ru2 .nil)) (show 2 ≤ sizeLine by decide)
    refine ⟨.ref T, _, I2, rfl, ⟨T, x, y, I.hok.fresh hT, rfl, fun xs' h => by rw [I.list_inj h ha]; exact hx, fun ys' h => by rw [I.list_inj h hb]; exact hy, rfl⟩, ⟨st''.1, st''.2.1, st''.2.2.1, st''.2.2.2.1, st''.2.2.2.2.1⟩, fun c hc' => ?_⟩
    have hlt : c < s.heap.objs.size := by
      obtain ⟨q, ⟨t1, t2, t3⟩⟩ : c ∈ [z, TI, TO, i1, i2] ∧ (IsZip s.heap z TI TO .none ∧ IsPair s.heap TI (.ref i1) (.ref i2) ∧ True) := ⟨hc', s1, s2, trivial⟩
      obtain ⟨u, v, s3⟩ := s3
      obtain ⟨o4, s4, _⟩ := s4
      obtain ⟨o5, s5, _⟩ := s5
      simp only [List.mem_cons, List.not_mem_nil, or_false] at hc'
      rcases hc' with rfl | rfl | rfl | rfl | rfl
      · exact Heap.lt_size s1
      · exact Heap.lt_size s2
      · exact Heap.lt_size s3
      · exact Heap.lt_size s4
      · exact Heap.lt_size s5
    rw [upd_ne (Nat.ne_of_lt (Nat.lt_of_lt_of_le hlt hT))]
    exact (hf c hc').1
  done := by
    intro X hP hw hK hc i pins s σ H E I hf st hg
    subst hP hw hK
    obtain ⟨xs, ys, ha, hb, hi⟩ := hg
    obtain ⟨its, rv, p, hz⟩ := I.list ha
    obtain ⟨its2, rv2, p2, hz2⟩ := I.list hb
    have W := WalksT.zip2 (prog := X.prog) (w := X.w) (A := X.A) (I.ok.hd hc) z TI TO i1 i2 a b (apartZ D st p.isList p2.isList) its.toArray its2.toArray
    have hl := rv.length
    have hl2 := rv2.length
    have hi2 : i = min its.toArray.size its2.toArray.size := by rw [hi, hl, hl2]; simp
    obtain ⟨s1, s2, s3, s4, s5⟩ := id st
    refine W.done s _ _ (by rw [← hi2]; exact ⟨s1, s2, s3, s4, s5, p.isList, p2.isList⟩) fun h' tk kk => ⟨rfl, ?_⟩
    exact I.turnW (t' := tk) kk fun b hb => hf b (by simp at hb ⊢; rcases hb with rfl | rfl | rfl | rfl <;> simp)
  self := fun _ _ _ _ _ st h => wpAny_pyIter_zip st.1 h
section
variable {X : Cx} {elts : List Expr} {k : Nat} {tpos : Pos}
def iZip (K : PySem.W.Frag) (ta : TA) : TI := fun σ H R => ta σ H fun vs H1 => ∃ a b, vs = [.ref a, .ref b] ∧ (∃ xs, SqL K H1 a xs) ∧ (∃ ys, SqL K H1 b ys) ∧ R (Itz K a b) H1
theorem pi_zip {a b : Expr} {ta : TA} {p pos : Pos} (hg : Gl X "zip") (hm : X.mg "zip" = none) (ha : PA X [a, b] ta) (hs : starEach [a, b] X.env = [(false, eval a X.env), (false, eval b X.env)] := by rfl) (hs2 : starEach [b] X.env = [(false, eval b X.env)] := by rfl) :
    PI X (.Tuple elts k tpos) (.Call (.Name "zip" p) [a, b] [] pos) (iZip X.K ta) := by
  intro pins s σ H R I h
  refine Call_ (ld_blt I hg hm b_zip (PyProof.Rows.callWith_type1 (thn (ha pos pins s σ H _ I h) fun us s1 ⟨vs, H1, I1, r1, q1⟩ => ?_) (by rw [hs, hs2]) (by rw [hs2]; rfl)))
  obtain ⟨a, b, e, ⟨xs, hx⟩, ⟨ys, hy⟩, q⟩ := q1
  subst e
  obtain ⟨u, v, rfl, ru, rv⟩ := vals2 r1
  cases ru
  cases rv
  obtain ⟨its, rv, p, hz⟩ := I1.list hx
  obtain ⟨its2, rv2, p2, hz2⟩ := I1.list hy
  refine call_zip_2 p.isList p2.isList fun h' g1 g2 g3 g4 g5 hsz kk => ?_
  refine wpAny_pyIter_zip (s := { s1 with heap := h' }) g1 ?_
  refine ⟨s1.heap.objs.size + 4, [s1.heap.objs.size + 4, s1.heap.objs.size + 2, s1.heap.objs.size + 3, s1.heap.objs.size, s1.heap.objs.size + 1], _, _, H1, rfl, I1.kept (t' := s1.toks) kk,
    turn_zip _ _ _ _ _ a b (apartZ_new _), ⟨g1, g2, ⟨_, _, g3⟩, g4, g5⟩, fun c hc => ?_, q⟩
  have hle : s1.heap.objs.size ≤ c := by
    simp only [List.mem_cons, List.not_mem_nil, or_false] at hc
    exact le_z5 hc
  exact I1.fpOk hle (I1.hok.fresh hle)
end
def Ite (K : PySem.W.Frag) (a : Addr) : It :=
  ⟨fun i H => ∃ xs x, SqL K H a xs ∧ xs[i]? = some x,
   fun i H v H' => ∃ t x, H t = none ∧ v = .ref t ∧ (∀ xs, SqL K H a xs → xs[i]? = some x) ∧ H' = upd H t (.tup [.int i, x]),
   fun i H => ∃ xs, SqL K H a xs ∧ i = xs.length⟩
def StE (e it l : Addr) (i : Nat) (h : Heap) : Prop := (∃ old, IsEnum h e it i old) ∧ h.IsListIter it l i
theorem turn_enum {P : Program} {w : World} {K : PySem.W.Frag} {elts : List Expr} {k : Nat} {pos : Pos} (e it a : Addr) (D : e ≠ it) :
    Turn P w K (.Tuple elts k pos) (Ite K a) [e, it] e (StE e it a) where
  mem := by simp
  obj := fun i h st c hc => by
    obtain ⟨⟨old, he⟩, ⟨o1, e1, c1, d1⟩⟩ := st
    simp only [List.mem_cons, List.not_mem_nil, or_false] at hc
    rcases hc with rfl | rfl
    · exact ⟨_, he, fun v z => by cases z⟩
    · exact ⟨_, e1, fun v z => by rw [d1] at z; cases z⟩
  keep := fun i h h' st kk => by
    obtain ⟨⟨old, he⟩, h1⟩ := st
    exact ⟨⟨old, kk _ (by simp) _ he⟩, h1.at fun o e => kk _ (by simp) o e⟩
  item := by
    intro X hP hw hK hc i pins s σ H E I hf st hg
    subst hP hw hK
    obtain ⟨xs, x, ha, hx⟩ := hg
    obtain ⟨its, rv, p, hz⟩ := I.list ha
    obtain ⟨⟨old, s1⟩, s2⟩ := id st
    have n1 : a ≠ e := by obtain ⟨oa, ea, ca, _⟩ := p.isList; exact cls_ne ea s1 (by rw [ca]; exact show Value.type "list" ≠ Value.type "enumerate" by decide)
    have n2 : a ≠ it := by obtain ⟨oa, ea, ca, _⟩ := p.isList; obtain ⟨o1, e1, c1, _⟩ := s2; exact cls_ne ea e1 (by rw [ca, c1]; decide)
    have W := WalksT.enumerate (prog := X.prog) (w := X.w) (A := X.A) (I.ok.hd hc) e it a D n1 n2 its.toArray
    obtain ⟨u1, hu1, ru1⟩ := rv.get hx
    have l1 := (List.getElem?_eq_some_iff.mp hu1).1
    refine W.item i s _ _ (by simpa using l1) ⟨⟨old, s1⟩, s2, p.isList⟩ fun T vals h' tk hv hT hTu mid kk => ?_
    obtain ⟨t, v1, e1, rfl⟩ := hv
    have e1 : v1 = u1 := by have := e1; simp only [List.getElem?_toArray] at this; rw [hu1] at this; exact (Option.some.inj this).symm
    subst e1
    have nT := W.apart i T h' mid
    refine ⟨.ref T, rfl, W.go elts k pos i T { s with heap := h', toks := tk } _ _ mid fun h'' st'' kk2 => ?_⟩
    have hTu2 : h''.IsTuple T ([Value.int (i : Int) t, v1] : List Value).toArray := by
      obtain ⟨o, e, r⟩ := hTu
      exact ⟨o, kk2 T o nT e, r⟩
    have I2 : Inv X pins σ (upd H T (.tup [.int i, x])) { s with heap := h'', toks := tk } := I.turnT (t' := tk) (fun b o hb e => kk2 b o hb (kk b o hb e)) (fun b hb => hf b hb) hT hTu2 (.cons ⟨t, rfl⟩ (.cons ru1 .nil)) (show 2 ≤ sizeLine by decide)
    refine ⟨.ref T, _, I2, rfl, ⟨T, x, I.hok.fresh hT, rfl, fun xs' h => by rw [I.list_inj h ha]; exact hx, rfl⟩, ⟨?_, st''.2.1⟩, fun c hc' => ?_⟩
    · exact st''.1
    have hlt : c < s.heap.objs.size := by
      obtain ⟨o5, s5, _⟩ := s2
      simp only [List.mem_cons, List.not_mem_nil, or_false] at hc'
      rcases hc' with rfl | rfl
      · exact Heap.lt_size s1
      · exact Heap.lt_size s5
    rw [upd_ne (Nat.ne_of_lt (Nat.lt_of_lt_of_le hlt hT))]
    exact (hf c hc').1
  done := by
    intro X hP hw hK hc i pins s σ H E I hf st hg
    subst hP hw hK
    obtain ⟨xs, ha, hi⟩ := hg
    obtain ⟨its, rv, p, hz⟩ := I.list ha
    obtain ⟨⟨old, s1⟩, s2⟩ := id st
    have n1 : a ≠ e := by obtain ⟨oa, ea, ca, _⟩ := p.isList; exact cls_ne ea s1 (by rw [ca]; exact show Value.type "list" ≠ Value.type "enumerate" by decide)
    have n2 : a ≠ it := by obtain ⟨oa, ea, ca, _⟩ := p.isList; obtain ⟨o1, e1, c1, _⟩ := s2; exact cls_ne ea e1 (by rw [ca, c1]; decide)
    have W := WalksT.enumerate (prog := X.prog) (w := X.w) (A := X.A) (I.ok.hd hc) e it a D n1 n2 its.toArray
    have hl := rv.length
    have hi2 : i = its.toArray.size := by rw [hi, hl]; simp
    refine W.done s _ _ (by rw [← hi2]; exact ⟨⟨old, s1⟩, s2, p.isList⟩) fun h' tk kk => ⟨rfl, ?_⟩
    exact I.turnW (t' := tk) kk fun b hb => hf b hb
  self := fun _ _ _ _ _ st h => wpAny_pyIter_enum (Classical.choose_spec st.1) h
section
variable {X : Cx} {elts : List Expr} {k : Nat} {tpos : Pos}
def iEnum (K : PySem.W.Frag) (ta : TA) : TI := fun σ H R => ta σ H fun vs H1 => ∃ a, vs = [.ref a] ∧ (∃ xs, SqL K H1 a xs) ∧ R (Ite K a) H1
theorem pi_enum {a : Expr} {ta : TA} {p pos : Pos} (hg : Gl X "enumerate") (hm : X.mg "enumerate" = none) (ha : PA X [a] ta) (hs : starEach [a] X.env = [(false, eval a X.env)] := by rfl) :
    PI X (.Tuple elts k tpos) (.Call (.Name "enumerate" p) [a] [] pos) (iEnum X.K ta) := by
  intro pins s σ H R I h
  refine Call_ (ld_blt I hg hm b_enumerate (PyProof.Rows.callWith_type1 (thn (ha pos pins s σ H _ I h) fun us s1 ⟨vs, H1, I1, r1, q1⟩ => ?_) hs rfl))
  obtain ⟨a, e, ⟨xs, hx⟩, q⟩ := q1
  subst e
  obtain ⟨u, rfl, ru⟩ := vals1 r1
  cases ru
  obtain ⟨its, rv, p, hz⟩ := I1.list hx
  refine call_enumerate_list p.isList fun h' g1 g2 hsz kk => ?_
  refine wpAny_pyIter_enum (s := { s1 with heap := h' }) g1 ?_
  refine ⟨s1.heap.objs.size + 1, [s1.heap.objs.size + 1, s1.heap.objs.size], _, _, H1, rfl, I1.kept (t' := s1.toks) kk,
    turn_enum _ _ a (ne_z1 _), ⟨⟨_, g1⟩, g2⟩, fun c hc => ?_, q⟩
  have hle : s1.heap.objs.size ≤ c := by
    simp only [List.mem_cons, List.not_mem_nil, or_false] at hc
    exact le_z2 hc
  exact I1.fpOk hle (I1.hok.fresh hle)
end
end L2
end

section
set_option Elab.async false
set_option linter.all false
set_option maxRecDepth 100000
set_option maxHeartbeats 4000000
namespace L2
open PySem PySem.Spec PyProof.Rows
structure LcScope2 (N₀ : List Str) (sc₀ sc : Scope) (x1 x2 : Str) (N : List Str) (ix : List Nat) : Prop where
  kind : sc.kind = .function
  nocell : ∀ y ∈ sc.names, y.2 ≠ .cell
  names : ∀ y ∈ sc.names, y.2 = .local → sc.names.lookup y.1 = some .local
  free : ∀ y ∈ sc.names, y.2 = .free → sc₀.names.lookup y.1 = some .cell
  nd : N.Nodup
  hd : N[0]? = some x1
  hd2 : N[1]? = some x2
  loc : sc.names.lookup x1 = some .local
  loc2 : sc.names.lookup x2 = some .local
  len : N.length = ix.length + 2
  at_ : ∀ p ∈ N.tail.tail.zip ix, N₀[p.2]? = some p.1 ∧ sc.names.lookup p.1 = some .free
def rdLc2 (K : PySem.W.Frag) (J : It) (H1 : Hp) (fr : St) (tc : TT) (te : TE) (Q : VK) : Prop := ∀ D, H1 D = none → ∃ W : Nat → Nat → Hp → Prop, (∃ m, W 0 m (upd H1 D (.lst []))) ∧ ∀ i m H, W i m H →
  (J.stop i H ∧ Q (.ref D) H) ∨ (J.go i H ∧ ∀ v H', J.yld i H v H' → ∃ a x y, v = .ref a ∧ SqT K H' a [x, y] ∧ tc (some x :: some y :: fr) H' fun b H3 =>
    if b = true then te (some x :: some y :: fr) H3 fun y H4 => ∃ ys, H4 D = some (.lst ys) ∧ ys.length < sizeLine ∧ ∃ m', m' < m ∧ W (i + 1) m' (upd H4 D (.lst (ys ++ [y]))) else ∃ m', m' < m ∧ W (i + 1) m' H3)
def tLc2 (K : PySem.W.Frag) (wi : TI) (ix : List Nat) (tc : TT) (te : TE) : TE := fun σ H Q => wi σ H fun J H1 => rdLc2 K J H1 (frV σ ix) tc te Q
section
variable {X : Cx} {scope : Scope} {N : List Str} {ix : List Nat} {x1 x2 : Str} {px px2 ppos : Pos} {kk : Nat} {elt iter : Expr} {ifs : List Expr} {tc : TT} {te : TE} {pos : Pos}
theorem lc_ok2 {pins : List (Addr × Obj)} {σ : St} {H2 : Hp} {s2 : Shared} {J : It} {fp : List Addr} {it : Addr} {tn : Nat → Heap → Prop} {tg : Expr} (L : LcScope2 X.N X.env.scope scope x1 x2 N ix) (I2 : Inv X pins σ H2 s2)
    (T : Turn X.prog X.w X.K tg J fp it tn) (st2 : tn 0 s2.heap) (f2 : ∀ b ∈ fp, FpOk X pins H2 b) {C : Addr} {s3 s4 : Shared} {H3 : Hp} (I3 : Inv X pins σ H3 s3) (I4 : Inv X pins σ H3 s4) (hle : s2.heap.objs.size ≤ s3.heap.objs.size)
    (hC : C = s3.heap.objs.size) (ho : s4.os = s3.os) (kp : ∀ b u, s3.heap.get? b = some u → s4.heap.get? b = some u) {m : Str → Option Value} (hns : s4.heap.Ns C m) : Inv (cxLc X scope N C s3 H3 fp) [] (none :: none :: frV σ ix) H3 s4 := by
  have hfree : ∀ y ∈ scope.names, y.2 = .free → ∃ c, X.env.cells.lookup y.1 = some c := fun y hy hf => I2.ok.has y.1 (.inl (L.free y hy hf))
  have sub : ∀ y c, (cloGo X.env scope.names []).lookup y = some c → X.env.cells.lookup y = some c := fun y c h => cloGo_sub _ _ y c hfree (fun _ _ z => by simp at z) h
  have lt2 : ∀ b ∈ fp, b < s2.heap.objs.size := fun b hb => by obtain ⟨o, e, _⟩ := T.obj _ _ st2 b hb; exact Heap.lt_size e
  have okY : (cxLc X scope N C s3 H3 fp).Ok := by
    refine ⟨I2.ok.mod, L.kind, I2.ok.glob, I2.ok.blt, Nat.le_of_eq hC.symm, fun y z c h1 h2 => I2.ok.inj y z c (sub y c h1) (sub z c h2), fun y hy => ?_, fun y c z _ => ?_, I2.ok.hd, I2.ok.frames, .inl rfl, fun b hb => ⟨?_, fun y c h => (f2 b hb).2.2.2.2.1 y c (sub y c h)⟩,
      I3.bs, Nat.le_trans I3.ok.bsz I3.sz, fun b o e hb => ?_, fun b hb z => ?_, I3.stack, I3.stkFree⟩
    · have hk : (y, NameKind.free) ∈ scope.names := by
        rcases hy with hy | hy
        · rcases relabel_of hy with q | q
          · exact absurd rfl (L.nocell _ q)
          · exact q.1
        · rcases relabel_of hy with q | q
          · exact q
          · exact absurd q.2 (by decide)
      exact Option.isSome_iff_exists.mp (cloGo_has _ _ y hk)
    · cases (show false = true from z)
    · have l := lt2 b hb
      show b ≠ C
      rw [hC]
      exact Nat.ne_of_lt (Nat.lt_of_lt_of_le l hle)
    · rcases (f2 b hb).2.2.2.1 with q | q
      · exact I2.ok.noex b o e q
      · exact absurd (Nat.lt_of_lt_of_le (Heap.lt_size e) (Nat.le_trans I2.ok.bsz q)) (Nat.lt_irrefl _)
    · rcases List.mem_cons.mp (I2.stkSub b z) with q | q
      · exact (f2 b hb).2.1 q
      · exact (f2 b hb).2.2.1 q
  refine ⟨okY, ho, I4.bare, Un.kept kp, ⟨m, hns, fun i y v h1 h2 h3 => ?_⟩, fun y c e => I4.cell y c (sub y c e), ?_, fun y c e => I4.freeC y c (sub y c e), fun p hp => absurd (show p ∈ ([] : List (Addr × Obj)) from hp) (by simp), I4.hok, ?_⟩
  · cases i with
    | zero => cases (show some none = some (some v) from h2)
    | succ k =>
     cases k with
     | zero => cases (show some none = some (some v) from h2)
     | succ k =>
      have h2 : (frV σ ix)[k]? = some (some v) := h2
      have h1 : N[k + 1 + 1]? = some y := h1
      unfold frV at h2
      rw [List.getElem?_map] at h2
      cases hj : ix[k]? with
      | none => rw [hj] at h2; cases h2
      | some j =>
        rw [hj] at h2
        have h2 : (σ[j]?).getD none = some v := Option.some.inj h2
        have h2' : σ[j]? = some (some v) := by
          cases e : σ[j]? with
          | none => rw [e] at h2; cases h2
          | some z => rw [e] at h2; exact congrArg some h2
        have ht : N.tail.tail[k]? = some y := by rw [List.getElem?_tail, List.getElem?_tail]; exact h1
        have hz : (y, j) ∈ N.tail.tail.zip ix := List.mem_of_getElem? (i := k) (by rw [List.getElem?_zip_eq_some]; exact ⟨ht, hj⟩)
        obtain ⟨q1, q2⟩ := L.at_ _ hz
        have hm := PySem.mem_of_lookup q2
        have hcell := L.free _ hm rfl
        obtain ⟨m', hn', hl'⟩ := I4.loc
        obtain ⟨u, r, lk⟩ := hl' j y v q1 h2' (.inr (.inl hcell))
        refine ⟨u, r, .inr ⟨.inl (relabel_free I2.ok.kind hcell q2), ?_⟩⟩
        rcases lk with lk | ⟨_, c, e, z⟩
        · rw [show X.env.kindOf y = some .cell from hcell] at lk
          cases lk.1
        · obtain ⟨c', e'⟩ := Option.isSome_iff_exists.mp (cloGo_has (env := X.env) scope.names [] y hm)
          have e2 := sub y c' e'
          rw [e] at e2
          cases e2
          exact ⟨c, e', z⟩
  · show H3 C = none
    exact I3.hok.fresh (Nat.le_of_eq hC.symm)
  · show (none :: none :: frV σ ix).length = N.length
    rw [L.len]
    simp [frV]
theorem lc_run2 {tgt : Expr} (htg : tgt = .Tuple [.Name x1 px, .Name x2 px2] kk ppos) {pins : List (Addr × Obj)} {σ : St} {H2 : Hp} {s2 : Shared} {J : It} {fp : List Addr} {it : Addr} {tn : Nat → Heap → Prop} (hc : X.calm = true) (L : LcScope2 X.N X.env.scope scope x1 x2 N ix) (I2 : Inv X pins σ H2 s2)
    (T : Turn X.prog X.w X.K tgt J fp it tn) (st2 : tn 0 s2.heap) (f2 : ∀ b ∈ fp, FpOk X pins H2 b)
    (hif : ∀ C s H, PIf (cxLc X scope N C s H fp) ifs tc) (he : ∀ C s H, PE (cxLc X scope N C s H fp) elt te) {Q : VK} (rd : rdLc2 X.K J H2 (frV σ ix) tc te Q) {RR : Value → Addr → Result → Shared → Prop} {E : Value → Shared → Prop}
    (fin : ∀ D C H' s' m, Inv X pins σ H' s' → s2.heap.objs.size ≤ C → H' C = none → s'.heap.Ns C m → Q (.ref D) H' → RR (.ref D) C (.ok .next) s') :
    wpAny (model X.prog X.w) X.A (newList []) (fun acc s3 => wpAny (model X.prog X.w) X.A (newFunctionEnv scope X.env.globals (cloGo X.env scope.names []) [] X.env.qual none .none (some X.env)) (fun cenv s4 =>
      codeAny (model X.prog X.w) X.A (.compStart (.ListComp elt [⟨tgt, iter, ifs, 0⟩] scope pos) 0 (.ref it) acc { cenv with scope := relabel scope X.env }) (RR acc cenv.locals) s4) E s3) E s2 := by
  refine wpAny_newObj_type (wpAny_newFunctionEnv L.nocell (by intro y hy; simp at hy) (fun h1 hns hsb => ?_) L.kind)
  dsimp only at hns hsb ⊢
  have I3 : Inv X pins σ (upd H2 s2.heap.objs.size (.lst [])) { s2 with heap := s2.heap.push { cls := .type "list", dict := none, data := .seq ([] : List Value).toArray } } := I2.lnew (its := []) (t' := s2.toks) .nil (Nat.zero_le _)
  generalize hH3 : s2.heap.push { cls := .type "list", dict := none, data := .seq ([] : List Value).toArray } = h3 at hns hsb I3 ⊢
  have hsz : h3.objs.size = s2.heap.objs.size + 1 := by rw [← hH3, Heap.size_push]
  have kp34 : ∀ b u, h3.get? b = some u → h1.get? b = some u := fun b u e => hsb.extBut b u (Nat.ne_of_lt (Heap.lt_size e)) (Heap.get?_push_of_some _ e)
  have I4 : Inv X pins σ (upd H2 s2.heap.objs.size (.lst [])) { s2 with heap := h1, toks := s2.toks + ([] : List (Str × Value)).length } := I3.kept (t' := s2.toks + ([] : List (Str × Value)).length) kp34
  have kp24 : ∀ b u, s2.heap.get? b = some u → h1.get? b = some u := fun b u e => kp34 b u (by rw [← hH3]; exact Heap.get?_push_of_some _ e)
  have IY := lc_ok2 (C := h3.objs.size) (s3 := { s2 with heap := h3 }) L I2 T st2 f2 I3 I4 (by show s2.heap.objs.size ≤ h3.objs.size; omega) rfl rfl kp34 hns
  have fD : H2 s2.heap.objs.size = none := I2.hok.fresh (Nat.le_refl _)
  have lt2 : ∀ b ∈ fp, b < s2.heap.objs.size := fun b hb => by obtain ⟨o, e, _⟩ := T.obj _ _ st2 b hb; exact Heap.lt_size e
  have st4 : tn 0 h1 := T.keep _ _ _ st2 fun b _ o e => kp24 b o e
  have stat : ∀ {pn : List (Addr × Obj)} {H' : Hp}, pn = [] → (∀ b ∈ fp, H' b = none) → ∀ b ∈ fp, FpOk (cxLc X scope N h3.objs.size { s2 with heap := h3 } (upd H2 s2.heap.objs.size (.lst [])) fp) pn H' b := fun hp hn b hb => by
    subst hp
    exact ⟨hn b hb, (IY.ok.exf b hb).1, IY.ok.exfs b hb, .inl hb, (IY.ok.exf b hb).2, fun p hp => absurd (show p ∈ ([] : List (Addr × Obj)) from hp) (by simp)⟩
  obtain ⟨W, ⟨m0, w0⟩, turn⟩ := rd _ fD
  have loop : codeAny (model X.prog X.w) X.A (.compLoop (.ListComp elt [⟨tgt, iter, ifs, 0⟩] scope pos) 0 (.ref it) (.ref s2.heap.objs.size) (compEnvC scope (cloGo X.env scope.names []) h3.objs.size X.env)) (RR (.ref s2.heap.objs.size) h3.objs.size)
      { s2 with heap := h1, toks := s2.toks + ([] : List (Str × Value)).length } := by
    refine lc_loop (fun n s' => ∃ i H', Inv (cxLc X scope N h3.objs.size { s2 with heap := h3 } (upd H2 s2.heap.objs.size (.lst [])) fp) [] (none :: none :: frV σ ix) H' s' ∧ tn i s'.heap ∧ (∀ b ∈ fp, H' b = none) ∧ W i n H') ?_ m0
      ⟨0, _, IY, st4, fun b hb => by rw [upd_ne (Nat.ne_of_lt (lt2 b hb))]; exact (f2 b hb).1, w0⟩
    rintro n s5 ⟨i, H5, I5, st5, fr5, w5⟩
    rcases turn i n H5 w5 with ⟨stop, q⟩ | ⟨go, step⟩
    · refine thn (T.done (cxLc X scope N h3.objs.size { s2 with heap := h3 } (upd H2 s2.heap.objs.size (.lst [])) fp) rfl rfl rfl hc i [] s5 _ H5 (fun _ _ => False) I5 (stat rfl fr5) st5 stop) fun r s6 ⟨hr, I6⟩ => ?_
      subst hr
      obtain ⟨m6, hn6, _⟩ := I6.loc
      have u1 : Un (frs X.stack) fp H2 (upd H2 s2.heap.objs.size (.lst [])) s2.heap h3 := Un.laid (fun b u e => by rw [← hH3]; exact Heap.get?_push_of_some _ e) (Nat.le_refl _) fD
      have back : Inv X pins σ H5 s6 := I2.call' (ch := fp) (I6.os.trans rfl) (u1.trans I6.base) I6.hok I6.bare fun b hb => ⟨(f2 b hb).2.2.2.1, (f2 b hb).2.1, (f2 b hb).2.2.2.2.1, (f2 b hb).2.2.2.2.2⟩
      exact fin _ _ H5 s6 m6 back (by omega) I6.free hn6 q
    · refine thn (T.item (cxLc X scope N h3.objs.size { s2 with heap := h3 } (upd H2 s2.heap.objs.size (.lst [])) fp) rfl rfl rfl hc i [] s5 _ H5 (fun _ _ => False) I5 (stat rfl fr5) st5 go) fun r s6 ⟨u, hr, h6⟩ => ?_
      subst hr
      refine thn h6 fun _ s7 ⟨y, H7, I7, r7, y7, st7, fr7⟩ => ?_
      have I7' := I7.pinned (stat rfl fr7) (T.obj _ _ st7)
      have hg : PG (cxLc X scope N h3.objs.size { s2 with heap := h3 } (upd H2 s2.heap.objs.size (.lst [])) fp) tgt (gTup X.K 2 (gCons (gName 0) (gCons (gName 1) gNil))) := by
        rw [htg]
        exact pg_tup hc (pgs_cons (pg_name L.nd L.hd (.inl (lookup_relabel_local L.loc)) (.inr (lookup_relabel_local L.loc))) (pgs_cons (pg_name L.nd L.hd2 (.inl (lookup_relabel_local L.loc2)) (.inr (lookup_relabel_local L.loc2))) pgs_nil))
      obtain ⟨ta, y1, y2, ey, hTu, hst⟩ := step y _ y7
      refine thn (hg _ s7 _ H7 y u (fun σ' H' => σ' = some y1 :: some y2 :: frV σ ix ∧ H' = H7) I7' r7 ⟨ta, [y1, y2], ey, hTu, rfl, y1, [y2], rfl, y2, [], rfl, rfl, rfl, rfl⟩) fun _ s8 ⟨σ8, H8, I8, e8, e8'⟩ => ?_
      subst e8 e8'
      refine thn (hif _ _ _ _ s8 _ _ _ I8 hst) fun ok s9 ⟨H9, I9, q9⟩ => ?_
      have again : ∀ {sz : Shared} {Hz : Hp} {m' : Nat}, Inv (cxLc X scope N h3.objs.size { s2 with heap := h3 } (upd H2 s2.heap.objs.size (.lst [])) fp) ([] ++ pinsAt fp s7.heap) (some y1 :: some y2 :: frV σ ix) Hz sz → m' < n → W (i + 1) m' Hz →
          ∃ m, m < n ∧ ∃ i H', Inv (cxLc X scope N h3.objs.size { s2 with heap := h3 } (upd H2 s2.heap.objs.size (.lst [])) fp) [] (none :: none :: frV σ ix) H' sz ∧ tn i sz.heap ∧ (∀ b ∈ fp, H' b = none) ∧ W i m H' := fun {sz Hz m'} Iz hm wz => by
        refine ⟨m', hm, i + 1, Hz, Iz.unpinned.weak (by simp) (fun j v e => ?_), T.keep _ _ _ st7 fun b hb o e => (Iz.pin (b, o) (List.mem_append_right _ (List.mem_append_right _ (mem_pinsAt hb e)))).1, fun b hb => ?_, wz⟩
        · cases j with
          | zero => cases e
          | succ j =>
            cases j with
            | zero => cases e
            | succ j => exact e
        · obtain ⟨o, e, d⟩ := T.obj _ _ st7 b hb
          exact (Iz.pin (b, o) (List.mem_append_right _ (List.mem_append_right _ (mem_pinsAt hb e)))).2.1
      cases ok with
      | false =>
        obtain ⟨m', hm, wz⟩ := q9
        exact again I9 hm wz
      | true =>
        refine thn (he _ _ _ _ s9 _ _ _ I9 q9) fun xv s10 ⟨z, H10, I10, r10, ys, hD, hl, m', hm, wz⟩ => ?_
        refine thn (mt_append _ s10 _ H10 (.ref s2.heap.objs.size) [z] (.ref s2.heap.objs.size) [xv] (fun _ Hz => Hz = upd H10 s2.heap.objs.size (.lst (ys ++ [z]))) I10 rfl (.cons r10 .nil) ⟨_, ys, z, rfl, rfl, hD, hl, rfl⟩) fun _ s11 ⟨_, H11, I11, _, q11⟩ => ?_
        subst q11
        exact again I11 hm wz
  exact codeAny_compStart_list loop (T.self X.A 0 _ _ _ st4 loop)
theorem pe_lc2 {wi : TI} (hc : X.calm = true) (L : LcScope2 X.N X.env.scope scope x1 x2 N ix) (hi : PI X (.Tuple [.Name x1 px, .Name x2 px2] kk ppos) iter wi) (hif : ∀ C s H fp, PIf (cxLc X scope N C s H fp) ifs tc) (he : ∀ C s H fp, PE (cxLc X scope N C s H fp) elt te)
    (hs : ∀ z, foldedSetIterable iter X.env z = pure z := by intro _; rfl) : PE X (.ListComp elt [⟨.Tuple [.Name x1 px, .Name x2 px2] kk ppos, iter, ifs, 0⟩] scope pos) (tLc2 X.K wi ix tc te) := by
  intro pins s σ H Q I h
  have hfree : ∀ y ∈ scope.names, y.2 = .free → ∃ c, X.env.cells.lookup y.1 = some c := fun y hy hf => I.ok.has y.1 (.inl (L.free y hy hf))
  rw [eval_ListComp]
  refine wpAny_comprehension_free (use := none) rfl hs (closure_eq hfree) L.kind L.names (thn (hi pins s σ H _ I h) fun v s1 h1 => thn h1 fun itv s2 h2 => ?_)
  obtain ⟨it, fp, tn, J, H2, e, I2, T, st2, f2, rd⟩ := h2
  subst e
  refine lc_run2 (RR := fun acc C => compPost (model X.prog X.w) X.A X.xe none _ acc C) rfl hc L I2 T st2 f2 (fun C s H => hif C s H fp) (fun C s H => he C s H fp) rd fun D C H' s' m I' hC hf hn q => ?_
  refine ⟨m, hn, fun h' hsb => ⟨.ref D, H', ?_, rfl, q⟩⟩
  have l2 := I2.lt
  refine I'.turned (t' := s'.toks) (it := C) (fun b o hb e => hsb.extBut b o hb e) hf (Nat.ne_of_gt (Nat.lt_of_lt_of_le l2 hC)) (.inr (Nat.le_trans I2.sz hC)) (fun y c e => ?_) fun p hp => ?_
  · obtain ⟨v, hv⟩ := I2.cell y c e
    exact Nat.ne_of_lt (Nat.lt_of_lt_of_le hv.lt hC)
  · exact Nat.ne_of_lt (Nat.lt_of_lt_of_le (Heap.lt_size (I2.pin p hp).1) hC)
theorem ps_setlc2 {wi : TI} {i : Nat} {y : Str} {py spos : Pos} (hc : X.calm = true) (L : LcScope2 X.N X.env.scope scope x1 x2 N ix) (hN : X.N.Nodup) (hy : X.N[i]? = some y) (hl : X.env.scope.names.lookup y = some .local)
    (hi : PI X (.Tuple [.Name x1 px, .Name x2 px2] kk ppos) iter wi) (hif : ∀ C s H fp, PIf (cxLc X scope N C s H fp) ifs tc) (he : ∀ C s H fp, PE (cxLc X scope N C s H fp) elt te)
    (hsw : swapsWith (.ListComp elt [⟨.Tuple [.Name x1 px, .Name x2 px2] kk ppos, iter, ifs, 0⟩] scope pos) (some (.Name y py)) spos.line X.env = pure true := by rfl)
    (hs : ∀ z, foldedSetIterable iter X.env z = pure z := by intro _; rfl) : PS X (.Assign [.Name y py] (.ListComp elt [⟨.Tuple [.Name x1 px, .Name x2 px2] kk ppos, iter, ifs, 0⟩] scope pos) spos) (tAsg (tLc2 X.K wi ix tc te) (gName i)) := by
  intro pins s σ H D I h
  have hfree : ∀ y ∈ scope.names, y.2 = .free → ∃ c, X.env.cells.lookup y.1 = some c := fun y hy hf => I.ok.has y.1 (.inl (L.free y hy hf))
  rw [exec_Assign_Name_used _ _ _ _ hsw]
  refine wpAny_bind (wpAny_standAt (wpAny_bind ?_))
  show wpAny _ X.A (do let _ ← comprehension (.ListComp elt [⟨.Tuple [.Name x1 px, .Name x2 px2] kk ppos, iter, ifs, 0⟩] scope pos) scope X.env _ (newList []) false (eval iter X.env) (some (assign (.Name y py) X.env))) _ _ s
  refine wpAny_bind (thn (Q := fun _ s' => SP X pins D .next s') (wpAny_comprehension_free (use := some (assign (.Name y py) X.env)) rfl hs (closure_eq hfree) L.kind L.names (thn (hi pins s σ H _ I h) fun v s1 h1 => thn h1 fun itv s2 h2 => ?_)) fun _ s' hq => wpAny_pure (wpAny_pure hq))
  obtain ⟨it, fp, tn, J, H2, e, I2, T, st2, f2, rd⟩ := h2
  subst e
  refine lc_run2 (RR := fun acc C => compPost (model X.prog X.w) X.A X.xe (some (assign (.Name y py) X.env)) _ acc C) rfl hc L I2 T st2 f2 (fun C s H => hif C s H fp) (fun C s H => he C s H fp) rd fun Da C H' s' m I' hC hf hn q => ?_
  have l2 := I2.lt
  have nC : C ≠ X.env.locals := Nat.ne_of_gt (Nat.lt_of_lt_of_le l2 hC)
  have nF : C ∉ X.fs := I2.nofs hC
  obtain ⟨oC, es, ep, hget, hdat, hrest⟩ := id hn
  have Ip : Inv X (pins ++ [(C, oC)]) σ H' s' := I'.pins_of fun p hp => (List.mem_append.mp hp).elim (fun z => I'.pin p (List.mem_append_right _ z)) fun z => by
    have e : p = (C, oC) := by simpa using z
    subst e
    exact ⟨hget, hf, nC, nF, fun v z => by rw [hdat] at z; cases z⟩
  have hg : PG X (.Name y py) (gName i) := pg_name hN hy (.inl hl) (.inr hl)
  show wpAny _ X.A (assign (.Name y py) X.env (.ref Da)) _ _ s'
  refine thn (hg _ s' σ H' (.ref Da) (.ref Da) D.nx Ip rfl q) fun _ s'' ⟨σ'', H'', I'', q''⟩ => ?_
  obtain ⟨g1, g2, _⟩ := I''.pin (C, oC) (List.mem_append_right _ (List.mem_append_right _ (by simp)))
  refine ⟨m, ⟨oC, es, ep, g1, hdat, hrest⟩, fun h' hsb => ⟨σ'', H'', ?_, q''⟩⟩
  refine I''.unpinned.turned (t' := s''.toks) (it := C) (fun b o hb e => hsb.extBut b o hb e) g2 nC (.inr (Nat.le_trans I2.sz hC)) (fun y c e => ?_) fun p hp => ?_
  · obtain ⟨v, hv⟩ := I2.cell y c e
    exact Nat.ne_of_lt (Nat.lt_of_lt_of_le hv.lt hC)
  · exact Nat.ne_of_lt (Nat.lt_of_lt_of_le (Heap.lt_size (I2.pin p hp).1) hC)
end
theorem r_izip {K : PySem.W.Frag} {tA : TA} {σ : St} {H : Hp} {R : It → Hp → Prop} (h : tA σ H fun vs H1 => ∃ a b, vs = [.ref a, .ref b] ∧ (∃ xs, SqL K H1 a xs) ∧ (∃ ys, SqL K H1 b ys) ∧ R (Itz K a b) H1) : iZip K tA σ H R := h
theorem r_ienum {K : PySem.W.Frag} {tA : TA} {σ : St} {H : Hp} {R : It → Hp → Prop} (h : tA σ H fun vs H1 => ∃ a, vs = [.ref a] ∧ (∃ xs, SqL K H1 a xs) ∧ R (Ite K a) H1) : iEnum K tA σ H R := h
theorem r_lc2 {K : PySem.W.Frag} {σ : St} {H : Hp} {Q : VK} {wi : TI} {ix : List Nat} {tc : TT} {te : TE} (h : wi σ H fun J H1 => rdLc2 K J H1 (frV σ ix) tc te Q) : tLc2 K wi ix tc te σ H Q := h
theorem r_gtup2 {K : PySem.W.Frag} {σ : St} {H : Hp} {R : St → Hp → Prop} {a : Addr} {x y : V} {i j : Nat} (hs : SqT K H a [x, y]) (h : R ((σ.set i (some x)).set j (some y)) H) : gTup K 2 (gCons (gName i) (gCons (gName j) gNil)) (.ref a) σ H R :=
  ⟨a, [x, y], rfl, hs, rfl, x, [y], rfl, y, [], rfl, rfl, h⟩
theorem lc_same2 {K : PySem.W.Frag} {J : It} {H1 : Hp} {fr : St} {tc : TT} {te : TE} {Q : VK} (n : Nat) (f1 f2 : Nat → V) (acc : Nat → List V) (h0 : acc 0 = []) (hz : ∀ i, i < n → (acc i).length < sizeLine)
    (hgo : ∀ i H, i < n → Same H1 H → J.go i H) (hy : ∀ i H v H', i < n → Same H1 H → J.yld i H v H' → ∃ a, v = .ref a ∧ SqT K H' a [f1 i, f2 i] ∧ Same H H') (hst : ∀ H, Same H1 H → J.stop n H)
    (turn : ∀ i H (R : Hp → Prop) (A : VK), i < n → Same H1 H → (acc (i + 1) = acc i → ∀ H', Same H H' → R H') → (∀ y H', acc (i + 1) = acc i ++ [y] → Same H H' → A y H') →
      tc (some (f1 i) :: some (f2 i) :: fr) H fun b H3 => if b = true then te (some (f1 i) :: some (f2 i) :: fr) H3 A else R H3)
    (fin : ∀ D H, H1 D = none → Same H1 H → H D = some (.lst (acc n)) → Q (.ref D) H) : rdLc2 K J H1 fr tc te Q := by
  intro D hD
  refine ⟨fun i m H => i ≤ n ∧ m = n - i ∧ Same H1 H ∧ H D = some (.lst (acc i)), ⟨n, Nat.zero_le _, rfl, same_upd hD, by rw [upd_same, h0]⟩, ?_⟩
  rintro i m H ⟨hi, rfl, sm, hl⟩
  by_cases h : i = n
  · subst h
    exact .inl ⟨hst H sm, fin D H hD sm hl⟩
  · have hlt : i < n := Nat.lt_of_le_of_ne hi h
    refine .inr ⟨hgo i H hlt sm, fun v H' hyl => ?_⟩
    obtain ⟨a, rfl, ht, s2⟩ := hy i H v H' hlt sm hyl
    refine ⟨a, _, _, rfl, ht, turn i H' _ _ hlt (sm.trans s2) (fun ea H3 s3 => ?_) (fun y H4 ea s4 => ?_)⟩
    · exact ⟨n - (i + 1), by omega, by omega, rfl, (sm.trans s2).trans s3, by rw [ea]; exact s3 _ _ (s2 _ _ hl)⟩
    · refine ⟨acc i, s4 _ _ (s2 _ _ hl), hz i hlt, n - (i + 1), by omega, by omega, rfl, fun b u e => ?_, by rw [upd_same, ea]⟩
      rw [upd_ne (ne_of_none e hD)]
      exact s4 _ _ (s2 _ _ (sm _ _ e))
theorem lc_zip {K : PySem.W.Frag} {a b : Addr} {xs ys : List V} {H1 : Hp} {fr : St} {tc : TT} {te : TE} {Q : VK} (ha : SqL K H1 a xs) (hb : SqL K H1 b ys) (acc : Nat → List V) (h0 : acc 0 = []) (hz : ∀ i, i < min xs.length ys.length → (acc i).length < sizeLine)
    (turn : ∀ (i : Nat) x y H (R : Hp → Prop) (A : VK), xs[i]? = some x → ys[i]? = some y → Same H1 H → (acc (i + 1) = acc i → ∀ H', Same H H' → R H') → (∀ y H', acc (i + 1) = acc i ++ [y] → Same H H' → A y H') →
      tc (some x :: some y :: fr) H fun b H3 => if b = true then te (some x :: some y :: fr) H3 A else R H3)
    (fin : ∀ D H, H1 D = none → Same H1 H → H D = some (.lst (acc (min xs.length ys.length))) → Q (.ref D) H) : rdLc2 K (Itz K a b) H1 fr tc te Q := by
  refine lc_same2 (min xs.length ys.length) (fun i => xs.getD i .non) (fun i => ys.getD i .non) acc h0 hz (fun i H hi sm => ⟨xs, ys, xs[i]'(by omega), ys[i]'(by omega), sm.seq ha, sm.seq hb, by simp, by simp⟩) (fun i H v H' hi sm h => ?_)
    (fun H sm => ⟨xs, ys, sm.seq ha, sm.seq hb, rfl⟩) (fun i H R A hi sm => turn i _ _ H R A (by simp [show i < xs.length by omega]) (by simp [show i < ys.length by omega]) sm) fin
  obtain ⟨t, x, y, hn, rfl, h1, h2, rfl⟩ := h
  have e1 := h1 xs (sm.seq ha)
  have e2 := h2 ys (sm.seq hb)
  refine ⟨t, rfl, ?_, same_upd hn⟩
  simp only [List.getD, e1, e2, Option.getD_some]
  exact SqT.of upd_same
theorem for_enum {K : PySem.W.Frag} {a : Addr} {xs : List V} {i1 i2 : Nat} {tb : TS} {D : Ends} {σ : St} {H : Hp} (Pv : Nat → St → Hp → Prop) (h0 : Pv 0 σ H) (hl : ∀ i σ H, i ≤ xs.length → Pv i σ H → SqL K H a xs)
    (step : ∀ i x σ H t, xs[i]? = some x → Pv i σ H → H t = none → tb { D with nx := Pv (i + 1), ct := Pv (i + 1), bk := D.nx } ((σ.set i1 (some (.int i))).set i2 (some x)) (upd H t (.tup [.int i, x])))
    (fin : ∀ σ H, Pv xs.length σ H → D.nx σ H) : forB (Ite K a) (gTup K 2 (gCons (gName i1) (gCons (gName i2) gNil))) tb D σ H := by
  refine ⟨fun i m σ H => i ≤ xs.length ∧ m = xs.length - i ∧ Pv i σ H, ⟨_, Nat.zero_le _, rfl, h0⟩, ?_⟩
  rintro i m σ H ⟨hi, rfl, hp⟩
  by_cases h : i = xs.length
  · exact .inl ⟨⟨xs, hl i σ H hi hp, h⟩, fin σ H (h ▸ hp)⟩
  · have hlt : i < xs.length := Nat.lt_of_le_of_ne hi h
    refine .inr ⟨⟨xs, xs[i], hl i σ H hi hp, by simp⟩, Pv (i + 1), fun σ' H' q => ⟨xs.length - (i + 1), by omega, hlt, rfl, q⟩, fun v H' hy => ?_⟩
    obtain ⟨t, x, hn, rfl, hx, rfl⟩ := hy
    exact r_gtup2 (SqT.of upd_same) (step i x σ H t (hx xs (hl i σ H hi hp)) hp hn)
end L2
end

section
set_option Elab.async false
set_option linter.all false
set_option maxRecDepth 100000
set_option maxHeartbeats 4000000
namespace L2
open PySem PySem.Spec PyProof.Rows
def Ites (z : Str) : It :=
  ⟨fun i _ => i < z.cps.size, fun i H v H' => ∃ t c, H t = none ∧ v = .ref t ∧ z.cps[i]? = some c ∧ H' = upd H t (.tup [.int i, .str (sgn c)]), fun i _ => i = z.cps.size⟩
theorem turn_enumS {P : Program} {w : World} {K : PySem.W.Frag} {elts : List Expr} {k : Nat} {pos : Pos} {e it : Addr} {z : Str} {ty : String} {t : Tok} (hne : e ≠ it)
    (D : ∀ A' : Around, A'.handled = none → Draws P w A' it [it] z.cps.size (fun i v => ∃ c u, z.cps[i]? = some c ∧ v = .str ⟨#[c]⟩ u) (fun i h => h.IsStrIter it ty z t i)) :
    Turn P w K (.Tuple elts k pos) (Ites z) [e, it] e (fun i h => (∃ old, IsEnum h e it i old) ∧ h.IsStrIter it ty z t i) where
  mem := by simp
  obj := fun i h st c hc => by
    obtain ⟨⟨old, he⟩, ⟨o1, e1, c1, d1⟩⟩ := st
    simp only [List.mem_cons, List.not_mem_nil, or_false] at hc
    rcases hc with rfl | rfl
    · exact ⟨_, he, fun v z => by cases z⟩
    · exact ⟨_, e1, fun v z => by rw [d1] at z; cases z⟩
  keep := fun i h h' st kk => by
    obtain ⟨⟨old, he⟩, ⟨o, ho, r⟩⟩ := st
    exact ⟨⟨old, kk _ (by simp) _ he⟩, ⟨o, kk _ (by simp) o ho, r⟩⟩
  item := by
    intro X hP hw hK hc i pins s σ H E I hf st hg
    subst hP hw hK
    have W := WalksT.enumerateD (D X.A.in1 (I.ok.hd hc)) e hne (by simpa using hne) (by simp)
    refine W.item i s _ _ hg st fun T vals h' tk hv hT hTu mid kk => ?_
    obtain ⟨t1, x, ⟨c, u, hc', rfl⟩, rfl⟩ := hv
    have nT := W.apart i T h' mid
    refine ⟨.ref T, rfl, W.go elts k pos i T { s with heap := h', toks := tk } _ _ mid fun h'' st'' kk2 => ?_⟩
    have hTu2 : h''.IsTuple T ([Value.int (i : Int) t1, Value.str ⟨#[c]⟩ u] : List Value).toArray := by
      obtain ⟨o, e, r⟩ := hTu
      exact ⟨o, kk2 T o nT e, r⟩
    have I2 : Inv X pins σ (upd H T (.tup [.int i, .str (sgn c)])) { s with heap := h'', toks := tk } := I.turnT (t' := tk) (fun b o hb e => kk2 b o hb (kk b o hb e)) (fun b hb => hf b hb) hT hTu2 (.cons ⟨t1, rfl⟩ (.cons ⟨u, rfl⟩ .nil)) (show 2 ≤ sizeLine by decide)
    refine ⟨.ref T, _, I2, rfl, ⟨T, c, I.hok.fresh hT, rfl, hc', rfl⟩, st'', fun b hb => ?_⟩
    have hlt : b < s.heap.objs.size := by
      obtain ⟨⟨old, s1⟩, ⟨o5, s5, _⟩⟩ := id st
      simp only [List.mem_cons, List.not_mem_nil, or_false] at hb
      rcases hb with rfl | rfl
      · exact Heap.lt_size s1
      · exact Heap.lt_size s5
    rw [upd_ne (Nat.ne_of_lt (Nat.lt_of_lt_of_le hlt hT))]
    exact (hf b hb).1
  done := by
    intro X hP hw hK hc i pins s σ H E I hf st hg
    subst hP hw hK
    have W := WalksT.enumerateD (D X.A.in1 (I.ok.hd hc)) e hne (by simpa using hne) (by simp)
    have hi : i = z.cps.size := hg
    refine W.done s _ _ (by rw [← hi]; exact st) fun h' tk kk => ⟨rfl, ?_⟩
    exact I.turnW (t' := tk) kk fun b hb => hf b hb
  self := fun _ _ _ _ _ st h => wpAny_pyIter_enum (Classical.choose_spec st.1) h
section
variable {X : Cx} {elts : List Expr} {k : Nat} {tpos : Pos}
def iEnumS (ta : TA) : TI := fun σ H R => ta σ H fun vs H1 => ∃ z, vs = [.str z] ∧ R (Ites z) H1
theorem pi_enumS {a : Expr} {ta : TA} {p pos : Pos} (hg : Gl X "enumerate") (hm : X.mg "enumerate" = none) (ha : PA X [a] ta) (hs : starEach [a] X.env = [(false, eval a X.env)] := by rfl) :
    PI X (.Tuple elts k tpos) (.Call (.Name "enumerate" p) [a] [] pos) (iEnumS ta) := by
  intro pins s σ H R I h
  refine Call_ (ld_blt I hg hm b_enumerate (PyProof.Rows.callWith_type1 (thn (ha pos pins s σ H _ I h) fun us s1 ⟨vs, H1, I1, r1, q1⟩ => ?_) hs rfl))
  obtain ⟨z, e, q⟩ := q1
  subst e
  obtain ⟨u, rfl, ⟨t, rfl⟩⟩ := vals1 r1
  refine call_enumerate_str fun h' g1 g2 hsz kk => ?_
  refine wpAny_pyIter_enum (s := { s1 with heap := h' }) g1 ?_
  have fin : ∀ ty : String, h'.IsStrIter s1.heap.objs.size ty z t 0 → (∀ A' : Around, A'.handled = none → Draws X.prog X.w A' s1.heap.objs.size [s1.heap.objs.size] z.cps.size (fun i v => ∃ c u, z.cps[i]? = some c ∧ v = .str ⟨#[c]⟩ u) (fun i h => h.IsStrIter s1.heap.objs.size ty z t i)) →
      PIE X pins σ (.Tuple elts k tpos) R (.ref (s1.heap.objs.size + 1)) { s1 with heap := h' } := fun ty g2 D => by
    refine ⟨s1.heap.objs.size + 1, [s1.heap.objs.size + 1, s1.heap.objs.size], _, _, H1, rfl, I1.kept (t' := s1.toks) kk, turn_enumS (ne_z1 _) D, ⟨⟨_, g1⟩, g2⟩, fun c hc => ?_, q⟩
    have hle : s1.heap.objs.size ≤ c := by
      simp only [List.mem_cons, List.not_mem_nil, or_false] at hc
      exact le_z2 hc
    exact I1.fpOk hle (I1.hok.fresh hle)
  by_cases ha : z.cps.all (· < 128) = true
  · have e : strIterType z = "str_ascii_iterator" := by unfold strIterType; rw [if_pos ha]
    exact fin _ (e ▸ g2) fun A' hA => Draws.strAscii hA _ z t
  · have e : strIterType z = "str_iterator" := by unfold strIterType; rw [if_neg ha]
    exact fin _ (e ▸ g2) fun A' hA => Draws.strWide hA _ z t
end
theorem r_ienumS {tA : TA} {σ : St} {H : Hp} {R : It → Hp → Prop} (h : tA σ H fun vs H1 => ∃ z, vs = [.str z] ∧ R (Ites z) H1) : iEnumS tA σ H R := h
theorem for_enumS {K : PySem.W.Frag} {z : Str} {i1 i2 : Nat} {tb : TS} {D : Ends} {σ : St} {H : Hp} (Pv : Nat → St → Hp → Prop) (h0 : Pv 0 σ H)
    (step : ∀ i c σ H t, z.cps[i]? = some c → Pv i σ H → H t = none → tb { D with nx := Pv (i + 1), ct := Pv (i + 1), bk := D.nx } ((σ.set i1 (some (.int i))).set i2 (some (.str (sgn c)))) (upd H t (.tup [.int i, .str (sgn c)])))
    (fin : ∀ σ H, Pv z.cps.size σ H → D.nx σ H) : forB (Ites z) (gTup K 2 (gCons (gName i1) (gCons (gName i2) gNil))) tb D σ H := by
  refine ⟨fun i m σ H => i ≤ z.cps.size ∧ m = z.cps.size - i ∧ Pv i σ H, ⟨_, Nat.zero_le _, rfl, h0⟩, ?_⟩
  rintro i m σ H ⟨hi, rfl, hp⟩
  by_cases h : i = z.cps.size
  · exact .inl ⟨h, fin σ H (h ▸ hp)⟩
  · have hlt : i < z.cps.size := Nat.lt_of_le_of_ne hi h
    refine .inr ⟨hlt, Pv (i + 1), fun σ' H' q => ⟨z.cps.size - (i + 1), by omega, hlt, rfl, q⟩, fun v H' hy => ?_⟩
    obtain ⟨t, c, hn, rfl, hx, rfl⟩ := hy
    exact r_gtup2 (SqT.of upd_same) (step i c σ H t hx hp hn)
end L2
end

section
set_option Elab.async false
set_option linter.all false
set_option maxRecDepth 100000
set_option maxHeartbeats 4000000
namespace L2
open PySem PySem.Spec PyProof.Rows
structure Mth (P : Program) (w : World) (K : PySem.W.Frag) (mg : Str → Option Value) (base : Heap) (C : Addr) (m : Str) (k : Nat) (ps : List Str) (sp : Sp) : Prop where
  ex : ∃ (f : Addr) (fd : FuncData), FnOk P w K mg base CX0 k f fd ps sp ∧ Binds K fd ps [] ∧ Meth K C m f
  cl : Cls K C
structure Mkr (P : Program) (w : World) (K : PySem.W.Frag) (mg : Str → Option Value) (base : Heap) (name : Str) (C : Addr) (k : Nat) (ps : List Str) (sp : Sp) : Prop where
  ex : ∃ (f : Addr) (fd : FuncData), FnOk P w K mg base CX0 k f fd ps sp ∧ Binds K fd ps [] ∧ Mk K C f ∧ mg name = some (.ref C)
section
variable {X : Cx} {k : Nat} {C : Addr} {ps : List Str} {sp : Sp} {name m : Str} {p pos apos : Pos} {e o : Expr} {es : List Expr} {ta : TE} {t : TA} {pl : Sem Bool}
theorem pe_mk (M : Mkr X.prog X.w X.K X.mg X.base name C k ps sp) (hr : Room (k + 1) X.A) (ha : PA X (e :: es) t) (hg : Gl X name := by rfl) (hdb : (name == ("__debug__" : Str)) = false := by decide)
    (he : starEach (e :: es) X.env = (false, eval e X.env) :: starEach es X.env := by rfl) (hpl : (backTo pos (starEach es X.env)).any (·.1) = false := by rfl) : PE X (.Call (.Name name p) (e :: es) [] pos) (tMake C sp [] E0 t) := by
  obtain ⟨f, fd, F, b, M, hm⟩ := M.ex
  exact pe_make M F hr hg hm b .nil pass0 ha hdb he hpl
theorem pe_mt (M : Mth X.prog X.w X.K X.mg X.base C m k ps sp) (hr : Room k X.A) (ho : PE X o ta) (ha : PA X (e :: es) t)
    (hst : starEach (e :: es) X.env = (false, eval e X.env) :: starEach es X.env := by rfl) (hpl : (backTo pos (starEach es X.env)).any (·.1) = false := by rfl)
    (ht : eval (.Call (.Attribute o m apos) (e :: es) [] pos) X.env = (do
      let ov ← eval o X.env
      standAt apos.atName
      let (f, first) ← holding [ov] (getMethod ov m pl)
      callWith pos f first (backTo pos (starEach (e :: es) X.env)) (backToKw pos (keywordEach [] X.env))) := by rfl) :
    PE X (.Call (.Attribute o m apos) (e :: es) [] pos) (tMeth C m sp [] E0 ta t) := by
  obtain ⟨f, fd, F, b, hm⟩ := M.ex
  exact pe_meth ho M.cl hm F hr b .nil pass0 ha hst hpl ht
theorem pe_mt0 (M : Mth X.prog X.w X.K X.mg X.base C m k ps sp) (hr : Room k X.A) (ho : PE X o ta)
    (ht : eval (.Call (.Attribute o m apos) [] [] pos) X.env = (do
      let ov ← eval o X.env
      standAt apos.atName
      let (f, first) ← holding [ov] (getMethod ov m pl)
      callWith pos f first (backTo pos (starEach [] X.env)) (backToKw pos (keywordEach [] X.env))) := by rfl) :
    PE X (.Call (.Attribute o m apos) [] [] pos) (tMeth C m sp [] E0 ta tNil) := by
  obtain ⟨f, fd, F, b, hm⟩ := M.ex
  exact pe_meth0 ho M.cl hm F hr b .nil pass0 ht
end
section
variable {σ : St} {H : Hp} {D : Ends} {Q : VK} {te ta tv : TE} {tA : TA} {K : PySem.W.Frag}
theorem r_fld {f : Str} (h : te σ H fun x H1 => ∃ a C dx fs v, x = .ref a ∧ H1 a = some (.ins C dx fs) ∧ Cls K C ∧ NoAttr K C f ∧ fs.lookup f = some v ∧ Q v H1) : tFld K te f σ H Q := h
theorem r_sfld {f : Str} (h : tv σ H fun y H1 => ta σ H1 fun x H2 => ∃ a C dx fs, x = .ref a ∧ H2 a = some (.ins C dx fs) ∧ Cls K C ∧ NoAttr K C f ∧ fs.length < 1000 ∧ D.nx σ (upd H2 a (.ins C dx (putF f y fs)))) : sFld K ta tv f D σ H := h
theorem r_sfldE {a C dx : Addr} {fs : List (Str × V)} {f : Str} {R : Hp → Prop} {y : V} (h : H a = some (.ins C dx fs)) (c : Cls K C) (n : NoAttr K C f) (l : fs.length < 1000) (q : R (upd H a (.ins C dx (putF f y fs)))) :
    ∃ a' C' dx' fs', V.ref a = .ref a' ∧ H a' = some (.ins C' dx' fs') ∧ Cls K C' ∧ NoAttr K C' f ∧ fs'.length < 1000 ∧ R (upd H a' (.ins C' dx' (putF f y fs'))) := ⟨a, C, dx, fs, rfl, h, c, n, l, q⟩
theorem r_make {C : Addr} {sp : Sp} {E : XK} (h : tA σ H fun vs H1 => ∀ x dx, H1 x = none → H1 dx = none → dx ≠ x → sp (.ref x :: (vs ++ [])) (upd (upd H1 dx (.own x)) x (.ins C dx [])) (fun v H2 => v = .non ∧ Q (.ref x) H2) E) : tMake C sp [] E tA σ H Q := h
theorem r_meth {C : Addr} {m : Str} {sp : Sp} {E : XK} (h : ta σ H fun x H1 => ∃ a dx fs, x = .ref a ∧ H1 a = some (.ins C dx fs) ∧ fs.lookup m = none ∧ tA σ H1 fun vs H2 => sp (x :: (vs ++ [])) H2 Q E) : tMeth C m sp [] E ta tA σ H Q := h
end
section
variable {X : Cx}
def cntS (z : Str) (c : Nat) : Nat := z.cps.toList.count c
theorem cnt_count (c : Nat) : ∀ l : List Nat, PyProof.Rows.cnt c l = (l.count c : Nat)
  | [] => rfl
  | n :: r => by
    rw [PyProof.Rows.cnt_cons, cnt_count c r, List.count_cons]
    by_cases h : n = c
    · subst h; simp; omega
    · simp [h]
def rCount : V → List V → Hp → VK → Prop := fun x vs H Q => ∃ z c, x = .str z ∧ vs = [.str (sgn c)] ∧ Q (.int (cntS z c : Nat)) H
theorem mt_count : MtM X "str.count" rCount := by
  intro pins s σ H x vs v us Q I rx rv h
  obtain ⟨z, c, rfl, rfl, q⟩ := h
  obtain ⟨t, rfl⟩ := rx
  obtain ⟨u, rfl, ru⟩ := rv.one
  obtain ⟨t', rfl⟩ := ru
  have e : Txt.count z (sgn c) = (cntS z c : Nat) := (PyProof.Rows.count_cnt z c).trans (cnt_count c _)
  refine SC.count ?_
  rw [e]
  exact ⟨.int (cntS z c : Nat), H, I.tok _, ⟨_, rfl⟩, q⟩
end
namespace IB
open PySem.NumText PySem.Calls
def v2 (cs : List Nat) : Nat := cs.foldl (fun a c => a * 2 + (c - 48)) 0
end IB
end L2
end

section
set_option Elab.async false
set_option linter.all false
set_option maxRecDepth 100000
set_option maxHeartbeats 4000000
namespace L2
open PySem PySem.Spec PyProof.Rows
inductive SameD (K : PySem.W.Frag) (H : Hp) : Nat → V → V → Prop where
  | flat {n : Nat} {x : V} (h : flatV x = true) : SameD K H n x x
  | tup {n : Nat} {a b : Addr} {xs ys : List V} (h1 : SqT K H a xs) (h2 : SqT K H b ys) (hl : xs.length = ys.length) (h : ∀ (j : Nat) (x y : V), xs[j]? = some x → ys[j]? = some y → SameD K H n x y) : SameD K H (n + 1) (.ref a) (.ref b)
  | lst {n : Nat} {a b : Addr} {xs ys : List V} (h1 : SqL K H a xs) (h2 : SqL K H b ys) (hl : xs.length = ys.length) (h : ∀ (j : Nat) (x y : V), xs[j]? = some x → ys[j]? = some y → SameD K H n x y) : SameD K H (n + 1) (.ref a) (.ref b)
theorem eqV_self {x : V} (h : flatV x = true) : eqV x x = true := by
  cases x <;> first | rfl | (simp [eqV]; done) | cases h
theorem SameD.flats {K : PySem.W.Frag} {H : Hp} {n : Nat} {xs : List V} (h : xs.all flatV = true) : ∀ (j : Nat) (x y : V), xs[j]? = some x → xs[j]? = some y → SameD K H n x y := fun j x y h1 h2 => by
  rw [h1] at h2
  cases h2
  exact .flat (List.all_eq_true.mp h x (List.mem_of_getElem? h1))
theorem SameD.tups {K : PySem.W.Frag} {H : Hp} {n : Nat} {a b : Addr} {xs : List V} (h1 : SqT K H a xs) (h2 : SqT K H b xs) (h : xs.all flatV = true) : SameD K H (n + 1) (.ref a) (.ref b) := .tup h1 h2 rfl (SameD.flats h)
theorem SameD.lsts {K : PySem.W.Frag} {H : Hp} {n : Nat} {a b : Addr} {xs : List V} (h1 : SqL K H a xs) (h2 : SqL K H b xs) (h : xs.all flatV = true) : SameD K H (n + 1) (.ref a) (.ref b) := .lst h1 h2 rfl (SameD.flats h)
theorem flat_ints (ns : List Int) : (ns.map V.int).all flatV = true := by simp [List.all_eq_true, flatV]
section
variable {X : Cx} {pins : List (Addr × Obj)} {σ : St} {H : Hp} {s : Shared}
theorem all_true {n : Nat} {e : Nat → Bool} (h : ∀ j, e j = true) : (List.range n).all e = true := by simp [h]
mutual
theorem SameD.eqAt (I : Inv X pins σ H s) : ∀ {n : Nat} {x y : V} {A : Around} {u v : Value}, A.units + n < cLine → SameD X.K H n x y → RelV x u → RelV y v → SeqAt.EqAt A s u v true
  | _, _, _, A, u, v, hu, .flat h, ru, rv => by
    have := eqAt_V (A := A) (s := s) ru rv h h
    rw [eqV_self h] at this
    exact this
  | n + 1, .ref a, .ref b, A, u, v, hu, .tup (xs := xs) (ys := ys) h1 h2 hl h, ru, rv => by
    cases ru; cases rv
    by_cases hab : a = b
    · subst hab; exact SeqAt.EqAt.same _
    · obtain ⟨is, r1, p1, _⟩ := I.tuple h1
      obtain ⟨js, r2, p2, _⟩ := I.tuple h2
      have l1 := r1.length; have l2 := r2.length
      have := SeqAt.RcAt.tuples (A := A) (e := fun _ => true) p1 p2 (by omega) fun j a1 a2 => SameD.items I (by show A.units + 1 + n < cLine; omega) h r1 r2 j (by simpa using a1) (by simpa using a2)
      refine SeqAt.EqAt.of_refs hab ?_
      rw [all_true fun _ => rfl] at this
      simpa [← l1, ← l2, hl] using this
  | n + 1, .ref a, .ref b, A, u, v, hu, .lst (xs := xs) (ys := ys) h1 h2 hl h, ru, rv => by
    cases ru; cases rv
    by_cases hab : a = b
    · subst hab; exact SeqAt.EqAt.same _
    · obtain ⟨is, r1, p1, _⟩ := I.list h1
      obtain ⟨js, r2, p2, _⟩ := I.list h2
      have l1 := r1.length; have l2 := r2.length
      have := SeqAt.RcAt.lists (A := A) (e := fun _ => true) p1.isList p2.isList (by simp; omega) (by omega) fun j a1 a2 => SameD.items I (by show A.units + 1 + n < cLine; omega) h r1 r2 j (by simpa using a1) (by simpa using a2)
      refine SeqAt.EqAt.of_refs hab ?_
      rw [all_true fun _ => rfl] at this
      exact this
theorem SameD.items (I : Inv X pins σ H s) {n : Nat} {A : Around} {xs ys : List V} {us vs : List Value} (hu : A.units + n < cLine) (h : ∀ (j : Nat) (x y : V), xs[j]? = some x → ys[j]? = some y → SameD X.K H n x y) (r1 : Vals xs us) (r2 : Vals ys vs) (j : Nat) (h1 : j < us.length) (h2 : j < vs.length) :
    SeqAt.EqAt A s us[j] vs[j] true := by
  have l1 := r1.length; have l2 := r2.length
  obtain ⟨x, ex⟩ : ∃ x, xs[j]? = some x := ⟨_, List.getElem?_eq_getElem (by omega)⟩
  obtain ⟨y, ey⟩ : ∃ y, ys[j]? = some y := ⟨_, List.getElem?_eq_getElem (by omega)⟩
  obtain ⟨u, eu, ru⟩ := r1.get ex
  obtain ⟨v, ev, rv⟩ := r2.get ey
  rw [List.getElem?_eq_getElem h1] at eu
  rw [List.getElem?_eq_getElem h2] at ev
  cases eu; cases ev
  exact SameD.eqAt I hu (h j x y ex ey) ru rv
end
end
def rSame (K : PySem.W.Frag) (r : Bool) : R2 := fun x y H Q => ∃ a b, x = .ref a ∧ y = .ref b ∧ SameD K H 60 x y ∧ Q (.bl r) H
section
variable {X : Cx}
theorem op_eqD (hu : X.A.units + 60 < cLine) : OpR X (compareOp .Eq) (rSame X.K true) := by
  intro pins s σ H x y v u Q I rx ry h
  obtain ⟨a, b, rfl, rfl, hs, q⟩ := h
  cases rx; cases ry
  cases hs with
  | flat h => cases h
  | @tup n _ _ xs ys h1 h2 hl h =>
    obtain ⟨is, r1, p1, _⟩ := I.tuple h1
    obtain ⟨js, r2, p2, _⟩ := I.tuple h2
    have l1 := r1.length; have l2 := r2.length
    have := SeqAt.RcAt.tuples (A := X.A) (e := fun _ => true) p1 p2 (by omega) fun j a1 a2 => SameD.items I (by show X.A.units + 1 + 59 < cLine; omega) h r1 r2 j (by simpa using a1) (by simpa using a2)
    rw [all_true fun _ => rfl] at this
    refine this _ _ _ _ ⟨.bl true, H, I, ?_, q⟩
    simp [RelV, ← l1, ← l2, hl]
  | @lst n _ _ xs ys h1 h2 hl h =>
    obtain ⟨is, r1, p1, _⟩ := I.list h1
    obtain ⟨js, r2, p2, _⟩ := I.list h2
    have l1 := r1.length; have l2 := r2.length
    have := SeqAt.RcAt.lists (A := X.A) (e := fun _ => true) p1.isList p2.isList (by simp; omega) (by omega) fun j a1 a2 => SameD.items I (by show X.A.units + 1 + 59 < cLine; omega) h r1 r2 j (by simpa using a1) (by simpa using a2)
    rw [all_true fun _ => rfl] at this
    exact this _ _ _ _ ⟨.bl true, H, I, rfl, q⟩
theorem op_neD (hu : X.A.units + 60 < cLine) : OpR X (compareOp .NotEq) (rSame X.K false) := by
  intro pins s σ H x y v u Q I rx ry h
  obtain ⟨a, b, rfl, rfl, hs, q⟩ := h
  cases rx; cases ry
  cases hs with
  | flat h => cases h
  | @tup n _ _ xs ys h1 h2 hl h =>
    obtain ⟨is, r1, p1, _⟩ := I.tuple h1
    obtain ⟨js, r2, p2, _⟩ := I.tuple h2
    have l1 := r1.length; have l2 := r2.length
    have := SeqAt.RcNeAt.tuples (A := X.A) (e := fun _ => true) p1 p2 (by omega) fun j a1 a2 => SameD.items I (by show X.A.units + 1 + 59 < cLine; omega) h r1 r2 j (by simpa using a1) (by simpa using a2)
    rw [all_true fun _ => rfl] at this
    refine this _ _ _ _ ⟨.bl false, H, I, ?_, q⟩
    simp [RelV, ← l1, ← l2, hl]
  | @lst n _ _ xs ys h1 h2 hl h =>
    obtain ⟨is, r1, p1, _⟩ := I.list h1
    obtain ⟨js, r2, p2, _⟩ := I.list h2
    have l1 := r1.length; have l2 := r2.length
    have := SeqAt.RcNeAt.lists (A := X.A) (e := fun _ => true) p1.isList p2.isList (by simp; omega) (by omega) fun j a1 a2 => SameD.items I (by show X.A.units + 1 + 59 < cLine; omega) h r1 r2 j (by simpa using a1) (by simpa using a2)
    rw [all_true fun _ => rfl] at this
    exact this _ _ _ _ ⟨.bl false, H, I, rfl, q⟩
end
theorem r_same {K : PySem.W.Frag} {H : Hp} {Q : VK} {a b : Addr} {r : Bool} (h : SameD K H 60 (.ref a) (.ref b)) (q : Q (.bl r) H) : rSame K r (.ref a) (.ref b) H Q := ⟨a, b, rfl, rfl, h, q⟩
theorem hu60 {A : Around} {k : Nat} (hr : Room k A) : A.units + 60 < cLine := by have := hr.units; omega
end L2
end

section
set_option Elab.async false
set_option linter.all false
set_option maxRecDepth 100000
set_option maxHeartbeats 4000000
namespace L2
open PySem PySem.Spec PyProof.Rows
def eqL (xs ys : List V) : Bool := decide (xs.length = ys.length) && (List.range xs.length).all fun j => eqV (xs.getD j .non) (ys.getD j .non)
def rEqL (K : PySem.W.Frag) (n : Bool) : R2 := fun x y H Q => ∃ a b xs ys, x = .ref a ∧ y = .ref b ∧ SqL K H a xs ∧ SqL K H b ys ∧ xs.all flatV = true ∧ ys.all flatV = true ∧ Q (.bl (n != eqL xs ys)) H
section
variable {X : Cx} {pins : List (Addr × Obj)} {σ : St} {H : Hp} {s : Shared}
theorem eqL_items {A : Around} {xs ys : List V} {us vs : List Value} (f1 : xs.all flatV = true) (f2 : ys.all flatV = true) (r1 : Vals xs us) (r2 : Vals ys vs) (j : Nat) (h1 : j < us.length) (h2 : j < vs.length) :
    SeqAt.EqAt A s us[j] vs[j] (eqV (xs.getD j .non) (ys.getD j .non)) := by
  have l1 := r1.length; have l2 := r2.length
  have e1 : xs[j]? = some (xs[j]'(by omega)) := List.getElem?_eq_getElem _
  have e2 : ys[j]? = some (ys[j]'(by omega)) := List.getElem?_eq_getElem _
  obtain ⟨u, eu, ru⟩ := r1.get e1
  obtain ⟨v, ev, rv⟩ := r2.get e2
  rw [List.getElem?_eq_getElem h1] at eu
  rw [List.getElem?_eq_getElem h2] at ev
  cases eu; cases ev
  simp only [List.getD, e1, e2, Option.getD_some]
  exact eqAt_V ru rv (List.all_eq_true.mp f1 _ (List.mem_of_getElem? e1)) (List.all_eq_true.mp f2 _ (List.mem_of_getElem? e2))
end
section
variable {X : Cx}
theorem op_eqL (hu : X.A.units + 60 < cLine) : OpR X (compareOp .Eq) (rEqL X.K false) := by
  intro pins s σ H x y v u Q I rx ry h
  obtain ⟨a, b, xs, ys, rfl, rfl, h1, h2, f1, f2, q⟩ := h
  cases rx; cases ry
  obtain ⟨is, r1, p1, _⟩ := I.list h1
  obtain ⟨js, r2, p2, _⟩ := I.list h2
  have l1 := r1.length; have l2 := r2.length
  by_cases hl : xs.length = ys.length
  · have := SeqAt.RcAt.lists (A := X.A) (e := fun j => eqV (xs.getD j .non) (ys.getD j .non)) p1.isList p2.isList (by simp; omega) (by omega) fun j a1 a2 => eqL_items (s := s) f1 f2 r1 r2 j (by simpa using a1) (by simpa using a2)
    refine this _ _ _ _ ⟨.bl (false != eqL xs ys), H, I, ?_, q⟩
    unfold eqL
    rw [decide_eq_true hl]
    simp [RelV, ← l1]
  · have := SeqAt.RcAt.lists_lengths (A := X.A) p1.isList p2.isList (by simp; omega) (by omega)
    refine this _ _ _ _ ⟨.bl (false != eqL xs ys), H, I, ?_, q⟩
    unfold eqL
    rw [decide_eq_false hl]
    simp [RelV]
theorem op_neL (hu : X.A.units + 60 < cLine) : OpR X (compareOp .NotEq) (rEqL X.K true) := by
  intro pins s σ H x y v u Q I rx ry h
  obtain ⟨a, b, xs, ys, rfl, rfl, h1, h2, f1, f2, q⟩ := h
  cases rx; cases ry
  obtain ⟨is, r1, p1, _⟩ := I.list h1
  obtain ⟨js, r2, p2, _⟩ := I.list h2
  have l1 := r1.length; have l2 := r2.length
  by_cases hl : xs.length = ys.length
  · have := SeqAt.RcNeAt.lists (A := X.A) (e := fun j => eqV (xs.getD j .non) (ys.getD j .non)) p1.isList p2.isList (by simp; omega) (by omega) fun j a1 a2 => eqL_items (s := s) f1 f2 r1 r2 j (by simpa using a1) (by simpa using a2)
    refine this _ _ _ _ ⟨.bl (true != eqL xs ys), H, I, ?_, q⟩
    unfold eqL
    rw [decide_eq_true hl]
    simp [RelV, ← l1]
  · have := SeqAt.RcNeAt.lists_lengths (A := X.A) p1.isList p2.isList (by simp; omega) (by omega)
    refine this _ _ _ _ ⟨.bl (true != eqL xs ys), H, I, ?_, q⟩
    unfold eqL
    rw [decide_eq_false hl]
    simp [RelV]
end
theorem eqL_ints (ns ms : List Int) : eqL (ns.map V.int) (ms.map V.int) = decide (ns = ms) := by
  unfold eqL
  rw [List.length_map, List.length_map]
  by_cases hl : ns.length = ms.length
  · rw [decide_eq_true hl, Bool.true_and]
    by_cases h : ns = ms
    · subst h
      rw [decide_eq_true rfl, List.all_eq_true]
      intro j hj
      have hj : j < ns.length := List.mem_range.mp hj
      simp [List.getD, hj, eqV]
    · rw [decide_eq_false h]
      refine Bool.eq_false_iff.mpr fun hc => h (List.ext_getElem hl fun j h1 h2 => ?_)
      have := List.all_eq_true.mp hc j (List.mem_range.mpr h1)
      simp [List.getD, h1, h2, eqV] at this
      exact this
  · rw [decide_eq_false hl, Bool.false_and, decide_eq_false]
    intro e
    exact hl (by rw [e])
theorem r_neI {K : PySem.W.Frag} {H : Hp} {Q : VK} {a b : Addr} {ns ms : List Int} (h1 : SqL K H a (ns.map V.int)) (h2 : SqL K H b (ms.map V.int)) (q : Q (.bl (!decide (ns = ms))) H) : rEqL K true (.ref a) (.ref b) H Q := by
  refine ⟨a, b, _, _, rfl, rfl, h1, h2, flat_ints _, flat_ints _, ?_⟩
  rw [eqL_ints]
  cases hd : decide (ns = ms) <;> (rw [hd] at q; exact q)
end L2
end

section
set_option Elab.async false
set_option linter.all false
set_option maxRecDepth 100000
set_option maxHeartbeats 4000000
namespace L2
open PySem PySem.Spec PyProof.Rows
end L2
end

section
set_option Elab.async false
set_option linter.all false
set_option maxRecDepth 100000
set_option maxHeartbeats 4000000
namespace L2
open PySem PySem.Spec PyProof.Rows
section
variable {X : Cx}
theorem pe_globI {x : Str} {i : Int} {pos : Pos} (hg : Gl X x) (hm : ∃ t, X.mg x = some (.int i t)) (hd : (x == ("__debug__" : Str)) = false := by decide) : PE X (.Name x pos) (tC (.int i)) := by
  obtain ⟨t, h⟩ := hm
  exact pe_glob hg h ⟨t, rfl⟩ hd
end
section
variable {σ : St} {H : Hp} {D : Ends} {Q : VK} {te : TE} {QB : Bool → Hp → Prop} {tA : TA}
theorem r_bm0 {K : PySem.W.Frag} {T : String} {r : V → List V → Hp → VK → Prop} (h : te σ H fun x H1 => tyV K T x H1 ∧ r x [] H1 Q) : tBM0 K T r te σ H Q := h
end
theorem iteNT {A B : Prop} (h : B) : if (!true) = true then A else B := by
  rw [if_neg (by decide)]
  exact h
def SameBut (x : Addr) (H H' : Hp) : Prop := ∀ b o, b ≠ x → H b = some o → H' b = some o
theorem Same.but {H H' : Hp} {x : Addr} (h : Same H H') : SameBut x H H' := fun b o _ e => h b o e
theorem SameBut.trans {H H1 H2 : Hp} {x : Addr} (a : SameBut x H H1) (b : SameBut x H1 H2) : SameBut x H H2 := fun c o n h => b c o n (a c o n h)
theorem sameBut_upd {H : Hp} {x : Addr} {o : HO} : SameBut x H (upd H x o) := fun b u n e => by rw [upd_ne n]; exact e
end L2
end

section
set_option Elab.async false
set_option linter.all false
set_option maxRecDepth 100000
set_option maxHeartbeats 4000000
namespace L2
open PySem PySem.Spec PyProof.Rows
theorem lc_new {J : It} {H1 : Hp} {fr : St} {tc : TT} {te : TE} {Q : VK} (n : Nat) (item : Nat → V) (Pv : Nat → List V → Hp → Prop) (h0 : ∀ H, Same H1 H → Pv 0 [] H)
    (stab : ∀ i ys H D xs o, H D = some (.lst xs) → Pv i ys H → Pv i ys (upd H D o)) (hz : ∀ i ys H, i < n → Pv i ys H → ys.length < sizeLine)
    (hgo : ∀ i H, i < n → Same H1 H → J.go i H) (hy : ∀ i H x H', i < n → Same H1 H → J.yld i H x H' → x = item i ∧ H' = H) (hst : ∀ H, Same H1 H → J.stop n H)
    (turn : ∀ i ys H (A : VK) (R : Hp → Prop), i < n → Same H1 H → Pv i ys H → (∀ y H', Same H H' → Pv (i + 1) (ys ++ [y]) H' → A y H') → tc (some (item i) :: fr) H fun b H3 => if b = true then te (some (item i) :: fr) H3 A else R H3)
    (fin : ∀ D ys H, H1 D = none → Same H1 H → Pv n ys H → H D = some (.lst ys) → Q (.ref D) H) : rdLc J H1 fr tc te Q := by
  intro D hD
  refine ⟨fun i m H => i ≤ n ∧ m = n - i ∧ Same H1 H ∧ ∃ ys, H D = some (.lst ys) ∧ Pv i ys H, ⟨n, Nat.zero_le _, rfl, same_upd hD, [], upd_same, h0 _ (same_upd hD)⟩, ?_⟩
  rintro i m H ⟨hi, rfl, sm, ys, hl, hp⟩
  by_cases h : i = n
  · subst h
    exact .inl ⟨hst H sm, fin D ys H hD sm hp hl⟩
  · have hlt : i < n := Nat.lt_of_le_of_ne hi h
    refine .inr ⟨hgo i H hlt sm, fun x H' hyl => ?_⟩
    obtain ⟨rfl, rfl⟩ := hy i H x H' hlt sm hyl
    refine turn i ys H' _ _ hlt sm hp (fun y H4 s4 hp4 => ?_)
    refine ⟨ys, s4 _ _ hl, hz i ys _ hlt hp, n - (i + 1), by omega, by omega, rfl, fun b u e => ?_, ys ++ [y], upd_same, stab _ _ _ _ _ _ (s4 _ _ hl) hp4⟩
    rw [upd_ne (ne_of_none e hD)]
    exact s4 _ _ (sm _ _ e)
end L2
end

section
set_option Elab.async false
set_option linter.all false
set_option maxRecDepth 100000
set_option maxHeartbeats 4000000
namespace L2
open PySem PySem.Spec PyProof.Rows
theorem b_abs : bootBuiltins "abs" = some (.builtin "abs") := by decide +kernel
def IsLeast (ns : List Int) (m : Int) : Prop := m ∈ ns ∧ ∀ a ∈ ns, m ≤ a
def IsMost (ns : List Int) (m : Int) : Prop := m ∈ ns ∧ ∀ a ∈ ns, a ≤ m
section
variable {X : Cx}
def rMin1 (K : PySem.W.Frag) : List V → Hp → VK → Prop := fun xs H Q => ∃ (p : Addr) (ns : List Int), xs = [.ref p] ∧ SqL K H p (ns.map V.int) ∧ ns ≠ [] ∧ ∀ m, IsLeast ns m → Q (.int m) H
def rMax1 (K : PySem.W.Frag) : List V → Hp → VK → Prop := fun xs H Q => ∃ (p : Addr) (ns : List Int), xs = [.ref p] ∧ SqL K H p (ns.map V.int) ∧ ns ≠ [] ∧ ∀ m, IsMost ns m → Q (.int m) H
theorem ints_of {pins : List (Addr × Obj)} {s : Shared} {σ : St} {H : Hp} {p : Addr} {ns : List Int} (I : Inv X pins σ H s) (hp : SqL X.K H p (ns.map V.int)) : ∃ ys : Array (Int × Tok), s.heap.IsList p (intItems ys) ∧ ns = ys.toList.map (·.1) := by
  obtain ⟨its, r, pl, _⟩ := I.list hp
  have hi := intsAre_of r
  obtain ⟨ys, e⟩ := hi.allInts.items
  have hl := pl.isList
  rw [e] at hl
  exact ⟨ys, hl, by rw [← hi.numsOf, ← nums_intItems, ← e]⟩
theorem least_of {ys : Array (Int × Tok)} {v : Value} (hz : 0 < ys.size) (hv : (intItems ys)[argBest (fun i j => decide (numAt ys i < numAt ys j)) (ys.size - 1)]? = some v) : ∃ m t, v = .int m t ∧ IsLeast (ys.toList.map (·.1)) m := by
  obtain ⟨t, rfl⟩ := intItems_at hv
  obtain ⟨h1, h2⟩ := argBest_lt (numAt ys) (ys.size - 1)
  refine ⟨_, t, rfl, ?_, fun a ha => ?_⟩
  · rw [numAt_eq]
    exact getD_mem (by rw [List.length_map, Array.length_toList]; omega)
  · obtain ⟨j, hj, rfl⟩ := mem_getD ha
    rw [List.length_map, Array.length_toList] at hj
    rw [← numAt_eq]
    exact h2 j (by omega)
theorem most_of {ys : Array (Int × Tok)} {v : Value} (hz : 0 < ys.size) (hv : (intItems ys)[argBest (fun i j => decide (numAt ys i > numAt ys j)) (ys.size - 1)]? = some v) : ∃ m t, v = .int m t ∧ IsMost (ys.toList.map (·.1)) m := by
  obtain ⟨t, rfl⟩ := intItems_at hv
  obtain ⟨h1, h2⟩ := argBest_gt (numAt ys) (ys.size - 1)
  refine ⟨_, t, rfl, ?_, fun a ha => ?_⟩
  · rw [numAt_eq]
    exact getD_mem (by rw [List.length_map, Array.length_toList]; omega)
  · obtain ⟨j, hj, rfl⟩ := mem_getD ha
    rw [List.length_map, Array.length_toList] at hj
    rw [← numAt_eq]
    exact h2 j (by omega)
theorem size_of_ne {ns : List Int} {ys : Array (Int × Tok)} (e : ns = ys.toList.map (·.1)) (h : ns ≠ []) : 0 < ys.size := by
  rcases Nat.eq_zero_or_pos ys.size with z | z
  · exfalso
    apply h
    rw [e, List.eq_nil_of_length_eq_zero (l := ys.toList) (by rw [Array.length_toList]; exact z)]
    rfl
  · exact z
theorem call_min1 (hc : X.calm = true) : CallR X (.builtin "min") (rMin1 X.K) := by
  intro pins s σ H xs us Q I r h
  obtain ⟨p, ns, rfl, hp, hne, q⟩ := h
  obtain ⟨u, rfl, ru⟩ := vals1 r
  cases ru
  obtain ⟨ys, hl, e⟩ := ints_of I hp
  have hz := size_of_ne e hne
  refine min_intList (I.ok.hd hc) hl hz fun v h' tk hv hk => ?_
  obtain ⟨m, t, rfl, hm⟩ := least_of hz hv
  exact ⟨.int m, H, I.kept hk, ⟨t, rfl⟩, q m (e ▸ hm)⟩
theorem call_max1 (hc : X.calm = true) : CallR X (.builtin "max") (rMax1 X.K) := by
  intro pins s σ H xs us Q I r h
  obtain ⟨p, ns, rfl, hp, hne, q⟩ := h
  obtain ⟨u, rfl, ru⟩ := vals1 r
  cases ru
  obtain ⟨ys, hl, e⟩ := ints_of I hp
  have hz := size_of_ne e hne
  refine max_intList (I.ok.hd hc) hl hz fun v h' tk hv hk => ?_
  obtain ⟨m, t, rfl, hm⟩ := most_of hz hv
  exact ⟨.int m, H, I.kept hk, ⟨t, rfl⟩, q m (e ▸ hm)⟩
end
section
variable {prog : Program} {w : World} {A : Around} {R : Result → Shared → Prop} {I S : Addr} {fp wr : List Addr} {n : Nat} {P : Nat → Value → Prop} {St : Nat → Heap → Prop} {d : Value}
abbrev mdArgs (I S : Addr) (d : Value) : Args := ⟨[.ref I, .none, .ref S], [(Str.ofString "default", d)]⟩
theorem minD_name : (toString "min" ++ toString ".loop" : String) = "min.loop" := by decide
theorem minD_go (W : Walks prog w A.in1 I fp wr n P St) (bt : Nat → Nat → Bool) (hc : CmpOf prog w A.in1 .Lt P bt) (nS : S ∉ fp) : ∀ (k j : Nat) (s : Shared) (b : Value) (c : Nat), n - (j + 1) = k → j + 1 ≤ n → St (j + 1) s.heap → P (argBest bt j) b →
    s.heap.get? S = some { cls := .type "list", dict := none, data := .seq #[b, b] c, slots := #[] } →
    (∀ v h' tk, P (argBest bt (n - 1)) v → (∀ a o, a ∉ wr → a ≠ S → s.heap.get? a = some o → h'.get? a = some o) → R (.ok (.ret v)) { s with heap := h', toks := tk }) → codeAny (model prog w) A (.builtin "min.loop" (mdArgs I S d)) R s := by
  have nw : S ∉ wr := fun h => nS (W.sub _ h)
  intro k
  induction k with
  | zero =>
    intro j s b c hk hj st hb eS hR
    have hn : j + 1 = n := by omega
    refine codeAny_builtin F.entry_min_loop ?_; rw [Around.under_plainId F.plain_min_loop _]; show wpAny _ A.in1 (seqItems? (.ref S) >>= _) _ _ s
    refine wpAny_bind (wpAny_seqItems eS rfl ?_); show wpAny _ A.in1 (tryCatch (pyNext (.ref I)) _ >>= _) _ _ s
    refine wpAny_bind (wpAny_tryCatch (W.done s _ _ (hn ▸ st) fun h' tk kp => ?_))
    have eS' := kp S _ nw eS
    show wpAny _ A.in1 (updateSeq S (fun _ => #[]) >>= _) _ _ _; refine wpAny_bind ?_; refine wpAny_updateSeq eS' rfl (wpAny_bind (wpAny_letGo (wpAny_pure ?_)))
    exact hR b _ tk (by rw [← hn]; exact hb) fun a o aw aS e => (Heap.get?_update_other _ _ (Ne.symm aS)).trans (kp a o aw e)
  | succ k ih =>
    intro j s b c hk hj st hb eS hR
    have hn : j + 1 < n := by omega
    refine codeAny_builtin F.entry_min_loop ?_; rw [Around.under_plainId F.plain_min_loop _]; show wpAny _ A.in1 (seqItems? (.ref S) >>= _) _ _ s
    refine wpAny_bind (wpAny_seqItems eS rfl ?_); show wpAny _ A.in1 (tryCatch (pyNext (.ref I)) _ >>= _) _ _ s
    refine wpAny_bind (wpAny_tryCatch (W.item (j + 1) s _ _ hn st fun v h' tk hv st' kp => ?_))
    have eS' := kp S _ nw eS
    show wpAny _ A.in1 (tryCatch (holding [v, v] (richCompare .Lt v b >>= _)) _ >>= _) _ _ _
    refine wpAny_bind (wpAny_tryCatch (wpAny_holding (wpAny_bind (hc (j + 1) (argBest bt j) v b _ _ _ hv hb ?_)))); refine wpAny_bind (wpAny_holding (wpAny_truthy_bool ?_)); refine wpAny_bind (wpAny_letGo (wpAny_pure ?_))
    cases t : bt (j + 1) (argBest bt j) with
    | true =>
      simp only [if_true]; refine wpAny_bind ?_; refine wpAny_updateSeq eS' rfl (wpAny_bind (wpAny_letGo ?_)); rw [minD_name]
      refine wpAny_pure ⟨plainId_quiet F.plain_min_loop _, ih (j + 1) _ v _ (by omega) hn (W.frame _ _ _ st' fun a af o e => ?_) (by simp only [argBest, t, if_true]; exact hv) (Heap.get?_update_self _ eS' rfl) fun v' h2 tk2 hv' kp2 => ?_⟩
      · exact (Heap.get?_update_other _ _ (fun z : S = a => nS (by rw [z]; exact af))).trans e
      · exact hR v' h2 tk2 hv' fun a o aw aS e => kp2 a o aw aS ((Heap.get?_update_other _ _ (Ne.symm aS)).trans (kp a o aw e))
    | false =>
      simp only [Bool.false_eq_true, if_false]; refine wpAny_bind (wpAny_letGo ?_); rw [minD_name]
      refine wpAny_pure ⟨plainId_quiet F.plain_min_loop _, ih (j + 1) _ b c (by omega) hn st' (by simp only [argBest, t, Bool.false_eq_true, if_false]; exact hb) eS' fun v' h2 tk2 hv' kp2 => ?_⟩
      exact hR v' h2 tk2 hv' fun a o aw aS e => kp2 a o aw aS (kp a o aw e)
theorem minD_first (W : Walks prog w A.in1 I fp wr n P St) (bt : Nat → Nat → Bool) (hc : CmpOf prog w A.in1 .Lt P bt) (nS : S ∉ fp) {s : Shared} {c : Nat} (st : St 0 s.heap) (eS : s.heap.get? S = some { cls := .type "list", dict := none, data := .seq #[] c, slots := #[] })
    (h0 : n = 0 → ∀ h' tk, (∀ a o, a ∉ wr → a ≠ S → s.heap.get? a = some o → h'.get? a = some o) → R (.ok (.ret d)) { s with heap := h', toks := tk })
    (hR : 0 < n → ∀ v h' tk, P (argBest bt (n - 1)) v → (∀ a o, a ∉ wr → a ≠ S → s.heap.get? a = some o → h'.get? a = some o) → R (.ok (.ret v)) { s with heap := h', toks := tk }) : codeAny (model prog w) A (.builtin "min.loop" (mdArgs I S d)) R s := by
  have nw : S ∉ wr := fun h => nS (W.sub _ h)
  refine codeAny_builtin F.entry_min_loop ?_; rw [Around.under_plainId F.plain_min_loop _]; show wpAny _ A.in1 (seqItems? (.ref S) >>= _) _ _ s
  refine wpAny_bind (wpAny_seqItems eS rfl ?_); show wpAny _ A.in1 (tryCatch (pyNext (.ref I)) _ >>= _) _ _ s
  rcases Nat.eq_zero_or_pos n with hn | hn
  · refine wpAny_bind (wpAny_tryCatch (W.done s _ _ (hn ▸ st) fun h' tk kp => ?_))
    exact wpAny_bind (wpAny_rule (wpAny_pure (h0 hn h' tk fun a o aw _ e => kp a o aw e)))
  · refine wpAny_bind (wpAny_tryCatch (W.item 0 s _ _ hn st fun v h' tk hv st' kp => ?_))
    have eS' := kp S _ nw eS
    show wpAny _ A.in1 (updateSeq S (fun _ => #[v, v]) >>= _) _ _ _; refine wpAny_bind ?_; refine wpAny_updateSeq eS' rfl ?_; rw [minD_name]
    refine wpAny_pure ⟨plainId_quiet F.plain_min_loop _, minD_go W bt hc nS _ 0 _ v _ rfl hn (W.frame _ _ _ st' fun a af o e => ?_) hv (Heap.get?_update_self _ eS' rfl) fun v' h2 tk2 hv' kp2 => ?_⟩
    · exact (Heap.get?_update_other _ _ (fun z : S = a => nS (by rw [z]; exact af))).trans e
    · exact hR hn v' h2 tk2 hv' fun a o aw aS e => kp2 a o aw aS ((Heap.get?_update_other _ _ (Ne.symm aS)).trans (kp a o aw e))
end
section
variable {prog : Program} {w : World} {A : Around} {E : Value → Shared → Prop} {s : Shared}
theorem minD_args (a v : Value) : argsOk "min" ⟨[a], [(Str.ofString "default", v)]⟩ := by unfold argsOk; kernel_rfl
theorem minD_bind (d : Value) : Builtin.Builtins.bindParams "min" ["key", "default"] 0 ⟨[], [(Str.ofString "default", d)]⟩ = pure [none, some d] := by kernel_rfl
theorem minD_list {l : Addr} {ys : Array (Int × Tok)} {d : Value} {Q : Value → Shared → Prop} (hh : A.handled = none) (hl : s.heap.IsList l (intItems ys)) (h0 : ys.size = 0 → ∀ h' tk, (∀ b o, s.heap.get? b = some o → h'.get? b = some o) → Q d { s with heap := h', toks := tk })
    (h1 : 0 < ys.size → ∀ v h' tk, (intItems ys)[argBest (fun i j => decide (numAt ys i < numAt ys j)) (ys.size - 1)]? = some v → (∀ b o, s.heap.get? b = some o → h'.get? b = some o) → Q v { s with heap := h', toks := tk }) :
    wpAny (model prog w) A (call (.builtin "min") [.ref l] [(Str.ofString "default", d)]) Q E s := by
  refine kmb_tree F.kind_min F.plain_min F.entry_min (minD_args _ _) ?_
  show wpAny _ A.in1 (Builtin.Builtins.bindParams "min" ["key", "default"] 0 ⟨[], [(Str.ofString "default", d)]⟩ >>= _) _ _ s
  refine wpAny_bind (wpAny_of_eq (minD_bind d) ?_)
  refine wpAny_bind (wpAny_pure ?_); refine wpAny_bind (iter_intList hl fun s₂ e st hfp hlI => ?_)
  subst e
  have hsz : (intItems ys).size = ys.size := by simp [intItems]
  refine wpAny_bind (wpAny_newObj_type ?_)
  rw [minD_name]
  refine wpAny_pure ⟨plainId_quiet F.plain_min_loop _, ?_⟩
  refine minD_first (Walks.list (A := A.in1) hh _ l hlI (intItems ys)) _ (CmpOf.ints_lt (numAt ys) (fun _ _ => intItems_at)) (fun hm => Nat.lt_irrefl _ (hfp _ hm)) ⟨st.1.at fun o e => Heap.get?_push_of_some _ e, st.2.push _⟩ (Heap.get?_push_size _ rfl) (fun hz h' tk kp => ?_) (fun hz v h' tk hv kp => ?_)
  · refine h0 (by rw [← hsz]; exact hz) h' tk (old_kept fun b o hb e => kp b o hb (Nat.ne_of_lt (Heap.lt_size e)) (Heap.get?_push_of_some _ e))
  · rw [hsz] at hz
    refine h1 hz v h' tk (by simpa [intItems] using hv) (old_kept fun b o hb e => kp b o hb (Nat.ne_of_lt (Heap.lt_size e)) (Heap.get?_push_of_some _ e))
end
section
variable {X : Cx} {x : Str} {p pos : Pos} {e : Expr} {es : List Expr} {kws : List Keyword} {t tk : TA} {id : String} {ks : List Str}
def CallKR (X : Cx) (f : Value) (ks : List Str) (r : List V → List V → Hp → VK → Prop) : Prop :=
  ∀ (pins : List (Addr × Obj)) (s : Shared) (σ : St) (H : Hp) (xs zs : List V) (us ws : List Value) (Q : VK), Inv X pins σ H s → Vals xs us → Vals zs ws → r xs zs H Q → wpAny (model X.prog X.w) X.A (call f us (ks.zip ws)) (EP X pins σ Q) X.xe s
def tCBK (r : List V → List V → Hp → VK → Prop) (t tk : TA) : TE := fun σ H Q => t σ H fun vs H1 => tk σ H1 fun zs H2 => r vs zs H2 Q
theorem pe_callBK {r : List V → List V → Hp → VK → Prop} (hc : CallKR X (.builtin id) ks r) (hg : Gl X x) (hm : X.mg x = none) (hv : bootBuiltins x = some (.builtin id)) (ha : PA X (e :: es) t) (hkw : PK X kws tk) (hks : (backToKw pos (keywordEach kws X.env)).filterMap (·.1) = ks := by rfl)
    (hn : x ≠ "__name__" := by decide) (hdb : (x == ("__debug__" : Str)) = false := by decide) (he : backTo pos (starEach (e :: es) X.env) = (false, eval e X.env) :: backTo pos (starEach es X.env) := by rfl) (hpl : (backTo pos (starEach (e :: es) X.env)).any (·.1) = false := by rfl)
    (hall : (backToKw pos (keywordEach kws X.env)).all (·.1.isSome) = true := by rfl) (hnone : (backToKw pos (keywordEach kws X.env)).any (·.1.isNone) = false := by rfl) : PE X (.Call (.Name x p) (e :: es) kws pos) (tCBK r t tk) := by
  intro pins s σ H Q I h
  refine wpAny_Call_Name_kw (ld_blt I hg hm hv ?_ hn hdb)
  refine callWith_kw (thn (ha pos pins s σ H _ I h) fun us s1 ⟨vs, H1, I1, r1, q1⟩ => ?_) he hpl hall hnone
  refine thn (hkw pos pins s1 σ H1 _ I1 q1) fun ws s2 ⟨zs, H2, I2, r2, q2⟩ => ?_
  rw [hks]
  exact hc pins s2 σ H2 vs zs us ws Q I2 r1 r2 q2
def rMinD (K : PySem.W.Frag) : List V → List V → Hp → VK → Prop := fun xs zs H Q => ∃ (p : Addr) (ns : List Int) (d : V), xs = [.ref p] ∧ zs = [d] ∧ SqL K H p (ns.map V.int) ∧ (ns = [] → Q d H) ∧ ∀ m, IsLeast ns m → Q (.int m) H
theorem call_minD (hc : X.calm = true) : CallKR X (.builtin "min") ["default"] (rMinD X.K) := by
  intro pins s σ H xs zs us ws Q I r r2 h
  obtain ⟨p, ns, d, rfl, rfl, hp, q0, q1⟩ := h
  obtain ⟨u, rfl, ru⟩ := vals1 r
  obtain ⟨u2, rfl, ru2⟩ := vals1 r2
  cases ru
  obtain ⟨ys, hl, e⟩ := ints_of I hp
  refine minD_list (I.ok.hd hc) hl (fun hz h' tk hk => ?_) (fun hz v h' tk hv hk => ?_)
  · refine ⟨d, H, I.kept hk, ru2, q0 ?_⟩
    rw [e, List.eq_nil_of_length_eq_zero (l := ys.toList) (by rw [Array.length_toList]; exact hz)]
    rfl
  · obtain ⟨m, t, rfl, hm⟩ := least_of hz hv
    exact ⟨.int m, H, I.kept hk, ⟨t, rfl⟩, q1 m (e ▸ hm)⟩
theorem r_cBK {r : List V → List V → Hp → VK → Prop} {σ : St} {H : Hp} {Q : VK} (h : t σ H fun vs H1 => tk σ H1 fun zs H2 => r vs zs H2 Q) : tCBK r t tk σ H Q := h
end
end L2
namespace L2
open PySem PySem.Spec PyProof.Rows
theorem for_str {z : Str} {g : TG} {tb : TS} {D : Ends} {σ : St} {H : Hp} (Pv : Nat → St → Hp → Prop) (h0 : Pv 0 σ H)
    (hs : ∀ (i c : Nat) σ H, z.cps[i]? = some c → Pv i σ H → g (.str (sgn c)) σ H fun σ2 H2 => tb { D with nx := Pv (i + 1), ct := Pv (i + 1), bk := D.nx } σ2 H2) (hd : ∀ σ H, Pv z.cps.size σ H → D.nx σ H) : forB (Its z) g tb D σ H := by
  refine ⟨fun i m σ H => i ≤ z.cps.size ∧ m = z.cps.size - i ∧ Pv i σ H, ⟨_, Nat.zero_le _, rfl, h0⟩, ?_⟩
  rintro i m σ H ⟨hi, rfl, hP⟩
  by_cases h : i = z.cps.size
  · subst h
    exact .inl ⟨Nat.le_refl _, hd σ H hP⟩
  · have hlt : i < z.cps.size := Nat.lt_of_le_of_ne hi h
    refine .inr ⟨hlt, Pv (i + 1), fun σ' H' hN => ⟨z.cps.size - (i + 1), by omega, hlt, rfl, hN⟩, fun x H' hy => ?_⟩
    obtain ⟨rfl, c, hc, rfl⟩ := hy
    exact hs i c σ _ hc hP
end L2
end

section
namespace TW
end TW
end

section
namespace TW
end TW
end

section
namespace TW
end TW
end

section
namespace TW
end TW
end

section
set_option Elab.async false
set_option linter.all false
namespace TW
def bal : Nat → Nat → Nat
  | 0, 0 => 1
  | 0, _ + 1 => 0
  | m + 1, 0 => bal m 1
  | m + 1, k + 1 => bal m (k + 2) + bal m k
end TW
end

section
set_option Elab.async false
set_option linter.all false
namespace TW
def dAt (ds : List Nat) (k : Nat) : Nat := ds.getD k 0
def opn (ds : List Nat) : Nat → Nat
  | 0 => 0
  | k + 1 => dAt ds k + 1
def way (ds : List Nat) : Nat → List Int
  | 0 => [-1]
  | k + 1 => (way ds k).take (dAt ds k + 1) ++ [(k : Int)]
def Dok (ds : List Nat) : Prop := ∀ k, k < ds.length → dAt ds k ≤ opn ds k
def eld (ds : List Nat) (k : Nat) : Int := (way ds k).getD (dAt ds k) 0
def elds (ds : List Nat) : List Int := (List.range ds.length).map (eld ds)
theorem way_len {ds : List Nat} (h : Dok ds) : ∀ k, k ≤ ds.length → (way ds k).length = opn ds k + 1
  | 0, _ => rfl
  | k + 1, hk => by
    show ((way ds k).take (dAt ds k + 1) ++ [(k : Int)]).length = dAt ds k + 1 + 1
    have := way_len h k (by omega)
    have := h k (by omega)
    rw [List.length_append, List.length_take]
    simp only [List.length_cons, List.length_nil]
    omega
theorem way_zero {ds : List Nat} (h : Dok ds) : ∀ k, k ≤ ds.length → (way ds k)[0]? = some (-1)
  | 0, _ => rfl
  | k + 1, hk => by
    show ((way ds k).take (dAt ds k + 1) ++ [(k : Int)])[0]? = some (-1)
    have e := way_zero h k (by omega)
    have hl := way_len h k (by omega)
    rw [List.getElem?_append_left (by rw [List.length_take]; omega), List.getElem?_take_of_lt (by omega)]
    exact e
theorem way_at {ds : List Nat} (h : Dok ds) : ∀ (k j : Nat) (x : Int), k ≤ ds.length → (way ds k)[j + 1]? = some x → ∃ v : Nat, x = (v : Int) ∧ v < k ∧ dAt ds v = j
  | 0, j, x, _, e => by cases e
  | k + 1, j, x, hk, e => by
    have e : ((way ds k).take (dAt ds k + 1) ++ [(k : Int)])[j + 1]? = some x := e
    have hl := way_len h k (by omega)
    have hd := h k (by omega)
    have hl2 : ((way ds k).take (dAt ds k + 1)).length = dAt ds k + 1 := by rw [List.length_take]; omega
    by_cases hj : j + 1 < dAt ds k + 1
    · rw [List.getElem?_append_left (by omega), List.getElem?_take_of_lt hj] at e
      obtain ⟨v, hv, hlt, hdv⟩ := way_at h k j x (by omega) e
      exact ⟨v, hv, by omega, hdv⟩
    · rw [List.getElem?_append_right (by omega), hl2] at e
      have e0 : j + 1 - (dAt ds k + 1) = 0 := by
        have := (List.getElem?_eq_some_iff.mp e).1
        simp only [List.length_cons, List.length_nil] at this
        omega
      rw [e0] at e
      have e := Option.some.inj e
      exact ⟨k, e.symm, by omega, by omega⟩
theorem way_lt {ds : List Nat} (h : Dok ds) : ∀ (k i j : Nat) (x y : Int), k ≤ ds.length → i < j → (way ds k)[i]? = some x → (way ds k)[j]? = some y → x < y
  | 0, i, j, x, y, _, hij, e1, e2 => by
    have := (List.getElem?_eq_some_iff.mp e2).1
    simp only [way, List.length_cons, List.length_nil] at this
    omega
  | k + 1, i, j, x, y, hk, hij, e1, e2 => by
    have hl := way_len h k (by omega)
    have hd := h k (by omega)
    have hl2 : ((way ds k).take (dAt ds k + 1)).length = dAt ds k + 1 := by rw [List.length_take]; omega
    have e2' : ((way ds k).take (dAt ds k + 1) ++ [(k : Int)])[j]? = some y := e2
    have e1' : ((way ds k).take (dAt ds k + 1) ++ [(k : Int)])[i]? = some x := e1
    by_cases hj : j < dAt ds k + 1
    · rw [List.getElem?_append_left (by omega), List.getElem?_take_of_lt hj] at e2'
      rw [List.getElem?_append_left (by omega), List.getElem?_take_of_lt (by omega)] at e1'
      exact way_lt h k i j x y (by omega) hij e1' e2'
    · rw [List.getElem?_append_right (by omega), hl2] at e2'
      have e0 : j - (dAt ds k + 1) = 0 := by
        have := (List.getElem?_eq_some_iff.mp e2').1
        simp only [List.length_cons, List.length_nil] at this
        omega
      rw [e0] at e2'
      have ey := Option.some.inj e2'
      rw [List.getElem?_append_left (by omega), List.getElem?_take_of_lt (by omega)] at e1'
      cases i with
      | zero =>
        rw [way_zero h k (by omega)] at e1'
        have := Option.some.inj e1'
        omega
      | succ i =>
        obtain ⟨v, hv, hlt, _⟩ := way_at h k i x (by omega) e1'
        omega
theorem eld_at {ds : List Nat} (h : Dok ds) {k : Nat} (hk : k < ds.length) : (way ds k)[dAt ds k]? = some (eld ds k) := by
  have hl := way_len h k (by omega)
  have hd := h k hk
  unfold eld List.getD
  rw [List.getElem?_eq_getElem (by omega)]
  rfl
theorem eld_top {ds : List Nat} (h : Dok ds) {k : Nat} (hk : k < ds.length) (e : eld ds k = -1) : dAt ds k = 0 := by
  have ha := eld_at h hk
  cases hd : dAt ds k with
  | zero => rfl
  | succ j =>
    rw [hd] at ha
    obtain ⟨v, hv, _⟩ := way_at h k j _ (by omega) ha
    omega
theorem eld_deep {ds : List Nat} (h : Dok ds) {k : Nat} (hk : k < ds.length) (e : eld ds k ≠ -1) : ∃ v : Nat, eld ds k = (v : Int) ∧ v < k ∧ dAt ds k = dAt ds v + 1 := by
  have ha := eld_at h hk
  cases hd : dAt ds k with
  | zero =>
    rw [hd, way_zero h k (by omega)] at ha
    exact absurd (Option.some.inj ha).symm e
  | succ j =>
    rw [hd] at ha
    obtain ⟨v, hv, hlt, hdv⟩ := way_at h k j _ (by omega) ha
    exact ⟨v, hv, hlt, by omega⟩
theorem eld_ge {ds : List Nat} (h : Dok ds) {k : Nat} (hk : k < ds.length) : -1 ≤ eld ds k := by
  by_cases e : eld ds k = -1
  · omega
  · obtain ⟨v, hv, _⟩ := eld_deep h hk e
    omega
theorem elds_len (ds : List Nat) : (elds ds).length = ds.length := by unfold elds; rw [List.length_map, List.length_range]
theorem elds_at {ds : List Nat} {k : Nat} (hk : k < ds.length) : (elds ds)[k]? = some (eld ds k) := by
  unfold elds
  rw [List.getElem?_map, List.getElem?_range hk]
  rfl
def pieceB (ds : List Nat) (k : Nat) : List Bool := List.replicate (opn ds k - dAt ds k) false ++ [true]
def rowP (ds : List Nat) (k : Nat) : List Bool := ((List.range k).map (pieceB ds)).flatten
def rowD (ds : List Nat) : List Bool := rowP ds ds.length ++ List.replicate (opn ds ds.length) false
theorem rowP_succ (ds : List Nat) (k : Nat) : rowP ds (k + 1) = rowP ds k ++ pieceB ds k := by
  unfold rowP
  rw [List.range_succ, List.map_append, List.flatten_append]
  simp
theorem rowP_len {ds : List Nat} (h : Dok ds) : ∀ k, k ≤ ds.length → (rowP ds k).length + opn ds k = 2 * k
  | 0, _ => rfl
  | k + 1, hk => by
    have := rowP_len h k (by omega)
    have := h k (by omega)
    rw [rowP_succ, List.length_append]
    show (rowP ds k).length + (List.replicate (opn ds k - dAt ds k) false ++ [true]).length + (dAt ds k + 1) = 2 * (k + 1)
    rw [List.length_append, List.length_replicate]
    simp only [List.length_cons, List.length_nil]
    omega
theorem rowD_len {ds : List Nat} (h : Dok ds) : (rowD ds).length = 2 * ds.length := by
  unfold rowD
  rw [List.length_append, List.length_replicate]
  exact rowP_len h _ (Nat.le_refl _)
def Vs : Nat → List Bool → Prop
  | h, [] => h = 0
  | h, false :: s => 0 < h ∧ Vs (h - 1) s
  | h, true :: s => Vs (h + 1) s
theorem vs_zeros : ∀ (m h : Nat) (s : List Bool), Vs h s → Vs (h + m) (List.replicate m false ++ s)
  | 0, h, s, v => v
  | m + 1, h, s, v => by
    rw [List.replicate_succ]
    refine ⟨by omega, ?_⟩
    show Vs (h + (m + 1) - 1) (List.replicate m false ++ s)
    rw [show h + (m + 1) - 1 = h + m by omega]
    exact vs_zeros m h s v
theorem vs_from {ds : List Nat} (h : Dok ds) : ∀ (m k : Nat), k + m = ds.length → Vs (opn ds k) (((List.range m).map fun i => pieceB ds (k + i)).flatten ++ List.replicate (opn ds ds.length) false)
  | 0, k, e => by
    have e : k = ds.length := by omega
    subst e
    have := vs_zeros (opn ds ds.length) 0 [] rfl
    rw [Nat.zero_add, List.append_nil] at this
    exact this
  | m + 1, k, e => by
    have ih := vs_from h m (k + 1) (by omega)
    have hd := h k (by omega)
    rw [List.range_succ_eq_map, List.map_cons, List.map_map, List.flatten_cons]
    have e1 : ((fun i => pieceB ds (k + i)) ∘ Nat.succ) = fun i => pieceB ds (k + 1 + i) := by
      funext i
      show pieceB ds (k + (i + 1)) = pieceB ds (k + 1 + i)
      rw [show k + (i + 1) = k + 1 + i by omega]
    rw [e1]
    show Vs (opn ds k) ((List.replicate (opn ds k - dAt ds (k + 0)) false ++ [true] ++ _) ++ _)
    rw [Nat.add_zero, List.append_assoc, List.append_assoc]
    have := vs_zeros (opn ds k - dAt ds k) (dAt ds k) (true :: (((List.range m).map fun i => pieceB ds (k + 1 + i)).flatten ++ List.replicate (opn ds ds.length) false)) ih
    rw [show dAt ds k + (opn ds k - dAt ds k) = opn ds k by omega] at this
    exact this
theorem vs_row {ds : List Nat} (h : Dok ds) : Vs 0 (rowD ds) := by
  have := vs_from h ds.length 0 (by omega)
  unfold rowD rowP
  have e : (fun i => pieceB ds (0 + i)) = pieceB ds := by funext i; rw [Nat.zero_add]
  rw [e] at this
  exact this
theorem pieces_inj : ∀ (m n : Nat) (s t : List Bool), List.replicate m false ++ true :: s = List.replicate n false ++ true :: t → m = n ∧ s = t
  | 0, 0, s, t, e => ⟨rfl, by simpa using e⟩
  | 0, n + 1, s, t, e => by rw [List.replicate_succ] at e; cases e
  | m + 1, 0, s, t, e => by rw [List.replicate_succ] at e; cases e
  | m + 1, n + 1, s, t, e => by
    rw [List.replicate_succ, List.replicate_succ] at e
    obtain ⟨a, b⟩ := pieces_inj m n s t (List.cons.inj e).2
    exact ⟨by omega, b⟩
theorem rest_inj {ds es : List Nat} (h1 : Dok ds) (h2 : Dok es) (hl : ds.length = es.length) : ∀ (m k : Nat), k + m = ds.length → opn ds k = opn es k →
    ((List.range m).map fun i => pieceB ds (k + i)).flatten ++ List.replicate (opn ds ds.length) false = ((List.range m).map fun i => pieceB es (k + i)).flatten ++ List.replicate (opn es es.length) false → ∀ i, k ≤ i → i < ds.length → dAt ds i = dAt es i
  | 0, k, e, _, _ => fun i a b => by omega
  | m + 1, k, e, ho, hr => fun i a b => by
    have f : ∀ xs : List Nat, ((List.range (m + 1)).map fun i => pieceB xs (k + i)).flatten = List.replicate (opn xs k - dAt xs k) false ++ true :: ((List.range m).map fun i => pieceB xs (k + 1 + i)).flatten := fun xs => by
      rw [List.range_succ_eq_map, List.map_cons, List.map_map, List.flatten_cons]
      have e1 : ((fun i => pieceB xs (k + i)) ∘ Nat.succ) = fun i => pieceB xs (k + 1 + i) := by
        funext i
        show pieceB xs (k + (i + 1)) = pieceB xs (k + 1 + i)
        rw [show k + (i + 1) = k + 1 + i by omega]
      rw [e1]
      show (List.replicate (opn xs k - dAt xs (k + 0)) false ++ [true]) ++ _ = _
      rw [Nat.add_zero, List.append_assoc]
      rfl
    rw [f, f, List.append_assoc, List.append_assoc, List.cons_append, List.cons_append] at hr
    obtain ⟨e1, e2⟩ := pieces_inj _ _ _ _ hr
    have d1 := h1 k (by omega)
    have d2 := h2 k (by omega)
    have hk : dAt ds k = dAt es k := by omega
    by_cases hi : i = k
    · rw [hi]; exact hk
    · exact rest_inj h1 h2 hl m (k + 1) (by omega) (by show dAt ds k + 1 = dAt es k + 1; omega) e2 i (by omega) b
theorem rowD_inj {ds es : List Nat} (h1 : Dok ds) (h2 : Dok es) (e : rowD ds = rowD es) : ds = es := by
  have hl : ds.length = es.length := by
    have a := rowD_len h1
    have b := rowD_len h2
    rw [e] at a
    omega
  have z : ∀ xs : List Nat, rowD xs = ((List.range xs.length).map fun i => pieceB xs (0 + i)).flatten ++ List.replicate (opn xs xs.length) false := fun xs => by
    unfold rowD rowP
    have e : (fun i => pieceB xs (0 + i)) = pieceB xs := by funext i; rw [Nat.zero_add]
    rw [e]
  have key := rest_inj h1 h2 hl ds.length 0 (by omega) rfl (by rw [← z, e, z, hl])
  refine List.ext_getElem hl fun k a b => ?_
  have := key k (by omega) a
  unfold dAt at this
  simpa [List.getD, a, b] using this
end TW
end

section
set_option Elab.async false
set_option linter.all false
namespace TW
def hang (A B : List Nat) (off : Nat) : List Nat := A ++ B.map (· + off)
theorem hang_len (A B : List Nat) (off : Nat) : (hang A B off).length = A.length + B.length := by unfold hang; rw [List.length_append, List.length_map]
theorem hang_old {A B : List Nat} {off k : Nat} (h : k < A.length) : dAt (hang A B off) k = dAt A k := by
  unfold hang dAt List.getD
  rw [List.getElem?_append_left h]
theorem hang_new {A B : List Nat} {off k : Nat} (h : k < B.length) : dAt (hang A B off) (A.length + k) = dAt B k + off := by
  unfold hang dAt List.getD
  rw [List.getElem?_append_right (by omega), Nat.add_sub_cancel_left, List.getElem?_map, List.getElem?_eq_getElem h]
  rfl
theorem hang_opn {A B : List Nat} {off : Nat} : ∀ k, k ≤ A.length → opn (hang A B off) k = opn A k
  | 0, _ => rfl
  | k + 1, h => by
    show dAt (hang A B off) k + 1 = dAt A k + 1
    rw [hang_old (by omega)]
theorem hang_way {A B : List Nat} {off : Nat} : ∀ k, k ≤ A.length → way (hang A B off) k = way A k
  | 0, _ => rfl
  | k + 1, h => by
    show (way (hang A B off) k).take (dAt (hang A B off) k + 1) ++ [(k : Int)] = _
    rw [hang_way k (by omega), hang_old (by omega)]
    rfl
theorem dok_zero {B : List Nat} (hB : Dok B) (h : 0 < B.length) : dAt B 0 = 0 := by
  have := hB 0 h
  have e : opn B 0 = 0 := rfl
  omega
theorem hang_ok {A B : List Nat} {off : Nat} (hA : Dok A) (hB : Dok B) (ho : off ≤ opn A A.length) : Dok (hang A B off) := fun k hk => by
  rw [hang_len] at hk
  by_cases h : k < A.length
  · rw [hang_old h, hang_opn k (by omega)]
    exact hA k h
  · obtain ⟨j, rfl⟩ : ∃ j, k = A.length + j := ⟨k - A.length, by omega⟩
    rw [hang_new (by omega)]
    cases j with
    | zero =>
      rw [Nat.add_zero, hang_opn _ (Nat.le_refl _), dok_zero hB (by omega)]
      omega
    | succ j =>
      have := hB (j + 1) (by omega)
      have e : opn B (j + 1) = dAt B j + 1 := rfl
      show _ ≤ dAt (hang A B off) (A.length + j) + 1
      rw [hang_new (by omega)]
      omega
theorem way_pos {B : List Nat} (hB : Dok B) {k : Nat} (h : k ≤ B.length) : way B k = -1 :: (way B k).tail := by
  have e := way_zero hB k h
  cases hw : way B k with
  | nil => rw [hw] at e; cases e
  | cons x r =>
    rw [hw] at e
    obtain rfl := Option.some.inj e
    rfl
theorem hang_way2 {A B : List Nat} {off : Nat} (hA : Dok A) (hB : Dok B) (ho : off ≤ opn A A.length) : ∀ k, k < B.length → way (hang A B off) (A.length + (k + 1)) = (way A A.length).take (off + 1) ++ (way B (k + 1)).tail.map (· + (A.length : Int))
  | 0, h => by
    show (way (hang A B off) A.length).take (dAt (hang A B off) (A.length + 0) + 1) ++ [(A.length : Int)] = _
    rw [hang_way _ (Nat.le_refl _), hang_new h, dok_zero hB h, Nat.zero_add]
    congr 1
    show _ = ((way B 0).take (dAt B 0 + 1) ++ [((0 : Nat) : Int)]).tail.map _
    rw [dok_zero hB h]
    show [(A.length : Int)] = [(0 : Int) + (A.length : Int)]
    rw [Int.zero_add]
  | k + 1, h => by
    show (way (hang A B off) (A.length + (k + 1))).take (dAt (hang A B off) (A.length + (k + 1)) + 1) ++ [((A.length + (k + 1) : Nat) : Int)] = _
    rw [hang_way2 hA hB ho k (by omega), hang_new h]
    have hl := way_len hA A.length (Nat.le_refl _)
    have hw : ((way A A.length).take (off + 1)).length = off + 1 := by rw [List.length_take]; omega
    rw [List.take_append, hw, List.take_of_length_le (by omega), List.append_assoc]
    congr 1
    have e : (way B (k + 1 + 1)).tail = (way B (k + 1)).tail.take (dAt B (k + 1)) ++ [((k + 1 : Nat) : Int)] := by
      show ((way B (k + 1)).take (dAt B (k + 1) + 1) ++ [((k + 1 : Nat) : Int)]).tail = _
      rw [way_pos hB (k := k + 1) (by omega)]
      rfl
    rw [e, List.map_append, List.map_take, show dAt B (k + 1) + off + 1 - (off + 1) = dAt B (k + 1) by omega]
    congr 1
    show [((A.length + (k + 1) : Nat) : Int)] = [((k + 1 : Nat) : Int) + (A.length : Int)]
    congr 1
    omega
theorem hang_eld {A B : List Nat} {off : Nat} (hA : Dok A) (hB : Dok B) (ho : off ≤ opn A A.length) {k : Nat} (hk : k < B.length) {top : Int} (ht : (way A A.length)[off]? = some top) :
    eld (hang A B off) (A.length + k) = if eld B k < 0 then top else eld B k + (A.length : Int) := by
  have hC := hang_ok hA hB ho
  have h1 := eld_at hC (k := A.length + k) (by rw [hang_len]; omega)
  rw [hang_new hk] at h1
  have h2 := eld_at hB hk
  have hl := way_len hA A.length (Nat.le_refl _)
  have hw : ((way A A.length).take (off + 1)).length = off + 1 := by rw [List.length_take]; omega
  cases k with
  | zero =>
    rw [Nat.add_zero, hang_way _ (Nat.le_refl _), dok_zero hB hk, Nat.zero_add, ht] at h1
    rw [dok_zero hB hk, way_zero hB 0 (by omega)] at h2
    have e2 := Option.some.inj h2
    rw [if_pos (by omega)]
    exact (Option.some.inj h1).symm
  | succ k =>
    rw [hang_way2 hA hB ho k (by omega)] at h1
    cases hd : dAt B (k + 1) with
    | zero =>
      rw [hd, Nat.zero_add, List.getElem?_append_left (by omega), List.getElem?_take_of_lt (by omega), ht] at h1
      rw [hd, way_zero hB _ (by omega)] at h2
      have e2 := Option.some.inj h2
      rw [if_pos (by omega)]
      exact (Option.some.inj h1).symm
    | succ d =>
      rw [hd, List.getElem?_append_right (by omega), hw, List.getElem?_map, List.getElem?_tail, show d + 1 + off - (off + 1) + 1 = d + 1 by omega] at h1
      rw [hd] at h2
      rw [h2] at h1
      obtain ⟨v, hv, _⟩ := way_at hB (k + 1) d _ (by omega) h2
      rw [if_neg (by omega)]
      exact (Option.some.inj h1).symm
theorem hang_elds {A B : List Nat} {off : Nat} (hA : Dok A) (hB : Dok B) (ho : off ≤ opn A A.length) {top : Int} (ht : (way A A.length)[off]? = some top) :
    elds (hang A B off) = elds A ++ (elds B).map fun e => if e < 0 then top else e + (A.length : Int) := by
  refine List.ext_getElem? fun k => ?_
  by_cases h : k < A.length
  · rw [elds_at (by rw [hang_len]; omega), List.getElem?_append_left (by rw [elds_len]; exact h), elds_at h]
    unfold eld
    rw [hang_way k (by omega), hang_old h]
  · by_cases h2 : k < A.length + B.length
    · obtain ⟨j, rfl⟩ : ∃ j, k = A.length + j := ⟨k - A.length, by omega⟩
      rw [elds_at (by rw [hang_len]; omega), List.getElem?_append_right (by rw [elds_len]; omega), elds_len, Nat.add_sub_cancel_left, List.getElem?_map, elds_at (by omega)]
      show some _ = some _
      rw [hang_eld hA hB ho (by omega) ht]
    · rw [List.getElem?_eq_none (by rw [elds_len, hang_len]; omega), List.getElem?_eq_none (by rw [List.length_append, List.length_map, elds_len, elds_len]; omega)]
theorem way_last {A : List Nat} (hA : Dok A) (h : 0 < A.length) : (way A A.length)[opn A A.length]? = some ((A.length : Int) - 1) := by
  obtain ⟨n, hn⟩ : ∃ n, A.length = n + 1 := ⟨A.length - 1, by omega⟩
  have hl := way_len hA n (by omega)
  have hd := hA n (by omega)
  rw [hn]
  show ((way A n).take (dAt A n + 1) ++ [(n : Int)])[dAt A n + 1]? = _
  rw [List.getElem?_append_right (by rw [List.length_take]; omega), List.length_take, Nat.min_eq_left (by omega), Nat.sub_self]
  show some (n : Int) = some (((n + 1 : Nat) : Int) - 1)
  congr 1
  omega
end TW
end

section
set_option Elab.async false
set_option linter.all false
set_option maxRecDepth 100000
set_option maxHeartbeats 4000000
namespace L2
open PySem PySem.Spec PyProof.Rows
end L2
end

section
set_option Elab.async false
set_option linter.all false
set_option maxRecDepth 100000
set_option maxHeartbeats 4000000
namespace L2
open PySem PySem.Spec PyProof.Rows
def FlyD (B : Heap) (l : List Env) (e : Addr) (cls a0 : Value) (od : Option Addr) (h : Heap) : Prop := Heap.FlyingW B l e cls a0 h ∧ ∃ o, h.get? e = some o ∧ o.dict = od
theorem FlyD.first {B h : Heap} {l : List Env} {e : Addr} {cls a0 : Value} {od : Option Addr} (x : FlyD B l e cls a0 od h) : ∃ oe vs, h.get? e = some oe ∧ oe.cls = cls ∧ oe.data = .fields vs ∧ oe.dict = od := by
  obtain ⟨f, o, ho, hd⟩ := x
  obtain ⟨oe, vs, he, hc, hv, _⟩ := f.first
  rw [ho] at he
  cases he
  exact ⟨o, vs, ho, hc, hv, hd⟩
end L2
namespace L2
open PySem PySem.Spec PyProof.Rows
theorem ObjOk.there {P : Program} {w : World} {H : Hp} {h : Heap} {a : Addr} {o : HO} (x : ObjOk P w H h a o) : ∃ ob, h.get? a = some ob := by
  cases o with
  | lst xs => obtain ⟨_, _, _, _, e⟩ := x; exact ⟨_, e⟩
  | tup xs => obtain ⟨_, _, _, o, e, _⟩ := x; exact ⟨_, e⟩
  | dK kvs => obtain ⟨_, _, _, _, o, _, _, e, _⟩ := x; exact ⟨_, e⟩
  | dT kvs => obtain ⟨_, _, _, _, o, _, _, e, _⟩ := x; exact ⟨_, e⟩
  | set S n => obtain ⟨o, _, _, _, e, _⟩ := x; exact ⟨_, e⟩
  | ins C dx fs => obtain ⟨_, _, _, e, _⟩ := x; exact ⟨_, e⟩
  | own y => exact x
  | xd fs => obtain ⟨_, ⟨_, _, _, e, _⟩, _⟩ := x; exact ⟨_, e⟩
  | rng lo hi => obtain ⟨_, _, _, e⟩ := x; exact ⟨_, e⟩
  | frz ob u => obtain ⟨e, _⟩ := x; exact ⟨_, e⟩
  | tbl ps => exact ⟨_, (show h.get? a = some _ from x)⟩
  | met f y => exact ⟨_, (show h.get? a = some _ from x)⟩
  | ext φ => obtain ⟨_, e, _⟩ := x; exact e
end L2
namespace L2
open PySem PySem.Spec PyProof.Rows
theorem ix_tupK (K : PySem.W.Frag) {X : Cx} (h : X.K = K := by rfl) : IxR X (rIxT K) := by
  subst h
  exact ix_tup
theorem ix_listK (K : PySem.W.Frag) {X : Cx} (h : X.K = K := by rfl) : IxR X (rIxL K) := by
  subst h
  exact ix_list
end L2
namespace L2
open PySem PySem.Spec PySem.W PyProof.Rows Builtin.Getset_descriptor
structure ExcK (K : PySem.W.Frag) (D : Addr) : Prop where
  ga : findIn K (.ref D) "__getattribute__" = some (some (.builtin "BaseException.__getattribute__"))
  gx : findIn K (.ref D) "__getattr__" = some none
  ca : findIn K (.ref D) "__class__" = some (some (.builtin "object.__class__"))
  sp : specialIn K (.builtin "object.__class__") "__get__" = some (some (.builtin "getset_descriptor.__get__"))
  tk : takesIn K (.builtin "object.__class__") = some true
  mo : mroIn K D (.type "object") = some true
  mb : mroIn K D (.type "BaseException") = some true
theorem ExcK.cl {K : PySem.W.Frag} {D : Addr} (Z : ExcK K D) : (clsIn K D).isSome = true := by
  obtain ⟨cd, a, _⟩ := Option.bind_eq_some_iff.mp Z.mo
  rw [a]
  rfl
end L2
namespace L2
open PySem PySem.Spec PyProof.Rows
end L2
end

section
set_option Elab.async false
set_option linter.all false
set_option maxRecDepth 100000
set_option maxHeartbeats 4000000
namespace L2
open PySem PySem.Spec PySem.W PyProof.Rows
end L2
end

section
set_option Elab.async false
set_option linter.all false
set_option maxRecDepth 100000
set_option maxHeartbeats 4000000
namespace L2
open PySem PySem.Spec PySem.W PyProof.Rows
end L2
end

section
set_option Elab.async false
set_option linter.all false
set_option maxRecDepth 100000
set_option maxHeartbeats 4000000
namespace L2
open PySem PySem.Spec PyProof.Rows
section
variable {X : Cx}
def rCountV : V → List V → Hp → VK → Prop := fun x vs H Q => ∃ (l : Addr) (xs : List V) (y : V), x = .ref l ∧ vs = [y] ∧ H l = some (.lst xs) ∧ xs.all flatV = true ∧ flatV y = true ∧ Q (.int (xs.countP (fun z => eqV z y) : Nat)) H
theorem countP_eqU {y : V} : ∀ {xs : List V} {us : List Value}, Vals xs us → xs.all flatV = true → us.countP (eqU y) = xs.countP fun z => eqV z y
  | _, _, .nil, _ => rfl
  | x :: xs, u :: us, .cons r t, f => by
    rw [List.all_cons, Bool.and_eq_true] at f
    rw [List.countP_cons, List.countP_cons, countP_eqU t f.2, eqU_of r f.1]
theorem mt_countB : MtM X "list.count" rCountV := by
  intro pins s σ H x vs v us Q I rx rv h
  obtain ⟨l, xs, y, rfl, rfl, hH, hf, hy, q⟩ := h
  cases rx
  obtain ⟨u, rfl, ru⟩ := vals1 rv
  obtain ⟨z, its, n, r, hl, e⟩ := I.lstM hH
  refine call_meets F.slot_list_count ⟨_, e, rfl⟩ F.entry_list_count (F.args_list_count_2 _ _) (SeqAt.list_countAt l its.toArray n none #[] u (eqU y)) ⟨e, fun w hw => mem_eqAt ru hy r hf w (by simpa using hw), ?_⟩
  rw [show its.toArray.toList = its from rfl, countP_eqU r hf]
  exact ⟨.int _, H, I.tok _, ⟨_, rfl⟩, q⟩
end
theorem call_isinK (K : PySem.W.Frag) {X : Cx} (h : X.K = K := by rfl) : CallR X (.builtin "isinstance") (rIsi K) := by
  subst h
  exact call_isinst
end L2
end

section
set_option Elab.async false
set_option linter.all false
set_option maxRecDepth 100000
set_option maxHeartbeats 4000000
namespace L2
open PySem PySem.Spec PyProof.Rows
end L2
end

section
set_option Elab.async false
set_option linter.all false
set_option maxRecDepth 100000
set_option maxHeartbeats 4000000
namespace L2
open PySem PySem.Spec PyProof.Rows
end L2
end

section
set_option Elab.async false
set_option linter.all false
set_option maxRecDepth 100000
set_option maxHeartbeats 4000000
namespace L2
open PySem PySem.Spec PyProof.Rows
end L2
end

section
set_option Elab.async false
set_option linter.all false
set_option maxRecDepth 100000
set_option maxHeartbeats 4000000
namespace L2
open PySem PySem.Spec PyProof.Rows
end L2
end

section
set_option Elab.async false
set_option linter.all false
set_option maxRecDepth 100000
set_option maxHeartbeats 4000000
namespace L2
open PySem PySem.Spec PyProof.Rows

end L2
end

section
set_option Elab.async false
set_option linter.all false
set_option maxRecDepth 100000
set_option maxHeartbeats 4000000
namespace L2
open PySem PySem.Spec PyProof.Rows
end L2
namespace L2
open PySem PySem.Spec PyProof.Rows
end L2
end

section
set_option Elab.async false
set_option linter.all false
set_option maxRecDepth 100000
set_option maxHeartbeats 4000000
namespace L2
open PySem PySem.Spec PyProof.Rows
section
variable {κ : Type} [DecidableEq κ]
def valV (kvs : List (κ × V)) (k : κ) : Option V := (kvs.find? fun kv => decide (kv.1 = k)).map (·.2)
def putK (kvs : List (κ × V)) (k : κ) (v : V) : List (κ × V) :=
  if (kvs.any fun kv => decide (kv.1 = k)) = true then kvs.map (fun kv => if kv.1 = k then (kv.1, v) else kv) else kvs ++ [(k, v)]
theorem RelO.getD {o : Option V} {u : Option Value} {d : V} {d' : Value} (r : RelO o u) (rd : RelV d d') : RelV (o.getD d) (u.getD d') := by
  cases o with
  | none => cases u with
    | none => exact rd
    | some _ => exact (show False from r).elim
  | some _ => cases u with
    | none => exact (show False from r).elim
    | some _ => exact r

theorem KV.length {kvs : List (κ × V)} {vs : List (κ × Value)} (r : KV kvs vs) : kvs.length = vs.length := Paired.length r
end


abbrev KT (H : Hp) : List (List Key × V) → List (List Key × Addr × Value) → Prop := Paired fun p q => p.1 = q.1 ∧ H q.2.1 = some (.tup (p.1.map kV)) ∧ RelV p.2 q.2.2
theorem KT.keeps {H H' : Hp} {kvs : List (List Key × V)} {xs : List (List Key × Addr × Value)} (r : KT H kvs xs) (ht : ∀ b ys, H b = some (.tup ys) → H' b = some (.tup ys)) : KT H' kvs xs :=
  Paired.mapP r fun _ _ z => ⟨z.1, ht _ _ z.2.1, z.2.2⟩


def DGet (H : Hp) (a : Addr) (y : V) (r : Option V) : Prop :=
  (∃ kvs k, Rd H a (.dK kvs) ∧ y = kV k ∧ r = valV kvs k) ∨ ∃ kvs k b, Rd H a (.dT kvs) ∧ y = .ref b ∧ H b = some (.tup (k.map kV)) ∧ r = valV kvs k
def DPut (H : Hp) (a : Addr) (y v : V) (H' : Hp) : Prop :=
  (∃ kvs k, H a = some (.dK kvs) ∧ y = kV k ∧ kvs.length < sizeLine ∧ H' = upd H a (.dK (putK kvs k v))) ∨
  ∃ kvs k b, H a = some (.dT kvs) ∧ y = .ref b ∧ H b = some (.tup (k.map kV)) ∧ kvs.length < sizeLine ∧ H' = upd H a (.dT (putK kvs k v))
theorem DGet.k {H : Hp} {a : Addr} {kvs : List (Key × V)} {k : Key} (e : H a = some (.dK kvs)) : DGet H a (kV k) (valV kvs k) := .inl ⟨kvs, k, .inl e, rfl, rfl⟩
theorem DGet.t {H : Hp} {a b : Addr} {kvs : List (List Key × V)} {k : List Key} (e : H a = some (.dT kvs)) (eb : H b = some (.tup (k.map kV))) : DGet H a (.ref b) (valV kvs k) := .inr ⟨kvs, k, b, .inl e, rfl, eb, rfl⟩
theorem DPut.k {H : Hp} {a : Addr} {kvs : List (Key × V)} {k : Key} {v : V} (e : H a = some (.dK kvs)) (hl : kvs.length < sizeLine) : DPut H a (kV k) v (upd H a (.dK (putK kvs k v))) := .inl ⟨kvs, k, e, rfl, hl, rfl⟩
theorem DPut.t {H : Hp} {a b : Addr} {kvs : List (List Key × V)} {k : List Key} {v : V} (e : H a = some (.dT kvs)) (eb : H b = some (.tup (k.map kV))) (hl : kvs.length < sizeLine) :
    DPut H a (.ref b) v (upd H a (.dT (putK kvs k v))) := .inr ⟨kvs, k, b, e, rfl, eb, hl, rfl⟩


section
variable {X : Cx} {pins : List (Addr × Obj)} {σ : St} {H : Hp} {s : Shared} {a : Addr} {y v : V} {u r : Value} {o : Option V} {A : Around} {E : Value → Shared → Prop}

end





end L2
end

section
set_option Elab.async false
set_option linter.all false
namespace TW
def nx (ns : List Nat) (x : Nat) : Nat := ns[x]?.getD 0
end TW
end

section
set_option Elab.async false
set_option linter.all false
set_option maxRecDepth 100000
set_option maxHeartbeats 4000000
namespace L2
open PySem PySem.Spec PyProof.Rows
end L2
end

section
set_option Elab.async false
set_option linter.all false
set_option maxRecDepth 100000
set_option maxHeartbeats 4000000
namespace L2
open PySem PySem.Spec PyProof.Rows
end L2
end

section
set_option Elab.async false
set_option linter.all false
set_option maxRecDepth 100000
set_option maxHeartbeats 4000000
namespace L2
open PySem PySem.Spec PyProof.Rows TW
def both (N H : Hp) : Hp := fun b => match N b with | some o => some o | none => H b
theorem both_new {N H : Hp} {b : Addr} {o : HO} (h : N b = some o) : both N H b = some o := by unfold both; rw [h]
theorem both_old {N H : Hp} {b : Addr} (h : N b = none) : both N H b = H b := by unfold both; rw [h]
def TupsAt (H : Hp) (as : List Addr) (qs : List (Int × Int)) : Prop := as.length = qs.length ∧ ∀ (i : Nat) a q, as[i]? = some a → qs[i]? = some q → H a = some (.tup [.int q.1, .int q.2])
theorem TupsAt.same {H H' : Hp} {as : List Addr} {qs : List (Int × Int)} (h : TupsAt H as qs) (s : Same H H') : TupsAt H' as qs := ⟨h.1, fun i a q e1 e2 => s _ _ (h.2 i a q e1 e2)⟩
end L2
end

section
set_option Elab.async false
set_option linter.all false
set_option maxRecDepth 100000
set_option maxHeartbeats 4000000
namespace L2
open PySem PySem.Spec PyProof.Rows
end L2
end

section
set_option Elab.async false
set_option linter.all false
set_option maxRecDepth 100000
set_option maxHeartbeats 4000000
namespace L2
open PySem PySem.Spec PyProof.Rows
def CodeObj (oc : Obj) (qual : Str) : Prop := ∃ vs t, oc.data = .fields vs ∧ vs[1]? = some (.str qual t)
def TabOk (H : Hp) (P : Addr) (pos : Pos) (qual : Str) : Prop := ∃ ps : Array Value, H P = some (.tbl ps) ∧ TriplesOk ps.toList ∧ (codeAmong pos ps.toList = none ∨ ∃ c' oc, codeAmong pos ps.toList = some (.ref c') ∧ H c' = some (.frz oc (.own 0)) ∧ CodeObj oc qual)
section
variable {X : Cx} {pins : List (Addr × Obj)} {σ : St} {H : Hp} {s : Shared}
theorem Inv.grown {P : Addr} {ps more : Array Value} {N : Hp} {h' : Heap} {t' : Nat} (I : Inv X pins σ H s) (hP : H P = some (.tbl ps)) (k : ∀ b u, b ≠ P → s.heap.get? b = some u → h'.get? b = some u) (hT : h'.get? P = some (PySem.W.tabObj (ps ++ more)))
    (hp : ∀ b o, N b = some o → s.heap.objs.size ≤ b) (new : ∀ b o, N b = some o → ObjOk X.prog X.w (both N (upd H P (.tbl (ps ++ more)))) h' b o) : Inv X pins σ (both N (upd H P (.tbl (ps ++ more)))) { s with heap := h', toks := t' } := by
  have hlt : P < s.heap.objs.size := (I.hok P _ hP).lt
  have hNP : N P = none := by
    cases e : N P with
    | none => rfl
    | some o => exact absurd hlt (Nat.not_lt.mpr (hp P o e))
  have hn : ∀ b o, N b = some o → H b = none := fun b o e => I.hok.fresh (hp b o e)
  have old : ∀ b u, s.heap.get? b = some u → N b = none := fun b u e => by
    cases hN : N b with
    | none => rfl
    | some o => exact absurd (Heap.lt_size e) (Nat.not_lt.mpr (hp b o hN))
  have sm : ∀ b o, b ≠ P → H b = some o → both N (upd H P (.tbl (ps ++ more))) b = some o := fun b o hb e => by
    have : N b = none := by
      cases hN : N b with
      | none => rfl
      | some u => rw [hn b u hN] at e; cases e
    rw [both_old this, upd_ne hb]
    exact e
  have neP : ∀ b, H b = none → b ≠ P := fun b e z => by rw [z, hP] at e; cases e
  refine I.un ⟨fun b u q n _ _ => k b u (neP b n) q, fun b u q n _ _ => ⟨u.slots, k b u (neP b n) q⟩, fun b u q n _ => by rw [both_old (old b u q), upd_ne (neP b n)]; exact n, fun b u q _ => ?_, fun b xs q => sm _ _ (fun z => by rw [z, hP] at q; cases q) q, fun b u xs q => sm _ _ (fun z => by rw [z, hP] at q; cases q) q, fun b qs q => ?_⟩ fun b o e => ?_
  · by_cases hb : b = P
    · rw [hb]; exact ⟨_, hT⟩
    · exact ⟨u, k b u hb q⟩
  · by_cases hb : b = P
    · rw [hb, hP] at q
      cases q
      exact ⟨more, by rw [hb, both_old hNP, upd_same]⟩
    · exact ⟨#[], by rw [sm b _ hb q]; simp⟩
  · cases hN : N b with
    | some u =>
      rw [both_new hN] at e
      cases e
      exact new b _ hN
    | none =>
      rw [both_old hN] at e
      by_cases hb : b = P
      · rw [hb, upd_same] at e
        cases e
        rw [hb]
        exact hT
      · rw [upd_ne hb] at e
        refine (I.hok b o e).stay (fun c v hc q => k c v (fun z => ?_) q) (fun c q => sm _ _ (fun z => by rw [z, hP] at q; cases q) q) fun c xs q => sm _ _ (fun z => by rw [z, hP] at q; cases q) q
        rcases hc with h | h
        · exact hb (h ▸ z)
        · rw [z, hP] at h; cases h
end
end L2
end

section
set_option Elab.async false
set_option linter.all false
set_option maxRecDepth 100000
set_option maxHeartbeats 4000000
namespace L2
open PySem PySem.Spec PyProof.Rows
def SameX (P : Addr) (H H' : Hp) : Prop := ∀ b u, b ≠ P → H b = some u → H' b = some u
section
variable {X : Cx} {pins : List (Addr × Obj)} {σ : St} {H : Hp} {s : Shared} {M : Model} {A : Around} {E : Value → Shared → Prop} {Q : Value → Shared → Prop} {c P : Addr} {pos : Pos} {qual : Str} {params : Arguments} {body : Expr} {scope : Scope} {clos : List (Str × Addr)}
theorem lam_make (I : Inv X pins σ H s) (T : TabOk H P pos qual) (C : PySem.W.CodeHd X.base c P) (hb : X.base.BuiltinsAt X.mg P) (hcode : X.env.code = .ref c) (hcl : closureFor scope X.env = pure clos) (hdef : defaultsOf params X.env = ([], [])) (hq : X.env.qual ++ "<lambda>" = qual)
    (h : ∀ (f c' : Addr) (oc : Obj) (pm ctv : Value) (s' : Shared) (H' : Hp), Inv X pins σ H' s' → TabOk H' P pos qual → SameX P H H' → H f = none → H' f = some (.frz (PySem.W.kla_obj "<lambda>" qual params body scope clos pm c' ctv) (.own 0)) → H' c' = some (.frz oc (.own 0)) → CodeObj oc qual → Q (.ref f) s') :
    wpAny M A (eval (.Lambda params body scope pos) X.env) Q E s := by
  obtain ⟨ps, hP, ht, hc⟩ := T
  refine PySem.W.kla_eval hdef ?_
  rw [hq]
  have hPs : s.heap.get? P = some (PySem.W.tabObj ps) := I.hok P _ hP
  have hg : s.heap.Ns mainGlobals X.mg := I.mod.glob.keeps I.bk
  have hgP : mainGlobals ≠ P := fun e => by
    obtain ⟨o, es, ep, e1, d, _⟩ := I.mod.glob
    have := (I.bs _ _ e1).2
    rw [e, hP] at this; cases this
  have hb' : s.heap.BuiltinsAt X.mg P := by
    obtain ⟨bm, o, a1, a2, a3, a4, a5, a6⟩ := hb
    exact ⟨bm, o, a1, a2, a3, a4, I.bk _ _ a5, a6⟩
  rcases hc with hc | ⟨c', oc, hc, hc', ho⟩
  · refine PySem.W.kla_makeFunction hcl I.ok.glob hg hcode (C.keeps I.bk) hPs ht hc hgP hb' fun c' ctv h' tk hx hge hlt hrec htb => ?_
    obtain ⟨c₂, oc, vs, t, e2, hoc, hd, hv⟩ := hrec
    cases e2
    let fo := PySem.W.kla_obj "<lambda>" qual params body scope clos ((X.mg "__name__").getD .none) c' ctv
    let N : Hp := fun b => if b = h'.objs.size then some (.frz fo (.own 0)) else if b = c' then some (.frz oc (.own 0)) else none
    have n1 : N h'.objs.size = some (.frz fo (.own 0)) := if_pos rfl
    have n2 : N c' = some (.frz oc (.own 0)) := (if_neg (Nat.ne_of_lt hlt)).trans (if_pos rfl)
    have n3 : ∀ b o, N b = some o → (b = h'.objs.size ∧ o = .frz fo (.own 0)) ∨ (b = c' ∧ o = .frz oc (.own 0)) := fun b o e => by
      by_cases h1 : b = h'.objs.size
      · rw [h1, n1] at e; cases e; exact .inl ⟨h1, rfl⟩
      · by_cases h2 : b = c'
        · rw [h2, n2] at e; cases e; exact .inr ⟨h2, rfl⟩
        · have : N b = none := (if_neg h1).trans (if_neg h2)
          rw [this] at e; cases e
    have hp : ∀ b o, N b = some o → s.heap.objs.size ≤ b := fun b o e => by
      rcases n3 b o e with ⟨r, _⟩ | ⟨r, _⟩ <;> rw [r]
      · exact Nat.le_trans hge (Nat.le_of_lt hlt)
      · exact hge
    have hNP : N P = none := by
      cases e : N P with
      | none => rfl
      | some o => exact absurd (I.hok P _ hP).lt (Nat.not_lt.mpr (hp P o e))
    have gf : (h'.push fo).get? h'.objs.size = some fo := Heap.get?_push_size _ rfl
    have gc : (h'.push fo).get? c' = some oc := Heap.get?_push_of_some _ hoc
    have I' := Inv.grown (N := N) (more := #[PySem.rawInt pos.line, PySem.rawInt pos.col, .ref c']) (h' := h'.push fo) (t' := tk) I hP (fun b u hb e => Heap.get?_push_of_some _ (hx b u hb e)) (Heap.get?_push_of_some _ htb) hp fun b o e => by
      rcases n3 b o e with ⟨r, r'⟩ | ⟨r, r'⟩ <;> rw [r, r']
      · exact ⟨gf, _, gf⟩
      · exact ⟨gc, _, gc⟩
    refine h _ c' oc _ ctv _ _ I' ⟨_, by rw [both_old hNP, upd_same], ?_, .inr ⟨c', oc, ?_, both_new n2, vs, t, hd, hv⟩⟩ (fun b u hb e => ?_) (I.hok.fresh (hp _ _ n1)) (both_new n1) (both_new n2) ⟨vs, t, hd, hv⟩
    · rw [Array.toList_append]; exact TriplesOk_snoc _ _ _ _ ht
    · rw [Array.toList_append]; exact codeAmong_snoc _ ht hc
    · have : N b = none := by
        cases hN : N b with
        | none => rfl
        | some o => rw [I.hok.fresh (hp b o hN)] at e; cases e
      rw [both_old this, upd_ne hb]; exact e
  · refine PySem.W.kla_makeFunctionHit hcl I.ok.glob hg hcode (C.keeps I.bk) hPs ht hc hb' fun ctv h' tk hk hsz => ?_
    let fo := PySem.W.kla_obj "<lambda>" qual params body scope clos ((X.mg "__name__").getD .none) c' ctv
    let N : Hp := fun b => if b = h'.objs.size then some (.frz fo (.own 0)) else none
    have n1 : N h'.objs.size = some (.frz fo (.own 0)) := if_pos rfl
    have n3 : ∀ b o, N b = some o → b = h'.objs.size ∧ o = .frz fo (.own 0) := fun b o e => by
      by_cases h1 : b = h'.objs.size
      · rw [h1, n1] at e; cases e; exact ⟨h1, rfl⟩
      · have : N b = none := if_neg h1
        rw [this] at e; cases e
    have hp : ∀ b o, N b = some o → s.heap.objs.size ≤ b := fun b o e => by rw [(n3 b o e).1]; exact hsz
    have hn : ∀ b u, H b = some u → N b = none := fun b u e => by
      cases hN : N b with
      | none => rfl
      | some o => rw [I.hok.fresh (hp b o hN)] at e; cases e
    have gf : (h'.push fo).get? h'.objs.size = some fo := Heap.get?_push_size _ rfl
    have I' := Inv.grown (N := N) (more := #[]) (h' := h'.push fo) (t' := tk) I hP (fun b u _ e => Heap.get?_push_of_some _ (hk b u e)) (by rw [Array.append_empty]; exact Heap.get?_push_of_some _ (hk _ _ hPs)) hp fun b o e => by
      rw [(n3 b o e).1, (n3 b o e).2]; exact ⟨gf, _, gf⟩
    rw [Array.append_empty] at I'
    have old : ∀ b u, b ≠ P → H b = some u → both N (upd H P (.tbl ps)) b = some u := fun b u hb e => by rw [both_old (hn b u e), upd_ne hb]; exact e
    have hcP : c' ≠ P := ne_of hc' hP (by intro q; cases q)
    exact h _ c' oc _ ctv _ _ I' ⟨ps, by rw [both_old (hn P _ hP), upd_same], ht, .inr ⟨c', oc, hc, old _ _ hcP hc', ho⟩⟩ old (I.hok.fresh (hp _ _ n1)) (both_new n1) (old _ _ hcP hc') ho
end
end L2
end

section
set_option Elab.async false
set_option linter.all false
set_option maxRecDepth 100000
set_option maxHeartbeats 4000000
namespace L2
open PySem PySem.Spec PyProof.Rows
end L2
end

section
set_option Elab.async false
set_option linter.all false
set_option maxRecDepth 100000
set_option maxHeartbeats 4000000
namespace L2
open PySem PySem.Spec PySem.W PyProof.Rows TW
end L2
end

section
set_option Elab.async false
set_option linter.all false
set_option maxRecDepth 100000
set_option maxHeartbeats 4000000
namespace L2
open PySem PySem.Spec PySem.W PyProof.Rows TW
end L2
end

section
set_option Elab.async false
set_option linter.all false
set_option maxRecDepth 100000
set_option maxHeartbeats 4000000
namespace L2
open PySem PySem.Spec PySem.W PyProof.Rows TW
end L2
end

section
set_option Elab.async false
set_option linter.all false
set_option maxRecDepth 100000
set_option maxHeartbeats 4000000
namespace L2
open PySem PySem.Spec PySem.W PyProof.Rows TW
end L2
end

section
set_option Elab.async false
set_option linter.all false
set_option maxRecDepth 100000
set_option maxHeartbeats 4000000
namespace L2
open PySem PySem.Spec PySem.W PyProof.Rows TW
end L2
end

section
set_option Elab.async false
set_option linter.all false
set_option maxRecDepth 100000
set_option maxHeartbeats 4000000
namespace L2
open PySem PySem.Spec PyProof.Rows
def CodeHdO (o : Obj) (c P : Addr) : Prop := ∃ vs file tf flags tg inF text tt, o.cls = .type "code" ∧ o.data = .fields vs ∧ vs[11]? = some (.ref P) ∧ vs.getD 11 .none = .ref P ∧ vs.getD 18 .none = .str file tf ∧
    vs.getD 7 .none = .int flags tg ∧ vs.getD 9 .none = .bool inF ∧ vs.getD 10 .none = .int text tt ∧ c ≠ P
theorem CodeHdO.at {h : Heap} {o : Obj} {c P : Addr} (x : CodeHdO o c P) (e : h.get? c = some o) : PySem.W.CodeHd h c P := by
  obtain ⟨vs, file, tf, flags, tg, inF, text, tt, a1, a2, a3, a4, a5, a6, a7, a8, a9⟩ := x
  exact ⟨o, vs, file, tf, flags, tg, inF, text, tt, e, a1, a2, a3, a4, a5, a6, a7, a8, a9⟩
theorem law_callT2 {P : Program} {w : World} {K : PySem.W.Frag} {mg mb : Str → Option Value} {CX : CXT} {k : Nat} {fa a : Addr} {fd : FuncData} {x : Str} {sp : Sp} {s₁ : Shared} {vs : List Value} {ns : List Int} {tabs : List (Addr × Addr)}
    (hT : PySem.W.TabsAt tabs s₁.heap) (hTK : ∀ q ∈ tabs, K.lookup q.2 = none) (hB : ∃ bm ob, mg "__builtins__" = some (.ref bm) ∧ bm ≠ builtinsNs ∧ s₁.heap.get? bm = some ob ∧ ob.cls = .type "module" ∧ ob.dict = some builtinsNs ∧ ob.data = .plain) (KX : K.In s₁.heap) (hns : s₁.heap.Ns mainGlobals mg) (hb : s₁.heap.Ns builtinsNs mb) (hbb : ∀ x : Str, x ≠ "__name__" → mb x = bootBuiltins x) (hlim : s₁.heap.NoLimit) (hg : s₁.gens = #[])
    (ha : s₁.heap.get? a = some { cls := .type "list", data := .seq vs.toArray }) (hi : IntsAre vs ns) (hl : ns.length ≤ sizeLine) (hr : Room k callerA)
    (F : ∀ base : Heap, K.In base → base.Ns mainGlobals mg → (∀ q ∈ tabs, base.BuiltinsAt mg q.2) → FnOk P w K mg base CX k fa fd [x] sp) (hbind : ∀ (s : Shared) (u : Value), BindsTo s fd ⟨[u], []⟩ [(x, u)])
    (hsp : ∀ H : Hp, (∀ q ∈ tabs, H q.2 = some (.tbl #[])) → SqL K H a (ns.map V.int) → sp [.ref a] H (fun v _ => v = .bl true) fun _ _ _ => False)
    (hCX : ∀ H e s', CX [] H s₁ (fun _ _ _ => False) e s' → False) :
    codeAny (model P w) callerA (.call (.ref fa) ⟨[.ref a], []⟩) (fun r s' => r = .ok (.ret (.bool true)) ∧ OldK s₁.heap s'.heap ∧ s'.os = s₁.os ∧ AllBare s'.gens) s₁ := by
  have rv := vals_ints hi
  have tabAt : ∀ b, b ∈ tabs.map (·.2) → s₁.heap.get? b = some (PySem.W.tabObj #[]) ∧ K.lookup b = none ∧ isCodeTable s₁.heap b := fun b hm => by
    obtain ⟨q, hq, rfl⟩ := List.mem_map.mp hm
    exact ⟨(hT q hq).2, hTK q hq, ((hT q hq).1.tab (hT q hq).2).isCodeTable⟩
  have haT : a ∉ tabs.map (·.2) := fun hm => by
    have := (tabAt a hm).1
    rw [ha] at this
    cases this
  let H : Hp := fun b => if b ∈ tabs.map (·.2) then some (.tbl #[]) else if b = a ∧ K.lookup a = none then some (.frz { cls := .type "list", data := .seq vs.toArray } (.lst (ns.map V.int))) else none
  have H1 : ∀ b, b ∈ tabs.map (·.2) → H b = some (.tbl #[]) := fun b hm => if_pos hm
  have H2 : ∀ b, b ∉ tabs.map (·.2) → ¬ (b = a ∧ K.lookup a = none) → H b = none := fun b h1 h2 => (if_neg h1).trans (if_neg h2)
  have H3 : K.lookup a = none → H a = some (.frz { cls := .type "list", data := .seq vs.toArray } (.lst (ns.map V.int))) := fun h => (if_neg haT).trans (if_pos ⟨rfl, h⟩)
  have cases3 : ∀ b, (b ∈ tabs.map (·.2)) ∨ (b = a ∧ K.lookup a = none ∧ b ∉ tabs.map (·.2)) ∨ (H b = none) := fun b => by
    by_cases h1 : b ∈ tabs.map (·.2)
    · exact .inl h1
    · by_cases h2 : b = a ∧ K.lookup a = none
      · exact .inr (.inl ⟨h2.1, h2.2, h1⟩)
      · exact .inr (.inr (H2 b h1 h2))
  have hok : HOk P w H s₁.heap := fun b o e => by
    rcases cases3 b with h | ⟨rfl, h1, _⟩ | h
    · rw [H1 b h] at e
      cases e
      exact (tabAt b h).1
    · rw [H3 h1] at e
      cases e
      exact ⟨ha, by rw [List.length_map]; exact hl, vs, _, rv, ha⟩
    · rw [h] at e
      cases e
  have noD : ∀ {b : Addr} {o : Obj} {es : Array DictEntry} {ep : Nat}, s₁.heap.get? b = some o → o.data = .dict es ep → H b = none := fun {b o es ep} e d => by
    rcases cases3 b with h | ⟨rfl, _, _⟩ | h
    · rw [(tabAt b h).1] at e
      cases e
      have d' : Data.fields #[] = Data.dict es ep := d
      cases d'
    · rw [ha] at e
      cases e
      have d' : Data.seq vs.toArray _ = Data.dict es ep := d
      cases d'
    · exact h
  have nsK : ∀ {b : Addr} {m : Str → Option Value}, s₁.heap.Ns b m → (hidT s₁.heap H).Ns b m := fun {b m} ⟨o, es, ep, e, d, r⟩ => ⟨o, es, ep, hidT_get e (noD e d), d, r⟩
  have hKb : K.In (hidT s₁.heap H) := fun b o e => hidT_get (KX b o e) (by
    rcases cases3 b with h | ⟨rfl, h1, _⟩ | h
    · rw [(tabAt b h).2.1] at e; cases e
    · rw [h1] at e; cases e
    · exact h)
  have hBa : ∀ q ∈ tabs, (hidT s₁.heap H).BuiltinsAt mg q.2 := fun q hq => by
    obtain ⟨bm, ob, b1, b2, b3, b4, b5, b6⟩ := hB
    have n1 : bm ≠ mainGlobals := fun z => by
      obtain ⟨o, es, ep, e, d, _⟩ := hns
      rw [z, e] at b3
      cases b3
      rw [d] at b6; cases b6
    have nP : bm ∉ tabs.map (·.2) := fun hm => by
      have := (tabAt bm hm).1
      rw [b3] at this
      cases this
      cases b6
    have hn : H bm = none := by
      rcases cases3 bm with h | ⟨h, _, _⟩ | h
      · exact absurd h nP
      · rw [h, ha] at b3
        cases b3
        cases b6
      · exact h
    exact ⟨bm, ob, b1, b2, n1, fun z => nP (z ▸ List.mem_map_of_mem hq), hidT_get b3 hn, b4, b5, b6⟩
  have hM : Mod K mg (hidT s₁.heap H) := ⟨hKb, nsK hns, ⟨mb, nsK hb, hbb⟩, let ⟨mc, h1, h2⟩ := hlim; ⟨mc, nsK h1, h2⟩⟩
  have e0 : Env0 P w K mg (hidT s₁.heap H) callerA [] s₁ H := ⟨rfl, hM, fun b o e => of_hidT e, Nat.le_of_eq (hidT_size _ _), trivial, fun b hb => absurd (show b ∈ ([] : List Addr) from hb) (by simp), hok, .of_eq hg⟩
  have hS : SqL K H a (ns.map V.int) := by
    cases hk : K.lookup a with
    | none => exact .inl (.inr ⟨_, H3 hk⟩)
    | some o =>
      have e := KX a o hk
      rw [ha] at e
      cases e
      exact .inr ⟨_, vs.toArray, _, hk, rfl, rfl, rfl, by rw [List.size_toArray, hi.length]; exact hl, by simpa using rv⟩
  refine codeAny_mono ((F _ hKb (nsK hns) hBa).run callerA [] s₁ H ⟨[.ref a], []⟩ [.ref a] [.ref a] _ _ hr e0 (hbind s₁ (.ref a)) (.cons rfl .nil) (hsp H (fun q hq => H1 _ (List.mem_map_of_mem hq)) hS)) fun r s' h => ?_
  cases r with
  | error e => exact (hCX H e s' h).elim
  | ok fl =>
    cases fl with
    | next => exact False.elim h
    | brk => exact False.elim h
    | cont => exact False.elim h
    | ret u =>
      obtain ⟨v, H', os, bare, un, hok', r', q⟩ := h
      have q' : v = .bl true := q
      subst q'
      obtain rfl : u = Value.bool true := r'
      have out : ∀ b o, s₁.heap.get? b = some o → (b ∈ tabs.map (·.2) ∧ ∃ more, s'.heap.get? b = some (PySem.W.tabObj more)) ∨ s'.heap.get? b = some o := fun b o e => by
        rcases cases3 b with h | ⟨rfl, h1, _⟩ | h
        · obtain ⟨more, hm⟩ := un.tbls b _ (H1 b h)
          exact .inl ⟨h, _, hok' b _ hm⟩
        · obtain ⟨e2, _⟩ := hok' _ _ (un.frzs _ _ _ (H3 h1))
          rw [ha] at e
          cases e
          exact .inr e2
        · exact .inr (un.keep b o e h (by intro z; exact absurd (show b ∈ ([] : List Addr) from z) (by simp)) (by simp))
      refine ⟨rfl, ⟨fun b o e => ?_, fun b o e => ?_⟩, os, bare⟩
      · rcases out b o e with ⟨h, more, hm⟩ | h
        · have e1 := (tabAt b h).1
          rw [e] at e1
          cases e1
          exact .inr (.inl ⟨(tabAt b h).2.2, rfl, #[], more, rfl, by rw [Array.empty_append]; exact hm⟩)
        · exact .inl h
      · rcases out b o e with ⟨_, more, hm⟩ | h
        · exact ⟨_, hm⟩
        · exact ⟨o, h⟩
theorem walk_ofT2 {l : PySem.W.OpenLaw} {n k : Nat} {q : Program} {loose : List Str} {XP : (Str → Option Value) → Heap → Prop} {YP : World → Heap → Prop} {d : DefRec} {K : Params → PySem.W.Frag} {CX : World → CXT} {sp : World → Sp} {x : Str} {tabs : List (Addr × Addr)}
    (hn : l.most = some n) (hn2 : n ≤ sizeLine) (hdf : d.params.defaults = []) (hr : Room k callerA)
    (hY : ∀ (w : World) (h : Heap), YP w h → (K w.params).In h) (hTb : ∀ (w : World) (h : Heap), YP w h → PySem.W.TabsAt tabs h) (hTK : ∀ w : World, ∀ p ∈ tabs, (K w.params).lookup p.2 = none)
    (F : ∀ (w : World) (mg : Str → Option Value) (fa : Addr) (h : Heap), (K w.params).In h → h.Ns mainGlobals mg → mg d.name = some (.ref fa) →
      ∃ fd : FuncData, (∀ (s : Shared) (u : Value), BindsTo s fd ⟨[u], []⟩ [(x, u)]) ∧
        ∀ base : Heap, (K w.params).In base → base.Ns mainGlobals mg → (∀ q ∈ tabs, base.BuiltinsAt mg q.2) → FnOk l.prog w (K w.params) mg base (CX w) k fa fd [x] (sp w))
    (hsp : ∀ (w : World) (H : Hp) (a : Addr) (ns : List Int), ns.length ≤ n → (∀ p ∈ tabs, H p.2 = some (.tbl #[])) → SqL (K w.params) H a (ns.map V.int) → sp w [.ref a] H (fun v _ => v = .bl true) fun _ _ _ => False)
    (hCX : ∀ (w : World) (H : Hp) (s : Shared) (e : Value) (s' : Shared), CX w [] H s (fun _ _ _ => False) e s' → False) :
    PySem.W.WalkO q loose XP YP l.row.toRowW d [] (fun f vs => PySem.call f vs) := by
  refine Att.attach_call hn hdf fun w s₀ s₁ mg mb fa o pm cd doc a vs ns G Y ho hd hcd hmg hobj hints hlen hg => ?_
  have KX := hY w _ Y
  obtain ⟨fd, hb, hF⟩ := F w mg fa _ KX G.T.g hmg
  exact law_callT2 (hTb w _ Y) (hTK w) G.T.bmain KX G.T.g G.T.b G.T.builtins G.T.nolimit hg hobj hints (Nat.le_trans hlen hn2) hr hF hb (fun H hO hS => hsp w H a ns hlen hO hS) fun H e s' => hCX w H s₁ e s'
structure FunL (K : PySem.W.Frag) (x qual : Str) (st : Stmt) (f : Addr) (fd : FuncData) (c P : Addr) : Prop where
  ex : ∃ (oc : Value) (od : Option Addr) (kV doc pm : Value) (an : Option Addr) (ct : Value) (osl : Array (Option Value)),
    fd = PySem.W.fnOf x qual (defArgs st) (defBody st) (defScope st) .none kV doc pm an (.ref c) ct ∧ K.lookup f = some ⟨oc, od, .func fd, osl⟩ ∧ PySem.W.codeIn K (.ref c) qual = true
  kp : PySem.W.keepIn K (.ref f) = true
  hd : ∃ oc, K.lookup c = some oc ∧ CodeHdO oc c P
section
variable {P : Program} {w : World} {K : PySem.W.Frag} {mg : Str → Option Value} {base : Heap}
theorem FunL.ok {x qual : Str} {st : Stmt} {f c Pt : Addr} {fd : FuncData} {N ps : List Str} {k : Nat} {sp : Sp} (F : FunL K x qual st f fd c Pt) (S : FnScope N ps (defScope st)) (len : ∀ vs H Q E, sp vs H Q E → vs.length = ps.length)
    (hbody : ∀ (A : Around) (outer : List Env) (s : Shared) (H : Hp) (vs : List V) (Q : VK) (E : XK), Room k (A.deeper (envOfC qual (defScope st) s.heap.objs.size f (.ref c))) → sp vs H Q E →
      ∃ t, PSs (cxOf CX0 P w K mg base N qual (defScope st) f (.ref c) A outer s H E).nox (defBody st) t ∧ t { nx := fun _ H' => Q .non H', rt := Q } (start N vs) H) : FnOk P w K mg base CX0 (k + 1) f fd ps sp := by
  obtain ⟨oc, od, kV, doc, pm, an, ct, osl, rfl, lk, hcd⟩ := F.ex
  refine fn_of lk hcd S len fun A outer s H vs Q E hr hsp => ?_
  obtain ⟨t, h, q⟩ := hbody A outer s H vs Q E hr hsp
  exact ⟨t, h.nox, q⟩
theorem FunL.code {x qual : Str} {st : Stmt} {f c Pt : Addr} {fd : FuncData} (F : FunL K x qual st f fd c Pt) (hK : K.In base) : PySem.W.CodeHd base c Pt := let ⟨oc, e, h⟩ := F.hd; h.at (hK _ _ e)
theorem FunL.binds {x qual : Str} {st : Stmt} {f c Pt : Addr} {fd : FuncData} {ps : List Str} (F : FunL K x qual st f fd c Pt)
    (h : ∀ (kV doc pm : Value) (an : Option Addr) (cdv ct : Value) (us : List Value), us.length = ps.length → bindArgs (PySem.W.fnOf x qual (defArgs st) (defBody st) (defScope st) .none kV doc pm an cdv ct) ⟨us, []⟩ = pure (ps.zip us)) : Binds K fd ps [] := by
  obtain ⟨oc, od, kV, doc, pm, an, ct, osl, rfl, lk, hcd⟩ := F.ex
  exact .all (h kV doc pm an (.ref c) ct)
theorem fun_mkL {x qual : Str} {st : Stmt} {f c Pt : Addr} {oc : Value} {od an : Option Addr} {osl : Array (Option Value)} {kV doc pm ct : Value} {oo : Obj} (l : K.lookup f = some ⟨oc, od, .func (PySem.W.fnOf x qual (defArgs st) (defBody st) (defScope st) .none kV doc pm an (.ref c) ct), osl⟩)
    (cc : PySem.W.codeIn K (.ref c) qual = true) (k : PySem.W.keepIn K (.ref f) = true) (lc : K.lookup c = some oo) (hc : CodeHdO oo c Pt) : FunL K x qual st f (PySem.W.fnOf x qual (defArgs st) (defBody st) (defScope st) .none kV doc pm an (.ref c) ct) c Pt := ⟨⟨oc, od, kV, doc, pm, an, ct, osl, rfl, l, cc⟩, k, oo, lc, hc⟩
end
end L2
end

section
set_option Elab.async false
set_option linter.all false
set_option maxRecDepth 100000
set_option maxHeartbeats 4000000
namespace L2
open PySem PySem.Spec PyProof.Rows
def InC (cl : List (Str × Addr)) (b : Addr) : Prop := ∃ x, cl.lookup x = some b
open Classical in
noncomputable def lessC (H : Hp) (cl : List (Str × Addr)) : Hp := fun b => if InC cl b then none else H b
open Classical in
noncomputable def plusC (H : Hp) (h : Heap) (cl : List (Str × Addr)) : Hp := fun b => if InC cl b then (h.get? b).map fun o => .frz o (.own 0) else H b
theorem lessC_in {H : Hp} {cl : List (Str × Addr)} {b : Addr} (h : InC cl b) : lessC H cl b = none := if_pos h
theorem lessC_out {H : Hp} {cl : List (Str × Addr)} {b : Addr} (h : ¬ InC cl b) : lessC H cl b = H b := if_neg h
theorem plusC_in {H : Hp} {h : Heap} {cl : List (Str × Addr)} {b : Addr} {o : Obj} (hb : InC cl b) (e : h.get? b = some o) : plusC H h cl b = some (.frz o (.own 0)) := by
  unfold plusC
  rw [if_pos hb, e]
  rfl
theorem plusC_out {H : Hp} {h : Heap} {cl : List (Str × Addr)} {b : Addr} (hb : ¬ InC cl b) : plusC H h cl b = H b := if_neg hb
theorem lessC_none {H : Hp} {cl : List (Str × Addr)} {b : Addr} (h : H b = none) : lessC H cl b = none := by
  by_cases hb : InC cl b
  · exact lessC_in hb
  · rw [lessC_out hb]; exact h
theorem lessC_some {H : Hp} {cl : List (Str × Addr)} {b : Addr} {o : HO} (h : lessC H cl b = some o) : ¬ InC cl b ∧ H b = some o := by
  by_cases hb : InC cl b
  · rw [lessC_in hb] at h; cases h
  · rw [lessC_out hb] at h; exact ⟨hb, h⟩
theorem lessC_ok {P : Program} {w : World} {H : Hp} {h : Heap} {cl : List (Str × Addr)} (hk : HOk P w H h) (hc : ∀ b, InC cl b → ∃ o u, H b = some (.frz o u)) : HOk P w (lessC H cl) h := fun b o e => by
  obtain ⟨hb, e⟩ := lessC_some e
  refine (hk b o e).stay (fun _ _ _ q => q) (fun c q => ?_) fun c xs q => ?_
  · rw [lessC_out fun z => ?_]
    · exact q
    · obtain ⟨o, u, e⟩ := hc c z
      rw [q] at e; cases e
  · rw [lessC_out fun z => ?_]
    · exact q
    · obtain ⟨o, u, e⟩ := hc c z
      rw [q] at e; cases e
theorem plusC_ok {P : Program} {w : World} {H : Hp} {h : Heap} {cl : List (Str × Addr)} (hk : HOk P w H h) (hn : ∀ b, InC cl b → H b = none) : HOk P w (plusC H h cl) h := fun b o e => by
  by_cases hb : InC cl b
  · unfold plusC at e
    rw [if_pos hb] at e
    cases g : h.get? b with
    | none => rw [g] at e; cases e
    | some ob =>
      rw [g] at e
      cases e
      exact ⟨g, _, g⟩
  · rw [plusC_out hb] at e
    refine (hk b o e).stay (fun _ _ _ q => q) (fun c q => ?_) fun c xs q => ?_
    · rw [plusC_out fun z => by rw [hn c z] at q; cases q]; exact q
    · rw [plusC_out fun z => by rw [hn c z] at q; cases q]; exact q
def Asks (P : Program) (w : World) (K : PySem.W.Frag) (mg : Str → Option Value) (base : Heap) (k : Nat) (H : Hp) (f : Addr) (dom : Int → Prop) (p : Int → Bool) : Prop :=
  (∃ oc od fd sl u, H f = some (.frz ⟨oc, od, .func fd, sl⟩ u)) ∧ ∀ (A : Around) (outer : List Env) (s : Shared) (H1 : Hp) (i : Int) (t : Tok), Room k A → Env0 P w K mg base A outer s H1 → Same H H1 → dom i →
    codeAny (model P w) A (.call (.ref f) ⟨[.int i t], []⟩) (CR CX0 outer P w H1 s (fun v H2 => v = .bl (p i) ∧ Same H1 H2) E0) s
theorem Asks.same {P : Program} {w : World} {K : PySem.W.Frag} {mg : Str → Option Value} {base : Heap} {k : Nat} {H H' : Hp} {f : Addr} {dom : Int → Prop} {p : Int → Bool} (a : Asks P w K mg base k H f dom p) (s : Same H H') : Asks P w K mg base k H' f dom p :=
  ⟨let ⟨oc, od, fd, sl, u, e⟩ := a.1; ⟨oc, od, fd, sl, u, s _ _ e⟩, fun A outer st H1 i t hr e0 sm hd => a.2 A outer st H1 i t hr e0 (fun b o e => sm _ _ (s _ _ e)) hd⟩
section
variable {X : Cx} {x : Str} {i : Nat} {k : Nat} {a : Expr} {ta : TE} {q pos : Pos}
def tAsk (P : Program) (w : World) (K : PySem.W.Frag) (mg : Str → Option Value) (base : Heap) (k i : Nat) (ta : TE) : TE := fun σ H Q => ∃ (f : Addr) (dom : Int → Prop) (p : Int → Bool), σ[i]? = some (some (.ref f)) ∧ Asks P w K mg base k H f dom p ∧
  ta σ H fun v H1 => tNil σ H1 fun vs H2 => ∃ z : Int, v :: vs = [.int z] ∧ Same H H2 ∧ dom z ∧ ∀ H3, Same H2 H3 → Q (.bl (p z)) H3
theorem r_ask {P : Program} {w : World} {K : PySem.W.Frag} {mg : Str → Option Value} {base : Heap} {σ : St} {H : Hp} {Q : VK} (h : ∃ (f : Addr) (dom : Int → Prop) (p : Int → Bool), σ[i]? = some (some (.ref f)) ∧ Asks P w K mg base k H f dom p ∧
  ta σ H fun v H1 => tNil σ H1 fun vs H2 => ∃ z : Int, v :: vs = [.int z] ∧ Same H H2 ∧ dom z ∧ ∀ H3, Same H2 H3 → Q (.bl (p z)) H3) : tAsk P w K mg base k i ta σ H Q := h
theorem pe_ask (hr : Room k X.A) (hN : X.N[i]? = some x) (hv : X.env.scope.names.lookup x = some .local) (ha : PE X a ta) (hdb : (x == ("__debug__" : Str)) = false := by decide) (hcd : (x == ("__classdict__" : Str)) = false := by decide)
    (he : starEach [a] X.env = [(false, eval a X.env)] := by rfl) :
    PE X (.Call (.Name x q) [a] [] pos) (tAsk X.prog X.w X.K X.mg X.base k i ta) := by
  intro pins s σ H Q I ⟨f, dom, p, hσ, hA, h⟩
  have hn : PE X (.Name x q) (tVar i) := pe_var hN (.inl hv) hdb hcd
  refine wpAny_Call_Name_kw (thn (hn pins s σ H (fun v H1 => v = .ref f ∧ H1 = H) I ⟨_, hσ, rfl, rfl⟩) fun u s0 ⟨v0, H0, I0, r0, e0, e1⟩ => ?_)
  subst e0 e1
  obtain rfl : u = Value.ref f := r0
  have fnAt : ∀ {s' : Shared} {H' : Hp}, Inv X pins σ H' s' → Same H0 H' → PySem.W.FnAt f s'.heap := fun I' sm => by
    obtain ⟨oc, od, fd, sl, u, e⟩ := hA.1
    exact ⟨oc, od, fd, sl, (I'.hok _ _ (sm _ _ e)).1⟩
  have hp : PA X [a] (tCons ta tNil) := pa_cons ha pa_nil he
  refine PySem.W.callWith_F (fnAt I0 (fun _ _ e => e)) (thn (hp pos pins s0 σ H0 (fun vs H1 => ∃ z : Int, vs = [.int z] ∧ Same H0 H1 ∧ dom z ∧ ∀ H3, Same H1 H3 → Q (.bl (p z)) H3) I0 ?_) fun us s1 ⟨vs, H1, I1, r1, z, e1, sm, hz, q1⟩ => ⟨fnAt I1 sm, ?_⟩) he rfl
  · exact h
  subst e1
  obtain ⟨u, rfl, t, rfl⟩ := vals1 r1
  refine wpAny_call (codeAny_mono (hA.2 X.A X.stack s1 H1 z t hr I1.env0 sm hz) fun r s' hq => ?_)
  cases r with
  | error e => exact hq.elim
  | ok fl =>
    cases fl with
    | ret u =>
      obtain ⟨v, H', os, bare, un, hok, r, e2, sm2⟩ := hq
      subst e2
      exact I1.after ⟨_, H', os, bare, un, hok, r, q1 _ sm2⟩
    | next => exact False.elim hq
    | brk => exact False.elim hq
    | cont => exact False.elim hq
end
abbrev envL (qual : Str) (scope : Scope) (cl : List (Str × Addr)) (C f : Addr) (cd : Value) : Env := newEnv scope C mainGlobals cl (qual ++ Str.ofString ".<locals>.") (some f) cd none builtinsNs
def cxLam (P : Program) (w : World) (K : PySem.W.Frag) (mg : Str → Option Value) (base : Heap) (N : List Str) (qual : Str) (scope : Scope) (cl : List (Str × Addr)) (f : Addr) (cd : Value) (A : Around) (outer : List Env) (s : Shared) (H : Hp) : Cx where
  prog := P
  w := w
  K := K
  mg := mg
  base := base
  A := A.deeper (envL qual scope cl s.heap.objs.size f cd)
  N := N
  s₀ := s
  H₀ := H
  env := envL qual scope cl s.heap.objs.size f cd
  outer := outer
  stack := envL qual scope cl s.heap.objs.size f cd :: outer
  ex := []
  fn := fun _ => false
  calm := true
  pn := []
  xe := fun _ _ => False
section
variable {P : Program} {w : World} {K : PySem.W.Frag} {mg : Str → Option Value} {base : Heap}
theorem inv_lam {N N₀ : List Str} {sc₀ scope : Scope} {x : Str} {ix : List Nat} {qual : Str} {cl : List (Str × Addr)} {f : Addr} {cd : Value} {A : Around} {outer : List Env} {s : Shared} {H1 : Hp} {σ : St} {h₁ : Heap} {tk : Nat} {v0 : V} {u0 : Value} {k : Nat}
    (L : LcScope N₀ sc₀ scope x N ix) (hr : Room (k + 1) A) (e0 : Env0 P w K mg base A outer s H1)
    (hinj : ∀ y z c, cl.lookup y = some c → cl.lookup z = some c → y = z) (hhas : ∀ y, (y, NameKind.free) ∈ scope.names → ∃ c, cl.lookup y = some c)
    (hcs : ∀ y c, cl.lookup y = some c → ∃ o v, H1 c = some (.frz o (.own 0)) ∧ o.data = .cell v)
    (hval : ∀ y j v, (y, j) ∈ N.tail.zip ix → σ[j]? = some (some v) → ∃ c o u, cl.lookup y = some c ∧ H1 c = some (.frz o (.own 0)) ∧ o.data = .cell (some u) ∧ RelV v u)
    (hr0 : RelV v0 u0) (hns : h₁.Ns s.heap.objs.size fun z => List.lookup z [(x, u0)].reverse) (hk : ∀ b o, s.heap.get? b = some o → h₁.get? b = some o) :
    Inv (cxLam P w K mg base N qual scope cl f cd A outer s (lessC H1 cl)) [] (some v0 :: frV σ ix) (lessC H1 cl) { s with heap := h₁, toks := tk } := by
  have noA : ∀ b : Addr, b ∉ (cxLam P w K mg base N qual scope cl f cd A outer s (lessC H1 cl)).ex := fun b z => absurd (show b ∈ ([] : List Addr) from z) (by simp)
  have kf : ∀ y, scope.names.lookup y ≠ some .cell := fun y e => L.nocell _ (PySem.mem_of_lookup e) rfl
  refine ⟨⟨e0.mod, L.kind, rfl, rfl, Nat.le_refl _, fun y z c h1 h2 => hinj y z c h1 h2, fun y hy => ?_, fun y c z _ => ?_, fun _ => (hr.deeper _).hd, Around.frames_deeper e0.frames, .inr ⟨rfl, rfl⟩, fun b z => absurd z (noA b), fun b o e => ⟨(e0.bs b o e).1, lessC_none (e0.bs b o e).2⟩, e0.bsz, fun b _ _ => noA b, fun b z => absurd z (noA b), e0.funs, fun b hb => lessC_none (e0.frf b hb)⟩,
    rfl, e0.bare, Un.kept hk, ⟨_, hns, fun i y v h1 h2 h3 => ?_⟩, fun y c e => ?_, lessC_none (e0.hok.fresh (Nat.le_refl _)), fun y c e => lessC_in ⟨y, e⟩, fun p hp => absurd (show p ∈ ([] : List (Addr × Obj)) from hp) (by simp), ?_, ?_⟩
  · have hy : scope.names.lookup y = some .cell ∨ scope.names.lookup y = some .free := hy
    rcases hy with hy | hy
    · exact absurd hy (kf y)
    · exact hhas y (PySem.mem_of_lookup hy)
  · cases (show false = true from z)
  · cases i with
    | zero =>
      have h1 : N[0]? = some y := h1
      have h2 : some (some v0) = some (some v) := h2
      cases h2
      have hx : N[0]? = some x := by have := L.hd; rwa [List.head?_eq_getElem?] at this
      rw [h1] at hx
      cases hx
      exact ⟨u0, hr0, .inl ⟨L.loc, by simp⟩⟩
    | succ j =>
      have h1 : N[j + 1]? = some y := h1
      have h2 : (frV σ ix)[j]? = some (some v) := h2
      unfold frV at h2
      rw [List.getElem?_map] at h2
      cases hj : ix[j]? with
      | none => rw [hj] at h2; cases h2
      | some m =>
        rw [hj] at h2
        have h2 : (σ[m]?).getD none = some v := Option.some.inj h2
        have h2' : σ[m]? = some (some v) := by
          cases e : σ[m]? with
          | none => rw [e] at h2; cases h2
          | some z => rw [e] at h2; exact congrArg some h2
        have ht : N.tail[j]? = some y := by rw [List.getElem?_tail]; exact h1
        have hz : (y, m) ∈ N.tail.zip ix := List.mem_of_getElem? (i := j) (by rw [List.getElem?_zip_eq_some]; exact ⟨ht, hj⟩)
        obtain ⟨c, o, u, e1, e2, e3, r⟩ := hval y m v hz h2'
        exact ⟨u, r, .inr ⟨.inr (L.at_ _ hz).2, c, e1, o, hk _ _ (e0.hok _ _ e2).1, e3⟩⟩
  · obtain ⟨o, v, e1, e2⟩ := hcs y c e
    exact ⟨v, o, hk _ _ (e0.hok _ _ e1).1, e2⟩
  · exact (lessC_ok e0.hok fun b ⟨y, e⟩ => let ⟨o, v, e1, _⟩ := hcs y b e; ⟨o, _, e1⟩).kept hk
  · show (some v0 :: frV σ ix).length = N.length
    rw [L.len]
    simp [frV]
theorem lam_asks {N N₀ : List Str} {sc₀ scope : Scope} {x : Str} {ix : List Nat} {qual : Str} {cl : List (Str × Addr)} {f c' : Addr} {H : Hp} {σ : St} {k : Nat} {params : Arguments} {body : Expr} {pm ctv : Value} {oc : Obj} {te : TE} {dom : Int → Prop} {p : Int → Bool}
    (L : LcScope N₀ sc₀ scope x N ix) (hco : scope.isCoroutine = false) (hgen : scope.isGenerator = false)
    (hinj : ∀ y z c, cl.lookup y = some c → cl.lookup z = some c → y = z) (hhas : ∀ y, (y, NameKind.free) ∈ scope.names → ∃ c, cl.lookup y = some c)
    (hcs : ∀ y c, cl.lookup y = some c → ∃ o v, H c = some (.frz o (.own 0)) ∧ o.data = .cell v)
    (hval : ∀ y j v, (y, j) ∈ N.tail.zip ix → σ[j]? = some (some v) → ∃ c o u, cl.lookup y = some c ∧ H c = some (.frz o (.own 0)) ∧ o.data = .cell (some u) ∧ RelV v u)
    (hf : H f = some (.frz (PySem.W.kla_obj "<lambda>" qual params body scope cl pm c' ctv) (.own 0))) (hc' : H c' = some (.frz oc (.own 0))) (hoc : CodeObj oc qual)
    (hbind : ∀ (n : Int) (t : Tok), bindArgs (PySem.W.kla_fn "<lambda>" qual params body scope cl pm (.ref c') ctv) ⟨[.int n t], []⟩ = pure [(x, .int n t)])
    (hbody : ∀ (A : Around) (outer : List Env) (s : Shared) (H1 : Hp), Room k (A.deeper (envL qual scope cl s.heap.objs.size f (.ref c'))) → PE (cxLam P w K mg base N qual scope cl f (.ref c') A outer s H1) body te)
    (hte : ∀ (i : Int) (H1 : Hp), dom i → (∀ b u, ¬ InC cl b → H b = some u → H1 b = some u) → te (some (.int i) :: frV σ ix) H1 fun v H2 => v = .bl (p i) ∧ Same H1 H2) : Asks P w K mg base (k + 1) H f dom p := by
  refine ⟨⟨_, _, _, _, _, hf⟩, fun A outer s H1 i t hr e0 sm hd => ?_⟩
  have hfo : s.heap.get? f = some (PySem.W.kla_obj "<lambda>" qual params body scope cl pm c' ctv) := (e0.hok _ _ (sm _ _ hf)).1
  have hco' : s.heap.get? c' = some oc := (e0.hok _ _ (sm _ _ hc')).1
  have lim : s.heap.NoLimit := e0.mod.nolimit.keeps fun b o e => (e0.bs b o e).1
  refine PySem.W.kla_callFunE hr.depth hfo rfl hco hgen rfl (let ⟨vs, t, e1, e2⟩ := hoc; ⟨c', oc, vs, t, rfl, hco', e1, e2⟩) ?_
  rw [hbind]
  refine wpAny_pure (wpAny_newFunctionEnv L.nocell (fun y hy => by cases List.mem_singleton.mp hy; exact L.loc) (fun h₁ hns hsb => ⟨lim.fresh _ hsb, ?_⟩) L.kind)
  have hk₁ : ∀ b o, s.heap.get? b = some o → h₁.get? b = some o := fun b o e => hsb.extBut b o (Nat.ne_of_lt (Heap.lt_size e)) (Heap.get?_push_of_some _ e)
  have inH : ∀ b, InC cl b → ∃ o v, H1 b = some (.frz o (.own 0)) ∧ o.data = .cell v := fun b ⟨y, e⟩ => let ⟨o, v, e1, e2⟩ := hcs y b e; ⟨o, v, sm _ _ e1, e2⟩
  have I' := inv_lam (qual := qual) (f := f) (cd := .ref c') (tk := s.toks + [(x, Value.int i t)].length) (v0 := .int i) (u0 := .int i t) L hr e0 hinj hhas (fun y c e => let ⟨o, v, e1, e2⟩ := hcs y c e; ⟨o, v, sm _ _ e1, e2⟩)
    (fun y j v h1 h2 => let ⟨c, o, u, a1, a2, a3, a4⟩ := hval y j v h1 h2; ⟨c, o, u, a1, sm _ _ a2, a3, a4⟩) ⟨t, rfl⟩ hns hk₁
  refine PySem.W.kla_codeExpr (wpAny_mono (hbody A outer s (lessC H1 cl) (hr.deeper _) [] _ _ _ _ I' (hte i _ hd fun b u hb e => by rw [lessC_out hb]; exact sm _ _ e)) (fun v s' ⟨v', H2, I2, r, ev, sm2⟩ => ?_) fun e s' z => z.elim)
  have nfr : ∀ b, InC cl b → b ∉ frs outer := fun b hb z => by
    obtain ⟨o, v, e1, _⟩ := inH b hb
    rw [e0.frf b z] at e1; cases e1
  have cell' : ∀ b o u, InC cl b → H1 b = some (.frz o u) → s'.heap.get? b = some o ∧ u = .own 0 := fun b o u hb e => by
    obtain ⟨o2, v2, e1, _⟩ := inH b hb
    rw [e] at e1
    cases e1
    exact ⟨I2.base.keep b o (e0.hok _ _ e).1 (lessC_in hb) (nfr b hb) (by simp [cxLam]), rfl⟩
  have same' : ∀ b u, H1 b = some u → (∀ ps, u ≠ .tbl ps) ∨ True → plusC H2 s'.heap cl b = some u := fun b u e _ => by
    by_cases hb : InC cl b
    · obtain ⟨o, v, e1, _⟩ := inH b hb
      rw [e] at e1
      cases e1
      exact plusC_in hb (cell' b o _ hb e).1
    · rw [plusC_out hb]
      exact sm2 _ _ (by rw [lessC_out hb]; exact e)
  refine ⟨v', plusC H2 s'.heap cl, I2.os, I2.bare, ⟨fun b o e n hf hx => I2.base.keep b o e (lessC_none n) hf hx, fun b o e n hf hx => I2.base.slot b o e (lessC_none n) hf hx, fun b o e n hx => ?_, fun b o e hx => I2.base.there b o e hx, fun b xs e => same' _ _ e (.inr trivial), fun b o u e => same' _ _ e (.inr trivial), fun b ps e => ⟨#[], by rw [Array.append_empty]; exact same' _ _ e (.inr trivial)⟩⟩, plusC_ok I2.hok fun b ⟨y, e⟩ => I2.freeC y b e, r, ev, fun b u e => same' b u e (.inr trivial)⟩
  have hb : ¬ InC cl b := fun hb => by
    obtain ⟨o, v, e1, _⟩ := inH b hb
    rw [n] at e1; cases e1
  rw [plusC_out hb]
  exact I2.base.free b o e (lessC_none n) hx
end
def spFirst (P : Program) (w : World) (K : PySem.W.Frag) (mg : Str → Option Value) (base : Heap) (k : Nat) : Sp := fun vs H Q _ => ∃ (lo hi : Int) (f : Addr) (p : Int → Bool), vs = [.int lo, .int hi, .ref f] ∧ lo ≤ hi ∧ Asks P w K mg base k H f (fun i => lo ≤ i ∧ i < hi) p ∧
  ∀ m H', lo ≤ m → m ≤ hi → (lo < m → p (m - 1) = false) → (m < hi → p m = true) → Same H H' → Q (.int m) H'
def tCallL (Pt : Addr) (lpos : Pos) (qual : Str) (ix : List Nat) (te ta tb : TE) : TE := fun σ H Q => ta σ H fun v H1 => tb σ H1 fun u H2 => ∃ (lo hi : Int) (p : Int → Bool), v = .int lo ∧ u = .int hi ∧ lo ≤ hi ∧ TabOk H2 Pt lpos qual ∧
  (∀ (i : Int) (H3 : Hp), lo ≤ i → i < hi → SameX Pt H2 H3 → te (some (.int i) :: frV σ ix) H3 fun v H4 => v = .bl (p i) ∧ Same H3 H4) ∧
  ∀ (m : Int) (H' : Hp), lo ≤ m → m ≤ hi → (lo < m → p (m - 1) = false) → (m < hi → p m = true) → SameX Pt H2 H' → TabOk H' Pt lpos qual → Q (.int m) H'
theorem r_callL {Pt : Addr} {lpos : Pos} {qual : Str} {ix : List Nat} {te ta tb : TE} {σ : St} {H : Hp} {Q : VK} (h : ta σ H fun v H1 => tb σ H1 fun u H2 => ∃ (lo hi : Int) (p : Int → Bool), v = .int lo ∧ u = .int hi ∧ lo ≤ hi ∧ TabOk H2 Pt lpos qual ∧
  (∀ (i : Int) (H3 : Hp), lo ≤ i → i < hi → SameX Pt H2 H3 → te (some (.int i) :: frV σ ix) H3 fun v H4 => v = .bl (p i) ∧ Same H3 H4) ∧
  ∀ (m : Int) (H' : Hp), lo ≤ m → m ≤ hi → (lo < m → p (m - 1) = false) → (m < hi → p m = true) → SameX Pt H2 H' → TabOk H' Pt lpos qual → Q (.int m) H') : tCallL Pt lpos qual ix te ta tb σ H Q := h
section
variable {X : Cx}
theorem pe_callL {g x qual : Str} {a b body : Expr} {ta tb te : TE} {q pos lpos : Pos} {ff c Pt : Addr} {fd : FuncData} {ps N : List Str} {ix : List Nat} {kf k : Nat} {params : Arguments} {scope : Scope}
    (F : FnOk X.prog X.w X.K X.mg X.base CX0 kf ff fd ps (spFirst X.prog X.w X.K X.mg X.base (k + 1))) (hr : Room kf X.A) (hg : Gl X g) (hm : X.mg g = some (.ref ff)) (hkp : PySem.W.keepIn X.K (.ref ff) = true) (hb : Binds X.K fd ps [])
    (ha : PE X a ta) (hbb : PE X b tb) (hfn : X.fn = fun _ => true)
    (C : PySem.W.CodeHd X.base c Pt) (hB : X.base.BuiltinsAt X.mg Pt) (hcode : X.env.code = .ref c) (hq : X.env.qual ++ "<lambda>" = qual)
    (L : LcScope X.N X.env.scope scope x N ix) (hco : scope.isCoroutine = false) (hgen : scope.isGenerator = false) (hdef : defaultsOf params X.env = ([], []))
    (hbind : ∀ (cl : List (Str × Addr)) (pm cv ctv : Value) (n : Int) (t : Tok), bindArgs (PySem.W.kla_fn "<lambda>" qual params body scope cl pm cv ctv) ⟨[.int n t], []⟩ = pure [(x, .int n t)])
    (hbody : ∀ (cl : List (Str × Addr)) (f c' : Addr) (A : Around) (outer : List Env) (s : Shared) (H1 : Hp), Room k (A.deeper (envL qual scope cl s.heap.objs.size f (.ref c'))) → PE (cxLam X.prog X.w X.K X.mg X.base N qual scope cl f (.ref c') A outer s H1) body te)
    (hdb : (g == ("__debug__" : Str)) = false := by decide) (he1 : starEach [a, b, .Lambda params body scope lpos] X.env = (false, eval a X.env) :: starEach [b, .Lambda params body scope lpos] X.env := by rfl) (he2 : starEach [b, .Lambda params body scope lpos] X.env = (false, eval b X.env) :: starEach [.Lambda params body scope lpos] X.env := by rfl)
    (he3 : starEach [.Lambda params body scope lpos] X.env = [(false, eval (.Lambda params body scope lpos) X.env)] := by rfl) (hpl : (backTo pos (starEach [b, .Lambda params body scope lpos] X.env)).any (·.1) = false := by rfl) :
    PE X (.Call (.Name g q) [a, b, .Lambda params body scope lpos] [] pos) (tCallL Pt lpos qual ix te ta tb) := by
  intro pins s σ H Q I h
  refine wpAny_Call_Name_kw (ld_glob I hg hm ?_ hdb)
  refine PySem.W.callWith_K (h₀ := X.base) I.ok.mod.kin hkp ?_ he1 hpl
  rw [he1]
  show wpAny _ _ (spliced ((false, eval a X.env) :: backTo pos (starEach [b, .Lambda params body scope lpos] X.env))) _ _ s
  refine Calls.spliced_cons (thn (ha pins s σ H _ I h) fun u1 s1 ⟨v1, H1, I1, r1, q1⟩ => ?_)
  rw [he2]
  show wpAny _ _ (spliced ((false, eval b X.env) :: backTo pos (starEach [.Lambda params body scope lpos] X.env))) _ _ s1
  refine Calls.spliced_cons (thn (hbb pins s1 σ H1 _ I1 q1) fun u2 s2 ⟨v2, H2, I2, r2, lo, hi, p, e1, e2, hle, hT, hbd, q2⟩ => ?_)
  subst e1 e2
  rw [he3]
  show wpAny _ _ (spliced [(false, eval (.Lambda params body scope lpos) X.env)]) _ _ s2
  have hfree : ∀ y ∈ scope.names, y.2 = .free → ∃ c, X.env.cells.lookup y.1 = some c := fun y hy hf => I.ok.has y.1 (.inl (L.free y hy hf))
  have sub : ∀ y c, (cloGo X.env scope.names []).lookup y = some c → X.env.cells.lookup y = some c := fun y c h => cloGo_sub _ _ y c hfree (fun _ _ z => by simp at z) h
  refine Calls.spliced_cons (lam_make I2 hT C hB hcode (closure_eq hfree) hdef hq fun f c' oc pm ctv s3 H3 I3 hT3 sm hf0 hf hc' hoc => ?_)
  refine Calls.spliced_nil ?_
  generalize hcl : cloGo X.env scope.names [] = cl at hf sub
  have inj : ∀ y z c, cl.lookup y = some c → cl.lookup z = some c → y = z := fun y z c h1 h2 => I.ok.inj y z c (sub y c h1) (sub z c h2)
  have n3 : ∀ b, InC cl b → H3 b = none := fun b ⟨y, e⟩ => I3.freeC y b (sub y b e)
  have cellAt : ∀ y c, cl.lookup y = some c → ∃ o v, s3.heap.get? c = some o ∧ o.data = .cell v := fun y c e => let ⟨v, o, e1, e2⟩ := I3.cell y c (sub y c e); ⟨o, v, e1, e2⟩
  have nLoc : ∀ b, InC cl b → b ≠ X.env.locals := fun b ⟨y, e⟩ => I3.cne y b (sub y b e)
  have hab : ∀ b, InC cl b → X.s₀.heap.objs.size ≤ b := fun b ⟨y, e⟩ => I3.ok.cab y b (by rw [hfn]) (sub y b e)
  have nfr : ∀ b, InC cl b → b ∉ frs X.stack := fun b hb z => by
    rcases List.mem_cons.mp (I3.stkSub b z) with e | hz
    · exact nLoc b hb e
    · obtain ⟨_, o, ho, _⟩ := I3.ok.funs.mem hz
      exact absurd (Heap.lt_size ho) (Nat.not_lt.mpr (hab b hb))
  have e0 : Env0 X.prog X.w X.K X.mg X.base X.A X.stack s3 (plusC H3 s3.heap cl) := by
    have z := I3.env0
    refine ⟨z.frames, z.mod, fun b o e => ⟨(z.bs b o e).1, ?_⟩, z.bsz, z.funs, fun b hb => ?_, plusC_ok z.hok n3, z.bare⟩
    · rw [plusC_out fun hb => ?_]
      · exact (z.bs b o e).2
      · exact absurd (Heap.lt_size e) (Nat.not_lt.mpr (Nat.le_trans I3.ok.bsz (hab b hb)))
    · rw [plusC_out fun h => nfr b h hb]
      exact z.frf b hb
  have out : ∀ b u, H3 b = some u → plusC H3 s3.heap cl b = some u := fun b u e => by
    rw [plusC_out fun hb => by rw [n3 b hb] at e; cases e]; exact e
  have asks : Asks X.prog X.w X.K X.mg X.base (k + 1) (plusC H3 s3.heap cl) f (fun i => lo ≤ i ∧ i < hi) p := by
    refine lam_asks (σ := σ) (te := te) L hco hgen inj (fun y hy => ?_) (fun y c e => ?_) (fun y j v hz hj => ?_) (out _ _ hf) (out _ _ hc') hoc (hbind _ _ _ _) (fun A outer s H1 hr => hbody _ _ _ A outer s H1 hr) fun i H4 hi k4 => ?_
    · rw [← hcl]; exact Option.isSome_iff_exists.mp (cloGo_has _ _ y hy)
    · obtain ⟨o, v, e1, e2⟩ := cellAt y c e
      exact ⟨o, v, plusC_in ⟨y, e⟩ e1, e2⟩
    · obtain ⟨b1, b2⟩ := L.at_ _ hz
      have hm := PySem.mem_of_lookup b2
      have hcell := L.free _ hm rfl
      obtain ⟨m', hn', hl'⟩ := I3.loc
      obtain ⟨u, r, lk⟩ := hl' j y v b1 hj (.inr (.inl hcell))
      rcases lk with lk | ⟨_, c2, e, o, z1, z2⟩
      · rw [show X.env.kindOf y = some .cell from hcell] at lk
        cases lk.1
      · obtain ⟨c3, e'⟩ := Option.isSome_iff_exists.mp (cloGo_has (env := X.env) scope.names [] y hm)
        rw [hcl] at e'
        have e2 := sub y c3 e'
        rw [e] at e2
        cases e2
        exact ⟨c2, o, u, e', plusC_in ⟨y, e'⟩ z1, z2, r⟩
    · refine hbd i H4 hi.1 hi.2 fun b u hb e => ?_
      have e3 := sm b u hb e
      exact k4 b u (fun hc => by rw [n3 b hc] at e3; cases e3) (out b u e3)
  refine ⟨I3.kIn, ?_⟩
  show wpAny _ _ (call (.ref ff) [u1, u2, .ref f]) _ _ s3
  have rv : Vals [V.int lo, V.int hi, V.ref f] [u1, u2, .ref f] := .cons r1 (.cons r2 (.cons rfl .nil))
  have hl : ([u1, u2, Value.ref f] ++ []).length = ps.length := by
    have := F.len [.int lo, .int hi, .ref f] (plusC H3 s3.heap cl) (fun _ _ => True) E0 ⟨lo, hi, f, p, rfl, hle, asks, fun _ _ _ _ _ _ _ => trivial⟩
    exact this
  refine wpAny_call (codeAny_mono (F.run X.A X.stack s3 (plusC H3 s3.heap cl) ⟨[u1, u2, .ref f], []⟩ ([u1, u2, .ref f] ++ []) [.int lo, .int hi, .ref f] (fun v H' => ∃ m, v = .int m ∧ lo ≤ m ∧ m ≤ hi ∧ (lo < m → p (m - 1) = false) ∧ (m < hi → p m = true) ∧ Same (plusC H3 s3.heap cl) H') E0 hr e0 (hb s3 _ I3.kIn hl) (by simpa using rv)
    ⟨lo, hi, f, p, rfl, hle, asks, fun m H' a1 a2 a3 a4 a5 => ⟨m, rfl, a1, a2, a3, a4, a5⟩⟩) fun r s' hq => ?_)
  cases r with
  | error e => exact hq.elim
  | ok fl =>
    cases fl with
    | next => exact False.elim hq
    | brk => exact False.elim hq
    | cont => exact False.elim hq
    | ret u =>
      obtain ⟨v, H4, os, bare, un, hok, rr, m, ev, a1, a2, a3, a4, sm4⟩ := hq
      subst ev
      have c4 : ∀ b, InC cl b → ∃ o, s3.heap.get? b = some o ∧ H4 b = some (.frz o (.own 0)) := fun b ⟨y, e⟩ => by
        obtain ⟨o, v, e1, _⟩ := cellAt y b e
        exact ⟨o, e1, sm4 _ _ (plusC_in ⟨y, e⟩ e1)⟩
      have sm5 : ∀ b u, H3 b = some u → lessC H4 cl b = some u := fun b u e => by
        rw [lessC_out fun hb => by rw [n3 b hb] at e; cases e]
        exact sm4 _ _ (out _ _ e)
      have un2 : Un (frs X.stack) [] H3 (lessC H4 cl) s3.heap s'.heap := by
        refine ⟨fun b o e n hf hx => ?_, fun b o e n hf hx => ?_, fun b o e n hx => ?_, fun b o e hx => un.there b o e hx, fun b xs e => sm5 _ _ e, fun b o u e => sm5 _ _ e, fun b ps e => ⟨#[], by rw [Array.append_empty]; exact sm5 _ _ e⟩⟩
        · by_cases hb : InC cl b
          · obtain ⟨o2, z1, z2⟩ := c4 b hb
            rw [e] at z1
            cases z1
            exact (hok _ _ z2).1
          · exact un.keep b o e (by rw [plusC_out hb]; exact n) hf hx
        · have hb : ¬ InC cl b := fun hb => nfr b hb hf
          exact un.slot b o e (by rw [plusC_out hb]; exact n) hf hx
        · by_cases hb : InC cl b
          · exact lessC_in hb
          · exact lessC_none (un.free b o e (by rw [plusC_out hb]; exact n) hx)
      have hok2 : HOk X.prog X.w (lessC H4 cl) s'.heap := lessC_ok hok fun b hb => let ⟨o, _, z⟩ := c4 b hb; ⟨o, _, z⟩
      refine I3.after ⟨_, lessC H4 cl, os, bare, un2, hok2, rr, q2 m _ a1 a2 a3 a4 (fun b u hb e => sm5 _ _ (sm b u hb e)) ?_⟩
      obtain ⟨pps, t1, t2, t3⟩ := hT3
      exact ⟨pps, sm5 _ _ t1, t2, t3.imp id fun ⟨c2, oc2, z1, z2, z3⟩ => ⟨c2, oc2, z1, sm5 _ _ z2, z3⟩⟩
theorem pe_fnL {g x qual : Str} {a b body : Expr} {ta tb te : TE} {q pos lpos : Pos} {c Pt : Addr} {ps N : List Str} {ix : List Nat} {kf k : Nat} {params : Arguments} {scope : Scope}
    (F : Cal X.prog X.w X.K X.mg X.base g kf ps (spFirst X.prog X.w X.K X.mg X.base (k + 1))) (hr : Room kf X.A) (ha : PE X a ta) (hbb : PE X b tb) (C : PySem.W.CodeHd X.base c Pt) (hB : X.base.BuiltinsAt X.mg Pt) (hcode : X.env.code = .ref c) (hq : X.env.qual ++ "<lambda>" = qual)
    (L : LcScope X.N X.env.scope scope x N ix) (hbody : ∀ (cl : List (Str × Addr)) (f c' : Addr) (A : Around) (outer : List Env) (s : Shared) (H1 : Hp), Room k (A.deeper (envL qual scope cl s.heap.objs.size f (.ref c'))) → PE (cxLam X.prog X.w X.K X.mg X.base N qual scope cl f (.ref c') A outer s H1) body te)
    (hfn : X.fn = fun _ => true := by rfl) (hg : Gl X g := by rfl) (hco : scope.isCoroutine = false := by rfl) (hgen : scope.isGenerator = false := by rfl) (hdef : defaultsOf params X.env = ([], []) := by rfl)
    (hbind : ∀ (cl : List (Str × Addr)) (pm cv ctv : Value) (n : Int) (t : Tok), bindArgs (PySem.W.kla_fn "<lambda>" qual params body scope cl pm cv ctv) ⟨[.int n t], []⟩ = pure [(x, .int n t)] := by intros; rfl)
    (hdb : (g == ("__debug__" : Str)) = false := by decide) (he1 : starEach [a, b, .Lambda params body scope lpos] X.env = (false, eval a X.env) :: starEach [b, .Lambda params body scope lpos] X.env := by rfl) (he2 : starEach [b, .Lambda params body scope lpos] X.env = (false, eval b X.env) :: starEach [.Lambda params body scope lpos] X.env := by rfl)
    (he3 : starEach [.Lambda params body scope lpos] X.env = [(false, eval (.Lambda params body scope lpos) X.env)] := by rfl) (hpl : (backTo pos (starEach [b, .Lambda params body scope lpos] X.env)).any (·.1) = false := by rfl) :
    PE X (.Call (.Name g q) [a, b, .Lambda params body scope lpos] [] pos) (tCallL Pt lpos qual ix te ta tb) := by
  obtain ⟨f, fd, F, bb, hm, hk⟩ := F.ex
  exact pe_callL F hr hg hm hk bb ha hbb hfn C hB hcode hq L hco hgen hdef hbind hbody hdb he1 he2 he3 hpl
end
end L2
end

section
set_option Elab.async false
set_option linter.all false
set_option maxRecDepth 100000
set_option maxHeartbeats 4000000
namespace HD
open PySem PySem.W PySem.Calls PyProof.Rows

def topRunT (tb : String → Option Builtin) (p : Program) (w : World) (m : Nat) (ann : Option Value) : Nat → SharedT → Thread → Option SharedT
  | 0, _, _ => none
  | n + 1, s, t => match through t with
    | true => some s
    | false => match stepOk m ann t with
      | false => none
      | true => match stepT (denote tb) p w s t with
        | some (s', t') => topRunT tb p w m ann n s' t'
        | none => none
theorem topRun_of {tb : String → Option Builtin} {p : Program} {w : World} {m : Nat} {ann : Option Value} : ∀ {n : Nat} {s s' : SharedT} {t : Thread}, topRunT tb p w m ann n s t = some s' → topRun tb p w m ann n s.abs t = some s'.abs
  | 0, _, _, _, h => by cases h
  | n + 1, s, s', t, h => by
    unfold topRunT at h
    unfold topRun
    cases he : through t with
    | true => rw [he] at h; cases h; rfl
    | false =>
      rw [he] at h
      cases hk : stepOk m ann t with
      | false => rw [hk] at h; cases h
      | true =>
        rw [hk] at h
        cases hs : stepT (denote tb) p w s t with
        | none => rw [hs] at h; cases h
        | some r => obtain ⟨s₂, t₂⟩ := r; rw [hs] at h; rw [stepT_spec hs]; exact topRun_of h

def insAll : List Obj → Nat → BT → BT
  | [], _, t => t
  | o :: l, n, t => insAll l (n + 1) (t.ins n o)
noncomputable def bootTree (P : Params) : BT := insAll (boot_heap P).objs.toList 0 .nil
def bootSize : Nat := 11
noncomputable def bootT (w : World) (os : OsState) : SharedT := ⟨bootTree w.params, bootSize, (boot_heap w.params).life, #[], boot_drawn, boot_toks, os⟩
def looksT {α : Type} (Yf : Shared → α) (h0 : Heap) (p q : Program) (loose : List Str) (s : Shared) :=
  (staticsOk (importedModules p.main.body) h0 s.heap && namesBound p s.heap && gensDone s && laidKept h0 s.heap,
    openSeen q loose (importedModules p.main.body) (fun _ => true) true s, Yf s)
def bothT {α : Type} (Yf : Shared → α) (s0 : SharedT) (h0 : Heap) (m : Nat) (p q : Program) (loose : List Str) (M : Nat) (w : World) :=
  (topRunT treeTable p w m (some (.ref 6)) M s0 (topStub p)).map fun s => looksT Yf h0 p q loose s.abs
theorem boot_abs (P : Params) : absHeap (bootTree P) bootSize (boot_heap P).life = boot_heap P := by kernel_rfl
theorem boot_size (P : Params) : ((boot_heap P).isNs mainGlobals && (#[] : Array GenState).size == 0, (boot_heap P).objs.size, (boot_heap P).nsMap mainGlobals "__annotations__") = (true, bootSize, some (.ref 6)) := by kernel_rfl
theorem left_of {p q : Program} {loose : List Str} {α : Type} {Yf : Shared → α} {Ya : World → α} {M N : Nat} (e : opening p = plainProg p.main.scope.names) (f : ∀ s, fenceModules? p s = some s) (hN : Nat.ble 600 N = true) (le : Nat.ble M N = true)
    (both : ∀ w : World, (fun os => bothT Yf (bootT w os) (boot_heap w.params) bootSize p q loose M w) = fun _ => some (true, openGood q loose, Ya w)) :
    LeftO p q loose (fun _ => true) Yf Ya N := fun w => by
  obtain ⟨⟨h, gs, d, k, os⟩, e1, e'⟩ := Option.map_eq_some_iff.mp (boot_open e hN f w)
  obtain ⟨rfl, rfl, rfl, rfl⟩ : h = boot_heap w.params ∧ gs = Array.mk [] ∧ d = boot_drawn ∧ k = boot_toks := by simpa using e'
  have b := congrFun (both w) os
  unfold bothT at b
  obtain ⟨s, r, l⟩ := Option.map_eq_some_iff.mp b
  have r2 := topRun_of r
  have r3 := topRun_mono (N - M) _ _ _ _ r2
  rw [show M + (N - M) = N by have := Nat.le_of_ble_eq_true le; omega] at r3
  have eb : (bootT w os).abs = ⟨boot_heap w.params, Array.mk [], boot_drawn, boot_toks, os⟩ := by
    show Shared.mk (absHeap (bootTree w.params) bootSize (boot_heap w.params).life) (Array.mk []) boot_drawn boot_toks os = _
    rw [boot_abs]
  rw [eb] at r3
  obtain ⟨z1, z2, z3⟩ : _ ∧ _ ∧ _ := by simpa only [Prod.mk.injEq] using boot_size w.params
  obtain ⟨l1, l2, l3⟩ : _ ∧ _ ∧ _ := by simpa only [looksT, Prod.mk.injEq] using l
  have t : topFrom treeTable p w N ⟨boot_heap w.params, Array.mk [], boot_drawn, boot_toks, os⟩ = some s.abs := by
    unfold topFrom
    dsimp only
    rw [z1, z2, z3, r3]
    show (match staticsOk (importedModules p.main.body) (boot_heap w.params) s.abs.heap && namesBound p s.abs.heap && gensDone s.abs && laidKept (boot_heap w.params) s.abs.heap with | true => _ | false => _) = _
    rw [l1]
  unfold openEnds
  rw [e1]
  show (topFrom treeTable p w N _).map _ = _
  rw [t]
  exact congrArg some (Prod.ext l2 l3)
def recOf : Stmt → DefRec
  | .FunctionDef n a b _ _ _ sc _ _ pos => ⟨n, a, b, sc, pos⟩
  | _ => ⟨"", default, [], default, default⟩
end HD
lay_quick HD.bothT
end

section
set_option Elab.async false
set_option linter.all false
set_option maxRecDepth 100000
set_option maxHeartbeats 4000000
namespace L2
open PySem PySem.Spec PyProof.Rows
end L2
end

section
set_option Elab.async false
set_option linter.all false
set_option maxRecDepth 100000
set_option maxHeartbeats 4000000
namespace L2
open PySem PySem.Spec PyProof.Rows
theorem lc_new2 {K : PySem.W.Frag} {J : It} {H1 : Hp} {fr : St} {tc : TT} {te : TE} {Q : VK} (n : Nat) (f1 f2 : Nat → V) (Pv : Addr → Nat → List V → Hp → Prop) (h0 : ∀ D H, H1 D = none → Same H1 H → Pv D 0 [] H)
    (stab : ∀ D i ys H xs o, H D = some (.lst xs) → Pv D i ys H → Pv D i ys (upd H D o)) (hz : ∀ D i ys H, i < n → Pv D i ys H → ys.length < sizeLine) (psame : ∀ D i ys H H', Same H H' → Pv D i ys H → Pv D i ys H')
    (hgo : ∀ i H, i < n → Same H1 H → J.go i H) (hy : ∀ i H v H', i < n → Same H1 H → J.yld i H v H' → ∃ a, v = .ref a ∧ SqT K H' a [f1 i, f2 i] ∧ Same H H') (hst : ∀ H, Same H1 H → J.stop n H)
    (turn : ∀ D i ys H (A : VK) (R : Hp → Prop), i < n → Same H1 H → H1 D = none → H D = some (.lst ys) → Pv D i ys H → (∀ y H', Same H H' → Pv D (i + 1) (ys ++ [y]) H' → A y H') →
      tc (some (f1 i) :: some (f2 i) :: fr) H fun b H3 => if b = true then te (some (f1 i) :: some (f2 i) :: fr) H3 A else R H3)
    (fin : ∀ D ys H, H1 D = none → Same H1 H → Pv D n ys H → H D = some (.lst ys) → Q (.ref D) H) : rdLc2 K J H1 fr tc te Q := by
  intro D hD
  refine ⟨fun i m H => i ≤ n ∧ m = n - i ∧ Same H1 H ∧ ∃ ys, H D = some (.lst ys) ∧ Pv D i ys H, ⟨n, Nat.zero_le _, rfl, same_upd hD, [], upd_same, h0 D _ hD (same_upd hD)⟩, ?_⟩
  rintro i m H ⟨hi, rfl, sm, ys, hl, hp⟩
  by_cases h : i = n
  · subst h
    exact .inl ⟨hst H sm, fin D ys H hD sm hp hl⟩
  · have hlt : i < n := Nat.lt_of_le_of_ne hi h
    refine .inr ⟨hgo i H hlt sm, fun v H' hyl => ?_⟩
    obtain ⟨a, rfl, ht, s2⟩ := hy i H v H' hlt sm hyl
    refine ⟨a, _, _, rfl, ht, turn D i ys H' _ _ hlt (sm.trans s2) hD (s2 _ _ hl) (psame _ _ _ _ _ s2 hp) (fun y H4 s4 hp4 => ?_)⟩
    refine ⟨ys, s4 _ _ (s2 _ _ hl), hz D i ys _ hlt hp, n - (i + 1), by omega, by omega, rfl, fun b u e => ?_, ys ++ [y], upd_same, stab _ _ _ _ _ _ (s4 _ _ (s2 _ _ hl)) hp4⟩
    rw [upd_ne (ne_of_none e hD)]
    exact s4 _ _ (s2 _ _ (sm _ _ e))
theorem lc_zipN {K : PySem.W.Frag} {a b : Addr} {xs ys : List V} {H1 : Hp} {fr : St} {tc : TT} {te : TE} {Q : VK} (ha : SqL K H1 a xs) (hb : SqL K H1 b ys) (Pv : Addr → Nat → List V → Hp → Prop) (h0 : ∀ D H, H1 D = none → Same H1 H → Pv D 0 [] H)
    (stab : ∀ D i zs H us o, H D = some (.lst us) → Pv D i zs H → Pv D i zs (upd H D o)) (hz : ∀ D i zs H, i < min xs.length ys.length → Pv D i zs H → zs.length < sizeLine) (psame : ∀ D i zs H H', Same H H' → Pv D i zs H → Pv D i zs H')
    (turn : ∀ D (i : Nat) zs x y H (A : VK) (R : Hp → Prop), xs[i]? = some x → ys[i]? = some y → Same H1 H → H1 D = none → H D = some (.lst zs) → Pv D i zs H → (∀ y H', Same H H' → Pv D (i + 1) (zs ++ [y]) H' → A y H') →
      tc (some x :: some y :: fr) H fun b H3 => if b = true then te (some x :: some y :: fr) H3 A else R H3)
    (fin : ∀ D zs H, H1 D = none → Same H1 H → Pv D (min xs.length ys.length) zs H → H D = some (.lst zs) → Q (.ref D) H) : rdLc2 K (Itz K a b) H1 fr tc te Q := by
  refine lc_new2 (min xs.length ys.length) (fun i => xs.getD i .non) (fun i => ys.getD i .non) Pv h0 stab hz psame (fun i H hi sm => ⟨xs, ys, xs[i]'(by omega), ys[i]'(by omega), sm.seq ha, sm.seq hb, by simp, by simp⟩) (fun i H v H' hi sm h => ?_)
    (fun H sm => ⟨xs, ys, sm.seq ha, sm.seq hb, rfl⟩) (fun D i zs H A R hi sm => turn D i zs _ _ H A R (by simp [show i < xs.length by omega]) (by simp [show i < ys.length by omega]) sm) fin
  obtain ⟨t, x, y, hn, rfl, h1, h2, rfl⟩ := h
  have e1 := h1 xs (sm.seq ha)
  have e2 := h2 ys (sm.seq hb)
  refine ⟨t, rfl, ?_, same_upd hn⟩
  simp only [List.getD, e1, e2, Option.getD_some]
  exact SqT.of upd_same
end L2
namespace L2
open PySem PySem.Spec PyProof.Rows
end L2
namespace L2
open PySem PySem.Spec PyProof.Rows
theorem lc_listN {K : PySem.W.Frag} {a : Addr} {xs : List V} {H1 : Hp} {fr : St} {tc : TT} {te : TE} {Q : VK} (hl : SqL K H1 a xs) (Pv : Nat → List V → Hp → Prop) (h0 : ∀ H, Same H1 H → Pv 0 [] H)
    (stab : ∀ i ys H D zs o, H D = some (.lst zs) → Pv i ys H → Pv i ys (upd H D o)) (hz : ∀ i ys H, i < xs.length → Pv i ys H → ys.length < sizeLine)
    (turn : ∀ (i : Nat) ys x H (A : VK) (R : Hp → Prop), xs[i]? = some x → Same H1 H → Pv i ys H → (∀ y H', Same H H' → Pv (i + 1) (ys ++ [y]) H' → A y H') → tc (some x :: fr) H fun b H3 => if b = true then te (some x :: fr) H3 A else R H3)
    (fin : ∀ D ys H, H1 D = none → Same H1 H → Pv xs.length ys H → H D = some (.lst ys) → Q (.ref D) H) : rdLc (Itl K a) H1 fr tc te Q := by
  refine lc_new xs.length (fun i => xs.getD i .non) Pv h0 stab hz (fun i H hi sm => ⟨xs, xs[i], sm.seq hl, by simp [hi]⟩) (fun i H x H' hi sm h => ⟨?_, h.1⟩) (fun H sm => ⟨xs, sm.seq hl, Nat.le_refl _⟩) (fun i ys H A R hi sm => turn i ys _ H A R (by simp [hi]) sm) fin
  have := h.2 xs (sm.seq hl)
  simp [List.getD, this]
end L2
end

section
set_option Elab.async false
set_option linter.all false
set_option maxRecDepth 100000
set_option maxHeartbeats 4000000
namespace L2
open PySem PySem.Spec PySem.W PyProof.Rows
structure CalC (P : Program) (w : World) (K : PySem.W.Frag) (mg : Str → Option Value) (base : Heap) (x m : Str) (k : Nat) (ps : List Str) (sp : Sp) : Prop where
  ex : ∃ (W f : Addr) (fd : FuncData), FnOk P w K mg base CX0 k f fd ps sp ∧ Binds K fd ps [] ∧ mg x = some (.ref W) ∧ specialIn K (.ref W) "__getattribute__" = some (some (.builtin "type.__getattribute__")) ∧
    readsIn K W (.type "type") = true ∧ findCls K (.ref W) (.type "type") m = some (.val (.ref f)) ∧ keepIn K (.ref f) = true
section
variable {X : Cx} {x m : Str} {k : Nat} {ps : List Str} {sp : Sp} {np apos pos : Pos} {e : Expr} {es : List Expr} {t : TA} {pl : Sem Bool}
theorem pe_cm (M : CalC X.prog X.w X.K X.mg X.base x m k ps sp) (hr : Room k X.A) (hg : Gl X x) (ha : PA X (e :: es) t) (hdb : (x == ("__debug__" : Str)) = false := by decide)
    (hst : starEach (e :: es) X.env = (false, eval e X.env) :: starEach es X.env := by rfl) (hpl : (backTo pos (starEach es X.env)).any (·.1) = false := by rfl)
    (ht : eval (.Call (.Attribute (.Name x np) m apos) (e :: es) [] pos) X.env = (do
      let ov ← eval (.Name x np) X.env
      standAt apos.atName
      let (f, first) ← holding [ov] (getMethod ov m pl)
      callWith pos f first (backTo pos (starEach (e :: es) X.env)) (backToKw pos (keywordEach [] X.env))) := by rfl) :
    PE X (.Call (.Attribute (.Name x np) m apos) (e :: es) [] pos) (tCall sp [] E0 t) := by
  obtain ⟨W, f, fd, F, hb, hm, ga, rd, ini, kp⟩ := M.ex
  intro pins s σ H Q I h
  refine methodCall_KW (ld_glob I hg hm ?_ hdb) ht
  refine method_cls I.kIn ga (cls_value I.kIn rd ini rfl ?_)
  refine PySem.W.callWith_K (h₀ := X.base) I.ok.mod.kin kp (thn (ha pos pins _ σ H _ (I.tok (s.toks + 1)) h) fun us s1 ⟨vs, H1, I1, r, q⟩ => ⟨I1.kIn, ?_⟩) hst hpl
  exact run_fn F hr hb .nil pass0 I1 r q
end
end L2
end

section
set_option Elab.async false
set_option linter.all false
set_option maxRecDepth 100000
set_option maxHeartbeats 4000000
namespace L2
open PySem PySem.Spec PyProof.Rows
theorem lc_new2R {K : PySem.W.Frag} {J : It} {H1 : Hp} {fr : St} {tc : TT} {te : TE} {Q : VK} (n : Nat) (f1 f2 : Nat → V) (Pv : Addr → Nat → List V → Hp → Prop) (h0 : ∀ D H, H1 D = none → Same H1 H → Pv D 0 [] H)
    (stab : ∀ D i ys H xs o, H D = some (.lst xs) → Pv D i ys H → Pv D i ys (upd H D o)) (hz : ∀ D i ys H, i < n → Pv D i ys H → ys.length < sizeLine) (psame : ∀ D i ys H H', Same H H' → Pv D i ys H → Pv D i ys H')
    (hgo : ∀ i H, i < n → Same H1 H → J.go i H) (hy : ∀ i H v H', i < n → Same H1 H → J.yld i H v H' → ∃ a, v = .ref a ∧ SqT K H' a [f1 i, f2 i] ∧ Same H H') (hst : ∀ H, Same H1 H → J.stop n H)
    (turn : ∀ D i ys H (A : VK) (R : Hp → Prop), i < n → Same H1 H → H1 D = none → H D = some (.lst ys) → Pv D i ys H → (∀ H', Same H H' → Pv D (i + 1) ys H' → R H') → (∀ y H', Same H H' → Pv D (i + 1) (ys ++ [y]) H' → A y H') →
      tc (some (f1 i) :: some (f2 i) :: fr) H fun b H3 => if b = true then te (some (f1 i) :: some (f2 i) :: fr) H3 A else R H3)
    (fin : ∀ D ys H, H1 D = none → Same H1 H → Pv D n ys H → H D = some (.lst ys) → Q (.ref D) H) : rdLc2 K J H1 fr tc te Q := by
  intro D hD
  refine ⟨fun i m H => i ≤ n ∧ m = n - i ∧ Same H1 H ∧ ∃ ys, H D = some (.lst ys) ∧ Pv D i ys H, ⟨n, Nat.zero_le _, rfl, same_upd hD, [], upd_same, h0 D _ hD (same_upd hD)⟩, ?_⟩
  rintro i m H ⟨hi, rfl, sm, ys, hl, hp⟩
  by_cases h : i = n
  · subst h
    exact .inl ⟨hst H sm, fin D ys H hD sm hp hl⟩
  · have hlt : i < n := Nat.lt_of_le_of_ne hi h
    refine .inr ⟨hgo i H hlt sm, fun v H' hyl => ?_⟩
    obtain ⟨a, rfl, ht, s2⟩ := hy i H v H' hlt sm hyl
    refine ⟨a, _, _, rfl, ht, turn D i ys H' _ _ hlt (sm.trans s2) hD (s2 _ _ hl) (psame _ _ _ _ _ s2 hp) (fun H3 s3 hp3 => ?_) (fun y H4 s4 hp4 => ?_)⟩
    · exact ⟨n - (i + 1), by omega, by omega, rfl, (sm.trans s2).trans s3, ys, s3 _ _ (s2 _ _ hl), hp3⟩
    refine ⟨ys, s4 _ _ (s2 _ _ hl), hz D i ys _ hlt hp, n - (i + 1), by omega, by omega, rfl, fun b u e => ?_, ys ++ [y], upd_same, stab _ _ _ _ _ _ (s4 _ _ (s2 _ _ hl)) hp4⟩
    rw [upd_ne (ne_of_none e hD)]
    exact s4 _ _ (s2 _ _ (sm _ _ e))
end L2
end

section
set_option Elab.async false
set_option linter.all false
set_option maxRecDepth 100000
set_option maxHeartbeats 4000000
namespace L2
open PySem PySem.Spec PyProof.Rows
def rIsO (K : PySem.W.Frag) : List V → Hp → VK → Prop := fun xs H Q => ∃ x C t b, xs = [x, .ref C] ∧ TyOf K H x t ∧ PySem.W.kitOne K t (.ref C) = some b ∧ Q (.bl b) H
theorem call_isinO {X : Cx} : CallR X (.builtin "isinstance") (rIsO X.K) := by
  intro pins s σ H xs us Q I r h
  obtain ⟨x, C, t, b, rfl, ty, e, q⟩ := h
  obtain ⟨u, v, rfl, ru, rv⟩ := vals2 r
  cases rv
  exact isinst_ok I ru ty e fun tk => ⟨.bl b, H, I.tok tk, rfl, q⟩
end L2
end

section
set_option Elab.async false
set_option linter.all false
set_option maxRecDepth 100000
set_option maxHeartbeats 4000000
namespace HD
open PySem PySem.W PySem.Calls PyProof.Rows
def oneA (s0 : SharedT) (h0 : Heap) (m : Nat) (p : Program) (M : Nat) (w : World) :=
  (topRunT treeTable p w m (some (.ref 6)) M s0 (topStub p)).map fun s => staticsOk (importedModules p.main.body) h0 s.abs.heap && namesBound p s.abs.heap && gensDone s.abs && laidKept h0 s.abs.heap
def oneB (s0 : SharedT) (m : Nat) (p q : Program) (loose : List Str) (M : Nat) (w : World) :=
  (topRunT treeTable p w m (some (.ref 6)) M s0 (topStub p)).map fun s => openSeen q loose (importedModules p.main.body) (fun _ => true) true s.abs
def oneC {α : Type} (Yf : Shared → α) (s0 : SharedT) (m : Nat) (p : Program) (M : Nat) (w : World) :=
  (topRunT treeTable p w m (some (.ref 6)) M s0 (topStub p)).map fun s => Yf s.abs
theorem three {α : Type} {Yf : Shared → α} {s0 : SharedT} {h0 : Heap} {m : Nat} {p q : Program} {loose : List Str} {M : Nat} {w : World} {a : α}
    (hA : oneA s0 h0 m p M w = some true) (hB : oneB s0 m p q loose M w = some (openGood q loose)) (hC : oneC Yf s0 m p M w = some a) :
    bothT Yf s0 h0 m p q loose M w = some (true, openGood q loose, a) := by
  unfold oneA at hA
  unfold oneB at hB
  unfold oneC at hC
  unfold bothT looksT
  obtain ⟨s, r, l⟩ := Option.map_eq_some_iff.mp hA
  rw [r] at hB hC ⊢
  have hB := Option.some.inj hB
  have hC := Option.some.inj hC
  exact congrArg some (Prod.ext l (Prod.ext hB hC))
theorem left_of3 {p q : Program} {loose : List Str} {α : Type} {Yf : Shared → α} {Ya : World → α} {M N : Nat} (e : opening p = plainProg p.main.scope.names) (f : ∀ s, fenceModules? p s = some s) (hN : Nat.ble 600 N = true) (le : Nat.ble M N = true)
    (hA : ∀ w : World, (fun os => oneA (bootT w os) (boot_heap w.params) bootSize p M w) = fun _ => some true) (hB : ∀ w : World, (fun os => oneB (bootT w os) bootSize p q loose M w) = fun _ => some (openGood q loose))
    (hC : ∀ w : World, (fun os => oneC Yf (bootT w os) bootSize p M w) = fun _ => some (Ya w)) : LeftO p q loose (fun _ => true) Yf Ya N :=
  left_of e f hN le fun w => funext fun os => three (congrFun (hA w) os) (congrFun (hB w) os) (congrFun (hC w) os)
def peekT (s : SharedT) (a : Nat) : Option Obj := match Nat.blt a s.n with
  | true => (match s.tree.get a with
    | some o => alive o
    | none => none)
  | false => none
theorem peek_get {s : SharedT} {a : Nat} {o : Obj} (h : peekT s a = some o) : s.abs.heap.get? a = some o := by
  unfold peekT at h
  cases hb : Nat.blt a s.n with
  | false => rw [hb] at h; cases h
  | true =>
    rw [hb] at h
    cases hg : s.tree.get a with
    | none => rw [hg] at h; cases h
    | some u =>
      rw [hg] at h
      have hlt : a < s.n := by
        have := Nat.le_of_ble_eq_true hb
        omega
      exact (abs_get hlt hg).trans h
theorem peek_all {s : SharedT} : ∀ {as : List Nat} {L : List (Option Obj)}, (∀ x ∈ L, x.isSome = true) → as.map (peekT s) = L → as.map s.abs.heap.get? = L
  | [], L, _, e => e
  | a :: as, [], _, e => by cases e
  | a :: as, x :: L, h, e => by
    obtain ⟨e1, e2⟩ := List.cons.inj e
    obtain ⟨o, ho⟩ := Option.isSome_iff_exists.mp (h x List.mem_cons_self)
    subst ho
    show s.abs.heap.get? a :: as.map s.abs.heap.get? = _
    rw [peek_get e1, peek_all (fun y hy => h y (List.mem_cons_of_mem _ hy)) e2]
def oneP (as ts : List Addr) (s0 : SharedT) (m : Nat) (p : Program) (M : Nat) (w : World) :=
  (topRunT treeTable p w m (some (.ref 6)) M s0 (topStub p)).map fun s => (as.map (peekT s), ts.map (peekT s))
theorem hC_km {K : Params → Frag} {as : List Addr} {e : ∀ P, as = (K P).map (·.1)} {ts : List Addr} {p : Program} {M : Nat}
    (h : ∀ w : World, (fun os => oneP as ts (bootT w os) bootSize p M w) = fun _ => some ((K w.params).map fun q => some q.2, ts.map fun _ => some (tabObj #[]))) :
    ∀ w : World, (fun os => oneC (kmHook K as e ts).obs (bootT w os) bootSize p M w) = fun _ => some ((kmHook K as e ts).val w) := fun w => funext fun os => by
  have h := congrFun (h w) os
  unfold oneP at h
  unfold oneC
  obtain ⟨s, r, l⟩ := Option.map_eq_some_iff.mp h
  obtain ⟨l1, l2⟩ := Prod.mk.inj l
  rw [r]
  show some (as.map s.abs.heap.get?, ts.map s.abs.heap.get?) = some ((K w.params).map fun q => some q.2, ts.map fun _ => some (tabObj #[]))
  rw [peek_all (fun x hx => by obtain ⟨q, _, rfl⟩ := List.mem_map.mp hx; rfl) l1, peek_all (fun x hx => by obtain ⟨q, _, rfl⟩ := List.mem_map.mp hx; rfl) l2]
end HD
lay_quick HD.oneP
theorem HD.oneP_eq : @HD.oneP = @PySem.W.Fast.tw13831889492591282369 := PySem.W.Fast.te13831889492591282369
lay_quick HD.oneA
lay_quick HD.oneB
theorem HD.oneA_eq : @HD.oneA = @PySem.W.Fast.tw6247638121477898359 := PySem.W.Fast.te6247638121477898359
theorem HD.oneB_eq : @HD.oneB = @PySem.W.Fast.tw4394042064226896843 := PySem.W.Fast.te4394042064226896843
end

section
set_option Elab.async false
set_option linter.all false
set_option maxRecDepth 100000
set_option maxHeartbeats 4000000
namespace L2
open PySem PySem.Spec PyProof.Rows
theorem lc_zipNR {K : PySem.W.Frag} {a b : Addr} {xs ys : List V} {H1 : Hp} {fr : St} {tc : TT} {te : TE} {Q : VK} (ha : SqL K H1 a xs) (hb : SqL K H1 b ys) (Pv : Addr → Nat → List V → Hp → Prop) (h0 : ∀ D H, H1 D = none → Same H1 H → Pv D 0 [] H)
    (stab : ∀ D i zs H us o, H D = some (.lst us) → Pv D i zs H → Pv D i zs (upd H D o)) (hz : ∀ D i zs H, i < min xs.length ys.length → Pv D i zs H → zs.length < sizeLine) (psame : ∀ D i zs H H', Same H H' → Pv D i zs H → Pv D i zs H')
    (turn : ∀ D (i : Nat) zs x y H (A : VK) (R : Hp → Prop), xs[i]? = some x → ys[i]? = some y → Same H1 H → H1 D = none → H D = some (.lst zs) → Pv D i zs H → (∀ H', Same H H' → Pv D (i + 1) zs H' → R H') → (∀ y H', Same H H' → Pv D (i + 1) (zs ++ [y]) H' → A y H') →
      tc (some x :: some y :: fr) H fun b H3 => if b = true then te (some x :: some y :: fr) H3 A else R H3)
    (fin : ∀ D zs H, H1 D = none → Same H1 H → Pv D (min xs.length ys.length) zs H → H D = some (.lst zs) → Q (.ref D) H) : rdLc2 K (Itz K a b) H1 fr tc te Q := by
  refine lc_new2R (min xs.length ys.length) (fun i => xs.getD i .non) (fun i => ys.getD i .non) Pv h0 stab hz psame (fun i H hi sm => ⟨xs, ys, xs[i]'(by omega), ys[i]'(by omega), sm.seq ha, sm.seq hb, by simp, by simp⟩) (fun i H v H' hi sm h => ?_)
    (fun H sm => ⟨xs, ys, sm.seq ha, sm.seq hb, rfl⟩) (fun D i zs H A R hi sm => turn D i zs _ _ H A R (by simp [show i < xs.length by omega]) (by simp [show i < ys.length by omega]) sm) fin
  obtain ⟨t, x, y, hn, rfl, h1, h2, rfl⟩ := h
  have e1 := h1 xs (sm.seq ha)
  have e2 := h2 ys (sm.seq hb)
  refine ⟨t, rfl, ?_, same_upd hn⟩
  simp only [List.getD, e1, e2, Option.getD_some]
  exact SqT.of upd_same
theorem pe_fldK (K : PySem.W.Frag) {X : Cx} {e : Expr} {f : Str} {pos : Pos} {ta : TE} (he : PE X e ta) (h : X.K = K := by rfl) (hb : attributeBase e f X.env (eval e X.env) = eval e X.env := by rfl) : PE X (.Attribute e f pos) (tFld K ta f) := by
  subst h
  exact pe_fld he hb
end L2
end

set_option Elab.async false
set_option linter.all false
set_option maxRecDepth 100000
set_option maxHeartbeats 4000000
local macro_rules | `(tactic| walk_at "rd") => `(tactic| repeat (first | with_reducible refine L2.r_seq ?_ | with_reducible refine L2.r_next ?_ | with_reducible refine L2.r_asg ?_ | with_reducible refine L2.r_gname ?_ | with_reducible refine L2.r_ret ?_ | with_reducible refine L2.r_retN ?_ | with_reducible refine L2.r_drop ?_ | with_reducible refine L2.r_ifs ?_ | with_reducible refine L2.r_test ?_ | with_reducible refine L2.r_tB ?_ | with_reducible refine L2.r_not ?_ | with_reducible refine L2.r_and ?_ | with_reducible refine L2.r_or ?_ | with_reducible refine L2.r_isN ?_ | with_reducible refine L2.r_notN ?_ | with_reducible refine L2.r_op ?_ | with_reducible refine L2.r_un ?_ | with_reducible refine L2.r_rU ?_ | with_reducible refine L2.r_c ?_ | with_reducible refine L2.r_rI0 ?_ | with_reducible refine L2.r_ipI ?_ | with_reducible refine L2.r_bl ?_ | with_reducible refine L2.r_int ?_ | with_reducible refine L2.r_nil ?_ | with_reducible refine L2.r_cons ?_ | with_reducible refine L2.r_call ?_ | with_reducible refine L2.r_cB ?_ | with_reducible refine L2.r_lst ?_ | with_reducible refine L2.r_tup ?_ | with_reducible refine L2.r_bm ?_ | with_reducible refine L2.r_bm0 ?_ | with_reducible refine L2.r_sl ?_ | with_reducible refine L2.r_nopart ?_ | with_reducible refine L2.r_part ?_ | with_reducible refine L2.r_for ?_ | with_reducible refine L2.r_rng1 ?_ | with_reducible refine L2.r_rng2 ?_ | with_reducible refine L2.r_rng3 ?_ | with_reducible refine L2.r_ilist ?_ | with_reducible refine L2.r_itup ?_ | with_reducible refine L2.r_istr ?_ | with_reducible refine L2.r_lc ?_ | with_reducible refine L2.r_yes ?_ | with_reducible refine L2.r_ifE ?_ | with_reducible refine L2.r_chain ?_ | with_reducible refine L2.r_andV ?_ | with_reducible refine L2.r_orV ?_ | with_reducible refine L2.r_notV ?_ | with_reducible refine L2.r_fld ?_ | with_reducible refine L2.r_sfld ?_ | with_reducible refine L2.r_make ?_ | with_reducible refine L2.r_meth ?_ | with_reducible refine L2.r_rev ?_ | with_reducible refine L2.r_cBK ?_ | with_reducible refine L2.r_izip ?_ | with_reducible refine L2.r_ienum ?_ | with_reducible refine L2.r_lc2 ?_ | with_reducible refine L2.r_ienumS ?_ | with_reducible refine L2.r_rngD ?_ | with_reducible refine L2.r_callL ?_ | with_reducible refine L2.r_ask ?_ | with_reducible refine L2.r_mod (by decide) ?_ | with_reducible refine L2.r_shr (by decide) ?_ | with_reducible refine L2.r_div (by decide) (by decide) ?_ | with_reducible refine L2.r_mulR (by decide) (by decide) ?_ | with_reducible refine L2.r_mulL (by decide) (by decide) ?_ | with_reducible refine L2.r_rEq rfl ?_ | with_reducible refine L2.r_rNe rfl ?_ | with_reducible refine L2.iteT ?_ | with_reducible refine L2.iteF ?_ | with_reducible refine L2.iteNT ?_ | with_reducible refine L2.iteNF ?_ | refine L2.r_var rfl ?_ | refine L2.r_aug rfl ?_ | dsimp only))
namespace TK
open PySem L2 TW
local macro_rules | `(tactic| k_is) => `(tactic| walk_at "rd")
def top (i : Nat) : Stmt := PySem.Challenge.pw_tightwood_k72_pieces_in_form.main.body.getD i (.Pass ⟨0, 0, 0, 0⟩)
abbrev s_is_whole : Stmt := top 8
theorem sc_is_whole : FnScope ["thing"] ["thing"] (defScope s_is_whole) := ⟨rfl, rfl, rfl, by decide +kernel, rfl, by decide +kernel, by decide +kernel⟩
abbrev s_first_that : Stmt := top 14
theorem sc_first_that : FnScope ["low", "high", "holds", "middle"] ["low", "high", "holds"] (defScope s_first_that) := ⟨rfl, rfl, rfl, by decide +kernel, rfl, by decide +kernel, by decide +kernel⟩
abbrev s_running_sums : Stmt := top 15
theorem sc_running_sums : FnScope ["numbers", "sums", "number"] ["numbers"] (defScope s_running_sums) := ⟨rfl, rfl, rfl, by decide +kernel, rfl, by decide +kernel, by decide +kernel⟩
abbrev s_heights_of : Stmt := top 17
theorem sc_heights_of : FnScope ["text", "begin", "height", "heights", "sign"] ["text", "begin"] (defScope s_heights_of) := ⟨rfl, rfl, rfl, by decide +kernel, rfl, by decide +kernel, by decide +kernel⟩
abbrev s_sums_of : Stmt := top 36
theorem sc_sums_of : FnScope ["text", "heights"] ["text"] (defScope s_sums_of) := ⟨rfl, rfl, rfl, by decide +kernel, rfl, by decide +kernel, by decide +kernel⟩
abbrev s_Heights_init : Stmt := inClass (top 19) 0
theorem sc_Heights_init : FnScope ["self", "length", "table", "often_least"] ["self", "length", "table", "often_least"] (defScope s_Heights_init) := ⟨rfl, rfl, rfl, by decide +kernel, rfl, by decide +kernel, by decide +kernel⟩
abbrev s_Heights_size : Stmt := inClass (top 19) 7
theorem sc_Heights_size : FnScope ["self"] ["self"] (defScope s_Heights_size) := ⟨rfl, rfl, rfl, by decide +kernel, rfl, by decide +kernel, by decide +kernel⟩
abbrev s_check_row : Stmt := top 22
theorem sc_check_row : FnScope ["text", "height", "place", "sign"] ["text"] (defScope s_check_row) := ⟨rfl, rfl, rfl, by decide +kernel, rfl, by decide +kernel, by decide +kernel⟩
abbrev s_look_at : Stmt := top 26
theorem sc_look_at : FnScope ["elders", "path", "k", "elder"] ["elders"] (defScope s_look_at) := ⟨rfl, rfl, rfl, by decide +kernel, rfl, by decide +kernel, by decide +kernel⟩
abbrev s_depths_of : Stmt := top 29
theorem sc_depths_of : FnScope ["elders", "depths", "elder"] ["elders"] (defScope s_depths_of) := ⟨rfl, rfl, rfl, by decide +kernel, rfl, by decide +kernel, by decide +kernel⟩
abbrev s_row_of : Stmt := top 27
theorem sc_row_of : FnScope ["elders", "signs", "still_opened", "depth"] ["elders"] (defScope s_row_of) := ⟨rfl, rfl, rfl, by decide +kernel, rfl, by decide +kernel, by decide +kernel⟩
abbrev s_elders_of : Stmt := top 28
theorem sc_elders_of : FnScope ["text", "elders", "path", "sign"] ["text"] (defScope s_elders_of) := ⟨rfl, rfl, rfl, by decide +kernel, rfl, by decide +kernel, by decide +kernel⟩
abbrev s_Openings_init : Stmt := inClass (top 32) 0
theorem sc_Openings_init : FnScope ["self", "pairs"] ["self", "pairs"] (defScope s_Openings_init) := ⟨rfl, rfl, rfl, by decide +kernel, rfl, by decide +kernel, by decide +kernel⟩
abbrev s_Openings_many_knots : Stmt := inClass (top 32) 1
theorem sc_Openings_many_knots : FnScope ["self"] ["self"] (defScope s_Openings_many_knots) := ⟨rfl, rfl, rfl, by decide +kernel, rfl, by decide +kernel, by decide +kernel⟩
abbrev s_Piece_init : Stmt := inClass (top 38) 0
theorem sc_Piece_init : FnScope ["self", "signs", "heights"] ["self", "signs"] (defScope s_Piece_init) := ⟨rfl, rfl, rfl, by decide +kernel, rfl, by decide +kernel, by decide +kernel⟩
abbrev s_pieces_of : Stmt := top 37
theorem sc_pieces_of : FnScope ["text", "many", "cuts"] ["text"] (defScope s_pieces_of) := ⟨rfl, rfl, rfl, by decide +kernel, rfl, by decide +kernel, by decide +kernel⟩
theorem lc_pieces_of_0 : LcScope ["text", "many", "cuts"] (defScope s_pieces_of) { kind := .function, names := [(".0", .local), ("number", .local), ("len", .globalImplicit), ("many", .free), ("text", .free)], isGenerator := false, isCoroutine := false, more := [] } "number" ["number", "many", "text"] [1, 0] := ⟨rfl, by decide +kernel, by decide +kernel, by decide +kernel, by decide +kernel, rfl, rfl, rfl, by decide +kernel⟩
theorem lc_pieces_of_1 : LcScope2 ["text", "many", "cuts"] (defScope s_pieces_of) { kind := .function, names := [(".0", .local), ("low", .local), ("high", .local), ("Piece", .globalImplicit), ("text", .free)], isGenerator := false, isCoroutine := false, more := [] } "low" "high" ["low", "high", "text"] [0] := ⟨rfl, by decide +kernel, by decide +kernel, by decide +kernel, by decide +kernel, rfl, rfl, rfl, rfl, rfl, by decide +kernel⟩
abbrev s_PiecedRow_init : Stmt := inClass (top 39) 0
theorem sc_PiecedRow_init : FnScope ["self", "pieces", "heights", "table"] ["self", "pieces"] (defScope s_PiecedRow_init) := ⟨rfl, rfl, rfl, by decide +kernel, rfl, by decide +kernel, by decide +kernel⟩
theorem lc_PiecedRow_init_0 : LcScope2 ["self", "pieces", "heights", "table"] (defScope s_PiecedRow_init) { kind := .function, names := [(".0", .local), ("knots", .local), ("begin", .local)], isGenerator := false, isCoroutine := false, more := [] } "knots" "begin" ["knots", "begin"] [] := ⟨rfl, by decide +kernel, by decide +kernel, by decide +kernel, by decide +kernel, rfl, rfl, rfl, rfl, rfl, by decide +kernel⟩
theorem lc_PiecedRow_init_1 : LcScope2 ["self", "pieces", "heights", "table"] (defScope s_PiecedRow_init) { kind := .function, names := [(".0", .local), ("height", .local), ("piece", .local)], isGenerator := false, isCoroutine := false, more := [] } "height" "piece" ["height", "piece"] [] := ⟨rfl, by decide +kernel, by decide +kernel, by decide +kernel, by decide +kernel, rfl, rfl, rfl, rfl, rfl, by decide +kernel⟩
theorem lc_PiecedRow_init_2 : LcScope ["self", "pieces", "heights", "table"] (defScope s_PiecedRow_init) { kind := .function, names := [(".0", .local), ("piece", .local), ("len", .globalImplicit)], isGenerator := false, isCoroutine := false, more := [] } "piece" ["piece"] [] := ⟨rfl, by decide +kernel, by decide +kernel, by decide +kernel, by decide +kernel, rfl, rfl, rfl, by decide +kernel⟩
theorem lc_PiecedRow_init_3 : LcScope ["self", "pieces", "heights", "table"] (defScope s_PiecedRow_init) { kind := .function, names := [(".0", .local), ("piece", .local)], isGenerator := false, isCoroutine := false, more := [] } "piece" ["piece"] [] := ⟨rfl, by decide +kernel, by decide +kernel, by decide +kernel, by decide +kernel, rfl, rfl, rfl, by decide +kernel⟩
theorem lc_PiecedRow_init_4 : LcScope ["self", "pieces", "heights", "table"] (defScope s_PiecedRow_init) { kind := .function, names := [(".0", .local), ("piece", .local)], isGenerator := false, isCoroutine := false, more := [] } "piece" ["piece"] [] := ⟨rfl, by decide +kernel, by decide +kernel, by decide +kernel, by decide +kernel, rfl, rfl, rfl, by decide +kernel⟩
abbrev s_PiecedRow_stretch_at : Stmt := inClass (top 39) 5
theorem sc_PiecedRow_stretch_at : FnScope ["self", "place"] ["self", "place"] (defScope s_PiecedRow_stretch_at) := ⟨rfl, rfl, rfl, by decide +kernel, rfl, by decide +kernel, by decide +kernel⟩
theorem lam_PiecedRow_stretch_at_0 : LcScope ["self", "place"] (defScope s_PiecedRow_stretch_at) { kind := .function, names := [("number", .local), ("place", .free), ("self", .free)], isGenerator := false, isCoroutine := false, more := [] } "number" ["number", "place", "self"] [1, 0] := ⟨rfl, by decide +kernel, by decide +kernel, by decide +kernel, by decide +kernel, rfl, rfl, rfl, by decide +kernel⟩
abbrev s_PiecedRow_pieces_to : Stmt := inClass (top 39) 7
theorem sc_PiecedRow_pieces_to : FnScope ["self", "place"] ["self", "place"] (defScope s_PiecedRow_pieces_to) := ⟨rfl, rfl, rfl, by decide +kernel, rfl, by decide +kernel, by decide +kernel⟩
theorem lam_PiecedRow_pieces_to_0 : LcScope ["self", "place"] (defScope s_PiecedRow_pieces_to) { kind := .function, names := [("number", .local), ("place", .free), ("self", .free)], isGenerator := false, isCoroutine := false, more := [] } "number" ["number", "place", "self"] [1, 0] := ⟨rfl, by decide +kernel, by decide +kernel, by decide +kernel, by decide +kernel, rfl, rfl, rfl, by decide +kernel⟩
abbrev s_PiecedRow_stretch : Stmt := inClass (top 39) 1
theorem sc_PiecedRow_stretch : FnScope ["self", "low", "high", "first", "signs", "begin"] ["self", "low", "high"] (defScope s_PiecedRow_stretch) := ⟨rfl, rfl, rfl, by decide +kernel, rfl, by decide +kernel, by decide +kernel⟩
theorem lc_PiecedRow_stretch_0 : LcScope ["self", "low", "high", "first", "signs", "begin"] (defScope s_PiecedRow_stretch) { kind := .function, names := [(".0", .local), ("piece", .local)], isGenerator := false, isCoroutine := false, more := [] } "piece" ["piece"] [] := ⟨rfl, by decide +kernel, by decide +kernel, by decide +kernel, by decide +kernel, rfl, rfl, rfl, by decide +kernel⟩
abbrev s_Heights_text : Stmt := inClass (top 19) 8
theorem sc_Heights_text : FnScope ["self"] ["self"] (defScope s_Heights_text) := ⟨rfl, rfl, rfl, by decide +kernel, rfl, by decide +kernel, by decide +kernel⟩
abbrev s_Openings_row : Stmt := inClass (top 32) 3
theorem sc_Openings_row : FnScope ["self"] ["self"] (defScope s_Openings_row) := ⟨rfl, rfl, rfl, by decide +kernel, rfl, by decide +kernel, by decide +kernel⟩
abbrev s_Openings_elders : Stmt := inClass (top 32) 2
theorem sc_Openings_elders : FnScope ["self"] ["self"] (defScope s_Openings_elders) := ⟨rfl, rfl, rfl, by decide +kernel, rfl, by decide +kernel, by decide +kernel⟩
abbrev s_Shaped_init : Stmt := inClass (top 41) 0
theorem sc_Shaped_init : FnScope ["self", "elders"] ["self", "elders"] (defScope s_Shaped_init) := ⟨rfl, rfl, rfl, by decide +kernel, rfl, by decide +kernel, by decide +kernel⟩
abbrev s_Shaped_pieces : Stmt := inClass (top 41) 1
theorem sc_Shaped_pieces : FnScope ["self"] ["self"] (defScope s_Shaped_pieces) := ⟨rfl, rfl, rfl, by decide +kernel, rfl, by decide +kernel, by decide +kernel⟩
theorem lc_Shaped_pieces_0 : LcScope ["self"] (defScope s_Shaped_pieces) { kind := .function, names := [(".0", .local), ("piece", .local)], isGenerator := false, isCoroutine := false, more := [] } "piece" ["piece"] [] := ⟨rfl, by decide +kernel, by decide +kernel, by decide +kernel, by decide +kernel, rfl, rfl, rfl, by decide +kernel⟩
abbrev s_Shaped_sums : Stmt := inClass (top 41) 2
theorem sc_Shaped_sums : FnScope ["self"] ["self"] (defScope s_Shaped_sums) := ⟨rfl, rfl, rfl, by decide +kernel, rfl, by decide +kernel, by decide +kernel⟩
theorem lc_Shaped_sums_0 : LcScope ["self"] (defScope s_Shaped_sums) { kind := .function, names := [(".0", .local), ("piece", .local)], isGenerator := false, isCoroutine := false, more := [] } "piece" ["piece"] [] := ⟨rfl, by decide +kernel, by decide +kernel, by decide +kernel, by decide +kernel, rfl, rfl, rfl, by decide +kernel⟩
abbrev s_law_cell_at : Stmt := top 43
theorem sc_law_cell_at : FnScope ["_law_script", "_law_k"] ["_law_script", "_law_k"] (defScope s_law_cell_at) := ⟨rfl, rfl, rfl, by decide +kernel, rfl, by decide +kernel, by decide +kernel⟩
abbrev s_law_whole : Stmt := top 44
theorem sc_law_whole : FnScope ["_law_found"] ["_law_found"] (defScope s_law_whole) := ⟨rfl, rfl, rfl, by decide +kernel, rfl, by decide +kernel, by decide +kernel⟩
abbrev s_law_mixed : Stmt := top 45
theorem sc_law_mixed : FnScope ["_law_cell", "_law_k", "_law_once"] ["_law_cell", "_law_k"] (defScope s_law_mixed) := ⟨rfl, rfl, rfl, by decide +kernel, rfl, by decide +kernel, by decide +kernel⟩
abbrev s_law_digits : Stmt := top 46
theorem sc_law_digits : FnScope ["_law_script", "_law_at", "_law_many", "_law_left", "_law_found", "_law_k"] ["_law_script", "_law_at", "_law_many"] (defScope s_law_digits) := ⟨rfl, rfl, rfl, by decide +kernel, rfl, by decide +kernel, by decide +kernel⟩
abbrev s_law_wood : Stmt := top 47
theorem sc_law_wood : FnScope ["_law_digits_here", "_law_elders", "_law_path", "_law_k"] ["_law_digits_here"] (defScope s_law_wood) := ⟨rfl, rfl, rfl, by decide +kernel, rfl, by decide +kernel, by decide +kernel⟩
abbrev s_law_large : Stmt := top 48
theorem sc_law_large : FnScope ["_law_elders", "_law_times", "_law_nested", "_law_found", "_law_k", "_law_base", "_law_top"] ["_law_elders", "_law_times", "_law_nested"] (defScope s_law_large) := ⟨rfl, rfl, rfl, by decide +kernel, rfl, by decide +kernel, by decide +kernel⟩
theorem lc_law_large_0 : LcScope ["_law_elders", "_law_times", "_law_nested", "_law_found", "_law_k", "_law_base", "_law_top"] (defScope s_law_large) { kind := .function, names := [(".0", .local), ("_law_elder", .local), ("int", .globalImplicit), ("_law_base", .free), ("_law_top", .free)], isGenerator := false, isCoroutine := false, more := [] } "_law_elder" ["_law_elder", "_law_base", "_law_top"] [5, 6] := ⟨rfl, by decide +kernel, by decide +kernel, by decide +kernel, by decide +kernel, rfl, rfl, rfl, by decide +kernel⟩
abbrev s_law_row : Stmt := top 49
theorem sc_law_row : FnScope ["_law_elders", "_law_found", "_law_path", "_law_k"] ["_law_elders"] (defScope s_law_row) := ⟨rfl, rfl, rfl, by decide +kernel, rfl, by decide +kernel, by decide +kernel⟩
abbrev s_law_sums : Stmt := top 50
theorem sc_law_sums : FnScope ["_law_text", "_law_whole_here", "_law_least", "_law_sign"] ["_law_text"] (defScope s_law_sums) := ⟨rfl, rfl, rfl, by decide +kernel, rfl, by decide +kernel, by decide +kernel⟩
abbrev s_law_good : Stmt := top 51
theorem sc_law_good : FnScope ["_law_wood_here", "_law_elders", "_law_row_here", "_law_parts", "_law_told", "_law_found"] ["_law_wood_here", "_law_elders", "_law_row_here"] (defScope s_law_good) := ⟨rfl, rfl, rfl, by decide +kernel, rfl, by decide +kernel, by decide +kernel⟩
theorem lc_law_good_0 : LcScope ["_law_wood_here", "_law_elders", "_law_row_here", "_law_parts", "_law_told", "_law_found"] (defScope s_law_good) { kind := .function, names := [(".0", .local), ("_law_part", .local), ("len", .globalImplicit)], isGenerator := false, isCoroutine := false, more := [] } "_law_part" ["_law_part"] [] := ⟨rfl, by decide +kernel, by decide +kernel, by decide +kernel, by decide +kernel, rfl, rfl, rfl, by decide +kernel⟩
theorem lc_law_good_1 : LcScope ["_law_wood_here", "_law_elders", "_law_row_here", "_law_parts", "_law_told", "_law_found"] (defScope s_law_good) { kind := .function, names := [(".0", .local), ("_law_k", .local), ("len", .globalImplicit), ("_law_parts", .free)], isGenerator := false, isCoroutine := false, more := [] } "_law_k" ["_law_k", "_law_parts"] [3] := ⟨rfl, by decide +kernel, by decide +kernel, by decide +kernel, by decide +kernel, rfl, rfl, rfl, by decide +kernel⟩
theorem lc_law_good_2 : LcScope ["_law_wood_here", "_law_elders", "_law_row_here", "_law_parts", "_law_told", "_law_found"] (defScope s_law_good) { kind := .function, names := [(".0", .local), ("_law_one", .local), ("isinstance", .globalImplicit), ("tuple", .globalImplicit), ("_law_whole", .globalImplicit)], isGenerator := false, isCoroutine := false, more := [] } "_law_one" ["_law_one"] [] := ⟨rfl, by decide +kernel, by decide +kernel, by decide +kernel, by decide +kernel, rfl, rfl, rfl, by decide +kernel⟩
theorem lc_law_good_3 : LcScope ["_law_wood_here", "_law_elders", "_law_row_here", "_law_parts", "_law_told", "_law_found"] (defScope s_law_good) { kind := .function, names := [(".0", .local), ("_law_part", .local), ("_law_sums", .globalImplicit)], isGenerator := false, isCoroutine := false, more := [] } "_law_part" ["_law_part"] [] := ⟨rfl, by decide +kernel, by decide +kernel, by decide +kernel, by decide +kernel, rfl, rfl, rfl, by decide +kernel⟩
abbrev s_law : Stmt := top 52
theorem sc_law : FnScope ["_law_script", "_law_seed", "_law_elders", "_law_handed", "_law_wood_here", "_law_row_here"] ["_law_script"] (defScope s_law) := ⟨rfl, rfl, rfl, by decide +kernel, rfl, by decide +kernel, by decide +kernel⟩
abbrev pos_PiecedRow_stretch_at : Pos := ⟨404, 52, 404, 98⟩
abbrev pos_PiecedRow_pieces_to : Pos := ⟨410, 52, 410, 95⟩
def signs (l : List Bool) : Str := ⟨(l.map fun b => if b then 49 else 48).toArray⟩
theorem signs_len (l : List Bool) : (signs l).length = l.length := by
  show (l.map _).toArray.size = _
  rw [List.size_toArray, List.length_map]
theorem rep_signs (b : Bool) (k : Nat) : repS (sgn (if b then 49 else 48)) k = signs (List.replicate k b) := by
  refine ext_cps ?_
  show (List.replicate k [if b then 49 else 48]).flatten.toArray.toList = ((List.replicate k b).map _).toArray.toList
  rw [List.toList_toArray, List.toList_toArray, List.map_replicate]
  induction k with
  | zero => rfl
  | succ k ih =>
    rw [List.replicate_succ, List.flatten_cons, ih, List.replicate_succ]
    rfl
theorem signs_cps (l : List Bool) : (signs l).cps.toList = l.map fun b => if b then 49 else 48 := by
  show (l.map _).toArray.toList = _
  rw [List.toList_toArray]
theorem signs_append (a b : List Bool) : signs a ++ signs b = signs (a ++ b) := by
  refine ext_cps ?_
  show ((signs a).cps ++ (signs b).cps).toList = _
  rw [Array.toList_append, signs_cps, signs_cps, signs_cps, List.map_append]
theorem drop_take_min {α : Type} (l : List α) (a b : Nat) : (l.drop (min a l.length)).take (min b l.length - min a l.length) = (l.drop a).take (b - a) := by
  by_cases h : a ≤ l.length
  · rw [Nat.min_eq_left h]
    by_cases h2 : b ≤ l.length
    · rw [Nat.min_eq_left h2]
    · rw [Nat.min_eq_right (by omega), List.take_of_length_le (by rw [List.length_drop]; omega), List.take_of_length_le (by rw [List.length_drop]; omega)]
  · have e : min a l.length = l.length := by omega
    rw [e, List.drop_of_length_le (Nat.le_refl _), List.drop_of_length_le (by omega)]
    simp
theorem cut_signs (l : List Bool) (a b : Nat) : cutS (signs l) (some (a : Int)) (some (b : Int)) = signs ((l.drop a).take (b - a)) := by
  refine ext_cps ?_
  show (List.take _ (List.drop _ _)).toArray.toList = _
  rw [List.toList_toArray, HT.sIx_nat, HT.sIx_nat]
  have e : (signs l).cps.size = l.length := signs_len l
  rw [e, signs_cps, signs_cps, List.map_take, List.map_drop]
  have := drop_take_min (l.map fun b => if b = true then 49 else 48) a b
  rw [List.length_map] at this
  exact this
theorem cnt_signs (l : List Bool) : cntS (signs l) 49 = l.count true ∧ cntS (signs l) 48 + cntS (signs l) 49 = l.length := by
  unfold cntS
  rw [signs_cps]
  induction l with
  | nil => exact ⟨rfl, rfl⟩
  | cons b r ih => cases b <;> simp [List.count_cons] <;> omega
abbrev nV (ns : List Nat) : List V := ns.map fun n : Nat => V.int n
theorem nV_range (f : Nat → Nat) (i : Nat) : nV ((List.range (i + 1)).map f) = nV ((List.range i).map f) ++ [V.int (f i : Nat)] := by
  unfold nV
  rw [List.range_succ, List.map_append, List.map_append]
  rfl
theorem few {n : Nat} (h : n ≤ 1000) : n ≤ sizeLine := Nat.le_of_lt (small1000 h)
theorem small20000 {n : Nat} (h : n ≤ 100000) : n < sizeLine := Nat.lt_of_le_of_lt h (by decide)
theorem sign_of {l : List Bool} {i c : Nat} (h : (signs l).cps[i]? = some c) : ∃ b, l[i]? = some b ∧ c = if b then 49 else 48 := by
  have e : (signs l).cps.toList[i]? = some c := by rw [Array.getElem?_toList]; exact h
  rw [signs_cps, List.getElem?_map] at e
  cases hb : l[i]? with
  | none => rw [hb] at e; cases e
  | some b =>
    rw [hb] at e
    exact ⟨b, rfl, (Option.some.inj e).symm⟩
theorem at_lt {α : Type} {l : List α} {i : Nat} {b : α} (h : l[i]? = some b) : i < l.length := (List.getElem?_eq_some_iff.mp h).1

def isI : V → Bool
  | .int _ => true
  | _ => false
def Any (K : PySem.W.Frag) (H : Hp) (x : V) : Prop := ∃ t b1 b2, TyOf K H x t ∧ PySem.W.kitOne K t (.type "int") = some b1 ∧ PySem.W.kitOne K t (.type "bool") = some b2 ∧ (b1 && !b2) = isI x
section
variable {K : PySem.W.Frag} {H H' : Hp}
theorem TyOf.same {x : V} {t : Value} (s : Same H H') (h : TyOf K H x t) : TyOf K H' x t := by
  cases h with
  | non => exact .non
  | bl b => exact .bl b
  | int i => exact .int i
  | str z => exact .str z
  | flt z => exact .flt z
  | lst e => exact .lst (s _ _ e)
  | frz e => exact .frz (s _ _ e)
  | tup e => exact .tup (s _ _ e)
  | dK e => exact .dK (s _ _ e)
  | dT e => exact .dT (s _ _ e)
  | ins e cl ha hn htk hm => exact .ins (s _ _ e) cl ha hn htk hm
theorem Any.same {x : V} (s : Same H H') (h : Any K H x) : Any K H' x := let ⟨t, b1, b2, h1, r⟩ := h; ⟨t, b1, b2, TyOf.same s h1, r⟩
end
def rowB (j : Nat) : List Nat := (List.range (j + 1)).map (bal j)
theorem nV_len (l : List Nat) : (nV l).length = l.length := by unfold nV; rw [List.length_map]
theorem nV_at {l : List Nat} {i : Nat} {n : Nat} (h : l[i]? = some n) : (nV l)[i]? = some (.int (n : Nat)) := by
  unfold nV
  rw [List.getElem?_map, h]
  rfl
theorem nV_app (l m : List Nat) : nV l ++ nV m = nV (l ++ m) := by unfold nV; rw [List.map_append]
theorem push_same {H H1 : Hp} {a : Addr} {o : HO} (s : Same H H1) (h : H a = none) : Same H (upd H1 a o) := fun b u e => by
  rw [upd_ne (ne_of_none e h)]
  exact s _ _ e
def Rows (H : Hp) (as : List Addr) : Prop := ∀ (j : Nat) (a : Addr), as[j]? = some a → H a = some (.lst (nV (rowB j)))
theorem Rows.same {H H' : Hp} {as : List Addr} (h : Rows H as) (s : Same H H') : Rows H' as := fun j a e => s _ _ (h j a e)
theorem kit_list_list {K : PySem.W.Frag} : PySem.W.kitOne K (.type "list") (.type "list") = some true := by rfl
theorem iV_at {l : List Int} {i : Nat} {n : Int} (h : l[i]? = some n) : (l.map V.int)[i]? = some (.int n) := by
  rw [List.getElem?_map, h]
  rfl
theorem iV_get {l : List Int} {i : Nat} {x : V} (h : (l.map V.int)[i]? = some x) : ∃ n, l[i]? = some n ∧ x = .int n := by
  rw [List.getElem?_map] at h
  cases e : l[i]? with
  | none => rw [e] at h; cases h
  | some n =>
    rw [e] at h
    exact ⟨n, rfl, (Option.some.inj h).symm⟩
theorem last_take {l : List Int} {m : Nat} {x : Int} (h0 : 0 < m) (h : l[m - 1]? = some x) : atI ((l.take m).map V.int) (-1) = some (.int x) := by
  have hm := at_lt h
  have e : l.take m = l.take (m - 1) ++ [x] := by
    rw [show m = m - 1 + 1 by omega, List.take_add_one, h]
    rfl
  rw [e, List.map_append]
  exact atI_last _ _
theorem len_take {l : List Int} {m : Nat} (h : m ≤ l.length) : ((l.take m).map V.int).length = m := by rw [List.length_map, List.length_take]; omega
theorem drop_last {l : List Int} {m : Nat} (h : m ≤ l.length) : ((l.take m).map V.int).dropLast = (l.take (m - 1)).map V.int := by
  rw [← List.map_dropLast, List.dropLast_eq_take, List.take_take, List.length_take]
  congr 2
  omega
def lenAt (H : Hp) (p : Addr) : Nat := match H p with | some (.lst xs) => xs.length | _ => 0
theorem lenAt_of {H : Hp} {p : Addr} {xs : List V} (h : H p = some (.lst xs)) : lenAt H p = xs.length := by unfold lenAt; rw [h]
theorem rd_joinS {K : PySem.W.Frag} {H1 : Hp} {Q : VK} {p : Addr} {ls : List (List Bool)} (hl : H1 p = some (.lst (ls.map fun l => .str (signs l)))) (hz : ls.flatten.length ≤ 100000) (q : Q (.str (signs ls.flatten)) H1) : rJoin K (.str "") [.ref p] H1 Q := by
  refine ⟨"", p, ls.map signs, rfl, rfl, SqL.of ?_, ?_, ?_⟩
  · rw [hl, List.map_map]
    rfl
  · have e : ((ls.map signs).map (·.length)).sum = ls.flatten.length := by
      rw [List.length_flatten, List.map_map]
      congr 1
      refine List.map_congr_left fun l _ => ?_
      exact signs_len l
    rw [e]
    show ls.flatten.length + _ * 0 ≤ _
    omega
  · have e : Txt.join ("" : Str) (ls.map signs) = signs ls.flatten := by
      refine ext_cps ?_
      rw [join_empty, List.map_map]
      show ((ls.map fun l => (l.map fun b => if b then 49 else 48).toArray.toList)).flatten = (ls.flatten.map _).toArray.toList
      simp only [List.toList_toArray]
      rw [List.map_flatten]
    rw [e]
    exact q
theorem opn_le {ds : List Nat} (h : Dok ds) : ∀ k, k ≤ ds.length → opn ds k ≤ k
  | 0, _ => Nat.le_refl _
  | k + 1, hk => by
    show dAt ds k + 1 ≤ k + 1
    have := h k (by omega)
    have := opn_le h k (by omega)
    omega
theorem dAt_snoc {ds : List Nat} {d j : Nat} (h : j < ds.length) : dAt (ds ++ [d]) j = dAt ds j := by
  unfold dAt List.getD
  rw [List.getElem?_append_left h]
theorem dAt_new (ds : List Nat) (d : Nat) : dAt (ds ++ [d]) ds.length = d := by
  unfold dAt List.getD
  rw [List.getElem?_append_right (Nat.le_refl _), Nat.sub_self]
  rfl
theorem opn_snoc {ds : List Nat} {d : Nat} : ∀ k, k ≤ ds.length → opn (ds ++ [d]) k = opn ds k
  | 0, _ => rfl
  | k + 1, h => by
    show dAt (ds ++ [d]) k + 1 = dAt ds k + 1
    rw [dAt_snoc (by omega)]
theorem way_snoc {ds : List Nat} {d : Nat} : ∀ k, k ≤ ds.length → way (ds ++ [d]) k = way ds k
  | 0, _ => rfl
  | k + 1, h => by
    show (way (ds ++ [d]) k).take (dAt (ds ++ [d]) k + 1) ++ [(k : Int)] = _
    rw [way_snoc k (by omega), dAt_snoc (by omega)]
    rfl
theorem dok_snoc {ds : List Nat} {d : Nat} (h : Dok ds) (hd : d ≤ opn ds ds.length) : Dok (ds ++ [d]) := fun k hk => by
  rw [List.length_append] at hk
  simp only [List.length_cons, List.length_nil] at hk
  by_cases e : k = ds.length
  · subst e
    rw [dAt_new, opn_snoc _ (Nat.le_refl _)]
    exact hd
  · rw [dAt_snoc (by omega), opn_snoc k (by omega)]
    exact h k (by omega)
theorem elds_snoc (ds : List Nat) (d : Nat) : elds (ds ++ [d]) = elds ds ++ [(way ds ds.length).getD d 0] := by
  unfold elds
  rw [List.length_append]
  show (List.range (ds.length + 1)).map _ = _
  rw [List.range_succ, List.map_append]
  congr 1
  · refine List.map_congr_left fun k hk => ?_
    have hk := List.mem_range.mp hk
    unfold eld
    rw [way_snoc k (by omega), dAt_snoc hk]
  · show [eld (ds ++ [d]) ds.length] = _
    unfold eld
    rw [way_snoc _ (Nat.le_refl _), dAt_new]
theorem way_next (ds : List Nat) (d : Nat) : way (ds ++ [d]) (ds.length + 1) = (way ds ds.length).take (d + 1) ++ [(ds.length : Int)] := by
  show (way (ds ++ [d]) ds.length).take (dAt (ds ++ [d]) ds.length + 1) ++ _ = _
  rw [way_snoc _ (Nat.le_refl _), dAt_new]
theorem way_head {ds : List Nat} (h : Dok ds) {k : Nat} (hk : k ≤ ds.length) : way ds k = -1 :: (way ds k).tail := by
  have e := way_zero h k hk
  cases hw : way ds k with
  | nil => rw [hw] at e; cases e
  | cons x r =>
    rw [hw] at e
    obtain rfl := Option.some.inj e
    rfl

structure SameT (H H' : Hp) : Prop where
  keep : ∀ b u, (∀ ps, u ≠ .tbl ps) → H b = some u → H' b = some u
  tb : ∀ b ps, H b = some (.tbl ps) → ∃ ps', H' b = some (.tbl ps')
theorem SameT.trans {H H1 H2 : Hp} (a : SameT H H1) (b : SameT H1 H2) : SameT H H2 := ⟨fun c u n e => b.keep c u n (a.keep c u n e), fun c ps e => let ⟨ps', e'⟩ := a.tb c ps e; b.tb c ps' e'⟩
theorem SameT.lst {H H' : Hp} (s : SameT H H') {a : Addr} {xs : List V} (h : H a = some (.lst xs)) : H' a = some (.lst xs) := s.keep _ _ (by intro ps e; cases e) h
theorem SameT.tup {H H' : Hp} (s : SameT H H') {a : Addr} {xs : List V} (h : H a = some (.tup xs)) : H' a = some (.tup xs) := s.keep _ _ (by intro ps e; cases e) h
theorem sameT_of {H H' : Hp} (s : Same H H') : SameT H H' := ⟨fun b u _ e => s b u e, fun b ps e => ⟨ps, s b _ e⟩⟩
theorem SameT.free {H H' : Hp} (s : SameT H H') {l : Addr} (e : H' l = none) : H l = none := by
  cases q : H l with
  | none => rfl
  | some o =>
    by_cases ho : ∃ ps, o = .tbl ps
    · obtain ⟨ps, rfl⟩ := ho
      obtain ⟨ps', e2⟩ := s.tb l ps q
      rw [e2] at e; cases e
    · rw [s.keep l o (fun ps z => ho ⟨ps, z⟩) q] at e; cases e
structure Tb where
  P : Addr
  pos : Pos
  qual : Str
def Tb.ok (t : Tb) (H : Hp) : Prop := TabOk H t.P t.pos t.qual
theorem Tb.same {t : Tb} {H H' : Hp} (s : Same H H') (h : t.ok H) : t.ok H' := by
  obtain ⟨ps, e1, e2, e3⟩ := h
  exact ⟨ps, s _ _ e1, e2, e3.imp id fun ⟨c, oc, a1, a2, a3⟩ => ⟨c, oc, a1, s _ _ a2, a3⟩⟩
theorem Tb.sameX {t : Tb} {P : Addr} {H H' : Hp} (s : SameX P H H') (hP : ∃ ps, H P = some (.tbl ps)) (n : t.P ≠ P) (h : t.ok H) : t.ok H' := by
  obtain ⟨ps, e1, e2, e3⟩ := h
  obtain ⟨ps', hP⟩ := hP
  exact ⟨ps, s _ _ n e1, e2, e3.imp id fun ⟨c, oc, a1, a2, a3⟩ => ⟨c, oc, a1, s _ _ (fun z => by rw [z, hP] at a2; cases a2) a2, a3⟩⟩
theorem sameT_X {P : Addr} {H H' : Hp} (s : SameX P H H') (hP : ∃ ps, H P = some (.tbl ps)) (hP' : ∃ ps, H' P = some (.tbl ps)) : SameT H H' := by
  refine ⟨fun b u n e => s b u (fun z => ?_) e, fun b ps e => ?_⟩
  · obtain ⟨ps, hP⟩ := hP
    rw [z, hP] at e
    cases e
    exact n ps rfl
  · by_cases hb : b = P
    · rw [hb]; exact hP'
    · exact ⟨ps, s b _ hb e⟩
theorem Tb.tbl {t : Tb} {H : Hp} (h : t.ok H) : ∃ ps, H t.P = some (.tbl ps) := let ⟨ps, e, _⟩ := h; ⟨ps, e⟩
def Tbs (ts : List Tb) (H : Hp) : Prop := (∀ t ∈ ts, t.ok H) ∧ (ts.map (·.P)).Nodup
structure SmT (ts : List Tb) (H H' : Hp) : Prop where
  sm : SameT H H'
  ok : Tbs ts H'
theorem Tbs.same {ts : List Tb} {H H' : Hp} (h : Tbs ts H) (s : Same H H') : Tbs ts H' := ⟨fun t ht => Tb.same s (h.1 t ht), h.2⟩
theorem SmT.of {ts : List Tb} {H H' : Hp} (h : Tbs ts H) (s : Same H H') : SmT ts H H' := ⟨sameT_of s, h.same s⟩
theorem SmT.trans {ts : List Tb} {H H1 H2 : Hp} (a : SmT ts H H1) (b : SmT ts H1 H2) : SmT ts H H2 := ⟨a.sm.trans b.sm, b.ok⟩
theorem SmT.then {ts : List Tb} {H H1 H2 : Hp} (a : SmT ts H H1) (b : Same H1 H2) : SmT ts H H2 := a.trans (.of a.ok b)
theorem SmT.k {ts : List Tb} {H H' : Hp} (s : SmT ts H H') {b : Addr} {u : HO} (h : H b = some u) (n : ∀ ps, u ≠ .tbl ps := by intro ps e; cases e) : H' b = some u := s.sm.keep _ _ n h
theorem tb_inj : ∀ {ts : List Tb} {t u : Tb}, (ts.map (·.P)).Nodup → t ∈ ts → u ∈ ts → t.P = u.P → t = u
  | [], _, _, _, h, _, _ => nomatch h
  | x :: r, t, u, hn, ht, hu, e => by
    rw [List.map_cons, List.nodup_cons] at hn
    rcases List.mem_cons.mp ht with rfl | ht' <;> rcases List.mem_cons.mp hu with rfl | hu'
    · rfl
    · exact absurd (List.mem_map_of_mem (f := (·.P)) hu') (by rw [← e]; exact hn.1)
    · exact absurd (List.mem_map_of_mem (f := (·.P)) ht') (by rw [e]; exact hn.1)
    · exact tb_inj hn.2 ht' hu' e
theorem smT_X {ts : List Tb} {t : Tb} {H H' : Hp} (h : Tbs ts H) (ht : t ∈ ts) (s : SameX t.P H H') (ok : t.ok H') : SmT ts H H' := by
  have hP := Tb.tbl (h.1 t ht)
  refine ⟨sameT_X s hP (Tb.tbl ok), fun u hu => ?_, h.2⟩
  by_cases e : u.P = t.P
  · have : u = t := tb_inj h.2 hu ht e
    rw [this]; exact ok
  · exact Tb.sameX s hP e (h.1 u hu)

def bgn (ls : List (List Bool)) (j : Nat) : Nat := (ls.take j).flatten.length
theorem bgn_zero (ls : List (List Bool)) : bgn ls 0 = 0 := rfl
theorem bgn_all (ls : List (List Bool)) : bgn ls ls.length = ls.flatten.length := by unfold bgn; rw [List.take_length]
theorem bgn_succ {ls : List (List Bool)} {j : Nat} {x : List Bool} (h : ls[j]? = some x) : bgn ls (j + 1) = bgn ls j + x.length := by
  unfold bgn
  rw [List.take_add_one, h, List.flatten_append, List.length_append]
  simp
theorem bgn_mono {ls : List (List Bool)} {i j : Nat} (h : i ≤ j) : bgn ls i ≤ bgn ls j := by
  unfold bgn
  have e : ls.take i = (ls.take j).take i := by rw [List.take_take, Nat.min_eq_left h]
  have e2 := congrArg List.length (congrArg List.flatten (List.take_append_drop i (ls.take j)))
  rw [← e, List.flatten_append, List.length_append] at e2
  omega
theorem bgn_sums (ls : List (List Bool)) (j : Nat) : ((ls.map List.length).take j).sum = bgn ls j := by
  unfold bgn
  rw [List.length_flatten, List.map_take]
theorem flat_drop (ls : List (List Bool)) (j : Nat) : (ls.drop j).flatten = ls.flatten.drop (bgn ls j) := by
  have e := congrArg List.flatten (List.take_append_drop j ls)
  rw [List.flatten_append] at e
  rw [← e]
  unfold bgn
  rw [List.drop_left]
theorem flat_take (ls : List (List Bool)) (j : Nat) : (ls.take j).flatten = ls.flatten.take (bgn ls j) := by
  have e := congrArg List.flatten (List.take_append_drop j ls)
  rw [List.flatten_append] at e
  rw [← e]
  unfold bgn
  rw [List.take_left]
theorem bgn_drop (ls : List (List Bool)) (i j : Nat) : bgn (ls.drop i) j = bgn ls (i + j) - bgn ls i := by
  have e : ls.take (i + j) = ls.take i ++ (ls.drop i).take j := by rw [List.take_add]
  unfold bgn
  rw [e, List.flatten_append, List.length_append]
  omega
theorem flat_cut (ls : List (List Bool)) {i j : Nat} (h : i ≤ j) : ((ls.drop i).take (j - i)).flatten = (ls.flatten.drop (bgn ls i)).take (bgn ls j - bgn ls i) := by
  rw [flat_take, flat_drop, bgn_drop, show i + (j - i) = j by omega]
theorem cut_cut (l : List Bool) {b e lo hi : Nat} (h1 : b ≤ lo) (h2 : lo ≤ hi) (h3 : hi ≤ e) : (((l.drop b).take (e - b)).drop (lo - b)).take (hi - lo) = (l.drop lo).take (hi - lo) := by
  rw [List.drop_take, List.take_take, List.drop_drop, show b + (lo - b) = lo by omega, Nat.min_eq_left (by omega)]
def pcM (L : Nat) : Nat := (L + 127) / 128
def pcAt (L k : Nat) : Nat := k * L / pcM L
def pcs (l : List Bool) : List (List Bool) := (List.range (pcM l.length)).map fun k => (l.drop (pcAt l.length k)).take (pcAt l.length (k + 1) - pcAt l.length k)
theorem pcAt_zero (L : Nat) : pcAt L 0 = 0 := by unfold pcAt; rw [Nat.zero_mul, Nat.zero_div]
theorem pcAt_all {L : Nat} (h : 0 < L) : pcAt L (pcM L) = L := by
  unfold pcAt
  exact Nat.mul_div_cancel_left L (by unfold pcM; omega)
theorem pcAt_mono {L i j : Nat} (h : i ≤ j) : pcAt L i ≤ pcAt L j := Nat.div_le_div_right (Nat.mul_le_mul_right L h)
theorem pcAt_le {L k : Nat} (h : k ≤ pcM L) : pcAt L k ≤ L := by
  by_cases h0 : L = 0
  · subst h0; unfold pcAt; rw [Nat.mul_zero, Nat.zero_div]; exact Nat.zero_le _
  · have := pcAt_mono (L := L) h
    rw [pcAt_all (by omega)] at this
    exact this
theorem pcAt_step {L k : Nat} (h : 0 < L) : pcAt L k + 1 ≤ pcAt L (k + 1) ∧ pcAt L (k + 1) ≤ pcAt L k + 128 := by
  have hm : 0 < pcM L := by unfold pcM; omega
  have h1 : pcM L ≤ L := by unfold pcM; omega
  have h2 : L ≤ pcM L * 128 := by unfold pcM; omega
  unfold pcAt
  constructor
  · rw [Nat.le_div_iff_mul_le hm, Nat.add_mul, Nat.one_mul, Nat.succ_mul]
    have := Nat.div_mul_le_self (k * L) (pcM L)
    omega
  · have h3 : (k + 1) * L ≤ k * L + 128 * pcM L := by rw [Nat.succ_mul]; omega
    have := Nat.div_le_div_right (c := pcM L) h3
    rw [Nat.add_mul_div_right _ _ hm] at this
    exact this
theorem pcAt_two {L k : Nat} (h : 2 ≤ pcM L) : pcAt L k + 64 < pcAt L (k + 2) := by
  have hm : 0 < pcM L := by omega
  have h2 : 66 * pcM L ≤ 2 * L := by unfold pcM at h ⊢; omega
  have e : (k + 2) * L = k * L + 2 * L := by rw [Nat.add_mul]
  have h3 : k * L + 65 * pcM L ≤ (k + 2) * L := by omega
  unfold pcAt
  have := Nat.div_le_div_right (c := pcM L) h3
  rw [Nat.add_mul_div_right _ _ hm] at this
  omega
theorem pcs_len (l : List Bool) : (pcs l).length = pcM l.length := by unfold pcs; rw [List.length_map, List.length_range]
theorem pcs_at {l : List Bool} {k : Nat} (h : k < pcM l.length) : (pcs l)[k]? = some ((l.drop (pcAt l.length k)).take (pcAt l.length (k + 1) - pcAt l.length k)) := by
  unfold pcs
  rw [List.getElem?_map, List.getElem?_range h]
  rfl
theorem pcs_size {l : List Bool} {k : Nat} (h : k < pcM l.length) : ((l.drop (pcAt l.length k)).take (pcAt l.length (k + 1) - pcAt l.length k)).length = pcAt l.length (k + 1) - pcAt l.length k := by
  have := pcAt_le (L := l.length) (k := k + 1) h
  rw [List.length_take, List.length_drop]
  omega
def Sized (ls : List (List Bool)) : Prop := ∀ (k : Nat) (x : List Bool), ls[k]? = some x → 0 < x.length ∧ x.length ≤ 128
theorem pcM_pos {L k : Nat} (h : k < pcM L) : 0 < L := by unfold pcM at h; omega
theorem pcs_sized (l : List Bool) : Sized (pcs l) := fun k x h => by
  have hk := (List.getElem?_eq_some_iff.mp h).1
  rw [pcs_len] at hk
  rw [pcs_at hk] at h
  obtain rfl := Option.some.inj h
  rw [pcs_size hk]
  have := pcAt_step (k := k) (pcM_pos hk)
  omega
theorem pcs_pre (l : List Bool) : ∀ k, k ≤ pcM l.length → ((pcs l).take k).flatten = l.take (pcAt l.length k)
  | 0, _ => by rw [pcAt_zero]; rfl
  | k + 1, h => by
    rw [List.take_add_one, pcs_at (by omega), List.flatten_append, pcs_pre l k (by omega)]
    have hm := pcAt_mono (L := l.length) (show k ≤ k + 1 by omega)
    show _ ++ ([_] : List (List Bool)).flatten = _
    rw [List.flatten_singleton]
    have : pcAt l.length (k + 1) = pcAt l.length k + (pcAt l.length (k + 1) - pcAt l.length k) := by omega
    conv => rhs; rw [this, List.take_add]
theorem pcs_flat (l : List Bool) : (pcs l).flatten = l := by
  have := pcs_pre l (pcM l.length) (Nat.le_refl _)
  rw [List.take_of_length_le (by rw [pcs_len]; exact Nat.le_refl _)] at this
  rw [this]
  by_cases h : l.length = 0
  · rw [List.eq_nil_of_length_eq_zero h]; rfl
  · rw [pcAt_all (by omega), List.take_length]
def Wide2 (ls : List (List Bool)) : Prop := ∀ (k : Nat) (x y : List Bool), ls[k]? = some x → ls[k + 1]? = some y → 64 < x.length + y.length
theorem pcs_wide (l : List Bool) : Wide2 (pcs l) := fun k x y h1 h2 => by
  have hk := (List.getElem?_eq_some_iff.mp h2).1
  rw [pcs_len] at hk
  rw [pcs_at (by omega)] at h1
  rw [pcs_at hk] at h2
  obtain rfl := Option.some.inj h1
  obtain rfl := Option.some.inj h2
  rw [pcs_size (by omega), pcs_size hk]
  have := pcAt_two (L := l.length) (k := k) (by omega)
  have := pcAt_mono (L := l.length) (show k ≤ k + 1 by omega)
  have := pcAt_mono (L := l.length) (show k + 1 ≤ k + 1 + 1 by omega)
  rw [show k + 1 + 1 = k + 2 by omega] at *
  omega
def Kp (H H' : Hp) : Prop := ∀ b u, (∀ ps, u ≠ HO.tbl ps) → H b = some u → H' b = some u
theorem Same.kp {H H' : Hp} (s : Same H H') : Kp H H' := fun b u _ e => s b u e
theorem SmT.kp {ts : List Tb} {H H' : Hp} (s : SmT ts H H') : Kp H H' := fun b u n e => s.sm.keep b u n e
theorem Kp.k {H H' : Hp} (s : Kp H H') {b : Addr} {u : HO} (h : H b = some u) (n : ∀ ps, u ≠ .tbl ps := by intro ps e; cases e) : H' b = some u := s b u n h

structure Z_Piece (K : PySem.W.Frag) (C : Addr) : Prop where
  cl : Cls K C
  n_signs : NoAttr K C "signs"
  n_kept_sums : NoAttr K C "kept_sums"
  n_greatest : NoAttr K C "greatest"
  n_often_least : NoAttr K C "often_least"
structure Z_PiecedRow (K : PySem.W.Frag) (C : Addr) : Prop where
  cl : Cls K C
  n_kept_pieces : NoAttr K C "kept_pieces"
  n_begins : NoAttr K C "begins"
  n_knots_ahead : NoAttr K C "knots_ahead"
  n_length : NoAttr K C "length"
  n_kept_table : NoAttr K C "kept_table"
  n_often_least : NoAttr K C "often_least"
structure Z_Shaped (K : PySem.W.Frag) (C : Addr) : Prop where
  cl : Cls K C
  n_pairs : NoAttr K C "pairs"
  n_earlier : NoAttr K C "earlier"
structure Txt (K : PySem.W.Frag) (mg : Str → Option Value) (C_Wood : Addr) (C_Shaped : Addr) : Prop where
  g_Wood : mg "Wood" = some (.ref C_Wood)
  ca_Shaped : PySem.W.findIn K (.ref C_Shaped) "__class__" = some (some (.builtin "object.__class__"))
  sp_Shaped : PySem.W.specialIn K (.builtin "object.__class__") "__get__" = some (some (.builtin "getset_descriptor.__get__"))
  tk_Shaped : PySem.W.takesIn K (.builtin "object.__class__") = some true
  mo_Shaped : PySem.W.mroIn K C_Shaped (.type "object") = some true
  kit_Shaped_Wood : PySem.W.kitOne K (.ref C_Shaped) (.ref C_Wood) = some true
  g_MOST_KNOTS : ∃ t, mg "MOST_KNOTS" = some (.int 4000 t)
  g_MOST_SIGNS_pairs : ∃ t, mg "MOST_SIGNS_pairs" = some (.int 8192 t)
  g_MOST_SIGNS_woods : ∃ t, mg "MOST_SIGNS_woods" = some (.int 8000 t)
  g_PIECE_SIGNS : ∃ t, mg "PIECE_SIGNS" = some (.int 128 t)
  n_range : mg "range" = none
  n_len : mg "len" = none
  n_int : mg "int" = none
  n_bool : mg "bool" = none
  n_str : mg "str" = none
  n_isinstance : mg "isinstance" = none
  n_list : mg "list" = none
  n_tuple : mg "tuple" = none
  n_zip : mg "zip" = none
  n_enumerate : mg "enumerate" = none
  n_abs : mg "abs" = none
  n_max : mg "max" = none
  n_min : mg "min" = none
section
variable {P : Program} {w : World} {K : PySem.W.Frag} {mg : Str → Option Value} {base : Heap} {C_Piece C_PiecedRow C_Shaped C_Wood : Addr}
def spWholeT : Sp := fun vs H Q _ => ∃ i : Int, vs = [.int i] ∧ Q (.bl true) H
theorem ok_is_whole {f : Addr} {fd : FuncData} (F : Fun K "is_whole" "is_whole" s_is_whole f fd) (T : Txt K mg C_Wood C_Shaped) : FnOk P w K mg base CX0 1 f fd ["thing"] spWholeT := by
  refine F.ok sc_is_whole (fun vs H Q E h => ?_) (fun cdv A outer s H vs Q E hr h => ?_)
  · obtain ⟨i, rfl, _⟩ := h
    rfl
  · obtain ⟨i, rfl, q⟩ := h
    refine ⟨_, (pss_one (ps_ret (pe_and (pe_callB call_isinst (by rfl) T.n_isinstance b_isinstance (pa_d (pv 0) (pa_d (pe_bltn (v := .ty "int") rfl T.n_int b_int rfl) pa_nil rfl) rfl)) (pe_one (pe_not (pe_callB call_isinst (by rfl) T.n_isinstance b_isinstance (pa_d (pv 0) (pa_d (pe_bltn (v := .ty "bool") rfl T.n_bool b_bool rfl) pa_nil rfl) rfl))))))), ?_⟩
    k_is
    refine ⟨_, _, _, _, rfl, .int _, kit_int_int, ?_⟩
    k_is
    refine ⟨_, _, _, _, rfl, .int _, kit_int_bool, ?_⟩
    k_is
    exact q

theorem ok_first_that {f : Addr} {fd : FuncData} (F : Fun K "first_that" "first_that" s_first_that f fd) (T : Txt K mg C_Wood C_Shaped) : FnOk P w K mg base CX0 3 f fd ["low", "high", "holds"] (spFirst P w K mg base 2) := by
  refine F.ok sc_first_that (fun vs H Q E h => ?_) (fun cdv A outer s H vs Q E hr h => ?_)
  · obtain ⟨lo, hi, g, p, rfl, _⟩ := h
    rfl
  · obtain ⟨lo, hi, g, p, rfl, hle, hA, q⟩ := h
    refine ⟨_, (pss_cons (ps_while PassesOwn.never (pt_cmpR op_lt (pv 0) (pv 1) (nomark _))
      (pss_cons (ps_set (i := 3) sc_first_that.nd rfl (Or.inl rfl) (pe_op op_fdiv (pe_op op_add (pv 0) (pv 1)) pe_int))
      (pss_one (ps_if (pt_val (pe_ask (k := 2) (hr.mono (by decide : 2 ≤ _)) (i := 2) rfl rfl (pv 3))) (pss_one (ps_set (i := 1) sc_first_that.nd rfl (Or.inl rfl) (pv 3)))
      (pss_one (ps_set (i := 0) sc_first_that.nd rfl (Or.inl rfl) (pe_op op_add (pv 3) pe_int)))))))
      (pss_one (ps_ret (pv 0)))), ?_⟩
    k_is
    refine while_rd (fun σ H' => Same H H' ∧ ∃ (x y : Int) (v : Option V), σ = [some (.int x), some (.int y), some (.ref g), v] ∧ lo ≤ x ∧ x ≤ y ∧ y ≤ hi ∧ (lo < x → p (x - 1) = false) ∧ (y < hi → p y = true)) (fun σ _ => match σ with | [some (.int x), some (.int y), _, _] => (y - x).toNat | _ => 0) ⟨Same.refl _, lo, hi, none, rfl, Int.le_refl _, hle, Int.le_refl _, fun z => absurd z (Int.lt_irrefl _), fun z => absurd z (Int.lt_irrefl _)⟩ ?_
    rintro μ σ H' ⟨sm, x, y, v, rfl, h1, h2, h3, h4, h5⟩ hμ
    k_is
    refine iteP (fun hw => ?_) (fun hw => ?_)
    · refine r_turn ?_
      k_is
      refine ⟨g, _, p, rfl, hA.same sm, ?_⟩
      k_is
      refine ⟨_, rfl, Same.refl _, by constructor <;> omega, fun H2 s2 => ?_⟩
      k_is
      have hμ' : y - x = (μ : Int) := by
        have : (y - x).toNat = μ := hμ
        omega
      cases hp : p ((x + y) / 2) with
      | true =>
        k_is
        refine ⟨⟨sm.trans s2, x, (x + y) / 2, _, rfl, h1, by omega, by omega, h4, fun _ => hp⟩, ?_⟩
        show ((x + y) / 2 - x).toNat < μ
        omega
      | false =>
        k_is
        refine ⟨⟨sm.trans s2, (x + y) / 2 + 1, y, _, rfl, by omega, by omega, h3, fun _ => by rw [show (x + y) / 2 + 1 - 1 = (x + y) / 2 by omega]; exact hp, h5⟩, ?_⟩
        show (y - ((x + y) / 2 + 1)).toNat < μ
        omega
    · k_is
      obtain rfl : x = y := by omega
      exact q x H' h1 h3 h4 h5 sm

def spRun : Sp := fun vs H Q _ => ∃ (a : Addr) (xs : List Nat), vs = [.ref a] ∧ H a = some (.lst (nV xs)) ∧ xs.length ≤ 1000 ∧ ∀ p H', Same H H' → H p = none → H' p = some (.lst (nV ((List.range (xs.length + 1)).map fun i => (xs.take i).sum))) → Q (.ref p) H'
theorem ok_running_sums {f : Addr} {fd : FuncData} (F : Fun K "running_sums" "running_sums" s_running_sums f fd) (T : Txt K mg C_Wood C_Shaped) : FnOk P w K mg base CX0 1 f fd ["numbers"] spRun := by
  refine F.ok sc_running_sums (fun vs H Q E h => ?_) (fun cdv A outer s H vs Q E hr h => ?_)
  · obtain ⟨a, xs, rfl, _⟩ := h
    rfl
  · obtain ⟨a, xs, rfl, ha, hn, q⟩ := h
    refine ⟨_, (pss_cons (ps_set (i := 1) sc_running_sums.nd rfl (Or.inl rfl) (pe_lst (pa_d pe_int pa_nil rfl)))
      (pss_cons (ps_for PassesOwn.never rfl (pi_list (pv 0)) (pg_name (i := 2) sc_running_sums.nd rfl (Or.inl rfl))
      (pss_one (ps_expr (pe_bm PySem.F.plainAttrs_list PySem.F.slot_list_append PySem.F.type_list_append mt_append (pv 1) (pa_d (pe_op op_add (pe_ix ix_list (pv 1) (pe_un un_neg pe_int) (fun _ _ => rfl)) (pv 2)) pa_nil rfl)))))
      (pss_one (ps_ret (pv 1))))), ?_⟩
    k_is
    refine ⟨few (by simp), fun p hp => ?_⟩
    have t0 := same_upd (o := .lst [V.int 0]) hp
    k_is
    refine ⟨a, rfl, ⟨_, SqL.of (t0 _ _ ha)⟩, ?_⟩
    refine for_list (xs := nV xs) (fun i σ H1 => (∃ v : Option V, σ = [some (.ref a), some (.ref p), v]) ∧ H1 p = some (.lst (nV ((List.range (i + 1)).map fun i => (xs.take i).sum))) ∧ Same H H1) ⟨⟨_, rfl⟩, upd_same, t0⟩ (fun i σ H1 _ h => SqL.of (h.2.2 _ _ ha)) ?_ ?_
    · rintro i x σ H1 hx ⟨⟨v, rfl⟩, hp1, s1⟩
      have hi := at_lt hx
      rw [show (nV xs).length = xs.length by unfold nV; rw [List.length_map]] at hi
      obtain rfl : x = .int (xs[i] : Nat) := by
        unfold nV at hx
        rw [List.getElem?_map, List.getElem?_eq_getElem hi] at hx
        exact (Option.some.inj hx).symm
      k_is
      refine ⟨.inl ⟨rfl, _, SqL.of hp1⟩, ?_⟩
      k_is
      refine r_ixL (SqL.of hp1) (v := .int ((xs.take i).sum : Nat)) ?_ ?_
      · rw [nV_range]
        exact atI_last _ _
      k_is
      refine r_append hp1 ?_ ?_
      · unfold nV
        rw [List.length_map, List.length_map, List.length_range]
        exact small20000 (by omega)
      k_is
      refine ⟨⟨_, rfl⟩, ?_, fun b u e => ?_⟩
      · rw [upd_same, nV_range _ (i + 1), List.take_add_one, List.getElem?_eq_getElem hi, List.sum_append]
        show some (HO.lst (_ ++ [V.int (((xs.take i).sum : Nat) + (xs[i] : Nat) : Int)])) = some (HO.lst (_ ++ [V.int (((xs.take i).sum + [xs[i]].sum : Nat) : Int)]))
        rw [List.sum_singleton, Int.natCast_add]
      · rw [upd_ne (ne_of_none e hp)]
        exact s1 _ _ e
    · rintro σ H1 ⟨⟨v, rfl⟩, hp1, s1⟩
      rw [show (nV xs).length = xs.length by unfold nV; rw [List.length_map]] at hp1
      k_is
      exact q p H1 s1 hp hp1

def hgt (l : List Bool) (i : Nat) : Int := 2 * ((l.take i).count true : Int) - i
def hts (l : List Bool) (i : Nat) : List Int := (List.range i).map fun j => hgt l (j + 1)
theorem hts_succ (l : List Bool) (i : Nat) : hts l (i + 1) = hts l i ++ [hgt l (i + 1)] := by
  unfold hts
  rw [List.range_succ, List.map_append]
  rfl
theorem hgt_succ {l : List Bool} {i : Nat} {b : Bool} (h : l[i]? = some b) : hgt l (i + 1) = hgt l i + if b then 1 else -1 := by
  unfold hgt
  rw [List.take_add_one, h, List.count_append]
  cases b <;> simp <;> omega
def spHeights : Sp := fun vs H Q _ => ∃ l : List Bool, vs = [.str (signs l), .int 0] ∧ l.length ≤ 1000 ∧ ∀ p H', Same H H' → H p = none → H' p = some (.lst ((hts l l.length).map V.int)) → Q (.ref p) H'
theorem ok_heights_of {f : Addr} {fd : FuncData} (F : Fun K "heights_of" "heights_of" s_heights_of f fd) (T : Txt K mg C_Wood C_Shaped) : FnOk P w K mg base CX0 1 f fd ["text", "begin"] spHeights := by
  refine F.ok sc_heights_of (fun vs H Q E h => ?_) (fun cdv A outer s H vs Q E hr h => ?_)
  · obtain ⟨l, rfl, _⟩ := h
    rfl
  · obtain ⟨l, rfl, hl, q⟩ := h
    refine ⟨_, (pss_cons (ps_set (i := 2) sc_heights_of.nd rfl (Or.inl rfl) (pv 1))
      (pss_cons (ps_set (i := 3) sc_heights_of.nd rfl (Or.inl rfl) (pe_lst pa_nil))
      (pss_cons (ps_for PassesOwn.never rfl (pi_str (pv 0)) (pg_name (i := 4) sc_heights_of.nd rfl (Or.inl rfl))
      (pss_cons (ps_aug (i := 2) sc_heights_of.nd rfl (Or.inl rfl) (pe_ifExp (pt_cmpR op_eq (pv 4) pe_str (nomark _)) pe_int (pe_un un_neg pe_int)) ip_add)
      (pss_one (ps_expr (pe_bm PySem.F.plainAttrs_list PySem.F.slot_list_append PySem.F.type_list_append mt_append (pv 3) (pa_d (pv 2) pa_nil rfl))))))
      (pss_one (ps_ret (pv 3)))))), ?_⟩
    k_is
    refine ⟨Nat.zero_le _, fun p hp => ?_⟩
    k_is
    refine ⟨_, rfl, ?_⟩
    refine for_str (fun i σ H1 => ∃ v : Option V, σ = [some (.str (signs l)), some (.int 0), some (.int (hgt l i)), some (.ref p), v] ∧ H1 p = some (.lst ((hts l i).map V.int)) ∧ Same H H1) ⟨_, rfl, upd_same, same_upd hp⟩ ?_ ?_
    · rintro i c σ H1 hc ⟨v, rfl, hp1, sm⟩
      obtain ⟨b, hb, rfl⟩ := sign_of hc
      have hi := at_lt hb
      have hh := hgt_succ hb
      have hz1 : ((hts l i).map V.int).length < sizeLine := by
        rw [List.length_map]
        unfold hts
        rw [List.length_map, List.length_range]
        exact small1000 (by omega)
      have fin : ∀ d : Int, hgt l (i + 1) = hgt l i + d → ∃ v : Option V, [some (V.str (signs l)), some (V.int 0), some (V.int (hgt l i + d)), some (V.ref p), some (V.str (sgn (if b then 49 else 48)))] = [some (V.str (signs l)), some (V.int 0), some (V.int (hgt l (i + 1))), some (V.ref p), v] ∧
          (upd H1 p (.lst ((hts l i).map V.int ++ [V.int (hgt l i + d)]))) p = some (.lst ((hts l (i + 1)).map V.int)) ∧ Same H (upd H1 p (.lst ((hts l i).map V.int ++ [V.int (hgt l i + d)]))) := fun d hd => by
        refine ⟨_, by rw [hd], ?_, fun b' u e => ?_⟩
        · rw [upd_same, hts_succ, hd, List.map_append]
          rfl
        · rw [upd_ne (ne_of_none e hp)]
          exact sm _ _ e
      k_is
      refine iteP (fun h1 => ?_) (fun h1 => ?_)
      · have hd : hgt l (i + 1) = hgt l i + 1 := by cases b with | true => exact hh | false => exact absurd h1 (by decide)
        k_is
        refine ⟨.inl ⟨rfl, _, SqL.of hp1⟩, ?_⟩
        k_is
        exact r_append hp1 hz1 (fin 1 hd)
      · have hd : hgt l (i + 1) = hgt l i + -1 := by cases b with | false => exact hh | true => exact absurd rfl h1
        k_is
        refine ⟨.inl ⟨rfl, _, SqL.of hp1⟩, ?_⟩
        k_is
        exact r_append hp1 hz1 (fin (-1) hd)
    · rintro σ H1 ⟨v, rfl, hp1, sm⟩
      rw [show (signs l).cps.size = l.length from signs_len l] at *
      k_is
      exact q p H1 sm hp hp1

def LeastD (l : List Bool) (m : Int) : Prop := (l = [] ∧ m = 0) ∨ IsLeast (hts l l.length) m
def sumsV (l : List Bool) (m : Int) : List V := [.int (l.count true : Nat), .int (hgt l l.length), .int m]
def spSums (K : PySem.W.Frag) : Sp := fun vs H Q _ => ∃ l : List Bool, vs = [.str (signs l)] ∧ l.length ≤ 1000 ∧ ∀ m t H', LeastD l m → Same H H' → H t = none → H' t = some (.tup (sumsV l m)) → Q (.ref t) H'
theorem ok_sums_of {f : Addr} {fd : FuncData} (F : Fun K "sums_of" "sums_of" s_sums_of f fd) (T : Txt K mg C_Wood C_Shaped) (c_heights_of : Cal P w K mg base "heights_of" 1 ["text", "begin"] spHeights) : FnOk P w K mg base CX0 2 f fd ["text"] (spSums K) := by
  refine F.ok sc_sums_of (fun vs H Q E h => ?_) (fun cdv A outer s H vs Q E hr h => ?_)
  · obtain ⟨l, rfl, _⟩ := h
    rfl
  · obtain ⟨l, rfl, hl, q⟩ := h
    refine ⟨_, (pss_cons (ps_set (i := 1) sc_sums_of.nd rfl (Or.inl rfl) (pe_fn c_heights_of (hr.mono (by decide : 1 ≤ _)) (pa_d (pv 0) (pa_d pe_int pa_nil rfl) rfl)))
      (pss_one (ps_ret (pe_tup (pa_d (pe_bm PySem.F.plainAttrs_str PySem.F.slot_str_count PySem.F.type_str_count mt_count (pv 0) (pa_d pe_str pa_nil rfl)) (pa_d (pe_ifExp (pt_cmpR op_gt (pe_callB call_len_seq (by rfl) T.n_len b_len (pa_d (pv 1) pa_nil rfl)) pe_int (nomark _)) (pe_ix ix_list (pv 1) (pe_un un_neg pe_int) (fun _ _ => rfl)) pe_int) (pa_d (pe_callBK (call_minD rfl) (by rfl) T.n_min b_min (pa_d (pv 1) pa_nil rfl) (pk_cons pe_int pk_nil)) pa_nil rfl) rfl) rfl))))), ?_⟩
    k_is
    refine ⟨l, rfl, hl, fun p H1 sm hp hp1 => ?_⟩
    k_is
    refine ⟨rfl, ?_⟩
    k_is
    refine ⟨signs l, 49, rfl, rfl, ?_⟩
    k_is
    rw [(cnt_signs l).1]
    have hlen : ((hts l l.length).map V.int).length = l.length := by rw [List.length_map]; unfold hts; rw [List.length_map, List.length_range]
    refine ⟨p, _, rfl, .inl (SqL.of hp1), ?_⟩
    rw [hlen]
    k_is
    have fin : ∀ m, LeastD l m → ∀ t, H1 t = none → Q (.ref t) (upd H1 t (.tup (sumsV l m))) := fun m hm t ht => q m t _ hm (sm.trans (same_upd ht)) (sm.free ht) upd_same
    have fin2 : ∃ (a : Addr) (ns : List Int) (d : V), ([V.ref p] : List V) = [.ref a] ∧ ([V.int 0] : List V) = [d] ∧ SqL K H1 a (ns.map V.int) ∧ (ns = [] → [V.int (l.count true : Nat), V.int (hgt l l.length), d].length ≤ sizeLine ∧ ∀ t, H1 t = none → Q (.ref t) (upd H1 t (.tup [V.int (l.count true : Nat), V.int (hgt l l.length), d]))) ∧
        (∀ m, IsLeast ns m → [V.int (l.count true : Nat), V.int (hgt l l.length), V.int m].length ≤ sizeLine ∧ ∀ t, H1 t = none → Q (.ref t) (upd H1 t (.tup [V.int (l.count true : Nat), V.int (hgt l l.length), V.int m]))) := by
      refine ⟨p, hts l l.length, .int 0, rfl, rfl, SqL.of hp1, fun e => ?_, fun m hm => ?_⟩
      · refine ⟨few (by simp), fun t ht => fin 0 (.inl ⟨?_, rfl⟩) t ht⟩
        cases l with
        | nil => rfl
        | cons b r => exact absurd e (by simp [hts, List.range_succ])
      · exact ⟨few (by simp), fun t ht => fin m (.inr hm) t ht⟩
    refine iteP (fun h1 => ?_) (fun h1 => ?_)
    · k_is
      refine r_ixL (SqL.of hp1) (v := .int (hgt l l.length)) ?_ ?_
      · obtain ⟨n, hn⟩ : ∃ n, l.length = n + 1 := ⟨l.length - 1, by omega⟩
        rw [hn, hts_succ, List.map_append]
        exact atI_last _ _
      k_is
      exact fin2
    · have e0 : l = [] := List.length_eq_zero_iff.mp (by omega)
      have e1 : hgt l l.length = 0 := by rw [e0]; rfl
      rw [e1] at fin2
      k_is
      exact fin2

theorem drop_at {row : List Bool} {i : Nat} {b : Bool} (h : row[i]? = some b) : row.drop i = b :: row.drop (i + 1) := by
  have hi := at_lt h
  rw [List.drop_eq_getElem_cons hi]
  rw [List.getElem?_eq_getElem hi] at h
  rw [Option.some.inj h]
theorem tl_ok {row : List Bool} (hv : Vs 0 row) : ∀ i, i ≤ row.length → ∃ h : Nat, hgt row i = (h : Int) ∧ Vs h (row.drop i) ∧ True
  | 0, _ => ⟨0, rfl, hv, trivial⟩
  | i + 1, hi => by
    obtain ⟨h, h1, h2, _⟩ := tl_ok hv i (by omega)
    obtain ⟨b, hb⟩ : ∃ b, row[i]? = some b := ⟨row[i], List.getElem?_eq_getElem (by omega)⟩
    have hs := hgt_succ hb
    rw [drop_at hb] at h2
    cases b with
    | false =>
      obtain ⟨g, rfl⟩ : ∃ g, h = g + 1 := ⟨h - 1, by have := h2.1; omega⟩
      have hs : hgt row (i + 1) = hgt row i + -1 := hs
      exact ⟨g, by omega, h2.2, trivial⟩
    | true =>
      have hs : hgt row (i + 1) = hgt row i + 1 := hs
      exact ⟨h + 1, by omega, h2, trivial⟩
theorem made_same {H1 H2 : Hp} {x dx C : Addr} (hx : H1 x = none) (hd : H1 dx = none) (s : SameBut x (upd (upd H1 dx (.own x)) x (.ins C dx [])) H2) : Same H1 H2 := fun b u e => s b u (ne_of_none e hx) (by rw [upd_ne (ne_of_none e hx), upd_ne (ne_of_none e hd)]; exact e)
theorem new_same {H1 : Hp} {x dx : Addr} {o o' : HO} (hx : H1 x = none) (hd : H1 dx = none) : Same H1 (upd (upd H1 dx o) x o') := fun b u e => by rw [upd_ne (ne_of_none e hx), upd_ne (ne_of_none e hd)]; exact e
def pFs (s t g o : V) : List (Str × V) := [("signs", s), ("kept_sums", t), ("greatest", g), ("often_least", o)]
def IsPiece (C : Addr) (H : Hp) (a : Addr) (x : List Bool) : Prop := ∃ (dx t : Addr) (m g : Int) (o : V), H a = some (.ins C dx (pFs (.str (signs x)) (.ref t) (.int g) o)) ∧ H t = some (.tup (sumsV x m)) ∧ LeastD x m
theorem IsPiece.kp {C a : Addr} {H H' : Hp} {x : List Bool} (h : IsPiece C H a x) (s : Kp H H') : IsPiece C H' a x := by
  obtain ⟨dx, t, m, g, o, h1, h2, h3⟩ := h
  exact ⟨dx, t, m, g, o, s.k h1, s.k h2, h3⟩
def Pcs (C : Addr) (H : Hp) (as : List Addr) (ls : List (List Bool)) : Prop := as.length = ls.length ∧ ∀ (k : Nat) (a : Addr) (x : List Bool), as[k]? = some a → ls[k]? = some x → IsPiece C H a x
theorem Pcs.kp {C : Addr} {H H' : Hp} {as : List Addr} {ls : List (List Bool)} (h : Pcs C H as ls) (s : Kp H H') : Pcs C H' as ls := ⟨h.1, fun k a x e1 e2 => (h.2 k a x e1 e2).kp s⟩
theorem Pcs.get {C : Addr} {H : Hp} {as : List Addr} {ls : List (List Bool)} (h : Pcs C H as ls) {k : Nat} {v : V} (e : (as.map V.ref)[k]? = some v) : ∃ a x, v = .ref a ∧ as[k]? = some a ∧ ls[k]? = some x ∧ IsPiece C H a x := by
  rw [List.getElem?_map] at e
  cases ea : as[k]? with
  | none => rw [ea] at e; cases e
  | some a =>
    rw [ea] at e
    have hk := (List.getElem?_eq_some_iff.mp ea).1
    have hx : ls[k]? = some (ls[k]'(by rw [← h.1]; exact hk)) := List.getElem?_eq_getElem _
    exact ⟨a, _, (Option.some.inj e).symm, rfl, hx, h.2 k a _ ea hx⟩
theorem Pcs.but {C C' x dx : Addr} {H H' : Hp} {as : List Addr} {ls : List (List Bool)} {fs : List (Str × V)} (h : Pcs C H as ls) (s : SameBut x H H') (hx : H x = some (.ins C' dx fs)) (hne : ∀ a ∈ as, a ≠ x) : Pcs C H' as ls := ⟨h.1, fun k a y e1 e2 => by
  obtain ⟨d, t, m, g, o, h1, h2, h3⟩ := h.2 k a y e1 e2
  refine ⟨d, t, m, g, o, s _ _ (hne a (List.mem_of_getElem? e1)) h1, s _ _ (fun e => ?_) h2, h3⟩
  rw [e, hx] at h2
  cases h2⟩
def prFs1 (p : V) : List (Str × V) := [("kept_pieces", p)]
def prFs2 (p b : V) : List (Str × V) := [("kept_pieces", p), ("begins", b)]
def prFs3 (p b k : V) : List (Str × V) := [("kept_pieces", p), ("begins", b), ("knots_ahead", k)]
def prFs (p b k n t o : V) : List (Str × V) := [("kept_pieces", p), ("begins", b), ("knots_ahead", k), ("length", n), ("kept_table", t), ("often_least", o)]
def bgs (ls : List (List Bool)) : List V := nV ((List.range (ls.length + 1)).map fun j => bgn ls j)
theorem bgs_len (ls : List (List Bool)) : (bgs ls).length = ls.length + 1 := by unfold bgs nV; rw [List.length_map, List.length_map, List.length_range]
theorem bgs_at {ls : List (List Bool)} {j : Nat} (h : j ≤ ls.length) : (bgs ls)[j]? = some (.int (bgn ls j : Nat)) := by
  unfold bgs nV
  rw [List.getElem?_map, List.getElem?_map, List.getElem?_range (by omega)]
  rfl
structure PRow (C : Addr) (H : Hp) (p b : Addr) (ls : List (List Bool)) : Prop where
  pcs : ∃ as : List Addr, H p = some (.lst (as.map V.ref)) ∧ Pcs C H as ls
  bg : H b = some (.lst (bgs ls))
  sz : Sized ls
  fw : ls.length ≤ 400
def IsPRow (C CR : Addr) (H : Hp) (x : Addr) (ls : List (List Bool)) : Prop := ∃ (dx p b : Addr) (k t o : V), H x = some (.ins CR dx (prFs (.ref p) (.ref b) k (.int (ls.flatten.length : Nat)) t o)) ∧ PRow C H p b ls
theorem PRow.kp {C p b : Addr} {H H' : Hp} {ls : List (List Bool)} (h : PRow C H p b ls) (s : Kp H H') : PRow C H' p b ls := by
  obtain ⟨as, h1, h2⟩ := h.pcs
  exact ⟨⟨as, s.k h1, h2.kp s⟩, s.k h.bg, h.sz, h.fw⟩
theorem IsPRow.kp {C CR x : Addr} {H H' : Hp} {ls : List (List Bool)} (h : IsPRow C CR H x ls) (s : Kp H H') : IsPRow C CR H' x ls := by
  obtain ⟨dx, p, b, k, t, o, h1, h2⟩ := h
  exact ⟨dx, p, b, k, t, o, s.k h1, h2.kp s⟩
def shFs (p e : V) : List (Str × V) := [("pairs", p), ("earlier", e)]
def IsShaped (C CR CS : Addr) (H : Hp) (x : Addr) (ls : List (List Bool)) : Prop := ∃ (dx r : Addr) (e : V), H x = some (.ins CS dx (shFs (.ref r) e)) ∧ IsPRow C CR H r ls
theorem IsShaped.kp {C CR CS x : Addr} {H H' : Hp} {ls : List (List Bool)} (h : IsShaped C CR CS H x ls) (s : Kp H H') : IsShaped C CR CS H' x ls := by
  obtain ⟨dx, r, e, h1, h2⟩ := h
  exact ⟨dx, r, e, s.k h1, h2.kp s⟩
def spHInitR (CR : Addr) : Sp := fun vs H Q _ => ∃ (x dx : Addr) (p b k n t o : V), vs = [.ref x, n, t, o] ∧ H x = some (.ins CR dx (prFs3 p b k)) ∧ Q .non (upd H x (.ins CR dx (prFs p b k n t o)))
theorem ok_Heights_init {f : Addr} {fd : FuncData} (F : Fun K "__init__" "Heights.__init__" s_Heights_init f fd) (T : Txt K mg C_Wood C_Shaped) (Z : Z_PiecedRow K C_PiecedRow) : FnOk P w K mg base CX0 1 f fd ["self", "length", "table", "often_least"] (spHInitR C_PiecedRow) := by
  refine F.ok sc_Heights_init (fun vs H Q E h => ?_) (fun cdv A outer s H vs Q E hr h => ?_)
  · obtain ⟨x, dx, p, b, k, n, t, o, rfl, _⟩ := h
    rfl
  · obtain ⟨x, dx, p, b, k, n, t, o, rfl, hx, q⟩ := h
    refine ⟨_, (pss_cons (ps_fld (pv 0) (pv 1) rfl)
      (pss_cons (ps_fld (pv 0) (pv 2) rfl)
      (pss_one (ps_fld (pv 0) (pv 3) rfl)))), ?_⟩
    k_is
    refine r_sfldE hx Z.cl Z.n_length (show 3 < 1000 by decide) ?_
    k_is
    refine r_sfldE upd_same Z.cl Z.n_kept_table (show 4 < 1000 by decide) ?_
    rw [upd_upd]
    k_is
    refine r_sfldE upd_same Z.cl Z.n_often_least (show 5 < 1000 by decide) ?_
    rw [upd_upd]
    exact q

def spRSize (C CR : Addr) : Sp := fun vs H Q _ => ∃ (x : Addr) (ls : List (List Bool)), vs = [.ref x] ∧ IsPRow C CR H x ls ∧ Q (.int (ls.flatten.length : Nat)) H
theorem ok_Heights_size {f : Addr} {fd : FuncData} (F : Fun K "size" "Heights.size" s_Heights_size f fd) (T : Txt K mg C_Wood C_Shaped) (Z : Z_PiecedRow K C_PiecedRow) : FnOk P w K mg base CX0 1 f fd ["self"] (spRSize C_Piece C_PiecedRow) := by
  refine F.ok sc_Heights_size (fun vs H Q E h => ?_) (fun cdv A outer s H vs Q E hr h => ?_)
  · obtain ⟨x, ls, rfl, _⟩ := h
    rfl
  · obtain ⟨x, ls, rfl, ⟨dx, p, b, k, t, o, hx, _⟩, q⟩ := h
    refine ⟨_, (pss_one (ps_ret (pe_fld (pv 0) rfl))), ?_⟩
    k_is
    exact ⟨x, C_PiecedRow, dx, _, _, rfl, hx, Z.cl, Z.n_length, rfl, q⟩

def spCheck : Sp := fun vs H Q _ => ∃ l : List Bool, vs = [.str (signs l)] ∧ Vs 0 l ∧ l.length ≤ 8000 ∧ ∀ H', Same H H' → Q .non H'
theorem ok_check_row {f : Addr} {fd : FuncData} (F : Fun K "check_row" "check_row" s_check_row f fd) (T : Txt K mg C_Wood C_Shaped) : FnOk P w K mg base CX0 1 f fd ["text"] spCheck := by
  refine F.ok sc_check_row (fun vs H Q E h => ?_) (fun cdv A outer s H vs Q E hr h => ?_)
  · obtain ⟨l, rfl, _⟩ := h
    rfl
  · obtain ⟨l, rfl, hv, hn, q⟩ := h
    refine ⟨_, (pss_cons (ps_if (pt_not (pt_val (pe_callB call_isinst (by rfl) T.n_isinstance b_isinstance (pa_d (pv 0) (pa_d (pe_bltn (v := .ty "str") rfl T.n_str b_str rfl) pa_nil rfl) rfl)))) (pss_one ps_never)
      pss_nil)
      (pss_cons (ps_set (i := 1) sc_check_row.nd rfl (Or.inl rfl) pe_int)
      (pss_cons (ps_for PassesOwn.never rfl (pi_enumS rfl T.n_enumerate (pa_d (pv 0) pa_nil rfl)) (pg_tup rfl (pgs_cons (pg_name (i := 2) sc_check_row.nd rfl (Or.inl rfl)) (pgs_cons (pg_name (i := 3) sc_check_row.nd rfl (Or.inl rfl)) pgs_nil)))
      (pss_cons (ps_aug (i := 1) sc_check_row.nd rfl (Or.inl rfl) (pe_ifExp (pt_cmpR op_eq (pv 3) pe_str (nomark _)) pe_int (pe_un un_neg pe_int)) ip_add)
      (pss_one (ps_if (PW.pt (pw_or (pt_cmpR op_notIn_str (pv 3) pe_str rfl) (pw_or (pt_cmpR op_lt (pv 1) pe_int (nomark _)) (pw_or1 (pt_cmpR op_eq (pv 2) (pe_globI rfl T.g_MOST_SIGNS_pairs) (nomark _)))))) (pss_one ps_never)
      pss_nil))))
      (pss_one (ps_if (pt_cmpR op_gt (pv 1) pe_int (nomark _)) (pss_one ps_never)
      pss_nil))))), ?_⟩
    k_is
    refine ⟨_, _, _, _, rfl, .str _, kit_str_str, ?_⟩
    k_is
    refine ⟨_, rfl, ?_⟩
    refine for_enumS (fun i σ H1 => (∃ v2 v3 : Option V, σ = [some (.str (signs l)), some (.int (hgt l i)), v2, v3]) ∧ Same H H1) ⟨⟨_, _, rfl⟩, Same.refl _⟩ ?_ ?_
    · rintro i c σ H1 t hc ⟨⟨v2, v3, rfl⟩, s1⟩ ht
      obtain ⟨b, hb, rfl⟩ := sign_of hc
      have hi := at_lt hb
      have hs := hgt_succ hb
      obtain ⟨h, hh, _⟩ := tl_ok hv (i + 1) (by omega)
      have s2 := s1.trans (same_upd (o := .tup [.int i, .str (sgn (if b then 49 else 48))]) ht)
      generalize upd H1 t (.tup [.int i, .str (sgn (if b then 49 else 48))]) = H2 at *
      k_is
      cases b with
      | true =>
        refine iteP (fun _ => ?_) (fun h => absurd rfl h)
        k_is
        refine ⟨_, _, rfl, rfl, ?_⟩
        k_is
        have hs : hgt l (i + 1) = hgt l i + 1 := hs
        rw [← hs, hh]
        rw [show (!(!(Builtin.Str.occurrences ("01" : Str) (sgn (if true = true then 49 else 48)) 0 ("01" : Str).length 1).isEmpty)) = false by decide +kernel]
        k_is
        refine iteP (fun h => by omega) (fun _ => ?_)
        k_is
        refine iteP (fun h => ?_) (fun _ => ?_)
        · have := V.int.inj h
          omega
        k_is
        exact ⟨⟨_, _, rfl⟩, s2⟩
      | false =>
        refine iteP (fun h => absurd h (by decide)) (fun _ => ?_)
        k_is
        refine ⟨_, _, rfl, rfl, ?_⟩
        k_is
        have hs : hgt l (i + 1) = hgt l i + -1 := hs
        rw [← hs, hh]
        rw [show (!(!(Builtin.Str.occurrences ("01" : Str) (sgn (if false = true then 49 else 48)) 0 ("01" : Str).length 1).isEmpty)) = false by decide +kernel]
        k_is
        refine iteP (fun h => by omega) (fun _ => ?_)
        k_is
        refine iteP (fun h => ?_) (fun _ => ?_)
        · have := V.int.inj h
          omega
        k_is
        exact ⟨⟨_, _, rfl⟩, s2⟩
    · rintro σ H1 ⟨⟨v2, v3, rfl⟩, s1⟩
      rw [show (signs l).cps.size = l.length from signs_len l]
      obtain ⟨h, hh, hv2, _⟩ := tl_ok hv l.length (Nat.le_refl _)
      rw [List.drop_of_length_le (Nat.le_refl _)] at hv2
      have hv2 : h = 0 := hv2
      k_is
      refine iteP (fun h => by omega) (fun _ => ?_)
      k_is
      exact q H1 s1

def spLook : Sp := fun vs H Q _ => ∃ (a : Addr) (ds : List Nat), vs = [.ref a] ∧ H a = some (.lst ((elds ds).map V.int)) ∧ Dok ds ∧ ds.length < 4000 ∧ ∀ l H', Same H H' → H' l = some (.lst ((elds ds).map V.int)) → Q (.ref l) H'
theorem ok_look_at {f : Addr} {fd : FuncData} (F : Fun K "look_at" "look_at" s_look_at f fd) (T : Txt K mg C_Wood C_Shaped) (c_is_whole : Cal P w K mg base "is_whole" 1 ["thing"] spWholeT) : FnOk P w K mg base CX0 2 f fd ["elders"] spLook := by
  refine F.ok sc_look_at (fun vs H Q E h => ?_) (fun cdv A outer s H vs Q E hr h => ?_)
  · obtain ⟨a, ds, rfl, _⟩ := h
    rfl
  · obtain ⟨a, ds, rfl, ha, hD, hn, q⟩ := h
    refine ⟨_, (pss_cons (ps_if (pt_not (pt_val (pe_callB call_isinst (by rfl) T.n_isinstance b_isinstance (pa_d (pv 0) (pa_d (pe_bltn (v := .ty "list") rfl T.n_list b_list rfl) pa_nil rfl) rfl)))) (pss_one ps_never)
      pss_nil)
      (pss_cons (ps_set (i := 1) sc_look_at.nd rfl (Or.inl rfl) (pe_lst (pa_d (pe_un un_neg pe_int) pa_nil rfl)))
      (pss_cons (ps_for PassesOwn.never rfl (pi_enum rfl T.n_enumerate (pa_d (pv 0) pa_nil rfl)) (pg_tup rfl (pgs_cons (pg_name (i := 2) sc_look_at.nd rfl (Or.inl rfl)) (pgs_cons (pg_name (i := 3) sc_look_at.nd rfl (Or.inl rfl)) pgs_nil)))
      (pss_cons (ps_if (PW.pt (pw_or (pt_cmpR op_eq (pv 2) (pe_globI rfl T.g_MOST_KNOTS) (nomark _)) (pw_or (pt_not (pt_val (pe_fn c_is_whole (hr.mono (by decide : 1 ≤ _)) (pa_d (pv 3) pa_nil rfl)))) (pw_or1 (pt_cmpR op_lt (pv 3) (pe_un un_neg pe_int) (nomark _)))))) (pss_one ps_never)
      pss_nil)
      (pss_cons (ps_while PassesOwn.never (pt_cmpR op_gt (pe_ix ix_list (pv 1) (pe_un un_neg pe_int) (fun _ _ => rfl)) (pv 3) (nomark _))
      (pss_one (ps_expr (pe_bm0 PySem.F.plainAttrs_list PySem.F.slot_list_pop PySem.F.type_list_pop mt_pop (pv 1)))))
      (pss_cons (ps_if (pt_cmpR op_ne (pe_ix ix_list (pv 1) (pe_un un_neg pe_int) (fun _ _ => rfl)) (pv 3) (nomark _)) (pss_one ps_never)
      pss_nil)
      (pss_one (ps_expr (pe_bm PySem.F.plainAttrs_list PySem.F.slot_list_append PySem.F.type_list_append mt_append (pv 1) (pa_d (pv 2) pa_nil rfl))))))))
      (pss_one (ps_ret (pe_callTy call_list_of (by rfl) T.n_list b_list (pa_d (pv 0) pa_nil rfl))))))), ?_⟩
    k_is
    refine ⟨_, _, _, _, rfl, .lst ha, kit_list_list, ?_⟩
    k_is
    refine ⟨few (by simp), fun p hp => ?_⟩
    k_is
    have t0 := same_upd (o := .lst [V.int (-1)]) hp
    refine ⟨a, rfl, ⟨_, SqL.of (t0 _ _ ha)⟩, ?_⟩
    refine for_enum (xs := (elds ds).map V.int) (fun k σ H1 => (∃ v2 v3 : Option V, σ = [some (.ref a), some (.ref p), v2, v3]) ∧ H1 p = some (.lst ((way ds k).map V.int)) ∧ Same H H1) ⟨⟨_, _, rfl⟩, upd_same, t0⟩ (fun k σ H1 _ h => SqL.of (h.2.2 _ _ ha)) ?_ ?_
    · rintro k x σ H1 t hx ⟨⟨v2, v3, rfl⟩, hp1, s1⟩ ht
      have hk := at_lt hx
      rw [List.length_map, elds_len] at hk
      obtain ⟨e, he, rfl⟩ := iV_get hx
      rw [elds_at hk] at he
      obtain rfl := Option.some.inj he
      have st := same_upd (o := .tup [.int k, .int (eld ds k)]) ht
      have hp2 := st _ _ hp1
      have s2 := s1.trans st
      generalize upd H1 t (.tup [.int k, .int (eld ds k)]) = H2 at *
      k_is
      refine iteP (fun h => ?_) (fun _ => ?_)
      · have := V.int.inj h
        omega
      k_is
      refine ⟨_, rfl, ?_⟩
      k_is
      have hge := eld_ge hD hk
      refine iteP (fun h => by omega) (fun _ => ?_)
      k_is
      have hl := way_len hD k (by omega)
      have hd := hD k hk
      refine while_rd (fun σ H3 => σ = [some (.ref a), some (.ref p), some (.int k), some (.int (eld ds k))] ∧ Same H H3 ∧ ∃ m, dAt ds k + 1 ≤ m ∧ m ≤ (way ds k).length ∧ H3 p = some (.lst (((way ds k).take m).map V.int))) (fun _ H3 => lenAt H3 p)
        ⟨rfl, s2, (way ds k).length, by omega, Nat.le_refl _, by rw [List.take_of_length_le (Nat.le_refl _)]; exact hp2⟩ ?_
      rintro z σ H3 ⟨rfl, s3, m, hm1, hm2, hp3⟩ hz
      rw [lenAt_of hp3, len_take hm2] at hz
      k_is
      have hx1 : (way ds k)[m - 1]? = some ((way ds k)[m - 1]'(by omega)) := List.getElem?_eq_getElem _
      generalize (way ds k)[m - 1]'(by omega) = y at hx1
      refine r_ixL (SqL.of hp3) (last_take (by omega) hx1) ?_
      k_is
      have hea := eld_at hD hk
      refine iteP (fun h => ?_) (fun h => ?_)
      · have hne : m - 1 ≠ dAt ds k := fun e => by
          rw [e, hea] at hx1
          have := Option.some.inj hx1
          omega
        refine r_turn ?_
        k_is
        refine ⟨.inl ⟨rfl, _, SqL.of hp3⟩, ?_⟩
        refine ⟨p, _, .int y, rfl, rfl, hp3, ?_, ?_⟩
        · rw [len_take hm2, iV_at (n := y)]
          rw [List.getElem?_take_of_lt (by omega)]
          exact hx1
        k_is
        rw [drop_last hm2]
        refine ⟨⟨rfl, push_same s3 hp, m - 1, by omega, by omega, upd_same⟩, ?_⟩
        rw [lenAt_of upd_same, len_take (by omega)]
        omega
      · have hme : m = dAt ds k + 1 := by
          by_cases e : m - 1 = dAt ds k
          · omega
          · have := way_lt hD k (dAt ds k) (m - 1) _ _ (by omega) (by omega) hea hx1
            omega
        subst hme
        have hy : y = eld ds k := by
          rw [show dAt ds k + 1 - 1 = dAt ds k by omega, hea] at hx1
          exact (Option.some.inj hx1).symm
        k_is
        refine r_ixL (SqL.of hp3) (last_take (by omega) hx1) ?_
        k_is
        refine iteN (fun h1 => absurd (congrArg V.int hy) h1) (fun _ => ?_)
        k_is
        refine ⟨.inl ⟨rfl, _, SqL.of hp3⟩, ?_⟩
        k_is
        refine r_append hp3 ?_ ?_
        · rw [len_take hm2]
          exact small20000 (by have := opn_le hD k (by omega); omega)
        k_is
        refine ⟨⟨_, _, rfl⟩, ?_, push_same s3 hp⟩
        rw [upd_same]
        show _ = some (HO.lst (((way ds k).take (dAt ds k + 1) ++ [(k : Int)]).map V.int))
        rw [List.map_append]
        rfl
    · rintro σ H1 ⟨⟨v2, v3, rfl⟩, hp1, s1⟩
      k_is
      refine ⟨a, _, rfl, .inl (SqL.of (s1 _ _ ha)), fun l hl => ?_⟩
      exact q l _ (s1.trans (same_upd hl)) upd_same

def spDepths : Sp := fun vs H Q _ => ∃ (a : Addr) (ds : List Nat), vs = [.ref a] ∧ H a = some (.lst ((elds ds).map V.int)) ∧ Dok ds ∧ ds.length < 4000 ∧ ∀ l H', Same H H' → H' l = some (.lst (nV ds)) → Q (.ref l) H'
theorem take_next {ds : List Nat} {k : Nat} (hk : k < ds.length) : nV (ds.take k) ++ [V.int (dAt ds k : Nat)] = nV (ds.take (k + 1)) := by
  rw [List.take_add_one, List.getElem?_eq_getElem hk, ← nV_app]
  unfold dAt List.getD
  rw [List.getElem?_eq_getElem hk]
  rfl
theorem ok_depths_of {f : Addr} {fd : FuncData} (F : Fun K "depths_of" "depths_of" s_depths_of f fd) (T : Txt K mg C_Wood C_Shaped) : FnOk P w K mg base CX0 1 f fd ["elders"] spDepths := by
  refine F.ok sc_depths_of (fun vs H Q E h => ?_) (fun cdv A outer s H vs Q E hr h => ?_)
  · obtain ⟨a, ds, rfl, _⟩ := h
    rfl
  · obtain ⟨a, ds, rfl, ha, hD, hn, q⟩ := h
    refine ⟨_, (pss_cons (ps_set (i := 1) sc_depths_of.nd rfl (Or.inl rfl) (pe_lst pa_nil))
      (pss_cons (ps_for PassesOwn.never rfl (pi_list (pv 0)) (pg_name (i := 2) sc_depths_of.nd rfl (Or.inl rfl))
      (pss_one (ps_expr (pe_bm PySem.F.plainAttrs_list PySem.F.slot_list_append PySem.F.type_list_append mt_append (pv 1) (pa_d (pe_ifExp (pt_cmpR op_eq (pv 2) (pe_un un_neg pe_int) (nomark _)) pe_int (pe_op op_add (pe_ix ix_list (pv 1) (pv 2) (fun _ _ => rfl)) pe_int)) pa_nil rfl)))))
      (pss_one (ps_ret (pv 1))))), ?_⟩
    k_is
    refine ⟨Nat.zero_le _, fun p hp => ?_⟩
    k_is
    have t0 := same_upd (o := .lst []) hp
    refine ⟨a, rfl, ⟨_, SqL.of (t0 _ _ ha)⟩, ?_⟩
    refine for_list (xs := (elds ds).map V.int) (fun k σ H1 => (∃ v2 : Option V, σ = [some (.ref a), some (.ref p), v2]) ∧ H1 p = some (.lst (nV (ds.take k))) ∧ Same H H1) ⟨⟨_, rfl⟩, upd_same, t0⟩ (fun k σ H1 _ h => SqL.of (h.2.2 _ _ ha)) ?_ ?_
    · rintro k x σ H1 hx ⟨⟨v2, rfl⟩, hp1, s1⟩
      have hk := at_lt hx
      rw [List.length_map, elds_len] at hk
      obtain ⟨e, he, rfl⟩ := iV_get hx
      rw [elds_at hk] at he
      obtain rfl := Option.some.inj he
      have hz : (nV (ds.take k)).length < sizeLine := by
        rw [nV_len, List.length_take]
        exact small20000 (by omega)
      k_is
      refine ⟨.inl ⟨rfl, _, SqL.of hp1⟩, ?_⟩
      k_is
      refine iteP (fun h => ?_) (fun h => ?_)
      · have hd := eld_top hD hk (V.int.inj h)
        k_is
        refine r_append hp1 hz ?_
        k_is
        refine ⟨⟨_, rfl⟩, ?_, push_same s1 hp⟩
        rw [upd_same, ← take_next hk, hd]
        rfl
      · obtain ⟨v, hv, hlt, hd⟩ := eld_deep hD hk (fun e => h (congrArg V.int e))
        k_is
        rw [hv]
        refine r_ixL (SqL.of hp1) (v := .int (dAt ds v : Nat)) ?_ ?_
        · refine atI_nat (nV_at ?_)
          rw [List.getElem?_take_of_lt hlt, List.getElem?_eq_getElem (by omega)]
          unfold dAt List.getD
          rw [List.getElem?_eq_getElem (by omega)]
          rfl
        k_is
        refine r_append hp1 hz ?_
        k_is
        refine ⟨⟨_, rfl⟩, ?_, push_same s1 hp⟩
        rw [upd_same, ← take_next hk, hd]
        rfl
    · rintro σ H1 ⟨⟨v2, rfl⟩, hp1, s1⟩
      rw [List.length_map, elds_len, List.take_of_length_le (Nat.le_refl _)] at hp1
      k_is
      exact q p H1 s1 hp1

def spRowOf : Sp := fun vs H Q _ => ∃ (a : Addr) (ds : List Nat), vs = [.ref a] ∧ H a = some (.lst ((elds ds).map V.int)) ∧ Dok ds ∧ ds.length < 4000 ∧ ∀ H', Same H H' → Q (.str (signs (rowD ds))) H'
theorem nV_get {l : List Nat} {i : Nat} {x : V} (h : (nV l)[i]? = some x) : ∃ n, l[i]? = some n ∧ x = .int (n : Nat) := by
  unfold nV at h
  rw [List.getElem?_map] at h
  cases e : l[i]? with
  | none => rw [e] at h; cases h
  | some n =>
    rw [e] at h
    exact ⟨n, rfl, (Option.some.inj h).symm⟩
theorem at_dAt {ds : List Nat} {k n : Nat} (h : ds[k]? = some n) : n = dAt ds k := by
  unfold dAt List.getD
  rw [h]
  rfl
theorem ok_row_of {f : Addr} {fd : FuncData} (F : Fun K "row_of" "row_of" s_row_of f fd) (T : Txt K mg C_Wood C_Shaped) (c_depths_of : Cal P w K mg base "depths_of" 1 ["elders"] spDepths) (c_look_at : Cal P w K mg base "look_at" 2 ["elders"] spLook) : FnOk P w K mg base CX0 3 f fd ["elders"] spRowOf := by
  refine F.ok sc_row_of (fun vs H Q E h => ?_) (fun cdv A outer s H vs Q E hr h => ?_)
  · obtain ⟨a, ds, rfl, _⟩ := h
    rfl
  · obtain ⟨a, ds, rfl, ha, hD, hn, q⟩ := h
    refine ⟨_, (pss_cons (ps_set (i := 1) sc_row_of.nd rfl (Or.inl rfl) (pe_lst pa_nil))
      (pss_cons (ps_set (i := 2) sc_row_of.nd rfl (Or.inl rfl) pe_int)
      (pss_cons (ps_for PassesOwn.never rfl (pi_list (pe_fn c_depths_of (hr.mono (by decide : 1 ≤ _)) (pa_d (pe_fn c_look_at (hr.mono (by decide : 2 ≤ _)) (pa_d (pv 0) pa_nil rfl)) pa_nil rfl))) (pg_name (i := 3) sc_row_of.nd rfl (Or.inl rfl))
      (pss_cons (ps_expr (pe_bm PySem.F.plainAttrs_list PySem.F.slot_list_append PySem.F.type_list_append mt_append (pv 1) (pa_d (pe_op op_add_str (pe_op op_mulS pe_str (pe_op op_sub (pv 2) (pv 3))) pe_str) pa_nil rfl)))
      (pss_one (ps_set (i := 2) sc_row_of.nd rfl (Or.inl rfl) (pe_op op_add (pv 3) pe_int)))))
      (pss_cons (ps_expr (pe_bm PySem.F.plainAttrs_list PySem.F.slot_list_append PySem.F.type_list_append mt_append (pv 1) (pa_d (pe_op op_mulS pe_str (pv 2)) pa_nil rfl)))
      (pss_one (ps_ret (pe_bm PySem.F.plainAttrs_str PySem.F.slot_str_join PySem.F.type_str_join mt_join pe_str (pa_d (pv 1) pa_nil rfl)))))))), ?_⟩
    k_is
    refine ⟨Nat.zero_le _, fun p hp => ?_⟩
    k_is
    have t0 := same_upd (o := .lst []) hp
    refine ⟨a, ds, rfl, t0 _ _ ha, hD, hn, fun l1 H1 s1 hl1 => ?_⟩
    k_is
    refine ⟨l1, ds, rfl, hl1, hD, hn, fun l2 H2 s2 hl2 => ?_⟩
    k_is
    refine ⟨l2, rfl, ⟨_, SqL.of hl2⟩, ?_⟩
    have s12 := s1.trans s2
    have hp2 := s12 _ _ (upd_same (H := H) (a := p) (o := .lst []))
    have npl : l2 ≠ p ∨ ds = [] := by
      by_cases e : l2 = p
      · subst e
        rw [hp2] at hl2
        have := HO.lst.inj (Option.some.inj hl2)
        cases ds with
        | nil => exact .inr rfl
        | cons d r => cases this
      · exact .inl e
    refine for_list (xs := nV ds) (fun k σ H3 => (∃ v3 : Option V, σ = [some (.ref a), some (.ref p), some (.int (opn ds k : Nat)), v3]) ∧ H3 p = some (.lst ((List.range k).map fun i => V.str (signs (pieceB ds i)))) ∧ Same H H3 ∧ H3 l2 = some (.lst (nV ds))) ⟨⟨_, rfl⟩, hp2, t0.trans s12, hl2⟩ (fun k σ H3 _ h => SqL.of h.2.2.2) ?_ ?_
    · rintro k x σ H3 hx ⟨⟨v3, rfl⟩, hp3, s3, hl3⟩
      have hk := at_lt hx
      rw [nV_len] at hk
      have nlp : l2 ≠ p := by
        rcases npl with h | h
        · exact h
        · rw [h] at hk; cases hk
      obtain ⟨d, hd, rfl⟩ := nV_get hx
      obtain rfl := at_dAt hd
      have hop := opn_le hD k (by omega)
      have hdk := hD k hk
      k_is
      refine ⟨.inl ⟨rfl, _, SqL.of hp3⟩, ?_⟩
      k_is
      refine ⟨"0", (opn ds k : Int) - (dAt ds k : Int), rfl, rfl, by omega, by omega, ?_, few (by decide), ?_⟩
      · exact Nat.le_of_lt (small20000 (by rw [show ("0" : Str).length = 1 by rfl]; omega))
      have e0 : repS ("0" : Str) ((opn ds k : Int) - (dAt ds k : Int)).toNat = signs (List.replicate (opn ds k - dAt ds k) false) := by
        rw [show ((opn ds k : Int) - (dAt ds k : Int)).toNat = opn ds k - dAt ds k by omega]
        exact rep_signs false _
      rw [e0]
      k_is
      have e1 : signs (List.replicate (opn ds k - dAt ds k) false) ++ ("1" : Str) = signs (pieceB ds k) := signs_append (List.replicate (opn ds k - dAt ds k) false) [true]
      refine ⟨_, "1", rfl, rfl, ?_, ?_⟩
      · rw [signs_len, List.length_replicate]
        exact Nat.le_of_lt (small20000 (by rw [show ("1" : Str).length = 1 by rfl]; omega))
      rw [e1]
      k_is
      refine r_append hp3 (by rw [List.length_map, List.length_range]; exact small20000 (by omega)) ?_
      k_is
      refine ⟨⟨_, rfl⟩, ?_, push_same s3 hp, ?_⟩
      · rw [upd_same, List.range_succ, List.map_append]
        rfl
      · rw [upd_ne nlp]
        exact hl3
    · rintro σ H3 ⟨⟨v3, rfl⟩, hp3, s3, hl3⟩
      rw [nV_len] at *
      have hop := opn_le hD ds.length (Nat.le_refl _)
      k_is
      refine ⟨.inl ⟨rfl, _, SqL.of hp3⟩, ?_⟩
      k_is
      refine ⟨"0", (opn ds ds.length : Int), rfl, rfl, by omega, by omega, ?_, few (by decide), ?_⟩
      · exact Nat.le_of_lt (small20000 (by rw [show ("0" : Str).length = 1 by rfl]; omega))
      have e0 : repS ("0" : Str) ((opn ds ds.length : Int)).toNat = signs (List.replicate (opn ds ds.length) false) := by
        rw [Int.toNat_natCast]
        exact rep_signs false _
      rw [e0]
      k_is
      refine r_append hp3 (by rw [List.length_map, List.length_range]; exact small20000 (by omega)) ?_
      k_is
      refine ⟨rfl, ?_⟩
      k_is
      have ef : ((List.range ds.length).map (pieceB ds) ++ [List.replicate (opn ds ds.length) false]).flatten = rowD ds := by
        rw [List.flatten_append, List.flatten_singleton]
        rfl
      refine rd_joinS (ls := (List.range ds.length).map (pieceB ds) ++ [List.replicate (opn ds ds.length) false]) ?_ ?_ ?_
      · rw [upd_same, List.map_append, List.map_map]
        rfl
      · rw [ef, rowD_len hD]
        omega
      · rw [ef]
        exact q _ (push_same s3 hp)

def spEldersOf : Sp := fun vs H Q _ => ∃ l : List Bool, vs = [.str (signs l)] ∧ Vs 0 l ∧ l.length ≤ 8000 ∧ ∀ p (ds : List Nat) H', Same H H' → H p = none → H' p = some (.lst ((elds ds).map V.int)) → Dok ds → rowD ds = l → Q (.ref p) H'
theorem rowP_snoc {ds : List Nat} {d : Nat} : ∀ k, k ≤ ds.length → rowP (ds ++ [d]) k = rowP ds k
  | 0, _ => rfl
  | k + 1, h => by
    rw [rowP_succ, rowP_succ, rowP_snoc k (by omega)]
    unfold pieceB
    rw [opn_snoc k (by omega), dAt_snoc (by omega)]
theorem ok_elders_of {f : Addr} {fd : FuncData} (F : Fun K "elders_of" "elders_of" s_elders_of f fd) (T : Txt K mg C_Wood C_Shaped) (c_check_row : Cal P w K mg base "check_row" 1 ["text"] spCheck) : FnOk P w K mg base CX0 2 f fd ["text"] spEldersOf := by
  refine F.ok sc_elders_of (fun vs H Q E h => ?_) (fun cdv A outer s H vs Q E hr h => ?_)
  · obtain ⟨l, rfl, _⟩ := h
    rfl
  · obtain ⟨l, rfl, hv, hn, q⟩ := h
    refine ⟨_, (pss_cons (ps_expr (pe_fn c_check_row (hr.mono (by decide : 1 ≤ _)) (pa_d (pv 0) pa_nil rfl)))
      (pss_cons (ps_if (pt_cmpR op_gt (pe_callB call_len_str (by rfl) T.n_len b_len (pa_d (pv 0) pa_nil rfl)) (pe_globI rfl T.g_MOST_SIGNS_woods) (nomark _)) (pss_one ps_never)
      pss_nil)
      (pss_cons (ps_set (i := 1) sc_elders_of.nd rfl (Or.inl rfl) (pe_lst pa_nil))
      (pss_cons (ps_set (i := 2) sc_elders_of.nd rfl (Or.inl rfl) (pe_lst (pa_d (pe_un un_neg pe_int) pa_nil rfl)))
      (pss_cons (ps_for PassesOwn.never rfl (pi_str (pv 0)) (pg_name (i := 3) sc_elders_of.nd rfl (Or.inl rfl))
      (pss_one (ps_if (pt_cmpR op_eq (pv 3) pe_str (nomark _)) (pss_cons (ps_expr (pe_bm PySem.F.plainAttrs_list PySem.F.slot_list_append PySem.F.type_list_append mt_append (pv 1) (pa_d (pe_ix ix_list (pv 2) (pe_un un_neg pe_int) (fun _ _ => rfl)) pa_nil rfl)))
      (pss_one (ps_expr (pe_bm PySem.F.plainAttrs_list PySem.F.slot_list_append PySem.F.type_list_append mt_append (pv 2) (pa_d (pe_op op_sub (pe_callB call_len_seq (by rfl) T.n_len b_len (pa_d (pv 1) pa_nil rfl)) pe_int) pa_nil rfl)))))
      (pss_one (ps_expr (pe_bm0 PySem.F.plainAttrs_list PySem.F.slot_list_pop PySem.F.type_list_pop mt_pop (pv 2)))))))
      (pss_one (ps_ret (pv 1)))))))), ?_⟩
    k_is
    refine ⟨l, rfl, hv, hn, fun H1 s1 => ?_⟩
    k_is
    refine ⟨_, rfl, by rw [signs_len]; exact Nat.le_of_lt (small20000 (by omega)), ?_⟩
    k_is
    rw [signs_len]
    refine iteP (fun h => by omega) (fun _ => ?_)
    k_is
    refine ⟨Nat.zero_le _, fun p hp1 => ?_⟩
    have hp : H p = none := s1.free hp1
    have t1 := same_upd (o := .lst []) hp1
    k_is
    refine ⟨few (by simp), fun y hy => ?_⟩
    have t2 := same_upd (o := .lst [V.int (-1)]) hy
    have hyH : H y = none := (s1.trans t1).free hy
    k_is
    refine ⟨_, rfl, ?_⟩
    refine for_str (fun i σ H2 => (∃ (ds : List Nat) (h : Nat) (v : Option V), σ = [some (.str (signs l)), some (.ref p), some (.ref y), v] ∧ Dok ds ∧ ds.length ≤ i ∧ hgt l i = (h : Int) ∧ h ≤ opn ds ds.length ∧ l.take i = rowP ds ds.length ++ List.replicate (opn ds ds.length - h) false ∧
        H2 p = some (.lst ((elds ds).map V.int)) ∧ H2 y = some (.lst (((way ds ds.length).take (h + 1)).map V.int))) ∧ Same H H2) ⟨⟨[], 0, _, rfl, (fun k hk => by cases hk), Nat.le_refl _, rfl, Nat.le_refl _, rfl, t2 _ _ upd_same, upd_same⟩, (s1.trans t1).trans t2⟩ ?_ ?_
    · have hpy : p ≠ y := ne_of_none upd_same hy
      rintro i c σ H2 hc ⟨⟨ds, h, v, rfl, hD, hdl, hh, hop, htk, hp2, hy2⟩, s2⟩
      obtain ⟨b, hb, rfl⟩ := sign_of hc
      have hi := at_lt hb
      have hs := hgt_succ hb
      have hw := way_len hD ds.length (Nat.le_refl _)
      obtain ⟨h', hh', hvs, _⟩ := tl_ok hv i (by omega)
      have e : h' = h := by omega
      subst e
      have tk1 : l.take (i + 1) = l.take i ++ [b] := by rw [List.take_add_one, hb]; rfl
      have hx : (way ds ds.length)[h' + 1 - 1]? = some ((way ds ds.length).getD h' 0) := by
        rw [Nat.add_sub_cancel]
        unfold List.getD
        rw [List.getElem?_eq_getElem (by omega)]
        rfl
      k_is
      cases b with
      | true =>
        refine iteP (fun _ => ?_) (fun h => absurd rfl h)
        have hs : hgt l (i + 1) = hgt l i + 1 := hs
        k_is
        refine ⟨.inl ⟨rfl, _, SqL.of hp2⟩, ?_⟩
        k_is
        refine r_ixL (SqL.of hy2) (last_take (by omega) hx) ?_
        k_is
        refine r_append hp2 ?_ ?_
        · rw [List.length_map, elds_len]
          exact small20000 (by omega)
        k_is
        have hy3 : upd H2 p (.lst ((elds ds).map V.int ++ [V.int ((way ds ds.length).getD h' 0)])) y = some (.lst (((way ds ds.length).take (h' + 1)).map V.int)) := by rw [upd_ne hpy.symm]; exact hy2
        have hp3 : upd H2 p (.lst ((elds ds).map V.int ++ [V.int ((way ds ds.length).getD h' 0)])) p = some (.lst ((elds ds).map V.int ++ [V.int ((way ds ds.length).getD h' 0)])) := upd_same
        have s3 := push_same (o := .lst ((elds ds).map V.int ++ [V.int ((way ds ds.length).getD h' 0)])) s2 hp
        generalize upd H2 p (.lst ((elds ds).map V.int ++ [V.int ((way ds ds.length).getD h' 0)])) = H3 at *
        refine ⟨.inl ⟨rfl, _, SqL.of hy3⟩, ?_⟩
        k_is
        refine ⟨p, _, rfl, .inl (SqL.of hp3), ?_⟩
        k_is
        rw [List.length_append, List.length_map, elds_len]
        refine r_append hy3 ?_ ?_
        · rw [len_take (by omega)]
          exact small20000 (by have := opn_le hD ds.length (Nat.le_refl _); omega)
        k_is
        have hD2 := dok_snoc (d := h') hD hop
        have hl2 : (ds ++ [h']).length = ds.length + 1 := by rw [List.length_append]; rfl
        have ho2 : opn (ds ++ [h']) (ds.length + 1) = h' + 1 := by
          show dAt (ds ++ [h']) ds.length + 1 = _
          rw [dAt_new]
        refine ⟨⟨ds ++ [h'], h' + 1, _, rfl, hD2, by omega, by omega, by rw [hl2, ho2]; exact Nat.le_refl _, ?_, ?_, ?_⟩, push_same s3 hyH⟩
        · rw [tk1, htk, hl2, ho2, Nat.sub_self, List.replicate_zero, List.append_nil, rowP_succ, rowP_snoc _ (Nat.le_refl _), List.append_assoc]
          unfold pieceB
          rw [opn_snoc _ (Nat.le_refl _), dAt_new]
        · rw [upd_ne hpy, hp3, elds_snoc, List.map_append]
          rfl
        · have hwl := way_len hD2 (ds.length + 1) (by omega)
          have ew : (way (ds ++ [h']) (ds.length + 1)).take (h' + 1 + 1) = (way ds ds.length).take (h' + 1) ++ [(ds.length : Int)] := by
            rw [List.take_of_length_le (by omega), way_next]
          have ei : (((ds.length + [V.int ((way ds ds.length).getD h' 0)].length : Nat) : Int) - 1) = (ds.length : Int) := by
            simp only [List.length_cons, List.length_nil]
            omega
          rw [upd_same, hl2, ew, List.map_append, ei]
          rfl
      | false =>
        refine iteP (fun h => absurd h (by decide)) (fun _ => ?_)
        have hs : hgt l (i + 1) = hgt l i + -1 := hs
        rw [drop_at hb] at hvs
        have hpos := hvs.1
        k_is
        refine ⟨.inl ⟨rfl, _, SqL.of hy2⟩, ?_⟩
        refine ⟨y, _, .int ((way ds ds.length).getD h' 0), rfl, rfl, hy2, ?_, ?_⟩
        · rw [len_take (by omega), iV_at]
          rw [List.getElem?_take_of_lt (by omega)]
          exact hx
        k_is
        rw [drop_last (by omega)]
        refine ⟨⟨ds, h' - 1, _, rfl, hD, by omega, by omega, by omega, ?_, ?_, ?_⟩, push_same s2 hyH⟩
        · rw [tk1, htk, List.append_assoc, show opn ds ds.length - (h' - 1) = opn ds ds.length - h' + 1 by omega, List.replicate_succ']
        · rw [upd_ne hpy]
          exact hp2
        · rw [upd_same, show h' - 1 + 1 = h' + 1 - 1 by omega]
    · rintro σ H2 ⟨⟨ds, h, v, rfl, hD, hdl, hh, hop, htk, hp2, hy2⟩, s2⟩
      rw [show (signs l).cps.size = l.length from signs_len l] at *
      obtain ⟨h', hh', hvs, _⟩ := tl_ok hv l.length (Nat.le_refl _)
      rw [List.drop_of_length_le (Nat.le_refl _)] at hvs
      have hvs : h' = 0 := hvs
      have e : h = 0 := by omega
      subst e
      rw [List.take_of_length_le (Nat.le_refl _), Nat.sub_zero] at htk
      k_is
      exact q p ds H2 s2 hp hp2 hD htk.symm

def spOInitS (CS : Addr) : Sp := fun vs H Q _ => ∃ (x dx : Addr) (p : V), vs = [.ref x, p] ∧ H x = some (.ins CS dx []) ∧ Q .non (upd H x (.ins CS dx [("pairs", p)]))
theorem ok_Openings_init {f : Addr} {fd : FuncData} (F : Fun K "__init__" "Openings.__init__" s_Openings_init f fd) (T : Txt K mg C_Wood C_Shaped) (Z : Z_Shaped K C_Shaped) : FnOk P w K mg base CX0 1 f fd ["self", "pairs"] (spOInitS C_Shaped) := by
  refine F.ok sc_Openings_init (fun vs H Q E h => ?_) (fun cdv A outer s H vs Q E hr h => ?_)
  · obtain ⟨x, dx, p, rfl, _⟩ := h
    rfl
  · obtain ⟨x, dx, p, rfl, hx, q⟩ := h
    refine ⟨_, (pss_one (ps_fld (pv 0) (pv 1) rfl)), ?_⟩
    k_is
    exact r_sfldE hx Z.cl Z.n_pairs (show 0 < 1000 by decide) q

def spSKnots (C CR CS : Addr) : Sp := fun vs H Q _ => ∃ (x : Addr) (ls : List (List Bool)), vs = [.ref x] ∧ IsShaped C CR CS H x ls ∧ Q (.int (ls.flatten.length / 2 : Nat)) H
theorem ok_Openings_many_knots {f : Addr} {fd : FuncData} (F : Fun K "many_knots" "Openings.many_knots" s_Openings_many_knots f fd) (T : Txt K mg C_Wood C_Shaped) (Z : Z_Shaped K C_Shaped) (m_PiecedRow_size : Mth P w K mg base C_PiecedRow "size" 1 ["self"] (spRSize C_Piece C_PiecedRow)) : FnOk P w K mg base CX0 2 f fd ["self"] (spSKnots C_Piece C_PiecedRow C_Shaped) := by
  refine F.ok sc_Openings_many_knots (fun vs H Q E h => ?_) (fun cdv A outer s H vs Q E hr h => ?_)
  · obtain ⟨x, ls, rfl, _⟩ := h
    rfl
  · obtain ⟨x, ls, rfl, ⟨dx, r, e, hx, hR⟩, q⟩ := h
    refine ⟨_, (pss_one (ps_ret (pe_op op_fdiv (pe_mt0 m_PiecedRow_size (hr.mono (by decide : 1 ≤ _)) (pe_fld (pv 0) rfl)) pe_int))), ?_⟩
    k_is
    refine ⟨x, C_Shaped, dx, _, _, rfl, hx, Z.cl, Z.n_pairs, rfl, ?_⟩
    obtain ⟨dp, p, b, k, t, o, hp, _⟩ := id hR
    k_is
    refine ⟨r, dp, _, rfl, hp, rfl, ?_⟩
    k_is
    refine ⟨r, ls, rfl, hR, ?_⟩
    k_is
    exact q

def spPcInit (C : Addr) : Sp := fun vs H Q _ => ∃ (x dx : Addr) (l : List Bool), vs = [.ref x, .str (signs l)] ∧ H x = some (.ins C dx []) ∧ 0 < l.length ∧ l.length ≤ 128 ∧ ∀ H', SameBut x H H' → IsPiece C H' x l → Q .non H'
theorem ok_Piece_init {f : Addr} {fd : FuncData} (F : Fun K "__init__" "Piece.__init__" s_Piece_init f fd) (T : Txt K mg C_Wood C_Shaped) (Z : Z_Piece K C_Piece) (c_heights_of : Cal P w K mg base "heights_of" 1 ["text", "begin"] spHeights) (c_sums_of : Cal P w K mg base "sums_of" 2 ["text"] (spSums K)) : FnOk P w K mg base CX0 3 f fd ["self", "signs"] (spPcInit C_Piece) := by
  refine F.ok sc_Piece_init (fun vs H Q E h => ?_) (fun cdv A outer s H vs Q E hr h => ?_)
  · obtain ⟨x, dx, l, rfl, _⟩ := h
    rfl
  · obtain ⟨x, dx, l, rfl, hx, h0, h1, q⟩ := h
    refine ⟨_, (pss_cons (ps_set (i := 2) sc_Piece_init.nd rfl (Or.inl rfl) (pe_fn c_heights_of (hr.mono (by decide : 1 ≤ _)) (pa_d (pv 1) (pa_d pe_int pa_nil rfl) rfl)))
      (pss_cons (ps_fld (pv 0) (pv 1) rfl)
      (pss_cons (ps_fld (pv 0) (pe_fn c_sums_of (hr.mono (by decide : 2 ≤ _)) (pa_d (pv 1) pa_nil rfl)) rfl)
      (pss_cons (ps_fld (pv 0) (pe_callB (call_max1 rfl) (by rfl) T.n_max b_max (pa_d (pv 2) pa_nil rfl)) rfl)
      (pss_one (ps_fld (pv 0) (pe_bm PySem.F.plainAttrs_list PySem.F.slot_list_count PySem.F.type_list_count mt_countB (pv 2) (pa_d (pe_callB (call_min1 rfl) (by rfl) T.n_min b_min (pa_d (pv 2) pa_nil rfl)) pa_nil rfl)) rfl)))))), ?_⟩
    k_is
    refine ⟨l, rfl, by omega, fun p H1 s1 hp0 hp => ?_⟩
    have hx1 := s1 _ _ hx
    k_is
    refine r_sfldE hx1 Z.cl Z.n_signs (show 0 < 1000 by decide) ?_
    have hpx : p ≠ x := (ne_of_none hx hp0).symm
    have hp2 : upd H1 x (.ins C_Piece dx (putF "signs" (V.str (signs l)) [])) p = some (.lst ((hts l l.length).map V.int)) := by rw [upd_ne hpx]; exact hp
    have b2 : SameBut x H1 (upd H1 x (.ins C_Piece dx (putF "signs" (V.str (signs l)) []))) := sameBut_upd
    have hx2 : upd H1 x (.ins C_Piece dx (putF "signs" (V.str (signs l)) [])) x = some (.ins C_Piece dx (putF "signs" (V.str (signs l)) [])) := upd_same
    generalize upd H1 x (.ins C_Piece dx (putF "signs" (V.str (signs l)) [])) = H2 at *
    k_is
    refine ⟨l, rfl, by omega, fun m t H3 hm s3 ht0 ht => ?_⟩
    have hx3 := s3 _ _ hx2
    have hp3 := s3 _ _ hp2
    have htx : t ≠ x := (ne_of_none hx2 ht0).symm
    k_is
    refine r_sfldE hx3 Z.cl Z.n_kept_sums (show 1 < 1000 by decide) ?_
    have hp4 : upd H3 x (.ins C_Piece dx (putF "kept_sums" (V.ref t) (putF "signs" (V.str (signs l)) []))) p = some (.lst ((hts l l.length).map V.int)) := by rw [upd_ne hpx]; exact hp3
    have ht4 : upd H3 x (.ins C_Piece dx (putF "kept_sums" (V.ref t) (putF "signs" (V.str (signs l)) []))) t = some (.tup (sumsV l m)) := by rw [upd_ne htx]; exact ht
    have b4 : SameBut x H3 (upd H3 x (.ins C_Piece dx (putF "kept_sums" (V.ref t) (putF "signs" (V.str (signs l)) [])))) := sameBut_upd
    have hx4 : upd H3 x (.ins C_Piece dx (putF "kept_sums" (V.ref t) (putF "signs" (V.str (signs l)) []))) x = some (.ins C_Piece dx (putF "kept_sums" (V.ref t) (putF "signs" (V.str (signs l)) []))) := upd_same
    have but4 : SameBut x H (upd H3 x (.ins C_Piece dx (putF "kept_sums" (V.ref t) (putF "signs" (V.str (signs l)) [])))) := ((s1.but.trans b2).trans s3.but).trans b4
    generalize upd H3 x (.ins C_Piece dx (putF "kept_sums" (V.ref t) (putF "signs" (V.str (signs l)) []))) = H4 at *
    have hne : hts l l.length ≠ [] := fun e => by
      have := congrArg List.length e
      unfold hts at this
      rw [List.length_map, List.length_range, List.length_nil] at this
      omega
    k_is
    refine ⟨p, hts l l.length, rfl, SqL.of hp4, hne, fun g hg => ?_⟩
    k_is
    refine r_sfldE hx4 Z.cl Z.n_greatest (show 2 < 1000 by decide) ?_
    have hp5 : upd H4 x (.ins C_Piece dx (putF "greatest" (V.int g) (putF "kept_sums" (V.ref t) (putF "signs" (V.str (signs l)) [])))) p = some (.lst ((hts l l.length).map V.int)) := by rw [upd_ne hpx]; exact hp4
    k_is
    refine ⟨.inl ⟨rfl, _, SqL.of hp5⟩, ?_⟩
    k_is
    refine ⟨p, hts l l.length, rfl, SqL.of hp5, hne, fun mn _ => ?_⟩
    k_is
    refine ⟨p, _, _, rfl, rfl, hp5, flat_ints _, rfl, ?_⟩
    k_is
    refine r_sfldE upd_same Z.cl Z.n_often_least (show 3 < 1000 by decide) ?_
    rw [upd_upd]
    refine q _ (but4.trans sameBut_upd) ⟨dx, t, m, g, _, upd_same, ?_, hm⟩
    rw [upd_ne htx]
    exact ht4

def spPiecesOf (C : Addr) : Sp := fun vs H Q _ => ∃ l : List Bool, vs = [.str (signs l)] ∧ l.length ≤ 20000 ∧ ∀ p (as : List Addr) H', Same H H' → H p = none → H' p = some (.lst (as.map V.ref)) → Pcs C H' as (pcs l) → Q (.ref p) H'
theorem ok_pieces_of {f : Addr} {fd : FuncData} (F : Fun K "pieces_of" "pieces_of" s_pieces_of f fd) (T : Txt K mg C_Wood C_Shaped) (c_Piece : Mkr P w K mg base "Piece" C_Piece 3 ["self", "signs"] (spPcInit C_Piece)) : FnOk P w K mg base CX0 5 f fd ["text"] (spPiecesOf C_Piece) := by
  refine F.ok sc_pieces_of (fun vs H Q E h => ?_) (fun cdv A outer s H vs Q E hr h => ?_)
  · obtain ⟨l, rfl, _⟩ := h
    rfl
  · obtain ⟨l, rfl, hl, q⟩ := h
    refine ⟨_, (pss_cons (ps_set (i := 1) sc_pieces_of.nd rfl (Or.inr rfl) (pe_op op_fdiv (pe_op op_sub (pe_op op_add (pe_callB call_len_str (by rfl) T.n_len b_len (pa_d (pv 0) pa_nil rfl)) (pe_globI rfl T.g_PIECE_SIGNS)) pe_int) (pe_globI rfl T.g_PIECE_SIGNS)))
      (pss_cons (ps_setlc (i := 2) rfl lc_pieces_of_0 sc_pieces_of.nd rfl rfl (pi_range2 rfl T.n_range (pa_d pe_int (pa_d (pv 1) pa_nil rfl) rfl)) (fun _ _ _ _ => pif_nil) (fun _ _ _ _ => (pe_op op_fdiv (pe_op op_mul (pv 0) (pe_callB call_len_str (by rfl) T.n_len b_len (pa_d (pv 2) pa_nil rfl))) (pv 1))))
      (pss_one (ps_ret (pe_lc2 rfl lc_pieces_of_1 (pi_zip rfl T.n_zip (pa_d (pe_op op_cat (pe_lst (pa_d pe_int pa_nil rfl)) (pv 2)) (pa_d (pe_op op_cat (pv 2) (pe_lst (pa_d (pe_callB call_len_str (by rfl) T.n_len b_len (pa_d (pv 0) pa_nil rfl)) pa_nil rfl))) pa_nil rfl) rfl)) (fun _ _ _ _ => pif_one (pt_cmpR op_lt (pv 0) (pv 1) (nomark _))) (fun _ _ _ _ => (pe_mk c_Piece (hr.mono (by decide : 4 ≤ _)) (pa_d (pe_slice sl_str (pv 2) (po_some (pv 0)) (po_some (pv 1))) pa_nil rfl)))))))), ?_⟩
    have hs : (signs l).length = l.length := signs_len l
    k_is
    refine ⟨_, rfl, Nat.le_of_lt (small20000 (by rw [signs_len]; omega)), ?_⟩
    rw [signs_len]
    k_is
    have hm : ((l.length : Nat) : Int) + 128 - 1 = ((l.length + 127 : Nat) : Int) := by omega
    have hm2 : (((l.length : Nat) : Int) + 128 - 1) / 128 = ((pcM l.length : Nat) : Int) := by rw [hm]; unfold pcM; omega
    rw [hm2]
    have hM : pcM l.length ≤ 200 := by unfold pcM; omega
    obtain ⟨n, hn⟩ : ∃ n, n = pcM l.length - 1 := ⟨_, rfl⟩
    have hn2 : (((pcM l.length : Nat) : Int) - 1).toNat = n := by omega
    have hx : ∀ i, (((i + 1) * l.length / pcM l.length : Nat) : Int) = (1 + (i : Int)) * (l.length : Int) / (pcM l.length : Int) := fun i => by rw [Int.natCast_ediv, Int.natCast_mul, Int.natCast_add, Int.add_comm]; rfl
    refine ⟨1, (pcM l.length : Nat), rfl, ⟨by decide, by decide, by omega, by omega⟩, ?_⟩
    rw [hn2]
    refine lc_range (fun i => (List.range i).map fun k : Nat => V.int (pcAt l.length (k + 1) : Nat)) rfl (fun i hi => ?_) (fun i H1 R A hi s1 _ hA => ?_) (fun D H1 hD s1 h1 => ?_)
    · rw [List.length_map, List.length_range]
      exact small20000 (by omega)
    · k_is
      refine ⟨_, rfl, Nat.le_of_lt (small20000 (by rw [signs_len]; omega)), ?_⟩
      rw [signs_len]
      k_is
      refine r_mulR (by omega) (by omega) ?_
      k_is
      refine r_div (by omega) (by omega) ?_
      k_is
      refine hA _ _ ?_ (Same.refl _)
      rw [List.range_succ, List.map_append, ← hx i]
      rfl
    · have hcl : ((List.range n).map fun k : Nat => V.int (pcAt l.length (k + 1) : Nat)).length = n := by rw [List.length_map, List.length_range]
      k_is
      refine ⟨few (by simp), fun z1 hz1 => ?_⟩
      have u1 := same_upd (o := .lst [V.int 0]) hz1
      k_is
      refine ⟨z1, D, _, _, rfl, rfl, upd_same, u1 _ _ h1, ?_, fun p1 hp1 => ?_⟩
      · rw [hcl]
        exact few (by simp only [List.length_cons, List.length_nil]; omega)
      have u2 := same_upd (o := .lst ([V.int 0] ++ (List.range n).map fun k : Nat => V.int (pcAt l.length (k + 1) : Nat))) hp1
      have hq1 : upd (upd H1 z1 (.lst [V.int 0])) p1 (.lst ([V.int 0] ++ (List.range n).map fun k : Nat => V.int (pcAt l.length (k + 1) : Nat))) p1 = _ := upd_same
      have s2 := (s1.trans u1).trans u2
      have h2 := u2 _ _ (u1 _ _ h1)
      generalize upd (upd H1 z1 (.lst [V.int 0])) p1 (.lst ([V.int 0] ++ (List.range n).map fun k : Nat => V.int (pcAt l.length (k + 1) : Nat))) = H2 at *
      k_is
      refine ⟨_, rfl, Nat.le_of_lt (small20000 (by rw [signs_len]; omega)), ?_⟩
      rw [signs_len]
      k_is
      refine ⟨few (by simp), fun z2 hz2 => ?_⟩
      have u3 := same_upd (o := .lst [V.int (l.length : Nat)]) hz2
      k_is
      refine ⟨D, z2, _, _, rfl, rfl, u3 _ _ h2, upd_same, ?_, fun p2 hp2 => ?_⟩
      · rw [hcl]
        exact few (by simp only [List.length_cons, List.length_nil]; omega)
      have u4 := same_upd (o := .lst (((List.range n).map fun k : Nat => V.int (pcAt l.length (k + 1) : Nat)) ++ [V.int (l.length : Nat)])) hp2
      have hq2 : upd (upd H2 z2 (.lst [V.int (l.length : Nat)])) p2 (.lst (((List.range n).map fun k : Nat => V.int (pcAt l.length (k + 1) : Nat)) ++ [V.int (l.length : Nat)])) p2 = _ := upd_same
      have s4 := (s2.trans u3).trans u4
      have hq14 := u4 _ _ (u3 _ _ hq1)
      generalize upd (upd H2 z2 (.lst [V.int (l.length : Nat)])) p2 (.lst (((List.range n).map fun k : Nat => V.int (pcAt l.length (k + 1) : Nat)) ++ [V.int (l.length : Nat)])) = H4 at *
      have hl1 : ([V.int 0] ++ (List.range n).map fun k : Nat => V.int (pcAt l.length (k + 1) : Nat)).length = n + 1 := by rw [List.length_append, hcl]; simp only [List.length_cons, List.length_nil]; omega
      have hl2 : (((List.range n).map fun k : Nat => V.int (pcAt l.length (k + 1) : Nat)) ++ [V.int (l.length : Nat)]).length = n + 1 := by rw [List.length_append, hcl]; rfl
      have ha1 : ∀ i, i ≤ n → ([V.int 0] ++ (List.range n).map fun k : Nat => V.int (pcAt l.length (k + 1) : Nat))[i]? = some (V.int (pcAt l.length i : Nat)) := fun i hi => by
        cases i with
        | zero => rw [pcAt_zero]; rfl
        | succ i =>
          show ((List.range n).map fun k : Nat => V.int (pcAt l.length (k + 1) : Nat))[i]? = _
          rw [List.getElem?_map, List.getElem?_range (by omega)]
          rfl
      have hL : l.length = pcAt l.length (n + 1) := by
        by_cases h0 : l.length = 0
        · rw [h0]; unfold pcAt; rw [Nat.mul_zero, Nat.zero_div]
        · have : n + 1 = pcM l.length := by unfold pcM at hn ⊢; omega
          rw [this, pcAt_all (by omega)]
      have ha2 : ∀ i, i ≤ n → (((List.range n).map fun k : Nat => V.int (pcAt l.length (k + 1) : Nat)) ++ [V.int (l.length : Nat)])[i]? = some (V.int (pcAt l.length (i + 1) : Nat)) := fun i hi => by
        by_cases h : i < n
        · rw [List.getElem?_append_left (by rw [hcl]; exact h), List.getElem?_map, List.getElem?_range h]
          rfl
        · obtain rfl : i = n := by omega
          rw [List.getElem?_append_right (by rw [hcl]; exact Nat.le_refl _), hcl, Nat.sub_self, ← hL]
          rfl
      k_is
      refine ⟨p1, p2, rfl, ⟨_, SqL.of hq14⟩, ⟨_, SqL.of hq2⟩, ?_⟩
      refine lc_zipNR (SqL.of hq14) (SqL.of hq2) (fun D i zs H' => ∃ as : List Addr, zs = as.map V.ref ∧ as.length = min i (pcM l.length) ∧ ∀ (k : Nat) a x, as[k]? = some a → (pcs l)[k]? = some x → IsPiece C_Piece H' a x) (fun D H' _ _ => ⟨[], rfl, by rw [Nat.zero_min]; rfl, fun k a x e => by cases e⟩) ?_ ?_ ?_ ?_ ?_
      · rintro D i zs H' us o hD ⟨as, e1, e2, e3⟩
        refine ⟨as, e1, e2, fun k a x k1 k2 => ?_⟩
        obtain ⟨d, t, m, g, o', x1, x2, x3⟩ := e3 k a x k1 k2
        exact ⟨d, t, m, g, o', by rw [upd_ne (fun e => by rw [e, hD] at x1; cases x1)]; exact x1, by rw [upd_ne (fun e => by rw [e, hD] at x2; cases x2)]; exact x2, x3⟩
      · rintro D i zs H' hi ⟨as, rfl, e2, e3⟩
        rw [List.length_map, e2]
        exact small20000 (by omega)
      · rintro D i zs H' H'' s ⟨as, e1, e2, e3⟩
        exact ⟨as, e1, e2, fun k a x k1 k2 => (e3 k a x k1 k2).kp (Same.kp s)⟩
      · intro D i zs y y2 H5 A R hy hy2 s5 hD0 hD5 hPv hR hA
        obtain ⟨as, rfl, e2, e3⟩ := hPv
        have hi : i ≤ n := by have := at_lt hy; rw [hl1] at this; omega
        rw [ha1 i hi] at hy
        rw [ha2 i hi] at hy2
        obtain rfl := Option.some.inj hy
        obtain rfl := Option.some.inj hy2
        k_is
        refine iteP (fun hlt => ?_) (fun hlt => ?_)
        · have hlt : pcAt l.length i < pcAt l.length (i + 1) := by omega
          have hiM : i < pcM l.length := by
            by_cases h0 : pcM l.length = 0
            · unfold pcAt at hlt
              rw [h0, Nat.div_zero, Nat.div_zero] at hlt
              omega
            · omega
          have hsz := pcs_size hiM
          have hst := pcAt_step (k := i) (pcM_pos hiM)
          k_is
          refine ⟨_, rfl, Nat.le_of_lt (small20000 (by rw [signs_len]; omega)), ?_⟩
          rw [cut_signs]
          k_is
          intro x dx hx0 hdx hxd
          refine ⟨x, dx, _, rfl, upd_same, by rw [hsz]; omega, by rw [hsz]; omega, fun H6 s6 hP6 => ⟨rfl, ?_⟩⟩
          have s6 := made_same hx0 hdx s6
          refine hA _ _ s6 ⟨as ++ [x], by rw [List.map_append]; rfl, by rw [List.length_append, e2]; simp only [List.length_cons, List.length_nil]; omega, fun k a y k1 k2 => ?_⟩
          rw [Nat.min_eq_left (by omega)] at e2
          by_cases hk : k < as.length
          · rw [List.getElem?_append_left hk] at k1
            exact (e3 k a y k1 k2).kp (Same.kp s6)
          · have hk2 := at_lt k1
            rw [List.length_append] at hk2
            obtain rfl : k = as.length := by simp only [List.length_cons, List.length_nil] at hk2; omega
            rw [List.getElem?_append_right (Nat.le_refl _), Nat.sub_self] at k1
            obtain rfl : x = a := Option.some.inj k1
            rw [e2, pcs_at hiM] at k2
            obtain rfl := Option.some.inj k2
            exact hP6
        · refine hR _ (Same.refl _) ⟨as, rfl, ?_, e3⟩
          have hM0 : pcM l.length = 0 := by
            by_cases h0 : l.length = 0
            · rw [h0]; rfl
            · exfalso
              have := pcAt_step (k := i) (show 0 < l.length by omega)
              omega
          rw [e2, hM0, Nat.min_zero, Nat.min_zero]
      · intro D5 zs H5 hD5 s5 hPv h5
        obtain ⟨as, rfl, e2, e3⟩ := hPv
        rw [hl1, hl2, Nat.min_self] at e2
        refine q D5 as H5 (s4.trans s5) (s4.free hD5) h5 ⟨?_, e3⟩
        rw [e2, pcs_len]
        omega

def kns (ls : List (List Bool)) : List Nat := ls.map fun x => x.count true
def spPRInit (C CR : Addr) : Sp := fun vs H Q _ => ∃ (x dx p : Addr) (as : List Addr) (ls : List (List Bool)), vs = [.ref x, .ref p] ∧ H x = some (.ins CR dx []) ∧ H p = some (.lst (as.map V.ref)) ∧ Pcs C H as ls ∧ Sized ls ∧ ls.length ≤ 400 ∧ ∀ H', SameBut x H H' → IsPRow C CR H' x ls → (∃ dr fs, H' x = some (.ins CR dr (("kept_pieces", .ref p) :: fs))) → Q .non H'
theorem ok_PiecedRow_init {f : Addr} {fd : FuncData} (F : Fun K "__init__" "PiecedRow.__init__" s_PiecedRow_init f fd) (T : Txt K mg C_Wood C_Shaped) (Z : Z_PiecedRow K C_PiecedRow) (Y : Z_Piece K C_Piece) (c_running_sums : Cal P w K mg base "running_sums" 1 ["numbers"] spRun) (b_Heights_init : CalC P w K mg base "Heights" "__init__" 1 ["self", "length", "table", "often_least"] (spHInitR C_PiecedRow)) : FnOk P w K mg base CX0 2 f fd ["self", "pieces"] (spPRInit C_Piece C_PiecedRow) := by
  refine F.ok sc_PiecedRow_init (fun vs H Q E h => ?_) (fun cdv A outer s H vs Q E hr h => ?_)
  · obtain ⟨x, dx, p, as, ls, rfl, _⟩ := h
    rfl
  · obtain ⟨x, dx, p, as, ls, rfl, hx, hp, hP, hZ, hn, q⟩ := h
    refine ⟨_, (pss_cons (ps_fld (pv 0) (pv 1) rfl)
      (pss_cons (ps_fld (pv 0) (pe_fn c_running_sums (hr.mono (by decide : 1 ≤ _)) (pa_d (pe_lc rfl lc_PiecedRow_init_2 (pi_list (pv 1)) (fun _ _ _ _ => pif_nil) (fun _ _ _ _ => (pe_callB call_len_str (by rfl) T.n_len b_len (pa_d (pe_fldK K (pv 0)) pa_nil rfl)))) pa_nil rfl)) rfl)
      (pss_cons (ps_fld (pv 0) (pe_fn c_running_sums (hr.mono (by decide : 1 ≤ _)) (pa_d (pe_lc rfl lc_PiecedRow_init_3 (pi_list (pv 1)) (fun _ _ _ _ => pif_nil) (fun _ _ _ _ => (pe_ix (ix_tupK K) (pe_fldK K (pv 0)) pe_int (fun _ _ => rfl)))) pa_nil rfl)) rfl)
      (pss_cons (ps_setlc2 (i := 2) rfl lc_PiecedRow_init_0 sc_PiecedRow_init.nd rfl rfl (pi_zip rfl T.n_zip (pa_d (pe_fld (pv 0) rfl) (pa_d (pe_fld (pv 0) rfl) pa_nil rfl) rfl)) (fun _ _ _ _ => pif_nil) (fun _ _ _ _ => (pe_op op_sub (pe_op op_mul pe_int (pv 0)) (pv 1))))
      (pss_cons (ps_setlc2 (i := 3) rfl lc_PiecedRow_init_1 sc_PiecedRow_init.nd rfl rfl (pi_zip rfl T.n_zip (pa_d (pv 2) (pa_d (pv 1) pa_nil rfl) rfl)) (fun _ _ _ _ => pif_nil) (fun _ _ _ _ => (pe_tup (pa_d (pv 0) (pa_d (pe_op op_add (pv 0) (pe_ix (ix_tupK K) (pe_fldK K (pv 1)) pe_int (fun _ _ => rfl))) (pa_d (pe_op op_add (pv 0) (pe_fldK K (pv 1))) pa_nil rfl) rfl) rfl))))
      (pss_one (ps_expr (pe_cm b_Heights_init (hr.mono (by decide : 1 ≤ _)) rfl (pa_d (pv 0) (pa_d (pe_ix ix_list (pe_fld (pv 0) rfl) (pe_un un_neg pe_int) (fun _ _ => rfl)) (pa_d (pv 3) (pa_d (pe_lc rfl lc_PiecedRow_init_4 (pi_list (pv 1)) (fun _ _ _ _ => pif_nil) (fun _ _ _ _ => (pe_fldK K (pv 0)))) pa_nil rfl) rfl) rfl) rfl))))))))), ?_⟩
    have hne : ∀ a ∈ as, a ≠ x := fun a ha e => by
      obtain ⟨k, hk⟩ := List.getElem?_of_mem ha
      have hk1 := (List.getElem?_eq_some_iff.mp hk).1
      have hx2 : ls[k]? = some (ls[k]'(by rw [← hP.1]; exact hk1)) := List.getElem?_eq_getElem _
      obtain ⟨d, t, m, g, o, h1, _⟩ := hP.2 k a _ hk hx2
      rw [e, hx] at h1
      cases h1
    have hpx : p ≠ x := fun e => by rw [e, hx] at hp; cases hp
    have hal : (as.map V.ref).length = ls.length := by rw [List.length_map, hP.1]
    k_is
    refine r_sfldE hx Z.cl Z.n_kept_pieces (show 0 < 1000 by decide) ?_
    rw [show putF ("kept_pieces" : Str) (V.ref p) [] = prFs1 (.ref p) from rfl]
    have hx1 : upd H x (.ins C_PiecedRow dx (prFs1 (.ref p))) x = some (.ins C_PiecedRow dx (prFs1 (.ref p))) := upd_same
    have b1 : SameBut x H (upd H x (.ins C_PiecedRow dx (prFs1 (.ref p)))) := sameBut_upd
    have hP1 := hP.but b1 hx hne
    have hp1 := b1 _ _ hpx hp
    generalize upd H x (.ins C_PiecedRow dx (prFs1 (.ref p))) = H1 at *
    k_is
    refine ⟨p, rfl, ⟨_, SqL.of hp1⟩, ?_⟩
    refine lc_list (SqL.of hp1) (fun i => nV ((ls.map List.length).take i)) rfl (fun i hi => ?_) (fun i v H2 R A hv s2 _ hA => ?_) (fun D2 H2 hD2 s2 h2 => ?_)
    · unfold nV
      rw [List.length_map, List.length_take]
      exact small20000 (by omega)
    · obtain ⟨a, y, rfl, ea, ey, hy⟩ := hP1.get hv
      obtain ⟨d, t, m, g, o, y1, y2, y3⟩ := hy
      k_is
      refine ⟨a, C_Piece, d, _, _, rfl, s2 _ _ y1, Y.cl, Y.n_signs, rfl, ?_⟩
      k_is
      have := hZ i y ey
      refine ⟨_, rfl, Nat.le_of_lt (small20000 (by rw [signs_len]; omega)), ?_⟩
      rw [signs_len]
      refine hA _ _ ?_ (Same.refl _)
      rw [List.take_add_one, List.getElem?_map, ey]
      unfold nV
      rw [List.map_append]
      rfl
    rw [hal, List.take_of_length_le (by rw [List.length_map]; exact Nat.le_refl _)] at h2
    k_is
    refine ⟨D2, ls.map List.length, rfl, h2, by rw [List.length_map]; omega, fun bg H3 s3 hb3 hbg => ?_⟩
    have hbe : nV ((List.range ((ls.map List.length).length + 1)).map fun i => ((ls.map List.length).take i).sum) = bgs ls := by
      unfold bgs
      rw [List.length_map]
      exact congrArg nV (List.map_congr_left fun j _ => bgn_sums ls j)
    rw [hbe] at hbg
    have s13 := s2.trans s3
    have hbx : bg ≠ x := (ne_of_none (s2 _ _ hx1) hb3).symm
    have hx3 := s13 _ _ hx1
    have hp3 := s13 _ _ hp1
    have hP3 := hP1.kp (Same.kp s13)
    have but3 := b1.trans s13.but
    k_is
    refine r_sfldE hx3 Z.cl Z.n_begins (show 1 < 1000 by decide) ?_
    rw [show putF ("begins" : Str) (V.ref bg) (prFs1 (.ref p)) = prFs2 (.ref p) (.ref bg) from rfl]
    have hx4 : upd H3 x (.ins C_PiecedRow dx (prFs2 (.ref p) (.ref bg))) x = some (.ins C_PiecedRow dx (prFs2 (.ref p) (.ref bg))) := upd_same
    have b4 : SameBut x H3 (upd H3 x (.ins C_PiecedRow dx (prFs2 (.ref p) (.ref bg)))) := sameBut_upd
    have hP4 := hP3.but b4 hx3 hne
    have hp4 := b4 _ _ hpx hp3
    have hbg4 := b4 _ _ hbx hbg
    have but4 := but3.trans b4
    generalize upd H3 x (.ins C_PiecedRow dx (prFs2 (.ref p) (.ref bg))) = H4 at *
    k_is
    refine ⟨p, rfl, ⟨_, SqL.of hp4⟩, ?_⟩
    refine lc_list (SqL.of hp4) (fun i => nV ((kns ls).take i)) rfl (fun i hi => ?_) (fun i v H5 R A hv s5 _ hA => ?_) (fun D5 H5 hD5 s5 h5 => ?_)
    · unfold nV
      rw [List.length_map, List.length_take]
      exact small20000 (by omega)
    · obtain ⟨a, y, rfl, ea, ey, hy⟩ := hP4.get hv
      obtain ⟨d, t, m, g, o, y1, y2, y3⟩ := hy
      k_is
      refine ⟨a, C_Piece, d, _, _, rfl, s5 _ _ y1, Y.cl, Y.n_kept_sums, rfl, ?_⟩
      k_is
      refine r_ixT (SqT.of (s5 _ _ y2)) (v := .int (y.count true : Nat)) rfl ?_
      refine hA _ _ ?_ (Same.refl _)
      unfold kns
      rw [List.take_add_one, List.getElem?_map, ey]
      unfold nV
      rw [List.map_append]
      rfl
    rw [hal, List.take_of_length_le (by unfold kns; rw [List.length_map]; exact Nat.le_refl _)] at h5
    k_is
    refine ⟨D5, kns ls, rfl, h5, by unfold kns; rw [List.length_map]; omega, fun kn H6 s6 hk6 hkn => ?_⟩
    have hkl : (kns ls).length = ls.length := by unfold kns; rw [List.length_map]
    rw [hkl] at hkn
    have s46 := s5.trans s6
    have hkx : kn ≠ x := (ne_of_none (s5 _ _ hx4) hk6).symm
    have hx6 := s46 _ _ hx4
    have hp6 := s46 _ _ hp4
    have hbg6 := s46 _ _ hbg4
    have hP6 := hP4.kp (Same.kp s46)
    have but6 := but4.trans s46.but
    k_is
    refine r_sfldE hx6 Z.cl Z.n_knots_ahead (show 2 < 1000 by decide) ?_
    rw [show putF ("knots_ahead" : Str) (V.ref kn) (prFs2 (.ref p) (.ref bg)) = prFs3 (.ref p) (.ref bg) (.ref kn) from rfl]
    have hx7 : upd H6 x (.ins C_PiecedRow dx (prFs3 (.ref p) (.ref bg) (.ref kn))) x = some (.ins C_PiecedRow dx (prFs3 (.ref p) (.ref bg) (.ref kn))) := upd_same
    have b7 : SameBut x H6 (upd H6 x (.ins C_PiecedRow dx (prFs3 (.ref p) (.ref bg) (.ref kn)))) := sameBut_upd
    have hP7 := hP6.but b7 hx6 hne
    have hp7 := b7 _ _ hpx hp6
    have hbg7 := b7 _ _ hbx hbg6
    have hkn7 := b7 _ _ hkx hkn
    have but7 := but6.trans b7
    generalize upd H6 x (.ins C_PiecedRow dx (prFs3 (.ref p) (.ref bg) (.ref kn))) = H7 at *
    k_is
    refine ⟨x, C_PiecedRow, dx, _, .ref kn, rfl, hx7, Z.cl, Z.n_knots_ahead, rfl, ?_⟩
    k_is
    refine ⟨x, C_PiecedRow, dx, _, .ref bg, rfl, hx7, Z.cl, Z.n_begins, rfl, ?_⟩
    k_is
    refine ⟨kn, bg, rfl, ⟨_, SqL.of hkn7⟩, ⟨_, SqL.of hbg7⟩, ?_⟩
    have hkl2 : (nV ((List.range (ls.length + 1)).map fun i => ((kns ls).take i).sum)).length = ls.length + 1 := by unfold nV; rw [List.length_map, List.length_map, List.length_range]
    have kat : ∀ {i : Nat} {v : V}, (nV ((List.range (ls.length + 1)).map fun i => ((kns ls).take i).sum))[i]? = some v → v = .int (((kns ls).take i).sum : Nat) := fun {i v} e => by
      have hi := at_lt e
      rw [hkl2] at hi
      unfold nV at e
      rw [List.getElem?_map, List.getElem?_map, List.getElem?_range hi] at e
      exact (Option.some.inj e).symm
    refine lc_zip (SqL.of hkn7) (SqL.of hbg7) (fun i => ((List.range i).map fun j => 2 * (((kns ls).take j).sum : Int) - (bgn ls j : Int)).map V.int) rfl (fun i hi => ?_) (fun i v v2 H8 R A hv hv2 s8 _ hA => ?_) (fun D8 H8 hD8 s8 h8 => ?_)
    · rw [hkl2, bgs_len] at hi
      rw [List.length_map, List.length_map, List.length_range]
      exact small20000 (by omega)
    · have hi := at_lt hv
      rw [hkl2] at hi
      rw [bgs_at (by omega)] at hv2
      obtain rfl := kat hv
      obtain rfl := Option.some.inj hv2
      k_is
      refine hA _ _ ?_ (Same.refl _)
      rw [List.range_succ, List.map_append, List.map_append]
      rfl
    rw [hkl2, bgs_len, Nat.min_self] at h8
    have hx8 := s8 _ _ hx7
    have hp8 := s8 _ _ hp7
    have hbg8 := s8 _ _ hbg7
    have hP8 := hP7.kp (Same.kp s8)
    have but8 := but7.trans s8.but
    have hll : (((List.range (ls.length + 1)).map fun j => 2 * (((kns ls).take j).sum : Int) - (bgn ls j : Int)).map V.int).length = ls.length + 1 := by rw [List.length_map, List.length_map, List.length_range]
    k_is
    refine ⟨D8, p, rfl, ⟨_, SqL.of h8⟩, ⟨_, SqL.of hp8⟩, ?_⟩
    refine lc_zipN (SqL.of h8) (SqL.of hp8) (fun D i zs H' => zs.length = i) (fun D H' _ _ => rfl) (fun D i zs H' us o _ h => h) ?_ (fun D i zs H' H'' _ h => h) ?_ ?_
    · intro D i zs H' hi h
      rw [h]
      rw [hll, hal] at hi
      exact small20000 (by omega)
    · intro D i zs y y2 H9 A R hy hy2 s9 _ _ hPv hA
      obtain ⟨z, _, rfl⟩ := iV_get hy
      obtain ⟨a, c, rfl, ea, ec, hc⟩ := hP8.get hy2
      obtain ⟨d, t, m, g, o, y1, y2, y3⟩ := hc
      k_is
      refine ⟨a, C_Piece, d, _, _, rfl, s9 _ _ y1, Y.cl, Y.n_kept_sums, rfl, ?_⟩
      k_is
      refine r_ixT (SqT.of (s9 _ _ y2)) (v := .int m) rfl ?_
      k_is
      refine ⟨a, C_Piece, d, _, _, rfl, s9 _ _ y1, Y.cl, Y.n_greatest, rfl, ?_⟩
      k_is
      refine ⟨few (by simp), fun tp htp => ?_⟩
      exact hA _ _ (same_upd htp) (by rw [List.length_append, hPv]; rfl)
    · intro D9 zs H9 hD9 s9 hPv h9
      have hx9 := s9 _ _ hx8
      have hp9 := s9 _ _ hp8
      have hbg9 := s9 _ _ hbg8
      have hP9 := hP8.kp (Same.kp s9)
      have but9 := but8.trans s9.but
      k_is
      refine ⟨x, C_PiecedRow, dx, _, .ref bg, rfl, hx9, Z.cl, Z.n_begins, rfl, ?_⟩
      k_is
      refine r_ixL (SqL.of hbg9) (v := .int (ls.flatten.length : Nat)) ?_ ?_
      · unfold bgs
        rw [nV_range, bgn_all]
        exact atI_last _ _
      k_is
      refine ⟨p, rfl, ⟨_, SqL.of hp9⟩, ?_⟩
      refine lc_listN (SqL.of hp9) (fun i ys H' => ys.length = i) (fun _ _ => rfl) (fun i ys H' D zs o _ h => h) (fun i ys H' hi h => ?_) ?_ ?_
      · rw [h]
        rw [hal] at hi
        exact small20000 (by omega)
      · intro i ys y H10 A R hy s10 hPv2 hA
        obtain ⟨a, c, rfl, ea, ec, hc⟩ := hP9.get hy
        obtain ⟨d, t, m, g, o, y1, y2, y3⟩ := hc
        k_is
        refine ⟨a, C_Piece, d, _, _, rfl, s10 _ _ y1, Y.cl, Y.n_often_least, rfl, ?_⟩
        exact hA _ _ (Same.refl _) (by rw [List.length_append, hPv2]; rfl)
      · intro D10 ys H10 hD10 s10 hPv2 h10
        have hx10 := s10 _ _ hx9
        k_is
        refine ⟨x, dx, .ref p, .ref bg, .ref kn, _, _, _, rfl, hx10, ?_⟩
        have b11 : SameBut x H10 (upd H10 x (.ins C_PiecedRow dx (prFs (.ref p) (.ref bg) (.ref kn) (.int (ls.flatten.length : Nat)) (.ref D9) (.ref D10)))) := sameBut_upd
        refine q _ ((but9.trans s10.but).trans b11) ⟨dx, p, bg, _, _, _, upd_same, ⟨as, b11 _ _ hpx (s10 _ _ hp9), (hP9.kp (Same.kp s10)).but b11 hx10 hne⟩, b11 _ _ hbx (s10 _ _ hbg9), hZ, hn⟩ ⟨dx, _, upd_same⟩

def spPAt (C CR : Addr) (ts : List Tb) : Sp := fun vs H Q _ => ∃ (x : Addr) (ls : List (List Bool)) (n : Nat), vs = [.ref x, .int n] ∧ IsPRow C CR H x ls ∧ Tbs ts H ∧ ∀ (k : Nat) H', k ≤ ls.length → bgn ls k ≤ n → (k < ls.length → n < bgn ls (k + 1)) → SmT ts H H' → Q (.int k) H'
theorem ok_PiecedRow_stretch_at {f c Pt : Addr} {fd : FuncData} {ts : List Tb} (F : FunL K "stretch_at" "PiecedRow.stretch_at" s_PiecedRow_stretch_at f fd c Pt) (T : Txt K mg C_Wood C_Shaped) (hK : K.In base) (hB : base.BuiltinsAt mg Pt) (hts : (⟨Pt, pos_PiecedRow_stretch_at, "PiecedRow.stretch_at.<locals>.<lambda>"⟩ : Tb) ∈ ts) (Z : Z_PiecedRow K C_PiecedRow) (c_first_that : Cal P w K mg base "first_that" 3 ["low", "high", "holds"] (spFirst P w K mg base 2)) : FnOk P w K mg base CX0 4 f fd ["self", "place"] (spPAt C_Piece C_PiecedRow ts) := by
  refine F.ok sc_PiecedRow_stretch_at (fun vs H Q E h => ?_) (fun A outer s H vs Q E hr h => ?_)
  · obtain ⟨x, ls, n, rfl, _⟩ := h
    rfl
  · obtain ⟨x, ls, n, rfl, hR, hT, q⟩ := h
    obtain ⟨dx, p, b, k, t, o, hx, hW⟩ := id hR
    obtain ⟨as, hp, hP⟩ := hW.pcs
    refine ⟨_, (pss_one (ps_ret (pe_fnL (qual := "PiecedRow.stretch_at.<locals>.<lambda>") (k := 1) c_first_that (hr.mono (by decide : 3 ≤ _)) pe_int (pe_callB call_len_seq (by rfl) T.n_len b_len (pa_d (pe_fld (pv 0) rfl) pa_nil rfl)) (F.code hK) hB rfl (by kernel_rfl) lam_PiecedRow_stretch_at_0 (fun _ _ _ _ _ _ _ hr => (pe_cmpR op_gt (pe_ix (ix_listK K) (pe_fldK K (pv 2)) (pe_op op_add (pv 0) pe_int) (fun _ _ => rfl)) (pv 1) (nomark _)))))), ?_⟩
    k_is
    refine ⟨x, C_PiecedRow, dx, _, _, rfl, hx, Z.cl, Z.n_kept_pieces, rfl, ?_⟩
    k_is
    refine ⟨p, _, rfl, .inl (SqL.of hp), ?_⟩
    rw [show (as.map V.ref).length = ls.length by rw [List.length_map, hP.1]]
    k_is
    have hk := hT.1 _ hts
    refine ⟨0, (ls.length : Nat), fun i => decide (n < bgn ls (i.toNat + 1)), rfl, rfl, by omega, hk, fun i H3 hi1 hi2 s3 => ?_, fun m H' hm1 hm2 hm3 hm4 s' t' => ?_⟩
    · obtain ⟨pt, hpt⟩ := Tb.tbl hk
      have kp : ∀ {b : Addr} {u : HO}, (∀ ps, u ≠ .tbl ps) → H b = some u → H3 b = some u := fun {b u} nt e => s3 b u (fun z => by rw [z, hpt] at e; cases e; exact nt pt rfl) e
      have hx3 := kp (by intro ps e; cases e) hx
      have hb3 := kp (by intro ps e; cases e) hW.bg
      k_is
      refine ⟨x, C_PiecedRow, dx, _, _, rfl, hx3, Z.cl, Z.n_begins, rfl, ?_⟩
      k_is
      obtain ⟨k, rfl⟩ := Int.eq_ofNat_of_zero_le hi1
      refine r_ixL (SqL.of hb3) (v := .int (bgn ls (k + 1) : Nat)) (atI_nat (j := k + 1) (bgs_at (show k + 1 ≤ ls.length by omega))) ?_
      k_is
      refine ⟨?_, Same.refl _⟩
      rw [Int.toNat_natCast]
      exact congrArg V.bl (decide_eq_decide.mpr (by omega))
    · obtain ⟨k, rfl⟩ := Int.eq_ofNat_of_zero_le hm1
      refine q k H' (by omega) ?_ (fun hlt => ?_) (smT_X hT hts s' t')
      · rcases Nat.eq_zero_or_pos k with rfl | hk0
        · rw [bgn_zero]; exact Nat.zero_le _
        · have := hm3 (by omega)
          dsimp only at this
          rw [show (((k : Int) - 1).toNat + 1) = k by omega] at this
          have := of_decide_eq_false this
          omega
      · have := hm4 (by omega)
        dsimp only at this
        rw [Int.toNat_natCast] at this
        exact of_decide_eq_true this

def spPTo (C CR : Addr) (ts : List Tb) : Sp := fun vs H Q _ => ∃ (x : Addr) (ls : List (List Bool)) (n : Nat), vs = [.ref x, .int n] ∧ IsPRow C CR H x ls ∧ Tbs ts H ∧ ∀ (k : Nat) H', k ≤ ls.length → (0 < k → bgn ls (k - 1) < n) → (k < ls.length → n ≤ bgn ls k) → SmT ts H H' → Q (.int k) H'
theorem ok_PiecedRow_pieces_to {f c Pt : Addr} {fd : FuncData} {ts : List Tb} (F : FunL K "pieces_to" "PiecedRow.pieces_to" s_PiecedRow_pieces_to f fd c Pt) (T : Txt K mg C_Wood C_Shaped) (hK : K.In base) (hB : base.BuiltinsAt mg Pt) (hts : (⟨Pt, pos_PiecedRow_pieces_to, "PiecedRow.pieces_to.<locals>.<lambda>"⟩ : Tb) ∈ ts) (Z : Z_PiecedRow K C_PiecedRow) (c_first_that : Cal P w K mg base "first_that" 3 ["low", "high", "holds"] (spFirst P w K mg base 2)) : FnOk P w K mg base CX0 4 f fd ["self", "place"] (spPTo C_Piece C_PiecedRow ts) := by
  refine F.ok sc_PiecedRow_pieces_to (fun vs H Q E h => ?_) (fun A outer s H vs Q E hr h => ?_)
  · obtain ⟨x, ls, n, rfl, _⟩ := h
    rfl
  · obtain ⟨x, ls, n, rfl, hR, hT, q⟩ := h
    obtain ⟨dx, p, b, k, t, o, hx, hW⟩ := id hR
    obtain ⟨as, hp, hP⟩ := hW.pcs
    refine ⟨_, (pss_one (ps_ret (pe_fnL (qual := "PiecedRow.pieces_to.<locals>.<lambda>") (k := 1) c_first_that (hr.mono (by decide : 3 ≤ _)) pe_int (pe_callB call_len_seq (by rfl) T.n_len b_len (pa_d (pe_fld (pv 0) rfl) pa_nil rfl)) (F.code hK) hB rfl (by kernel_rfl) lam_PiecedRow_pieces_to_0 (fun _ _ _ _ _ _ _ hr => (pe_cmpR op_ge (pe_ix (ix_listK K) (pe_fldK K (pv 2)) (pv 0) (fun _ _ => rfl)) (pv 1) (nomark _)))))), ?_⟩
    k_is
    refine ⟨x, C_PiecedRow, dx, _, _, rfl, hx, Z.cl, Z.n_kept_pieces, rfl, ?_⟩
    k_is
    refine ⟨p, _, rfl, .inl (SqL.of hp), ?_⟩
    rw [show (as.map V.ref).length = ls.length by rw [List.length_map, hP.1]]
    k_is
    have hk := hT.1 _ hts
    refine ⟨0, (ls.length : Nat), fun i => decide (n ≤ bgn ls i.toNat), rfl, rfl, by omega, hk, fun i H3 hi1 hi2 s3 => ?_, fun m H' hm1 hm2 hm3 hm4 s' t' => ?_⟩
    · obtain ⟨pt, hpt⟩ := Tb.tbl hk
      have kp : ∀ {b : Addr} {u : HO}, (∀ ps, u ≠ .tbl ps) → H b = some u → H3 b = some u := fun {b u} nt e => s3 b u (fun z => by rw [z, hpt] at e; cases e; exact nt pt rfl) e
      have hx3 := kp (by intro ps e; cases e) hx
      have hb3 := kp (by intro ps e; cases e) hW.bg
      k_is
      refine ⟨x, C_PiecedRow, dx, _, _, rfl, hx3, Z.cl, Z.n_begins, rfl, ?_⟩
      k_is
      obtain ⟨k, rfl⟩ := Int.eq_ofNat_of_zero_le hi1
      refine r_ixL (SqL.of hb3) (v := .int (bgn ls k : Nat)) (atI_nat (j := k) (bgs_at (show k ≤ ls.length by omega))) ?_
      k_is
      refine ⟨?_, Same.refl _⟩
      rw [Int.toNat_natCast]
      exact congrArg V.bl (decide_eq_decide.mpr (by omega))
    · obtain ⟨k, rfl⟩ := Int.eq_ofNat_of_zero_le hm1
      refine q k H' (by omega) (fun hk0 => ?_) (fun hlt => ?_) (smT_X hT hts s' t')
      · have := hm3 (by omega)
        dsimp only at this
        rw [show ((k : Int) - 1).toNat = k - 1 by omega] at this
        have := of_decide_eq_false this
        omega
      · have := hm4 (by omega)
        dsimp only at this
        rw [Int.toNat_natCast] at this
        exact of_decide_eq_true this

def spPcStretch (C CR : Addr) (ts : List Tb) : Sp := fun vs H Q _ => ∃ (x : Addr) (ls : List (List Bool)) (lo hi : Nat), vs = [.ref x, .int lo, .int hi] ∧ IsPRow C CR H x ls ∧ Tbs ts H ∧ lo ≤ hi ∧ hi ≤ ls.flatten.length ∧ ∀ H', SmT ts H H' → Q (.str (signs ((ls.flatten.drop lo).take (hi - lo)))) H'
theorem cut_list (xs : List V) {a b : Nat} (h : b ≤ xs.length) : cutV xs (some (a : Int)) (some (b : Int)) = (xs.drop a).take (b - a) := by
  unfold cutV
  rw [HT.sIx_nat, HT.sIx_nat, Nat.min_eq_left h]
  by_cases ha : a ≤ xs.length
  · rw [Nat.min_eq_left ha]
  · rw [Nat.min_eq_right (by omega), List.drop_of_length_le (Nat.le_refl _), List.drop_of_length_le (by omega), List.take_nil, List.take_nil]
theorem bgn_lt {ls : List (List Bool)} (hZ : Sized ls) {i j : Nat} (h : i < j) (hj : j ≤ ls.length) : bgn ls i < bgn ls j := by
  have hi : i < ls.length := by omega
  have := bgn_succ (List.getElem?_eq_getElem hi)
  have h1 := (hZ i _ (List.getElem?_eq_getElem hi)).1
  have h2 := bgn_mono (ls := ls) (show i + 1 ≤ j by omega)
  omega
theorem bgn_sz {ls : List (List Bool)} (hZ : Sized ls) : ∀ j, j ≤ ls.length → bgn ls j ≤ 128 * j
  | 0, _ => by rw [bgn_zero]; exact Nat.zero_le _
  | j + 1, h => by
    have h1 := bgn_sz hZ j (by omega)
    have h2 := (hZ j _ (List.getElem?_eq_getElem (show j < ls.length by omega))).2
    rw [bgn_succ (List.getElem?_eq_getElem (show j < ls.length by omega))]
    omega
theorem ok_PiecedRow_stretch {f : Addr} {fd : FuncData} {ts : List Tb} (F : Fun K "stretch" "PiecedRow.stretch" s_PiecedRow_stretch f fd) (T : Txt K mg C_Wood C_Shaped) (Z : Z_PiecedRow K C_PiecedRow) (Y : Z_Piece K C_Piece) (m_PiecedRow_stretch_at : Mth P w K mg base C_PiecedRow "stretch_at" 4 ["self", "place"] (spPAt C_Piece C_PiecedRow ts)) (m_PiecedRow_pieces_to : Mth P w K mg base C_PiecedRow "pieces_to" 4 ["self", "place"] (spPTo C_Piece C_PiecedRow ts)) : FnOk P w K mg base CX0 5 f fd ["self", "low", "high"] (spPcStretch C_Piece C_PiecedRow ts) := by
  refine F.ok sc_PiecedRow_stretch (fun vs H Q E h => ?_) (fun cdv A outer s H vs Q E hr h => ?_)
  · obtain ⟨x, ls, lo, hi, rfl, _⟩ := h
    rfl
  · obtain ⟨x, ls, lo, hi, rfl, hR, hT, hlh, hhi, q⟩ := h
    obtain ⟨dx, p, b, k, t, o, hx, hW⟩ := id hR
    obtain ⟨as, hp, hP⟩ := id hW.pcs
    refine ⟨_, (pss_cons (ps_set (i := 3) sc_PiecedRow_stretch.nd rfl (Or.inl rfl) (pe_mt m_PiecedRow_stretch_at (hr.mono (by decide : 4 ≤ _)) (pv 0) (pa_d (pv 1) pa_nil rfl)))
      (pss_cons (ps_set (i := 4) sc_PiecedRow_stretch.nd rfl (Or.inl rfl) (pe_bm PySem.F.plainAttrs_str PySem.F.slot_str_join PySem.F.type_str_join mt_join pe_str (pa_d (pe_lc rfl lc_PiecedRow_stretch_0 (pi_list (pe_slice sl_list (pe_fld (pv 0) rfl) (po_some (pv 3)) (po_some (pe_mt m_PiecedRow_pieces_to (hr.mono (by decide : 4 ≤ _)) (pv 0) (pa_d (pv 2) pa_nil rfl))))) (fun _ _ _ _ => pif_nil) (fun _ _ _ _ => (pe_fldK K (pv 0)))) pa_nil rfl)))
      (pss_cons (ps_set (i := 5) sc_PiecedRow_stretch.nd rfl (Or.inl rfl) (pe_ix ix_list (pe_fld (pv 0) rfl) (pv 3) (fun _ _ => rfl)))
      (pss_one (ps_ret (pe_slice sl_str (pv 4) (po_some (pe_op op_sub (pv 1) (pv 5))) (po_some (pe_op op_sub (pv 2) (pv 5))))))))), ?_⟩
    k_is
    refine ⟨x, dx, _, rfl, hx, rfl, ?_⟩
    k_is
    refine ⟨x, ls, lo, rfl, hR, hT, fun k1 H1 hk1 ha1 hb1 s1 => ?_⟩
    have hx1 := s1.k hx
    have hR1 := hR.kp s1.kp
    k_is
    refine ⟨rfl, ?_⟩
    k_is
    refine ⟨x, C_PiecedRow, dx, _, _, rfl, hx1, Z.cl, Z.n_kept_pieces, rfl, ?_⟩
    k_is
    refine ⟨x, dx, _, rfl, hx1, rfl, ?_⟩
    k_is
    refine ⟨x, ls, hi, rfl, hR1, s1.ok, fun k2 H2 hk2 ha2 hb2 s2 => ?_⟩
    have s12 := s1.trans s2
    have hx2 := s12.k hx
    have hp2 := s12.k hp
    have hW2 := hW.kp s12.kp
    have hP2 := hP.kp s12.kp
    have hkk : k1 ≤ k2 := by
      by_cases h : k1 ≤ k2
      · exact h
      · exfalso
        have h1 := hb2 (by omega)
        have h2 := bgn_lt hW.sz (show k2 < k1 by omega) hk1
        omega
    have hend : hi ≤ bgn ls k2 := by
      by_cases h : k2 < ls.length
      · exact hb2 h
      · rw [show k2 = ls.length by omega, bgn_all]; exact hhi
    have hal : (as.map V.ref).length = ls.length := by rw [List.length_map, hP.1]
    k_is
    refine ⟨p, _, rfl, SqL.of hp2, fun D hD => ?_⟩
    rw [cut_list _ (by rw [hal]; exact hk2)] at *
    have uD := same_upd (o := .lst (((as.map V.ref).drop k1).take (k2 - k1))) hD
    have hD2 : upd H2 D (.lst (((as.map V.ref).drop k1).take (k2 - k1))) D = some (.lst (((as.map V.ref).drop k1).take (k2 - k1))) := upd_same
    have hP3 := hP2.kp (Same.kp uD)
    have hx3 := uD _ _ hx2
    have hbg3 := uD _ _ hW2.bg
    have s3 := s12.then uD
    generalize upd H2 D (.lst (((as.map V.ref).drop k1).take (k2 - k1))) = H3 at *
    have hcl : (((as.map V.ref).drop k1).take (k2 - k1)).length = k2 - k1 := by rw [List.length_take, List.length_drop, hal]; omega
    have hfw := hW.fw
    k_is
    refine ⟨D, rfl, ⟨_, SqL.of hD2⟩, ?_⟩
    refine lc_list (SqL.of hD2) (fun i => (((ls.drop k1).take (k2 - k1)).take i).map fun l => V.str (signs l)) rfl (fun i hi => ?_) (fun i v H4 R A hv s4 _ hA => ?_) (fun D4 H4 hD4 s4 h4 => ?_)
    · rw [List.length_map, List.length_take, List.length_take, List.length_drop]
      exact small20000 (by omega)
    · have hi := at_lt hv
      rw [hcl] at hi
      rw [List.getElem?_take_of_lt hi, List.getElem?_drop] at hv
      obtain ⟨a, y, rfl, ea, ey, hy⟩ := hP3.get hv
      obtain ⟨d, t, m, g, o, y1, y2, y3⟩ := hy
      k_is
      refine ⟨a, C_Piece, d, _, _, rfl, s4 _ _ y1, Y.cl, Y.n_signs, rfl, ?_⟩
      refine hA _ _ ?_ (Same.refl _)
      rw [List.take_add_one, List.getElem?_take_of_lt hi, List.getElem?_drop, ey, List.map_append]
      rfl
    rw [hcl, List.take_of_length_le (by rw [List.length_take]; omega)] at h4
    have hfl : ls.flatten.length ≤ 60000 := by
      have := bgn_sz hW.sz ls.length (Nat.le_refl _)
      rw [bgn_all] at this
      omega
    k_is
    refine rd_joinS (ls := (ls.drop k1).take (k2 - k1)) h4 ?_ ?_
    · rw [flat_cut ls hkk, List.length_take, List.length_drop]
      omega
    rw [flat_cut ls hkk]
    k_is
    refine ⟨x, C_PiecedRow, dx, _, _, rfl, s4 _ _ hx3, Z.cl, Z.n_begins, rfl, ?_⟩
    k_is
    refine r_ixL (SqL.of (s4 _ _ hbg3)) (v := .int (bgn ls k1 : Nat)) (atI_nat (j := k1) (bgs_at hk1)) ?_
    k_is
    refine ⟨_, rfl, Nat.le_of_lt (small20000 (by rw [signs_len, List.length_take, List.length_drop]; omega)), ?_⟩
    rw [show (lo : Int) - (bgn ls k1 : Nat) = ((lo - bgn ls k1 : Nat) : Int) by omega, show (hi : Int) - (bgn ls k1 : Nat) = ((hi - bgn ls k1 : Nat) : Int) by omega, cut_signs, show hi - bgn ls k1 - (lo - bgn ls k1) = hi - lo by omega, cut_cut ls.flatten ha1 hlh hend]
    exact q _ (s3.then s4)

def spRText (C CR : Addr) (ts : List Tb) : Sp := fun vs H Q _ => ∃ (x : Addr) (ls : List (List Bool)), vs = [.ref x] ∧ IsPRow C CR H x ls ∧ Tbs ts H ∧ ∀ H', SmT ts H H' → Q (.str (signs ls.flatten)) H'
theorem ok_Heights_text {f : Addr} {fd : FuncData} {ts : List Tb} (F : Fun K "text" "Heights.text" s_Heights_text f fd) (T : Txt K mg C_Wood C_Shaped) (Z : Z_PiecedRow K C_PiecedRow) (m_PiecedRow_stretch : Mth P w K mg base C_PiecedRow "stretch" 5 ["self", "low", "high"] (spPcStretch C_Piece C_PiecedRow ts)) : FnOk P w K mg base CX0 6 f fd ["self"] (spRText C_Piece C_PiecedRow ts) := by
  refine F.ok sc_Heights_text (fun vs H Q E h => ?_) (fun cdv A outer s H vs Q E hr h => ?_)
  · obtain ⟨x, ls, rfl, _⟩ := h
    rfl
  · obtain ⟨x, ls, rfl, hR, hT, q⟩ := h
    obtain ⟨dx, p, b, k, t, o, hx, hW⟩ := id hR
    refine ⟨_, (pss_one (ps_ret (pe_mt m_PiecedRow_stretch (hr.mono (by decide : 5 ≤ _)) (pv 0) (pa_d pe_int (pa_d (pe_fld (pv 0) rfl) pa_nil rfl) rfl)))), ?_⟩
    k_is
    refine ⟨x, dx, _, rfl, hx, rfl, ?_⟩
    k_is
    refine ⟨x, C_PiecedRow, dx, _, _, rfl, hx, Z.cl, Z.n_length, rfl, ?_⟩
    k_is
    refine ⟨x, ls, 0, ls.flatten.length, rfl, hR, hT, Nat.zero_le _, Nat.le_refl _, fun H' s' => ?_⟩
    rw [List.drop_zero, Nat.sub_zero, List.take_length]
    exact q H' s'

def spSRow (C CR CS : Addr) (ts : List Tb) : Sp := fun vs H Q _ => ∃ (x : Addr) (ls : List (List Bool)), vs = [.ref x] ∧ IsShaped C CR CS H x ls ∧ Tbs ts H ∧ ∀ H', SmT ts H H' → Q (.str (signs ls.flatten)) H'
theorem ok_Openings_row {f : Addr} {fd : FuncData} {ts : List Tb} (F : Fun K "row" "Openings.row" s_Openings_row f fd) (T : Txt K mg C_Wood C_Shaped) (Z : Z_Shaped K C_Shaped) (m_PiecedRow_text : Mth P w K mg base C_PiecedRow "text" 6 ["self"] (spRText C_Piece C_PiecedRow ts)) : FnOk P w K mg base CX0 7 f fd ["self"] (spSRow C_Piece C_PiecedRow C_Shaped ts) := by
  refine F.ok sc_Openings_row (fun vs H Q E h => ?_) (fun cdv A outer s H vs Q E hr h => ?_)
  · obtain ⟨x, ls, rfl, _⟩ := h
    rfl
  · obtain ⟨x, ls, rfl, ⟨dx, r, e, hx, hR⟩, hT, q⟩ := h
    obtain ⟨dp, p, b, k, t, o, hp, _⟩ := id hR
    refine ⟨_, (pss_one (ps_ret (pe_mt0 m_PiecedRow_text (hr.mono (by decide : 6 ≤ _)) (pe_fld (pv 0) rfl)))), ?_⟩
    k_is
    refine ⟨x, C_Shaped, dx, _, _, rfl, hx, Z.cl, Z.n_pairs, rfl, ?_⟩
    k_is
    refine ⟨r, dp, _, rfl, hp, rfl, ?_⟩
    k_is
    exact ⟨r, ls, rfl, hR, hT, q⟩

def spSElders (C CR CS : Addr) (ts : List Tb) : Sp := fun vs H Q _ => ∃ (x : Addr) (ls : List (List Bool)), vs = [.ref x] ∧ IsShaped C CR CS H x ls ∧ Tbs ts H ∧ Vs 0 ls.flatten ∧ ls.flatten.length ≤ 8000 ∧ ∀ p (ds : List Nat) H', SmT ts H H' → H p = none → H' p = some (.lst ((elds ds).map V.int)) → Dok ds → rowD ds = ls.flatten → Q (.ref p) H'
theorem ok_Openings_elders {f : Addr} {fd : FuncData} {ts : List Tb} (F : Fun K "elders" "Openings.elders" s_Openings_elders f fd) (T : Txt K mg C_Wood C_Shaped) (Z : Z_Shaped K C_Shaped) (c_elders_of : Cal P w K mg base "elders_of" 2 ["text"] spEldersOf) (m_Shaped_row : Mth P w K mg base C_Shaped "row" 7 ["self"] (spSRow C_Piece C_PiecedRow C_Shaped ts)) : FnOk P w K mg base CX0 8 f fd ["self"] (spSElders C_Piece C_PiecedRow C_Shaped ts) := by
  refine F.ok sc_Openings_elders (fun vs H Q E h => ?_) (fun cdv A outer s H vs Q E hr h => ?_)
  · obtain ⟨x, ls, rfl, _⟩ := h
    rfl
  · obtain ⟨x, ls, rfl, hS, hT, hv, hl, q⟩ := h
    obtain ⟨dx, r, e, hx, hR⟩ := id hS
    refine ⟨_, (pss_one (ps_ret (pe_fn c_elders_of (hr.mono (by decide : 2 ≤ _)) (pa_d (pe_mt0 m_Shaped_row (hr.mono (by decide : 7 ≤ _)) (pv 0)) pa_nil rfl)))), ?_⟩
    k_is
    refine ⟨x, dx, _, rfl, hx, rfl, ?_⟩
    k_is
    refine ⟨x, ls, rfl, hS, hT, fun H1 s1 => ?_⟩
    k_is
    exact ⟨ls.flatten, rfl, hv, hl, fun p ds H2 s2 h0 h1 hD e => q p ds H2 (s1.then s2) (s1.sm.free h0) h1 hD e⟩

theorem IsPRow.but {C CR CS x dx r : Addr} {H H' : Hp} {ls : List (List Bool)} {fs : List (Str × V)} (h : IsPRow C CR H r ls) (s : SameBut x H H') (hx : H x = some (.ins CS dx fs)) (hf : fs.length < 4) : IsPRow C CR H' r ls := by
  obtain ⟨d, p, b, k, t, o, h1, ⟨as, hp, hP⟩, hb, hz, hn⟩ := h
  refine ⟨d, p, b, k, t, o, s _ _ (fun e => ?_) h1, ⟨as, s _ _ (fun e => ?_) hp, hP.but s hx fun a ha e => ?_⟩, s _ _ (fun e => ?_) hb, hz, hn⟩
  · rw [e, hx] at h1
    cases h1
    exact absurd hf (by show ¬ 6 < 4; decide)
  · rw [e, hx] at hp
    cases hp
  · obtain ⟨k, hk⟩ := List.getElem?_of_mem ha
    have hk1 := (List.getElem?_eq_some_iff.mp hk).1
    obtain ⟨d, t, m, g, o, h1, _⟩ := hP.2 k a _ hk (List.getElem?_eq_getElem (by rw [← hP.1]; exact hk1))
    rw [e, hx] at h1
    cases h1
    exact absurd hf (by show ¬ 4 < 4; decide)
  · rw [e, hx] at hb
    cases hb
def spSInit (C CR CS : Addr) : Sp := fun vs H Q _ => ∃ (x dx a : Addr) (ds : List Nat), vs = [.ref x, .ref a] ∧ H x = some (.ins CS dx []) ∧ H a = some (.lst ((elds ds).map V.int)) ∧ Dok ds ∧ ds.length < 4000 ∧ ∀ p r H', SameBut x H H' → IsShaped C CR CS H' x (pcs (rowD ds)) → H p = none → (∃ d e, H' x = some (.ins CS d (shFs (.ref r) e))) → (∃ d fs, H' r = some (.ins CR d (("kept_pieces", .ref p) :: fs))) → Q .non H'
theorem ok_Shaped_init {f : Addr} {fd : FuncData} (F : Fun K "__init__" "Shaped.__init__" s_Shaped_init f fd) (T : Txt K mg C_Wood C_Shaped) (Z : Z_Shaped K C_Shaped) (c_row_of : Cal P w K mg base "row_of" 3 ["elders"] spRowOf) (c_pieces_of : Cal P w K mg base "pieces_of" 5 ["text"] (spPiecesOf C_Piece)) (c_PiecedRow : Mkr P w K mg base "PiecedRow" C_PiecedRow 2 ["self", "pieces"] (spPRInit C_Piece C_PiecedRow)) (b_Openings_init : CalC P w K mg base "Openings" "__init__" 1 ["self", "pairs"] (spOInitS C_Shaped)) : FnOk P w K mg base CX0 6 f fd ["self", "elders"] (spSInit C_Piece C_PiecedRow C_Shaped) := by
  refine F.ok sc_Shaped_init (fun vs H Q E h => ?_) (fun cdv A outer s H vs Q E hr h => ?_)
  · obtain ⟨x, dx, a, ds, rfl, _⟩ := h
    rfl
  · obtain ⟨x, dx, a, ds, rfl, hx, ha, hD, hn, q⟩ := h
    refine ⟨_, (pss_cons (ps_expr (pe_cm b_Openings_init (hr.mono (by decide : 1 ≤ _)) rfl (pa_d (pv 0) (pa_d (pe_mk c_PiecedRow (hr.mono (by decide : 3 ≤ _)) (pa_d (pe_fn c_pieces_of (hr.mono (by decide : 5 ≤ _)) (pa_d (pe_fn c_row_of (hr.mono (by decide : 3 ≤ _)) (pa_d (pv 1) pa_nil rfl)) pa_nil rfl)) pa_nil rfl)) pa_nil rfl) rfl)))
      (pss_one (ps_fld (pv 0) (pe_lst pa_nil) rfl))), ?_⟩
    have hrl := rowD_len hD
    k_is
    refine ⟨a, ds, rfl, ha, hD, hn, fun H1 s1 => ?_⟩
    k_is
    refine ⟨rowD ds, rfl, by omega, fun p as H2 s2 hp0 hp hP => ?_⟩
    have s12 := s1.trans s2
    have hx2 := s12 _ _ hx
    k_is
    intro r dr hr0 hdr hrd
    have sN : Same H2 (upd (upd H2 dr (.own r)) r (.ins C_PiecedRow dr [])) := new_same hr0 hdr
    refine ⟨r, dr, p, as, _, rfl, upd_same, sN _ _ hp, hP.kp (Same.kp sN), pcs_sized _, ?_, fun H3 s3 hR3 hF3 => ⟨rfl, ?_⟩⟩
    · rw [pcs_len]
      unfold pcM
      omega
    have s23 := made_same hr0 hdr s3
    have s13 := s12.trans s23
    have hx3 := s13 _ _ hx
    have hrx : r ≠ x := (ne_of_none hx2 hr0).symm
    k_is
    refine ⟨x, dx, .ref r, rfl, hx3, ?_⟩
    have b4 : SameBut x H3 (upd H3 x (.ins C_Shaped dx [("pairs", .ref r)])) := sameBut_upd
    have hR4 := hR3.but b4 hx3 (by decide)
    obtain ⟨dr3, fs3, hF3⟩ := hF3
    have hF4 := b4 _ _ hrx hF3
    have hx4 : upd H3 x (.ins C_Shaped dx [("pairs", .ref r)]) x = some (.ins C_Shaped dx [("pairs", .ref r)]) := upd_same
    have but4 := s13.but.trans b4
    generalize upd H3 x (.ins C_Shaped dx [("pairs", .ref r)]) = H4 at *
    k_is
    refine ⟨Nat.zero_le _, fun e he => ?_⟩
    have s5 := same_upd (o := .lst []) he
    have hR5 := hR4.kp (Same.kp s5)
    have hF5 := s5 _ _ hF4
    have hx5 := s5 _ _ hx4
    have but5 := but4.trans s5.but
    generalize upd H4 e (.lst []) = H5 at *
    k_is
    refine r_sfldE hx5 Z.cl Z.n_earlier (show 1 < 1000 by decide) ?_
    rw [show putF ("earlier" : Str) (V.ref e) [("pairs", .ref r)] = shFs (.ref r) (.ref e) from rfl]
    have b6 : SameBut x H5 (upd H5 x (.ins C_Shaped dx (shFs (.ref r) (.ref e)))) := sameBut_upd
    exact q p r _ (but5.trans b6) ⟨dx, r, _, upd_same, hR5.but b6 hx5 (by show 1 < 4; decide)⟩ (s1.free hp0) ⟨dx, _, upd_same⟩ ⟨dr3, fs3, b6 _ _ hrx hF5⟩

def spSPieces (C CR CS : Addr) : Sp := fun vs H Q _ => ∃ (x : Addr) (ls : List (List Bool)), vs = [.ref x] ∧ IsShaped C CR CS H x ls ∧ ∀ p H', Same H H' → H p = none → H' p = some (.lst (ls.map fun l => .str (signs l))) → Q (.ref p) H'
theorem ok_Shaped_pieces {f : Addr} {fd : FuncData} (F : Fun K "pieces" "Shaped.pieces" s_Shaped_pieces f fd) (T : Txt K mg C_Wood C_Shaped) (Z : Z_Shaped K C_Shaped) (W : Z_PiecedRow K C_PiecedRow) (Y : Z_Piece K C_Piece) : FnOk P w K mg base CX0 1 f fd ["self"] (spSPieces C_Piece C_PiecedRow C_Shaped) := by
  refine F.ok sc_Shaped_pieces (fun vs H Q E h => ?_) (fun cdv A outer s H vs Q E hr h => ?_)
  · obtain ⟨x, ls, rfl, _⟩ := h
    rfl
  · obtain ⟨x, ls, rfl, ⟨dx, r, e, hx, hR⟩, q⟩ := h
    obtain ⟨dp, p, b, k, t, o, hr2, hW⟩ := id hR
    obtain ⟨as, hp, hP⟩ := id hW.pcs
    have hfw := hW.fw
    refine ⟨_, (pss_one (ps_ret (pe_lc rfl lc_Shaped_pieces_0 (pi_list (pe_fld (pe_fld (pv 0) rfl) rfl)) (fun _ _ _ _ => pif_nil) (fun _ _ _ _ => (pe_fldK K (pv 0)))))), ?_⟩
    k_is
    refine ⟨x, C_Shaped, dx, _, _, rfl, hx, Z.cl, Z.n_pairs, rfl, ?_⟩
    k_is
    refine ⟨r, C_PiecedRow, dp, _, _, rfl, hr2, W.cl, W.n_kept_pieces, rfl, ?_⟩
    k_is
    refine ⟨p, rfl, ⟨_, SqL.of hp⟩, ?_⟩
    refine lc_list (SqL.of hp) (fun i => (ls.take i).map fun l => V.str (signs l)) rfl (fun i hi => ?_) (fun i v H1 R A hv s1 _ hA => ?_) (fun D H1 hD s1 h1 => ?_)
    · rw [List.length_map, List.length_take]
      exact small20000 (by omega)
    · obtain ⟨a, y, rfl, ea, ey, hy⟩ := hP.get hv
      obtain ⟨d, t, m, g, o, y1, y2, y3⟩ := hy
      k_is
      refine ⟨a, C_Piece, d, _, _, rfl, s1 _ _ y1, Y.cl, Y.n_signs, rfl, ?_⟩
      refine hA _ _ ?_ (Same.refl _)
      rw [List.take_add_one, ey, List.map_append]
      rfl
    · rw [List.length_map, hP.1, List.take_length] at h1
      exact q D H1 s1 hD h1

def SmsAt (H : Hp) (bs : List Addr) (ls : List (List Bool)) (n : Nat) : Prop := bs.length = n ∧ ∀ (k : Nat) (b : Addr) (x : List Bool), bs[k]? = some b → ls[k]? = some x → ∃ m, H b = some (.tup (sumsV x m)) ∧ LeastD x m
theorem SmsAt.kp {H H' : Hp} {bs : List Addr} {ls : List (List Bool)} {n : Nat} (h : SmsAt H bs ls n) (s : Kp H H') : SmsAt H' bs ls n := ⟨h.1, fun k b x e1 e2 => let ⟨m, h1, h2⟩ := h.2 k b x e1 e2; ⟨m, s.k h1, h2⟩⟩
theorem SmsAt.upd {H : Hp} {bs : List Addr} {ls : List (List Bool)} {n : Nat} {D : Addr} {zs : List V} {o : HO} (h : SmsAt H bs ls n) (hD : H D = some (.lst zs)) : SmsAt (upd H D o) bs ls n := ⟨h.1, fun k b x e1 e2 => let ⟨m, h1, h2⟩ := h.2 k b x e1 e2; ⟨m, by rw [upd_ne (fun e => by rw [e, hD] at h1; cases h1)]; exact h1, h2⟩⟩
theorem SmsAt.push {H : Hp} {bs : List Addr} {ls : List (List Bool)} {n : Nat} {b : Addr} {x : List Bool} {m : Int} (h : SmsAt H bs ls n) (hx : ls[n]? = some x) (h1 : H b = some (.tup (sumsV x m))) (h2 : LeastD x m) : SmsAt H (bs ++ [b]) ls (n + 1) := by
  refine ⟨by rw [List.length_append, h.1]; rfl, fun k c y e1 e2 => ?_⟩
  by_cases hk : k < bs.length
  · rw [List.getElem?_append_left hk] at e1
    exact h.2 k c y e1 e2
  · have hk2 := at_lt e1
    rw [List.length_append] at hk2
    obtain rfl : k = bs.length := by simp only [List.length_cons, List.length_nil] at hk2; omega
    rw [List.getElem?_append_right (Nat.le_refl _), Nat.sub_self] at e1
    obtain rfl : b = c := Option.some.inj e1
    rw [h.1, hx] at e2
    obtain rfl := Option.some.inj e2
    exact ⟨m, h1, h2⟩
def spSSums (C CR CS : Addr) : Sp := fun vs H Q _ => ∃ (x : Addr) (ls : List (List Bool)), vs = [.ref x] ∧ IsShaped C CR CS H x ls ∧ ∀ p (bs : List Addr) H', Same H H' → H p = none → H' p = some (.lst (bs.map V.ref)) → SmsAt H' bs ls ls.length → Q (.ref p) H'
theorem ok_Shaped_sums {f : Addr} {fd : FuncData} (F : Fun K "sums" "Shaped.sums" s_Shaped_sums f fd) (T : Txt K mg C_Wood C_Shaped) (Z : Z_Shaped K C_Shaped) (W : Z_PiecedRow K C_PiecedRow) (Y : Z_Piece K C_Piece) : FnOk P w K mg base CX0 1 f fd ["self"] (spSSums C_Piece C_PiecedRow C_Shaped) := by
  refine F.ok sc_Shaped_sums (fun vs H Q E h => ?_) (fun cdv A outer s H vs Q E hr h => ?_)
  · obtain ⟨x, ls, rfl, _⟩ := h
    rfl
  · obtain ⟨x, ls, rfl, ⟨dx, r, e, hx, hR⟩, q⟩ := h
    obtain ⟨dp, p, b, k, t, o, hr2, hW⟩ := id hR
    obtain ⟨as, hp, hP⟩ := id hW.pcs
    have hfw := hW.fw
    refine ⟨_, (pss_one (ps_ret (pe_lc rfl lc_Shaped_sums_0 (pi_list (pe_fld (pe_fld (pv 0) rfl) rfl)) (fun _ _ _ _ => pif_nil) (fun _ _ _ _ => (pe_fldK K (pv 0)))))), ?_⟩
    k_is
    refine ⟨x, C_Shaped, dx, _, _, rfl, hx, Z.cl, Z.n_pairs, rfl, ?_⟩
    k_is
    refine ⟨r, C_PiecedRow, dp, _, _, rfl, hr2, W.cl, W.n_kept_pieces, rfl, ?_⟩
    k_is
    refine ⟨p, rfl, ⟨_, SqL.of hp⟩, ?_⟩
    refine lc_listN (SqL.of hp) (fun i ys H' => ∃ bs : List Addr, ys = bs.map V.ref ∧ SmsAt H' bs ls i) (fun _ _ => ⟨[], rfl, rfl, fun k b x e => by cases e⟩) (fun i ys H' D zs o hD ⟨bs, e1, e2⟩ => ⟨bs, e1, e2.upd hD⟩) (fun i ys H' hi h => ?_) ?_ ?_
    · obtain ⟨bs, rfl, h⟩ := h
      rw [List.length_map, hP.1] at hi
      rw [List.length_map, h.1]
      exact small20000 (by omega)
    · intro i ys y H1 A R hy s1 hPv hA
      obtain ⟨bs, rfl, h⟩ := hPv
      obtain ⟨a, c, rfl, ea, ec, hc⟩ := hP.get hy
      obtain ⟨d, t, m, g, o, y1, y2, y3⟩ := hc
      k_is
      refine ⟨a, C_Piece, d, _, _, rfl, s1 _ _ y1, Y.cl, Y.n_kept_sums, rfl, ?_⟩
      exact hA _ _ (Same.refl _) ⟨bs ++ [t], by rw [List.map_append]; rfl, h.push ec (s1 _ _ y2) y3⟩
    · intro D ys H1 hD s1 hPv h1
      obtain ⟨bs, rfl, h⟩ := hPv
      rw [List.length_map, hP.1] at h
      exact q D bs H1 s1 hD h1 h

def spCell (K : PySem.W.Frag) : Sp := fun vs H Q _ => ∃ (a : Addr) (ns : List Int) (k : Nat), vs = [.ref a, .int k] ∧ SqL K H a (ns.map V.int) ∧ ∀ c : Int, Q (.int c) H
theorem ok_law_cell_at {f : Addr} {fd : FuncData} (F : Fun K "_law_cell_at" "_law_cell_at" s_law_cell_at f fd) (T : Txt K mg C_Wood C_Shaped) : FnOk P w K mg base CX0 1 f fd ["_law_script", "_law_k"] (spCell K) := by
  refine F.ok sc_law_cell_at (fun vs H Q E h => ?_) (fun cdv A outer s H vs Q E hr h => ?_)
  · obtain ⟨a, ns, k, rfl, _⟩ := h
    rfl
  · obtain ⟨a, ns, k, rfl, hS, q⟩ := h
    refine ⟨_, (pss_cons (ps_if (pt_cmpR op_lt (pv 1) (pe_callB call_len_seq (by rfl) T.n_len b_len (pa_d (pv 0) pa_nil rfl)) (nomark _)) (pss_one (ps_ret (pe_ix ix_list (pv 0) (pv 1) (fun _ _ => rfl))))
      pss_nil)
      (pss_one (ps_ret pe_int))), ?_⟩
    k_is
    refine ⟨a, _, rfl, .inl hS, ?_⟩
    k_is
    rw [List.length_map]
    refine iteP (fun hb => ?_) (fun hb => ?_)
    · k_is
      have hk : k < ns.length := by omega
      refine r_ixL hS (v := .int ns[k]) ?_ (q _)
      refine atI_nat ?_
      rw [List.getElem?_map, List.getElem?_eq_getElem hk]
      rfl
    · k_is
      exact q 0

def spWhole : Sp := fun vs H Q _ => ∃ i : Int, vs = [.int i] ∧ Q (.bl true) H
theorem ok_law_whole {f : Addr} {fd : FuncData} (F : Fun K "_law_whole" "_law_whole" s_law_whole f fd) (T : Txt K mg C_Wood C_Shaped) : FnOk P w K mg base CX0 1 f fd ["_law_found"] spWhole := by
  refine F.ok sc_law_whole (fun vs H Q E h => ?_) (fun cdv A outer s H vs Q E hr h => ?_)
  · obtain ⟨i, rfl, _⟩ := h
    rfl
  · obtain ⟨i, rfl, q⟩ := h
    refine ⟨_, (pss_one (ps_ret (pe_and (pe_callB call_isinst (by rfl) T.n_isinstance b_isinstance (pa_d (pv 0) (pa_d (pe_bltn (v := .ty "int") rfl T.n_int b_int rfl) pa_nil rfl) rfl)) (pe_one (pe_not (pe_callB call_isinst (by rfl) T.n_isinstance b_isinstance (pa_d (pv 0) (pa_d (pe_bltn (v := .ty "bool") rfl T.n_bool b_bool rfl) pa_nil rfl) rfl))))))), ?_⟩
    k_is
    refine ⟨_, _, _, _, rfl, .int _, kit_int_int, ?_⟩
    k_is
    refine ⟨_, _, _, _, rfl, .int _, kit_int_bool, ?_⟩
    k_is
    exact q

def spMixed : Sp := fun vs H Q _ => ∃ c k : Int, vs = [.int c, .int k] ∧ 0 ≤ k ∧ k ≤ 1000 ∧ ∀ r : Int, 0 ≤ r → r < 2147483587 → Q (.int r) H
theorem ok_law_mixed {f : Addr} {fd : FuncData} (F : Fun K "_law_mixed" "_law_mixed" s_law_mixed f fd) (T : Txt K mg C_Wood C_Shaped) : FnOk P w K mg base CX0 1 f fd ["_law_cell", "_law_k"] spMixed := by
  refine F.ok sc_law_mixed (fun vs H Q E h => ?_) (fun cdv A outer s H vs Q E hr h => ?_)
  · obtain ⟨c, k, rfl, _⟩ := h
    rfl
  · obtain ⟨c, k, rfl, h0, h1, q⟩ := h
    refine ⟨_, (pss_cons (ps_set (i := 2) sc_law_mixed.nd rfl (Or.inl rfl) (pe_op op_mod (pe_op op_mul (pe_op op_add (pe_op op_mod (pv 0) pe_int) pe_int) (pe_op op_add pe_int (pe_op op_mul (pe_op op_mul pe_int (pv 1)) (pv 1)))) pe_int))
      (pss_one (ps_ret (pe_op op_mod (pe_op op_mul (pe_op op_add (pv 2) (pe_op op_mul pe_int (pv 1))) (pe_op op_add pe_int (pe_op op_mul pe_int (pv 1)))) pe_int)))), ?_⟩
    k_is
    refine r_mulR (by omega) (by omega) ?_
    k_is
    have b1 := Int.emod_nonneg c (show (2147483647 : Int) ≠ 0 by decide)
    have b2 := Int.emod_lt_of_pos c (show (0 : Int) < 2147483647 by decide)
    refine r_mulL (by omega) (by omega) ?_
    k_is
    refine r_mulR (by omega) (by omega) ?_
    k_is
    exact q _ (Int.emod_nonneg _ (by decide)) (Int.emod_lt_of_pos _ (by decide))

def spDigits (K : PySem.W.Frag) : Sp := fun vs H Q _ => ∃ (a : Addr) (ns : List Int) (k : Nat) (m : Int), vs = [.ref a, .int k, .int m] ∧ SqL K H a (ns.map V.int) ∧ 0 ≤ m ∧ m ≤ 100 ∧ ∀ p (ds : List Int) H', Same H H' → H p = none → H' p = some (.lst (ds.map V.int)) → ds.length = m.toNat → Q (.ref p) H'
theorem ok_law_digits {f : Addr} {fd : FuncData} (F : Fun K "_law_digits" "_law_digits" s_law_digits f fd) (T : Txt K mg C_Wood C_Shaped) (c_law_cell_at : Cal P w K mg base "_law_cell_at" 1 ["_law_script", "_law_k"] (spCell K)) (c_law_mixed : Cal P w K mg base "_law_mixed" 1 ["_law_cell", "_law_k"] spMixed) :
    FnOk P w K mg base CX0 2 f fd ["_law_script", "_law_at", "_law_many"] (spDigits K) := by
  refine F.ok sc_law_digits (fun vs H Q E h => ?_) (fun cdv A outer s H vs Q E hr h => ?_)
  · obtain ⟨a, ns, k, m, rfl, _⟩ := h
    rfl
  · obtain ⟨a, ns, k, m, rfl, hS, h0, h1, q⟩ := h
    refine ⟨_, (pss_cons (ps_set (i := 3) sc_law_digits.nd rfl (Or.inl rfl) (pe_op op_mul (pe_callB call_abs (by rfl) T.n_abs b_abs (pa_d (pe_fn c_law_cell_at (hr.mono (by decide : 1 ≤ _)) (pa_d (pv 0) (pa_d (pe_op op_add (pv 1) pe_int) pa_nil rfl) rfl)) pa_nil rfl)) (pe_op op_sub pe_int (pe_op op_mod (pe_fn c_law_cell_at (hr.mono (by decide : 1 ≤ _)) (pa_d (pv 0) (pa_d (pv 1) pa_nil rfl) rfl)) pe_int))))
      (pss_cons (ps_set (i := 4) sc_law_digits.nd rfl (Or.inl rfl) (pe_lst pa_nil))
      (pss_cons (ps_for PassesOwn.never rfl (pi_range1 rfl T.n_range (pa_d (pv 2) pa_nil rfl)) (pg_name (i := 5) sc_law_digits.nd rfl (Or.inl rfl))
      (pss_one (ps_if (pt_cmpR op_gt (pv 3) pe_int (nomark _)) (pss_cons (ps_expr (pe_bm PySem.F.plainAttrs_list PySem.F.slot_list_append PySem.F.type_list_append mt_append (pv 4) (pa_d (pe_op op_mod (pv 3) pe_int) pa_nil rfl)))
      (pss_one (ps_set (i := 3) sc_law_digits.nd rfl (Or.inl rfl) (pe_op op_fdiv (pv 3) pe_int))))
      (pss_one (ps_expr (pe_bm PySem.F.plainAttrs_list PySem.F.slot_list_append PySem.F.type_list_append mt_append (pv 4) (pa_d (pe_op op_mod (pe_fn c_law_mixed (hr.mono (by decide : 1 ≤ _)) (pa_d (pe_fn c_law_cell_at (hr.mono (by decide : 1 ≤ _)) (pa_d (pv 0) (pa_d (pe_op op_add (pe_op op_add (pv 1) pe_int) (pe_op op_mod (pv 5) pe_int)) pa_nil rfl) rfl)) (pa_d (pv 5) pa_nil rfl) rfl)) pe_int) pa_nil rfl)))))))
      (pss_one (ps_ret (pv 4)))))), ?_⟩
    k_is
    refine ⟨a, ns, k + 1, rfl, hS, fun c1 => ?_⟩
    k_is
    refine ⟨_, rfl, ?_⟩
    k_is
    refine ⟨a, ns, k, rfl, hS, fun c2 => ?_⟩
    k_is
    refine r_mulR (by omega) (by omega) ?_
    k_is
    refine ⟨Nat.zero_le _, fun p hp => ?_⟩
    k_is
    refine ⟨m, rfl, by omega, by omega, ?_⟩
    have s0 : Same H (upd H p (.lst [])) := same_upd hp
    have push : ∀ {H1 : Hp} {o : HO}, Same H H1 → Same H (upd H1 p o) := fun s1 b u e => by rw [upd_ne (ne_of_none e hp)]; exact s1 _ _ e
    have z1 : ∀ {l : List Int} {i : Nat}, l.length = i → i < m.toNat → (l.map V.int).length < sizeLine := fun e hi => by
      rw [List.length_map, e]
      exact small1000 (by omega)
    refine for_range (fun i σ H1 => ∃ (ds : List Int) (x : Int) (v5 : Option V), σ = [some (.ref a), some (.int k), some (.int m), some (.int x), some (.ref p), v5] ∧ ds.length = i ∧ H1 p = some (.lst (ds.map V.int)) ∧ Same H H1) ⟨[], _, _, rfl, rfl, upd_same, s0⟩ ?_ ?_
    · rintro i σ H1 hi ⟨ds, x, v5, rfl, hd, hH, sm⟩
      k_is
      refine iteP (fun hb => ?_) (fun hb => ?_)
      · k_is
        refine ⟨.inl ⟨rfl, _, SqL.of hH⟩, ?_⟩
        k_is
        refine r_append hH (z1 hd hi) ?_
        k_is
        exact ⟨ds ++ [x % 64], _, _, rfl, by rw [List.length_append, hd]; rfl, by rw [upd_same, List.map_append]; rfl, push sm⟩
      · k_is
        refine ⟨.inl ⟨rfl, _, SqL.of hH⟩, ?_⟩
        k_is
        refine ⟨a, ns, k + 1 + i % 9, ?_, sm.seq hS, fun c3 => ?_⟩
        · rw [show (k : Int) + 1 + (0 + (i : Int)) % 9 = ((k + 1 + i % 9 : Nat) : Int) by omega]
          rfl
        k_is
        refine ⟨c3, _, rfl, by omega, by omega, fun r _ _ => ?_⟩
        k_is
        refine r_append hH (z1 hd hi) ?_
        k_is
        exact ⟨ds ++ [r % 64], _, _, rfl, by rw [List.length_append, hd]; rfl, by rw [upd_same, List.map_append]; rfl, push sm⟩
    · rintro σ H1 ⟨ds, x, v5, rfl, hd, hH, sm⟩
      k_is
      exact q p ds H1 sm hp hH hd

def spWood : Sp := fun vs H Q _ => ∃ (a : Addr) (gs : List Int), vs = [.ref a] ∧ H a = some (.lst (gs.map V.int)) ∧ gs.length ≤ 1000 ∧ ∀ p (ds : List Nat) H', Same H H' → H p = none → H' p = some (.lst ((elds ds).map V.int)) → Dok ds → ds.length = gs.length → Q (.ref p) H'
theorem cut_to (xs : List V) (m : Nat) : cutV xs none (some (m : Int)) = xs.take m := by
  unfold cutV
  rw [HT.sIx_nat]
  show (xs.drop 0).take (min m xs.length - 0) = xs.take m
  rw [List.drop_zero, Nat.sub_zero]
  by_cases h : m ≤ xs.length
  · rw [Nat.min_eq_left h]
  · rw [Nat.min_eq_right (by omega), List.take_of_length_le (Nat.le_refl _), List.take_of_length_le (by omega)]
theorem ok_law_wood {f : Addr} {fd : FuncData} (F : Fun K "_law_wood" "_law_wood" s_law_wood f fd) (T : Txt K mg C_Wood C_Shaped) : FnOk P w K mg base CX0 1 f fd ["_law_digits_here"] spWood := by
  refine F.ok sc_law_wood (fun vs H Q E h => ?_) (fun cdv A outer s H vs Q E hr h => ?_)
  · obtain ⟨a, gs, rfl, _⟩ := h
    rfl
  · obtain ⟨a, gs, rfl, ha, hn, q⟩ := h
    refine ⟨_, (pss_cons (ps_set (i := 1) sc_law_wood.nd rfl (Or.inl rfl) (pe_lst pa_nil))
      (pss_cons (ps_set (i := 2) sc_law_wood.nd rfl (Or.inl rfl) (pe_lst pa_nil))
      (pss_cons (ps_for PassesOwn.never rfl (pi_range1 rfl T.n_range (pa_d (pe_callB call_len_seq (by rfl) T.n_len b_len (pa_d (pv 0) pa_nil rfl)) pa_nil rfl)) (pg_name (i := 3) sc_law_wood.nd rfl (Or.inl rfl))
      (pss_cons (ps_set (i := 2) sc_law_wood.nd rfl (Or.inl rfl) (pe_slice sl_list (pv 2) po_none (po_some (pe_op op_sub (pe_callB call_len_seq (by rfl) T.n_len b_len (pa_d (pv 2) pa_nil rfl)) (pe_op op_mod (pe_ix ix_list (pv 0) (pv 3) (fun _ _ => rfl)) (pe_op op_add (pe_callB call_len_seq (by rfl) T.n_len b_len (pa_d (pv 2) pa_nil rfl)) pe_int))))))
      (pss_cons (ps_expr (pe_bm PySem.F.plainAttrs_list PySem.F.slot_list_append PySem.F.type_list_append mt_append (pv 1) (pa_d (pe_ix ix_list (pe_op op_cat (pe_lst (pa_d (pe_un un_neg pe_int) pa_nil rfl)) (pv 2)) (pe_un un_neg pe_int) (fun _ _ => rfl)) pa_nil rfl)))
      (pss_one (ps_set (i := 2) sc_law_wood.nd rfl (Or.inl rfl) (pe_op op_cat (pv 2) (pe_lst (pa_d (pv 3) pa_nil rfl))))))))
      (pss_one (ps_ret (pv 1)))))), ?_⟩
    k_is
    refine ⟨Nat.zero_le _, fun p hp => ?_⟩
    k_is
    refine ⟨Nat.zero_le _, fun p0 hp0 => ?_⟩
    have t0 := same_upd (o := .lst []) hp
    have t1 := same_upd (o := .lst []) hp0
    k_is
    refine ⟨a, _, rfl, .inl (SqL.of (t1 _ _ (t0 _ _ ha))), ?_⟩
    k_is
    rw [List.length_map]
    refine ⟨_, rfl, by omega, by omega, ?_⟩
    rw [Int.toNat_natCast]
    refine for_range (fun k σ H1 => (∃ (q : Addr) (ds : List Nat) (v : Option V), σ = [some (.ref a), some (.ref p), some (.ref q), v] ∧ Dok ds ∧ ds.length = k ∧ H1 p = some (.lst ((elds ds).map V.int)) ∧ H1 q = some (.lst ((way ds k).tail.map V.int)) ∧ p ≠ q) ∧ Same H H1)
      ⟨⟨p0, [], _, rfl, (fun k hk => by cases hk), rfl, t1 _ _ upd_same, upd_same, ne_of_none upd_same hp0⟩, t0.trans t1⟩ ?_ ?_
    · rintro k σ H1 hk ⟨⟨q1, ds, v, rfl, hD, hl, hp1, hq1, hne⟩, s1⟩
      have hw := way_len hD k (by omega)
      have hh := way_head hD (k := k) (by omega)
      have hok := opn_le hD k (by omega)
      have hwt : (way ds k).tail.length = opn ds k := by rw [List.length_tail]; omega
      k_is
      refine ⟨q1, _, rfl, .inl (SqL.of hq1), ?_⟩
      k_is
      rw [List.length_map, hwt]
      obtain ⟨g, hg⟩ : ∃ g, gs[k]? = some g := ⟨gs[k], List.getElem?_eq_getElem hk⟩
      refine r_ixL (SqL.of (s1 _ _ ha)) (v := .int g) ?_ ?_
      · rw [show (0 + (k : Int)) = (k : Int) by omega]
        exact atI_nat (iV_at hg)
      k_is
      refine ⟨q1, _, rfl, .inl (SqL.of hq1), ?_⟩
      k_is
      rw [List.length_map, hwt]
      refine r_mod (by omega) ?_
      k_is
      obtain ⟨d, hd, hd1⟩ : ∃ d : Nat, (opn ds k : Int) - g % ((opn ds k : Int) + 1) = (d : Int) ∧ d ≤ opn ds k := by
        have e0 := Int.emod_nonneg g (show (opn ds k : Int) + 1 ≠ 0 by omega)
        have e1 := Int.emod_lt_of_pos g (show 0 < (opn ds k : Int) + 1 by omega)
        exact ⟨((opn ds k : Int) - g % ((opn ds k : Int) + 1)).toNat, by omega, by omega⟩
      rw [hd]
      refine ⟨q1, _, rfl, SqL.of hq1, fun q2 h2 => ?_⟩
      rw [cut_to] at *
      rw [← List.map_take] at *
      have u2 := same_upd (o := .lst (((way ds k).tail.take d).map V.int)) h2
      k_is
      refine ⟨.inl ⟨rfl, _, SqL.of (u2 _ _ hp1)⟩, ?_⟩
      k_is
      refine ⟨few (by simp), fun q3 h3 => ?_⟩
      have u3 := same_upd (o := .lst [V.int (-1)]) h3
      k_is
      refine ⟨q3, q2, _, _, rfl, rfl, upd_same, u3 _ _ upd_same, ?_, fun q4 h4 => ?_⟩
      · rw [List.length_map, List.length_take]
        exact few (by simp only [List.length_cons, List.length_nil]; omega)
      have ew : [V.int (-1)] ++ ((way ds k).tail.take d).map V.int = ((way ds k).take (d + 1)).map V.int := by
        rw [hh]
        rfl
      rw [ew] at *
      have u4 := same_upd (o := .lst (((way ds k).take (d + 1)).map V.int)) h4
      have hx : (way ds k)[d + 1 - 1]? = some ((way ds k).getD d 0) := by
        rw [Nat.add_sub_cancel]
        unfold List.getD
        rw [List.getElem?_eq_getElem (by omega)]
        rfl
      k_is
      refine r_ixL (SqL.of upd_same) (last_take (by omega) hx) ?_
      k_is
      have u24 := (u2.trans u3).trans u4
      refine r_append (u24 _ _ hp1) ?_ ?_
      · rw [List.length_map, elds_len]
        exact small20000 (by omega)
      have hpq2 : q2 ≠ p := (ne_of_none hp1 h2).symm
      have hq2' : upd (upd (upd (upd H1 q2 (.lst (((way ds k).tail.take d).map V.int))) q3 (.lst [V.int (-1)])) q4 (.lst (((way ds k).take (d + 1)).map V.int))) p (.lst ((elds ds).map V.int ++ [V.int ((way ds k).getD d 0)])) q2 = some (.lst (((way ds k).tail.take d).map V.int)) := by
        rw [upd_ne hpq2]
        exact u4 _ _ (u3 _ _ upd_same)
      have s5 := push_same (o := .lst ((elds ds).map V.int ++ [V.int ((way ds k).getD d 0)])) (s1.trans u24) hp
      have hp5 : upd (upd (upd (upd H1 q2 (.lst (((way ds k).tail.take d).map V.int))) q3 (.lst [V.int (-1)])) q4 (.lst (((way ds k).take (d + 1)).map V.int))) p (.lst ((elds ds).map V.int ++ [V.int ((way ds k).getD d 0)])) p = some (.lst ((elds ds).map V.int ++ [V.int ((way ds k).getD d 0)])) := upd_same
      generalize upd (upd (upd (upd H1 q2 (.lst (((way ds k).tail.take d).map V.int))) q3 (.lst [V.int (-1)])) q4 (.lst (((way ds k).take (d + 1)).map V.int))) p (.lst ((elds ds).map V.int ++ [V.int ((way ds k).getD d 0)])) = H5 at *
      k_is
      refine ⟨few (by simp), fun q6 h6 => ?_⟩
      have u6 := same_upd (o := .lst [V.int (0 + (k : Int))]) h6
      refine ⟨q2, q6, _, _, rfl, rfl, u6 _ _ hq2', upd_same, ?_, fun q7 h7 => ?_⟩
      · rw [List.length_map, List.length_take]
        exact few (by simp only [List.length_cons, List.length_nil]; omega)
      have u7 := same_upd (o := .lst (((way ds k).tail.take d).map V.int ++ [V.int (0 + (k : Int))])) h7
      k_is
      have hp7 := u7 _ _ (u6 _ _ hp5)
      refine ⟨⟨q7, ds ++ [d], _, rfl, dok_snoc hD (by rw [hl]; exact hd1), by rw [List.length_append, hl]; rfl, ?_, ?_, ne_of_none (u6 _ _ hp5) h7⟩, (s5.trans u6).trans u7⟩
      · rw [hp7, elds_snoc, List.map_append, hl]
        rfl
      · have e := way_next ds d
        rw [hl] at e
        rw [upd_same, e, show (0 + (k : Int)) = (k : Int) by omega]
        have e2 : ((way ds k).take (d + 1) ++ [(k : Int)]).tail = (way ds k).tail.take d ++ [(k : Int)] := by
          rw [hh]
          rfl
        rw [e2, List.map_append]
        rfl
    · rintro σ H1 ⟨⟨q1, ds, v, rfl, hD, hl, hp1, hq1, hne⟩, s1⟩
      k_is
      exact q p ds H1 s1 hp hp1 hD hl

def spLarge : Sp := fun vs H Q _ => ∃ (a : Addr) (ds : List Nat) (t : Nat) (b : Bool), vs = [.ref a, .int t, .bl b] ∧ H a = some (.lst ((elds ds).map V.int)) ∧ Dok ds ∧ t ≤ 10 ∧ ds.length ≤ 60 ∧ ∀ p (es : List Nat) H', Same H H' → H' p = some (.lst ((elds es).map V.int)) → Dok es → es.length ≤ 600 → Q (.ref p) H'
theorem ok_law_large {f : Addr} {fd : FuncData} (F : Fun K "_law_large" "_law_large" s_law_large f fd) (T : Txt K mg C_Wood C_Shaped) : FnOk P w K mg base CX0 1 f fd ["_law_elders", "_law_times", "_law_nested"] spLarge := by
  refine F.ok sc_law_large (fun vs H Q E h => ?_) (fun cdv A outer s H vs Q E hr h => ?_)
  · obtain ⟨a, ds, t, b, rfl, _⟩ := h
    rfl
  · obtain ⟨a, ds, t, b, rfl, ha, hD, ht, hdl, q⟩ := h
    refine ⟨_, (pss_cons (ps_set (i := 3) sc_law_large.nd rfl (Or.inl rfl) (pe_lst pa_nil))
      (pss_cons (ps_for PassesOwn.never rfl (pi_range1 rfl T.n_range (pa_d (pv 1) pa_nil rfl)) (pg_name (i := 4) sc_law_large.nd rfl (Or.inl rfl))
      (pss_cons (ps_set (i := 5) sc_law_large.nd rfl (Or.inr rfl) (pe_callB call_len_seq (by rfl) T.n_len b_len (pa_d (pv 3) pa_nil rfl)))
      (pss_cons (ps_set (i := 6) sc_law_large.nd rfl (Or.inr rfl) (pe_ix ix_list (pe_lst (pa_d (pe_un un_neg pe_int) (pa_d (pe_op op_sub (pv 5) pe_int) pa_nil rfl) rfl)) (pe_callTy call_int1 (by rfl) T.n_int b_int (pa_d (pv 2) pa_nil rfl)) (fun _ _ => rfl)))
      (pss_one (ps_set (i := 3) sc_law_large.nd rfl (Or.inl rfl) (pe_op op_cat (pv 3) (pe_lc rfl lc_law_large_0 (pi_list (pv 0)) (fun _ _ _ _ => pif_nil) (fun _ _ _ _ => (pe_ix (ix_listK K) (pe_lst (pa_d (pe_op op_add (pv 0) (pv 1)) (pa_d (pv 2) pa_nil rfl) rfl)) (pe_callTy call_int1 (by rfl) T.n_int b_int (pa_d (pe_cmpR op_lt (pv 0) pe_int (nomark _)) pa_nil rfl)) (fun _ _ => rfl))))))))))
      (pss_one (ps_ret (pv 3))))), ?_⟩
    k_is
    refine ⟨Nat.zero_le _, fun p0 hp0 => ?_⟩
    have t0 := same_upd (o := .lst []) hp0
    k_is
    refine ⟨_, rfl, by omega, by omega, ?_⟩
    rw [Int.toNat_natCast]
    refine for_range (fun k σ H1 => (∃ (p : Addr) (A : List Nat) (v4 v5 v6 : Option V), σ = [some (.ref a), some (.int t), some (.bl b), some (.ref p), v4, v5, v6] ∧ Dok A ∧ A.length = k * ds.length ∧ H1 p = some (.lst ((elds A).map V.int))) ∧ Same H H1) ⟨⟨p0, [], _, _, _, rfl, (fun k hk => by cases hk), by rw [Nat.zero_mul]; rfl, upd_same⟩, t0⟩ ?_ ?_
    · rintro k σ H1 hk ⟨⟨p, A, v4, v5, v6, rfl, hA, hAl, hp⟩, s1⟩
      have hAn : A.length ≤ 600 := by
        rw [hAl]
        exact Nat.le_trans (Nat.mul_le_mul (show k ≤ 10 by omega) hdl) (by decide)
      k_is
      refine ⟨p, _, rfl, .inl (SqL.of hp), ?_⟩
      k_is
      rw [List.length_map, elds_len]
      refine ⟨few (by simp), fun q1 h1 => ?_⟩
      have u1 := same_upd (o := .lst [V.int (-1), V.int ((A.length : Int) - 1)]) h1
      k_is
      refine .inr ⟨b, rfl, ?_⟩
      obtain ⟨off, top, ho, htop, hix⟩ : ∃ (off : Nat) (top : Int), off ≤ opn A A.length ∧ (way A A.length)[off]? = some top ∧ atI [V.int (-1), V.int ((A.length : Int) - 1)] (if b = true then 1 else 0) = some (V.int top) := by
        cases b with
        | false => exact ⟨0, -1, Nat.zero_le _, way_zero hA _ (Nat.le_refl _), rfl⟩
        | true =>
          by_cases e : A.length = 0
          · refine ⟨0, -1, Nat.zero_le _, way_zero hA _ (Nat.le_refl _), ?_⟩
            rw [e]
            rfl
          · exact ⟨opn A A.length, (A.length : Int) - 1, Nat.le_refl _, way_last hA (by omega), rfl⟩
      refine r_ixL (SqL.of upd_same) hix ?_
      have hp1 := u1 _ _ hp
      have s2 := s1.trans u1
      generalize upd H1 q1 (.lst [V.int (-1), V.int ((A.length : Int) - 1)]) = H2 at *
      k_is
      refine ⟨a, rfl, ⟨_, SqL.of (s2 _ _ ha)⟩, ?_⟩
      refine lc_list (SqL.of (s2 _ _ ha)) (fun i => (((elds ds).take i).map fun e => if e < 0 then top else e + (A.length : Int)).map V.int) rfl (fun i hi => ?_) (fun i x H3 R A' hx s3 kR kA => ?_) (fun D H3 hDn s3 hl3 => ?_)
      · rw [List.length_map, List.length_map, List.length_take]
        rw [List.length_map, elds_len] at hi
        exact small1000 (by omega)
      · obtain ⟨e, he, rfl⟩ := iV_get hx
        k_is
        refine ⟨few (by simp), fun q3 h3 => ?_⟩
        have u3 := same_upd (o := .lst [V.int (e + (A.length : Int)), V.int top]) h3
        k_is
        refine .inr ⟨_, rfl, ?_⟩
        refine r_ixL (SqL.of upd_same) (v := .int (if e < 0 then top else e + (A.length : Int))) ?_ ?_
        · by_cases hlt : e < 0
          · rw [decide_eq_true hlt, if_pos hlt]
            rfl
          · rw [decide_eq_false hlt, if_neg hlt]
            rfl
        k_is
        refine kA _ _ ?_ u3
        rw [List.take_add_one, he, List.map_append, List.map_append]
        rfl
      · rw [List.length_map, List.take_of_length_le (Nat.le_refl _)] at hl3
        k_is
        refine ⟨p, D, _, _, rfl, rfl, s3 _ _ hp1, hl3, ?_, fun q4 h4 => ?_⟩
        · rw [List.length_map, List.length_map, List.length_map, elds_len, elds_len]
          exact few (by omega)
        have e4 : (elds A).map V.int ++ ((elds ds).map fun e => if e < 0 then top else e + (A.length : Int)).map V.int = (elds (hang A ds off)).map V.int := by
          rw [hang_elds hA hD ho htop, List.map_append]
        rw [e4] at *
        k_is
        refine ⟨⟨q4, hang A ds off, _, _, _, rfl, hang_ok hA hD ho, ?_, upd_same⟩, (s2.trans s3).trans (same_upd h4)⟩
        rw [hang_len, hAl, Nat.succ_mul]
    · rintro σ H1 ⟨⟨p, A, v4, v5, v6, rfl, hA, hAl, hp⟩, s1⟩
      k_is
      exact q p A H1 s1 hp hA (by rw [hAl]; exact Nat.le_trans (Nat.mul_le_mul ht hdl) (by decide))

def spRow : Sp := fun vs H Q _ => ∃ (a : Addr) (ds : List Nat), vs = [.ref a] ∧ H a = some (.lst ((elds ds).map V.int)) ∧ Dok ds ∧ ds.length ≤ 1000 ∧ ∀ H', Same H H' → Q (.str (signs (rowD ds))) H'
theorem ok_law_row {f : Addr} {fd : FuncData} (F : Fun K "_law_row" "_law_row" s_law_row f fd) (T : Txt K mg C_Wood C_Shaped) : FnOk P w K mg base CX0 1 f fd ["_law_elders"] spRow := by
  refine F.ok sc_law_row (fun vs H Q E h => ?_) (fun cdv A outer s H vs Q E hr h => ?_)
  · obtain ⟨a, ds, rfl, _⟩ := h
    rfl
  · obtain ⟨a, ds, rfl, ha, hD, hn, q⟩ := h
    refine ⟨_, (pss_cons (ps_set (i := 1) sc_law_row.nd rfl (Or.inl rfl) pe_str)
      (pss_cons (ps_set (i := 2) sc_law_row.nd rfl (Or.inl rfl) (pe_lst pa_nil))
      (pss_cons (ps_for PassesOwn.never rfl (pi_range1 rfl T.n_range (pa_d (pe_callB call_len_seq (by rfl) T.n_len b_len (pa_d (pv 0) pa_nil rfl)) pa_nil rfl)) (pg_name (i := 3) sc_law_row.nd rfl (Or.inl rfl))
      (pss_cons (ps_while PassesOwn.never (PW.pt (pw_and (pt_cmpR (op_neL (hu60 hr)) (pv 2) (pe_lst pa_nil) (nomark _)) (pw_and1 (pt_cmpR op_ne (pe_ix ix_list (pv 2) (pe_un un_neg pe_int) (fun _ _ => rfl)) (pe_ix ix_list (pv 0) (pv 3) (fun _ _ => rfl)) (nomark _)))))
      (pss_cons (ps_expr (pe_bm0 PySem.F.plainAttrs_list PySem.F.slot_list_pop PySem.F.type_list_pop mt_pop (pv 2)))
      (pss_one (ps_set (i := 1) sc_law_row.nd rfl (Or.inl rfl) (pe_op op_add_str (pv 1) pe_str)))))
      (pss_cons (ps_expr (pe_bm PySem.F.plainAttrs_list PySem.F.slot_list_append PySem.F.type_list_append mt_append (pv 2) (pa_d (pv 3) pa_nil rfl)))
      (pss_one (ps_set (i := 1) sc_law_row.nd rfl (Or.inl rfl) (pe_op op_add_str (pv 1) pe_str))))))
      (pss_one (ps_ret (pe_op op_add_str (pv 1) (pe_op op_mulS pe_str (pe_callB call_len_seq (by rfl) T.n_len b_len (pa_d (pv 2) pa_nil rfl))))))))), ?_⟩
    k_is
    refine ⟨Nat.zero_le _, fun p hp => ?_⟩
    have t0 := same_upd (o := .lst []) hp
    k_is
    refine ⟨a, _, rfl, .inl (SqL.of (t0 _ _ ha)), ?_⟩
    k_is
    rw [List.length_map, elds_len]
    refine ⟨_, rfl, by omega, by omega, ?_⟩
    rw [Int.toNat_natCast]
    refine for_range (fun k σ H1 => (∃ v : Option V, σ = [some (.ref a), some (.str (signs (rowP ds k))), some (.ref p), v]) ∧ H1 p = some (.lst ((way ds k).tail.map V.int)) ∧ Same H H1) ⟨⟨_, rfl⟩, upd_same, t0⟩ ?_ ?_
    · rintro k σ H1 hk ⟨⟨v, rfl⟩, hp1, s1⟩
      have hw := way_len hD k (by omega)
      have hh := way_head hD (k := k) (by omega)
      have hok := opn_le hD k (by omega)
      have hd := hD k hk
      have hrl := rowP_len hD k (by omega)
      have hea := eld_at hD hk
      have hwt : (way ds k).tail.length = opn ds k := by rw [List.length_tail]; omega
      k_is
      refine while_rd (fun σ H2 => ∃ m, dAt ds k ≤ m ∧ m ≤ opn ds k ∧ σ = [some (.ref a), some (.str (signs (rowP ds k ++ List.replicate (opn ds k - m) false))), some (.ref p), some (.int (0 + (k : Int)))] ∧ H2 p = some (.lst (((way ds k).tail.take m).map V.int)) ∧ Same H H2) (fun _ H2 => lenAt H2 p)
        ⟨opn ds k, hd, Nat.le_refl _, by rw [Nat.sub_self, List.replicate_zero, List.append_nil]; rfl, by rw [List.take_of_length_le (by omega)]; exact hp1, s1⟩ ?_
      rintro z σ H2 ⟨m, hm1, hm2, rfl, hp2, s2⟩ hz
      rw [lenAt_of hp2, List.length_map, List.length_take, hwt, Nat.min_eq_left hm2] at hz
      have out : m = dAt ds k → ∀ H3, Same H H3 → H3 p = some (.lst (((way ds k).tail.take m).map V.int)) → signs (rowP ds k ++ List.replicate (opn ds k - m) false) ++ ("1" : Str) = signs (rowP ds (k + 1)) ∧ ((way ds k).tail.take m).map V.int ++ [V.int (0 + (k : Int))] = (way ds (k + 1)).tail.map V.int := fun e H3 _ _ => by
        subst e
        constructor
        · rw [rowP_succ]
          show signs _ ++ signs [true] = _
          rw [signs_append, List.append_assoc]
          rfl
        · show _ = ((way ds k).take (dAt ds k + 1) ++ [(k : Int)]).tail.map V.int
          have e2 : ((way ds k).take (dAt ds k + 1) ++ [(k : Int)]).tail = (way ds k).tail.take (dAt ds k) ++ [(k : Int)] := by
            rw [hh]
            rfl
          rw [e2, List.map_append, show (0 + (k : Int)) = (k : Int) by omega]
          rfl
      k_is
      refine ⟨Nat.zero_le _, fun e hE => ?_⟩
      have tE := same_upd (o := .lst []) hE
      have hp3 := tE _ _ hp2
      have s3 := s2.trans tE
      refine r_neI (ns := (way ds k).tail.take m) (ms := []) (SqL.of hp3) (SqL.of upd_same) ?_
      generalize upd H2 e (.lst []) = H3 at *
      k_is
      refine iteN (fun hne => ?_) (fun hem => ?_)
      · have hm0 : 0 < m := by
          cases m with
          | zero => exact absurd rfl hne
          | succ m => omega
        have hx1 : (way ds k).tail[m - 1]? = some ((way ds k).tail[m - 1]'(by omega)) := List.getElem?_eq_getElem _
        generalize (way ds k).tail[m - 1]'(by omega) = y at hx1
        have hx2 : (way ds k)[m]? = some y := by
          rw [List.getElem?_tail, show m - 1 + 1 = m by omega] at hx1
          exact hx1
        k_is
        refine r_ixL (SqL.of hp3) (last_take hm0 hx1) ?_
        k_is
        refine r_ixL (SqL.of (s3 _ _ ha)) (v := .int (eld ds k)) ?_ ?_
        · rw [show (0 + (k : Int)) = (k : Int) by omega]
          exact atI_nat (iV_at (elds_at hk))
        k_is
        refine iteN (fun h => ?_) (fun h => ?_)
        · have hmne : m ≠ dAt ds k := fun e => by
            rw [e, hea] at hx2
            exact h (congrArg V.int (Option.some.inj hx2).symm)
          refine r_turn ?_
          k_is
          refine ⟨.inl ⟨rfl, _, SqL.of hp3⟩, ?_⟩
          have hml : m ≤ (way ds k).tail.length := by omega
          refine ⟨p, _, .int y, rfl, rfl, hp3, ?_, ?_⟩
          · rw [len_take hml, iV_at (n := y)]
            rw [List.getElem?_take_of_lt (by omega)]
            exact hx1
          k_is
          rw [drop_last hml]
          refine ⟨_, "0", rfl, rfl, ?_, ?_⟩
          · rw [signs_len, List.length_append, List.length_replicate]
            exact Nat.le_of_lt (small20000 (by rw [show ("0" : Str).length = 1 by rfl]; omega))
          k_is
          refine ⟨⟨m - 1, by omega, by omega, ?_, upd_same, push_same s3 hp⟩, ?_⟩
          · have e : signs (rowP ds k ++ List.replicate (opn ds k - m) false) ++ ("0" : Str) = signs (rowP ds k ++ List.replicate (opn ds k - (m - 1)) false) := by
              show signs _ ++ signs [false] = _
              rw [signs_append, List.append_assoc, show opn ds k - (m - 1) = opn ds k - m + 1 by omega, List.replicate_succ']
            rw [e]
            rfl
          · rw [lenAt_of upd_same, len_take (by omega)]
            omega
        · have hy := V.int.inj h
          have hme : m = dAt ds k := by
            by_cases e : m = dAt ds k
            · exact e
            · have := way_lt hD k (dAt ds k) m _ _ (by omega) (by omega) hea hx2
              omega
          k_is
          refine ⟨.inl ⟨rfl, _, SqL.of hp3⟩, ?_⟩
          k_is
          refine r_append hp3 ?_ ?_
          · rw [List.length_map, List.length_take]
            exact small20000 (by omega)
          k_is
          refine ⟨_, "1", rfl, rfl, ?_, ?_⟩
          · rw [signs_len, List.length_append, List.length_replicate]
            exact Nat.le_of_lt (small20000 (by rw [show ("1" : Str).length = 1 by rfl]; omega))
          k_is
          obtain ⟨o1, o2⟩ := out hme H3 s3 hp3
          rw [o1, o2]
          exact ⟨⟨_, rfl⟩, upd_same, push_same s3 hp⟩
      · have hme : m = dAt ds k := by
          have hl0 : ((way ds k).tail.take m).length = 0 := by rw [hem]; rfl
          rw [List.length_take, hwt] at hl0
          omega
        k_is
        refine ⟨.inl ⟨rfl, _, SqL.of hp3⟩, ?_⟩
        k_is
        refine r_append hp3 ?_ ?_
        · rw [List.length_map, List.length_take]
          exact small20000 (by omega)
        k_is
        refine ⟨_, "1", rfl, rfl, ?_, ?_⟩
        · rw [signs_len, List.length_append, List.length_replicate]
          exact Nat.le_of_lt (small20000 (by rw [show ("1" : Str).length = 1 by rfl]; omega))
        k_is
        obtain ⟨o1, o2⟩ := out hme H3 s3 hp3
        rw [o1, o2]
        exact ⟨⟨_, rfl⟩, upd_same, push_same s3 hp⟩
    · rintro σ H1 ⟨⟨v, rfl⟩, hp1, s1⟩
      have hok := opn_le hD ds.length (Nat.le_refl _)
      have hw := way_len hD ds.length (Nat.le_refl _)
      have hrl := rowP_len hD ds.length (Nat.le_refl _)
      have hwt : (way ds ds.length).tail.length = opn ds ds.length := by rw [List.length_tail]; omega
      k_is
      refine ⟨p, _, rfl, .inl (SqL.of hp1), ?_⟩
      k_is
      rw [List.length_map, hwt]
      refine ⟨"0", (opn ds ds.length : Int), rfl, rfl, by omega, by omega, ?_, few (by decide), ?_⟩
      · exact Nat.le_of_lt (small20000 (by rw [show ("0" : Str).length = 1 by rfl]; omega))
      have e0 : repS ("0" : Str) ((opn ds ds.length : Int)).toNat = signs (List.replicate (opn ds ds.length) false) := by
        rw [Int.toNat_natCast]
        exact rep_signs false _
      rw [e0]
      k_is
      refine ⟨_, _, rfl, rfl, ?_, ?_⟩
      · rw [signs_len, signs_len, List.length_replicate]
        exact Nat.le_of_lt (small20000 (by omega))
      rw [signs_append]
      exact q H1 s1

def spLSums : Sp := fun vs H Q _ => ∃ l : List Bool, vs = [.str (signs l)] ∧ 0 < l.length ∧ l.length ≤ 1000 ∧ ∀ m t H', LeastD l m → Same H H' → H t = none → H' t = some (.tup (sumsV l m)) → Q (.ref t) H'
theorem ok_law_sums {f : Addr} {fd : FuncData} (F : Fun K "_law_sums" "_law_sums" s_law_sums f fd) (T : Txt K mg C_Wood C_Shaped) : FnOk P w K mg base CX0 1 f fd ["_law_text"] spLSums := by
  refine F.ok sc_law_sums (fun vs H Q E h => ?_) (fun cdv A outer s H vs Q E hr h => ?_)
  · obtain ⟨l, rfl, _⟩ := h
    rfl
  · obtain ⟨l, rfl, h0, hl, q⟩ := h
    refine ⟨_, (pss_cons (ps_set (i := 1) sc_law_sums.nd rfl (Or.inl rfl) pe_int)
      (pss_cons (ps_set (i := 2) sc_law_sums.nd rfl (Or.inl rfl) (pe_callB call_len_str (by rfl) T.n_len b_len (pa_d (pv 0) pa_nil rfl)))
      (pss_cons (ps_for PassesOwn.never rfl (pi_str (pv 0)) (pg_name (i := 3) sc_law_sums.nd rfl (Or.inl rfl))
      (pss_cons (ps_set (i := 1) sc_law_sums.nd rfl (Or.inl rfl) (pe_op op_add (pv 1) (pe_ix ix_list (pe_lst (pa_d (pe_un un_neg pe_int) (pa_d pe_int pa_nil rfl) rfl)) (pe_callTy call_int1 (by rfl) T.n_int b_int (pa_d (pe_cmpR op_eq (pv 3) pe_str (nomark _)) pa_nil rfl)) (fun _ _ => rfl))))
      (pss_one (ps_set (i := 2) sc_law_sums.nd rfl (Or.inl rfl) (pe_callB (call_min2 rfl) (by rfl) T.n_min b_min (pa_d (pv 2) (pa_d (pv 1) pa_nil rfl) rfl))))))
      (pss_one (ps_ret (pe_tup (pa_d (pe_bm PySem.F.plainAttrs_str PySem.F.slot_str_count PySem.F.type_str_count mt_count (pv 0) (pa_d pe_str pa_nil rfl)) (pa_d (pv 1) (pa_d (pv 2) pa_nil rfl) rfl) rfl))))))), ?_⟩
    k_is
    refine ⟨_, rfl, Nat.le_of_lt (small20000 (by rw [signs_len]; omega)), ?_⟩
    rw [signs_len]
    k_is
    refine ⟨_, rfl, ?_⟩
    refine for_str (fun i σ H1 => ∃ (m : Int) (v : Option V), σ = [some (.str (signs l)), some (.int (hgt l i)), some (.int m), v] ∧ ((i = 0 ∧ m = (l.length : Int)) ∨ (0 < i ∧ IsLeast (hts l i) m)) ∧ Same H H1)
      ⟨_, _, rfl, .inl ⟨rfl, rfl⟩, Same.refl _⟩ ?_ ?_
    · rintro i c σ H1 hc ⟨m, v, rfl, hm, sm⟩
      obtain ⟨b, hb, rfl⟩ := sign_of hc
      have hh := hgt_succ hb
      k_is
      refine ⟨by decide, fun p2 hp2 => ?_⟩
      k_is
      refine .inr ⟨_, rfl, ?_⟩
      k_is
      refine r_ixL (SqL.of upd_same) (v := .int (if b then 1 else -1)) (by cases b <;> rfl) ?_
      k_is
      rw [← hh]
      have s2 : Same H1 (upd H1 p2 (.lst [V.int (-1), V.int 1])) := same_upd hp2
      k_is
      refine ⟨_, _, rfl, ?_⟩
      refine ⟨_, _, rfl, .inr ⟨Nat.succ_pos _, ?_⟩, sm.trans s2⟩
      rw [hts_succ]
      rcases hm with ⟨rfl, rfl⟩ | ⟨_, k1, k2⟩
      · have h1 : hgt l (0 + 1) ≤ 1 := by
          rw [hh]
          have : hgt l 0 = 0 := rfl
          cases b <;> simp <;> omega
        rw [show hts l 0 = [] from rfl, List.nil_append]
        have e : (if hgt l (0 + 1) < (l.length : Int) then hgt l (0 + 1) else (l.length : Int)) = hgt l (0 + 1) := by
          by_cases z : hgt l (0 + 1) < (l.length : Int)
          · rw [if_pos z]
          · rw [if_neg z]; omega
        rw [e]
        exact ⟨List.mem_singleton.mpr rfl, fun a ha => by rw [List.mem_singleton.mp ha]; exact Int.le_refl _⟩
      · by_cases z : hgt l (i + 1) < m
        · rw [if_pos z]
          refine ⟨List.mem_append_right _ (List.mem_singleton.mpr rfl), fun a ha => ?_⟩
          rcases List.mem_append.mp ha with y | y
          · have := k2 a y
            omega
          · rw [List.mem_singleton.mp y]
            exact Int.le_refl _
        · rw [if_neg z]
          refine ⟨List.mem_append_left _ k1, fun a ha => ?_⟩
          rcases List.mem_append.mp ha with y | y
          · exact k2 a y
          · rw [List.mem_singleton.mp y]
            omega
    · rintro σ H1 ⟨m, v, rfl, hm, sm⟩
      rw [show (signs l).cps.size = l.length from signs_len l] at *
      k_is
      refine ⟨rfl, ?_⟩
      k_is
      refine ⟨signs l, 49, rfl, rfl, ?_⟩
      k_is
      rw [(cnt_signs l).1]
      refine ⟨few (by simp), fun t ht => ?_⟩
      have s4 := same_upd (o := .tup (sumsV l m)) ht
      refine q m t _ ?_ (sm.trans s4) (sm.free ht) upd_same
      rcases hm with ⟨z, _⟩ | ⟨_, hm⟩
      · omega
      · exact .inr hm

def spGood (C CR CS : Addr) (ts : List Tb) : Sp := fun vs H Q _ => ∃ (x a : Addr) (ls : List (List Bool)) (ds : List Nat), vs = [.ref x, .ref a, .str (signs (rowD ds))] ∧ IsShaped C CR CS H x ls ∧ ls.flatten = rowD ds ∧ Wide2 ls ∧ H a = some (.lst ((elds ds).map V.int)) ∧ Dok ds ∧ ds.length ≤ 1000 ∧ Tbs ts H ∧ ∀ H', SmT ts H H' → Q (.bl true) H'
theorem Tbs.keep {ts : List Tb} {H : Hp} {p : Addr} {o : HO} {xs : List V} (h : Tbs ts H) (hp : H p = some (.lst xs)) : Tbs ts (upd H p o) := by
  refine ⟨fun t ht => ?_, h.2⟩
  obtain ⟨ps, e1, e2, e3⟩ := h.1 t ht
  exact ⟨ps, by rw [upd_ne (fun z => by rw [z, hp] at e1; cases e1)]; exact e1, e2, e3.imp id fun ⟨c, oc, a1, a2, a3⟩ => ⟨c, oc, a1, by rw [upd_ne (fun z => by rw [z, hp] at a2; cases a2)]; exact a2, a3⟩⟩
theorem SmT.push {ts : List Tb} {H H1 : Hp} {p : Addr} {o : HO} {xs : List V} (s : SmT ts H H1) (hp : H p = none) (hl : H1 p = some (.lst xs)) : SmT ts H (upd H1 p o) := by
  refine ⟨⟨fun b u n e => ?_, fun b ps e => ?_⟩, s.ok.keep hl⟩
  · rw [upd_ne (ne_of_none e hp)]
    exact s.sm.keep b u n e
  · rw [upd_ne (ne_of_none e hp)]
    exact s.sm.tb b ps e
theorem leastD_one {l : List Bool} {m n : Int} (h1 : LeastD l m) (h2 : LeastD l n) : m = n := by
  rcases h1 with ⟨e, rfl⟩ | ⟨a1, a2⟩
  · rcases h2 with ⟨_, rfl⟩ | ⟨b1, _⟩
    · rfl
    · subst e
      cases b1
  · rcases h2 with ⟨e, rfl⟩ | ⟨b1, b2⟩
    · subst e
      cases a1
    · exact Int.le_antisymm (a2 _ b1) (b2 _ a1)
theorem str_get {ls : List (List Bool)} {i : Nat} {v : V} (h : (ls.map fun l => V.str (signs l))[i]? = some v) : ∃ y, ls[i]? = some y ∧ v = .str (signs y) := by
  rw [List.getElem?_map] at h
  cases e : ls[i]? with
  | none => rw [e] at h; cases h
  | some y => rw [e] at h; exact ⟨y, rfl, (Option.some.inj h).symm⟩
theorem str_at {ls : List (List Bool)} {i : Nat} {y : List Bool} (h : ls[i]? = some y) : (ls.map fun l => V.str (signs l))[i]? = some (.str (signs y)) := by
  rw [List.getElem?_map, h]
  rfl
theorem ok_law_good {f : Addr} {fd : FuncData} {ts : List Tb} (F : Fun K "_law_good" "_law_good" s_law_good f fd) (T : Txt K mg C_Wood C_Shaped) (Z : Z_Shaped K C_Shaped) (m_Shaped_pieces : Mth P w K mg base C_Shaped "pieces" 1 ["self"] (spSPieces C_Piece C_PiecedRow C_Shaped)) (m_Shaped_row : Mth P w K mg base C_Shaped "row" 7 ["self"] (spSRow C_Piece C_PiecedRow C_Shaped ts))
    (m_Shaped_sums : Mth P w K mg base C_Shaped "sums" 1 ["self"] (spSSums C_Piece C_PiecedRow C_Shaped)) (c_law_sums : Cal P w K mg base "_law_sums" 1 ["_law_text"] spLSums) (c_law_whole : Cal P w K mg base "_law_whole" 1 ["_law_found"] spWhole) (m_Shaped_elders : Mth P w K mg base C_Shaped "elders" 8 ["self"] (spSElders C_Piece C_PiecedRow C_Shaped ts)) (m_Shaped_many_knots : Mth P w K mg base C_Shaped "many_knots" 2 ["self"] (spSKnots C_Piece C_PiecedRow C_Shaped)) : FnOk P w K mg base CX0 9 f fd ["_law_wood_here", "_law_elders", "_law_row_here"] (spGood C_Piece C_PiecedRow C_Shaped ts) := by
  refine F.ok sc_law_good (fun vs H Q E h => ?_) (fun cdv A outer s H vs Q E hr h => ?_)
  · obtain ⟨x, a, ls, ds, rfl, _⟩ := h
    rfl
  · obtain ⟨x, a, ls, ds, rfl, hS, hfl, hwd, ha, hD, hn, hT, q⟩ := h
    refine ⟨_, (pss_cons (ps_set (i := 3) sc_law_good.nd rfl (Or.inr rfl) (pe_mt0 m_Shaped_pieces (hr.mono (by decide : 1 ≤ _)) (pv 0)))
      (pss_cons (ps_if (PW.pt (pw_or (pt_not (pt_val (pe_callB call_isinst (by rfl) T.n_isinstance b_isinstance (pa_d (pv 3) (pa_d (pe_bltn (v := .ty "list") rfl T.n_list b_list rfl) pa_nil rfl) rfl)))) (pw_or (pt_cmpR op_ne (pe_bm PySem.F.plainAttrs_str PySem.F.slot_str_join PySem.F.type_str_join mt_join pe_str (pa_d (pv 3) pa_nil rfl)) (pv 2) (nomark _)) (pw_or1 (pt_cmpR op_ne (pe_mt0 m_Shaped_row (hr.mono (by decide : 7 ≤ _)) (pv 0)) (pv 2) (nomark _)))))) (pss_one (ps_ret pe_bl))
      pss_nil)
      (pss_cons (ps_if (pt_cmpR (op_neL (hu60 hr)) (pe_lc rfl lc_law_good_0 (pi_list (pv 3)) (fun _ _ _ _ => pif_one (pt_not (pt_chain op_le op_le pe_int (pe_callB call_len_str (by rfl) T.n_len b_len (pa_d (pv 0) pa_nil rfl)) pe_int))) (fun _ _ _ _ => (pv 0))) (pe_lst pa_nil) (nomark _)) (pss_one (ps_ret pe_bl))
      pss_nil)
      (pss_cons (ps_if (pt_cmpR (op_neL (hu60 hr)) (pe_lc rfl lc_law_good_1 (pi_range2 rfl T.n_range (pa_d pe_int (pa_d (pe_callB call_len_seq (by rfl) T.n_len b_len (pa_d (pv 3) pa_nil rfl)) pa_nil rfl) rfl)) (fun _ _ _ _ => pif_one (pt_cmpR op_le (pe_op op_add (pe_callB call_len_str (by rfl) T.n_len b_len (pa_d (pe_ix (ix_listK K) (pv 1) (pe_op op_sub (pv 0) pe_int) (fun _ _ => rfl)) pa_nil rfl)) (pe_callB call_len_str (by rfl) T.n_len b_len (pa_d (pe_ix (ix_listK K) (pv 1) (pv 0) (fun _ _ => rfl)) pa_nil rfl))) pe_int (nomark _))) (fun _ _ _ _ => (pv 0))) (pe_lst pa_nil) (nomark _)) (pss_one (ps_ret pe_bl))
      pss_nil)
      (pss_cons (ps_set (i := 4) sc_law_good.nd rfl (Or.inl rfl) (pe_mt0 m_Shaped_sums (hr.mono (by decide : 1 ≤ _)) (pv 0)))
      (pss_cons (ps_if (PW.pt (pw_or (pt_not (pt_val (pe_callB call_isinst (by rfl) T.n_isinstance b_isinstance (pa_d (pv 4) (pa_d (pe_bltn (v := .ty "list") rfl T.n_list b_list rfl) pa_nil rfl) rfl)))) (pw_or1 (pt_cmpR (op_neD (hu60 hr)) (pv 4) (pe_lc rfl lc_law_good_3 (pi_list (pv 3)) (fun _ _ _ _ => pif_nil) (fun _ _ _ _ => (pe_fn c_law_sums (hr.mono (by decide : 1 ≤ _)) (pa_d (pv 0) pa_nil rfl)))) (nomark _))))) (pss_one (ps_ret pe_bl))
      pss_nil)
      (pss_cons (ps_if (pt_cmpR (op_neL (hu60 hr)) (pe_lc rfl lc_law_good_2 (pi_list (pv 4)) (fun _ _ _ _ => pif_one (PW.pt (pw_or (pt_not (pt_val (pe_callB (call_isinK K) (by rfl) T.n_isinstance b_isinstance (pa_d (pv 0) (pa_d (pe_bltn (v := .ty "tuple") rfl T.n_tuple b_tuple rfl) pa_nil rfl) rfl)))) (pw_or1 (pt_not (pt_val (pe_fn c_law_whole (hr.mono (by decide : 1 ≤ _)) (pa_d (pe_ix (ix_tupK K) (pv 0) pe_int (fun _ _ => rfl)) pa_nil rfl)))))))) (fun _ _ _ _ => (pv 0))) (pe_lst pa_nil) (nomark _)) (pss_one (ps_ret pe_bl))
      pss_nil)
      (pss_cons (ps_set (i := 5) sc_law_good.nd rfl (Or.inl rfl) (pe_mt0 m_Shaped_elders (hr.mono (by decide : 8 ≤ _)) (pv 0)))
      (pss_cons (ps_if (PW.pt (pw_or (pt_not (pt_val (pe_callB call_isinst (by rfl) T.n_isinstance b_isinstance (pa_d (pv 5) (pa_d (pe_bltn (v := .ty "list") rfl T.n_list b_list rfl) pa_nil rfl) rfl)))) (pw_or (pt_cmpR (op_neD (hu60 hr)) (pv 5) (pv 1) (nomark _)) (pw_or1 (pt_not (pt_val (pe_fn c_law_whole (hr.mono (by decide : 1 ≤ _)) (pa_d (pe_mt0 m_Shaped_many_knots (hr.mono (by decide : 2 ≤ _)) (pv 0)) pa_nil rfl)))))))) (pss_one (ps_ret pe_bl))
      pss_nil)
      (pss_cons (ps_expr (pe_bm PySem.F.plainAttrs_list PySem.F.slot_list_append PySem.F.type_list_append mt_append (pv 3) (pa_d pe_str pa_nil rfl)))
      (pss_cons (ps_expr (pe_bm PySem.F.plainAttrs_list PySem.F.slot_list_append PySem.F.type_list_append mt_append (pv 4) (pa_d pe_non pa_nil rfl)))
      (pss_cons (ps_expr (pe_bm PySem.F.plainAttrs_list PySem.F.slot_list_append PySem.F.type_list_append mt_append (pv 5) (pa_d pe_int pa_nil rfl)))
      (pss_one (ps_ret (pe_cmpR op_eq (pe_mt0 m_Shaped_many_knots (hr.mono (by decide : 2 ≤ _)) (pv 0)) (pe_callB call_len_seq (by rfl) T.n_len b_len (pa_d (pv 1) pa_nil rfl)) (nomark _)))))))))))))))), ?_⟩
    have hrl := rowD_len hD
    obtain ⟨dx, r, e, hx, hR⟩ := id hS
    obtain ⟨dr, p, b, kv, tv, ov, hr2, hW⟩ := id hR
    have hfw := hW.fw
    have hsz := hW.sz
    k_is
    refine ⟨x, dx, _, rfl, hx, rfl, ?_⟩
    k_is
    refine ⟨x, ls, rfl, hS, fun p1 H1 s1 hp1 h1 => ?_⟩
    k_is
    refine ⟨_, _, _, _, rfl, .lst h1, kit_list_list, ?_⟩
    k_is
    refine ⟨rfl, ?_⟩
    k_is
    refine rd_joinS h1 (by rw [hfl]; omega) ?_
    rw [hfl]
    k_is
    refine iteN (fun hne => absurd rfl hne) (fun _ => ?_)
    k_is
    refine ⟨x, dx, _, rfl, s1 _ _ hx, rfl, ?_⟩
    k_is
    refine ⟨x, ls, rfl, hS.kp (Same.kp s1), hT.same s1, fun H2 s2 => ?_⟩
    rw [hfl]
    have s12 := (SmT.of hT s1).trans s2
    k_is
    refine iteN (fun hne => absurd rfl hne) (fun _ => ?_)
    have h12 := s2.k h1
    k_is
    refine ⟨p1, rfl, ⟨_, SqL.of h12⟩, ?_⟩
    refine lc_list (SqL.of h12) (fun i => []) rfl (fun i hi => small20000 (Nat.zero_le _)) (fun i v H3 R A hv s3 hR hA => ?_) (fun D3 H3 hD3 s3 h3 => ?_)
    · obtain ⟨y, ey, rfl⟩ := str_get hv
      have hy := hsz i y ey
      k_is
      refine ⟨_, rfl, Nat.le_of_lt (small20000 (by rw [signs_len]; omega)), ?_⟩
      rw [signs_len]
      k_is
      refine iteP (fun _ => ?_) (fun h => absurd h (by omega))
      k_is
      rw [decide_eq_true (show ((y.length : Nat) : Int) ≤ 128 by omega)]
      k_is
      exact hR rfl _ (Same.refl _)
    have s13 := s12.then s3
    k_is
    refine ⟨Nat.zero_le _, fun z1 hz1 => ?_⟩
    have u1 := same_upd (o := .lst []) hz1
    k_is
    refine r_neI (ns := []) (ms := []) (SqL.of (u1 _ _ h3)) (SqL.of upd_same) ?_
    rw [decide_eq_true rfl]
    have s14 := s13.then u1
    have h14 := u1 _ _ (s3 _ _ h12)
    generalize upd H3 z1 (.lst []) = H4 at *
    k_is
    refine ⟨p1, _, rfl, .inl (SqL.of h14), ?_⟩
    rw [List.length_map]
    k_is
    refine ⟨1, (ls.length : Nat), rfl, ⟨by decide, by decide, by omega, by omega⟩, ?_⟩
    refine lc_range (fun i => []) rfl (fun i hi => small20000 (Nat.zero_le _)) (fun i H5 R A hi s5 hR hA => ?_) (fun D5 H5 hD5 s5 h5 => ?_)
    · have h15 := s5 _ _ h14
      have e1 : ls[i]? = some (ls[i]'(by omega)) := List.getElem?_eq_getElem _
      have e2 : ls[i + 1]? = some (ls[i + 1]'(by omega)) := List.getElem?_eq_getElem _
      generalize ls[i]'(by omega) = y1 at *
      generalize ls[i + 1]'(by omega) = y2 at *
      have hw := hwd i y1 y2 e1 e2
      have hy1 := hsz i y1 e1
      have hy2 := hsz (i + 1) y2 e2
      k_is
      refine r_ixL (SqL.of h15) (v := .str (signs y1)) ?_ ?_
      · rw [show (1 + (i : Int) - 1) = ((i : Nat) : Int) by omega]
        exact atI_nat (str_at e1)
      k_is
      refine ⟨_, rfl, Nat.le_of_lt (small20000 (by rw [signs_len]; omega)), ?_⟩
      rw [signs_len]
      k_is
      refine r_ixL (SqL.of h15) (v := .str (signs y2)) ?_ ?_
      · rw [show (1 + (i : Int)) = ((i + 1 : Nat) : Int) by omega]
        exact atI_nat (str_at e2)
      k_is
      refine ⟨_, rfl, Nat.le_of_lt (small20000 (by rw [signs_len]; omega)), ?_⟩
      rw [signs_len]
      k_is
      rw [decide_eq_false (show ¬ ((y1.length : Nat) : Int) + (y2.length : Nat) ≤ 64 by omega)]
      k_is
      exact hR rfl _ (Same.refl _)
    have s15 := s14.then s5
    k_is
    refine ⟨Nat.zero_le _, fun z2 hz2 => ?_⟩
    have u2 := same_upd (o := .lst []) hz2
    k_is
    refine r_neI (ns := []) (ms := []) (SqL.of (u2 _ _ h5)) (SqL.of upd_same) ?_
    rw [decide_eq_true rfl]
    have s16 := s15.then u2
    have h16 := u2 _ _ (s5 _ _ h14)
    generalize upd H5 z2 (.lst []) = H6 at *
    have hx6 := s16.k hx
    have hS6 := hS.kp s16.kp
    k_is
    refine ⟨x, dx, _, rfl, hx6, rfl, ?_⟩
    k_is
    refine ⟨x, ls, rfl, hS6, fun p7 bs H7 s7 hp7 h7 hb7 => ?_⟩
    have s17 := s16.then s7
    have h17 := s7 _ _ h16
    k_is
    refine ⟨_, _, _, _, rfl, .lst h7, kit_list_list, ?_⟩
    k_is
    refine ⟨p1, rfl, ⟨_, SqL.of h17⟩, ?_⟩
    refine lc_listN (SqL.of h17) (fun i ys H' => ∃ cs : List Addr, ys = cs.map V.ref ∧ SmsAt H' cs ls i) (fun _ _ => ⟨[], rfl, rfl, fun k b x e => by cases e⟩) (fun i ys H' D zs o hD ⟨bs, e1, e2⟩ => ⟨bs, e1, e2.upd hD⟩) (fun i ys H' hi h => ?_) ?_ ?_
    · obtain ⟨bs, rfl, h⟩ := h
      rw [List.length_map] at hi
      rw [List.length_map, h.1]
      exact small20000 (by omega)
    · intro i ys v H8 A R hv s8 hPv hA
      obtain ⟨cs, rfl, h⟩ := hPv
      obtain ⟨y, ey, rfl⟩ := str_get hv
      have hy := hsz i y ey
      k_is
      refine ⟨y, rfl, hy.1, by omega, fun m t H9 hm s9 ht0 ht => ?_⟩
      exact hA _ _ s9 ⟨cs ++ [t], by rw [List.map_append]; rfl, (h.kp (Same.kp s9)).push ey ht hm⟩
    intro D8 ys H8 hD8 s8 hPv h8
    obtain ⟨cs, rfl, hc8⟩ := hPv
    rw [List.length_map] at hc8
    have s18 := s17.then s8
    have h78 := s8 _ _ h7
    have hb8 := hb7.kp (Same.kp s8)
    k_is
    have hsame : ∀ (j : Nat) (y z : V), (bs.map V.ref)[j]? = some y → (cs.map V.ref)[j]? = some z → SameD K H8 59 y z := fun j y z e1 e2 => by
      rw [List.getElem?_map] at e1 e2
      cases f1 : bs[j]? with
      | none => rw [f1] at e1; cases e1
      | some b1 =>
        cases f2 : cs[j]? with
        | none => rw [f2] at e2; cases e2
        | some c1 =>
          rw [f1] at e1
          rw [f2] at e2
          obtain rfl := Option.some.inj e1
          obtain rfl := Option.some.inj e2
          have hj := at_lt f1
          rw [hb8.1] at hj
          have hl : ls[j]? = some (ls[j]'hj) := List.getElem?_eq_getElem _
          obtain ⟨m1, k1, k2⟩ := hb8.2 j b1 _ f1 hl
          obtain ⟨m2, k3, k4⟩ := hc8.2 j c1 _ f2 hl
          obtain rfl : m1 = m2 := leastD_one k2 k4
          exact SameD.tups (SqT.of k1) (SqT.of k3) rfl
    refine r_same (SameD.lst (SqL.of h78) (SqL.of h8) (by rw [List.length_map, List.length_map, hb8.1, hc8.1]) hsame) ?_
    k_is
    refine ⟨p7, rfl, ⟨_, SqL.of h78⟩, ?_⟩
    refine lc_list (SqL.of h78) (fun i => []) rfl (fun i hi => small20000 (Nat.zero_le _)) (fun i v H9 R A hv s9 hR hA => ?_) (fun D9 H9 hD9 s9 h9 => ?_)
    · rw [List.getElem?_map] at hv
      cases f1 : bs[i]? with
      | none => rw [f1] at hv; cases hv
      | some b1 =>
        rw [f1] at hv
        obtain rfl := Option.some.inj hv
        have hj := at_lt f1
        rw [hb8.1] at hj
        obtain ⟨m1, k1, k2⟩ := hb8.2 i b1 _ f1 (List.getElem?_eq_getElem hj)
        k_is
        refine ⟨_, _, _, _, rfl, .tup (s9 _ _ k1), kit_tuple_tuple, ?_⟩
        k_is
        refine r_ixT (SqT.of (s9 _ _ k1)) (v := .int (ls[i].count true : Nat)) rfl ?_
        k_is
        refine ⟨_, rfl, ?_⟩
        k_is
        exact hR rfl _ (Same.refl _)
    have s19 := s18.then s9
    k_is
    refine ⟨Nat.zero_le _, fun z3 hz3 => ?_⟩
    have u3 := same_upd (o := .lst []) hz3
    k_is
    refine r_neI (ns := []) (ms := []) (SqL.of (u3 _ _ h9)) (SqL.of upd_same) ?_
    rw [decide_eq_true rfl]
    have s20 := s19.then u3
    have s920 := s9.trans u3
    generalize upd H9 z3 (.lst []) = H10 at *
    have hx10 := s20.k hx
    have h110 := s920 _ _ (s8 _ _ h17)
    have h710 := s920 _ _ h78
    k_is
    refine ⟨x, dx, _, rfl, hx10, rfl, ?_⟩
    k_is
    refine ⟨x, ls, rfl, hS.kp s20.kp, s20.ok, by rw [hfl]; exact vs_row hD, by rw [hfl]; omega, fun p11 es H11 s11 hp11 h11 hDe hre => ?_⟩
    obtain rfl : es = ds := rowD_inj hDe hD (hre.trans hfl)
    have s21 := s20.trans s11
    have ha11 := s21.k ha
    k_is
    refine ⟨_, _, _, _, rfl, .lst h11, kit_list_list, ?_⟩
    k_is
    refine r_same (SameD.lsts (SqL.of h11) (SqL.of ha11) (flat_ints _)) ?_
    k_is
    refine ⟨x, dx, _, rfl, s21.k hx, rfl, ?_⟩
    k_is
    refine ⟨x, ls, rfl, hS.kp s21.kp, ?_⟩
    k_is
    refine ⟨_, rfl, ?_⟩
    have h111 := s11.k h110
    have h711 := s11.k h710
    have n17 : p1 ≠ p7 := ne_of_none h16 hp7
    have n1b : p1 ≠ p11 := ne_of_none h110 hp11
    have n7b : p7 ≠ p11 := ne_of_none h710 hp11
    have na1 : a ≠ p1 := ne_of_none ha hp1
    have hel : ((elds es).map V.int).length = es.length := by rw [List.length_map, elds_len]
    k_is
    refine ⟨.inl ⟨rfl, _, SqL.of h111⟩, ?_⟩
    k_is
    refine r_append h111 (by rw [List.length_map]; exact small20000 (by omega)) ?_
    have s22 := s21.push (o := .lst ((ls.map fun l => V.str (signs l)) ++ [V.str ""])) hp1 h111
    have h722 : upd H11 p1 (.lst ((ls.map fun l => V.str (signs l)) ++ [V.str ""])) p7 = some (.lst (bs.map V.ref)) := by rw [upd_ne n17.symm]; exact h711
    have h1122 : upd H11 p1 (.lst ((ls.map fun l => V.str (signs l)) ++ [V.str ""])) p11 = some (.lst ((elds es).map V.int)) := by rw [upd_ne n1b.symm]; exact h11
    generalize upd H11 p1 (.lst ((ls.map fun l => V.str (signs l)) ++ [V.str ""])) = H12 at *
    k_is
    refine ⟨.inl ⟨rfl, _, SqL.of h722⟩, ?_⟩
    k_is
    refine r_append h722 (by rw [List.length_map, hb8.1]; exact small20000 (by omega)) ?_
    have s23 := s22.push (o := .lst ((bs.map V.ref) ++ [V.non])) (s16.sm.free hp7) h722
    have h1123 : upd H12 p7 (.lst ((bs.map V.ref) ++ [V.non])) p11 = some (.lst ((elds es).map V.int)) := by rw [upd_ne n7b.symm]; exact h1122
    generalize upd H12 p7 (.lst ((bs.map V.ref) ++ [V.non])) = H13 at *
    k_is
    refine ⟨.inl ⟨rfl, _, SqL.of h1123⟩, ?_⟩
    k_is
    refine r_append h1123 (by rw [hel]; exact small20000 (by omega)) ?_
    have s24 := s23.push (o := .lst (((elds es).map V.int) ++ [V.int 0])) (s20.sm.free hp11) h1123
    generalize upd H13 p11 (.lst (((elds es).map V.int) ++ [V.int 0])) = H14 at *
    have ha14 := s24.k ha
    k_is
    refine ⟨x, dx, _, rfl, s24.k hx, rfl, ?_⟩
    k_is
    refine ⟨x, ls, rfl, hS.kp s24.kp, ?_⟩
    k_is
    refine ⟨a, _, rfl, .inl (SqL.of ha14), ?_⟩
    rw [hel, hfl, hrl]
    k_is
    rw [show 2 * es.length / 2 = es.length by omega, decide_eq_true rfl]
    exact q _ s24

theorem IsShaped.lst {C CR CS x q r p : Addr} {H : Hp} {ls : List (List Bool)} {ns : List Int} {o : HO} (h : IsShaped C CR CS H x ls) (hq : H q = some (.lst (ns.map V.int))) (hx : ∃ d e, H x = some (.ins CS d (shFs (.ref r) e))) (hr : ∃ d fs, H r = some (.ins CR d (("kept_pieces", .ref p) :: fs))) (hp : q ≠ p) (hb : ns.map V.int ≠ bgs ls) : IsShaped C CR CS (upd H q o) x ls := by
  obtain ⟨dx, r', e, h1, d, p', b, k, t, o', h2, ⟨as, h3, h4⟩, h5, h6, h7⟩ := h
  obtain ⟨d8, e8, h8⟩ := hx
  obtain ⟨d9, f9, h9⟩ := hr
  rw [h1] at h8
  cases h8
  rw [h2] at h9
  cases h9
  refine ⟨dx, r, e, ?_, d, p, b, k, t, o', ?_, ⟨as, ?_, h4.1, fun k a y e1 e2 => ?_⟩, ?_, h6, h7⟩
  · rw [upd_ne (fun z => by rw [z, hq] at h1; cases h1)]
    exact h1
  · rw [upd_ne (fun z => by rw [z, hq] at h2; cases h2)]
    exact h2
  · rw [upd_ne hp.symm]
    exact h3
  · obtain ⟨d, t, m, g, o, y1, y2, y3⟩ := h4.2 k a y e1 e2
    exact ⟨d, t, m, g, o, by rw [upd_ne (fun z => by rw [z, hq] at y1; cases y1)]; exact y1, by rw [upd_ne (fun z => by rw [z, hq] at y2; cases y2)]; exact y2, y3⟩
  · rw [upd_ne (fun z => by
      rw [z, hq] at h5
      exact hb (HO.lst.inj (Option.some.inj h5)))]
    exact h5
theorem elds_bgs {ds : List Nat} {ls : List (List Bool)} (hD : Dok ds) : (elds ds).map V.int ≠ bgs ls := fun e => by
  have h0 : (bgs ls)[0]? = some (.int (bgn ls 0 : Nat)) := bgs_at (Nat.zero_le _)
  rw [← e, bgn_zero] at h0
  obtain ⟨z, hz, ez⟩ := iV_get h0
  have hl := at_lt hz
  rw [elds_len] at hl
  rw [elds_at hl] at hz
  have hz := Option.some.inj hz
  have ez : (0 : Int) = z := V.int.inj ez
  by_cases h1 : eld ds 0 = -1
  · omega
  · obtain ⟨v, _, hv, _⟩ := eld_deep hD hl h1
    omega
def spLaw (K : PySem.W.Frag) (ts : List Tb) : Sp := fun vs H Q _ => ∃ (a : Addr) (ns : List Int), vs = [.ref a] ∧ SqL K H a (ns.map V.int) ∧ ns.length ≤ 63 ∧ Tbs ts H ∧ ∀ H', Q (.bl true) H'
theorem ok_law {f : Addr} {fd : FuncData} {ts : List Tb} (F : Fun K "law" "law" s_law f fd) (T : Txt K mg C_Wood C_Shaped) (Z : Z_Shaped K C_Shaped) (c_law_cell_at : Cal P w K mg base "_law_cell_at" 1 ["_law_script", "_law_k"] (spCell K)) (c_law_mixed : Cal P w K mg base "_law_mixed" 1 ["_law_cell", "_law_k"] spMixed) (c_law_digits : Cal P w K mg base "_law_digits" 2 ["_law_script", "_law_at", "_law_many"] (spDigits K)) (c_law_wood : Cal P w K mg base "_law_wood" 1 ["_law_digits_here"] spWood) (c_law_large : Cal P w K mg base "_law_large" 1 ["_law_elders", "_law_times", "_law_nested"] spLarge) (c_law_row : Cal P w K mg base "_law_row" 1 ["_law_elders"] spRow)
    (c_law_good : Cal P w K mg base "_law_good" 9 ["_law_wood_here", "_law_elders", "_law_row_here"] (spGood C_Piece C_PiecedRow C_Shaped ts)) (c_Shaped : Mkr P w K mg base "Shaped" C_Shaped 6 ["self", "elders"] (spSInit C_Piece C_PiecedRow C_Shaped)) : FnOk P w K mg base CX0 10 f fd ["_law_script"] (spLaw K ts) := by
  refine F.ok sc_law (fun vs H Q E h => ?_) (fun cdv A outer s H vs Q E hr h => ?_)
  · obtain ⟨a, ns, rfl, _⟩ := h
    rfl
  · obtain ⟨a, ns, rfl, hS, hlen, hT, q⟩ := h
    refine ⟨_, (pss_cons (ps_set (i := 1) sc_law.nd rfl (Or.inl rfl) (pe_fn c_law_mixed (hr.mono (by decide : 1 ≤ _)) (pa_d (pe_fn c_law_cell_at (hr.mono (by decide : 1 ≤ _)) (pa_d (pv 0) (pa_d pe_int pa_nil rfl) rfl)) (pa_d pe_int pa_nil rfl) rfl)))
      (pss_cons (ps_set (i := 2) sc_law.nd rfl (Or.inl rfl) (pe_fn c_law_wood (hr.mono (by decide : 1 ≤ _)) (pa_d (pe_fn c_law_digits (hr.mono (by decide : 2 ≤ _)) (pa_d (pv 0) (pa_d pe_int (pa_d (pe_op op_mod (pv 1) pe_int) pa_nil rfl) rfl) rfl)) pa_nil rfl)))
      (pss_cons (ps_ifJ (pt_cmpR op_eq (pe_op op_mod (pe_op op_fdiv (pv 1) pe_int) pe_int) pe_int (nomark _)) (pss_one (ps_set (i := 2) sc_law.nd rfl (Or.inl rfl) (pe_fn c_law_large (hr.mono (by decide : 1 ≤ _)) (pa_d (pv 2) (pa_d (pe_op op_add pe_int (pe_op op_mod (pe_op op_fdiv (pv 1) pe_int) pe_int)) (pa_d (pe_cmpR op_eq (pe_op op_mod (pe_op op_fdiv (pv 1) pe_int) pe_int) pe_int (nomark _)) pa_nil rfl) rfl) rfl))))
      pss_nil)
      (pss_cons (ps_set (i := 3) sc_law.nd rfl (Or.inl rfl) (pe_callTy call_list_of (by rfl) T.n_list b_list (pa_d (pv 2) pa_nil rfl)))
      (pss_cons (ps_set (i := 4) sc_law.nd rfl (Or.inl rfl) (pe_mk c_Shaped (hr.mono (by decide : 7 ≤ _)) (pa_d (pv 3) pa_nil rfl)))
      (pss_cons (ps_if (PW.pt (pw_or (pt_cmpR (op_neD (hu60 hr)) (pv 3) (pv 2) (nomark _)) (pw_or1 (pt_not (pt_val (pe_callB call_isinO (by rfl) T.n_isinstance b_isinstance (pa_d (pv 4) (pa_d (pe_glob (v := .ref _) rfl T.g_Wood rfl) pa_nil rfl) rfl))))))) (pss_one (ps_ret pe_bl))
      pss_nil)
      (pss_cons (ps_expr (pe_bm PySem.F.plainAttrs_list PySem.F.slot_list_append PySem.F.type_list_append mt_append (pv 3) (pa_d pe_int pa_nil rfl)))
      (pss_cons (ps_set (i := 5) sc_law.nd rfl (Or.inl rfl) (pe_fn c_law_row (hr.mono (by decide : 1 ≤ _)) (pa_d (pv 2) pa_nil rfl)))
      (pss_one (ps_ret (pe_and (pe_fn c_law_good (hr.mono (by decide : 9 ≤ _)) (pa_d (pv 4) (pa_d (pv 2) (pa_d (pv 5) pa_nil rfl) rfl) rfl)) (pe_one (pe_fn c_law_good (hr.mono (by decide : 9 ≤ _)) (pa_d (pv 4) (pa_d (pv 2) (pa_d (pv 5) pa_nil rfl) rfl) rfl)))))))))))))), ?_⟩
    k_is
    refine ⟨a, ns, 0, rfl, hS, fun c0 => ?_⟩
    k_is
    refine ⟨c0, 1, rfl, by omega, by omega, fun r r0 r1 => ?_⟩
    k_is
    refine ⟨a, ns, 2, r % 61, rfl, hS, by omega, by omega, fun p1 gs H1 s1 _ hg hgl => ?_⟩
    k_is
    refine ⟨p1, gs, rfl, hg, by omega, fun p2 ds H2 s2 _ hp2 hD hdl => ?_⟩
    k_is
    have s12 := s1.trans s2
    refine r_ifJ (fun σ H3 => (∃ (p : Addr) (es : List Nat), σ = [some (.ref a), some (.int r), some (.ref p), none, none, none] ∧ H3 p = some (.lst ((elds es).map V.int)) ∧ Dok es ∧ es.length ≤ 600) ∧ Same H H3) ?_ ?_
    · k_is
      refine iteP (fun h => ?_) (fun h => ?_)
      · k_is
        obtain ⟨t, ht, hb⟩ : ∃ t : Nat, 2 + r / 122 % 9 = (t : Int) ∧ t ≤ 10 := ⟨(2 + r / 122 % 9).toNat, by omega, by omega⟩
        rw [ht]
        refine ⟨p2, ds, t, _, rfl, hp2, hD, hb, by omega, fun p es H4 s4 hp4 hDe hel => ?_⟩
        k_is
        exact ⟨⟨p, es, rfl, hp4, hDe, hel⟩, s12.trans s4⟩
      · k_is
        exact ⟨⟨p2, ds, rfl, hp2, hD, by omega⟩, s12⟩
    · rintro σ H3 ⟨⟨p, es, rfl, hp, hDe, hel⟩, s3⟩
      k_is
      refine ⟨p, _, rfl, .inl (SqL.of hp), fun p4 h4 => ?_⟩
      have t4 := same_upd (o := .lst ((elds es).map V.int)) h4
      have hp44 : upd H3 p4 (.lst ((elds es).map V.int)) p4 = some (.lst ((elds es).map V.int)) := upd_same
      have hpp4 := t4 _ _ hp
      have npp : p ≠ p4 := ne_of_none hp h4
      have s4 := s3.trans t4
      generalize upd H3 p4 (.lst ((elds es).map V.int)) = H4 at *
      k_is
      intro x dx hx hdx hxd
      refine ⟨x, dx, p4, es, rfl, upd_same, new_same hx hdx _ _ hp44, hDe, by omega, fun pk rr H5 s5 hC hpk hxr hrp => ⟨rfl, ?_⟩⟩
      have hpk4 : p4 ≠ pk := ne_of_none (new_same hx hdx _ _ hp44) hpk
      have s5 := made_same hx hdx s5
      have hpp5 := s5 _ _ hpp4
      have hp45 := s5 _ _ hp44
      k_is
      refine r_same (SameD.lsts (SqL.of hp45) (SqL.of hpp5) (flat_ints _)) ?_
      obtain ⟨dxa, ra, ea, hxa, _⟩ := id hC
      k_is
      refine ⟨_, _, _, _, rfl, .ins hxa Z.cl T.ca_Shaped T.sp_Shaped T.tk_Shaped T.mo_Shaped, T.kit_Shaped_Wood, ?_⟩
      k_is
      refine ⟨.inl ⟨rfl, _, SqL.of hp45⟩, ?_⟩
      k_is
      refine r_append hp45 (by rw [List.length_map, elds_len]; exact small20000 (by omega)) ?_
      have hC6 := hC.lst (o := .lst (((elds es).map V.int) ++ [V.int 0])) hp45 hxr hrp hpk4 (elds_bgs hDe)
      have hpp6 : upd H5 p4 (.lst (((elds es).map V.int) ++ [V.int 0])) p = some (.lst ((elds es).map V.int)) := by rw [upd_ne npp]; exact hpp5
      have hT6 : Tbs ts (upd H5 p4 (.lst (((elds es).map V.int) ++ [V.int 0]))) := (hT.same (s4.trans s5)).keep hp45
      generalize upd H5 p4 (.lst (((elds es).map V.int) ++ [V.int 0])) = H6 at *
      k_is
      refine ⟨p, es, rfl, hpp6, hDe, by omega, fun H7 s7 => ?_⟩
      k_is
      refine ⟨x, p, _, es, rfl, hC6.kp (Same.kp s7), pcs_flat _, pcs_wide _, s7 _ _ hpp6, hDe, by omega, hT6.same s7, fun H8 s8 => ?_⟩
      k_is
      exact ⟨x, p, _, es, rfl, (hC6.kp (Same.kp s7)).kp s8.kp, pcs_flat _, pcs_wide _, s8.k (s7 _ _ hpp6), hDe, by omega, s8.ok, fun H9 s9 => q H9⟩

end
set_option maxHeartbeats 8000000 in
theorem all_mk {l : PySem.W.OpenLaw} {w : World} {K : PySem.W.Frag} {h : Heap} {mg : Str → Option Value} {fa : Addr} (X : K.In h) (G : h.Ns mainGlobals mg) (hfa : mg "law" = some (.ref fa))
    {C_Piece : Addr}
    {C_PiecedRow : Addr}
    {C_Shaped : Addr}
    {C_Heights : Addr}
    {C_Openings : Addr}
    {f0 : Addr} {od0 an0 : Option Addr} {sl0 : Array (Option Value)} {oc0 kV0 dc0 pm0 cd0 ct0 : Value}
    {f1 : Addr} {od1 an1 : Option Addr} {sl1 : Array (Option Value)} {oc1 kV1 dc1 pm1 cd1 ct1 : Value}
    {f2 : Addr} {od2 an2 : Option Addr} {sl2 : Array (Option Value)} {oc2 kV2 dc2 pm2 cd2 ct2 : Value}
    {f3 : Addr} {od3 an3 : Option Addr} {sl3 : Array (Option Value)} {oc3 kV3 dc3 pm3 cd3 ct3 : Value}
    {f4 : Addr} {od4 an4 : Option Addr} {sl4 : Array (Option Value)} {oc4 kV4 dc4 pm4 cd4 ct4 : Value}
    {f5 : Addr} {od5 an5 : Option Addr} {sl5 : Array (Option Value)} {oc5 kV5 dc5 pm5 cd5 ct5 : Value}
    {f6 : Addr} {od6 an6 : Option Addr} {sl6 : Array (Option Value)} {oc6 kV6 dc6 pm6 cd6 ct6 : Value}
    {f7 : Addr} {od7 an7 : Option Addr} {sl7 : Array (Option Value)} {oc7 kV7 dc7 pm7 cd7 ct7 : Value}
    {f8 : Addr} {od8 an8 : Option Addr} {sl8 : Array (Option Value)} {oc8 kV8 dc8 pm8 cd8 ct8 : Value}
    {f9 : Addr} {od9 an9 : Option Addr} {sl9 : Array (Option Value)} {oc9 kV9 dc9 pm9 cd9 ct9 : Value}
    {f10 : Addr} {od10 an10 : Option Addr} {sl10 : Array (Option Value)} {oc10 kV10 dc10 pm10 cd10 ct10 : Value}
    {f11 : Addr} {od11 an11 : Option Addr} {sl11 : Array (Option Value)} {oc11 kV11 dc11 pm11 cd11 ct11 : Value}
    {f12 : Addr} {od12 an12 : Option Addr} {sl12 : Array (Option Value)} {oc12 kV12 dc12 pm12 cd12 ct12 : Value}
    {f13 : Addr} {od13 an13 : Option Addr} {sl13 : Array (Option Value)} {oc13 kV13 dc13 pm13 cd13 ct13 : Value}
    {f14 : Addr} {od14 an14 : Option Addr} {sl14 : Array (Option Value)} {oc14 kV14 dc14 pm14 cd14 ct14 : Value}
    {f15 : Addr} {od15 an15 : Option Addr} {sl15 : Array (Option Value)} {oc15 kV15 dc15 pm15 cd15 ct15 : Value}
    {f16 : Addr} {od16 an16 : Option Addr} {sl16 : Array (Option Value)} {oc16 kV16 dc16 pm16 cd16 ct16 : Value}
    {f17 : Addr} {od17 an17 : Option Addr} {sl17 : Array (Option Value)} {oc17 kV17 dc17 pm17 ct17 : Value}
    {oo17 : Obj}
    {f18 : Addr} {od18 an18 : Option Addr} {sl18 : Array (Option Value)} {oc18 kV18 dc18 pm18 ct18 : Value}
    {oo18 : Obj}
    {f19 : Addr} {od19 an19 : Option Addr} {sl19 : Array (Option Value)} {oc19 kV19 dc19 pm19 cd19 ct19 : Value}
    {f20 : Addr} {od20 an20 : Option Addr} {sl20 : Array (Option Value)} {oc20 kV20 dc20 pm20 cd20 ct20 : Value}
    {f21 : Addr} {od21 an21 : Option Addr} {sl21 : Array (Option Value)} {oc21 kV21 dc21 pm21 cd21 ct21 : Value}
    {f22 : Addr} {od22 an22 : Option Addr} {sl22 : Array (Option Value)} {oc22 kV22 dc22 pm22 cd22 ct22 : Value}
    {f23 : Addr} {od23 an23 : Option Addr} {sl23 : Array (Option Value)} {oc23 kV23 dc23 pm23 cd23 ct23 : Value}
    {f24 : Addr} {od24 an24 : Option Addr} {sl24 : Array (Option Value)} {oc24 kV24 dc24 pm24 cd24 ct24 : Value}
    {f25 : Addr} {od25 an25 : Option Addr} {sl25 : Array (Option Value)} {oc25 kV25 dc25 pm25 cd25 ct25 : Value}
    {f26 : Addr} {od26 an26 : Option Addr} {sl26 : Array (Option Value)} {oc26 kV26 dc26 pm26 cd26 ct26 : Value}
    {f27 : Addr} {od27 an27 : Option Addr} {sl27 : Array (Option Value)} {oc27 kV27 dc27 pm27 cd27 ct27 : Value}
    {f28 : Addr} {od28 an28 : Option Addr} {sl28 : Array (Option Value)} {oc28 kV28 dc28 pm28 cd28 ct28 : Value}
    {f29 : Addr} {od29 an29 : Option Addr} {sl29 : Array (Option Value)} {oc29 kV29 dc29 pm29 cd29 ct29 : Value}
    {f30 : Addr} {od30 an30 : Option Addr} {sl30 : Array (Option Value)} {oc30 kV30 dc30 pm30 cd30 ct30 : Value}
    {f31 : Addr} {od31 an31 : Option Addr} {sl31 : Array (Option Value)} {oc31 kV31 dc31 pm31 cd31 ct31 : Value}
    {f32 : Addr} {od32 an32 : Option Addr} {sl32 : Array (Option Value)} {oc32 kV32 dc32 pm32 cd32 ct32 : Value}
    {f33 : Addr} {od33 an33 : Option Addr} {sl33 : Array (Option Value)} {oc33 kV33 dc33 pm33 cd33 ct33 : Value}
    {f34 : Addr} {od34 an34 : Option Addr} {sl34 : Array (Option Value)} {oc34 kV34 dc34 pm34 cd34 ct34 : Value}
    {f35 : Addr} {od35 an35 : Option Addr} {sl35 : Array (Option Value)} {oc35 kV35 dc35 pm35 cd35 ct35 : Value}
    {t_MOST_KNOTS : Tok}
    {t_MOST_SIGNS_pairs : Tok}
    {t_MOST_SIGNS_woods : Tok}
    {t_PIECE_SIGNS : Tok}
    {C_Wood : Addr}
    (a_Piece : PySem.W.nsIn K mainGlobals "Piece" = some (some (.ref C_Piece)))
    (pg_Piece : PySem.W.plainGet K C_Piece Str.empty = true)
    (hd_Piece : PySem.W.hasDictIn K C_Piece = true)
    (po_Piece : PySem.W.plainOver K C_Piece = true)
    (sa_Piece : PySem.W.findIn K (.ref C_Piece) "__setattr__" = some (some (.builtin "object.__setattr__")))
    (mk_Piece : PySem.W.makesIn K C_Piece = true)
    (kc_Piece : PySem.W.keepIn K (.ref C_Piece) = true)
    (n_Piece_signs : PySem.W.findIn K (.ref C_Piece) "signs" = some none)
    (n_Piece_kept_sums : PySem.W.findIn K (.ref C_Piece) "kept_sums" = some none)
    (n_Piece_greatest : PySem.W.findIn K (.ref C_Piece) "greatest" = some none)
    (n_Piece_often_least : PySem.W.findIn K (.ref C_Piece) "often_least" = some none)
    (a_PiecedRow : PySem.W.nsIn K mainGlobals "PiecedRow" = some (some (.ref C_PiecedRow)))
    (pg_PiecedRow : PySem.W.plainGet K C_PiecedRow Str.empty = true)
    (hd_PiecedRow : PySem.W.hasDictIn K C_PiecedRow = true)
    (po_PiecedRow : PySem.W.plainOver K C_PiecedRow = true)
    (sa_PiecedRow : PySem.W.findIn K (.ref C_PiecedRow) "__setattr__" = some (some (.builtin "object.__setattr__")))
    (mk_PiecedRow : PySem.W.makesIn K C_PiecedRow = true)
    (kc_PiecedRow : PySem.W.keepIn K (.ref C_PiecedRow) = true)
    (n_PiecedRow_kept_pieces : PySem.W.findIn K (.ref C_PiecedRow) "kept_pieces" = some none)
    (n_PiecedRow_begins : PySem.W.findIn K (.ref C_PiecedRow) "begins" = some none)
    (n_PiecedRow_knots_ahead : PySem.W.findIn K (.ref C_PiecedRow) "knots_ahead" = some none)
    (n_PiecedRow_length : PySem.W.findIn K (.ref C_PiecedRow) "length" = some none)
    (n_PiecedRow_kept_table : PySem.W.findIn K (.ref C_PiecedRow) "kept_table" = some none)
    (n_PiecedRow_often_least : PySem.W.findIn K (.ref C_PiecedRow) "often_least" = some none)
    (a_Shaped : PySem.W.nsIn K mainGlobals "Shaped" = some (some (.ref C_Shaped)))
    (pg_Shaped : PySem.W.plainGet K C_Shaped Str.empty = true)
    (hd_Shaped : PySem.W.hasDictIn K C_Shaped = true)
    (po_Shaped : PySem.W.plainOver K C_Shaped = true)
    (sa_Shaped : PySem.W.findIn K (.ref C_Shaped) "__setattr__" = some (some (.builtin "object.__setattr__")))
    (mk_Shaped : PySem.W.makesIn K C_Shaped = true)
    (kc_Shaped : PySem.W.keepIn K (.ref C_Shaped) = true)
    (n_Shaped_pairs : PySem.W.findIn K (.ref C_Shaped) "pairs" = some none)
    (n_Shaped_earlier : PySem.W.findIn K (.ref C_Shaped) "earlier" = some none)
    (a_Heights : PySem.W.nsIn K mainGlobals "Heights" = some (some (.ref C_Heights)))
    (bg_Heights : PySem.W.specialIn K (.ref C_Heights) "__getattribute__" = some (some (.builtin "type.__getattribute__")))
    (br_Heights : PySem.W.readsIn K C_Heights (.type "type") = true)
    (a_Openings : PySem.W.nsIn K mainGlobals "Openings" = some (some (.ref C_Openings)))
    (bg_Openings : PySem.W.specialIn K (.ref C_Openings) "__getattribute__" = some (some (.builtin "type.__getattribute__")))
    (br_Openings : PySem.W.readsIn K C_Openings (.type "type") = true)
    (a0 : PySem.W.nsIn K mainGlobals "is_whole" = some (some (.ref f0))) (l0 : K.lookup f0 = some ⟨oc0, od0, .func (PySem.W.fnOf "is_whole" "is_whole" (defArgs s_is_whole) (defBody s_is_whole) (defScope s_is_whole) .none kV0 dc0 pm0 an0 cd0 ct0), sl0⟩) (c0 : PySem.W.codeIn K cd0 "is_whole" = true) (k0 : PySem.W.keepIn K (.ref f0) = true)
    (a1 : PySem.W.nsIn K mainGlobals "first_that" = some (some (.ref f1))) (l1 : K.lookup f1 = some ⟨oc1, od1, .func (PySem.W.fnOf "first_that" "first_that" (defArgs s_first_that) (defBody s_first_that) (defScope s_first_that) .none kV1 dc1 pm1 an1 cd1 ct1), sl1⟩) (c1 : PySem.W.codeIn K cd1 "first_that" = true) (k1 : PySem.W.keepIn K (.ref f1) = true)
    (a2 : PySem.W.nsIn K mainGlobals "running_sums" = some (some (.ref f2))) (l2 : K.lookup f2 = some ⟨oc2, od2, .func (PySem.W.fnOf "running_sums" "running_sums" (defArgs s_running_sums) (defBody s_running_sums) (defScope s_running_sums) .none kV2 dc2 pm2 an2 cd2 ct2), sl2⟩) (c2 : PySem.W.codeIn K cd2 "running_sums" = true) (k2 : PySem.W.keepIn K (.ref f2) = true)
    (a3 : PySem.W.nsIn K mainGlobals "heights_of" = some (some (.ref f3))) (l3 : K.lookup f3 = some ⟨oc3, od3, .func (PySem.W.fnOf "heights_of" "heights_of" (defArgs s_heights_of) (defBody s_heights_of) (defScope s_heights_of) .none kV3 dc3 pm3 an3 cd3 ct3), sl3⟩) (c3 : PySem.W.codeIn K cd3 "heights_of" = true) (k3 : PySem.W.keepIn K (.ref f3) = true)
    (a4 : PySem.W.nsIn K mainGlobals "sums_of" = some (some (.ref f4))) (l4 : K.lookup f4 = some ⟨oc4, od4, .func (PySem.W.fnOf "sums_of" "sums_of" (defArgs s_sums_of) (defBody s_sums_of) (defScope s_sums_of) .none kV4 dc4 pm4 an4 cd4 ct4), sl4⟩) (c4 : PySem.W.codeIn K cd4 "sums_of" = true) (k4 : PySem.W.keepIn K (.ref f4) = true)
    (i5 : PySem.W.isFn K (.ref f5) = true)
    (a5 : PySem.W.findCls K (.ref C_Heights) (.type "type") "__init__" = some (.val (.ref f5))) (l5 : K.lookup f5 = some ⟨oc5, od5, .func (PySem.W.fnOf "__init__" "Heights.__init__" (defArgs s_Heights_init) (defBody s_Heights_init) (defScope s_Heights_init) .none kV5 dc5 pm5 an5 cd5 ct5), sl5⟩) (c5 : PySem.W.codeIn K cd5 "Heights.__init__" = true) (k5 : PySem.W.keepIn K (.ref f5) = true)
    (i6 : PySem.W.isFn K (.ref f6) = true)
    (a6 : PySem.W.findIn K (.ref C_PiecedRow) "size" = some (some (.ref f6))) (l6 : K.lookup f6 = some ⟨oc6, od6, .func (PySem.W.fnOf "size" "Heights.size" (defArgs s_Heights_size) (defBody s_Heights_size) (defScope s_Heights_size) .none kV6 dc6 pm6 an6 cd6 ct6), sl6⟩) (c6 : PySem.W.codeIn K cd6 "Heights.size" = true) (k6 : PySem.W.keepIn K (.ref f6) = true)
    (a7 : PySem.W.nsIn K mainGlobals "check_row" = some (some (.ref f7))) (l7 : K.lookup f7 = some ⟨oc7, od7, .func (PySem.W.fnOf "check_row" "check_row" (defArgs s_check_row) (defBody s_check_row) (defScope s_check_row) .none kV7 dc7 pm7 an7 cd7 ct7), sl7⟩) (c7 : PySem.W.codeIn K cd7 "check_row" = true) (k7 : PySem.W.keepIn K (.ref f7) = true)
    (a8 : PySem.W.nsIn K mainGlobals "look_at" = some (some (.ref f8))) (l8 : K.lookup f8 = some ⟨oc8, od8, .func (PySem.W.fnOf "look_at" "look_at" (defArgs s_look_at) (defBody s_look_at) (defScope s_look_at) .none kV8 dc8 pm8 an8 cd8 ct8), sl8⟩) (c8 : PySem.W.codeIn K cd8 "look_at" = true) (k8 : PySem.W.keepIn K (.ref f8) = true)
    (a9 : PySem.W.nsIn K mainGlobals "depths_of" = some (some (.ref f9))) (l9 : K.lookup f9 = some ⟨oc9, od9, .func (PySem.W.fnOf "depths_of" "depths_of" (defArgs s_depths_of) (defBody s_depths_of) (defScope s_depths_of) .none kV9 dc9 pm9 an9 cd9 ct9), sl9⟩) (c9 : PySem.W.codeIn K cd9 "depths_of" = true) (k9 : PySem.W.keepIn K (.ref f9) = true)
    (a10 : PySem.W.nsIn K mainGlobals "row_of" = some (some (.ref f10))) (l10 : K.lookup f10 = some ⟨oc10, od10, .func (PySem.W.fnOf "row_of" "row_of" (defArgs s_row_of) (defBody s_row_of) (defScope s_row_of) .none kV10 dc10 pm10 an10 cd10 ct10), sl10⟩) (c10 : PySem.W.codeIn K cd10 "row_of" = true) (k10 : PySem.W.keepIn K (.ref f10) = true)
    (a11 : PySem.W.nsIn K mainGlobals "elders_of" = some (some (.ref f11))) (l11 : K.lookup f11 = some ⟨oc11, od11, .func (PySem.W.fnOf "elders_of" "elders_of" (defArgs s_elders_of) (defBody s_elders_of) (defScope s_elders_of) .none kV11 dc11 pm11 an11 cd11 ct11), sl11⟩) (c11 : PySem.W.codeIn K cd11 "elders_of" = true) (k11 : PySem.W.keepIn K (.ref f11) = true)
    (i12 : PySem.W.isFn K (.ref f12) = true)
    (a12 : PySem.W.findCls K (.ref C_Openings) (.type "type") "__init__" = some (.val (.ref f12))) (l12 : K.lookup f12 = some ⟨oc12, od12, .func (PySem.W.fnOf "__init__" "Openings.__init__" (defArgs s_Openings_init) (defBody s_Openings_init) (defScope s_Openings_init) .none kV12 dc12 pm12 an12 cd12 ct12), sl12⟩) (c12 : PySem.W.codeIn K cd12 "Openings.__init__" = true) (k12 : PySem.W.keepIn K (.ref f12) = true)
    (i13 : PySem.W.isFn K (.ref f13) = true)
    (a13 : PySem.W.findIn K (.ref C_Shaped) "many_knots" = some (some (.ref f13))) (l13 : K.lookup f13 = some ⟨oc13, od13, .func (PySem.W.fnOf "many_knots" "Openings.many_knots" (defArgs s_Openings_many_knots) (defBody s_Openings_many_knots) (defScope s_Openings_many_knots) .none kV13 dc13 pm13 an13 cd13 ct13), sl13⟩) (c13 : PySem.W.codeIn K cd13 "Openings.many_knots" = true) (k13 : PySem.W.keepIn K (.ref f13) = true)
    (i14 : PySem.W.isFn K (.ref f14) = true)
    (a14 : PySem.W.findIn K (.ref C_Piece) "__init__" = some (some (.ref f14))) (l14 : K.lookup f14 = some ⟨oc14, od14, .func (PySem.W.fnOf "__init__" "Piece.__init__" (defArgs s_Piece_init) (defBody s_Piece_init) (defScope s_Piece_init) .none kV14 dc14 pm14 an14 cd14 ct14), sl14⟩) (c14 : PySem.W.codeIn K cd14 "Piece.__init__" = true) (k14 : PySem.W.keepIn K (.ref f14) = true)
    (a15 : PySem.W.nsIn K mainGlobals "pieces_of" = some (some (.ref f15))) (l15 : K.lookup f15 = some ⟨oc15, od15, .func (PySem.W.fnOf "pieces_of" "pieces_of" (defArgs s_pieces_of) (defBody s_pieces_of) (defScope s_pieces_of) .none kV15 dc15 pm15 an15 cd15 ct15), sl15⟩) (c15 : PySem.W.codeIn K cd15 "pieces_of" = true) (k15 : PySem.W.keepIn K (.ref f15) = true)
    (i16 : PySem.W.isFn K (.ref f16) = true)
    (a16 : PySem.W.findIn K (.ref C_PiecedRow) "__init__" = some (some (.ref f16))) (l16 : K.lookup f16 = some ⟨oc16, od16, .func (PySem.W.fnOf "__init__" "PiecedRow.__init__" (defArgs s_PiecedRow_init) (defBody s_PiecedRow_init) (defScope s_PiecedRow_init) .none kV16 dc16 pm16 an16 cd16 ct16), sl16⟩) (c16 : PySem.W.codeIn K cd16 "PiecedRow.__init__" = true) (k16 : PySem.W.keepIn K (.ref f16) = true)
    (i17 : PySem.W.isFn K (.ref f17) = true)
    (a17 : PySem.W.findIn K (.ref C_PiecedRow) "stretch_at" = some (some (.ref f17))) (l17 : K.lookup f17 = some ⟨oc17, od17, .func (PySem.W.fnOf "stretch_at" "PiecedRow.stretch_at" (defArgs s_PiecedRow_stretch_at) (defBody s_PiecedRow_stretch_at) (defScope s_PiecedRow_stretch_at) .none kV17 dc17 pm17 an17 (.ref 744) ct17), sl17⟩) (c17 : PySem.W.codeIn K (.ref 744) "PiecedRow.stretch_at" = true) (k17 : PySem.W.keepIn K (.ref f17) = true)
    (lc17 : K.lookup 744 = some oo17) (hc17 : CodeHdO oo17 744 740)
    (i18 : PySem.W.isFn K (.ref f18) = true)
    (a18 : PySem.W.findIn K (.ref C_PiecedRow) "pieces_to" = some (some (.ref f18))) (l18 : K.lookup f18 = some ⟨oc18, od18, .func (PySem.W.fnOf "pieces_to" "PiecedRow.pieces_to" (defArgs s_PiecedRow_pieces_to) (defBody s_PiecedRow_pieces_to) (defScope s_PiecedRow_pieces_to) .none kV18 dc18 pm18 an18 (.ref 758) ct18), sl18⟩) (c18 : PySem.W.codeIn K (.ref 758) "PiecedRow.pieces_to" = true) (k18 : PySem.W.keepIn K (.ref f18) = true)
    (lc18 : K.lookup 758 = some oo18) (hc18 : CodeHdO oo18 758 754)
    (i19 : PySem.W.isFn K (.ref f19) = true)
    (a19 : PySem.W.findIn K (.ref C_PiecedRow) "stretch" = some (some (.ref f19))) (l19 : K.lookup f19 = some ⟨oc19, od19, .func (PySem.W.fnOf "stretch" "PiecedRow.stretch" (defArgs s_PiecedRow_stretch) (defBody s_PiecedRow_stretch) (defScope s_PiecedRow_stretch) .none kV19 dc19 pm19 an19 cd19 ct19), sl19⟩) (c19 : PySem.W.codeIn K cd19 "PiecedRow.stretch" = true) (k19 : PySem.W.keepIn K (.ref f19) = true)
    (i20 : PySem.W.isFn K (.ref f20) = true)
    (a20 : PySem.W.findIn K (.ref C_PiecedRow) "text" = some (some (.ref f20))) (l20 : K.lookup f20 = some ⟨oc20, od20, .func (PySem.W.fnOf "text" "Heights.text" (defArgs s_Heights_text) (defBody s_Heights_text) (defScope s_Heights_text) .none kV20 dc20 pm20 an20 cd20 ct20), sl20⟩) (c20 : PySem.W.codeIn K cd20 "Heights.text" = true) (k20 : PySem.W.keepIn K (.ref f20) = true)
    (i21 : PySem.W.isFn K (.ref f21) = true)
    (a21 : PySem.W.findIn K (.ref C_Shaped) "row" = some (some (.ref f21))) (l21 : K.lookup f21 = some ⟨oc21, od21, .func (PySem.W.fnOf "row" "Openings.row" (defArgs s_Openings_row) (defBody s_Openings_row) (defScope s_Openings_row) .none kV21 dc21 pm21 an21 cd21 ct21), sl21⟩) (c21 : PySem.W.codeIn K cd21 "Openings.row" = true) (k21 : PySem.W.keepIn K (.ref f21) = true)
    (i22 : PySem.W.isFn K (.ref f22) = true)
    (a22 : PySem.W.findIn K (.ref C_Shaped) "elders" = some (some (.ref f22))) (l22 : K.lookup f22 = some ⟨oc22, od22, .func (PySem.W.fnOf "elders" "Openings.elders" (defArgs s_Openings_elders) (defBody s_Openings_elders) (defScope s_Openings_elders) .none kV22 dc22 pm22 an22 cd22 ct22), sl22⟩) (c22 : PySem.W.codeIn K cd22 "Openings.elders" = true) (k22 : PySem.W.keepIn K (.ref f22) = true)
    (i23 : PySem.W.isFn K (.ref f23) = true)
    (a23 : PySem.W.findIn K (.ref C_Shaped) "__init__" = some (some (.ref f23))) (l23 : K.lookup f23 = some ⟨oc23, od23, .func (PySem.W.fnOf "__init__" "Shaped.__init__" (defArgs s_Shaped_init) (defBody s_Shaped_init) (defScope s_Shaped_init) .none kV23 dc23 pm23 an23 cd23 ct23), sl23⟩) (c23 : PySem.W.codeIn K cd23 "Shaped.__init__" = true) (k23 : PySem.W.keepIn K (.ref f23) = true)
    (i24 : PySem.W.isFn K (.ref f24) = true)
    (a24 : PySem.W.findIn K (.ref C_Shaped) "pieces" = some (some (.ref f24))) (l24 : K.lookup f24 = some ⟨oc24, od24, .func (PySem.W.fnOf "pieces" "Shaped.pieces" (defArgs s_Shaped_pieces) (defBody s_Shaped_pieces) (defScope s_Shaped_pieces) .none kV24 dc24 pm24 an24 cd24 ct24), sl24⟩) (c24 : PySem.W.codeIn K cd24 "Shaped.pieces" = true) (k24 : PySem.W.keepIn K (.ref f24) = true)
    (i25 : PySem.W.isFn K (.ref f25) = true)
    (a25 : PySem.W.findIn K (.ref C_Shaped) "sums" = some (some (.ref f25))) (l25 : K.lookup f25 = some ⟨oc25, od25, .func (PySem.W.fnOf "sums" "Shaped.sums" (defArgs s_Shaped_sums) (defBody s_Shaped_sums) (defScope s_Shaped_sums) .none kV25 dc25 pm25 an25 cd25 ct25), sl25⟩) (c25 : PySem.W.codeIn K cd25 "Shaped.sums" = true) (k25 : PySem.W.keepIn K (.ref f25) = true)
    (a26 : PySem.W.nsIn K mainGlobals "_law_cell_at" = some (some (.ref f26))) (l26 : K.lookup f26 = some ⟨oc26, od26, .func (PySem.W.fnOf "_law_cell_at" "_law_cell_at" (defArgs s_law_cell_at) (defBody s_law_cell_at) (defScope s_law_cell_at) .none kV26 dc26 pm26 an26 cd26 ct26), sl26⟩) (c26 : PySem.W.codeIn K cd26 "_law_cell_at" = true) (k26 : PySem.W.keepIn K (.ref f26) = true)
    (a27 : PySem.W.nsIn K mainGlobals "_law_whole" = some (some (.ref f27))) (l27 : K.lookup f27 = some ⟨oc27, od27, .func (PySem.W.fnOf "_law_whole" "_law_whole" (defArgs s_law_whole) (defBody s_law_whole) (defScope s_law_whole) .none kV27 dc27 pm27 an27 cd27 ct27), sl27⟩) (c27 : PySem.W.codeIn K cd27 "_law_whole" = true) (k27 : PySem.W.keepIn K (.ref f27) = true)
    (a28 : PySem.W.nsIn K mainGlobals "_law_mixed" = some (some (.ref f28))) (l28 : K.lookup f28 = some ⟨oc28, od28, .func (PySem.W.fnOf "_law_mixed" "_law_mixed" (defArgs s_law_mixed) (defBody s_law_mixed) (defScope s_law_mixed) .none kV28 dc28 pm28 an28 cd28 ct28), sl28⟩) (c28 : PySem.W.codeIn K cd28 "_law_mixed" = true) (k28 : PySem.W.keepIn K (.ref f28) = true)
    (a29 : PySem.W.nsIn K mainGlobals "_law_digits" = some (some (.ref f29))) (l29 : K.lookup f29 = some ⟨oc29, od29, .func (PySem.W.fnOf "_law_digits" "_law_digits" (defArgs s_law_digits) (defBody s_law_digits) (defScope s_law_digits) .none kV29 dc29 pm29 an29 cd29 ct29), sl29⟩) (c29 : PySem.W.codeIn K cd29 "_law_digits" = true) (k29 : PySem.W.keepIn K (.ref f29) = true)
    (a30 : PySem.W.nsIn K mainGlobals "_law_wood" = some (some (.ref f30))) (l30 : K.lookup f30 = some ⟨oc30, od30, .func (PySem.W.fnOf "_law_wood" "_law_wood" (defArgs s_law_wood) (defBody s_law_wood) (defScope s_law_wood) .none kV30 dc30 pm30 an30 cd30 ct30), sl30⟩) (c30 : PySem.W.codeIn K cd30 "_law_wood" = true) (k30 : PySem.W.keepIn K (.ref f30) = true)
    (a31 : PySem.W.nsIn K mainGlobals "_law_large" = some (some (.ref f31))) (l31 : K.lookup f31 = some ⟨oc31, od31, .func (PySem.W.fnOf "_law_large" "_law_large" (defArgs s_law_large) (defBody s_law_large) (defScope s_law_large) .none kV31 dc31 pm31 an31 cd31 ct31), sl31⟩) (c31 : PySem.W.codeIn K cd31 "_law_large" = true) (k31 : PySem.W.keepIn K (.ref f31) = true)
    (a32 : PySem.W.nsIn K mainGlobals "_law_row" = some (some (.ref f32))) (l32 : K.lookup f32 = some ⟨oc32, od32, .func (PySem.W.fnOf "_law_row" "_law_row" (defArgs s_law_row) (defBody s_law_row) (defScope s_law_row) .none kV32 dc32 pm32 an32 cd32 ct32), sl32⟩) (c32 : PySem.W.codeIn K cd32 "_law_row" = true) (k32 : PySem.W.keepIn K (.ref f32) = true)
    (a33 : PySem.W.nsIn K mainGlobals "_law_sums" = some (some (.ref f33))) (l33 : K.lookup f33 = some ⟨oc33, od33, .func (PySem.W.fnOf "_law_sums" "_law_sums" (defArgs s_law_sums) (defBody s_law_sums) (defScope s_law_sums) .none kV33 dc33 pm33 an33 cd33 ct33), sl33⟩) (c33 : PySem.W.codeIn K cd33 "_law_sums" = true) (k33 : PySem.W.keepIn K (.ref f33) = true)
    (a34 : PySem.W.nsIn K mainGlobals "_law_good" = some (some (.ref f34))) (l34 : K.lookup f34 = some ⟨oc34, od34, .func (PySem.W.fnOf "_law_good" "_law_good" (defArgs s_law_good) (defBody s_law_good) (defScope s_law_good) .none kV34 dc34 pm34 an34 cd34 ct34), sl34⟩) (c34 : PySem.W.codeIn K cd34 "_law_good" = true) (k34 : PySem.W.keepIn K (.ref f34) = true)
    (a35 : PySem.W.nsIn K mainGlobals "law" = some (some (.ref f35))) (l35 : K.lookup f35 = some ⟨oc35, od35, .func (PySem.W.fnOf "law" "law" (defArgs s_law) (defBody s_law) (defScope s_law) .none kV35 dc35 pm35 an35 cd35 ct35), sl35⟩) (c35 : PySem.W.codeIn K cd35 "law" = true) (k35 : PySem.W.keepIn K (.ref f35) = true)
    (g_MOST_KNOTS : PySem.W.nsIn K mainGlobals "MOST_KNOTS" = some (some (.int 4000 t_MOST_KNOTS)))
    (g_MOST_SIGNS_pairs : PySem.W.nsIn K mainGlobals "MOST_SIGNS_pairs" = some (some (.int 8192 t_MOST_SIGNS_pairs)))
    (g_MOST_SIGNS_woods : PySem.W.nsIn K mainGlobals "MOST_SIGNS_woods" = some (some (.int 8000 t_MOST_SIGNS_woods)))
    (g_PIECE_SIGNS : PySem.W.nsIn K mainGlobals "PIECE_SIGNS" = some (some (.int 128 t_PIECE_SIGNS)))
    (z_range : PySem.W.nsIn K mainGlobals "range" = some none)
    (z_len : PySem.W.nsIn K mainGlobals "len" = some none)
    (z_int : PySem.W.nsIn K mainGlobals "int" = some none)
    (z_bool : PySem.W.nsIn K mainGlobals "bool" = some none)
    (z_str : PySem.W.nsIn K mainGlobals "str" = some none)
    (z_isinstance : PySem.W.nsIn K mainGlobals "isinstance" = some none)
    (z_list : PySem.W.nsIn K mainGlobals "list" = some none)
    (z_tuple : PySem.W.nsIn K mainGlobals "tuple" = some none)
    (z_zip : PySem.W.nsIn K mainGlobals "zip" = some none)
    (z_enumerate : PySem.W.nsIn K mainGlobals "enumerate" = some none)
    (z_abs : PySem.W.nsIn K mainGlobals "abs" = some none)
    (z_max : PySem.W.nsIn K mainGlobals "max" = some none)
    (z_min : PySem.W.nsIn K mainGlobals "min" = some none)
    (eg_Wood : PySem.W.nsIn K mainGlobals "Wood" = some (some (.ref C_Wood)))
    (ca_Shaped : PySem.W.findIn K (.ref C_Shaped) "__class__" = some (some (.builtin "object.__class__")))
    (sp_Shaped : PySem.W.specialIn K (.builtin "object.__class__") "__get__" = some (some (.builtin "getset_descriptor.__get__")))
    (tk_Shaped : PySem.W.takesIn K (.builtin "object.__class__") = some true)
    (mo_Shaped : PySem.W.mroIn K C_Shaped (.type "object") = some true)
    (kit_Shaped_Wood : PySem.W.kitOne K (.ref C_Shaped) (.ref C_Wood) = some true)
    : ∃ fd : FuncData, (∀ (s : Shared) (v : Value), BindsTo s fd ⟨[v], []⟩ [("_law_script", v)]) ∧ ∀ base : Heap, K.In base → base.Ns mainGlobals mg → (∀ q ∈ ([(744, 740), (758, 754)] : List (Addr × Addr)), base.BuiltinsAt mg q.2) → FnOk l.prog w K mg base CX0 10 fa fd ["_law_script"] (spLaw K [⟨740, pos_PiecedRow_stretch_at, "PiecedRow.stretch_at.<locals>.<lambda>"⟩, ⟨754, pos_PiecedRow_pieces_to, "PiecedRow.pieces_to.<locals>.<lambda>"⟩]) := by
  have e := hfa.symm.trans (PySem.W.mg_of X G a35)
  cases e
  have T : Txt K mg C_Wood C_Shaped := ⟨PySem.W.mg_of X G eg_Wood, ca_Shaped, sp_Shaped, tk_Shaped, mo_Shaped, kit_Shaped_Wood, ⟨_, PySem.W.mg_of X G g_MOST_KNOTS⟩, ⟨_, PySem.W.mg_of X G g_MOST_SIGNS_pairs⟩, ⟨_, PySem.W.mg_of X G g_MOST_SIGNS_woods⟩, ⟨_, PySem.W.mg_of X G g_PIECE_SIGNS⟩, PySem.W.mg_none_of X G z_range, PySem.W.mg_none_of X G z_len, PySem.W.mg_none_of X G z_int, PySem.W.mg_none_of X G z_bool, PySem.W.mg_none_of X G z_str, PySem.W.mg_none_of X G z_isinstance, PySem.W.mg_none_of X G z_list, PySem.W.mg_none_of X G z_tuple, PySem.W.mg_none_of X G z_zip, PySem.W.mg_none_of X G z_enumerate, PySem.W.mg_none_of X G z_abs, PySem.W.mg_none_of X G z_max, PySem.W.mg_none_of X G z_min⟩
  have Z_Piece : Z_Piece K C_Piece := ⟨⟨pg_Piece, hd_Piece, po_Piece, sa_Piece⟩, n_Piece_signs, n_Piece_kept_sums, n_Piece_greatest, n_Piece_often_least⟩
  have Z_PiecedRow : Z_PiecedRow K C_PiecedRow := ⟨⟨pg_PiecedRow, hd_PiecedRow, po_PiecedRow, sa_PiecedRow⟩, n_PiecedRow_kept_pieces, n_PiecedRow_begins, n_PiecedRow_knots_ahead, n_PiecedRow_length, n_PiecedRow_kept_table, n_PiecedRow_often_least⟩
  have Z_Shaped : Z_Shaped K C_Shaped := ⟨⟨pg_Shaped, hd_Shaped, po_Shaped, sa_Shaped⟩, n_Shaped_pairs, n_Shaped_earlier⟩
  have F0 := fun_mk (st := s_is_whole) l0 c0 k0
  have b0 := F0.binds (ps := ["thing"]) fun _ _ _ _ _ _ => us1 fun _ => rfl
  have F1 := fun_mk (st := s_first_that) l1 c1 k1
  have b1 := F1.binds (ps := ["low", "high", "holds"]) fun _ _ _ _ _ _ => us3 fun _ _ _ => rfl
  have F2 := fun_mk (st := s_running_sums) l2 c2 k2
  have b2 := F2.binds (ps := ["numbers"]) fun _ _ _ _ _ _ => us1 fun _ => rfl
  have F3 := fun_mk (st := s_heights_of) l3 c3 k3
  have b3 := F3.binds (ps := ["text", "begin"]) fun _ _ _ _ _ _ => us2 fun _ _ => rfl
  have F4 := fun_mk (st := s_sums_of) l4 c4 k4
  have b4 := F4.binds (ps := ["text"]) fun _ _ _ _ _ _ => us1 fun _ => rfl
  have F5 := fun_mk (st := s_Heights_init) l5 c5 k5
  have b5 := F5.binds (ps := ["self", "length", "table", "often_least"]) fun _ _ _ _ _ _ => us4 fun _ _ _ _ => rfl
  have F6 := fun_mk (st := s_Heights_size) l6 c6 k6
  have b6 := F6.binds (ps := ["self"]) fun _ _ _ _ _ _ => us1 fun _ => rfl
  have F7 := fun_mk (st := s_check_row) l7 c7 k7
  have b7 := F7.binds (ps := ["text"]) fun _ _ _ _ _ _ => us1 fun _ => rfl
  have F8 := fun_mk (st := s_look_at) l8 c8 k8
  have b8 := F8.binds (ps := ["elders"]) fun _ _ _ _ _ _ => us1 fun _ => rfl
  have F9 := fun_mk (st := s_depths_of) l9 c9 k9
  have b9 := F9.binds (ps := ["elders"]) fun _ _ _ _ _ _ => us1 fun _ => rfl
  have F10 := fun_mk (st := s_row_of) l10 c10 k10
  have b10 := F10.binds (ps := ["elders"]) fun _ _ _ _ _ _ => us1 fun _ => rfl
  have F11 := fun_mk (st := s_elders_of) l11 c11 k11
  have b11 := F11.binds (ps := ["text"]) fun _ _ _ _ _ _ => us1 fun _ => rfl
  have F12 := fun_mk (st := s_Openings_init) l12 c12 k12
  have b12 := F12.binds (ps := ["self", "pairs"]) fun _ _ _ _ _ _ => us2 fun _ _ => rfl
  have F13 := fun_mk (st := s_Openings_many_knots) l13 c13 k13
  have b13 := F13.binds (ps := ["self"]) fun _ _ _ _ _ _ => us1 fun _ => rfl
  have F14 := fun_mk (st := s_Piece_init) l14 c14 k14
  have b14 := F14.binds (ps := ["self", "signs"]) fun _ _ _ _ _ _ => us2 fun _ _ => rfl
  have F15 := fun_mk (st := s_pieces_of) l15 c15 k15
  have b15 := F15.binds (ps := ["text"]) fun _ _ _ _ _ _ => us1 fun _ => rfl
  have F16 := fun_mk (st := s_PiecedRow_init) l16 c16 k16
  have b16 := F16.binds (ps := ["self", "pieces"]) fun _ _ _ _ _ _ => us2 fun _ _ => rfl
  have F17 := fun_mkL (st := s_PiecedRow_stretch_at) l17 c17 k17 lc17 hc17
  have b17 := F17.binds (ps := ["self", "place"]) fun _ _ _ _ _ _ => us2 fun _ _ => rfl
  have F18 := fun_mkL (st := s_PiecedRow_pieces_to) l18 c18 k18 lc18 hc18
  have b18 := F18.binds (ps := ["self", "place"]) fun _ _ _ _ _ _ => us2 fun _ _ => rfl
  have F19 := fun_mk (st := s_PiecedRow_stretch) l19 c19 k19
  have b19 := F19.binds (ps := ["self", "low", "high"]) fun _ _ _ _ _ _ => us3 fun _ _ _ => rfl
  have F20 := fun_mk (st := s_Heights_text) l20 c20 k20
  have b20 := F20.binds (ps := ["self"]) fun _ _ _ _ _ _ => us1 fun _ => rfl
  have F21 := fun_mk (st := s_Openings_row) l21 c21 k21
  have b21 := F21.binds (ps := ["self"]) fun _ _ _ _ _ _ => us1 fun _ => rfl
  have F22 := fun_mk (st := s_Openings_elders) l22 c22 k22
  have b22 := F22.binds (ps := ["self"]) fun _ _ _ _ _ _ => us1 fun _ => rfl
  have F23 := fun_mk (st := s_Shaped_init) l23 c23 k23
  have b23 := F23.binds (ps := ["self", "elders"]) fun _ _ _ _ _ _ => us2 fun _ _ => rfl
  have F24 := fun_mk (st := s_Shaped_pieces) l24 c24 k24
  have b24 := F24.binds (ps := ["self"]) fun _ _ _ _ _ _ => us1 fun _ => rfl
  have F25 := fun_mk (st := s_Shaped_sums) l25 c25 k25
  have b25 := F25.binds (ps := ["self"]) fun _ _ _ _ _ _ => us1 fun _ => rfl
  have F26 := fun_mk (st := s_law_cell_at) l26 c26 k26
  have b26 := F26.binds (ps := ["_law_script", "_law_k"]) fun _ _ _ _ _ _ => us2 fun _ _ => rfl
  have F27 := fun_mk (st := s_law_whole) l27 c27 k27
  have b27 := F27.binds (ps := ["_law_found"]) fun _ _ _ _ _ _ => us1 fun _ => rfl
  have F28 := fun_mk (st := s_law_mixed) l28 c28 k28
  have b28 := F28.binds (ps := ["_law_cell", "_law_k"]) fun _ _ _ _ _ _ => us2 fun _ _ => rfl
  have F29 := fun_mk (st := s_law_digits) l29 c29 k29
  have b29 := F29.binds (ps := ["_law_script", "_law_at", "_law_many"]) fun _ _ _ _ _ _ => us3 fun _ _ _ => rfl
  have F30 := fun_mk (st := s_law_wood) l30 c30 k30
  have b30 := F30.binds (ps := ["_law_digits_here"]) fun _ _ _ _ _ _ => us1 fun _ => rfl
  have F31 := fun_mk (st := s_law_large) l31 c31 k31
  have b31 := F31.binds (ps := ["_law_elders", "_law_times", "_law_nested"]) fun _ _ _ _ _ _ => us3 fun _ _ _ => rfl
  have F32 := fun_mk (st := s_law_row) l32 c32 k32
  have b32 := F32.binds (ps := ["_law_elders"]) fun _ _ _ _ _ _ => us1 fun _ => rfl
  have F33 := fun_mk (st := s_law_sums) l33 c33 k33
  have b33 := F33.binds (ps := ["_law_text"]) fun _ _ _ _ _ _ => us1 fun _ => rfl
  have F34 := fun_mk (st := s_law_good) l34 c34 k34
  have b34 := F34.binds (ps := ["_law_wood_here", "_law_elders", "_law_row_here"]) fun _ _ _ _ _ _ => us3 fun _ _ _ => rfl
  have F35 := fun_mk (st := s_law) l35 c35 k35
  refine ⟨PySem.W.fnOf "law" "law" (defArgs s_law) (defBody s_law) (defScope s_law) .none kV35 dc35 pm35 an35 cd35 ct35, fun s v => .of_eq rfl, fun base hK _ hB => ?_⟩
  have V0 : Cal l.prog w K mg base "is_whole" 1 ["thing"] spWholeT := ⟨⟨f0, _, ok_is_whole F0 T, b0, PySem.W.mg_of X G a0, k0⟩⟩
  have V1 : Cal l.prog w K mg base "first_that" 3 ["low", "high", "holds"] (spFirst l.prog w K mg base 2) := ⟨⟨f1, _, ok_first_that F1 T, b1, PySem.W.mg_of X G a1, k1⟩⟩
  have V2 : Cal l.prog w K mg base "running_sums" 1 ["numbers"] spRun := ⟨⟨f2, _, ok_running_sums F2 T, b2, PySem.W.mg_of X G a2, k2⟩⟩
  have V3 : Cal l.prog w K mg base "heights_of" 1 ["text", "begin"] spHeights := ⟨⟨f3, _, ok_heights_of F3 T, b3, PySem.W.mg_of X G a3, k3⟩⟩
  have V4 : Cal l.prog w K mg base "sums_of" 2 ["text"] (spSums K) := ⟨⟨f4, _, ok_sums_of F4 T V3, b4, PySem.W.mg_of X G a4, k4⟩⟩
  have V5 : CalC l.prog w K mg base "Heights" "__init__" 1 ["self", "length", "table", "often_least"] (spHInitR C_PiecedRow) := ⟨⟨C_Heights, f5, _, ok_Heights_init F5 T Z_PiecedRow, b5, PySem.W.mg_of X G a_Heights, bg_Heights, br_Heights, a5, k5⟩⟩
  have V6 : Mth l.prog w K mg base C_PiecedRow "size" 1 ["self"] (spRSize C_Piece C_PiecedRow) := ⟨⟨f6, _, ok_Heights_size F6 T Z_PiecedRow, b6, ⟨a6, i6, k6⟩⟩, Z_PiecedRow.cl⟩
  have V7 : Cal l.prog w K mg base "check_row" 1 ["text"] spCheck := ⟨⟨f7, _, ok_check_row F7 T, b7, PySem.W.mg_of X G a7, k7⟩⟩
  have V8 : Cal l.prog w K mg base "look_at" 2 ["elders"] spLook := ⟨⟨f8, _, ok_look_at F8 T V0, b8, PySem.W.mg_of X G a8, k8⟩⟩
  have V9 : Cal l.prog w K mg base "depths_of" 1 ["elders"] spDepths := ⟨⟨f9, _, ok_depths_of F9 T, b9, PySem.W.mg_of X G a9, k9⟩⟩
  have V10 : Cal l.prog w K mg base "row_of" 3 ["elders"] spRowOf := ⟨⟨f10, _, ok_row_of F10 T V9 V8, b10, PySem.W.mg_of X G a10, k10⟩⟩
  have V11 : Cal l.prog w K mg base "elders_of" 2 ["text"] spEldersOf := ⟨⟨f11, _, ok_elders_of F11 T V7, b11, PySem.W.mg_of X G a11, k11⟩⟩
  have V12 : CalC l.prog w K mg base "Openings" "__init__" 1 ["self", "pairs"] (spOInitS C_Shaped) := ⟨⟨C_Openings, f12, _, ok_Openings_init F12 T Z_Shaped, b12, PySem.W.mg_of X G a_Openings, bg_Openings, br_Openings, a12, k12⟩⟩
  have V13 : Mth l.prog w K mg base C_Shaped "many_knots" 2 ["self"] (spSKnots C_Piece C_PiecedRow C_Shaped) := ⟨⟨f13, _, ok_Openings_many_knots F13 T Z_Shaped V6, b13, ⟨a13, i13, k13⟩⟩, Z_Shaped.cl⟩
  have V14 : Mkr l.prog w K mg base "Piece" C_Piece 3 ["self", "signs"] (spPcInit C_Piece) := ⟨⟨f14, _, ok_Piece_init F14 T Z_Piece V3 V4, b14, ⟨mk_Piece, a14, i14, kc_Piece⟩, PySem.W.mg_of X G a_Piece⟩⟩
  have V15 : Cal l.prog w K mg base "pieces_of" 5 ["text"] (spPiecesOf C_Piece) := ⟨⟨f15, _, ok_pieces_of F15 T V14, b15, PySem.W.mg_of X G a15, k15⟩⟩
  have V16 : Mkr l.prog w K mg base "PiecedRow" C_PiecedRow 2 ["self", "pieces"] (spPRInit C_Piece C_PiecedRow) := ⟨⟨f16, _, ok_PiecedRow_init F16 T Z_PiecedRow Z_Piece V2 V5, b16, ⟨mk_PiecedRow, a16, i16, kc_PiecedRow⟩, PySem.W.mg_of X G a_PiecedRow⟩⟩
  have V17 : Mth l.prog w K mg base C_PiecedRow "stretch_at" 4 ["self", "place"] (spPAt C_Piece C_PiecedRow [⟨740, pos_PiecedRow_stretch_at, "PiecedRow.stretch_at.<locals>.<lambda>"⟩, ⟨754, pos_PiecedRow_pieces_to, "PiecedRow.pieces_to.<locals>.<lambda>"⟩]) := ⟨⟨f17, _, ok_PiecedRow_stretch_at F17 T hK (hB (744, 740) (by simp)) List.mem_cons_self Z_PiecedRow V1, b17, ⟨a17, i17, k17⟩⟩, Z_PiecedRow.cl⟩
  have V18 : Mth l.prog w K mg base C_PiecedRow "pieces_to" 4 ["self", "place"] (spPTo C_Piece C_PiecedRow [⟨740, pos_PiecedRow_stretch_at, "PiecedRow.stretch_at.<locals>.<lambda>"⟩, ⟨754, pos_PiecedRow_pieces_to, "PiecedRow.pieces_to.<locals>.<lambda>"⟩]) := ⟨⟨f18, _, ok_PiecedRow_pieces_to F18 T hK (hB (758, 754) (by simp)) (List.mem_cons_of_mem _ List.mem_cons_self) Z_PiecedRow V1, b18, ⟨a18, i18, k18⟩⟩, Z_PiecedRow.cl⟩
  have V19 : Mth l.prog w K mg base C_PiecedRow "stretch" 5 ["self", "low", "high"] (spPcStretch C_Piece C_PiecedRow [⟨740, pos_PiecedRow_stretch_at, "PiecedRow.stretch_at.<locals>.<lambda>"⟩, ⟨754, pos_PiecedRow_pieces_to, "PiecedRow.pieces_to.<locals>.<lambda>"⟩]) := ⟨⟨f19, _, ok_PiecedRow_stretch F19 T Z_PiecedRow Z_Piece V17 V18, b19, ⟨a19, i19, k19⟩⟩, Z_PiecedRow.cl⟩
  have V20 : Mth l.prog w K mg base C_PiecedRow "text" 6 ["self"] (spRText C_Piece C_PiecedRow [⟨740, pos_PiecedRow_stretch_at, "PiecedRow.stretch_at.<locals>.<lambda>"⟩, ⟨754, pos_PiecedRow_pieces_to, "PiecedRow.pieces_to.<locals>.<lambda>"⟩]) := ⟨⟨f20, _, ok_Heights_text F20 T Z_PiecedRow V19, b20, ⟨a20, i20, k20⟩⟩, Z_PiecedRow.cl⟩
  have V21 : Mth l.prog w K mg base C_Shaped "row" 7 ["self"] (spSRow C_Piece C_PiecedRow C_Shaped [⟨740, pos_PiecedRow_stretch_at, "PiecedRow.stretch_at.<locals>.<lambda>"⟩, ⟨754, pos_PiecedRow_pieces_to, "PiecedRow.pieces_to.<locals>.<lambda>"⟩]) := ⟨⟨f21, _, ok_Openings_row F21 T Z_Shaped V20, b21, ⟨a21, i21, k21⟩⟩, Z_Shaped.cl⟩
  have V22 : Mth l.prog w K mg base C_Shaped "elders" 8 ["self"] (spSElders C_Piece C_PiecedRow C_Shaped [⟨740, pos_PiecedRow_stretch_at, "PiecedRow.stretch_at.<locals>.<lambda>"⟩, ⟨754, pos_PiecedRow_pieces_to, "PiecedRow.pieces_to.<locals>.<lambda>"⟩]) := ⟨⟨f22, _, ok_Openings_elders F22 T Z_Shaped V11 V21, b22, ⟨a22, i22, k22⟩⟩, Z_Shaped.cl⟩
  have V23 : Mkr l.prog w K mg base "Shaped" C_Shaped 6 ["self", "elders"] (spSInit C_Piece C_PiecedRow C_Shaped) := ⟨⟨f23, _, ok_Shaped_init F23 T Z_Shaped V10 V15 V16 V12, b23, ⟨mk_Shaped, a23, i23, kc_Shaped⟩, PySem.W.mg_of X G a_Shaped⟩⟩
  have V24 : Mth l.prog w K mg base C_Shaped "pieces" 1 ["self"] (spSPieces C_Piece C_PiecedRow C_Shaped) := ⟨⟨f24, _, ok_Shaped_pieces F24 T Z_Shaped Z_PiecedRow Z_Piece, b24, ⟨a24, i24, k24⟩⟩, Z_Shaped.cl⟩
  have V25 : Mth l.prog w K mg base C_Shaped "sums" 1 ["self"] (spSSums C_Piece C_PiecedRow C_Shaped) := ⟨⟨f25, _, ok_Shaped_sums F25 T Z_Shaped Z_PiecedRow Z_Piece, b25, ⟨a25, i25, k25⟩⟩, Z_Shaped.cl⟩
  have V26 : Cal l.prog w K mg base "_law_cell_at" 1 ["_law_script", "_law_k"] (spCell K) := ⟨⟨f26, _, ok_law_cell_at F26 T, b26, PySem.W.mg_of X G a26, k26⟩⟩
  have V27 : Cal l.prog w K mg base "_law_whole" 1 ["_law_found"] spWhole := ⟨⟨f27, _, ok_law_whole F27 T, b27, PySem.W.mg_of X G a27, k27⟩⟩
  have V28 : Cal l.prog w K mg base "_law_mixed" 1 ["_law_cell", "_law_k"] spMixed := ⟨⟨f28, _, ok_law_mixed F28 T, b28, PySem.W.mg_of X G a28, k28⟩⟩
  have V29 : Cal l.prog w K mg base "_law_digits" 2 ["_law_script", "_law_at", "_law_many"] (spDigits K) := ⟨⟨f29, _, ok_law_digits F29 T V26 V28, b29, PySem.W.mg_of X G a29, k29⟩⟩
  have V30 : Cal l.prog w K mg base "_law_wood" 1 ["_law_digits_here"] spWood := ⟨⟨f30, _, ok_law_wood F30 T, b30, PySem.W.mg_of X G a30, k30⟩⟩
  have V31 : Cal l.prog w K mg base "_law_large" 1 ["_law_elders", "_law_times", "_law_nested"] spLarge := ⟨⟨f31, _, ok_law_large F31 T, b31, PySem.W.mg_of X G a31, k31⟩⟩
  have V32 : Cal l.prog w K mg base "_law_row" 1 ["_law_elders"] spRow := ⟨⟨f32, _, ok_law_row F32 T, b32, PySem.W.mg_of X G a32, k32⟩⟩
  have V33 : Cal l.prog w K mg base "_law_sums" 1 ["_law_text"] spLSums := ⟨⟨f33, _, ok_law_sums F33 T, b33, PySem.W.mg_of X G a33, k33⟩⟩
  have V34 : Cal l.prog w K mg base "_law_good" 9 ["_law_wood_here", "_law_elders", "_law_row_here"] (spGood C_Piece C_PiecedRow C_Shaped [⟨740, pos_PiecedRow_stretch_at, "PiecedRow.stretch_at.<locals>.<lambda>"⟩, ⟨754, pos_PiecedRow_pieces_to, "PiecedRow.pieces_to.<locals>.<lambda>"⟩]) := ⟨⟨f34, _, ok_law_good F34 T Z_Shaped V24 V21 V25 V33 V27 V22 V13, b34, PySem.W.mg_of X G a34, k34⟩⟩
  exact ok_law F35 T Z_Shaped V26 V28 V29 V30 V31 V32 V34 V23
theorem walk {l : PySem.W.OpenLaw} {q : Program} {loose : List Str} {XP : (Str → Option Value) → Heap → Prop} {YP : World → Heap → Prop} {d : DefRec} {K : Params → PySem.W.Frag} (hn : l.most = some 63) (hdf : d.params.defaults = [])
    (hY : ∀ (w : World) (h : Heap), YP w h → (K w.params).In h) (hTb : ∀ (w : World) (h : Heap), YP w h → PySem.W.TabsAt [(744, 740), (758, 754)] h) (hTK : ∀ w : World, ∀ p ∈ ([(744, 740), (758, 754)] : List (Addr × Addr)), (K w.params).lookup p.2 = none)
    (F : ∀ (w : World) (mg : Str → Option Value) (fa : Addr) (h : Heap), (K w.params).In h → h.Ns mainGlobals mg → mg d.name = some (.ref fa) →
      ∃ fd : FuncData, (∀ (s : Shared) (u : Value), BindsTo s fd ⟨[u], []⟩ [("_law_script", u)]) ∧ ∀ base : Heap, (K w.params).In base → base.Ns mainGlobals mg → (∀ q ∈ ([(744, 740), (758, 754)] : List (Addr × Addr)), base.BuiltinsAt mg q.2) → FnOk l.prog w (K w.params) mg base CX0 10 fa fd ["_law_script"] (spLaw (K w.params) [⟨740, pos_PiecedRow_stretch_at, "PiecedRow.stretch_at.<locals>.<lambda>"⟩, ⟨754, pos_PiecedRow_pieces_to, "PiecedRow.pieces_to.<locals>.<lambda>"⟩])) :
    PySem.W.WalkO q loose XP YP l.row.toRowW d [] (fun f vs => PySem.call f vs) :=
  L2.walk_ofT2 (n := 63) (k := 10) (x := "_law_script") (tabs := [(744, 740), (758, 754)]) (CX := fun _ => CX0) (sp := fun w => (spLaw (K w.params) [⟨740, pos_PiecedRow_stretch_at, "PiecedRow.stretch_at.<locals>.<lambda>"⟩, ⟨754, pos_PiecedRow_pieces_to, "PiecedRow.pieces_to.<locals>.<lambda>"⟩])) hn (by decide) hdf ⟨rfl, by decide, by decide⟩ hY hTb hTK F (fun _ _ a ns hl hO hS => ⟨a, ns, rfl, hS, hl, ⟨List.forall_mem_cons.mpr ⟨⟨#[], hO (744, 740) (by simp), trivial, .inl rfl⟩, List.forall_mem_cons.mpr ⟨⟨#[], hO (758, 754) (by simp), trivial, .inl rfl⟩, fun _ h => nomatch h⟩⟩, by decide⟩, fun _ => rfl⟩) fun _ _ _ _ _ z => z
end TK
noncomputable def PySem.W.Fast.tw10531706094804835900 : PySem.Program := PySem.Challenge.pw_tightwood_k72_pieces_in_form
theorem PySem.W.Fast.te10531706094804835900 : PySem.Challenge.pw_tightwood_k72_pieces_in_form = PySem.W.Fast.tw10531706094804835900 := rfl
def HD.loose : List PySem.Str := [PySem.Str.ofString "_wall", PySem.Str.ofString "WoodError", PySem.Str.ofString "NoPlace", PySem.Str.ofString "NoRow", PySem.Str.ofString "NoWood", PySem.Str.ofString "NoKnot", PySem.Str.ofString "is_whole", PySem.Str.ofString "is_within", PySem.Str.ofString "check_place", PySem.Str.ofString "check_from_nought", PySem.Str.ofString "check_knot", PySem.Str.ofString "first_that", PySem.Str.ofString "running_sums", PySem.Str.ofString "heights_of", PySem.Str.ofString "check_height", PySem.Str.ofString "Heights", PySem.Str.ofString "MOST_SIGNS_pairs", PySem.Str.ofString "check_row", PySem.Str.ofString "MOST_KNOTS", PySem.Str.ofString "MOST_SIGNS_woods", PySem.Str.ofString "look_at", PySem.Str.ofString "row_of", PySem.Str.ofString "elders_of", PySem.Str.ofString "depths_of", PySem.Str.ofString "Wood", PySem.Str.ofString "Openings", PySem.Str.ofString "PIECE_SIGNS", PySem.Str.ofString "ENOUGH_SIGNS", PySem.Str.ofString "sums_of", PySem.Str.ofString "pieces_of", PySem.Str.ofString "Piece", PySem.Str.ofString "PiecedRow", PySem.Str.ofString "Shaped", PySem.Str.ofString "_law_cell_at", PySem.Str.ofString "_law_whole", PySem.Str.ofString "_law_mixed", PySem.Str.ofString "_law_digits", PySem.Str.ofString "_law_wood", PySem.Str.ofString "_law_large", PySem.Str.ofString "_law_row", PySem.Str.ofString "_law_sums", PySem.Str.ofString "_law_good"]
def HD.LD : PySem.DefRec := HD.recOf (PySem.Challenge.pw_tightwood_k72_pieces_in_form.main.body.getD 52 (.Pass ⟨0, 0, 0, 0⟩))
def HD.VQ : PySem.Program := PySem.W.view PySem.Challenge.pw_tightwood_k72_pieces_in_form [52]
theorem HD.A_ok (w : PySem.World) : (fun os => HD.oneA (HD.bootT w os) (PySem.W.boot_heap w.params) HD.bootSize PySem.Challenge.pw_tightwood_k72_pieces_in_form 100000 w) = (fun _ => some true) := by rw [HD.oneA_eq]; kernel_rfl
theorem HD.B_ok (w : PySem.World) : (fun os => HD.oneB (HD.bootT w os) HD.bootSize PySem.Challenge.pw_tightwood_k72_pieces_in_form HD.VQ HD.loose 100000 w) = (fun _ => some (PySem.W.openGood HD.VQ HD.loose)) := by rw [HD.oneB_eq]; kernel_rfl
local macro_rules | `(tactic| o_head $H) => `(tactic| (refine PySem.W.holds_open (q := HD.VQ) (loose := HD.loose) (d := HD.LD) (kwd := []) (Xt := fun _ => true) (XP := fun _ _ => True) (Yf := PySem.W.Hook.obs $H) (Ya := PySem.W.Hook.val $H) (YP := PySem.W.Hook.says $H) (N := 100000) (HD.left_of3 (p := PySem.Challenge.pw_tightwood_k72_pieces_in_form) (q := HD.VQ) (loose := HD.loose) (Yf := PySem.W.Hook.obs $H) (Ya := PySem.W.Hook.val $H) (N := 100000) (M := 100000) (by kernel_rfl) (fun _ => by kernel_rfl) (by kernel_rfl) (by kernel_rfl) HD.A_ok HD.B_ok (HD.hC_km (fun w => by rw [HD.oneP_eq]; kernel_rfl))) (PySem.W.Hook.of $H) (PySem.W.Hook.keeps $H) (fun _ _ => trivial) (fun _ _ _ _ _ => trivial) (by kernel_rfl) (by kernel_rfl) (by kernel_rfl) (fun _ _ => PySem.W.recFacts_nil rfl) rfl (by assumption) (by decide +kernel) ⟨rfl, rfl, rfl, rfl, rfl, by decide +kernel⟩ ?_ ?_))
open PySem PySem.W PyProof.Rows
set_option maxRecDepth 100000 in
set_option maxHeartbeats 0 in
theorem PySem.Challenge.cw_tightwood_k72_pieces_in_form_holds : PySem.Challenge.rw_tightwood_k72_pieces_in_form.Holds := by
  w_on; o_law; k_head
  · w_witness2
  k_fill
  refine TK.walk (l := PySem.Challenge.rw_tightwood_k72_pieces_in_form) rfl (by kernel_rfl) (fun w h Y => PySem.W.km_in_of Y) (fun w h Y => List.forall_mem_cons.mpr ⟨⟨PySem.W.codeHd_of_K (c := 744) (P := 740) (PySem.W.km_in_of Y) (by kernel_rfl), PySem.W.km_tabs_of Y 740 (by simp)⟩, List.forall_mem_cons.mpr ⟨⟨PySem.W.codeHd_of_K (c := 758) (P := 754) (PySem.W.km_in_of Y) (by kernel_rfl), PySem.W.km_tabs_of Y 754 (by simp)⟩, fun _ h => nomatch h⟩⟩) (fun w => List.forall_mem_cons.mpr ⟨by kernel_rfl, List.forall_mem_cons.mpr ⟨by kernel_rfl, fun _ h => nomatch h⟩⟩) ?F
  case F =>
    intro w mg fa h KX G hmg
    refine' TK.all_mk KX G hmg ?a_Piece ?pg_Piece ?hd_Piece ?po_Piece ?sa_Piece ?mk_Piece ?kc_Piece ?n_Piece_signs ?n_Piece_kept_sums ?n_Piece_greatest ?n_Piece_often_least ?a_PiecedRow ?pg_PiecedRow ?hd_PiecedRow ?po_PiecedRow ?sa_PiecedRow ?mk_PiecedRow ?kc_PiecedRow ?n_PiecedRow_kept_pieces ?n_PiecedRow_begins ?n_PiecedRow_knots_ahead ?n_PiecedRow_length ?n_PiecedRow_kept_table ?n_PiecedRow_often_least ?a_Shaped ?pg_Shaped ?hd_Shaped ?po_Shaped ?sa_Shaped ?mk_Shaped ?kc_Shaped ?n_Shaped_pairs ?n_Shaped_earlier ?a_Heights ?bg_Heights ?br_Heights ?a_Openings ?bg_Openings ?br_Openings ?a0 ?l0 ?c0 ?k0 ?a1 ?l1 ?c1 ?k1 ?a2 ?l2 ?c2 ?k2 ?a3 ?l3 ?c3 ?k3 ?a4 ?l4 ?c4 ?k4 ?i5 ?a5 ?l5 ?c5 ?k5 ?i6 ?a6 ?l6 ?c6 ?k6 ?a7 ?l7 ?c7 ?k7 ?a8 ?l8 ?c8 ?k8 ?a9 ?l9 ?c9 ?k9 ?a10 ?l10 ?c10 ?k10 ?a11 ?l11 ?c11 ?k11 ?i12 ?a12 ?l12 ?c12 ?k12 ?i13 ?a13 ?l13 ?c13 ?k13 ?i14 ?a14 ?l14 ?c14 ?k14 ?a15 ?l15 ?c15 ?k15 ?i16 ?a16 ?l16 ?c16 ?k16 ?i17 ?a17 ?l17 ?c17 ?k17 ?lc17 ?hc17 ?i18 ?a18 ?l18 ?c18 ?k18 ?lc18 ?hc18 ?i19 ?a19 ?l19 ?c19 ?k19 ?i20 ?a20 ?l20 ?c20 ?k20 ?i21 ?a21 ?l21 ?c21 ?k21 ?i22 ?a22 ?l22 ?c22 ?k22 ?i23 ?a23 ?l23 ?c23 ?k23 ?i24 ?a24 ?l24 ?c24 ?k24 ?i25 ?a25 ?l25 ?c25 ?k25 ?a26 ?l26 ?c26 ?k26 ?a27 ?l27 ?c27 ?k27 ?a28 ?l28 ?c28 ?k28 ?a29 ?l29 ?c29 ?k29 ?a30 ?l30 ?c30 ?k30 ?a31 ?l31 ?c31 ?k31 ?a32 ?l32 ?c32 ?k32 ?a33 ?l33 ?c33 ?k33 ?a34 ?l34 ?c34 ?k34 ?a35 ?l35 ?c35 ?k35 ?g_MOST_KNOTS ?g_MOST_SIGNS_pairs ?g_MOST_SIGNS_woods ?g_PIECE_SIGNS ?z_range ?z_len ?z_int ?z_bool ?z_str ?z_isinstance ?z_list ?z_tuple ?z_zip ?z_enumerate ?z_abs ?z_max ?z_min ?eg_Wood ?ca_Shaped ?sp_Shaped ?tk_Shaped ?mo_Shaped ?kit_Shaped_Wood
    (case eg_Wood => k_is)
    (case a_Piece => k_is)
    (case pg_Piece => k_is)
    (case hd_Piece => k_is)
    (case po_Piece => k_is)
    (case sa_Piece => k_is)
    (case mk_Piece => k_is)
    (case kc_Piece => k_is)
    (case n_Piece_signs => k_is)
    (case n_Piece_kept_sums => k_is)
    (case n_Piece_greatest => k_is)
    (case n_Piece_often_least => k_is)
    (case a_PiecedRow => k_is)
    (case pg_PiecedRow => k_is)
    (case hd_PiecedRow => k_is)
    (case po_PiecedRow => k_is)
    (case sa_PiecedRow => k_is)
    (case mk_PiecedRow => k_is)
    (case kc_PiecedRow => k_is)
    (case n_PiecedRow_kept_pieces => k_is)
    (case n_PiecedRow_begins => k_is)
    (case n_PiecedRow_knots_ahead => k_is)
    (case n_PiecedRow_length => k_is)
    (case n_PiecedRow_kept_table => k_is)
    (case n_PiecedRow_often_least => k_is)
    (case a_Shaped => k_is)
    (case pg_Shaped => k_is)
    (case hd_Shaped => k_is)
    (case po_Shaped => k_is)
    (case sa_Shaped => k_is)
    (case mk_Shaped => k_is)
    (case kc_Shaped => k_is)
    (case n_Shaped_pairs => k_is)
    (case n_Shaped_earlier => k_is)
    (case a_Heights => k_is)
    (case bg_Heights => k_is)
    (case br_Heights => k_is)
    (case a_Openings => k_is)
    (case bg_Openings => k_is)
    (case br_Openings => k_is)
    (case a0 => k_is)
    (case l0 => k_is)
    (case c0 => k_is)
    (case k0 => k_is)
    (case a1 => k_is)
    (case l1 => k_is)
    (case c1 => k_is)
    (case k1 => k_is)
    (case a2 => k_is)
    (case l2 => k_is)
    (case c2 => k_is)
    (case k2 => k_is)
    (case a3 => k_is)
    (case l3 => k_is)
    (case c3 => k_is)
    (case k3 => k_is)
    (case a4 => k_is)
    (case l4 => k_is)
    (case c4 => k_is)
    (case k4 => k_is)
    (case a5 => k_is)
    (case l5 => k_is)
    (case c5 => k_is)
    (case k5 => k_is)
    (case i5 => k_is)
    (case a6 => k_is)
    (case l6 => k_is)
    (case c6 => k_is)
    (case k6 => k_is)
    (case i6 => k_is)
    (case a7 => k_is)
    (case l7 => k_is)
    (case c7 => k_is)
    (case k7 => k_is)
    (case a8 => k_is)
    (case l8 => k_is)
    (case c8 => k_is)
    (case k8 => k_is)
    (case a9 => k_is)
    (case l9 => k_is)
    (case c9 => k_is)
    (case k9 => k_is)
    (case a10 => k_is)
    (case l10 => k_is)
    (case c10 => k_is)
    (case k10 => k_is)
    (case a11 => k_is)
    (case l11 => k_is)
    (case c11 => k_is)
    (case k11 => k_is)
    (case a12 => k_is)
    (case l12 => k_is)
    (case c12 => k_is)
    (case k12 => k_is)
    (case i12 => k_is)
    (case a13 => k_is)
    (case l13 => k_is)
    (case c13 => k_is)
    (case k13 => k_is)
    (case i13 => k_is)
    (case a14 => k_is)
    (case l14 => k_is)
    (case c14 => k_is)
    (case k14 => k_is)
    (case i14 => k_is)
    (case a15 => k_is)
    (case l15 => k_is)
    (case c15 => k_is)
    (case k15 => k_is)
    (case a16 => k_is)
    (case l16 => k_is)
    (case c16 => k_is)
    (case k16 => k_is)
    (case i16 => k_is)
    (case a17 => k_is)
    (case l17 => k_is)
    (case c17 => k_is)
    (case k17 => k_is)
    (case i17 => k_is)
    (case lc17 => k_is)
    (case hc17 => exact ⟨_, _, _, _, _, _, _, _, rfl, rfl, rfl, rfl, rfl, rfl, rfl, rfl, by decide⟩)
    (case a18 => k_is)
    (case l18 => k_is)
    (case c18 => k_is)
    (case k18 => k_is)
    (case i18 => k_is)
    (case lc18 => k_is)
    (case hc18 => exact ⟨_, _, _, _, _, _, _, _, rfl, rfl, rfl, rfl, rfl, rfl, rfl, rfl, by decide⟩)
    (case a19 => k_is)
    (case l19 => k_is)
    (case c19 => k_is)
    (case k19 => k_is)
    (case i19 => k_is)
    (case a20 => k_is)
    (case l20 => k_is)
    (case c20 => k_is)
    (case k20 => k_is)
    (case i20 => k_is)
    (case a21 => k_is)
    (case l21 => k_is)
    (case c21 => k_is)
    (case k21 => k_is)
    (case i21 => k_is)
    (case a22 => k_is)
    (case l22 => k_is)
    (case c22 => k_is)
    (case k22 => k_is)
    (case i22 => k_is)
    (case a23 => k_is)
    (case l23 => k_is)
    (case c23 => k_is)
    (case k23 => k_is)
    (case i23 => k_is)
    (case a24 => k_is)
    (case l24 => k_is)
    (case c24 => k_is)
    (case k24 => k_is)
    (case i24 => k_is)
    (case a25 => k_is)
    (case l25 => k_is)
    (case c25 => k_is)
    (case k25 => k_is)
    (case i25 => k_is)
    (case a26 => k_is)
    (case l26 => k_is)
    (case c26 => k_is)
    (case k26 => k_is)
    (case a27 => k_is)
    (case l27 => k_is)
    (case c27 => k_is)
    (case k27 => k_is)
    (case a28 => k_is)
    (case l28 => k_is)
    (case c28 => k_is)
    (case k28 => k_is)
    (case a29 => k_is)
    (case l29 => k_is)
    (case c29 => k_is)
    (case k29 => k_is)
    (case a30 => k_is)
    (case l30 => k_is)
    (case c30 => k_is)
    (case k30 => k_is)
    (case a31 => k_is)
    (case l31 => k_is)
    (case c31 => k_is)
    (case k31 => k_is)
    (case a32 => k_is)
    (case l32 => k_is)
    (case c32 => k_is)
    (case k32 => k_is)
    (case a33 => k_is)
    (case l33 => k_is)
    (case c33 => k_is)
    (case k33 => k_is)
    (case a34 => k_is)
    (case l34 => k_is)
    (case c34 => k_is)
    (case k34 => k_is)
    (case a35 => k_is)
    (case l35 => k_is)
    (case c35 => k_is)
    (case k35 => k_is)
    (case g_MOST_KNOTS => k_is)
    (case g_MOST_SIGNS_pairs => k_is)
    (case g_MOST_SIGNS_woods => k_is)
    (case g_PIECE_SIGNS => k_is)
    (case z_range => k_is)
    (case z_len => k_is)
    (case z_int => k_is)
    (case z_bool => k_is)
    (case z_str => k_is)
    (case z_isinstance => k_is)
    (case z_list => k_is)
    (case z_tuple => k_is)
    (case z_zip => k_is)
    (case z_enumerate => k_is)
    (case z_abs => k_is)
    (case z_max => k_is)
    (case z_min => k_is)
    (case ca_Shaped => k_is)
    (case sp_Shaped => k_is)
    (case tk_Shaped => k_is)
    (case mo_Shaped => k_is)
    (case kit_Shaped_Wood => kit_is)
#print axioms PySem.Challenge.cw_tightwood_k72_pieces_in_form_holds
