import PyProof.Rows.All
import Wide.All
import OpenK.AllK
import Wide.FinOn
import Lean
import PyProof.EqAt
import PyProof.EqKinds
import PyProof.TupleCall
import KE.KDictOf
import KE.KNestM
import KE.KRevIter
import KE.KTryMore
import OpenK.KCls
import PyProof.AttrMissHeap
import PyProof.Draws
import PyProof.EnumMake
import PyProof.EnumStmt
import PyProof.FactsAll.list
import PyProof.InstStoreFacts
import PyProof.IsiH_list
import PyProof.ListNew
import PyProof.ListRange
import PyProof.ObjNew
import PyProof.Rows.SeqMore
import PyProof.Rows.StrItems
import PyProof.Rows.StrSplitAre
import PyProof.SliceList
import PyProof.StrCalls2
import PyProof.TupleIter
import PyProof.WalksEnum
import PyProof.ZipIter
import PySem.Challenge.RW_tightwood_k26_tables_of_heights
set_option Elab.async false
set_option linter.all false
set_option maxRecDepth 100000
set_option maxHeartbeats 4000000
namespace L2
open PySem PySem.Spec PyProof.Rows
abbrev Key := Sum Int Str
def keyIs : Key → Value → Bool
 | .inl k, v => Value.isInt k v
 | .inr x, v => Value.isStrOf x v
def keyH (w : World) : Key → Int
 | .inl k => hashInt k
 | .inr x => hashStr w x
theorem keyIs_shape : ∀ {k : Key} {v : Value}, keyIs k v = true → (∃ i t, k = Sum.inl i ∧ v = Value.int i t) ∨ (∃ x t, k = Sum.inr x ∧ v = Value.str x t)
 | .inl i, v, h => by
  obtain ⟨t, e⟩ := Value.isInt_shape (k := i) (v := v) h
  exact .inl ⟨i, t, rfl, e⟩
 | .inr x, v, h => by
  obtain ⟨t, e⟩ := Value.isStrOf_shape (x := x) (v := v) h
  exact .inr ⟨x, t, rfl, e⟩
theorem keyIs_int (i : Int) (t : Tok) : keyIs (.inl i) (.int i t) = true := by simp [keyIs, Value.isInt]
theorem key_ll (a b : Int) : decide ((Sum.inl a : Key) = Sum.inl b) = (a == b) := by
 by_cases e : a = b
 ·subst e; simp
 ·have h : ¬ (Sum.inl a : Key) = Sum.inl b := fun q => e (Sum.inl.inj q)
  rw [decide_eq_false h]
  exact (beq_eq_false_iff_ne.mpr e).symm
theorem key_rr (a b : Str) : decide ((Sum.inr a : Key) = Sum.inr b) = decide (a = b) := by
 by_cases e : a = b
 ·subst e; simp
 ·have h : ¬ (Sum.inr a : Key) = Sum.inr b := fun q => e (Sum.inr.inj q)
  rw [decide_eq_false h, decide_eq_false e]
theorem key_lr (a : Int) (b : Str) : decide ((Sum.inl a : Key) = Sum.inr b) = false := decide_eq_false (fun q => nomatch q)
theorem key_rl (a : Str) (b : Int) : decide ((Sum.inr a : Key) = Sum.inl b) = false := decide_eq_false (fun q => nomatch q)
def mixKind (prog : Program) (w : World) : PySem.KeyKind prog w Key where
 is := keyIs
 hash := keyH w
 inj := fun v a b ha hb => by
  rcases keyIs_shape ha with ⟨i, t, rfl, rfl⟩ | ⟨x, t, rfl, rfl⟩
  ·rcases keyIs_shape hb with ⟨j, u, rfl, e⟩ | ⟨y, u, rfl, e⟩
   ·injection e with e1 _; rw [e1]
   ·exact nomatch e
  ·rcases keyIs_shape hb with ⟨j, u, rfl, e⟩ | ⟨y, u, rfl, e⟩
   ·exact nomatch e
   ·injection e with e1 _; rw [e1]
 byValue := fun k v h => by
  rcases keyIs_shape h with ⟨i, t, rfl, rfl⟩ | ⟨x, t, rfl, rfl⟩ <;> rfl
 pyHash := fun hv h => by
  rcases keyIs_shape hv with ⟨i, t, rfl, rfl⟩ | ⟨x, t, rfl, rfl⟩
  ·exact wpAny_pyHash_int h
  ·exact wpAny_pyHash_str h
 eqBool := fun hu hv h => by
  rcases keyIs_shape hu with ⟨i, t, rfl, rfl⟩ | ⟨x, t, rfl, rfl⟩
  ·rcases keyIs_shape hv with ⟨j, u, rfl, rfl⟩ | ⟨y, u, rfl, rfl⟩
   ·rw [key_ll] at h; exact wpAny_eqBool_int h
   ·rw [key_lr] at h; exact SeqAt.EqAt.int_str i t y u _ _ _ _ h
  ·rcases keyIs_shape hv with ⟨j, u, rfl, rfl⟩ | ⟨y, u, rfl, rfl⟩
   ·rw [key_rl] at h; exact SeqAt.EqAt.str_int x t j u _ _ _ _ h
   ·rw [key_rr] at h; exact wpAny_eqBool_str h
 «strs» := fun k x t v h => by
  rcases keyIs_shape h with ⟨i, u, rfl, e⟩ | ⟨y, u, rfl, e⟩
  ·exact nomatch e
  ·injection e with e1 _
   subst e1
   cases v <;> rfl
theorem mixKind_int (prog : Program) (w : World) (i : Int) (t : Tok) : (mixKind prog w).is (.inl i) (.int i t) = true := keyIs_int i t
end L2
namespace L2
open PySem PySem.Spec PyProof.Rows
inductive V where
 | non | bl (b : Bool) | int (i : Int) | str (x : Str) | byt (b : Array UInt8) | flt (b : UInt64) | ref (a : Addr) | ty (n : String)
 deriving DecidableEq
def RelV : V → Value → Prop
 | .non, u => u = Value.none
 | .bl b, u => u = Value.bool b
 | .int i, u => ∃ t, u = Value.int i t
 | .str x, u => ∃ t, u = Value.str x t
 | .byt b, u => ∃ t, u = Value.bytes b t
 | .flt b, u => ∃ t, u = Value.float b t
 | .ref a, u => u = Value.ref a
 | .ty n, u => u = Value.type n
abbrev Vals : List V → List Value → Prop := Paired RelV
theorem Vals.length {xs : List V} {us : List Value} (r : Vals xs us) : xs.length = us.length := Paired.length r
theorem Vals.get : ∀ {xs : List V} {us : List Value} {i : Nat} {x : V}, Vals xs us → xs[i]? = some x → ∃ u, us[i]? = some u ∧ RelV x u
 | _, _, _, _, .nil, e => by simp at e
 | _, _, 0, _, .cons r _, e => by simp at e; subst e; exact ⟨_, rfl, r⟩
 | _, _, i + 1, x, .cons _ t, e => by
  obtain ⟨u, h1, h2⟩ := Vals.get (i := i) (x := x) t (by simpa using e)
  exact ⟨u, by simpa using h1, h2⟩
theorem Vals.set {x : V} {u : Value} (r : RelV x u) : ∀ {xs : List V} {us : List Value} (i : Nat), Vals xs us → Vals (xs.set i x) (us.set i u)
 | _, _, _, .nil => .nil
 | _, _, 0, .cons _ t => .cons r t
 | _, _, i + 1, .cons q t => .cons q (Vals.set r i t)
theorem Vals.append : ∀ {xs ys : List V} {us ws : List Value}, Vals xs us → Vals ys ws → Vals (xs ++ ys) (us ++ ws)
 | _, _, _, _, .nil, s => s
 | _, _, _, _, .cons r t, s => .cons r (Vals.append t s)
theorem Vals.take : ∀ {xs : List V} {us : List Value} (n : Nat), Vals xs us → Vals (xs.take n) (us.take n)
 | _, _, 0, _ => .nil
 | _, _, _ + 1, .nil => .nil
 | _, _, n + 1, .cons r t => .cons r (Vals.take n t)
theorem Vals.drop : ∀ {xs : List V} {us : List Value} (n : Nat), Vals xs us → Vals (xs.drop n) (us.drop n)
 | _, _, 0, r => r
 | _, _, _ + 1, .nil => .nil
 | _, _, n + 1, .cons _ t => Vals.drop n t
def RelO : Option V → Option Value → Prop
 | some v, some u => RelV v u
 | none, none => True
 | _, _ => False
def KV {κ : Type} : List (κ × V) → List (κ × Value) → Prop := Paired fun (p : κ × V) (q : κ × Value) => p.1 = q.1 ∧ RelV p.2 q.2
def kV : Key → V
 | .inl i => .int i
 | .inr x => .str x
inductive HO where
  | lst (xs : List V)
  | tup (xs : List V)
  | dK (kvs : List (Key × V)) | dT (kvs : List (List Key × V))
  | set (S : Int → Bool) (n : Nat)
  | ins (C dx : Addr) (fs : List (Str × V))
  | own (x : Addr)
  | xd (fs : List (Str × V))
  | met (f x : Addr)
  | rng (lo hi : Int)
  | frz (o : Obj) (u : HO)
  | tbl (ps : Array Value)
  | ext (φ : Heap → Prop)
abbrev Hp := Addr → Option HO
def upd (H : Hp) (a : Addr) (o : HO) : Hp := fun b => if b = a then some o else H b
theorem upd_same {H : Hp} {a : Addr} {o : HO} : upd H a o a = some o := by unfold upd; rw [if_pos rfl]
theorem upd_ne {H : Hp} {a b : Addr} {o : HO} (h : b ≠ a) : upd H a o b = H b := by unfold upd; rw [if_neg h]
theorem upd_upd {H : Hp} {a : Addr} {o u : HO} : upd (upd H a o) a u = upd H a u := by
 funext b; unfold upd; split <;> rfl
theorem ne_of {H : Hp} {a b : Addr} {o u : HO} (h : H a = some o) (h' : H b = some u) (d : o ≠ u) : a ≠ b := by
 intro e; subst e; rw [h] at h'; exact d (Option.some.inj h')
theorem ne_of_none {H : Hp} {a b : Addr} {o : HO} (h : H a = some o) (h' : H b = none) : a ≠ b := by
 intro e; subst e; rw [h] at h'; cases h'
section
variable (P : Program) (w : World)
def ObjOk (H : Hp) (h : Heap) (a : Addr) : HO → Prop
 | .lst xs => xs.length ≤ sizeLine ∧ ∃ (its : List Value) (n : Nat), Vals xs its ∧ h.get? a = some { cls := .type "list", data := .seq its.toArray n }
 | .tup xs => xs.length ≤ sizeLine ∧ ∃ its : List Value, Vals xs its ∧ IsTup h a its.toArray
 | .dK kvs => kvs.length ≤ sizeLine ∧ (a == sysModules) = false ∧ ∃ vs, KV kvs vs ∧ h.DictOf (mixKind P w) a vs
 | .dT kvs => kvs.length ≤ sizeLine ∧ (a == sysModules) = false ∧ ∃ xs : List (List Key × Addr × Value),
   Paired (fun (p : List Key × V) (q : List Key × Addr × Value) => p.1 = q.1 ∧ H q.2.1 = some (.tup (p.1.map kV)) ∧ RelV p.2 q.2.2) kvs xs ∧
   ∃ o es ep, h.get? a = some o ∧ o.ExactDict ∧ o.data = .dict es ep ∧ es.toList = xs.map (entryOfKey (tupleKind (mixKind P w))) ∧ (xs.map (·.1)).Nodup
 | .set S n => h.SetOf (intKind P w) a S n
 | .ins C dx fs => H dx = some (.own a) ∧ fs.length ≤ 1000 ∧ dx ≠ a ∧ h.get? a = some (PySem.W.instObj C dx) ∧
   ∃ mA, h.Ns1 dx mA ∧ (∀ f, RelO (fs.lookup f) (mA f)) ∧ PySem.Within mA (fs.map (·.1))
 | .own _ => ∃ o, h.get? a = some o
 | .xd fs => ∃ mA, h.Ns1 a mA ∧ ∀ f, RelO (fs.lookup f) (mA f)
 | .rng lo hi => ∃ t u v, h.get? a = some { cls := .type "range", data := .fields #[.int lo t, .int hi u, .int 1 v] }
 | .frz o u => h.get? a = some o ∧ ObjOk H h a u
 | .tbl ps => h.get? a = some { cls := .none, data := .fields ps }
 | .met f x => h.get? a = some (PySem.W.methodObj (.ref f) (.ref x))
 | .ext φ => φ h ∧ (∃ o, h.get? a = some o) ∧ ∀ h1 h2 : Heap, φ h1 → (∀ o, h1.get? a = some o → h2.get? a = some o) → φ h2
def HOk (H : Hp) (h : Heap) : Prop := ∀ a o, H a = some o → ObjOk P w H h a o
end
section
variable {P : Program} {w : World} {H H' : Hp} {h h' : Heap} {a : Addr} {o : HO}
theorem ObjOk.lt (x : ObjOk P w H h a o) : a < h.objs.size := by
 cases o with
 | lst xs => obtain ⟨_, _, _, _, e⟩ := x; exact Heap.lt_size e
 | tup xs => obtain ⟨_, _, _, p⟩ := x; exact p.lt
 | dK kvs => obtain ⟨_, _, _, _, o, _, _, e, _⟩ := x; exact Heap.lt_size e
 | dT kvs => obtain ⟨_, _, _, _, o, _, _, e, _⟩ := x; exact Heap.lt_size e
 | set S n => obtain ⟨o, _, _, _, e, _⟩ := x; exact Heap.lt_size e
 | ins C dx fs => obtain ⟨_, _, _, e, _⟩ := x; exact Heap.lt_size e
 | own y => obtain ⟨_, e⟩ := x; exact Heap.lt_size e
 | xd fs => obtain ⟨_, ⟨_, _, _, e, _⟩, _⟩ := x; exact Heap.lt_size e
 | rng lo hi => obtain ⟨_, _, _, e⟩ := x; exact Heap.lt_size e
 | frz ob u => obtain ⟨e, _⟩ := x; exact Heap.lt_size e
 | tbl ps => exact Heap.lt_size (show h.get? a = some _ from x)
 | met f y => exact Heap.lt_size (show h.get? a = some _ from x)
 | ext φ => obtain ⟨_, ⟨_, e⟩, _⟩ := x; exact Heap.lt_size e
theorem Paired.mapP {α β : Type} {F G : α → β → Prop} : ∀ {l₁ : List α} {l₂ : List β}, Paired F l₁ l₂ → (∀ a b, F a b → G a b) → Paired G l₁ l₂
 | _, _, .nil, _ => .nil
 | _, _, .cons r t, f => .cons (f _ _ r) (Paired.mapP t f)
theorem ObjOk.stay (x : ObjOk P w H h a o) (k : ∀ b u, (b = a ∨ H b = some (.own a)) → h.get? b = some u → h'.get? b = some u)
  (ho : ∀ b, H b = some (.own a) → H' b = some (.own a)) (ht : ∀ b xs, H b = some (.tup xs) → H' b = some (.tup xs)) : ObjOk P w H' h' a o := by
 induction o with
 | lst xs => obtain ⟨z, its, n, r, e⟩ := x; exact ⟨z, its, n, r, k _ _ (.inl rfl) e⟩
 | tup xs => obtain ⟨z, its, r, ob, e, c⟩ := x; exact ⟨z, its, r, ob, k _ _ (.inl rfl) e, c⟩
 | dK kvs => obtain ⟨z, y, vs, r, ob, es, ep, e, c⟩ := x; exact ⟨z, y, vs, r, ob, es, ep, k _ _ (.inl rfl) e, c⟩
 | dT kvs =>
  obtain ⟨z, y, xs, r, ob, es, ep, e, c⟩ := x
  exact ⟨z, y, xs, Paired.mapP r fun p q z => ⟨z.1, ht _ _ z.2.1, z.2.2⟩, ob, es, ep, k _ _ (.inl rfl) e, c⟩
 | set S n => obtain ⟨ob, es, ep, t, e, c⟩ := x; exact ⟨ob, es, ep, t, k _ _ (.inl rfl) e, c⟩
 | ins C dx fs =>
  obtain ⟨d, z, ne, e, mA, ⟨od, es, ep, e2, c⟩, r⟩ := x
  exact ⟨ho _ d, z, ne, k _ _ (.inl rfl) e, mA, ⟨od, es, ep, k _ _ (.inr d) e2, c⟩, r⟩
 | own y => obtain ⟨ob, e⟩ := x; exact ⟨ob, k _ _ (.inl rfl) e⟩
 | xd fs => obtain ⟨mA, ⟨od, es, ep, e, c⟩, r⟩ := x; exact ⟨mA, ⟨od, es, ep, k _ _ (.inl rfl) e, c⟩, r⟩
 | rng lo hi => obtain ⟨t, u, v, e⟩ := x; exact ⟨t, u, v, k _ _ (.inl rfl) e⟩
 | frz ob u ih => obtain ⟨e, q⟩ := x; exact ⟨k _ _ (.inl rfl) e, ih q⟩
 | tbl ps =>
  have e : h.get? a = some { cls := .none, data := .fields ps } := x
  show h'.get? a = some { cls := .none, data := .fields ps }
  exact k a _ (.inl rfl) e
 | met f y =>
  have e : h.get? a = some (PySem.W.methodObj (.ref f) (.ref y)) := x
  show h'.get? a = some (PySem.W.methodObj (.ref f) (.ref y))
  exact k a _ (.inl rfl) e
 | ext φ => obtain ⟨p, ⟨o, e⟩, st⟩ := x; exact ⟨st _ _ p fun o q => k _ _ (.inl rfl) q, ⟨o, k _ _ (.inl rfl) e⟩, st⟩
theorem HOk.lt (x : HOk P w H h) (e : H a = some o) : a < h.objs.size := (x a o e).lt
theorem HOk.fresh (x : HOk P w H h) (e : h.objs.size ≤ a) : H a = none := by
 cases q : H a with
 | none => rfl
 | some u => exact absurd (Nat.lt_of_lt_of_le (x.lt q) e) (Nat.lt_irrefl _)
theorem HOk.kept (x : HOk P w H h) (k : ∀ b u, h.get? b = some u → h'.get? b = some u) : HOk P w H h' := fun a o e =>
 (x a o e).stay (fun b u _ q => k b u q) (fun _ q => q) fun _ _ q => q
theorem HOk.laid (x : HOk P w H h) (k : ∀ b u, h.get? b = some u → h'.get? b = some u) (hp : h.objs.size ≤ a) (new : ObjOk P w (upd H a o) h' a o) : HOk P w (upd H a o) h' := fun b u e => by
 have hn := x.fresh hp
 by_cases hb : b = a
 ·subst hb; rw [upd_same] at e; cases e; exact new
 ·rw [upd_ne hb] at e
  exact (x b u e).stay (fun c v _ q => k c v q) (fun c q => by rw [upd_ne (ne_of_none q hn)]; exact q) fun c xs q => by rw [upd_ne (ne_of_none q hn)]; exact q
end
def Rd (H : Hp) (a : Addr) (u : HO) : Prop := H a = some u ∨ ∃ o, H a = some (.frz o u)
theorem Rd.ok {P : Program} {w : World} {H : Hp} {h : Heap} {a : Addr} {u : HO} (r : Rd H a u) (x : HOk P w H h) : ObjOk P w H h a u := by
 rcases r with r | ⟨o, r⟩
 ·exact x a u r
 ·obtain ⟨_, q⟩ := x a _ r
  exact q
def Mut : Option HO → Prop
 | some (.lst _) => True
 | some (.dK _) => True
 | some (.dT _) => True
 | some (.set _ _) => True
 | some (.ins _ _ _) => True
 | some (.ext _) => True
 | _ => False
section
variable {P : Program} {w : World} {H : Hp} {h h' : Heap} {x e : Addr} {o' : HO}
theorem HOk.write (ok : HOk P w H h) (mu : Mut (H x)) (he : e = x ∨ H e = some (.own x)) (k : ∀ b u, b ≠ e → h.get? b = some u → h'.get? b = some u) (heo : ∃ u, h'.get? e = some u)
  (new : ObjOk P w (upd H x o') h' x o') : HOk P w (upd H x o') h' := fun b u q => by
 have nown : ∀ c y, H c = some (.own y) → c ≠ x := fun c y r z => by subst z; rw [r] at mu; exact mu
 have ntup : ∀ c xs, H c = some (.tup xs) → c ≠ x := fun c xs r z => by subst z; rw [r] at mu; exact mu
 by_cases hb : b = x
 ·subst hb; rw [upd_same] at q; cases q; exact new
 ·rw [upd_ne hb] at q
  by_cases hbe : b = e
  ·have q' : H b = some (.own x) := by
    rcases he with z | z
    ·exact absurd (hbe.trans z) hb
    ·rw [hbe]; exact z
   rw [q] at q'; cases q'
   obtain ⟨v, hv⟩ := heo
   exact ⟨v, by rw [hbe]; exact hv⟩
  ·refine (ok b u q).stay (fun c v hc r => k c v ?_ r) (fun c r => by rw [upd_ne (nown c b r)]; exact r) fun c xs r => by rw [upd_ne (ntup c xs r)]; exact r
   rcases hc with rfl | hc
   ·exact hbe
   ·rintro rfl
    rcases he with z | z
    ·exact nown c b hc z
    ·rw [hc] at z; cases z; exact hb rfl
end
structure Un (fs ex : List Addr) (H H' : Hp) (h h' : Heap) : Prop where
 keep : ∀ b o, h.get? b = some o → H b = none → b ∉ fs → b ∉ ex → h'.get? b = some o
 slot : ∀ b o, h.get? b = some o → H b = none → b ∈ fs → b ∉ ex → ∃ sl, h'.get? b = some { o with slots := sl }
 free : ∀ b o, h.get? b = some o → H b = none → b ∉ ex → H' b = none
 there : ∀ b o, h.get? b = some o → b ∉ ex → ∃ o', h'.get? b = some o'
 tups : ∀ b xs, H b = some (.tup xs) → H' b = some (.tup xs)
 frzs : ∀ b o u, H b = some (.frz o u) → H' b = some (.frz o u)
 tbls : ∀ b ps, H b = some (.tbl ps) → ∃ more, H' b = some (.tbl (ps ++ more))
section
variable {fs fs' ex ex' : List Addr} {H H1 H2 : Hp} {h h1 h2 h' : Heap} {a x e : Addr} {o : HO}
theorem Un.any (u : Un fs ex H H1 h h1) {b : Addr} {ob : Obj} (q : h.get? b = some ob) (n : H b = none) (hx : b ∉ ex) : ∃ sl, h1.get? b = some { ob with slots := sl } := by
 by_cases hb : b ∈ fs
 ·exact u.slot b ob q n hb hx
 ·exact ⟨ob.slots, u.keep b ob q n hb hx⟩
theorem Un.trans (a : Un fs ex H H1 h h1) (b : Un fs ex H1 H2 h1 h2) : Un fs ex H H2 h h2 where
 keep := fun c ob q n hc hx => b.keep c ob (a.keep c ob q n hc hx) (a.free c ob q n hx) hc hx
 slot := fun c ob q n hc hx => by
  obtain ⟨sl, e1⟩ := a.slot c ob q n hc hx
  obtain ⟨sl', e2⟩ := b.slot c _ e1 (a.free c ob q n hx) hc hx
  exact ⟨sl', e2⟩
 free := fun c ob q n hx => by
  obtain ⟨o', e1⟩ := a.there c ob q hx
  exact b.free c o' e1 (a.free c ob q n hx) hx
 there := fun c ob q hx => by
  obtain ⟨o', e1⟩ := a.there c ob q hx
  exact b.there c o' e1 hx
 tups := fun c xs q => b.tups c xs (a.tups c xs q)
 frzs := fun c ob xs q => b.frzs c ob xs (a.frzs c ob xs q)
 tbls := fun c ps q => by
  obtain ⟨m1, e1⟩ := a.tbls c ps q
  obtain ⟨m2, e2⟩ := b.tbls c _ e1
  exact ⟨m1 ++ m2, by rw [e2, Array.append_assoc]⟩
theorem Un.kept (k : ∀ b u, h.get? b = some u → h'.get? b = some u) : Un fs ex H H h h' :=
 ⟨fun b ob q _ _ _ => k b ob q, fun b ob q _ _ _ => ⟨ob.slots, k b ob q⟩, fun _ _ _ n _ => n, fun b ob q _ => ⟨ob, k b ob q⟩, fun _ _ q => q, fun _ _ _ q => q, fun _ ps q => ⟨#[], by rw [q]; simp⟩⟩
theorem Un.refl : Un fs ex H H h h := Un.kept fun _ _ q => q
theorem Un.laid (k : ∀ b u, h.get? b = some u → h'.get? b = some u) (hp : h.objs.size ≤ a) (hn : H a = none) : Un fs ex H (upd H a o) h h' where
 keep := fun b u q _ _ _ => k b u q
 slot := fun b u q _ _ _ => ⟨u.slots, k b u q⟩
 free := fun b u q n _ => by rw [upd_ne (Nat.ne_of_lt (Nat.lt_of_lt_of_le (Heap.lt_size q) hp))]; exact n
 there := fun b u q _ => ⟨u, k b u q⟩
 tups := fun b xs q => by rw [upd_ne (ne_of_none q hn)]; exact q
 frzs := fun b u xs q => by rw [upd_ne (ne_of_none q hn)]; exact q
 tbls := fun b ps q => ⟨#[], by rw [upd_ne (ne_of_none q hn), q]; simp⟩
theorem Un.write (mu : Mut (H x)) (he : e = x ∨ H e = some (.own x)) (k : ∀ b u, b ≠ e → h.get? b = some u → h'.get? b = some u) (heo : ∃ u, h'.get? e = some u) : Un fs ex H (upd H x o) h h' := by
 have hx : ∀ b, H b = none → b ≠ x := fun b n z => by subst z; rw [n] at mu; exact mu
 have hb : ∀ b, H b = none → b ≠ e := fun b n z => by
  subst z
  rcases he with r | r
  ·exact hx b n r
  ·rw [n] at r; cases r
 have hm : ∀ b u, H b = some u → ¬ Mut (some u) → b ≠ x := fun b u q nm z => by subst z; rw [q] at mu; exact nm mu
 refine ⟨fun b u q n _ _ => k b u (hb b n) q, fun b u q n _ _ => ⟨u.slots, k b u (hb b n) q⟩, fun b u q n _ => by rw [upd_ne (hx b n)]; exact n, fun b u q _ => ?_,
  fun b xs q => by rw [upd_ne (hm b _ q fun z => z)]; exact q, fun b u xs q => by rw [upd_ne (hm b _ q fun z => z)]; exact q, fun b ps q => ⟨#[], by rw [upd_ne (hm b _ q fun z => z), q]; simp⟩⟩
 by_cases hbe : b = e
 ·subst hbe; exact heo
 ·exact ⟨u, k b u hbe q⟩
end
def trk (h : Heap) (H : Hp) : List Addr := (List.range h.objs.size).filter fun a => (H a).isSome
def hidT (h : Heap) (H : Hp) : Heap := PySem.W.hideAll h (trk h H)
theorem hidT_size (h : Heap) (H : Hp) : (hidT h H).objs.size = h.objs.size := PySem.W.hideAll_size _ _
theorem hidT_get {h : Heap} {H : Hp} {b : Addr} {o : Obj} (e : h.get? b = some o) (n : H b = none) : (hidT h H).get? b = some o :=
 PySem.W.hideAll_get _ e fun hm => by
  have q : (H b).isSome = true := (List.mem_filter.mp hm).2
  rw [n] at q; simp at q
theorem of_hidT {h : Heap} {H : Hp} {b : Addr} {o : Obj} (e : (hidT h H).get? b = some o) : h.get? b = some o ∧ H b = none := by
 have e' : h.get? b = some o := PySem.W.of_hideAll (trk h H) e
 refine ⟨e', ?_⟩
 cases q : H b with
 | none => rfl
 | some x =>
  have hm : b ∈ trk h H := List.mem_filter.mpr ⟨List.mem_range.mpr (Heap.lt_size e'), by simp [q]⟩
  have z : (hidT h H).get? b = none := PySem.W.hideAll_none (trk h H) hm
  rw [z] at e; cases e
end L2
namespace L2
open PySem PySem.Spec PyProof.Rows
structure Mod (K : PySem.W.Frag) (mg : Str → Option Value) (base : Heap) : Prop where
 kin : K.In base
 glob : base.Ns mainGlobals mg
 blt : ∃ mb, base.Ns builtinsNs mb ∧ ∀ x : Str, x ≠ "__name__" → mb x = bootBuiltins x
 nolimit : base.NoLimit
structure Cx where
 prog : Program
 w : World
 K : PySem.W.Frag
 mg : Str → Option Value
 base : Heap
 A : Around
 N : List Str
 s₀ : Shared
 H₀ : Hp
 env : Env
 outer : List Env
 stack : List Env
 ex : List Addr
 fn : Str → Bool
 calm : Bool
 pn : List (Addr × Obj)
 xe : Value → Shared → Prop
def frs (l : List Env) : List Addr := l.filterMap (·.frame)
abbrev Cx.fs (X : Cx) : List Addr := frs X.outer
def Vis (sc : Scope) (x : Str) : Prop := sc.names.lookup x = some .local ∨ sc.names.lookup x = some .cell ∨ sc.names.lookup x = some .free
def Loc (sc : Scope) (x : Str) : Prop := sc.names.lookup x = some .local ∨ sc.names.lookup x = some .cell
def Look (env : Env) (h : Heap) (m : Str → Option Value) (x : Str) (u : Value) : Prop :=
 (env.kindOf x = some .local ∧ m x = some u) ∨ ((env.kindOf x = some .cell ∨ env.kindOf x = some .free) ∧ ∃ c, env.cells.lookup x = some c ∧ h.IsCell c (some u))
structure Cx.Ok (X : Cx) : Prop where
 mod : Mod X.K X.mg X.base
 kind : X.env.scope.kind = .function
 glob : X.env.globals = mainGlobals
 blt : X.env.builtins = builtinsNs
 above : X.s₀.heap.objs.size ≤ X.env.locals
 inj : ∀ x y c, X.env.cells.lookup x = some c → X.env.cells.lookup y = some c → x = y
 has : ∀ x, (X.env.kindOf x = some .cell ∨ X.env.kindOf x = some .free) → ∃ c, X.env.cells.lookup x = some c
 cab : ∀ x c, X.fn x = true → X.env.cells.lookup x = some c → X.s₀.heap.objs.size ≤ c
 hd : X.calm = true → X.A.handled = none
 frames : X.A.frames = some X.stack
 stk : X.stack = X.outer ∨ (X.stack = X.env :: X.outer ∧ X.env.frame = some X.env.locals)
 exf : ∀ b ∈ X.ex, b ≠ X.env.locals ∧ ∀ x c, X.env.cells.lookup x = some c → c ≠ b
 bs : ∀ b o, X.base.get? b = some o → X.s₀.heap.get? b = some o ∧ X.H₀ b = none
 bsz : X.base.objs.size ≤ X.s₀.heap.objs.size
 noex : ∀ b o, X.base.get? b = some o → b ∉ X.ex
 exfs : ∀ b ∈ X.ex, b ∉ X.fs
 funs : X.s₀.heap.FunFrames X.base X.outer
 frf : ∀ b ∈ X.fs, X.H₀ b = none
structure Inv (X : Cx) (pins : List (Addr × Obj)) (σ : List (Option V)) (H : Hp) (s : Shared) : Prop where
 ok : X.Ok
 os : s.os = X.s₀.os
 bare : AllBare s.gens
 base : Un X.fs X.ex X.H₀ H X.s₀.heap s.heap
 loc : ∃ m, s.heap.Ns X.env.locals m ∧ ∀ (i : Nat) (x : Str) (v : V), X.N[i]? = some x → σ[i]? = some (some v) → Vis X.env.scope x → ∃ u, RelV v u ∧ Look X.env s.heap m x u
 cell : ∀ x c, X.env.cells.lookup x = some c → ∃ v, s.heap.IsCell c v
 free : H X.env.locals = none
 freeC : ∀ x c, X.env.cells.lookup x = some c → H c = none
 pin : ∀ p ∈ X.pn ++ pins, s.heap.get? p.1 = some p.2 ∧ H p.1 = none ∧ p.1 ≠ X.env.locals ∧ p.1 ∉ X.fs ∧ ∀ v, p.2.data ≠ .cell v
 hok : HOk X.prog X.w H s.heap
 len : σ.length = X.N.length
section
variable {X : Cx} {pins : List (Addr × Obj)} {σ : List (Option V)} {H H' : Hp} {s : Shared} {h' : Heap}
theorem Cx.Ok.nofr (ok : X.Ok) {b : Addr} {o : Obj} (e : X.base.get? b = some o) : b ∉ X.fs := fun hb => by
 have := (ok.funs.mem hb).1
 rw [e] at this; cases this
theorem Inv.bs (I : Inv X pins σ H s) : ∀ b o, X.base.get? b = some o → s.heap.get? b = some o ∧ H b = none := fun b o e =>
 ⟨I.base.keep b o (I.ok.bs b o e).1 (I.ok.bs b o e).2 (I.ok.nofr e) (I.ok.noex b o e), I.base.free b o (I.ok.bs b o e).1 (I.ok.bs b o e).2 (I.ok.noex b o e)⟩
theorem Inv.bk (I : Inv X pins σ H s) : ∀ b o, X.base.get? b = some o → s.heap.get? b = some o := fun b o e => (I.bs b o e).1
theorem Inv.mod (I : Inv X pins σ H s) : Mod X.K X.mg X.base := I.ok.mod
theorem Inv.kIn (I : Inv X pins σ H s) : X.K.In s.heap := I.ok.mod.kin.keeps I.bk
theorem Inv.nolimit (I : Inv X pins σ H s) : s.heap.NoLimit := I.ok.mod.nolimit.keeps I.bk
theorem Inv.fr (I : Inv X pins σ H s) : ∃ m, Fr X.base X.env.locals s.heap m :=
 let ⟨m, hn, _⟩ := I.loc
 ⟨m, hn, I.bk, Nat.le_trans I.ok.bsz I.ok.above⟩
theorem Inv.lt (I : Inv X pins σ H s) : X.env.locals < s.heap.objs.size := let ⟨_, hn, _⟩ := I.loc; hn.lt
theorem Inv.sz (I : Inv X pins σ H s) : X.s₀.heap.objs.size ≤ s.heap.objs.size := Nat.le_trans I.ok.above (Nat.le_of_lt I.lt)
theorem Inv.nofs (I : Inv X pins σ H s) {a : Addr} (h : s.heap.objs.size ≤ a) : a ∉ X.fs := fun hb => by
 obtain ⟨_, o, ho, _⟩ := I.ok.funs.mem hb
 exact absurd (Nat.lt_of_lt_of_le (Heap.lt_size ho) (Nat.le_trans I.sz h)) (Nat.lt_irrefl _)
theorem Inv.cne (I : Inv X pins σ H s) : ∀ x c, X.env.cells.lookup x = some c → c ≠ X.env.locals := fun x c e z => by
 obtain ⟨v, o, ho, hd⟩ := I.cell x c e
 obtain ⟨m, ⟨o', es, ep, ho', hd', _⟩, _⟩ := I.loc
 rw [z, ho'] at ho; cases ho; rw [hd'] at hd; cases hd
theorem Inv.funs (I : Inv X pins σ H s) : s.heap.FunFrames X.base X.outer := by
 have all : ∀ (l : List Env), (∀ b ∈ frs l, b ∈ X.fs) → X.s₀.heap.FunFrames X.base l → s.heap.FunFrames X.base l := by
  intro l
  induction l with
  | nil => intro _ _; trivial
  | cons env r ih =>
   intro hs hl
   obtain ⟨hk, ⟨L, o, hf, hn, ho, hd⟩, hr⟩ := hl
   have hL : L ∈ X.fs := hs L (by unfold frs; rw [List.filterMap_cons, hf]; exact List.mem_cons_self)
   obtain ⟨sl, e⟩ := I.base.slot L o ho (I.ok.frf L hL) hL fun z => I.ok.exfs L z hL
   exact ⟨hk, ⟨L, _, hf, hn, e, hd⟩, ih (fun b hb => hs b (by unfold frs; rw [List.filterMap_cons, hf]; exact List.mem_cons_of_mem _ hb)) hr⟩
 exact all X.outer (fun _ hb => hb) I.ok.funs
theorem Inv.stack (I : Inv X pins σ H s) : s.heap.FunFrames X.base X.stack := by
 rcases I.ok.stk with e | ⟨e, hf⟩
 ·rw [e]; exact I.funs
 ·rw [e]
  obtain ⟨m, hn, _⟩ := I.loc
  refine .cons (by rw [I.ok.kind]; decide) hf hn ?_ I.funs
  exact Heap.get?_none_of_le (Nat.le_trans I.ok.bsz I.ok.above)
theorem Inv.stkSub (I : Inv X pins σ H s) : ∀ b ∈ frs X.stack, b ∈ X.env.locals :: X.fs := fun b hb => by
 rcases I.ok.stk with e | ⟨e, hf⟩
 ·rw [e] at hb; exact List.mem_cons_of_mem _ hb
 ·rw [e] at hb
  unfold frs at hb
  rw [List.filterMap_cons, hf] at hb
  exact hb
theorem Inv.stkFree (I : Inv X pins σ H s) : ∀ b ∈ frs X.stack, H b = none := fun b hb => by
 rcases List.mem_cons.mp (I.stkSub b hb) with e | hb
 ·rw [e]; exact I.free
 ·obtain ⟨_, o, ho, _⟩ := I.ok.funs.mem hb
  exact I.base.free b o ho (I.ok.frf b hb) fun z => I.ok.exfs b z hb
theorem Inv.step {g' : Array GenState} {t' : Nat} {d' : Drawn} {ch : List Addr} (I : Inv X pins σ H s)
  (hch : ∀ b ∈ ch, (b ∈ X.ex ∨ X.s₀.heap.objs.size ≤ b) ∧ b ≠ X.env.locals ∧ (∀ x c, X.env.cells.lookup x = some c → c ≠ b) ∧ ∀ p ∈ X.pn ++ pins, p.1 ≠ b)
  (keep : ∀ b o, b ≠ X.env.locals → b ∉ X.fs → b ∉ ch → s.heap.get? b = some o → H b = none → h'.get? b = some o)
  (slot : ∀ b o, b ≠ X.env.locals → b ∈ X.fs → b ∉ ch → s.heap.get? b = some o → H b = none → ∃ sl, h'.get? b = some { o with slots := sl }) (free : ∀ b o, b ∉ ch → s.heap.get? b = some o → H b = none → H' b = none)
  (there : ∀ b o, b ∉ ch → s.heap.get? b = some o → ∃ o', h'.get? b = some o')
  (tups : ∀ b xs, H b = some (.tup xs) → H' b = some (.tup xs)) (frzs : ∀ b o u, H b = some (.frz o u) → H' b = some (.frz o u)) (tbls : ∀ b ps, H b = some (.tbl ps) → ∃ more, H' b = some (.tbl (ps ++ more)))
  (ns : ∀ m, s.heap.Ns X.env.locals m → h'.Ns X.env.locals m) (hok : HOk X.prog X.w H' h') (hg : AllBare g') :
  Inv X pins σ H' { s with heap := h', gens := g', drawn := d', toks := t' } := by
 have neL : ∀ b o, X.s₀.heap.get? b = some o → b ≠ X.env.locals := fun b o e => Nat.ne_of_lt (Nat.lt_of_lt_of_le (Heap.lt_size e) I.ok.above)
 have neC : ∀ b o, X.s₀.heap.get? b = some o → b ∉ X.ex → b ∉ ch := fun b o e hx hb => by
  rcases (hch b hb).1 with z | z
  ·exact hx z
  ·exact absurd (Nat.lt_of_lt_of_le (Heap.lt_size e) z) (Nat.lt_irrefl _)
 have cellK : ∀ x c, X.env.cells.lookup x = some c → ∀ v, s.heap.IsCell c v → h'.IsCell c v := fun x c e v ⟨o, ho, hd⟩ => by
  have nch : c ∉ ch := fun z => (hch c z).2.2.1 x c e rfl
  by_cases hc : c ∈ X.fs
  ·obtain ⟨sl, q⟩ := slot c o (I.cne x c e) hc nch ho (I.freeC x c e)
   exact ⟨_, q, hd⟩
  ·exact ⟨o, keep c o (I.cne x c e) hc nch ho (I.freeC x c e), hd⟩
 refine ⟨I.ok, I.os, hg, ⟨fun b o e n hb hx => ?_, fun b o e n hb hx => ?_, fun b o e n hx => ?_, fun b o e hx => ?_, fun b xs e => tups b xs (I.base.tups b xs e), fun b o xs e => frzs b o xs (I.base.frzs b o xs e), fun b ps e => ?_⟩, ?_, fun x c e => ?_, ?_, fun x c e => ?_, fun p hp => ?_, hok, I.len⟩
 ·exact keep b o (neL b o e) hb (neC b o e hx) (I.base.keep b o e n hb hx) (I.base.free b o e n hx)
 ·obtain ⟨sl, e1⟩ := I.base.slot b o e n hb hx
  obtain ⟨sl', e2⟩ := slot b _ (neL b o e) hb (neC b o e hx) e1 (I.base.free b o e n hx)
  exact ⟨sl', e2⟩
 ·obtain ⟨o', e1⟩ := I.base.there b o e hx
  exact free b o' (neC b o e hx) e1 (I.base.free b o e n hx)
 ·obtain ⟨o', e1⟩ := I.base.there b o e hx
  exact there b o' (neC b o e hx) e1
 ·obtain ⟨m1, e1⟩ := I.base.tbls b ps e
  obtain ⟨m2, e2⟩ := tbls b _ e1
  exact ⟨m1 ++ m2, by rw [e2, Array.append_assoc]⟩
 ·obtain ⟨m, hn, hl⟩ := I.loc
  refine ⟨m, ns m hn, fun i x v e1 e2 e3 => ?_⟩
  obtain ⟨u, r, l⟩ := hl i x v e1 e2 e3
  refine ⟨u, r, ?_⟩
  rcases l with l | ⟨k, c, e, z⟩
  ·exact .inl l
  ·exact .inr ⟨k, c, e, cellK x c e _ z⟩
 ·obtain ⟨v, z⟩ := I.cell x c e
  exact ⟨v, cellK x c e v z⟩
 ·obtain ⟨m, ⟨o, _, _, ho, _⟩, _⟩ := I.loc
  exact free _ o (fun z => (hch _ z).2.1 rfl) ho I.free
 ·obtain ⟨v, o, ho, hd⟩ := I.cell x c e
  exact free c o (fun z => (hch c z).2.2.1 x c e rfl) ho (I.freeC x c e)
 ·obtain ⟨e, n, ne, nf, d⟩ := I.pin p hp
  have nch : p.1 ∉ ch := fun z => (hch p.1 z).2.2.2 p hp rfl
  exact ⟨keep p.1 p.2 ne nf nch e n, free p.1 p.2 nch e n, ne, nf, d⟩
theorem Inv.un {t' : Nat} (I : Inv X pins σ H s) (u : Un X.fs [] H H' s.heap h') (hok : HOk X.prog X.w H' h') : Inv X pins σ H' { s with heap := h', toks := t' } := by
 obtain ⟨m, ⟨o, es, ep, ho, r⟩, _⟩ := id I.loc
 obtain ⟨sl, hL⟩ := u.any ho I.free (by simp)
 exact I.step (g' := s.gens) (d' := s.drawn) (ch := []) (fun _ z => nomatch z) (fun b o _ hb _ e n => u.keep b o e n hb (by simp)) (fun b o _ hb _ e n => u.slot b o e n hb (by simp)) (fun b o _ e n => u.free b o e n (by simp)) (fun b o _ e => u.there b o e (by simp)) u.tups u.frzs u.tbls (fun m' hm => by
  obtain ⟨o', es', ep', ho', r'⟩ := hm
  rw [ho] at ho'; cases ho'
  exact ⟨_, es', ep', hL, r'⟩) hok I.bare
theorem Inv.call {g' : Array GenState} {t' : Nat} {d' : Drawn} {ch : List Addr} (I : Inv X pins σ H s) (u : Un (frs X.stack) ch H H' s.heap h') (hok : HOk X.prog X.w H' h') (hg : AllBare g')
  (hch : ∀ b ∈ ch, (b ∈ X.ex ∨ X.s₀.heap.objs.size ≤ b) ∧ b ≠ X.env.locals ∧ (∀ x c, X.env.cells.lookup x = some c → c ≠ b) ∧ ∀ p ∈ X.pn ++ pins, p.1 ≠ b) :
  Inv X pins σ H' { s with heap := h', gens := g', drawn := d', toks := t' } := by
 obtain ⟨m, ⟨o, es, ep, ho, r⟩, _⟩ := id I.loc
 obtain ⟨sl, hL⟩ := u.any ho I.free fun z => (hch _ z).2.1 rfl
 exact I.step (ch := ch) hch (fun b o hL hb hc e n => u.keep b o e n (fun z => (List.mem_cons.mp (I.stkSub b z)).elim hL hb) hc) (fun b o _ _ hc e n => u.any e n hc) (fun b o hc e n => u.free b o e n hc) (fun b o hc e => u.there b o e hc) u.tups u.frzs u.tbls (fun m' hm => by
  obtain ⟨o', es', ep', ho', r'⟩ := hm
  rw [ho] at ho'; cases ho'
  exact ⟨_, es', ep', hL, r'⟩) hok hg
theorem Inv.turned {t' : Nat} {it : Addr} (I : Inv X pins σ H s) (k : ∀ b o, b ≠ it → s.heap.get? b = some o → h'.get? b = some o) (hn : H it = none) (hL : it ≠ X.env.locals)
  (h1 : it ∈ X.ex ∨ X.s₀.heap.objs.size ≤ it) (h2 : ∀ x c, X.env.cells.lookup x = some c → c ≠ it) (h3 : ∀ p ∈ X.pn ++ pins, p.1 ≠ it) : Inv X pins σ H { s with heap := h', toks := t' } := by
 have nit : ∀ b u, H b = some u → b ≠ it := fun b u e z => by rw [z, hn] at e; cases e
 refine I.step (g' := s.gens) (d' := s.drawn) (ch := [it]) (fun b hb => ?_) (fun b o _ _ hc e _ => k b o (fun z => hc (by simp [z])) e) (fun b o _ _ hc e _ => ⟨o.slots, k b o (fun z => hc (by simp [z])) e⟩) (fun _ _ _ _ n => n)
  (fun b o hc e => ⟨o, k b o (fun z => hc (by simp [z])) e⟩) (fun _ _ e => e) (fun _ _ _ e => e) (fun b ps e => ⟨#[], by rw [e]; simp⟩) (fun m hm => ?_) (fun b u e => ?_) I.bare
 ·have e : b = it := by simpa using hb
  subst e
  exact ⟨h1, hL, h2, h3⟩
 ·obtain ⟨o, es, ep, ho, r⟩ := hm
  exact ⟨o, es, ep, k _ o (Ne.symm hL) ho, r⟩
 ·refine (I.hok b u e).stay (fun c v hc q => k c v ?_ q) (fun _ q => q) fun _ _ q => q
  rcases hc with z | z
  ·rw [z]; exact nit b u e
  ·exact nit c _ z
theorem Inv.tok (I : Inv X pins σ H s) (t : Nat) : Inv X pins σ H { s with toks := t } := I.un (h' := s.heap) (t' := t) Un.refl I.hok
theorem Inv.kept {t' : Nat} (I : Inv X pins σ H s) (k : ∀ b u, s.heap.get? b = some u → h'.get? b = some u) : Inv X pins σ H { s with heap := h', toks := t' } := I.un (Un.kept k) (I.hok.kept k)
theorem Inv.laid {a : Addr} {o : HO} {t' : Nat} (I : Inv X pins σ H s) (k : ∀ b u, s.heap.get? b = some u → h'.get? b = some u) (hp : s.heap.objs.size ≤ a) (new : ObjOk X.prog X.w (upd H a o) h' a o) :
  Inv X pins σ (upd H a o) { s with heap := h', toks := t' } := I.un (Un.laid k hp (I.hok.fresh hp)) (I.hok.laid k hp new)
theorem Inv.write {x e : Addr} {o : HO} {t' : Nat} (I : Inv X pins σ H s) (mu : Mut (H x)) (he : e = x ∨ H e = some (.own x)) (k : ∀ b u, b ≠ e → s.heap.get? b = some u → h'.get? b = some u) (heo : ∃ u, h'.get? e = some u)
  (new : ObjOk X.prog X.w (upd H x o) h' x o) : Inv X pins σ (upd H x o) { s with heap := h', toks := t' } := I.un (Un.write mu he k heo) (I.hok.write mu he k heo new)
theorem Inv.weak {σ' : List (Option V)} (I : Inv X pins σ H s) (hl : σ'.length = σ.length) (w : ∀ (i : Nat) v, σ'[i]? = some (some v) → σ[i]? = some (some v)) : Inv X pins σ' H s :=
 ⟨I.ok, I.os, I.bare, I.base, let ⟨m, hn, hl'⟩ := I.loc; ⟨m, hn, fun i x v e1 e2 e3 => hl' i x v e1 (w i v e2) e3⟩, I.cell, I.free, I.freeC, I.pin, I.hok, hl.trans I.len⟩
theorem Inv.pins_of {pins' : List (Addr × Obj)} (I : Inv X pins σ H s) (h : ∀ p ∈ pins', s.heap.get? p.1 = some p.2 ∧ H p.1 = none ∧ p.1 ≠ X.env.locals ∧ p.1 ∉ X.fs ∧ ∀ v, p.2.data ≠ .cell v) : Inv X pins' σ H s :=
 ⟨I.ok, I.os, I.bare, I.base, I.loc, I.cell, I.free, I.freeC, fun p hp => (List.mem_append.mp hp).elim (fun z => I.pin p (List.mem_append_left _ z)) (h p), I.hok, I.len⟩
theorem nodup_ix {N : List Str} (hN : N.Nodup) {i j : Nat} {x : Str} (a : N[i]? = some x) (b : N[j]? = some x) : i = j := by
 obtain ⟨h1, e1⟩ := List.getElem?_eq_some_iff.mp a
 obtain ⟨h2, e2⟩ := List.getElem?_eq_some_iff.mp b
 exact (List.getElem_inj hN).mp (e1.trans e2.symm)
theorem store_ok2 {M : Model} {A : Around} {E : Value → Shared → Prop} {i : Nat} {x : Str} {v : V} {u : Value} {Q : Unit → Shared → Prop} (I : Inv X pins σ H s) (hN : X.N.Nodup) (hi : X.N[i]? = some x) (hx : Loc X.env.scope x) (r : RelV v u)
  (h : ∀ s', Inv X pins (σ.set i (some v)) H s' → (∃ a, Heap.SameBut a s.heap s'.heap ∧ (a = X.env.locals ∨ X.env.cells.lookup x = some a)) → Q () s') (hf : X.fn x = true ∨ X.env.scope.names.lookup x = some .local := by first | exact .inl rfl | exact .inr rfl | assumption) : wpAny M A (storeName X.env x u) Q E s := by
 obtain ⟨m, hn, hl⟩ := id I.loc
 have hcls : (X.env.scope.kind == .class || (X.env.scope.kind == .module && X.env.locals != X.env.globals)) = false := by rw [I.ok.kind]; rfl
 have hiσ : i < σ.length := by rw [I.len]; exact (List.getElem?_eq_some_iff.mp hi).1
 have cne := I.cne
 have tracked : ∀ {a : Addr} {h' : Heap}, (∃ o, s.heap.get? a = some o ∧ H a = none) → Heap.SameBut a s.heap h' → HOk X.prog X.w H h' := fun {a h'} ha hs b ob e => by
  obtain ⟨_, _, hfree⟩ := ha
  refine (I.hok b ob e).stay (fun c w' hc q => (hs.2 c ?_).trans q) (fun _ q => q) fun _ _ q => q
  rintro rfl
  rcases hc with rfl | hc
  ·rw [hfree] at e; cases e
  ·rw [hfree] at hc; cases hc
 rcases hx with hk | hk
 ·refine wpAny_storeName_local hk hn (fun h' hn' hs => ?_) hcls
  obtain ⟨oL, _, _, hoL, _⟩ := id hn
  refine h _ ⟨I.ok, I.os, I.bare, ⟨fun b o e n hb hx => ?_, fun b o e n hb hx => ?_, I.base.free, fun b o e hx => ?_, I.base.tups, I.base.frzs, I.base.tbls⟩, ⟨_, hn', fun j y v' e1 e2 e3 => ?_⟩, fun y c e => ?_, I.free, I.freeC, fun p hp => ?_, tracked ⟨oL, hoL, I.free⟩ hs, by simpa using I.len⟩ ⟨_, hs, .inl rfl⟩
  ·exact (hs.2 b (Nat.ne_of_lt (Nat.lt_of_lt_of_le (Heap.lt_size e) I.ok.above))).trans (I.base.keep b o e n hb hx)
  ·obtain ⟨sl, e1⟩ := I.base.slot b o e n hb hx
   exact ⟨sl, (hs.2 b (Nat.ne_of_lt (Nat.lt_of_lt_of_le (Heap.lt_size e) I.ok.above))).trans e1⟩
  ·obtain ⟨o', e1⟩ := I.base.there b o e hx
   exact ⟨o', (hs.2 b (Nat.ne_of_lt (Nat.lt_of_lt_of_le (Heap.lt_size e) I.ok.above))).trans e1⟩
  ·by_cases hj : j = i
   ·subst hj
    rw [hi] at e1; cases e1
    rw [List.getElem?_set_self hiσ] at e2
    cases e2
    exact ⟨u, r, .inl ⟨hk, by simp⟩⟩
   ·rw [List.getElem?_set_ne (Ne.symm hj)] at e2
    obtain ⟨u', r', q⟩ := hl j y v' e1 e2 e3
    refine ⟨u', r', ?_⟩
    rcases q with ⟨k, e⟩ | ⟨k, c, e, z⟩
    ·refine .inl ⟨k, ?_⟩
     have : y ≠ x := fun e => hj (nodup_ix hN e1 (e ▸ hi))
     simp [this, e]
    ·exact .inr ⟨k, c, e, z.sameBut hs (cne y c e)⟩
  ·obtain ⟨w', z⟩ := I.cell y c e
   exact ⟨w', z.sameBut hs (cne y c e)⟩
  ·obtain ⟨e, n, ne, nf, d⟩ := I.pin p hp
   exact ⟨(hs.2 p.1 ne).trans e, n, ne, nf, d⟩
 ·have hfn : X.fn x = true := by
   rcases hf with z | z
   ·exact z
   ·rw [z] at hk; cases hk
  obtain ⟨c, hc⟩ := I.ok.has x (.inl hk)
  obtain ⟨w', z⟩ := I.cell x c hc
  refine wpAny_storeName_cell I.ok.kind hk hc z (fun h' hc' hs => ?_)
  obtain ⟨oc, hoc, hocd⟩ := id z
  refine h { s with heap := h' } ⟨I.ok, I.os, I.bare, ⟨fun b o e n hb hx => ?_, fun b o e n hb hx => ?_, I.base.free, fun b o e hx => ?_, I.base.tups, I.base.frzs, I.base.tbls⟩, ⟨m, hn.sameBut hs (Ne.symm (cne x c hc)), fun j y v' e1 e2 e3 => ?_⟩, fun y c' e => ?_, I.free, I.freeC, fun p hp => ?_, tracked ⟨oc, hoc, I.freeC x c hc⟩ hs, by simpa using I.len⟩ ⟨c, hs, .inr hc⟩
  ·exact (hs.2 b (Nat.ne_of_lt (Nat.lt_of_lt_of_le (Heap.lt_size e) (I.ok.cab x c hfn hc)))).trans (I.base.keep b o e n hb hx)
  ·obtain ⟨sl, e1⟩ := I.base.slot b o e n hb hx
   exact ⟨sl, (hs.2 b (Nat.ne_of_lt (Nat.lt_of_lt_of_le (Heap.lt_size e) (I.ok.cab x c hfn hc)))).trans e1⟩
  ·obtain ⟨o', e1⟩ := I.base.there b o e hx
   exact ⟨o', (hs.2 b (Nat.ne_of_lt (Nat.lt_of_lt_of_le (Heap.lt_size e) (I.ok.cab x c hfn hc)))).trans e1⟩
  ·by_cases hj : j = i
   ·subst hj
    rw [hi] at e1; cases e1
    rw [List.getElem?_set_self hiσ] at e2
    cases e2
    exact ⟨u, r, .inr ⟨.inl hk, c, hc, hc'⟩⟩
   ·rw [List.getElem?_set_ne (Ne.symm hj)] at e2
    obtain ⟨u', r', q⟩ := hl j y v' e1 e2 e3
    refine ⟨u', r', ?_⟩
    rcases q with q | ⟨k, c', e, z'⟩
    ·exact .inl q
    ·refine .inr ⟨k, c', e, z'.sameBut hs ?_⟩
     rintro rfl
     exact hj (nodup_ix hN e1 (I.ok.inj _ _ _ e hc ▸ hi))
  ·by_cases hcc : c' = c
   ·subst hcc; exact ⟨_, hc'⟩
   ·obtain ⟨w2, z2⟩ := I.cell y c' e
    exact ⟨w2, z2.sameBut hs hcc⟩
  ·obtain ⟨e, n, ne, nf, d⟩ := I.pin p hp
   refine ⟨(hs.2 p.1 ?_).trans e, n, ne, nf, d⟩
   intro q
   rw [q, hoc] at e
   have q' : oc = p.2 := Option.some.inj e
   exact d w' (by rw [← q']; exact hocd)
theorem store_ok {M : Model} {A : Around} {E : Value → Shared → Prop} {i : Nat} {x : Str} {v : V} {u : Value} {Q : Unit → Shared → Prop} (I : Inv X pins σ H s) (hN : X.N.Nodup) (hi : X.N[i]? = some x) (hx : Loc X.env.scope x) (r : RelV v u)
  (h : ∀ s', Inv X pins (σ.set i (some v)) H s' → Q () s') (hf : X.fn x = true ∨ X.env.scope.names.lookup x = some .local := by first | exact .inl rfl | exact .inr rfl | assumption) : wpAny M A (storeName X.env x u) Q E s :=
 store_ok2 I hN hi hx r (fun s' I' _ => h s' I') hf
theorem Inv.call' {s' : Shared} {ch : List Addr} (I : Inv X pins σ H s) (ho : s'.os = s.os) (u : Un (frs X.stack) ch H H' s.heap s'.heap) (hok : HOk X.prog X.w H' s'.heap) (hg : AllBare s'.gens)
  (hch : ∀ b ∈ ch, (b ∈ X.ex ∨ X.s₀.heap.objs.size ≤ b) ∧ b ≠ X.env.locals ∧ (∀ x c, X.env.cells.lookup x = some c → c ≠ b) ∧ ∀ p ∈ X.pn ++ pins, p.1 ≠ b) : Inv X pins σ H' s' := by
 obtain ⟨h', g', d', t', o'⟩ := s'
 have e : o' = s.os := ho
 subst e
 exact I.call (g' := g') (t' := t') (d' := d') u hok hg hch
end
abbrev XK := Value → Option Addr → Hp → Prop
abbrev St := List (Option V)
abbrev VK := V → Hp → Prop
abbrev TE := St → Hp → VK → Prop
abbrev TT := St → Hp → (Bool → Hp → Prop) → Prop
abbrev TA := St → Hp → (List V → Hp → Prop) → Prop
structure Ends where
 nx : St → Hp → Prop
 rt : VK
 bk : St → Hp → Prop := fun _ _ => False
 ct : St → Hp → Prop := fun _ _ => False
abbrev TS := Ends → St → Hp → Prop
def EP (X : Cx) (pins : List (Addr × Obj)) (σ : St) (Q : VK) (u : Value) (s' : Shared) : Prop := ∃ v H', Inv X pins σ H' s' ∧ RelV v u ∧ Q v H'
def TP (X : Cx) (pins : List (Addr × Obj)) (σ : St) (Q : Bool → Hp → Prop) (b : Bool) (s' : Shared) : Prop := ∃ H', Inv X pins σ H' s' ∧ Q b H'
def AP (X : Cx) (pins : List (Addr × Obj)) (σ : St) (Q : List V → Hp → Prop) (us : List Value) (s' : Shared) : Prop := ∃ vs H', Inv X pins σ H' s' ∧ Vals vs us ∧ Q vs H'
def SP (X : Cx) (pins : List (Addr × Obj)) (D : Ends) (f : Flow) (s' : Shared) : Prop :=
 match f with
 | .next => ∃ σ' H', Inv X pins σ' H' s' ∧ D.nx σ' H'
 | .brk => ∃ σ' H', Inv X pins σ' H' s' ∧ D.bk σ' H'
 | .cont => ∃ σ' H', Inv X pins σ' H' s' ∧ D.ct σ' H'
 | .ret u => ∃ v σ' H', Inv X pins σ' H' s' ∧ RelV v u ∧ D.rt v H'
def PE (X : Cx) (e : Expr) (t : TE) : Prop :=
 ∀ (pins : List (Addr × Obj)) (s : Shared) (σ : St) (H : Hp) (Q : VK), Inv X pins σ H s → t σ H Q → wpAny (model X.prog X.w) X.A (eval e X.env) (EP X pins σ Q) X.xe s
def PT (X : Cx) (e : Expr) (t : TT) : Prop :=
 ∀ (pins : List (Addr × Obj)) (s : Shared) (σ : St) (H : Hp) (Q : Bool → Hp → Prop), Inv X pins σ H s → t σ H Q → wpAny (model X.prog X.w) X.A (isTrue e X.env (eval e X.env)) (TP X pins σ Q) X.xe s
def PW (X : Cx) (e : Expr) (t : TT) : Prop :=
 ∀ (whole : Sem Value) (pins : List (Addr × Obj)) (s : Shared) (σ : St) (H : Hp) (Q : Bool → Hp → Prop), Inv X pins σ H s → t σ H Q → wpAny (model X.prog X.w) X.A (isTrue e X.env whole) (TP X pins σ Q) X.xe s
theorem PW.pt {X : Cx} {e : Expr} {t : TT} (h : PW X e t) : PT X e t := h _
def PA (X : Cx) (es : List Expr) (t : TA) : Prop :=
 ∀ (pos : Pos) (pins : List (Addr × Obj)) (s : Shared) (σ : St) (H : Hp) (Q : List V → Hp → Prop), Inv X pins σ H s → t σ H Q → wpAny (model X.prog X.w) X.A (spliced (backTo pos (starEach es X.env))) (AP X pins σ Q) X.xe s
def PS (X : Cx) (st : Stmt) (t : TS) : Prop :=
 ∀ (pins : List (Addr × Obj)) (s : Shared) (σ : St) (H : Hp) (D : Ends), Inv X pins σ H s → t D σ H → wpAny (model X.prog X.w) X.A (exec st X.env) (SP X pins D) X.xe s
def PSs (X : Cx) (st : List Stmt) (t : TS) : Prop :=
 ∀ (pins : List (Addr × Obj)) (s : Shared) (σ : St) (H : Hp) (D : Ends), Inv X pins σ H s → t D σ H → wpAny (model X.prog X.w) X.A (execs st X.env) (SP X pins D) X.xe s
theorem thn {α : Type} {t : Sem α} {Q Q' : α → Shared → Prop} {M : Model} {A : Around} {E : Value → Shared → Prop} {s : Shared} (h : wpAny M A t Q E s) (hQ : ∀ a s, Q a s → Q' a s) : wpAny M A t Q' E s := wpAny_mono h hQ fun _ _ x => x
end L2
namespace L2
open PySem PySem.Spec PyProof.Rows
section
variable {X : Cx}
theorem bin {a b : Expr} {ta tb : TE} (ha : PE X a ta) (hb : PE X b tb) {pins : List (Addr × Obj)} {s : Shared} {σ : St} {H : Hp} {R : V → V → Hp → Prop} (I : Inv X pins σ H s) (h : ta σ H fun x H1 => tb σ H1 fun y H2 => R x y H2)
  {α : Type} {Q : α → Shared → Prop} {f : Value → Value → Sem α}
  (hf : ∀ v u s2 x y H2, Inv X pins σ H2 s2 → RelV x v → RelV y u → R x y H2 → wpAny (model X.prog X.w) X.A (f v u) Q X.xe s2) :
  wpAny (model X.prog X.w) X.A (eval a X.env) (fun v s₁ => wpAny (model X.prog X.w) X.A (eval b X.env) (fun u s₂ => wpAny (model X.prog X.w) X.A (f v u) Q X.xe s₂) X.xe s₁) X.xe s := by
 refine thn (ha pins s σ H _ I h) fun v s1 ⟨x, H1, I1, r1, q1⟩ => ?_
 refine thn (hb pins s1 σ H1 _ I1 q1) fun u s2 ⟨y, H2, I2, r2, q2⟩ => ?_
 exact hf v u s2 x y H2 I2 r1 r2 q2
def tVar (i : Nat) : TE := fun σ H Q => ∃ v, σ[i]? = some (some v) ∧ Q v H
def tC (v : V) : TE := fun _ H Q => Q v H
theorem pe_var {i : Nat} {x : Str} {pos : Pos} (hN : X.N[i]? = some x) (hv : Vis X.env.scope x) (hd : (x == ("__debug__" : Str)) = false := by decide) (hcd : (x == ("__classdict__" : Str)) = false := by decide) : PE X (.Name x pos) (tVar i) := by
 intro pins s σ H Q I h
 obtain ⟨v, e, h⟩ := h
 obtain ⟨m, hn, hl⟩ := I.loc
 obtain ⟨u, r, l⟩ := hl i x v hN e hv
 have fin : EP X pins σ Q u s := ⟨v, H, I, r, h⟩
 rcases l with ⟨hk, hm⟩ | ⟨hk, c, hc, hcell⟩
 ·exact wpAny_Name (wpAny_loadName_local I.ok.kind hk hn hm fin) hd
 ·rcases hk with hk | hk
  ·exact wpAny_Name (wpAny_loadName_cell I.ok.kind hk hc hcell fin) hd
  ·exact wpAny_Name (wpAny_loadName_free I.ok.kind hk hc hcell fin hcd) hd
theorem pe_int {i j pos} : PE X (.Constant (.int i) j pos) (tC (.int i)) := fun _ _ _ H _ I h => wpAny_Constant_int ⟨.int i, H, I.tok _, ⟨_, rfl⟩, h⟩
theorem pe_bl {b j pos} : PE X (.Constant (.bool b) j pos) (tC (.bl b)) := fun _ _ _ H _ I h => Constant_bool ⟨.bl b, H, I, rfl, h⟩
theorem pe_non {j pos} : PE X (.Constant .none j pos) (tC .non) := fun _ _ _ H _ I h => Constant_none ⟨.non, H, I, rfl, h⟩
theorem pe_str {x j pos} : PE X (.Constant (.str x) j pos) (tC (.str x)) := fun _ _ _ H _ I h => Calls.Constant_str ⟨.str x, H, I.tok _, ⟨_, rfl⟩, h⟩
def Gl (X : Cx) (x : Str) : Prop := X.env.kindOf x = some .globalImplicit
theorem ld_glob {E : Value → Shared → Prop} {pins : List (Addr × Obj)} {s : Shared} {σ : St} {H : Hp} {x : Str} {u : Value} {pos : Pos} {Q : Value → Shared → Prop} (I : Inv X pins σ H s) (hg : Gl X x) (hm : X.mg x = some u) (h : Q u s)
  (hd : (x == ("__debug__" : Str)) = false := by decide) : wpAny (model X.prog X.w) X.A (eval (.Name x pos) X.env) Q E s :=
 Calls.Name_function_global I.ok.kind hg (Calls.loadGlobal_global (by rw [I.ok.glob]; exact I.mod.glob.keeps I.bk) hm h) hd
theorem ld_blt {E : Value → Shared → Prop} {pins : List (Addr × Obj)} {s : Shared} {σ : St} {H : Hp} {x : Str} {u : Value} {pos : Pos} {Q : Value → Shared → Prop} (I : Inv X pins σ H s) (hg : Gl X x) (hm : X.mg x = none) (hv : bootBuiltins x = some u) (h : Q u s)
  (hn : x ≠ "__name__" := by decide) (hd : (x == ("__debug__" : Str)) = false := by decide) : wpAny (model X.prog X.w) X.A (eval (.Name x pos) X.env) Q E s := by
 obtain ⟨mb, h1, h2⟩ := I.mod.blt
 exact Calls.Name_function_global I.ok.kind hg (Calls.loadGlobal_builtin (by rw [I.ok.glob]; exact I.mod.glob.keeps I.bk) hm (by rw [I.ok.blt]; exact h1.keeps I.bk) ((h2 x hn).trans hv) h) hd
theorem pe_glob {x : Str} {v : V} {u : Value} {pos : Pos} (hg : Gl X x) (hm : X.mg x = some u) (r : RelV v u) (hd : (x == ("__debug__" : Str)) = false := by decide) : PE X (.Name x pos) (tC v) :=
 fun _ _ _ H _ I h => ld_glob I hg hm ⟨v, H, I, r, h⟩ hd
theorem pe_bltn {x : Str} {v : V} {u : Value} {pos : Pos} (hg : Gl X x) (hm : X.mg x = none) (hv : bootBuiltins x = some u) (r : RelV v u) (hn : x ≠ "__name__" := by decide) (hd : (x == ("__debug__" : Str)) = false := by decide) : PE X (.Name x pos) (tC v) :=
 fun _ _ _ H _ I h => ld_blt I hg hm hv ⟨v, H, I, r, h⟩ hn hd
variable {a b : Expr} {ta tb : TE} {pos : Pos}
def PC (X : Cx) (op : CmpOp) (a b : Expr) (t : TE) : Prop :=
 ∀ (pins : List (Addr × Obj)) (s : Shared) (σ : St) (H : Hp) (Q : VK), Inv X pins σ H s → t σ H Q →
  wpAny (model X.prog X.w) X.A (eval a X.env) (fun v s₁ => wpAny (model X.prog X.w) X.A (eval b X.env) (fun u s₂ => wpAny (model X.prog X.w) X.A (compareOp op v u) (EP X pins σ Q) X.xe s₂) X.xe s₁) X.xe s
theorem nobehind (b : Expr) {op : CmpOp} (h : op ≠ .In) (h2 : op ≠ .NotIn) : behindInMarks op b = false := by
 have e1 : (op == CmpOp.In) = false := by cases op <;> first | rfl | exact absurd rfl h
 have e2 : (op == CmpOp.NotIn) = false := by cases op <;> first | rfl | exact absurd rfl h2
 cases b <;> simp [behindInMarks, e1, e2]
def tNotN (ta : TE) : TE := fun σ H Q => ta σ H fun x H1 => Q (.bl (!decide (x = .non))) H1
theorem RelV.none_iff {x : V} {v : Value} (r : RelV x v) : (v == Value.none) = decide (x = .non) := by
 cases x with
 | non => cases r; rfl
 | bl _ => cases r; rfl
 | int _ => obtain ⟨t, rfl⟩ := r; rfl
 | str _ => obtain ⟨t, rfl⟩ := r; rfl
 | byt _ => obtain ⟨t, rfl⟩ := r; rfl
 | flt _ => obtain ⟨t, rfl⟩ := r; rfl
 | ref _ => cases r; rfl
 | ty _ => cases r; rfl
theorem pc_notN {j pos'} (ha : PE X a ta) : PC X .IsNot a (.Constant .none j pos') (tNotN ta) := by
 intro pins s σ H Q I h
 refine thn (ha pins s σ H _ I h) fun v s1 ⟨x, H1, I1, r1, q1⟩ => ?_
 exact Constant_none (isnot_none_gen ⟨.bl _, H1, I1, by rw [r1.none_iff]; rfl, q1⟩)
def tB (t : TE) : TT := fun σ H Q => t σ H fun x H1 => ∃ c, x = .bl c ∧ Q c H1
theorem pt_cmp {op : CmpOp} {t : TE} (h : PC X op a b t) (h1 : behindInMarks op b = false := by first | exact nobehind _ (by decide) (by decide) | rfl) : PT X (.Compare a [op] [b] pos) (tB t) := by
 intro pins s σ H Q I hw
 refine wpAny_isTrue_Compare1 (thn (h pins s σ H _ I hw) fun v s1 h1 => thn h1 fun u s2 h2 => thn h2 fun c s3 ⟨x, H1, I1, r1, q1⟩ => ?_) h1
 obtain ⟨d, rfl, q⟩ := q1
 cases r1
 exact wpAny_truthy_bool ⟨H1, I1, q⟩
theorem pt_val {e : Expr} {t : TE} (h : PE X e t) (he : ∀ whole, isTrue e X.env whole = (do let v ← whole; standAt e.pos; holding [v] (truthy v)) := by intro _; rfl) : PT X e (tB t) := by
 intro pins s σ H Q I hw
 refine isTrue_plain (thn (h pins s σ H _ I hw) fun v s1 ⟨x, H1, I1, r1, q1⟩ => ?_) (he _)
 obtain ⟨d, rfl, q⟩ := q1
 cases r1
 exact wpAny_truthy_bool ⟨H1, I1, q⟩
variable {tA tB' : TT} {rest : List Expr}
def tAnd (t u : TT) : TT := fun σ H Q => t σ H fun c H1 => if c = true then u σ H1 Q else Q false H1
def tOr (t u : TT) : TT := fun σ H Q => t σ H fun c H1 => if c = true then Q true H1 else u σ H1 Q
def tNot (t : TT) : TT := fun σ H Q => t σ H fun c H1 => Q (!c) H1
theorem pw_and1 (ha : PT X a tA) : PW X (.BoolOp .And [a] pos) tA := by
 intro wh pins s σ H Q I h
 refine isTrue_and (thn (ha pins s σ H Q I h) fun c s1 e => ?_)
 cases c with
 | true => exact isTrue_and_nil e
 | false => exact e
theorem pw_or1 (ha : PT X a tA) : PW X (.BoolOp .Or [a] pos) tA := by
 intro wh pins s σ H Q I h
 refine isTrue_or (thn (ha pins s σ H Q I h) fun c s1 e => ?_)
 cases c with
 | false => exact isTrue_or_nil e
 | true => exact e
theorem pw_and (ha : PT X a tA) (hb : PW X (.BoolOp .And (b :: rest) pos) tB') : PW X (.BoolOp .And (a :: b :: rest) pos) (tAnd tA tB') := by
 intro wh pins s σ H Q I h
 refine isTrue_and (thn (ha pins s σ H _ I h) fun c s1 ⟨H1, I1, q1⟩ => ?_)
 cases c with
 | true => exact hb wh pins s1 σ H1 Q I1 q1
 | false => exact ⟨H1, I1, q1⟩
theorem pw_or (ha : PT X a tA) (hb : PW X (.BoolOp .Or (b :: rest) pos) tB') : PW X (.BoolOp .Or (a :: b :: rest) pos) (tOr tA tB') := by
 intro wh pins s σ H Q I h
 refine isTrue_or (thn (ha pins s σ H _ I h) fun c s1 ⟨H1, I1, q1⟩ => ?_)
 cases c with
 | true => exact ⟨H1, I1, q1⟩
 | false => exact hb wh pins s1 σ H1 Q I1 q1
theorem pt_not (ha : PT X a tA) : PT X (.UnaryOp .Not a pos) (tNot tA) := by
 intro pins s σ H Q I h
 exact isTrue_not (ha pins s σ H (fun c H1 => Q (!c) H1) I h)
def tAndV (ta tb : TE) : TE := fun σ H Q => ta σ H fun x H1 => ∃ c, x = .bl c ∧ if c = true then tb σ H1 Q else Q (.bl false) H1
def tNotV (ta : TE) : TE := fun σ H Q => ta σ H fun x H1 => ∃ c, x = .bl c ∧ Q (.bl (!c)) H1
theorem pe_one {op} {t : TE} (h : PE X a t) : PE X (.BoolOp op [a] pos) t := fun pins s σ H Q I hw => BoolOp_one (h pins s σ H Q I hw)
theorem pe_and (ha : PE X a ta) (hb : PE X (.BoolOp .And (b :: rest) pos) tb) : PE X (.BoolOp .And (a :: b :: rest) pos) (tAndV ta tb) := by
 intro pins s σ H Q I h
 refine BoolOp_and (thn (ha pins s σ H _ I h) fun v s1 ⟨x, H1, I1, r1, q1⟩ => ?_)
 obtain ⟨c, rfl, q1⟩ := q1
 cases r1
 refine wpAny_truthy_bool ?_
 cases c with
 | true => exact hb pins s1 σ H1 Q I1 q1
 | false => exact ⟨.bl false, H1, I1, rfl, q1⟩
theorem pe_not (ha : PE X a ta) : PE X (.UnaryOp .Not a pos) (tNotV ta) := by
 intro pins s σ H Q I h
 refine UnaryOp_ (thn (ha pins s σ H _ I h) fun v s1 ⟨x, H1, I1, r1, q1⟩ => ?_)
 obtain ⟨c, rfl, q1⟩ := q1
 cases r1
 exact not_of (wpAny_truthy_bool ⟨.bl (!c), H1, I1, rfl, q1⟩)
def tIf (t : TT) (ta tb : TE) : TE := fun σ H Q => t σ H fun c H1 => if c = true then ta σ H1 Q else tb σ H1 Q
theorem pe_ifExp {c : Expr} (hc : PT X c tA) (ha : PE X a ta) (hb : PE X b tb) : PE X (.IfExp c a b pos) (tIf tA ta tb) := by
 intro pins s σ H Q I h
 refine wpAny_IfExp (thn (hc pins s σ H _ I h) fun d s1 ⟨H1, I1, q1⟩ => ?_)
 cases d with
 | true => exact ha pins s1 σ H1 Q I1 q1
 | false => exact hb pins s1 σ H1 Q I1 q1
end
end L2
namespace L2
open PySem PySem.Spec PyProof.Rows
def SqL (K : PySem.W.Frag) (H : Hp) (a : Addr) (xs : List V) : Prop :=
 Rd H a (.lst xs) ∨
  ∃ (o : Obj) (its : Array Value) (n : Nat), K.lookup a = some o ∧ o.cls = .type "list" ∧ o.dict = none ∧ o.data = .seq its n ∧ its.size ≤ sizeLine ∧ Vals xs its.toList
def SqT (K : PySem.W.Frag) (H : Hp) (a : Addr) (xs : List V) : Prop :=
 Rd H a (.tup xs) ∨
  ∃ (o : Obj) (its : Array Value) (n : Nat), K.lookup a = some o ∧ o.cls = .type "tuple" ∧ o.data = .seq its n ∧ its.size ≤ sizeLine ∧ Vals xs its.toList
def absV : Value → Option V
 | .none => some .non
 | .bool b => some (.bl b)
 | .int i _ => some (.int i)
 | .str x _ => some (.str x)
 | .bytes b _ => some (.byt b)
 | .float b _ => some (.flt b)
 | .ref a => some (.ref a)
 | .type n => some (.ty n)
 | _ => none
theorem RelV.abs {x : V} {u : Value} (r : RelV x u) : absV u = some x := by
 cases x with
 | non => cases r; rfl
 | bl _ => cases r; rfl
 | int _ => obtain ⟨t, rfl⟩ := r; rfl
 | str _ => obtain ⟨t, rfl⟩ := r; rfl
 | byt _ => obtain ⟨t, rfl⟩ := r; rfl
 | flt _ => obtain ⟨t, rfl⟩ := r; rfl
 | ref _ => cases r; rfl
 | ty _ => cases r; rfl
theorem RelV.inj {x y : V} {u : Value} (r : RelV x u) (q : RelV y u) : x = y := Option.some.inj (r.abs.symm.trans q.abs)
theorem Vals.inj : ∀ {xs ys : List V} {us : List Value}, Vals xs us → Vals ys us → xs = ys
 | _, _, _, .nil, .nil => rfl
 | _, _, _, .cons r t, .cons r' t' => by rw [r.inj r', Vals.inj t t']
section
variable {X : Cx} {pins : List (Addr × Obj)} {σ : St} {H : Hp} {s : Shared} {a : Addr} {xs ys : List V}
theorem SqL.of {K : PySem.W.Frag} (h : H a = some (.lst xs)) : SqL K H a xs := .inl (.inl h)
theorem SqT.of {K : PySem.W.Frag} (h : H a = some (.tup xs)) : SqT K H a xs := .inl (.inl h)
theorem Inv.list (I : Inv X pins σ H s) (h : SqL X.K H a xs) : ∃ its : List Value, Vals xs its ∧ PlainL s.heap a its.toArray ∧ xs.length ≤ sizeLine := by
 rcases h with h | ⟨o, its, n, hk, hc, hd, hs, hz, r⟩
 ·obtain ⟨z, its, n, r, e⟩ := h.ok I.hok
  exact ⟨its, r, ⟨_, n, e, rfl, rfl, rfl⟩, z⟩
 ·refine ⟨its.toList, r, ⟨o, n, I.kIn a o hk, hc, hd, by simpa using hs⟩, ?_⟩
  have e := r.length
  simp only [Array.length_toList] at e
  omega
theorem Inv.tuple (I : Inv X pins σ H s) (h : SqT X.K H a xs) : ∃ its : List Value, Vals xs its ∧ IsTup s.heap a its.toArray ∧ xs.length ≤ sizeLine := by
 rcases h with h | ⟨o, its, n, hk, hc, hs, hz, r⟩
 ·obtain ⟨z, its, r, p⟩ := h.ok I.hok
  exact ⟨its, r, p, z⟩
 ·refine ⟨its.toList, r, ⟨o, I.kIn a o hk, hc, n, by simpa using hs⟩, ?_⟩
  have e := r.length
  simp only [Array.length_toList] at e
  omega
theorem Inv.list_inj (I : Inv X pins σ H s) (h : SqL X.K H a xs) (h' : SqL X.K H a ys) : xs = ys := by
 obtain ⟨its, r, ⟨o, n, e, _, _, d⟩, _⟩ := I.list h
 obtain ⟨its', r', ⟨o', n', e', _, _, d'⟩, _⟩ := I.list h'
 rw [e] at e'; cases e'
 rw [d] at d'
 injection d' with d1 _
 have : its = its' := by simpa using congrArg Array.toList d1
 subst this
 exact r.inj r'
theorem Inv.tuple_inj (I : Inv X pins σ H s) (h : SqT X.K H a xs) (h' : SqT X.K H a ys) : xs = ys := by
 obtain ⟨its, r, ⟨o, e, _, n, d⟩, _⟩ := I.tuple h
 obtain ⟨its', r', ⟨o', e', _, n', d'⟩, _⟩ := I.tuple h'
 rw [e] at e'; cases e'
 rw [d] at d'
 injection d' with d1 _
 have : its = its' := by simpa using congrArg Array.toList d1
 subst this
 exact r.inj r'
end
abbrev Cx.wish (X : Cx) (E : Value → Shared → Prop) : Cx := { X with xe := E }
abbrev Cx.nox (X : Cx) : Cx := X.wish fun _ _ => False
theorem Cx.Ok.wish {X : Cx} (ok : X.Ok) (E : Value → Shared → Prop) : (X.wish E).Ok :=
 ⟨ok.mod, ok.kind, ok.glob, ok.blt, ok.above, ok.inj, ok.has, ok.cab, ok.hd, ok.frames, ok.stk, ok.exf, ok.bs, ok.bsz, ok.noex, ok.exfs, ok.funs, ok.frf⟩
theorem Cx.Ok.unwish {X : Cx} {E : Value → Shared → Prop} (ok : (X.wish E).Ok) : X.Ok :=
 ⟨ok.mod, ok.kind, ok.glob, ok.blt, ok.above, ok.inj, ok.has, ok.cab, ok.hd, ok.frames, ok.stk, ok.exf, ok.bs, ok.bsz, ok.noex, ok.exfs, ok.funs, ok.frf⟩
section
variable {X : Cx} {pins : List (Addr × Obj)} {σ : St} {H : Hp} {s : Shared} {E : Value → Shared → Prop}
theorem Inv.wish (I : Inv X pins σ H s) (E : Value → Shared → Prop) : Inv (X.wish E) pins σ H s := ⟨I.ok.wish E, I.os, I.bare, I.base, I.loc, I.cell, I.free, I.freeC, I.pin, I.hok, I.len⟩
theorem Inv.unwish (I : Inv (X.wish E) pins σ H s) : Inv X pins σ H s := ⟨I.ok.unwish, I.os, I.bare, I.base, I.loc, I.cell, I.free, I.freeC, I.pin, I.hok, I.len⟩
theorem SP.unwish {D : Ends} {f : Flow} {s' : Shared} (h : SP (X.wish E) pins D f s') : SP X pins D f s' := by
 cases f with
 | next => obtain ⟨σ', H', I, q⟩ := h; exact ⟨σ', H', I.unwish, q⟩
 | brk => obtain ⟨σ', H', I, q⟩ := h; exact ⟨σ', H', I.unwish, q⟩
 | cont => obtain ⟨σ', H', I, q⟩ := h; exact ⟨σ', H', I.unwish, q⟩
 | ret u => obtain ⟨v, σ', H', I, r, q⟩ := h; exact ⟨v, σ', H', I.unwish, r, q⟩
theorem PSs.nox {st : List Stmt} {t : TS} (h : PSs X.nox st t) : PSs X st t := fun pins s σ H D I hw =>
 wpAny_mono (h pins s σ H D (I.wish _) hw) (fun _ _ q => q.unwish) fun _ _ z => False.elim z
end
section
variable {X : Cx} {st : Stmt} {rest : List Stmt} {t u : TS} {e : Expr} {te : TE} {pos : Pos}
def tNext : TS := fun D σ H => D.nx σ H
def tSeq (t u : TS) : TS := fun D σ H => t { D with nx := u D } σ H
theorem pss_nil : PSs X [] tNext := fun _ _ σ H _ I h => wpAny_execs_nil ⟨σ, H, I, h⟩
theorem pss_cons (h1 : PS X st t) (h2 : PSs X rest u) : PSs X (st :: rest) (tSeq t u) := by
 intro pins s σ H D I h
 refine wpAny_execs_cons (thn (h1 pins s σ H { D with nx := u D } I h) fun f s1 q => ?_)
 cases f with
 | next =>
  obtain ⟨σ', H', I', q⟩ := q
  exact h2 pins s1 σ' H' D I' q
 | ret v => exact q
 | brk => exact q
 | cont => exact q
theorem pss_one (h1 : PS X st t) : PSs X [st] t := by
 intro pins s σ H D I h
 refine wpAny_execs_cons (thn (h1 pins s σ H D I h) fun f s1 q => ?_)
 cases f with
 | next => exact wpAny_execs_nil q
 | ret v => exact q
 | brk => exact q
 | cont => exact q
theorem Inv.quiet {pins : List (Addr × Obj)} {σ : St} {H : Hp} {s : Shared} (I : Inv X pins σ H s) : interactive X.env = false := by simp [interactive, I.ok.kind]
def tDrop (te : TE) : TS := fun D σ H => te σ H fun _ H1 => D.nx σ H1
theorem ps_expr (he : PE X e te) (hs : swapsWith e none pos.line X.env = pure false := by rfl) : PS X (.Expr e pos) (tDrop te) := by
 intro pins s σ H D I h
 exact wpAny_Expr_any (thn (he pins s σ H _ I h) fun v s1 ⟨x, H1, I1, r1, q1⟩ => ⟨σ, H1, I1, q1⟩) I.quiet hs
def tRet (te : TE) : TS := fun D σ H => te σ H D.rt
theorem ps_ret (he : PE X e te) : PS X (.Return (some e) pos) (tRet te) := by
 intro pins s σ H D I h
 exact wpAny_Return_some (thn (he pins s σ H _ I h) fun v s1 ⟨x, H1, I1, r1, q1⟩ => ⟨x, σ, H1, I1, r1, q1⟩)
def tIfS (c : TT) (t u : TS) : TS := fun D σ H => c σ H fun b H1 => if b = true then t D σ H1 else u D σ H1
theorem ps_if {c : Expr} {a b : List Stmt} {tc : TT} (hc : PT X c tc) (ha : PSs X a t) (hb : PSs X b u) : PS X (.If c a b pos) (tIfS tc t u) := by
 intro pins s σ H D I h
 refine wpAny_If (thn (hc pins s σ H _ I h) fun d s1 ⟨H1, I1, q1⟩ => ?_)
 cases d with
 | true => exact ha pins s1 σ H1 D I1 q1
 | false => exact hb pins s1 σ H1 D I1 q1
def tNever : TS := fun _ _ _ => False
theorem ps_never : PS X st tNever := fun _ _ _ _ _ _ h => h.elim
end
abbrev TG := V → St → Hp → (St → Hp → Prop) → Prop
abbrev TGs := List V → St → Hp → (St → Hp → Prop) → Prop
def PG (X : Cx) (target : Expr) (t : TG) : Prop :=
 ∀ (pins : List (Addr × Obj)) (s : Shared) (σ : St) (H : Hp) (v : V) (u : Value) (Q : St → Hp → Prop), Inv X pins σ H s → RelV v u → t v σ H Q →
  wpAny (model X.prog X.w) X.A (assign target X.env u) (fun _ s' => ∃ σ' H', Inv X pins σ' H' s' ∧ Q σ' H') X.xe s
def PGs (X : Cx) (ts : List Expr) (t : TGs) : Prop :=
 ∀ (pins : List (Addr × Obj)) (s : Shared) (σ : St) (H : Hp) (vs : List V) (us : List Value) (Q : St → Hp → Prop), Inv X pins σ H s → Vals vs us → t vs σ H Q →
  wpAny (model X.prog X.w) X.A (assignInOrder ((assignEach ts X.env).map (·.2)) us) (fun _ s' => ∃ σ' H', Inv X pins σ' H' s' ∧ Q σ' H') X.xe s
abbrev TIp := V → V → Hp → VK → Prop
def PIp (X : Cx) (op : Operator) (t : TIp) : Prop :=
 ∀ (pins : List (Addr × Obj)) (s : Shared) (σ : St) (H : Hp) (x y : V) (v u : Value) (Q : VK), Inv X pins σ H s → RelV x v → RelV y u → t x y H Q →
  wpAny (model X.prog X.w) X.A (inplaceOp op v u) (EP X pins σ Q) X.xe s
section
variable {X : Cx} {pos : Pos}
def gName (i : Nat) : TG := fun v σ H Q => Q (σ.set i (some v)) H
theorem pg_name {i : Nat} {x : Str} (hN : X.N.Nodup) (hi : X.N[i]? = some x) (hx : Loc X.env.scope x) (hf : X.fn x = true ∨ X.env.scope.names.lookup x = some .local := by first | exact .inl rfl | exact .inr rfl | assumption) : PG X (.Name x pos) (gName i) := by
 intro pins s σ H v u Q I r h
 exact wpAny_assign_Name (store_ok I hN hi hx r (fun s' I' => ⟨_, H, I', h⟩) hf)
def gNil : TGs := fun vs σ H Q => vs = [] ∧ Q σ H
def gCons (t : TG) (u : TGs) : TGs := fun vs σ H Q => ∃ v r, vs = v :: r ∧ t v σ H fun σ' H' => u r σ' H' Q
theorem pgs_nil : PGs X [] gNil := by
 intro pins s σ H vs us Q I r h
 obtain ⟨e, h⟩ := h
 subst e
 cases r
 exact assignInOrder_nil ⟨σ, H, I, h⟩
theorem pgs_cons {e : Expr} {es : List Expr} {t : TG} {u : TGs} (h1 : PG X e t) (h2 : PGs X es u)
  (hs : (assignEach (e :: es) X.env).map (·.2) = assign e X.env :: (assignEach es X.env).map (·.2) := by rfl) : PGs X (e :: es) (gCons t u) := by
 intro pins s σ H vs us Q I r h
 obtain ⟨v, vr, e1, h⟩ := h
 subst e1
 cases r with
 | cons r rr =>
  rw [hs]
  refine assignInOrder_cons (thn (h1 pins s σ H _ _ _ I r h) fun _ s1 ⟨σ1, H1, I1, q1⟩ => ?_)
  exact h2 pins s1 σ1 H1 _ _ Q I1 rr q1
def gTup (K : PySem.W.Frag) (n : Nat) (t : TGs) : TG := fun v σ H Q => ∃ a xs, v = .ref a ∧ SqT K H a xs ∧ xs.length = n ∧ t xs σ H Q
theorem pg_tup {es : List Expr} {k : Nat} {t : TGs} {n : Nat} (hc : X.calm = true) (h : PGs X es t)
  (hn : (assignEach es X.env).length = n := by rfl) (hst : (assignEach es X.env).findIdx? (·.1) = none := by rfl) : PG X (.Tuple es k pos) (gTup X.K n t) := by
 intro pins s σ H v u Q I r hw
 obtain ⟨a, xs, e1, hq, hl, hw⟩ := hw
 subst e1
 cases r
 obtain ⟨its, rv, ht, hz⟩ := I.tuple hq
 refine assign_Tuple_tuple (I.ok.hd hc) ht (by simp [hn, ← hl, rv.length]) hst fun h' hx => ?_
 have I1 : Inv X pins σ H { s with heap := h' } := I.kept (t' := s.toks) fun b o e => hx b o (Nat.ne_of_lt (Heap.lt_size e)) e
 exact h pins _ σ H xs _ Q I1 (by simpa using rv) hw
def tAsg (te : TE) (g : TG) : TS := fun D σ H => te σ H fun x H1 => g x σ H1 D.nx
theorem ps_set {i : Nat} {x : Str} {e : Expr} {te : TE} {pos' : Pos} (hN : X.N.Nodup) (hi : X.N[i]? = some x) (hx : Loc X.env.scope x) (he : PE X e te) (hs : swapsWith e (some (.Name x pos')) pos.line X.env = pure false := by rfl) (hf : X.fn x = true ∨ X.env.scope.names.lookup x = some .local := by first | exact .inl rfl | exact .inr rfl | assumption) :
  PS X (.Assign [.Name x pos'] e pos) (tAsg te (gName i)) := by
 intro pins s σ H D I h
 refine wpAny_Assign_Name (thn (he pins s σ H _ I h) fun v s1 ⟨y, H1, I1, r1, q1⟩ => ?_) hs
 exact store_ok I1 hN hi hx r1 (fun s2 I2 => ⟨_, H1, I2, q1⟩) hf
def tAug (i : Nat) (te : TE) (ti : TIp) : TS := fun D σ H => ∃ x, σ[i]? = some (some x) ∧ te σ H fun y H1 => ti x y H1 fun z H2 => D.nx (σ.set i (some z)) H2
theorem ps_aug {i : Nat} {x : Str} {e : Expr} {te : TE} {op : Operator} {ti : TIp} {pos' : Pos} (hN : X.N.Nodup) (hi : X.N[i]? = some x) (hx : Loc X.env.scope x) (he : PE X e te) (ho : PIp X op ti) (hf : X.fn x = true ∨ X.env.scope.names.lookup x = some .local := by first | exact .inl rfl | exact .inr rfl | assumption) :
  PS X (.AugAssign (.Name x pos') op e pos) (tAug i te ti) := by
 intro pins s σ H D I h
 obtain ⟨v, e1, h⟩ := h
 obtain ⟨m, hn, hl⟩ := I.loc
 have vis : Vis X.env.scope x := by rcases hx with k | k; exact .inl k; exact .inr (.inl k)
 obtain ⟨u, r, l⟩ := hl i x v hi e1 vis
 refine wpAny_AugAssign_Name ?_
 have go : wpAny (model X.prog X.w) X.A (eval e X.env) (fun w s₂ => wpAny (model X.prog X.w) X.A (inplaceOp op u w) (fun r s₃ => wpAny (model X.prog X.w) X.A (storeName X.env x r) (fun _ => SP X pins D .next) X.xe s₃) X.xe s₂) X.xe s := by
  refine thn (he pins s σ H _ I h) fun w s1 ⟨y, H1, I1, r1, q1⟩ => ?_
  refine thn (ho pins s1 σ H1 v y u w _ I1 r r1 q1) fun z s2 ⟨zv, H2, I2, r2, q2⟩ => ?_
  exact store_ok I2 hN hi hx r2 (fun s3 I3 => ⟨_, H2, I3, q2⟩) hf
 rcases l with ⟨hk, hm⟩ | ⟨hk, c, hc, hcell⟩
 ·exact wpAny_loadName_local I.ok.kind hk hn hm go
 ·rcases hk with hk | hk
  ·exact wpAny_loadName_cell I.ok.kind hk hc hcell go
  ·rcases hx with k | k
   ·have : X.env.scope.names.lookup x = some .free := hk
    rw [k] at this; cases this
   ·have : X.env.scope.names.lookup x = some .free := hk
    rw [k] at this; cases this
def ipI (f : Int → Int → Int) : TIp := fun x y H Q => ∃ i j, x = .int i ∧ y = .int j ∧ Q (.int (f i j)) H
theorem ip_add : PIp X .Add (ipI fun i j => i + j) := by
 intro pins s σ H x y v u Q I r1 r2 h
 obtain ⟨i, j, e1, e2, q⟩ := h
 subst e1; subst e2
 obtain ⟨t, rfl⟩ := r1
 obtain ⟨t', rfl⟩ := r2
 exact iadd_int ⟨.int _, H, I.tok _, ⟨_, rfl⟩, q⟩
end
section
variable {X : Cx} {pos : Pos}
def tWhile (c : TT) (tb : TS) : TS := fun D σ H => ∃ W : Nat → St → Hp → Prop, (∃ m, W m σ H) ∧ ∀ m σ H, W m σ H →
 c σ H fun b H1 => if b = true then ∃ N : St → Hp → Prop, (∀ σ' H', N σ' H' → ∃ m', m' < m ∧ W m' σ' H') ∧ tb { D with nx := N, ct := N, bk := D.nx } σ H1 else D.nx σ H1
theorem ps_while {c : Expr} {body : List Stmt} {tc : TT} {tb : TS} (hp : PassesOwn (model X.prog X.w) X.A X.env X.xe) (hc : PT X c tc) (hb : PSs X body tb) : PS X (.While c body [] pos) (tWhile tc tb) := by
 intro pins s σ H D I h
 obtain ⟨W, ⟨m0, w0⟩, turn⟩ := h
 refine wpAny_While (codeAny_whileLoop (fun n s' => ∃ σ' H', Inv X pins σ' H' s' ∧ W n σ' H') ?_ m0 ⟨σ, H, I, w0⟩)
 rintro n s1 ⟨σ1, H1, I1, w1⟩
 refine wpAny_passesOwn hp (thn (hc pins s1 σ1 H1 _ I1 (turn n σ1 H1 w1)) fun b s2 ⟨H2, I2, q2⟩ => ?_)
 cases b with
 | true =>
  obtain ⟨N, hN, q2⟩ := q2
  rw [if_pos rfl]
  refine wpAny_passesOwn hp (thn (hb pins s2 σ1 H2 _ I2 q2) fun f s3 q3 => ?_)
  cases f with
  | next =>
   obtain ⟨σ3, H3, I3, n3⟩ := q3
   obtain ⟨m', hm, w3⟩ := hN σ3 H3 n3
   exact ⟨m', hm, σ3, H3, I3, w3⟩
  | cont =>
   obtain ⟨σ3, H3, I3, n3⟩ := q3
   obtain ⟨m', hm, w3⟩ := hN σ3 H3 n3
   exact ⟨m', hm, σ3, H3, I3, w3⟩
  | brk => exact q3
  | ret v => exact q3
 | false =>
  rw [if_neg Bool.false_ne_true]
  exact wpAny_execs_nil ⟨σ1, H2, I2, q2⟩
end
structure It where
 go : Nat → Hp → Prop
 yld : Nat → Hp → V → Hp → Prop
 stop : Nat → Hp → Prop
def FpOk (X : Cx) (pins : List (Addr × Obj)) (H : Hp) (b : Addr) : Prop :=
 H b = none ∧ b ≠ X.env.locals ∧ b ∉ X.fs ∧ (b ∈ X.ex ∨ X.s₀.heap.objs.size ≤ b) ∧ (∀ x c, X.env.cells.lookup x = some c → c ≠ b) ∧ ∀ p ∈ X.pn ++ pins, p.1 ≠ b
theorem Inv.fpOk {X : Cx} {pins : List (Addr × Obj)} {σ : St} {H H' : Hp} {s : Shared} {b : Addr} (I : Inv X pins σ H s) (hb : s.heap.objs.size ≤ b) (hn : H' b = none) : FpOk X pins H' b := by
 refine ⟨hn, Nat.ne_of_gt (Nat.lt_of_lt_of_le I.lt hb), I.nofs hb, .inr (Nat.le_trans I.sz hb), fun x c e z => ?_, fun p hp z => ?_⟩
 ·obtain ⟨v, q⟩ := I.cell x c e
  exact absurd (Nat.lt_of_lt_of_le q.lt (by rw [z]; exact hb)) (Nat.lt_irrefl _)
 ·exact absurd (Nat.lt_of_lt_of_le (Heap.lt_size (I.pin p hp).1) (by rw [z]; exact hb)) (Nat.lt_irrefl _)
structure Turn (P : Program) (w : World) (K : PySem.W.Frag) (tg : Expr) (J : It) (fp : List Addr) (it : Addr) (tn : Nat → Heap → Prop) : Prop where
 mem : it ∈ fp
 obj : ∀ i h, tn i h → ∀ b ∈ fp, ∃ o, h.get? b = some o ∧ ∀ v, o.data ≠ .cell v
 keep : ∀ i h h', tn i h → (∀ b ∈ fp, ∀ o, h.get? b = some o → h'.get? b = some o) → tn i h'
 item : ∀ (X : Cx), X.prog = P → X.w = w → X.K = K → X.calm = true → ∀ (i : Nat) (pins : List (Addr × Obj)) (s : Shared) (σ : St) (H : Hp) (E : Value → Shared → Prop), Inv X pins σ H s → (∀ b ∈ fp, FpOk X pins H b) → tn i s.heap → J.go i H →
  wpAny (model P w) X.A (pyNext (.ref it)) (fun r s1 => ∃ u, r = some u ∧
   wpAny (model P w) X.A (letOwnedTupleGo tg (.ref it) u) (fun _ s2 => ∃ x H', Inv X pins σ H' s2 ∧ RelV x u ∧ J.yld i H x H' ∧ tn (i + 1) s2.heap ∧ ∀ b ∈ fp, H' b = none) E s1) E s
 done : ∀ (X : Cx), X.prog = P → X.w = w → X.K = K → X.calm = true → ∀ (i : Nat) (pins : List (Addr × Obj)) (s : Shared) (σ : St) (H : Hp) (E : Value → Shared → Prop), Inv X pins σ H s → (∀ b ∈ fp, FpOk X pins H b) → tn i s.heap → J.stop i H →
  wpAny (model P w) X.A (pyNext (.ref it)) (fun r s1 => r = none ∧ Inv X pins σ H s1) E s
 self : ∀ (A : Around) (i : Nat) (s : Shared) (Q : Value → Shared → Prop) (E : Value → Shared → Prop), tn i s.heap → Q (.ref it) s → wpAny (model P w) A (pyIter (.ref it)) Q E s
abbrev TI := St → Hp → (It → Hp → Prop) → Prop
def PIE (X : Cx) (pins : List (Addr × Obj)) (σ : St) (tg : Expr) (R : It → Hp → Prop) (itv : Value) (s2 : Shared) : Prop :=
 ∃ (it : Addr) (fp : List Addr) (tn : Nat → Heap → Prop) (J : It) (H' : Hp), itv = .ref it ∧ Inv X pins σ H' s2 ∧ Turn X.prog X.w X.K tg J fp it tn ∧ tn 0 s2.heap ∧ (∀ b ∈ fp, FpOk X pins H' b) ∧ R J H'
def PI (X : Cx) (tg iter : Expr) (wi : TI) : Prop :=
 ∀ (pins : List (Addr × Obj)) (s : Shared) (σ : St) (H : Hp) (R : It → Hp → Prop), Inv X pins σ H s → wi σ H R →
  wpAny (model X.prog X.w) X.A (eval iter X.env) (fun v s1 => wpAny (model X.prog X.w) X.A (pyIter v) (PIE X pins σ tg R) X.xe s1) X.xe s
theorem go_of {M : Model} {A : Around} {E : Value → Shared → Prop} {s : Shared} {tg : Expr} {it : Addr} {u : Value} {o : Obj} {n : String} {vs : Array Value} {Q : Unit → Shared → Prop} (ho : s.heap.get? it = some o) (hc : o.cls = .type n) (hd : o.data = .fields vs)
    (hn : ["enumerate", "zip", "dict_itemiterator", "dict_reverseitemiterator", "odict_iterator", "itertools.zip_longest", "itertools.pairwise"].contains n = false) (hQ : Q () s) : wpAny M A (letOwnedTupleGo tg (.ref it) u) Q E s := by
  unfold letOwnedTupleGo
  cases tg <;> first
    | exact wpAny_pure hQ
    | (cases u <;> first
        | exact wpAny_pure hQ
        | (refine wpAny_bind (wpAny_load ho ?_)
           rw [hc, hd]
           show wpAny M A (if (["enumerate", "zip", "dict_itemiterator", "dict_reverseitemiterator", "odict_iterator", "itertools.zip_longest", "itertools.pairwise"].contains n && vs[0]? == some (rawInt _)) = true then _ else _) Q E s
           rw [if_neg (by intro h; rw [hn, Bool.false_and] at h; cases h)]
           exact wpAny_pure hQ))
def Itl (K : PySem.W.Frag) (a : Addr) : It :=
 ⟨fun i H => ∃ xs x, SqL K H a xs ∧ xs[i]? = some x, fun i H x H' => H' = H ∧ ∀ xs, SqL K H a xs → xs[i]? = some x, fun i H => ∃ xs, SqL K H a xs ∧ xs.length ≤ i⟩
def Itt (K : PySem.W.Frag) (a : Addr) : It :=
 ⟨fun i H => ∃ xs x, SqT K H a xs ∧ xs[i]? = some x, fun i H x H' => H' = H ∧ ∀ xs, SqT K H a xs → xs[i]? = some x, fun i H => ∃ xs, SqT K H a xs ∧ xs.length ≤ i⟩
def Itr (lo : Int) (n : Nat) : It := ⟨fun i _ => i < n, fun i H x H' => H' = H ∧ x = .int (lo + i), fun i _ => n ≤ i⟩
theorem turn_list {P : Program} {w : World} {K : PySem.W.Frag} {tg : Expr} (a it : Addr) : Turn P w K tg (Itl K a) [it] it (fun i h => h.IsListIter it a i) where
 mem := by simp
 obj := fun i h st b hb => by
  have e : b = it := by simpa using hb
  subst e
  obtain ⟨o, e, c, d⟩ := st
  exact ⟨o, e, fun v z => by rw [d] at z; cases z⟩
 keep := fun i h h' st k => st.at fun o e => k it (by simp) o e
 item := by
  intro X hP hw hK hc i pins s σ H E I hf st hg
  subst hP hw hK
  obtain ⟨xs, x, hq, hx⟩ := hg
  obtain ⟨its, rv, p, hz⟩ := I.list hq
  obtain ⟨u, hu, ru⟩ := rv.get hx
  obtain ⟨f0, f1, f2, f3, f4, f5⟩ := hf it (by simp)
  refine wpAny_pyNext_list_item st p.isList (x := u) (by simpa using hu) fun h' st' sb => ?_
  have I1 : Inv X pins σ H { s with heap := h' } := I.turned (t' := s.toks) (fun b o hb e => (sb.2 b hb).trans e) f0 f1 f3 f4 f5
  obtain ⟨o, e, c, d⟩ := id st'
  exact ⟨u, rfl, go_of (s := { s with heap := h' }) e c d (by decide) ⟨x, H, I1, ru, ⟨rfl, fun ys hy => by rw [I.list_inj hy hq]; exact hx⟩, st', fun b hb => (hf b hb).1⟩⟩
 done := by
  intro X hP hw hK hc i pins s σ H E I hf st hg
  subst hP hw hK
  obtain ⟨xs, hq, hx⟩ := hg
  obtain ⟨its, rv, p, hz⟩ := I.list hq
  obtain ⟨f0, f1, f2, f3, f4, f5⟩ := hf it (by simp)
  have hl := rv.length
  exact wpAny_pyNext_list_end (I.ok.hd hc) st p.isList (by simp; omega) fun h' eb => ⟨rfl, I.turned (t' := s.toks) (fun b o hb e => eb b o hb e) f0 f1 f3 f4 f5⟩
 self := fun _ _ _ _ _ st h => wpAny_pyIter_listiter st h
theorem turn_tuple {P : Program} {w : World} {K : PySem.W.Frag} {tg : Expr} (a it : Addr) : Turn P w K tg (Itt K a) [it] it (fun i h => h.IsTupleIter it a i) where
 mem := by simp
 obj := fun i h st b hb => by
  have e : b = it := by simpa using hb
  subst e
  obtain ⟨o, e, c, d⟩ := st
  exact ⟨o, e, fun v z => by rw [d] at z; cases z⟩
 keep := fun i h h' st k => st.at fun o e => k it (by simp) o e
 item := by
  intro X hP hw hK hc i pins s σ H E I hf st hg
  subst hP hw hK
  obtain ⟨xs, x, hq, hx⟩ := hg
  obtain ⟨its, rv, p, hz⟩ := I.tuple hq
  obtain ⟨u, hu, ru⟩ := rv.get hx
  obtain ⟨f0, f1, f2, f3, f4, f5⟩ := hf it (by simp)
  refine wpAny_pyNext_tuple_item st (show s.heap.IsTuple a its.toArray from p) (x := u) (by simpa using hu) fun h' st' sb => ?_
  have I1 : Inv X pins σ H { s with heap := h' } := I.turned (t' := s.toks) (fun b o hb e => (sb.2 b hb).trans e) f0 f1 f3 f4 f5
  obtain ⟨o, e, c, d⟩ := id st'
  exact ⟨u, rfl, go_of (s := { s with heap := h' }) e c d (by decide) ⟨x, H, I1, ru, ⟨rfl, fun ys hy => by rw [I.tuple_inj hy hq]; exact hx⟩, st', fun b hb => (hf b hb).1⟩⟩
 done := by
  intro X hP hw hK hc i pins s σ H E I hf st hg
  subst hP hw hK
  obtain ⟨xs, hq, hx⟩ := hg
  obtain ⟨its, rv, p, hz⟩ := I.tuple hq
  obtain ⟨f0, f1, f2, f3, f4, f5⟩ := hf it (by simp)
  have hl := rv.length
  exact wpAny_pyNext_tuple_end (I.ok.hd hc) st (show s.heap.IsTuple a its.toArray from p) (by simp; omega) fun h' eb => ⟨rfl, I.turned (t' := s.toks) (fun b o hb e => eb b o hb e) f0 f1 f3 f4 f5⟩
 self := fun _ _ _ _ _ st h => wpAny_pyIter_tupleiter st h
theorem turn_range {P : Program} {w : World} {K : PySem.W.Frag} {tg : Expr} (it : Addr) (lo : Int) (n : Nat) : Turn P w K tg (Itr lo n) [it] it (fun i h => IsRangeIter h it (lo + (i : Nat) * 1) ((n : Int) - (i : Nat)) 1) where
 mem := by simp
 obj := fun i h st b hb => by
  have e : b = it := by simpa using hb
  subst e
  exact ⟨_, st, fun v z => by
   have z' : Data.fields _ = Data.cell v := z
   cases z'⟩
 keep := fun i h h' st k => k it (by simp) _ st
 item := by
  intro X hP hw hK hc i pins s σ H E I hf st hg
  subst hP hw hK
  obtain ⟨f0, f1, f2, f3, f4, f5⟩ := hf it (by simp)
  have W := Walks.range (prog := X.prog) (w := X.w) (I.ok.hd hc) it lo 1 n
  refine W.item i s _ _ hg st fun v h' tk hv st' kk => ?_
  obtain ⟨t, rfl⟩ := hv
  have I1 : Inv X pins σ H { s with heap := h', toks := tk } := I.turned (fun b o hb e => kk b o (by simpa using hb) e) f0 f1 f3 f4 f5
  refine ⟨_, rfl, go_of (s := { s with heap := h', toks := tk }) (n := "range_iterator") st' rfl rfl (by decide) ⟨.int (lo + i), H, I1, ⟨t, ?_⟩, ⟨rfl, rfl⟩, st', fun b hb => (hf b hb).1⟩⟩
  rw [Int.mul_one]
 done := by
  intro X hP hw hK hc i pins s σ H E I hf st hg
  subst hP hw hK
  obtain ⟨f0, f1, f2, f3, f4, f5⟩ := hf it (by simp)
  exact wpAny_pyNext_range_end (I.ok.hd hc) st (by have : n ≤ i := hg; omega) fun h' eb => ⟨rfl, I.turned (t' := s.toks) (fun b o hb e => eb b o hb e) f0 f1 f3 f4 f5⟩
 self := fun _ _ _ _ _ st h => wpAny_pyIter_rangeiter st h
end L2
namespace L2
open PySem PySem.Spec PyProof.Rows
section
variable {X : Cx} {tg : Expr}
def iList (K : PySem.W.Frag) (tl : TE) : TI := fun σ H R => tl σ H fun x H1 => ∃ a, x = .ref a ∧ (∃ xs, SqL K H1 a xs) ∧ R (Itl K a) H1
def iTup (K : PySem.W.Frag) (tl : TE) : TI := fun σ H R => tl σ H fun x H1 => ∃ a, x = .ref a ∧ (∃ xs, SqT K H1 a xs) ∧ R (Itt K a) H1
theorem pi_list {l : Expr} {tl : TE} (hl : PE X l tl) : PI X tg l (iList X.K tl) := by
 intro pins s σ H R I h
 refine thn (hl pins s σ H _ I h) fun v s1 ⟨x, H1, I1, r1, q1⟩ => ?_
 obtain ⟨a, e, ⟨xs, hq⟩, q⟩ := q1
 subst e
 cases r1
 obtain ⟨its, rv, p, hz⟩ := I1.list hq
 refine wpAny_pyIter_list p.isList ?_
 refine ⟨s1.heap.objs.size, [s1.heap.objs.size], _, _, H1, rfl, I1.kept (t' := s1.toks) fun b o e => Heap.get?_push_of_some _ e, turn_list a _, ⟨_, Heap.get?_push_size _ rfl, rfl, rfl⟩, fun b hb => ?_, q⟩
 have e : b = s1.heap.objs.size := by simpa using hb
 subst e
 exact I1.fpOk (Nat.le_refl _) (I1.hok.fresh (Nat.le_refl _))
theorem pi_tup {l : Expr} {tl : TE} (hl : PE X l tl) : PI X tg l (iTup X.K tl) := by
 intro pins s σ H R I h
 refine thn (hl pins s σ H _ I h) fun v s1 ⟨x, H1, I1, r1, q1⟩ => ?_
 obtain ⟨a, e, ⟨xs, hq⟩, q⟩ := q1
 subst e
 cases r1
 obtain ⟨its, rv, p, hz⟩ := I1.tuple hq
 refine wpAny_pyIter_tuple (show s1.heap.IsTuple a its.toArray from p) ?_
 refine ⟨s1.heap.objs.size, [s1.heap.objs.size], _, _, H1, rfl, I1.kept (t' := s1.toks) fun b o e => Heap.get?_push_of_some _ e, turn_tuple a _, ⟨_, Heap.get?_push_size _ rfl, rfl, rfl⟩, fun b hb => ?_, q⟩
 have e : b = s1.heap.objs.size := by simpa using hb
 subst e
 exact I1.fpOk (Nat.le_refl _) (I1.hok.fresh (Nat.le_refl _))
theorem range_it {pins : List (Addr × Obj)} {σ : St} {H : Hp} {s : Shared} {R : It → Hp → Prop} {E : Value → Shared → Prop} {lo hi : Int} {t u v : Tok} {tk : Nat} (I : Inv X pins σ H s) (h1 : -(2 ^ 62) ≤ lo) (h2 : lo < 2 ^ 62) (h3 : -(2 ^ 62) ≤ hi) (h4 : hi < 2 ^ 62)
  (q : R (Itr lo (hi - lo).toNat) H) : wpAny (model X.prog X.w) X.A (pyIter (.ref s.heap.objs.size)) (PIE X pins σ tg R) E { s with heap := s.heap.push { cls := .type "range", data := .fields #[.int lo t, .int hi u, .int 1 v] }, toks := tk } := by
 refine wpAny_pyIter_range (IsRange.new ..) (small_one h1 h2 h3 h4) ?_
 have I1 : Inv X pins σ H { s with heap := s.heap.push { cls := .type "range", data := .fields #[.int lo t, .int hi u, .int 1 v] }, toks := tk } := I.kept fun b o e => Heap.get?_push_of_some _ e
 refine ⟨(s.heap.push { cls := .type "range", data := .fields #[.int lo t, .int hi u, .int 1 v] }).objs.size, [(s.heap.push { cls := .type "range", data := .fields #[.int lo t, .int hi u, .int 1 v] }).objs.size], _, _, H, rfl,
  I1.kept (t' := tk) fun b o e => Heap.get?_push_of_some _ e, turn_range _ lo (hi - lo).toNat, ?_, fun b hb => ?_, q⟩
 ·have e1 : lo + ((0 : Nat) : Int) * 1 = lo := by simp
  have e2 : (((hi - lo).toNat : Nat) : Int) - ((0 : Nat) : Int) = Builtin.Range.rangeSize lo hi 1 := by rw [rangeSize_one]; split <;> omega
  show IsRangeIter _ _ (lo + ((0 : Nat) : Int) * 1) ((((hi - lo).toNat : Nat) : Int) - ((0 : Nat) : Int)) 1
  rw [e1, e2]
  exact Heap.get?_push_size _ rfl
 ·have e : b = (s.heap.push { cls := .type "range", data := .fields #[.int lo t, .int hi u, .int 1 v] }).objs.size := by simpa using hb
  subst e
  exact I1.fpOk (Nat.le_refl _) (I1.hok.fresh (Nat.le_refl _))
def iRng1 (ta : TA) : TI := fun σ H R => ta σ H fun vs H1 => ∃ j : Int, vs = [.int j] ∧ -(2 ^ 62) ≤ j ∧ j < 2 ^ 62 ∧ R (Itr 0 j.toNat) H1
def iRng2 (ta : TA) : TI := fun σ H R => ta σ H fun vs H1 => ∃ i j : Int, vs = [.int i, .int j] ∧ (-(2 ^ 62) ≤ i ∧ i < 2 ^ 62 ∧ -(2 ^ 62) ≤ j ∧ j < 2 ^ 62) ∧ R (Itr i (j - i).toNat) H1
theorem pi_range1 {a : Expr} {ta : TA} {p pos : Pos} (hg : Gl X "range") (hm : X.mg "range" = none) (ha : PA X [a] ta) (hs : starEach [a] X.env = [(false, eval a X.env)] := by rfl) : PI X tg (.Call (.Name "range" p) [a] [] pos) (iRng1 ta) := by
 intro pins s σ H R I h
 refine Call_ (ld_blt I hg hm boot_range (PyProof.Rows.callWith_type1 (thn (ha pos pins s σ H _ I h) fun us s1 ⟨vs, H1, I1, r1, q1⟩ => ?_) hs rfl))
 obtain ⟨j, e, q1, q2, q⟩ := q1
 subst e
 cases r1 with
 | cons r rr =>
  cases rr
  obtain ⟨t, rfl⟩ := r
  exact call_range_1 (range_it I1 (by omega) (by omega) q1 q2 (by simpa using q))
theorem pi_range2 {a b : Expr} {ta : TA} {p pos : Pos} (hg : Gl X "range") (hm : X.mg "range" = none) (ha : PA X [a, b] ta) (hs : starEach [a, b] X.env = [(false, eval a X.env), (false, eval b X.env)] := by rfl) (hs2 : starEach [b] X.env = [(false, eval b X.env)] := by rfl) :
  PI X tg (.Call (.Name "range" p) [a, b] [] pos) (iRng2 ta) := by
 intro pins s σ H R I h
 refine Call_ (ld_blt I hg hm boot_range (PyProof.Rows.callWith_type1 (thn (ha pos pins s σ H _ I h) fun us s1 ⟨vs, H1, I1, r1, q1⟩ => ?_) (by rw [hs, hs2]) (by rw [hs2]; rfl)))
 obtain ⟨i, j, e, ⟨q1, q2, q3, q4⟩, q⟩ := q1
 subst e
 cases r1 with
 | cons r rr =>
  cases rr with
  | cons r' rr =>
   cases rr
   obtain ⟨t, rfl⟩ := r
   obtain ⟨t', rfl⟩ := r'
   exact call_range_2 (range_it I1 q1 q2 q3 q4 q)
def tFor (wi : TI) (g : TG) (tb : TS) : TS := fun D σ H => wi σ H fun J H1 => ∃ W : Nat → Nat → St → Hp → Prop, (∃ m, W 0 m σ H1) ∧ ∀ i m σ H, W i m σ H →
 (J.stop i H ∧ D.nx σ H) ∨ (J.go i H ∧ ∃ N : St → Hp → Prop, (∀ σ' H', N σ' H' → ∃ m', m' < m ∧ W (i + 1) m' σ' H') ∧ ∀ x H', J.yld i H x H' → g x σ H' fun σ2 H2 => tb { D with nx := N, ct := N, bk := D.nx } σ2 H2)
def pinsAt (fp : List Addr) (h : Heap) : List (Addr × Obj) := fp.filterMap fun b => (h.get? b).map fun o => (b, o)
theorem mem_pinsAt {fp : List Addr} {h : Heap} {b : Addr} {o : Obj} (hb : b ∈ fp) (e : h.get? b = some o) : (b, o) ∈ pinsAt fp h := List.mem_filterMap.mpr ⟨b, hb, by rw [e]; rfl⟩
theorem of_pinsAt {fp : List Addr} {h : Heap} {p : Addr × Obj} (hp : p ∈ pinsAt fp h) : p.1 ∈ fp ∧ h.get? p.1 = some p.2 := by
 obtain ⟨b, hb, e⟩ := List.mem_filterMap.mp hp
 cases q : h.get? b with
 | none => rw [q] at e; cases e
 | some o =>
  rw [q] at e
  have e' : (b, o) = p := Option.some.inj e
  subst e'
  exact ⟨hb, q⟩
theorem Inv.pinned {pins : List (Addr × Obj)} {σ : St} {H : Hp} {s : Shared} {fp : List Addr} (I : Inv X pins σ H s) (hf : ∀ b ∈ fp, FpOk X pins H b) (ho : ∀ b ∈ fp, ∃ o, s.heap.get? b = some o ∧ ∀ v, o.data ≠ .cell v) : Inv X (pins ++ pinsAt fp s.heap) σ H s :=
 I.pins_of fun p hp => (List.mem_append.mp hp).elim (fun z => I.pin p (List.mem_append_right _ z)) fun z => by
  obtain ⟨hb, e⟩ := of_pinsAt z
  obtain ⟨f0, f1, f2, _⟩ := hf p.1 hb
  obtain ⟨o, e', d⟩ := ho p.1 hb
  rw [e] at e'; cases e'
  exact ⟨e, f0, f1, f2, d⟩
theorem Inv.unpinned {pins pl : List (Addr × Obj)} {σ : St} {H : Hp} {s : Shared} (I : Inv X (pins ++ pl) σ H s) : Inv X pins σ H s := I.pins_of fun p hp => I.pin p (List.mem_append_right _ (List.mem_append_left _ hp))
theorem ps_for {iter : Expr} {body : List Stmt} {wi : TI} {g : TG} {tb : TS} {pos : Pos} (hp : PassesOwn (model X.prog X.w) X.A X.env X.xe) (hc : X.calm = true) (hi : PI X tg iter wi) (hg : PG X tg g) (hb : PSs X body tb)
  (hs : ∀ x, foldedSetIterable iter X.env x = pure x := by intro _; rfl) : PS X (.For tg iter body [] pos) (tFor wi g tb) := by
 intro pins s σ H D I h
 refine wpAny_For (thn (hi pins s σ H _ I h) fun v s1 h1 => thn h1 fun itv s2 h2 => ?_) hs
 obtain ⟨it, fp, tn, J, H2, e, I2, T, st2, f2, W, ⟨m0, w0⟩, turn⟩ := h2
 subst e
 -- what stays true of the iterator's objects through the loop
 have stat : ∀ {H' : Hp}, (∀ b ∈ fp, H' b = none) → ∀ b ∈ fp, FpOk X pins H' b := fun hn b hb => ⟨hn b hb, (f2 b hb).2⟩
 refine codeAny_forLoop_any (fun n s' => ∃ i σ' H', Inv X pins σ' H' s' ∧ tn i s'.heap ∧ (∀ b ∈ fp, H' b = none) ∧ W i n σ' H') ?_ m0 ⟨0, σ, H2, I2, st2, fun b hb => (f2 b hb).1, w0⟩
 rintro n s3 ⟨i, σ3, H3, I3, st3, fr3, w3⟩
 rcases turn i n σ3 H3 w3 with ⟨stop, qn⟩ | ⟨go, N, hN, step⟩
 ·refine wpAny_passesOwn hp (thn (T.done X rfl rfl rfl hc i pins s3 σ3 H3 X.xe I3 (stat fr3) st3 stop) fun r s4 ⟨hr, I4⟩ => ?_)
  subst hr
  exact wpAny_execs_nil ⟨σ3, H3, I4, qn⟩
 ·refine wpAny_passesOwn hp (thn (T.item X rfl rfl rfl hc i pins s3 σ3 H3 X.xe I3 (stat fr3) st3 go) fun r s4 ⟨u, hr, h4⟩ => ?_)
  subst hr
  refine wpAny_passesOwn hp (thn h4 fun _ s5 ⟨x, H5, I5, r5, y5, st5, fr5⟩ => ?_)
  have I5' := I5.pinned (stat fr5) (T.obj _ _ st5)
  refine wpAny_passesOwn hp (thn (hg _ s5 σ3 H5 x u _ I5' r5 (step x H5 y5)) fun _ s6 ⟨σ6, H6, I6, q6⟩ => ?_)
  refine wpAny_passesOwn hp (thn (hb _ s6 σ6 H6 _ I6 q6) fun f s7 q7 => ?_)
  have again : ∀ {σ7 : St} {H7 : Hp}, Inv X (pins ++ pinsAt fp s5.heap) σ7 H7 s7 → N σ7 H7 → ∃ m, m < n ∧ ∃ i σ' H', Inv X pins σ' H' s7 ∧ tn i s7.heap ∧ (∀ b ∈ fp, H' b = none) ∧ W i m σ' H' := fun {σ7 H7} I7 n7 => by
   obtain ⟨m', hm, w7⟩ := hN σ7 H7 n7
   refine ⟨m', hm, i + 1, σ7, H7, I7.unpinned, T.keep _ _ _ st5 fun b hb o e => (I7.pin (b, o) (List.mem_append_right _ (List.mem_append_right _ (mem_pinsAt hb e)))).1, fun b hb => ?_, w7⟩
   obtain ⟨o, e, d⟩ := T.obj _ _ st5 b hb
   exact (I7.pin (b, o) (List.mem_append_right _ (List.mem_append_right _ (mem_pinsAt hb e)))).2.1
  cases f with
  | next => obtain ⟨σ7, H7, I7, n7⟩ := q7; exact again I7 n7
  | cont => obtain ⟨σ7, H7, I7, n7⟩ := q7; exact again I7 n7
  | brk => obtain ⟨σ7, H7, I7, q7⟩ := q7; exact ⟨σ7, H7, I7.unpinned, q7⟩
  | ret v => obtain ⟨x7, σ7, H7, I7, r7, q7⟩ := q7; exact ⟨x7, σ7, H7, I7.unpinned, r7, q7⟩
end
theorem for_list {K : PySem.W.Frag} {a : Addr} {xs : List V} {g : TG} {tb : TS} {D : Ends} {σ : St} {H : Hp} (Pv : Nat → St → Hp → Prop) (h0 : Pv 0 σ H) (hl : ∀ i σ H, i ≤ xs.length → Pv i σ H → SqL K H a xs)
  (hs : ∀ i x σ H, xs[i]? = some x → Pv i σ H → g x σ H fun σ2 H2 => tb { D with nx := Pv (i + 1), ct := Pv (i + 1), bk := D.nx } σ2 H2) (hd : ∀ σ H, Pv xs.length σ H → D.nx σ H) :
  ∃ W : Nat → Nat → St → Hp → Prop, (∃ m, W 0 m σ H) ∧ ∀ i m σ H, W i m σ H →
   ((Itl K a).stop i H ∧ D.nx σ H) ∨ ((Itl K a).go i H ∧ ∃ N : St → Hp → Prop, (∀ σ' H', N σ' H' → ∃ m', m' < m ∧ W (i + 1) m' σ' H') ∧ ∀ x H', (Itl K a).yld i H x H' → g x σ H' fun σ2 H2 => tb { D with nx := N, ct := N, bk := D.nx } σ2 H2) := by
 refine ⟨fun i m σ H => m = xs.length - i ∧ i ≤ xs.length ∧ Pv i σ H, ⟨xs.length, by simp, Nat.zero_le _, h0⟩, ?_⟩
 rintro i m σ H ⟨rfl, hi, p⟩
 have q := hl i σ H hi p
 by_cases hlt : i < xs.length
 ·refine .inr ⟨⟨xs, xs[i], q, by simp [hlt]⟩, Pv (i + 1), fun σ' H' p' => ⟨xs.length - (i + 1), by omega, rfl, hlt, p'⟩, fun x H' y => ?_⟩
  obtain ⟨e, y⟩ := y
  subst e
  exact hs i x σ _ (y xs q) p
 ·have e : i = xs.length := by omega
  subst e
  exact .inl ⟨⟨xs, q, Nat.le_refl _⟩, hd σ H p⟩
theorem for_tup {K : PySem.W.Frag} {a : Addr} {xs : List V} {g : TG} {tb : TS} {D : Ends} {σ : St} {H : Hp} (Pv : Nat → St → Hp → Prop) (h0 : Pv 0 σ H) (hl : ∀ i σ H, i ≤ xs.length → Pv i σ H → SqT K H a xs)
  (hs : ∀ i x σ H, xs[i]? = some x → Pv i σ H → g x σ H fun σ2 H2 => tb { D with nx := Pv (i + 1), ct := Pv (i + 1), bk := D.nx } σ2 H2) (hd : ∀ σ H, Pv xs.length σ H → D.nx σ H) :
  ∃ W : Nat → Nat → St → Hp → Prop, (∃ m, W 0 m σ H) ∧ ∀ i m σ H, W i m σ H →
   ((Itt K a).stop i H ∧ D.nx σ H) ∨ ((Itt K a).go i H ∧ ∃ N : St → Hp → Prop, (∀ σ' H', N σ' H' → ∃ m', m' < m ∧ W (i + 1) m' σ' H') ∧ ∀ x H', (Itt K a).yld i H x H' → g x σ H' fun σ2 H2 => tb { D with nx := N, ct := N, bk := D.nx } σ2 H2) := by
 refine ⟨fun i m σ H => m = xs.length - i ∧ i ≤ xs.length ∧ Pv i σ H, ⟨xs.length, by simp, Nat.zero_le _, h0⟩, ?_⟩
 rintro i m σ H ⟨rfl, hi, p⟩
 have q := hl i σ H hi p
 by_cases hlt : i < xs.length
 ·refine .inr ⟨⟨xs, xs[i], q, by simp [hlt]⟩, Pv (i + 1), fun σ' H' p' => ⟨xs.length - (i + 1), by omega, rfl, hlt, p'⟩, fun x H' y => ?_⟩
  obtain ⟨e, y⟩ := y
  subst e
  exact hs i x σ _ (y xs q) p
 ·have e : i = xs.length := by omega
  subst e
  exact .inl ⟨⟨xs, q, Nat.le_refl _⟩, hd σ H p⟩
theorem for_range {lo : Int} {n : Nat} {g : TG} {tb : TS} {D : Ends} {σ : St} {H : Hp} (Pv : Nat → St → Hp → Prop) (h0 : Pv 0 σ H)
  (hs : ∀ i σ H, i < n → Pv i σ H → g (.int (lo + i)) σ H fun σ2 H2 => tb { D with nx := Pv (i + 1), ct := Pv (i + 1), bk := D.nx } σ2 H2) (hd : ∀ σ H, Pv n σ H → D.nx σ H) :
  ∃ W : Nat → Nat → St → Hp → Prop, (∃ m, W 0 m σ H) ∧ ∀ i m σ H, W i m σ H →
   ((Itr lo n).stop i H ∧ D.nx σ H) ∨ ((Itr lo n).go i H ∧ ∃ N : St → Hp → Prop, (∀ σ' H', N σ' H' → ∃ m', m' < m ∧ W (i + 1) m' σ' H') ∧ ∀ x H', (Itr lo n).yld i H x H' → g x σ H' fun σ2 H2 => tb { D with nx := N, ct := N, bk := D.nx } σ2 H2) := by
 refine ⟨fun i m σ H => m = n - i ∧ i ≤ n ∧ Pv i σ H, ⟨n, by simp, Nat.zero_le _, h0⟩, ?_⟩
 rintro i m σ H ⟨rfl, hi, p⟩
 by_cases hlt : i < n
 ·refine .inr ⟨hlt, Pv (i + 1), fun σ' H' p' => ⟨n - (i + 1), by omega, rfl, hlt, p'⟩, fun x H' y => ?_⟩
  obtain ⟨e, y⟩ := y
  subst e y
  exact hs i σ _ hlt p
 ·have e : i = n := by omega
  subst e
  exact .inl ⟨Nat.le_refl _, hd σ H p⟩
end L2
namespace L2
open PySem PySem.Spec PyProof.Rows
abbrev R2 := V → V → Hp → VK → Prop
def OpR (X : Cx) (f : Value → Value → Sem Value) (r : R2) : Prop :=
 ∀ (pins : List (Addr × Obj)) (s : Shared) (σ : St) (H : Hp) (x y : V) (v u : Value) (Q : VK), Inv X pins σ H s → RelV x v → RelV y u → r x y H Q →
  wpAny (model X.prog X.w) X.A (f v u) (EP X pins σ Q) X.xe s
def UnR (X : Cx) (f : Value → Sem Value) (r : V → Hp → VK → Prop) : Prop :=
 ∀ (pins : List (Addr × Obj)) (s : Shared) (σ : St) (H : Hp) (x : V) (v : Value) (Q : VK), Inv X pins σ H s → RelV x v → r x H Q →
  wpAny (model X.prog X.w) X.A (f v) (EP X pins σ Q) X.xe s
def CallR (X : Cx) (f : Value) (r : List V → Hp → VK → Prop) : Prop :=
 ∀ (pins : List (Addr × Obj)) (s : Shared) (σ : St) (H : Hp) (xs : List V) (us : List Value) (Q : VK), Inv X pins σ H s → Vals xs us → r xs H Q →
  wpAny (model X.prog X.w) X.A (call f us) (EP X pins σ Q) X.xe s
def tOp (r : R2) (ta tb : TE) : TE := fun σ H Q => ta σ H fun x H1 => tb σ H1 fun y H2 => r x y H2 Q
def tUn (r : V → Hp → VK → Prop) (ta : TE) : TE := fun σ H Q => ta σ H fun x H1 => r x H1 Q
def rI (C : Int → Int → Prop) (g : Int → Int → V) : R2 := fun x y H Q => ∃ i j, x = .int i ∧ y = .int j ∧ C i j ∧ Q (g i j) H
def rI0 (g : Int → Int → V) : R2 := fun x y H Q => ∃ i j, x = .int i ∧ y = .int j ∧ Q (g i j) H
def rU (g : Int → V) : V → Hp → VK → Prop := fun x H Q => ∃ i, x = .int i ∧ Q (g i) H
section
variable {X : Cx} {a b c : Expr} {ta tb tc : TE} {pos : Pos}
theorem binT (ha : PE X a ta) (hb : PE X b tb) {pins : List (Addr × Obj)} {s : Shared} {σ : St} {H : Hp} {R : V → V → Hp → Prop} (I : Inv X pins σ H s)
  (h : ta σ H fun x H1 => tb σ H1 fun y H2 => R x y H2) {Q : Value → Shared → Prop} {f : Value → Value → Sem Value}
  (hf : ∀ v u s2 x y H2, Inv X pins σ H2 s2 → RelV x v → RelV y u → R x y H2 → wpAny (model X.prog X.w) X.A (f v u) Q X.xe s2) :
  wpAny (model X.prog X.w) X.A (eval a X.env) (fun v s₁ => wpAny (model X.prog X.w) X.A (eval b X.env) (fun u s₂ => wpAny (model X.prog X.w) X.A (f v u) Q X.xe s₂) X.xe s₁) X.xe s := by
 refine thn (ha pins s σ H _ I h) fun v s1 ⟨x, H1, I1, r1, q1⟩ => ?_
 refine thn (hb pins s1 σ H1 _ I1 q1) fun u s2 ⟨y, H2, I2, r2, q2⟩ => ?_
 exact hf v u s2 x y H2 I2 r1 r2 q2
theorem pe_op {op : Operator} {r : R2} (ho : OpR X (binaryOp op) r) (ha : PE X a ta) (hb : PE X b tb) : PE X (.BinOp a op b pos) (tOp r ta tb) := by
 intro pins s σ H Q I h
 exact wpAny_BinOp (binT ha hb I h fun v u s2 x y H2 I2 rx ry q => ho pins s2 σ H2 x y v u Q I2 rx ry q)
theorem pe_un {op : UnaryOp} {r : V → Hp → VK → Prop} (ho : UnR X (unaryOp op) r) (ha : PE X a ta) : PE X (.UnaryOp op a pos) (tUn r ta) := by
 intro pins s σ H Q I h
 exact UnaryOp_ (thn (ha pins s σ H _ I h) fun v s1 ⟨x, H1, I1, r1, q1⟩ => ho pins s1 σ H1 x v Q I1 r1 q1)
theorem opI {f : Value → Value → Sem Value} {C : Int → Int → Prop} {g : Int → Int → Int}
  (rule : ∀ (i j : Int) (t u : Tok) (s : Shared) (Q : Value → Shared → Prop) (E : Value → Shared → Prop), C i j → Q (.int (g i j) s.toks) { s with toks := s.toks + 1 } → wpAny (model X.prog X.w) X.A (f (.int i t) (.int j u)) Q E s) :
  OpR X f (rI C fun i j => .int (g i j)) := by
 intro pins s σ H x y v u Q I rx ry h
 obtain ⟨i, j, rfl, rfl, hc, q⟩ := h
 obtain ⟨t, rfl⟩ := rx
 obtain ⟨t', rfl⟩ := ry
 exact rule i j t t' s _ _ hc ⟨.int (g i j), H, I.tok _, ⟨_, rfl⟩, q⟩
theorem opI0 {f : Value → Value → Sem Value} {g : Int → Int → Int}
  (rule : ∀ (i j : Int) (t u : Tok) (s : Shared) (Q : Value → Shared → Prop) (E : Value → Shared → Prop), Q (.int (g i j) s.toks) { s with toks := s.toks + 1 } → wpAny (model X.prog X.w) X.A (f (.int i t) (.int j u)) Q E s) :
  OpR X f (rI0 fun i j => .int (g i j)) := by
 intro pins s σ H x y v u Q I rx ry h
 obtain ⟨i, j, rfl, rfl, q⟩ := h
 obtain ⟨t, rfl⟩ := rx
 obtain ⟨t', rfl⟩ := ry
 exact rule i j t t' s _ _ ⟨.int (g i j), H, I.tok _, ⟨_, rfl⟩, q⟩
theorem opB0 {f : Value → Value → Sem Value} {g : Int → Int → Bool}
  (rule : ∀ (i j : Int) (t u : Tok) (s : Shared) (Q : Value → Shared → Prop) (E : Value → Shared → Prop), Q (.bool (g i j)) s → wpAny (model X.prog X.w) X.A (f (.int i t) (.int j u)) Q E s) :
  OpR X f (rI0 fun i j => .bl (g i j)) := by
 intro pins s σ H x y v u Q I rx ry h
 obtain ⟨i, j, rfl, rfl, q⟩ := h
 obtain ⟨t, rfl⟩ := rx
 obtain ⟨t', rfl⟩ := ry
 exact rule i j t t' s _ _ ⟨.bl (g i j), H, I, rfl, q⟩
def CDiv (i j : Int) : Prop := 0 < j ∧ j < 1073741824
def CPow (i j : Int) : Prop := 0 ≤ j ∧ j ≤ 1000000 ∧ i.natAbs < 2 ^ 64
def CMul (i j : Int) : Prop := (-(2 ^ 64) < i ∧ i < 2 ^ 64) ∨ (-(2 ^ 64) < j ∧ j < 2 ^ 64)
theorem CMul.ok {i j : Int} (h : CMul i j) : IntMulOk i j := by
 rcases h with ⟨h1, h2⟩ | ⟨h1, h2⟩
 ·exact .of_left (intBits_le_64 h1 h2)
 ·exact .of_right (intBits_le_64 h1 h2)
theorem two_pow_nn (k : Nat) : (0 : Int) ≤ 2 ^ k := by
 rw [two_pow_cast]
 exact Int.natCast_nonneg _
theorem op_add : OpR X (binaryOp .Add) (rI0 fun i j => .int (i + j)) := opI0 fun _ _ _ _ _ _ _ q => add_int q
theorem op_sub : OpR X (binaryOp .Sub) (rI0 fun i j => .int (i - j)) := opI0 fun _ _ _ _ _ _ _ q => sub_int q
theorem op_mul : OpR X (binaryOp .Mult) (rI CMul fun i j => .int (i * j)) := opI fun _ _ _ _ _ _ _ hc q => mul_int q hc.ok
theorem op_fdiv : OpR X (binaryOp .FloorDiv) (rI CDiv fun i j => .int (i / j)) := opI fun i j _ _ _ _ _ hc q => by
 have h1 : (0 : Int) < j := hc.1
 have h2 : j < 1073741824 := hc.2
 exact floordiv_int (by omega) (by rw [Int.fdiv_eq_ediv_of_nonneg i (by omega)]; exact q) (.inl (PyProof.noPylong_small (by omega)))
theorem op_mod : OpR X (binaryOp .Mod) (rI (fun _ j => 0 < j) fun i j => .int (i % j)) := opI fun i j _ _ _ _ _ hc q => by
 have h1 : (0 : Int) < j := hc
 exact mod_int' (by omega) (by rw [Int.fmod_eq_emod_of_nonneg i (by omega)]; exact q)
theorem op_shl : OpR X (binaryOp .LShift) (rI CPow fun i j => .int (i * 2 ^ j.toNat)) := opI fun _ _ _ _ _ _ _ hc q => lshift_int_small hc.1 hc.2.1 hc.2.2 q
theorem op_shr : OpR X (binaryOp .RShift) (rI (fun _ j => 0 ≤ j) fun i j => .int (i / 2 ^ j.toNat)) := opI fun i j _ _ _ _ _ hc q =>
 rshift_int hc (by rw [Int.fdiv_eq_ediv_of_nonneg i (two_pow_nn _)]; exact q)
theorem op_and : OpR X (binaryOp .BitAnd) (rI0 fun i j => .int (Builtin.bitAnd i j)) := opI0 fun _ _ _ _ _ _ _ q => and_int q
theorem iop_shr : OpR X (inplaceOp .RShift) (rI (fun _ j => 0 ≤ j) fun i j => .int (i / 2 ^ j.toNat)) := opI fun i j _ _ _ _ _ hc q =>
 irshift_int hc (by rw [Int.fdiv_eq_ediv_of_nonneg i (two_pow_nn _)]; exact q)
theorem unI {f : Value → Sem Value} {g : Int → Int}
  (rule : ∀ (i : Int) (t : Tok) (s : Shared) (Q : Value → Shared → Prop) (E : Value → Shared → Prop), Q (.int (g i) s.toks) { s with toks := s.toks + 1 } → wpAny (model X.prog X.w) X.A (f (.int i t)) Q E s) :
  UnR X f (rU fun i => .int (g i)) := by
 intro pins s σ H x v Q I rx h
 obtain ⟨i, rfl, q⟩ := h
 obtain ⟨t, rfl⟩ := rx
 exact rule i t s _ _ ⟨.int (g i), H, I.tok _, ⟨_, rfl⟩, q⟩
theorem un_neg : UnR X (unaryOp .USub) (rU fun i => .int (-i)) := unI fun _ _ _ _ _ q => neg_int q
end
def scal : V → V → Bool
 | .non, .non => true | .non, .int _ => true | .int _, .non => true | .non, .bl _ => true | .bl _, .non => true | .non, .str _ => true | .str _, .non => true
 | .int _, .int _ => true | .bl _, .bl _ => true | .str _, .str _ => true | .byt _, .byt _ => true
 | .int _, .str _ => true | .str _, .int _ => true | .bl _, .str _ => true | .str _, .bl _ => true
 | _, _ => false
def rEq : R2 := fun x y H Q => scal x y = true ∧ Q (.bl (decide (x = y))) H
def rNe : R2 := fun x y H Q => scal x y = true ∧ Q (.bl (!decide (x = y))) H
theorem dec_int {i j : Int} : decide (V.int i = V.int j) = (i == j) := by
 rw [Bool.eq_iff_iff]
 simp
theorem dec_bl {i j : Bool} : decide (V.bl i = V.bl j) = (i == j) := by
 rw [Bool.eq_iff_iff]
 simp
theorem dec_str {i j : Str} : decide (V.str i = V.str j) = (i == j) := by
 rw [Bool.eq_iff_iff]
 simp
theorem dec_byt {i j : Array UInt8} : decide (V.byt i = V.byt j) = (i.toList == j.toList) := by
 rw [Bool.eq_iff_iff]
 cases i
 cases j
 simp
section
variable {X : Cx} {a b c : Expr} {ta tb tc : TE} {pos : Pos}
theorem fin_bl {pins : List (Addr × Obj)} {σ : St} {H : Hp} {s : Shared} {Q : VK} {k k' : Bool} (I : Inv X pins σ H s) (q : Q (.bl k) H) (e : k = k') : EP X pins σ Q (.bool k') s := by
 subst e
 exact ⟨.bl k, H, I, rfl, q⟩
theorem op_eq : OpR X (compareOp .Eq) rEq := by
 intro pins s σ H x y v u Q I rx ry h
 obtain ⟨hs, q⟩ := h
 cases x with
 | non =>
  cases rx
  cases y with
  | non => cases ry; exact PySem.EqNone.eq_none_none (fin_bl I q (by simp))
  | bl j => cases ry; exact PySem.EqNone.eq_none_bool (fin_bl I q (by simp))
  | int j => obtain ⟨t', rfl⟩ := ry; exact PySem.EqNone.eq_none_int (fin_bl I q (by simp))
  | str j => obtain ⟨t', rfl⟩ := ry; exact PySem.EqNone.eq_none_str (fin_bl I q (by simp))
  | _ => exact absurd (show false = true from hs) Bool.false_ne_true
 | bl i =>
  cases rx
  cases y with
  | non => cases ry; exact PySem.EqNone.eq_bool_none (fin_bl I q (by simp))
  | bl j => cases ry; exact eq_bool (fin_bl I q dec_bl)
  | str j => obtain ⟨t', rfl⟩ := ry; exact PySem.EqMixed.eq_bool_str (fin_bl I q (by simp))
  | _ => exact absurd (show false = true from hs) Bool.false_ne_true
 | int i =>
  obtain ⟨t, rfl⟩ := rx
  cases y with
  | non => cases ry; exact PySem.EqNone.eq_int_none (fin_bl I q (by simp))
  | int j => obtain ⟨t', rfl⟩ := ry; exact eq_int (fin_bl I q dec_int)
  | str j => obtain ⟨t', rfl⟩ := ry; exact PySem.EqMixed.eq_int_str (fin_bl I q (by simp))
  | _ => exact absurd (show false = true from hs) Bool.false_ne_true
 | str i =>
  obtain ⟨t, rfl⟩ := rx
  cases y with
  | non => cases ry; exact PySem.EqNone.eq_str_none (fin_bl I q (by simp))
  | bl j => cases ry; exact PySem.EqMixed.eq_str_bool (fin_bl I q (by simp))
  | int j => obtain ⟨t', rfl⟩ := ry; exact PySem.EqMixed.eq_str_int (fin_bl I q (by simp))
  | str j => obtain ⟨t', rfl⟩ := ry; exact eq_str (fin_bl I q dec_str)
  | _ => exact absurd (show false = true from hs) Bool.false_ne_true
 | byt i =>
  obtain ⟨t, rfl⟩ := rx
  cases y with
  | byt j => obtain ⟨t', rfl⟩ := ry; exact PySem.W.eq_bytes (fin_bl I q dec_byt)
  | _ => exact absurd (show false = true from hs) Bool.false_ne_true
 | _ => cases y <;> exact absurd (show false = true from hs) Bool.false_ne_true
theorem op_ne : OpR X (compareOp .NotEq) rNe := by
 intro pins s σ H x y v u Q I rx ry h
 obtain ⟨hs, q⟩ := h
 cases x with
 | non =>
  cases rx
  cases y with
  | non => cases ry; exact PySem.EqNone.ne_none_none (fin_bl I q (by simp))
  | bl j => cases ry; exact PySem.EqNone.ne_none_bool (fin_bl I q (by simp))
  | int j => obtain ⟨t', rfl⟩ := ry; exact PySem.EqNone.ne_none_int (fin_bl I q (by simp))
  | str j => obtain ⟨t', rfl⟩ := ry; exact PySem.EqNone.ne_none_str (fin_bl I q (by simp))
  | _ => exact absurd (show false = true from hs) Bool.false_ne_true
 | bl i =>
  cases rx
  cases y with
  | non => cases ry; exact PySem.EqNone.ne_bool_none (fin_bl I q (by simp))
  | bl j => cases ry; exact ne_bool (fin_bl I q (congrArg not dec_bl))
  | str j => obtain ⟨t', rfl⟩ := ry; exact PySem.EqMixed.ne_bool_str (fin_bl I q (by simp))
  | _ => exact absurd (show false = true from hs) Bool.false_ne_true
 | int i =>
  obtain ⟨t, rfl⟩ := rx
  cases y with
  | non => cases ry; exact PySem.EqNone.ne_int_none (fin_bl I q (by simp))
  | int j => obtain ⟨t', rfl⟩ := ry; exact ne_int (fin_bl I q (congrArg not dec_int))
  | str j => obtain ⟨t', rfl⟩ := ry; exact PySem.EqMixed.ne_int_str (fin_bl I q (by simp))
  | _ => exact absurd (show false = true from hs) Bool.false_ne_true
 | str i =>
  obtain ⟨t, rfl⟩ := rx
  cases y with
  | non => cases ry; exact PySem.EqNone.ne_str_none (fin_bl I q (by simp))
  | bl j => cases ry; exact PySem.EqMixed.ne_str_bool (fin_bl I q (by simp))
  | int j => obtain ⟨t', rfl⟩ := ry; exact PySem.EqMixed.ne_str_int (fin_bl I q (by simp))
  | str j => obtain ⟨t', rfl⟩ := ry; exact ne_str (fin_bl I q (congrArg not dec_str))
  | _ => exact absurd (show false = true from hs) Bool.false_ne_true
 | byt i =>
  obtain ⟨t, rfl⟩ := rx
  cases y with
  | byt j => obtain ⟨t', rfl⟩ := ry; exact PySem.W.ne_bytes (fin_bl I q (congrArg not dec_byt))
  | _ => exact absurd (show false = true from hs) Bool.false_ne_true
 | _ => cases y <;> exact absurd (show false = true from hs) Bool.false_ne_true
theorem op_lt : OpR X (compareOp .Lt) (rI0 fun i j => .bl (decide (i < j))) := opB0 fun _ _ _ _ _ _ _ q => lt_int q
theorem op_le : OpR X (compareOp .LtE) (rI0 fun i j => .bl (decide (i ≤ j))) := opB0 fun _ _ _ _ _ _ _ q => le_int q
theorem op_gt : OpR X (compareOp .Gt) (rI0 fun i j => .bl (decide (j < i))) := opB0 fun _ _ _ _ _ _ _ q => gt_int q
theorem op_ge : OpR X (compareOp .GtE) (rI0 fun i j => .bl (decide (j ≤ i))) := opB0 fun _ _ _ _ _ _ _ q => ge_int q
theorem nomark (b : Expr) {op : CmpOp} (h : op ≠ .In := by decide) (h2 : op ≠ .NotIn := by decide) : behindInMarks op b = false := by
 have e1 : (op == CmpOp.In) = false := by cases op <;> first | rfl | exact absurd rfl h
 have e2 : (op == CmpOp.NotIn) = false := by cases op <;> first | rfl | exact absurd rfl h2
 cases b <;> simp [behindInMarks, e1, e2]
theorem pe_cmpR {op : CmpOp} {r : R2} (ho : OpR X (compareOp op) r) (ha : PE X a ta) (hb : PE X b tb) (hm : behindInMarks op b = false) : PE X (.Compare a [op] [b] pos) (tOp r ta tb) := by
 intro pins s σ H Q I h
 exact wpAny_Compare1 (binT ha hb I h fun v u s2 x y H2 I2 rx ry q => ho pins s2 σ H2 x y v u Q I2 rx ry q) hm
def tTest (t : TE) : TT := fun σ H Q => t σ H fun x H' => ∃ k, x = .bl k ∧ Q k H'
theorem pt_cmpR {op : CmpOp} {r : R2} (ho : OpR X (compareOp op) r) (ha : PE X a ta) (hb : PE X b tb) (hm : behindInMarks op b = false) : PT X (.Compare a [op] [b] pos) (tTest (tOp r ta tb)) := by
 intro pins s σ H Q I h
 refine wpAny_isTrue_Compare1 (thn (ha pins s σ H _ I h) fun v s1 ⟨x, H1, I1, r1, q1⟩ => thn (hb pins s1 σ H1 _ I1 q1) fun u s2 ⟨y, H2, I2, r2, q2⟩ =>
  thn (ho pins s2 σ H2 x y v u _ I2 r1 r2 q2) fun c s3 ⟨z, H3, I3, r3, k, e, q3⟩ => ?_) hm
 subst e
 cases r3
 exact wpAny_truthy_bool ⟨H3, I3, q3⟩
def tChain (r r' : R2) (ta tb tc : TE) : TE := fun σ H Q => ta σ H fun x H1 => tb σ H1 fun y H2 => r x y H2 fun z H3 => ∃ k, z = .bl k ∧
 (if k = true then tc σ H3 fun w' H4 => r' y w' H4 Q else Q (.bl false) H3)
theorem pe_chain {op op' : CmpOp} {r r' : R2} (ho : OpR X (compareOp op) r) (ho' : OpR X (compareOp op') r') (ha : PE X a ta) (hb : PE X b tb) (hc : PE X c tc)
  (hm : lastMarks [op, op'] [b, c] = false := by with_unfolding_all rfl) : PE X (.Compare a [op, op'] [b, c] pos) (tChain r r' ta tb tc) := by
 intro pins s σ H Q I h
 refine Compare_chain (thn (ha pins s σ H _ I h) fun v s1 ⟨x, H1, I1, r1, q1⟩ => chain_link (thn (hb pins s1 σ H1 _ I1 q1) fun u s2 ⟨y, H2, I2, r2, q2⟩ =>
  thn (ho pins s2 σ H2 x y v u _ I2 r1 r2 q2) fun d s3 ⟨z, H3, I3, r3, k, e, q3⟩ => ?_)) hm
 subst e
 cases r3
 refine wpAny_truthy_bool ?_
 cases k with
 | false => exact ite_ff ⟨.bl false, H3, I3, rfl, q3⟩
 | true => exact ite_tt (chain_last (thn (hc pins s3 σ H3 _ I3 q3) fun w' s4 ⟨z', H4, I4, r4, q4⟩ => ho' pins s4 σ H4 y z' u w' Q I4 r2 r4 q4))
theorem line63 : (sizeLine : Nat) < 2 ^ 63 := by rw [sizeLine_eq]; decide
theorem op_add_str : OpR X (binaryOp .Add) (fun x y H Q => ∃ i j, x = .str i ∧ y = .str j ∧ i.length + j.length ≤ sizeLine ∧ Q (.str (i ++ j)) H) := by
 intro pins s σ H x y v u Q I rx ry h
 obtain ⟨i, j, rfl, rfl, hz, q⟩ := h
 obtain ⟨t, rfl⟩ := rx
 obtain ⟨t', rfl⟩ := ry
 exact add_str (fun t' tk => ⟨.str (i ++ j), H, I.tok _, ⟨_, rfl⟩, q⟩) hz
theorem vals1 {x : V} {us : List Value} (r : Vals [x] us) : ∃ u, us = [u] ∧ RelV x u := by
 cases r with
 | cons r1 r2 => cases r2; exact ⟨_, rfl, r1⟩
theorem vals2 {x y : V} {us : List Value} (r : Vals [x, y] us) : ∃ u w', us = [u, w'] ∧ RelV x u ∧ RelV y w' := by
 cases r with
 | cons r1 r2 =>
  cases r2 with
  | cons r3 r4 => cases r4; exact ⟨_, _, rfl, r1, r3⟩
theorem call_abs : CallR X (.builtin "abs") (fun xs H Q => ∃ i, xs = [.int i] ∧ Q (.int (if i < 0 then -i else i)) H) := by
 intro pins s σ H xs us Q I r h
 obtain ⟨i, rfl, q⟩ := h
 obtain ⟨u, rfl, t, rfl⟩ := vals1 r
 exact call_abs_int fun u tk => ⟨.int (if i < 0 then -i else i), H, I.tok _, ⟨_, rfl⟩, q⟩
theorem call_max2 (hc : X.calm = true) : CallR X (.builtin "max") (fun xs H Q => ∃ i j, xs = [.int i, .int j] ∧ Q (.int (if j > i then j else i)) H) := by
 intro pins s σ H xs us Q I r h
 obtain ⟨i, j, rfl, q⟩ := h
 obtain ⟨u, w', rfl, ⟨t, rfl⟩, ⟨t', rfl⟩⟩ := vals2 r
 refine max_two_ints (I.ok.hd hc) fun h' tk k => ⟨_, H, I.kept k, ?_, q⟩
 by_cases hj : j > i
 ·rw [if_pos hj, if_pos hj]; exact ⟨_, rfl⟩
 ·rw [if_neg hj, if_neg hj]; exact ⟨_, rfl⟩
theorem call_min2 (hc : X.calm = true) : CallR X (.builtin "min") (fun xs H Q => ∃ i j, xs = [.int i, .int j] ∧ Q (.int (if j < i then j else i)) H) := by
 intro pins s σ H xs us Q I r h
 obtain ⟨i, j, rfl, q⟩ := h
 obtain ⟨u, w', rfl, ⟨t, rfl⟩, ⟨t', rfl⟩⟩ := vals2 r
 refine min_two_ints (I.ok.hd hc) fun h' tk k => ⟨_, H, I.kept k, ?_, q⟩
 by_cases hj : j < i
 ·rw [if_pos hj, if_pos hj]; exact ⟨_, rfl⟩
 ·rw [if_neg hj, if_neg hj]; exact ⟨_, rfl⟩
theorem call_int1 : CallR X (.type "int") (fun xs H Q => (∃ i, xs = [.int i] ∧ Q (.int i) H) ∨ ∃ k, xs = [.bl k] ∧ Q (.int (if k then 1 else 0)) H) := by
 intro pins s σ H xs us Q I r h
 rcases h with ⟨i, rfl, q⟩ | ⟨k, rfl, q⟩
 ·obtain ⟨u, rfl, t, rfl⟩ := vals1 r
  exact call_int_int ⟨.int i, H, I, ⟨_, rfl⟩, q⟩
 ·obtain ⟨u, rfl, r1⟩ := vals1 r
  cases r1
  exact call_int_bool ⟨.int (if k then 1 else 0), H, I.tok _, ⟨_, rfl⟩, q⟩
end
end L2
namespace L2
open PySem PySem.Spec PyProof.Rows
structure ObjM (h : Heap) (x dx C : Addr) (mA : Str → Option Value) : Prop where
 obj : h.get? x = some (PySem.W.instObj C dx)
 ns : h.Ns1 dx mA
 ne : dx ≠ x
theorem lookIn_ns {h : Heap} {dx : Addr} {mA : Str → Option Value} (n : h.Ns1 dx mA) : ∃ od, h.get? dx = some od ∧ ∀ name, PySem.W.lookIn name od = some (mA name) := by
 obtain ⟨o, es, ep, ho, hd, hk, _, hm⟩ := n
 refine ⟨o, ho, fun name => ?_⟩
 have e := hm name
 unfold nsFind findBy at e
 rw [← Array.find?_toList] at e
 unfold PySem.W.lookIn
 rw [hd]
 dsimp only
 split
 ·rename_i y q
  rw [q] at e
  exact congrArg some e
 ·rename_i q
  rw [q] at e
  have a : es.toList.any (·.refKey) = false := by
   rw [List.any_eq_false]
   intro y hy
   obtain ⟨z, t, hkey⟩ := hk y (Array.mem_toList_iff.mp hy)
   simp [DictEntry.refKey, hkey]
  have a' : ¬ es.toList.any (·.refKey) = true := by rw [a]; exact Bool.false_ne_true
  rw [if_neg a']
  exact congrArg some e
theorem ObjM.look {h : Heap} {x dx C : Addr} {mA : Str → Option Value} (I : ObjM h x dx C mA) : ∃ od, PySem.W.InstAt h x (PySem.W.instObj C dx) C (some od) ∧ ∀ name, PySem.W.lookIn name od = some (mA name) :=
 let ⟨od, ho, hl⟩ := lookIn_ns I.ns
 ⟨od, ⟨I.obj, rfl, rfl, ho⟩, hl⟩
section
variable {prog : Program} {w : World} {A : Around} {E : Value → Shared → Prop} {s : Shared} {K : PySem.W.Frag} {x dx C f : Addr} {mA : Str → Option Value} {name : Str} {v : Value}
theorem get_map {expr : Bool} {Q : Value → Shared → Prop} (X : K.In s.heap) (I : ObjM s.heap x dx C mA) (hg : PySem.W.plainGet K C name = true) (hh : PySem.W.hasDictIn K C = true)
  (ha : PySem.W.findIn K (.ref C) name = some none) (hv : mA name = some v) (hv' : PySem.W.handedIn v = true) (h : Q v { s with toks := s.toks + 1 }) :
  wpAny (model prog w) A (getAttr (.ref x) name expr) Q E s := by
 obtain ⟨od, J, hl⟩ := I.look
 exact PySem.W.get_value X J (PySem.W.plainGet_of hg).1 (PySem.W.findObj_own hh ha rfl (by rw [hl, hv])) hv' h
theorem get_meth {pl : Sem Bool} {Q : Value × List Value → Shared → Prop} (X : K.In s.heap) (I : ObjM s.heap x dx C mA) (hg : PySem.W.plainGet K C name = true)
  (hf : PySem.W.findIn K (.ref C) name = some (some (.ref f))) (ht : PySem.W.isFn K (.ref f) = true) (hv : mA name = none) (h : Q (.ref f, [.ref x]) s) :
  wpAny (model prog w) A (getMethod (.ref x) name pl) Q E s := by
 obtain ⟨od, J, hl⟩ := I.look
 exact PySem.W.method_fn X J (PySem.W.plainGet_of hg).1 (PySem.W.plainGet_of hg).2 hf (beq_iff_eq.mp ht) (by show (PySem.W.lookIn name od).map (·.isSome) = some false; rw [hl, hv]; rfl) h
theorem set_map {ns : List Str} {Q : Unit → Shared → Prop} (X : K.In s.heap) (I : ObjM s.heap x dx C mA)
  (hs : PySem.W.findIn K (.ref C) "__setattr__" = some (some (.builtin "object.__setattr__"))) (hp : PySem.W.plainOver K C = true) (ht : PySem.W.takerIn K C name = some none) (hh : PySem.W.hasDictIn K C = true)
  (hw : PySem.Within mA ns) (hsz : ns.length ≤ sizeLine)
  (h : ∀ h', ObjM h' x dx C (fun y => if y = name then some v else mA y) → Heap.SameBut dx s.heap h' → Q () { s with heap := h', toks := s.toks + 2 }) :
  wpAny (model prog w) A (setAttr (.ref x) name v) Q E s := by
 obtain ⟨od, J, hl⟩ := I.look
 refine PySem.W.set_plain X J hs (PySem.W.osa_open (s := { s with toks := s.toks + 1 }) (r := none) X J hp ht fun b => ?_)
 obtain ⟨cd, hc, hd'⟩ := PySem.W.any_some hh
 have hx : s.heap.get? x = some ⟨.ref C, some dx, .plain, #[]⟩ := I.obj
 refine wpAny_bind (wpAny_pure (wpAny_bind (wpAny_bind (wpAny_loadPart hx (wpAny_bind (PySem.W.Looks.here (s := { s with toks := s.toks + 1 }) (PySem.W.looks_clsIn X hc) ?_))))))
 rw [hd']
 refine wpAny_pure (a := some dx) (wpAny_bind (wpAny_pure (wpAny_bind ?_)))
 refine wpAny_nsSet1 (s := { s with toks := s.toks + 1 }) I.ns fun h' hn2 hs2 => ?_
 obtain ⟨oD, esD, epD, hoD, hdD, hcD⟩ := hn2.count (PySem.Within.cons name v hw)
 refine wpAny_bind (wpAny_lookBehind hoD (by rw [hdD]; exact pastItsLine_dict (Nat.le_trans hcD (by rw [List.length_cons]; omega))) ?_)
 exact wpAny_pure (h _ ⟨(hs2.2 _ (Ne.symm I.ne)).trans I.obj, hn2, I.ne⟩ hs2)
theorem make_map {R : Result → Shared → Prop} {vs : List Value} {kw : List (Str × Value)} (X : K.In s.heap) (hm : PySem.W.makesIn K C = true)
  (hi : PySem.W.findIn K (.ref C) "__init__" = some (some (.ref f))) (hf : PySem.W.typeIn K (.ref f) = some (.type "function"))
  (h : codeAny (model prog w) (A.under (.builtin "type.__call__" ⟨.ref C :: vs, kw⟩)) (.call (.ref f) ⟨.ref (s.heap.objs.size + 1) :: vs, kw⟩) (PySem.W.InitBack (s.heap.objs.size + 1) R)
   { s with heap := (s.heap.push PySem.W.emptyDict).push (PySem.W.instObj C s.heap.objs.size) }) :
  codeAny (model prog w) A (.call (.ref C) ⟨vs, kw⟩) R s := by
 obtain ⟨hh, g, d, t, os⟩ := s
 exact PySem.W.make_core (PySem.W.makes_of X hm) (PySem.W.looks_findIn X hi) (fun self => PySem.W.bind_fn X self hf) (.inl rfl) h
end
def putF (f : Str) (v : V) : List (Str × V) → List (Str × V)
  | [] => [(f, v)]
  | (g, x) :: r => if g = f then (g, v) :: r else (g, x) :: putF f v r
theorem lookup_putF (f g : Str) (v : V) : ∀ fs : List (Str × V), (putF f v fs).lookup g = if g = f then some v else fs.lookup g
  | [] => by
    show List.lookup g [(f, v)] = _
    by_cases h : g = f
    · have hb : (g == f) = true := beq_iff_eq.mpr h
      simp only [List.lookup, hb, if_pos h]
    · have hb : (g == f) = false := beq_eq_false_iff_ne.mpr h
      simp only [List.lookup, hb, if_neg h]
  | (k, x) :: r => by
    have ih := lookup_putF f g v r
    rw [show putF f v ((k, x) :: r) = (if k = f then (k, v) :: r else (k, x) :: putF f v r) from rfl]
    by_cases hk : k = f
    · rw [if_pos hk]
      by_cases h : g = k
      · have hb : (g == k) = true := beq_iff_eq.mpr h
        simp only [List.lookup, hb, if_pos (h.trans hk)]
      · have hb : (g == k) = false := beq_eq_false_iff_ne.mpr h
        simp only [List.lookup, hb, if_neg (fun e : g = f => h (e.trans hk.symm))]
    · rw [if_neg hk]
      by_cases h : g = k
      · have hb : (g == k) = true := beq_iff_eq.mpr h
        simp only [List.lookup, hb, if_neg (fun e : g = f => hk (h.symm.trans e))]
      · have hb : (g == k) = false := beq_eq_false_iff_ne.mpr h
        simp only [List.lookup, hb]
        exact ih
theorem keys_putF (f : Str) (v : V) : ∀ fs : List (Str × V), f ∈ (putF f v fs).map (·.1) ∧ ∀ g, g ∈ fs.map (·.1) → g ∈ (putF f v fs).map (·.1)
  | [] => ⟨by simp [putF], fun g h => by simp at h⟩
  | (k, x) :: r => by
    obtain ⟨i1, i2⟩ := keys_putF f v r
    rw [show putF f v ((k, x) :: r) = (if k = f then (k, v) :: r else (k, x) :: putF f v r) from rfl]
    by_cases hk : k = f
    · rw [if_pos hk]
      subst hk
      exact ⟨by simp, fun g h => by simpa using h⟩
    · rw [if_neg hk]
      refine ⟨?_, fun g h => ?_⟩
      · rw [List.map_cons]
        exact List.mem_cons_of_mem _ i1
      · rw [List.map_cons] at h ⊢
        rcases List.mem_cons.mp h with e | e
        · exact List.mem_cons.mpr (.inl e)
        · exact List.mem_cons_of_mem _ (i2 g e)
theorem length_putF (f : Str) (v : V) : ∀ fs : List (Str × V), (putF f v fs).length ≤ fs.length + 1
  | [] => by simp [putF]
  | (k, x) :: r => by
    have ih := length_putF f v r
    rw [show putF f v ((k, x) :: r) = (if k = f then (k, v) :: r else (k, x) :: putF f v r) from rfl]
    by_cases hk : k = f
    · rw [if_pos hk, List.length_cons, List.length_cons]; omega
    · rw [if_neg hk, List.length_cons, List.length_cons]; omega
theorem RelO.some_of {v : V} {o : Option Value} (r : RelO (some v) o) : ∃ u, o = some u ∧ RelV v u := by
 cases o with
 | none => exact (show False from r).elim
 | some u => exact ⟨u, rfl, r⟩
theorem RelO.none_of {o : Option Value} (r : RelO none o) : o = none := by
 cases o with
 | none => rfl
 | some u => exact (show False from r).elim
theorem handed_of {v : V} {u : Value} (r : RelV v u) : PySem.W.handedIn u = true := by
 cases v with
 | non => cases (show u = Value.none from r); rfl
 | bl b => cases (show u = Value.bool b from r); rfl
 | int i => obtain ⟨t, e⟩ := (show ∃ t, u = Value.int i t from r); cases e; rfl
 | str x => obtain ⟨t, e⟩ := (show ∃ t, u = Value.str x t from r); cases e; rfl
 | byt b => obtain ⟨t, e⟩ := (show ∃ t, u = Value.bytes b t from r); cases e; rfl
 | flt b => obtain ⟨t, e⟩ := (show ∃ t, u = Value.float b t from r); cases e; rfl
 | ref a => cases (show u = Value.ref a from r); rfl
 | ty n => cases (show u = Value.type n from r); rfl
section
variable {P : Program} {w : World} {H H' : Hp} {h h' : Heap} {a C dx : Addr} {fs fs' : List (Str × V)}
theorem ins_get (hok : HOk P w H h) (e : H a = some (.ins C dx fs)) : ∃ mA, ObjM h a dx C mA ∧ (∀ f, RelO (fs.lookup f) (mA f)) ∧ PySem.Within mA (fs.map (·.1)) ∧ fs.length ≤ 1000 ∧ H dx = some (.own a) := by
 obtain ⟨d, z, ne, ob, mA, n, r, q⟩ := (show ObjOk P w H h a (.ins C dx fs) from hok a _ e)
 exact ⟨mA, ⟨ob, n, ne⟩, r, q, z, d⟩
end
structure Cls (K : PySem.W.Frag) (C : Addr) : Prop where
 pg : PySem.W.plainGet K C Str.empty = true
 hd : PySem.W.hasDictIn K C = true
 po : PySem.W.plainOver K C = true
 sa : PySem.W.findIn K (.ref C) "__setattr__" = some (some (.builtin "object.__setattr__"))
theorem Cls.get {K : PySem.W.Frag} {C : Addr} (c : Cls K C) (f : Str) : PySem.W.plainGet K C f = true := c.pg
def NoAttr (K : PySem.W.Frag) (C : Addr) (f : Str) : Prop := PySem.W.findIn K (.ref C) f = some none
theorem NoAttr.taker {K : PySem.W.Frag} {C : Addr} {f : Str} (n : NoAttr K C f) : PySem.W.takerIn K C f = some none := by
 unfold PySem.W.takerIn
 rw [show PySem.W.findIn K (.ref C) f = some none from n]
 rfl
structure Meth (K : PySem.W.Frag) (C : Addr) (m : Str) (f : Addr) : Prop where
 at_ : PySem.W.findIn K (.ref C) m = some (some (.ref f))
 fn : PySem.W.isFn K (.ref f) = true
 kp : PySem.W.keepIn K (.ref f) = true
section
variable {X : Cx} {pins : List (Addr × Obj)} {σ : St} {H : Hp} {s : Shared} {a C dx : Addr} {fs : List (Str × V)} {f : Str} {v : V} {A : Around} {E : Value → Shared → Prop}
theorem getattr_ok {b : Bool} {Q : Value → Shared → Prop} (I : Inv X pins σ H s) (e : H a = some (.ins C dx fs)) (c : Cls X.K C) (n : NoAttr X.K C f) (l : fs.lookup f = some v)
  (h : ∀ u s', Inv X pins σ H s' → RelV v u → Q u s') : wpAny (model X.prog X.w) A (getAttr (.ref a) f b) Q E s := by
 obtain ⟨mA, O, r, _, _, _⟩ := ins_get I.hok e
 obtain ⟨u, hu, ru⟩ := RelO.some_of (v := v) (o := mA f) (by rw [← l]; exact r f)
 exact get_map I.kIn O (c.get f) c.hd n hu (handed_of ru) (h u _ (I.tok _) ru)
theorem getmeth_ok {m : Str} {g : Addr} {pl : Sem Bool} {Q : Value × List Value → Shared → Prop} (I : Inv X pins σ H s) (e : H a = some (.ins C dx fs)) (c : Cls X.K C) (k : Meth X.K C m g) (l : fs.lookup m = none)
  (h : Q (.ref g, [.ref a]) s) : wpAny (model X.prog X.w) A (getMethod (.ref a) m pl) Q E s := by
 obtain ⟨mA, O, r, _, _, _⟩ := ins_get I.hok e
 have hn : mA m = none := RelO.none_of (by rw [← l]; exact r m)
 exact get_meth I.kIn O (c.get m) k.at_ k.fn hn h
theorem setattr_ok {y : V} {u : Value} {Q : Unit → Shared → Prop} (I : Inv X pins σ H s) (e : H a = some (.ins C dx fs)) (c : Cls X.K C) (n : NoAttr X.K C f) (hl : fs.length < 1000) (ry : RelV y u)
  (h : ∀ s', Inv X pins σ (upd H a (.ins C dx (putF f y fs))) s' → Q () s') : wpAny (model X.prog X.w) A (setAttr (.ref a) f u) Q E s := by
 obtain ⟨mA, O, r, wi, _, ho⟩ := ins_get I.hok e
 have hz : (fs.map (·.1)).length ≤ sizeLine := by rw [List.length_map, sizeLine_eq]; omega
 refine set_map I.kIn O c.sa c.po n.taker c.hd wi hz fun h' O' sb => h _ ?_
 have hd : ∃ o, h'.get? dx = some o := let ⟨o, _, _, e', _⟩ := O'.ns; ⟨o, e'⟩
 refine I.write (x := a) (e := dx) (by rw [e]; exact True.intro) (.inr ho) (fun b q hb z => (sb.2 b hb).trans z) hd ?_
 refine ⟨by rw [upd_ne O.ne]; exact ho, ?_, O.ne, O'.obj, _, O'.ns, fun g => ?_, fun g hg => ?_⟩
 ·have := length_putF f y fs; omega
 ·show RelO ((putF f y fs).lookup g) (if g = f then some u else mA g)
  rw [lookup_putF]
  by_cases q : g = f
  ·rw [if_pos q, if_pos q]; exact ry
  ·rw [if_neg q, if_neg q]; exact r g
 ·by_cases q : g = f
  ·rw [q]; exact (keys_putF f y fs).1
  ·refine (keys_putF f y fs).2 g (wi g fun z => hg ?_)
   show (if g = f then some u else mA g) = none
   rw [if_neg q]; exact z
theorem Inv.made (I : Inv X pins σ H s) : Inv X pins σ (upd (upd H s.heap.objs.size (.own (s.heap.objs.size + 1))) (s.heap.objs.size + 1) (.ins C s.heap.objs.size []))
  { s with heap := (s.heap.push PySem.W.emptyDict).push (PySem.W.instObj C s.heap.objs.size) } := by
 have e1 : (s.heap.push PySem.W.emptyDict).get? s.heap.objs.size = some PySem.W.emptyDict := Heap.get?_push_size s.heap rfl
 have e2 : ((s.heap.push PySem.W.emptyDict).push (PySem.W.instObj C s.heap.objs.size)).get? (s.heap.objs.size + 1) = some (PySem.W.instObj C s.heap.objs.size) := by
  have := Heap.get?_push_size (s.heap.push PySem.W.emptyDict) (o := PySem.W.instObj C s.heap.objs.size) rfl
  rwa [Heap.size_push] at this
 have e3 : (s.heap.push PySem.W.emptyDict).Ns s.heap.objs.size (fun _ => none) := ⟨PySem.W.emptyDict, #[], _, e1, rfl, (fun e he => absurd he (by simp)), fun _ => rfl⟩
 have I1 := I.laid (a := s.heap.objs.size) (o := .own (s.heap.objs.size + 1)) (h' := s.heap.push PySem.W.emptyDict) (t' := s.toks) (fun b u q => Heap.get?_push_of_some _ q) (Nat.le_refl _) ⟨_, e1⟩
 refine I1.laid (a := s.heap.objs.size + 1) (o := .ins C s.heap.objs.size []) (t' := s.toks) (fun b u q => Heap.get?_push_of_some _ q) (Nat.le_of_eq (Heap.size_push _ _)) ?_
 have ne : s.heap.objs.size ≠ s.heap.objs.size + 1 := Nat.ne_of_lt (Nat.lt_succ_self _)
 refine ⟨by rw [upd_ne ne, upd_same], Nat.zero_le _, ne, e2, fun _ => none, (Heap.Ns1.of_empty e3).at fun o q => Heap.get?_push_of_some _ q, fun _ => True.intro, fun y hy => absurd rfl hy⟩
theorem attr_of {prog : Program} {w : World} {env : Env} {e : Expr} {f : Str} {pos : Pos} {s : Shared} {Q : Value → Shared → Prop} (hb : attributeBase e f env (eval e env) = eval e env)
  (h : wpAny (model prog w) A (eval e env) (fun o s₁ => wpAny (model prog w) A (getAttr o f true) Q E s₁) E s) : wpAny (model prog w) A (eval (.Attribute e f pos) env) Q E s :=
 Attribute_any_ h (by rw [arm_eval_Attribute, hb])
end
def tFld (K : PySem.W.Frag) (ta : TE) (f : Str) : TE := fun σ H Q => ta σ H fun x H1 => ∃ a C dx fs v, x = .ref a ∧ H1 a = some (.ins C dx fs) ∧ Cls K C ∧ NoAttr K C f ∧ fs.lookup f = some v ∧ Q v H1
def sFld (K : PySem.W.Frag) (ta tv : TE) (f : Str) : TS := fun D σ H => tv σ H fun y H1 => ta σ H1 fun x H2 => ∃ a C dx fs, x = .ref a ∧ H2 a = some (.ins C dx fs) ∧ Cls K C ∧ NoAttr K C f ∧ fs.length < 1000 ∧
 D.nx σ (upd H2 a (.ins C dx (putF f y fs)))
section
variable {X : Cx} {o e value : Expr} {f : Str} {pos pos' tpos : Pos} {ta tv : TE}
theorem pe_fld (he : PE X e ta) (hb : attributeBase e f X.env (eval e X.env) = eval e X.env) : PE X (.Attribute e f pos) (tFld X.K ta f) := by
 intro pins s σ H Q I h
 refine attr_of hb (thn (he pins s σ H _ I h) fun u s1 ⟨x, H1, I1, rx, a, C, dx, fs, v, ex, ea, c, n, l, q⟩ => ?_)
 subst ex
 obtain rfl : u = Value.ref a := rx
 exact getattr_ok I1 ea c n l fun u' s2 I2 ru => ⟨v, H1, I2, ru, q⟩
theorem ps_fld (ha : PE X o ta) (hv : PE X value tv) (hs : swapsWith value (some (.Attribute o f pos')) pos.line X.env = pure false) : PS X (.Assign [.Attribute o f pos'] value pos) (sFld X.K ta tv f) := by
 intro pins s σ H D I h
 refine plainObj_wpAny_Assign_Attribute (thn (hv pins s σ H _ I h) fun u s1 ⟨y, H1, I1, ry, q⟩ => thn (ha pins s1 σ H1 _ I1 q) fun ov s2 ⟨x, H2, I2, rx, a, C, dx, fs, ex, ea, c, n, l, q2⟩ => ?_) hs
 subst ex
 obtain rfl : ov = Value.ref a := rx
 exact setattr_ok I2 ea c n l ry fun s3 I3 => ⟨σ, _, I3, q2⟩
theorem methcall_of {pl : Sem Bool} {m : Str} {apos : Pos} {args : List Expr} {pins : List (Addr × Obj)} {s : Shared} {σ : St} {H : Hp} {Q : Value → Shared → Prop} {te : TE} (he : PE X e te) (I : Inv X pins σ H s)
  (h : te σ H fun x H1 => ∃ a C dx fs g, x = .ref a ∧ H1 a = some (.ins C dx fs) ∧ Cls X.K C ∧ Meth X.K C m g ∧ fs.lookup m = none ∧
   ∀ s1, Inv X pins σ H1 s1 → wpAny (model X.prog X.w) X.A (callWith pos (.ref g) [.ref a] (backTo pos (starEach args X.env)) (backToKw pos (keywordEach [] X.env))) Q X.xe s1)
  (ht : eval (.Call (.Attribute e m apos) args [] pos) X.env = (do
   let ov ← eval e X.env
   standAt apos.atName
   let (f, first) ← holding [ov] (getMethod ov m pl)
   callWith pos f first (backTo pos (starEach args X.env)) (backToKw pos (keywordEach [] X.env)))) :
  wpAny (model X.prog X.w) X.A (eval (.Call (.Attribute e m apos) args [] pos) X.env) Q X.xe s := by
 refine PySem.W.methodCall_KW (pl := pl) (thn (he pins s σ H _ I h) fun u s1 ⟨x, H1, I1, rx, a, C, dx, fs, g, ex, ea, c, k, l, q⟩ => ?_) ht
 subst ex
 obtain rfl : u = Value.ref a := rx
 exact getmeth_ok I1 ea c k l (q s1 I1)
end
section
variable {X : Cx} {pins : List (Addr × Obj)} {σ : St} {H : Hp} {s : Shared} {A : Around} {E : Value → Shared → Prop} {Q : Value → Shared → Prop} {c : Value} {b : Bool}
inductive TyOf (K : PySem.W.Frag) (H : Hp) : V → Value → Prop where
 | non : TyOf K H .non (.type "NoneType")
 | bl (x : Bool) : TyOf K H (.bl x) (.type "bool")
 | int (i : Int) : TyOf K H (.int i) (.type "int")
 | str (x : Str) : TyOf K H (.str x) (.type "str")
 | flt (x : UInt64) : TyOf K H (.flt x) (.type "float")
 | lst {a : Addr} {xs : List V} (e : H a = some (.lst xs)) : TyOf K H (.ref a) (.type "list")
 | frz {a : Addr} {o : Obj} {xs : List V} (e : H a = some (.frz o (.lst xs))) : TyOf K H (.ref a) (.type "list")
 | tup {a : Addr} {xs : List V} (e : H a = some (.tup xs)) : TyOf K H (.ref a) (.type "tuple")
 | dK {a : Addr} {kvs : List (Key × V)} (e : H a = some (.dK kvs)) : TyOf K H (.ref a) (.type "dict")
 | dT {a : Addr} {kvs : List (List Key × V)} (e : H a = some (.dT kvs)) : TyOf K H (.ref a) (.type "dict")
 | ins {a C dx : Addr} {fs : List (Str × V)} (e : H a = some (.ins C dx fs)) (cl : Cls K C) (ha : PySem.W.findIn K (.ref C) "__class__" = some (some (.builtin "object.__class__")))
   (hn : PySem.W.specialIn K (.builtin "object.__class__") "__get__" = some (some (.builtin "getset_descriptor.__get__"))) (htk : PySem.W.takesIn K (.builtin "object.__class__") = some true)
   (hm : PySem.W.mroIn K C (.type "object") = some true) : TyOf K H (.ref a) (.ref C)
theorem isinst_ok {x : V} {u t : Value} (I : Inv X pins σ H s) (rx : RelV x u) (ty : TyOf X.K H x t) (e : PySem.W.kitOne X.K t c = some b) (h : ∀ tk, Q (.bool b) { s with toks := tk }) :
  wpAny (model X.prog X.w) A (call (.builtin "isinstance") [u, c]) Q E s := by
 cases ty with
 | non => cases (show u = Value.none from rx); exact PySem.W.kia_one PySem.W.kitx_none I.kIn True.intro e (fun z => nomatch z) h
 | bl y => cases (show u = Value.bool y from rx); exact PySem.W.kia_one PySem.W.kitx_bool I.kIn True.intro e (fun z => nomatch z) h
 | int i => obtain ⟨t, q⟩ := (show ∃ t, u = Value.int i t from rx); cases q; exact PySem.W.kia_one PySem.W.kitx_int I.kIn True.intro e (fun z => nomatch z) h
 | str y => obtain ⟨t, q⟩ := (show ∃ t, u = Value.str y t from rx); cases q; exact PySem.W.kia_one PySem.W.kitx_str I.kIn True.intro e (fun z => nomatch z) h
 | flt y => obtain ⟨t, q⟩ := (show ∃ t, u = Value.float y t from rx); cases q; exact PySem.W.kia_one PySem.W.kitx_float I.kIn True.intro e (fun z => nomatch z) h
 | @lst a xs ea =>
  cases (show u = Value.ref a from rx)
  obtain ⟨_, _, n, _, h1⟩ := (show ObjOk X.prog X.w H s.heap a (.lst xs) from I.hok a _ ea)
  exact PySem.W.kia_one PySem.W.kitx_list I.kIn ⟨_, h1, rfl⟩ e (fun z => nomatch z) h
 | @frz a ob xs ea =>
  cases (show u = Value.ref a from rx)
  obtain ⟨_, _, _, n, _, h1⟩ := (show ObjOk X.prog X.w H s.heap a (.frz ob (.lst xs)) from I.hok a _ ea)
  exact PySem.W.kia_one PySem.W.kitx_list I.kIn ⟨_, h1, rfl⟩ e (fun z => nomatch z) h
 | @tup a xs ea =>
  cases (show u = Value.ref a from rx)
  obtain ⟨_, _, _, p⟩ := (show ObjOk X.prog X.w H s.heap a (.tup xs) from I.hok a _ ea)
  obtain ⟨o, h1, h2, _⟩ := p
  exact PySem.W.kia_one PySem.W.kitx_tuple I.kIn ⟨o, h1, h2⟩ e (fun z => nomatch z) h
 | @dK a kvs ea =>
  cases (show u = Value.ref a from rx)
  obtain ⟨_, _, vs, _, p⟩ := (show ObjOk X.prog X.w H s.heap a (.dK kvs) from I.hok a _ ea)
  obtain ⟨o, es, ep, h1, h2, _⟩ := p
  exact PySem.W.kia_one PySem.W.kitx_dict I.kIn ⟨o, h1, h2.1⟩ e (fun z => nomatch z) h
 | @dT a kvs ea =>
  cases (show u = Value.ref a from rx)
  obtain ⟨_, _, xs, _, o, es, ep, h1, h2, _⟩ := (show ObjOk X.prog X.w H s.heap a (.dT kvs) from I.hok a _ ea)
  exact PySem.W.kia_one PySem.W.kitx_dict I.kIn ⟨o, h1, h2.1⟩ e (fun z => nomatch z) h
 | @ins a C dx fs ea cl ha hn htk hm =>
  cases (show u = Value.ref a from rx)
  obtain ⟨mA, O, _⟩ := ins_get I.hok ea
  obtain ⟨od, J, _⟩ := O.look
  exact PySem.W.kia_one (PySem.W.kitx_own (cl.get _) cl.hd ha hn htk hm) I.kIn J e (fun z => nomatch z) h
end
end L2
namespace L2
open PySem PySem.Spec PyProof.Rows
structure Room (k : Nat) (A : Around) : Prop where
 hd : A.handled = none
 dp : A.depth + 3 * k + 5 < recursionLimit
 un : A.units + 16 * k + 200 < cLine
theorem Room.mono {j k : Nat} {A : Around} (r : Room k A) (h : j ≤ k) : Room j A := ⟨r.hd, by have := r.dp; omega, by have := r.un; omega⟩
theorem Room.deeper {k : Nat} {A : Around} (r : Room (k + 1) A) (env : Env) : Room k (A.deeper env) :=
 ⟨r.hd, by have := r.dp; show A.depth + 1 + 3 * k + 5 < _; omega, by have := r.un; show A.units + 3 + 16 * k + 200 < _; omega⟩
theorem Room.in1 {k : Nat} {A : Around} (r : Room (k + 1) A) : Room k A.in1 :=
 ⟨r.hd, by have := r.dp; show A.depth + 3 * k + 5 < _; omega, by have := r.un; show A.units + 1 + 16 * k + 200 < _; omega⟩
theorem make_depth {A : Around} {C : Addr} {us : List Value} {kw : List (Str × Value)} : (A.under (.builtin "type.__call__" ⟨.ref C :: us, kw⟩)).depth = A.depth + 1 := by
 first | rfl | simp [Around.under, Code.weight, Code.isCreation, Code.isGuard, Code.isCaller, Code.frames, Code.isFrame, guardIds]
theorem make_units {A : Around} {C : Addr} {us : List Value} {kw : List (Str × Value)} : (A.under (.builtin "type.__call__" ⟨.ref C :: us, kw⟩)).units = A.units + 1 := by
 first | rfl | simp [Around.under, Code.cUnits, Code.frames, Code.isFrame]
theorem Room.make {k : Nat} {A : Around} (r : Room (k + 1) A) (C : Addr) (us : List Value) (kw : List (Str × Value)) : Room k (A.under (.builtin "type.__call__" ⟨.ref C :: us, kw⟩)) :=
 ⟨r.hd, by have := r.dp; rw [make_depth]; omega, by have := r.un; rw [make_units]; omega⟩
theorem Room.depth {k : Nat} {A : Around} (r : Room k A) : A.depth < recursionLimit := by have := r.dp; omega
theorem Room.units {k : Nat} {A : Around} (r : Room k A) : A.units + 64 < cLine := by have := r.un; omega
def tNil : TA := fun _ H Q => Q [] H
def tCons (ta : TE) (tr : TA) : TA := fun σ H Q => ta σ H fun x H1 => tr σ H1 fun xs H2 => Q (x :: xs) H2
section
variable {X : Cx} {e : Expr} {es : List Expr} {te : TE} {t : TA} {pos : Pos}
theorem pa_nil : PA X [] tNil := fun _ _ _ _ H Q I h => Calls.spliced_nil ⟨[], H, I, .nil, h⟩
theorem pa_cons (ha : PE X e te) (hr : PA X es t) (hs : starEach (e :: es) X.env = (false, eval e X.env) :: starEach es X.env := by rfl) : PA X (e :: es) (tCons te t) := by
 intro pos pins s σ H Q I h
 rw [hs]
 show wpAny _ _ (spliced ((false, eval e X.env) :: backTo pos (starEach es X.env))) _ _ s
 refine Calls.spliced_cons (thn (ha pins s σ H _ I h) fun u s1 ⟨x, H1, I1, r1, q1⟩ => ?_)
 exact thn (hr pos pins s1 σ H1 _ I1 q1) fun us s2 ⟨xs, H2, I2, r2, q2⟩ => ⟨x :: xs, H2, I2, .cons r1 r2, q2⟩
def tTup (t : TA) : TE := fun σ H Q => t σ H fun xs H1 => xs.length ≤ sizeLine ∧ ∀ p, H1 p = none → Q (.ref p) (upd H1 p (.tup xs))
def tLst (t : TA) : TE := fun σ H Q => t σ H fun xs H1 => xs.length ≤ sizeLine ∧ ∀ p, H1 p = none → Q (.ref p) (upd H1 p (.lst xs))
theorem pe_tup {x1} (h : PA X es t) : PE X (.Tuple es x1 pos) (tTup t) := by
 intro pins s σ H Q I hq
 refine wpAny_Tuple_spliced (thn (h pos pins s σ H _ I hq) fun us s1 ⟨xs, H1, I1, r, z, q⟩ => ⟨by rw [← r.length]; exact z, ?_⟩)
 have hf : H1 s1.heap.objs.size = none := I1.hok.fresh (Nat.le_refl _)
 refine ⟨.ref s1.heap.objs.size, upd H1 s1.heap.objs.size (.tup xs), I1.laid (t' := s1.toks) (fun b u e => Heap.get?_push_of_some _ e) (Nat.le_refl _) ?_, rfl, q _ hf⟩
 exact ⟨z, us, r, ⟨_, Heap.get?_push_size _ rfl, rfl, _, rfl⟩⟩
theorem pe_lst (h : PA X es t) : PE X (.List es pos) (tLst t) := by
 intro pins s σ H Q I hq
 refine wpAny_List_spliced (thn (h pos pins s σ H _ I hq) fun us s1 ⟨xs, H1, I1, r, z, q⟩ => ⟨by rw [← r.length]; exact z, ?_⟩)
 have hf : H1 s1.heap.objs.size = none := I1.hok.fresh (Nat.le_refl _)
 refine ⟨.ref s1.heap.objs.size, upd H1 s1.heap.objs.size (.lst xs), I1.laid (t' := s1.toks) (fun b u e => Heap.get?_push_of_some _ e) (Nat.le_refl _) ?_, rfl, q _ hf⟩
 exact ⟨z, us, 0, r, Heap.get?_push_size _ rfl⟩
end
abbrev Sp := List V → Hp → VK → XK → Prop
abbrev CXT := List Env → Hp → Shared → XK → Value → Shared → Prop
structure Env0 (P : Program) (w : World) (K : PySem.W.Frag) (mg : Str → Option Value) (base : Heap) (A : Around) (outer : List Env) (s : Shared) (H : Hp) : Prop where
 frames : A.frames = some outer
 mod : Mod K mg base
 bs : ∀ b o, base.get? b = some o → s.heap.get? b = some o ∧ H b = none
 bsz : base.objs.size ≤ s.heap.objs.size
 funs : s.heap.FunFrames base outer
 frf : ∀ b ∈ frs outer, H b = none
 hok : HOk P w H s.heap
 bare : AllBare s.gens
def CE (outer : List Env) (P : Program) (w : World) (H : Hp) (s : Shared) (Q : VK) (u : Value) (s' : Shared) : Prop :=
 ∃ v H', s'.os = s.os ∧ AllBare s'.gens ∧ Un (frs outer) [] H H' s.heap s'.heap ∧ HOk P w H' s'.heap ∧ RelV v u ∧ Q v H'
def CR (CX : CXT) (outer : List Env) (P : Program) (w : World) (H : Hp) (s : Shared) (Q : VK) (E : XK) (r : Result) (s' : Shared) : Prop :=
 match r with
 | .ok (.ret u) => CE outer P w H s Q u s'
 | .ok _ => False
 | .error e => CX outer H s E e s'
structure FnOk (P : Program) (w : World) (K : PySem.W.Frag) (mg : Str → Option Value) (base : Heap) (CX : CXT) (k : Nat) (f : Addr) (fd : FuncData) (ps : List Str) (sp : Sp) : Prop where
 len : ∀ vs H Q E, sp vs H Q E → vs.length = ps.length
 run : ∀ (A : Around) (outer : List Env) (s : Shared) (H : Hp) (args : Args) (us : List Value) (vs : List V) (Q : VK) (E : XK), Room k A → Env0 P w K mg base A outer s H → BindsTo s fd args (ps.zip us) → Vals vs us → sp vs H Q E →
  codeAny (model P w) A (.call (.ref f) args) (CR CX outer P w H s Q E) s
theorem Env0.make {P : Program} {w : World} {K : PySem.W.Frag} {mg : Str → Option Value} {base : Heap} {A : Around} {outer : List Env} {s : Shared} {H : Hp} (e : Env0 P w K mg base A outer s H) (C : Addr) (us : List Value) (kw : List (Str × Value)) :
  Env0 P w K mg base (A.under (.builtin "type.__call__" ⟨.ref C :: us, kw⟩)) outer s H := ⟨by first | exact e.frames | (simpa [Around.under, Code.envs, Code.isFrame, pushEnvs] using e.frames), e.mod, e.bs, e.bsz, e.funs, e.frf, e.hok, e.bare⟩
theorem Env0.in1 {P : Program} {w : World} {K : PySem.W.Frag} {mg : Str → Option Value} {base : Heap} {A : Around} {outer : List Env} {s : Shared} {H : Hp} (e : Env0 P w K mg base A outer s H) :
  Env0 P w K mg base A.in1 outer s H := ⟨e.frames, e.mod, e.bs, e.bsz, e.funs, e.frf, e.hok, e.bare⟩
section
variable {X : Cx} {pins : List (Addr × Obj)} {σ : St} {H : Hp} {s s' : Shared}
theorem Inv.env0 (I : Inv X pins σ H s) : Env0 X.prog X.w X.K X.mg X.base X.A X.stack s H :=
 ⟨I.ok.frames, I.ok.mod, I.bs, Nat.le_trans I.ok.bsz I.sz, I.stack, I.stkFree, I.hok, I.bare⟩
theorem Inv.after {Q : VK} {u : Value} (I : Inv X pins σ H s) (h : CE X.stack X.prog X.w H s Q u s') : EP X pins σ Q u s' := by
 obtain ⟨v, H', os, bare, un, hok, r, q⟩ := h
 obtain ⟨hh, g, d, t, os'⟩ := s'
 obtain rfl : os' = s.os := os
 exact ⟨v, H', I.call (h' := hh) (g' := g) (d' := d) (t' := t) (ch := []) un hok bare (fun b z => absurd z (by simp)), r, q⟩
end
def tCall (sp : Sp) (dvs : List V) (E : XK) (t : TA) : TE := fun σ H Q => t σ H fun vs H1 => sp (vs ++ dvs) H1 Q E
def tMeth (C : Addr) (m : Str) (sp : Sp) (dvs : List V) (E : XK) (ta : TE) (t : TA) : TE := fun σ H Q => ta σ H fun x H1 => ∃ a dx fs, x = .ref a ∧ H1 a = some (.ins C dx fs) ∧ fs.lookup m = none ∧
 t σ H1 fun vs H2 => sp (x :: (vs ++ dvs)) H2 Q E
def tMake (C : Addr) (sp : Sp) (dvs : List V) (E : XK) (t : TA) : TE := fun σ H Q => t σ H fun vs H1 => ∀ x dx, H1 x = none → H1 dx = none → dx ≠ x →
 sp (.ref x :: (vs ++ dvs)) (upd (upd H1 dx (.own x)) x (.ins C dx [])) (fun v H2 => v = .non ∧ Q (.ref x) H2) E
def Binds (K : PySem.W.Frag) (fd : FuncData) (ps : List Str) (ds : List Value) : Prop :=
 ∀ (s : Shared) (us : List Value), K.In s.heap → (us ++ ds).length = ps.length → BindsTo s fd ⟨us, []⟩ (ps.zip (us ++ ds))
theorem Binds.all {K : PySem.W.Frag} {fd : FuncData} {ps : List Str} (h : ∀ us : List Value, us.length = ps.length → bindArgs fd ⟨us, []⟩ = pure (ps.zip us)) : Binds K fd ps [] := fun s us _ hl => by
 rw [List.append_nil] at hl ⊢
 exact .of_eq (h us hl)
def Passes (CX : CXT) (X : Cx) (E : XK) : Prop := ∀ (pins : List (Addr × Obj)) (σ : St) (H : Hp) (s : Shared) (e : Value) (s' : Shared), Inv X pins σ H s → CX X.stack H s E e s' → X.xe e s'
section
variable {X : Cx} {CX : CXT} {k : Nat} {f C : Addr} {fd : FuncData} {ps : List Str} {sp : Sp} {dvs : List V} {ds : List Value} {E : XK} {x m : Str} {p pos apos : Pos} {e o : Expr} {es : List Expr} {ta : TE} {t : TA}
theorem run_fn {pins : List (Addr × Obj)} {σ : St} {H : Hp} {s : Shared} {Q : VK} {us : List Value} {vs : List V} (F : FnOk X.prog X.w X.K X.mg X.base CX k f fd ps sp) (hr : Room k X.A) (hb : Binds X.K fd ps ds) (hd : Vals dvs ds) (hx : Passes CX X E)
  (I : Inv X pins σ H s) (r : Vals vs us) (h : sp (vs ++ dvs) H Q E) : wpAny (model X.prog X.w) X.A (call (.ref f) us) (EP X pins σ Q) X.xe s := by
 have r2 : Vals (vs ++ dvs) (us ++ ds) := r.append hd
 have hl : (us ++ ds).length = ps.length := by rw [← r2.length]; exact F.len _ _ _ _ h
 refine wpAny_call (codeAny_mono (F.run X.A X.stack s H ⟨us, []⟩ (us ++ ds) (vs ++ dvs) Q E hr I.env0 (hb s us I.kIn hl) r2 h) fun r s' hq => ?_)
 cases r with
 | error e => exact hx pins σ H s e s' I hq
 | ok fl =>
  cases fl with
  | ret u => exact I.after hq
  | next => exact False.elim hq
  | brk => exact False.elim hq
  | cont => exact False.elim hq
theorem pe_call (F : FnOk X.prog X.w X.K X.mg X.base CX k f fd ps sp) (hr : Room k X.A) (hg : Gl X x) (hm : X.mg x = some (.ref f)) (hk : PySem.W.keepIn X.K (.ref f) = true) (hb : Binds X.K fd ps ds) (hd : Vals dvs ds) (hx : Passes CX X E)
  (ha : PA X (e :: es) t) (hdb : (x == ("__debug__" : Str)) = false := by decide) (he : starEach (e :: es) X.env = (false, eval e X.env) :: starEach es X.env := by rfl) (hpl : (backTo pos (starEach es X.env)).any (·.1) = false := by rfl) :
  PE X (.Call (.Name x p) (e :: es) [] pos) (tCall sp dvs E t) := by
 intro pins s σ H Q I h
 refine wpAny_Call_Name_kw (ld_glob I hg hm ?_ hdb)
 refine PySem.W.callWith_K (h₀ := X.base) I.ok.mod.kin hk (thn (ha pos pins s σ H _ I h) fun us s1 ⟨vs, H1, I1, r, q⟩ => ⟨I1.kIn, ?_⟩) he hpl
 exact run_fn F hr hb hd hx I1 r q
theorem pe_meth {pl : Sem Bool} (he : PE X o ta) (c : Cls X.K C) (hm : Meth X.K C m f) (F : FnOk X.prog X.w X.K X.mg X.base CX k f fd ps sp) (hr : Room k X.A) (hb : Binds X.K fd ps ds) (hd : Vals dvs ds) (hx : Passes CX X E) (ha : PA X (e :: es) t)
  (hst : starEach (e :: es) X.env = (false, eval e X.env) :: starEach es X.env := by rfl) (hpl : (backTo pos (starEach es X.env)).any (·.1) = false := by rfl)
  (ht : eval (.Call (.Attribute o m apos) (e :: es) [] pos) X.env = (do
   let ov ← eval o X.env
   standAt apos.atName
   let (f, first) ← holding [ov] (getMethod ov m pl)
   callWith pos f first (backTo pos (starEach (e :: es) X.env)) (backToKw pos (keywordEach [] X.env))) := by rfl) :
  PE X (.Call (.Attribute o m apos) (e :: es) [] pos) (tMeth C m sp dvs E ta t) := by
 intro pins s σ H Q I h
 refine PySem.W.methodCall_KW (pl := pl) (thn (he pins s σ H _ I h) fun u s1 ⟨x, H1, I1, rx, a, dx, fs, ex, ea, l, q⟩ => ?_) ht
 subst ex
 obtain rfl : u = Value.ref a := rx
 refine getmeth_ok I1 ea c hm l ?_
 refine PySem.W.callWith_K (first := [.ref a]) (h₀ := X.base) I.ok.mod.kin hm.kp (thn (ha pos pins s1 σ H1 _ I1 q) fun us s2 ⟨vs, H2, I2, r, q2⟩ => ⟨I2.kIn, ?_⟩) hst hpl
 exact run_fn (us := .ref a :: us) (vs := .ref a :: vs) F hr hb hd hx I2 (.cons rfl r) q2
theorem pe_meth0 {pl : Sem Bool} (he : PE X o ta) (c : Cls X.K C) (hm : Meth X.K C m f) (F : FnOk X.prog X.w X.K X.mg X.base CX k f fd ps sp) (hr : Room k X.A) (hb : Binds X.K fd ps ds) (hd : Vals dvs ds) (hx : Passes CX X E)
  (ht : eval (.Call (.Attribute o m apos) [] [] pos) X.env = (do
   let ov ← eval o X.env
   standAt apos.atName
   let (f, first) ← holding [ov] (getMethod ov m pl)
   callWith pos f first (backTo pos (starEach [] X.env)) (backToKw pos (keywordEach [] X.env))) := by rfl) :
  PE X (.Call (.Attribute o m apos) [] [] pos) (tMeth C m sp dvs E ta tNil) := by
 intro pins s σ H Q I h
 refine PySem.W.methodCall_KW (pl := pl) (thn (he pins s σ H _ I h) fun u s1 ⟨x, H1, I1, rx, a, dx, fs, ex, ea, l, q⟩ => ?_) ht
 subst ex
 obtain rfl : u = Value.ref a := rx
 refine getmeth_ok I1 ea c hm l ?_
 exact PySem.W.callWith_K0 (first := [.ref a]) I1.kIn hm.kp (run_fn (us := [.ref a]) (vs := [.ref a]) F hr hb hd hx I1 (.cons rfl .nil) q)
structure Mk (K : PySem.W.Frag) (C f : Addr) : Prop where
 makes : PySem.W.makesIn K C = true
 init : PySem.W.findIn K (.ref C) "__init__" = some (some (.ref f))
 fn : PySem.W.isFn K (.ref f) = true
 kp : PySem.W.keepIn K (.ref C) = true
theorem run_make {pins : List (Addr × Obj)} {σ : St} {H : Hp} {s : Shared} {Q : VK} {us : List Value} {vs : List V} (M : Mk X.K C f) (F : FnOk X.prog X.w X.K X.mg X.base CX k f fd ps sp) (hr : Room (k + 1) X.A) (hb : Binds X.K fd ps ds) (hd : Vals dvs ds)
  (hx : Passes CX X E) (I : Inv X pins σ H s) (r : Vals vs us)
  (h : ∀ x dx, H x = none → H dx = none → dx ≠ x → sp (.ref x :: (vs ++ dvs)) (upd (upd H dx (.own x)) x (.ins C dx [])) (fun v H2 => v = .non ∧ Q (.ref x) H2) E) :
  wpAny (model X.prog X.w) X.A (call (.ref C) us) (EP X pins σ Q) X.xe s := by
 have hq := h (s.heap.objs.size + 1) s.heap.objs.size (I.hok.fresh (Nat.le_succ _)) (I.hok.fresh (Nat.le_refl _)) (Nat.ne_of_lt (Nat.lt_succ_self _))
 have I2 := Inv.made (C := C) I
 have r2 : Vals (V.ref (s.heap.objs.size + 1) :: (vs ++ dvs)) (Value.ref (s.heap.objs.size + 1) :: (us ++ ds)) := .cons rfl (r.append hd)
 have hl : (Value.ref (s.heap.objs.size + 1) :: us ++ ds).length = ps.length := by
  have e := r2.length
  rw [F.len _ _ _ _ hq] at e
  exact e.symm
 refine wpAny_call (make_map (f := f) I.kIn M.makes M.init (beq_iff_eq.mp M.fn) (codeAny_mono (F.run _ X.stack _ _ ⟨Value.ref (s.heap.objs.size + 1) :: us, []⟩ (Value.ref (s.heap.objs.size + 1) :: (us ++ ds)) _ _ E (hr.make C us [])
  (I2.env0.make C us []) (hb _ (Value.ref (s.heap.objs.size + 1) :: us) I2.kIn hl) r2 hq) fun r s' hq' => ?_))
 cases r with
 | error e => exact hx pins σ _ _ e s' I2 hq'
 | ok fl =>
  cases fl with
  | ret u =>
   obtain ⟨v, H', I3, rv, ev, q3⟩ := I2.after hq'
   subst ev
   exact ⟨rv, ⟨V.ref (s.heap.objs.size + 1), H', I3, rfl, q3⟩⟩
  | next => exact False.elim hq'
  | brk => exact False.elim hq'
  | cont => exact False.elim hq'
theorem pe_make (M : Mk X.K C f) (F : FnOk X.prog X.w X.K X.mg X.base CX k f fd ps sp) (hr : Room (k + 1) X.A) (hg : Gl X x) (hm : X.mg x = some (.ref C)) (hb : Binds X.K fd ps ds) (hd : Vals dvs ds) (hx : Passes CX X E)
  (ha : PA X (e :: es) t) (hdb : (x == ("__debug__" : Str)) = false := by decide) (he : starEach (e :: es) X.env = (false, eval e X.env) :: starEach es X.env := by rfl) (hpl : (backTo pos (starEach es X.env)).any (·.1) = false := by rfl) :
  PE X (.Call (.Name x p) (e :: es) [] pos) (tMake C sp dvs E t) := by
 intro pins s σ H Q I h
 refine wpAny_Call_Name_kw (ld_glob I hg hm ?_ hdb)
 refine PySem.W.callWith_K (h₀ := X.base) I.ok.mod.kin M.kp (thn (ha pos pins s σ H _ I h) fun us s1 ⟨vs, H1, I1, r, q⟩ => ⟨I1.kIn, ?_⟩) he hpl
 exact run_make M F hr hb hd hx I1 r q
end
structure FnScope (N P : List Str) (sc : Scope) : Prop where
 kind : sc.kind = .function
 co : sc.isCoroutine = false
 gen : sc.isGenerator = false
 nd : N.Nodup
 pre : N.take P.length = P
 par : ∀ x ∈ P, sc.names.lookup x = some .local ∨ sc.names.lookup x = some .cell
 nofree : ∀ y ∈ sc.names, y.2 ≠ .free
theorem bindL_out {kindOf : Str → Option NameKind} {x : Str} : ∀ {binds : List (Str × Value)} {m : Str → Option Value}, (∀ v, (x, v) ∉ binds) → bindL kindOf binds m x = m x
  | [], _, _ => rfl
  | (n, v) :: r, m, h => by
    unfold bindL
    rw [bindL_out fun w hw => h w (List.mem_cons_of_mem _ hw)]
    split
    · have : x ≠ n := by rintro rfl; exact h v List.mem_cons_self
      simp [this]
    · rfl
theorem bindC_out {kindOf : Str → Option NameKind} {x : Str} : ∀ {binds : List (Str × Value)} {m : Str → Option Value}, (∀ v, (x, v) ∉ binds) → bindC kindOf binds m x = m x
  | [], _, _ => rfl
  | (n, v) :: r, m, h => by
    unfold bindC
    rw [bindC_out fun w hw => h w (List.mem_cons_of_mem _ hw)]
    split
    · rfl
    · have : x ≠ n := by rintro rfl; exact h v List.mem_cons_self
      simp [this]
theorem bindL_get {kindOf : Str → Option NameKind} {x : Str} {v : Value} : ∀ {P : List Str} {vs : List Value} {i : Nat} {m : Str → Option Value}, P.Nodup → P[i]? = some x → vs[i]? = some v → kindOf x = some .local →
  bindL kindOf (P.zip vs) m x = some v
 | [], _, _, _, _, h, _, _ => by simp at h
 | _ :: _, [], _, _, _, _, h, _ => by simp at h
 | p :: P, w :: vs, 0, m, nd, h1, h2, hk => by
  simp at h1 h2; subst h1; subst h2
  show bindL kindOf ((p, w) :: P.zip vs) m p = _
  unfold bindL
  rw [bindL_out fun v hv => (List.nodup_cons.mp nd).1 (List.of_mem_zip hv).1, if_pos hk]
  simp
 | p :: P, w :: vs, i + 1, m, nd, h1, h2, hk => by
  show bindL kindOf ((p, w) :: P.zip vs) m x = _
  unfold bindL
  exact bindL_get (i := i) (List.nodup_cons.mp nd).2 (by simpa using h1) (by simpa using h2) hk
theorem bindC_get {kindOf : Str → Option NameKind} {x : Str} {v : Value} : ∀ {P : List Str} {vs : List Value} {i : Nat} {m : Str → Option Value}, P.Nodup → P[i]? = some x → vs[i]? = some v → kindOf x ≠ some .local →
  bindC kindOf (P.zip vs) m x = some v
 | [], _, _, _, _, h, _, _ => by simp at h
 | _ :: _, [], _, _, _, _, h, _ => by simp at h
 | p :: P, w :: vs, 0, m, nd, h1, h2, hk => by
  simp at h1 h2; subst h1; subst h2
  show bindC kindOf ((p, w) :: P.zip vs) m p = _
  unfold bindC
  rw [bindC_out fun v hv => (List.nodup_cons.mp nd).1 (List.of_mem_zip hv).1, if_neg hk]
  simp
 | p :: P, w :: vs, i + 1, m, nd, h1, h2, hk => by
  show bindC kindOf ((p, w) :: P.zip vs) m x = _
  unfold bindC
  exact bindC_get (i := i) (List.nodup_cons.mp nd).2 (by simpa using h1) (by simpa using h2) hk
def start (N : List Str) (vs : List V) : St := vs.map some ++ List.replicate (N.length - vs.length) none
def cxOf (CX : CXT) (P : Program) (w : World) (K : PySem.W.Frag) (mg : Str → Option Value) (base : Heap) (N : List Str) (qual : Str) (scope : Scope) (f : Addr) (cd : Value) (A : Around) (outer : List Env) (s : Shared) (H : Hp) (E : XK) : Cx where
 prog := P
 w := w
 K := K
 mg := mg
 base := base
 A := A.deeper (envOfC qual scope s.heap.objs.size f cd)
 N := N
 s₀ := s
 H₀ := H
 env := envOfC qual scope s.heap.objs.size f cd
 outer := outer
 stack := envOfC qual scope s.heap.objs.size f cd :: outer
 ex := []
 calm := true
 fn := fun _ => true
 pn := []
 xe := fun e s' => wpAny (model P w) (A.deeper (envOfC qual scope s.heap.objs.size f cd)) (leaving (envOfC qual scope s.heap.objs.size f cd) e) (fun _ s'' => CX outer H s E e s'') (fun e' s'' => CX outer H s E e' s'') s'
theorem cell_has {sc : Scope} {n : Nat} {x : Str} (h : sc.names.lookup x = some .cell) : ∃ c, (cellsFrom n sc.names []).lookup x = some c := by
 have q := PySem.W.cellsFrom_some sc.names n [] (.inl h)
 exact Option.isSome_iff_exists.mp q
theorem inv_start {CX : CXT} {P : Program} {w : World} {K : PySem.W.Frag} {mg : Str → Option Value} {base : Heap} {N ps : List Str} {qual : Str} {scope : Scope} {f : Addr} {cd : Value} {A : Around} {outer : List Env} {s s1 : Shared} {H : Hp} {E : XK} {us : List Value} {vs : List V}
  (S : FnScope N ps scope) (hd : A.handled = none) (e0 : Env0 P w K mg base A outer s H) (hl : vs.length = ps.length) (r : Vals vs us)
  (x : InCallC s s.heap.objs.size (bindL (envOfC qual scope s.heap.objs.size f cd).kindOf (ps.zip us) fun _ => none) (cellsFrom (s.heap.objs.size + 1) scope.names []) (bindC (envOfC qual scope s.heap.objs.size f cd).kindOf (ps.zip us) fun _ => none) s1) :
  Inv (cxOf CX P w K mg base N qual scope f cd A outer s H E) [] (start N vs) H s1 := by
 have hpl : ps.length ≤ N.length := by have := congrArg List.length S.pre; rw [List.length_take] at this; omega
 obtain ⟨h1, tk, rfl, hk⟩ := x.done
 have noA : ∀ b : Addr, b ∉ (cxOf CX P w K mg base N qual scope f cd A outer s H E).ex := fun b z => absurd (show b ∈ ([] : List Addr) from z) (by simp)
 refine ⟨⟨e0.mod, S.kind, rfl, rfl, Nat.le_refl _, fun y z c h1 h2 => ?_, fun y hy => ?_, fun y c _ h => ?_, fun _ => hd, Around.frames_deeper e0.frames, .inr ⟨rfl, rfl⟩, fun b z => absurd z (noA b), e0.bs, e0.bsz, fun b _ _ => noA b, fun b z => absurd z (noA b), e0.funs, e0.frf⟩,
  rfl, e0.bare, Un.kept hk, ⟨_, x.toInCall.ns, fun i y v h1 h2 h3 => ?_⟩, fun y c h => ⟨_, x.cell y c h⟩, e0.hok.fresh (Nat.le_refl _), fun y c h => ?_, fun p hp => absurd (show p ∈ ([] : List (Addr × Obj)) from hp) (by simp), e0.hok.kept hk, ?_⟩
 ·exact name_of_addr x.apart (PySem.mem_of_lookup h1) (PySem.mem_of_lookup h2)
 ·have hy : scope.names.lookup y = some .cell ∨ scope.names.lookup y = some .free := hy
  rcases hy with hy | hy
  ·exact cell_has hy
  ·exact absurd rfl (S.nofree _ (PySem.mem_of_lookup hy))
 ·exact Nat.le_of_lt (x.above y c (PySem.mem_of_lookup h))
 ·have hi : i < vs.length := by
   unfold start at h2
   by_cases hi : i < vs.length
   ·exact hi
   ·rw [List.getElem?_append_right (by simpa using hi)] at h2
    rw [List.getElem?_replicate] at h2
    split at h2 <;> cases h2
  have ha : vs[i]? = some v := by
   unfold start at h2
   rw [List.getElem?_append_left (by simpa using hi), List.getElem?_map] at h2
   cases e : vs[i]? with
   | none => rw [e] at h2; cases h2
   | some a => rw [e] at h2; cases h2; rfl
  obtain ⟨u, hu, rv⟩ := r.get ha
  have hp : ps[i]? = some y := by
   rw [← S.pre, List.getElem?_take_of_lt (by omega)]; exact h1
  have ndP : ps.Nodup := by rw [← S.pre]; exact S.nd.sublist (List.take_sublist _ _)
  refine ⟨u, rv, ?_⟩
  rcases S.par y (List.mem_of_getElem? hp) with k | k
  ·exact .inl ⟨k, bindL_get ndP hp hu k⟩
  ·obtain ⟨c, e⟩ := cell_has (n := s.heap.objs.size + 1) k
   refine .inr ⟨.inl k, c, e, ?_⟩
   have q := x.cell y c e
   rw [bindC_get ndP hp hu (by show scope.names.lookup y ≠ _; rw [k]; decide)] at q
   exact q
 ·exact e0.hok.fresh (Nat.le_of_lt (x.above y c (PySem.mem_of_lookup h)))
 ·unfold start
  show _ = N.length
  rw [List.length_append, List.length_map, List.length_replicate]
  omega
theorem fn_of {CX : CXT} {P : Program} {w : World} {K : PySem.W.Frag} {mg : Str → Option Value} {base : Heap} {k : Nat} {f : Addr} {name qual : Str} {params : Arguments} {body : List Stmt} {scope : Scope} {dV kV doc pm cdv ct oc : Value} {an od : Option Addr}
  {osl : Array (Option Value)} {N ps : List Str} {sp : Sp} (lk : K.lookup f = some ⟨oc, od, .func (PySem.W.fnOf name qual params body scope dV kV doc pm an cdv ct), osl⟩) (hcd : PySem.W.codeIn K cdv qual = true) (S : FnScope N ps scope)
  (len : ∀ vs H Q E, sp vs H Q E → vs.length = ps.length)
  (hbody : ∀ (A : Around) (outer : List Env) (s : Shared) (H : Hp) (vs : List V) (Q : VK) (E : XK), Room k (A.deeper (envOfC qual scope s.heap.objs.size f cdv)) → sp vs H Q E →
   ∃ t, PSs (cxOf CX P w K mg base N qual scope f cdv A outer s H E) body t ∧ t { nx := fun _ H' => Q .non H', rt := Q } (start N vs) H) :
  FnOk P w K mg base CX (k + 1) f (PySem.W.fnOf name qual params body scope dV kV doc pm an cdv ct) ps sp := by
 refine ⟨len, fun A outer s H args us vs Q E hr e0 hb r hsp => ?_⟩
 have hl := len _ _ _ _ hsp
 have KX : K.In s.heap := e0.mod.kin.keeps fun b o e => (e0.bs b o e).1
 have lim : s.heap.NoLimit := e0.mod.nolimit.keeps fun b o e => (e0.bs b o e).1
 have hkind : ∀ y ∈ ps.zip us, scope.names.lookup y.1 = some .local ∨ (scope.names.lookup y.1 = some .cell ∧ ((cellsFrom (s.heap.objs.size + 1) scope.names []).lookup y.1).isSome = true) := fun ⟨n, v⟩ hy => by
  rcases S.par n (List.of_mem_zip hy).1 with q | q
  ·exact .inl q
  ·exact .inr ⟨q, PySem.W.cellsFrom_some _ _ _ (.inl q)⟩
 refine codeAny_call_function hr.depth (KX _ _ lk) rfl S.co S.gen rfl (PySem.W.codeRec_of KX hcd) (hb _ _ _ _ ?_)
 refine wpAny_newFunctionEnv_cells S.kind hkind fun env he s1 x => ?_
 subst he
 refine ⟨lim.keeps x.toInCall.keep, codeAny_func ?_⟩
 obtain ⟨t, ht, hq⟩ := hbody A outer s H vs Q E (hr.deeper _) hsp
 have I : Inv (cxOf CX P w K mg base N qual scope f cdv A outer s H E) [] (start N vs) H s1 := inv_start S hr.hd e0 hl r x
 refine wpAny_mono (ht [] s1 (start N vs) H _ I hq) (fun fl s' hs => ?_) fun e s' hs => hs
 have fin : ∀ {σ' : St} {H' : Hp} {v : V} {u : Value}, Inv (cxOf CX P w K mg base N qual scope f cdv A outer s H E) [] σ' H' s' → RelV v u → Q v H' → CE outer P w H s Q u s' :=
  fun {σ' H' v u} J rv q => ⟨v, H', J.os, J.bare, J.base, J.hok, rv, q⟩
 cases fl with
 | ret u =>
  obtain ⟨v, σ', H', J, rv, q⟩ := hs
  exact fin J rv q
 | next =>
  obtain ⟨σ', H', J, q⟩ := hs
  exact fin (v := V.non) (u := Value.none) J rfl q
 | brk =>
  obtain ⟨_, _, _, q⟩ := hs
  exact False.elim q
 | cont =>
  obtain ⟨_, _, _, q⟩ := hs
  exact False.elim q
end L2
namespace L2
open PySem PySem.Spec PyProof.Rows
section
variable {X : Cx} {x : Str} {p pos : Pos} {e : Expr} {es : List Expr} {t : TA} {id T : String} {r : List V → Hp → VK → Prop}
def tCB (r : List V → Hp → VK → Prop) (t : TA) : TE := fun σ H Q => t σ H fun vs H1 => r vs H1 Q
theorem pe_callB (hc : CallR X (.builtin id) r) (hg : Gl X x) (hm : X.mg x = none) (hv : bootBuiltins x = some (.builtin id)) (ha : PA X (e :: es) t) (hn : x ≠ "__name__" := by decide) (hdb : (x == ("__debug__" : Str)) = false := by decide)
  (he : starEach (e :: es) X.env = (false, eval e X.env) :: starEach es X.env := by rfl) (hpl : (backTo pos (starEach es X.env)).any (·.1) = false := by rfl) : PE X (.Call (.Name x p) (e :: es) [] pos) (tCB r t) := by
 intro pins s σ H Q I h
 refine wpAny_Call_Name_kw (ld_blt I hg hm hv ?_ hn hdb)
 exact PyProof.Rows.callWith_builtin1 (thn (ha pos pins s σ H _ I h) fun us s1 ⟨vs, H1, I1, r1, q1⟩ => hc pins s1 σ H1 vs us Q I1 r1 q1) he hpl
theorem pe_callTy (hc : CallR X (.type T) r) (hg : Gl X x) (hm : X.mg x = none) (hv : bootBuiltins x = some (.type T)) (ha : PA X (e :: es) t) (hn : x ≠ "__name__" := by decide) (hdb : (x == ("__debug__" : Str)) = false := by decide)
  (he : starEach (e :: es) X.env = (false, eval e X.env) :: starEach es X.env := by rfl) (hpl : (backTo pos (starEach es X.env)).any (·.1) = false := by rfl) : PE X (.Call (.Name x p) (e :: es) [] pos) (tCB r t) := by
 intro pins s σ H Q I h
 refine wpAny_Call_Name_kw (ld_blt I hg hm hv ?_ hn hdb)
 exact PyProof.Rows.callWith_type1 (thn (ha pos pins s σ H _ I h) fun us s1 ⟨vs, H1, I1, r1, q1⟩ => hc pins s1 σ H1 vs us Q I1 r1 q1) he hpl
end
end L2
namespace HT
open PySem PyProof.Rows
section
open PySem.SeqAt
open PySem.AutoSeq1 (wpAny_loadPart')
open PySem.MeetsSeq PySem.MeetsSeq2 PySem.MeetsSeq3
end
section
variable {prog : Program} {w : World} {A : Around} {E : Value → Shared → Prop} {s : Shared}
def sIx (n d : Nat) : Option Int → Nat
 | none => d
 | some v => if v < 0 then (v + (n : Int)).toNat else min v.toNat n
theorem sIx_nat (n d k : Nat) : sIx n d (some (k : Int)) = min k n := by
 show (if (k : Int) < 0 then ((k : Int) + (n : Int)).toNat else min (k : Int).toNat n) = min k n
 rw [if_neg (by omega), Int.toNat_natCast]
theorem sIx_le (n d : Nat) (hd : d ≤ n) (o : Option Int) : sIx n d o ≤ n := by
 cases o with
 | none => exact hd
 | some v =>
  show (if v < 0 then (v + (n : Int)).toNat else min v.toNat n) ≤ n
  by_cases hv : v < 0
  ·rw [if_pos hv]; omega
  ·rw [if_neg hv]; exact Nat.min_le_right _ _
theorem clip_eq (v : Int) (n d : Nat) : (if v < 0 then max (v + (n : Int)) 0 else min v (n : Int)) = ((sIx n d (some v) : Nat) : Int) := by
 show (if v < 0 then max (v + (n : Int)) 0 else min v (n : Int)) = (((if v < 0 then (v + (n : Int)).toNat else min v.toNat n) : Nat) : Int)
 by_cases hv : v < 0
 ·simp only [if_pos hv]; omega
 ·simp only [if_neg hv]; omega
theorem adjust_gen (lo hi : Option Int) (n : Nat) : Builtin.Slice.sliceAdjust lo hi 1 (n : Int) = (((sIx n 0 lo : Nat) : Int), ((sIx n n hi : Nat) : Int)) := by
 have h1 : ¬ ((1 : Int) < 0) := by omega
 unfold Builtin.Slice.sliceAdjust
 simp only [h1, if_false]
 refine Prod.ext ?_ ?_
 ·cases lo with
  | none => rfl
  | some v => exact clip_eq v n 0
 ·cases hi with
  | none => rfl
  | some v => exact clip_eq v n n
theorem places_gen (i j : Nat) : Builtin.Slice.slicePlaces (i : Int) (j : Int) 1 = j - i := by
 unfold Builtin.Slice.slicePlaces
 have h1 : (1 : Int) > 0 := by omega
 simp only [h1, if_true, Int.ediv_one]
 split <;> omega
theorem slicePart_ {v : Value} {o : Option Int} {Q : Option Int → Shared → Prop} (p : IsPart v o) (h : Q o s) : wpAny (model prog w) A (Builtin.Slice.slicePartIndex v) Q E s := by
 cases p with
 | none => exact slicePart_none h
 | int i t => exact slicePart_int h
theorem sliceApplied_gen {sl : Addr} {vl vu : Value} {lo hi : Option Int} {n : Nat} {Q : Int × Int × Nat → Shared → Prop} (hs : s.heap.IsSliceOf sl vl vu .none) (pl : IsPart vl lo) (pu : IsPart vu hi)
  (h : Q (((sIx n 0 lo : Nat) : Int), 1, sIx n n hi - sIx n 0 lo) s) : wpAny (model prog w) A (Builtin.Slice.sliceApplied (.ref sl) (pure (n : Int))) Q E s := by
 obtain ⟨os, hos, hcs, hds⟩ := id hs
 unfold Builtin.Slice.sliceApplied Builtin.Slice.sliceFields
 refine wpAny_bind (wpAny_bind (wpAny_field hos hds (x := vl) rfl (wpAny_bind (wpAny_field hos hds (x := vu) rfl (wpAny_bind (wpAny_field hos hds (x := .none) rfl (wpAny_pure ?_)))))))
 refine wpAny_bind (slicePart_none ?_)
 show wpAny _ _ (if ((1 : Int) == 0) = true then _ else _) _ _ s
 rw [if_neg (by decide)]
 refine wpAny_bind (slicePart_ pl (wpAny_bind (slicePart_ pu (wpAny_bind (wpAny_pure ?_)))))
 show wpAny _ _ (match Builtin.Slice.sliceAdjust lo hi 1 (n : Int) with | (lo, hi) => pure (lo, (1 : Int), Builtin.Slice.slicePlaces lo hi 1)) _ _ s
 rw [adjust_gen lo hi n]
 show wpAny _ _ (pure (((sIx n 0 lo : Nat) : Int), (1 : Int), Builtin.Slice.slicePlaces ((sIx n 0 lo : Nat) : Int) ((sIx n n hi : Nat) : Int) 1)) _ _ s
 rw [places_gen]
 exact wpAny_pure h
theorem pick_gen (xs : Array Value) (i k : Nat) : ((List.range k).filterMap fun (m : Nat) => xs[((i : Int) + (m : Int) * 1).toNat]?).toArray = ((xs.toList.drop i).take k).toArray := by
 have e : (fun (m : Nat) => xs[((i : Int) + (m : Int) * 1).toNat]?) = fun m => xs[i + m]? := by
  funext m
  have : ((i : Int) + (m : Int) * 1).toNat = i + m := by omega
  rw [this]
 rw [e]
 have := pick_run xs i k
 rw [List.filterMap_map] at this
 have e2 : ((fun x => xs[x]?) ∘ fun x => i + x) = fun m => xs[i + m]? := rfl
 rw [e2] at this
 rw [this]
theorem getItem_tuple_cut {t sl : Addr} {items : Array Value} {vl vu : Value} {lo hi : Option Int} {Q : Value → Shared → Prop} (ht : IsTup s.heap t items) (hs : s.heap.IsSliceOf sl vl vu .none) (pl : IsPart vl lo) (pu : IsPart vu hi)
  (hw : ¬ (sIx items.size 0 lo = 0 ∧ sIx items.size items.size hi = items.size))
  (h : Q (.ref s.heap.objs.size) { s with heap := s.heap.push { cls := .type "tuple", data := .seq ((items.toList.drop (sIx items.size 0 lo)).take (sIx items.size items.size hi - sIx items.size 0 lo)).toArray } })
  (hsz : items.size ≤ sizeLine) : wpAny (model prog w) A (getItem (.ref t) (.ref sl)) Q E s := by
 have htake : sizeOk (.seq ((items.toList.drop (sIx items.size 0 lo)).take (sIx items.size items.size hi - sIx items.size 0 lo)).toArray) := by
  show ((items.toList.drop (sIx items.size 0 lo)).take (sIx items.size items.size hi - sIx items.size 0 lo)).toArray.size ≤ sizeLine
  rw [List.size_toArray, List.length_take, List.length_drop, Array.length_toList]
  omega
 have hj : sIx items.size items.size hi ≤ items.size := sIx_le _ _ (Nat.le_refl _) hi
 obtain ⟨os, hos, hcs, hds⟩ := id hs
 have hTs : s.TypeIs (.ref sl) "slice" := ⟨os, hos, hcs⟩
 unfold getItem
 try with_reducible refine wpAny_holding ?_
 first | refine wpAny_bind (wpAny_pure ?_) | skip
 refine wpAny_bind (wpAny_sequenceKey ht.typeIs (by decide) ?_)
 refine wpAny_bind (wpAny_callSpecial?_slot (name := Str.ofString "__getitem__") ht.typeIs PyProof.Rows.slot_tuple_getitem
  (wpAny_call_entry PyProof.Rows.slot_tuple_getitem ht.typeIs entry_tuple_getitem ?_ (args_tuple_getitem _ _)))
 show wpAny _ _ (Builtin.Tuple.tupleItemsOf (.ref t) >>= _) _ _ s
 refine wpAny_bind (tupleItemsOf_ ht ?_)
 refine wpAny_bind (wpAny_typeOf hTs ?_)
 rw [if_pos (by decide)]
 refine wpAny_bind (sliceApplied_gen hs pl pu ?_)
 have hno : ¬ ((((sIx items.size 0 lo : Nat) : Int) == 0 && (1 : Int) == 1 && (sIx items.size items.size hi - sIx items.size 0 lo) == items.size) = true) := by
  intro q
  rw [Bool.and_eq_true, Bool.and_eq_true] at q
  have q1 : ((sIx items.size 0 lo : Nat) : Int) = 0 := eq_of_beq q.1.1
  have q2 : sIx items.size items.size hi - sIx items.size 0 lo = items.size := eq_of_beq q.2
  exact hw ⟨by omega, by omega⟩
 show wpAny _ _ (if (((sIx items.size 0 lo : Nat) : Int) == 0 && (1 : Int) == 1 && (sIx items.size items.size hi - sIx items.size 0 lo) == items.size) = true then _ else _) _ _ s
 rw [if_neg hno, pick_gen]
 first
  | exact wpAny_bind (m := Builtin.Tuple.tupleExact _) (wpAny_newObj_type (wpAny_pure ⟨_, rfl, wpAny_pure h⟩) htake)
  | exact wpAny_bind (m := Builtin.Tuple.tupleExact _) (wpAny_newObj_type (wpAny_bind (wpAny_pure (wpAny_pure ⟨_, rfl, wpAny_pure h⟩))) htake)
  | exact wpAny_bind (wpAny_bind (m := Builtin.Tuple.tupleExact _) (wpAny_newObj_type (wpAny_pure (wpAny_pure ⟨_, rfl, wpAny_pure h⟩)) htake))
  | exact wpAny_bind (wpAny_bind (m := Builtin.Tuple.tupleExact _) (wpAny_newObj_type (wpAny_pure ⟨_, rfl, wpAny_pure h⟩) htake))
end
end HT
namespace L2
open PySem PySem.Spec PyProof.Rows
abbrev TO := St → Hp → (Option Int → Hp → Prop) → Prop
def PO (X : Cx) (e : Option Expr) (t : TO) : Prop :=
 ∀ (pins : List (Addr × Obj)) (s : Shared) (σ : St) (H : Hp) (Q : Option Int → Hp → Prop), Inv X pins σ H s → t σ H Q →
  wpAny (model X.prog X.w) X.A (evalPart e X.env) (fun u s' => ∃ o H', Inv X pins σ H' s' ∧ IsPart u o ∧ Q o H') X.xe s
def tNoPart : TO := fun _ H Q => Q none H
def tPart (t : TE) : TO := fun σ H Q => t σ H fun x H1 => ∃ i, x = .int i ∧ Q (some i) H1
theorem intsAre_of {ns : List Int} : ∀ {us : List Value}, Vals (ns.map V.int) us → IntsAre us ns := by
 induction ns with
 | nil => intro us r; rw [List.map_nil] at r; cases r; exact .nil
 | cons n ns ih =>
  intro us r
  rw [List.map_cons] at r
  cases r with
  | cons r1 r2 =>
   obtain ⟨t, e⟩ := r1
   subst e
   exact .cons n t (ih r2)
section
variable {X : Cx} {e : Expr} {te : TE} {lo hi : Option Expr} {tl th : TO} {pos p2 : Pos}
theorem po_none : PO X none tNoPart := by
 intro pins s σ H Q I h
 rw [evalPart_none]
 exact wpAny_pure ⟨none, H, I, .none, h⟩
theorem po_some (h : PE X e te) : PO X (some e) (tPart te) := by
 intro pins s σ H Q I hw
 rw [evalPart_some]
 refine thn (h pins s σ H _ I hw) fun u s1 ⟨x, H1, I1, r1, q1⟩ => ?_
 obtain ⟨i, rfl, q⟩ := q1
 obtain ⟨t, rfl⟩ := r1
 exact ⟨some i, H1, I1, .int i t, q⟩
def SlR (X : Cx) (r : V → Option Int → Option Int → Hp → VK → Prop) : Prop :=
 ∀ (pins : List (Addr × Obj)) (s : Shared) (σ : St) (H : Hp) (x : V) (v vl vu : Value) (lo hi : Option Int) (sl : Addr) (Q : VK), Inv X pins σ H s → RelV x v → s.heap.IsSliceOf sl vl vu .none → IsPart vl lo → IsPart vu hi → r x lo hi H Q →
  ∃ T id, typeLookup (.type T) "__getitem__" = pure (some (.builtin id)) ∧ s.TypeIs v T ∧ wpAny (model X.prog X.w) X.A (getItem v (.ref sl)) (EP X pins σ Q) X.xe s
def tSl (r : V → Option Int → Option Int → Hp → VK → Prop) (te : TE) (tl th : TO) : TE := fun σ H Q => te σ H fun x H1 => tl σ H1 fun l H2 => th σ H2 fun u H3 => r x l u H3 Q
theorem pe_slice {r : V → Option Int → Option Int → Hp → VK → Prop} (hr : SlR X r) (he : PE X e te) (hl : PO X lo tl) (hu : PO X hi th) : PE X (.Subscript e (.Slice lo hi none p2) pos) (tSl r te tl th) := by
 intro pins s σ H Q I h
 refine Subscript_ (thn (he pins s σ H _ I h) fun v s1 ⟨x, H1, I1, r1, q1⟩ => ?_)
 refine wpAny_Slice (thn (hl pins s1 σ H1 _ I1 q1) fun vl s2 ⟨l, H2, I2, pl, q2⟩ => thn (hu pins s2 σ H2 _ I2 q2) fun vu s3 ⟨u, H3, I3, pu, q3⟩ => ?_)
 rw [evalPart_none]
 refine wpAny_pure ?_
 have I4 : Inv X pins σ H3 { s3 with heap := s3.heap.push { cls := .type "slice", data := .fields #[vl, vu, .none] } } := I3.kept (t' := s3.toks) fun b ob q => Heap.get?_push_of_some _ q
 obtain ⟨T, id, hT, ht, hg⟩ := hr pins { s3 with heap := s3.heap.push { cls := .type "slice", data := .fields #[vl, vu, .none] } } σ H3 x v vl vu l u s3.heap.objs.size Q I4 r1 (Heap.IsSliceOf.new ..) pl pu q3
 show wpAny (model X.prog X.w) X.A (subscriptTail e (.Slice lo hi none p2) v (.ref s3.heap.objs.size)) (EP X pins σ Q) X.xe { s3 with heap := s3.heap.push { cls := .type "slice", data := .fields #[vl, vu, .none] } }
 exact tail_any (ops := [.ref s3.heap.objs.size, v]) ht hT hg (by with_unfolding_all rfl)
def cutV (xs : List V) (lo hi : Option Int) : List V := (xs.drop (HT.sIx xs.length 0 lo)).take (HT.sIx xs.length xs.length hi - HT.sIx xs.length 0 lo)
theorem cutV_length (xs : List V) (lo hi : Option Int) : (cutV xs lo hi).length ≤ xs.length := by
 unfold cutV
 rw [List.length_take, List.length_drop]
 omega
def rSlT (K : PySem.W.Frag) : V → Option Int → Option Int → Hp → VK → Prop := fun x lo hi H Q => ∃ a xs, x = .ref a ∧ SqT K H a xs ∧
 ¬ (HT.sIx xs.length 0 lo = 0 ∧ HT.sIx xs.length xs.length hi = xs.length) ∧ ∀ p, H p = none → Q (.ref p) (upd H p (.tup (cutV xs lo hi)))
theorem sl_tup : SlR X (rSlT X.K) := by
 intro pins s σ H x v vl vu lo hi sl Q I rx hs pl pu h
 obtain ⟨a, xs, rfl, hx, hw, q⟩ := h
 cases rx
 obtain ⟨its, r, ht, hz⟩ := I.tuple hx
 have hlen : its.toArray.size = xs.length := by rw [List.size_toArray]; exact r.length.symm
 refine ⟨"tuple", _, PyProof.Rows.slot_tuple_getitem.lookup, ht.typeIs, ?_⟩
 refine HT.getItem_tuple_cut ht hs pl pu (by rw [hlen]; exact hw) ?_ (by rw [hlen]; exact hz)
 rw [hlen]
 refine ⟨.ref s.heap.objs.size, _, I.laid (t' := s.toks) (o := .tup (cutV xs lo hi)) (fun b ob q => Heap.get?_push_of_some _ q) (Nat.le_refl _) ?_, rfl, q _ (I.hok.fresh (Nat.le_refl _))⟩
 exact ⟨Nat.le_trans (cutV_length xs lo hi) hz, _, (r.drop (HT.sIx xs.length 0 lo)).take (HT.sIx xs.length xs.length hi - HT.sIx xs.length 0 lo), IsTup.new _ _⟩
end
end L2
namespace L2
open PySem PySem.Spec PyProof.Rows
def ixN (n : Nat) (i : Int) : Option Nat := if 0 ≤ i then (if i < n then some i.toNat else none) else if -(n : Int) ≤ i then some (i + n).toNat else none
def atI {α : Type} (xs : List α) (i : Int) : Option α := (ixN xs.length i).bind fun j => xs[j]?
theorem ixN_seq {n : Nat} {i : Int} {j : Nat} (h : ixN n i = some j) : seqIndex? i n = some j ∧ j < n ∧ -(n : Int) ≤ i ∧ i < n := by
 unfold ixN at h
 by_cases h0 : 0 ≤ i
 ·rw [if_pos h0] at h
  by_cases h1 : i < n
  ·rw [if_pos h1] at h
   have e : i.toNat = j := Option.some.inj h
   exact ⟨by rw [seqIndex_of h0 h1, e], by omega, by omega, h1⟩
  ·rw [if_neg h1] at h; cases h
 ·rw [if_neg h0] at h
  by_cases h1 : -(n : Int) ≤ i
  ·rw [if_pos h1] at h
   have e : (i + n).toNat = j := Option.some.inj h
   exact ⟨by rw [seqIndex_neg (by omega) h1, e], by omega, h1, by omega⟩
  ·rw [if_neg h1] at h; cases h
theorem atI_get {α : Type} {xs : List α} {i : Int} {v : α} (h : atI xs i = some v) : ∃ j, seqIndex? i xs.length = some j ∧ xs[j]? = some v ∧ j < xs.length ∧ -(xs.length : Int) ≤ i ∧ i < xs.length := by
 unfold atI at h
 cases e : ixN xs.length i with
 | none => rw [e] at h; cases h
 | some j =>
  rw [e] at h
  obtain ⟨h1, h2, h3, h4⟩ := ixN_seq e
  exact ⟨j, h1, h, h2, h3, h4⟩
theorem atI_nat {α : Type} {xs : List α} {j : Nat} {v : α} (h : xs[j]? = some v) : atI xs (j : Int) = some v := by
 have hj : j < xs.length := (List.getElem?_eq_some_iff.mp h).1
 have e : ixN xs.length (j : Int) = some j := by
  unfold ixN
  rw [if_pos (by omega), if_pos (by omega)]; simp
 unfold atI; rw [e]; exact h
theorem atI_last {α : Type} (xs : List α) (v : α) : atI (xs ++ [v]) (-1) = some v := by
 have hl : (xs ++ [v]).length = xs.length + 1 := by simp
 have e : ixN (xs ++ [v]).length (-1) = some xs.length := by
  unfold ixN
  rw [hl, if_neg (by decide), if_pos (by omega)]
  congr 1
  omega
 unfold atI
 rw [e]
 show (xs ++ [v])[xs.length]? = some v
 simp
def PlainIx (b : Expr) : Prop := ∀ o i, subscripted b false o i = operate [o, i] (getItem o i)
def IxR (X : Cx) (r : R2) : Prop :=
 ∀ (value slice : Expr) (pins : List (Addr × Obj)) (s : Shared) (σ : St) (H : Hp) (x y : V) (v u : Value) (Q : VK), Inv X pins σ H s → RelV x v → RelV y u → r x y H Q →
  subscripted slice false v u = operate [v, u] (getItem v u) → wpAny (model X.prog X.w) X.A (subscriptTail value slice v u) (EP X pins σ Q) X.xe s
def MtR (X : Cx) (id : String) (r : V → List V → Hp → VK → Prop) : Prop :=
 ∀ (pins : List (Addr × Obj)) (s : Shared) (σ : St) (H : Hp) (x : V) (xs : List V) (v : Value) (us : List Value) (Q : VK), Inv X pins σ H s → RelV x v → Vals xs us → r x xs H Q →
  wpAny (model X.prog X.w) X.A (call (.builtin id) (v :: us)) (EP X pins σ Q) X.xe s
section
variable {X : Cx} {a b : Expr} {ta tb : TE} {pos : Pos}
theorem pe_ix {r : R2} (hr : IxR X r) (ha : PE X a ta) (hb : PE X b tb) (hs : PlainIx b) : PE X (.Subscript a b pos) (tOp r ta tb) := by
 intro pins s σ H Q I h
 exact Subscript_ (binT ha hb I h fun v u s2 x y H2 I2 rx ry q => hr a b pins s2 σ H2 x y v u Q I2 rx ry q (hs _ _))
def rIxL (K : PySem.W.Frag) : R2 := fun x y H Q => ∃ p xs i v, x = .ref p ∧ y = .int i ∧ SqL K H p xs ∧ atI xs i = some v ∧ Q v H
def rIxT (K : PySem.W.Frag) : R2 := fun x y H Q => ∃ p xs i v, x = .ref p ∧ y = .int i ∧ SqT K H p xs ∧ atI xs i = some v ∧ Q v H
theorem ix_list : IxR X (rIxL X.K) := by
 intro value slice pins s σ H x y v u Q I rx ry h hs
 obtain ⟨p, xs, i, z, rfl, rfl, hq, he, q⟩ := h
 cases rx
 obtain ⟨t, rfl⟩ := ry
 obtain ⟨its, r, pl, hz⟩ := I.list hq
 obtain ⟨j, h1, h2, h3, h4, h5⟩ := atI_get he
 obtain ⟨w, ew, rw'⟩ := r.get h2
 have hl := r.length
 have hn := line63
 have fin : EP X pins σ Q w s := ⟨z, H, I, rw', q⟩
 by_cases h0 : 0 ≤ i
 ·have hj : i.toNat = j := by
   rw [seqIndex_of h0 h5] at h1
   exact Option.some.inj h1
  exact item_listR pl.isList h0 (by omega) (by rw [hj]; simpa using ew) fin hs
 ·have hj : (i + (its.toArray.size : Int)).toNat = j := by
   rw [seqIndex_neg (by omega) h4] at h1
   rw [List.size_toArray, ← hl]
   exact Option.some.inj h1
  exact subscriptTail_builtinR (x := w) pl.isList.typeIs slot_list_getitem.lookup
   (wpAny_getItem_list_neg (Q := fun r s' => r = w ∧ EP X pins σ Q r s') pl.isList (by omega) (by rw [List.size_toArray] <;> omega) (by omega) (by rw [hj]; simpa using ew) ⟨rfl, fin⟩) hs
theorem ix_tup : IxR X (rIxT X.K) := by
 intro value slice pins s σ H x y v u Q I rx ry h hs
 obtain ⟨p, xs, i, z, rfl, rfl, hq, he, q⟩ := h
 cases rx
 obtain ⟨t, rfl⟩ := ry
 obtain ⟨its, r, pl, hz⟩ := I.tuple hq
 obtain ⟨j, h1, h2, h3, h4, h5⟩ := atI_get he
 obtain ⟨w, ew, rw'⟩ := r.get h2
 have hl := r.length
 have hn := line63
 have fin : EP X pins σ Q w s := ⟨z, H, I, rw', q⟩
 exact subscriptTail_builtinR (x := w) pl.typeIs slot_tuple_getitem.lookup
  (getItem_tuple (j := j) (Q := fun r s' => r = w ∧ EP X pins σ Q r s') pl (by omega) (by omega) (by rw [List.size_toArray, ← hl]; exact h1) (by simpa using ew) ⟨rfl, fin⟩) hs
theorem Inv.lst {pins : List (Addr × Obj)} {σ : St} {H : Hp} {s : Shared} {p : Addr} {xs : List V} (I : Inv X pins σ H s) (h : H p = some (.lst xs)) :
  ∃ (its : List Value) (n : Nat), Vals xs its ∧ s.heap.get? p = some { cls := .type "list", data := .seq its.toArray n } ∧ xs.length ≤ sizeLine := by
 obtain ⟨z, its, n, r, e⟩ := I.hok p _ h
 exact ⟨its, n, r, e, z⟩
theorem slice_bounds (lo hi : Option Int) (n : Nat) : (sliceBounds lo hi none n).1 = ((HT.sIx n 0 lo : Nat) : Int) ∧ (sliceBounds lo hi none n).2.1 = ((HT.sIx n n hi : Nat) : Int) ∧ (sliceBounds lo hi none n).2.2 = 1 := by
 refine ⟨?_, ?_, rfl⟩
 ·cases lo with
  | none => simp [sliceBounds, HT.sIx]
  | some i =>
   simp only [sliceBounds, HT.sIx, Option.getD_none, show (1 : Int) > 0 by decide, if_true]
   by_cases h : i < 0
   ·simp only [h, if_true] <;> omega
   ·simp only [h, if_false] <;> omega
 ·cases hi with
  | none => simp [sliceBounds, HT.sIx]
  | some i =>
   simp only [sliceBounds, HT.sIx, Option.getD_none, show (1 : Int) > 0 by decide, if_true]
   by_cases h : i < 0
   ·simp only [h, if_true] <;> omega
   ·simp only [h, if_false] <;> omega
theorem slicePick_cut (its : List Value) (lo hi : Option Int) : slicePick its.toArray lo hi none = ((its.drop (HT.sIx its.length 0 lo)).take (HT.sIx its.length its.length hi - HT.sIx its.length 0 lo)).toArray := by
 obtain ⟨h1, h2, h3⟩ := slice_bounds lo hi its.toArray.size
 unfold slicePick
 rw [h1, h2, h3]
 simp only [sliceRange_one, pick_run, List.size_toArray] <;> rfl
def rSlL (K : PySem.W.Frag) : V → Option Int → Option Int → Hp → VK → Prop := fun x lo hi H Q => ∃ a xs, x = .ref a ∧ SqL K H a xs ∧ ∀ p, H p = none → Q (.ref p) (upd H p (.lst (cutV xs lo hi)))
theorem sl_list : SlR X (rSlL X.K) := by
 intro pins s σ H x v vl vu lo hi sl Q I rx hs pl pu h
 obtain ⟨a, xs, rfl, hx, q⟩ := h
 cases rx
 obtain ⟨its, r, ht, hz⟩ := I.list hx
 have hlen := r.length
 refine ⟨"list", _, slot_list_getitem.lookup, ht.isList.typeIs, ?_⟩
 refine wpAny_getItem_list_slice ht.isList hs pl pu .none (by simp) ?_ (by rw [List.size_toArray] <;> omega)
 rw [slicePick_cut, ← hlen]
 refine ⟨.ref s.heap.objs.size, _, I.laid (t' := s.toks) (o := .lst (cutV xs lo hi)) (fun b ob q => Heap.get?_push_of_some _ q) (Nat.le_refl _) ?_, rfl, q _ (I.hok.fresh (Nat.le_refl _))⟩
 exact ⟨Nat.le_trans (cutV_length xs lo hi) hz, _, 0, (r.drop (HT.sIx xs.length 0 lo)).take (HT.sIx xs.length xs.length hi - HT.sIx xs.length 0 lo), Heap.get?_push_size _ rfl⟩
def flatV : V → Bool
 | .non => true
 | .bl _ => true
 | .int _ => true
 | .str _ => true
 | _ => false
def eqV : V → V → Bool
 | .non, .non => true
 | .bl a, .bl b => a == b
 | .bl a, .int b => (if a then 1 else 0) == b
 | .int a, .bl b => a == (if b then 1 else 0)
 | .int a, .int b => a == b
 | .str a, .str b => a == b
 | _, _ => false
theorem eqAt_V {A : Around} {s : Shared} {y x : V} {u v : Value} (ry : RelV y u) (rx : RelV x v) (fy : flatV y = true) (fx : flatV x = true) : SeqAt.EqAt A s u v (eqV y x) := by
 cases y with
 | non =>
  cases ry
  cases x with
  | non => cases rx; exact SeqAt.EqAt.same _
  | bl b => cases rx; exact SeqAt.EqAt.none_bool b
  | int b => obtain ⟨t, rfl⟩ := rx; exact SeqAt.EqAt.none_int b t
  | str b => obtain ⟨t, rfl⟩ := rx; exact SeqAt.EqAt.none_str b t
  | _ => exact absurd (show false = true from fx) Bool.false_ne_true
 | bl a =>
  cases ry
  cases x with
  | non => cases rx; exact SeqAt.EqAt.bool_none a
  | bl b => cases rx; exact SeqAt.EqAt.bool_bool a b
  | int b => obtain ⟨t, rfl⟩ := rx; exact SeqAt.EqAt.bool_int a b t
  | str b => obtain ⟨t, rfl⟩ := rx; exact SeqAt.EqAt.bool_str a b t
  | _ => exact absurd (show false = true from fx) Bool.false_ne_true
 | int a =>
  obtain ⟨t', rfl⟩ := ry
  cases x with
  | non => cases rx; exact SeqAt.EqAt.int_none a t'
  | bl b => cases rx; exact SeqAt.EqAt.int_bool a t' b
  | int b => obtain ⟨t, rfl⟩ := rx; exact SeqAt.EqAt.int_int a t' b t
  | str b => obtain ⟨t, rfl⟩ := rx; exact SeqAt.EqAt.int_str a t' b t
  | _ => exact absurd (show false = true from fx) Bool.false_ne_true
 | str a =>
  obtain ⟨t', rfl⟩ := ry
  cases x with
  | non => cases rx; exact SeqAt.EqAt.str_none a t'
  | bl b => cases rx; exact SeqAt.EqAt.str_bool a t' b
  | int b => obtain ⟨t, rfl⟩ := rx; exact SeqAt.EqAt.str_int a t' b t
  | str b => obtain ⟨t, rfl⟩ := rx; exact SeqAt.EqAt.str_str a t' b t
  | _ => exact absurd (show false = true from fx) Bool.false_ne_true
 | _ => exact absurd (show false = true from fy) Bool.false_ne_true
def eqU (x : V) (u : Value) : Bool := match u with
 | .none => eqV .non x
 | .bool b => eqV (.bl b) x
 | .int i _ => eqV (.int i) x
 | .str z _ => eqV (.str z) x
 | _ => false
theorem eqU_of {x y : V} {u : Value} (r : RelV y u) (f : flatV y = true) : eqU x u = eqV y x := by
 cases y with
 | non => cases r; rfl
 | bl b => cases r; rfl
 | int i => obtain ⟨t, rfl⟩ := r; rfl
 | str z => obtain ⟨t, rfl⟩ := r; rfl
 | _ => exact absurd (show false = true from f) Bool.false_ne_true
theorem any_eqU {x : V} : ∀ {xs : List V} {us : List Value}, Vals xs us → xs.all flatV = true → us.any (eqU x) = xs.any fun y => eqV y x
 | _, _, .nil, _ => rfl
 | y :: xs, u :: us, .cons r t, f => by
  rw [List.all_cons, Bool.and_eq_true] at f
  rw [List.any_cons, List.any_cons, eqU_of r f.1, any_eqU t f.2]
theorem mem_eqAt {A : Around} {s : Shared} {x : V} {v : Value} (rx : RelV x v) (fx : flatV x = true) : ∀ {xs : List V} {us : List Value}, Vals xs us → xs.all flatV = true → ∀ u ∈ us, SeqAt.EqAt A s u v (eqU x u)
 | _, _, .nil, _ => fun u hu => by cases hu
 | y :: xs, u :: us, .cons r t, f => fun u' hu => by
  rw [List.all_cons, Bool.and_eq_true] at f
  rcases List.mem_cons.mp hu with rfl | hu
  ·rw [eqU_of r f.1]; exact eqAt_V r rx f.1 fx
  ·exact mem_eqAt rx fx t f.2 u' hu
def inV (x : V) (xs : List V) : Bool := xs.any fun y => eqV y x
def rIn (K : PySem.W.Frag) (neg : Bool) : R2 := fun x y H Q => ∃ p xs, y = .ref p ∧ (SqL K H p xs ∨ SqT K H p xs) ∧ flatV x = true ∧ xs.all flatV = true ∧ Q (.bl (if neg then !inV x xs else inV x xs)) H
theorem op_in_seq : OpR X (compareOp .In) (rIn X.K false) := by
 intro pins s σ H x y v u Q I rx ry h
 obtain ⟨p, xs, rfl, hq, fx, fs, q⟩ := h
 cases ry
 rcases hq with hq | hq
 ·obtain ⟨its, r, pl, hz⟩ := I.list hq
  refine SeqAt.in_listAt (eqU x) pl.isList (fun w hw => mem_eqAt rx fx r fs w (by simpa using hw)) ⟨.bl _, H, I, rfl, ?_⟩
  rw [show its.toArray.any (eqU x) = its.any (eqU x) by simp, any_eqU r fs]
  exact q
 ·obtain ⟨its, r, pl, hz⟩ := I.tuple hq
  refine SeqAt.in_tupleAt (eqU x) pl (fun w hw => mem_eqAt rx fx r fs w (by simpa using hw)) ⟨.bl _, H, I, rfl, ?_⟩
  rw [show its.toArray.any (eqU x) = its.any (eqU x) by simp, any_eqU r fs]
  exact q
theorem op_notIn_str : OpR X (compareOp .NotIn) (fun x y H Q => ∃ i j, x = .str i ∧ y = .str j ∧ Q (.bl (!(!(Builtin.Str.occurrences j i 0 j.length 1).isEmpty))) H) := by
 intro pins s σ H x y v u Q I rx ry h
 obtain ⟨i, j, rfl, rfl, q⟩ := h
 obtain ⟨t, rfl⟩ := rx
 obtain ⟨t', rfl⟩ := ry
 exact notIn_str ⟨.bl _, H, I, rfl, q⟩
theorem call_len_seq : CallR X (.builtin "len") (fun xs H Q => ∃ p ys, xs = [.ref p] ∧ (SqL X.K H p ys ∨ SqT X.K H p ys) ∧ Q (.int ys.length) H) := by
 intro pins s σ H xs us Q I r h
 obtain ⟨p, ys, rfl, hq, q⟩ := h
 obtain ⟨u, rfl, rx⟩ := vals1 r
 cases rx
 have hn := line63
 rcases hq with hq | hq
 ·obtain ⟨its, r', pl, hz⟩ := I.list hq
  have hlen := r'.length
  exact Calls.call_len_list pl.isList (by simp only [List.size_toArray] <;> omega) ⟨.int ys.length, H, I.tok _, ⟨s.toks + 1, by rw [List.size_toArray, hlen]⟩, q⟩
 ·obtain ⟨its, r', pl, hz⟩ := I.tuple hq
  have hlen := r'.length
  exact len_tuple pl (by simp only [List.size_toArray] <;> omega) ⟨.int ys.length, H, I.tok _, ⟨s.toks + 1, by rw [List.size_toArray, hlen]⟩, q⟩
theorem call_len_str : CallR X (.builtin "len") (fun xs H Q => ∃ z, xs = [.str z] ∧ z.length ≤ sizeLine ∧ Q (.int z.length) H) := by
 intro pins s σ H xs us Q I r h
 obtain ⟨z, rfl, hz, q⟩ := h
 obtain ⟨u, rfl, t, rfl⟩ := vals1 r
 have hn := line63
 exact len_str (by omega) ⟨.int z.length, H, I.tok _, ⟨_, rfl⟩, q⟩
theorem call_tuple_of : CallR X (.type "tuple") (fun xs H Q => ∃ p ys, xs = [.ref p] ∧ ((SqL X.K H p ys ∧ ∀ l, H l = none → Q (.ref l) (upd H l (.tup ys))) ∨ (SqT X.K H p ys ∧ Q (.ref p) H))) := by
 intro pins s σ H xs us Q I r h
 obtain ⟨p, ys, rfl, h⟩ := h
 obtain ⟨u, rfl, rx⟩ := vals1 r
 cases rx
 rcases h with ⟨hq, q⟩ | ⟨hq, q⟩
 ·obtain ⟨its, r', pl, hz⟩ := I.list hq
  have hlen := r'.length
  refine call_tuple_list pl.isList (fun h' kp => ?_) (by simp only [List.size_toArray] <;> omega)
  have I1 : Inv X pins σ H { s with heap := h' } := I.kept (t' := s.toks) kp
  have I2 : Inv X pins σ (upd H h'.objs.size (.tup ys)) { s with heap := h'.push { cls := .type "tuple", data := .seq its.toArray } } :=
   I1.laid (t' := s.toks) (fun b o e => Heap.get?_push_of_some _ e) (Nat.le_refl _) (show ObjOk X.prog X.w _ _ _ (.tup ys) from ⟨hz, its, r', IsTup.new _ _⟩)
  exact ⟨.ref h'.objs.size, _, I2, rfl, q _ (I1.hok.fresh (Nat.le_refl _))⟩
 ·obtain ⟨its, r', pl, hz⟩ := I.tuple hq
  exact call_tuple_same pl ⟨.ref p, H, I, rfl, q⟩
def tyV (K : PySem.W.Frag) (T : String) (x : V) (H : Hp) : Prop := match x with
 | .str _ => T = "str"
 | .int _ => T = "int"
 | .ref p => (T = "list" ∧ ∃ xs, SqL K H p xs) ∨ (T = "tuple" ∧ ∃ o, K.lookup p = some o ∧ o.cls = .type "tuple" ∧ o.dict = none) ∨
   (T = "dict" ∧ ((∃ kvs, H p = some (.dK kvs)) ∨ ∃ kvs, H p = some (.dT kvs))) ∨ (T = "set" ∧ ∃ S n, H p = some (.set S n))
 | _ => False
theorem tyV_is {pins : List (Addr × Obj)} {σ : St} {H : Hp} {s : Shared} {T : String} {x : V} {v : Value} (I : Inv X pins σ H s) (r : RelV x v) (ty : tyV X.K T x H) :
  s.TypeIs v T ∧ ∀ a, v = .ref a → ∃ ob, s.heap.get? a = some ob ∧ ob.dict = none := by
 cases x with
 | str z =>
  obtain ⟨t, rfl⟩ := r
  cases (show T = "str" from ty)
  exact ⟨typeIs_str s z t, fun _ e => nomatch e⟩
 | int i =>
  obtain ⟨t, rfl⟩ := r
  cases (show T = "int" from ty)
  exact ⟨typeIs_int s i t, fun _ e => nomatch e⟩
 | ref p =>
  cases r
  rcases ty with ⟨rfl, xs, hq⟩ | ⟨rfl, o, hk, hc, hd⟩ | ⟨rfl, hk⟩ | ⟨rfl, S, n, hk⟩
  ·obtain ⟨its, _, pl, _⟩ := I.list hq
   refine ⟨pl.isList.typeIs, fun a e => ?_⟩
   cases e
   obtain ⟨o, n, e, c, hd, _⟩ := pl
   exact ⟨o, e, hd⟩
  ·refine ⟨⟨o, I.kIn p o hk, hc⟩, fun a e => ?_⟩
   cases e
   exact ⟨o, I.kIn _ o hk, hd⟩
  ·have z : ∃ o, s.heap.get? p = some o ∧ o.ExactDict := by
    rcases hk with ⟨kvs, hk⟩ | ⟨kvs, hk⟩
    ·obtain ⟨_, _, _, _, o, _, _, e, ex, _⟩ := I.hok p _ hk
     exact ⟨o, e, ex⟩
    ·obtain ⟨_, _, _, _, o, _, _, e, ex, _⟩ := I.hok p _ hk
     exact ⟨o, e, ex⟩
   obtain ⟨o, e, ex⟩ := z
   refine ⟨⟨o, e, ex.1⟩, fun a e2 => ?_⟩
   cases e2
   exact ⟨o, e, ex.2.1⟩
  ·obtain ⟨o, _, _, _, e, ex, _⟩ := I.hok p _ hk
   refine ⟨⟨o, e, ex.1⟩, fun a e2 => ?_⟩
   cases e2
   exact ⟨o, e, ex.2.1⟩
 | _ => exact False.elim ty
def tBM (K : PySem.W.Frag) (T : String) (r : V → List V → Hp → VK → Prop) (to : TE) (t : TA) : TE := fun σ H Q => to σ H fun x H1 => tyV K T x H1 ∧ t σ H1 fun xs H2 => r x xs H2 Q
variable {o e : Expr} {es : List Expr} {to : TE} {t : TA} {name : Str} {apos cpos : Pos} {T id : String} {r : V → List V → Hp → VK → Prop}
theorem pe_bm (pa : PlainAttrs T) (slot : Slot T name id) (hty : typeOf (.builtin id) = pure (.type "method_descriptor")) (hm : MtR X id r) (ho : PE X o to) (ha : PA X (e :: es) t)
  (hbase : attributeBase o name X.env (eval o X.env) = eval o X.env := by rfl)
  (hfew : ((backTo cpos (starEach (e :: es) X.env)).all (fun x => !x.1) && (backToKw cpos (keywordEach [] X.env)).all (fun x => x.1.isSome)
   && decide ((e :: es).length + ([] : List Keyword).length + (if ([] : List Keyword).isEmpty then 0 else 1) < 30)) = true := by rfl)
  (hline : (apos.endLine == cpos.line) = true := by rfl) (hs : starEach (e :: es) X.env = (false, eval e X.env) :: starEach es X.env := by rfl) (hplain : (backTo cpos (starEach es X.env)).any (·.1) = false := by rfl) :
  PE X (.Call (.Attribute o name apos) (e :: es) [] cpos) (tBM X.K T r to t) := by
 intro pins s σ H Q I h
 refine wpAny_Call_method_late hbase hfew hline rfl (thn (ho pins s σ H _ I h) fun v s1 ⟨x, H1, I1, r1, ty, q1⟩ => ?_)
 obtain ⟨h1, h2⟩ := tyV_is I1 r1 ty
 refine ⟨T, id, pa, slot, hty, h1, h2, ?_⟩
 have hA := ha cpos pins s1 σ H1 _ I1 q1
 rw [hs] at hA ⊢
 refine Calls.callWith_builtin (by show (false || (backTo cpos (starEach es X.env)).any (·.1)) = false; rw [hplain] <;> rfl) (Calls.evalArgs_plain ?_)
 exact thn hA fun us s2 ⟨vs, H2, I2, r2, q2⟩ => hm pins s2 σ H2 x vs v us Q I2 r1 r2 q2
/- xs.append(e), list.index on a module's tuple .. are MtR facts of 06m -/
end
end L2
namespace L2
open PySem PySem.Spec PyProof.Rows
def MtM (X : Cx) (id : String) (r : V → List V → Hp → VK → Prop) : Prop :=
 ∀ (pins : List (Addr × Obj)) (s : Shared) (σ : St) (H : Hp) (x : V) (xs : List V) (v : Value) (us : List Value) (Q : VK), Inv X pins σ H s → RelV x v → Vals xs us → r x xs H Q →
  wpAny (model X.prog X.w) X.A (call (.builtin id) (v :: us)) (EP X pins σ Q) X.xe s
theorem Vals.one : ∀ {x : V} {us : List Value}, Vals [x] us → ∃ u, us = [u] ∧ RelV x u
 | _, _, .cons r .nil => ⟨_, rfl, r⟩
theorem Vals.zero : ∀ {us : List Value}, Vals [] us → us = []
 | _, .nil => rfl
section
variable {X : Cx} {pins : List (Addr × Obj)} {σ : St} {H : Hp} {s : Shared} {l b : Addr} {xs ys zs : List V}
theorem Inv.lset {its its' : List Value} {n : Nat} {f : Array Value → Array Value} {t' : Nat} (I : Inv X pins σ H s) (hH : H l = some (.lst xs))
  (e : s.heap.get? l = some { cls := .type "list", data := .seq its.toArray n }) (hf : f its.toArray = its'.toArray) (hv : Vals ys its') (hz : ys.length ≤ sizeLine) :
  Inv X pins σ (upd H l (.lst ys)) { s with heap := s.heap.update l (Obj.mapSeq f), toks := t' } := by
 have q := PySem.IsL.update e f
 rw [hf] at q
 refine I.write (x := l) (e := l) (by rw [hH]; exact trivial) (.inl rfl) (fun b' u hb hu => (Heap.get?_update_other s.heap (Obj.mapSeq f) (Ne.symm hb)).trans hu) ⟨_, q⟩ ?_
 exact ⟨hz, its', _, hv, q⟩
theorem Inv.lnew {its : List Value} {t' : Nat} (I : Inv X pins σ H s) (hv : Vals ys its) (hz : ys.length ≤ sizeLine) :
  Inv X pins σ (upd H s.heap.objs.size (.lst ys)) { s with heap := s.heap.push { cls := .type "list", data := .seq its.toArray }, toks := t' } :=
 I.laid (fun _ _ q => Heap.get?_push_of_some _ q) (Nat.le_refl _) ⟨hz, its, 0, hv, Heap.get?_push_size _ rfl⟩
theorem Inv.fresh (I : Inv X pins σ H s) : H s.heap.objs.size = none := I.hok.fresh (Nat.le_refl _)
theorem Inv.lstM (I : Inv X pins σ H s) (hH : H l = some (.lst xs)) : xs.length ≤ sizeLine ∧ ∃ (its : List Value) (n : Nat), Vals xs its ∧ xs.length = its.length ∧ s.heap.get? l = some { cls := .type "list", data := .seq its.toArray n } := by
 obtain ⟨z, its, n, r, e⟩ := I.hok l _ hH
 exact ⟨z, its, n, r, r.length, e⟩
theorem notLongL {n : Nat} (h : n ≤ sizeLine) : Builtin.List.listTooLong n = false := by
 unfold Builtin.List.listTooLong
 exact decide_eq_false (by omega)
end
section
variable {X : Cx}
def rAppend : V → List V → Hp → VK → Prop := fun x vs H Q => ∃ l xs y, x = .ref l ∧ vs = [y] ∧ H l = some (.lst xs) ∧ xs.length < sizeLine ∧ Q .non (upd H l (.lst (xs ++ [y])))
theorem mt_append : MtM X "list.append" rAppend := by
 intro pins s σ H x vs v us Q I rx rv h
 obtain ⟨l, xs, y, rfl, rfl, hH, hz, q⟩ := h
 cases rx
 obtain ⟨u, rfl, ru⟩ := rv.one
 obtain ⟨z, its, n, r, hl, e⟩ := I.lstM hH
 refine call_meets F.slot_list_append ⟨_, e, rfl⟩ F.entry_list_append (F.args_list_append_2 _ _) (PySem.list_append l its.toArray n u (by rw [List.size_toArray]; omega)) ⟨e, ?_⟩
 refine ⟨.non, _, I.lset (its' := its ++ [u]) hH e (by simp) (r.append (.cons ru .nil)) ?_, rfl, q⟩
 rw [List.length_append, List.length_singleton]
 omega
def rExtend : V → List V → Hp → VK → Prop := fun x vs H Q => ∃ l b xs zs, x = .ref l ∧ vs = [.ref b] ∧ H l = some (.lst xs) ∧ H b = some (.lst zs) ∧ xs.length + zs.length ≤ sizeLine ∧ Q .non (upd H l (.lst (xs ++ zs)))
theorem mt_extend : MtM X "list.extend" rExtend := by
 intro pins s σ H x vs v us Q I rx rv h
 obtain ⟨l, b, xs, zs, rfl, rfl, hH, hB, hz, q⟩ := h
 cases rx
 obtain ⟨u, rfl, ru⟩ := rv.one
 cases ru
 obtain ⟨z, its, n, r, hl, e⟩ := I.lstM hH
 obtain ⟨z2, its2, n2, r2, hl2, e2⟩ := I.lstM hB
 have hsz : its.toArray.size + its2.toArray.size ≤ sizeLine := by rw [List.size_toArray, List.size_toArray]; omega
 have hlong : ¬ (!its.toArray.isEmpty && Builtin.List.listTooLong (its.toArray.size + its2.toArray.size)) = true := by
  rw [notLongL hsz, Bool.and_false]
  exact Bool.false_ne_true
 refine call_meets F.slot_list_extend ⟨_, e, rfl⟩ F.entry_list_extend (F.args_list_extend_2 _ _)
  (AutoSeq1.list_extend_list_list_0 l its.toArray n b its2.toArray n2 hlong (by rw [List.size_toArray]; omega) (by omega)) ⟨e, e2, ?_⟩
 refine ⟨.non, _, I.lset (its' := its ++ its2) hH e (by simp) (r.append r2) ?_, rfl, q⟩
 rw [List.length_append]
 omega
def rCat : R2 := fun x y H Q => ∃ l b xs zs, x = .ref l ∧ y = .ref b ∧ H l = some (.lst xs) ∧ H b = some (.lst zs) ∧ xs.length + zs.length ≤ sizeLine ∧ ∀ p, H p = none → Q (.ref p) (upd H p (.lst (xs ++ zs)))
theorem op_cat : OpR X (binaryOp .Add) rCat := by
 intro pins s σ H x y v u Q I rx ry h
 obtain ⟨l, b, xs, zs, rfl, rfl, hH, hB, hz, q⟩ := h
 cases rx
 cases ry
 obtain ⟨z, its, n, r, hl, e⟩ := I.lstM hH
 obtain ⟨z2, its2, n2, r2, hl2, e2⟩ := I.lstM hB
 refine PySem.P.add_list e e2 ?_ (by rw [List.size_toArray, List.size_toArray]; omega)
 have ea : its.toArray ++ its2.toArray = (its ++ its2).toArray := by simp
 rw [ea]
 exact ⟨.ref _, _, I.lnew (t' := s.toks) (r.append r2) (by rw [List.length_append]; omega), rfl, q _ I.fresh⟩
theorem len_rep {α : Type} (xs : List α) (k : Nat) : (List.replicate k xs).flatten.length = k * xs.length := by
 induction k with
 | zero => simp
 | succ k ih => rw [List.replicate_succ, List.flatten_cons, List.length_append, ih, Nat.succ_mul, Nat.add_comm]
end
end L2
namespace Att
open PySem PySem.W PySem.Calls PyProof.Rows
theorem ints_of_wellAll {P : Params} {h : Heap} : ∀ (ns : List Int) (vs : List Value), WellAll P h vs (ns.map WData.int) → IntsAre vs ns := by
 intro ns
 induction ns with
 | nil =>
  intro vs w
  rw [List.map_nil] at w
  cases w
  exact .nil
 | cons n ns ih =>
  intro vs w
  rw [List.map_cons] at w
  cases w with
  | cons a b =>
   cases a
   exact .cons _ _ (ih _ b)
theorem script_of {l : OpenLaw} {n : Nat} (hn : l.most = some n) {P : Params} {h : Heap} {args : List WData} {vals : List Value}
    (hpre : l.row.toRowW.claim.pre args = true) (hwl : WellAll P h vals args) :
    ∃ a vs ns, vals = [Value.ref a] ∧ args = [WData.list (ns.map WData.int)] ∧ h.get? a = some { cls := .type "list", data := .seq vs.toArray } ∧ IntsAre vs ns ∧ ns.length ≤ n := by
  have hsh : WShape.hasAll [] args [.list .int] = true := (pre_splitW hpre).1
  have hc : l.pre.holds [] { args := args } = true := (pre_splitW hpre).2
  obtain ⟨d, r, rfl, h1, h2⟩ := hasAllW_cons hsh
  obtain rfl := hasAllW_nil h2
  obtain ⟨xs, rfl, h3⟩ := hasW_list h1
  obtain ⟨ns, rfl⟩ := items_int h3
  have hlen : ns.length ≤ n := by
    unfold OpenLaw.pre at hc
    have h4 : (WTm.not (.lt (.lit (.int (n : Int))) (.len (.arg 0)))).holds [] { args := [.list (ns.map .int)] } = true := by
      have h4 := (holds_andW hc).1
      rw [hn] at h4
      exact h4
    have h5 := condW_of h4 (w_not (w_lt w_lit (w_len_list (w_arg rfl))))
    rw [List.length_map] at h5
    refine Nat.le_of_not_lt fun q => ?_
    have q' : (n : Int) < ((ns.length : Nat) : Int) := by omega
    first
      | (rw [decide_eq_true q'] at h5; exact absurd h5 (by decide))
      | (simp at h5; omega)
  cases hwl with
  | cons w1 w2 =>
    cases w2
    cases w1 with
    | list ho hall => exact ⟨_, _, ns, rfl, rfl, ho, ints_of_wellAll ns _ hall, hlen⟩
theorem post_true (l : OpenLaw) (args : List WData) : l.row.toRowW.claim.post args (.bool true) args = true :=
 postW_of (r := l.row.toRowW) (X := (true == true))
  (show WShape.has [] (.bool true) .bool = true by first | rfl | decide | simp [WShape.has, WShape.arms, WShape.armsAll])
  (show (WTm.eq .res (.lit (.bool true))).value [] { args := args, res := some (.bool true), after := args } = some (.bool (true == true)) from w_eq_bool (w_res rfl) w_lit) rfl
theorem attach_call {l : OpenLaw} {n : Nat} {q : Program} {loose : List Str} {XP : (Str → Option Value) → Heap → Prop} {YP : World → Heap → Prop} {d : DefRec}
  (hn : l.most = some n) (hdf : d.params.defaults = [])
  (call : ∀ (w : World) (s₀ s₁ : Shared) (mg mb : Str → Option Value) (fa : Addr) (o : Obj) (pm cd doc : Value) (a : Addr) (vs : List Value) (ns : List Int),
   Ground q loose [] XP w s₀ mg mb s₁.heap → YP w s₁.heap →
   s₁.heap.get? fa = some o → o.data = .func (docDef d.name d.params d.body d.scope pm cd doc) → s₁.heap.CodeRec cd d.name → mg d.name = some (.ref fa) →
   s₁.heap.get? a = some { cls := .type "list", data := .seq vs.toArray } → IntsAre vs ns → ns.length ≤ n → s₁.gens = #[] →
   codeAny (model l.prog w) callerA (.call (.ref fa) ⟨[.ref a], []⟩) (fun r s' => r = .ok (.ret (.bool true)) ∧ OldK s₁.heap s'.heap ∧ s'.os = s₁.os ∧ AllBare s'.gens) s₁) :
  WalkO q loose XP YP l.row.toRowW d [] (fun f vs => PySem.call f vs) := by
 intro w s₀ s₁ mg mb G Y fa o pm cd doc dV kV ho hd hcd hD hmg hg args vals as hpre hlay hrd hwl hlo
 obtain rfl : dV = .none := Dflts.none hD hdf
 obtain rfl : kV = .none := Dflts.noKw hD
 obtain ⟨a, vs, ns, rfl, rfl, hobj, hints, hlen⟩ := script_of hn hpre hwl
 refine enter_call (codeAny_mono (call w s₀ s₁ mg mb fa o pm cd doc a vs ns G Y ho (fd_plain hd) hcd hmg hobj hints hlen hg) fun r s' hq => ?_)
 obtain ⟨rfl, h2, h3, h4⟩ := hq
 exact ⟨.inl ⟨.bool true, .bool true, [], rfl, fun _ => rfl, .bool true, post_true l _, fun _ => ⟨List.Pairwise.nil, fun _ hm => (nomatch hm)⟩⟩, h2, h3, h4⟩
section
variable {prog : Program} {w : World} {A : Around} {E : Value → Shared → Prop} {s : Shared} {K : Frag}
end
end Att
namespace L2
open PySem PySem.Spec PyProof.Rows
theorem vals_ints : ∀ {vs : List Value} {ns : List Int}, IntsAre vs ns → Vals (ns.map V.int) vs
 | _, _, .nil => .nil
 | _, _, .cons n t h => .cons ⟨t, rfl⟩ (vals_ints h)
def Only (H : Hp) : Prop := ∀ b, H b = none ∨ ∃ o xs, H b = some (.frz o (.lst xs))
theorem law_call {P : Program} {w : World} {K : PySem.W.Frag} {mg mb : Str → Option Value} {CX : CXT} {k : Nat} {fa a : Addr} {fd : FuncData} {x : Str} {sp : Sp} {s₁ : Shared} {vs : List Value} {ns : List Int}
  (KX : K.In s₁.heap) (hns : s₁.heap.Ns mainGlobals mg) (hb : s₁.heap.Ns builtinsNs mb) (hbb : ∀ x : Str, x ≠ "__name__" → mb x = bootBuiltins x) (hlim : s₁.heap.NoLimit) (hg : s₁.gens = #[])
  (ha : s₁.heap.get? a = some { cls := .type "list", data := .seq vs.toArray }) (hi : IntsAre vs ns) (hl : ns.length ≤ sizeLine) (hr : Room k callerA)
  (F : ∀ base : Heap, K.In base → base.Ns mainGlobals mg → FnOk P w K mg base CX k fa fd [x] sp) (hbind : ∀ (s : Shared) (u : Value), BindsTo s fd ⟨[u], []⟩ [(x, u)])
  (hsp : ∀ H : Hp, Only H → SqL K H a (ns.map V.int) → sp [.ref a] H (fun v _ => v = .bl true) fun _ _ _ => False)
  (hCX : ∀ H e s', CX [] H s₁ (fun _ _ _ => False) e s' → False) :
  codeAny (model P w) callerA (.call (.ref fa) ⟨[.ref a], []⟩) (fun r s' => r = .ok (.ret (.bool true)) ∧ OldK s₁.heap s'.heap ∧ s'.os = s₁.os ∧ AllBare s'.gens) s₁ := by
 have rv := vals_ints hi
 have lenV := hi.length
 -- from an abstract heap in which nothing but the script may be tracked
 have core : ∀ H : Hp, Only H → SqL K H a (ns.map V.int) → HOk P w H s₁.heap → (∀ b, H b ≠ none → b = a) → (H a ≠ none → K.lookup a = none) →
   codeAny (model P w) callerA (.call (.ref fa) ⟨[.ref a], []⟩) (fun r s' => r = .ok (.ret (.bool true)) ∧ OldK s₁.heap s'.heap ∧ s'.os = s₁.os ∧ AllBare s'.gens) s₁ := by
  intro H hO hS hok hA hK
  have base_of : ∀ {b : Addr} {o : Obj}, s₁.heap.get? b = some o → H b = none → (hidT s₁.heap H).get? b = some o := fun e n => hidT_get e n
  have noA : ∀ {b : Addr} {o : Obj} {es : Array DictEntry} {ep : Nat}, s₁.heap.get? b = some o → o.data = .dict es ep → H b = none := fun {b o es ep} e d => by
   cases q : H b with
   | none => rfl
   | some u =>
    have e' : b = a := hA b (by rw [q]; simp)
    subst e'
    rw [ha] at e; cases e
    have d' : Data.seq vs.toArray _ = Data.dict es ep := d
    cases d'
  have nsK : ∀ {b : Addr} {m : Str → Option Value}, s₁.heap.Ns b m → (hidT s₁.heap H).Ns b m := fun {b m} ⟨o, es, ep, e, d, r⟩ => ⟨o, es, ep, base_of e (noA e d), d, r⟩
  have hKb : K.In (hidT s₁.heap H) := fun b o e => base_of (KX b o e) (by
   cases q : H b with
   | none => rfl
   | some u =>
    have e' : b = a := hA b (by rw [q]; simp)
    subst e'
    rw [hK (by rw [q]; simp)] at e; cases e)
  have hM : Mod K mg (hidT s₁.heap H) := ⟨hKb, nsK hns, ⟨mb, nsK hb, hbb⟩, let ⟨mc, h1, h2⟩ := hlim; ⟨mc, nsK h1, h2⟩⟩
  have e0 : Env0 P w K mg (hidT s₁.heap H) callerA [] s₁ H := ⟨rfl, hM, fun b o e => of_hidT e, Nat.le_of_eq (hidT_size _ _), trivial, fun b hb => absurd (show b ∈ ([] : List Addr) from hb) (by simp), hok, .of_eq hg⟩
  refine codeAny_mono ((F _ hKb (nsK hns)).run callerA [] s₁ H ⟨[.ref a], []⟩ [.ref a] [.ref a] _ _ hr e0 (hbind s₁ (.ref a)) (.cons rfl .nil) (hsp H hO hS)) fun r s' h => ?_
  cases r with
  | error e => exact (hCX H e s' h).elim
  | ok fl =>
   cases fl with
   | next => exact False.elim h
   | brk => exact False.elim h
   | cont => exact False.elim h
   | ret u =>
    obtain ⟨v, H', os, bare, un, hok', r', q⟩ := h
    have q' : v = .bl true := q
    subst q'
    obtain rfl : u = Value.bool true := r'
    refine ⟨rfl, OldK.of_keep fun b o e => ?_, os, bare⟩
    cases q : H b with
    | none => exact un.keep b o e q (by intro z; exact absurd (show b ∈ ([] : List Addr) from z) (by simp)) (by simp)
    | some u =>
     rcases hO b with z | ⟨ob, xs, z⟩
     ·rw [q] at z; cases z
     ·have z2 := un.frzs b ob _ z
      obtain ⟨e1, _⟩ := hok b _ z
      obtain ⟨e2, _⟩ := hok' b _ z2
      rw [e] at e1; cases e1
      exact e2
 cases hk : K.lookup a with
 | some o =>
  -- the script is one of the module's own objects
  have e := KX a o hk
  rw [ha] at e
  cases e
  refine core (fun _ => none) (fun _ => .inl rfl) (.inr ⟨_, vs.toArray, _, hk, rfl, rfl, rfl, by rw [List.size_toArray, lenV]; exact hl, by simpa using rv⟩) (fun b u z => by have z' : (none : Option HO) = some u := z; cases z') (fun b z => absurd rfl z) fun z => absurd rfl z
 | none =>
  refine core (fun b => if b = a then some (.frz { cls := .type "list", data := .seq vs.toArray } (.lst (ns.map V.int))) else none) (fun b => ?_) (.inl (.inr ⟨{ cls := .type "list", data := .seq vs.toArray }, if_pos rfl⟩)) (fun b u z => ?_) (fun b z => ?_) fun _ => hk
  ·by_cases hb : b = a
   ·exact .inr ⟨_, _, if_pos hb⟩
   ·exact .inl (if_neg hb)
  ·by_cases hb : b = a
   ·have z' := (if_pos hb).symm.trans z
    cases z'
    subst hb
    exact ⟨ha, by rw [List.length_map]; exact hl, vs, _, rv, ha⟩
   ·have z' := (if_neg hb).symm.trans z
    cases z'
  ·by_cases hb : b = a
   ·exact hb
   ·exact absurd (if_neg hb) z
end L2
namespace L2
open PySem PySem.Spec PyProof.Rows
theorem walk_of {l : PySem.W.OpenLaw} {n k : Nat} {q : Program} {loose : List Str} {XP : (Str → Option Value) → Heap → Prop} {YP : World → Heap → Prop} {d : DefRec} {K : Params → PySem.W.Frag} {CX : World → CXT} {sp : World → Sp} {x : Str}
  (hn : l.most = some n) (hn2 : n ≤ sizeLine) (hdf : d.params.defaults = []) (hr : Room k callerA)
  (hY : ∀ (w : World) (h : Heap), YP w h → (K w.params).In h)
  (F : ∀ (w : World) (mg : Str → Option Value) (fa : Addr) (h : Heap), (K w.params).In h → h.Ns mainGlobals mg → mg d.name = some (.ref fa) →
   ∃ fd : FuncData, (∀ (s : Shared) (u : Value), BindsTo s fd ⟨[u], []⟩ [(x, u)]) ∧
    ∀ base : Heap, (K w.params).In base → base.Ns mainGlobals mg → FnOk l.prog w (K w.params) mg base (CX w) k fa fd [x] (sp w))
  (hsp : ∀ (w : World) (H : Hp) (a : Addr) (ns : List Int), ns.length ≤ n → Only H → SqL (K w.params) H a (ns.map V.int) → sp w [.ref a] H (fun v _ => v = .bl true) fun _ _ _ => False)
  (hCX : ∀ (w : World) (H : Hp) (s : Shared) (e : Value) (s' : Shared), CX w [] H s (fun _ _ _ => False) e s' → False) :
  PySem.W.WalkO q loose XP YP l.row.toRowW d [] (fun f vs => PySem.call f vs) := by
 refine Att.attach_call hn hdf fun w s₀ s₁ mg mb fa o pm cd doc a vs ns G Y ho hd hcd hmg hobj hints hlen hg => ?_
 have KX := hY w _ Y
 obtain ⟨fd, hb, hF⟩ := F w mg fa _ KX G.T.g hmg
 exact law_call KX G.T.g G.T.b G.T.builtins G.T.nolimit hg hobj hints (Nat.le_trans hlen hn2) hr hF hb (fun H hO hS => hsp w H a ns hlen hO hS) fun H e s' => hCX w H s₁ e s'
end L2
namespace L2
open PySem PySem.Spec PyProof.Rows
def inClass (s : Stmt) (j : Nat) : Stmt := match s with
 | .ClassDef _ _ _ body _ _ _ _ _ _ _ => body.getD j (.Pass ⟨0, 0, 0, 0⟩)
 | _ => .Pass ⟨0, 0, 0, 0⟩
def defArgs (s : Stmt) : Arguments := match s with
 | .FunctionDef _ a _ _ _ _ _ _ _ _ => a
 | _ => { posonlyargs := [], args := [], vararg := none, kwonlyargs := [], kw_defaults := [], kwarg := none, defaults := [] }
def defBody (s : Stmt) : List Stmt := match s with
 | .FunctionDef _ _ b _ _ _ _ _ _ _ => b
 | _ => []
def defScope (s : Stmt) : Scope := match s with
 | .FunctionDef _ _ _ _ _ _ sc _ _ _ => sc
 | _ => { kind := .function, names := [], isGenerator := false, isCoroutine := false }
abbrev CX0 : CXT := fun _ _ _ _ _ _ => False
abbrev E0 : XK := fun _ _ _ => False
theorem pass0 {X : Cx} : Passes CX0 X E0 := fun _ _ _ _ _ _ _ h => h.elim
structure Fun (K : PySem.W.Frag) (x qual : Str) (st : Stmt) (f : Addr) (fd : FuncData) : Prop where
 ex : ∃ (oc : Value) (od : Option Addr) (kV doc pm : Value) (an : Option Addr) (cdv ct : Value) (osl : Array (Option Value)),
  fd = PySem.W.fnOf x qual (defArgs st) (defBody st) (defScope st) .none kV doc pm an cdv ct ∧ K.lookup f = some ⟨oc, od, .func fd, osl⟩ ∧ PySem.W.codeIn K cdv qual = true
 kp : PySem.W.keepIn K (.ref f) = true
section
variable {P : Program} {w : World} {K : PySem.W.Frag} {mg : Str → Option Value} {base : Heap}
theorem Fun.ok {x qual : Str} {st : Stmt} {f : Addr} {fd : FuncData} {N ps : List Str} {k : Nat} {sp : Sp} (F : Fun K x qual st f fd) (S : FnScope N ps (defScope st)) (len : ∀ vs H Q E, sp vs H Q E → vs.length = ps.length)
  (hbody : ∀ (cdv : Value) (A : Around) (outer : List Env) (s : Shared) (H : Hp) (vs : List V) (Q : VK) (E : XK), Room k (A.deeper (envOfC qual (defScope st) s.heap.objs.size f cdv)) → sp vs H Q E →
   ∃ t, PSs (cxOf CX0 P w K mg base N qual (defScope st) f cdv A outer s H E).nox (defBody st) t ∧ t { nx := fun _ H' => Q .non H', rt := Q } (start N vs) H) : FnOk P w K mg base CX0 (k + 1) f fd ps sp := by
 obtain ⟨oc, od, kV, doc, pm, an, cdv, ct, osl, rfl, lk, hcd⟩ := F.ex
 refine fn_of lk hcd S len fun A outer s H vs Q E hr hsp => ?_
 obtain ⟨t, h, q⟩ := hbody cdv A outer s H vs Q E hr hsp
 exact ⟨t, h.nox, q⟩
theorem Fun.binds {x qual : Str} {st : Stmt} {f : Addr} {fd : FuncData} {ps : List Str} (F : Fun K x qual st f fd)
  (h : ∀ (kV doc pm : Value) (an : Option Addr) (cdv ct : Value) (us : List Value), us.length = ps.length → bindArgs (PySem.W.fnOf x qual (defArgs st) (defBody st) (defScope st) .none kV doc pm an cdv ct) ⟨us, []⟩ = pure (ps.zip us)) : Binds K fd ps [] := by
 obtain ⟨oc, od, kV, doc, pm, an, cdv, ct, osl, rfl, lk, hcd⟩ := F.ex
 exact .all (h kV doc pm an cdv ct)
theorem fun_mk {x qual : Str} {st : Stmt} {f : Addr} {oc : Value} {od an : Option Addr} {osl : Array (Option Value)} {kV doc pm cdv ct : Value} (l : K.lookup f = some ⟨oc, od, .func (PySem.W.fnOf x qual (defArgs st) (defBody st) (defScope st) .none kV doc pm an cdv ct), osl⟩)
  (c : PySem.W.codeIn K cdv qual = true) (k : PySem.W.keepIn K (.ref f) = true) : Fun K x qual st f (PySem.W.fnOf x qual (defArgs st) (defBody st) (defScope st) .none kV doc pm an cdv ct) := ⟨⟨oc, od, kV, doc, pm, an, cdv, ct, osl, rfl, l, c⟩, k⟩
end
theorem small1000 {n : Nat} (h : n ≤ 1000) : n < sizeLine := Nat.lt_of_le_of_lt h (by decide)
section
variable {X : Cx}
theorem pv (i : Nat) {x : Str} {pos : Pos} (hN : X.N[i]? = some x := by rfl) (hv : Vis X.env.scope x := by first | exact Or.inl rfl | exact Or.inr (Or.inl rfl) | exact Or.inr (Or.inr rfl)) (hd : (x == ("__debug__" : Str)) = false := by decide)
  (hcd : (x == ("__classdict__" : Str)) = false := by decide) : PE X (.Name x pos) (tVar i) := pe_var hN hv hd hcd
end
theorem iteF {A B : Prop} (h : B) : if false = true then A else B := by
 rw [if_neg Bool.false_ne_true]
 exact h
theorem iteT {A B : Prop} (h : A) : if true = true then A else B := by
 rw [if_pos rfl]
 exact h
def Same (H H' : Hp) : Prop := ∀ b o, H b = some o → H' b = some o
theorem Same.refl (H : Hp) : Same H H := fun _ _ h => h
theorem Same.trans {H H1 H2 : Hp} (a : Same H H1) (b : Same H1 H2) : Same H H2 := fun c o h => b c o (a c o h)
theorem Same.free {H H' : Hp} (e : Same H H') {l : Addr} (h : H' l = Option.none) : H l = Option.none := by
 cases q : H l with
 | none => rfl
 | some o =>
  rw [e l o q] at h
  cases h
theorem Same.seq {K : PySem.W.Frag} {H H' : Hp} {a : Addr} {xs : List V} (e : Same H H') (h : SqL K H a xs) : SqL K H' a xs := by
 rcases h with (h | ⟨o, h⟩) | h
 ·exact .inl (.inl (e _ _ h))
 ·exact .inl (.inr ⟨o, e _ _ h⟩)
 ·exact .inr h
end L2
section
namespace L2
open PySem PySem.Spec PyProof.Rows
section
variable {prog : Program} {w : World} {A : Around} {R : Result → Shared → Prop} {s : Shared}
def lcTests (ifs : List Expr) (env : Env) : Sem Bool :=
 forIn ifs true fun c r => if r = true then do let ok ← isTrue c env (eval c env); pure (ForInStep.yield ok) else pure (ForInStep.yield r)
theorem lc_loop {elt tg iter : Expr} {ifs : List Expr} {scope : Scope} {pos : Pos} {it acc : Value} {env : Env} (J : Nat → Shared → Prop)
  (turn : ∀ n s, J n s → wpAny (model prog w) A (pyNext it) (fun r s1 => match r with
   | none => R (.ok .next) s1
   | some v => wpAny (model prog w) A (letOwnedTupleGo tg it v) (fun _ s2 => wpAny (model prog w) A (assign tg env v) (fun _ s3 => wpAny (model prog w) A (lcTests ifs env) (fun ok s4 =>
     if ok = true then wpAny (model prog w) A (eval elt env) (fun x s5 => wpAny (model prog w) A (call (.builtin "list.append") [acc, x]) (fun _ s6 => ∃ m, m < n ∧ J m s6) (fun _ _ => False) s5) (fun _ _ => False) s4
     else ∃ m, m < n ∧ J m s4) (fun _ _ => False) s3) (fun _ _ => False) s2) (fun _ _ => False) s1) (fun _ _ => False) s)
  (n : Nat) (h : J n s) : codeAny (model prog w) A (.compLoop (.ListComp elt [⟨tg, iter, ifs, 0⟩] scope pos) 0 it acc env) R s := by
 refine codeAny_loop rfl J (fun n s hJ => ?_) n h
 show wpAny _ A (Sem.onRaise (compTurn (.ListComp elt [⟨tg, iter, ifs, 0⟩] scope pos) 0 it acc env) _) _ _ s
 refine wpAny_noted ?_
 rw [compTurn_list]
 refine wpAny_bind (wpAny_standAt (wpAny_bind (wpAny_mono (turn n s hJ) (fun r s1 h1 => ?_) (fun _ _ z => z.elim))))
 cases r with
 | none => exact wpAny_pure h1
 | some v =>
  refine wpAny_bind (wpAny_mono h1 (fun _ s2 h2 => wpAny_bind (wpAny_mono h2 (fun _ s3 h3 => wpAny_bind (wpAny_mono h3 (fun ok s4 h4 => ?_) (fun _ _ z => z.elim))) (fun _ _ z => z.elim))) (fun _ _ z => z.elim))
  cases ok with
  | false => exact wpAny_pure ⟨rfl, h4⟩
  | true => exact wpAny_bind (wpAny_bind (wpAny_mono h4 (fun x s5 h5 => wpAny_bind (wpAny_mono h5 (fun _ s6 h6 => wpAny_pure (wpAny_pure ⟨rfl, h6⟩)) (fun _ _ z => z.elim))) (fun _ _ z => z.elim)))
end
def cloGo (env : Env) : List (Str × NameKind) → List (Str × Addr) → List (Str × Addr)
 | [], cs => cs
 | y :: r, cs => if y.2 = .free then cloGo env r ((y.1, (env.cells.lookup y.1).getD 0) :: cs) else cloGo env r cs
theorem clo_run {env : Env} (f : Str × NameKind → List (Str × Addr) → Sem (ForInStep (List (Str × Addr))))
  (h1 : ∀ y cs c, y.2 = .free → env.cells.lookup y.1 = some c → f y cs = pure (.yield ((y.1, c) :: cs))) (h2 : ∀ y cs, y.2 ≠ .free → f y cs = pure (.yield cs)) :
  ∀ (ns : List (Str × NameKind)) (cs : List (Str × Addr)), (∀ y ∈ ns, y.2 = .free → ∃ c, env.cells.lookup y.1 = some c) → forIn ns cs f = (pure (cloGo env ns cs) : Sem (List (Str × Addr)))
 | [], cs, _ => by simp [cloGo]
 | y :: r, cs, h => by
  have hr : ∀ z ∈ r, z.2 = .free → ∃ c, env.cells.lookup z.1 = some c := fun z hz => h z (List.mem_cons_of_mem _ hz)
  rw [List.forIn_cons]
  by_cases hy : y.2 = .free
  ·obtain ⟨c, hc⟩ := h y List.mem_cons_self hy
   rw [h1 y cs c hy hc]
   simp only [cloGo, if_pos hy, hc, Option.getD_some]
   exact clo_run f h1 h2 r _ hr
  ·rw [h2 y cs hy]
   simp only [cloGo, if_neg hy]
   exact clo_run f h1 h2 r _ hr
theorem closure_eq {scope : Scope} {env : Env} (h : ∀ y ∈ scope.names, y.2 = .free → ∃ c, env.cells.lookup y.1 = some c) : closureFor scope env = pure (cloGo env scope.names []) := by
 unfold closureFor
 dsimp only
 rw [clo_run (env := env) _ (fun y cs c hy hc => ?_) (fun y cs hy => ?_) scope.names [] h]
 ·rfl
 ·obtain ⟨n, k⟩ := y
  dsimp only at hy hc ⊢
  subst hy
  simp only [cellOf, hc, beq_self_eq_true, if_true]
  rfl
 ·obtain ⟨n, k⟩ := y
  have e : (k == NameKind.free) = false := by simpa using hy
  simp only [e, Bool.false_eq_true, if_false]
theorem cloGo_sub {env : Env} : ∀ (ns : List (Str × NameKind)) (cs : List (Str × Addr)) (x : Str) (c : Addr), (∀ y ∈ ns, y.2 = .free → ∃ c, env.cells.lookup y.1 = some c) →
  (∀ z d, cs.lookup z = some d → env.cells.lookup z = some d) → (cloGo env ns cs).lookup x = some c → env.cells.lookup x = some c
 | [], cs, x, c, _, hc, h => hc x c h
 | y :: r, cs, x, c, hy, hc, h => by
  have hr : ∀ z ∈ r, z.2 = .free → ∃ c, env.cells.lookup z.1 = some c := fun z hz => hy z (List.mem_cons_of_mem _ hz)
  unfold cloGo at h
  split at h
  ·rename_i hk
   obtain ⟨d, hd⟩ := hy y List.mem_cons_self hk
   rw [hd] at h
   refine cloGo_sub r _ x c hr (fun z e hz => ?_) h
   rw [List.lookup_cons] at hz
   split at hz
   ·rename_i hzy
    cases hz
    rw [eq_of_beq hzy]; exact hd
   ·exact hc z e hz
  ·exact cloGo_sub r _ x c hr hc h
theorem cloGo_keep {env : Env} : ∀ (ns : List (Str × NameKind)) (cs : List (Str × Addr)) (x : Str), (cs.lookup x).isSome = true → ((cloGo env ns cs).lookup x).isSome = true
 | [], _, _, h => h
 | y :: r, cs, x, h => by
  unfold cloGo
  split
  ·refine cloGo_keep r _ x ?_
   rw [List.lookup_cons]
   split
   ·rfl
   ·exact h
  ·exact cloGo_keep r _ x h
theorem cloGo_has {env : Env} : ∀ (ns : List (Str × NameKind)) (cs : List (Str × Addr)) (x : Str), (x, NameKind.free) ∈ ns → ((cloGo env ns cs).lookup x).isSome = true
 | [], _, _, h => by simp at h
 | y :: r, cs, x, h => by
  rcases List.mem_cons.mp h with e | e
  ·subst e
   unfold cloGo
   rw [if_pos rfl]
   exact cloGo_keep r _ x (by simp)
  ·unfold cloGo
   split
   ·exact cloGo_has r _ x e
   ·exact cloGo_has r _ x e
theorem relabel_of {scope : Scope} {env : Env} {x : Str} {k : NameKind} (h : (relabel scope env).names.lookup x = some k) : (x, k) ∈ scope.names ∨ ((x, NameKind.free) ∈ scope.names ∧ k = NameKind.cell) := by
 have m := PySem.mem_of_lookup h
 obtain ⟨⟨n, k'⟩, hm, e⟩ := List.mem_map.mp m
 dsimp only at e
 split at e
 ·rename_i hk
  cases e
  simp only [Bool.and_eq_true, beq_iff_eq] at hk
  rw [hk.1.1] at hm
  exact .inr ⟨hm, rfl⟩
 ·cases e
  exact .inl hm
theorem relabel_free {scope : Scope} {env : Env} (hk : env.scope.kind = .function) {x : Str} (hx : env.kindOf x = some .cell) (h : scope.names.lookup x = some .free) : (relabel scope env).names.lookup x = some .cell := by
 unfold relabel
 show (scope.names.map _).lookup x = some NameKind.cell
 generalize scope.names = ns at h
 induction ns with
 | nil => simp at h
 | cons y r ih =>
  obtain ⟨n, k⟩ := y
  rw [List.lookup_cons] at h
  rw [List.map_cons]
  split at h
  ·rename_i hn
   cases h
   rw [← eq_of_beq hn]
   simp [hk, hx]
  ·rename_i hn
   dsimp only
   split
   ·rw [List.lookup_cons, hn]; exact ih h
   ·rw [List.lookup_cons, hn]; exact ih h
def cxLc (X : Cx) (scope : Scope) (N : List Str) (C : Addr) (s : Shared) (H : Hp) (fp : List Addr) : Cx :=
 { X with N := N, s₀ := s, H₀ := H, env := compEnvC scope (cloGo X.env scope.names []) C X.env, outer := X.stack, ex := fp, fn := fun _ => false, pn := [], xe := fun _ _ => False }
structure LcScope (N₀ : List Str) (sc₀ sc : Scope) (x : Str) (N : List Str) (ix : List Nat) : Prop where
 kind : sc.kind = .function
 nocell : ∀ y ∈ sc.names, y.2 ≠ .cell
 names : ∀ y ∈ sc.names, y.2 = .local → sc.names.lookup y.1 = some .local
 free : ∀ y ∈ sc.names, y.2 = .free → sc₀.names.lookup y.1 = some .cell
 nd : N.Nodup
 hd : N.head? = some x
 loc : sc.names.lookup x = some .local
 len : N.length = ix.length + 1
 at_ : ∀ p ∈ N.tail.zip ix, N₀[p.2]? = some p.1 ∧ sc.names.lookup p.1 = some .free
def frV (σ : St) (ix : List Nat) : St := ix.map fun j => (σ[j]?).getD none
def PIf (X : Cx) (ifs : List Expr) (t : TT) : Prop :=
 ∀ (pins : List (Addr × Obj)) (s : Shared) (σ : St) (H : Hp) (Q : Bool → Hp → Prop), Inv X pins σ H s → t σ H Q → wpAny (model X.prog X.w) X.A (lcTests ifs X.env) (TP X pins σ Q) X.xe s
def tYes : TT := fun _ H Q => Q true H
theorem pif_nil {X : Cx} : PIf X [] tYes := fun pins s σ H Q I h => wpAny_tests_nil ⟨H, I, h⟩
def rdLc (J : It) (H1 : Hp) (fr : St) (tc : TT) (te : TE) (Q : VK) : Prop := ∀ D, H1 D = none → ∃ W : Nat → Nat → Hp → Prop, (∃ m, W 0 m (upd H1 D (.lst []))) ∧ ∀ i m H, W i m H →
 (J.stop i H ∧ Q (.ref D) H) ∨ (J.go i H ∧ ∀ x H', J.yld i H x H' → tc (some x :: fr) H' fun b H3 =>
  if b = true then te (some x :: fr) H3 fun y H4 => ∃ ys, H4 D = some (.lst ys) ∧ ys.length < sizeLine ∧ ∃ m', m' < m ∧ W (i + 1) m' (upd H4 D (.lst (ys ++ [y]))) else ∃ m', m' < m ∧ W (i + 1) m' H3)
def tLc (wi : TI) (ix : List Nat) (tc : TT) (te : TE) : TE := fun σ H Q => wi σ H fun J H1 => rdLc J H1 (frV σ ix) tc te Q
section
variable {X : Cx} {scope : Scope} {N : List Str} {ix : List Nat} {x : Str} {px : Pos} {elt iter : Expr} {ifs : List Expr} {tc : TT} {te : TE} {pos : Pos}
theorem lc_ok {pins : List (Addr × Obj)} {σ : St} {H2 : Hp} {s2 : Shared} {J : It} {fp : List Addr} {it : Addr} {tn : Nat → Heap → Prop} {tg : Expr} (L : LcScope X.N X.env.scope scope x N ix) (I2 : Inv X pins σ H2 s2)
  (T : Turn X.prog X.w X.K tg J fp it tn) (st2 : tn 0 s2.heap) (f2 : ∀ b ∈ fp, FpOk X pins H2 b) {C : Addr} {s3 s4 : Shared} {H3 : Hp} (I3 : Inv X pins σ H3 s3) (I4 : Inv X pins σ H3 s4) (hle : s2.heap.objs.size ≤ s3.heap.objs.size)
  (hC : C = s3.heap.objs.size) (ho : s4.os = s3.os) (kp : ∀ b u, s3.heap.get? b = some u → s4.heap.get? b = some u) {m : Str → Option Value} (hns : s4.heap.Ns C m) : Inv (cxLc X scope N C s3 H3 fp) [] (none :: frV σ ix) H3 s4 := by
 have hfree : ∀ y ∈ scope.names, y.2 = .free → ∃ c, X.env.cells.lookup y.1 = some c := fun y hy hf => I2.ok.has y.1 (.inl (L.free y hy hf))
 have sub : ∀ y c, (cloGo X.env scope.names []).lookup y = some c → X.env.cells.lookup y = some c := fun y c h => cloGo_sub _ _ y c hfree (fun _ _ z => by simp at z) h
 have lt2 : ∀ b ∈ fp, b < s2.heap.objs.size := fun b hb => by obtain ⟨o, e, _⟩ := T.obj _ _ st2 b hb; exact Heap.lt_size e
 have okY : (cxLc X scope N C s3 H3 fp).Ok := by
  refine ⟨I2.ok.mod, L.kind, I2.ok.glob, I2.ok.blt, Nat.le_of_eq hC.symm, fun y z c h1 h2 => I2.ok.inj y z c (sub y c h1) (sub z c h2), fun y hy => ?_, fun y c z _ => ?_, I2.ok.hd, I2.ok.frames, .inl rfl, fun b hb => ⟨?_, fun y c h => (f2 b hb).2.2.2.2.1 y c (sub y c h)⟩,
   I3.bs, Nat.le_trans I3.ok.bsz I3.sz, fun b o e hb => ?_, fun b hb z => ?_, I3.stack, I3.stkFree⟩
  ·have hk : (y, NameKind.free) ∈ scope.names := by
    rcases hy with hy | hy
    ·rcases relabel_of hy with q | q
     ·exact absurd rfl (L.nocell _ q)
     ·exact q.1
    ·rcases relabel_of hy with q | q
     ·exact q
     ·exact absurd q.2 (by decide)
   exact Option.isSome_iff_exists.mp (cloGo_has _ _ y hk)
  ·cases (show false = true from z)
  ·have l := lt2 b hb
   show b ≠ C
   rw [hC]
   exact Nat.ne_of_lt (Nat.lt_of_lt_of_le l hle)
  ·rcases (f2 b hb).2.2.2.1 with q | q
   ·exact I2.ok.noex b o e q
   ·exact absurd (Nat.lt_of_lt_of_le (Heap.lt_size e) (Nat.le_trans I2.ok.bsz q)) (Nat.lt_irrefl _)
  ·rcases List.mem_cons.mp (I2.stkSub b z) with q | q
   ·exact (f2 b hb).2.1 q
   ·exact (f2 b hb).2.2.1 q
 refine ⟨okY, ho, I4.bare, Un.kept kp, ⟨m, hns, fun i y v h1 h2 h3 => ?_⟩, fun y c e => I4.cell y c (sub y c e), ?_, fun y c e => I4.freeC y c (sub y c e), fun p hp => absurd (show p ∈ ([] : List (Addr × Obj)) from hp) (by simp), I4.hok, ?_⟩
 ·cases i with
  | zero => cases (show some none = some (some v) from h2)
  | succ k =>
   have h2 : (frV σ ix)[k]? = some (some v) := h2
   have h1 : N[k + 1]? = some y := h1
   unfold frV at h2
   rw [List.getElem?_map] at h2
   cases hj : ix[k]? with
   | none => rw [hj] at h2; cases h2
   | some j =>
    rw [hj] at h2
    have h2 : (σ[j]?).getD none = some v := Option.some.inj h2
    have h2' : σ[j]? = some (some v) := by
     cases e : σ[j]? with
     | none => rw [e] at h2; cases h2
     | some z => rw [e] at h2; exact congrArg some h2
    have ht : N.tail[k]? = some y := by rw [List.getElem?_tail]; exact h1
    have hz : (y, j) ∈ N.tail.zip ix := List.mem_of_getElem? (i := k) (by rw [List.getElem?_zip_eq_some]; exact ⟨ht, hj⟩)
    obtain ⟨q1, q2⟩ := L.at_ _ hz
    have hm := PySem.mem_of_lookup q2
    have hcell := L.free _ hm rfl
    obtain ⟨m', hn', hl'⟩ := I4.loc
    obtain ⟨u, r, lk⟩ := hl' j y v q1 h2' (.inr (.inl hcell))
    refine ⟨u, r, .inr ⟨.inl (relabel_free I2.ok.kind hcell q2), ?_⟩⟩
    rcases lk with lk | ⟨_, c, e, z⟩
    ·rw [show X.env.kindOf y = some .cell from hcell] at lk
     cases lk.1
    ·obtain ⟨c', e'⟩ := Option.isSome_iff_exists.mp (cloGo_has (env := X.env) scope.names [] y hm)
     have e2 := sub y c' e'
     rw [e] at e2
     cases e2
     exact ⟨c, e', z⟩
 ·show H3 C = none
  exact I3.hok.fresh (Nat.le_of_eq hC.symm)
 ·show (none :: frV σ ix).length = N.length
  rw [L.len]
  simp [frV]
theorem lc_run {tgt : Expr} (htg : tgt = .Name x px) {pins : List (Addr × Obj)} {σ : St} {H2 : Hp} {s2 : Shared} {J : It} {fp : List Addr} {it : Addr} {tn : Nat → Heap → Prop} (hc : X.calm = true) (L : LcScope X.N X.env.scope scope x N ix) (I2 : Inv X pins σ H2 s2)
  (T : Turn X.prog X.w X.K tgt J fp it tn) (st2 : tn 0 s2.heap) (f2 : ∀ b ∈ fp, FpOk X pins H2 b)
  (hif : ∀ C s H, PIf (cxLc X scope N C s H fp) ifs tc) (he : ∀ C s H, PE (cxLc X scope N C s H fp) elt te) {Q : VK} (rd : rdLc J H2 (frV σ ix) tc te Q) {RR : Value → Addr → Result → Shared → Prop} {E : Value → Shared → Prop}
  (fin : ∀ D C H' s' m, Inv X pins σ H' s' → s2.heap.objs.size ≤ C → H' C = none → s'.heap.Ns C m → Q (.ref D) H' → RR (.ref D) C (.ok .next) s') :
  wpAny (model X.prog X.w) X.A (newList []) (fun acc s3 => wpAny (model X.prog X.w) X.A (newFunctionEnv scope X.env.globals (cloGo X.env scope.names []) [] X.env.qual none .none (some X.env)) (fun cenv s4 =>
   codeAny (model X.prog X.w) X.A (.compStart (.ListComp elt [⟨tgt, iter, ifs, 0⟩] scope pos) 0 (.ref it) acc { cenv with scope := relabel scope X.env }) (RR acc cenv.locals) s4) E s3) E s2 := by
 refine wpAny_newObj_type (wpAny_newFunctionEnv L.nocell (by intro y hy; simp at hy) (fun h1 hns hsb => ?_) L.kind)
 dsimp only at hns hsb ⊢
 have I3 : Inv X pins σ (upd H2 s2.heap.objs.size (.lst [])) { s2 with heap := s2.heap.push { cls := .type "list", dict := none, data := .seq ([] : List Value).toArray } } := I2.lnew (its := []) (t' := s2.toks) .nil (Nat.zero_le _)
 generalize hH3 : s2.heap.push { cls := .type "list", dict := none, data := .seq ([] : List Value).toArray } = h3 at hns hsb I3 ⊢
 have hsz : h3.objs.size = s2.heap.objs.size + 1 := by rw [← hH3, Heap.size_push]
 have kp34 : ∀ b u, h3.get? b = some u → h1.get? b = some u := fun b u e => hsb.extBut b u (Nat.ne_of_lt (Heap.lt_size e)) (Heap.get?_push_of_some _ e)
 have I4 : Inv X pins σ (upd H2 s2.heap.objs.size (.lst [])) { s2 with heap := h1, toks := s2.toks + ([] : List (Str × Value)).length } := I3.kept (t' := s2.toks + ([] : List (Str × Value)).length) kp34
 have kp24 : ∀ b u, s2.heap.get? b = some u → h1.get? b = some u := fun b u e => kp34 b u (by rw [← hH3]; exact Heap.get?_push_of_some _ e)
 have IY := lc_ok (C := h3.objs.size) (s3 := { s2 with heap := h3 }) L I2 T st2 f2 I3 I4 (by show s2.heap.objs.size ≤ h3.objs.size; omega) rfl rfl kp34 hns
 have fD : H2 s2.heap.objs.size = none := I2.hok.fresh (Nat.le_refl _)
 have lt2 : ∀ b ∈ fp, b < s2.heap.objs.size := fun b hb => by obtain ⟨o, e, _⟩ := T.obj _ _ st2 b hb; exact Heap.lt_size e
 have st4 : tn 0 h1 := T.keep _ _ _ st2 fun b _ o e => kp24 b o e
 have stat : ∀ {pn : List (Addr × Obj)} {H' : Hp}, pn = [] → (∀ b ∈ fp, H' b = none) → ∀ b ∈ fp, FpOk (cxLc X scope N h3.objs.size { s2 with heap := h3 } (upd H2 s2.heap.objs.size (.lst [])) fp) pn H' b := fun hp hn b hb => by
  subst hp
  exact ⟨hn b hb, (IY.ok.exf b hb).1, IY.ok.exfs b hb, .inl hb, (IY.ok.exf b hb).2, fun p hp => absurd (show p ∈ ([] : List (Addr × Obj)) from hp) (by simp)⟩
 obtain ⟨W, ⟨m0, w0⟩, turn⟩ := rd _ fD
 have loop : codeAny (model X.prog X.w) X.A (.compLoop (.ListComp elt [⟨tgt, iter, ifs, 0⟩] scope pos) 0 (.ref it) (.ref s2.heap.objs.size) (compEnvC scope (cloGo X.env scope.names []) h3.objs.size X.env)) (RR (.ref s2.heap.objs.size) h3.objs.size)
   { s2 with heap := h1, toks := s2.toks + ([] : List (Str × Value)).length } := by
  refine lc_loop (fun n s' => ∃ i H', Inv (cxLc X scope N h3.objs.size { s2 with heap := h3 } (upd H2 s2.heap.objs.size (.lst [])) fp) [] (none :: frV σ ix) H' s' ∧ tn i s'.heap ∧ (∀ b ∈ fp, H' b = none) ∧ W i n H') ?_ m0
   ⟨0, _, IY, st4, fun b hb => by rw [upd_ne (Nat.ne_of_lt (lt2 b hb))]; exact (f2 b hb).1, w0⟩
  rintro n s5 ⟨i, H5, I5, st5, fr5, w5⟩
  rcases turn i n H5 w5 with ⟨stop, q⟩ | ⟨go, step⟩
  ·refine thn (T.done (cxLc X scope N h3.objs.size { s2 with heap := h3 } (upd H2 s2.heap.objs.size (.lst [])) fp) rfl rfl rfl hc i [] s5 _ H5 (fun _ _ => False) I5 (stat rfl fr5) st5 stop) fun r s6 ⟨hr, I6⟩ => ?_
   subst hr
   obtain ⟨m6, hn6, _⟩ := I6.loc
   have u1 : Un (frs X.stack) fp H2 (upd H2 s2.heap.objs.size (.lst [])) s2.heap h3 := Un.laid (fun b u e => by rw [← hH3]; exact Heap.get?_push_of_some _ e) (Nat.le_refl _) fD
   have back : Inv X pins σ H5 s6 := I2.call' (ch := fp) (I6.os.trans rfl) (u1.trans I6.base) I6.hok I6.bare fun b hb => ⟨(f2 b hb).2.2.2.1, (f2 b hb).2.1, (f2 b hb).2.2.2.2.1, (f2 b hb).2.2.2.2.2⟩
   exact fin _ _ H5 s6 m6 back (by omega) I6.free hn6 q
  ·refine thn (T.item (cxLc X scope N h3.objs.size { s2 with heap := h3 } (upd H2 s2.heap.objs.size (.lst [])) fp) rfl rfl rfl hc i [] s5 _ H5 (fun _ _ => False) I5 (stat rfl fr5) st5 go) fun r s6 ⟨u, hr, h6⟩ => ?_
   subst hr
   refine thn h6 fun _ s7 ⟨y, H7, I7, r7, y7, st7, fr7⟩ => ?_
   have I7' := I7.pinned (stat rfl fr7) (T.obj _ _ st7)
   have hg : PG (cxLc X scope N h3.objs.size { s2 with heap := h3 } (upd H2 s2.heap.objs.size (.lst [])) fp) tgt (gName 0) := by
    rw [htg]
    have hi : N[0]? = some x := by have := L.hd; rwa [List.head?_eq_getElem?] at this
    exact pg_name L.nd hi (.inl (lookup_relabel_local L.loc)) (.inr (lookup_relabel_local L.loc))
   refine thn (hg _ s7 _ H7 y u (fun σ' H' => σ' = some y :: frV σ ix ∧ H' = H7) I7' r7 ⟨rfl, rfl⟩) fun _ s8 ⟨σ8, H8, I8, e8, e8'⟩ => ?_
   subst e8 e8'
   refine thn (hif _ _ _ _ s8 _ _ _ I8 (step y _ y7)) fun ok s9 ⟨H9, I9, q9⟩ => ?_
   have again : ∀ {sz : Shared} {Hz : Hp} {m' : Nat}, Inv (cxLc X scope N h3.objs.size { s2 with heap := h3 } (upd H2 s2.heap.objs.size (.lst [])) fp) ([] ++ pinsAt fp s7.heap) (some y :: frV σ ix) Hz sz → m' < n → W (i + 1) m' Hz →
     ∃ m, m < n ∧ ∃ i H', Inv (cxLc X scope N h3.objs.size { s2 with heap := h3 } (upd H2 s2.heap.objs.size (.lst [])) fp) [] (none :: frV σ ix) H' sz ∧ tn i sz.heap ∧ (∀ b ∈ fp, H' b = none) ∧ W i m H' := fun {sz Hz m'} Iz hm wz => by
    refine ⟨m', hm, i + 1, Hz, Iz.unpinned.weak (by simp) (fun j v e => ?_), T.keep _ _ _ st7 fun b hb o e => (Iz.pin (b, o) (List.mem_append_right _ (List.mem_append_right _ (mem_pinsAt hb e)))).1, fun b hb => ?_, wz⟩
    ·cases j with
     | zero => cases e
     | succ j => exact e
    ·obtain ⟨o, e, d⟩ := T.obj _ _ st7 b hb
     exact (Iz.pin (b, o) (List.mem_append_right _ (List.mem_append_right _ (mem_pinsAt hb e)))).2.1
   cases ok with
   | false =>
    obtain ⟨m', hm, wz⟩ := q9
    exact again I9 hm wz
   | true =>
    refine thn (he _ _ _ _ s9 _ _ _ I9 q9) fun xv s10 ⟨z, H10, I10, r10, ys, hD, hl, m', hm, wz⟩ => ?_
    refine thn (mt_append _ s10 _ H10 (.ref s2.heap.objs.size) [z] (.ref s2.heap.objs.size) [xv] (fun _ Hz => Hz = upd H10 s2.heap.objs.size (.lst (ys ++ [z]))) I10 rfl (.cons r10 .nil) ⟨_, ys, z, rfl, rfl, hD, hl, rfl⟩) fun _ s11 ⟨_, H11, I11, _, q11⟩ => ?_
    subst q11
    exact again I11 hm wz
 exact codeAny_compStart_list loop (T.self X.A 0 _ _ _ st4 loop)
theorem pe_lc {wi : TI} (hc : X.calm = true) (L : LcScope X.N X.env.scope scope x N ix) (hi : PI X (.Name x px) iter wi) (hif : ∀ C s H fp, PIf (cxLc X scope N C s H fp) ifs tc) (he : ∀ C s H fp, PE (cxLc X scope N C s H fp) elt te)
  (hs : ∀ z, foldedSetIterable iter X.env z = pure z := by intro _; rfl) : PE X (.ListComp elt [⟨.Name x px, iter, ifs, 0⟩] scope pos) (tLc wi ix tc te) := by
 intro pins s σ H Q I h
 have hfree : ∀ y ∈ scope.names, y.2 = .free → ∃ c, X.env.cells.lookup y.1 = some c := fun y hy hf => I.ok.has y.1 (.inl (L.free y hy hf))
 rw [eval_ListComp]
 refine wpAny_comprehension_free (use := none) rfl hs (closure_eq hfree) L.kind L.names (thn (hi pins s σ H _ I h) fun v s1 h1 => thn h1 fun itv s2 h2 => ?_)
 obtain ⟨it, fp, tn, J, H2, e, I2, T, st2, f2, rd⟩ := h2
 subst e
 refine lc_run (RR := fun acc C => compPost (model X.prog X.w) X.A X.xe none _ acc C) rfl hc L I2 T st2 f2 (fun C s H => hif C s H fp) (fun C s H => he C s H fp) rd fun D C H' s' m I' hC hf hn q => ?_
 refine ⟨m, hn, fun h' hsb => ⟨.ref D, H', ?_, rfl, q⟩⟩
 have l2 := I2.lt
 refine I'.turned (t' := s'.toks) (it := C) (fun b o hb e => hsb.extBut b o hb e) hf (Nat.ne_of_gt (Nat.lt_of_lt_of_le l2 hC)) (.inr (Nat.le_trans I2.sz hC)) (fun y c e => ?_) fun p hp => ?_
 ·obtain ⟨v, hv⟩ := I2.cell y c e
  exact Nat.ne_of_lt (Nat.lt_of_lt_of_le hv.lt hC)
 ·exact Nat.ne_of_lt (Nat.lt_of_lt_of_le (Heap.lt_size (I2.pin p hp).1) hC)
theorem ps_setlc {wi : TI} {i : Nat} {y : Str} {py spos : Pos} (hc : X.calm = true) (L : LcScope X.N X.env.scope scope x N ix) (hN : X.N.Nodup) (hy : X.N[i]? = some y) (hl : X.env.scope.names.lookup y = some .local)
  (hi : PI X (.Name x px) iter wi) (hif : ∀ C s H fp, PIf (cxLc X scope N C s H fp) ifs tc) (he : ∀ C s H fp, PE (cxLc X scope N C s H fp) elt te)
  (hsw : swapsWith (.ListComp elt [⟨.Name x px, iter, ifs, 0⟩] scope pos) (some (.Name y py)) spos.line X.env = pure true := by rfl)
  (hs : ∀ z, foldedSetIterable iter X.env z = pure z := by intro _; rfl) : PS X (.Assign [.Name y py] (.ListComp elt [⟨.Name x px, iter, ifs, 0⟩] scope pos) spos) (tAsg (tLc wi ix tc te) (gName i)) := by
 intro pins s σ H D I h
 have hfree : ∀ y ∈ scope.names, y.2 = .free → ∃ c, X.env.cells.lookup y.1 = some c := fun y hy hf => I.ok.has y.1 (.inl (L.free y hy hf))
 rw [exec_Assign_Name_used _ _ _ _ hsw]
 refine wpAny_bind (wpAny_standAt (wpAny_bind ?_))
 show wpAny _ X.A (do let _ ← comprehension (.ListComp elt [⟨.Name x px, iter, ifs, 0⟩] scope pos) scope X.env _ (newList []) false (eval iter X.env) (some (assign (.Name y py) X.env))) _ _ s
 refine wpAny_bind (thn (Q := fun _ s' => SP X pins D .next s') (wpAny_comprehension_free (use := some (assign (.Name y py) X.env)) rfl hs (closure_eq hfree) L.kind L.names (thn (hi pins s σ H _ I h) fun v s1 h1 => thn h1 fun itv s2 h2 => ?_)) fun _ s' hq => wpAny_pure (wpAny_pure hq))
 obtain ⟨it, fp, tn, J, H2, e, I2, T, st2, f2, rd⟩ := h2
 subst e
 refine lc_run (RR := fun acc C => compPost (model X.prog X.w) X.A X.xe (some (assign (.Name y py) X.env)) _ acc C) rfl hc L I2 T st2 f2 (fun C s H => hif C s H fp) (fun C s H => he C s H fp) rd fun Da C H' s' m I' hC hf hn q => ?_
 have l2 := I2.lt
 have nC : C ≠ X.env.locals := Nat.ne_of_gt (Nat.lt_of_lt_of_le l2 hC)
 have nF : C ∉ X.fs := I2.nofs hC
 obtain ⟨oC, es, ep, hget, hdat, hrest⟩ := id hn
 have Ip : Inv X (pins ++ [(C, oC)]) σ H' s' := I'.pins_of fun p hp => (List.mem_append.mp hp).elim (fun z => I'.pin p (List.mem_append_right _ z)) fun z => by
  have e : p = (C, oC) := by simpa using z
  subst e
  exact ⟨hget, hf, nC, nF, fun v z => by rw [hdat] at z; cases z⟩
 have hg : PG X (.Name y py) (gName i) := pg_name hN hy (.inl hl) (.inr hl)
 show wpAny _ X.A (assign (.Name y py) X.env (.ref Da)) _ _ s'
 refine thn (hg _ s' σ H' (.ref Da) (.ref Da) D.nx Ip rfl q) fun _ s'' ⟨σ'', H'', I'', q''⟩ => ?_
 obtain ⟨g1, g2, _⟩ := I''.pin (C, oC) (List.mem_append_right _ (List.mem_append_right _ (by simp)))
 refine ⟨m, ⟨oC, es, ep, g1, hdat, hrest⟩, fun h' hsb => ⟨σ'', H'', ?_, q''⟩⟩
 refine I''.unpinned.turned (t' := s''.toks) (it := C) (fun b o hb e => hsb.extBut b o hb e) g2 nC (.inr (Nat.le_trans I2.sz hC)) (fun y c e => ?_) fun p hp => ?_
 ·obtain ⟨v, hv⟩ := I2.cell y c e
  exact Nat.ne_of_lt (Nat.lt_of_lt_of_le hv.lt hC)
 ·exact Nat.ne_of_lt (Nat.lt_of_lt_of_le (Heap.lt_size (I2.pin p hp).1) hC)
end
theorem same_upd {H : Hp} {D : Addr} {o : HO} (h : H D = none) : Same H (upd H D o) := fun b u e => by rw [upd_ne (ne_of_none e h)]; exact e
theorem lc_same {J : It} {H1 : Hp} {fr : St} {tc : TT} {te : TE} {Q : VK} (n : Nat) (item : Nat → V) (acc : Nat → List V) (h0 : acc 0 = []) (hz : ∀ i, i < n → (acc i).length < sizeLine)
  (hgo : ∀ i H, i < n → Same H1 H → J.go i H) (hy : ∀ i H x H', i < n → Same H1 H → J.yld i H x H' → x = item i ∧ H' = H) (hst : ∀ H, Same H1 H → J.stop n H)
  (turn : ∀ i H (R : Hp → Prop) (A : VK), i < n → Same H1 H → (acc (i + 1) = acc i → ∀ H', Same H H' → R H') → (∀ y H', acc (i + 1) = acc i ++ [y] → Same H H' → A y H') →
   tc (some (item i) :: fr) H fun b H3 => if b = true then te (some (item i) :: fr) H3 A else R H3)
  (fin : ∀ D H, H1 D = none → Same H1 H → H D = some (.lst (acc n)) → Q (.ref D) H) : rdLc J H1 fr tc te Q := by
 intro D hD
 refine ⟨fun i m H => i ≤ n ∧ m = n - i ∧ Same H1 H ∧ H D = some (.lst (acc i)), ⟨n, Nat.zero_le _, rfl, same_upd hD, by rw [upd_same, h0]⟩, ?_⟩
 rintro i m H ⟨hi, rfl, sm, hl⟩
 by_cases h : i = n
 ·subst h
  exact .inl ⟨hst H sm, fin D H hD sm hl⟩
 ·have hlt : i < n := Nat.lt_of_le_of_ne hi h
  refine .inr ⟨hgo i H hlt sm, fun x H' hyl => ?_⟩
  obtain ⟨rfl, rfl⟩ := hy i H x H' hlt sm hyl
  refine turn i H' _ _ hlt sm (fun ea H3 s3 => ?_) (fun y H4 ea s4 => ?_)
  ·exact ⟨n - (i + 1), by omega, by omega, rfl, sm.trans s3, by rw [ea]; exact s3 _ _ hl⟩
  ·refine ⟨acc i, s4 _ _ hl, hz i hlt, n - (i + 1), by omega, by omega, rfl, fun b u e => ?_, by rw [upd_same, ea]⟩
   rw [upd_ne (ne_of_none e hD)]
   exact s4 _ _ (sm _ _ e)
theorem lc_range {lo : Int} {n : Nat} {H1 : Hp} {fr : St} {tc : TT} {te : TE} {Q : VK} (acc : Nat → List V) (h0 : acc 0 = []) (hz : ∀ i, i < n → (acc i).length < sizeLine)
  (turn : ∀ (i : Nat) H (R : Hp → Prop) (A : VK), i < n → Same H1 H → (acc (i + 1) = acc i → ∀ H', Same H H' → R H') → (∀ y H', acc (i + 1) = acc i ++ [y] → Same H H' → A y H') →
   tc (some (.int (lo + i)) :: fr) H fun b H3 => if b = true then te (some (.int (lo + i)) :: fr) H3 A else R H3)
  (fin : ∀ D H, H1 D = none → Same H1 H → H D = some (.lst (acc n)) → Q (.ref D) H) : rdLc (Itr lo n) H1 fr tc te Q :=
 lc_same n (fun i => .int (lo + i)) acc h0 hz (fun i H hi _ => hi) (fun i H x H' _ _ h => ⟨h.2, h.1⟩) (fun H _ => Nat.le_refl n) turn fin
theorem lc_list {K : PySem.W.Frag} {a : Addr} {xs : List V} {H1 : Hp} {fr : St} {tc : TT} {te : TE} {Q : VK} (hl : SqL K H1 a xs) (acc : Nat → List V) (h0 : acc 0 = []) (hz : ∀ i, i < xs.length → (acc i).length < sizeLine)
  (turn : ∀ (i : Nat) x H (R : Hp → Prop) (A : VK), xs[i]? = some x → Same H1 H → (acc (i + 1) = acc i → ∀ H', Same H H' → R H') → (∀ y H', acc (i + 1) = acc i ++ [y] → Same H H' → A y H') →
   tc (some x :: fr) H fun b H3 => if b = true then te (some x :: fr) H3 A else R H3)
  (fin : ∀ D H, H1 D = none → Same H1 H → H D = some (.lst (acc xs.length)) → Q (.ref D) H) : rdLc (Itl K a) H1 fr tc te Q := by
 refine lc_same xs.length (fun i => xs.getD i .non) acc h0 hz (fun i H hi sm => ⟨xs, xs[i], sm.seq hl, by simp [hi]⟩) (fun i H x H' hi sm h => ⟨?_, h.1⟩) (fun H sm => ⟨xs, sm.seq hl, Nat.le_refl _⟩) (fun i H R A hi sm => turn i _ H R A (by simp [hi]) sm) fin
 have := h.2 xs (sm.seq hl)
 simp [List.getD, this]
theorem Same.seqT {K : PySem.W.Frag} {H H' : Hp} {a : Addr} {xs : List V} (e : Same H H') (h : SqT K H a xs) : SqT K H' a xs := by
 rcases h with (h | ⟨o, h⟩) | h
 ·exact .inl (.inl (e _ _ h))
 ·exact .inl (.inr ⟨o, e _ _ h⟩)
 ·exact .inr h
theorem lc_tup {K : PySem.W.Frag} {a : Addr} {xs : List V} {H1 : Hp} {fr : St} {tc : TT} {te : TE} {Q : VK} (hl : SqT K H1 a xs) (acc : Nat → List V) (h0 : acc 0 = []) (hz : ∀ i, i < xs.length → (acc i).length < sizeLine)
  (turn : ∀ (i : Nat) x H (R : Hp → Prop) (A : VK), xs[i]? = some x → Same H1 H → (acc (i + 1) = acc i → ∀ H', Same H H' → R H') → (∀ y H', acc (i + 1) = acc i ++ [y] → Same H H' → A y H') →
   tc (some x :: fr) H fun b H3 => if b = true then te (some x :: fr) H3 A else R H3)
  (fin : ∀ D H, H1 D = none → Same H1 H → H D = some (.lst (acc xs.length)) → Q (.ref D) H) : rdLc (Itt K a) H1 fr tc te Q := by
 refine lc_same xs.length (fun i => xs.getD i .non) acc h0 hz (fun i H hi sm => ⟨xs, xs[i], sm.seqT hl, by simp [hi]⟩) (fun i H x H' hi sm h => ⟨?_, h.1⟩) (fun H sm => ⟨xs, sm.seqT hl, Nat.le_refl _⟩) (fun i H R A hi sm => turn i _ H R A (by simp [hi]) sm) fin
 have := h.2 xs (sm.seqT hl)
 simp [List.getD, this]
end L2
end
section
namespace L2
open PySem PySem.Spec PyProof.Rows
theorem b_int : bootBuiltins "int" = some (.type "int") := by decide +kernel
theorem b_str : bootBuiltins "str" = some (.type "str") := by decide +kernel
theorem b_bool : bootBuiltins "bool" = some (.type "bool") := by decide +kernel
theorem b_list : bootBuiltins "list" = some (.type "list") := by decide +kernel
theorem b_tuple : bootBuiltins "tuple" = some (.type "tuple") := by decide +kernel
theorem b_dict : bootBuiltins "dict" = some (.type "dict") := by decide +kernel
theorem b_len : bootBuiltins "len" = some (.builtin "len") := by decide +kernel
theorem b_isinstance : bootBuiltins "isinstance" = some (.builtin "isinstance") := by decide +kernel
theorem b_sum : bootBuiltins "sum" = some (.builtin "sum") := by decide +kernel
theorem b_min : bootBuiltins "min" = some (.builtin "min") := by decide +kernel
theorem b_max : bootBuiltins "max" = some (.builtin "max") := by decide +kernel
structure Cal (P : Program) (w : World) (K : PySem.W.Frag) (mg : Str → Option Value) (base : Heap) (name : Str) (k : Nat) (ps : List Str) (sp : Sp) : Prop where
 ex : ∃ (f : Addr) (fd : FuncData), FnOk P w K mg base CX0 k f fd ps sp ∧ Binds K fd ps [] ∧ mg name = some (.ref f) ∧ PySem.W.keepIn K (.ref f) = true
section
variable {X : Cx} {k : Nat} {ps : List Str} {sp : Sp} {name m : Str} {p pos apos : Pos} {e o : Expr} {es : List Expr} {ta : TE} {t : TA}
theorem pe_fn (C : Cal X.prog X.w X.K X.mg X.base name k ps sp) (hr : Room k X.A) (ha : PA X (e :: es) t) (hg : Gl X name := by rfl) (hdb : (name == ("__debug__" : Str)) = false := by decide)
  (he : starEach (e :: es) X.env = (false, eval e X.env) :: starEach es X.env := by rfl) (hpl : (backTo pos (starEach es X.env)).any (·.1) = false := by rfl) : PE X (.Call (.Name name p) (e :: es) [] pos) (tCall sp [] E0 t) := by
 obtain ⟨f, fd, F, b, hm, hk⟩ := C.ex
 exact pe_call F hr hg hm hk b .nil pass0 ha hdb he hpl
end
section
variable {X : Cx}
def rIsi (K : PySem.W.Frag) : List V → Hp → VK → Prop := fun xs H Q => ∃ x n t b, xs = [x, .ty n] ∧ TyOf K H x t ∧ PySem.W.kitOne K t (.type n) = some b ∧ Q (.bl b) H
theorem call_isinst : CallR X (.builtin "isinstance") (rIsi X.K) := by
 intro pins s σ H xs us Q I r h
 obtain ⟨x, n, t, b, rfl, ty, e, q⟩ := h
 obtain ⟨u, w', rfl, ru, rw'⟩ := vals2 r
 cases (show w' = Value.type n from rw')
 exact isinst_ok I ru ty e fun tk => ⟨.bl b, H, I.tok tk, rfl, q⟩
theorem kit_int_bool {K : PySem.W.Frag} : PySem.W.kitOne K (.type "int") (.type "bool") = some false := by rfl
theorem kit_int_int {K : PySem.W.Frag} : PySem.W.kitOne K (.type "int") (.type "int") = some true := by rfl
theorem kit_str_str {K : PySem.W.Frag} : PySem.W.kitOne K (.type "str") (.type "str") = some true := by rfl
theorem kit_tuple_tuple {K : PySem.W.Frag} : PySem.W.kitOne K (.type "tuple") (.type "tuple") = some true := by rfl
end
theorem ext_cps {x y : Str} (h : x.cps.toList = y.cps.toList) : x = y := by
 obtain ⟨a⟩ := x
 obtain ⟨b⟩ := y
 have : a = b := Array.toList_inj.mp h
 rw [this]
def sgn (c : Nat) : Str := ⟨#[c]⟩
def repS (x : Str) (k : Nat) : Str := ⟨(List.replicate k x.cps.toList).flatten.toArray⟩
theorem repS_length (x : Str) (k : Nat) : (repS x k).length = k * x.length := by
 show (List.replicate k x.cps.toList).flatten.toArray.size = k * x.cps.size
 rw [List.size_toArray, len_rep]
 simp
theorem foldl_app (a : Array Nat) : ∀ (k : Nat) (acc : Array Nat), ((List.replicate k a).foldl (· ++ ·) acc).toList = acc.toList ++ (List.replicate k a.toList).flatten
 | 0, acc => by simp
 | k + 1, acc => by
  rw [List.replicate_succ, List.foldl_cons, foldl_app a k, List.replicate_succ]
  simp [List.append_assoc]
section
variable {X : Cx}
def rMulS : R2 := fun x y H Q => ∃ z k, x = .str z ∧ y = .int k ∧ -(2 ^ 40) < k ∧ k < 2 ^ 40 ∧ z.length * k.toNat ≤ sizeLine ∧ z.length ≤ sizeLine ∧ Q (.str (repS z k.toNat)) H
theorem op_mulS : OpR X (binaryOp .Mult) rMulS := by
 intro pins s σ H x y v u Q I rx ry h
 obtain ⟨z, k, rfl, rfl, k1, k2, hz, hz2, q⟩ := h
 obtain ⟨t, rfl⟩ := rx
 obtain ⟨t', rfl⟩ := ry
 have hs := line63
 have hs' := sizeLine_eq
 refine PySem.P.mul_str ?_ ?_ ?_ ?_
 ·rw [decide_eq_false (by omega), decide_eq_false (by omega)]; rfl
 ·intro h1 _ hgt
  have hk : k ≤ 2 ^ 40 := by omega
  have : (z.length : Int) ≤ (2 ^ 63 - 1) / k := by
   rw [Int.le_ediv_iff_mul_le (by omega)]
   have e : (z.length : Int) * k = ((z.length * k.toNat : Nat) : Int) := by
    rw [Int.natCast_mul, Int.toNat_of_nonneg (by omega)]
   rw [e]
   omega
  omega
 ·intro _ _
  unfold Builtin.Str.tooLong
  simpa using hz
 ·split
  ·rename_i h1
   have e : repS z k.toNat = Str.empty := by
    rw [show k.toNat = 0 by omega]; rfl
   rw [e] at q
   exact ⟨by decide, .str Str.empty, H, I.tok _, ⟨_, rfl⟩, q⟩
  ·rename_i h1
   split
   ·rename_i h2
    have e : repS z k.toNat = z := by
     refine ext_cps ?_
     show (List.replicate k.toNat z.cps.toList).flatten.toArray.toList = _
     rcases Bool.or_eq_true_iff.mp h2 with h2 | h2
     ·have : k = 1 := by simpa using h2
      subst this
      simp
     ·have : z.length = 0 := by simpa using h2
      have e0 : z.cps.toList = [] := by
       have : z.cps.size = 0 := this
       simpa using this
      rw [e0]
      simp
    rw [e] at q
    exact ⟨.str z, H, I, ⟨_, rfl⟩, q⟩
   ·have e : (⟨(List.replicate k.toNat z.cps).foldl (· ++ ·) #[]⟩ : Str) = repS z k.toNat := by
     refine ext_cps ?_
     show ((List.replicate k.toNat z.cps).foldl (· ++ ·) #[]).toList = _
     rw [foldl_app]
     simp [repS]
    refine ⟨?_, .str (repS z k.toNat), H, I.tok _, ⟨s.toks, by rw [e]⟩, q⟩
    rw [e, repS_length, Nat.mul_comm]
    exact hz
theorem strsAre_of {ys : List Str} : ∀ {us : List Value}, Vals (ys.map V.str) us → StrsAre us ys := by
 induction ys with
 | nil => intro us r; rw [List.map_nil] at r; cases r; exact .nil
 | cons y ys ih =>
  intro us r
  rw [List.map_cons] at r
  cases r with
  | cons r1 r2 =>
   obtain ⟨t, e⟩ := r1
   subst e
   exact .cons y t (ih r2)
def rJoin (K : PySem.W.Frag) : V → List V → Hp → VK → Prop := fun x vs H Q => ∃ sep p ys, x = .str sep ∧ vs = [.ref p] ∧ SqL K H p (ys.map V.str) ∧ (ys.map (·.length)).sum + ys.length * sep.length ≤ 16777216 ∧ Q (.str (Txt.join sep ys)) H
theorem mt_join : MtM X "str.join" (rJoin X.K) := by
 intro pins s σ H x vs v us Q I rx rv h
 obtain ⟨sep, p, ys, rfl, rfl, hp, hz, q⟩ := h
 obtain ⟨t, rfl⟩ := rx
 obtain ⟨u, rfl, ru⟩ := rv.one
 cases ru
 obtain ⟨its, r, pl, _⟩ := I.list hp
 exact join_list pl.isList (by simpa using strsAre_of r) hz fun t' k => ⟨.str (Txt.join sep ys), H, I.tok k, ⟨t', rfl⟩, q⟩
theorem fold_glue : ∀ (ys : List Str) (a : Array Nat), (ys.foldl (fun acc p => acc ++ ("" : Str).cps ++ p.cps) a).toList = a.toList ++ (ys.map fun y => y.cps.toList).flatten
 | [], a => by simp
 | y :: r, a => by
  rw [List.foldl_cons, fold_glue r]
  have e : ("" : Str).cps = #[] := rfl
  rw [e]
  simp [List.append_assoc]
theorem join_empty (ys : List Str) : (Txt.join ("" : Str) ys).cps.toList = (ys.map fun y => y.cps.toList).flatten := by
 show ((ys.drop 1).foldl (fun acc p => acc ++ ("" : Str).cps ++ p.cps) (ys.headD Str.empty).cps).toList = _
 rw [fold_glue]
 cases ys with
 | nil => rfl
 | cons y r => simp
end
end L2
end
section
namespace L2
open PySem
def nostar : Expr → Bool
 | .Starred .. => false
 | _ => true
theorem starEach_of {e : Expr} {es : List Expr} {env : Env} (h : nostar e = true) : starEach (e :: es) env = (false, eval e env) :: starEach es env := by
 cases e <;> first | rfl | cases h
section
variable {X : Cx} {e : Expr} {es : List Expr} {te : TE} {t : TA}
theorem pa_d (ha : PE X e te) (hr : PA X es t) (hs : nostar e = true) : PA X (e :: es) (tCons te t) := pa_cons ha hr (starEach_of hs)
end
structure PAi (X : Cx) (es : List Expr) (t : TA) : Prop where
 h : PA X es t
structure PEi (X : Cx) (e : Expr) (t : TE) : Prop where
 h : PE X e t
structure PSi (X : Cx) (st : Stmt) (t : TS) : Prop where
 h : PS X st t
structure PSsI (X : Cx) (sts : List Stmt) (t : TS) : Prop where
 h : PSs X sts t
section
variable {X : Cx} {e a b : Expr} {es : List Expr} {te ta tb : TE} {t : TA} {pos : Pos} {st : Stmt} {rest : List Stmt} {u u2 : TS}
theorem ai_nil : PAi X [] tNil := ⟨pa_nil⟩
theorem ai_c (ha : PE X e te) (hr : PAi X es t) (hs : nostar e = true) : PAi X (e :: es) (tCons te t) := ⟨pa_d ha hr.h hs⟩
theorem ei_lst (h : PAi X es t) : PEi X (.List es pos) (tLst t) := ⟨pe_lst h.h⟩
theorem ei_ix {r : R2} (hr : IxR X r) (ha : PEi X a ta) (hb : PE X b tb) (hs : PlainIx b) : PEi X (.Subscript a b pos) (tOp r ta tb) := ⟨pe_ix hr ha.h hb hs⟩
theorem si (h : PS X st u) : PSi X st u := ⟨h⟩
theorem si_set {i : Nat} {x : Str} {pos' : Pos} (hN : X.N.Nodup) (hi : X.N[i]? = some x) (hx : Loc X.env.scope x) (he : PEi X e te) (hs : swapsWith e (some (.Name x pos')) pos.line X.env = pure false := by rfl) (hf : X.fn x = true ∨ X.env.scope.names.lookup x = some .local := by first | exact .inl rfl | exact .inr rfl | assumption) :
  PSi X (.Assign [.Name x pos'] e pos) (tAsg te (gName i)) := ⟨ps_set hN hi hx he.h hs hf⟩
theorem bi_cons (h1 : PSi X st u) (h2 : PSsI X rest u2) : PSsI X (st :: rest) (tSeq u u2) := ⟨pss_cons h1.h h2.h⟩
theorem bi_one (h1 : PSi X st u) : PSsI X [st] u := ⟨pss_one h1.h⟩
end
theorem us1 {P : List Value → Prop} (h : ∀ a, P [a]) : ∀ us : List Value, us.length = 1 → P us
 | [_], _ => h _
theorem us2 {P : List Value → Prop} (h : ∀ a b, P [a, b]) : ∀ us : List Value, us.length = 2 → P us
 | [_, _], _ => h _ _
theorem us3 {P : List Value → Prop} (h : ∀ a b c, P [a, b, c]) : ∀ us : List Value, us.length = 3 → P us
 | [_, _, _], _ => h _ _ _
theorem us4 {P : List Value → Prop} (h : ∀ a b c d, P [a, b, c, d]) : ∀ us : List Value, us.length = 4 → P us
 | [_, _, _, _], _ => h _ _ _ _
end L2
end
section
namespace L2
open PySem PySem.Spec PyProof.Rows
section
variable {σ : St} {H : Hp} {D : Ends} {Q : VK} {t u : TS} {te ta tb : TE} {QB : Bool → Hp → Prop}
theorem r_seq (h : t { D with nx := u D } σ H) : tSeq t u D σ H := h
theorem r_next (h : D.nx σ H) : tNext D σ H := h
theorem r_asg {g : TG} (h : te σ H fun x H1 => g x σ H1 D.nx) : tAsg te g D σ H := h
theorem r_gname {i : Nat} {v : V} {R : St → Hp → Prop} (h : R (σ.set i (some v)) H) : gName i v σ H R := h
theorem r_ret (h : te σ H D.rt) : tRet te D σ H := h
theorem r_drop (h : te σ H fun _ H1 => D.nx σ H1) : tDrop te D σ H := h
theorem r_ifs {c : TT} (h : c σ H fun b H1 => if b = true then t D σ H1 else u D σ H1) : tIfS c t u D σ H := h
theorem r_aug {i : Nat} {ti : TIp} {x : V} (e : σ[i]? = some (some x)) (h : te σ H fun y H1 => ti x y H1 fun z H2 => D.nx (σ.set i (some z)) H2) : tAug i te ti D σ H := ⟨x, e, h⟩
theorem r_var {i : Nat} {v : V} (e : σ[i]? = some (some v)) (h : Q v H) : tVar i σ H Q := ⟨v, e, h⟩
theorem r_c {v : V} (h : Q v H) : tC v σ H Q := h
theorem r_op {r : R2} (h : ta σ H fun x H1 => tb σ H1 fun y H2 => r x y H2 Q) : tOp r ta tb σ H Q := h
theorem r_un {r : V → Hp → VK → Prop} (h : ta σ H fun x H1 => r x H1 Q) : tUn r ta σ H Q := h
theorem r_rU {g : Int → V} {i : Int} (h : Q (g i) H) : rU g (.int i) H Q := ⟨i, rfl, h⟩
theorem r_rI0 {g : Int → Int → V} {i j : Int} (h : Q (g i j) H) : rI0 g (.int i) (.int j) H Q := ⟨i, j, rfl, rfl, h⟩
theorem r_rI {C : Int → Int → Prop} {g : Int → Int → V} {i j : Int} (c : C i j) (h : Q (g i j) H) : rI C g (.int i) (.int j) H Q := ⟨i, j, rfl, rfl, c, h⟩
theorem r_ipI {f : Int → Int → Int} {i j : Int} (h : Q (.int (f i j)) H) : ipI f (.int i) (.int j) H Q := ⟨i, j, rfl, rfl, h⟩
theorem r_rEq {x y : V} (e : scal x y = true) (h : Q (.bl (decide (x = y))) H) : rEq x y H Q := ⟨e, h⟩
theorem r_rNe {x y : V} (e : scal x y = true) (h : Q (.bl (!decide (x = y))) H) : rNe x y H Q := ⟨e, h⟩
theorem r_test (h : te σ H fun x H' => ∃ k, x = .bl k ∧ QB k H') : tTest te σ H QB := h
theorem r_tB (h : te σ H fun x H' => ∃ k, x = .bl k ∧ QB k H') : tB te σ H QB := h
theorem r_bl {k : Bool} {P : Bool → Prop} (h : P k) : ∃ k', V.bl k = .bl k' ∧ P k' := ⟨k, rfl, h⟩
theorem r_not {c : TT} (h : c σ H fun b H1 => QB (!b) H1) : tNot c σ H QB := h
theorem r_and {c d : TT} (h : c σ H fun b H1 => if b = true then d σ H1 QB else QB false H1) : tAnd c d σ H QB := h
theorem r_or {c d : TT} (h : c σ H fun b H1 => if b = true then QB true H1 else d σ H1 QB) : tOr c d σ H QB := h
theorem r_andV (h : ta σ H fun x H1 => ∃ c, x = .bl c ∧ if c = true then tb σ H1 Q else Q (.bl false) H1) : tAndV ta tb σ H Q := h
theorem r_notV (h : ta σ H fun x H1 => ∃ c, x = .bl c ∧ Q (.bl (!c)) H1) : tNotV ta σ H Q := h
theorem r_ifE {c : TT} (h : c σ H fun b H1 => if b = true then ta σ H1 Q else tb σ H1 Q) : tIf c ta tb σ H Q := h
theorem r_notN (h : ta σ H fun x H1 => Q (.bl (!decide (x = .non))) H1) : tNotN ta σ H Q := h
theorem r_chain {r r' : R2} {tc : TE} (h : ta σ H fun x H1 => tb σ H1 fun y H2 => r x y H2 fun z H3 => ∃ k, z = .bl k ∧ (if k = true then tc σ H3 fun w' H4 => r' y w' H4 Q else Q (.bl false) H3)) : tChain r r' ta tb tc σ H Q := h
theorem r_yes (h : QB true H) : tYes σ H QB := h
variable {tA tR : TA} {QA : List V → Hp → Prop}
theorem r_nil (h : QA [] H) : tNil σ H QA := h
theorem r_cons (h : te σ H fun x H1 => tR σ H1 fun xs H2 => QA (x :: xs) H2) : tCons te tR σ H QA := h
theorem r_call {sp : Sp} {E : XK} (h : tA σ H fun vs H1 => sp (vs ++ []) H1 Q E) : tCall sp [] E tA σ H Q := h
theorem r_cB {r : List V → Hp → VK → Prop} (h : tA σ H fun vs H1 => r vs H1 Q) : tCB r tA σ H Q := h
theorem r_lst (h : tA σ H fun xs H1 => xs.length ≤ sizeLine ∧ ∀ p, H1 p = none → Q (.ref p) (upd H1 p (.lst xs))) : tLst tA σ H Q := h
theorem r_tup (h : tA σ H fun xs H1 => xs.length ≤ sizeLine ∧ ∀ p, H1 p = none → Q (.ref p) (upd H1 p (.tup xs))) : tTup tA σ H Q := h
theorem r_bm {K : PySem.W.Frag} {T : String} {r : V → List V → Hp → VK → Prop} (h : te σ H fun x H1 => tyV K T x H1 ∧ tA σ H1 fun xs H2 => r x xs H2 Q) : tBM K T r te tA σ H Q := h
theorem r_sl {r : V → Option Int → Option Int → Hp → VK → Prop} {tl th : TO} (h : te σ H fun x H1 => tl σ H1 fun l H2 => th σ H2 fun u H3 => r x l u H3 Q) : tSl r te tl th σ H Q := h
theorem r_nopart {QO : Option Int → Hp → Prop} (h : QO none H) : tNoPart σ H QO := h
theorem r_part {QO : Option Int → Hp → Prop} (h : te σ H fun x H1 => ∃ i, x = .int i ∧ QO (some i) H1) : tPart te σ H QO := h
theorem r_int {P : Int → Prop} {i : Int} (h : P i) : ∃ j, V.int i = .int j ∧ P j := ⟨i, rfl, h⟩
def forB (J : It) (g : TG) (tb : TS) (D : Ends) (σ : St) (H1 : Hp) : Prop := ∃ W : Nat → Nat → St → Hp → Prop, (∃ m, W 0 m σ H1) ∧ ∀ i m σ H, W i m σ H →
 (J.stop i H ∧ D.nx σ H) ∨ (J.go i H ∧ ∃ N : St → Hp → Prop, (∀ σ' H', N σ' H' → ∃ m', m' < m ∧ W (i + 1) m' σ' H') ∧ ∀ x H', J.yld i H x H' → g x σ H' fun σ2 H2 => tb { D with nx := N, ct := N, bk := D.nx } σ2 H2)
theorem r_for {wi : TI} {g : TG} (h : wi σ H fun J H1 => forB J g t D σ H1) : tFor wi g t D σ H := h
theorem r_rng1 {R : It → Hp → Prop} (h : tA σ H fun vs H1 => ∃ j : Int, vs = [.int j] ∧ -(2 ^ 62) ≤ j ∧ j < 2 ^ 62 ∧ R (Itr 0 j.toNat) H1) : iRng1 tA σ H R := h
theorem r_rng2 {R : It → Hp → Prop} (h : tA σ H fun vs H1 => ∃ i j : Int, vs = [.int i, .int j] ∧ (-(2 ^ 62) ≤ i ∧ i < 2 ^ 62 ∧ -(2 ^ 62) ≤ j ∧ j < 2 ^ 62) ∧ R (Itr i (j - i).toNat) H1) : iRng2 tA σ H R := h
theorem r_ilist {K : PySem.W.Frag} {R : It → Hp → Prop} (h : te σ H fun x H1 => ∃ a, x = .ref a ∧ (∃ xs, SqL K H1 a xs) ∧ R (Itl K a) H1) : iList K te σ H R := h
theorem r_itup {K : PySem.W.Frag} {R : It → Hp → Prop} (h : te σ H fun x H1 => ∃ a, x = .ref a ∧ (∃ xs, SqT K H1 a xs) ∧ R (Itt K a) H1) : iTup K te σ H R := h
theorem r_lc {wi : TI} {ix : List Nat} {tc : TT} (h : wi σ H fun J H1 => rdLc J H1 (frV σ ix) tc te Q) : tLc wi ix tc te σ H Q := h
theorem r_ixL {K : PySem.W.Frag} {p : Addr} {xs : List V} {i : Int} {v : V} (hs : SqL K H p xs) (e : atI xs i = some v) (h : Q v H) : rIxL K (.ref p) (.int i) H Q := ⟨p, xs, i, v, rfl, rfl, hs, e, h⟩
theorem r_ixT {K : PySem.W.Frag} {p : Addr} {xs : List V} {i : Int} {v : V} (hs : SqT K H p xs) (e : atI xs i = some v) (h : Q v H) : rIxT K (.ref p) (.int i) H Q := ⟨p, xs, i, v, rfl, rfl, hs, e, h⟩
theorem r_append {l : Addr} {xs : List V} {y : V} (hl : H l = some (.lst xs)) (hz : xs.length < sizeLine) (h : Q .non (upd H l (.lst (xs ++ [y])))) : rAppend (.ref l) [y] H Q := ⟨l, xs, y, rfl, rfl, hl, hz, h⟩
end
theorem while_rd {c : TT} {tb : TS} {D : Ends} {σ : St} {H : Hp} (Pv : St → Hp → Prop) (μ : St → Hp → Nat) (h0 : Pv σ H)
  (hs : ∀ m σ H, Pv σ H → μ σ H = m → c σ H fun b H1 => if b = true then ∃ N : St → Hp → Prop, (∀ σ' H', N σ' H' → ∃ m', m' < m ∧ (Pv σ' H' ∧ μ σ' H' = m')) ∧ tb { D with nx := N, ct := N, bk := D.nx } σ H1 else D.nx σ H1) : tWhile c tb D σ H :=
 ⟨fun m σ H => Pv σ H ∧ μ σ H = m, ⟨_, h0, rfl⟩, fun m σ H h => hs m σ H h.1 h.2⟩
theorem r_turn {tb : TS} {rt : VK} {bk : St → Hp → Prop} {σ : St} {H1 : Hp} {Pv : St → Hp → Prop} {μ : St → Hp → Nat} {m : Nat}
  (h : tb { nx := fun σ' H' => Pv σ' H' ∧ μ σ' H' < m, rt := rt, bk := bk, ct := fun σ' H' => Pv σ' H' ∧ μ σ' H' < m } σ H1) :
  ∃ N : St → Hp → Prop, (∀ σ' H', N σ' H' → ∃ m', m' < m ∧ (Pv σ' H' ∧ μ σ' H' = m')) ∧ tb { nx := N, rt := rt, bk := bk, ct := N } σ H1 := ⟨_, fun σ' H' z => ⟨_, z.2, z.1, rfl⟩, h⟩
section
variable {H : Hp} {Q : VK} {g : Int → Int → V} {i j : Int}
theorem r_mod (c : 0 < j) (h : Q (g i j) H) : rI (fun _ j => 0 < j) g (.int i) (.int j) H Q := ⟨i, j, rfl, rfl, c, h⟩
theorem r_shr (c : 0 ≤ j) (h : Q (g i j) H) : rI (fun _ j => 0 ≤ j) g (.int i) (.int j) H Q := ⟨i, j, rfl, rfl, c, h⟩
theorem r_div (c1 : 0 < j) (c2 : j < 1073741824) (h : Q (g i j) H) : rI CDiv g (.int i) (.int j) H Q := ⟨i, j, rfl, rfl, ⟨c1, c2⟩, h⟩
theorem r_mulR (c1 : -(2 ^ 64) < j) (c2 : j < 2 ^ 64) (h : Q (g i j) H) : rI CMul g (.int i) (.int j) H Q := ⟨i, j, rfl, rfl, .inr ⟨c1, c2⟩, h⟩
theorem r_mulL (c1 : -(2 ^ 64) < i) (c2 : i < 2 ^ 64) (h : Q (g i j) H) : rI CMul g (.int i) (.int j) H Q := ⟨i, j, rfl, rfl, .inl ⟨c1, c2⟩, h⟩
end
theorem iteP {c A B : Prop} [Decidable c] (h1 : c → A) (h2 : ¬ c → B) : if decide c = true then A else B := by
 by_cases h : c
 ·rw [decide_eq_true h, if_pos rfl]
  exact h1 h
 ·rw [decide_eq_false h, if_neg Bool.false_ne_true]
  exact h2 h
theorem iteN {c A B : Prop} [Decidable c] (h1 : ¬ c → A) (h2 : c → B) : if (!decide c) = true then A else B := by
 by_cases h : c
 ·rw [decide_eq_true h, if_neg (by decide)]
  exact h2 h
 ·rw [decide_eq_false h, if_pos (by decide)]
  exact h1 h
def tIfJ (c : TT) (t u : TS) : TS := fun D σ H => ∃ J : St → Hp → Prop, (∀ σ H, J σ H → D.nx σ H) ∧ c σ H fun b H1 => if b = true then t { D with nx := J } σ H1 else u { D with nx := J } σ H1
theorem ps_ifJ {X : Cx} {c : Expr} {a b : List Stmt} {tc : TT} {t u : TS} {pos : Pos} (hc : PT X c tc) (ha : PSs X a t) (hb : PSs X b u) : PS X (.If c a b pos) (tIfJ tc t u) := by
 intro pins s σ H D I h
 obtain ⟨J, hJ, h⟩ := h
 refine thn (ps_if hc ha hb pins s σ H { D with nx := J } I h) fun f s' q => ?_
 cases f with
 | next =>
  obtain ⟨σ', H', I', q'⟩ := q
  exact ⟨σ', H', I', hJ _ _ q'⟩
 | brk => exact q
 | cont => exact q
 | ret u => exact q
theorem r_ifJ {c : TT} {t u : TS} {D : Ends} {σ : St} {H : Hp} (J : St → Hp → Prop) (h : c σ H fun b H1 => if b = true then t { D with nx := J } σ H1 else u { D with nx := J } σ H1) (hJ : ∀ σ H, J σ H → D.nx σ H) : tIfJ c t u D σ H := ⟨J, hJ, h⟩
theorem atI_int {α : Type} {xs : List α} {i : Int} {v : α} (h0 : 0 ≤ i) (h : xs[i.toNat]? = some v) : atI xs i = some v := by
 have := atI_nat (xs := xs) (j := i.toNat) h
 rwa [Int.toNat_of_nonneg h0] at this
end L2
end
section
namespace L2
open PySem PySem.Spec PyProof.Rows
def Itr3 (lo st : Int) (n : Nat) : It := ⟨fun i _ => i < n, fun i H x H' => H' = H ∧ x = .int (lo + i * st), fun i _ => n ≤ i⟩
def stepsN (lo hi st : Int) : Nat := ((hi - lo + st - 1) / st).toNat
theorem turn_range3 {P : Program} {w : World} {K : PySem.W.Frag} {tg : Expr} (it : Addr) (lo dt : Int) (n : Nat) : Turn P w K tg (Itr3 lo dt n) [it] it (fun i h => IsRangeIter h it (lo + (i : Nat) * dt) ((n : Int) - (i : Nat)) dt) where
 mem := by simp
 obj := fun i h st b hb => by
  have e : b = it := by simpa using hb
  subst e
  exact ⟨_, st, fun v z => by
   have z' : Data.fields _ = Data.cell v := z
   cases z'⟩
 keep := fun i h h' st k => k it (by simp) _ st
 item := by
  intro X hP hw hK hc i pins s σ H E I hf st hg
  subst hP hw hK
  obtain ⟨f0, f1, f2, f3, f4, f5⟩ := hf it (by simp)
  have W := Walks.range (prog := X.prog) (w := X.w) (I.ok.hd hc) it lo dt n
  refine W.item i s _ _ hg st fun v h' tk hv st' kk => ?_
  obtain ⟨t, rfl⟩ := hv
  have I1 : Inv X pins σ H { s with heap := h', toks := tk } := I.turned (fun b o hb e => kk b o (by simpa using hb) e) f0 f1 f3 f4 f5
  exact ⟨_, rfl, go_of (s := { s with heap := h', toks := tk }) (n := "range_iterator") st' rfl rfl (by decide) ⟨.int _, H, I1, ⟨t, rfl⟩, ⟨rfl, rfl⟩, st', fun b hb => (hf b hb).1⟩⟩
 done := by
  intro X hP hw hK hc i pins s σ H E I hf st hg
  subst hP hw hK
  obtain ⟨f0, f1, f2, f3, f4, f5⟩ := hf it (by simp)
  exact wpAny_pyNext_range_end (I.ok.hd hc) st (by have : n ≤ i := hg; omega) fun h' eb => ⟨rfl, I.turned (t' := s.toks) (fun b o hb e => eb b o hb e) f0 f1 f3 f4 f5⟩
 self := fun _ _ _ _ _ st h => wpAny_pyIter_rangeiter st h
theorem steps_size {lo hi st : Int} (h : 0 < st) : Builtin.Range.rangeSize lo hi st = (stepsN lo hi st : Int) := by
 unfold Builtin.Range.rangeSize stepsN
 rw [if_pos h]
 by_cases hl : lo < hi
 ·rw [if_pos hl]
  have e : (hi - lo + st - 1) / st = (hi - lo - 1) / st + 1 := by
   rw [show hi - lo + st - 1 = (hi - lo - 1) + st * 1 by omega, Int.add_mul_ediv_left _ _ (by omega)]
  rw [e]
  have : 0 ≤ (hi - lo - 1) / st := Int.ediv_nonneg (by omega) (by omega)
  omega
 ·rw [if_neg hl]
  have : (hi - lo + st - 1) / st ≤ 0 := by
   have := Int.ediv_le_ediv h (show hi - lo + st - 1 ≤ st - 1 by omega)
   rw [Int.ediv_eq_zero_of_lt (show 0 ≤ st - 1 by omega) (by omega)] at this
   exact this
  omega
theorem steps_small {lo hi st : Int} (h : 0 < st) (h1 : -(2 ^ 61) ≤ lo) (h2 : lo < 2 ^ 61) (h3 : -(2 ^ 61) ≤ hi) (h4 : hi < 2 ^ 61) (h5 : st < 2 ^ 61) : Builtin.Range.small lo hi st = true := by
 unfold Builtin.Range.small
 rw [steps_size h]
 have hb : (stepsN lo hi st : Int) * st ≤ hi - lo + st - 1 ∨ (stepsN lo hi st : Int) = 0 := by
  unfold stepsN
  by_cases hz : 0 ≤ (hi - lo + st - 1) / st
  ·left
   rw [Int.toNat_of_nonneg hz]
   exact Int.ediv_mul_le _ (by omega)
  ·right
   omega
 have hn : (stepsN lo hi st : Int) ≤ (stepsN lo hi st : Int) * st := by
  have := Int.mul_le_mul_of_nonneg_left (show (1 : Int) ≤ st by omega) (Int.natCast_nonneg (stepsN lo hi st))
  omega
 have hmul : lo + (stepsN lo hi st : Int) * st < 2 ^ 63 ∧ -(2 ^ 63) ≤ lo + (stepsN lo hi st : Int) * st := by
  have h0 : 0 ≤ (stepsN lo hi st : Int) * st := Int.mul_nonneg (Int.natCast_nonneg _) (by omega)
  rcases hb with hb | hb
  ·omega
  ·rw [hb] at h0 ⊢
   omega
 have h0 : 0 ≤ (stepsN lo hi st : Int) := Int.natCast_nonneg _
 have hs : (stepsN lo hi st : Int) < 2 ^ 63 := by
  rcases hb with hb | hb
  ·omega
  ·omega
 rw [if_pos h]
 simp only [Builtin.Range.rangeFitsLong, Bool.and_eq_true, Bool.or_eq_true, decide_eq_true_eq, beq_iff_eq]
 refine ⟨⟨⟨⟨?_, ?_⟩, ?_⟩, ?_⟩, .inr ?_⟩ <;> omega
section
variable {X : Cx} {tg : Expr}
def iRng3 (ta : TA) : TI := fun σ H R => ta σ H fun vs H1 => ∃ i j k : Int, vs = [.int i, .int j, .int k] ∧ (-(2 ^ 40) ≤ i ∧ i < 2 ^ 40 ∧ -(2 ^ 40) ≤ j ∧ j < 2 ^ 40 ∧ 0 < k ∧ k < 2 ^ 29) ∧ R (Itr3 i k (stepsN i j k)) H1
theorem pi_range3 {a b c : Expr} {ta : TA} {p pos : Pos} (hg : Gl X "range") (hm : X.mg "range" = none) (ha : PA X [a, b, c] ta) (hs : starEach [a, b, c] X.env = [(false, eval a X.env), (false, eval b X.env), (false, eval c X.env)] := by rfl)
  (hs2 : starEach [b, c] X.env = [(false, eval b X.env), (false, eval c X.env)] := by rfl) : PI X tg (.Call (.Name "range" p) [a, b, c] [] pos) (iRng3 ta) := by
 intro pins s σ H R I h
 refine Call_ (ld_blt I hg hm boot_range (PyProof.Rows.callWith_type1 (thn (ha pos pins s σ H _ I h) fun us s1 ⟨vs, H1, I1, r1, q1⟩ => ?_) (by rw [hs, hs2]) (by rw [hs2]; rfl)))
 obtain ⟨i, j, k, e, ⟨q1, q2, q3, q4, q5, q6⟩, q⟩ := q1
 subst e
 cases r1 with
 | cons r rr =>
  cases rr with
  | cons r' rr =>
   cases rr with
   | cons r'' rr =>
    cases rr
    obtain ⟨t, rfl⟩ := r
    obtain ⟨t', rfl⟩ := r'
    obtain ⟨t'', rfl⟩ := r''
    refine call_range_3 (by omega) ?_ (.inl (PyProof.noPylong_small (by omega)))
    refine wpAny_pyIter_range (IsRange.new ..) (steps_small q5 (by omega) (by omega) (by omega) (by omega) (by omega)) ?_
    have I2 : Inv X pins σ H1 { s1 with heap := s1.heap.push { cls := .type "range", data := .fields #[.int i t, .int j t', .int k t''] }, toks := s1.toks } := I1.kept fun b o e => Heap.get?_push_of_some _ e
    refine ⟨_, [_], _, _, H1, rfl, I2.kept (t' := s1.toks) fun b o e => Heap.get?_push_of_some _ e, turn_range3 _ i k (stepsN i j k), ?_, fun b hb => ?_, q⟩
    ·have e1 : i + ((0 : Nat) : Int) * k = i := by simp
     have e2 : ((stepsN i j k : Nat) : Int) - ((0 : Nat) : Int) = Builtin.Range.rangeSize i j k := by rw [steps_size q5]; simp
     show IsRangeIter _ _ (i + ((0 : Nat) : Int) * k) (((stepsN i j k : Nat) : Int) - ((0 : Nat) : Int)) k
     rw [e1, e2]
     exact Heap.get?_push_size _ rfl
    ·have e := List.mem_singleton.mp hb
     subst e
     exact I2.fpOk (Nat.le_refl _) (I2.hok.fresh (Nat.le_refl _))
end
theorem for_steps {lo st : Int} {n : Nat} {g : TG} {tb : TS} {D : Ends} {σ : St} {H : Hp} (Pv : Nat → St → Hp → Prop) (h0 : Pv 0 σ H)
  (hs : ∀ (i : Nat) σ H, i < n → Pv i σ H → g (.int (lo + i * st)) σ H fun σ2 H2 => tb { D with nx := Pv (i + 1), ct := Pv (i + 1), bk := D.nx } σ2 H2) (hd : ∀ σ H, Pv n σ H → D.nx σ H) : forB (Itr3 lo st n) g tb D σ H := by
 refine ⟨fun i m σ H => i ≤ n ∧ m = n - i ∧ Pv i σ H, ⟨n, Nat.zero_le _, rfl, h0⟩, ?_⟩
 rintro i m σ H ⟨hi, rfl, hP⟩
 by_cases h : i = n
 ·subst h
  exact .inl ⟨Nat.le_refl _, hd σ H hP⟩
 ·have hlt : i < n := Nat.lt_of_le_of_ne hi h
  refine .inr ⟨hlt, Pv (i + 1), fun σ' H' hN => ⟨n - (i + 1), by omega, hlt, rfl, hN⟩, fun x H' hy => ?_⟩
  obtain ⟨rfl, rfl⟩ := hy
  exact hs i σ _ hlt hP
theorem lc_steps {lo st : Int} {n : Nat} {H1 : Hp} {fr : St} {tc : TT} {te : TE} {Q : VK} (acc : Nat → List V) (h0 : acc 0 = []) (hz : ∀ i, i < n → (acc i).length < sizeLine)
  (turn : ∀ (i : Nat) H (R : Hp → Prop) (A : VK), i < n → Same H1 H → (acc (i + 1) = acc i → ∀ H', Same H H' → R H') → (∀ y H', acc (i + 1) = acc i ++ [y] → Same H H' → A y H') →
   tc (some (.int (lo + i * st)) :: fr) H fun b H3 => if b = true then te (some (.int (lo + i * st)) :: fr) H3 A else R H3)
  (fin : ∀ D H, H1 D = none → Same H1 H → H D = some (.lst (acc n)) → Q (.ref D) H) : rdLc (Itr3 lo st n) H1 fr tc te Q :=
 lc_same n (fun i => .int (lo + i * st)) acc h0 hz (fun i H hi _ => hi) (fun i H x H' _ _ h => ⟨h.2, h.1⟩) (fun H _ => Nat.le_refl n) turn fin
def Its (z : Str) : It := ⟨fun i _ => i < z.cps.size, fun i H x H' => H' = H ∧ ∃ c, z.cps[i]? = some c ∧ x = .str (sgn c), fun i _ => z.cps.size ≤ i⟩
section
variable {X : Cx} {tg : Expr}
def iStr (tl : TE) : TI := fun σ H R => tl σ H fun x H1 => ∃ z, x = .str z ∧ R (Its z) H1
theorem turn_str {P : Program} {w : World} {K : PySem.W.Frag} {tg : Expr} {it : Addr} {z : Str} {ty : String} {t : Tok} (hty : ty = "str_ascii_iterator" ∨ ty = "str_iterator")
  (W : ∀ A' : Around, A'.handled = none → Walks P w A' it [it] [it] z.cps.size (SignAt z) (fun i h => h.IsStrIter it ty z t i))
  (hself : ∀ (A : Around) (i : Nat) (s : Shared) (Q : Value → Shared → Prop) (E : Value → Shared → Prop), s.heap.IsStrIter it ty z t i → Q (.ref it) s → wpAny (model P w) A (pyIter (.ref it)) Q E s) : Turn P w K tg (Its z) [it] it (fun i h => h.IsStrIter it ty z t i) where
 mem := by simp
 obj := fun i h st b hb => by
  have e : b = it := by simpa using hb
  subst e
  obtain ⟨o, e, c, d⟩ := st
  exact ⟨o, e, fun v z => by rw [d] at z; cases z⟩
 keep := fun i h h' st k => let ⟨o, ho, r⟩ := st; ⟨o, k it (by simp) o ho, r⟩
 item := by
  intro X hP hw hK hc i pins s σ H E I hf st hg
  subst hP hw hK
  obtain ⟨f0, f1, f2, f3, f4, f5⟩ := hf it (by simp)
  refine (W X.A (I.ok.hd hc)).item i s _ _ hg st fun v h' tk hv st' kk => ?_
  obtain ⟨c, u, hc', rfl⟩ := hv
  have I1 : Inv X pins σ H { s with heap := h', toks := tk } := I.turned (fun b o hb e => kk b o (by simpa using hb) e) f0 f1 f3 f4 f5
  obtain ⟨o, e, cc, d⟩ := id st'
  exact ⟨_, rfl, go_of (s := { s with heap := h', toks := tk }) e cc d (by rcases hty with rfl | rfl <;> decide) ⟨.str (sgn c), H, I1, ⟨u, rfl⟩, ⟨rfl, c, hc', rfl⟩, st', fun b hb => (hf b hb).1⟩⟩
 done := by
  intro X hP hw hK hc i pins s σ H E I hf st hg
  subst hP hw hK
  obtain ⟨f0, f1, f2, f3, f4, f5⟩ := hf it (by simp)
  rcases hty with rfl | rfl
  ·exact wpAny_pyNext_ascii_end (I.ok.hd hc) st (Array.getElem?_eq_none hg) fun h' eb => ⟨rfl, I.turned (t' := s.toks) (fun b o hb e => eb b o hb e) f0 f1 f3 f4 f5⟩
  ·exact wpAny_pyNext_wide_end (I.ok.hd hc) st (Array.getElem?_eq_none hg) fun h' eb => ⟨rfl, I.turned (t' := s.toks) (fun b o hb e => eb b o hb e) f0 f1 f3 f4 f5⟩
 self := fun A i s Q E st h => hself A i s Q E st h
theorem pi_str {l : Expr} {tl : TE} (hl : PE X l tl) : PI X tg l (iStr tl) := by
 intro pins s σ H R I h
 refine thn (hl pins s σ H _ I h) fun v s1 ⟨x, H1, I1, r1, q1⟩ => ?_
 obtain ⟨z, e, q⟩ := q1
 subst e
 obtain ⟨t, rfl⟩ := r1
 have fin : ∀ (o : Obj) (ty : String), (ty = "str_ascii_iterator" ∨ ty = "str_iterator") → (∀ A' : Around, A'.handled = none → Walks X.prog X.w A' s1.heap.objs.size [s1.heap.objs.size] [s1.heap.objs.size] z.cps.size (SignAt z) (fun i h => h.IsStrIter s1.heap.objs.size ty z t i)) →
   (∀ (A : Around) (i : Nat) (s : Shared) (Q : Value → Shared → Prop) (E : Value → Shared → Prop), s.heap.IsStrIter s1.heap.objs.size ty z t i → Q (.ref s1.heap.objs.size) s → wpAny (model X.prog X.w) A (pyIter (.ref s1.heap.objs.size)) Q E s) →
   (s1.heap.push o).IsStrIter s1.heap.objs.size ty z t 0 → PIE X pins σ tg R (.ref s1.heap.objs.size) { s1 with heap := s1.heap.push o } := fun o ty hty W hs h0 => by
  refine ⟨s1.heap.objs.size, [s1.heap.objs.size], _, _, H1, rfl, I1.kept (t' := s1.toks) fun b o e => Heap.get?_push_of_some _ e, turn_str hty W hs, h0, fun b hb => ?_, q⟩
  have e : b = s1.heap.objs.size := by simpa using hb
  subst e
  exact I1.fpOk (Nat.le_refl _) (I1.hok.fresh (Nat.le_refl _))
 cases ha : z.cps.all (· < 128)
 ·exact wpAny_pyIter_wide ha (fin _ _ (.inr rfl) (fun A' hA => Walks.strWide hA _ z t) (fun A i s Q E st h => wpAny_pyIter_striter_wide st h) ⟨_, Heap.get?_push_size _ rfl, rfl, rfl⟩)
 ·exact wpAny_pyIter_ascii ha (fin _ _ (.inl rfl) (fun A' hA => Walks.strAscii hA _ z t) (fun A i s Q E st h => wpAny_pyIter_striter_ascii st h) ⟨_, Heap.get?_push_size _ rfl, rfl, rfl⟩)
end
theorem r_istr {tl : TE} {σ : St} {H : Hp} {R : It → Hp → Prop} (h : tl σ H fun x H1 => ∃ z, x = .str z ∧ R (Its z) H1) : iStr tl σ H R := h
theorem r_rng3 {tA : TA} {σ : St} {H : Hp} {R : It → Hp → Prop} (h : tA σ H fun vs H1 => ∃ i j k : Int, vs = [.int i, .int j, .int k] ∧ (-(2 ^ 40) ≤ i ∧ i < 2 ^ 40 ∧ -(2 ^ 40) ≤ j ∧ j < 2 ^ 40 ∧ 0 < k ∧ k < 2 ^ 29) ∧ R (Itr3 i k (stepsN i j k)) H1) : iRng3 tA σ H R := h
def cutS (z : Str) (lo hi : Option Int) : Str := ⟨((z.cps.toList.drop (HT.sIx z.cps.size 0 lo)).take (HT.sIx z.cps.size z.cps.size hi - HT.sIx z.cps.size 0 lo)).toArray⟩
def rSlS : V → Option Int → Option Int → Hp → VK → Prop := fun x lo hi H Q => ∃ z, x = .str z ∧ z.length ≤ sizeLine ∧ Q (.str (cutS z lo hi)) H
theorem strIx (lo hi : Option Int) (n : Nat) : Builtin.Str.strSliceIndices lo hi 1 n = (List.range (HT.sIx n n hi - HT.sIx n 0 lo)).map (HT.sIx n 0 lo + ·) := by
 have e : Builtin.Str.strSliceIndices lo hi 1 n = sliceRange ((HT.sIx n 0 lo : Nat) : Int) ((HT.sIx n n hi : Nat) : Int) 1 := by
  unfold Builtin.Str.strSliceIndices
  dsimp only
  congr 1
  ·cases lo with
   | none => simp [HT.sIx]
   | some i =>
    simp only [HT.sIx, show (1 : Int) > 0 by decide, if_true]
    by_cases h : i < 0
    ·simp only [h, if_true]
     omega
    ·simp only [h, if_false]
     omega
  ·cases hi with
   | none => simp [HT.sIx]
   | some i =>
    simp only [HT.sIx, show (1 : Int) > 0 by decide, if_true]
    by_cases h : i < 0
    ·simp only [h, if_true]
     omega
    ·simp only [h, if_false]
     omega
 rw [e, sliceRange_one]
theorem cut_made (z : Str) (t : Tok) (l u : Option (Int × Tok)) : (sliceMade z t l u none = .val (.str z t) ∧ cutS z (l.map (·.1)) (u.map (·.1)) = z) ∨ sliceMade z t l u none = .str (cutS z (l.map (·.1)) (u.map (·.1))) := by
 have hp : slicePicked z l u none = (List.range (HT.sIx z.length z.length (u.map (·.1)) - HT.sIx z.length 0 (l.map (·.1)))).map (HT.sIx z.length 0 (l.map (·.1)) + ·) := strIx _ _ _
 have hc : (slicePicked z l u none).filterMap (z.cps[·]?) = (cutS z (l.map (·.1)) (u.map (·.1))).cps.toList := by
  rw [hp, pick_run]
  rfl
 unfold sliceMade
 split
 ·rename_i hw
  left
  refine ⟨rfl, ext_cps ?_⟩
  have hlen : (slicePicked z l u none).length = z.length := by simpa using hw
  rw [hp, List.length_map, List.length_range] at hlen
  have h1 := HT.sIx_le z.length 0 (Nat.zero_le _) (l.map (·.1))
  have h2 := HT.sIx_le z.length z.length (Nat.le_refl _) (u.map (·.1))
  have e1 : HT.sIx z.length 0 (l.map (·.1)) = 0 ∨ z.length = 0 := by omega
  show ((z.cps.toList.drop (HT.sIx z.cps.size 0 (l.map (·.1)))).take _).toArray.toList = _
  rw [show z.cps.size = z.length from rfl] at *
  rcases e1 with e1 | e1
  ·rw [e1, Nat.sub_zero] at hlen
   rw [e1, hlen, Nat.sub_zero, List.drop_zero, List.toList_toArray]
   exact List.take_of_length_le (by simp [Str.length])
  ·have : z.cps.toList = [] := by
    have : z.cps.size = 0 := e1
    simpa using this
   rw [this]
   simp
 ·right
  rw [hc]
section
variable {X : Cx}
theorem sl_str : SlR X rSlS := by
 intro pins s σ H x v vl vu lo hi sl Q I rx hs pl pu h
 obtain ⟨z, rfl, hz, q⟩ := h
 obtain ⟨t, rfl⟩ := rx
 refine ⟨"str", _, PySem.F.slot_str_getitem.lookup, typeIs_str _ _ _, ?_⟩
 obtain ⟨l, el, el'⟩ : ∃ l : Option (Int × Tok), vl = partValue l ∧ lo = l.map (·.1) := by
  cases pl with
  | none => exact ⟨none, rfl, rfl⟩
  | int i t => exact ⟨some (i, t), rfl, rfl⟩
 obtain ⟨u, eu, eu'⟩ : ∃ u : Option (Int × Tok), vu = partValue u ∧ hi = u.map (·.1) := by
  cases pu with
  | none => exact ⟨none, rfl, rfl⟩
  | int i t => exact ⟨some (i, t), rfl, rfl⟩
 subst el el' eu eu'
 refine wpAny_getItem_str_slice (l := l) (u := u) (st := none) hs rfl ?_
 rcases cut_made z t l u with ⟨e, e2⟩ | e
 ·rw [e]
  rw [e2] at q
  exact ⟨.str z, H, I, ⟨t, rfl⟩, q⟩
 ·rw [e]
  refine ⟨?_, .str _, H, I.tok _, ⟨_, rfl⟩, q⟩
  refine Nat.le_trans ?_ hz
  show (List.take _ (List.drop _ z.cps.toList)).toArray.size ≤ z.cps.size
  rw [List.size_toArray, List.length_take, List.length_drop]
  simp
  omega
def revS (z : Str) : Str := ⟨z.cps.toList.reverse.toArray⟩
def tRev (te : TE) : TE := fun σ H Q => te σ H fun x H1 => ∃ z, x = .str z ∧ z.length ≤ sizeLine ∧ Q (.str (revS z)) H1
end
end L2
end
section
namespace L2
open PySem PySem.Spec PyProof.Rows
theorem b_zip : bootBuiltins "zip" = some (.type "zip") := by decide +kernel
theorem b_enumerate : bootBuiltins "enumerate" = some (.type "enumerate") := by decide +kernel
theorem Inv.turnT {X : Cx} {pins : List (Addr × Obj)} {σ : List (Option V)} {H : Hp} {s : Shared} {h' : Heap} {t' : Nat} {wr : List Addr} {T : Addr} {xs : List V} {us : List Value} (I : Inv X pins σ H s)
  (k : ∀ b o, b ∉ wr → s.heap.get? b = some o → h'.get? b = some o) (hf : ∀ b ∈ wr, FpOk X pins H b) (hT : s.heap.objs.size ≤ T) (hI : h'.IsTuple T us.toArray) (rv : Vals xs us) (hz : xs.length ≤ sizeLine) :
  Inv X pins σ (upd H T (.tup xs)) { s with heap := h', toks := t' } := by
 have hn : H T = none := I.hok.fresh hT
 have nT : ∀ b u, H b = some u → b ≠ T := fun b u e => ne_of_none e hn
 have nW : ∀ b u, H b = some u → b ∉ wr := fun b u e z => by rw [(hf b z).1] at e; cases e
 refine I.step (g' := s.gens) (d' := s.drawn) (ch := wr) (fun b hb => ?_) (fun b o _ _ hc e _ => k b o hc e) (fun b o _ _ hc e _ => ⟨o.slots, k b o hc e⟩) (fun b o hc e n => ?_)
  (fun b o hc e => ⟨o, k b o hc e⟩) (fun b xs e => by rw [upd_ne (nT _ _ e)]; exact e) (fun b o u e => by rw [upd_ne (nT _ _ e)]; exact e) (fun b ps e => ⟨#[], by rw [upd_ne (nT _ _ e), e]; simp⟩) (fun m hm => ?_) (fun b u e => ?_) I.bare
 ·obtain ⟨_, f1, _, f3, f4, f5⟩ := hf b hb
  exact ⟨f3, f1, f4, f5⟩
 ·rw [upd_ne (Nat.ne_of_lt (Nat.lt_of_lt_of_le (Heap.lt_size e) hT))]
  exact n
 ·obtain ⟨o, es, ep, ho, r⟩ := hm
  exact ⟨o, es, ep, k _ o (fun z => (hf _ z).2.1 rfl) ho, r⟩
 ·by_cases hb : b = T
  ·subst hb
   rw [upd_same] at e
   cases e
   exact ⟨hz, us, rv, hI⟩
  ·rw [upd_ne hb] at e
   refine (I.hok b u e).stay (fun c v hc q => k c v ?_ q) (fun c q => by rw [upd_ne (nT _ _ q)]; exact q) fun c ys q => by rw [upd_ne (nT _ _ q)]; exact q
   rcases hc with z | z
   ·rw [z]; exact nW b u e
   ·exact nW c _ z
theorem Inv.turnW {X : Cx} {pins : List (Addr × Obj)} {σ : List (Option V)} {H : Hp} {s : Shared} {h' : Heap} {t' : Nat} {wr : List Addr} (I : Inv X pins σ H s)
  (k : ∀ b o, b ∉ wr → s.heap.get? b = some o → h'.get? b = some o) (hf : ∀ b ∈ wr, FpOk X pins H b) : Inv X pins σ H { s with heap := h', toks := t' } := by
 have nW : ∀ b u, H b = some u → b ∉ wr := fun b u e z => by rw [(hf b z).1] at e; cases e
 refine I.step (g' := s.gens) (d' := s.drawn) (ch := wr) (fun b hb => ?_) (fun b o _ _ hc e _ => k b o hc e) (fun b o _ _ hc e _ => ⟨o.slots, k b o hc e⟩) (fun b o hc e n => n)
  (fun b o hc e => ⟨o, k b o hc e⟩) (fun _ _ e => e) (fun _ _ _ e => e) (fun b ps e => ⟨#[], by rw [e]; simp⟩) (fun m hm => ?_) (fun b u e => ?_) I.bare
 ·obtain ⟨_, f1, _, f3, f4, f5⟩ := hf b hb
  exact ⟨f3, f1, f4, f5⟩
 ·obtain ⟨o, es, ep, ho, r⟩ := hm
  exact ⟨o, es, ep, k _ o (fun z => (hf _ z).2.1 rfl) ho, r⟩
 ·refine (I.hok b u e).stay (fun c v hc q => k c v ?_ q) (fun _ q => q) fun _ _ q => q
  rcases hc with z | z
  ·rw [z]; exact nW b u e
  ·exact nW c _ z
theorem cls_ne {h : Heap} {a b : Addr} {o u : Obj} (h1 : h.get? a = some o) (h2 : h.get? b = some u) (d : o.cls ≠ u.cls) : a ≠ b := fun e => by
 subst e
 rw [h1] at h2
 cases h2
 exact d rfl
def Itz (K : PySem.W.Frag) (a b : Addr) : It :=
 ⟨fun i H => ∃ xs ys x y, SqL K H a xs ∧ SqL K H b ys ∧ xs[i]? = some x ∧ ys[i]? = some y,
  fun i H v H' => ∃ t x y, H t = none ∧ v = .ref t ∧ (∀ xs, SqL K H a xs → xs[i]? = some x) ∧ (∀ ys, SqL K H b ys → ys[i]? = some y) ∧ H' = upd H t (.tup [x, y]),
  fun i H => ∃ xs ys, SqL K H a xs ∧ SqL K H b ys ∧ i = min xs.length ys.length⟩
def StZ (z TI TO i1 i2 l1 l2 : Addr) (i : Nat) (h : Heap) : Prop := IsZip h z TI TO .none ∧ IsPair h TI (.ref i1) (.ref i2) ∧ (∃ a b, IsPair h TO a b) ∧ h.IsListIter i1 l1 i ∧ h.IsListIter i2 l2 i
structure ApartZ (z TI TO i1 i2 : Addr) : Prop where
 TIz : TI ≠ z
 TOz : TO ≠ z
 i1z : i1 ≠ z
 i2z : i2 ≠ z
 TITO : TI ≠ TO
 TIi1 : TI ≠ i1
 TIi2 : TI ≠ i2
 TOi1 : TO ≠ i1
 TOi2 : TO ≠ i2
 i12 : i1 ≠ i2
theorem apartZ {h : Heap} {z TI TO i1 i2 a b : Addr} {i : Nat} {xs ys : Array Value} (D : ApartZ z TI TO i1 i2) (st : StZ z TI TO i1 i2 a b i h) (ha : h.IsList a xs) (hb : h.IsList b ys) : ZipApart z TI TO i1 i2 a b := by
 obtain ⟨hz, hTI, ⟨u, v, hTO⟩, ⟨o1, e1, c1, _⟩, ⟨o2, e2, c2, _⟩⟩ := st
 obtain ⟨oa, ea, ca, _⟩ := ha
 obtain ⟨ob, eb, cb, _⟩ := hb
 refine ⟨D.TIz, D.TOz, D.i1z, D.i2z, D.TITO, D.TIi1, D.TIi2, D.TOi1, D.TOi2, D.i12, cls_ne ea hz ?_, cls_ne ea hTO ?_, cls_ne ea e1 ?_, cls_ne ea e2 ?_, cls_ne eb hz ?_, cls_ne eb hTO ?_, cls_ne eb e1 ?_, cls_ne eb e2 ?_⟩
 ·rw [ca]; exact show Value.type "list" ≠ Value.type "zip" by decide
 ·rw [ca]; exact show Value.type "list" ≠ Value.type "tuple" by decide
 ·rw [ca, c1]; decide
 ·rw [ca, c2]; decide
 ·rw [cb]; exact show Value.type "list" ≠ Value.type "zip" by decide
 ·rw [cb]; exact show Value.type "list" ≠ Value.type "tuple" by decide
 ·rw [cb, c1]; decide
 ·rw [cb, c2]; decide
theorem apartZ_new (n : Nat) : ApartZ (n + 4) (n + 2) (n + 3) n (n + 1) := by
 constructor <;> (intro h; have h : (_ : Nat) = _ := h; omega)
theorem le_z5 {n c : Nat} (h : c = n + 4 ∨ c = n + 2 ∨ c = n + 3 ∨ c = n ∨ c = n + 1) : n ≤ c := by omega
theorem le_z2 {n c : Nat} (h : c = n + 1 ∨ c = n) : n ≤ c := by omega
theorem ne_z1 (n : Nat) : n + 1 ≠ n := by omega
theorem turn_zip {P : Program} {w : World} {K : PySem.W.Frag} {elts : List Expr} {k : Nat} {pos : Pos} (z TI TO i1 i2 a b : Addr) (D : ApartZ z TI TO i1 i2) :
  Turn P w K (.Tuple elts k pos) (Itz K a b) [z, TI, TO, i1, i2] z (StZ z TI TO i1 i2 a b) where
 mem := by simp
 obj := fun i h st c hc => by
  obtain ⟨hz, hTI, ⟨u, v, hTO⟩, ⟨o1, e1, c1, d1⟩, ⟨o2, e2, c2, d2⟩⟩ := st
  simp only [List.mem_cons, List.not_mem_nil, or_false] at hc
  rcases hc with rfl | rfl | rfl | rfl | rfl
  ·exact ⟨_, hz, fun v z => by cases z⟩
  ·exact ⟨_, hTI, fun v z => by cases z⟩
  ·exact ⟨_, hTO, fun v z => by cases z⟩
  ·exact ⟨_, e1, fun v z => by rw [d1] at z; cases z⟩
  ·exact ⟨_, e2, fun v z => by rw [d2] at z; cases z⟩
 keep := fun i h h' st kk => by
  obtain ⟨hz, hTI, ⟨u, v, hTO⟩, h1, h2⟩ := st
  exact ⟨kk _ (by simp) _ hz, kk _ (by simp) _ hTI, ⟨u, v, kk _ (by simp) _ hTO⟩, h1.at fun o e => kk _ (by simp) o e, h2.at fun o e => kk _ (by simp) o e⟩
 item := by
  intro X hP hw hK hc i pins s σ H E I hf st hg
  subst hP hw hK
  obtain ⟨xs, ys, x, y, ha, hb, hx, hy⟩ := hg
  obtain ⟨its, rv, p, hz⟩ := I.list ha
  obtain ⟨its2, rv2, p2, hz2⟩ := I.list hb
  have W := WalksT.zip2 (prog := X.prog) (w := X.w) (A := X.A) (I.ok.hd hc) z TI TO i1 i2 a b (apartZ D st p.isList p2.isList) its.toArray its2.toArray
  obtain ⟨u1, hu1, ru1⟩ := rv.get hx
  obtain ⟨u2, hu2, ru2⟩ := rv2.get hy
  have l1 := (List.getElem?_eq_some_iff.mp hu1).1
  have l2 := (List.getElem?_eq_some_iff.mp hu2).1
  obtain ⟨s1, s2, s3, s4, s5⟩ := id st
  refine W.item i s _ _ (by simp; omega) ⟨s1, s2, s3, s4, s5, p.isList, p2.isList⟩ fun T vals h' tk hv hT hTu mid kk => ?_
  obtain ⟨v1, v2, e1, e2, rfl⟩ := hv
  have e1 : v1 = u1 := by have := e1; simp only [List.getElem?_toArray] at this; rw [hu1] at this; exact (Option.some.inj this).symm
  have e2 : v2 = u2 := by have := e2; simp only [List.getElem?_toArray] at this; rw [hu2] at this; exact (Option.some.inj this).symm
  subst e1 e2
  have nT := W.apart i T h' mid
  refine ⟨.ref T, rfl, W.go elts k pos i T { s with heap := h', toks := tk } _ _ mid fun h'' st'' kk2 => ?_⟩
  have hTu2 : h''.IsTuple T ([v1, v2] : List Value).toArray := by
   obtain ⟨o, e, r⟩ := hTu
   exact ⟨o, kk2 T o nT e, r⟩
  have I2 : Inv X pins σ (upd H T (.tup [x, y])) { s with heap := h'', toks := tk } := I.turnT (t' := tk) (fun b o hb e => kk2 b o hb (kk b o hb e)) (fun b hb => hf b (by simp at hb ⊢; rcases hb with rfl | rfl | rfl | rfl <;> simp)) hT hTu2 (.cons ru1 (.cons ru2 .nil)) (show 2 ≤ sizeLine by decide)
  refine ⟨.ref T, _, I2, rfl, ⟨T, x, y, I.hok.fresh hT, rfl, fun xs' h => by rw [I.list_inj h ha]; exact hx, fun ys' h => by rw [I.list_inj h hb]; exact hy, rfl⟩, ⟨st''.1, st''.2.1, st''.2.2.1, st''.2.2.2.1, st''.2.2.2.2.1⟩, fun c hc' => ?_⟩
  have hlt : c < s.heap.objs.size := by
   obtain ⟨q, ⟨t1, t2, t3⟩⟩ : c ∈ [z, TI, TO, i1, i2] ∧ (IsZip s.heap z TI TO .none ∧ IsPair s.heap TI (.ref i1) (.ref i2) ∧ True) := ⟨hc', s1, s2, trivial⟩
   obtain ⟨u, v, s3⟩ := s3
   obtain ⟨o4, s4, _⟩ := s4
   obtain ⟨o5, s5, _⟩ := s5
   simp only [List.mem_cons, List.not_mem_nil, or_false] at hc'
   rcases hc' with rfl | rfl | rfl | rfl | rfl
   ·exact Heap.lt_size s1
   ·exact Heap.lt_size s2
   ·exact Heap.lt_size s3
   ·exact Heap.lt_size s4
   ·exact Heap.lt_size s5
  rw [upd_ne (Nat.ne_of_lt (Nat.lt_of_lt_of_le hlt hT))]
  exact (hf c hc').1
 done := by
  intro X hP hw hK hc i pins s σ H E I hf st hg
  subst hP hw hK
  obtain ⟨xs, ys, ha, hb, hi⟩ := hg
  obtain ⟨its, rv, p, hz⟩ := I.list ha
  obtain ⟨its2, rv2, p2, hz2⟩ := I.list hb
  have W := WalksT.zip2 (prog := X.prog) (w := X.w) (A := X.A) (I.ok.hd hc) z TI TO i1 i2 a b (apartZ D st p.isList p2.isList) its.toArray its2.toArray
  have hl := rv.length
  have hl2 := rv2.length
  have hi2 : i = min its.toArray.size its2.toArray.size := by rw [hi, hl, hl2]; simp
  obtain ⟨s1, s2, s3, s4, s5⟩ := id st
  refine W.done s _ _ (by rw [← hi2]; exact ⟨s1, s2, s3, s4, s5, p.isList, p2.isList⟩) fun h' tk kk => ⟨rfl, ?_⟩
  exact I.turnW (t' := tk) kk fun b hb => hf b (by simp at hb ⊢; rcases hb with rfl | rfl | rfl | rfl <;> simp)
 self := fun _ _ _ _ _ st h => wpAny_pyIter_zip st.1 h
section
variable {X : Cx} {elts : List Expr} {k : Nat} {tpos : Pos}
def iZip (K : PySem.W.Frag) (ta : TA) : TI := fun σ H R => ta σ H fun vs H1 => ∃ a b, vs = [.ref a, .ref b] ∧ (∃ xs, SqL K H1 a xs) ∧ (∃ ys, SqL K H1 b ys) ∧ R (Itz K a b) H1
theorem pi_zip {a b : Expr} {ta : TA} {p pos : Pos} (hg : Gl X "zip") (hm : X.mg "zip" = none) (ha : PA X [a, b] ta) (hs : starEach [a, b] X.env = [(false, eval a X.env), (false, eval b X.env)] := by rfl) (hs2 : starEach [b] X.env = [(false, eval b X.env)] := by rfl) :
  PI X (.Tuple elts k tpos) (.Call (.Name "zip" p) [a, b] [] pos) (iZip X.K ta) := by
 intro pins s σ H R I h
 refine Call_ (ld_blt I hg hm b_zip (PyProof.Rows.callWith_type1 (thn (ha pos pins s σ H _ I h) fun us s1 ⟨vs, H1, I1, r1, q1⟩ => ?_) (by rw [hs, hs2]) (by rw [hs2]; rfl)))
 obtain ⟨a, b, e, ⟨xs, hx⟩, ⟨ys, hy⟩, q⟩ := q1
 subst e
 obtain ⟨u, v, rfl, ru, rv⟩ := vals2 r1
 cases ru
 cases rv
 obtain ⟨its, rv, p, hz⟩ := I1.list hx
 obtain ⟨its2, rv2, p2, hz2⟩ := I1.list hy
 refine call_zip_2 p.isList p2.isList fun h' g1 g2 g3 g4 g5 hsz kk => ?_
 refine wpAny_pyIter_zip (s := { s1 with heap := h' }) g1 ?_
 refine ⟨s1.heap.objs.size + 4, [s1.heap.objs.size + 4, s1.heap.objs.size + 2, s1.heap.objs.size + 3, s1.heap.objs.size, s1.heap.objs.size + 1], _, _, H1, rfl, I1.kept (t' := s1.toks) kk,
  turn_zip _ _ _ _ _ a b (apartZ_new _), ⟨g1, g2, ⟨_, _, g3⟩, g4, g5⟩, fun c hc => ?_, q⟩
 have hle : s1.heap.objs.size ≤ c := by
  simp only [List.mem_cons, List.not_mem_nil, or_false] at hc
  exact le_z5 hc
 exact I1.fpOk hle (I1.hok.fresh hle)
end
end L2
end
section
namespace L2
open PySem PySem.Spec PyProof.Rows
structure LcScope2 (N₀ : List Str) (sc₀ sc : Scope) (x1 x2 : Str) (N : List Str) (ix : List Nat) : Prop where
 kind : sc.kind = .function
 nocell : ∀ y ∈ sc.names, y.2 ≠ .cell
 names : ∀ y ∈ sc.names, y.2 = .local → sc.names.lookup y.1 = some .local
 free : ∀ y ∈ sc.names, y.2 = .free → sc₀.names.lookup y.1 = some .cell
 nd : N.Nodup
 hd : N[0]? = some x1
 hd2 : N[1]? = some x2
 loc : sc.names.lookup x1 = some .local
 loc2 : sc.names.lookup x2 = some .local
 len : N.length = ix.length + 2
 at_ : ∀ p ∈ N.tail.tail.zip ix, N₀[p.2]? = some p.1 ∧ sc.names.lookup p.1 = some .free
def rdLc2 (K : PySem.W.Frag) (J : It) (H1 : Hp) (fr : St) (tc : TT) (te : TE) (Q : VK) : Prop := ∀ D, H1 D = none → ∃ W : Nat → Nat → Hp → Prop, (∃ m, W 0 m (upd H1 D (.lst []))) ∧ ∀ i m H, W i m H →
 (J.stop i H ∧ Q (.ref D) H) ∨ (J.go i H ∧ ∀ v H', J.yld i H v H' → ∃ a x y, v = .ref a ∧ SqT K H' a [x, y] ∧ tc (some x :: some y :: fr) H' fun b H3 =>
  if b = true then te (some x :: some y :: fr) H3 fun y H4 => ∃ ys, H4 D = some (.lst ys) ∧ ys.length < sizeLine ∧ ∃ m', m' < m ∧ W (i + 1) m' (upd H4 D (.lst (ys ++ [y]))) else ∃ m', m' < m ∧ W (i + 1) m' H3)
def tLc2 (K : PySem.W.Frag) (wi : TI) (ix : List Nat) (tc : TT) (te : TE) : TE := fun σ H Q => wi σ H fun J H1 => rdLc2 K J H1 (frV σ ix) tc te Q
section
variable {X : Cx} {scope : Scope} {N : List Str} {ix : List Nat} {x1 x2 : Str} {px px2 ppos : Pos} {kk : Nat} {elt iter : Expr} {ifs : List Expr} {tc : TT} {te : TE} {pos : Pos}
theorem lc_ok2 {pins : List (Addr × Obj)} {σ : St} {H2 : Hp} {s2 : Shared} {J : It} {fp : List Addr} {it : Addr} {tn : Nat → Heap → Prop} {tg : Expr} (L : LcScope2 X.N X.env.scope scope x1 x2 N ix) (I2 : Inv X pins σ H2 s2)
  (T : Turn X.prog X.w X.K tg J fp it tn) (st2 : tn 0 s2.heap) (f2 : ∀ b ∈ fp, FpOk X pins H2 b) {C : Addr} {s3 s4 : Shared} {H3 : Hp} (I3 : Inv X pins σ H3 s3) (I4 : Inv X pins σ H3 s4) (hle : s2.heap.objs.size ≤ s3.heap.objs.size)
  (hC : C = s3.heap.objs.size) (ho : s4.os = s3.os) (kp : ∀ b u, s3.heap.get? b = some u → s4.heap.get? b = some u) {m : Str → Option Value} (hns : s4.heap.Ns C m) : Inv (cxLc X scope N C s3 H3 fp) [] (none :: none :: frV σ ix) H3 s4 := by
 have hfree : ∀ y ∈ scope.names, y.2 = .free → ∃ c, X.env.cells.lookup y.1 = some c := fun y hy hf => I2.ok.has y.1 (.inl (L.free y hy hf))
 have sub : ∀ y c, (cloGo X.env scope.names []).lookup y = some c → X.env.cells.lookup y = some c := fun y c h => cloGo_sub _ _ y c hfree (fun _ _ z => by simp at z) h
 have lt2 : ∀ b ∈ fp, b < s2.heap.objs.size := fun b hb => by obtain ⟨o, e, _⟩ := T.obj _ _ st2 b hb; exact Heap.lt_size e
 have okY : (cxLc X scope N C s3 H3 fp).Ok := by
  refine ⟨I2.ok.mod, L.kind, I2.ok.glob, I2.ok.blt, Nat.le_of_eq hC.symm, fun y z c h1 h2 => I2.ok.inj y z c (sub y c h1) (sub z c h2), fun y hy => ?_, fun y c z _ => ?_, I2.ok.hd, I2.ok.frames, .inl rfl, fun b hb => ⟨?_, fun y c h => (f2 b hb).2.2.2.2.1 y c (sub y c h)⟩,
   I3.bs, Nat.le_trans I3.ok.bsz I3.sz, fun b o e hb => ?_, fun b hb z => ?_, I3.stack, I3.stkFree⟩
  ·have hk : (y, NameKind.free) ∈ scope.names := by
    rcases hy with hy | hy
    ·rcases relabel_of hy with q | q
     ·exact absurd rfl (L.nocell _ q)
     ·exact q.1
    ·rcases relabel_of hy with q | q
     ·exact q
     ·exact absurd q.2 (by decide)
   exact Option.isSome_iff_exists.mp (cloGo_has _ _ y hk)
  ·cases (show false = true from z)
  ·have l := lt2 b hb
   show b ≠ C
   rw [hC]
   exact Nat.ne_of_lt (Nat.lt_of_lt_of_le l hle)
  ·rcases (f2 b hb).2.2.2.1 with q | q
   ·exact I2.ok.noex b o e q
   ·exact absurd (Nat.lt_of_lt_of_le (Heap.lt_size e) (Nat.le_trans I2.ok.bsz q)) (Nat.lt_irrefl _)
  ·rcases List.mem_cons.mp (I2.stkSub b z) with q | q
   ·exact (f2 b hb).2.1 q
   ·exact (f2 b hb).2.2.1 q
 refine ⟨okY, ho, I4.bare, Un.kept kp, ⟨m, hns, fun i y v h1 h2 h3 => ?_⟩, fun y c e => I4.cell y c (sub y c e), ?_, fun y c e => I4.freeC y c (sub y c e), fun p hp => absurd (show p ∈ ([] : List (Addr × Obj)) from hp) (by simp), I4.hok, ?_⟩
 ·cases i with
  | zero => cases (show some none = some (some v) from h2)
  | succ k =>
   cases k with
   | zero => cases (show some none = some (some v) from h2)
   | succ k =>
   have h2 : (frV σ ix)[k]? = some (some v) := h2
   have h1 : N[k + 1 + 1]? = some y := h1
   unfold frV at h2
   rw [List.getElem?_map] at h2
   cases hj : ix[k]? with
   | none => rw [hj] at h2; cases h2
   | some j =>
    rw [hj] at h2
    have h2 : (σ[j]?).getD none = some v := Option.some.inj h2
    have h2' : σ[j]? = some (some v) := by
     cases e : σ[j]? with
     | none => rw [e] at h2; cases h2
     | some z => rw [e] at h2; exact congrArg some h2
    have ht : N.tail.tail[k]? = some y := by rw [List.getElem?_tail, List.getElem?_tail]; exact h1
    have hz : (y, j) ∈ N.tail.tail.zip ix := List.mem_of_getElem? (i := k) (by rw [List.getElem?_zip_eq_some]; exact ⟨ht, hj⟩)
    obtain ⟨q1, q2⟩ := L.at_ _ hz
    have hm := PySem.mem_of_lookup q2
    have hcell := L.free _ hm rfl
    obtain ⟨m', hn', hl'⟩ := I4.loc
    obtain ⟨u, r, lk⟩ := hl' j y v q1 h2' (.inr (.inl hcell))
    refine ⟨u, r, .inr ⟨.inl (relabel_free I2.ok.kind hcell q2), ?_⟩⟩
    rcases lk with lk | ⟨_, c, e, z⟩
    ·rw [show X.env.kindOf y = some .cell from hcell] at lk
     cases lk.1
    ·obtain ⟨c', e'⟩ := Option.isSome_iff_exists.mp (cloGo_has (env := X.env) scope.names [] y hm)
     have e2 := sub y c' e'
     rw [e] at e2
     cases e2
     exact ⟨c, e', z⟩
 ·show H3 C = none
  exact I3.hok.fresh (Nat.le_of_eq hC.symm)
 ·show (none :: none :: frV σ ix).length = N.length
  rw [L.len]
  simp [frV]
theorem lc_run2 {tgt : Expr} (htg : tgt = .Tuple [.Name x1 px, .Name x2 px2] kk ppos) {pins : List (Addr × Obj)} {σ : St} {H2 : Hp} {s2 : Shared} {J : It} {fp : List Addr} {it : Addr} {tn : Nat → Heap → Prop} (hc : X.calm = true) (L : LcScope2 X.N X.env.scope scope x1 x2 N ix) (I2 : Inv X pins σ H2 s2)
  (T : Turn X.prog X.w X.K tgt J fp it tn) (st2 : tn 0 s2.heap) (f2 : ∀ b ∈ fp, FpOk X pins H2 b)
  (hif : ∀ C s H, PIf (cxLc X scope N C s H fp) ifs tc) (he : ∀ C s H, PE (cxLc X scope N C s H fp) elt te) {Q : VK} (rd : rdLc2 X.K J H2 (frV σ ix) tc te Q) {RR : Value → Addr → Result → Shared → Prop} {E : Value → Shared → Prop}
  (fin : ∀ D C H' s' m, Inv X pins σ H' s' → s2.heap.objs.size ≤ C → H' C = none → s'.heap.Ns C m → Q (.ref D) H' → RR (.ref D) C (.ok .next) s') :
  wpAny (model X.prog X.w) X.A (newList []) (fun acc s3 => wpAny (model X.prog X.w) X.A (newFunctionEnv scope X.env.globals (cloGo X.env scope.names []) [] X.env.qual none .none (some X.env)) (fun cenv s4 =>
   codeAny (model X.prog X.w) X.A (.compStart (.ListComp elt [⟨tgt, iter, ifs, 0⟩] scope pos) 0 (.ref it) acc { cenv with scope := relabel scope X.env }) (RR acc cenv.locals) s4) E s3) E s2 := by
 refine wpAny_newObj_type (wpAny_newFunctionEnv L.nocell (by intro y hy; simp at hy) (fun h1 hns hsb => ?_) L.kind)
 dsimp only at hns hsb ⊢
 have I3 : Inv X pins σ (upd H2 s2.heap.objs.size (.lst [])) { s2 with heap := s2.heap.push { cls := .type "list", dict := none, data := .seq ([] : List Value).toArray } } := I2.lnew (its := []) (t' := s2.toks) .nil (Nat.zero_le _)
 generalize hH3 : s2.heap.push { cls := .type "list", dict := none, data := .seq ([] : List Value).toArray } = h3 at hns hsb I3 ⊢
 have hsz : h3.objs.size = s2.heap.objs.size + 1 := by rw [← hH3, Heap.size_push]
 have kp34 : ∀ b u, h3.get? b = some u → h1.get? b = some u := fun b u e => hsb.extBut b u (Nat.ne_of_lt (Heap.lt_size e)) (Heap.get?_push_of_some _ e)
 have I4 : Inv X pins σ (upd H2 s2.heap.objs.size (.lst [])) { s2 with heap := h1, toks := s2.toks + ([] : List (Str × Value)).length } := I3.kept (t' := s2.toks + ([] : List (Str × Value)).length) kp34
 have kp24 : ∀ b u, s2.heap.get? b = some u → h1.get? b = some u := fun b u e => kp34 b u (by rw [← hH3]; exact Heap.get?_push_of_some _ e)
 have IY := lc_ok2 (C := h3.objs.size) (s3 := { s2 with heap := h3 }) L I2 T st2 f2 I3 I4 (by show s2.heap.objs.size ≤ h3.objs.size; omega) rfl rfl kp34 hns
 have fD : H2 s2.heap.objs.size = none := I2.hok.fresh (Nat.le_refl _)
 have lt2 : ∀ b ∈ fp, b < s2.heap.objs.size := fun b hb => by obtain ⟨o, e, _⟩ := T.obj _ _ st2 b hb; exact Heap.lt_size e
 have st4 : tn 0 h1 := T.keep _ _ _ st2 fun b _ o e => kp24 b o e
 have stat : ∀ {pn : List (Addr × Obj)} {H' : Hp}, pn = [] → (∀ b ∈ fp, H' b = none) → ∀ b ∈ fp, FpOk (cxLc X scope N h3.objs.size { s2 with heap := h3 } (upd H2 s2.heap.objs.size (.lst [])) fp) pn H' b := fun hp hn b hb => by
  subst hp
  exact ⟨hn b hb, (IY.ok.exf b hb).1, IY.ok.exfs b hb, .inl hb, (IY.ok.exf b hb).2, fun p hp => absurd (show p ∈ ([] : List (Addr × Obj)) from hp) (by simp)⟩
 obtain ⟨W, ⟨m0, w0⟩, turn⟩ := rd _ fD
 have loop : codeAny (model X.prog X.w) X.A (.compLoop (.ListComp elt [⟨tgt, iter, ifs, 0⟩] scope pos) 0 (.ref it) (.ref s2.heap.objs.size) (compEnvC scope (cloGo X.env scope.names []) h3.objs.size X.env)) (RR (.ref s2.heap.objs.size) h3.objs.size)
   { s2 with heap := h1, toks := s2.toks + ([] : List (Str × Value)).length } := by
  refine lc_loop (fun n s' => ∃ i H', Inv (cxLc X scope N h3.objs.size { s2 with heap := h3 } (upd H2 s2.heap.objs.size (.lst [])) fp) [] (none :: none :: frV σ ix) H' s' ∧ tn i s'.heap ∧ (∀ b ∈ fp, H' b = none) ∧ W i n H') ?_ m0
   ⟨0, _, IY, st4, fun b hb => by rw [upd_ne (Nat.ne_of_lt (lt2 b hb))]; exact (f2 b hb).1, w0⟩
  rintro n s5 ⟨i, H5, I5, st5, fr5, w5⟩
  rcases turn i n H5 w5 with ⟨stop, q⟩ | ⟨go, step⟩
  ·refine thn (T.done (cxLc X scope N h3.objs.size { s2 with heap := h3 } (upd H2 s2.heap.objs.size (.lst [])) fp) rfl rfl rfl hc i [] s5 _ H5 (fun _ _ => False) I5 (stat rfl fr5) st5 stop) fun r s6 ⟨hr, I6⟩ => ?_
   subst hr
   obtain ⟨m6, hn6, _⟩ := I6.loc
   have u1 : Un (frs X.stack) fp H2 (upd H2 s2.heap.objs.size (.lst [])) s2.heap h3 := Un.laid (fun b u e => by rw [← hH3]; exact Heap.get?_push_of_some _ e) (Nat.le_refl _) fD
   have back : Inv X pins σ H5 s6 := I2.call' (ch := fp) (I6.os.trans rfl) (u1.trans I6.base) I6.hok I6.bare fun b hb => ⟨(f2 b hb).2.2.2.1, (f2 b hb).2.1, (f2 b hb).2.2.2.2.1, (f2 b hb).2.2.2.2.2⟩
   exact fin _ _ H5 s6 m6 back (by omega) I6.free hn6 q
  ·refine thn (T.item (cxLc X scope N h3.objs.size { s2 with heap := h3 } (upd H2 s2.heap.objs.size (.lst [])) fp) rfl rfl rfl hc i [] s5 _ H5 (fun _ _ => False) I5 (stat rfl fr5) st5 go) fun r s6 ⟨u, hr, h6⟩ => ?_
   subst hr
   refine thn h6 fun _ s7 ⟨y, H7, I7, r7, y7, st7, fr7⟩ => ?_
   have I7' := I7.pinned (stat rfl fr7) (T.obj _ _ st7)
   have hg : PG (cxLc X scope N h3.objs.size { s2 with heap := h3 } (upd H2 s2.heap.objs.size (.lst [])) fp) tgt (gTup X.K 2 (gCons (gName 0) (gCons (gName 1) gNil))) := by
    rw [htg]
    exact pg_tup hc (pgs_cons (pg_name L.nd L.hd (.inl (lookup_relabel_local L.loc)) (.inr (lookup_relabel_local L.loc))) (pgs_cons (pg_name L.nd L.hd2 (.inl (lookup_relabel_local L.loc2)) (.inr (lookup_relabel_local L.loc2))) pgs_nil))
   obtain ⟨ta, y1, y2, ey, hTu, hst⟩ := step y _ y7
   refine thn (hg _ s7 _ H7 y u (fun σ' H' => σ' = some y1 :: some y2 :: frV σ ix ∧ H' = H7) I7' r7 ⟨ta, [y1, y2], ey, hTu, rfl, y1, [y2], rfl, y2, [], rfl, rfl, rfl, rfl⟩) fun _ s8 ⟨σ8, H8, I8, e8, e8'⟩ => ?_
   subst e8 e8'
   refine thn (hif _ _ _ _ s8 _ _ _ I8 hst) fun ok s9 ⟨H9, I9, q9⟩ => ?_
   have again : ∀ {sz : Shared} {Hz : Hp} {m' : Nat}, Inv (cxLc X scope N h3.objs.size { s2 with heap := h3 } (upd H2 s2.heap.objs.size (.lst [])) fp) ([] ++ pinsAt fp s7.heap) (some y1 :: some y2 :: frV σ ix) Hz sz → m' < n → W (i + 1) m' Hz →
     ∃ m, m < n ∧ ∃ i H', Inv (cxLc X scope N h3.objs.size { s2 with heap := h3 } (upd H2 s2.heap.objs.size (.lst [])) fp) [] (none :: none :: frV σ ix) H' sz ∧ tn i sz.heap ∧ (∀ b ∈ fp, H' b = none) ∧ W i m H' := fun {sz Hz m'} Iz hm wz => by
    refine ⟨m', hm, i + 1, Hz, Iz.unpinned.weak (by simp) (fun j v e => ?_), T.keep _ _ _ st7 fun b hb o e => (Iz.pin (b, o) (List.mem_append_right _ (List.mem_append_right _ (mem_pinsAt hb e)))).1, fun b hb => ?_, wz⟩
    ·cases j with
     | zero => cases e
     | succ j =>
      cases j with
      | zero => cases e
      | succ j => exact e
    ·obtain ⟨o, e, d⟩ := T.obj _ _ st7 b hb
     exact (Iz.pin (b, o) (List.mem_append_right _ (List.mem_append_right _ (mem_pinsAt hb e)))).2.1
   cases ok with
   | false =>
    obtain ⟨m', hm, wz⟩ := q9
    exact again I9 hm wz
   | true =>
    refine thn (he _ _ _ _ s9 _ _ _ I9 q9) fun xv s10 ⟨z, H10, I10, r10, ys, hD, hl, m', hm, wz⟩ => ?_
    refine thn (mt_append _ s10 _ H10 (.ref s2.heap.objs.size) [z] (.ref s2.heap.objs.size) [xv] (fun _ Hz => Hz = upd H10 s2.heap.objs.size (.lst (ys ++ [z]))) I10 rfl (.cons r10 .nil) ⟨_, ys, z, rfl, rfl, hD, hl, rfl⟩) fun _ s11 ⟨_, H11, I11, _, q11⟩ => ?_
    subst q11
    exact again I11 hm wz
 exact codeAny_compStart_list loop (T.self X.A 0 _ _ _ st4 loop)
theorem pe_lc2 {wi : TI} (hc : X.calm = true) (L : LcScope2 X.N X.env.scope scope x1 x2 N ix) (hi : PI X (.Tuple [.Name x1 px, .Name x2 px2] kk ppos) iter wi) (hif : ∀ C s H fp, PIf (cxLc X scope N C s H fp) ifs tc) (he : ∀ C s H fp, PE (cxLc X scope N C s H fp) elt te)
  (hs : ∀ z, foldedSetIterable iter X.env z = pure z := by intro _; rfl) : PE X (.ListComp elt [⟨.Tuple [.Name x1 px, .Name x2 px2] kk ppos, iter, ifs, 0⟩] scope pos) (tLc2 X.K wi ix tc te) := by
 intro pins s σ H Q I h
 have hfree : ∀ y ∈ scope.names, y.2 = .free → ∃ c, X.env.cells.lookup y.1 = some c := fun y hy hf => I.ok.has y.1 (.inl (L.free y hy hf))
 rw [eval_ListComp]
 refine wpAny_comprehension_free (use := none) rfl hs (closure_eq hfree) L.kind L.names (thn (hi pins s σ H _ I h) fun v s1 h1 => thn h1 fun itv s2 h2 => ?_)
 obtain ⟨it, fp, tn, J, H2, e, I2, T, st2, f2, rd⟩ := h2
 subst e
 refine lc_run2 (RR := fun acc C => compPost (model X.prog X.w) X.A X.xe none _ acc C) rfl hc L I2 T st2 f2 (fun C s H => hif C s H fp) (fun C s H => he C s H fp) rd fun D C H' s' m I' hC hf hn q => ?_
 refine ⟨m, hn, fun h' hsb => ⟨.ref D, H', ?_, rfl, q⟩⟩
 have l2 := I2.lt
 refine I'.turned (t' := s'.toks) (it := C) (fun b o hb e => hsb.extBut b o hb e) hf (Nat.ne_of_gt (Nat.lt_of_lt_of_le l2 hC)) (.inr (Nat.le_trans I2.sz hC)) (fun y c e => ?_) fun p hp => ?_
 ·obtain ⟨v, hv⟩ := I2.cell y c e
  exact Nat.ne_of_lt (Nat.lt_of_lt_of_le hv.lt hC)
 ·exact Nat.ne_of_lt (Nat.lt_of_lt_of_le (Heap.lt_size (I2.pin p hp).1) hC)
theorem ps_setlc2 {wi : TI} {i : Nat} {y : Str} {py spos : Pos} (hc : X.calm = true) (L : LcScope2 X.N X.env.scope scope x1 x2 N ix) (hN : X.N.Nodup) (hy : X.N[i]? = some y) (hl : X.env.scope.names.lookup y = some .local)
  (hi : PI X (.Tuple [.Name x1 px, .Name x2 px2] kk ppos) iter wi) (hif : ∀ C s H fp, PIf (cxLc X scope N C s H fp) ifs tc) (he : ∀ C s H fp, PE (cxLc X scope N C s H fp) elt te)
  (hsw : swapsWith (.ListComp elt [⟨.Tuple [.Name x1 px, .Name x2 px2] kk ppos, iter, ifs, 0⟩] scope pos) (some (.Name y py)) spos.line X.env = pure true := by rfl)
  (hs : ∀ z, foldedSetIterable iter X.env z = pure z := by intro _; rfl) : PS X (.Assign [.Name y py] (.ListComp elt [⟨.Tuple [.Name x1 px, .Name x2 px2] kk ppos, iter, ifs, 0⟩] scope pos) spos) (tAsg (tLc2 X.K wi ix tc te) (gName i)) := by
 intro pins s σ H D I h
 have hfree : ∀ y ∈ scope.names, y.2 = .free → ∃ c, X.env.cells.lookup y.1 = some c := fun y hy hf => I.ok.has y.1 (.inl (L.free y hy hf))
 rw [exec_Assign_Name_used _ _ _ _ hsw]
 refine wpAny_bind (wpAny_standAt (wpAny_bind ?_))
 show wpAny _ X.A (do let _ ← comprehension (.ListComp elt [⟨.Tuple [.Name x1 px, .Name x2 px2] kk ppos, iter, ifs, 0⟩] scope pos) scope X.env _ (newList []) false (eval iter X.env) (some (assign (.Name y py) X.env))) _ _ s
 refine wpAny_bind (thn (Q := fun _ s' => SP X pins D .next s') (wpAny_comprehension_free (use := some (assign (.Name y py) X.env)) rfl hs (closure_eq hfree) L.kind L.names (thn (hi pins s σ H _ I h) fun v s1 h1 => thn h1 fun itv s2 h2 => ?_)) fun _ s' hq => wpAny_pure (wpAny_pure hq))
 obtain ⟨it, fp, tn, J, H2, e, I2, T, st2, f2, rd⟩ := h2
 subst e
 refine lc_run2 (RR := fun acc C => compPost (model X.prog X.w) X.A X.xe (some (assign (.Name y py) X.env)) _ acc C) rfl hc L I2 T st2 f2 (fun C s H => hif C s H fp) (fun C s H => he C s H fp) rd fun Da C H' s' m I' hC hf hn q => ?_
 have l2 := I2.lt
 have nC : C ≠ X.env.locals := Nat.ne_of_gt (Nat.lt_of_lt_of_le l2 hC)
 have nF : C ∉ X.fs := I2.nofs hC
 obtain ⟨oC, es, ep, hget, hdat, hrest⟩ := id hn
 have Ip : Inv X (pins ++ [(C, oC)]) σ H' s' := I'.pins_of fun p hp => (List.mem_append.mp hp).elim (fun z => I'.pin p (List.mem_append_right _ z)) fun z => by
  have e : p = (C, oC) := by simpa using z
  subst e
  exact ⟨hget, hf, nC, nF, fun v z => by rw [hdat] at z; cases z⟩
 have hg : PG X (.Name y py) (gName i) := pg_name hN hy (.inl hl) (.inr hl)
 show wpAny _ X.A (assign (.Name y py) X.env (.ref Da)) _ _ s'
 refine thn (hg _ s' σ H' (.ref Da) (.ref Da) D.nx Ip rfl q) fun _ s'' ⟨σ'', H'', I'', q''⟩ => ?_
 obtain ⟨g1, g2, _⟩ := I''.pin (C, oC) (List.mem_append_right _ (List.mem_append_right _ (by simp)))
 refine ⟨m, ⟨oC, es, ep, g1, hdat, hrest⟩, fun h' hsb => ⟨σ'', H'', ?_, q''⟩⟩
 refine I''.unpinned.turned (t' := s''.toks) (it := C) (fun b o hb e => hsb.extBut b o hb e) g2 nC (.inr (Nat.le_trans I2.sz hC)) (fun y c e => ?_) fun p hp => ?_
 ·obtain ⟨v, hv⟩ := I2.cell y c e
  exact Nat.ne_of_lt (Nat.lt_of_lt_of_le hv.lt hC)
 ·exact Nat.ne_of_lt (Nat.lt_of_lt_of_le (Heap.lt_size (I2.pin p hp).1) hC)
end
theorem r_izip {K : PySem.W.Frag} {tA : TA} {σ : St} {H : Hp} {R : It → Hp → Prop} (h : tA σ H fun vs H1 => ∃ a b, vs = [.ref a, .ref b] ∧ (∃ xs, SqL K H1 a xs) ∧ (∃ ys, SqL K H1 b ys) ∧ R (Itz K a b) H1) : iZip K tA σ H R := h
theorem r_lc2 {K : PySem.W.Frag} {σ : St} {H : Hp} {Q : VK} {wi : TI} {ix : List Nat} {tc : TT} {te : TE} (h : wi σ H fun J H1 => rdLc2 K J H1 (frV σ ix) tc te Q) : tLc2 K wi ix tc te σ H Q := h
theorem r_gtup2 {K : PySem.W.Frag} {σ : St} {H : Hp} {R : St → Hp → Prop} {a : Addr} {x y : V} {i j : Nat} (hs : SqT K H a [x, y]) (h : R ((σ.set i (some x)).set j (some y)) H) : gTup K 2 (gCons (gName i) (gCons (gName j) gNil)) (.ref a) σ H R :=
 ⟨a, [x, y], rfl, hs, rfl, x, [y], rfl, y, [], rfl, rfl, h⟩
end L2
end
section
namespace L2
open PySem PySem.Spec PyProof.Rows
def Ites (z : Str) : It :=
 ⟨fun i _ => i < z.cps.size, fun i H v H' => ∃ t c, H t = none ∧ v = .ref t ∧ z.cps[i]? = some c ∧ H' = upd H t (.tup [.int i, .str (sgn c)]), fun i _ => i = z.cps.size⟩
theorem turn_enumS {P : Program} {w : World} {K : PySem.W.Frag} {elts : List Expr} {k : Nat} {pos : Pos} {e it : Addr} {z : Str} {ty : String} {t : Tok} (hne : e ≠ it)
  (D : ∀ A' : Around, A'.handled = none → Draws P w A' it [it] z.cps.size (fun i v => ∃ c u, z.cps[i]? = some c ∧ v = .str ⟨#[c]⟩ u) (fun i h => h.IsStrIter it ty z t i)) :
  Turn P w K (.Tuple elts k pos) (Ites z) [e, it] e (fun i h => (∃ old, IsEnum h e it i old) ∧ h.IsStrIter it ty z t i) where
 mem := by simp
 obj := fun i h st c hc => by
  obtain ⟨⟨old, he⟩, ⟨o1, e1, c1, d1⟩⟩ := st
  simp only [List.mem_cons, List.not_mem_nil, or_false] at hc
  rcases hc with rfl | rfl
  ·exact ⟨_, he, fun v z => by cases z⟩
  ·exact ⟨_, e1, fun v z => by rw [d1] at z; cases z⟩
 keep := fun i h h' st kk => by
  obtain ⟨⟨old, he⟩, ⟨o, ho, r⟩⟩ := st
  exact ⟨⟨old, kk _ (by simp) _ he⟩, ⟨o, kk _ (by simp) o ho, r⟩⟩
 item := by
  intro X hP hw hK hc i pins s σ H E I hf st hg
  subst hP hw hK
  have W := WalksT.enumerateD (D X.A.in1 (I.ok.hd hc)) e hne (by simpa using hne) (by simp)
  refine W.item i s _ _ hg st fun T vals h' tk hv hT hTu mid kk => ?_
  obtain ⟨t1, x, ⟨c, u, hc', rfl⟩, rfl⟩ := hv
  have nT := W.apart i T h' mid
  refine ⟨.ref T, rfl, W.go elts k pos i T { s with heap := h', toks := tk } _ _ mid fun h'' st'' kk2 => ?_⟩
  have hTu2 : h''.IsTuple T ([Value.int (i : Int) t1, Value.str ⟨#[c]⟩ u] : List Value).toArray := by
   obtain ⟨o, e, r⟩ := hTu
   exact ⟨o, kk2 T o nT e, r⟩
  have I2 : Inv X pins σ (upd H T (.tup [.int i, .str (sgn c)])) { s with heap := h'', toks := tk } := I.turnT (t' := tk) (fun b o hb e => kk2 b o hb (kk b o hb e)) (fun b hb => hf b hb) hT hTu2 (.cons ⟨t1, rfl⟩ (.cons ⟨u, rfl⟩ .nil)) (show 2 ≤ sizeLine by decide)
  refine ⟨.ref T, _, I2, rfl, ⟨T, c, I.hok.fresh hT, rfl, hc', rfl⟩, st'', fun b hb => ?_⟩
  have hlt : b < s.heap.objs.size := by
   obtain ⟨⟨old, s1⟩, ⟨o5, s5, _⟩⟩ := id st
   simp only [List.mem_cons, List.not_mem_nil, or_false] at hb
   rcases hb with rfl | rfl
   ·exact Heap.lt_size s1
   ·exact Heap.lt_size s5
  rw [upd_ne (Nat.ne_of_lt (Nat.lt_of_lt_of_le hlt hT))]
  exact (hf b hb).1
 done := by
  intro X hP hw hK hc i pins s σ H E I hf st hg
  subst hP hw hK
  have W := WalksT.enumerateD (D X.A.in1 (I.ok.hd hc)) e hne (by simpa using hne) (by simp)
  have hi : i = z.cps.size := hg
  refine W.done s _ _ (by rw [← hi]; exact st) fun h' tk kk => ⟨rfl, ?_⟩
  exact I.turnW (t' := tk) kk fun b hb => hf b hb
 self := fun _ _ _ _ _ st h => wpAny_pyIter_enum (Classical.choose_spec st.1) h
section
variable {X : Cx} {elts : List Expr} {k : Nat} {tpos : Pos}
def iEnumS (ta : TA) : TI := fun σ H R => ta σ H fun vs H1 => ∃ z, vs = [.str z] ∧ R (Ites z) H1
theorem pi_enumS {a : Expr} {ta : TA} {p pos : Pos} (hg : Gl X "enumerate") (hm : X.mg "enumerate" = none) (ha : PA X [a] ta) (hs : starEach [a] X.env = [(false, eval a X.env)] := by rfl) :
  PI X (.Tuple elts k tpos) (.Call (.Name "enumerate" p) [a] [] pos) (iEnumS ta) := by
 intro pins s σ H R I h
 refine Call_ (ld_blt I hg hm b_enumerate (PyProof.Rows.callWith_type1 (thn (ha pos pins s σ H _ I h) fun us s1 ⟨vs, H1, I1, r1, q1⟩ => ?_) hs rfl))
 obtain ⟨z, e, q⟩ := q1
 subst e
 obtain ⟨u, rfl, ⟨t, rfl⟩⟩ := vals1 r1
 refine call_enumerate_str fun h' g1 g2 hsz kk => ?_
 refine wpAny_pyIter_enum (s := { s1 with heap := h' }) g1 ?_
 have fin : ∀ ty : String, h'.IsStrIter s1.heap.objs.size ty z t 0 → (∀ A' : Around, A'.handled = none → Draws X.prog X.w A' s1.heap.objs.size [s1.heap.objs.size] z.cps.size (fun i v => ∃ c u, z.cps[i]? = some c ∧ v = .str ⟨#[c]⟩ u) (fun i h => h.IsStrIter s1.heap.objs.size ty z t i)) →
   PIE X pins σ (.Tuple elts k tpos) R (.ref (s1.heap.objs.size + 1)) { s1 with heap := h' } := fun ty g2 D => by
  refine ⟨s1.heap.objs.size + 1, [s1.heap.objs.size + 1, s1.heap.objs.size], _, _, H1, rfl, I1.kept (t' := s1.toks) kk, turn_enumS (ne_z1 _) D, ⟨⟨_, g1⟩, g2⟩, fun c hc => ?_, q⟩
  have hle : s1.heap.objs.size ≤ c := by
   simp only [List.mem_cons, List.not_mem_nil, or_false] at hc
   exact le_z2 hc
  exact I1.fpOk hle (I1.hok.fresh hle)
 by_cases ha : z.cps.all (· < 128) = true
 ·have e : strIterType z = "str_ascii_iterator" := by unfold strIterType; rw [if_pos ha]
  exact fin _ (e ▸ g2) fun A' hA => Draws.strAscii hA _ z t
 ·have e : strIterType z = "str_iterator" := by unfold strIterType; rw [if_neg ha]
  exact fin _ (e ▸ g2) fun A' hA => Draws.strWide hA _ z t
end
theorem r_ienumS {tA : TA} {σ : St} {H : Hp} {R : It → Hp → Prop} (h : tA σ H fun vs H1 => ∃ z, vs = [.str z] ∧ R (Ites z) H1) : iEnumS tA σ H R := h
theorem for_enumS {K : PySem.W.Frag} {z : Str} {i1 i2 : Nat} {tb : TS} {D : Ends} {σ : St} {H : Hp} (Pv : Nat → St → Hp → Prop) (h0 : Pv 0 σ H)
  (step : ∀ i c σ H t, z.cps[i]? = some c → Pv i σ H → H t = none → tb { D with nx := Pv (i + 1), ct := Pv (i + 1), bk := D.nx } ((σ.set i1 (some (.int i))).set i2 (some (.str (sgn c)))) (upd H t (.tup [.int i, .str (sgn c)])))
  (fin : ∀ σ H, Pv z.cps.size σ H → D.nx σ H) : forB (Ites z) (gTup K 2 (gCons (gName i1) (gCons (gName i2) gNil))) tb D σ H := by
 refine ⟨fun i m σ H => i ≤ z.cps.size ∧ m = z.cps.size - i ∧ Pv i σ H, ⟨_, Nat.zero_le _, rfl, h0⟩, ?_⟩
 rintro i m σ H ⟨hi, rfl, hp⟩
 by_cases h : i = z.cps.size
 ·exact .inl ⟨h, fin σ H (h ▸ hp)⟩
 ·have hlt : i < z.cps.size := Nat.lt_of_le_of_ne hi h
  refine .inr ⟨hlt, Pv (i + 1), fun σ' H' q => ⟨z.cps.size - (i + 1), by omega, hlt, rfl, q⟩, fun v H' hy => ?_⟩
  obtain ⟨t, c, hn, rfl, hx, rfl⟩ := hy
  exact r_gtup2 (SqT.of upd_same) (step i c σ H t hx hp hn)
end L2
end
section
namespace L2
open PySem PySem.Spec PyProof.Rows
structure Mth (P : Program) (w : World) (K : PySem.W.Frag) (mg : Str → Option Value) (base : Heap) (C : Addr) (m : Str) (k : Nat) (ps : List Str) (sp : Sp) : Prop where
 ex : ∃ (f : Addr) (fd : FuncData), FnOk P w K mg base CX0 k f fd ps sp ∧ Binds K fd ps [] ∧ Meth K C m f
 cl : Cls K C
structure Mkr (P : Program) (w : World) (K : PySem.W.Frag) (mg : Str → Option Value) (base : Heap) (name : Str) (C : Addr) (k : Nat) (ps : List Str) (sp : Sp) : Prop where
 ex : ∃ (f : Addr) (fd : FuncData), FnOk P w K mg base CX0 k f fd ps sp ∧ Binds K fd ps [] ∧ Mk K C f ∧ mg name = some (.ref C)
section
variable {X : Cx} {k : Nat} {C : Addr} {ps : List Str} {sp : Sp} {name m : Str} {p pos apos : Pos} {e o : Expr} {es : List Expr} {ta : TE} {t : TA} {pl : Sem Bool}
theorem pe_mk (M : Mkr X.prog X.w X.K X.mg X.base name C k ps sp) (hr : Room (k + 1) X.A) (ha : PA X (e :: es) t) (hg : Gl X name := by rfl) (hdb : (name == ("__debug__" : Str)) = false := by decide)
  (he : starEach (e :: es) X.env = (false, eval e X.env) :: starEach es X.env := by rfl) (hpl : (backTo pos (starEach es X.env)).any (·.1) = false := by rfl) : PE X (.Call (.Name name p) (e :: es) [] pos) (tMake C sp [] E0 t) := by
 obtain ⟨f, fd, F, b, M, hm⟩ := M.ex
 exact pe_make M F hr hg hm b .nil pass0 ha hdb he hpl
theorem pe_mt (M : Mth X.prog X.w X.K X.mg X.base C m k ps sp) (hr : Room k X.A) (ho : PE X o ta) (ha : PA X (e :: es) t)
  (hst : starEach (e :: es) X.env = (false, eval e X.env) :: starEach es X.env := by rfl) (hpl : (backTo pos (starEach es X.env)).any (·.1) = false := by rfl)
  (ht : eval (.Call (.Attribute o m apos) (e :: es) [] pos) X.env = (do
   let ov ← eval o X.env
   standAt apos.atName
   let (f, first) ← holding [ov] (getMethod ov m pl)
   callWith pos f first (backTo pos (starEach (e :: es) X.env)) (backToKw pos (keywordEach [] X.env))) := by rfl) :
  PE X (.Call (.Attribute o m apos) (e :: es) [] pos) (tMeth C m sp [] E0 ta t) := by
 obtain ⟨f, fd, F, b, hm⟩ := M.ex
 exact pe_meth ho M.cl hm F hr b .nil pass0 ha hst hpl ht
theorem pe_mt0 (M : Mth X.prog X.w X.K X.mg X.base C m k ps sp) (hr : Room k X.A) (ho : PE X o ta)
  (ht : eval (.Call (.Attribute o m apos) [] [] pos) X.env = (do
   let ov ← eval o X.env
   standAt apos.atName
   let (f, first) ← holding [ov] (getMethod ov m pl)
   callWith pos f first (backTo pos (starEach [] X.env)) (backToKw pos (keywordEach [] X.env))) := by rfl) :
  PE X (.Call (.Attribute o m apos) [] [] pos) (tMeth C m sp [] E0 ta tNil) := by
 obtain ⟨f, fd, F, b, hm⟩ := M.ex
 exact pe_meth0 ho M.cl hm F hr b .nil pass0 ht
end
section
variable {σ : St} {H : Hp} {D : Ends} {Q : VK} {te ta tv : TE} {tA : TA} {K : PySem.W.Frag}
theorem r_fld {f : Str} (h : te σ H fun x H1 => ∃ a C dx fs v, x = .ref a ∧ H1 a = some (.ins C dx fs) ∧ Cls K C ∧ NoAttr K C f ∧ fs.lookup f = some v ∧ Q v H1) : tFld K te f σ H Q := h
theorem r_fldE {a C dx : Addr} {fs : List (Str × V)} {f : Str} {v : V} (h : H a = some (.ins C dx fs)) (c : Cls K C) (n : NoAttr K C f) (l : fs.lookup f = some v) (q : Q v H) :
  ∃ a' C' dx' fs' v', V.ref a = .ref a' ∧ H a' = some (.ins C' dx' fs') ∧ Cls K C' ∧ NoAttr K C' f ∧ fs'.lookup f = some v' ∧ Q v' H := ⟨a, C, dx, fs, v, rfl, h, c, n, l, q⟩
theorem r_sfld {f : Str} (h : tv σ H fun y H1 => ta σ H1 fun x H2 => ∃ a C dx fs, x = .ref a ∧ H2 a = some (.ins C dx fs) ∧ Cls K C ∧ NoAttr K C f ∧ fs.length < 1000 ∧ D.nx σ (upd H2 a (.ins C dx (putF f y fs)))) : sFld K ta tv f D σ H := h
theorem r_sfldE {a C dx : Addr} {fs : List (Str × V)} {f : Str} {R : Hp → Prop} {y : V} (h : H a = some (.ins C dx fs)) (c : Cls K C) (n : NoAttr K C f) (l : fs.length < 1000) (q : R (upd H a (.ins C dx (putF f y fs)))) :
  ∃ a' C' dx' fs', V.ref a = .ref a' ∧ H a' = some (.ins C' dx' fs') ∧ Cls K C' ∧ NoAttr K C' f ∧ fs'.length < 1000 ∧ R (upd H a' (.ins C' dx' (putF f y fs'))) := ⟨a, C, dx, fs, rfl, h, c, n, l, q⟩
theorem r_make {C : Addr} {sp : Sp} {E : XK} (h : tA σ H fun vs H1 => ∀ x dx, H1 x = none → H1 dx = none → dx ≠ x → sp (.ref x :: (vs ++ [])) (upd (upd H1 dx (.own x)) x (.ins C dx [])) (fun v H2 => v = .non ∧ Q (.ref x) H2) E) : tMake C sp [] E tA σ H Q := h
theorem r_meth {C : Addr} {m : Str} {sp : Sp} {E : XK} (h : ta σ H fun x H1 => ∃ a dx fs, x = .ref a ∧ H1 a = some (.ins C dx fs) ∧ fs.lookup m = none ∧ tA σ H1 fun vs H2 => sp (x :: (vs ++ [])) H2 Q E) : tMeth C m sp [] E ta tA σ H Q := h
end
section
variable {X : Cx}
def cntS (z : Str) (c : Nat) : Nat := z.cps.toList.count c
theorem cnt_count (c : Nat) : ∀ l : List Nat, PyProof.Rows.cnt c l = (l.count c : Nat)
 | [] => rfl
 | n :: r => by
  rw [PyProof.Rows.cnt_cons, cnt_count c r, List.count_cons]
  by_cases h : n = c
  ·subst h; simp; omega
  ·simp [h]
def rCount : V → List V → Hp → VK → Prop := fun x vs H Q => ∃ z c, x = .str z ∧ vs = [.str (sgn c)] ∧ Q (.int (cntS z c : Nat)) H
theorem mt_count : MtM X "str.count" rCount := by
 intro pins s σ H x vs v us Q I rx rv h
 obtain ⟨z, c, rfl, rfl, q⟩ := h
 obtain ⟨t, rfl⟩ := rx
 obtain ⟨u, rfl, ru⟩ := rv.one
 obtain ⟨t', rfl⟩ := ru
 have e : Txt.count z (sgn c) = (cntS z c : Nat) := (PyProof.Rows.count_cnt z c).trans (cnt_count c _)
 refine SC.count ?_
 rw [e]
 exact ⟨.int (cntS z c : Nat), H, I.tok _, ⟨_, rfl⟩, q⟩
def rSum (K : PySem.W.Frag) : List V → Hp → VK → Prop := fun xs H Q => ∃ (p : Addr) (ns : List Int), xs = [.ref p] ∧ SqL K H p (ns.map V.int) ∧ Q (.int ns.sum) H
theorem call_sum (hc : X.calm = true) : CallR X (.builtin "sum") (rSum X.K) := by
 intro pins s σ H xs us Q I r h
 obtain ⟨p, ns, rfl, hp, q⟩ := h
 obtain ⟨u, rfl, ru⟩ := vals1 r
 cases ru
 obtain ⟨its, r, pl, _⟩ := I.list hp
 have hi := intsAre_of r
 obtain ⟨ys, e⟩ := hi.allInts.items
 have hl := pl.isList
 have hs : (numsOf its).sum = ns.sum := by rw [hi.numsOf]
 rw [e] at hl
 refine sum_intListG (I.ok.hd hc) hl fun h' tk t' hk => ?_
 refine ⟨.int ns.sum, H, I.kept hk, ⟨t', ?_⟩, q⟩
 rw [preSum_eq, List.take_of_length_le (by simp), ← hs]
 have e2 := nums_intItems ys
 rw [← e] at e2
 rw [show its = its.toArray.toList from rfl, e2]
end
namespace IB
open PySem.NumText PySem.Calls
def bits (cs : List Nat) : Prop := ∀ c ∈ cs, c = 48 ∨ c = 49
def v2 (cs : List Nat) : Nat := cs.foldl (fun a c => a * 2 + (c - 48)) 0
theorem step_bit {c : Nat} (ds : Array Nat) (b : Bool) (h : c = 48 ∨ c = 49) : step 2 (ds, b) c = some (ds.push (c - 48), true) := by rcases h with rfl | rfl <;> rfl
theorem foldM_bits : ∀ (cs : List Nat) (ds : Array Nat), bits cs → cs.foldlM (step 2) (ds, true) = some (cs.foldl (fun acc c => acc.push (c - 48)) ds, true)
 | [], ds, _ => rfl
 | c :: cs, ds, h => by
  rw [List.foldlM_cons, step_bit ds true (h c List.mem_cons_self)]
  exact foldM_bits cs _ fun d hd => h d (List.mem_cons_of_mem _ hd)
theorem digits_bits {cs : List Nat} (h : bits cs) (hne : cs ≠ []) : digits? 2 cs = some (cs.foldl (fun acc c => acc.push (c - 48)) #[]) := by
 cases cs with
 | nil => exact absurd rfl hne
 | cons c cs =>
  unfold digits?
  rw [List.foldlM_cons, step_bit #[] false (h c List.mem_cons_self)]
  show ((cs.foldlM (step 2) (#[].push (c - 48), true)).bind _) = _
  rw [foldM_bits cs _ fun d hd => h d (List.mem_cons_of_mem _ hd)]
  rfl
theorem push_fold2 : ∀ (cs : List Nat) (ds : Array Nat), (cs.foldl (fun acc c => acc.push (c - 48)) ds).foldl (fun acc d => acc * 2 + d) 0 = cs.foldl (fun acc c => acc * 2 + (c - 48)) (ds.foldl (fun acc d => acc * 2 + d) 0)
 | [], ds => rfl
 | c :: cs, ds => by
  rw [List.foldl_cons, push_fold2 cs, List.foldl_cons, Array.foldl_push]
theorem drop_bits {cs : List Nat} (h : bits cs) : cs.dropWhile blank = cs := by
 cases cs with
 | nil => rfl
 | cons c cs =>
  rw [List.dropWhile_cons, if_neg]
  rcases h c List.mem_cons_self with rfl | rfl <;> decide
theorem sign_bits {cs : List Nat} (h : bits cs) : sign cs = (false, cs) := by
 cases cs with
 | nil => rfl
 | cons c cs => rcases h c List.mem_cons_self with rfl | rfl <;> rfl
theorem based_bits {cs : List Nat} (h : bits cs) : based 2 cs = (2, false, cs) := by
 have hp : prefix? cs = none := by
  match cs, h with
  | [], _ => rfl
  | [c], h => rcases h c List.mem_cons_self with rfl | rfl <;> rfl
  | c :: d :: r, h =>
   rcases h c List.mem_cons_self with rfl | rfl
   ·rcases h d (List.mem_cons_of_mem _ List.mem_cons_self) with rfl | rfl <;> rfl
   ·rfl
 unfold based
 rw [hp]
 rfl
theorem read_bits {cs : List Nat} (h : bits cs) (hne : cs ≠ []) : (int_private% "readNumeral") 0 2 cs = (int_private% "Numeral.value") (v2 cs : Nat) := by
 refine (readNumeral_eq 0 2 cs).trans ?_
 have hr : bits cs.reverse := fun c hc => h c (List.mem_reverse.mp hc)
 rw [drop_bits h, sign_bits h]
 dsimp only
 rw [based_bits h]
 dsimp only
 rw [drop_bits hr, List.reverse_reverse, digits_bits h hne]
 have e : (cs.foldl (fun acc c => acc.push (c - 48)) #[]).foldl (fun acc d => acc * 2 + d) 0 = v2 cs := push_fold2 cs #[]
 unfold judge
 dsimp only
 rw [e]
 rfl
theorem wp_text {M : Model} {A : Around} {E : Value → Shared → Prop} {s : Shared} {Q : Value → Shared → Prop} {v : Value} {text : List Nat} {n : Int}
    (hs : (text.takeWhile (· != 0)).length ≤ 640) (hr : (int_private% "readNumeral") 0 2 (text.takeWhile (· != 0)) = (int_private% "Numeral.value") n)
    (ha : ((text.takeWhile (· != 0)).length == text.length) = true) (h : Q (.int n s.toks) { s with toks := s.toks + 1 }) :
    wpAny M A ((int_private% "intFromText") v text 2) Q E s := by
  obtain ⟨hp, g, d, tk, os⟩ := s
  repeat (any_goals (first
    | assumption
    | (with_reducible refine wpAny_ite_true (decide_eq_true hs) ?_)
    | (with_reducible refine wpAny_ite_true (decide_eq_true ha) ?_)
    | wp_step))
  all_goals (try rw [hr])
  all_goals (try dsimp only)
  repeat (any_goals (first
    | assumption
    | (with_reducible refine wpAny_ite_true (decide_eq_true hs) ?_)
    | (with_reducible refine wpAny_ite_true (decide_eq_true ha) ?_)
    | wp_step))
theorem typeCall_int_2 (a b : Value) : checkTypeCall "int" ⟨[a, b], []⟩ = pure () := by kernel_rfl
theorem newCall_int_2 (a b : Value) : checkBuiltinCall "int.__new__" ⟨[.type "int", a, b], []⟩ = pure () := by kernel_rfl
structure Hid (p : Prop) : Prop where
 out : p
theorem numText_bits {x : Str} (h : bits x.cps.toList) : (if x.cps.all (· < 128) then x.cps.toList else Unicode.numberText x.cps.toList) = x.cps.toList := by
 rw [if_pos]
 rw [Array.all_eq_true']
 intro c hc
 have := h c (by simpa using hc)
 rcases this with rfl | rfl <;> decide
theorem seen_bits {cs : List Nat} (h : bits cs) : cs.takeWhile (· != 0) = cs := takeWhile_all fun c hc => by rcases h c hc with rfl | rfl <;> decide
set_option maxHeartbeats 4000000 in
theorem gives_bits {x : Str} {u v : Tok} (hl : x.length ≤ 640) (hb : bits x.cps.toList) (hne : x.cps.toList ≠ []) : Gives (Builtin.«int.__new__» ⟨[.type "int", .str x u, .int 2 v], []⟩) (.int (v2 x.cps.toList : Nat)) :=
  .of_wp fun M A E s Q h => by
    obtain ⟨hp, g, d, tk, os⟩ := s
    have f1 := F.conv_sub_int
    have f2 := F.madeHere_int
    have f6 : typeOf (.str x u) = pure (.type "str") := rfl
    have hs : ((x.cps.toList).takeWhile (· != 0)).length ≤ 640 := by rw [seen_bits hb]; simpa [Str.length] using hl
    have hr := read_bits hb hne
    rw [← seen_bits hb] at hr
    rw [seen_bits hb] at hr
    have hr : (int_private% "readNumeral") 0 2 ((x.cps.toList).takeWhile (· != 0)) = (int_private% "Numeral.value") (v2 x.cps.toList : Nat) := by rw [seen_bits hb]; exact hr
    have ha : (((x.cps.toList).takeWhile (· != 0)).length == (x.cps.toList).length) = true := by rw [seen_bits hb]; simp
    have ht := numText_bits hb
    have hk := Hid.mk (And.intro hs (And.intro hr (And.intro ha ht)))
    clear hs hr hl ha ht hne
    repeat (any_goals (first
      | assumption
      | ((with_reducible show wpAny _ _ ((int_private% "intFromText") _ _ _) _ _ _); rw [hk.out.2.2.2]; refine wp_text hk.out.1 hk.out.2.1 hk.out.2.2.1 ?_)
      | wp_step))
    all_goals first | exact ⟨_, rfl, h⟩ | skip
end IB
section
variable {X : Cx}
def rInt2 : List V → Hp → VK → Prop := fun xs H Q => ∃ z, xs = [.str z, .int 2] ∧ z.length ≤ 640 ∧ IB.bits z.cps.toList ∧ z.cps.toList ≠ [] ∧ Q (.int (IB.v2 z.cps.toList : Nat)) H
theorem call_int_base : CallR X (.type "int") rInt2 := by
 intro pins s σ H xs us Q I r h
 obtain ⟨z, rfl, hl, hb, hne, q⟩ := h
 obtain ⟨u, w', rfl, ru, rw'⟩ := vals2 r
 obtain ⟨t, rfl⟩ := ru
 obtain ⟨t', rfl⟩ := rw'
 exact callType_new F.called_int F.newNe_int (IB.typeCall_int_2 _ _) (IB.newCall_int_2 _ _) (fun obj => F.args_object_init_3 obj _ _) F.entry_int_new (IB.gives_bits hl hb hne).meets (show (Made.int _).post _ s from ⟨rfl, .int (IB.v2 z.cps.toList : Nat), H, I.tok _, ⟨_, rfl⟩, q⟩)
end
end L2
end
section
namespace L2
open PySem PySem.Spec PyProof.Rows
theorem range_down (n : Nat) : Builtin.Str.strSliceIndices none none (-1) n = (List.range n).map fun k => n - 1 - k := by
 unfold Builtin.Str.strSliceIndices
 dsimp only
 rw [if_neg (by decide), if_neg (by decide)]
 unfold sliceRange
 dsimp only
 rw [if_neg (by decide)]
 have e : (if ((n : Int) - 1 > -1) then ((n : Int) - 1 - -1 - -1 - 1) / (- -1) else 0).toNat = n := by
  split
  ·simp
  ·omega
 rw [e]
 refine List.map_congr_left fun k hk => ?_
 have := List.mem_range.mp hk
 omega
theorem pick_down (l : List Nat) : ∀ n, n ≤ l.length → ((List.range n).map fun k => n - 1 - k).filterMap (l[·]?) = (l.take n).reverse
 | 0, _ => by simp
 | n + 1, h => by
  have hl : n < l.length := h
  rw [List.range_succ_eq_map, List.map_cons, List.map_map, List.filterMap_cons]
  have e : ((fun k => n + 1 - 1 - k) ∘ Nat.succ) = fun k => n - 1 - k := by
   funext k
   show n + 1 - 1 - (k + 1) = n - 1 - k
   omega
  rw [e, show n + 1 - 1 - 0 = n by omega, List.getElem?_eq_getElem hl]
  dsimp only
  rw [pick_down l n (by omega), List.take_add_one, List.getElem?_eq_getElem hl, Option.toList_some, List.reverse_append]
  rfl
section
variable {X : Cx} {e : Expr} {te : TE} {p1 p2 p3 pos : Pos} {j : Nat}
theorem revS_length (z : Str) : (revS z).length = z.length := by
 show z.cps.toList.reverse.toArray.size = z.cps.size
 simp
theorem pe_srev {x1} (he : PE X e te) : PE X (.Subscript e (.Slice none none (some (.UnaryOp .USub (.Constant (.int 1) x1 p1) p2)) p3) pos) (tRev te) := by
 intro pins s σ H Q I h
 refine Subscript_ (thn (he pins s σ H _ I h) fun v s1 ⟨x, H1, I1, r1, q1⟩ => ?_)
 obtain ⟨z, rfl, hz, q⟩ := q1
 obtain ⟨t, rfl⟩ := r1
 refine wpAny_Slice ?_
 rw [evalPart_none]
 refine wpAny_pure (wpAny_pure ?_)
 rw [evalPart_some]
 have hm : PE X (.UnaryOp .USub (.Constant (.int 1) x1 p1) p2) (tUn (rU fun i => .int (-i)) (tC (.int 1))) := pe_un un_neg pe_int
 refine thn (hm pins s1 σ H1 (fun y H2 => y = .int (-1) ∧ H2 = H1) I1 ⟨1, rfl, rfl, rfl⟩) fun w s2 ⟨y, H2, I2, r2, e2, e3⟩ => ?_
 subst e2 e3
 obtain ⟨t2, rfl⟩ := r2
 have I4 : Inv X pins σ H2 { s2 with heap := s2.heap.push { cls := .type "slice", data := .fields #[.none, .none, .int (-1) t2] } } := I2.kept (t' := s2.toks) fun b ob q => Heap.get?_push_of_some _ q
 have hs : (s2.heap.push { cls := .type "slice", data := .fields #[.none, .none, .int (-1) t2] }).IsSlice s2.heap.objs.size none none (some (-1, t2)) := ⟨_, Heap.get?_push_size _ rfl, rfl, rfl⟩
 refine tail_any (ops := [.ref s2.heap.objs.size, .str z t]) (typeIs_str _ _ _) PySem.F.slot_str_getitem.lookup ?_ (by with_unfolding_all rfl)
 refine wpAny_getItem_str_slice hs rfl ?_
 have em : sliceMade z t none none (some (-1, t2)) = .str (revS z) := by
  unfold sliceMade
  rw [if_neg (by simp)]
  show Made.str ⟨((Builtin.Str.strSliceIndices none none (-1) z.length).filterMap (z.cps[·]?)).toArray⟩ = _
  rw [range_down]
  have := pick_down z.cps.toList z.cps.toList.length (Nat.le_refl _)
  have e1 : z.cps.toList.length = z.length := by simp [Str.length]
  rw [e1] at this
  have e2 : (fun i : Nat => z.cps[i]?) = fun i : Nat => z.cps.toList[i]? := by funext i; simp
  rw [e2, this, List.take_of_length_le (by simp [Str.length])]
  rfl
 rw [em]
 refine ⟨?_, .str (revS z), H2, I4.tok _, ⟨_, rfl⟩, q⟩
 show (revS z).length ≤ _
 rw [revS_length]
 exact hz
end
theorem r_rev {te : TE} {σ : St} {H : Hp} {Q : VK} (h : te σ H fun x H1 => ∃ z, x = .str z ∧ z.length ≤ sizeLine ∧ Q (.str (revS z)) H1) : tRev te σ H Q := h
inductive SameD (K : PySem.W.Frag) (H : Hp) : Nat → V → V → Prop where
 | flat {n : Nat} {x : V} (h : flatV x = true) : SameD K H n x x
 | tup {n : Nat} {a b : Addr} {xs ys : List V} (h1 : SqT K H a xs) (h2 : SqT K H b ys) (hl : xs.length = ys.length) (h : ∀ (j : Nat) (x y : V), xs[j]? = some x → ys[j]? = some y → SameD K H n x y) : SameD K H (n + 1) (.ref a) (.ref b)
 | lst {n : Nat} {a b : Addr} {xs ys : List V} (h1 : SqL K H a xs) (h2 : SqL K H b ys) (hl : xs.length = ys.length) (h : ∀ (j : Nat) (x y : V), xs[j]? = some x → ys[j]? = some y → SameD K H n x y) : SameD K H (n + 1) (.ref a) (.ref b)
theorem eqV_self {x : V} (h : flatV x = true) : eqV x x = true := by
 cases x <;> first | rfl | (simp [eqV]; done) | cases h
theorem SameD.flats {K : PySem.W.Frag} {H : Hp} {n : Nat} {xs : List V} (h : xs.all flatV = true) : ∀ (j : Nat) (x y : V), xs[j]? = some x → xs[j]? = some y → SameD K H n x y := fun j x y h1 h2 => by
 rw [h1] at h2
 cases h2
 exact .flat (List.all_eq_true.mp h x (List.mem_of_getElem? h1))
theorem SameD.tups {K : PySem.W.Frag} {H : Hp} {n : Nat} {a b : Addr} {xs : List V} (h1 : SqT K H a xs) (h2 : SqT K H b xs) (h : xs.all flatV = true) : SameD K H (n + 1) (.ref a) (.ref b) := .tup h1 h2 rfl (SameD.flats h)
theorem flat_ints (ns : List Int) : (ns.map V.int).all flatV = true := by simp [List.all_eq_true, flatV]
section
variable {X : Cx} {pins : List (Addr × Obj)} {σ : St} {H : Hp} {s : Shared}
theorem all_true {n : Nat} {e : Nat → Bool} (h : ∀ j, e j = true) : (List.range n).all e = true := by simp [h]
mutual
theorem SameD.eqAt (I : Inv X pins σ H s) : ∀ {n : Nat} {x y : V} {A : Around} {u v : Value}, A.units + n < cLine → SameD X.K H n x y → RelV x u → RelV y v → SeqAt.EqAt A s u v true
 | _, _, _, A, u, v, hu, .flat h, ru, rv => by
  have := eqAt_V (A := A) (s := s) ru rv h h
  rw [eqV_self h] at this
  exact this
 | n + 1, .ref a, .ref b, A, u, v, hu, .tup (xs := xs) (ys := ys) h1 h2 hl h, ru, rv => by
  cases ru; cases rv
  by_cases hab : a = b
  ·subst hab; exact SeqAt.EqAt.same _
  ·obtain ⟨is, r1, p1, _⟩ := I.tuple h1
   obtain ⟨js, r2, p2, _⟩ := I.tuple h2
   have l1 := r1.length; have l2 := r2.length
   have := SeqAt.RcAt.tuples (A := A) (e := fun _ => true) p1 p2 (by omega) fun j a1 a2 => SameD.items I (by show A.units + 1 + n < cLine; omega) h r1 r2 j (by simpa using a1) (by simpa using a2)
   refine SeqAt.EqAt.of_refs hab ?_
   rw [all_true fun _ => rfl] at this
   simpa [← l1, ← l2, hl] using this
 | n + 1, .ref a, .ref b, A, u, v, hu, .lst (xs := xs) (ys := ys) h1 h2 hl h, ru, rv => by
  cases ru; cases rv
  by_cases hab : a = b
  ·subst hab; exact SeqAt.EqAt.same _
  ·obtain ⟨is, r1, p1, _⟩ := I.list h1
   obtain ⟨js, r2, p2, _⟩ := I.list h2
   have l1 := r1.length; have l2 := r2.length
   have := SeqAt.RcAt.lists (A := A) (e := fun _ => true) p1.isList p2.isList (by simp; omega) (by omega) fun j a1 a2 => SameD.items I (by show A.units + 1 + n < cLine; omega) h r1 r2 j (by simpa using a1) (by simpa using a2)
   refine SeqAt.EqAt.of_refs hab ?_
   rw [all_true fun _ => rfl] at this
   exact this
theorem SameD.items (I : Inv X pins σ H s) {n : Nat} {A : Around} {xs ys : List V} {us vs : List Value} (hu : A.units + n < cLine) (h : ∀ (j : Nat) (x y : V), xs[j]? = some x → ys[j]? = some y → SameD X.K H n x y) (r1 : Vals xs us) (r2 : Vals ys vs) (j : Nat) (h1 : j < us.length) (h2 : j < vs.length) :
  SeqAt.EqAt A s us[j] vs[j] true := by
 have l1 := r1.length; have l2 := r2.length
 obtain ⟨x, ex⟩ : ∃ x, xs[j]? = some x := ⟨_, List.getElem?_eq_getElem (by omega)⟩
 obtain ⟨y, ey⟩ : ∃ y, ys[j]? = some y := ⟨_, List.getElem?_eq_getElem (by omega)⟩
 obtain ⟨u, eu, ru⟩ := r1.get ex
 obtain ⟨v, ev, rv⟩ := r2.get ey
 rw [List.getElem?_eq_getElem h1] at eu
 rw [List.getElem?_eq_getElem h2] at ev
 cases eu; cases ev
 exact SameD.eqAt I hu (h j x y ex ey) ru rv
end
end
def rSame (K : PySem.W.Frag) (r : Bool) : R2 := fun x y H Q => ∃ a b, x = .ref a ∧ y = .ref b ∧ SameD K H 60 x y ∧ Q (.bl r) H
section
variable {X : Cx}
theorem op_eqD (hu : X.A.units + 60 < cLine) : OpR X (compareOp .Eq) (rSame X.K true) := by
 intro pins s σ H x y v u Q I rx ry h
 obtain ⟨a, b, rfl, rfl, hs, q⟩ := h
 cases rx; cases ry
 cases hs with
 | flat h => cases h
 | @tup n _ _ xs ys h1 h2 hl h =>
  obtain ⟨is, r1, p1, _⟩ := I.tuple h1
  obtain ⟨js, r2, p2, _⟩ := I.tuple h2
  have l1 := r1.length; have l2 := r2.length
  have := SeqAt.RcAt.tuples (A := X.A) (e := fun _ => true) p1 p2 (by omega) fun j a1 a2 => SameD.items I (by show X.A.units + 1 + 59 < cLine; omega) h r1 r2 j (by simpa using a1) (by simpa using a2)
  rw [all_true fun _ => rfl] at this
  refine this _ _ _ _ ⟨.bl true, H, I, ?_, q⟩
  simp [RelV, ← l1, ← l2, hl]
 | @lst n _ _ xs ys h1 h2 hl h =>
  obtain ⟨is, r1, p1, _⟩ := I.list h1
  obtain ⟨js, r2, p2, _⟩ := I.list h2
  have l1 := r1.length; have l2 := r2.length
  have := SeqAt.RcAt.lists (A := X.A) (e := fun _ => true) p1.isList p2.isList (by simp; omega) (by omega) fun j a1 a2 => SameD.items I (by show X.A.units + 1 + 59 < cLine; omega) h r1 r2 j (by simpa using a1) (by simpa using a2)
  rw [all_true fun _ => rfl] at this
  exact this _ _ _ _ ⟨.bl true, H, I, rfl, q⟩
end
theorem hu60 {A : Around} {k : Nat} (hr : Room k A) : A.units + 60 < cLine := by have := hr.units; omega
end L2
end
section
namespace L2
open PySem PySem.Spec PyProof.Rows
def eqL (xs ys : List V) : Bool := decide (xs.length = ys.length) && (List.range xs.length).all fun j => eqV (xs.getD j .non) (ys.getD j .non)
def rEqL (K : PySem.W.Frag) (n : Bool) : R2 := fun x y H Q => ∃ a b xs ys, x = .ref a ∧ y = .ref b ∧ SqL K H a xs ∧ SqL K H b ys ∧ xs.all flatV = true ∧ ys.all flatV = true ∧ Q (.bl (n != eqL xs ys)) H
section
variable {X : Cx} {pins : List (Addr × Obj)} {σ : St} {H : Hp} {s : Shared}
theorem eqL_items {A : Around} {xs ys : List V} {us vs : List Value} (f1 : xs.all flatV = true) (f2 : ys.all flatV = true) (r1 : Vals xs us) (r2 : Vals ys vs) (j : Nat) (h1 : j < us.length) (h2 : j < vs.length) :
  SeqAt.EqAt A s us[j] vs[j] (eqV (xs.getD j .non) (ys.getD j .non)) := by
 have l1 := r1.length; have l2 := r2.length
 have e1 : xs[j]? = some (xs[j]'(by omega)) := List.getElem?_eq_getElem _
 have e2 : ys[j]? = some (ys[j]'(by omega)) := List.getElem?_eq_getElem _
 obtain ⟨u, eu, ru⟩ := r1.get e1
 obtain ⟨v, ev, rv⟩ := r2.get e2
 rw [List.getElem?_eq_getElem h1] at eu
 rw [List.getElem?_eq_getElem h2] at ev
 cases eu; cases ev
 simp only [List.getD, e1, e2, Option.getD_some]
 exact eqAt_V ru rv (List.all_eq_true.mp f1 _ (List.mem_of_getElem? e1)) (List.all_eq_true.mp f2 _ (List.mem_of_getElem? e2))
end
section
variable {X : Cx}
theorem op_eqL (hu : X.A.units + 60 < cLine) : OpR X (compareOp .Eq) (rEqL X.K false) := by
 intro pins s σ H x y v u Q I rx ry h
 obtain ⟨a, b, xs, ys, rfl, rfl, h1, h2, f1, f2, q⟩ := h
 cases rx; cases ry
 obtain ⟨is, r1, p1, _⟩ := I.list h1
 obtain ⟨js, r2, p2, _⟩ := I.list h2
 have l1 := r1.length; have l2 := r2.length
 by_cases hl : xs.length = ys.length
 ·have := SeqAt.RcAt.lists (A := X.A) (e := fun j => eqV (xs.getD j .non) (ys.getD j .non)) p1.isList p2.isList (by simp; omega) (by omega) fun j a1 a2 => eqL_items (s := s) f1 f2 r1 r2 j (by simpa using a1) (by simpa using a2)
  refine this _ _ _ _ ⟨.bl (false != eqL xs ys), H, I, ?_, q⟩
  unfold eqL
  rw [decide_eq_true hl]
  simp [RelV, ← l1]
 ·have := SeqAt.RcAt.lists_lengths (A := X.A) p1.isList p2.isList (by simp; omega) (by omega)
  refine this _ _ _ _ ⟨.bl (false != eqL xs ys), H, I, ?_, q⟩
  unfold eqL
  rw [decide_eq_false hl]
  simp [RelV]
theorem op_neL (hu : X.A.units + 60 < cLine) : OpR X (compareOp .NotEq) (rEqL X.K true) := by
 intro pins s σ H x y v u Q I rx ry h
 obtain ⟨a, b, xs, ys, rfl, rfl, h1, h2, f1, f2, q⟩ := h
 cases rx; cases ry
 obtain ⟨is, r1, p1, _⟩ := I.list h1
 obtain ⟨js, r2, p2, _⟩ := I.list h2
 have l1 := r1.length; have l2 := r2.length
 by_cases hl : xs.length = ys.length
 ·have := SeqAt.RcNeAt.lists (A := X.A) (e := fun j => eqV (xs.getD j .non) (ys.getD j .non)) p1.isList p2.isList (by simp; omega) (by omega) fun j a1 a2 => eqL_items (s := s) f1 f2 r1 r2 j (by simpa using a1) (by simpa using a2)
  refine this _ _ _ _ ⟨.bl (true != eqL xs ys), H, I, ?_, q⟩
  unfold eqL
  rw [decide_eq_true hl]
  simp [RelV, ← l1]
 ·have := SeqAt.RcNeAt.lists_lengths (A := X.A) p1.isList p2.isList (by simp; omega) (by omega)
  refine this _ _ _ _ ⟨.bl (true != eqL xs ys), H, I, ?_, q⟩
  unfold eqL
  rw [decide_eq_false hl]
  simp [RelV]
end
theorem eqL_ints (ns ms : List Int) : eqL (ns.map V.int) (ms.map V.int) = decide (ns = ms) := by
 unfold eqL
 rw [List.length_map, List.length_map]
 by_cases hl : ns.length = ms.length
 ·rw [decide_eq_true hl, Bool.true_and]
  by_cases h : ns = ms
  ·subst h
   rw [decide_eq_true rfl, List.all_eq_true]
   intro j hj
   have hj : j < ns.length := List.mem_range.mp hj
   simp [List.getD, hj, eqV]
  ·rw [decide_eq_false h]
   refine Bool.eq_false_iff.mpr fun hc => h (List.ext_getElem hl fun j h1 h2 => ?_)
   have := List.all_eq_true.mp hc j (List.mem_range.mpr h1)
   simp [List.getD, h1, h2, eqV] at this
   exact this
 ·rw [decide_eq_false hl, Bool.false_and, decide_eq_false]
  intro e
  exact hl (by rw [e])
theorem r_neI {K : PySem.W.Frag} {H : Hp} {Q : VK} {a b : Addr} {ns ms : List Int} (h1 : SqL K H a (ns.map V.int)) (h2 : SqL K H b (ms.map V.int)) (q : Q (.bl (!decide (ns = ms))) H) : rEqL K true (.ref a) (.ref b) H Q := by
 refine ⟨a, b, _, _, rfl, rfl, h1, h2, flat_ints _, flat_ints _, ?_⟩
 rw [eqL_ints]
 cases hd : decide (ns = ms) <;> (rw [hd] at q; exact q)
end L2
end
section
namespace L2
open PySem PySem.Spec PyProof.Rows
section
variable {X : Cx} {tg : Expr}
def rIndex : V → List V → Hp → VK → Prop := fun x vs H Q => ∃ (l : Addr) (ns : List Int) (k : Int) (j : Nat), x = .ref l ∧ vs = [.int k] ∧ H l = some (.lst (ns.map V.int)) ∧ ns[j]? = some k ∧ (∀ i : Nat, i < j → ns[i]? ≠ some k) ∧ Q (.int (j : Nat)) H
theorem mt_index : MtM X "list.index" rIndex := by
 intro pins s σ H x vs v us Q I rx rv h
 obtain ⟨l, ns, k, j, rfl, rfl, hH, hj, hno, q⟩ := h
 cases rx
 obtain ⟨u, rfl, t, rfl⟩ := vals1 rv
 obtain ⟨z, its, n, r, hl, e⟩ := I.lstM hH
 have fl := flat_ints ns
 have hjl := (List.getElem?_eq_some_iff.mp hj).1
 have hln : ns.length = its.length := by rw [← hl, List.length_map]
 have at' : ∀ i (hi : i < its.length), eqU (.int k) its[i] = decide (ns[i]? = some k) := fun i hi => by
  have e1 : (ns.map V.int)[i]? = some (.int (ns[i]'(by omega))) := by rw [List.getElem?_map, List.getElem?_eq_getElem (by omega)]; rfl
  obtain ⟨u, eu, ru⟩ := r.get e1
  rw [List.getElem?_eq_getElem hi] at eu
  cases eu
  rw [eqU_of ru rfl, List.getElem?_eq_getElem (by omega)]
  show (ns[i] == k) = decide (some ns[i] = some k)
  by_cases h : ns[i] = k
  ·rw [decide_eq_true (congrArg some h)]
   simpa using h
  ·rw [decide_eq_false fun z => h (Option.some.inj z)]
   simpa using h
 have sl := line63
 refine call_meets F.slot_list_index ⟨_, e, rfl⟩ F.entry_list_index (F.args_list_index_2 _ _)
  (SeqAt.list_indexAt l its.toArray n none #[] (.int k t) (eqU (.int k)) j (by simp; omega) (by rw [List.length_map] at z; omega) ?_ ?_) ⟨e, fun y hy => mem_eqAt (x := .int k) (v := .int k t) ⟨t, rfl⟩ rfl r fl y (by simpa using hy), ?_⟩
 ·show eqU (.int k) its[j] = true
  rw [at' j (by omega), decide_eq_true hj]
 ·intro i hi hlt
  show eqU (.int k) its[i] = false
  rw [at' i (by simpa using hi), decide_eq_false (hno i hlt)]
 ·exact ⟨.int j, H, I.tok _, ⟨_, rfl⟩, q⟩
end
end L2
end
section
namespace L2
open PySem PySem.Spec PyProof.Rows
section
variable {prog : Program} {w : World} {A : Around} {E : Value → Shared → Prop} {s : Shared}
theorem getItem_tuple_whole {t sl : Addr} {items : Array Value} {vl vu : Value} {lo hi : Option Int} {Q : Value → Shared → Prop} (ht : IsTup s.heap t items) (hs : s.heap.IsSliceOf sl vl vu .none) (pl : IsPart vl lo) (pu : IsPart vu hi)
  (h1 : HT.sIx items.size 0 lo = 0) (h2 : HT.sIx items.size items.size hi = items.size) (h : Q (.ref t) s) : wpAny (model prog w) A (getItem (.ref t) (.ref sl)) Q E s := by
 obtain ⟨os, hos, hcs, hds⟩ := id hs
 have hTs : s.TypeIs (.ref sl) "slice" := ⟨os, hos, hcs⟩
 unfold getItem
 try with_reducible refine wpAny_holding ?_
 first | refine wpAny_bind (wpAny_pure ?_) | skip
 refine wpAny_bind (wpAny_sequenceKey ht.typeIs (by decide) ?_)
 refine wpAny_bind (wpAny_callSpecial?_slot (name := Str.ofString "__getitem__") ht.typeIs PyProof.Rows.slot_tuple_getitem
  (wpAny_call_entry PyProof.Rows.slot_tuple_getitem ht.typeIs entry_tuple_getitem ?_ (args_tuple_getitem _ _)))
 show wpAny _ _ (Builtin.Tuple.tupleItemsOf (.ref t) >>= _) _ _ s
 refine wpAny_bind (tupleItemsOf_ ht ?_)
 refine wpAny_bind (wpAny_typeOf hTs ?_)
 rw [if_pos (by decide)]
 refine wpAny_bind (HT.sliceApplied_gen hs pl pu ?_)
 show wpAny _ _ (if (((HT.sIx items.size 0 lo : Nat) : Int) == 0 && (1 : Int) == 1 && (HT.sIx items.size items.size hi - HT.sIx items.size 0 lo) == items.size) = true then _ else _) _ _ s
 rw [if_pos (by rw [h1, h2]; simp)]
 refine wpAny_bind (wpAny_bind (wpAny_typeOf ht.typeIs (wpAny_pure ?_)))
 rw [if_pos (by decide)]
 refine wpAny_bind (wpAny_rule ?_)
 exact wpAny_bind (wpAny_pure (wpAny_pure ⟨_, rfl, wpAny_pure h⟩))
end
section
variable {X : Cx}
def rSlA (K : PySem.W.Frag) : V → Option Int → Option Int → Hp → VK → Prop := fun x lo hi H Q => ∃ a xs, x = .ref a ∧ SqT K H a xs ∧ ∀ p H', Same H H' → SqT K H' p (cutV xs lo hi) → Q (.ref p) H'
theorem sl_tupA : SlR X (rSlA X.K) := by
 intro pins s σ H x v vl vu lo hi sl Q I rx hs pl pu h
 obtain ⟨a, xs, rfl, hx, q⟩ := h
 by_cases hw : HT.sIx xs.length 0 lo = 0 ∧ HT.sIx xs.length xs.length hi = xs.length
 ·cases rx
  obtain ⟨its, r, ht, hz⟩ := I.tuple hx
  have hlen : its.toArray.size = xs.length := by rw [List.size_toArray]; exact r.length.symm
  refine ⟨"tuple", _, PyProof.Rows.slot_tuple_getitem.lookup, ht.typeIs, ?_⟩
  refine getItem_tuple_whole ht hs pl pu (by rw [hlen]; exact hw.1) (by rw [hlen]; exact hw.2) ⟨.ref a, H, I, rfl, q a H (Same.refl _) ?_⟩
  have : cutV xs lo hi = xs := by
   unfold cutV
   rw [hw.1, hw.2]
   simp
  rw [this]
  exact hx
 ·exact sl_tup pins s σ H _ v vl vu lo hi sl Q I rx hs pl pu ⟨a, xs, rfl, hx, hw, fun p hp => q p _ (same_upd hp) (SqT.of upd_same)⟩
theorem pe_globI {x : Str} {i : Int} {pos : Pos} (hg : Gl X x) (hm : ∃ t, X.mg x = some (.int i t)) (hd : (x == ("__debug__" : Str)) = false := by decide) : PE X (.Name x pos) (tC (.int i)) := by
 obtain ⟨t, h⟩ := hm
 exact pe_glob hg h ⟨t, rfl⟩ hd
end
section
variable {σ : St} {H : Hp} {D : Ends} {Q : VK} {te : TE} {QB : Bool → Hp → Prop} {tA : TA}
theorem r_slS {z : Str} {lo hi : Option Int} (h1 : z.length ≤ sizeLine) (h : Q (.str (cutS z lo hi)) H) : rSlS (.str z) lo hi H Q := ⟨z, rfl, h1, h⟩
end
theorem iteNT {A B : Prop} (h : B) : if (!true) = true then A else B := by
 rw [if_neg (by decide)]
 exact h
theorem iteNF {A B : Prop} (h : A) : if (!false) = true then A else B := by
 rw [if_pos (by decide)]
 exact h
def SameBut (x : Addr) (H H' : Hp) : Prop := ∀ b o, b ≠ x → H b = some o → H' b = some o
theorem Same.but {H H' : Hp} {x : Addr} (h : Same H H') : SameBut x H H' := fun b o _ e => h b o e
theorem SameBut.trans {H H1 H2 : Hp} {x : Addr} (a : SameBut x H H1) (b : SameBut x H1 H2) : SameBut x H H2 := fun c o n h => b c o n (a c o n h)
def NotSq (H : Hp) (x : Addr) : Prop := ∀ u, ¬ Rd H x (.tup u) ∧ ¬ Rd H x (.lst u)
theorem notSq_ins {H : Hp} {x C dx : Addr} {fs : List (Str × V)} (h : H x = some (.ins C dx fs)) : NotSq H x := fun u => by
 constructor <;> (rintro (e | ⟨o, e⟩) <;> (rw [h] at e; cases e))
theorem sameBut_upd {H : Hp} {x : Addr} {o : HO} : SameBut x H (upd H x o) := fun b u n e => by rw [upd_ne n]; exact e
end L2
end
section
namespace L2
open PySem PySem.Spec PyProof.Rows
theorem lc_new {J : It} {H1 : Hp} {fr : St} {tc : TT} {te : TE} {Q : VK} (n : Nat) (item : Nat → V) (Pv : Nat → List V → Hp → Prop) (h0 : ∀ H, Same H1 H → Pv 0 [] H)
  (stab : ∀ i ys H D xs o, H D = some (.lst xs) → Pv i ys H → Pv i ys (upd H D o)) (hz : ∀ i ys H, i < n → Pv i ys H → ys.length < sizeLine)
  (hgo : ∀ i H, i < n → Same H1 H → J.go i H) (hy : ∀ i H x H', i < n → Same H1 H → J.yld i H x H' → x = item i ∧ H' = H) (hst : ∀ H, Same H1 H → J.stop n H)
  (turn : ∀ i ys H (A : VK) (R : Hp → Prop), i < n → Same H1 H → Pv i ys H → (∀ y H', Same H H' → Pv (i + 1) (ys ++ [y]) H' → A y H') → tc (some (item i) :: fr) H fun b H3 => if b = true then te (some (item i) :: fr) H3 A else R H3)
  (fin : ∀ D ys H, H1 D = none → Same H1 H → Pv n ys H → H D = some (.lst ys) → Q (.ref D) H) : rdLc J H1 fr tc te Q := by
 intro D hD
 refine ⟨fun i m H => i ≤ n ∧ m = n - i ∧ Same H1 H ∧ ∃ ys, H D = some (.lst ys) ∧ Pv i ys H, ⟨n, Nat.zero_le _, rfl, same_upd hD, [], upd_same, h0 _ (same_upd hD)⟩, ?_⟩
 rintro i m H ⟨hi, rfl, sm, ys, hl, hp⟩
 by_cases h : i = n
 ·subst h
  exact .inl ⟨hst H sm, fin D ys H hD sm hp hl⟩
 ·have hlt : i < n := Nat.lt_of_le_of_ne hi h
  refine .inr ⟨hgo i H hlt sm, fun x H' hyl => ?_⟩
  obtain ⟨rfl, rfl⟩ := hy i H x H' hlt sm hyl
  refine turn i ys H' _ _ hlt sm hp (fun y H4 s4 hp4 => ?_)
  refine ⟨ys, s4 _ _ hl, hz i ys _ hlt hp, n - (i + 1), by omega, by omega, rfl, fun b u e => ?_, ys ++ [y], upd_same, stab _ _ _ _ _ _ (s4 _ _ hl) hp4⟩
  rw [upd_ne (ne_of_none e hD)]
  exact s4 _ _ (sm _ _ e)
theorem lc_stepsN {lo st : Int} {n : Nat} {H1 : Hp} {fr : St} {tc : TT} {te : TE} {Q : VK} (Pv : Nat → List V → Hp → Prop) (h0 : ∀ H, Same H1 H → Pv 0 [] H)
  (stab : ∀ i ys H D xs o, H D = some (.lst xs) → Pv i ys H → Pv i ys (upd H D o)) (hz : ∀ i ys H, i < n → Pv i ys H → ys.length < sizeLine)
  (turn : ∀ (i : Nat) ys H (A : VK) (R : Hp → Prop), i < n → Same H1 H → Pv i ys H → (∀ y H', Same H H' → Pv (i + 1) (ys ++ [y]) H' → A y H') → tc (some (.int (lo + i * st)) :: fr) H fun b H3 => if b = true then te (some (.int (lo + i * st)) :: fr) H3 A else R H3)
  (fin : ∀ D ys H, H1 D = none → Same H1 H → Pv n ys H → H D = some (.lst ys) → Q (.ref D) H) : rdLc (Itr3 lo st n) H1 fr tc te Q :=
 lc_new n (fun i => .int (lo + i * st)) Pv h0 stab hz (fun i H hi _ => hi) (fun i H x H' _ _ h => ⟨h.2, h.1⟩) (fun H _ => Nat.le_refl n) turn fin
theorem pe_lcIn {X : Cx} {sc : Scope} {N : List Str} {C : Addr} {s0 : Shared} {H0 : Hp} {fp : List Addr} {scope : Scope} {x : Str} {N2 : List Str} {ix : List Nat} {px pos : Pos} {elt iter : Expr} {ifs : List Expr} {tc : TT} {te : TE} {wi : TI}
  (hc : X.calm = true) (L : ∀ sc₀, LcScope N sc₀ scope x N2 ix) (hi : PI (cxLc X sc N C s0 H0 fp) (.Name x px) iter wi)
  (hif : ∀ C' s' H' fp', PIf (cxLc (cxLc X sc N C s0 H0 fp) scope N2 C' s' H' fp') ifs tc) (he : ∀ C' s' H' fp', PE (cxLc (cxLc X sc N C s0 H0 fp) scope N2 C' s' H' fp') elt te)
  (hs : ∀ z, foldedSetIterable iter (cxLc X sc N C s0 H0 fp).env z = pure z := by intro _; rfl) : PE (cxLc X sc N C s0 H0 fp) (.ListComp elt [⟨.Name x px, iter, ifs, 0⟩] scope pos) (tLc wi ix tc te) :=
 pe_lc (X := cxLc X sc N C s0 H0 fp) hc (L _) hi hif he hs
theorem pi_tupK (K : PySem.W.Frag) {X : Cx} {tg l : Expr} {tl : TE} (hl : PE X l tl) (h : X.K = K := by rfl) : PI X tg l (iTup K tl) := by
 subst h
 exact pi_tup hl
theorem call_sumK (K : PySem.W.Frag) {X : Cx} (hc : X.calm = true) (h : X.K = K := by rfl) : CallR X (.builtin "sum") (rSum K) := by
 subst h
 exact call_sum hc
theorem sl_tupAK (K : PySem.W.Frag) {X : Cx} (h : X.K = K := by rfl) : SlR X (rSlA K) := by
 subst h
 exact sl_tupA
end L2
end
section
namespace L2
open PySem PySem.Spec PyProof.Rows
theorem b_abs : bootBuiltins "abs" = some (.builtin "abs") := by decide +kernel
def IsLeast (ns : List Int) (m : Int) : Prop := m ∈ ns ∧ ∀ a ∈ ns, m ≤ a
def IsMost (ns : List Int) (m : Int) : Prop := m ∈ ns ∧ ∀ a ∈ ns, a ≤ m
section
variable {X : Cx}
def rMin1 (K : PySem.W.Frag) : List V → Hp → VK → Prop := fun xs H Q => ∃ (p : Addr) (ns : List Int), xs = [.ref p] ∧ SqL K H p (ns.map V.int) ∧ ns ≠ [] ∧ ∀ m, IsLeast ns m → Q (.int m) H
def rMax1 (K : PySem.W.Frag) : List V → Hp → VK → Prop := fun xs H Q => ∃ (p : Addr) (ns : List Int), xs = [.ref p] ∧ SqL K H p (ns.map V.int) ∧ ns ≠ [] ∧ ∀ m, IsMost ns m → Q (.int m) H
theorem ints_of {pins : List (Addr × Obj)} {s : Shared} {σ : St} {H : Hp} {p : Addr} {ns : List Int} (I : Inv X pins σ H s) (hp : SqL X.K H p (ns.map V.int)) : ∃ ys : Array (Int × Tok), s.heap.IsList p (intItems ys) ∧ ns = ys.toList.map (·.1) := by
 obtain ⟨its, r, pl, _⟩ := I.list hp
 have hi := intsAre_of r
 obtain ⟨ys, e⟩ := hi.allInts.items
 have hl := pl.isList
 rw [e] at hl
 exact ⟨ys, hl, by rw [← hi.numsOf, ← nums_intItems, ← e]⟩
theorem least_of {ys : Array (Int × Tok)} {v : Value} (hz : 0 < ys.size) (hv : (intItems ys)[argBest (fun i j => decide (numAt ys i < numAt ys j)) (ys.size - 1)]? = some v) : ∃ m t, v = .int m t ∧ IsLeast (ys.toList.map (·.1)) m := by
 obtain ⟨t, rfl⟩ := intItems_at hv
 obtain ⟨h1, h2⟩ := argBest_lt (numAt ys) (ys.size - 1)
 refine ⟨_, t, rfl, ?_, fun a ha => ?_⟩
 ·rw [numAt_eq]
  exact getD_mem (by rw [List.length_map, Array.length_toList]; omega)
 ·obtain ⟨j, hj, rfl⟩ := mem_getD ha
  rw [List.length_map, Array.length_toList] at hj
  rw [← numAt_eq]
  exact h2 j (by omega)
theorem most_of {ys : Array (Int × Tok)} {v : Value} (hz : 0 < ys.size) (hv : (intItems ys)[argBest (fun i j => decide (numAt ys i > numAt ys j)) (ys.size - 1)]? = some v) : ∃ m t, v = .int m t ∧ IsMost (ys.toList.map (·.1)) m := by
 obtain ⟨t, rfl⟩ := intItems_at hv
 obtain ⟨h1, h2⟩ := argBest_gt (numAt ys) (ys.size - 1)
 refine ⟨_, t, rfl, ?_, fun a ha => ?_⟩
 ·rw [numAt_eq]
  exact getD_mem (by rw [List.length_map, Array.length_toList]; omega)
 ·obtain ⟨j, hj, rfl⟩ := mem_getD ha
  rw [List.length_map, Array.length_toList] at hj
  rw [← numAt_eq]
  exact h2 j (by omega)
theorem size_of_ne {ns : List Int} {ys : Array (Int × Tok)} (e : ns = ys.toList.map (·.1)) (h : ns ≠ []) : 0 < ys.size := by
 rcases Nat.eq_zero_or_pos ys.size with z | z
 ·exfalso
  apply h
  rw [e, List.eq_nil_of_length_eq_zero (l := ys.toList) (by rw [Array.length_toList]; exact z)]
  rfl
 ·exact z
theorem call_min1 (hc : X.calm = true) : CallR X (.builtin "min") (rMin1 X.K) := by
 intro pins s σ H xs us Q I r h
 obtain ⟨p, ns, rfl, hp, hne, q⟩ := h
 obtain ⟨u, rfl, ru⟩ := vals1 r
 cases ru
 obtain ⟨ys, hl, e⟩ := ints_of I hp
 have hz := size_of_ne e hne
 refine min_intList (I.ok.hd hc) hl hz fun v h' tk hv hk => ?_
 obtain ⟨m, t, rfl, hm⟩ := least_of hz hv
 exact ⟨.int m, H, I.kept hk, ⟨t, rfl⟩, q m (e ▸ hm)⟩
theorem call_max1 (hc : X.calm = true) : CallR X (.builtin "max") (rMax1 X.K) := by
 intro pins s σ H xs us Q I r h
 obtain ⟨p, ns, rfl, hp, hne, q⟩ := h
 obtain ⟨u, rfl, ru⟩ := vals1 r
 cases ru
 obtain ⟨ys, hl, e⟩ := ints_of I hp
 have hz := size_of_ne e hne
 refine max_intList (I.ok.hd hc) hl hz fun v h' tk hv hk => ?_
 obtain ⟨m, t, rfl, hm⟩ := most_of hz hv
 exact ⟨.int m, H, I.kept hk, ⟨t, rfl⟩, q m (e ▸ hm)⟩
end
end L2
namespace L2
open PySem PySem.Spec PyProof.Rows
theorem for_str {z : Str} {g : TG} {tb : TS} {D : Ends} {σ : St} {H : Hp} (Pv : Nat → St → Hp → Prop) (h0 : Pv 0 σ H)
  (hs : ∀ (i c : Nat) σ H, z.cps[i]? = some c → Pv i σ H → g (.str (sgn c)) σ H fun σ2 H2 => tb { D with nx := Pv (i + 1), ct := Pv (i + 1), bk := D.nx } σ2 H2) (hd : ∀ σ H, Pv z.cps.size σ H → D.nx σ H) : forB (Its z) g tb D σ H := by
 refine ⟨fun i m σ H => i ≤ z.cps.size ∧ m = z.cps.size - i ∧ Pv i σ H, ⟨_, Nat.zero_le _, rfl, h0⟩, ?_⟩
 rintro i m σ H ⟨hi, rfl, hP⟩
 by_cases h : i = z.cps.size
 ·subst h
  exact .inl ⟨Nat.le_refl _, hd σ H hP⟩
 ·have hlt : i < z.cps.size := Nat.lt_of_le_of_ne hi h
  refine .inr ⟨hlt, Pv (i + 1), fun σ' H' hN => ⟨z.cps.size - (i + 1), by omega, hlt, rfl, hN⟩, fun x H' hy => ?_⟩
  obtain ⟨rfl, c, hc, rfl⟩ := hy
  exact hs i c σ _ hc hP
end L2
end
section
namespace L2
open PySem PySem.Spec PyProof.Rows
def Kd {α : Type} : Sem α → Prop
 | .pure _ => True
 | .raise _ => True
 | .unsupported _ => True
 | .finish _ => True
 | .rule _ k => Kd (k ())
 | .at _ k => Kd (k ())
 | .load _ _ k => ∀ o, Kd (k o)
 | .update _ _ f k => (∀ o, (f o).dict = o.dict ∧ (f o).isFreed = o.isFreed) ∧ Kd (k ())
 | .alloc _ k => ∀ a, Kd (k a)
 | .loadIfAlive _ k => ∀ o, Kd (k o)
 | .point _ k => Kd (k ())
 | .fresh k => ∀ t, Kd (k t)
 | .ask k => ∀ x, Kd (k x)
 | .stack k => ∀ x, Kd (k x)
 | .handled _ k => ∀ x, Kd (k x)
 | .thread k => ∀ x, Kd (k x)
 | _ => False
theorem Kd.bind {α β : Type} {m : Sem α} {f : α → Sem β} (h : Kd m) (hf : ∀ a, Kd (f a)) : Kd (m >>= f) := by
 show Kd (m.bind f)
 induction m <;> first | exact hf _ | exact h.elim | exact trivial | skip
 all_goals (rename_i ih; first | exact ih _ h | exact fun o => ih o (h o) | exact ⟨h.1, ih _ h.2⟩)
def DictK (h h' : Heap) : Prop := ∀ b o, h.get? b = some o → ∃ o', h'.get? b = some o' ∧ o'.dict = o.dict
theorem DictK.refl (h : Heap) : DictK h h := fun _ o e => ⟨o, e, rfl⟩
theorem DictK.trans {h1 h2 h3 : Heap} (a : DictK h1 h2) (b : DictK h2 h3) : DictK h1 h3 := fun x o e => by
 obtain ⟨o1, e1, d1⟩ := a x o e
 obtain ⟨o2, e2, d2⟩ := b x o1 e1
 exact ⟨o2, e2, d2.trans d1⟩
theorem dictK_push (h : Heap) (o : Obj) : DictK h (h.push o) := fun _ u e => ⟨u, Heap.get?_push_of_some _ e, rfl⟩
theorem dictK_upd {h : Heap} {a : Addr} {f : Obj → Obj} (hf : ∀ o, (f o).dict = o.dict ∧ (f o).isFreed = o.isFreed) : DictK h (h.update a f) := fun b o e => by
 by_cases hb : b = a
 ·subst hb
  have fr := (Heap.get?_some_iff.mp e).2
  exact ⟨f o, Heap.get?_update_self f e (by rw [(hf o).2]; exact fr), (hf o).1⟩
 ·exact ⟨o, (Heap.get?_update_other _ _ (Ne.symm hb)).trans e, rfl⟩
theorem kd_wp {α : Type} {M : Model} {Γ : PySem.Ctx} {m : Sem α} : ∀ {Q : α → Pos → Shared → Prop} {E : Value → Pos → Shared → Prop} {p : Pos} {s : Shared}, Kd m → Sem.wp M Γ m Q E p s → Sem.wp M Γ m (fun a p' s' => Q a p' s' ∧ DictK s.heap s'.heap) E p s := by
 induction m with
 | pure x => exact fun _ h => ⟨h, DictK.refl _⟩
 | raise v => exact fun _ h => h
 | unsupported => exact fun _ h => h
 | finish => exact fun _ h => h
 | rule _ k ih => exact fun q h => ih _ q h
 | «at» _ k ih => exact fun q h => ih _ q h
 | load a _ k ih =>
  intro Q E p s q h
  obtain ⟨o, ho, h⟩ := h
  exact ⟨o, ho, ih o (q o) h⟩
 | update a _ f k ih =>
  intro Q E p s q h
  obtain ⟨ha, h⟩ := h
  exact ⟨ha, Sem.wp_mono _ _ _ (fun _ _ _ z => ⟨z.1, (dictK_upd q.1).trans z.2⟩) (fun _ _ _ z => z) _ _ (ih _ q.2 h)⟩
 | alloc o k ih =>
  intro Q E p s q h
  exact Sem.wp_mono _ _ _ (fun _ _ _ z => ⟨z.1, (dictK_push _ o).trans z.2⟩) (fun _ _ _ z => z) _ _ (ih _ (q _) h)
 | loadIfAlive _ k ih => exact fun q h => ih _ (q _) h
 | point _ k ih => exact fun q h => ih _ q h
 | fresh k ih => exact fun q h => ih _ (q _) h
 | ask k ih => exact fun q h => ih _ (q _) h
 | stack k ih => exact fun q h => ih _ (q _) h
 | handled _ k ih => exact fun q h => ih _ (q _) h
 | thread k ih => exact fun q h => ih _ (q _) h
 | _ => exact fun q => q.elim
theorem kd_any {α : Type} {M : Model} {A : Around} {m : Sem α} {Q : α → Shared → Prop} {E : Value → Shared → Prop} {s : Shared} (q : Kd m) (h : wpAny M A m Q E s) : wpAny M A m (fun a s' => Q a s' ∧ DictK s.heap s'.heap) E s := fun Γ p hΓ => kd_wp q (h Γ p hΓ)
theorem kd_load (a : Addr) : Kd (load a) := fun _ => trivial
theorem kd_fieldsOf (v : Value) : Kd (fieldsOf v) := by
 unfold fieldsOf
 split
 ·exact Kd.bind (kd_load _) fun o => by split <;> exact trivial
 ·exact trivial
theorem kd_field (v : Value) (i : Nat) : Kd (field v i) := Kd.bind (kd_fieldsOf v) fun a => by split <;> exact trivial
theorem kd_mapF (f : Array Value → Array Value) (o : Obj) : (Obj.mapFields f o).dict = o.dict ∧ (Obj.mapFields f o).isFreed = o.isFreed := by
 obtain ⟨c, d, dt, sl⟩ := o
 cases dt <;> exact ⟨rfl, rfl⟩
theorem kd_setField (v : Value) (i : Nat) (x : Value) : Kd (setField v i x) := by
 unfold setField
 split
 ·unfold updateField
  refine Kd.bind (kd_load _) fun o => ?_
  split
  ·split
   ·exact ⟨kd_mapF _, trivial⟩
   ·exact trivial
  ·exact trivial
 ·exact trivial
theorem kd_setFlight (e : Value) (f : Option Addr) : Kd (setFlight e f) := by
 unfold setFlight
 refine Kd.bind (kd_field _ _) fun tb => ?_
 split
 ·exact kd_setField _ _ _
 ·exact trivial
theorem kd_ready : ∀ l : List Env, Kd (readyFrames l)
 | [] => trivial
 | env :: outer => by
  unfold readyFrames
  split
  ·rename_i f hf
   refine Kd.bind (kd_load _) fun o => ?_
   split
   ·exact trivial
   ·refine Kd.bind ?_ fun i => Kd.bind ?_ fun b => ⟨fun o => ?_, kd_ready outer⟩
    ·unfold behindIsImport
     split
     ·exact trivial
     ·split
      ·exact trivial
      ·exact Kd.bind (kd_field _ _) fun _ => trivial
    ·unfold keptBack
     split
     ·split
      ·exact trivial
      ·refine Kd.bind ?_ fun _ => trivial
       unfold underTheClaimsCaller
       exact fun _ => trivial
     ·exact trivial
    ·obtain ⟨c, d, dt, sl⟩ := o
     cases dt <;> exact ⟨rfl, rfl⟩
  ·exact trivial
theorem kd_frameOf (env : Env) : Kd (PySem.frameOf env) := by
 unfold PySem.frameOf
 refine Kd.bind (fun _ => trivial) fun l => Kd.bind ?_ fun o => ?_
 ·unfold frameObject
  split
  ·exact trivial
  ·exact Kd.bind (kd_ready _) fun _ => trivial
 ·split <;> exact trivial
theorem kd_place (f : Addr) (b : Bool) : Kd (entryPlaceOf f b) := by
 unfold entryPlaceOf
 refine Kd.bind (fun _ => trivial) fun l => ?_
 split <;> exact trivial
theorem kd_entry (a b c d e : Value) (l : List Value) : Kd (EntryCells.newEntry a b c d e l) := by
 unfold EntryCells.newEntry newFields
 generalize ([a, b, c, d, e] ++ if l.isEmpty = true then List.replicate 6 Value.none else l).toArray = vs
 unfold newObj
 dsimp only
 have as_is : Kd (newObjAsIs (.type "traceback") (.fields vs) none) := Kd.bind (m := alloc _) (fun _ => trivial) fun _ => trivial
 split
 ·exact Kd.bind (m := unsupported _) trivial fun _ => as_is
 ·exact as_is
theorem kd_note (e : Value) (env : Env) : Kd (noteFrame e env) := by
 unfold noteFrame
 have jp : ∀ (f : Addr) (head : Value), Kd (do
   let a ← PySem.frameOf env
   let b ← entryPlaceOf f (head != Value.none)
   let c ← EntryCells.newEntry head a Value.none (rawInt ↑f) Value.none b
   setField e 1 c) := fun f head => Kd.bind (kd_frameOf _) fun _ => Kd.bind (kd_place _ _) fun _ => Kd.bind (kd_entry _ _ _ _ _ _) fun _ => kd_setField _ _ _
 split
 ·refine Kd.bind (kd_field _ _) fun head => ?_
  dsimp only
  split
  ·refine Kd.bind (kd_field _ _) fun v => ?_
   split
   ·exact trivial
   ·exact Kd.bind (kd_setField _ _ _) fun _ => jp _ _
  ·exact jp _ _
 ·exact trivial
theorem kd_leaving (e : Value) (env : Env) : Kd (leaving env e) := Kd.bind (kd_note _ _) fun _ => kd_setFlight _ _
end L2
end
section
namespace L2
open PySem PySem.Spec PyProof.Rows
def FlyD (B : Heap) (l : List Env) (e : Addr) (cls a0 : Value) (od : Option Addr) (h : Heap) : Prop := Heap.FlyingW B l e cls a0 h ∧ ∃ o, h.get? e = some o ∧ o.dict = od
theorem FlyD.first {B h : Heap} {l : List Env} {e : Addr} {cls a0 : Value} {od : Option Addr} (x : FlyD B l e cls a0 od h) : ∃ oe vs, h.get? e = some oe ∧ oe.cls = cls ∧ oe.data = .fields vs ∧ oe.dict = od := by
 obtain ⟨f, o, ho, hd⟩ := x
 obtain ⟨oe, vs, he, hc, hv, _⟩ := f.first
 rw [ho] at he
 cases he
 exact ⟨o, vs, ho, hc, hv, hd⟩
section
variable {M : Model} {A : Around} {E : Value → Shared → Prop} {s : Shared} {B : Heap} {env : Env} {outer l : List Env} {L e : Addr} {cls a0 : Value} {od : Option Addr} {Q : Unit → Shared → Prop}
theorem dict_on {h h' : Heap} (k : DictK h h') (x : ∃ o, h.get? e = some o ∧ o.dict = od) : ∃ o, h'.get? e = some o ∧ o.dict = od := by
 obtain ⟨o, ho, hd⟩ := x
 obtain ⟨o2, ho2, hd2⟩ := k e o ho
 exact ⟨o2, ho2, hd2.trans hd⟩
theorem leaves_onD (hfr : A.frames = some (env :: outer)) (hf : env.frame = some L) (fl : FlyD B (env :: outer) e cls a0 od s.heap) (q : ∀ h', FlyD B outer e cls a0 od h' → s.heap.UpToSlots h' → Q () { s with heap := h' }) : wpAny M A (leaving env (.ref e)) Q E s := by
 refine wpAny_mono (kd_any (kd_leaving _ _) (wpAny_leaves_onW (Q := fun _ s' => ∃ h', s' = { s with heap := h' } ∧ Heap.FlyingW B outer e cls a0 h' ∧ s.heap.UpToSlots h') hfr hf fl.1 fun h' f u => ⟨h', rfl, f, u⟩)) (fun _ s' z => ?_) fun _ _ z => z
 obtain ⟨⟨h', rfl, f, u⟩, k⟩ := z
 exact q h' ⟨f, dict_on k fl.2⟩ u
theorem leaves_madeD {h : Heap} {args : List Value} (hfr : A.frames = some (env :: outer)) (hf : env.frame = some L) (hkb : B.StaysIn h) (hl : h.FunFrames B (env :: outer)) (hx : Heap.MadeExcOf h s.heap e cls args)
  (q : ∀ h' t, FlyD B outer e cls (.ref t) none h' → s.heap.UpToSlots h' → Q () { s with heap := h' }) : wpAny M A (leaving env (.ref e)) Q E s := by
 refine wpAny_mono (kd_any (kd_leaving _ _) (wpAny_leaves_madeW (Q := fun _ s' => ∃ h' t, s' = { s with heap := h' } ∧ Heap.FlyingW B outer e cls (.ref t) h' ∧ s.heap.UpToSlots h') hfr hf hkb hl hx fun h' t f _ _ u => ⟨h', t, rfl, f, u⟩)) (fun _ s' z => ?_) fun _ _ z => z
 obtain ⟨⟨h', t, rfl, f, u⟩, k⟩ := z
 obtain ⟨_, he, _⟩ := hx.there
 exact q h' t ⟨f, dict_on k ⟨_, he, rfl⟩⟩ u
end
end L2
namespace L2
open PySem PySem.Spec PyProof.Rows
structure Flies (outer : List Env) (H' : Hp) (h h' : Heap) (e C : Addr) (od : Option Addr) : Prop where
 new : h.get? e = none
 unt : H' e = none
 fly : ∃ a0 B, FlyD B outer e (.ref C) a0 od h' ∧ ∀ b o, h'.get? b = some o → B.get? b = none → b = e ∨ b ∈ frs outer ∨ (h.get? b = none ∧ H' b = none)
theorem ObjOk.there {P : Program} {w : World} {H : Hp} {h : Heap} {a : Addr} {o : HO} (x : ObjOk P w H h a o) : ∃ ob, h.get? a = some ob := by
 cases o with
 | lst xs => obtain ⟨_, _, _, _, e⟩ := x; exact ⟨_, e⟩
 | tup xs => obtain ⟨_, _, _, o, e, _⟩ := x; exact ⟨_, e⟩
 | dK kvs => obtain ⟨_, _, _, _, o, _, _, e, _⟩ := x; exact ⟨_, e⟩
 | dT kvs => obtain ⟨_, _, _, _, o, _, _, e, _⟩ := x; exact ⟨_, e⟩
 | set S n => obtain ⟨o, _, _, _, e, _⟩ := x; exact ⟨_, e⟩
 | ins C dx fs => obtain ⟨_, _, _, e, _⟩ := x; exact ⟨_, e⟩
 | own y => exact x
 | xd fs => obtain ⟨_, ⟨_, _, _, e, _⟩, _⟩ := x; exact ⟨_, e⟩
 | rng lo hi => obtain ⟨_, _, _, e⟩ := x; exact ⟨_, e⟩
 | frz ob u => obtain ⟨e, _⟩ := x; exact ⟨_, e⟩
 | tbl ps => exact ⟨_, (show h.get? a = some _ from x)⟩
 | met f y => exact ⟨_, (show h.get? a = some _ from x)⟩
 | ext φ => obtain ⟨_, e, _⟩ := x; exact e
def CXE (P : Program) (w : World) : CXT := fun outer H s E ex s' => ∃ e C od H', ex = .ref e ∧ s'.os = s.os ∧ AllBare s'.gens ∧ Un (frs outer) [] H H' s.heap s'.heap ∧ HOk P w H' s'.heap ∧ (∀ b ∈ frs outer, H' b = none) ∧ Flies outer H' s.heap s'.heap e C od ∧ E (.ref C) od H'
theorem hok_fly {P : Program} {w : World} {H : Hp} {h h' : Heap} {B : Heap} {outer : List Env} {e : Addr} {n : Heap} (ok : HOk P w H h) (st : B.StaysIn h') (he : H e = none) (hf : ∀ b ∈ frs outer, H b = none)
  (hB : ∀ b o, h.get? b = some o → B.get? b = none → b = e ∨ b ∈ frs outer ∨ (n.get? b = none ∧ H b = none)) (hBh : ∀ b o, B.get? b = some o → h.get? b = some o) : HOk P w H h' := fun a u ea => by
 have tr : ∀ b v, H b = some v → ∀ o, h.get? b = some o → h'.get? b = some o := fun b v ev o eo => by
  cases q : B.get? b with
  | some o' =>
   have := hBh b o' q
   rw [eo] at this
   cases this
   exact st b o q
  | none =>
   rcases hB b o eo q with z | z | z
   ·rw [z, he] at ev; cases ev
   ·rw [hf b z] at ev; cases ev
   ·rw [z.2] at ev; cases ev
 refine (ok a u ea).stay (fun b o hb q => ?_) (fun _ q => q) fun _ _ q => q
 rcases hb with z | z
 ·subst z; exact tr b u ea o q
 ·exact tr b _ z o q
section
variable {P : Program} {w : World} {K : PySem.W.Frag} {mg : Str → Option Value} {base : Heap} {N : List Str} {qual : Str} {scope : Scope} {f : Addr} {cd : Value} {A : Around} {outer : List Env} {s₀ : Shared} {H₀ : Hp} {E : XK}
theorem fly_out {pins : List (Addr × Obj)} {σ : St} {H H' : Hp} {s : Shared} {e C : Addr} {od : Option Addr} {a0 : Value} {B h1 h2 : Heap} {g : Array GenState} {d : Drawn} {t : Nat} {CX : CXT} (I : Inv (cxOf CX P w K mg base N qual scope f cd A outer s₀ H₀ E) pins σ H s)
  (un : Un (frs (cxOf CX P w K mg base N qual scope f cd A outer s₀ H₀ E).stack) [] H H' s.heap h1) (hok : HOk P w H' h1) (hfr : ∀ b ∈ frs (cxOf CX P w K mg base N qual scope f cd A outer s₀ H₀ E).stack, H' b = none) (hg : AllBare g)
  (hn : s.heap.get? e = none) (hu : H' e = none) (hB : ∀ b o, h1.get? b = some o → B.get? b = none → b = e ∨ b ∈ frs (cxOf CX P w K mg base N qual scope f cd A outer s₀ H₀ E).stack ∨ (s.heap.get? b = none ∧ H' b = none)) (hBh : B.StaysIn h1)
  (fl : FlyD B outer e (.ref C) a0 od h2) (up : h1.UpToSlots h2) (q : E (.ref C) od H') : CXE P w outer H₀ s₀ E (.ref e) { s with heap := h2, gens := g, drawn := d, toks := t } := by
 have hBst : B.StaysIn h2 := fl.1.1
 have st : ∀ b, b ∈ frs (cxOf CX P w K mg base N qual scope f cd A outer s₀ H₀ E).stack → b = s₀.heap.objs.size ∨ b ∈ frs outer := fun b hb => by
  rcases List.mem_cons.mp (I.stkSub b hb) with z | z
  ·exact .inl z
  ·exact .inr z
 have so : ∀ b, b ∈ frs outer → b ∈ frs (cxOf CX P w K mg base N qual scope f cd A outer s₀ H₀ E).stack := fun b hb => List.mem_cons_of_mem _ hb
 have neL : ∀ b o, s₀.heap.get? b = some o → b ≠ s₀.heap.objs.size := fun b o z => Nat.ne_of_lt (Heap.lt_size z)
 have inS : ∀ b o, s₀.heap.get? b = some o → ∃ o', s.heap.get? b = some o' := fun b o z => I.base.there b o z (by intro y; cases y)
 have in1 : ∀ b o, s.heap.get? b = some o → ∃ o', h1.get? b = some o' := fun b o z => un.there b o z (by simp)
 have fz : ∀ b ∈ frs (cxOf CX P w K mg base N qual scope f cd A outer s₀ H₀ E).stack, ∀ o, h1.get? b = some o → ∃ sl, h2.get? b = some { o with slots := sl } := fun b hb o z => by
  refine up b o z fun vs y => ?_
  obtain ⟨_, o', ho', hd⟩ := I.stack.mem hb
  obtain ⟨sl, z2⟩ := un.any ho' (I.stkFree b hb) (by simp)
  rw [z] at z2
  cases z2
  exact hd vs y
 have keep1 : ∀ b o, s.heap.get? b = some o → h1.get? b = some o → b ∉ frs (cxOf CX P w K mg base N qual scope f cd A outer s₀ H₀ E).stack → h2.get? b = some o := fun b o z z1 nf => by
  cases y : B.get? b with
  | some o' =>
   have := hBh b o' y
   rw [z1] at this
   cases this
   exact hBst b o y
  | none =>
   rcases hB b o z1 y with r | r | r
   ·rw [r, hn] at z; cases z
   ·exact absurd r nf
   ·rw [r.1] at z; cases z
 refine ⟨e, C, od, H', rfl, I.os, hg, ⟨fun b o z n nf _ => ?_, fun b o z n nf _ => ?_, fun b o z n _ => ?_, fun b o z _ => ?_, fun b xs z => un.tups b xs (I.base.tups b xs z), fun b o u z => un.frzs b o u (I.base.frzs b o u z), fun b ps z => ?_⟩, ?_, fun b hb => hfr b (so b hb), ⟨?_, hu, a0, B, fl, fun b o z y => ?_⟩, q⟩
 ·have z1 := I.base.keep b o z n nf (by intro y; cases y)
  have n1 := I.base.free b o z n (by intro y; cases y)
  have nf1 : b ∉ frs (cxOf CX P w K mg base N qual scope f cd A outer s₀ H₀ E).stack := fun y => (st b y).elim (neL b o z) nf
  exact keep1 b o z1 (un.keep b o z1 n1 nf1 (by simp)) nf1
 ·obtain ⟨sl, z1⟩ := I.base.slot b o z n nf (by intro y; cases y)
  have n1 := I.base.free b o z n (by intro y; cases y)
  obtain ⟨sl2, z2⟩ := un.any z1 n1 (by simp)
  obtain ⟨sl3, z3⟩ := fz b (so b nf) _ z2
  exact ⟨sl3, z3⟩
 ·obtain ⟨o', z1⟩ := inS b o z
  exact un.free b o' z1 (I.base.free b o z n (by intro y; cases y)) (by simp)
 ·obtain ⟨o1, z1⟩ := inS b o z
  obtain ⟨o2, z2⟩ := in1 b o1 z1
  cases y : B.get? b with
  | some o' => exact ⟨o', hBst b o' y⟩
  | none =>
   rcases hB b o2 z2 y with r | r | r
   ·rw [r, hn] at z1; cases z1
   ·obtain ⟨sl, z3⟩ := fz b r o2 z2
    exact ⟨_, z3⟩
   ·rw [r.1] at z1; cases z1
 ·obtain ⟨m1, e1⟩ := I.base.tbls b ps z
  obtain ⟨m2, e2⟩ := un.tbls b _ e1
  exact ⟨m1 ++ m2, by rw [e2, Array.append_assoc]⟩
 ·exact hok_fly (n := s.heap) (e := e) (outer := (cxOf CX P w K mg base N qual scope f cd A outer s₀ H₀ E).stack) hok hBst hu hfr hB hBh
 ·cases y : s₀.heap.get? e with
  | none => rfl
  | some o =>
   obtain ⟨o', z⟩ := inS e o y
   rw [hn] at z; cases z
 ·cases y1 : h1.get? b with
  | none =>
   refine .inr (.inr ⟨?_, ?_⟩)
   ·cases y2 : s₀.heap.get? b with
    | none => rfl
    | some o0 =>
     obtain ⟨o1, z1⟩ := inS b o0 y2
     obtain ⟨o2, z2⟩ := in1 b o1 z1
     rw [y1] at z2; cases z2
   ·cases y2 : H' b with
    | none => rfl
    | some v =>
     have := (hok b v y2).there
     obtain ⟨o2, z2⟩ := this
     rw [y1] at z2; cases z2
  | some o1 =>
   rcases hB b o1 y1 y with r | r | r
   ·exact .inl r
   ·rcases st b r with r2 | r2
    ·refine .inr (.inr ⟨?_, hfr b r⟩)
     cases y2 : s₀.heap.get? b with
     | none => rfl
     | some o0 => exact absurd r2 (neL b o0 y2)
    ·exact .inr (.inl r2)
   ·refine .inr (.inr ⟨?_, r.2⟩)
    cases y2 : s₀.heap.get? b with
    | none => rfl
    | some o0 =>
     obtain ⟨o1, z1⟩ := inS b o0 y2
     rw [r.1] at z1; cases z1
theorem pass_on {CX : CXT} (hCX : CX = CXE P w) : Passes (CXE P w) (cxOf CX P w K mg base N qual scope f cd A outer s₀ H₀ E) E := by
 subst hCX
 intro pins σ H s ex s' I h
 obtain ⟨e, C, od, H', rfl, ho, hg, un, hok, hfr, ⟨hn, hu, a0, B, fl, hB⟩, q⟩ := h
 show wpAny (model P w) (A.deeper (envOfC qual scope s₀.heap.objs.size f cd)) (leaving (envOfC qual scope s₀.heap.objs.size f cd) (.ref e)) _ _ s'
 refine leaves_onD (L := s₀.heap.objs.size) I.ok.frames rfl fl fun h2 fl2 up => ?_
 obtain ⟨hp, g, d, t, os⟩ := s'
 have ho : os = s.os := ho
 subst ho
 exact fly_out (s := s) (g := g) (d := d) (t := t) I un hok hfr hg hn hu hB fl.1.1 fl2 up q
theorem raise_here {CX : CXT} (hCX : CX = CXE P w) {pins : List (Addr × Obj)} {σ : St} {H : Hp} {s : Shared} {e C : Addr} {h1 : Heap} {vs : List Value} (I : Inv (cxOf CX P w K mg base N qual scope f cd A outer s₀ H₀ E) pins σ H s)
  (mx : Heap.MadeExcOf s.heap h1 e (.ref C) vs) (q : E (.ref C) none H) : (cxOf CX P w K mg base N qual scope f cd A outer s₀ H₀ E).xe (.ref e) { s with heap := h1 } := by
 subst hCX
 show wpAny (model P w) (A.deeper (envOfC qual scope s₀.heap.objs.size f cd)) (leaving (envOfC qual scope s₀.heap.objs.size f cd) (.ref e)) _ _ _
 have hin : ∀ env ∈ (cxOf (CXE P w) P w K mg base N qual scope f cd A outer s₀ H₀ E).stack, ∀ b, env.frame = some b → b ∈ frs (cxOf (CXE P w) P w K mg base N qual scope f cd A outer s₀ H₀ E).stack := fun env he b hb => List.mem_filterMap.mpr ⟨env, he, hb⟩
 refine leaves_madeD (L := s₀.heap.objs.size) (s := { s with heap := h1 }) (B := PySem.W.hideAll s.heap (frs (cxOf (CXE P w) P w K mg base N qual scope f cd A outer s₀ H₀ E).stack)) I.ok.frames rfl (fun b o z => PySem.W.of_hideAll _ z) (PySem.W.funFrames_hide I.stack hin) mx fun h2 tt fl2 up => ?_
 have hBh : (PySem.W.hideAll s.heap (frs (cxOf (CXE P w) P w K mg base N qual scope f cd A outer s₀ H₀ E).stack)).StaysIn h1 := fun b o z => mx.keeps b o (PySem.W.of_hideAll _ z)
 refine fly_out (s := s) (g := s.gens) (d := s.drawn) (t := s.toks) I (Un.kept mx.keeps) (I.hok.kept mx.keeps) I.stkFree I.bare mx.new ?_ (fun b o z y => ?_) hBh fl2 up q
 ·cases y : H e with
  | none => rfl
  | some v =>
   obtain ⟨o, z⟩ := (I.hok e v y).there
   rw [mx.new] at z; cases z
 ·by_cases hf : b ∈ frs (cxOf (CXE P w) P w K mg base N qual scope f cd A outer s₀ H₀ E).stack
  ·exact .inr (.inl hf)
  ·cases z2 : s.heap.get? b with
   | some o2 =>
    rw [PySem.W.hideAll_get _ z2 hf] at y
    cases y
   | none =>
    refine .inr (.inr ⟨rfl, ?_⟩)
    cases y2 : H b with
    | none => rfl
    | some v =>
     obtain ⟨o, z3⟩ := (I.hok b v y2).there
     rw [z2] at z3; cases z3
end
abbrev veMro : List Value := [.type "ValueError", .type "Exception", .type "BaseException", .type "object"]
structure Exc (K : PySem.W.Frag) (mg : Str → Option Value) (x : Str) (C : Addr) : Prop where
 at_ : mg x = some (.ref C)
 ex : PySem.W.excIn K C veMro "ValueError.__new__" = true
theorem exc_obj {K : PySem.W.Frag} {h : Heap} {C : Addr} {bB : List Value} {nid : String} (X : K.In h) (q : PySem.W.excIn K C bB nid = true) :
  ∃ bm N nm qn bs hdct sn sub ab col dd k0 k1 k2 k3 k5 mN, h.get? C = some (excClassObj nm qn C N bs bm hdct sn sub ab col dd k0 k1 k2 k3 k5 nid) ∧ h.Ns N mN ∧ mN "__init__" = none ∧ OwnTail h bB bm := by
 unfold PySem.W.excIn at q
 split at q
 case h_2 => exact Bool.noConfusion q
 case h_1 d1 c1 l1 look =>
  split at q
  case h_2 => exact Bool.noConfusion q
  case h_1 C2 m2 r0 r1 r2 r3 nn r5 eqm eqs =>
   simp only [Bool.and_eq_true, beq_iff_eq, Bool.not_eq_true'] at q
   obtain ⟨⟨⟨⟨⟨w1, w2⟩, w3⟩, w4⟩, w5⟩, w6⟩ := q
   subst w1 w2
   obtain ⟨x1, x2, x3, x4, x5, x6, x7, x8, x9, x10, x11⟩ := c1
   dsimp only at eqm w3 w5 w6
   subst eqm w3
   have l2 : l1 = #[r0, r1, r2, r3, some (.builtin nn), r5] := by
    have := congrArg List.toArray eqs
    simpa using this
   subst l2
   exact ⟨m2, x4, x1, x5, x2, x6, x7, x8, x9, x10, d1, r0, r1, r2, r3, r5, h.nsMap x4, X _ _ look, .of_isNs (PySem.W.isNs_of_in X w5), PySem.W.nsMap_none_of_in X w5 w6, PySem.W.tail_of_in X w4⟩
theorem tail_base {h : Heap} {l : List Value} (t : OwnTail h veMro l) : l.contains (.type "BaseException") = true := by
 induction t with
 | base => decide
 | own _ _ _ _ ih => rw [List.contains_cons, ih, Bool.or_true]
def tRaise (C : Addr) (E : XK) (t : TA) : TS := fun _ σ H => t σ H fun vs H1 => vs.length ≤ sizeLine ∧ E (.ref C) none H1
section
variable {P : Program} {w : World} {K : PySem.W.Frag} {mg : Str → Option Value} {base : Heap} {N : List Str} {qual : Str} {scope : Scope} {f : Addr} {cd : Value} {A : Around} {outer : List Env} {s₀ : Shared} {H₀ : Hp} {E : XK}
theorem ps_raise {x : Str} {C : Addr} {np cpos pos : Pos} {a : Expr} {as : List Expr} {t : TA} (X : Exc K mg x C) (hg : Gl (cxOf (CXE P w) P w K mg base N qual scope f cd A outer s₀ H₀ E) x) (ha : PA (cxOf (CXE P w) P w K mg base N qual scope f cd A outer s₀ H₀ E) (a :: as) t)
  (hdb : (x == ("__debug__" : Str)) = false := by decide)
  (he : starEach (a :: as) (cxOf (CXE P w) P w K mg base N qual scope f cd A outer s₀ H₀ E).env = (false, eval a (cxOf (CXE P w) P w K mg base N qual scope f cd A outer s₀ H₀ E).env) :: starEach as (cxOf (CXE P w) P w K mg base N qual scope f cd A outer s₀ H₀ E).env := by rfl)
  (hpl : (backTo cpos (starEach as (cxOf (CXE P w) P w K mg base N qual scope f cd A outer s₀ H₀ E).env)).any (·.1) = false := by rfl) :
  PS (cxOf (CXE P w) P w K mg base N qual scope f cd A outer s₀ H₀ E) (.Raise (some (.Call (.Name x np) (a :: as) [] cpos)) none pos) (tRaise C E t) := by
 intro pins s σ H D I h
 obtain ⟨bm, Nn, nm, qn, bs, hdct, sn, sub, ab, col, dd, k0, k1, k2, k3, k5, mN, hC, hN, hni, hT⟩ := exc_obj I.ok.mod.kin X.ex
 refine wpAny_Raise_call_subT (C := C) (N := Nn) (nm := nm) (q := qn) (bs := bs) (bm := bm) (hdct := hdct) (sn := sn) (sub := sub) (ab := ab) (col := col) (dd := dd) (k0 := k0) (k1 := k1) (k2 := k2) (k3 := k3) (k5 := k5) (mN := mN) F.excBase_ValueError (tail_base hT) (I.ok.hd rfl) ?_ hni ?_
 ·rw [he]
  show ((false || (backTo cpos (starEach as _)).any (·.1))) = false
  rw [hpl]
  rfl
 ·refine ld_glob I hg X.at_ ⟨rfl, ?_⟩ hdb
  have hs := ha cpos pins s σ H _ I h
  rw [he] at hs ⊢
  refine Calls.evalArgs_plain (thn hs fun us s1 ⟨vs, H1, I1, r, hl, q⟩ => ⟨rfl, ?_, I1.bk _ _ hC, hN.keeps I1.bk, hT.keeps I1.bk, fun h1 e mx => ?_⟩)
  ·have := r.length
   show us.length ≤ sizeLine
   omega
  ·exact raise_here rfl I1 mx q
end
end L2
namespace L2
open PySem PySem.Spec PyProof.Rows
theorem passE0 {P : Program} {w : World} {X : Cx} : Passes (CXE P w) X E0 := fun _ _ _ _ _ _ _ h => by
 obtain ⟨_, _, _, _, _, _, _, _, _, _, _, z⟩ := h
 exact z.elim
structure CalE (P : Program) (w : World) (K : PySem.W.Frag) (mg : Str → Option Value) (base : Heap) (name : Str) (k : Nat) (ps : List Str) (sp : Sp) : Prop where
 ex : ∃ (f : Addr) (fd : FuncData), FnOk P w K mg base (CXE P w) k f fd ps sp ∧ Binds K fd ps [] ∧ mg name = some (.ref f) ∧ PySem.W.keepIn K (.ref f) = true
structure MthE (P : Program) (w : World) (K : PySem.W.Frag) (mg : Str → Option Value) (base : Heap) (C : Addr) (m : Str) (k : Nat) (ps : List Str) (sp : Sp) : Prop where
 ex : ∃ (f : Addr) (fd : FuncData), FnOk P w K mg base (CXE P w) k f fd ps sp ∧ Binds K fd ps [] ∧ Meth K C m f
 cl : Cls K C
structure MkrE (P : Program) (w : World) (K : PySem.W.Frag) (mg : Str → Option Value) (base : Heap) (name : Str) (C : Addr) (k : Nat) (ps : List Str) (sp : Sp) : Prop where
 ex : ∃ (f : Addr) (fd : FuncData), FnOk P w K mg base (CXE P w) k f fd ps sp ∧ Binds K fd ps [] ∧ Mk K C f ∧ mg name = some (.ref C)
section
variable {X : Cx} {k : Nat} {C : Addr} {ps : List Str} {sp : Sp} {name m : Str} {p pos apos : Pos} {e o : Expr} {es : List Expr} {ta : TE} {t : TA} {pl : Sem Bool} {E : XK} {pins : List (Addr × Obj)} {σ : St} {CX : CXT} {f : Addr} {fd : FuncData}
theorem pe_fnE (C : CalE X.prog X.w X.K X.mg X.base name k ps sp) (hr : Room k X.A) (hx : Passes (CXE X.prog X.w) X E) (ha : PA X (e :: es) t) (hg : Gl X name := by rfl) (hdb : (name == ("__debug__" : Str)) = false := by decide)
  (he : starEach (e :: es) X.env = (false, eval e X.env) :: starEach es X.env := by rfl) (hpl : (backTo pos (starEach es X.env)).any (·.1) = false := by rfl) : PE X (.Call (.Name name p) (e :: es) [] pos) (tCall sp [] E t) := by
 obtain ⟨f, fd, F, b, hm, hk⟩ := C.ex
 exact pe_call F hr hg hm hk b .nil hx ha hdb he hpl
theorem pe_mkE (M : MkrE X.prog X.w X.K X.mg X.base name C k ps sp) (hr : Room (k + 1) X.A) (hx : Passes (CXE X.prog X.w) X E) (ha : PA X (e :: es) t) (hg : Gl X name := by rfl) (hdb : (name == ("__debug__" : Str)) = false := by decide)
  (he : starEach (e :: es) X.env = (false, eval e X.env) :: starEach es X.env := by rfl) (hpl : (backTo pos (starEach es X.env)).any (·.1) = false := by rfl) : PE X (.Call (.Name name p) (e :: es) [] pos) (tMake C sp [] E t) := by
 obtain ⟨f, fd, F, b, M, hm⟩ := M.ex
 exact pe_make M F hr hg hm b .nil hx ha hdb he hpl
theorem pe_mtE (M : MthE X.prog X.w X.K X.mg X.base C m k ps sp) (hr : Room k X.A) (hx : Passes (CXE X.prog X.w) X E) (ho : PE X o ta) (ha : PA X (e :: es) t)
  (hst : starEach (e :: es) X.env = (false, eval e X.env) :: starEach es X.env := by rfl) (hpl : (backTo pos (starEach es X.env)).any (·.1) = false := by rfl)
  (ht : eval (.Call (.Attribute o m apos) (e :: es) [] pos) X.env = (do
   let ov ← eval o X.env
   standAt apos.atName
   let (f, first) ← holding [ov] (getMethod ov m pl)
   callWith pos f first (backTo pos (starEach (e :: es) X.env)) (backToKw pos (keywordEach [] X.env))) := by rfl) :
  PE X (.Call (.Attribute o m apos) (e :: es) [] pos) (tMeth C m sp [] E ta t) := by
 obtain ⟨f, fd, F, b, hm⟩ := M.ex
 exact pe_meth ho M.cl hm F hr b .nil hx ha hst hpl ht
end
section
variable {P : Program} {w : World} {K : PySem.W.Frag} {mg : Str → Option Value} {base : Heap}
theorem Fun.okE {x qual : Str} {st : Stmt} {f : Addr} {fd : FuncData} {N ps : List Str} {k : Nat} {sp : Sp} (F : Fun K x qual st f fd) (S : FnScope N ps (defScope st)) (len : ∀ vs H Q E, sp vs H Q E → vs.length = ps.length)
  (hbody : ∀ (cdv : Value) (A : Around) (outer : List Env) (s : Shared) (H : Hp) (vs : List V) (Q : VK) (E : XK), Room k (A.deeper (envOfC qual (defScope st) s.heap.objs.size f cdv)) → sp vs H Q E →
   ∃ t, PSs (cxOf (CXE P w) P w K mg base N qual (defScope st) f cdv A outer s H E) (defBody st) t ∧ t { nx := fun _ H' => Q .non H', rt := Q } (start N vs) H) : FnOk P w K mg base (CXE P w) (k + 1) f fd ps sp := by
 obtain ⟨oc, od, kV, doc, pm, an, cdv, ct, osl, rfl, lk, hcd⟩ := F.ex
 exact fn_of lk hcd S len fun A outer s H vs Q E hr hsp => hbody cdv A outer s H vs Q E hr hsp
end
theorem ix_tupK (K : PySem.W.Frag) {X : Cx} (h : X.K = K := by rfl) : IxR X (rIxT K) := by
 subst h
 exact ix_tup
end L2
namespace L2
open PySem PySem.Spec PySem.W PyProof.Rows Builtin.Getset_descriptor
structure ExcK (K : PySem.W.Frag) (D : Addr) : Prop where
 ga : findIn K (.ref D) "__getattribute__" = some (some (.builtin "BaseException.__getattribute__"))
 gx : findIn K (.ref D) "__getattr__" = some none
 ca : findIn K (.ref D) "__class__" = some (some (.builtin "object.__class__"))
 sp : specialIn K (.builtin "object.__class__") "__get__" = some (some (.builtin "getset_descriptor.__get__"))
 tk : takesIn K (.builtin "object.__class__") = some true
 mo : mroIn K D (.type "object") = some true
 mb : mroIn K D (.type "BaseException") = some true
theorem ExcK.cl {K : PySem.W.Frag} {D : Addr} (Z : ExcK K D) : (clsIn K D).isSome = true := by
 obtain ⟨cd, a, _⟩ := Option.bind_eq_some_iff.mp Z.mo
 rw [a]
 rfl
end L2
namespace L2
open PySem PySem.Spec PyProof.Rows
theorem inv_big {X : Cx} {pins : List (Addr × Obj)} {σ : St} {H : Hp} {s : Shared} (I : Inv X pins σ H s) : sysModules < s.heap.objs.size :=
 Nat.lt_trans (by decide) (show mainGlobals < s.heap.objs.size from (I.mod.glob.keeps I.bk).lt)
end L2
end
section
namespace L2
open PySem PySem.Spec PySem.W PyProof.Rows
abbrev xObj (C t : Addr) (od : Option Addr) : Obj := { cls := .ref C, dict := od, data := .fields #[.ref t, .none, .none, .none, .bool false, .none] }
structure OwnX (K : PySem.W.Frag) (W C f : Addr) : Prop where
 wex : excIn K W veMro "ValueError.__new__" = true
 ob : ∃ nm qn N bs sn sub ab col dd k0 k1 k2 k3 k5, K.lookup C = some (excClassObj nm qn C N bs (.ref W :: veMro) true sn sub ab col dd k0 k1 k2 k3 k5 "ValueError.__new__")
 ini : findIn K (.ref C) "__init__" = some (some (.ref f))
 fn : typeIn K (.ref f) = some (.type "function")
 sa : findIn K (.ref C) "__setattr__" = some (some (.builtin "object.__setattr__"))
 pl : findIn K (.ref C) "place" = some none
section
variable {prog : Program} {w : World} {A : Around} {E : Value → Shared → Prop} {s : Shared} {K : PySem.W.Frag} {W C f e t : Addr} {od : Option Addr}
theorem own_tail {h : Heap} (X : K.In h) (q : excIn K W veMro "ValueError.__new__" = true) : OwnTail h veMro (.ref W :: veMro) := by
 obtain ⟨bm, N, nm, qn, bs, hdct, sn, sub, ab, col, dd, k0, k1, k2, k3, k5, mN, hC, hN, hni, hT⟩ := exc_obj X q
 exact .own hC hN hni .base
theorem binit_call {v : Value} {Q : Value → Shared → Prop} (O : OwnX K W C f) (X : K.In s.heap) (he : s.heap.get? e = some (xObj C t od))
  (q : ∀ h' t', (∀ b o, b ≠ e → s.heap.get? b = some o → h'.get? b = some o) → h'.get? e = some (xObj C t' od) → Q .none { s with heap := h' }) : wpAny (model prog w) A (call (.builtin "ValueError.__init__") [.ref e, v]) Q E s := by
 obtain ⟨hh, g, d, tk, os⟩ := s
 obtain ⟨nm, qn, N, bs, sn, sub, ab, col, dd, k0, k1, k2, k3, k5, lk⟩ := O.ob
 have hC := X _ _ lk
 have T := own_tail X O.wex
 have B := PySem.F.excBase_ValueError
 refine wpAny_call (codeAny_call_builtin B.init.plain B.initEntry (wpAny_check_init_subT B T hC he rfl ?_))
 wp_walk
 refine q _ hh.objs.size (fun b o hb z => ?_) ?_
 ·exact (Heap.get?_update_other _ _ (Ne.symm hb)).trans (Heap.get?_push_of_some _ z)
 ·exact Heap.get?_update_self _ (Heap.get?_push_of_some _ he) rfl
theorem own_store {v : Value} {Q : Unit → Shared → Prop} (O : OwnX K W C f) (Z : ExcK K C) (X : K.In s.heap) (he : s.heap.get? e = some (xObj C t none))
  (q : ∀ h' dx tk, (∀ b o, b ≠ e → s.heap.get? b = some o → h'.get? b = some o) → h'.get? e = some (xObj C t (some dx)) → dx ≠ e → s.heap.objs.size ≤ dx → h'.Ns1 dx (fun y => if y = "place" then some v else none) → Q () { s with heap := h', toks := tk }) :
  wpAny (model prog w) A (setAttr (.ref e) "place" v) Q E s := by
 obtain ⟨hh, g, d, tk, os⟩ := s
 have X : K.In hh := X
 have he : hh.get? e = some (xObj C t none) := he
 obtain ⟨nm, qn, N, bs, sn, sub, ab, col, dd, k0, k1, k2, k3, k5, lk⟩ := O.ob
 have SF := PySem.F.store_object
 have J : InstAt hh e (xObj C t none) C none := ⟨he, rfl, rfl, True.intro⟩
 have hc : clsIn K C = some ⟨nm, bs, .ref C :: .ref W :: veMro, N, qn, true, sn, sub, ab, col, false⟩ := by
  unfold clsIn
  rw [lk]
 have isO : Looks (model prog w) hh (isInstance (.ref e) (.type "object")) true := J.type.andThen (looks_mroIn X Z.mo)
 have hm : Looks (model prog w) hh (mroOf (.ref C)) (.ref C :: .ref W :: veMro) := (looks_clsIn X hc).andThen .now
 refine set_plain X J O.sa ?_
 refine codeAny_call_builtin SF.slot.plain SF.entry (@check_slot (model prog w) _ _ ⟨hh, g, d, tk + 1, os⟩ "object.__setattr__" "object" "__setattr__" (.ref e) [.str "place" tk, v] [] _ SF.kind SF.split isO (SF.args (.ref e) (.str "place" tk) v) ?_)
 rw [osa_eq, refuse_eq]
 refine wpAny_bind (wpAny_bind (J.type.here (wpAny_bind (hm.here ?_))))
 rw [refuseLoop_ref, refuseLoop_ref, show refuseLoop (.ref e) "__setattr__" veMro = pure () from PySem.F.store_ValueError.passes _]
 refine wpAny_pure (wpAny_bind (J.type.here (wpAny_bind ((looks_findIn X O.pl).here (wpAny_bind ?_)))))
 refine wpAny_pure ?_
 show wpAny _ _ (Builtin.ObjectAttr.storeInOwnDict (.ref e) (.ref C) (.str "place" tk) "place" v false) _ _ _
 have hcl := X _ _ lk
 have he1 : (hh.push emptyDict).get? e = some (xObj C t none) := Heap.get?_push_of_some _ he
 have hes : e ≠ hh.objs.size := Nat.ne_of_lt (Heap.lt_size he)
 refine wpAny_bind (wpAny_pure (wpAny_bind ?_))
 refine wpAny_bind (wpAny_loadPart he (wpAny_bind ((looks_clsIn X hc).here ?_)))
 show wpAny _ _ (do
  let d ← alloc { cls := Value.type "dict", data := Data.dict #[] }
  update e fun o => { cls := o.cls, dict := some d, data := o.data, slots := o.slots }
  dictMade (.ref C) e d) _ _ _
 refine wpAny_bind (wpAny_alloc' (wpAny_bind (wpAny_update' he1 (wpAny_pure ?_))))
 show wpAny _ _ (Builtin.ObjectAttr.storeInDict hh.objs.size (.str "place" tk) "place" v) _ _ _
 have hd2 : ((hh.push emptyDict).update e fun o => { cls := o.cls, dict := some hh.objs.size, data := o.data, slots := o.slots }).get? hh.objs.size = some emptyDict :=
  (Heap.get?_update_other _ _ hes).trans (Heap.get?_push_size hh rfl)
 have hn2 : ((hh.push emptyDict).update e fun o => { cls := o.cls, dict := some hh.objs.size, data := o.data, slots := o.slots }).Ns hh.objs.size (fun _ => none) := ⟨_, #[], _, hd2, rfl, (fun en hen => absurd hen (by simp)), fun _ => rfl⟩
 have he2 : ((hh.push emptyDict).update e fun o => { cls := o.cls, dict := some hh.objs.size, data := o.data, slots := o.slots }).get? e = some (xObj C t (some hh.objs.size)) := Heap.get?_update_self _ he1 rfl
 have hk2 : ∀ b o, b ≠ e → hh.get? b = some o → ((hh.push emptyDict).update e fun o => { cls := o.cls, dict := some hh.objs.size, data := o.data, slots := o.slots }).get? b = some o := fun b o hb z => (Heap.get?_update_other _ _ (Ne.symm hb)).trans (Heap.get?_push_of_some _ z)
 unfold Builtin.ObjectAttr.storeInDict Builtin.ObjectAttr.newKeyGuard
 refine wpAny_bind (wpAny_pure (wpAny_bind (wpAny_nsSet1 (Heap.Ns1.of_empty hn2) fun h' hn' hs => ?_)))
 obtain ⟨ob1, es1, ep1, at1, da1, ct1⟩ := hn'.count (Within.cons "place" v Within.nil)
 refine wpAny_bind (wpAny_lookBehind at1 (da1 ▸ pastItsLine_dict (Nat.le_trans ct1 (by decide))) ?_)
 refine wpAny_pure ?_
 refine q h' hh.objs.size _ (fun b o hb z => (hs.2 b (Nat.ne_of_lt (Heap.lt_size z))).trans (hk2 b o hb z)) ((hs.2 e hes).trans he2) (Ne.symm hes) (Nat.le_refl _) ?_
 obtain ⟨o', es, ep, e1, e2, e3, eu, e4⟩ := hn'
 exact ⟨o', es, ep, e1, e2, e3, eu, fun y => by rw [e4 y]⟩
theorem own_call {rest : List Value} {Q : Value → Shared → Prop} (O : OwnX K W C f) (X : K.In s.heap) (hr : rest.length ≤ sizeLine)
  (q : ∀ h' e, Heap.MadeExcOf s.heap h' e (.ref C) rest → s.heap.objs.size ≤ e → wpAny (model prog w) (A.under (.builtin "type.__call__" ⟨.ref C :: rest, []⟩)) (call (.ref f) (.ref e :: rest)) (fun r s' => r = .none ∧ Q (.ref e) s') E { s with heap := h' }) :
  wpAny (model prog w) A (call (.ref C) rest) Q E s := by
 obtain ⟨hh, g, d, tk, os⟩ := s
 have X : K.In hh := X
 obtain ⟨nm, qn, N, bs, sn, sub, ab, col, dd, k0, k1, k2, k3, k5, lk⟩ := O.ob
 have hC : hh.get? C = _ := X _ _ lk
 have T := own_tail X O.wex
 have B := PySem.F.excBase_ValueError
 have f1 := tc_lookup
 have f2 := tc_bind (.ref C)
 have tC : (⟨hh, g, d, tk, os⟩ : Shared).TypeIs (.ref C) "type" := ⟨_, hC, rfl⟩
 refine wpAny_call (codeAny_of_tree ?_)
 show wpAny _ _ (callAny (.ref C) _) _ _ _
 repeat (any_goals (first | assumption | with_reducible refine wpAny_loadPart_at hC ?_ | wp_step))
 refine ⟨rfl, codeAny_call_builtin_at (Code.quiet_builtin _ (by decide +kernel)) entry_typeCall (wpAny_check_type_call_sub hC ?_)⟩
 repeat (first | with_reducible refine wpAny_loadPart_at hC ?_ | with_reducible refine wpAny_madeBy_exc hC ?_ | wp_step)
 refine codeAny_call_builtin_code (Code.quiet_builtin _ B.quiet) (wpAny_check_new_subT B T hC (codeAny_exc_new_subT B T hC ?_ hr))
 show wpAny _ _ _ _ _ _
 have hget : ((hh.push { cls := .type "tuple", data := .seq rest.toArray }).push (xObj C hh.objs.size none)).get? (hh.objs.size + 1) = some (xObj C hh.objs.size none) := by heap_get
 have kp : ∀ b o, hh.get? b = some o → ((hh.push { cls := .type "tuple", data := .seq rest.toArray }).push (xObj C hh.objs.size none)).get? b = some o := fun b o z => Heap.get?_push_of_some _ (Heap.get?_push_of_some _ z)
 have hC₁ := kp _ _ hC
 have hcC : (Value.ref C :: .ref W :: veMro).contains (.ref C) = true := by simp
 have X1 : K.In ((hh.push { cls := .type "tuple", data := .seq rest.toArray }).push (xObj C hh.objs.size none)) := fun b o z => kp b o (X b o z)
 have mx : Heap.MadeExcOf hh ((hh.push { cls := .type "tuple", data := .seq rest.toArray }).push (xObj C hh.objs.size none)) (hh.objs.size + 1) (.ref C) rest := by
  refine ⟨kp, Heap.get?_none_of_le (Nat.le_succ _), hh.objs.size, hget, Heap.get?_none_of_le (Nat.le_refl _), ?_⟩
  exact Heap.get?_push_of_some _ (Heap.get?_push_size hh rfl)
 have J : InstAt ((hh.push { cls := .type "tuple", data := .seq rest.toArray }).push (xObj C hh.objs.size none)) (hh.objs.size + 1) (xObj C hh.objs.size none) C none := ⟨hget, rfl, rfl, True.intro⟩
 unfold isInstance
 repeat (first | with_reducible refine wpAny_loadPart_at hget ?_ | (with_reducible refine wpAny_isSubtype_exc hC₁ ?_; rw [hcC]) | wp_step)
 refine wpAny_isSubtype_exc hC₁ ?_
 rw [hcC]
 rw [if_neg (by decide)]
 refine wpAny_bind (wpAny_holding (special_fn X1 J O.ini O.fn ?_))
 refine wpAny_mono (q _ _ mx (Nat.le_succ _)) (fun v s' z => ?_) fun _ _ z => z
 obtain ⟨rfl, z⟩ := z
 exact wpAny_pure z
end
end L2
end
section
namespace L2
open PySem PySem.Spec PySem.W PyProof.Rows
def IsRaw (e C : Addr) (od : Option Addr) (h : Heap) : Prop := ∃ t, h.get? e = some (xObj C t od)
def rawX (e C : Addr) (od : Option Addr) : HO := .ext (IsRaw e C od)
theorem raw_ok {P : Program} {w : World} {H : Hp} {h : Heap} {e C : Addr} {od : Option Addr} (x : IsRaw e C od h) : ObjOk P w H h e (rawX e C od) :=
 ⟨x, let ⟨_, z⟩ := x; ⟨_, z⟩, fun _ _ ⟨t, z⟩ k => ⟨t, k _ z⟩⟩
structure BaseX (K : PySem.W.Frag) (mg : Str → Option Value) (x : Str) (W : Addr) : Prop where
 at_ : mg x = some (.ref W)
 ga : specialIn K (.ref W) "__getattribute__" = some (some (.builtin "type.__getattribute__"))
 rd : readsIn K W (.type "type") = true
 ini : findCls K (.ref W) (.type "type") "__init__" = some (.val (.builtin "ValueError.__init__"))
theorem upd_id {H : Hp} {e : Addr} {o : HO} (h : H e = some o) : upd H e o = H := by
 funext b
 by_cases hb : b = e
 ·subst hb; rw [upd_same, h]
 ·rw [upd_ne hb]
section
variable {X : Cx} {x : Str} {W C f : Addr} {np apos pos p1 p2 pos' : Pos} {a o e value : Expr} {as : List Expr} {t : TA} {te ta tv : TE} {pl : Sem Bool}
def tBinit (K : PySem.W.Frag) (W : Addr) (t : TA) : TE := fun σ H Q => t σ H fun vs H1 => ∃ e C f od z, vs = [.ref e, .str z] ∧ H1 e = some (rawX e C od) ∧ OwnX K W C f ∧ Q .non H1
theorem pe_binit (B : BaseX X.K X.mg x W) (hg : Gl X x) (ha : PA X (a :: as) t) (hdb : (x == ("__debug__" : Str)) = false := by decide)
  (he : backTo pos (starEach (a :: as) X.env) = (false, eval a X.env) :: backTo pos (starEach as X.env) := by rfl) (hpl : (backTo pos (starEach (a :: as) X.env)).any (·.1) = false := by rfl)
  (ht : eval (.Call (.Attribute (.Name x np) "__init__" apos) (a :: as) [] pos) X.env = (do
   let ov ← eval (.Name x np) X.env
   standAt apos.atName
   let (f, first) ← holding [ov] (getMethod ov "__init__" pl)
   callWith pos f first (backTo pos (starEach (a :: as) X.env)) (backToKw pos (keywordEach [] X.env))) := by rfl) :
  PE X (.Call (.Attribute (.Name x np) "__init__" apos) (a :: as) [] pos) (tBinit X.K W t) := by
 intro pins s σ H Q I h
 refine methodCall_KW (ld_glob I hg B.at_ ?_ hdb) ht
 refine method_cls I.kIn B.ga (cls_value I.kIn B.rd B.ini rfl ?_)
 refine Calls.callWith_builtin hpl ?_
 have hs := ha pos pins _ σ H _ (I.tok (s.toks + 1)) h
 rw [he] at hs ⊢
 refine Calls.evalArgs_plain (thn hs fun us s1 ⟨vs, H1, I1, r, e, C, f, od, z, ev, hx, O, q⟩ => ?_)
 subst ev
 obtain ⟨u, u2, rfl, ru, ru2⟩ := vals2 r
 obtain rfl : u = Value.ref e := ru
 obtain ⟨⟨t0, h0⟩, _, _⟩ := (show ObjOk X.prog X.w H1 s1.heap e (rawX e C od) from I1.hok e _ hx)
 refine binit_call O I1.kIn h0 fun h' t' hk he' => ⟨.non, H1, ?_, rfl, q⟩
 have z := I1.write (x := e) (e := e) (o := rawX e C od) (h' := h') (t' := s1.toks) (by rw [hx]; exact True.intro) (.inl rfl) hk ⟨_, he'⟩ (raw_ok ⟨t', he'⟩)
 rw [upd_id hx] at z
 exact z
def tFstr (te : TE) : TE := fun σ H Q => te σ H fun v H1 => ∃ i : Int, v = .int i ∧ i.natAbs < 10 ^ 12 ∧ ∀ z, Q (.str z) H1
theorem log_small {n : Nat} (h : n < 10 ^ 12) : n.log2 < 1920 := by
 have : n.log2 < 40 := by
  by_cases h0 : n = 0
  ·subst h0; decide
  ·exact (Nat.log2_lt h0).mpr (Nat.lt_of_lt_of_le h (by decide))
 omega
theorem pe_fstr {c : Str} {j : Nat} (hc : c.length ≤ 1000) (he : PE X e te) : PE X (.JoinedStr [.Constant (.str c) j p1, .FormattedValue e (-1) none p2] pos) (tFstr te) := by
 intro pins s σ H Q I h
 have sl : 2000 ≤ sizeLine := by decide
 refine JoinedStr_many (joinParts_cons (Calls.Constant_str ⟨?_, joinParts_cons (FormattedValue_plain (thn (he pins _ σ H _ (I.tok _) h) fun u s1 ⟨v, H1, I1, r, i, ev, hi, q⟩ => ?_))⟩))
 ·rw [strLen_append]
  show 0 + c.length ≤ _
  omega
 ·subst ev
  obtain ⟨tk, rfl⟩ := r
  have hl := int_text_length_le10 (k := 12) (by decide) hi
  have hz : (Str.empty ++ c ++ (Str.ofString (toString i))).length ≤ sizeLine := by
   rw [strLen_append, strLen_append]
   show 0 + c.length + _ ≤ _
   have : (Str.ofString (toString i)).length ≤ 13 := by rw [PySem.ofString_length]; exact hl
   omega
  refine formatField_int_small (log_small hi) ⟨hz, joinParts_nil ⟨.str _, H1, I1.tok _, ⟨_, rfl⟩, q _⟩ hz⟩
def sPlace (K : PySem.W.Frag) (ta tv : TE) : TS := fun D σ H => tv σ H fun y H1 => ta σ H1 fun x H2 => ∃ e W C f, x = .ref e ∧ H2 e = some (rawX e C none) ∧ OwnX K W C f ∧ ExcK K C ∧
 ∀ dx, H2 dx = none → D.nx σ (upd (upd H2 dx (.xd [("place", y)])) e (rawX e C (some dx)))
theorem ps_place (ha : PE X o ta) (hv : PE X value tv) (hs : swapsWith value (some (.Attribute o "place" pos')) pos.line X.env = pure false := by rfl) : PS X (.Assign [.Attribute o "place" pos'] value pos) (sPlace X.K ta tv) := by
 intro pins s σ H D I h
 refine plainObj_wpAny_Assign_Attribute (thn (hv pins s σ H _ I h) fun u s1 ⟨y, H1, I1, ry, q⟩ => thn (ha pins s1 σ H1 _ I1 q) fun ov s2 ⟨x, H2, I2, rx, e, W, C, f, ex, hx, O, Z, q2⟩ => ?_) hs
 subst ex
 obtain rfl : ov = Value.ref e := rx
 obtain ⟨⟨t0, h0⟩, _, _⟩ := (show ObjOk X.prog X.w H2 s2.heap e (rawX e C none) from I2.hok e _ hx)
 refine own_store O Z I2.kIn h0 fun h' dx tk hk he' hne hsz hn => ⟨σ, _, ?_, q2 dx (I2.hok.fresh hsz)⟩
 have fr := I2.hok.fresh hsz
 have nb : ∀ b ob, s2.heap.get? b = some ob → b ≠ dx := fun b ob z => Nat.ne_of_lt (Nat.lt_of_lt_of_le (Heap.lt_size z) hsz)
 have nt : ∀ {b : Addr} {u : HO}, H2 b = some u → b ≠ dx := fun z => ne_of_none z fr
 have ne : ∀ {b : Addr}, H2 b = none → b ≠ e := fun z y => by rw [y, hx] at z; cases z
 have mv : ∀ {b : Addr}, b ≠ e → b ≠ dx → upd (upd H2 dx (.xd [("place", y)])) e (rawX e C (some dx)) b = H2 b := fun z z2 => by rw [upd_ne z, upd_ne z2]
 have xt : ∀ {b : Addr} {u : HO}, H2 b = some u → u ≠ rawX e C none → b ≠ e := fun z n y => by rw [y, hx] at z; cases z; exact n rfl
 refine I2.un (t' := tk) ⟨fun b ob z n _ _ => hk b ob (ne n) z, fun b ob z n _ _ => ⟨ob.slots, hk b ob (ne n) z⟩, fun b ob z n _ => by rw [mv (ne n) (nb b ob z)]; exact n, fun b ob z _ => ?_, fun b xs z => ?_, fun b ob u z => ?_, fun b ps z => ?_⟩ fun b ob z => ?_
 ·by_cases hb : b = e
  ·subst hb; exact ⟨_, he'⟩
  ·exact ⟨ob, hk b ob hb z⟩
 ·rw [mv (xt z (by intro y; cases y)) (nt z)]; exact z
 ·rw [mv (xt z (by intro y; cases y)) (nt z)]; exact z
 ·exact ⟨#[], by rw [mv (xt z (by intro y; cases y)) (nt z)]; simpa using z⟩
 ·by_cases hb : b = e
  ·subst hb
   rw [upd_same] at z
   cases z
   exact raw_ok ⟨t0, he'⟩
  ·rw [upd_ne hb] at z
   by_cases hb2 : b = dx
   ·subst hb2
    rw [upd_same] at z
    cases z
    refine ⟨_, hn, fun f => ?_⟩
    by_cases hf : f = "place"
    ·subst hf
     simpa [RelO] using ry
    ·have : List.lookup f [(("place" : Str), y)] = none := by
      rw [List.lookup, show (f == ("place" : Str)) = false from beq_eq_false_iff_ne.mpr hf]
      rfl
     rw [this]
     simp [RelO, hf]
   ·rw [upd_ne hb2] at z
    refine (I2.hok b ob z).stay (fun c w' hc y => hk c w' ?_ y) (fun c y => ?_) fun c xs y => ?_
    ·rcases hc with rfl | hc
     ·exact hb
     ·exact xt hc (by intro y; cases y)
    ·rw [mv (xt y (by intro y; cases y)) (nt y)]; exact y
    ·rw [mv (xt y (by intro y; cases y)) (nt y)]; exact y
end
section
variable {M : Model} {prog : Program} {w : World} {A : Around} {E : Value → Shared → Prop} {s : Shared} {env : Env} {K : PySem.W.Frag} {W C f : Addr}
theorem raise_own {x : Sem Value} {Q : Flow → Shared → Prop} (O : OwnX K W C f) (hh : A.handled = none) (q : wpAny M A x (fun v s₁ => ∃ e t od, v = .ref e ∧ K.In s₁.heap ∧ s₁.heap.get? e = some (xObj C t od) ∧ E (.ref e) s₁) E s) :
  wpAny M A (raiseStmt env (some x) none) Q E s := by
 have cB : (Value.ref C :: .ref W :: veMro).contains (.type "BaseException") = true := by simp [veMro]
 unfold raiseStmt
 refine wpAny_bind (thn q fun v s₁ ⟨e, t, od, ev, X, hx, hE⟩ => ?_)
 subst ev
 obtain ⟨nm, qn, N, bs, sn, sub, ab, col, dd, k0, k1, k2, k3, k5, lk⟩ := O.ob
 have hC := X _ _ lk
 obtain ⟨hp, g, d, tk, os⟩ := s₁
 repeat (first | with_reducible refine wpAny_loadPart_at hx ?_ | with_reducible refine wpAny_loadPart_at hC ?_ | (with_reducible refine wpAny_isSubtype_exc hC ?_; rw [cB]) | wp_step)
 exact wpAny_raiseNew_none hh hE
theorem Raise_own {x : Str} {np cpos pos : Pos} {args : List Expr} {Q : Flow → Shared → Prop} (O : OwnX K W C f) (hh : A.handled = none) (hplain : (backTo cpos (starEach args env)).any (·.1) = false)
  (q : wpAny (model prog w) A (eval (.Name x np) env) (fun v s₁ => v = .ref C ∧ wpAny (model prog w) A (evalArgs (.ref C) true (backTo cpos (starEach args env)) []) (fun a s₂ => a.kw = [] ∧ a.pos.length ≤ sizeLine ∧ K.In s₂.heap ∧
   ∀ h' e, Heap.MadeExcOf s₂.heap h' e (.ref C) a.pos → s₂.heap.objs.size ≤ e → wpAny (model prog w) (A.under (.builtin "type.__call__" ⟨.ref C :: a.pos, []⟩)) (call (.ref f) (.ref e :: a.pos)) (fun r s₃ => r = .none ∧ ∃ t od, K.In s₃.heap ∧ s₃.heap.get? e = some (xObj C t od) ∧ E (.ref e) s₃) E { s₂ with heap := h' }) E s₁) E s) :
  wpAny (model prog w) A (exec (.Raise (some (.Call (.Name x np) args [] cpos)) none pos) env) Q E s := by
 rw [arm_exec_Raise]
 simp only [evalOpt, Option.map]
 refine wpAny_bind (wpAny_standAt (raise_own O hh (wpAny_bind (thn (wpAny_Call_ofName (thn q fun v s₁ q1 => ?_)) fun v s₃ q3 => wpAny_bind (wpAny_standAt (wpAny_pure q3))))))
 obtain ⟨rfl, q1⟩ := q1
 unfold callWith
 refine wpAny_bind (wpAny_holding (thn q1 fun a s₂ q2 => wpAny_bind (wpAny_standAt ?_)))
 obtain ⟨ap, ak⟩ := a
 obtain ⟨hk, hl, X, q2⟩ := q2
 obtain rfl : ak = [] := hk
 obtain ⟨nm, qn, N, bs, sn, sub, ab, col, dd, k0, k1, k2, k3, k5, lk⟩ := O.ob
 obtain ⟨hp, g, d, tk, os⟩ := s₂
 simp only [hplain]
 refine wpAny_bind (wpAny_keeperOf_exc (X _ _ lk) ?_)
 refine wpAny_bind (own_call O X hl fun h' e mx he => thn (q2 h' e mx he) fun r s₃ q3 => ⟨q3.1, wpAny_bind (wpAny_holding (wpAny_point (wpAny_pure ?_)))⟩)
 obtain ⟨_, t, od, X3, h3, q3⟩ := q3
 exact ⟨e, t, od, rfl, X3, h3, q3⟩
end
def spInit (C : Addr) : Sp := fun vs H Q _ => ∃ (e : Addr) (i : Int), vs = [.ref e, .int i] ∧ H e = some (rawX e C none) ∧ i.natAbs < 10 ^ 12 ∧ ∀ dx, H dx = none → Q .non (upd (upd H dx (.xd [("place", .int i)])) e (rawX e C (some dx)))
structure ExcI (P : Program) (w : World) (K : PySem.W.Frag) (mg : Str → Option Value) (base : Heap) (name : Str) (W C : Addr) (k : Nat) (ps : List Str) : Prop where
 ex : ∃ (f : Addr) (fd : FuncData), FnOk P w K mg base CX0 k f fd ps (spInit C) ∧ Binds K fd ps [] ∧ OwnX K W C f
 at_ : mg name = some (.ref C)
 ek : ExcK K C
def tRaiseI (C : Addr) (E : XK) (t : TA) : TS := fun _ σ H => t σ H fun vs H1 => ∃ i : Int, vs = [.int i] ∧ i.natAbs < 10 ^ 12 ∧ ∀ dx, H1 dx = none → E (.ref C) (some dx) (upd H1 dx (.xd [("place", .int i)]))
section
variable {P : Program} {w : World} {K : PySem.W.Frag} {mg : Str → Option Value} {base : Heap} {N : List Str} {qual : Str} {scope : Scope} {f : Addr} {cd : Value} {A : Around} {outer : List Env} {s₀ : Shared} {H₀ : Hp} {E : XK}
theorem raise_from {pins : List (Addr × Obj)} {σ : St} {H H' : Hp} {s s3 : Shared} {e C t : Addr} {od : Option Addr} (I : Inv (cxOf (CXE P w) P w K mg base N qual scope f cd A outer s₀ H₀ E) pins σ H s) (hn : s.heap.get? e = none) (ho : s3.os = s.os) (hg : AllBare s3.gens)
  (un : Un (frs (cxOf (CXE P w) P w K mg base N qual scope f cd A outer s₀ H₀ E).stack) [] H H' s.heap s3.heap) (hok : HOk P w H' s3.heap) (hu : H' e = none) (he : s3.heap.get? e = some (xObj C t od)) (q : E (.ref C) od H') :
  (cxOf (CXE P w) P w K mg base N qual scope f cd A outer s₀ H₀ E).xe (.ref e) s3 := by
 show wpAny (model P w) (A.deeper (envOfC qual scope s₀.heap.objs.size f cd)) (leaving (envOfC qual scope s₀.heap.objs.size f cd) (.ref e)) _ _ _
 have I3 := I.call' ho un hok hg (by simp)
 have hfr : ∀ b ∈ frs (cxOf (CXE P w) P w K mg base N qual scope f cd A outer s₀ H₀ E).stack, H' b = none := I3.stkFree
 have hin : ∀ env ∈ (cxOf (CXE P w) P w K mg base N qual scope f cd A outer s₀ H₀ E).stack, ∀ b, env.frame = some b → b ∈ e :: frs (cxOf (CXE P w) P w K mg base N qual scope f cd A outer s₀ H₀ E).stack := fun env he b hb => List.mem_cons_of_mem _ (List.mem_filterMap.mpr ⟨env, he, hb⟩)
 have hen : (PySem.W.hideAll s3.heap (e :: frs (cxOf (CXE P w) P w K mg base N qual scope f cd A outer s₀ H₀ E).stack)).get? e = none := PySem.W.hideAll_none _ List.mem_cons_self
 have hBh : (PySem.W.hideAll s3.heap (e :: frs (cxOf (CXE P w) P w K mg base N qual scope f cd A outer s₀ H₀ E).stack)).StaysIn s3.heap := fun b o z => PySem.W.of_hideAll _ z
 refine wpAny_mono (kd_any (kd_leaving _ _) (wpAny_leaving_firstW (L := s₀.heap.objs.size) (outer := outer) (base := PySem.W.hideAll s3.heap (e :: frs (cxOf (CXE P w) P w K mg base N qual scope f cd A outer s₀ H₀ E).stack)) (a0 := .ref t)
  (Q := fun _ s' => ∃ h2, s' = { s3 with heap := h2 } ∧ Heap.LeftW (PySem.W.hideAll s3.heap (e :: frs (cxOf (CXE P w) P w K mg base N qual scope f cd A outer s₀ H₀ E).stack)) (envOfC qual scope s₀.heap.objs.size f cd :: outer) e (.ref C) (.ref t) s3.heap h2)
  I.ok.frames (PySem.W.funFrames_hide I3.stack hin) rfl he hBh hen rfl rfl rfl fun h2 L => ⟨h2, rfl, L⟩)) (fun _ s' z => ?_) fun _ _ z => z
 obtain ⟨⟨h2, rfl, k1, ⟨_, _, k2⟩, k3, k4⟩, kd⟩ := z
 obtain ⟨hp, g, d, tt, os⟩ := s3
 have ho : os = s.os := ho
 subst ho
 refine fly_out (s := s) (g := g) (d := d) (t := tt) (h1 := hp) I un hok hfr hg hn hu (fun b o z y => ?_) hBh (⟨⟨k1, hen, k2, k3⟩, dict_on kd ⟨_, he, rfl⟩⟩ : FlyD _ outer e (.ref C) (.ref t) od h2) k4 q
 by_cases hb : b ∈ e :: frs (cxOf (CXE P w) P w K mg base N qual scope f cd A outer s₀ H₀ E).stack
 ·rcases List.mem_cons.mp hb with z | z
  ·exact .inl z
  ·exact .inr (.inl z)
 ·rw [PySem.W.hideAll_get _ z hb] at y
  cases y
theorem ps_raiseI {x : Str} {W C : Addr} {k : Nat} {ps : List Str} {np cpos pos : Pos} {a : Expr} {as : List Expr} {t : TA} (Y : ExcI P w K mg base x W C k ps) (hr : Room (k + 1) (cxOf (CXE P w) P w K mg base N qual scope f cd A outer s₀ H₀ E).A) (hg : Gl (cxOf (CXE P w) P w K mg base N qual scope f cd A outer s₀ H₀ E) x)
  (ha : PA (cxOf (CXE P w) P w K mg base N qual scope f cd A outer s₀ H₀ E) (a :: as) t) (hdb : (x == ("__debug__" : Str)) = false := by decide)
  (he : starEach (a :: as) (cxOf (CXE P w) P w K mg base N qual scope f cd A outer s₀ H₀ E).env = (false, eval a (cxOf (CXE P w) P w K mg base N qual scope f cd A outer s₀ H₀ E).env) :: starEach as (cxOf (CXE P w) P w K mg base N qual scope f cd A outer s₀ H₀ E).env := by rfl)
  (hpl : (backTo cpos (starEach as (cxOf (CXE P w) P w K mg base N qual scope f cd A outer s₀ H₀ E).env)).any (·.1) = false := by rfl) :
  PS (cxOf (CXE P w) P w K mg base N qual scope f cd A outer s₀ H₀ E) (.Raise (some (.Call (.Name x np) (a :: as) [] cpos)) none pos) (tRaiseI C E t) := by
 intro pins s σ H D I h
 obtain ⟨fi, fd, F, B, O⟩ := Y.ex
 refine Raise_own O (I.ok.hd rfl) ?_ ?_
 ·rw [he]
  show ((false || (backTo cpos (starEach as _)).any (·.1))) = false
  rw [hpl]
  rfl
 refine ld_glob I hg Y.at_ ⟨rfl, ?_⟩ hdb
 have hs := ha cpos pins s σ H _ I h
 rw [he] at hs ⊢
 refine Calls.evalArgs_plain (thn hs fun us s2 ⟨vs, H1, I1, r, i, ev, hi, q⟩ => ⟨rfl, ?_, I1.kIn, fun h1 e mx hsz => ?_⟩)
 ·have := r.length
  subst ev
  show us.length ≤ sizeLine
  rw [← this]
  show 1 ≤ sizeLine
  decide
 subst ev
 have new : H1 e = none := I1.hok.fresh hsz
 obtain ⟨t, het, _⟩ := mx.there
 have I2 := I1.laid (a := e) (o := rawX e C none) (t' := s2.toks) mx.keeps hsz (raw_ok ⟨t, het⟩)
 have hl : (Value.ref e :: us).length = ps.length := by
  rw [← F.len [.ref e, .int i] (upd H1 e (rawX e C none)) (fun _ _ => True) E0 ⟨e, i, rfl, upd_same, hi, fun _ _ => True.intro⟩]
  show us.length + 1 = _
  rw [← r.length]
  rfl
 refine wpAny_call (codeAny_mono (F.run _ _ _ (upd H1 e (rawX e C none)) ⟨.ref e :: us, []⟩ (.ref e :: us) [.ref e, .int i] (fun v H2 => v = .non ∧ ∃ dx, upd H1 e (rawX e C none) dx = none ∧ H2 = upd (upd (upd H1 e (rawX e C none)) dx (.xd [("place", .int i)])) e (rawX e C (some dx))) E0
  (hr.make C us []) (I2.env0.make C us []) (by have := B _ (Value.ref e :: us) I2.kIn (by simpa using hl); simpa using this) (.cons rfl r) ⟨e, i, rfl, upd_same, hi, fun dx hd => ⟨rfl, dx, hd, rfl⟩⟩) fun r' s3 hq => ?_)
 cases r' with
 | error x => exact hq.elim
 | ok fl =>
  cases fl with
  | next => exact hq.elim
  | brk => exact hq.elim
  | cont => exact hq.elim
  | ret u =>
   obtain ⟨v, H3, ho, hg3, un, hok, rv, evn, dx, hd, eH⟩ := hq
   subst evn
   obtain rfl : u = Value.none := rv
   have hde : dx ≠ e := fun z => by rw [z, upd_same] at hd; cases hd
   have hd1 : H1 dx = none := by rw [upd_ne hde] at hd; exact hd
   have e3 : H3 e = some (rawX e C (some dx)) := by rw [eH, upd_same]
   obtain ⟨⟨t3, he3⟩, _, _⟩ := (show ObjOk P w H3 s3.heap e (rawX e C (some dx)) from hok e _ e3)
   have mv : ∀ b, b ≠ e → H3 b = upd H1 dx (.xd [("place", .int i)]) b := fun b hb => by
    rw [eH, upd_ne hb]
    by_cases h2 : b = dx
    ·subst h2; rw [upd_same, upd_same]
    ·rw [upd_ne h2, upd_ne h2, upd_ne hb]
   have hu : upd H1 dx (.xd [("place", .int i)]) e = none := by rw [upd_ne (Ne.symm hde)]; exact new
   have nb : ∀ b o, s2.heap.get? b = some o → b ≠ e := fun b o z y => by rw [y, mx.new] at z; cases z
   have nt : ∀ {b : Addr} {o : HO}, H1 b = some o → b ≠ e := fun z => ne_of_none z new
   have m1 : ∀ b, b ≠ e → upd H1 e (rawX e C none) b = H1 b := fun b hb => upd_ne hb
   have I3 := I2.call' ho un hok hg3 (by simp)
   refine ⟨rfl, t3, some dx, I3.kIn, he3, raise_from (H' := upd H1 dx (.xd [("place", .int i)])) I1 mx.new ho hg3 ⟨fun b o z n nf nx => ?_, fun b o z n nf nx => ?_, fun b o z n nx => ?_, fun b o z nx => ?_, fun b xs z => ?_, fun b o u z => ?_, fun b ps z => ?_⟩ (fun b o z => ?_) hu he3 (q dx hd1)⟩
   ·exact un.keep b o (mx.keeps b o z) (by rw [m1 b (nb b o z)]; exact n) nf nx
   ·exact un.slot b o (mx.keeps b o z) (by rw [m1 b (nb b o z)]; exact n) nf nx
   ·rw [← mv b (nb b o z)]; exact un.free b o (mx.keeps b o z) (by rw [m1 b (nb b o z)]; exact n) nx
   ·exact un.there b o (mx.keeps b o z) nx
   ·rw [← mv b (nt z)]; exact un.tups b xs (by rw [m1 b (nt z)]; exact z)
   ·rw [← mv b (nt z)]; exact un.frzs b o u (by rw [m1 b (nt z)]; exact z)
   ·rw [← mv b (nt z)]; exact un.tbls b ps (by rw [m1 b (nt z)]; exact z)
   ·have hb : b ≠ e := fun y => by rw [y, hu] at z; cases z
    rw [← mv b hb] at z
    refine (hok b o z).stay (fun _ _ _ y => y) (fun c y => ?_) fun c xs y => ?_
    ·rw [← mv c (fun y2 => by rw [y2, e3] at y; cases y)]; exact y
    ·rw [← mv c (fun y2 => by rw [y2, e3] at y; cases y)]; exact y
end
end L2
end
section
namespace L2
open PySem PySem.Spec PyProof.Rows
section
variable {X : Cx}
def rCountV : V → List V → Hp → VK → Prop := fun x vs H Q => ∃ (l : Addr) (xs : List V) (y : V), x = .ref l ∧ vs = [y] ∧ H l = some (.lst xs) ∧ xs.all flatV = true ∧ flatV y = true ∧ Q (.int (xs.countP (fun z => eqV z y) : Nat)) H
theorem countP_eqU {y : V} : ∀ {xs : List V} {us : List Value}, Vals xs us → xs.all flatV = true → us.countP (eqU y) = xs.countP fun z => eqV z y
 | _, _, .nil, _ => rfl
 | x :: xs, u :: us, .cons r t, f => by
  rw [List.all_cons, Bool.and_eq_true] at f
  rw [List.countP_cons, List.countP_cons, countP_eqU t f.2, eqU_of r f.1]
theorem mt_countB : MtM X "list.count" rCountV := by
 intro pins s σ H x vs v us Q I rx rv h
 obtain ⟨l, xs, y, rfl, rfl, hH, hf, hy, q⟩ := h
 cases rx
 obtain ⟨u, rfl, ru⟩ := vals1 rv
 obtain ⟨z, its, n, r, hl, e⟩ := I.lstM hH
 refine call_meets F.slot_list_count ⟨_, e, rfl⟩ F.entry_list_count (F.args_list_count_2 _ _) (SeqAt.list_countAt l its.toArray n none #[] u (eqU y)) ⟨e, fun w hw => mem_eqAt ru hy r hf w (by simpa using hw), ?_⟩
 rw [show its.toArray.toList = its from rfl, countP_eqU r hf]
 exact ⟨.int _, H, I.tok _, ⟨_, rfl⟩, q⟩
end
section
variable {σ : St} {H : Hp} {D : Ends} {Q : VK} {te ta tv : TE} {t : TA} {K : PySem.W.Frag} {W C : Addr} {E : XK}
theorem r_binit (h : t σ H fun vs H1 => ∃ e C f od z, vs = [.ref e, .str z] ∧ H1 e = some (rawX e C od) ∧ OwnX K W C f ∧ Q .non H1) : tBinit K W t σ H Q := h
theorem r_fstr (h : te σ H fun v H1 => ∃ i : Int, v = .int i ∧ i.natAbs < 10 ^ 12 ∧ ∀ z, Q (.str z) H1) : tFstr te σ H Q := h
theorem r_splace (h : tv σ H fun y H1 => ta σ H1 fun x H2 => ∃ e W C f, x = .ref e ∧ H2 e = some (rawX e C none) ∧ OwnX K W C f ∧ ExcK K C ∧ ∀ dx, H2 dx = none → D.nx σ (upd (upd H2 dx (.xd [("place", y)])) e (rawX e C (some dx)))) : sPlace K ta tv D σ H := h
theorem r_raiseI (h : t σ H fun vs H1 => ∃ i : Int, vs = [.int i] ∧ i.natAbs < 10 ^ 12 ∧ ∀ dx, H1 dx = none → E (.ref C) (some dx) (upd H1 dx (.xd [("place", .int i)]))) : tRaiseI C E t D σ H := h
end
section
variable {X : Cx} {e a b : Expr} {te ta tb : TE} {pos : Pos}
theorem ei_op {op : Operator} {r : R2} (ho : OpR X (binaryOp op) r) (ha : PEi X a ta) (hb : PE X b tb) : PEi X (.BinOp a op b pos) (tOp r ta tb) := ⟨pe_op ho ha.h hb⟩
end
end L2
end
section
namespace L2
open PySem PySem.Spec PyProof.Rows
open Builtin.Str (occurrences partsBetween)
end L2
end
section
namespace L2
open PySem PySem.Spec PyProof.Rows
end L2
end
section
namespace L2
open PySem PySem.Spec PyProof.Rows
theorem vals_of_at : ∀ {xs : List V} {us : List Value}, xs.length = us.length → (∀ (i : Nat) x u, xs[i]? = some x → us[i]? = some u → RelV x u) → Vals xs us
 | [], [], _, _ => .nil
 | x :: xs, u :: us, hl, h => .cons (h 0 x u rfl rfl) (vals_of_at (Nat.succ.inj hl) fun i y v e1 e2 => h (i + 1) y v e1 e2)
end L2
namespace L2
open PySem PySem.Spec PyProof.Rows
end L2
end
section
namespace L2
open PySem PySem.Spec PyProof.Rows
section
variable {κ : Type} [DecidableEq κ]
def valV (kvs : List (κ × V)) (k : κ) : Option V := (kvs.find? fun kv => decide (kv.1 = k)).map (·.2)
def putK (kvs : List (κ × V)) (k : κ) (v : V) : List (κ × V) :=
 if (kvs.any fun kv => decide (kv.1 = k)) = true then kvs.map (fun kv => if kv.1 = k then (kv.1, v) else kv) else kvs ++ [(k, v)]
theorem valV_pos {p : κ × V} {r : List (κ × V)} {k : κ} (e : p.1 = k) : valV (p :: r) k = some p.2 := by simp [valV, List.find?_cons, e]
theorem valV_neg {p : κ × V} {r : List (κ × V)} {k : κ} (e : ¬ p.1 = k) : valV (p :: r) k = valV r k := by simp [valV, List.find?_cons, e]
theorem length_putK (kvs : List (κ × V)) (k : κ) (v : V) : (putK kvs k v).length ≤ kvs.length + 1 := by
 unfold putK
 split
 ·rw [List.length_map]; omega
 ·rw [List.length_append, List.length_cons, List.length_nil]; omega
theorem RelO.getD {o : Option V} {u : Option Value} {d : V} {d' : Value} (r : RelO o u) (rd : RelV d d') : RelV (o.getD d) (u.getD d') := by
 cases o with
 | none => cases u with
  | none => exact rd
  | some _ => exact (show False from r).elim
 | some _ => cases u with
  | none => exact (show False from r).elim
  | some _ => exact r
theorem KV.val {kvs : List (κ × V)} {vs : List (κ × Value)} (r : KV kvs vs) (k : κ) : RelO (valV kvs k) (valueAt vs k) := by
 unfold KV at r
 induction r with
 | nil => exact True.intro
 | @cons p q ps qs h t ih =>
  obtain ⟨h1, h2⟩ := h
  by_cases e : p.1 = k
  ·have e' : q.1 = k := h1.symm.trans e
   have b : valueAt (q :: qs) k = some q.2 := by simp [valueAt, List.find?_cons, e']
   rw [valV_pos e, b]; exact h2
  ·have e' : ¬ q.1 = k := fun z => e (h1.trans z)
   have b : valueAt (q :: qs) k = valueAt qs k := by simp [valueAt, List.find?_cons, e']
   rw [valV_neg e, b]; exact ih
theorem KV.any {kvs : List (κ × V)} {vs : List (κ × Value)} (r : KV kvs vs) (k : κ) : (kvs.any fun kv => decide (kv.1 = k)) = vs.any fun kv => decide (kv.1 = k) := by
 unfold KV at r
 induction r with
 | nil => rfl
 | cons h t ih => rw [List.any_cons, List.any_cons, ih, h.1]
theorem KV.repl {kvs : List (κ × V)} {vs : List (κ × Value)} (r : KV kvs vs) (k : κ) {y : V} {u : Value} (ry : RelV y u) :
  KV (kvs.map fun kv => if kv.1 = k then (kv.1, y) else kv) (vs.map fun kv => if kv.1 = k then (kv.1, u) else kv) := by
 unfold KV at r ⊢
 induction r with
 | nil => exact .nil
 | @cons p q ps qs h t ih =>
  rw [List.map_cons, List.map_cons]
  refine .cons ?_ ih
  obtain ⟨h1, h2⟩ := h
  by_cases e : p.1 = k
  ·rw [if_pos e, if_pos (h1.symm.trans e)]; exact ⟨h1, ry⟩
  ·rw [if_neg e, if_neg (fun z => e (h1.trans z))]; exact ⟨h1, h2⟩
theorem KV.put {kvs : List (κ × V)} {vs : List (κ × Value)} (r : KV kvs vs) (k : κ) {y : V} {u : Value} (ry : RelV y u) : KV (putK kvs k y) (stored vs k u) := by
 unfold putK stored
 rw [r.any k]
 by_cases e : (vs.any fun kv => decide (kv.1 = k)) = true
 ·rw [if_pos e, if_pos e]; exact r.repl k ry
 ·rw [if_neg e, if_neg e]; exact Paired.snoc r ⟨rfl, ry⟩
theorem KV.length {kvs : List (κ × V)} {vs : List (κ × Value)} (r : KV kvs vs) : kvs.length = vs.length := Paired.length r
end
section
variable {P : Program} {w : World} {H : Hp} {h : Heap} {a : Addr}
theorem rd_of {u : HO} (ok : HOk P w H h) (e : Rd H a u) : ObjOk P w H h a u := e.ok ok
theorem dk_rd {kvs : List (Key × V)} (ok : HOk P w H h) (e : Rd H a (.dK kvs)) : kvs.length ≤ sizeLine ∧ (a == sysModules) = false ∧ ∃ vs, KV kvs vs ∧ h.DictOf (mixKind P w) a vs :=
 show ObjOk P w H h a (.dK kvs) from rd_of ok e
end
section
variable {X : Cx} {pins : List (Addr × Obj)} {σ : St} {H : Hp} {s : Shared} {a : Addr} {y v : V} {u r : Value} {o : Option V} {A : Around} {E : Value → Shared → Prop}
end
section
variable {X : Cx} {pins : List (Addr × Obj)} {σ : St} {H : Hp} {s : Shared} {a : Addr} {kvs : List (Key × V)} {k : Key} {u : Value} {A : Around} {E : Value → Shared → Prop}
theorem d_len {Q : Value → Shared → Prop} (I : Inv X pins σ H s) (e : Rd H a (.dK kvs)) (h : ∀ t s', Inv X pins σ H s' → Q (.int kvs.length t) s') : wpAny (model X.prog X.w) A (call (.builtin "len") [.ref a]) Q E s := by
 obtain ⟨z, hd, vs, rel, dd⟩ := dk_rd I.hok e
 refine call_len_dict hd dd (by rw [← rel.length]; rw [sizeLine_eq] at z; omega) ?_
 rw [← rel.length]
 exact h _ _ (I.tok _)
end
end L2
end
section
namespace TW
end TW
end
section
namespace L2
open PySem PySem.Spec PyProof.Rows
end L2
end
section
namespace L2
open PySem PySem.Spec PyProof.Rows
abbrev zObj (vs : Array Value) : Obj := { cls := .type "zip", dict := none, data := .fields vs, slots := #[] }
end L2
end
section
namespace L2
open PySem PySem.Spec PyProof.Rows
abbrev zHeld (h : Heap) (z TI TO T : Addr) (c : Bool) : Prop := h.get? z = some (zObj #[rawInt T, .bool c, .bool false, .ref TI, .ref TO])
section
variable {prog : Program} {w : World} {A : Around} {E : Value → Shared → Prop} {s : Shared}
theorem wp_alive {a : Addr} {Q : Option Obj → Shared → Prop} (h : Q (s.heap.get? a) s) : wpAny (model prog w) A (loadIfAlive a) Q E s := fun Γ p hΓ => by
 show Sem.wp _ _ (.loadIfAlive a _) _ _ _ _
 rw [Sem.wp_loadIfAlive]
 exact h
theorem held_free {z TI TO T : Addr} {c : Bool} {oT : Obj} {Q : Bool → Shared → Prop} (hz : zHeld s.heap z TI TO T c) (hT : s.heap.get? T = some oT) (q : ∀ h', zHeld h' z TI TO T true → Heap.SameBut z s.heap h' → Q false { s with heap := h' }) :
  wpAny (model prog w) A (Builtin.SmallTypes.ownedTupleIsFree (.ref z)) Q E s := by
 unfold Builtin.SmallTypes.ownedTupleIsFree
 refine wpAny_bind (wpAny_field hz rfl (x := rawInt T) rfl ?_)
 show wpAny _ _ (loadIfAlive (Int.toNat (T : Int)) >>= _) _ _ _
 refine wpAny_bind (wp_alive ?_)
 rw [Int.toNat_natCast, hT]
 show wpAny _ _ (field (.ref z) 1 >>= _) _ _ _
 refine wpAny_bind (wpAny_field hz rfl (x := .bool c) rfl ?_)
 cases c with
 | true =>
  exact wpAny_pure (q s.heap hz (Heap.SameBut.refl _ _))
 | false =>
  refine wpAny_bind (wpAny_setField_rec hz (by simp) fun h₁ hz₁ hs₁ => ?_)
  exact wpAny_pure (q h₁ hz₁ hs₁)
theorem held_item {z TI TO T i1 i2 l1 l2 : Addr} {k1 k2 : Nat} {xs ys : Array Value} {x y : Value} {c : Bool} {oT : Obj} {Q : Value → Shared → Prop} (D : ZipApart z TI TO i1 i2 l1 l2)
  (hz : zHeld s.heap z TI TO T c) (hT : s.heap.get? T = some oT) (hTI : IsPair s.heap TI (.ref i1) (.ref i2)) (h1 : s.heap.IsListIter i1 l1 k1) (h2 : s.heap.IsListIter i2 l2 k2) (hl1 : s.heap.IsList l1 xs) (hl2 : s.heap.IsList l2 ys) (hx : xs[k1]? = some x) (hy : ys[k2]? = some y)
  (hQ : ∀ h', zHeld h' z TI TO T true → h'.IsListIter i1 l1 (k1 + 1) → h'.IsListIter i2 l2 (k2 + 1) → IsPair h' s.heap.objs.size x y → h'.objs.size = s.heap.objs.size + 1 → (∀ b o, b ≠ z → b ≠ i1 → b ≠ i2 → s.heap.get? b = some o → h'.get? b = some o) → Q (.ref s.heap.objs.size) { s with heap := h' }) :
  wpAny (model prog w) A (Builtin.«zip.__next__» ⟨[.ref z], []⟩) (fun fin s' => ∃ v, fin = .done (.ret v) ∧ Q v s') E s := by
 show wpAny _ _ (field (.ref z) 2 >>= _) _ _ _
 refine wpAny_bind (wpAny_field hz rfl (x := .bool false) rfl ?_)
 show wpAny _ _ (field (.ref z) 3 >>= _) _ _ _
 refine wpAny_bind (wpAny_field hz rfl (x := .ref TI) rfl ?_)
 refine wpAny_bind (wpAny_seqItems hTI rfl ?_)
 show wpAny _ _ (Builtin.SmallTypes.ownedTupleIsFree (.ref z) >>= _) _ _ _
 refine wpAny_bind (held_free hz hT fun h₁ hz₁ hs₁ => ?_)
 rw [if_neg (by decide)]
 refine wpAny_bind ?_
 rw [← Array.forIn_toList]
 simp only [List.forIn_cons, List.forIn_nil]
 refine wpAny_bind (wpAny_bind (wpAny_holding ?_))
 show wpAny _ _ (Builtin.SmallTypes.nextOf (.ref i1) >>= _) _ _ _
 refine wpAny_bind (wpAny_nextOf_list_item (h1.extBut hs₁.extBut D.i1z) (hl1.extBut hs₁.extBut D.l1z) hx fun h₂ h1₂ hs₂ => wpAny_pure ?_)
 refine wpAny_pure ?_
 refine wpAny_bind (wpAny_bind (wpAny_holding ?_))
 show wpAny _ _ (Builtin.SmallTypes.nextOf (.ref i2) >>= _) _ _ _
 refine wpAny_bind (wpAny_nextOf_list_item ((h2.extBut hs₁.extBut D.i2z).extBut hs₂.extBut D.i12.symm) ((hl2.extBut hs₁.extBut D.l2z).extBut hs₂.extBut D.l2i1) hy fun h₄ h2₄ hs₄ => wpAny_pure ?_)
 refine wpAny_pure (wpAny_pure ?_)
 have hsz : h₄.objs.size = s.heap.objs.size := by rw [hs₄.1, hs₂.1, hs₁.1]
 have kp : ∀ b o, b ≠ z → b ≠ i1 → b ≠ i2 → s.heap.get? b = some o → h₄.get? b = some o := fun b o b1 b2 b3 e => hs₄.extBut _ _ b3 (hs₂.extBut _ _ b2 (hs₁.extBut _ _ b1 e))
 have hz₄ : zHeld h₄ z TI TO T true := hs₄.extBut _ _ D.i2z.symm (hs₂.extBut _ _ D.i1z.symm hz₁)
 show wpAny _ _ (newTuple [x, y] >>= _) _ _ _
 refine wpAny_bind (wpAny_newTuple (wpAny_pure ⟨_, rfl, ?_⟩))
 have hp : h₄.objs.size = s.heap.objs.size := hsz
 rw [hp]
 refine hQ _ (Heap.get?_push_of_some _ hz₄) ((h1₂.extBut hs₄.extBut D.i12).at fun o e => Heap.get?_push_of_some _ e) (h2₄.at fun o e => Heap.get?_push_of_some _ e) ?_ (by rw [Heap.size_push, hp]) fun b o b1 b2 b3 e => Heap.get?_push_of_some _ (kp b o b1 b2 b3 e)
 rw [← hp]
 exact Heap.get?_push_size _ rfl
theorem held_next {z TI TO T i1 i2 l1 l2 : Addr} {k1 k2 : Nat} {xs ys : Array Value} {x y : Value} {c : Bool} {oT : Obj} {Q : Option Value → Shared → Prop} (D : ZipApart z TI TO i1 i2 l1 l2)
  (hz : zHeld s.heap z TI TO T c) (hT : s.heap.get? T = some oT) (hTI : IsPair s.heap TI (.ref i1) (.ref i2)) (h1 : s.heap.IsListIter i1 l1 k1) (h2 : s.heap.IsListIter i2 l2 k2) (hl1 : s.heap.IsList l1 xs) (hl2 : s.heap.IsList l2 ys) (hx : xs[k1]? = some x) (hy : ys[k2]? = some y)
  (hQ : ∀ h', zHeld h' z TI TO T true → h'.IsListIter i1 l1 (k1 + 1) → h'.IsListIter i2 l2 (k2 + 1) → IsPair h' s.heap.objs.size x y → h'.objs.size = s.heap.objs.size + 1 → (∀ b o, b ≠ z → b ≠ i1 → b ≠ i2 → s.heap.get? b = some o → h'.get? b = some o) → Q (some (.ref s.heap.objs.size)) { s with heap := h' }) :
  wpAny (model prog w) A (pyNext (.ref z)) Q E s := by
 have hTy : s.TypeIs (.ref z) "zip" := ⟨_, hz, rfl⟩
 unfold pyNext
 exact wpAny_bind (wpAny_attempt (wpAny_callSpecial?_slot (name := Str.ofString "__next__") hTy PySem.F.slot_zip_next
  (wpAny_call_entry PySem.F.slot_zip_next hTy PySem.F.entry_zip_next
   (held_item D hz hT hTI h1 h2 hl1 hl2 hx hy fun h' a1 a2 a3 a4 a5 a6 => wpAny_pure (hQ h' a1 a2 a3 a4 a5 a6)) (PySem.F.args_zip_next_1 _))))
theorem held_end {z TI TO T i1 i2 l1 l2 : Addr} {k1 : Nat} {xs : Array Value} {c : Bool} {oT : Obj} {Q : Option Value → Shared → Prop} (hh : A.handled = none) (D : ZipApart z TI TO i1 i2 l1 l2)
  (hz : zHeld s.heap z TI TO T c) (hT : s.heap.get? T = some oT) (hTI : IsPair s.heap TI (.ref i1) (.ref i2)) (h1 : s.heap.IsListIter i1 l1 k1) (hl1 : s.heap.IsList l1 xs) (hx : xs[k1]? = none)
  (hQ : ∀ h', (∀ b o, b ≠ z → b ≠ i1 → b ≠ i2 → s.heap.get? b = some o → h'.get? b = some o) → Q none { s with heap := h' }) :
  wpAny (model prog w) A (pyNext (.ref z)) Q E s := by
 have hTy : s.TypeIs (.ref z) "zip" := ⟨_, hz, rfl⟩
 unfold pyNext
 refine wpAny_bind (wpAny_attempt (wpAny_callSpecial?_slot (name := Str.ofString "__next__") hTy PySem.F.slot_zip_next
  (wpAny_call_entry PySem.F.slot_zip_next hTy PySem.F.entry_zip_next ?_ (PySem.F.args_zip_next_1 _))))
 show wpAny _ _ (field (.ref z) 2 >>= _) _ _ _
 refine wpAny_bind (wpAny_field hz rfl (x := .bool false) rfl ?_)
 show wpAny _ _ (field (.ref z) 3 >>= _) _ _ _
 refine wpAny_bind (wpAny_field hz rfl (x := .ref TI) rfl ?_)
 refine wpAny_bind (wpAny_seqItems hTI rfl ?_)
 show wpAny _ _ (Builtin.SmallTypes.ownedTupleIsFree (.ref z) >>= _) _ _ _
 refine wpAny_bind (held_free hz hT fun h₁ hz₁ hs₁ => ?_)
 rw [if_neg (by decide)]
 refine wpAny_bind ?_
 rw [← Array.forIn_toList]
 simp only [List.forIn_cons, List.forIn_nil]
 refine wpAny_bind (wpAny_bind (wpAny_holding ?_))
 show wpAny _ _ (Builtin.SmallTypes.nextOf (.ref i1) >>= _) _ _ _
 refine wpAny_bind (wpAny_nextOf_list_end hh (h1.extBut hs₁.extBut D.i1z) (hl1.extBut hs₁.extBut D.l1z) hx fun h₂ e hs₂ he => ?_)
 obtain ⟨oe, hoe, hce⟩ := he
 show wpAny _ _ (isInstance (.ref e) (.type "StopIteration") >>= _) _ _ _
 refine wpAny_bind (wpAny_isInstance (T := "StopIteration") (b := true) ⟨oe, hoe, hce⟩ isSubtype_stop ?_)
 exact wpAny_pure (hQ _ fun b o b1 b2 b3 e => hs₂ _ _ b2 (hs₁.extBut _ _ b1 e))
end
end L2
end
section
namespace L2
open PySem PySem.Spec PyProof.Rows
section
variable {prog : Program} {w : World} {A : Around} {E : Value → Shared → Prop} {R : Result → Shared → Prop}
theorem plain_upd_loop : plainId "dict.update.loop" = true := by decide +kernel
theorem entry_upd_loop : entryFor table "dict.update.loop" = some Builtin.«dict.update.loop» := entryFor_of_tree (by kernel_rfl)
structure DzA (d z TI TO i1 i2 l1 l2 : Addr) : Prop where
 za : ZipApart z TI TO i1 i2 l1 l2
 dz : d ≠ z
 dI : d ≠ TI
 dO : d ≠ TO
 d1 : d ≠ i1
 d2 : d ≠ i2
 dl : d ≠ l1
 dm : d ≠ l2
end
end L2
end
section
namespace L2
open PySem PySem.Spec PyProof.Rows
end L2
end
section
namespace L2
open PySem PySem.Spec PyProof.Rows
def mrgI (vs : List (Key × Value)) : List Int → List Value → List (Key × Value)
 | k :: ks, u :: us => mrgI (stored vs (.inl k) u) ks us
 | _, _ => vs
theorem mrgI_nil {vs : List (Key × Value)} : ∀ (ks : List Int), mrgI vs ks [] = vs
 | [] => rfl
 | _ :: _ => rfl
theorem mrgI_at {vs : List (Key × Value)} {ks : List Int} {us : List Value} {i : Nat} {n : Int} {u : Value} (h1 : ks[i]? = some n) (h2 : us[i]? = some u) : mrgI vs (ks.drop i) (us.drop i) = mrgI (stored vs (.inl n) u) (ks.drop (i + 1)) (us.drop (i + 1)) := by
 obtain ⟨l1, e1⟩ := List.getElem?_eq_some_iff.mp h1
 obtain ⟨l2, e2⟩ := List.getElem?_eq_some_iff.mp h2
 rw [List.drop_eq_getElem_cons l1, List.drop_eq_getElem_cons l2, e1, e2]
 rfl
end L2
end
section
namespace L2
open PySem PySem.Spec PyProof.Rows
def mrgV (kvs : List (Key × V)) : List Int → List V → List (Key × V)
 | k :: ks, y :: ys => mrgV (putK kvs (.inl k) y) ks ys
 | _, _ => kvs
theorem kv_mrg : ∀ {ks : List Int} {ys : List V} {us : List Value} {kvs : List (Key × V)} {vs : List (Key × Value)}, KV kvs vs → Vals ys us → KV (mrgV kvs ks ys) (mrgI vs ks us)
 | [], _, _, _, _, h, _ => h
 | _ :: _, _, _, _, _, h, .nil => h
 | k :: ks, y :: ys, u :: us, kvs, vs, h, .cons r t => by
  show KV (mrgV (putK kvs (.inl k) y) ks ys) (mrgI (stored vs (.inl k) u) ks us)
  exact kv_mrg (h.put (.inl k) r) t
end L2
end
section
namespace L2
open PySem PySem.Spec PyProof.Rows
theorem lk_list_keys : typeLookup (.type "list") "keys" = pure none := by rw [typeLookup_type, builtinLookup_eq_fast]; kernel_rfl
theorem lk_list_hook : typeLookup (.type "list") "__getattr__" = pure none := by rw [typeLookup_type, builtinLookup_eq_fast]; kernel_rfl
theorem meets_keysL (a : Addr) (vs : Array Value) (n : Nat) (u : Tok) : Meets (Builtin.«object.__getattribute__» ⟨[.ref a, .str "keys" u], []⟩) (fun A R s => s.heap.get? a = some (seqObj "list" vs n) ∧ raisesAttr (.ref a) "keys" A R s) :=
 Meets.of_wp fun prog w A R s hs => by
  obtain ⟨hp, g, d, tk, os⟩ := s
  obtain ⟨hx, hs⟩ := hs
  have hT : (⟨hp, g, d, tk, os⟩ : Shared).TypeIs (.ref a) "list" := ⟨_, hx, rfl⟩
  have f4 := lk_list_keys
  repeat (any_goals (first | assumption | with_reducible refine wpAny_loadPart_at hx ?_ | wp_step))
  exact wpAny_raiseAttrError hs.1 hs.2 (by decide +kernel)
section
variable {prog : Program} {w : World} {A : Around} {E : Value → Shared → Prop} {s : Shared}
theorem no_keysL {a : Addr} {vs : Array Value} {n : Nat} {Q : Option Value → Shared → Prop} (hx : s.heap.get? a = some (seqObj "list" vs n)) (hA : A.handled = none) (q : ∀ h' tk, (∀ b o, s.heap.get? b = some o → h'.get? b = some o) → Q none { s with heap := h', toks := tk }) :
  wpAny (model prog w) A (getAttr? (.ref a) "keys") Q E s := by
 obtain ⟨hp, g, d, tk, os⟩ := s
 have hT : ∀ tk', (⟨hp, g, d, tk', os⟩ : Shared).TypeIs (.ref a) "list" := fun _ => ⟨_, hx, rfl⟩
 have f1 := sub_AttributeError
 have f3 := PySem.F.slot_list_getattribute.lookup
 have f4 := PySem.F.slot_list_getattribute.bind (.ref a)
 have f5 := lk_list_hook
 unfold getAttr? getAttrBy? getAttrBy
 repeat (any_goals (first | assumption | exact hT _ | ((with_reducible show wpAny _ _ (call (Value.builtin "list.__getattribute__") _ _) _ _ _); refine call_meets PySem.F.slot_list_getattribute (hT _) PySem.F.entry_list_ga (PySem.F.args_list_getattribute_2 _ _) (meets_keysL a vs n _) ⟨hx, hA, fun h' tk' e hx' => ?_⟩) | wp_step))
 obtain ⟨t', u', he⟩ := hx'.there
 show wpAny _ _ (getattributeRaised _ _ _ _ _ _ _) _ _ _
 unfold getattributeRaised
 repeat (any_goals (first | assumption | wp_step))
 exact q _ _ hx'.keeps
end
def IsPr (h : Heap) (T : Addr) (x y : Value) : Prop := ∃ o n, h.get? T = some o ∧ o.cls = .type "tuple" ∧ o.data = .seq #[x, y] n
theorem IsPr.keep {h h' : Heap} {T : Addr} {x y : Value} (p : IsPr h T x y) (k : ∀ o, h.get? T = some o → h'.get? T = some o) : IsPr h' T x y := let ⟨o, n, e, r⟩ := p; ⟨o, n, k o e, r⟩
theorem IsPr.lt {h : Heap} {T : Addr} {x y : Value} (p : IsPr h T x y) : T < h.objs.size := let ⟨_, _, e, _⟩ := p; Heap.lt_size e
section
variable {prog : Program} {w : World} {A : Around} {E : Value → Shared → Prop} {R : Result → Shared → Prop}
theorem pair_itemsL {s : Shared} {T : Addr} {x y : Value} {Q : List Value → Shared → Prop} (hT : IsPr s.heap T x y) (h : Q [x, y] s) : wpAny (model prog w) A (Builtin.Dict.pairItems (.ref T)) Q E s := by
 obtain ⟨o, n, e, c, d⟩ := hT
 have ty : s.TypeIs (.ref T) "tuple" := ⟨_, e, c⟩
 unfold Builtin.Dict.pairItems
 refine wpAny_bind (wpAny_typeOf ty ?_)
 rw [if_pos (by decide)]
 exact wpAny_bind (wpAny_seqItems e d (wpAny_pure h))
theorem upd_goL {d it l : Addr} {items : Array Value} {ys : List Value} {ks : List Int} (hdi : d ≠ it) (hli : l ≠ it) (hld : l ≠ d) (hh : A.handled = none) : ∀ (m i : Nat) (s : Shared) (tk : Tok) (vs : List (Key × Value)), items.size - i = m → i ≤ items.size →
   (∀ (j : Nat) x, items[j]? = some x → ∃ n t y T, ks[j]? = some n ∧ ys[j]? = some y ∧ x = Value.ref T ∧ T ≠ it ∧ T ≠ d ∧ IsPr s.heap T (.int n t) y) → ks.length = items.size → ys.length = items.size →
   s.heap.IsListIter it l i → s.heap.IsList l items → s.heap.DictOf (mixKind prog w) d vs → vs.length + (items.size - i) ≤ sizeLine →
   (∀ h' k vs', h'.DictOf (mixKind prog w) d vs' → vs' = mrgI vs (ks.drop i) (ys.drop i) → (∀ b o, b ≠ it → b ≠ d → s.heap.get? b = some o → h'.get? b = some o) → R (.ok (.ret .none)) { s with heap := h', toks := k }) →
   codeAny (model prog w) A (.builtin "dict.update.loop" ⟨[.ref d, .ref it, .int i tk, .none], []⟩) R s := by
 intro m
 induction m with
 | zero =>
  intro i s tk vs hm hi hp hk hy h1 hl hd hsz q
  refine codeAny_builtin entry_upd_loop ?_
  rw [Around.under_plainId plain_upd_loop _]
  show wpAny _ A.in1 (pyNext (.ref it) >>= _) _ _ s
  refine wpAny_bind (wpAny_pyNext_list_end (by exact hh) h1 hl (Array.getElem?_eq_none (by omega)) fun h' kp => ?_)
  show wpAny _ A.in1 (Builtin.Dict.addKeywords d [] >>= _) _ _ _
  refine wpAny_bind (wpAny_pure (wpAny_pure ?_))
  obtain ⟨o, es, ep, ho, r⟩ := hd
  exact q h' s.toks vs ⟨o, es, ep, kp _ _ hdi ho, r⟩ (by rw [List.drop_of_length_le (l := ys) (by omega), mrgI_nil]) fun b o b1 _ e => kp b o b1 e
 | succ m ih =>
  intro i s tk vs hm hi hp hk hy h1 hl hd hsz q
  obtain ⟨x, hx⟩ : ∃ x, items[i]? = some x := ⟨_, Array.getElem?_eq_getElem (show i < items.size by omega)⟩
  obtain ⟨n, t, y, T, hn, hyi, rfl, hTi, hTd, hT⟩ := hp i x hx
  refine codeAny_builtin entry_upd_loop ?_
  rw [Around.under_plainId plain_upd_loop _]
  show wpAny _ A.in1 (pyNext (.ref it) >>= _) _ _ s
  refine wpAny_bind (wpAny_pyNext_list_item h1 hl hx fun h' h1' sb => ?_)
  have kp : ∀ b o, b ≠ it → s.heap.get? b = some o → h'.get? b = some o := fun b o hb e => (sb.2 b hb).trans e
  have hd' : h'.DictOf (mixKind prog w) d vs := by
   obtain ⟨o, es, ep, ho, r⟩ := hd
   exact ⟨o, es, ep, kp _ _ hdi ho, r⟩
  show wpAny _ A.in1 (holding _ _ >>= _) _ _ _
  refine wpAny_bind (wpAny_holding (wpAny_bind (wpAny_tryCatch (pair_itemsL (hT.keep fun o e => kp _ _ hTi e) ?_))))
  show wpAny _ A.in1 (holding _ (dictSet d (.int n t) y)) _ _ _
  refine wpAny_holding (wpAny_dictSet_pairs (knd := mixKind prog w) (k := .inl n) (mixKind_int prog w n t) hd' (fun h2 dd' hs => ?_) (by omega))
  have k2 : ∀ b o, b ≠ it → b ≠ d → s.heap.get? b = some o → h2.get? b = some o := fun b o b1 b4 e => (hs.2 b b4).trans (kp b o b1 e)
  have hln := stored_length_le vs (Sum.inl n : Key) y
  refine wpAny_pure ⟨plainId_quiet plain_upd_loop _, ?_⟩
  refine ih (i + 1) _ _ _ (by omega) (by omega) (fun j x hx => ?_) hk hy (h1'.at fun o e => (hs.2 _ hdi.symm).trans e) (hl.at fun o e => k2 _ o hli hld e) dd' (by omega) fun h3 k vs' hd3 e3 kp3 => ?_
  ·obtain ⟨n, t, y, T, a1, a2, a3, a4, a5, a6⟩ := hp j x hx
   exact ⟨n, t, y, T, a1, a2, a3, a4, a5, a6.keep fun o e => k2 _ _ a4 a5 e⟩
  ·exact q h3 k vs' hd3 (by rw [e3, mrgI_at hn hyi]) fun b o b1 b4 e => kp3 b o b1 b4 (k2 b o b1 b4 e)
theorem call_dict_pairs {s : Shared} {l : Addr} {items : Array Value} {n0 : Nat} {ys : List Value} {ks : List Int} {Q : Value → Shared → Prop} (hh : A.handled = none) (hl : s.heap.get? l = some (seqObj "list" items n0)) (hk : ks.length = items.size) (hy : ys.length = items.size) (hsz : items.size ≤ sizeLine)
  (hp : ∀ (j : Nat) x, items[j]? = some x → ∃ n t y T, ks[j]? = some n ∧ ys[j]? = some y ∧ x = Value.ref T ∧ IsPr s.heap T (.int n t) y)
  (q : ∀ h' k vs', h'.DictOf (mixKind prog w) s.heap.objs.size vs' → vs' = mrgI [] ks ys → (∀ b o, s.heap.get? b = some o → h'.get? b = some o) → Q (.ref s.heap.objs.size) { s with heap := h', toks := k }) :
  wpAny (model prog w) A (call (.type "dict") [.ref l]) Q E s := by
 refine callType_codes (Q₁ := fun obj s₁ => obj = .ref s.heap.objs.size ∧ s₁ = { s with heap := s.heap.push { cls := .type "dict", data := .dict #[] } }) PySem.F.kt_called_dict (PySem.F.kt_typeCall_dict_1 _) PySem.F.entry_dict_init (kt_code_dict_new _ ⟨rfl, rfl⟩) ?_
 rintro obj s₁ ⟨rfl, rfl⟩
 have hnew : (s.heap.push { cls := .type "dict", data := .dict #[] }).DictOf (mixKind prog w) s.heap.objs.size [] := Heap.DictOf.new s.heap
 have up : ∀ b o, s.heap.get? b = some o → (s.heap.push { cls := .type "dict", data := .dict #[] }).get? b = some o := fun b o e => Heap.get?_push_of_some _ e
 have lt : ∀ {c o}, s.heap.get? c = some o → c ≠ s.heap.objs.size := fun e => Nat.ne_of_lt (Heap.lt_size e)
 refine ⟨hnew.typeIs, PySem.F.args_dict_init_2 _ _, ?_⟩
 unfold Builtin.«dict.__init__»
 refine wpAny_bind ?_
 unfold Builtin.Dict.selfAndRest
 refine wpAny_bind (wpAny_notOrdered_dict hnew.typeIs ?_)
 show wpAny _ _ (pure (s.heap.objs.size, [Value.ref l])) _ _ _
 refine wpAny_pure ?_
 show wpAny _ _ (Builtin.Dict.updateFrom "dict.__init__" s.heap.objs.size (.ref l) [] .none) _ _ _
 unfold Builtin.Dict.updateFrom
 have hl' := up _ _ hl
 refine wpAny_bind (wpAny_typeOf (T := "list") ⟨_, hl', rfl⟩ ?_)
 rw [if_pos (by decide)]
 refine wpAny_bind (no_keysL hl' (by exact hh) fun h' tk kp => ?_)
 rw [if_pos (by rfl)]
 have hli : h'.IsList l items := ⟨_, kp _ _ hl', rfl, _, rfl⟩
 refine wpAny_bind (wpAny_rule (wpAny_bind (wpAny_pyIter_list hli ?_)))
 have up2 : ∀ b o, s.heap.get? b = some o → h'.get? b = some o := fun b o e => kp _ _ (up b o e)
 obtain ⟨od, esd, epd, hod, rd⟩ := hnew
 have hd2 := kp _ _ hod
 have nI : ∀ {c o}, h'.get? c = some o → c ≠ h'.objs.size := fun e => Nat.ne_of_lt (Heap.lt_size e)
 refine wpAny_pure ⟨plainId_quiet plain_upd_loop _, ?_⟩
 refine upd_goL (ks := ks) (ys := ys) (l := l) (items := items) (nI hd2) (nI (kp _ _ hl')) (lt hl) (by exact hh) _ 0 _ _ [] rfl (Nat.zero_le _) (fun j x hx => ?_) hk hy ⟨_, Heap.get?_push_size _ rfl, rfl, rfl⟩ ⟨_, Heap.get?_push_of_some _ (kp _ _ hl'), rfl, _, rfl⟩ ⟨od, esd, epd, Heap.get?_push_of_some _ hd2, rd⟩ (by simpa using hsz) fun h3 k vs' hd3 e3 kp3 => ?_
 ·obtain ⟨n, t, y, T, a1, a2, a3, a4⟩ := hp j x hx
  exact ⟨n, t, y, T, a1, a2, a3, (by obtain ⟨o, _, e, _⟩ := a4; exact nI (up2 _ _ e)), (by obtain ⟨o, _, e, _⟩ := a4; exact lt e), a4.keep fun o e => Heap.get?_push_of_some _ (up2 _ _ e)⟩
 ·exact ⟨rfl, q h3 k vs' hd3 (by simpa using e3) fun b o e => kp3 b o (nI (up2 _ _ e)) (lt e) (Heap.get?_push_of_some _ (up2 _ _ e))⟩
end
def PrsAt (H : Hp) (as : List Addr) (ks : List Int) (ys : List V) : Prop := as.length = ks.length ∧ as.length = ys.length ∧ ∀ (i : Nat) a k y, as[i]? = some a → ks[i]? = some k → ys[i]? = some y → H a = some (.tup [.int k, y])
def rDictP : List V → Hp → VK → Prop := fun xs H Q => ∃ (l : Addr) (as : List Addr) (ks : List Int) (ys : List V), xs = [.ref l] ∧ H l = some (.lst (as.map V.ref)) ∧ PrsAt H as ks ys ∧ (mrgV [] ks ys).length ≤ ks.length ∧ ∀ p, H p = none → Q (.ref p) (upd H p (.dK (mrgV [] ks ys)))
theorem vals_refs : ∀ {as : List Addr} {us : List Value}, Vals (as.map V.ref) us → us = as.map Value.ref
 | [], _, h => by cases h; rfl
 | a :: as, _, h => by
  cases h with
  | cons h1 h2 => rw [show _ = Value.ref a from h1, vals_refs h2]; rfl
theorem pr_vals : ∀ {ys : List V} (f : Nat → Value), (∀ (i : Nat) y, ys[i]? = some y → RelV y (f i)) → Vals ys ((List.range ys.length).map f)
 | [], _, _ => .nil
 | y :: ys, f, h => by
  rw [List.length_cons, List.range_succ_eq_map, List.map_cons, List.map_map]
  exact .cons (h 0 y rfl) (pr_vals (fun i => f (i + 1)) fun i z e => h (i + 1) z e)
theorem call_dictP {X : Cx} (hcal : X.calm = true) : CallR X (.type "dict") rDictP := by
 intro pins s σ H xs us Q I r h
 obtain ⟨l, as, ks, ys, rfl, hl, ⟨h1, h2, hp⟩, hml, q⟩ := h
 obtain ⟨u, rfl, ru⟩ := vals1 r
 cases ru
 obtain ⟨hz, its, n0, rv, hit⟩ := I.hok l _ hl
 obtain rfl := vals_refs rv
 rw [List.length_map] at hz
 have pr : ∀ i : Nat, ∃ u : Value, ∀ a k y, as[i]? = some a → ks[i]? = some k → ys[i]? = some y → RelV y u ∧ ∃ t, IsPr s.heap a (.int k t) u := fun i => by
  by_cases hi : i < as.length
  ·have e := hp i _ _ _ (List.getElem?_eq_getElem hi) (List.getElem?_eq_getElem (by omega)) (List.getElem?_eq_getElem (by omega))
   obtain ⟨_, its, rv, o, e1, e2, n, e3⟩ := I.hok _ _ e
   obtain ⟨u1, u2, rfl, r1, r3⟩ := vals2 rv
   obtain ⟨t, rfl⟩ := r1
   refine ⟨u2, fun a k y a1 a2 a3 => ?_⟩
   rw [List.getElem?_eq_getElem hi] at a1
   rw [List.getElem?_eq_getElem (by omega)] at a2 a3
   cases a1; cases a2; cases a3
   exact ⟨r3, t, o, n, e1, e2, e3⟩
  ·exact ⟨.none, fun a k y a1 _ _ => absurd (List.getElem?_eq_some_iff.mp a1).1 hi⟩
 let f : Nat → Value := fun i => (pr i).choose
 have hf : ∀ i a k y, as[i]? = some a → ks[i]? = some k → ys[i]? = some y → RelV y (f i) ∧ ∃ t, IsPr s.heap a (.int k t) (f i) := fun i => (pr i).choose_spec
 have hy : Vals ys ((List.range ys.length).map f) := pr_vals f fun i y e => by
  have hi := (List.getElem?_eq_some_iff.mp e).1
  exact (hf i _ _ y (List.getElem?_eq_getElem (by omega)) (List.getElem?_eq_getElem (by omega)) e).1
 refine call_dict_pairs (ks := ks) (ys := (List.range ys.length).map f) (I.ok.hd hcal) hit (by simp; omega) (by simp; omega) (by simpa using hz) (fun j x hx => ?_) fun h' k vs' d2 ev kp => ?_
 ·have hj : j < as.length := by have := (Array.getElem?_eq_some_iff.mp hx).1; simpa using this
  have ex : x = Value.ref as[j] := by
   have : (as.map Value.ref)[j]? = some x := by simpa using hx
   rw [List.getElem?_map, List.getElem?_eq_getElem hj] at this
   exact (Option.some.inj this).symm
  obtain ⟨_, t, hpr⟩ := hf j _ _ _ (List.getElem?_eq_getElem hj) (List.getElem?_eq_getElem (by omega : j < ks.length)) (List.getElem?_eq_getElem (by omega : j < ys.length))
  exact ⟨_, t, f j, as[j], List.getElem?_eq_getElem (by omega), by rw [List.getElem?_map, List.getElem?_range (by omega)]; rfl, ex, hpr⟩
 ·have hk : KV (mrgV [] ks ys) vs' := by rw [ev]; exact kv_mrg .nil hy
  refine ⟨.ref s.heap.objs.size, _, I.laid (o := .dK (mrgV [] ks ys)) (t' := k) kp (Nat.le_refl _) ⟨by omega, ?_, vs', hk, d2⟩, rfl, q _ (I.hok.fresh (Nat.le_refl _))⟩
  exact beq_eq_false_iff_ne.mpr (Ne.symm (Nat.ne_of_lt (inv_big I)))
end L2
end
section
namespace L2
open PySem PySem.Spec PyProof.Rows
theorem zip_no_len : typeLookup (.type "zip") "__len__" = pure none := by rw [typeLookup_type, builtinLookup_eq_fast]; kernel_rfl
theorem zip_no_hint : typeLookup (.type "zip") "__length_hint__" = pure none := by rw [typeLookup_type, builtinLookup_eq_fast]; kernel_rfl
def PrsV (h : Heap) (lo : Nat) (xs ys acc : Array Value) : Prop := (∀ (j : Nat) v, acc[j]? = some v → ∃ T x y, v = Value.ref T ∧ lo ≤ T ∧ xs[j]? = some x ∧ ys[j]? = some y ∧ IsPair h T x y) ∧ ∀ (j k : Nat) v, acc[j]? = some v → acc[k]? = some v → j = k
theorem PrsV.keep {h h' : Heap} {lo : Nat} {xs ys acc : Array Value} (p : PrsV h lo xs ys acc) (k : ∀ b o, lo ≤ b → h.get? b = some o → h'.get? b = some o) : PrsV h' lo xs ys acc := ⟨fun j v e => by
 obtain ⟨T, x, y, e1, e2, e3, e4, e5⟩ := p.1 j v e
 exact ⟨T, x, y, e1, e2, e3, e4, k _ _ e2 e5⟩, p.2⟩
theorem PrsV.push {h : Heap} {lo T : Nat} {x y : Value} {xs ys acc : Array Value} (p : PrsV h lo xs ys acc) (hn : ∀ j : Nat, acc[j]? ≠ some (.ref T)) (hT : lo ≤ T) (hx : xs[acc.size]? = some x) (hy : ys[acc.size]? = some y) (hp : IsPair h T x y) : PrsV h lo xs ys (acc.push (.ref T)) := by
 refine ⟨fun j v e => ?_, fun j k v e1 e2 => ?_⟩
 ·rw [Array.getElem?_push] at e
  by_cases hj : j = acc.size
  ·rw [if_pos hj] at e
   cases e
   rw [hj]
   exact ⟨T, x, y, rfl, hT, hx, hy, hp⟩
  ·rw [if_neg hj] at e
   exact p.1 j v e
 ·rw [Array.getElem?_push] at e1 e2
  by_cases hj : j = acc.size
  ·by_cases hk : k = acc.size
   ·rw [hj, hk]
   ·rw [if_pos hj] at e1
    rw [if_neg hk] at e2
    cases e1
    exact absurd e2 (hn k)
  ·by_cases hk : k = acc.size
   ·rw [if_neg hj] at e1
    rw [if_pos hk] at e2
    cases e2
    exact absurd e1 (hn j)
   ·rw [if_neg hj] at e1
    rw [if_neg hk] at e2
    exact p.2 j k v e1 e2
theorem PrsV.below {h : Heap} {lo : Nat} {xs ys acc : Array Value} (p : PrsV h lo xs ys acc) (j : Nat) : acc[j]? ≠ some (.ref h.objs.size) := fun e => by
 obtain ⟨T, x, y, e1, _, _, _, e5⟩ := p.1 j _ e
 cases e1
 exact Nat.lt_irrefl _ (Heap.lt_size e5)
section
variable {prog : Program} {w : World} {A : Around} {E : Value → Shared → Prop} {R : Result → Shared → Prop}
abbrev lstO (acc : Array Value) (c : Nat) : Obj := { cls := .type "list", dict := none, data := .seq acc c, slots := #[] }
theorem ext_go {S z TI TO i1 i2 l1 l2 T lo : Addr} {xs ys : Array Value} (D : DzA S z TI TO i1 i2 l1 l2) (hTz : T ≠ z) (hT1 : T ≠ i1) (hT2 : T ≠ i2) (hTS : T ≠ S) (hlo : z < lo ∧ i1 < lo ∧ i2 < lo ∧ S < lo) (hh : A.handled = none) (he : xs.size = ys.size) (hsz : xs.size ≤ sizeLine) :
  ∀ (m i : Nat) (s : Shared) (c : Bool) (acc : Array Value) (n : Nat) (oT : Obj), xs.size - i = m → i ≤ xs.size → zHeld s.heap z TI TO T c → s.heap.get? T = some oT → IsPair s.heap TI (.ref i1) (.ref i2) →
   s.heap.IsListIter i1 l1 i → s.heap.IsListIter i2 l2 i → s.heap.IsList l1 xs → s.heap.IsList l2 ys → s.heap.get? S = some (lstO acc n) → acc.size = i → PrsV s.heap lo xs ys acc → lo ≤ s.heap.objs.size →
   (∀ h' acc' n', h'.get? S = some (lstO acc' n') → acc'.size = xs.size → PrsV h' lo xs ys acc' → (∀ b o, b ≠ z → b ≠ i1 → b ≠ i2 → b ≠ S → s.heap.get? b = some o → h'.get? b = some o) → R (.ok (.ret .none)) { s with heap := h' }) →
   codeAny (model prog w) A (.builtin "list.extend.loop" ⟨[.ref S, .ref z, .none], []⟩) R s := by
 have far : ∀ b, lo ≤ b → b ≠ z ∧ b ≠ i1 ∧ b ≠ i2 ∧ b ≠ S := fun b hb => ⟨Nat.ne_of_gt (Nat.lt_of_lt_of_le hlo.1 hb), Nat.ne_of_gt (Nat.lt_of_lt_of_le hlo.2.1 hb), Nat.ne_of_gt (Nat.lt_of_lt_of_le hlo.2.2.1 hb), Nat.ne_of_gt (Nat.lt_of_lt_of_le hlo.2.2.2 hb)⟩
 intro m
 induction m with
 | zero =>
  intro i s c acc n oT hm hi hz hT hTI h1 h2 hl1 hl2 hS hac hp hls q
  refine codeAny_builtin PySem.F.entry_extend_loop ?_
  rw [Around.under_plainId PySem.F.plain_extend_loop _]
  show wpAny _ A.in1 (pyNext (.ref z) >>= _) _ _ s
  refine wpAny_bind (held_end (by exact hh) D.za hz hT hTI h1 hl1 (Array.getElem?_eq_none (by omega)) fun h' kp => ?_)
  refine wpAny_pure ?_
  exact q h' acc n (kp _ _ D.dz D.d1 D.d2 hS) (by omega) (hp.keep fun b o hb e => kp b o (far b hb).1 (far b hb).2.1 (far b hb).2.2.1 e) fun b o b1 b2 b3 _ e => kp b o b1 b2 b3 e
 | succ m ih =>
  intro i s c acc n oT hm hi hz hT hTI h1 h2 hl1 hl2 hS hac hp hls q
  obtain ⟨x, hx⟩ : ∃ x, xs[i]? = some x := ⟨_, Array.getElem?_eq_getElem (show i < xs.size by omega)⟩
  obtain ⟨y, hy⟩ : ∃ y, ys[i]? = some y := ⟨_, Array.getElem?_eq_getElem (show i < ys.size by omega)⟩
  refine codeAny_builtin PySem.F.entry_extend_loop ?_
  rw [Around.under_plainId PySem.F.plain_extend_loop _]
  show wpAny _ A.in1 (pyNext (.ref z) >>= _) _ _ s
  refine wpAny_bind (held_next D.za hz hT hTI h1 h2 hl1 hl2 hx hy fun h' hz' h1' h2' hpr hsz' kp => ?_)
  have hS' := kp _ _ D.dz D.d1 D.d2 hS
  show wpAny _ A.in1 (updateSeq S (·.push (.ref s.heap.objs.size)) >>= _) _ _ _
  refine wpAny_bind ?_
  have oth : ∀ b o, b ≠ S → h'.get? b = some o → (h'.update S (Obj.mapSeq (·.push (.ref s.heap.objs.size)))).get? b = some o := fun b o hb e => (Heap.get?_update_other _ _ (Ne.symm hb)).trans e
  have k2 : ∀ b o, b ≠ z → b ≠ i1 → b ≠ i2 → b ≠ S → s.heap.get? b = some o → (h'.update S (Obj.mapSeq (·.push (.ref s.heap.objs.size)))).get? b = some o := fun b o b1 b2 b3 b4 e => oth b o b4 (kp b o b1 b2 b3 e)
  refine wpAny_updateSeq hS' rfl (wpAny_pure ⟨plainId_quiet PySem.F.plain_extend_loop _, ?_⟩) (by rw [hac]; omega) (by show (acc.push _).size ≤ sizeLine + 1; rw [Array.size_push, hac]; omega)
  refine ih (i + 1) _ true (acc.push (.ref s.heap.objs.size)) _ oT (by omega) (by omega) (oth _ _ D.dz.symm hz') (k2 _ _ hTz hT1 hT2 hTS hT) (k2 _ _ D.za.TIz D.za.TIi1 D.za.TIi2 D.dI.symm hTI) (h1'.at fun o e => oth _ o D.d1.symm e) (h2'.at fun o e => oth _ o D.d2.symm e)
   (hl1.at fun o e => k2 _ o D.za.l1z D.za.l1i1 D.za.l1i2 D.dl.symm e) (hl2.at fun o e => k2 _ o D.za.l2z D.za.l2i1 D.za.l2i2 D.dm.symm e) (Heap.get?_update_self _ hS' rfl) (by rw [Array.size_push, hac]) ?_ (by rw [Heap.size_update, hsz']; exact Nat.le_succ_of_le hls) fun h3 acc' n' hS3 hac3 hp3 kp3 => ?_
  ·have far1 := far _ hls
   refine ((hp.keep fun b o hb e => kp b o (far b hb).1 (far b hb).2.1 (far b hb).2.2.1 e).push hp.below hls (by rw [hac]; exact hx) (by rw [hac]; exact hy) hpr).keep fun b o hb e => oth b o (far b hb).2.2.2 e
  ·exact q h3 acc' n' hS3 hac3 hp3 fun b o b1 b2 b3 b4 e => kp3 b o b1 b2 b3 b4 (k2 b o b1 b2 b3 b4 e)
theorem ext_first {s : Shared} {S z TI TO i1 i2 l1 l2 lo : Addr} {a b : Value} {xs ys : Array Value} {n : Nat} (D : DzA S z TI TO i1 i2 l1 l2) (hlo : z < lo ∧ i1 < lo ∧ i2 < lo ∧ S < lo ∧ TO < lo) (hh : A.handled = none) (he : xs.size = ys.size) (hsz : xs.size ≤ sizeLine)
  (hz : IsZip s.heap z TI TO .none) (hTO : IsPair s.heap TO a b) (hTI : IsPair s.heap TI (.ref i1) (.ref i2)) (h1 : s.heap.IsListIter i1 l1 0) (h2 : s.heap.IsListIter i2 l2 0) (hl1 : s.heap.IsList l1 xs) (hl2 : s.heap.IsList l2 ys) (hS : s.heap.get? S = some (lstO #[] n)) (hls : lo ≤ s.heap.objs.size)
  (q : ∀ h' acc' n', h'.get? S = some (lstO acc' n') → acc'.size = xs.size → PrsV h' lo xs ys acc' → (∀ b o, b ≠ z → b ≠ TO → b ≠ i1 → b ≠ i2 → b ≠ S → s.heap.get? b = some o → h'.get? b = some o) → R (.ok (.ret .none)) { s with heap := h' }) :
  codeAny (model prog w) A (.builtin "list.extend.loop" ⟨[.ref S, .ref z, .none], []⟩) R s := by
 have far : ∀ b, lo ≤ b → b ≠ z ∧ b ≠ i1 ∧ b ≠ i2 ∧ b ≠ S ∧ b ≠ TO := fun b hb => ⟨Nat.ne_of_gt (Nat.lt_of_lt_of_le hlo.1 hb), Nat.ne_of_gt (Nat.lt_of_lt_of_le hlo.2.1 hb), Nat.ne_of_gt (Nat.lt_of_lt_of_le hlo.2.2.1 hb), Nat.ne_of_gt (Nat.lt_of_lt_of_le hlo.2.2.2.1 hb), Nat.ne_of_gt (Nat.lt_of_lt_of_le hlo.2.2.2.2 hb)⟩
 refine codeAny_builtin PySem.F.entry_extend_loop ?_
 rw [Around.under_plainId PySem.F.plain_extend_loop _]
 show wpAny _ A.in1 (pyNext (.ref z) >>= _) _ _ s
 rcases Nat.eq_zero_or_pos xs.size with h0 | h0
 ·refine wpAny_bind (wpAny_pyNext_zip_end (by exact hh) D.za hz hTI hTO h1 h2 hl1 hl2 (.inl (Array.getElem?_eq_none (by omega))) fun h' kp => ?_)
  refine wpAny_pure ?_
  exact q h' #[] n (kp _ _ D.dz D.dO D.d1 D.d2 hS) (by rw [h0]; rfl) ⟨fun j v e => by simp at e, fun j k v e => by simp at e⟩ fun b o b1 b2 b3 b4 _ e => kp b o b1 b2 b3 b4 e
 ·obtain ⟨x, hx⟩ : ∃ x, xs[0]? = some x := ⟨_, Array.getElem?_eq_getElem h0⟩
  obtain ⟨y, hy⟩ : ∃ y, ys[0]? = some y := ⟨_, Array.getElem?_eq_getElem (show 0 < ys.size by omega)⟩
  refine wpAny_bind (wpAny_pyNext_zip_item D.za hz hTI hTO h1 h2 hl1 hl2 hx hy fun h' hz' _ h1' h2' hpr hsz' kp => ?_)
  have hS' := kp _ _ D.dz D.dO D.d1 D.d2 hS
  have lt : ∀ {c o}, s.heap.get? c = some o → s.heap.objs.size ≠ c := fun e => Nat.ne_of_gt (Heap.lt_size e)
  show wpAny _ A.in1 (updateSeq S (·.push (.ref s.heap.objs.size)) >>= _) _ _ _
  refine wpAny_bind ?_
  have oth : ∀ b o, b ≠ S → h'.get? b = some o → (h'.update S (Obj.mapSeq (·.push (.ref s.heap.objs.size)))).get? b = some o := fun b o hb e => (Heap.get?_update_other _ _ (Ne.symm hb)).trans e
  have k2 : ∀ b o, b ≠ z → b ≠ TO → b ≠ i1 → b ≠ i2 → b ≠ S → s.heap.get? b = some o → (h'.update S (Obj.mapSeq (·.push (.ref s.heap.objs.size)))).get? b = some o := fun b o b1 b2 b3 b5 b4 e => oth b o b4 (kp b o b1 b2 b3 b5 e)
  refine wpAny_updateSeq hS' rfl (wpAny_pure ⟨plainId_quiet PySem.F.plain_extend_loop _, ?_⟩) (by show (#[] : Array Value).size ≤ _; exact Nat.zero_le _) (by show ((#[] : Array Value).push _).size ≤ sizeLine + 1; rw [Array.size_push]; exact Nat.succ_le_succ (Nat.zero_le _))
  refine ext_go (T := s.heap.objs.size) D (lt hz) (by obtain ⟨_, e, _⟩ := h1; exact lt e) (by obtain ⟨_, e, _⟩ := h2; exact lt e) (lt hS) ⟨hlo.1, hlo.2.1, hlo.2.2.1, hlo.2.2.2.1⟩ hh he hsz _ 1 _ false ((#[] : Array Value).push (.ref s.heap.objs.size)) _ _ rfl h0 (oth _ _ D.dz.symm hz') (oth _ _ (lt hS) hpr) (k2 _ _ D.za.TIz D.za.TITO D.za.TIi1 D.za.TIi2 D.dI.symm hTI) (h1'.at fun o e => oth _ o D.d1.symm e) (h2'.at fun o e => oth _ o D.d2.symm e)
   (hl1.at fun o e => k2 _ o D.za.l1z D.za.l1TO D.za.l1i1 D.za.l1i2 D.dl.symm e) (hl2.at fun o e => k2 _ o D.za.l2z D.za.l2TO D.za.l2i1 D.za.l2i2 D.dm.symm e) (Heap.get?_update_self _ hS' rfl) rfl ?_ (by rw [Heap.size_update, hsz']; exact Nat.le_succ_of_le hls) fun h3 acc' n' hS3 hac3 hp3 kp3 => ?_
  ·refine (PrsV.push (acc := #[]) ⟨fun j v e => by simp at e, fun j k v e => by simp at e⟩ (fun j e => by simp at e) hls hx hy hpr).keep fun b o hb e => oth b o (far b hb).2.2.2.1 e
  ·exact q h3 acc' n' hS3 hac3 hp3 fun b o b1 b2 b3 b5 b4 e => kp3 b o b1 b3 b5 b4 (k2 b o b1 b2 b3 b5 b4 e)
theorem call_list_zip {s : Shared} {z TI TO i1 i2 l1 l2 : Addr} {a b : Value} {xs ys : Array Value} {Q : Value → Shared → Prop} (D : ZipApart z TI TO i1 i2 l1 l2) (hh : A.handled = none) (he : xs.size = ys.size) (hsz : xs.size ≤ sizeLine)
  (hz : IsZip s.heap z TI TO .none) (hTO : IsPair s.heap TO a b) (hTI : IsPair s.heap TI (.ref i1) (.ref i2)) (h1 : s.heap.IsListIter i1 l1 0) (h2 : s.heap.IsListIter i2 l2 0) (hl1 : s.heap.IsList l1 xs) (hl2 : s.heap.IsList l2 ys)
  (q : ∀ h' acc' n', h'.get? s.heap.objs.size = some (lstO acc' n') → acc'.size = xs.size → PrsV h' (s.heap.objs.size + 1) xs ys acc' → (∀ b o, b ≠ z → b ≠ TO → b ≠ i1 → b ≠ i2 → s.heap.get? b = some o → h'.get? b = some o) → Q (.ref s.heap.objs.size) { s with heap := h' }) :
  wpAny (model prog w) A (call (.type "list") [.ref z]) Q E s := by
 refine callType_codes (Q₁ := fun obj s₁ => obj = .ref s.heap.objs.size ∧ s₁ = { s with heap := s.heap.push { cls := .type "list", data := .seq #[] } }) PySem.F.called_list (PySem.F.typeCall_list_1 _) PySem.F.entry_list_init (code_list_new _ ⟨rfl, rfl⟩) ?_
 rintro obj s₁ ⟨rfl, rfl⟩
 have hS : (s.heap.push { cls := .type "list", data := .seq #[] }).get? s.heap.objs.size = some { cls := .type "list", data := .seq #[] } := Heap.get?_push_size _ rfl
 have up : ∀ b o, s.heap.get? b = some o → (s.heap.push { cls := .type "list", data := .seq #[] }).get? b = some o := fun b o e => Heap.get?_push_of_some _ e
 have lt : ∀ {c o}, s.heap.get? c = some o → s.heap.objs.size ≠ c := fun e => Nat.ne_of_gt (Heap.lt_size e)
 refine ⟨⟨_, hS, rfl⟩, PySem.F.args_list_init_2 _ _, ?_⟩
 show wpAny _ _ (do let old ← Builtin.List.listItems (.ref s.heap.objs.size); Builtin.List.listUpdate (.ref s.heap.objs.size) (fun _ => #[]); letGo old.toList.reverse; Builtin.List.listExtendWith (.ref s.heap.objs.size) (.ref z) .none) _ _ _
 refine wpAny_bind ?_
 unfold Builtin.List.listItems
 refine wpAny_bind (wpAny_seqItems hS rfl (wpAny_pure ?_))
 show wpAny _ _ (updateSeq s.heap.objs.size (fun _ => #[]) >>= fun _ => letGo (#[] : Array Value).toList.reverse >>= fun _ => Builtin.List.listExtendWith (.ref s.heap.objs.size) (.ref z) .none) _ _ _
 refine wpAny_bind (wpAny_updateSeq hS rfl ?_)
 have hS₂ := Heap.get?_update_self (Obj.mapSeq (fun _ => (#[] : Array Value))) hS rfl
 have oth : ∀ b o, s.heap.get? b = some o → ((s.heap.push { cls := .type "list", data := .seq #[] }).update s.heap.objs.size (Obj.mapSeq (fun _ => (#[] : Array Value)))).get? b = some o :=
  fun b o e => (Heap.get?_update_other _ _ (lt e)).trans (up b o e)
 refine wpAny_bind (wpAny_letGo ?_)
 unfold Builtin.List.listExtendWith
 have hzT := oth _ _ hz
 refine wpAny_bind (wpAny_typeOf (T := "zip") ⟨_, hzT, rfl⟩ ?_)
 have g1 : Builtin.List.listSameRef (.ref s.heap.objs.size) (.ref z) = false := by simp [Builtin.List.listSameRef, lt hz]
 have g2 : (Value.type "zip" == Value.type "list") = false := by decide
 have g3 : (Value.type "zip" == Value.type "tuple") = false := by decide
 simp only [g1, g2, g3, Bool.or_false, Bool.false_eq_true, if_false]
 refine wpAny_bind (wpAny_pyIter_zip hzT ?_)
 refine wpAny_bind (wpAny_holding ?_)
 unfold Builtin.List.listLengthHint
 refine wpAny_bind (wpAny_specialOf (T := "zip") ⟨_, hzT, rfl⟩ zip_no_len ?_)
 show wpAny _ _ (specialOf (Value.ref z) (Str.ofString "__length_hint__") >>= _) _ _ _
 refine wpAny_bind (wpAny_specialOf (T := "zip") ⟨_, hzT, rfl⟩ zip_no_hint ?_)
 refine wpAny_pure ?_
 show wpAny _ _ (rule "list.extend.makes-room" >>= fun _ => Builtin.List.listTouch (.ref s.heap.objs.size) >>= fun _ =>
  again (.builtin "list.extend.loop" ⟨[.ref s.heap.objs.size, .ref z, .none], []⟩)) _ _ _
 refine wpAny_bind (wpAny_rule ?_)
 refine wpAny_bind ?_
 show wpAny _ _ (updateSeq s.heap.objs.size (·.push .none) >>= fun _ => updateSeq s.heap.objs.size (·.pop)) _ _ _
 refine wpAny_bind (wpAny_updateSeq hS₂ rfl ?_)
 have hS₃ := Heap.get?_update_self (Obj.mapSeq (·.push Value.none)) hS₂ rfl
 refine wpAny_updateSeq (hz := by seq_fits) hS₃ rfl ?_
 have hS₄ := Heap.get?_update_self (Obj.mapSeq (·.pop)) hS₃ rfl
 have up2 : ∀ b o, s.heap.get? b = some o → ((((s.heap.push { cls := .type "list", data := .seq #[] }).update s.heap.objs.size (Obj.mapSeq (fun _ => (#[] : Array Value)))).update s.heap.objs.size (Obj.mapSeq (·.push Value.none))).update s.heap.objs.size (Obj.mapSeq (·.pop))).get? b = some o :=
  fun b o e => (Heap.get?_update_other _ _ (lt e)).trans ((Heap.get?_update_other _ _ (lt e)).trans (oth b o e))
 have ltS : ∀ {c o}, s.heap.get? c = some o → c < s.heap.objs.size + 1 := fun e => Nat.lt_succ_of_lt (Heap.lt_size e)
 refine wpAny_pure ⟨plainId_quiet PySem.F.plain_extend_loop _, ?_⟩
 refine ext_first (a := a) (b := b) (lo := s.heap.objs.size + 1) (xs := xs) (ys := ys) ⟨D, lt hz, lt hTI, lt hTO, ?_, ?_, ?_, ?_⟩ ⟨ltS hz, ?_, ?_, Nat.lt_succ_self _, ltS hTO⟩ (by exact hh) he hsz (up2 _ _ hz) (up2 _ _ hTO) (up2 _ _ hTI) (h1.at fun o e => up2 _ o e) (h2.at fun o e => up2 _ o e) (hl1.at fun o e => up2 _ o e) (hl2.at fun o e => up2 _ o e) hS₄ ?_ fun h3 acc' n' hS3 hac3 hp3 kp3 => ?_
 ·obtain ⟨_, e, _⟩ := h1; exact lt e
 ·obtain ⟨_, e, _⟩ := h2; exact lt e
 ·obtain ⟨_, e, _⟩ := hl1; exact lt e
 ·obtain ⟨_, e, _⟩ := hl2; exact lt e
 ·obtain ⟨_, e, _⟩ := h1; exact ltS e
 ·obtain ⟨_, e, _⟩ := h2; exact ltS e
 ·rw [Heap.size_update, Heap.size_update, Heap.size_update, Heap.size_push]
  exact Nat.le_refl _
 ·exact ⟨rfl, q h3 acc' n' hS3 hac3 hp3 fun b o b1 b2 b3 b4 e => kp3 b o b1 b2 b3 b4 (lt e).symm (up2 _ _ e)⟩
end
end L2
namespace L2
open PySem PySem.Spec PyProof.Rows
def bothN (N H : Hp) : Hp := fun b => match N b with | some o => some o | none => H b
theorem bothN_new {N H : Hp} {b : Addr} {o : HO} (h : N b = some o) : bothN N H b = some o := by unfold bothN; rw [h]
theorem bothN_old {N H : Hp} {b : Addr} (h : N b = none) : bothN N H b = H b := by unfold bothN; rw [h]
theorem bothN_same {N H : Hp} (h : ∀ b o, N b = some o → H b = none) : Same H (bothN N H) := fun b o e => by
 cases hN : N b with
 | none => rw [bothN_old hN]; exact e
 | some u => rw [h b u hN] at e; cases e
theorem Inv.laidN {X : Cx} {pins : List (Addr × Obj)} {σ : St} {H N : Hp} {s : Shared} {h' : Heap} {t' : Nat} (I : Inv X pins σ H s) (k : ∀ b u, s.heap.get? b = some u → h'.get? b = some u) (hp : ∀ b o, N b = some o → s.heap.objs.size ≤ b)
  (new : ∀ b o, N b = some o → ObjOk X.prog X.w (bothN N H) h' b o) : Inv X pins σ (bothN N H) { s with heap := h', toks := t' } := by
 have hn : ∀ b o, N b = some o → H b = none := fun b o e => I.hok.fresh (hp b o e)
 have sm := bothN_same hn
 have old : ∀ b u, s.heap.get? b = some u → N b = none := fun b u e => by
  cases hN : N b with
  | none => rfl
  | some o => exact absurd (Heap.lt_size e) (Nat.not_lt.mpr (hp b o hN))
 refine I.un ⟨fun b u q _ _ _ => k b u q, fun b u q _ _ _ => ⟨u.slots, k b u q⟩, fun b u q n _ => by rw [bothN_old (old b u q)]; exact n, fun b u q _ => ⟨u, k b u q⟩, fun b xs q => sm _ _ q, fun b u xs q => sm _ _ q, fun b ps q => ⟨#[], by rw [sm _ _ q]; simp⟩⟩ fun b o e => ?_
 cases hN : N b with
 | some u =>
  rw [bothN_new hN] at e
  cases e
  exact new b _ hN
 | none =>
  rw [bothN_old hN] at e
  exact (I.hok b o e).stay (fun c v _ q => k c v q) (fun c q => sm _ _ q) fun c xs q => sm _ _ q
def adrN : Value → Addr
 | .ref a => a
 | _ => 0
def PrsN (H1 H' : Hp) (as : List Addr) (xs ys : List V) : Prop := as.length = xs.length ∧ ∀ (i : Nat) t x y, as[i]? = some t → xs[i]? = some x → ys[i]? = some y → H1 t = none ∧ H' t = some (.tup [x, y])
def tupN : List Addr → List V → List V → Hp
 | t :: as, x :: xs, y :: ys => fun b => if b = t then some (.tup [x, y]) else tupN as xs ys b
 | _, _, _ => fun _ => none
theorem tupN_at : ∀ {as : List Addr} {xs ys : List V}, (∀ (j k : Nat) t, as[j]? = some t → as[k]? = some t → j = k) → ∀ (i : Nat) t x y, as[i]? = some t → xs[i]? = some x → ys[i]? = some y → tupN as xs ys t = some (.tup [x, y])
 | [], _, _, _, _, _, _, _, e, _, _ => by cases e
 | _ :: _, [], _, _, _, _, _, _, _, e, _ => by cases e
 | _ :: _, _ :: _, [], _, _, _, _, _, _, _, e => by cases e
 | t :: as, x :: xs, y :: ys, inj, i, t', x', y', e1, e2, e3 => by
  show (if t' = t then some (HO.tup [x, y]) else tupN as xs ys t') = _
  cases i with
  | zero =>
   cases e1; cases e2; cases e3
   rw [if_pos rfl]
  | succ i =>
   have hne : t' ≠ t := fun h => by
    have := inj (i + 1) 0 t' e1 (by rw [h]; rfl)
    cases this
   rw [if_neg hne]
   exact tupN_at (fun j k u h1 h2 => by have := inj (j + 1) (k + 1) u h1 h2; omega) i t' x' y' e1 e2 e3
theorem tupN_of : ∀ {as : List Addr} {xs ys : List V} {b : Addr} {o : HO}, tupN as xs ys b = some o → ∃ (i : Nat) (x y : V), as[i]? = some b ∧ xs[i]? = some x ∧ ys[i]? = some y ∧ o = .tup [x, y]
 | [], _, _, _, _, e => by cases e
 | _ :: _, [], _, _, _, e => by cases e
 | _ :: _, _ :: _, [], _, _, e => by cases e
 | t :: as, x :: xs, y :: ys, b, o, e => by
  have e : (if b = t then some (HO.tup [x, y]) else tupN as xs ys b) = some o := e
  by_cases h : b = t
  ·rw [if_pos h] at e
   cases e
   exact ⟨0, x, y, by rw [h]; rfl, rfl, rfl, rfl⟩
  ·rw [if_neg h] at e
   obtain ⟨i, x', y', a1, a2, a3, a4⟩ := tupN_of e
   exact ⟨i + 1, x', y', a1, a2, a3, a4⟩
section
variable {X : Cx}
def tLZip (K : PySem.W.Frag) (ta : TA) : TE := fun σ H Q => ta σ H fun vs H1 => ∃ a b xs ys, vs = [.ref a, .ref b] ∧ SqL K H1 a xs ∧ SqL K H1 b ys ∧ xs.length = ys.length ∧ ∀ p as H', Same H1 H' → H1 p = none → H' p = some (.lst (as.map V.ref)) → PrsN H1 H' as xs ys → Q (.ref p) H'
theorem pe_lzip {a b : Expr} {ta : TA} {p q pos pos2 : Pos} (hcal : X.calm = true) (hg : Gl X "list") (hm : X.mg "list" = none) (hg2 : Gl X "zip") (hm2 : X.mg "zip" = none) (ha : PA X [a, b] ta)
  (hs : starEach [a, b] X.env = [(false, eval a X.env), (false, eval b X.env)] := by rfl) (hs2 : starEach [b] X.env = [(false, eval b X.env)] := by rfl)
  (hs3 : starEach [Expr.Call (.Name "zip" q) [a, b] [] pos2] X.env = [(false, eval (.Call (.Name "zip" q) [a, b] [] pos2) X.env)] := by rfl) :
  PE X (.Call (.Name "list" p) [.Call (.Name "zip" q) [a, b] [] pos2] [] pos) (tLZip X.K ta) := by
 intro pins s σ H Q I h
 refine wpAny_Call_Name_kw (ld_blt I hg hm b_list (PyProof.Rows.callWith_type1 ?_ hs3 rfl) (by decide) (by decide))
 rw [hs3]
 refine Calls.spliced_cons ?_
 show wpAny _ _ (eval (Expr.Call (.Name "zip" q) [a, b] [] pos2) X.env) _ _ _
 refine wpAny_Call_Name_kw (ld_blt I hg2 hm2 b_zip (PyProof.Rows.callWith_type1 (thn (ha pos2 pins s σ H _ I h) fun us s1 ⟨vs, H1, I1, r1, q1⟩ => ?_) (by rw [hs, hs2]) (by rw [hs2]; rfl)) (by decide) (by decide))
 obtain ⟨a, b, xs, ys, e, hx, hy, hl, q⟩ := q1
 subst e
 obtain ⟨u, v, rfl, ru, rv⟩ := vals2 r1
 cases ru
 cases rv
 obtain ⟨its, rv, p, hz⟩ := I1.list hx
 obtain ⟨its2, rv2, p2, hz2⟩ := I1.list hy
 have l1 := rv.length
 have l2 := rv2.length
 refine call_zip_2 p.isList p2.isList fun h' g1 g2 g3 g4 g5 hsz kk => ?_
 refine Calls.spliced_nil ?_
 have A1 : h'.IsList a its.toArray := p.isList.at fun o e => kk _ o e
 have A2 : h'.IsList b its2.toArray := p2.isList.at fun o e => kk _ o e
 have D := apartZ (apartZ_new _) (⟨g1, g2, ⟨_, _, g3⟩, g4, g5⟩ : StZ _ _ _ _ _ a b 0 h') A1 A2
 refine call_list_zip (s := { s1 with heap := h' }) D (I1.ok.hd hcal) (by simp; omega) (by simp; omega) g1 g3 g2 g4 g5 A1 A2 fun h2 acc n hS hac hp kp => ?_
 have hle : s1.heap.objs.size ≤ h'.objs.size := by omega
 have hac : acc.size = xs.length := by rw [hac]; simp; omega
 have kp1 : ∀ b o, s1.heap.get? b = some o → h2.get? b = some o := fun b o e => by
  have lt := Heap.lt_size e
  have ne : ∀ c, s1.heap.objs.size ≤ c → b ≠ c := fun c hc z => Nat.lt_irrefl _ (Nat.lt_of_lt_of_le lt (z ▸ hc))
  exact kp b o (ne _ (Nat.le_add_right _ _)) (ne _ (Nat.le_add_right _ _)) (ne _ (Nat.le_refl _)) (ne _ (Nat.le_add_right _ _)) (kk _ _ e)
 obtain ⟨as, has⟩ : ∃ as, as = acc.toList.map adrN := ⟨_, rfl⟩
 have hasl : as.length = xs.length := by rw [has, List.length_map, Array.length_toList, hac]
 have hat : ∀ (i : Nat) t, as[i]? = some t → ∃ x y, acc[i]? = some (Value.ref t) ∧ h'.objs.size + 1 ≤ t ∧ its[i]? = some x ∧ its2[i]? = some y ∧ IsPair h2 t x y := fun i t e => by
  rw [has, List.getElem?_map] at e
  cases hv : acc.toList[i]? with
  | none => rw [hv] at e; cases e
  | some v =>
   rw [hv] at e
   have hv2 : acc[i]? = some v := by rw [← Array.getElem?_toList]; exact hv
   obtain ⟨T, x, y, e1, e2, e3, e4, e5⟩ := hp.1 i v hv2
   subst e1
   obtain rfl : T = t := Option.some.inj e
   exact ⟨x, y, hv2, e2, by simpa using e3, by simpa using e4, e5⟩
 have inj : ∀ (j k : Nat) t, as[j]? = some t → as[k]? = some t → j = k := fun j k t h1 h2 => by
  obtain ⟨_, _, a1, _⟩ := hat j t h1
  obtain ⟨_, _, a2, _⟩ := hat k t h2
  exact hp.2 j k _ a1 a2
 let N : Hp := fun b => if b = h'.objs.size then some (.lst (as.map V.ref)) else tupN as xs ys b
 have hN0 : N h'.objs.size = some (.lst (as.map V.ref)) := if_pos rfl
 have hNt : ∀ (i : Nat) t x y, as[i]? = some t → xs[i]? = some x → ys[i]? = some y → N t = some (.tup [x, y]) := fun i t x y e1 e2 e3 => by
  obtain ⟨_, _, _, hlt, _⟩ := hat i t e1
  show (if t = h'.objs.size then _ else _) = _
  rw [if_neg (Nat.ne_of_gt hlt)]
  exact tupN_at inj i t x y e1 e2 e3
 have hNp : ∀ b o, N b = some o → s1.heap.objs.size ≤ b := fun b o e => by
  have e : (if b = h'.objs.size then some (HO.lst (as.map V.ref)) else tupN as xs ys b) = some o := e
  by_cases hb : b = h'.objs.size
  ·rw [hb]; exact hle
  ·rw [if_neg hb] at e
   obtain ⟨i, x, y, e1, _⟩ := tupN_of e
   obtain ⟨_, _, _, hlt, _⟩ := hat i b e1
   exact Nat.le_trans hle (Nat.le_of_succ_le hlt)
 have hNn : ∀ b o, N b = some o → H1 b = none := fun b o e => I1.hok.fresh (hNp b o e)
 have I2 : Inv X pins σ (bothN N H1) { s1 with heap := h2 } := by
  refine I1.laidN (t' := s1.toks) kp1 hNp fun b o e => ?_
  have e : (if b = h'.objs.size then some (HO.lst (as.map V.ref)) else tupN as xs ys b) = some o := e
  by_cases hb : b = h'.objs.size
  ·rw [if_pos hb] at e
   cases e
   subst hb
   refine ⟨by rw [List.length_map]; omega, acc.toList, n, ?_, hS⟩
   refine vals_of_at (by rw [List.length_map, hasl, ← hac]; exact (Array.length_toList (xs := acc)).symm) fun i v u e1 e2 => ?_
   rw [List.getElem?_map] at e1
   cases ht : as[i]? with
   | none => rw [ht] at e1; cases e1
   | some t =>
    rw [ht] at e1
    cases e1
    obtain ⟨_, _, a1, _⟩ := hat i t ht
    rw [← Array.getElem?_toList, e2] at a1
    exact Option.some.inj a1
  ·rw [if_neg hb] at e
   obtain ⟨i, x, y, e1, e2, e3, rfl⟩ := tupN_of e
   obtain ⟨u, v, _, _, e4, e5, e6⟩ := hat i b e1
   obtain ⟨u', hu, ru⟩ := rv.get e2
   obtain ⟨v', hv, rv'⟩ := rv2.get e3
   rw [e4] at hu
   rw [e5] at hv
   cases hu
   cases hv
   exact ⟨Nat.le_of_lt (Nat.lt_of_le_of_lt (show 2 ≤ 2 from Nat.le_refl 2) (by decide)), [u, v], .cons ru (.cons rv' .nil), _, e6, rfl, _, rfl⟩
 refine ⟨.ref h'.objs.size, _, I2, rfl, q _ as _ (bothN_same hNn) (hNn _ _ hN0) (bothN_new hN0) ⟨hasl, fun i t x y e1 e2 e3 => ⟨hNn _ _ (hNt i t x y e1 e2 e3), bothN_new (hNt i t x y e1 e2 e3)⟩⟩⟩
theorem r_lzip {σ : St} {H : Hp} {Q : VK} {ta : TA} {K : PySem.W.Frag} (h : ta σ H fun vs H1 => ∃ a b xs ys, vs = [.ref a, .ref b] ∧ SqL K H1 a xs ∧ SqL K H1 b ys ∧ xs.length = ys.length ∧ ∀ p as H', Same H1 H' → H1 p = none → H' p = some (.lst (as.map V.ref)) → PrsN H1 H' as xs ys → Q (.ref p) H') : tLZip K ta σ H Q := h
end
end L2
end
section
namespace L2
open PySem PySem.Spec PyProof.Rows
end L2
end
section
namespace L2
open PySem PySem.Spec PyProof.Rows
theorem lc_new2 {K : PySem.W.Frag} {J : It} {H1 : Hp} {fr : St} {tc : TT} {te : TE} {Q : VK} (n : Nat) (f1 f2 : Nat → V) (Pv : Addr → Nat → List V → Hp → Prop) (h0 : ∀ D H, H1 D = none → Same H1 H → Pv D 0 [] H)
  (stab : ∀ D i ys H xs o, H D = some (.lst xs) → Pv D i ys H → Pv D i ys (upd H D o)) (hz : ∀ D i ys H, i < n → Pv D i ys H → ys.length < sizeLine) (psame : ∀ D i ys H H', Same H H' → Pv D i ys H → Pv D i ys H')
  (hgo : ∀ i H, i < n → Same H1 H → J.go i H) (hy : ∀ i H v H', i < n → Same H1 H → J.yld i H v H' → ∃ a, v = .ref a ∧ SqT K H' a [f1 i, f2 i] ∧ Same H H') (hst : ∀ H, Same H1 H → J.stop n H)
  (turn : ∀ D i ys H (A : VK) (R : Hp → Prop), i < n → Same H1 H → H1 D = none → H D = some (.lst ys) → Pv D i ys H → (∀ y H', Same H H' → Pv D (i + 1) (ys ++ [y]) H' → A y H') →
   tc (some (f1 i) :: some (f2 i) :: fr) H fun b H3 => if b = true then te (some (f1 i) :: some (f2 i) :: fr) H3 A else R H3)
  (fin : ∀ D ys H, H1 D = none → Same H1 H → Pv D n ys H → H D = some (.lst ys) → Q (.ref D) H) : rdLc2 K J H1 fr tc te Q := by
 intro D hD
 refine ⟨fun i m H => i ≤ n ∧ m = n - i ∧ Same H1 H ∧ ∃ ys, H D = some (.lst ys) ∧ Pv D i ys H, ⟨n, Nat.zero_le _, rfl, same_upd hD, [], upd_same, h0 D _ hD (same_upd hD)⟩, ?_⟩
 rintro i m H ⟨hi, rfl, sm, ys, hl, hp⟩
 by_cases h : i = n
 ·subst h
  exact .inl ⟨hst H sm, fin D ys H hD sm hp hl⟩
 ·have hlt : i < n := Nat.lt_of_le_of_ne hi h
  refine .inr ⟨hgo i H hlt sm, fun v H' hyl => ?_⟩
  obtain ⟨a, rfl, ht, s2⟩ := hy i H v H' hlt sm hyl
  refine ⟨a, _, _, rfl, ht, turn D i ys H' _ _ hlt (sm.trans s2) hD (s2 _ _ hl) (psame _ _ _ _ _ s2 hp) (fun y H4 s4 hp4 => ?_)⟩
  refine ⟨ys, s4 _ _ (s2 _ _ hl), hz D i ys _ hlt hp, n - (i + 1), by omega, by omega, rfl, fun b u e => ?_, ys ++ [y], upd_same, stab _ _ _ _ _ _ (s4 _ _ (s2 _ _ hl)) hp4⟩
  rw [upd_ne (ne_of_none e hD)]
  exact s4 _ _ (s2 _ _ (sm _ _ e))
theorem lc_zipN {K : PySem.W.Frag} {a b : Addr} {xs ys : List V} {H1 : Hp} {fr : St} {tc : TT} {te : TE} {Q : VK} (ha : SqL K H1 a xs) (hb : SqL K H1 b ys) (Pv : Addr → Nat → List V → Hp → Prop) (h0 : ∀ D H, H1 D = none → Same H1 H → Pv D 0 [] H)
  (stab : ∀ D i zs H us o, H D = some (.lst us) → Pv D i zs H → Pv D i zs (upd H D o)) (hz : ∀ D i zs H, i < min xs.length ys.length → Pv D i zs H → zs.length < sizeLine) (psame : ∀ D i zs H H', Same H H' → Pv D i zs H → Pv D i zs H')
  (turn : ∀ D (i : Nat) zs x y H (A : VK) (R : Hp → Prop), xs[i]? = some x → ys[i]? = some y → Same H1 H → H1 D = none → H D = some (.lst zs) → Pv D i zs H → (∀ y H', Same H H' → Pv D (i + 1) (zs ++ [y]) H' → A y H') →
   tc (some x :: some y :: fr) H fun b H3 => if b = true then te (some x :: some y :: fr) H3 A else R H3)
  (fin : ∀ D zs H, H1 D = none → Same H1 H → Pv D (min xs.length ys.length) zs H → H D = some (.lst zs) → Q (.ref D) H) : rdLc2 K (Itz K a b) H1 fr tc te Q := by
 refine lc_new2 (min xs.length ys.length) (fun i => xs.getD i .non) (fun i => ys.getD i .non) Pv h0 stab hz psame (fun i H hi sm => ⟨xs, ys, xs[i]'(by omega), ys[i]'(by omega), sm.seq ha, sm.seq hb, by simp, by simp⟩) (fun i H v H' hi sm h => ?_)
  (fun H sm => ⟨xs, ys, sm.seq ha, sm.seq hb, rfl⟩) (fun D i zs H A R hi sm => turn D i zs _ _ H A R (by simp [show i < xs.length by omega]) (by simp [show i < ys.length by omega]) sm) fin
 obtain ⟨t, x, y, hn, rfl, h1, h2, rfl⟩ := h
 have e1 := h1 xs (sm.seq ha)
 have e2 := h2 ys (sm.seq hb)
 refine ⟨t, rfl, ?_, same_upd hn⟩
 simp only [List.getD, e1, e2, Option.getD_some]
 exact SqT.of upd_same
section
variable {X : Cx}
def tLRng3 (ta : TA) : TE := fun σ H Q => ta σ H fun vs H1 => ∃ j k : Nat, vs = [.int 0, .int j, .int k] ∧ j ≤ 100000 ∧ 0 < k ∧ k ≤ 100000 ∧ ∀ p, H1 p = none → Q (.ref p) (upd H1 p (.lst ((List.range ((j + k - 1) / k)).map fun t : Nat => V.int (t * k : Nat))))
theorem pe_lrange3 {a b c : Expr} {ta : TA} {p q pos pos2 : Pos} (hcal : X.calm = true) (hg : Gl X "list") (hm : X.mg "list" = none) (hg2 : Gl X "range") (hm2 : X.mg "range" = none) (ha : PA X [a, b, c] ta)
  (hs : starEach [a, b, c] X.env = [(false, eval a X.env), (false, eval b X.env), (false, eval c X.env)] := by rfl) (hs2 : starEach [b, c] X.env = [(false, eval b X.env), (false, eval c X.env)] := by rfl)
  (hs3 : starEach [Expr.Call (.Name "range" q) [a, b, c] [] pos2] X.env = [(false, eval (.Call (.Name "range" q) [a, b, c] [] pos2) X.env)] := by rfl) :
  PE X (.Call (.Name "list" p) [.Call (.Name "range" q) [a, b, c] [] pos2] [] pos) (tLRng3 ta) := by
 intro pins s σ H Q I h
 refine wpAny_Call_Name_kw (ld_blt I hg hm b_list (PyProof.Rows.callWith_type1 ?_ hs3 rfl) (by decide) (by decide))
 rw [hs3]
 refine Calls.spliced_cons ?_
 show wpAny _ _ (eval (Expr.Call (.Name "range" q) [a, b, c] [] pos2) X.env) _ _ _
 refine wpAny_Call_Name_kw (ld_blt I hg2 hm2 boot_range (PyProof.Rows.callWith_type1 (thn (ha pos2 pins s σ H _ I h) fun us s1 ⟨vs, H1, I1, r1, q1⟩ => ?_) (by rw [hs, hs2]) (by rw [hs2]; rfl)) (by decide) (by decide))
 obtain ⟨j, k, e, hj, hk, hk2, q⟩ := q1
 subst e
 cases r1 with
 | cons r rr =>
  cases rr with
  | cons r' rr =>
   cases rr with
   | cons r'' rr =>
    cases rr
    obtain ⟨t, rfl⟩ := r
    obtain ⟨t', rfl⟩ := r'
    obtain ⟨t'', rfl⟩ := r''
    refine call_range_3 (by omega) (Calls.spliced_nil ?_) (.inl (PyProof.noPylong_small (by omega)))
    have e2 : Builtin.Range.rangeSize (0 : Int) (j : Int) (k : Int) = (((j + k - 1) / k : Nat) : Int) := by
     unfold Builtin.Range.rangeSize
     rw [if_pos (by omega)]
     by_cases hj0 : j = 0
     ·subst hj0
      rw [if_neg (by omega), Nat.div_eq_of_lt (by omega)]
      rfl
     ·rw [if_pos (by omega), show ((j : Int) - 0 - 1) = ((j - 1 : Nat) : Int) by omega, ← Int.natCast_ediv, show j + k - 1 = j - 1 + k by omega, Nat.add_div_right _ hk]
      rfl
    have hn : (j + k - 1) / k ≤ j := by
     by_cases hj0 : j = 0
     ·subst hj0
      rw [Nat.div_eq_of_lt (by omega)]
      exact Nat.le_refl _
     ·rw [show j + k - 1 = j - 1 + k by omega, Nat.add_div_right _ hk]
      have := Nat.div_le_self (j - 1) k
      omega
    generalize (j + k - 1) / k = m at *
    have hsm : Builtin.Range.small (0 : Int) (j : Int) (k : Int) = true := by
     unfold Builtin.Range.small
     rw [e2, if_pos (by omega)]
     simp only [Builtin.Range.rangeFitsLong, Bool.and_eq_true, Bool.or_eq_true, decide_eq_true_eq, beq_iff_eq]
     refine ⟨⟨⟨⟨?_, ?_⟩, ?_⟩, ?_⟩, .inr ?_⟩ <;> omega
    refine call_list_range (I1.ok.hd hcal) (IsRange.new ..) hsm e2 (by omega) fun h' tk acc c kp ho it => ?_
    have hv : Vals ((List.range (m)).map fun t : Nat => V.int (t * k : Nat)) acc.toList := vals_of_at (by rw [List.length_map, List.length_range, Array.length_toList, it.1]) fun i x u e1 e3 => by
     have hi : i < m := by have := (List.getElem?_eq_some_iff.mp e1).1; simpa using this
     rw [List.getElem?_map, List.getElem?_range hi] at e1
     cases e1
     have e4 : acc[i]? = some u := by rw [← Array.getElem?_toList]; exact e3
     obtain ⟨t, e5⟩ := it.2 i u e4
     exact ⟨t, by rw [e5, show (0 : Int) + (i : Int) * (k : Int) = ((i * k : Nat) : Int) by rw [Int.zero_add, Int.natCast_mul]]⟩
    have up : ∀ b o, s1.heap.get? b = some o → h'.get? b = some o := fun b o e => kp _ _ (Heap.get?_push_of_some _ e)
    have hle : s1.heap.objs.size ≤ (s1.heap.push { cls := .type "range", data := .fields #[.int 0 t, .int j t', .int k t''] }).objs.size := by rw [Heap.size_push]; omega
    refine ⟨.ref _, _, I1.laid (t' := tk) (o := .lst _) up hle ⟨?_, acc.toList, c, hv, ho⟩, rfl, q _ (I1.hok.fresh hle)⟩
    rw [List.length_map, List.length_range]
    exact Nat.le_of_lt (Nat.lt_of_le_of_lt (show m ≤ 100000 by omega) (by decide))
theorem r_lrng3 {σ : St} {H : Hp} {Q : VK} {ta : TA} (h : ta σ H fun vs H1 => ∃ j k : Nat, vs = [.int 0, .int j, .int k] ∧ j ≤ 100000 ∧ 0 < k ∧ k ≤ 100000 ∧ ∀ p, H1 p = none → Q (.ref p) (upd H1 p (.lst ((List.range ((j + k - 1) / k)).map fun t : Nat => V.int (t * k : Nat))))) : tLRng3 ta σ H Q := h
end
end L2
namespace L2
open PySem PySem.Spec PyProof.Rows
section
variable {X : Cx}
theorem call_min1K (K : PySem.W.Frag) {X : Cx} (hc : X.calm = true) (h : X.K = K := by rfl) : CallR X (.builtin "min") (rMin1 K) := by
 subst h
 exact call_min1 hc
theorem call_max1K (K : PySem.W.Frag) {X : Cx} (hc : X.calm = true) (h : X.K = K := by rfl) : CallR X (.builtin "max") (rMax1 K) := by
 subst h
 exact call_max1 hc
theorem pe_bmK (K : PySem.W.Frag) {X : Cx} {T name id : String} {r : V → List V → Hp → VK → Prop} {o e : Expr} {es : List Expr} {to : TE} {t : TA} {apos cpos : Pos} (pa : PlainAttrs T) (slot : Slot T name id) (hty : typeOf (.builtin id) = pure (.type "method_descriptor")) (hm : MtR X id r) (ho : PE X o to) (ha : PA X (e :: es) t) (h : X.K = K := by rfl)
  (hbase : attributeBase o name X.env (eval o X.env) = eval o X.env := by rfl)
  (hfew : ((backTo cpos (starEach (e :: es) X.env)).all (fun x => !x.1) && (backToKw cpos (keywordEach [] X.env)).all (fun x => x.1.isSome)
   && decide ((e :: es).length + ([] : List Keyword).length + (if ([] : List Keyword).isEmpty then 0 else 1) < 30)) = true := by rfl)
  (hline : (apos.endLine == cpos.line) = true := by rfl) (hs : starEach (e :: es) X.env = (false, eval e X.env) :: starEach es X.env := by rfl) (hplain : (backTo cpos (starEach es X.env)).any (·.1) = false := by rfl) :
  PE X (.Call (.Attribute o name apos) (e :: es) [] cpos) (tBM K T r to t) := by
 subst h
 exact pe_bm pa slot hty hm ho ha hbase hfew hline hs hplain
end
end L2
namespace L2
open PySem PySem.Spec PyProof.Rows
theorem lc_listN {K : PySem.W.Frag} {a : Addr} {xs : List V} {H1 : Hp} {fr : St} {tc : TT} {te : TE} {Q : VK} (hl : SqL K H1 a xs) (Pv : Nat → List V → Hp → Prop) (h0 : ∀ H, Same H1 H → Pv 0 [] H)
  (stab : ∀ i ys H D zs o, H D = some (.lst zs) → Pv i ys H → Pv i ys (upd H D o)) (hz : ∀ i ys H, i < xs.length → Pv i ys H → ys.length < sizeLine)
  (turn : ∀ (i : Nat) ys x H (A : VK) (R : Hp → Prop), xs[i]? = some x → Same H1 H → Pv i ys H → (∀ y H', Same H H' → Pv (i + 1) (ys ++ [y]) H' → A y H') → tc (some x :: fr) H fun b H3 => if b = true then te (some x :: fr) H3 A else R H3)
  (fin : ∀ D ys H, H1 D = none → Same H1 H → Pv xs.length ys H → H D = some (.lst ys) → Q (.ref D) H) : rdLc (Itl K a) H1 fr tc te Q := by
 refine lc_new xs.length (fun i => xs.getD i .non) Pv h0 stab hz (fun i H hi sm => ⟨xs, xs[i], sm.seq hl, by simp [hi]⟩) (fun i H x H' hi sm h => ⟨?_, h.1⟩) (fun H sm => ⟨xs, sm.seq hl, Nat.le_refl _⟩) (fun i ys H A R hi sm => turn i ys _ H A R (by simp [hi]) sm) fin
 have := h.2 xs (sm.seq hl)
 simp [List.getD, this]
end L2
end
section
namespace L2
open PySem PySem.Spec PyProof.Rows
theorem lc_new2R {K : PySem.W.Frag} {J : It} {H1 : Hp} {fr : St} {tc : TT} {te : TE} {Q : VK} (n : Nat) (f1 f2 : Nat → V) (Pv : Addr → Nat → List V → Hp → Prop) (h0 : ∀ D H, H1 D = none → Same H1 H → Pv D 0 [] H)
  (stab : ∀ D i ys H xs o, H D = some (.lst xs) → Pv D i ys H → Pv D i ys (upd H D o)) (hz : ∀ D i ys H, i < n → Pv D i ys H → ys.length < sizeLine) (psame : ∀ D i ys H H', Same H H' → Pv D i ys H → Pv D i ys H')
  (hgo : ∀ i H, i < n → Same H1 H → J.go i H) (hy : ∀ i H v H', i < n → Same H1 H → J.yld i H v H' → ∃ a, v = .ref a ∧ SqT K H' a [f1 i, f2 i] ∧ Same H H') (hst : ∀ H, Same H1 H → J.stop n H)
  (turn : ∀ D i ys H (A : VK) (R : Hp → Prop), i < n → Same H1 H → H1 D = none → H D = some (.lst ys) → Pv D i ys H → (∀ H', Same H H' → Pv D (i + 1) ys H' → R H') → (∀ y H', Same H H' → Pv D (i + 1) (ys ++ [y]) H' → A y H') →
   tc (some (f1 i) :: some (f2 i) :: fr) H fun b H3 => if b = true then te (some (f1 i) :: some (f2 i) :: fr) H3 A else R H3)
  (fin : ∀ D ys H, H1 D = none → Same H1 H → Pv D n ys H → H D = some (.lst ys) → Q (.ref D) H) : rdLc2 K J H1 fr tc te Q := by
 intro D hD
 refine ⟨fun i m H => i ≤ n ∧ m = n - i ∧ Same H1 H ∧ ∃ ys, H D = some (.lst ys) ∧ Pv D i ys H, ⟨n, Nat.zero_le _, rfl, same_upd hD, [], upd_same, h0 D _ hD (same_upd hD)⟩, ?_⟩
 rintro i m H ⟨hi, rfl, sm, ys, hl, hp⟩
 by_cases h : i = n
 ·subst h
  exact .inl ⟨hst H sm, fin D ys H hD sm hp hl⟩
 ·have hlt : i < n := Nat.lt_of_le_of_ne hi h
  refine .inr ⟨hgo i H hlt sm, fun v H' hyl => ?_⟩
  obtain ⟨a, rfl, ht, s2⟩ := hy i H v H' hlt sm hyl
  refine ⟨a, _, _, rfl, ht, turn D i ys H' _ _ hlt (sm.trans s2) hD (s2 _ _ hl) (psame _ _ _ _ _ s2 hp) (fun H3 s3 hp3 => ?_) (fun y H4 s4 hp4 => ?_)⟩
  ·exact ⟨n - (i + 1), by omega, by omega, rfl, (sm.trans s2).trans s3, ys, s3 _ _ (s2 _ _ hl), hp3⟩
  refine ⟨ys, s4 _ _ (s2 _ _ hl), hz D i ys _ hlt hp, n - (i + 1), by omega, by omega, rfl, fun b u e => ?_, ys ++ [y], upd_same, stab _ _ _ _ _ _ (s4 _ _ (s2 _ _ hl)) hp4⟩
  rw [upd_ne (ne_of_none e hD)]
  exact s4 _ _ (s2 _ _ (sm _ _ e))
end L2
end
section
namespace L2
open PySem PySem.Spec PyProof.Rows
theorem boot_reversed : bootBuiltins "reversed" = some (.type "reversed") := by decide +kernel
end L2
end
section
namespace L2
open PySem PySem.Spec PyProof.Rows
def Itlr (K : PySem.W.Frag) (a : Addr) (n : Nat) : It :=
 ⟨fun i H => ∃ xs x, SqL K H a xs ∧ i < n ∧ xs[n - 1 - i]? = some x, fun i H x H' => H' = H ∧ ∀ xs, SqL K H a xs → xs[n - 1 - i]? = some x, fun i _ => i = n⟩
theorem turn_listR {P : Program} {w : World} {K : PySem.W.Frag} {tg : Expr} (a it : Addr) (n : Nat) : Turn P w K tg (Itlr K a n) [it] it (fun i h => h.IsRevIter it a ((n : Int) - 1 - (i : Int))) where
 mem := by simp
 obj := fun i h st b hb => by
  have e : b = it := by simpa using hb
  subst e
  obtain ⟨o, e, c, d⟩ := st
  exact ⟨o, e, fun v z => by rw [d] at z; cases z⟩
 keep := fun i h h' st k => st.at fun o e => k it (by simp) o e
 item := by
  intro X hP hw hK hc i pins s σ H E I hf st hg
  subst hP hw hK
  obtain ⟨xs, x, hq, hi, hx⟩ := hg
  obtain ⟨its, rv, p, hz⟩ := I.list hq
  obtain ⟨u, hu, ru⟩ := rv.get hx
  obtain ⟨f0, f1, f2, f3, f4, f5⟩ := hf it (by simp)
  have e : (n : Int) - 1 - (i : Int) = ((n - 1 - i : Nat) : Int) := by omega
  have st1 := st
  rw [e] at st1
  refine wpAny_pyNext_rev_item st1 p.isList (x := u) (by simpa using hu) fun h' st' sb => ?_
  have e2 : ((n - 1 - i : Nat) : Int) - 1 = (n : Int) - 1 - ((i + 1 : Nat) : Int) := by omega
  rw [e2] at st'
  have I1 : Inv X pins σ H { s with heap := h' } := I.turned (t' := s.toks) (fun b o hb e => (sb.2 b hb).trans e) f0 f1 f3 f4 f5
  obtain ⟨o, e, c, d⟩ := id st'
  exact ⟨u, rfl, go_of (s := { s with heap := h' }) e c d (by decide) ⟨x, H, I1, ru, ⟨rfl, fun ys hy => by rw [I.list_inj hy hq]; exact hx⟩, st', fun b hb => (hf b hb).1⟩⟩
 done := by
  intro X hP hw hK hc i pins s σ H E I hf st hg
  subst hP hw hK
  have hg : i = n := hg
  subst hg
  obtain ⟨f0, f1, f2, f3, f4, f5⟩ := hf it (by simp)
  have e : (i : Int) - 1 - (i : Int) = -1 := by omega
  rw [e] at st
  exact wpAny_pyNext_rev_end (I.ok.hd hc) st fun h' eb => ⟨rfl, I.turned (t' := s.toks) (fun b o hb e => eb b o hb e) f0 f1 f3 f4 f5⟩
 self := fun _ _ _ _ _ st h => wpAny_pyIter_revIter st h
section
variable {X : Cx} {tg : Expr}
def iRevL (K : PySem.W.Frag) (tl : TE) : TI := fun σ H R => tl σ H fun x H1 => ∃ a xs, x = .ref a ∧ SqL K H1 a xs ∧ R (Itlr K a xs.length) H1
theorem r_revL {K : PySem.W.Frag} {tl : TE} {σ : St} {H : Hp} {R : It → Hp → Prop} (h : tl σ H fun x H1 => ∃ a xs, x = .ref a ∧ SqL K H1 a xs ∧ R (Itlr K a xs.length) H1) : iRevL K tl σ H R := h
theorem pi_revL {l : Expr} {tl : TE} {p pos : Pos} (hg : Gl X "reversed") (hm : X.mg "reversed" = none) (hl : PE X l tl) (hs3 : starEach [l] X.env = [(false, eval l X.env)] := by rfl) : PI X tg (.Call (.Name "reversed" p) [l] [] pos) (iRevL X.K tl) := by
 intro pins s σ H R I h
 refine Call_ (ld_blt I hg hm boot_reversed (PyProof.Rows.callWith_type1 ?_ hs3 rfl))
 rw [hs3]
 refine Calls.spliced_cons ?_
 refine thn (hl pins s σ H _ I h) fun v s1 ⟨x, H1, I1, r1, q1⟩ => ?_
 obtain ⟨a, xs, e, hq, q⟩ := q1
 subst e
 cases r1
 obtain ⟨its, rv, p, hz⟩ := I1.list hq
 refine Calls.spliced_nil ?_
 refine call_reversed_list p.isList ?_
 have hn : ((its.toArray.size : Nat) : Int) - 1 = ((xs.length : Nat) : Int) - 1 - ((0 : Nat) : Int) := by have := rv.length; simp; omega
 refine wpAny_pyIter_revIter (i := ((xs.length : Nat) : Int) - 1 - ((0 : Nat) : Int)) (l := a) ⟨_, Heap.get?_push_size _ rfl, rfl, by rw [← hn]; rfl⟩ ?_
 refine ⟨s1.heap.objs.size, [s1.heap.objs.size], _, _, H1, rfl, I1.kept (t' := s1.toks) fun b o e => Heap.get?_push_of_some _ e, turn_listR a _ xs.length, ⟨_, Heap.get?_push_size _ rfl, rfl, by rw [← hn]; rfl⟩, fun b hb => ?_, q⟩
 have e : b = s1.heap.objs.size := by simpa using hb
 subst e
 exact I1.fpOk (Nat.le_refl _) (I1.hok.fresh (Nat.le_refl _))
end
theorem for_pairs {K : PySem.W.Frag} {a : Addr} {as : List Addr} {xs ys : List V} {i1 i2 : Nat} {tb : TS} {D : Ends} {σ : St} {H : Hp} (hx : as.length = xs.length) (hy : as.length = ys.length) (Pv : Nat → St → Hp → Prop) (h0 : Pv 0 σ H)
  (hl : ∀ i σ H, i ≤ as.length → Pv i σ H → SqL K H a (as.map V.ref)) (ht : ∀ (i : Nat) t x y σ H, as[i]? = some t → xs[i]? = some x → ys[i]? = some y → Pv i σ H → H t = some (.tup [x, y]))
  (step : ∀ (i : Nat) x y σ H, xs[i]? = some x → ys[i]? = some y → Pv i σ H → tb { D with nx := Pv (i + 1), ct := Pv (i + 1), bk := D.nx } ((σ.set i1 (some x)).set i2 (some y)) H)
  (fin : ∀ σ H, Pv as.length σ H → D.nx σ H) : forB (Itl K a) (gTup K 2 (gCons (gName i1) (gCons (gName i2) gNil))) tb D σ H := by
 refine ⟨fun i m σ H => i ≤ as.length ∧ m = as.length - i ∧ Pv i σ H, ⟨_, Nat.zero_le _, rfl, h0⟩, ?_⟩
 rintro i m σ H ⟨hi, rfl, hp⟩
 by_cases h : i = as.length
 ·exact .inl ⟨⟨_, hl i σ H hi hp, by rw [List.length_map]; omega⟩, fin σ H (h ▸ hp)⟩
 ·have hlt : i < as.length := Nat.lt_of_le_of_ne hi h
  refine .inr ⟨⟨_, .ref as[i], hl i σ H hi hp, by rw [List.getElem?_map, List.getElem?_eq_getElem hlt]; rfl⟩, Pv (i + 1), fun σ' H' q => ⟨as.length - (i + 1), by omega, hlt, rfl, q⟩, fun v H' hyl => ?_⟩
  obtain ⟨rfl, hv⟩ := hyl
  have hv := hv _ (hl i σ H' hi hp)
  rw [List.getElem?_map, List.getElem?_eq_getElem hlt] at hv
  obtain rfl := Option.some.inj hv
  exact r_gtup2 (SqT.of (ht i _ _ _ σ H' (List.getElem?_eq_getElem hlt) (List.getElem?_eq_getElem (by omega)) (List.getElem?_eq_getElem (by omega)) hp)) (step i _ _ σ H' (List.getElem?_eq_getElem (by omega)) (List.getElem?_eq_getElem (by omega)) hp)
theorem for_pairsR {K : PySem.W.Frag} {a : Addr} {as : List Addr} {xs ys : List V} {i1 i2 : Nat} {tb : TS} {D : Ends} {σ : St} {H : Hp} (hx : as.length = xs.length) (hy : as.length = ys.length) (Pv : Nat → St → Hp → Prop) (h0 : Pv 0 σ H)
  (hl : ∀ i σ H, i ≤ as.length → Pv i σ H → SqL K H a (as.map V.ref)) (ht : ∀ (i j : Nat) t x y σ H, as[j]? = some t → xs[j]? = some x → ys[j]? = some y → Pv i σ H → H t = some (.tup [x, y]))
  (step : ∀ (i : Nat) x y σ H, i < as.length → xs[as.length - 1 - i]? = some x → ys[as.length - 1 - i]? = some y → Pv i σ H → tb { D with nx := Pv (i + 1), ct := Pv (i + 1), bk := D.nx } ((σ.set i1 (some x)).set i2 (some y)) H)
  (fin : ∀ σ H, Pv as.length σ H → D.nx σ H) : forB (Itlr K a as.length) (gTup K 2 (gCons (gName i1) (gCons (gName i2) gNil))) tb D σ H := by
 refine ⟨fun i m σ H => i ≤ as.length ∧ m = as.length - i ∧ Pv i σ H, ⟨_, Nat.zero_le _, rfl, h0⟩, ?_⟩
 rintro i m σ H ⟨hi, rfl, hp⟩
 by_cases h : i = as.length
 ·exact .inl ⟨h, fin σ H (h ▸ hp)⟩
 ·have hlt : i < as.length := Nat.lt_of_le_of_ne hi h
  have hj : as.length - 1 - i < as.length := by omega
  refine .inr ⟨⟨_, .ref as[as.length - 1 - i], hl i σ H hi hp, hlt, by rw [List.getElem?_map, List.getElem?_eq_getElem hj]; rfl⟩, Pv (i + 1), fun σ' H' q => ⟨as.length - (i + 1), by omega, hlt, rfl, q⟩, fun v H' hyl => ?_⟩
  obtain ⟨rfl, hv⟩ := hyl
  have hv := hv _ (hl i σ H' hi hp)
  rw [List.getElem?_map, List.getElem?_eq_getElem hj] at hv
  obtain rfl := Option.some.inj hv
  exact r_gtup2 (SqT.of (ht i _ _ _ _ σ H' (List.getElem?_eq_getElem hj) (List.getElem?_eq_getElem (by omega)) (List.getElem?_eq_getElem (by omega)) hp)) (step i _ _ σ H' hlt (List.getElem?_eq_getElem (by omega)) (List.getElem?_eq_getElem (by omega)) hp)
theorem lc_pairsN {K : PySem.W.Frag} {a : Addr} {as : List Addr} {xs ys : List V} {H1 : Hp} {fr : St} {tc : TT} {te : TE} {Q : VK} (hx : as.length = xs.length) (hy : as.length = ys.length) (ha : SqL K H1 a (as.map V.ref)) (ht : ∀ (i : Nat) t x y, as[i]? = some t → xs[i]? = some x → ys[i]? = some y → H1 t = some (.tup [x, y]))
  (Pv : Addr → Nat → List V → Hp → Prop) (h0 : ∀ D H, H1 D = none → Same H1 H → Pv D 0 [] H)
  (stab : ∀ D i zs H us o, H D = some (.lst us) → Pv D i zs H → Pv D i zs (upd H D o)) (hz : ∀ D i zs H, i < as.length → Pv D i zs H → zs.length < sizeLine) (psame : ∀ D i zs H H', Same H H' → Pv D i zs H → Pv D i zs H')
  (turn : ∀ D (i : Nat) zs x y H (A : VK) (R : Hp → Prop), xs[i]? = some x → ys[i]? = some y → Same H1 H → H1 D = none → H D = some (.lst zs) → Pv D i zs H → (∀ H', Same H H' → Pv D (i + 1) zs H' → R H') → (∀ y H', Same H H' → Pv D (i + 1) (zs ++ [y]) H' → A y H') →
   tc (some x :: some y :: fr) H fun b H3 => if b = true then te (some x :: some y :: fr) H3 A else R H3)
  (fin : ∀ D zs H, H1 D = none → Same H1 H → Pv D as.length zs H → H D = some (.lst zs) → Q (.ref D) H) : rdLc2 K (Itl K a) H1 fr tc te Q := by
 refine lc_new2R as.length (fun i => xs.getD i .non) (fun i => ys.getD i .non) Pv h0 stab hz psame (fun i H hi sm => ⟨_, .ref as[i], sm.seq ha, by rw [List.getElem?_map, List.getElem?_eq_getElem hi]; rfl⟩) (fun i H v H' hi sm h => ?_)
  (fun H sm => ⟨_, sm.seq ha, by rw [List.length_map]; exact Nat.le_refl _⟩) (fun D i zs H A R hi sm => turn D i zs _ _ H A R (by simp [show i < xs.length by omega]) (by simp [show i < ys.length by omega]) sm) fin
 obtain ⟨rfl, hv⟩ := h
 have hv := hv _ (sm.seq ha)
 rw [List.getElem?_map, List.getElem?_eq_getElem hi] at hv
 obtain rfl := Option.some.inj hv
 refine ⟨_, rfl, SqT.of (sm _ _ (ht i _ _ _ (List.getElem?_eq_getElem hi) ?_ ?_)), Same.refl _⟩
 ·simp [show i < xs.length by omega]
 ·simp [show i < ys.length by omega]
end L2
end
section
namespace L2
open PySem PySem.Spec PyProof.Rows
theorem down_range (n : Nat) : sliceRange (sliceBounds none none (some (-1)) n).1 (sliceBounds none none (some (-1)) n).2.1 (sliceBounds none none (some (-1)) n).2.2 = (List.range n).map fun k => n - 1 - k := by
 have e : sliceBounds none none (some (-1)) n = ((n : Int) - 1, -1, -1) := by simp [sliceBounds]
 rw [e]
 unfold sliceRange
 dsimp only
 rw [if_neg (by decide)]
 have e2 : (if (n : Int) - 1 > -1 then ((n : Int) - 1 - -1 - -1 - 1) / - -1 else 0).toNat = n := by
  split
  ·rw [show (- -1 : Int) = 1 by decide, Int.ediv_one]
   omega
  ·omega
 rw [e2]
 refine List.map_congr_left fun k hk => ?_
 have := List.mem_range.mp hk
 omega
theorem pick_downV {α : Type} (l : List α) : ∀ n, n ≤ l.length → ((List.range n).map fun k => n - 1 - k).filterMap (l[·]?) = (l.take n).reverse
 | 0, _ => by simp
 | n + 1, h => by
  have hl : n < l.length := h
  rw [List.range_succ_eq_map, List.map_cons, List.map_map, List.filterMap_cons]
  have e : ((fun k => n + 1 - 1 - k) ∘ Nat.succ) = fun k => n - 1 - k := by
   funext k
   show n + 1 - 1 - (k + 1) = n - 1 - k
   omega
  rw [e, show n + 1 - 1 - 0 = n by omega, List.getElem?_eq_getElem hl]
  dsimp only
  rw [pick_downV l n (by omega), List.take_add_one, List.getElem?_eq_getElem hl, Option.toList_some, List.reverse_append]
  rfl
theorem vals_rev : ∀ {xs : List V} {us : List Value}, Vals xs us → Vals xs.reverse us.reverse := fun {xs us} h => by
 have key : ∀ (xs : List V) (us : List Value) (ys : List V) (vs : List Value), Vals xs us → Vals ys vs → Vals (xs.reverse ++ ys) (us.reverse ++ vs) := fun xs => by
  induction xs with
  | nil => intro us ys vs h1 h2; cases h1; exact h2
  | cons x xs ih =>
   intro us ys vs h1 h2
   cases h1 with
   | cons r t =>
    rw [List.reverse_cons, List.reverse_cons, List.append_assoc, List.append_assoc]
    exact ih _ _ _ t (.cons r h2)
 have := key xs us [] [] h .nil
 rwa [List.append_nil, List.append_nil] at this
def tRevL (K : PySem.W.Frag) (te : TE) : TE := fun σ H Q => te σ H fun x H1 => ∃ a xs, x = .ref a ∧ SqL K H1 a xs ∧ ∀ p, H1 p = none → Q (.ref p) (upd H1 p (.lst xs.reverse))
section
variable {X : Cx} {e : Expr} {te : TE} {pos p1 p2 p3 : Pos}
theorem pe_lrev {x1} (he : PE X e te) : PE X (.Subscript e (.Slice none none (some (.UnaryOp .USub (.Constant (.int 1) x1 p1) p2)) p3) pos) (tRevL X.K te) := by
 intro pins s σ H Q I h
 refine Subscript_ (thn (he pins s σ H _ I h) fun v s1 ⟨x, H1, I1, r1, q1⟩ => ?_)
 obtain ⟨a, xs, rfl, hq, q⟩ := q1
 obtain rfl : v = Value.ref a := r1
 refine wpAny_Slice ?_
 rw [evalPart_none]
 refine wpAny_pure (wpAny_pure ?_)
 rw [evalPart_some]
 have hm : PE X (.UnaryOp .USub (.Constant (.int 1) x1 p1) p2) (tUn (rU fun i => .int (-i)) (tC (.int 1))) := pe_un un_neg pe_int
 refine thn (hm pins s1 σ H1 (fun y H2 => y = .int (-1) ∧ H2 = H1) I1 ⟨1, rfl, rfl, rfl⟩) fun w s2 ⟨y, H2, I2, r2, e2, e3⟩ => ?_
 subst e2 e3
 obtain ⟨t, rfl⟩ := r2
 have I4 : Inv X pins σ H2 { s2 with heap := s2.heap.push { cls := .type "slice", data := .fields #[.none, .none, .int (-1) t] } } := I2.kept (t' := s2.toks) fun b ob q => Heap.get?_push_of_some _ q
 obtain ⟨its, r, pl, hz⟩ := I4.list hq
 have e1 := r.length
 show wpAny (model X.prog X.w) X.A (subscriptTail e (.Slice none none (some (.UnaryOp .USub (.Constant (.int 1) x1 p1) p2)) p3) (.ref a) (.ref s2.heap.objs.size)) (EP X pins σ Q) X.xe { s2 with heap := s2.heap.push { cls := .type "slice", data := .fields #[.none, .none, .int (-1) t] } }
 refine tail_any (ops := [.ref a, .ref s2.heap.objs.size]) pl.isList.typeIs list_getitem_lookup ?_ (by with_unfolding_all rfl)
 refine wpAny_getItem_list_slice pl.isList (Heap.IsSliceOf.new ..) .none .none (.int (-1) t) (by intro z; have := Option.some.inj z; omega) ?_ (by rw [List.size_toArray]; omega)
 have hp : slicePick its.toArray none none (some (-1)) = its.reverse.toArray := by
  have := pick_downV its its.length (Nat.le_refl _)
  rw [List.take_of_length_le (Nat.le_refl _)] at this
  rw [← this, ← down_range its.length]
  unfold slicePick
  simp
 rw [hp]
 exact ⟨.ref _, _, I4.lnew (t' := s2.toks) (vals_rev r) (by rw [List.length_reverse]; exact hz), rfl, q _ (I4.hok.fresh (Nat.le_refl _))⟩
theorem r_lrev {K : PySem.W.Frag} {σ : St} {H : Hp} {Q : VK} (h : te σ H fun x H1 => ∃ a xs, x = .ref a ∧ SqL K H1 a xs ∧ ∀ p, H1 p = none → Q (.ref p) (upd H1 p (.lst xs.reverse))) : tRevL K te σ H Q := h
end
end L2
end
section
namespace L2
open PySem PySem.Spec PyProof.Rows
section
variable {prog : Program} {w : World} {A : Around} {E : Value → Shared → Prop} {s : Shared}
theorem tupNext {it t : Addr} {i : Nat} {us : Array Value} {u : Value} {Q : Value → Shared → Prop} (g : s.heap.IsTupleIter it t i) (gt : s.heap.IsTuple t us) (gu : us[i]? = some u) (k : ∀ h', h'.IsTupleIter it t (i + 1) → Heap.SameBut it s.heap h' → Q u { s with heap := h' }) :
  wpAny (model prog w) A (Builtin.SmallTypes.nextOf (.ref it)) Q E s := by
 obtain ⟨o, go, gc, gd⟩ := id g
 obtain ⟨o2, go2, _, n2, gd2⟩ := gt
 unfold Builtin.SmallTypes.nextOf
 refine wpAny_bind (wpAny_callSpecial?_slot (name := Str.ofString "__next__") g.typeIs PySem.F.slot_tuple_iterator_next (wpAny_call_entry PySem.F.slot_tuple_iterator_next g.typeIs PySem.F.entry_tuple_iterator_next ?_ (PySem.F.args_tuple_iterator_next_1 _)))
 show wpAny _ _ (field (.ref it) 0 >>= _) _ _ s; refine wpAny_bind (wpAny_field go gd (x := .ref t) rfl ?_)
 show wpAny _ _ (if (Value.ref t == Value.none) = true then _ else _) _ _ s; rw [if_neg (show ¬ ((Value.ref t == Value.none) = true) from Bool.false_ne_true)]
 show wpAny _ _ (field (.ref it) 1 >>= _) _ _ s; refine wpAny_bind (wpAny_field go gd (x := .int i 0) rfl ?_)
 show wpAny _ _ (seqItems? (.ref t) >>= _) _ _ s; refine wpAny_bind (wpAny_seqItems go2 gd2 ?_)
 simp only [Int.toNat_natCast, gu]
 refine wpAny_bind (wpAny_setField go gd (by simp) (wpAny_pure ⟨u, rfl, wpAny_pure (k _ ⟨_, Heap.get?_update_self _ go (Obj.isFreed_of_fields (Obj.data_mapFields gd _)), (Obj.cls_mapFields ..).trans gc, by rw [Obj.data_mapFields gd]; simp [rawInt]⟩ (Heap.SameBut.update ..))⟩))
theorem tupStop {it t : Addr} {i : Nat} {us : Array Value} {Q : Value → Shared → Prop} (hh : A.handled = none) (g : s.heap.IsTupleIter it t i) (gt : s.heap.IsTuple t us) (gu : us[i]? = none)
  (k : ∀ h' e, Heap.ExtBut it s.heap h' → (∃ o, h'.get? e = some o ∧ o.cls = .type "StopIteration") → E (.ref e) { s with heap := h' }) : wpAny (model prog w) A (Builtin.SmallTypes.nextOf (.ref it)) Q E s := by
 obtain ⟨o, go, gc, gd⟩ := id g
 obtain ⟨o2, go2, _, n2, gd2⟩ := gt
 unfold Builtin.SmallTypes.nextOf
 refine wpAny_bind (wpAny_callSpecial?_slot (name := Str.ofString "__next__") g.typeIs PySem.F.slot_tuple_iterator_next (wpAny_call_entry PySem.F.slot_tuple_iterator_next g.typeIs PySem.F.entry_tuple_iterator_next ?_ (PySem.F.args_tuple_iterator_next_1 _)))
 show wpAny _ _ (field (.ref it) 0 >>= _) _ _ s; refine wpAny_bind (wpAny_field go gd (x := .ref t) rfl ?_)
 show wpAny _ _ (if (Value.ref t == Value.none) = true then _ else _) _ _ s; rw [if_neg (show ¬ ((Value.ref t == Value.none) = true) from Bool.false_ne_true)]
 show wpAny _ _ (field (.ref it) 1 >>= _) _ _ s; refine wpAny_bind (wpAny_field go gd (x := .int i 0) rfl ?_)
 show wpAny _ _ (seqItems? (.ref t) >>= _) _ _ s; refine wpAny_bind (wpAny_seqItems go2 gd2 ?_)
 simp only [Int.toNat_natCast, gu]
 refine wpAny_bind (wpAny_rule (wpAny_bind (wpAny_setField go gd (by simp) ?_)))
 show wpAny _ _ (newExc (.type "StopIteration") [] >>= _) _ _ _; refine wpAny_bind ?_
 simp only [newExc, newTuple]; refine wpAny_bind (wpAny_newObj_type ?_ (by size_fits))
 refine wpAny_bind (m := firstArgMember _ _) (wpAny_of_eq (a := Value.none) (by first | rfl | (simp only [firstArgMember]; rfl)) ?_); refine wpAny_newObj_type ?_ (by size_fits)
 simp only [raiseNew]; refine wpAny_bind (wpAny_handled ?_)
 first | rw [show A.in1.handled = none from hh] | rw [hh]
 refine wpAny_bind (wpAny_pure (wpAny_throw ?_))
 exact k _ _ (((Heap.SameBut.update ..).extBut.push _).push _) ⟨_, Heap.get?_push_size _ rfl, rfl⟩
theorem zipT_item {z TI TO i1 i2 t1 t2 : Addr} {k1 k2 : Nat} {us vs : Array Value} {u v a b : Value} {Q : Option Value → Shared → Prop} (D : ZipApart z TI TO i1 i2 t1 t2) (gz : IsZip s.heap z TI TO .none) (gI : IsPair s.heap TI (.ref i1) (.ref i2)) (gO : IsPair s.heap TO a b)
  (g1 : s.heap.IsTupleIter i1 t1 k1) (g2 : s.heap.IsTupleIter i2 t2 k2) (gt1 : s.heap.IsTuple t1 us) (gt2 : s.heap.IsTuple t2 vs) (gu : us[k1]? = some u) (gv : vs[k2]? = some v)
  (kQ : ∀ h', IsZip h' z TI TO (rawInt s.heap.objs.size) → IsPair h' TO u v → h'.IsTupleIter i1 t1 (k1 + 1) → h'.IsTupleIter i2 t2 (k2 + 1) → IsPair h' s.heap.objs.size u v → h'.objs.size = s.heap.objs.size + 1 →
   (∀ c o, c ≠ z → c ≠ TO → c ≠ i1 → c ≠ i2 → s.heap.get? c = some o → h'.get? c = some o) → Q (some (.ref s.heap.objs.size)) { s with heap := h' }) : wpAny (model prog w) A (pyNext (.ref z)) Q E s := by
 have ty : s.TypeIs (.ref z) "zip" := ⟨_, gz, rfl⟩
 unfold pyNext
 refine wpAny_bind (wpAny_attempt (wpAny_callSpecial?_slot (name := Str.ofString "__next__") ty PySem.F.slot_zip_next (wpAny_call_entry PySem.F.slot_zip_next ty PySem.F.entry_zip_next ?_ (PySem.F.args_zip_next_1 _))))
 show wpAny _ _ (field (.ref z) 2 >>= _) _ _ _; refine wpAny_bind (wpAny_field gz rfl (x := .bool false) rfl ?_)
 show wpAny _ _ (field (.ref z) 3 >>= _) _ _ _; refine wpAny_bind (wpAny_field gz rfl (x := .ref TI) rfl ?_)
 refine wpAny_bind (wpAny_seqItems gI rfl ?_); show wpAny _ _ (Builtin.SmallTypes.ownedTupleIsFree (.ref z) >>= _) _ _ _
 refine wpAny_bind ?_; unfold Builtin.SmallTypes.ownedTupleIsFree
 refine wpAny_bind (wpAny_field gz rfl (x := .none) rfl (wpAny_pure ?_)); simp only [if_true]
 refine wpAny_bind (wpAny_rule ?_); refine wpAny_bind (wpAny_field gz rfl (x := .ref TO) rfl ?_)
 refine wpAny_bind (wpAny_setField_rec gz (by simp) fun ha ka sa => ?_); replace ka : IsZip ha z TI TO .ellipsis := ka
 refine wpAny_bind ?_; simp only [List.zipIdx_cons, List.zipIdx_nil, List.forIn_cons, List.forIn_nil]
 refine wpAny_bind (wpAny_bind (wpAny_onRaise ?_)); show wpAny _ _ (Builtin.SmallTypes.nextOf (.ref i1) >>= _) _ _ _
 refine wpAny_bind (tupNext (g1.extBut sa.extBut D.i1z) (gt1.extBut sa.extBut D.l1z) gu fun hb kb sb => wpAny_pure ?_)
 have ob : IsPair hb TO a b := sb.extBut _ _ D.TOi1 (sa.extBut _ _ D.TOz gO)
 refine wpAny_bind (wpAny_seqItems ob rfl ?_); refine wpAny_bind (wpAny_updateSeq_pair ob fun hc kc sc => ?_)
 replace kc : IsPair hc TO u b := kc
 refine wpAny_bind (wpAny_letGo (wpAny_pure ?_)); refine wpAny_bind (wpAny_bind (wpAny_onRaise ?_))
 show wpAny _ _ (Builtin.SmallTypes.nextOf (.ref i2) >>= _) _ _ _
 refine wpAny_bind (tupNext (((g2.extBut sa.extBut D.i2z).extBut sb.extBut D.i12.symm).extBut sc.extBut D.TOi2.symm) (((gt2.extBut sa.extBut D.l2z).extBut sb.extBut D.l2i1).extBut sc.extBut D.l2TO) gv fun hd kd sd => wpAny_pure ?_)
 have od : IsPair hd TO u b := sd.extBut _ _ D.TOi2 kc
 refine wpAny_bind (wpAny_seqItems od rfl ?_); refine wpAny_bind (wpAny_updateSeq_pair od fun he ke se => ?_)
 replace ke : IsPair he TO u v := ke
 refine wpAny_bind (wpAny_letGo (wpAny_pure (wpAny_pure ?_))); refine wpAny_bind (wpAny_seqItems ke rfl ?_); refine wpAny_bind (wpAny_newTuple ?_)
 have size : he.objs.size = s.heap.objs.size := by rw [se.1, sd.1, sc.1, sb.1, sa.1]
 have ze : IsZip he z TI TO .ellipsis := se.extBut _ _ D.TOz.symm (sd.extBut _ _ D.i2z.symm (sc.extBut _ _ D.TOz.symm (sb.extBut _ _ D.i1z.symm ka)))
 have keep : ∀ c o, c ≠ z → c ≠ TO → c ≠ i1 → c ≠ i2 → s.heap.get? c = some o → he.get? c = some o := fun c o c1 c2 c3 c4 e => se.extBut _ _ c2 (sd.extBut _ _ c4 (sc.extBut _ _ c2 (sb.extBut _ _ c3 (sa.extBut _ _ c1 e))))
 have f1 : he.IsTupleIter i1 t1 (k1 + 1) := ((kb.extBut sc.extBut D.TOi1.symm).extBut sd.extBut D.i12).extBut se.extBut D.TOi1.symm
 have f2 : he.IsTupleIter i2 t2 (k2 + 1) := kd.extBut se.extBut D.TOi2.symm
 have zlt : z < he.objs.size := Heap.lt_size ze
 show wpAny _ _ (Builtin.SmallTypes.ownedTupleHandOut (.ref z) (.ref he.objs.size) >>= _) _ _ _
 refine wpAny_bind ?_; unfold Builtin.SmallTypes.ownedTupleHandOut
 have zf : IsZip (he.push { cls := .type "tuple", data := .seq #[u, v] }) z TI TO .ellipsis := Heap.get?_push_of_some _ ze
 refine wpAny_bind (wpAny_setField_rec zf (by simp) fun hg kg sg => ?_); replace kg : IsZip hg z TI TO (rawInt he.objs.size) := kg
 refine wpAny_setField_rec kg (by simp) fun hi ki si => ?_; replace ki : IsZip hi z TI TO (rawInt he.objs.size) := ki
 have up : ∀ c o, c ≠ z → he.get? c = some o → hi.get? c = some o := fun c o c1 e => si.extBut _ _ c1 (sg.extBut _ _ c1 (Heap.get?_push_of_some _ e))
 have pi : IsPair hi he.objs.size u v := si.extBut _ _ (Nat.ne_of_gt zlt) (sg.extBut _ _ (Nat.ne_of_gt zlt) (Heap.get?_push_size _ rfl))
 have size2 : hi.objs.size = he.objs.size + 1 := by rw [si.1, sg.1, Heap.size_push]
 rw [size] at ki pi size2
 refine wpAny_pure ⟨_, rfl, wpAny_pure ?_⟩
 show Q (some (.ref he.objs.size)) _
 rw [size]
 exact kQ hi ki (up _ _ D.TOz ke) (let ⟨o, e, r⟩ := f1; ⟨o, up _ o D.i1z e, r⟩) (let ⟨o, e, r⟩ := f2; ⟨o, up _ o D.i2z e, r⟩) pi size2 fun c o c1 c2 c3 c4 e => up c o c1 (keep c o c1 c2 c3 c4 e)
theorem zipT_end {z TI TO i1 i2 t1 t2 : Addr} {k1 : Nat} {us : Array Value} {a b : Value} {Q : Option Value → Shared → Prop} (hh : A.handled = none) (D : ZipApart z TI TO i1 i2 t1 t2) (gz : IsZip s.heap z TI TO .none) (gI : IsPair s.heap TI (.ref i1) (.ref i2)) (gO : IsPair s.heap TO a b)
  (g1 : s.heap.IsTupleIter i1 t1 k1) (gt1 : s.heap.IsTuple t1 us) (gu : us[k1]? = none)
  (kQ : ∀ h', (∀ c o, c ≠ z → c ≠ TO → c ≠ i1 → c ≠ i2 → s.heap.get? c = some o → h'.get? c = some o) → Q none { s with heap := h' }) : wpAny (model prog w) A (pyNext (.ref z)) Q E s := by
 have ty : s.TypeIs (.ref z) "zip" := ⟨_, gz, rfl⟩
 unfold pyNext
 refine wpAny_bind (wpAny_attempt (wpAny_callSpecial?_slot (name := Str.ofString "__next__") ty PySem.F.slot_zip_next (wpAny_call_entry PySem.F.slot_zip_next ty PySem.F.entry_zip_next ?_ (PySem.F.args_zip_next_1 _))))
 show wpAny _ _ (field (.ref z) 2 >>= _) _ _ _; refine wpAny_bind (wpAny_field gz rfl (x := .bool false) rfl ?_)
 show wpAny _ _ (field (.ref z) 3 >>= _) _ _ _; refine wpAny_bind (wpAny_field gz rfl (x := .ref TI) rfl ?_)
 refine wpAny_bind (wpAny_seqItems gI rfl ?_); show wpAny _ _ (Builtin.SmallTypes.ownedTupleIsFree (.ref z) >>= _) _ _ _
 refine wpAny_bind ?_; unfold Builtin.SmallTypes.ownedTupleIsFree
 refine wpAny_bind (wpAny_field gz rfl (x := .none) rfl (wpAny_pure ?_)); simp only [if_true]
 refine wpAny_bind (wpAny_rule ?_); refine wpAny_bind (wpAny_field gz rfl (x := .ref TO) rfl ?_)
 refine wpAny_bind (wpAny_setField_rec gz (by simp) fun ha ka sa => ?_); replace ka : IsZip ha z TI TO .ellipsis := ka
 refine wpAny_bind ?_; simp only [List.zipIdx_cons, List.zipIdx_nil, List.forIn_cons, List.forIn_nil]
 refine wpAny_bind (wpAny_bind (wpAny_onRaise ?_)); show wpAny _ _ (Builtin.SmallTypes.nextOf (.ref i1) >>= _) _ _ _
 refine wpAny_bind (tupStop hh (g1.extBut sa.extBut D.i1z) (gt1.extBut sa.extBut D.l1z) gu fun hb e sb ex => ?_)
 obtain ⟨oe, hoe, hce⟩ := ex
 have kb : IsZip hb z TI TO .ellipsis := sb _ _ D.i1z.symm ka
 have ne : e ≠ z := fun x => by subst x; rw [kb] at hoe; cases hoe; simp at hce
 refine wpAny_setField_rec kb (by simp) fun hc _ sc => ?_
 refine wpAny_bind (wpAny_isInstance (T := "StopIteration") (b := true) ⟨oe, sc.extBut _ _ ne hoe, hce⟩ isSubtype_stop ?_)
 exact wpAny_pure (kQ hc fun c o c1 _ c3 _ x => sc.extBut _ _ c1 (sb _ _ c3 (sa.extBut _ _ c1 x)))
end
abbrev zA (h : Heap) (t : Addr) : Heap := h.push { cls := .type "tuple_iterator", data := .fields #[.ref t, .int 0 0] }
abbrev zB (h : Heap) (t u : Addr) : Heap := zA (zA h t) u
abbrev zC (h : Heap) (t u : Addr) : Heap := (zB h t u).push { cls := .type "tuple", data := .seq #[.ref h.objs.size, .ref (zA h t).objs.size] }
abbrev zD (h : Heap) (t u : Addr) : Heap := (zC h t u).push { cls := .type "tuple", data := .seq #[.none, .none] }
abbrev zE (h : Heap) (t u : Addr) : Heap := (zD h t u).push { cls := .type "zip", data := .fields #[.none, .bool false, .bool false, .ref (zB h t u).objs.size, .ref (zC h t u).objs.size] }
theorem meetsT (t u : Addr) (us vs : Array Value) : Meets (Builtin.«zip.__new__» ⟨[.type "zip", .ref t, .ref u], []⟩) (fun _ R s => s.heap.IsTuple t us ∧ s.heap.IsTuple u vs ∧ R (.ok (.ret (.ref (zD s.heap t u).objs.size))) { s with heap := zE s.heap t u }) :=
 .of_wp fun prog w A R s h => by
  obtain ⟨hp, g, d, tk, os⟩ := s
  obtain ⟨h1, h2, h⟩ := h
  have sub := sub_zip
  have L1 : Heap.IsTuple (Shared.heap ⟨hp, g, d, tk, os⟩) t us := h1
  have L2 : Heap.IsTuple (Shared.heap ⟨hp.push { cls := .type "tuple_iterator", data := .fields #[.ref t, .int 0 0] }, g, d, tk, os⟩) u vs := Heap.IsTuple.push h2 _
  wp_walk using wpAny_pyIter_tuple L1, wpAny_pyIter_tuple L2
  exact ⟨_, rfl, h⟩
section
variable {prog : Program} {w : World} {A : Around} {E : Value → Shared → Prop} {s : Shared}
theorem call_zipT {t u : Addr} {us vs : Array Value} {Q : Value → Shared → Prop} (h1 : s.heap.IsTuple t us) (h2 : s.heap.IsTuple u vs)
  (k : ∀ h', IsZip h' (s.heap.objs.size + 4) (s.heap.objs.size + 2) (s.heap.objs.size + 3) .none → IsPair h' (s.heap.objs.size + 2) (.ref s.heap.objs.size) (.ref (s.heap.objs.size + 1)) → IsPair h' (s.heap.objs.size + 3) .none .none →
   h'.IsTupleIter s.heap.objs.size t 0 → h'.IsTupleIter (s.heap.objs.size + 1) u 0 → h'.objs.size = s.heap.objs.size + 5 → (∀ c o, s.heap.get? c = some o → h'.get? c = some o) → Q (.ref (s.heap.objs.size + 4)) { s with heap := h' }) :
  wpAny (model prog w) A (call (.type "zip") [.ref t, .ref u]) Q E s := by
 refine callType_new PySem.F.called_zip (by decide) (PySem.F.typeCall_zip_2 _ _) (PySem.F.newCall_zip_2 _ _) (fun obj => PySem.F.args_object_init_3 obj _ _) PySem.F.entry_zip_new (meetsT t u us vs) ⟨h1, h2, ?_⟩
 have nA : (zA s.heap t).objs.size = s.heap.objs.size + 1 := Heap.size_push ..
 have nB : (zB s.heap t u).objs.size = s.heap.objs.size + 2 := by rw [Heap.size_push, nA]
 have nC : (zC s.heap t u).objs.size = s.heap.objs.size + 3 := by rw [Heap.size_push, nB]
 have nD : (zD s.heap t u).objs.size = s.heap.objs.size + 4 := by rw [Heap.size_push, nC]
 have nE : (zE s.heap t u).objs.size = s.heap.objs.size + 5 := by rw [Heap.size_push, nD]
 have e5 : (zE s.heap t u).get? (zD s.heap t u).objs.size = some _ := Heap.get?_push_size _ rfl
 have e4 : (zE s.heap t u).get? (zC s.heap t u).objs.size = some _ := Heap.get?_push_of_some _ (Heap.get?_push_size _ rfl)
 have e3 : (zE s.heap t u).get? (zB s.heap t u).objs.size = some _ := Heap.get?_push_of_some _ (Heap.get?_push_of_some _ (Heap.get?_push_size _ rfl))
 have e2 : (zE s.heap t u).get? (zA s.heap t).objs.size = some _ := Heap.get?_push_of_some _ (Heap.get?_push_of_some _ (Heap.get?_push_of_some _ (Heap.get?_push_size _ rfl)))
 have e1 : (zE s.heap t u).get? s.heap.objs.size = some _ := Heap.get?_push_of_some _ (Heap.get?_push_of_some _ (Heap.get?_push_of_some _ (Heap.get?_push_of_some _ (Heap.get?_push_size _ rfl))))
 show _ ∧ _
 rw [nB, nC, nD] at e5
 rw [nA, nB] at e3
 rw [nC] at e4
 rw [nA] at e2
 rw [nD]
 exact ⟨⟨_, e5, rfl⟩, k _ e5 e3 e4 ⟨_, e1, rfl, rfl⟩ ⟨_, e2, rfl, rfl⟩ nE fun c o x => Heap.get?_push_of_some _ (Heap.get?_push_of_some _ (Heap.get?_push_of_some _ (Heap.get?_push_of_some _ (Heap.get?_push_of_some _ x))))⟩
end
def Itzt (K : PySem.W.Frag) (a b : Addr) : It :=
 ⟨fun i H => ∃ xs ys x y, SqT K H a xs ∧ SqT K H b ys ∧ xs[i]? = some x ∧ ys[i]? = some y,
  fun i H v H' => ∃ t x y, H t = none ∧ v = .ref t ∧ (∀ xs, SqT K H a xs → xs[i]? = some x) ∧ (∀ ys, SqT K H b ys → ys[i]? = some y) ∧ H' = upd H t (.tup [x, y]),
  fun i H => ∃ xs ys, SqT K H a xs ∧ SqT K H b ys ∧ i = xs.length⟩
def StT (z TI TO i1 i2 t1 t2 : Addr) (i : Nat) (h : Heap) : Prop := IsZip h z TI TO .none ∧ IsPair h TI (.ref i1) (.ref i2) ∧ (∃ a b, IsPair h TO a b) ∧ h.IsTupleIter i1 t1 i ∧ h.IsTupleIter i2 t2 i
theorem turn_zipT {P : Program} {w : World} {K : PySem.W.Frag} {elts : List Expr} {k : Nat} {pos : Pos} (z TI TO i1 i2 a b : Addr) (D : ZipApart z TI TO i1 i2 a b) :
  Turn P w K (.Tuple elts k pos) (Itzt K a b) [z, TI, TO, i1, i2] z (StT z TI TO i1 i2 a b) where
 mem := by simp
 obj := fun i h st c hc => by
  obtain ⟨hz, hTI, ⟨u, v, hTO⟩, ⟨o1, e1, c1, d1⟩, ⟨o2, e2, c2, d2⟩⟩ := st
  simp only [List.mem_cons, List.not_mem_nil, or_false] at hc
  rcases hc with rfl | rfl | rfl | rfl | rfl
  ·exact ⟨_, hz, fun v z => by cases z⟩
  ·exact ⟨_, hTI, fun v z => by cases z⟩
  ·exact ⟨_, hTO, fun v z => by cases z⟩
  ·exact ⟨_, e1, fun v z => by rw [d1] at z; cases z⟩
  ·exact ⟨_, e2, fun v z => by rw [d2] at z; cases z⟩
 keep := fun i h h' st kk => by
  obtain ⟨hz, hTI, ⟨u, v, hTO⟩, ⟨o1, e1, r1⟩, ⟨o2, e2, r2⟩⟩ := st
  exact ⟨kk _ (by simp) _ hz, kk _ (by simp) _ hTI, ⟨u, v, kk _ (by simp) _ hTO⟩, ⟨o1, kk _ (by simp) _ e1, r1⟩, ⟨o2, kk _ (by simp) _ e2, r2⟩⟩
 item := by
  intro X hP hw hK hc i pins s σ H E I hf st hg
  subst hP hw hK
  obtain ⟨xs, ys, x, y, ha, hb, hx, hy⟩ := hg
  obtain ⟨its, rv, p, hz⟩ := I.tuple ha
  obtain ⟨its2, rv2, p2, hz2⟩ := I.tuple hb
  obtain ⟨u1, hu1, ru1⟩ := rv.get hx
  obtain ⟨u2, hu2, ru2⟩ := rv2.get hy
  obtain ⟨s1, s2, ⟨va, vb, s3⟩, s4, s5⟩ := id st
  refine zipT_item D s1 s2 s3 s4 s5 (us := its.toArray) (vs := its2.toArray) p p2 (by simpa using hu1) (by simpa using hu2) fun h' z' o' f1 f2 pr hsz kp => ?_
  refine ⟨.ref s.heap.objs.size, rfl, wpAny_letOwnedTupleGo_zip (s := { s with heap := h' }) z' fun h'' z'' sb => ?_⟩
  have lt : ∀ {c o}, s.heap.get? c = some o → s.heap.objs.size ≠ c := fun e => Nat.ne_of_gt (Heap.lt_size e)
  have kk : ∀ b o, b ∉ [z, TO, i1, i2] → s.heap.get? b = some o → h''.get? b = some o := fun b o hb e => by
   have n1 : b ≠ z := fun q => hb (by simp [q])
   exact sb.extBut _ _ n1 (kp b o n1 (fun q => hb (by simp [q])) (fun q => hb (by simp [q])) (fun q => hb (by simp [q])) e)
  have hTu2 : h''.IsTuple s.heap.objs.size ([u1, u2] : List Value).toArray := ⟨_, sb.extBut _ _ (lt s1) pr, rfl, _, rfl⟩
  have I2 : Inv X pins σ (upd H s.heap.objs.size (.tup [x, y])) { s with heap := h'', toks := s.toks } := I.turnT (t' := s.toks) kk (fun b hb => hf b (by simp at hb ⊢; rcases hb with rfl | rfl | rfl | rfl <;> simp)) (Nat.le_refl _) hTu2 (.cons ru1 (.cons ru2 .nil)) (show 2 ≤ sizeLine by decide)
  refine ⟨.ref s.heap.objs.size, _, I2, rfl, ⟨s.heap.objs.size, x, y, I.hok.fresh (Nat.le_refl _), rfl, fun xs' h => by rw [I.tuple_inj h ha]; exact hx, fun ys' h => by rw [I.tuple_inj h hb]; exact hy, rfl⟩, ⟨z'', sb.extBut _ _ D.TIz (kp _ _ D.TIz D.TITO D.TIi1 D.TIi2 s2), ⟨_, _, sb.extBut _ _ D.TOz o'⟩, f1.extBut sb.extBut D.i1z, f2.extBut sb.extBut D.i2z⟩, fun c hc' => ?_⟩
  have hlt : c < s.heap.objs.size := by
   obtain ⟨o4, s4, _⟩ := s4
   obtain ⟨o5, s5, _⟩ := s5
   simp only [List.mem_cons, List.not_mem_nil, or_false] at hc'
   rcases hc' with rfl | rfl | rfl | rfl | rfl
   ·exact Heap.lt_size s1
   ·exact Heap.lt_size s2
   ·exact Heap.lt_size s3
   ·exact Heap.lt_size s4
   ·exact Heap.lt_size s5
  rw [upd_ne (Nat.ne_of_lt hlt)]
  exact (hf c hc').1
 done := by
  intro X hP hw hK hc i pins s σ H E I hf st hg
  subst hP hw hK
  obtain ⟨xs, ys, ha, hb, hi⟩ := hg
  obtain ⟨its, rv, p, hz⟩ := I.tuple ha
  obtain ⟨s1, s2, ⟨va, vb, s3⟩, s4, s5⟩ := id st
  have hl := rv.length
  refine zipT_end (I.ok.hd hc) D s1 s2 s3 s4 (us := its.toArray) p (by simp; omega) fun h' kk => ⟨rfl, ?_⟩
  exact I.turnW (wr := [z, TO, i1, i2]) (t' := s.toks) (fun b o hb e => kk b o (fun q => hb (by simp [q])) (fun q => hb (by simp [q])) (fun q => hb (by simp [q])) (fun q => hb (by simp [q])) e) fun b hb => hf b (by simp at hb ⊢; rcases hb with rfl | rfl | rfl | rfl <;> simp)
 self := fun _ _ _ _ _ st h => wpAny_pyIter_zip st.1 h
section
variable {X : Cx} {elts : List Expr} {k : Nat} {tpos : Pos}
def iZipT (K : PySem.W.Frag) (ta : TA) : TI := fun σ H R => ta σ H fun vs H1 => ∃ a b, vs = [.ref a, .ref b] ∧ (∃ xs, SqT K H1 a xs) ∧ (∃ ys, SqT K H1 b ys) ∧ R (Itzt K a b) H1
theorem r_izipT {K : PySem.W.Frag} {tA : TA} {σ : St} {H : Hp} {R : It → Hp → Prop} (h : tA σ H fun vs H1 => ∃ a b, vs = [.ref a, .ref b] ∧ (∃ xs, SqT K H1 a xs) ∧ (∃ ys, SqT K H1 b ys) ∧ R (Itzt K a b) H1) : iZipT K tA σ H R := h
theorem pi_zipT {a b : Expr} {ta : TA} {p pos : Pos} (hg : Gl X "zip") (hm : X.mg "zip" = none) (ha : PA X [a, b] ta) (hs : starEach [a, b] X.env = [(false, eval a X.env), (false, eval b X.env)] := by rfl) (hs2 : starEach [b] X.env = [(false, eval b X.env)] := by rfl) :
  PI X (.Tuple elts k tpos) (.Call (.Name "zip" p) [a, b] [] pos) (iZipT X.K ta) := by
 intro pins s σ H R I h
 refine Call_ (ld_blt I hg hm b_zip (PyProof.Rows.callWith_type1 (thn (ha pos pins s σ H _ I h) fun us s1 ⟨vs, H1, I1, r1, q1⟩ => ?_) (by rw [hs, hs2]) (by rw [hs2]; rfl)))
 obtain ⟨a, b, e, ⟨xs, hx⟩, ⟨ys, hy⟩, q⟩ := q1
 subst e
 obtain ⟨u, v, rfl, ru, rv⟩ := vals2 r1
 cases ru
 cases rv
 obtain ⟨its, rv, p, hz⟩ := I1.tuple hx
 obtain ⟨its2, rv2, p2, hz2⟩ := I1.tuple hy
 refine call_zipT (us := its.toArray) (vs := its2.toArray) p p2 fun h' g1 g2 g3 g4 g5 hsz kk => ?_
 refine wpAny_pyIter_zip (s := { s1 with heap := h' }) g1 ?_
 have la : a < s1.heap.objs.size := let ⟨_, e, _⟩ := p; Heap.lt_size e
 have lb : b < s1.heap.objs.size := let ⟨_, e, _⟩ := p2; Heap.lt_size e
 have D := apartZ_new s1.heap.objs.size
 have below : ∀ {c : Nat} (j : Nat), c < s1.heap.objs.size → c ≠ s1.heap.objs.size + j := fun j hc e => by omega
 refine ⟨s1.heap.objs.size + 4, [s1.heap.objs.size + 4, s1.heap.objs.size + 2, s1.heap.objs.size + 3, s1.heap.objs.size, s1.heap.objs.size + 1], _, _, H1, rfl, I1.kept (t' := s1.toks) kk,
  turn_zipT _ _ _ _ _ a b ⟨D.TIz, D.TOz, D.i1z, D.i2z, D.TITO, D.TIi1, D.TIi2, D.TOi1, D.TOi2, D.i12, below 4 la, below 3 la, Nat.ne_of_lt la, below 1 la, below 4 lb, below 3 lb, Nat.ne_of_lt lb, below 1 lb⟩, ⟨g1, g2, ⟨_, _, g3⟩, g4, g5⟩, fun c hc => ?_, q⟩
 have hle : s1.heap.objs.size ≤ c := by
  simp only [List.mem_cons, List.not_mem_nil, or_false] at hc
  exact le_z5 hc
 exact I1.fpOk hle (I1.hok.fresh hle)
end
theorem for_zipT {K : PySem.W.Frag} {a b : Addr} {xs ys : List V} {i1 i2 : Nat} {tb : TS} {D : Ends} {σ : St} {H : Hp} (hxy : xs.length = ys.length) (Pv : Nat → St → Hp → Prop) (h0 : Pv 0 σ H) (hl : ∀ i σ H, i ≤ xs.length → Pv i σ H → SqT K H a xs ∧ SqT K H b ys)
  (step : ∀ (i : Nat) x y σ H t, xs[i]? = some x → ys[i]? = some y → Pv i σ H → H t = none → tb { D with nx := Pv (i + 1), ct := Pv (i + 1), bk := D.nx } ((σ.set i1 (some x)).set i2 (some y)) (upd H t (.tup [x, y])))
  (fin : ∀ σ H, Pv xs.length σ H → D.nx σ H) : forB (Itzt K a b) (gTup K 2 (gCons (gName i1) (gCons (gName i2) gNil))) tb D σ H := by
 refine ⟨fun i m σ H => i ≤ xs.length ∧ m = xs.length - i ∧ Pv i σ H, ⟨_, Nat.zero_le _, rfl, h0⟩, ?_⟩
 rintro i m σ H ⟨hi, rfl, hp⟩
 by_cases h : i = xs.length
 ·exact .inl ⟨⟨xs, ys, (hl i σ H hi hp).1, (hl i σ H hi hp).2, h⟩, fin σ H (h ▸ hp)⟩
 ·have hlt : i < xs.length := Nat.lt_of_le_of_ne hi h
  refine .inr ⟨⟨xs, ys, xs[i], ys[i]'(by omega), (hl i σ H hi hp).1, (hl i σ H hi hp).2, by simp, by simp⟩, Pv (i + 1), fun σ' H' q => ⟨xs.length - (i + 1), by omega, hlt, rfl, q⟩, fun v H' hy => ?_⟩
  obtain ⟨t, x, y, hn, rfl, hx, hy, rfl⟩ := hy
  exact r_gtup2 (SqT.of upd_same) (step i x y σ H t (hx xs (hl i σ H hi hp).1) (hy ys (hl i σ H hi hp).2) hp hn)
end L2
end
section
namespace L2
open PySem PySem.Spec PyProof.Rows
theorem call_lenD {X : Cx} : CallR X (.builtin "len") (fun xs H Q => ∃ d kvs, xs = [.ref d] ∧ H d = some (.dK kvs) ∧ Q (.int (kvs.length : Nat)) H) := by
 intro pins s σ H xs us Q I r h
 obtain ⟨d, kvs, rfl, hd, q⟩ := h
 obtain ⟨u, rfl, rx⟩ := vals1 r
 cases rx
 exact d_len I (.inl hd) fun t s' I' => ⟨.int kvs.length, H, I', ⟨t, rfl⟩, q⟩
open Classical in
theorem putK_keys (kvs : List (Key × V)) (k : Key) (v : V) : (putK kvs k v).map (·.1) = if k ∈ kvs.map (·.1) then kvs.map (·.1) else kvs.map (·.1) ++ [k] := by
 unfold putK
 by_cases h : (kvs.any fun kv => decide (kv.1 = k)) = true
 ·have hm : k ∈ kvs.map (·.1) := by
   obtain ⟨p, h1, h2⟩ := List.any_eq_true.mp h
   exact List.mem_map.mpr ⟨p, h1, of_decide_eq_true h2⟩
  rw [if_pos h, if_pos hm, List.map_map]
  refine List.map_congr_left fun p _ => ?_
  show (if p.1 = k then (p.1, v) else p).1 = p.1
  split <;> rfl
 ·have hm : ¬ k ∈ kvs.map (·.1) := fun hm => h (by
   obtain ⟨p, h1, h2⟩ := List.mem_map.mp hm
   exact List.any_eq_true.mpr ⟨p, h1, decide_eq_true h2⟩)
  rw [if_neg h, if_neg hm, List.map_append]
  rfl
theorem mrg_keys : ∀ (ks : List Int) (ys : List V) (kvs : List (Key × V)), ks.length = ys.length → (kvs.map (·.1)).Nodup → ((mrgV kvs ks ys).map (·.1)).Nodup ∧ ∀ k : Key, k ∈ (mrgV kvs ks ys).map (·.1) ↔ k ∈ kvs.map (·.1) ∨ ∃ x ∈ ks, k = .inl x
 | [], [], kvs, _, nd => ⟨nd, fun k => ⟨.inl, fun h => h.elim id fun ⟨x, hx, _⟩ => absurd hx List.not_mem_nil⟩⟩
 | [], _ :: _, _, h, _ => by cases h
 | _ :: _, [], _, h, _ => by cases h
 | x :: ks, y :: ys, kvs, h, nd => by
  have nd2 : ((putK kvs (.inl x) y).map (·.1)).Nodup := by
   rw [putK_keys]
   split
   ·exact nd
   ·rename_i hn
    exact List.nodup_append.mpr ⟨nd, by simp, fun a ha b hb e => hn (by rw [← List.mem_singleton.mp hb, ← e]; exact ha)⟩
  obtain ⟨h1, h2⟩ := mrg_keys ks ys (putK kvs (.inl x) y) (by simpa using h) nd2
  refine ⟨h1, fun k => (h2 k).trans ?_⟩
  rw [putK_keys]
  constructor
  ·rintro (h3 | ⟨z, hz, e⟩)
   ·split at h3
    ·exact .inl h3
    ·rcases List.mem_append.mp h3 with h4 | h4
     ·exact .inl h4
     ·exact .inr ⟨x, List.mem_cons_self, List.mem_singleton.mp h4⟩
   ·exact .inr ⟨z, List.mem_cons_of_mem _ hz, e⟩
  ·rintro (h3 | ⟨z, hz, e⟩)
   ·refine .inl ?_
    split
    ·exact h3
    ·exact List.mem_append_left _ h3
   ·rcases List.mem_cons.mp hz with rfl | hz
    ·refine .inl ?_
     split
     ·rename_i hm
      rw [e]
      exact hm
     ·rw [e]
      exact List.mem_append_right _ (List.mem_singleton.mpr rfl)
    ·exact .inr ⟨z, hz, e⟩
theorem mrg_count {ks : List Int} {ys : List V} {mn mx : Int} (h : ks.length = ys.length) (hle : mn ≤ mx) (hk : ∀ x, x ∈ ks ↔ mn ≤ x ∧ x ≤ mx) : ((mrgV [] ks ys).length : Int) = mx - mn + 1 := by
 obtain ⟨nd, mem⟩ := mrg_keys ks ys [] h List.nodup_nil
 have nd2 : ((List.range (mx - mn + 1).toNat).map fun i : Nat => (Sum.inl (mn + i) : Key)).Nodup := List.Pairwise.map _ (fun a b hab e => hab (by have := Sum.inl.inj e; omega)) List.nodup_range
 have pm := (List.perm_ext_iff_of_nodup nd nd2).mpr fun k => (mem k).trans (by
  constructor
  ·rintro (h | ⟨x, hx, rfl⟩)
   ·cases h
   ·have := (hk x).mp hx
    exact List.mem_map.mpr ⟨(x - mn).toNat, List.mem_range.mpr (by omega), by congr 1; omega⟩
  ·intro h
   obtain ⟨i, hi, rfl⟩ := List.mem_map.mp h
   have := List.mem_range.mp hi
   exact .inr ⟨mn + i, (hk _).mpr ⟨by omega, by omega⟩, rfl⟩)
 have := pm.length_eq
 rw [List.length_map, List.length_map, List.length_range] at this
 omega
end L2
end
section
namespace L2
open PySem PySem.Spec PyProof.Rows
end L2
end
section
namespace L2
open PySem PySem.Spec PySem.W PyProof.Rows
structure CalC (P : Program) (w : World) (K : PySem.W.Frag) (mg : Str → Option Value) (base : Heap) (x m : Str) (k : Nat) (ps : List Str) (sp : Sp) : Prop where
 ex : ∃ (W f : Addr) (fd : FuncData), FnOk P w K mg base CX0 k f fd ps sp ∧ Binds K fd ps [] ∧ mg x = some (.ref W) ∧ specialIn K (.ref W) "__getattribute__" = some (some (.builtin "type.__getattribute__")) ∧
  readsIn K W (.type "type") = true ∧ findCls K (.ref W) (.type "type") m = some (.val (.ref f)) ∧ keepIn K (.ref f) = true
section
variable {X : Cx} {x m : Str} {k : Nat} {ps : List Str} {sp : Sp} {np apos pos : Pos} {e : Expr} {es : List Expr} {t : TA} {pl : Sem Bool}
theorem pe_cm (M : CalC X.prog X.w X.K X.mg X.base x m k ps sp) (hr : Room k X.A) (hg : Gl X x) (ha : PA X (e :: es) t) (hdb : (x == ("__debug__" : Str)) = false := by decide)
  (hst : starEach (e :: es) X.env = (false, eval e X.env) :: starEach es X.env := by rfl) (hpl : (backTo pos (starEach es X.env)).any (·.1) = false := by rfl)
  (ht : eval (.Call (.Attribute (.Name x np) m apos) (e :: es) [] pos) X.env = (do
   let ov ← eval (.Name x np) X.env
   standAt apos.atName
   let (f, first) ← holding [ov] (getMethod ov m pl)
   callWith pos f first (backTo pos (starEach (e :: es) X.env)) (backToKw pos (keywordEach [] X.env))) := by rfl) :
  PE X (.Call (.Attribute (.Name x np) m apos) (e :: es) [] pos) (tCall sp [] E0 t) := by
 obtain ⟨W, f, fd, F, hb, hm, ga, rd, ini, kp⟩ := M.ex
 intro pins s σ H Q I h
 refine methodCall_KW (ld_glob I hg hm ?_ hdb) ht
 refine method_cls I.kIn ga (cls_value I.kIn rd ini rfl ?_)
 refine PySem.W.callWith_K (h₀ := X.base) I.ok.mod.kin kp (thn (ha pos pins _ σ H _ (I.tok (s.toks + 1)) h) fun us s1 ⟨vs, H1, I1, r, q⟩ => ⟨I1.kIn, ?_⟩) hst hpl
 exact run_fn F hr hb .nil pass0 I1 r q
end
end L2
end
section
namespace TW
def val : List Bool → Nat
 | [] => 0
 | b :: r => b.toNat + 2 * val r
def pc (n : Nat) : Nat := if n = 0 then 0 else n % 2 + pc (n / 2)
termination_by n
decreasing_by omega
theorem pc_zero : pc 0 = 0 := by rw [pc]; rfl
theorem pc_step (n : Nat) : pc n = n % 2 + pc (n / 2) := by
 by_cases h : n = 0
 ·subst h; simp [pc_zero]
 ·rw [pc, if_neg h]
theorem pc_val : ∀ l : List Bool, pc (val l) = l.count true
 | [] => by simp [val, pc_zero]
 | b :: r => by
  rw [pc_step]
  have e1 : val (b :: r) % 2 = b.toNat := by simp only [val]; have := Bool.toNat_le b; omega
  have e2 : val (b :: r) / 2 = val r := by simp only [val]; have := Bool.toNat_le b; omega
  rw [e1, e2, pc_val r]
  cases b <;> simp [List.count_cons, Nat.add_comm]
theorem pc16 (n : Nat) : pc n = pc (n % 16) + pc (n / 16) := by
 have a : pc n = n % 2 + (n / 2 % 2 + (n / 4 % 2 + (n / 8 % 2 + pc (n / 16)))) := by
  rw [pc_step n, pc_step (n / 2), pc_step (n / 2 / 2), pc_step (n / 2 / 2 / 2)]
  simp only [Nat.div_div_eq_div_mul]
 have b : pc (n % 16) = n % 16 % 2 + (n % 16 / 2 % 2 + (n % 16 / 4 % 2 + (n % 16 / 8 % 2 + pc (n % 16 / 16)))) := by
  rw [pc_step (n % 16), pc_step (n % 16 / 2), pc_step (n % 16 / 2 / 2), pc_step (n % 16 / 2 / 2 / 2)]
  simp only [Nat.div_div_eq_div_mul]
 have c : pc (n % 16 / 16) = 0 := by
  rw [show n % 16 / 16 = 0 by omega, pc_zero]
 have d1 : n % 16 % 2 = n % 2 := by omega
 have d2 : n % 16 / 2 % 2 = n / 2 % 2 := by omega
 have d3 : n % 16 / 4 % 2 = n / 4 % 2 := by omega
 have d4 : n % 16 / 8 % 2 = n / 8 % 2 := by omega
 rw [a, b, c, d1, d2, d3, d4]
 omega
def fours : List Nat := [0, 1, 1, 2, 1, 2, 2, 3, 1, 2, 2, 3, 2, 3, 3, 4]
theorem fours_eq : ∀ r : Nat, r < 16 → fours[r]? = some (pc r) := by
 have h : ∀ b0 b1 b2 b3 : Bool, fours[val [b0, b1, b2, b3]]? = some ([b0, b1, b2, b3].count true) := by decide
 intro r hr
 have e : r = val [r.testBit 0, r.testBit 1, r.testBit 2, r.testBit 3] := by
  have : ∀ r : Fin 16, r.val = val [r.val.testBit 0, r.val.testBit 1, r.val.testBit 2, r.val.testBit 3] := by decide
  exact this ⟨r, hr⟩
 rw [e, h, pc_val]
end TW
end
section
namespace TW
def wordAt (l : List Bool) (j : Nat) : List Bool := (l.drop (32 * j)).take 32
def manyW (n : Nat) : Nat := (n + 31) / 32
def wordsOf (l : List Bool) : List Nat := (List.range (manyW l.length)).map fun j => val (wordAt l j)
def cnt (l : List Bool) (k : Nat) : Nat := (l.take k).count true
theorem cnt_add (l : List Bool) (a b : Nat) : cnt l (a + b) = cnt l a + ((l.drop a).take b).count true := by
 unfold cnt
 rw [List.take_add, List.count_append]
theorem cnt_all (l : List Bool) {k : Nat} (h : l.length ≤ k) : cnt l k = l.count true := by
 unfold cnt
 rw [List.take_of_length_le h]
theorem cnt_word (l : List Bool) (j : Nat) : cnt l (32 * (j + 1)) = cnt l (32 * j) + pc (val (wordAt l j)) := by
 rw [pc_val, show 32 * (j + 1) = 32 * j + 32 by omega, cnt_add]
 rfl
theorem sum_words (l : List Bool) (a : Nat) : ∀ k : Nat, ((List.range k).map fun i => pc (val (wordAt l (a + i)))).sum + cnt l (32 * a) = cnt l (32 * (a + k))
 | 0 => by simp
 | k + 1 => by
  rw [List.range_succ, List.map_append, List.sum_append, List.map_singleton, List.sum_singleton]
  have := sum_words l a k
  have e := cnt_word l (a + k)
  rw [show a + (k + 1) = a + k + 1 by omega, e]
  omega
theorem manyW_le (n : Nat) : n ≤ 32 * manyW n := by unfold manyW; omega
theorem manyW_lt {n j : Nat} (h : j < manyW n) : 32 * j < n := by unfold manyW at h; omega
theorem block_sum (l : List Bool) (b : Nat) (k : Nat) (hk : k = min 8 (manyW l.length - 8 * b)) : ((List.range k).map fun i => pc (val (wordAt l (8 * b + i)))).sum + cnt l (256 * b) = cnt l (256 * (b + 1)) := by
 have h := sum_words l (8 * b) k
 rw [show 32 * (8 * b) = 256 * b by omega] at h
 rw [h]
 by_cases hh : 8 ≤ manyW l.length - 8 * b
 ·rw [show k = 8 by omega, show 32 * (8 * b + 8) = 256 * (b + 1) by omega]
 ·have := manyW_le l.length
  rw [cnt_all l (k := 32 * (8 * b + k)) (by omega), cnt_all l (k := 256 * (b + 1)) (by omega)]
theorem val_rev : ∀ (l : List Bool) (a : Nat), (l.reverse.foldl (fun acc b => acc * 2 + b.toNat) a) = a * 2 ^ l.length + val l
 | [], a => by simp [val]
 | b :: r, a => by
  rw [List.reverse_cons, List.foldl_append, val_rev r a]
  simp only [List.foldl_cons, List.foldl_nil, val, List.length_cons, Nat.pow_succ]
  rw [Nat.add_mul, Nat.mul_assoc]
  omega
end TW
end
section
namespace TW
theorem val_bit : ∀ (w : List Bool) (k : Nat), val w / 2 ^ k % 2 = (w.getD k false).toNat
 | [], k => by simp [val]
 | b :: r, 0 => by
  cases b <;> simp [val] <;> omega
 | b :: r, k + 1 => by
  have ih := val_bit r k
  have e : val (b :: r) / 2 ^ (k + 1) = val r / 2 ^ k := by
   rw [Nat.pow_succ, Nat.mul_comm (2 ^ k) 2, ← Nat.div_div_eq_div_mul]
   congr 1
   cases b <;> simp [val] <;> omega
  rw [e, ih]
  simp
theorem wordAt_getD (l : List Bool) (j : Nat) {p : Nat} (hp : p < 32) : (wordAt l j).getD p false = l.getD (32 * j + p) false := by
 unfold wordAt
 simp only [List.getD_eq_getElem?_getD, List.getElem?_take, List.getElem?_drop, hp, if_true]
def bit32 (n : Nat) : List Bool := (List.range 32).map fun p => decide (n / 2 ^ p % 2 = 1)
theorem dec_toNat (b : Bool) : decide (b.toNat = 1) = b := by cases b <;> rfl
theorem bit32_val (l : List Bool) (j : Nat) : bit32 (val (wordAt l j)) = (List.range 32).map fun p => l.getD (32 * j + p) false := by
 unfold bit32
 refine List.map_congr_left fun p hp => ?_
 rw [val_bit, dec_toNat, wordAt_getD l j (List.mem_range.mp hp)]
theorem flat_rows {α : Type} (d : Nat) (f : Nat → α) : ∀ m : Nat, ((List.range m).map fun j => (List.range d).map fun p => f (d * j + p)).flatten = (List.range (d * m)).map f
 | 0 => by simp
 | m + 1 => by
  rw [List.range_succ, List.map_append, List.flatten_append, flat_rows d f m, Nat.mul_succ, List.range_add, List.map_append]
  simp [Function.comp_def]
def four (r : Nat) : List Bool := (List.range 4).map fun k => decide (r / 2 ^ k % 2 = 1)
theorem four_at_ (n j : Nat) : four (n / 2 ^ (4 * j) % 16) = (List.range 4).map fun k => decide (n / 2 ^ (4 * j + k) % 2 = 1) := by
 unfold four
 refine List.map_congr_left fun k hk => ?_
 have hk := List.mem_range.mp hk
 rw [Nat.pow_add, ← Nat.div_div_eq_div_mul]
 generalize n / 2 ^ (4 * j) = m
 congr 1
 have : k = 0 ∨ k = 1 ∨ k = 2 ∨ k = 3 := by omega
 rcases this with rfl | rfl | rfl | rfl <;> simp only [Nat.reducePow] <;> simp only [eq_iff_iff] <;> omega
theorem fours_flat (n : Nat) : ((List.range 8).map fun j => four (n / 2 ^ (4 * j) % 16)).flatten = bit32 n := by
 have e : ((List.range 8).map fun j => four (n / 2 ^ (4 * j) % 16)) = (List.range 8).map fun j => (List.range 4).map fun k => decide (n / 2 ^ (4 * j + k) % 2 = 1) := List.map_congr_left fun j _ => four_at_ n j
 rw [e]
 exact flat_rows 4 (fun p => decide (n / 2 ^ p % 2 = 1)) 8
theorem words_flat (l : List Bool) (a m : Nat) : ((List.range m).map fun i => bit32 (val (wordAt l (a + i)))).flatten = (List.range (32 * m)).map fun p => l.getD (32 * a + p) false := by
 have e : ((List.range m).map fun i => bit32 (val (wordAt l (a + i)))) = (List.range m).map fun j => (List.range 32).map fun p => l.getD (32 * a + (32 * j + p)) false := List.map_congr_left fun j _ => by
  rw [bit32_val]
  refine List.map_congr_left fun p _ => ?_
  congr 1
  omega
 rw [e]
 exact flat_rows 32 (fun p => l.getD (32 * a + p) false) m
theorem rows_cut (l : List Bool) (a m low c : Nat) (h0 : 32 * a ≤ low) (h1 : low + c ≤ l.length) (h2 : low + c ≤ 32 * (a + m)) :
  (((List.range (32 * m)).map fun p => l.getD (32 * a + p) false).drop (low - 32 * a)).take c = (l.drop low).take c := by
 refine List.ext_getElem? fun i => ?_
 rw [List.getElem?_take, List.getElem?_take]
 by_cases hi : i < c
 ·rw [if_pos hi, if_pos hi, List.getElem?_drop, List.getElem?_drop, List.getElem?_map, List.getElem?_range (by omega)]
  rw [List.getElem?_eq_getElem (show low + i < l.length by omega)]
  simp only [Option.map_some, List.getD_eq_getElem?_getD]
  rw [show 32 * a + (low - 32 * a + i) = low + i by omega, List.getElem?_eq_getElem (show low + i < l.length by omega)]
  rfl
 ·rw [if_neg hi, if_neg hi]
theorem words_cut (l : List Bool) (a k : Nat) : ((wordsOf l).drop a).take k = (List.range (min k (manyW l.length - a))).map fun i => val (wordAt l (a + i)) := by
 refine List.ext_getElem? fun i => ?_
 unfold wordsOf
 rw [List.getElem?_take, List.getElem?_map]
 by_cases hi : i < k
 ·rw [if_pos hi, List.getElem?_drop, List.getElem?_map]
  by_cases h2 : a + i < manyW l.length
  ·rw [List.getElem?_range h2, List.getElem?_range (by omega)]
   rfl
  ·rw [List.getElem?_eq_none (by rw [List.length_range]; omega), List.getElem?_eq_none (by rw [List.length_range]; omega)]
   rfl
 ·rw [if_neg hi, List.getElem?_eq_none (by rw [List.length_range]; omega)]
  rfl
end TW
end
section
namespace TW
theorem filt1 (f : Nat → Bool) (n : Nat) : [n].filter f = if f n then [n] else [] := by
 cases h : f n <;> simp [List.filter, h]
def occ (b : Bool) (l : List Bool) (n : Nat) : List Nat := (List.range n).filter fun i => l.getD i false == b
theorem occ_succ (b : Bool) (l : List Bool) (n : Nat) : occ b l (n + 1) = occ b l n ++ if l.getD n false == b then [n] else [] := by
 unfold occ
 rw [List.range_succ, List.filter_append, filt1]
theorem occ_cnt (l : List Bool) : ∀ n : Nat, (occ true l n).length = cnt l n ∧ (occ false l n).length + cnt l n = n
 | 0 => by simp [occ, cnt]
 | n + 1 => by
  obtain ⟨h1, h2⟩ := occ_cnt l n
  have e : cnt l (n + 1) = cnt l n + (l.getD n false).toNat := by
   unfold cnt
   rw [List.take_add_one, List.count_append, List.getD_eq_getElem?_getD]
   cases hx : l[n]? with
   | none => simp
   | some b => cases b <;> simp
  rw [occ_succ, occ_succ, e]
  cases l.getD n false <;> simp <;> omega
theorem val_tb (w : List Bool) (k : Nat) : (val w).testBit k = w.getD k false := by
 rw [Nat.testBit_eq_decide_div_mod_eq, val_bit]
 cases w.getD k false <;> rfl
theorem val_take (w : List Bool) (k : Nat) : val w % 2 ^ k = val (w.take k) := by
 refine Nat.eq_of_testBit_eq fun i => ?_
 rw [Nat.testBit_mod_two_pow, val_tb, val_tb, List.getD_eq_getElem?_getD, List.getD_eq_getElem?_getD, List.getElem?_take]
 by_cases hi : i < k <;> simp [hi]
end TW
end
section
namespace TW
end TW
end
section
namespace TW
def dAt (ds : List Nat) (k : Nat) : Nat := ds.getD k 0
def opn (ds : List Nat) : Nat → Nat
 | 0 => 0
 | k + 1 => dAt ds k + 1
def way (ds : List Nat) : Nat → List Int
 | 0 => [-1]
 | k + 1 => (way ds k).take (dAt ds k + 1) ++ [(k : Int)]
def Dok (ds : List Nat) : Prop := ∀ k, k < ds.length → dAt ds k ≤ opn ds k
def eld (ds : List Nat) (k : Nat) : Int := (way ds k).getD (dAt ds k) 0
def elds (ds : List Nat) : List Int := (List.range ds.length).map (eld ds)
theorem way_len {ds : List Nat} (h : Dok ds) : ∀ k, k ≤ ds.length → (way ds k).length = opn ds k + 1
 | 0, _ => rfl
 | k + 1, hk => by
  show ((way ds k).take (dAt ds k + 1) ++ [(k : Int)]).length = dAt ds k + 1 + 1
  have := way_len h k (by omega)
  have := h k (by omega)
  rw [List.length_append, List.length_take]
  simp only [List.length_cons, List.length_nil]
  omega
theorem way_zero {ds : List Nat} (h : Dok ds) : ∀ k, k ≤ ds.length → (way ds k)[0]? = some (-1)
 | 0, _ => rfl
 | k + 1, hk => by
  show ((way ds k).take (dAt ds k + 1) ++ [(k : Int)])[0]? = some (-1)
  have e := way_zero h k (by omega)
  have hl := way_len h k (by omega)
  rw [List.getElem?_append_left (by rw [List.length_take]; omega), List.getElem?_take_of_lt (by omega)]
  exact e
theorem way_at {ds : List Nat} (h : Dok ds) : ∀ (k j : Nat) (x : Int), k ≤ ds.length → (way ds k)[j + 1]? = some x → ∃ v : Nat, x = (v : Int) ∧ v < k ∧ dAt ds v = j
 | 0, j, x, _, e => by cases e
 | k + 1, j, x, hk, e => by
  have e : ((way ds k).take (dAt ds k + 1) ++ [(k : Int)])[j + 1]? = some x := e
  have hl := way_len h k (by omega)
  have hd := h k (by omega)
  have hl2 : ((way ds k).take (dAt ds k + 1)).length = dAt ds k + 1 := by rw [List.length_take]; omega
  by_cases hj : j + 1 < dAt ds k + 1
  ·rw [List.getElem?_append_left (by omega), List.getElem?_take_of_lt hj] at e
   obtain ⟨v, hv, hlt, hdv⟩ := way_at h k j x (by omega) e
   exact ⟨v, hv, by omega, hdv⟩
  ·rw [List.getElem?_append_right (by omega), hl2] at e
   have e0 : j + 1 - (dAt ds k + 1) = 0 := by
    have := (List.getElem?_eq_some_iff.mp e).1
    simp only [List.length_cons, List.length_nil] at this
    omega
   rw [e0] at e
   have e := Option.some.inj e
   exact ⟨k, e.symm, by omega, by omega⟩
theorem eld_at {ds : List Nat} (h : Dok ds) {k : Nat} (hk : k < ds.length) : (way ds k)[dAt ds k]? = some (eld ds k) := by
 have hl := way_len h k (by omega)
 have hd := h k hk
 unfold eld List.getD
 rw [List.getElem?_eq_getElem (by omega)]
 rfl
theorem eld_top {ds : List Nat} (h : Dok ds) {k : Nat} (hk : k < ds.length) (e : eld ds k = -1) : dAt ds k = 0 := by
 have ha := eld_at h hk
 cases hd : dAt ds k with
 | zero => rfl
 | succ j =>
  rw [hd] at ha
  obtain ⟨v, hv, _⟩ := way_at h k j _ (by omega) ha
  omega
theorem eld_deep {ds : List Nat} (h : Dok ds) {k : Nat} (hk : k < ds.length) (e : eld ds k ≠ -1) : ∃ v : Nat, eld ds k = (v : Int) ∧ v < k ∧ dAt ds k = dAt ds v + 1 := by
 have ha := eld_at h hk
 cases hd : dAt ds k with
 | zero =>
  rw [hd, way_zero h k (by omega)] at ha
  exact absurd (Option.some.inj ha).symm e
 | succ j =>
  rw [hd] at ha
  obtain ⟨v, hv, hlt, hdv⟩ := way_at h k j _ (by omega) ha
  exact ⟨v, hv, hlt, by omega⟩
theorem eld_ge {ds : List Nat} (h : Dok ds) {k : Nat} (hk : k < ds.length) : -1 ≤ eld ds k := by
 by_cases e : eld ds k = -1
 ·omega
 ·obtain ⟨v, hv, _⟩ := eld_deep h hk e
  omega
theorem elds_len (ds : List Nat) : (elds ds).length = ds.length := by unfold elds; rw [List.length_map, List.length_range]
theorem elds_at {ds : List Nat} {k : Nat} (hk : k < ds.length) : (elds ds)[k]? = some (eld ds k) := by
 unfold elds
 rw [List.getElem?_map, List.getElem?_range hk]
 rfl
def pieceB (ds : List Nat) (k : Nat) : List Bool := List.replicate (opn ds k - dAt ds k) false ++ [true]
def rowP (ds : List Nat) (k : Nat) : List Bool := ((List.range k).map (pieceB ds)).flatten
def rowD (ds : List Nat) : List Bool := rowP ds ds.length ++ List.replicate (opn ds ds.length) false
theorem rowP_succ (ds : List Nat) (k : Nat) : rowP ds (k + 1) = rowP ds k ++ pieceB ds k := by
 unfold rowP
 rw [List.range_succ, List.map_append, List.flatten_append]
 simp
theorem rowP_len {ds : List Nat} (h : Dok ds) : ∀ k, k ≤ ds.length → (rowP ds k).length + opn ds k = 2 * k
 | 0, _ => rfl
 | k + 1, hk => by
  have := rowP_len h k (by omega)
  have := h k (by omega)
  rw [rowP_succ, List.length_append]
  show (rowP ds k).length + (List.replicate (opn ds k - dAt ds k) false ++ [true]).length + (dAt ds k + 1) = 2 * (k + 1)
  rw [List.length_append, List.length_replicate]
  simp only [List.length_cons, List.length_nil]
  omega
theorem rowD_len {ds : List Nat} (h : Dok ds) : (rowD ds).length = 2 * ds.length := by
 unfold rowD
 rw [List.length_append, List.length_replicate]
 exact rowP_len h _ (Nat.le_refl _)
def Vs : Nat → List Bool → Prop
 | h, [] => h = 0
 | h, false :: s => 0 < h ∧ Vs (h - 1) s
 | h, true :: s => Vs (h + 1) s
theorem vs_zeros : ∀ (m h : Nat) (s : List Bool), Vs h s → Vs (h + m) (List.replicate m false ++ s)
 | 0, h, s, v => v
 | m + 1, h, s, v => by
  rw [List.replicate_succ]
  refine ⟨by omega, ?_⟩
  show Vs (h + (m + 1) - 1) (List.replicate m false ++ s)
  rw [show h + (m + 1) - 1 = h + m by omega]
  exact vs_zeros m h s v
theorem vs_from {ds : List Nat} (h : Dok ds) : ∀ (m k : Nat), k + m = ds.length → Vs (opn ds k) (((List.range m).map fun i => pieceB ds (k + i)).flatten ++ List.replicate (opn ds ds.length) false)
 | 0, k, e => by
  have e : k = ds.length := by omega
  subst e
  have := vs_zeros (opn ds ds.length) 0 [] rfl
  rw [Nat.zero_add, List.append_nil] at this
  exact this
 | m + 1, k, e => by
  have ih := vs_from h m (k + 1) (by omega)
  have hd := h k (by omega)
  rw [List.range_succ_eq_map, List.map_cons, List.map_map, List.flatten_cons]
  have e1 : ((fun i => pieceB ds (k + i)) ∘ Nat.succ) = fun i => pieceB ds (k + 1 + i) := by
   funext i
   show pieceB ds (k + (i + 1)) = pieceB ds (k + 1 + i)
   rw [show k + (i + 1) = k + 1 + i by omega]
  rw [e1]
  show Vs (opn ds k) ((List.replicate (opn ds k - dAt ds (k + 0)) false ++ [true] ++ _) ++ _)
  rw [Nat.add_zero, List.append_assoc, List.append_assoc]
  have := vs_zeros (opn ds k - dAt ds k) (dAt ds k) (true :: (((List.range m).map fun i => pieceB ds (k + 1 + i)).flatten ++ List.replicate (opn ds ds.length) false)) ih
  rw [show dAt ds k + (opn ds k - dAt ds k) = opn ds k by omega] at this
  exact this
theorem vs_row {ds : List Nat} (h : Dok ds) : Vs 0 (rowD ds) := by
 have := vs_from h ds.length 0 (by omega)
 unfold rowD rowP
 have e : (fun i => pieceB ds (0 + i)) = pieceB ds := by funext i; rw [Nat.zero_add]
 rw [e] at this
 exact this
end TW
end
section
namespace TW
end TW
end
section
namespace HD
open PySem PySem.W PySem.Calls PyProof.Rows
def topRunT (tb : String → Option Builtin) (p : Program) (w : World) (m : Nat) (ann : Option Value) : Nat → SharedT → Thread → Option SharedT
 | 0, _, _ => none
 | n + 1, s, t => match through t with
  | true => some s
  | false => match stepOk m ann t with
   | false => none
   | true => match stepT (denote tb) p w s t with
    | some (s', t') => topRunT tb p w m ann n s' t'
    | none => none
theorem topRun_of {tb : String → Option Builtin} {p : Program} {w : World} {m : Nat} {ann : Option Value} : ∀ {n : Nat} {s s' : SharedT} {t : Thread}, topRunT tb p w m ann n s t = some s' → topRun tb p w m ann n s.abs t = some s'.abs
 | 0, _, _, _, h => by cases h
 | n + 1, s, s', t, h => by
  unfold topRunT at h
  unfold topRun
  cases he : through t with
  | true => rw [he] at h; cases h; rfl
  | false =>
   rw [he] at h
   cases hk : stepOk m ann t with
   | false => rw [hk] at h; cases h
   | true =>
    rw [hk] at h
    cases hs : stepT (denote tb) p w s t with
    | none => rw [hs] at h; cases h
    | some r => obtain ⟨s₂, t₂⟩ := r; rw [hs] at h; rw [stepT_spec hs]; exact topRun_of h
def insAll : List Obj → Nat → BT → BT
 | [], _, t => t
 | o :: l, n, t => insAll l (n + 1) (t.ins n o)
noncomputable def bootTree (P : Params) : BT := insAll (boot_heap P).objs.toList 0 .nil
def bootSize : Nat := 11
noncomputable def bootT (w : World) (os : OsState) : SharedT := ⟨bootTree w.params, bootSize, (boot_heap w.params).life, #[], boot_drawn, boot_toks, os⟩
def looksT {α : Type} (Yf : Shared → α) (h0 : Heap) (p q : Program) (loose : List Str) (s : Shared) :=
 (staticsOk (importedModules p.main.body) h0 s.heap && namesBound p s.heap && gensDone s && laidKept h0 s.heap,
  openSeen q loose (importedModules p.main.body) (fun _ => true) true s, Yf s)
def bothT {α : Type} (Yf : Shared → α) (s0 : SharedT) (h0 : Heap) (m : Nat) (p q : Program) (loose : List Str) (M : Nat) (w : World) :=
 (topRunT treeTable p w m (some (.ref 6)) M s0 (topStub p)).map fun s => looksT Yf h0 p q loose s.abs
theorem boot_abs (P : Params) : absHeap (bootTree P) bootSize (boot_heap P).life = boot_heap P := by kernel_rfl
theorem boot_size (P : Params) : ((boot_heap P).isNs mainGlobals && (#[] : Array GenState).size == 0, (boot_heap P).objs.size, (boot_heap P).nsMap mainGlobals "__annotations__") = (true, bootSize, some (.ref 6)) := by kernel_rfl
theorem left_of {p q : Program} {loose : List Str} {α : Type} {Yf : Shared → α} {Ya : World → α} {M N : Nat} (e : opening p = plainProg p.main.scope.names) (f : ∀ s, fenceModules? p s = some s) (hN : Nat.ble 600 N = true) (le : Nat.ble M N = true)
  (both : ∀ w : World, (fun os => bothT Yf (bootT w os) (boot_heap w.params) bootSize p q loose M w) = fun _ => some (true, openGood q loose, Ya w)) :
  LeftO p q loose (fun _ => true) Yf Ya N := fun w => by
 obtain ⟨⟨h, gs, d, k, os⟩, e1, e'⟩ := Option.map_eq_some_iff.mp (boot_open e hN f w)
 obtain ⟨rfl, rfl, rfl, rfl⟩ : h = boot_heap w.params ∧ gs = Array.mk [] ∧ d = boot_drawn ∧ k = boot_toks := by simpa using e'
 have b := congrFun (both w) os
 unfold bothT at b
 obtain ⟨s, r, l⟩ := Option.map_eq_some_iff.mp b
 have r2 := topRun_of r
 have r3 := topRun_mono (N - M) _ _ _ _ r2
 rw [show M + (N - M) = N by have := Nat.le_of_ble_eq_true le; omega] at r3
 have eb : (bootT w os).abs = ⟨boot_heap w.params, Array.mk [], boot_drawn, boot_toks, os⟩ := by
  show Shared.mk (absHeap (bootTree w.params) bootSize (boot_heap w.params).life) (Array.mk []) boot_drawn boot_toks os = _
  rw [boot_abs]
 rw [eb] at r3
 obtain ⟨z1, z2, z3⟩ : _ ∧ _ ∧ _ := by simpa only [Prod.mk.injEq] using boot_size w.params
 obtain ⟨l1, l2, l3⟩ : _ ∧ _ ∧ _ := by simpa only [looksT, Prod.mk.injEq] using l
 have t : topFrom treeTable p w N ⟨boot_heap w.params, Array.mk [], boot_drawn, boot_toks, os⟩ = some s.abs := by
  unfold topFrom
  dsimp only
  rw [z1, z2, z3, r3]
  show (match staticsOk (importedModules p.main.body) (boot_heap w.params) s.abs.heap && namesBound p s.abs.heap && gensDone s.abs && laidKept (boot_heap w.params) s.abs.heap with | true => _ | false => _) = _
  rw [l1]
 unfold openEnds
 rw [e1]
 show (topFrom treeTable p w N _).map _ = _
 rw [t]
 exact congrArg some (Prod.ext l2 l3)
def recOf : Stmt → DefRec
 | .FunctionDef n a b _ _ _ sc _ _ pos => ⟨n, a, b, sc, pos⟩
 | _ => ⟨"", default, [], default, default⟩
end HD
lay_quick HD.bothT
end
section
namespace HD
open PySem PySem.W PySem.Calls PyProof.Rows
def oneA (s0 : SharedT) (h0 : Heap) (m : Nat) (p : Program) (M : Nat) (w : World) :=
 (topRunT treeTable p w m (some (.ref 6)) M s0 (topStub p)).map fun s => staticsOk (importedModules p.main.body) h0 s.abs.heap && namesBound p s.abs.heap && gensDone s.abs && laidKept h0 s.abs.heap
def oneB (s0 : SharedT) (m : Nat) (p q : Program) (loose : List Str) (M : Nat) (w : World) :=
 (topRunT treeTable p w m (some (.ref 6)) M s0 (topStub p)).map fun s => openSeen q loose (importedModules p.main.body) (fun _ => true) true s.abs
def oneC {α : Type} (Yf : Shared → α) (s0 : SharedT) (m : Nat) (p : Program) (M : Nat) (w : World) :=
 (topRunT treeTable p w m (some (.ref 6)) M s0 (topStub p)).map fun s => Yf s.abs
theorem three {α : Type} {Yf : Shared → α} {s0 : SharedT} {h0 : Heap} {m : Nat} {p q : Program} {loose : List Str} {M : Nat} {w : World} {a : α}
  (hA : oneA s0 h0 m p M w = some true) (hB : oneB s0 m p q loose M w = some (openGood q loose)) (hC : oneC Yf s0 m p M w = some a) :
  bothT Yf s0 h0 m p q loose M w = some (true, openGood q loose, a) := by
 unfold oneA at hA
 unfold oneB at hB
 unfold oneC at hC
 unfold bothT looksT
 obtain ⟨s, r, l⟩ := Option.map_eq_some_iff.mp hA
 rw [r] at hB hC ⊢
 have hB := Option.some.inj hB
 have hC := Option.some.inj hC
 exact congrArg some (Prod.ext l (Prod.ext hB hC))
theorem left_of3 {p q : Program} {loose : List Str} {α : Type} {Yf : Shared → α} {Ya : World → α} {M N : Nat} (e : opening p = plainProg p.main.scope.names) (f : ∀ s, fenceModules? p s = some s) (hN : Nat.ble 600 N = true) (le : Nat.ble M N = true)
  (hA : ∀ w : World, (fun os => oneA (bootT w os) (boot_heap w.params) bootSize p M w) = fun _ => some true) (hB : ∀ w : World, (fun os => oneB (bootT w os) bootSize p q loose M w) = fun _ => some (openGood q loose))
  (hC : ∀ w : World, (fun os => oneC Yf (bootT w os) bootSize p M w) = fun _ => some (Ya w)) : LeftO p q loose (fun _ => true) Yf Ya N :=
 left_of e f hN le fun w => funext fun os => three (congrFun (hA w) os) (congrFun (hB w) os) (congrFun (hC w) os)
def peekT (s : SharedT) (a : Nat) : Option Obj := match Nat.blt a s.n with
 | true => (match s.tree.get a with
  | some o => alive o
  | none => none)
 | false => none
theorem peek_get {s : SharedT} {a : Nat} {o : Obj} (h : peekT s a = some o) : s.abs.heap.get? a = some o := by
 unfold peekT at h
 cases hb : Nat.blt a s.n with
 | false => rw [hb] at h; cases h
 | true =>
  rw [hb] at h
  cases hg : s.tree.get a with
  | none => rw [hg] at h; cases h
  | some u =>
   rw [hg] at h
   have hlt : a < s.n := by
    have := Nat.le_of_ble_eq_true hb
    omega
   exact (abs_get hlt hg).trans h
theorem peek_all {s : SharedT} : ∀ {as : List Nat} {L : List (Option Obj)}, (∀ x ∈ L, x.isSome = true) → as.map (peekT s) = L → as.map s.abs.heap.get? = L
 | [], L, _, e => e
 | a :: as, [], _, e => by cases e
 | a :: as, x :: L, h, e => by
  obtain ⟨e1, e2⟩ := List.cons.inj e
  obtain ⟨o, ho⟩ := Option.isSome_iff_exists.mp (h x List.mem_cons_self)
  subst ho
  show s.abs.heap.get? a :: as.map s.abs.heap.get? = _
  rw [peek_get e1, peek_all (fun y hy => h y (List.mem_cons_of_mem _ hy)) e2]
def oneP (as ts : List Addr) (s0 : SharedT) (m : Nat) (p : Program) (M : Nat) (w : World) :=
 (topRunT treeTable p w m (some (.ref 6)) M s0 (topStub p)).map fun s => (as.map (peekT s), ts.map (peekT s))
theorem hC_k {K : Params → Frag} {as : List Addr} {e : ∀ P, as = (K P).map (·.1)} {p : Program} {M : Nat}
  (h : ∀ w : World, (fun os => oneP as [] (bootT w os) bootSize p M w) = fun _ => some ((K w.params).map fun q => some q.2, [])) :
  ∀ w : World, (fun os => oneC (kHook K as e).obs (bootT w os) bootSize p M w) = fun _ => some ((kHook K as e).val w) := fun w => funext fun os => by
 have h := congrFun (h w) os
 unfold oneP at h
 unfold oneC
 obtain ⟨s, r, l⟩ := Option.map_eq_some_iff.mp h
 obtain ⟨l1, l2⟩ := Prod.mk.inj l
 rw [r]
 show some (as.map s.abs.heap.get?) = some ((K w.params).map fun q => some q.2)
 rw [peek_all (fun x hx => by obtain ⟨q, _, rfl⟩ := List.mem_map.mp hx; rfl) l1]
end HD
lay_quick HD.oneP
theorem HD.oneP_eq : @HD.oneP = @PySem.W.Fast.tw13831889492591282369 := PySem.W.Fast.te13831889492591282369
lay_quick HD.oneA
lay_quick HD.oneB
theorem HD.oneA_eq : @HD.oneA = @PySem.W.Fast.tw6247638121477898359 := PySem.W.Fast.te6247638121477898359
theorem HD.oneB_eq : @HD.oneB = @PySem.W.Fast.tw4394042064226896843 := PySem.W.Fast.te4394042064226896843
end
local macro_rules | `(tactic| walk_at "rd") => `(tactic| repeat (first | with_reducible refine L2.r_seq ?_ | with_reducible refine L2.r_next ?_ | with_reducible refine L2.r_asg ?_ | with_reducible refine L2.r_gname ?_ | with_reducible refine L2.r_ret ?_ | with_reducible refine L2.r_retN ?_ | with_reducible refine L2.r_drop ?_ | with_reducible refine L2.r_ifs ?_ | with_reducible refine L2.r_test ?_ | with_reducible refine L2.r_tB ?_ | with_reducible refine L2.r_not ?_ | with_reducible refine L2.r_and ?_ | with_reducible refine L2.r_or ?_ | with_reducible refine L2.r_isN ?_ | with_reducible refine L2.r_notN ?_ | with_reducible refine L2.r_op ?_ | with_reducible refine L2.r_un ?_ | with_reducible refine L2.r_rU ?_ | with_reducible refine L2.r_c ?_ | with_reducible refine L2.r_rI0 ?_ | with_reducible refine L2.r_ipI ?_ | with_reducible refine L2.r_bl ?_ | with_reducible refine L2.r_int ?_ | with_reducible refine L2.r_nil ?_ | with_reducible refine L2.r_cons ?_ | with_reducible refine L2.r_call ?_ | with_reducible refine L2.r_cB ?_ | with_reducible refine L2.r_lst ?_ | with_reducible refine L2.r_tup ?_ | with_reducible refine L2.r_bm ?_ | with_reducible refine L2.r_bm0 ?_ | with_reducible refine L2.r_sl ?_ | with_reducible refine L2.r_nopart ?_ | with_reducible refine L2.r_part ?_ | with_reducible refine L2.r_for ?_ | with_reducible refine L2.r_rng1 ?_ | with_reducible refine L2.r_rng2 ?_ | with_reducible refine L2.r_rng3 ?_ | with_reducible refine L2.r_ilist ?_ | with_reducible refine L2.r_itup ?_ | with_reducible refine L2.r_istr ?_ | with_reducible refine L2.r_lc ?_ | with_reducible refine L2.r_yes ?_ | with_reducible refine L2.r_ifE ?_ | with_reducible refine L2.r_chain ?_ | with_reducible refine L2.r_andV ?_ | with_reducible refine L2.r_orV ?_ | with_reducible refine L2.r_notV ?_ | with_reducible refine L2.r_fld ?_ | with_reducible refine L2.r_sfld ?_ | with_reducible refine L2.r_make ?_ | with_reducible refine L2.r_meth ?_ | with_reducible refine L2.r_rev ?_ | with_reducible refine L2.r_cBK ?_ | with_reducible refine L2.r_izip ?_ | with_reducible refine L2.r_ienum ?_ | with_reducible refine L2.r_lc2 ?_ | with_reducible refine L2.r_ienumS ?_ | with_reducible refine L2.r_rngD ?_ | with_reducible refine L2.r_izipT ?_ | with_reducible refine L2.r_lzip ?_ | with_reducible refine L2.r_revL ?_ | with_reducible refine L2.r_lrev ?_ | with_reducible refine L2.r_dnew ?_ | with_reducible refine L2.r_binit ?_ | with_reducible refine L2.r_fstr ?_ | with_reducible refine L2.r_splace ?_ | with_reducible refine L2.r_place ?_ | with_reducible refine L2.r_raiseI ?_ | with_reducible refine L2.r_lrng ?_ | with_reducible refine L2.r_lrng3 ?_ | with_reducible refine L2.r_mod (by decide) ?_ | with_reducible refine L2.r_shr (by decide) ?_ | with_reducible refine L2.r_div (by decide) (by decide) ?_ | with_reducible refine L2.r_mulR (by decide) (by decide) ?_ | with_reducible refine L2.r_mulL (by decide) (by decide) ?_ | with_reducible refine L2.r_rEq rfl ?_ | with_reducible refine L2.r_rNe rfl ?_ | with_reducible refine L2.iteT ?_ | with_reducible refine L2.iteF ?_ | with_reducible refine L2.iteNT ?_ | with_reducible refine L2.iteNF ?_ | refine L2.r_var rfl ?_ | refine L2.r_aug rfl ?_ | dsimp only))
namespace TK
open PySem L2 TW
local macro_rules | `(tactic| k_is) => `(tactic| walk_at "rd")
def top (i : Nat) : Stmt := PySem.Challenge.pw_tightwood_k26_tables_of_heights.main.body.getD i (.Pass ⟨0, 0, 0, 0⟩)
abbrev Wo : Stmt := inClass (top 5) 0
theorem J6 : FnScope ["self", "place"] ["self", "place"] (defScope Wo) := ⟨rfl, rfl, rfl, by decide +kernel, rfl, by decide +kernel, by decide +kernel⟩
abbrev s_is_whole : Stmt := top 7
theorem sc_is_whole : FnScope ["thing"] ["thing"] (defScope s_is_whole) := ⟨rfl, rfl, rfl, by decide +kernel, rfl, by decide +kernel, by decide +kernel⟩
abbrev s_is_within : Stmt := top 8
theorem sc_is_within : FnScope ["thing", "low", "high"] ["thing", "low", "high"] (defScope s_is_within) := ⟨rfl, rfl, rfl, by decide +kernel, rfl, by decide +kernel, by decide +kernel⟩
abbrev s_check_bit : Stmt := top 9
theorem sc_check_bit : FnScope ["bit"] ["bit"] (defScope s_check_bit) := ⟨rfl, rfl, rfl, by decide +kernel, rfl, by decide +kernel, by decide +kernel⟩
abbrev s_check_place : Stmt := top 10
theorem sc_check_place : FnScope ["place", "greatest"] ["place", "greatest"] (defScope s_check_place) := ⟨rfl, rfl, rfl, by decide +kernel, rfl, by decide +kernel, by decide +kernel⟩
abbrev s_check_stretch : Stmt := top 11
theorem sc_check_stretch : FnScope ["low", "high", "greatest"] ["low", "high", "greatest"] (defScope s_check_stretch) := ⟨rfl, rfl, rfl, by decide +kernel, rfl, by decide +kernel, by decide +kernel⟩
abbrev s_ones_in : Stmt := top 15
theorem sc_ones_in : FnScope ["word", "ones"] ["word"] (defScope s_ones_in) := ⟨rfl, rfl, rfl, by decide +kernel, rfl, by decide +kernel, by decide +kernel⟩
abbrev s_is_row : Stmt := top 19
theorem sc_is_row : FnScope ["thing"] ["thing"] (defScope s_is_row) := ⟨rfl, rfl, rfl, by decide +kernel, rfl, by decide +kernel, by decide +kernel⟩
abbrev s_word_of : Stmt := top 20
theorem sc_word_of : FnScope ["signs"] ["signs"] (defScope s_word_of) := ⟨rfl, rfl, rfl, by decide +kernel, rfl, by decide +kernel, by decide +kernel⟩
abbrev s_words_of : Stmt := top 21
theorem sc_words_of : FnScope ["text"] ["text"] (defScope s_words_of) := ⟨rfl, rfl, rfl, by decide +kernel, rfl, by decide +kernel, by decide +kernel⟩
theorem lc_words_of_0 : LcScope ["text"] (defScope s_words_of) { kind := .function, names := [(".0", .local), ("low", .local), ("word_of", .globalImplicit), ("WORD_BITS", .globalImplicit), ("text", .free)], isGenerator := false, isCoroutine := false, more := [] } "low" ["low", "text"] [0] := ⟨rfl, by decide +kernel, by decide +kernel, by decide +kernel, by decide +kernel, rfl, rfl, rfl, by decide +kernel⟩
abbrev s_signs_of : Stmt := top 22
theorem sc_signs_of : FnScope ["word"] ["word"] (defScope s_signs_of) := ⟨rfl, rfl, rfl, by decide +kernel, rfl, by decide +kernel, by decide +kernel⟩
theorem lc_signs_of_0 : LcScope ["word"] (defScope s_signs_of) { kind := .function, names := [(".0", .local), ("low", .local), ("SIGNS_OF_FOUR", .globalImplicit), ("word", .free)], isGenerator := false, isCoroutine := false, more := [] } "low" ["low", "word"] [0] := ⟨rfl, by decide +kernel, by decide +kernel, by decide +kernel, by decide +kernel, rfl, rfl, rfl, by decide +kernel⟩
abbrev Ws : Stmt := inClass (top 23) 0
theorem Qaa : FnScope ["self", "text"] ["self", "text"] (defScope Ws) := ⟨rfl, rfl, rfl, by decide +kernel, rfl, by decide +kernel, by decide +kernel⟩
abbrev Wt : Stmt := inClass (top 23) 1
theorem Qab : FnScope ["self"] ["self"] (defScope Wt) := ⟨rfl, rfl, rfl, by decide +kernel, rfl, by decide +kernel, by decide +kernel⟩
abbrev Wn : Stmt := inClass (top 23) 3
theorem J5 : FnScope ["self"] ["self"] (defScope Wn) := ⟨rfl, rfl, rfl, by decide +kernel, rfl, by decide +kernel, by decide +kernel⟩
abbrev Q4 : Stmt := inClass (top 23) 5
theorem Wj : FnScope ["self", "low", "high", "first", "beyond", "signs", "begin"] ["self", "low", "high"] (defScope Q4) := ⟨rfl, rfl, rfl, by decide +kernel, rfl, by decide +kernel, by decide +kernel⟩
theorem Y3 : LcScope ["self", "low", "high", "first", "beyond", "signs", "begin"] (defScope Q4) { kind := .function, names := [(".0", .local), ("word", .local), ("signs_of", .globalImplicit)], isGenerator := false, isCoroutine := false, more := [] } "word" ["word"] [] := ⟨rfl, by decide +kernel, by decide +kernel, by decide +kernel, by decide +kernel, rfl, rfl, rfl, by decide +kernel⟩
abbrev s_running_sums : Stmt := top 26
theorem sc_running_sums : FnScope ["numbers", "sums", "number"] ["numbers"] (defScope s_running_sums) := ⟨rfl, rfl, rfl, by decide +kernel, rfl, by decide +kernel, by decide +kernel⟩
abbrev s_table_of_words : Stmt := top 27
theorem sc_table_of_words : FnScope ["words", "blocks"] ["words"] (defScope s_table_of_words) := ⟨rfl, rfl, rfl, by decide +kernel, rfl, by decide +kernel, by decide +kernel⟩
theorem lc_table_of_words_0 : LcScope ["words", "blocks"] (defScope s_table_of_words) { kind := .function, names := [(".0", .local), ("low", .local), ("BLOCK_WORDS", .globalImplicit), ("words", .free)], isGenerator := false, isCoroutine := false, more := [] } "low" ["low", "words"] [0] := ⟨rfl, by decide +kernel, by decide +kernel, by decide +kernel, by decide +kernel, rfl, rfl, rfl, by decide +kernel⟩
theorem lc_table_of_words_1 : LcScope ["words", "blocks"] (defScope s_table_of_words) { kind := .function, names := [(".0", .local), ("block", .local), ("sum", .globalImplicit)], isGenerator := false, isCoroutine := false, more := [] } "block" ["block"] [] := ⟨rfl, by decide +kernel, by decide +kernel, by decide +kernel, by decide +kernel, rfl, rfl, rfl, by decide +kernel⟩
theorem lc_table_of_words_2 (sc₀ : Scope) : LcScope ["block"] sc₀ { kind := .function, names := [(".0", .local), ("word", .local), ("ones_in", .globalImplicit)], isGenerator := false, isCoroutine := false, more := [] } "word" ["word"] [] := ⟨rfl, by decide +kernel, by decide +kernel, (fun y hy h => absurd h ((by decide +kernel : ∀ y ∈ ({ kind := .function, names := [(".0", .local), ("word", .local), ("ones_in", .globalImplicit)], isGenerator := false, isCoroutine := false, more := [] } : Scope).names, y.2 ≠ NameKind.free) y hy)), by decide +kernel, rfl, rfl, rfl, by decide +kernel⟩
abbrev Wf : Stmt := inClass (top 28) 0
theorem Jx : FnScope ["self", "bits"] ["self", "bits"] (defScope Wf) := ⟨rfl, rfl, rfl, by decide +kernel, rfl, by decide +kernel, by decide +kernel⟩
abbrev Qs : Stmt := inClass (top 28) 6
theorem Qk : FnScope ["self", "place", "number", "block", "ones", "word", "rest"] ["self", "place"] (defScope Qs) := ⟨rfl, rfl, rfl, by decide +kernel, rfl, by decide +kernel, by decide +kernel⟩
abbrev Wb : Stmt := inClass (top 28) 2
theorem Yd : FnScope ["self", "bit", "place", "ones"] ["self", "bit", "place"] (defScope Wb) := ⟨rfl, rfl, rfl, by decide +kernel, rfl, by decide +kernel, by decide +kernel⟩
abbrev s_heights_of : Stmt := top 30
theorem sc_heights_of : FnScope ["text", "begin", "height", "heights", "sign"] ["text", "begin"] (defScope s_heights_of) := ⟨rfl, rfl, rfl, by decide +kernel, rfl, by decide +kernel, by decide +kernel⟩
abbrev s_check_row : Stmt := top 36
theorem sc_check_row : FnScope ["text", "height", "place", "sign"] ["text"] (defScope s_check_row) := ⟨rfl, rfl, rfl, by decide +kernel, rfl, by decide +kernel, by decide +kernel⟩
abbrev Wc : Stmt := inClass (top 32) 0
theorem Jo : FnScope ["self", "length", "table", "often_least"] ["self", "length", "table", "often_least"] (defScope Wc) := ⟨rfl, rfl, rfl, by decide +kernel, rfl, by decide +kernel, by decide +kernel⟩
abbrev Qt : Stmt := inClass (top 37) 4
theorem Ym : FnScope ["self", "place"] ["self", "place"] (defScope Qt) := ⟨rfl, rfl, rfl, by decide +kernel, rfl, by decide +kernel, by decide +kernel⟩
abbrev Q5 : Stmt := inClass (top 32) 9
theorem Y7 : FnScope ["self", "place"] ["self", "place"] (defScope Q5) := ⟨rfl, rfl, rfl, by decide +kernel, rfl, by decide +kernel, by decide +kernel⟩
abbrev Q9 : Stmt := inClass (top 37) 2
theorem Je : FnScope ["self", "low", "high"] ["self", "low", "high"] (defScope Q9) := ⟨rfl, rfl, rfl, by decide +kernel, rfl, by decide +kernel, by decide +kernel⟩
abbrev Wd : Stmt := inClass (top 32) 7
theorem Jp : FnScope ["self"] ["self"] (defScope Wd) := ⟨rfl, rfl, rfl, by decide +kernel, rfl, by decide +kernel, by decide +kernel⟩
abbrev We : Stmt := inClass (top 32) 8
theorem Jq : FnScope ["self"] ["self"] (defScope We) := ⟨rfl, rfl, rfl, by decide +kernel, rfl, by decide +kernel, by decide +kernel⟩
abbrev Qv : Stmt := inClass (top 37) 0
theorem Wr : FnScope ["self", "text", "lows", "begins", "heights", "table"] ["self", "text"] (defScope Qv) := ⟨rfl, rfl, rfl, by decide +kernel, rfl, by decide +kernel, by decide +kernel⟩
theorem Jf : LcScope ["self", "text", "lows", "begins", "heights", "table"] (defScope Qv) { kind := .function, names := [(".0", .local), ("low", .local), ("self", .free)], isGenerator := false, isCoroutine := false, more := [] } "low" ["low", "self"] [0] := ⟨rfl, by decide +kernel, by decide +kernel, by decide +kernel, by decide +kernel, rfl, rfl, rfl, by decide +kernel⟩
theorem Jg : LcScope2 ["self", "text", "lows", "begins", "heights", "table"] (defScope Qv) { kind := .function, names := [(".0", .local), ("low", .local), ("begin", .local), ("heights_of", .globalImplicit), ("STRETCH_BITS", .globalImplicit), ("text", .free)], isGenerator := false, isCoroutine := false, more := [] } "low" "begin" ["low", "begin", "text"] [1] := ⟨rfl, by decide +kernel, by decide +kernel, by decide +kernel, by decide +kernel, rfl, rfl, rfl, rfl, rfl, by decide +kernel⟩
theorem Jh : LcScope2 ["self", "text", "lows", "begins", "heights", "table"] (defScope Qv) { kind := .function, names := [(".0", .local), ("begin", .local), ("some", .local), ("min", .globalImplicit), ("max", .globalImplicit)], isGenerator := false, isCoroutine := false, more := [] } "begin" "some" ["begin", "some"] [] := ⟨rfl, by decide +kernel, by decide +kernel, by decide +kernel, by decide +kernel, rfl, rfl, rfl, rfl, rfl, by decide +kernel⟩
theorem Ji : LcScope ["self", "text", "lows", "begins", "heights", "table"] (defScope Qv) { kind := .function, names := [(".0", .local), ("some", .local), ("min", .globalImplicit)], isGenerator := false, isCoroutine := false, more := [] } "some" ["some"] [] := ⟨rfl, by decide +kernel, by decide +kernel, by decide +kernel, by decide +kernel, rfl, rfl, rfl, by decide +kernel⟩
abbrev Wg : Stmt := inClass (top 37) 1
theorem Jy : FnScope ["self"] ["self"] (defScope Wg) := ⟨rfl, rfl, rfl, by decide +kernel, rfl, by decide +kernel, by decide +kernel⟩
abbrev Qz : Stmt := inClass (top 37) 8
theorem Yw : FnScope ["self", "place"] ["self", "place"] (defScope Qz) := ⟨rfl, rfl, rfl, by decide +kernel, rfl, by decide +kernel, by decide +kernel⟩
abbrev Q6 : Stmt := inClass (top 37) 9
theorem Y8 : FnScope ["self", "number"] ["self", "number"] (defScope Q6) := ⟨rfl, rfl, rfl, by decide +kernel, rfl, by decide +kernel, by decide +kernel⟩
abbrev Q0 : Stmt := inClass (top 32) 18
theorem W7 : FnScope ["self", "low", "high", "cuts"] ["self", "low", "high"] (defScope Q0) := ⟨rfl, rfl, rfl, by decide +kernel, rfl, by decide +kernel, by decide +kernel⟩
theorem Yx : LcScope ["self", "low", "high", "cuts"] (defScope Q0) { kind := .function, names := [(".0", .local), ("number", .local), ("self", .free)], isGenerator := false, isCoroutine := false, more := [] } "number" ["number", "self"] [0] := ⟨rfl, by decide +kernel, by decide +kernel, by decide +kernel, by decide +kernel, rfl, rfl, rfl, by decide +kernel⟩
abbrev Qx : Stmt := inClass (top 32) 19
theorem W3 : FnScope ["self", "low", "height", "row"] ["self", "low", "height"] (defScope Qx) := ⟨rfl, rfl, rfl, by decide +kernel, rfl, by decide +kernel, by decide +kernel⟩
abbrev Ql : Stmt := inClass (top 32) 21
theorem W6 : FnScope ["self", "low", "high"] ["self", "low", "high"] (defScope Ql) := ⟨rfl, rfl, rfl, by decide +kernel, rfl, by decide +kernel, by decide +kernel⟩
abbrev Qq : Stmt := inClass (top 32) 22
theorem Wy : FnScope ["self", "low", "high", "height", "heights"] ["self", "low", "high", "height"] (defScope Qq) := ⟨rfl, rfl, rfl, by decide +kernel, rfl, by decide +kernel, by decide +kernel⟩
abbrev Qp : Stmt := inClass (top 32) 23
theorem Wx : FnScope ["self", "low", "high", "height", "heights"] ["self", "low", "high", "height"] (defScope Qp) := ⟨rfl, rfl, rfl, by decide +kernel, rfl, by decide +kernel, by decide +kernel⟩
abbrev s_check_height : Stmt := top 31
theorem sc_check_height : FnScope ["height"] ["height"] (defScope s_check_height) := ⟨rfl, rfl, rfl, by decide +kernel, rfl, by decide +kernel, by decide +kernel⟩
abbrev Q2 : Stmt := inClass (top 32) 13
theorem Wl : FnScope ["self", "place", "height", "low", "high", "found"] ["self", "place", "height"] (defScope Q2) := ⟨rfl, rfl, rfl, by decide +kernel, rfl, by decide +kernel, by decide +kernel⟩
abbrev Q1 : Stmt := inClass (top 32) 14
theorem Wk : FnScope ["self", "place", "height", "low", "high", "found"] ["self", "place", "height"] (defScope Q1) := ⟨rfl, rfl, rfl, by decide +kernel, rfl, by decide +kernel, by decide +kernel⟩
abbrev Wv : Stmt := inClass (top 23) 4
theorem Qae : FnScope ["self", "place"] ["self", "place"] (defScope Wv) := ⟨rfl, rfl, rfl, by decide +kernel, rfl, by decide +kernel, by decide +kernel⟩
abbrev Qy : Stmt := inClass (top 37) 3
theorem Yv : FnScope ["self", "place"] ["self", "place"] (defScope Qy) := ⟨rfl, rfl, rfl, by decide +kernel, rfl, by decide +kernel, by decide +kernel⟩
abbrev Q3 : Stmt := inClass (top 32) 10
theorem Y2 : FnScope ["self", "place"] ["self", "place"] (defScope Q3) := ⟨rfl, rfl, rfl, by decide +kernel, rfl, by decide +kernel, by decide +kernel⟩
abbrev Q7 : Stmt := inClass (top 32) 12
theorem Jd : FnScope ["self", "place"] ["self", "place"] (defScope Q7) := ⟨rfl, rfl, rfl, by decide +kernel, rfl, by decide +kernel, by decide +kernel⟩
abbrev Q8 : Stmt := inClass (top 32) 11
theorem W8 : FnScope ["self", "place", "depth"] ["self", "place"] (defScope Q8) := ⟨rfl, rfl, rfl, by decide +kernel, rfl, by decide +kernel, by decide +kernel⟩
abbrev Qr : Stmt := inClass (top 32) 20
theorem W0 : FnScope ["self", "low", "high", "number"] ["self", "low", "high"] (defScope Qr) := ⟨rfl, rfl, rfl, by decide +kernel, rfl, by decide +kernel, by decide +kernel⟩
abbrev Qo : Stmt := inClass (top 32) 25
theorem Yb : FnScope ["self", "low", "high"] ["self", "low", "high"] (defScope Qo) := ⟨rfl, rfl, rfl, by decide +kernel, rfl, by decide +kernel, by decide +kernel⟩
abbrev Qw : Stmt := inClass (top 32) 15
theorem Ww : FnScope ["self", "low", "high", "own", "least"] ["self", "low", "high"] (defScope Qw) := ⟨rfl, rfl, rfl, by decide +kernel, rfl, by decide +kernel, by decide +kernel⟩
theorem Yn : LcScope2 ["self", "low", "high", "own", "least"] (defScope Qw) { kind := .function, names := [(".0", .local), ("begin", .local), ("end", .local), ("self", .free)], isGenerator := false, isCoroutine := false, more := [] } "begin" "end" ["begin", "end", "self"] [0] := ⟨rfl, by decide +kernel, by decide +kernel, by decide +kernel, by decide +kernel, rfl, rfl, rfl, rfl, rfl, by decide +kernel⟩
abbrev s_law_cell_at : Stmt := top 39
theorem sc_law_cell_at : FnScope ["_law_script", "_law_k"] ["_law_script", "_law_k"] (defScope s_law_cell_at) := ⟨rfl, rfl, rfl, by decide +kernel, rfl, by decide +kernel, by decide +kernel⟩
abbrev s_law_mixed : Stmt := top 40
theorem sc_law_mixed : FnScope ["_law_cell", "_law_k", "_law_number"] ["_law_cell", "_law_k"] (defScope s_law_mixed) := ⟨rfl, rfl, rfl, by decide +kernel, rfl, by decide +kernel, by decide +kernel⟩
abbrev s_law_elders : Stmt := top 41
theorem sc_law_elders : FnScope ["_law_cell", "_law_many", "_law_found", "_law_way", "_law_left", "_law_k", "_law_up", "_law_mixed_here"] ["_law_cell", "_law_many"] (defScope s_law_elders) := ⟨rfl, rfl, rfl, by decide +kernel, rfl, by decide +kernel, by decide +kernel⟩
abbrev s_law_row : Stmt := top 42
theorem sc_law_row : FnScope ["_law_elders_here", "_law_text_here", "_law_depths", "_law_elder", "_law_deep"] ["_law_elders_here"] (defScope s_law_row) := ⟨rfl, rfl, rfl, by decide +kernel, rfl, by decide +kernel, by decide +kernel⟩
abbrev s_law_is : Stmt := top 45
theorem sc_law_is : FnScope ["_law_found", "_law_due"] ["_law_found", "_law_due"] (defScope s_law_is) := ⟨rfl, rfl, rfl, by decide +kernel, rfl, by decide +kernel, by decide +kernel⟩
abbrev s_law_text : Stmt := top 43
theorem sc_law_text : FnScope ["_law_script", "_law_at", "_law_number", "_law_many", "_law_text_here", "_law_wide"] ["_law_script", "_law_at"] (defScope s_law_text) := ⟨rfl, rfl, rfl, by decide +kernel, rfl, by decide +kernel, by decide +kernel⟩
abbrev s_law_heights : Stmt := top 44
theorem sc_law_heights : FnScope ["_law_text_here", "_law_found", "_law_sign"] ["_law_text_here"] (defScope s_law_heights) := ⟨rfl, rfl, rfl, by decide +kernel, rfl, by decide +kernel, by decide +kernel⟩
abbrev s_law_right : Stmt := top 46
theorem sc_law_right : FnScope ["_law_text_here", "_law_found", "_law_heights_here", "_law_k", "_law_some", "_law_due", "_law_one", "_law_other", "_law_met"] ["_law_text_here"] (defScope s_law_right) := ⟨rfl, rfl, rfl, by decide +kernel, rfl, by decide +kernel, by decide +kernel⟩
theorem lc_law_right_0 : LcScope ["_law_text_here", "_law_found", "_law_heights_here", "_law_k", "_law_some", "_law_due", "_law_one", "_law_other", "_law_met"] (defScope s_law_right) { kind := .function, names := [(".0", .local), ("_law_height", .local)], isGenerator := false, isCoroutine := false, more := [] } "_law_height" ["_law_height"] [] := ⟨rfl, by decide +kernel, by decide +kernel, by decide +kernel, by decide +kernel, rfl, rfl, rfl, by decide +kernel⟩
abbrev s_law_far : Stmt := top 47
theorem sc_law_far : FnScope ["_law_text_here", "_law_high", "_law_pairs", "_law_many"] ["_law_text_here", "_law_high"] (defScope s_law_far) := ⟨rfl, rfl, rfl, by decide +kernel, rfl, by decide +kernel, by decide +kernel⟩
abbrev s_law : Stmt := top 48
theorem sc_law : FnScope ["_law_script", "_law_k", "_law_high", "_law_text_here"] ["_law_script"] (defScope s_law) := ⟨rfl, rfl, rfl, by decide +kernel, rfl, by decide +kernel, by decide +kernel⟩
def signs (l : List Bool) : Str := ⟨(l.map fun b => if b then 49 else 48).toArray⟩
def sg (b : Bool) : V := .str (sgn (if b then 49 else 48))
theorem and15 (m : Nat) : Builtin.bitAnd (m : Int) 15 = ((m % 16 : Nat) : Int) := by
 unfold Builtin.bitAnd
 rw [decide_eq_true (Int.natCast_nonneg m), decide_eq_true (by decide : (0 : Int) ≤ 15)]
 show ((m &&& 15 : Nat) : Int) = _
 rw [show (15 : Nat) = 2 ^ 4 - 1 by decide, Nat.and_two_pow_sub_one_eq_mod]
theorem shr4 (m : Nat) : (m : Int) / 2 ^ (4 : Int).toNat = ((m / 16 : Nat) : Int) := by
 show (m : Int) / 16 = _
 omega
theorem four_at (r : Nat) (h : r < 16) : atI (fours.map fun n : Nat => V.int (n : Int)) (r : Int) = some (.int (pc r)) := by
 refine atI_nat ?_
 rw [List.getElem?_map, fours_eq r h]
 rfl
theorem and1 (m : Nat) : Builtin.bitAnd (m : Int) 1 = ((m % 2 : Nat) : Int) := by
 unfold Builtin.bitAnd
 rw [decide_eq_true (Int.natCast_nonneg m), decide_eq_true (by decide : (0 : Int) ≤ 1)]
 show ((m &&& 1 : Nat) : Int) = _
 rw [Nat.and_one_is_mod]
theorem signs_len (l : List Bool) : (signs l).length = l.length := by
 show (l.map _).toArray.size = _
 rw [List.size_toArray, List.length_map]
theorem rep_signs (b : Bool) (k : Nat) : repS (sgn (if b then 49 else 48)) k = signs (List.replicate k b) := by
 refine ext_cps ?_
 show (List.replicate k [if b then 49 else 48]).flatten.toArray.toList = ((List.replicate k b).map _).toArray.toList
 rw [List.toList_toArray, List.toList_toArray, List.map_replicate]
 induction k with
 | zero => rfl
 | succ k ih =>
  rw [List.replicate_succ, List.flatten_cons, ih, List.replicate_succ]
  rfl
theorem signs_cps (l : List Bool) : (signs l).cps.toList = l.map fun b => if b then 49 else 48 := by
 show (l.map _).toArray.toList = _
 rw [List.toList_toArray]
theorem signs_bits (l : List Bool) : IB.bits (signs l).cps.toList := fun c hc => by
 rw [signs_cps] at hc
 obtain ⟨b, _, rfl⟩ := List.mem_map.mp hc
 cases b
 ·exact .inl rfl
 ·exact .inr rfl
theorem signs_append (a b : List Bool) : signs a ++ signs b = signs (a ++ b) := by
 refine ext_cps ?_
 show ((signs a).cps ++ (signs b).cps).toList = _
 rw [Array.toList_append, signs_cps, signs_cps, signs_cps, List.map_append]
theorem repS_signs (l : List Bool) (k : Nat) : repS (signs l) k = signs (List.replicate k l).flatten := by
 refine ext_cps ?_
 show (List.replicate k (signs l).cps.toList).flatten.toArray.toList = _
 rw [List.toList_toArray, signs_cps, signs_cps, List.map_flatten, List.map_replicate]
theorem drop_take_min {α : Type} (l : List α) (a b : Nat) : (l.drop (min a l.length)).take (min b l.length - min a l.length) = (l.drop a).take (b - a) := by
 by_cases h : a ≤ l.length
 ·rw [Nat.min_eq_left h]
  by_cases h2 : b ≤ l.length
  ·rw [Nat.min_eq_left h2]
  ·rw [Nat.min_eq_right (by omega), List.take_of_length_le (by rw [List.length_drop]; omega), List.take_of_length_le (by rw [List.length_drop]; omega)]
 ·have e : min a l.length = l.length := by omega
  rw [e, List.drop_of_length_le (Nat.le_refl _), List.drop_of_length_le (by omega)]
  simp
theorem cut_signs (l : List Bool) (a b : Nat) : cutS (signs l) (some (a : Int)) (some (b : Int)) = signs ((l.drop a).take (b - a)) := by
 refine ext_cps ?_
 show (List.take _ (List.drop _ _)).toArray.toList = _
 rw [List.toList_toArray, HT.sIx_nat, HT.sIx_nat]
 have e : (signs l).cps.size = l.length := signs_len l
 rw [e, signs_cps, signs_cps, List.map_take, List.map_drop]
 have := drop_take_min (l.map fun b => if b = true then 49 else 48) a b
 rw [List.length_map] at this
 exact this
theorem cutV_nat (xs : List V) (a b : Nat) : cutV xs (some (a : Int)) (some (b : Int)) = (xs.drop a).take (b - a) := by
 unfold cutV
 rw [HT.sIx_nat, HT.sIx_nat]
 exact drop_take_min xs a b
theorem cnt_signs (l : List Bool) : cntS (signs l) 49 = l.count true ∧ cntS (signs l) 48 + cntS (signs l) 49 = l.length := by
 unfold cntS
 rw [signs_cps]
 induction l with
 | nil => exact ⟨rfl, rfl⟩
 | cons b r ih => cases b <;> simp [List.count_cons] <;> omega
theorem rev_v2 (l : List Bool) : IB.v2 (revS (signs l)).cps.toList = val l := by
 show IB.v2 (signs l).cps.toList.reverse.toArray.toList = _
 rw [List.toList_toArray, signs_cps, ← List.map_reverse]
 unfold IB.v2
 rw [List.foldl_map]
 have e := val_rev l 0
 rw [Nat.zero_mul, Nat.zero_add] at e
 rw [← e]
 congr 1
 funext a b
 cases b <;> rfl
abbrev nV (ns : List Nat) : List V := ns.map fun n : Nat => V.int n
theorem nV_ints (ns : List Nat) : nV ns = (ns.map fun n : Nat => (n : Int)).map V.int := by rw [List.map_map]; rfl
theorem nV_range (f : Nat → Nat) (i : Nat) : nV ((List.range (i + 1)).map f) = nV ((List.range i).map f) ++ [V.int (f i : Nat)] := by
 unfold nV
 rw [List.range_succ, List.map_append, List.map_append]
 rfl
theorem sum_cast (ns : List Nat) : (ns.map fun n : Nat => (n : Int)).sum = (ns.sum : Nat) := by
 induction ns with
 | nil => rfl
 | cons n r ih => rw [List.map_cons, List.sum_cons, ih, List.sum_cons]; omega
theorem stepsN_nat (n d : Nat) (hd : 0 < d) : stepsN 0 (n : Int) (d : Int) = (n + d - 1) / d := by
 unfold stepsN
 rw [show (n : Int) - 0 + (d : Int) - 1 = ((n + d - 1 : Nat) : Int) by omega, ← Int.natCast_ediv, Int.toNat_natCast]
theorem few {n : Nat} (h : n ≤ 1000) : n ≤ sizeLine := Nat.le_of_lt (small1000 h)
theorem small20000 {n : Nat} (h : n ≤ 100000) : n < sizeLine := Nat.lt_of_le_of_lt h (by decide)
theorem sign_of {l : List Bool} {i c : Nat} (h : (signs l).cps[i]? = some c) : ∃ b, l[i]? = some b ∧ c = if b then 49 else 48 := by
 have e : (signs l).cps.toList[i]? = some c := by rw [Array.getElem?_toList]; exact h
 rw [signs_cps, List.getElem?_map] at e
 cases hb : l[i]? with
 | none => rw [hb] at e; cases e
 | some b =>
  rw [hb] at e
  exact ⟨b, rfl, (Option.some.inj e).symm⟩
theorem at_lt {α : Type} {l : List α} {i : Nat} {b : α} (h : l[i]? = some b) : i < l.length := (List.getElem?_eq_some_iff.mp h).1
def isI : V → Bool
 | .int _ => true
 | _ => false
def inI : V → Int → Int → Bool
 | .int i, lo, hi => decide (lo ≤ i) && decide (i ≤ hi)
 | _, _, _ => false
def natI : V → Nat
 | .int i => i.toNat
 | _ => 0
def leV : V → V → Bool
 | .int a, .int b => decide (a ≤ b)
 | _, _ => false
def strOk (x y : V) (g : Int) : Bool := inI x 0 g && inI y 0 g && leV x y
theorem inI_int (i lo hi : Int) : inI (.int i) lo hi = (decide (lo ≤ i) && decide (i ≤ hi)) := rfl
theorem strOk_int (i j g : Int) : strOk (.int i) (.int j) g = (decide (0 ≤ i) && decide (i ≤ g) && (decide (0 ≤ j) && decide (j ≤ g)) && decide (i ≤ j)) := rfl
def Any (K : PySem.W.Frag) (H : Hp) (x : V) : Prop := ∃ t b1 b2, TyOf K H x t ∧ PySem.W.kitOne K t (.type "int") = some b1 ∧ PySem.W.kitOne K t (.type "bool") = some b2 ∧ (b1 && !b2) = isI x
section
variable {K : PySem.W.Frag} {H H' : Hp}
theorem any_int (i : Int) : Any K H (.int i) := ⟨_, true, false, .int i, by rfl, by rfl, rfl⟩
theorem TyOf.same {x : V} {t : Value} (s : Same H H') (h : TyOf K H x t) : TyOf K H' x t := by
 cases h with
 | non => exact .non
 | bl b => exact .bl b
 | int i => exact .int i
 | str z => exact .str z
 | flt z => exact .flt z
 | lst e => exact .lst (s _ _ e)
 | frz e => exact .frz (s _ _ e)
 | tup e => exact .tup (s _ _ e)
 | dK e => exact .dK (s _ _ e)
 | dT e => exact .dT (s _ _ e)
 | ins e cl ha hn htk hm => exact .ins (s _ _ e) cl ha hn htk hm
theorem Any.same {x : V} (s : Same H H') (h : Any K H x) : Any K H' x := let ⟨t, b1, b2, h1, r⟩ := h; ⟨t, b1, b2, TyOf.same s h1, r⟩
theorem isI_of {x : V} (h : isI x = true) : ∃ i, x = .int i := by cases x <;> first | exact ⟨_, rfl⟩ | cases h
theorem inI_of {x : V} {lo hi : Int} (h : inI x lo hi = true) : ∃ i, x = .int i ∧ lo ≤ i ∧ i ≤ hi := by
 cases x <;> first | cases h | skip
 rename_i i
 have h : (decide (lo ≤ i) && decide (i ≤ hi)) = true := h
 rw [Bool.and_eq_true] at h
 exact ⟨i, rfl, of_decide_eq_true h.1, of_decide_eq_true h.2⟩
end
theorem word_at {l : List Bool} {j : Nat} (h : j < manyW l.length) : atI (nV (wordsOf l)) (j : Int) = some (.int (val (wordAt l j) : Nat)) := by
 refine atI_nat ?_
 unfold nV TW.wordsOf
 rw [List.getElem?_map, List.getElem?_map, List.getElem?_range h]
 rfl
theorem emod_nat (r : Int) (n : Nat) : ∃ k : Nat, r % ((n : Int) + 1) = (k : Int) ∧ k ≤ n := by
 have h0 := Int.emod_nonneg r (show ((n : Int) + 1) ≠ 0 by omega)
 have h1 := Int.emod_lt_of_pos r (show (0 : Int) < (n : Int) + 1 by omega)
 exact ⟨(r % ((n : Int) + 1)).toNat, by omega, by omega⟩
def fourT : List V := [.str "0000", .str "1000", .str "0100", .str "1100", .str "0010", .str "1010", .str "0110", .str "1110", .str "0001", .str "1001", .str "0101", .str "1101", .str "0011", .str "1011", .str "0111", .str "1111"]
theorem bit_in {x : V} (h : inI x 0 1 = true) : ∃ b : Bool, x = .int (b.toNat : Nat) := by
 obtain ⟨i, rfl, h0, h1⟩ := inI_of h
 have : i = 0 ∨ i = 1 := by omega
 rcases this with rfl | rfl
 ·exact ⟨false, rfl⟩
 ·exact ⟨true, rfl⟩
theorem and_mask (m k : Nat) {j : Int} (h : j = (k : Int)) : Builtin.bitAnd (m : Int) (1 * 2 ^ j.toNat - 1) = ((m % 2 ^ k : Nat) : Int) := by
 subst h
 rw [Int.toNat_natCast, Int.one_mul]
 have e : ((2 : Int) ^ k - 1) = ((2 ^ k - 1 : Nat) : Int) := by
  have : 1 ≤ 2 ^ k := Nat.one_le_two_pow
  rw [Int.natCast_sub this, Int.natCast_pow]
  rfl
 rw [e]
 unfold Builtin.bitAnd
 rw [decide_eq_true (Int.natCast_nonneg m), decide_eq_true (Int.natCast_nonneg (2 ^ k - 1))]
 show ((m &&& (2 ^ k - 1) : Nat) : Int) = _
 rw [Nat.and_two_pow_sub_one_eq_mod]
theorem nV_len (l : List Nat) : (nV l).length = l.length := by unfold nV; rw [List.length_map]
theorem nV_at {l : List Nat} {i : Nat} {n : Nat} (h : l[i]? = some n) : (nV l)[i]? = some (.int (n : Nat)) := by
 unfold nV
 rw [List.getElem?_map, h]
 rfl
theorem nV_app (l m : List Nat) : nV l ++ nV m = nV (l ++ m) := by unfold nV; rw [List.map_append]
theorem push_same {H H1 : Hp} {a : Addr} {o : HO} (s : Same H H1) (h : H a = none) : Same H (upd H1 a o) := fun b u e => by
 rw [upd_ne (ne_of_none e h)]
 exact s _ _ e
theorem iV_at {l : List Int} {i : Nat} {n : Int} (h : l[i]? = some n) : (l.map V.int)[i]? = some (.int n) := by
 rw [List.getElem?_map, h]
 rfl
theorem iV_get {l : List Int} {i : Nat} {x : V} (h : (l.map V.int)[i]? = some x) : ∃ n, l[i]? = some n ∧ x = .int n := by
 rw [List.getElem?_map] at h
 cases e : l[i]? with
 | none => rw [e] at h; cases h
 | some n =>
  rw [e] at h
  exact ⟨n, rfl, (Option.some.inj h).symm⟩
theorem last_take {l : List Int} {m : Nat} {x : Int} (h0 : 0 < m) (h : l[m - 1]? = some x) : atI ((l.take m).map V.int) (-1) = some (.int x) := by
 have hm := at_lt h
 have e : l.take m = l.take (m - 1) ++ [x] := by
  rw [show m = m - 1 + 1 by omega, List.take_add_one, h]
  rfl
 rw [e, List.map_append]
 exact atI_last _ _
def lenAt (H : Hp) (p : Addr) : Nat := match H p with | some (.lst xs) => xs.length | _ => 0
theorem opn_le {ds : List Nat} (h : Dok ds) : ∀ k, k ≤ ds.length → opn ds k ≤ k
 | 0, _ => Nat.le_refl _
 | k + 1, hk => by
  show dAt ds k + 1 ≤ k + 1
  have := h k (by omega)
  have := opn_le h k (by omega)
  omega
theorem dAt_snoc {ds : List Nat} {d j : Nat} (h : j < ds.length) : dAt (ds ++ [d]) j = dAt ds j := by
 unfold dAt List.getD
 rw [List.getElem?_append_left h]
theorem dAt_new (ds : List Nat) (d : Nat) : dAt (ds ++ [d]) ds.length = d := by
 unfold dAt List.getD
 rw [List.getElem?_append_right (Nat.le_refl _), Nat.sub_self]
 rfl
theorem opn_snoc {ds : List Nat} {d : Nat} : ∀ k, k ≤ ds.length → opn (ds ++ [d]) k = opn ds k
 | 0, _ => rfl
 | k + 1, h => by
  show dAt (ds ++ [d]) k + 1 = dAt ds k + 1
  rw [dAt_snoc (by omega)]
theorem way_snoc {ds : List Nat} {d : Nat} : ∀ k, k ≤ ds.length → way (ds ++ [d]) k = way ds k
 | 0, _ => rfl
 | k + 1, h => by
  show (way (ds ++ [d]) k).take (dAt (ds ++ [d]) k + 1) ++ [(k : Int)] = _
  rw [way_snoc k (by omega), dAt_snoc (by omega)]
  rfl
theorem dok_snoc {ds : List Nat} {d : Nat} (h : Dok ds) (hd : d ≤ opn ds ds.length) : Dok (ds ++ [d]) := fun k hk => by
 rw [List.length_append] at hk
 simp only [List.length_cons, List.length_nil] at hk
 by_cases e : k = ds.length
 ·subst e
  rw [dAt_new, opn_snoc _ (Nat.le_refl _)]
  exact hd
 ·rw [dAt_snoc (by omega), opn_snoc k (by omega)]
  exact h k (by omega)
theorem elds_snoc (ds : List Nat) (d : Nat) : elds (ds ++ [d]) = elds ds ++ [(way ds ds.length).getD d 0] := by
 unfold elds
 rw [List.length_append]
 show (List.range (ds.length + 1)).map _ = _
 rw [List.range_succ, List.map_append]
 congr 1
 ·refine List.map_congr_left fun k hk => ?_
  have hk := List.mem_range.mp hk
  unfold eld
  rw [way_snoc k (by omega), dAt_snoc hk]
 ·show [eld (ds ++ [d]) ds.length] = _
  unfold eld
  rw [way_snoc _ (Nat.le_refl _), dAt_new]
theorem way_next (ds : List Nat) (d : Nat) : way (ds ++ [d]) (ds.length + 1) = (way ds ds.length).take (d + 1) ++ [(ds.length : Int)] := by
 show (way (ds ++ [d]) ds.length).take (dAt (ds ++ [d]) ds.length + 1) ++ _ = _
 rw [way_snoc _ (Nat.le_refl _), dAt_new]
def isS : V → Bool
 | .str _ => true
 | _ => false
def AnyS (K : PySem.W.Frag) (H : Hp) (x : V) : Prop := ∃ t, TyOf K H x t ∧ PySem.W.kitOne K t (.type "str") = some (isS x)
section
variable {K : PySem.W.Frag} {H H' : Hp}
theorem anyS_str (z : Str) : AnyS K H (.str z) := ⟨_, .str z, by rfl⟩
theorem AnyS.same {x : V} (s : Same H H') (h : AnyS K H x) : AnyS K H' x := let ⟨t, h1, r⟩ := h; ⟨t, TyOf.same s h1, r⟩
end
def isBad (c : Nat) : Bool := !decide (c ∈ [48, 49])
theorem occ01 (c : Nat) : (!(!(Builtin.Str.occurrences ("01" : Str) (sgn c) 0 ("01" : Str).length 1).isEmpty)) = isBad c := by
 rw [show (!(Builtin.Str.occurrences ("01" : Str) (sgn c) 0 ("01" : Str).length 1).isEmpty) = decide (c ∈ ("01" : Str).cps.toList) from PySem.StrLaws.found_one "01" c]
 rfl
def hgt (l : List Bool) (i : Nat) : Int := 2 * ((l.take i).count true : Int) - i
theorem hgt_succ {l : List Bool} {i : Nat} {b : Bool} (h : l[i]? = some b) : hgt l (i + 1) = hgt l i + if b then 1 else -1 := by
 unfold hgt
 rw [List.take_add_one, h, List.count_append]
 cases b <;> simp <;> omega
theorem signs_inj {a b : List Bool} (h : signs a = signs b) : a = b := by
 have e : (signs a).cps.toList = (signs b).cps.toList := by rw [h]
 rw [signs_cps, signs_cps] at e
 have back : ∀ l : List Bool, (l.map fun b => if b then 49 else 48).map (fun c : Nat => c == 49) = l := fun l => by
  rw [List.map_map]
  have : l.map ((fun c : Nat => c == 49) ∘ fun b => if b = true then 49 else 48) = l.map id := List.map_congr_left fun b _ => by cases b <;> rfl
  rw [this, List.map_id]
 rw [← back a, ← back b, e]
theorem drop_at {row : List Bool} {i : Nat} {b : Bool} (h : row[i]? = some b) : row.drop i = b :: row.drop (i + 1) := by
 have hi := at_lt h
 rw [List.drop_eq_getElem_cons hi]
 rw [List.getElem?_eq_getElem hi] at h
 rw [Option.some.inj h]
theorem tl_ok {row : List Bool} (hv : Vs 0 row) : ∀ i, i ≤ row.length → ∃ h : Nat, hgt row i = (h : Int) ∧ Vs h (row.drop i) ∧ True
 | 0, _ => ⟨0, rfl, hv, trivial⟩
 | i + 1, hi => by
  obtain ⟨h, h1, h2, _⟩ := tl_ok hv i (by omega)
  obtain ⟨b, hb⟩ : ∃ b, row[i]? = some b := ⟨row[i], List.getElem?_eq_getElem (by omega)⟩
  have hs := hgt_succ hb
  rw [drop_at hb] at h2
  cases b with
  | false =>
   obtain ⟨g, rfl⟩ : ∃ g, h = g + 1 := ⟨h - 1, by have := h2.1; omega⟩
   have hs : hgt row (i + 1) = hgt row i + -1 := hs
   exact ⟨g, by omega, h2.2, trivial⟩
  | true =>
   have hs : hgt row (i + 1) = hgt row i + 1 := hs
   exact ⟨h + 1, by omega, h2, trivial⟩
def dueF : List Nat → Nat → Int → Option Nat
 | [], k, h => if h > 0 then some k else none
 | c :: r, k, h => if isBad c = true then some k else if h + (if c = 49 then 1 else -1) < 0 then some k else dueF r (k + 1) (h + (if c = 49 then 1 else -1))
def due (cs : List Nat) : Option Nat := dueF cs 0 0
def dueV : V → Option Nat
 | .str z => due z.cps.toList
 | _ => some 0
theorem bad_iff {c : Nat} : isBad c = false ↔ c = 48 ∨ c = 49 := by
 unfold isBad
 simp
 omega
theorem dueF_one (r : List Nat) (k : Nat) (h : Int) : dueF (49 :: r) k h = if h + 1 < 0 then some k else dueF r (k + 1) (h + 1) := rfl
theorem dueF_nul (r : List Nat) (k : Nat) (h : Int) : dueF (48 :: r) k h = if h + -1 < 0 then some k else dueF r (k + 1) (h + -1) := rfl
theorem dueF_bad {c : Nat} (r : List Nat) (k : Nat) (h : Int) (e : isBad c = true) : dueF (c :: r) k h = some k := by
 unfold dueF
 rw [if_pos e]
theorem due_none : ∀ (cs : List Nat) (k : Nat) (h : Nat), dueF cs k h = none → ∃ l : List Bool, cs = (l.map fun b => if b then 49 else 48) ∧ Vs h l
 | [], k, h, e => by
  unfold dueF at e
  split at e
  ·cases e
  ·exact ⟨[], rfl, by show h = 0; omega⟩
 | c :: r, k, h, e => by
  cases hb : isBad c with
  | true => rw [dueF_bad r k h hb] at e; cases e
  | false =>
   rcases bad_iff.mp hb with rfl | rfl
   ·rw [dueF_nul] at e
    by_cases hlt : (h : Int) + -1 < 0
    ·rw [if_pos hlt] at e; cases e
    ·rw [if_neg hlt] at e
     obtain ⟨g, rfl⟩ : ∃ g, h = g + 1 := ⟨h - 1, by omega⟩
     rw [show (((g + 1 : Nat) : Int) + -1) = (g : Int) by omega] at e
     obtain ⟨l, rfl, hv⟩ := due_none r _ g e
     exact ⟨false :: l, rfl, by omega, hv⟩
   ·rw [dueF_one, if_neg (by omega), show ((h : Int) + 1) = ((h + 1 : Nat) : Int) by omega] at e
    obtain ⟨l, rfl, hv⟩ := due_none r _ _ e
    exact ⟨true :: l, rfl, hv⟩
theorem due_vs : ∀ (l : List Bool) (k h : Nat), Vs h l → dueF (l.map fun b => if b then 49 else 48) k h = none
 | [], k, h, v => by
  have v : h = 0 := v
  subst v
  rfl
 | false :: l, k, h, v => by
  obtain ⟨g, rfl⟩ : ∃ g, h = g + 1 := ⟨h - 1, by have := v.1; omega⟩
  have ih := due_vs l (k + 1) g v.2
  show dueF (48 :: _) _ _ = _
  rw [dueF_nul, if_neg (by omega), show (((g + 1 : Nat) : Int) + -1) = (g : Int) by omega]
  exact ih
 | true :: l, k, h, v => by
  have ih := due_vs l (k + 1) (h + 1) v
  show dueF (49 :: _) _ _ = _
  rw [dueF_one, if_neg (by omega), show ((h : Int) + 1) = ((h + 1 : Nat) : Int) by omega]
  exact ih
def eDue (v : V) : Option Nat := match dueV v with
 | some d => some d
 | none => match v with
  | .str z => if z.length > 8000 then some 8000 else none
  | _ => none
theorem cps_len (z : Str) : z.cps.toList.length = z.length := Array.length_toList
theorem cps_drop {z : Str} {i c : Nat} (h : z.cps[i]? = some c) : z.cps.toList.drop i = c :: z.cps.toList.drop (i + 1) := by
 rw [← Array.getElem?_toList] at h
 have hi := at_lt h
 rw [List.drop_eq_getElem_cons hi]
 rw [List.getElem?_eq_getElem hi] at h
 rw [Option.some.inj h]
theorem sgn_one {c : Nat} (h : V.str (sgn c) = V.str ("1" : Str)) : c = 49 := by
 have e := congrArg (fun z : Str => z.cps.toList) (V.str.inj h)
 exact (List.cons.inj (show [c] = [49] from e)).1
theorem sgn_one' {c : Nat} (h : ¬ V.str (sgn c) = V.str ("1" : Str)) : ¬ c = 49 := fun e => h (by rw [e]; rfl)
structure Wa (K : PySem.W.Frag) (C : Addr) : Prop where
 cl : Cls K C
 n_length : NoAttr K C "length"
 n_many_ones : NoAttr K C "many_ones"
 n_kept_words : NoAttr K C "kept_words"
structure Wm (K : PySem.W.Frag) (C : Addr) : Prop where
 cl : Cls K C
 n_length : NoAttr K C "length"
 n_kept_words : NoAttr K C "kept_words"
 n_kept_table : NoAttr K C "kept_table"
structure Qj (K : PySem.W.Frag) (C : Addr) : Prop where
 cl : Cls K C
 n_bits : NoAttr K C "bits"
 n_counts : NoAttr K C "counts"
 n_length : NoAttr K C "length"
 n_kept_table : NoAttr K C "kept_table"
 n_often_least : NoAttr K C "often_least"
structure Txt (K : PySem.W.Frag) (mg : Str → Option Value) (Qc : Addr) (Qb : Addr) (Qd : Addr) (Qi : Addr) (Qe : Addr) (Qg : Addr) : Prop where
 g_WoodError : mg "WoodError" = some (.ref Qd)
 g_NoBits : mg "NoBits" = some (.ref Qi)
 g_NoPlace : mg "NoPlace" = some (.ref Qe)
 g_NoRow : mg "NoRow" = some (.ref Qg)
 ex_WoodError : PySem.W.excIn K Qd veMro "ValueError.__new__" = true
 bg_WoodError : PySem.W.specialIn K (.ref Qd) "__getattribute__" = some (some (.builtin "type.__getattribute__"))
 br_WoodError : PySem.W.readsIn K Qd (.type "type") = true
 bi_WoodError : PySem.W.findCls K (.ref Qd) (.type "type") "__init__" = some (.val (.builtin "ValueError.__init__"))
 ex_NoBits : PySem.W.excIn K Qi veMro "ValueError.__new__" = true
 ga_NoBits : PySem.W.findIn K (.ref Qi) "__getattribute__" = some (some (.builtin "BaseException.__getattribute__"))
 gx_NoBits : PySem.W.findIn K (.ref Qi) "__getattr__" = some none
 ca_NoBits : PySem.W.findIn K (.ref Qi) "__class__" = some (some (.builtin "object.__class__"))
 sp_NoBits : PySem.W.specialIn K (.builtin "object.__class__") "__get__" = some (some (.builtin "getset_descriptor.__get__"))
 tk_NoBits : PySem.W.takesIn K (.builtin "object.__class__") = some true
 mo_NoBits : PySem.W.mroIn K Qi (.type "object") = some true
 mb_NoBits : PySem.W.mroIn K Qi (.type "BaseException") = some true
 em_NoBits : PySem.W.exmOne K (.ref Qi) (.ref Qd) = some true
 ex_NoPlace : PySem.W.excIn K Qe veMro "ValueError.__new__" = true
 ga_NoPlace : PySem.W.findIn K (.ref Qe) "__getattribute__" = some (some (.builtin "BaseException.__getattribute__"))
 gx_NoPlace : PySem.W.findIn K (.ref Qe) "__getattr__" = some none
 ca_NoPlace : PySem.W.findIn K (.ref Qe) "__class__" = some (some (.builtin "object.__class__"))
 sp_NoPlace : PySem.W.specialIn K (.builtin "object.__class__") "__get__" = some (some (.builtin "getset_descriptor.__get__"))
 tk_NoPlace : PySem.W.takesIn K (.builtin "object.__class__") = some true
 mo_NoPlace : PySem.W.mroIn K Qe (.type "object") = some true
 mb_NoPlace : PySem.W.mroIn K Qe (.type "BaseException") = some true
 em_NoPlace : PySem.W.exmOne K (.ref Qe) (.ref Qd) = some true
 sa_NoRow : PySem.W.findIn K (.ref Qg) "__setattr__" = some (some (.builtin "object.__setattr__"))
 pl_NoRow : PySem.W.findIn K (.ref Qg) "place" = some none
 ga_NoRow : PySem.W.findIn K (.ref Qg) "__getattribute__" = some (some (.builtin "BaseException.__getattribute__"))
 gx_NoRow : PySem.W.findIn K (.ref Qg) "__getattr__" = some none
 ca_NoRow : PySem.W.findIn K (.ref Qg) "__class__" = some (some (.builtin "object.__class__"))
 sp_NoRow : PySem.W.specialIn K (.builtin "object.__class__") "__get__" = some (some (.builtin "getset_descriptor.__get__"))
 tk_NoRow : PySem.W.takesIn K (.builtin "object.__class__") = some true
 mo_NoRow : PySem.W.mroIn K Qg (.type "object") = some true
 mb_NoRow : PySem.W.mroIn K Qg (.type "BaseException") = some true
 em_NoRow : PySem.W.exmOne K (.ref Qg) (.ref Qd) = some true
 em2_NoRow : PySem.W.exmOne K (.ref Qg) (.ref Qg) = some true
 g_ONES_OF_FOUR : mg "ONES_OF_FOUR" = some (.ref Qc)
 q_ONES_OF_FOUR : ∀ H, SqT K H Qc (fours.map fun n : Nat => V.int n)
 g_SIGNS_OF_FOUR : mg "SIGNS_OF_FOUR" = some (.ref Qb)
 q_SIGNS_OF_FOUR : ∀ H, SqT K H Qb (fourT)
 g_WORD_BITS : ∃ t, mg "WORD_BITS" = some (.int 32 t)
 g_MOST_BITS : ∃ t, mg "MOST_BITS" = some (.int 20000 t)
 g_BLOCK_WORDS : ∃ t, mg "BLOCK_WORDS" = some (.int 8 t)
 g_MOST_SIGNS : ∃ t, mg "MOST_SIGNS" = some (.int 8192 t)
 g_STRETCH_BITS : ∃ t, mg "STRETCH_BITS" = some (.int 256 t)
 n_range : mg "range" = none
 n_len : mg "len" = none
 n_int : mg "int" = none
 n_bool : mg "bool" = none
 n_str : mg "str" = none
 n_isinstance : mg "isinstance" = none
 n_list : mg "list" = none
 n_tuple : mg "tuple" = none
 n_enumerate : mg "enumerate" = none
 n_zip : mg "zip" = none
 n_sum : mg "sum" = none
 n_abs : mg "abs" = none
 n_max : mg "max" = none
 n_min : mg "min" = none
 n_dict : mg "dict" = none
 n_reversed : mg "reversed" = none
 n_ValueError : mg "ValueError" = none
 ow_NoRow : ∃ f, OwnX K Qd Qg f
theorem Txt.bw {K : PySem.W.Frag} {mg : Str → Option Value} {Qc : Addr} {Qb : Addr} {Qd : Addr} {Qi : Addr} {Qe : Addr} {Qg : Addr} (T : Txt K mg Qc Qb Qd Qi Qe Qg) : BaseX K mg "WoodError" Qd := ⟨T.g_WoodError, T.bg_WoodError, T.br_WoodError, T.bi_WoodError⟩
theorem Txt.x_NoBits {K : PySem.W.Frag} {mg : Str → Option Value} {Qc : Addr} {Qb : Addr} {Qd : Addr} {Qi : Addr} {Qe : Addr} {Qg : Addr} (T : Txt K mg Qc Qb Qd Qi Qe Qg) : Exc K mg "NoBits" Qi := ⟨T.g_NoBits, T.ex_NoBits⟩
theorem Txt.x_NoPlace {K : PySem.W.Frag} {mg : Str → Option Value} {Qc : Addr} {Qb : Addr} {Qd : Addr} {Qi : Addr} {Qe : Addr} {Qg : Addr} (T : Txt K mg Qc Qb Qd Qi Qe Qg) : Exc K mg "NoPlace" Qe := ⟨T.g_NoPlace, T.ex_NoPlace⟩
theorem Txt.k_NoRow {K : PySem.W.Frag} {mg : Str → Option Value} {Qc : Addr} {Qb : Addr} {Qd : Addr} {Qi : Addr} {Qe : Addr} {Qg : Addr} (T : Txt K mg Qc Qb Qd Qi Qe Qg) : ExcK K Qg := ⟨T.ga_NoRow, T.gx_NoRow, T.ca_NoRow, T.sp_NoRow, T.tk_NoRow, T.mo_NoRow, T.mb_NoRow⟩
section
variable {P : Program} {w : World} {K : PySem.W.Frag} {mg : Str → Option Value} {base : Heap} {Qc Qb : Addr} {Qh Qf Qa Qd Qi Qe Qg : Addr}
theorem J3 {f : Addr} {fd : FuncData} (F : Fun K "__init__" "NoRow.__init__" Wo f fd) (T : Txt K mg Qc Qb Qd Qi Qe Qg) : FnOk P w K mg base CX0 1 f fd ["self", "place"] (spInit Qg) := by
  refine F.ok J6 (fun vs H Q E h => ?_) (fun cdv A outer s H vs Q E hr h => ?_)
  · obtain ⟨e, i, rfl, _⟩ := h
    rfl
  · obtain ⟨e, i, rfl, he, hi, q⟩ := h
    obtain ⟨fo, O⟩ := T.ow_NoRow
    refine ⟨_, (pss_cons (ps_expr (pe_binit T.bw rfl (pa_d (pv 0) (pa_d (pe_fstr (by decide) (pv 1)) pa_nil rfl) rfl)))
      (pss_one (ps_place (pv 0) (pv 1)))), ?_⟩
    k_is
    refine ⟨hi, fun z => ?_⟩
    k_is
    refine ⟨e, Qg, fo, none, z, rfl, he, O, ?_⟩
    k_is
    refine ⟨e, _, Qg, fo, rfl, he, O, T.k_NoRow, fun dx hd => ?_⟩
    k_is
    exact q dx hd
def spWhole0 (K : PySem.W.Frag) : Sp := fun vs H Q _ => ∃ x, vs = [x] ∧ Any K H x ∧ Q (.bl (isI x)) H
theorem ok_is_whole {f : Addr} {fd : FuncData} (F : Fun K "is_whole" "is_whole" s_is_whole f fd) (T : Txt K mg Qc Qb Qd Qi Qe Qg) : FnOk P w K mg base CX0 1 f fd ["thing"] (spWhole0 K) := by
 refine F.ok sc_is_whole (fun vs H Q E h => ?_) (fun cdv A outer s H vs Q E hr h => ?_)
 ·obtain ⟨x, rfl, _⟩ := h
  rfl
 ·obtain ⟨x, rfl, ⟨t, b1, b2, ty, k1, k2, e⟩, q⟩ := h
  refine ⟨_, (pss_one (ps_ret (pe_and (pe_callB call_isinst (by rfl) T.n_isinstance b_isinstance (pa_d (pv 0) (pa_d (pe_bltn (v := .ty "int") rfl T.n_int b_int rfl) pa_nil rfl) rfl)) (pe_one (pe_not (pe_callB call_isinst (by rfl) T.n_isinstance b_isinstance (pa_d (pv 0) (pa_d (pe_bltn (v := .ty "bool") rfl T.n_bool b_bool rfl) pa_nil rfl) rfl))))))), ?_⟩
  k_is
  refine ⟨_, _, _, _, rfl, ty, k1, ?_⟩
  rw [← e] at q
  cases b1 with
  | false =>
   k_is
   exact q
  | true =>
   k_is
   refine ⟨_, _, _, _, rfl, ty, k2, ?_⟩
   k_is
   exact q
def spWithin (K : PySem.W.Frag) : Sp := fun vs H Q _ => ∃ x lo hi, vs = [x, .int lo, .int hi] ∧ Any K H x ∧ Q (.bl (inI x lo hi)) H
theorem ok_is_within {f : Addr} {fd : FuncData} (F : Fun K "is_within" "is_within" s_is_within f fd) (T : Txt K mg Qc Qb Qd Qi Qe Qg) (c_is_whole : Cal P w K mg base "is_whole" 1 ["thing"] (spWhole0 K)) : FnOk P w K mg base CX0 2 f fd ["thing", "low", "high"] (spWithin K) := by
 refine F.ok sc_is_within (fun vs H Q E h => ?_) (fun cdv A outer s H vs Q E hr h => ?_)
 ·obtain ⟨x, lo, hi, rfl, _⟩ := h
  rfl
 ·obtain ⟨x, lo, hi, rfl, ha, q⟩ := h
  refine ⟨_, (pss_one (ps_ret (pe_and (pe_fn c_is_whole (hr.mono (by decide : 1 ≤ _)) (pa_d (pv 0) pa_nil rfl)) (pe_one (pe_chain op_le op_le (pv 1) (pv 0) (pv 2)))))), ?_⟩
  k_is
  refine ⟨x, rfl, ha, ?_⟩
  cases hx : isI x with
  | false =>
   k_is
   have : inI x lo hi = false := by cases x <;> first | rfl | cases hx
   rw [this] at q
   exact q
  | true =>
   obtain ⟨i, rfl⟩ := isI_of hx
   k_is
   have e : inI (.int i) lo hi = (decide (lo ≤ i) && decide (i ≤ hi)) := rfl
   rw [e] at q
   refine iteP (fun h1 => ?_) (fun h1 => ?_)
   ·k_is
    rw [decide_eq_true h1] at q
    exact q
   ·k_is
    rw [decide_eq_false h1] at q
    exact q
def spCheckBit (K : PySem.W.Frag) (CB : Addr) : Sp := fun vs H Q E => ∃ x, vs = [x] ∧ Any K H x ∧ (inI x 0 1 = true → Q .non H) ∧ (inI x 0 1 = false → E (.ref CB) none H)
theorem ok_check_bit {f : Addr} {fd : FuncData} (F : Fun K "check_bit" "check_bit" s_check_bit f fd) (T : Txt K mg Qc Qb Qd Qi Qe Qg) (c_is_within : Cal P w K mg base "is_within" 2 ["thing", "low", "high"] (spWithin K)) : FnOk P w K mg base (CXE P w) 3 f fd ["bit"] (spCheckBit K Qi) := by
  refine F.okE sc_check_bit (fun vs H Q E h => ?_) (fun cdv A outer s H vs Q E hr h => ?_)
  · obtain ⟨x, rfl, _⟩ := h
    rfl
  · obtain ⟨x, rfl, ha, q1, q2⟩ := h
    refine ⟨_, (pss_one (ps_if (pt_not (pt_val (pe_fn c_is_within (hr.mono (by decide : 2 ≤ _)) (pa_d (pv 0) (pa_d pe_int (pa_d pe_int pa_nil rfl) rfl) rfl)))) (pss_one (ps_raise T.x_NoBits rfl (pa_d pe_str pa_nil rfl)))
      pss_nil)), ?_⟩
    k_is
    refine ⟨x, 0, 1, rfl, ha, ?_⟩
    k_is
    cases hx : inI x 0 1 with
    | true =>
      k_is
      exact q1 hx
    | false =>
      k_is
      exact ⟨by decide, q2 hx⟩
def spCheckPlace (K : PySem.W.Frag) (CP : Addr) : Sp := fun vs H Q E => ∃ x g, vs = [x, .int g] ∧ Any K H x ∧ (inI x 0 g = true → Q .non H) ∧ (inI x 0 g = false → E (.ref CP) none H)
theorem ok_check_place {f : Addr} {fd : FuncData} (F : Fun K "check_place" "check_place" s_check_place f fd) (T : Txt K mg Qc Qb Qd Qi Qe Qg) (c_is_within : Cal P w K mg base "is_within" 2 ["thing", "low", "high"] (spWithin K)) : FnOk P w K mg base (CXE P w) 3 f fd ["place", "greatest"] (spCheckPlace K Qe) := by
  refine F.okE sc_check_place (fun vs H Q E h => ?_) (fun cdv A outer s H vs Q E hr h => ?_)
  · obtain ⟨x, g, rfl, _⟩ := h
    rfl
  · obtain ⟨x, g, rfl, ha, q1, q2⟩ := h
    refine ⟨_, (pss_one (ps_if (pt_not (pt_val (pe_fn c_is_within (hr.mono (by decide : 2 ≤ _)) (pa_d (pv 0) (pa_d pe_int (pa_d (pv 1) pa_nil rfl) rfl) rfl)))) (pss_one (ps_raise T.x_NoPlace rfl (pa_d pe_str pa_nil rfl)))
      pss_nil)), ?_⟩
    k_is
    refine ⟨x, 0, g, rfl, ha, ?_⟩
    k_is
    cases hx : inI x 0 g with
    | true =>
      k_is
      exact q1 hx
    | false =>
      k_is
      exact ⟨by decide, q2 hx⟩
def spCheckStretch (K : PySem.W.Frag) (CP : Addr) : Sp := fun vs H Q E => ∃ x y g, vs = [x, y, .int g] ∧ Any K H x ∧ Any K H y ∧ (strOk x y g = true → Q .non H) ∧ (strOk x y g = false → E (.ref CP) none H)
theorem ok_check_stretch {f : Addr} {fd : FuncData} (F : Fun K "check_stretch" "check_stretch" s_check_stretch f fd) (T : Txt K mg Qc Qb Qd Qi Qe Qg) (c_check_place : CalE P w K mg base "check_place" 3 ["place", "greatest"] (spCheckPlace K Qe)) : FnOk P w K mg base (CXE P w) 4 f fd ["low", "high", "greatest"] (spCheckStretch K Qe) := by
  refine F.okE sc_check_stretch (fun vs H Q E h => ?_) (fun cdv A outer s H vs Q E hr h => ?_)
  · obtain ⟨x, y, g, rfl, _⟩ := h
    rfl
  · obtain ⟨x, y, g, rfl, ha, hb, q1, q2⟩ := h
    refine ⟨_, (pss_cons (ps_expr (pe_fnE c_check_place (hr.mono (by decide : 3 ≤ _)) (pass_on rfl) (pa_d (pv 0) (pa_d (pv 2) pa_nil rfl) rfl)))
      (pss_cons (ps_expr (pe_fnE c_check_place (hr.mono (by decide : 3 ≤ _)) (pass_on rfl) (pa_d (pv 1) (pa_d (pv 2) pa_nil rfl) rfl)))
      (pss_one (ps_if (pt_cmpR op_gt (pv 0) (pv 1) (nomark _)) (pss_one (ps_raise T.x_NoPlace rfl (pa_d pe_str pa_nil rfl)))
      pss_nil)))), ?_⟩
    k_is
    refine ⟨x, g, rfl, ha, fun hx => ?_, fun hx => q2 (by unfold strOk; rw [hx]; rfl)⟩
    k_is
    refine ⟨y, g, rfl, hb, fun hy => ?_, fun hy => q2 (by unfold strOk; rw [hy, Bool.and_false]; rfl)⟩
    obtain ⟨i, rfl, i0, i1⟩ := inI_of hx
    obtain ⟨j, rfl, j0, j1⟩ := inI_of hy
    k_is
    have e : strOk (.int i) (.int j) g = decide (i ≤ j) := by
      unfold strOk
      rw [hx, hy]
      rfl
    rw [e] at q1 q2
    refine iteP (fun h1 => ?_) (fun h1 => ?_)
    · k_is
      exact ⟨by decide, q2 (decide_eq_false (by omega))⟩
    · k_is
      exact q1 (decide_eq_true (by omega))
def spOnes : Sp := fun vs H Q _ => ∃ n : Nat, vs = [.int n] ∧ Q (.int (pc n)) H
theorem ok_ones_in {f : Addr} {fd : FuncData} (F : Fun K "ones_in" "ones_in" s_ones_in f fd) (T : Txt K mg Qc Qb Qd Qi Qe Qg) : FnOk P w K mg base CX0 1 f fd ["word"] spOnes := by
 refine F.ok sc_ones_in (fun vs H Q E h => ?_) (fun cdv A outer s H vs Q E hr h => ?_)
 ·obtain ⟨n, rfl, _⟩ := h
  rfl
 ·obtain ⟨n, rfl, q⟩ := h
  refine ⟨_, (pss_cons (ps_set (i := 1) sc_ones_in.nd rfl (Or.inl rfl) pe_int)
   (pss_cons (ps_while PassesOwn.never (pt_cmpR op_gt (pv 0) pe_int (nomark _))
   (pss_cons (ps_aug (i := 1) sc_ones_in.nd rfl (Or.inl rfl) (pe_ix ix_tup (pe_glob (v := .ref _) rfl T.g_ONES_OF_FOUR rfl) (pe_op op_and (pv 0) pe_int) (fun _ _ => rfl)) ip_add)
   (pss_one (ps_aug (i := 0) sc_ones_in.nd rfl (Or.inl rfl) pe_int iop_shr))))
   (pss_one (ps_ret (pv 1))))), ?_⟩
  k_is
  refine while_rd (fun σ H' => ∃ m o : Nat, σ = [some (.int m), some (.int o)] ∧ pc n = o + pc m ∧ H' = H) (fun σ _ => match σ with | some (.int m) :: _ => m.toNat | _ => 0) ⟨n, 0, rfl, by simp, rfl⟩ ?_
  rintro k σ H' ⟨m, o, rfl, e, rfl⟩ hk
  k_is
  refine iteP (fun hm => ?_) (fun hm => ?_)
  ·refine r_turn ?_
   k_is
   refine r_ixT (T.q_ONES_OF_FOUR _) (v := .int (pc (m % 16))) ?_ ?_
   ·rw [and15]
    exact four_at _ (Nat.mod_lt _ (by decide))
   ·k_is
    refine ⟨⟨m / 16, o + pc (m % 16), ?_, ?_, rfl⟩, ?_⟩
    ·show [some (V.int ((m : Int) / 2 ^ (4 : Int).toNat)), some (V.int ((o : Int) + (pc (m % 16) : Int)))] = _
     rw [shr4]
     rfl
    ·rw [e, pc16 m]
     omega
    ·show ((m : Int) / 2 ^ (4 : Int).toNat).toNat < k
     rw [shr4, ← hk]
     show m / 16 < m
     omega
  ·k_is
   have : m = 0 := by omega
   subst this
   rw [pc_zero] at e
   show Q (.int (o : Int)) H'
   rw [show o = pc n by omega]
   exact q
def rowS (z : Str) : Bool := if z.length > 20000 then false else decide (cntS z 48 + cntS z 49 = z.length)
def spIsRow : Sp := fun vs H Q _ => ∃ z : Str, vs = [.str z] ∧ z.length ≤ sizeLine ∧ Q (.bl (rowS z)) H
theorem ok_is_row {f : Addr} {fd : FuncData} (F : Fun K "is_row" "is_row" s_is_row f fd) (T : Txt K mg Qc Qb Qd Qi Qe Qg) : FnOk P w K mg base CX0 1 f fd ["thing"] spIsRow := by
  refine F.ok sc_is_row (fun vs H Q E h => ?_) (fun cdv A outer s H vs Q E hr h => ?_)
  · obtain ⟨z, rfl, _⟩ := h
    rfl
  · obtain ⟨z, rfl, hz, q⟩ := h
    refine ⟨_, (pss_cons (ps_if (PW.pt (pw_or (pt_not (pt_val (pe_callB call_isinst (by rfl) T.n_isinstance b_isinstance (pa_d (pv 0) (pa_d (pe_bltn (v := .ty "str") rfl T.n_str b_str rfl) pa_nil rfl) rfl)))) (pw_or1 (pt_cmpR op_gt (pe_callB call_len_str (by rfl) T.n_len b_len (pa_d (pv 0) pa_nil rfl)) (pe_globI rfl T.g_MOST_BITS) (nomark _))))) (pss_one (ps_ret pe_bl))
      pss_nil)
      (pss_one (ps_ret (pe_cmpR op_eq (pe_op op_add (pe_bm PySem.F.plainAttrs_str PySem.F.slot_str_count PySem.F.type_str_count mt_count (pv 0) (pa_d pe_str pa_nil rfl)) (pe_bm PySem.F.plainAttrs_str PySem.F.slot_str_count PySem.F.type_str_count mt_count (pv 0) (pa_d pe_str pa_nil rfl))) (pe_callB call_len_str (by rfl) T.n_len b_len (pa_d (pv 0) pa_nil rfl)) (nomark _))))), ?_⟩
    k_is
    refine ⟨_, _, _, _, rfl, .str _, kit_str_str, ?_⟩
    k_is
    refine ⟨z, rfl, hz, ?_⟩
    k_is
    unfold rowS at q
    refine iteP (fun hb => ?_) (fun hb => ?_)
    · k_is
      rw [if_pos (by omega)] at q
      exact q
    · k_is
      rw [if_neg (by omega)] at q
      refine ⟨rfl, ?_⟩
      k_is
      refine ⟨z, 48, rfl, rfl, ?_⟩
      k_is
      refine ⟨rfl, ?_⟩
      k_is
      refine ⟨z, 49, rfl, rfl, ?_⟩
      k_is
      refine ⟨z, rfl, hz, ?_⟩
      k_is
      have e : decide (V.int ((cntS z 48 : Int) + (cntS z 49 : Int)) = V.int (z.length : Int)) = decide (cntS z 48 + cntS z 49 = z.length) := by
        refine decide_eq_decide.mpr ⟨fun h => ?_, fun h => ?_⟩
        · have := V.int.inj h
          omega
        · rw [← h]
          congr 1
      rw [e]
      exact q
def spWord : Sp := fun vs H Q _ => ∃ l : List Bool, vs = [.str (signs l)] ∧ 0 < l.length ∧ l.length ≤ 32 ∧ Q (.int (val l : Nat)) H
theorem ok_word_of {f : Addr} {fd : FuncData} (F : Fun K "word_of" "word_of" s_word_of f fd) (T : Txt K mg Qc Qb Qd Qi Qe Qg) : FnOk P w K mg base CX0 1 f fd ["signs"] spWord := by
 refine F.ok sc_word_of (fun vs H Q E h => ?_) (fun cdv A outer s H vs Q E hr h => ?_)
 ·obtain ⟨l, rfl, _⟩ := h
  rfl
 ·obtain ⟨l, rfl, h0, h1, q⟩ := h
  refine ⟨_, (pss_one (ps_ret (pe_callTy call_int_base (by rfl) T.n_int b_int (pa_d (pe_srev (pv 0)) (pa_d pe_int pa_nil rfl) rfl)))), ?_⟩
  k_is
  refine ⟨_, rfl, ?_, ?_⟩
  ·rw [signs_len]
   exact Nat.le_of_lt (small1000 (by omega))
  k_is
  refine ⟨_, rfl, ?_, ?_, ?_, ?_⟩
  ·rw [revS_length, signs_len]
   omega
  ·intro c hc
   have : c ∈ (signs l).cps.toList := by
    have h : c ∈ (signs l).cps.toList.reverse.toArray.toList := hc
    simpa using h
   exact signs_bits l c this
  ·intro z
   have e : (revS (signs l)).cps.toList.length = 0 := by rw [z]; rfl
   have e2 : (revS (signs l)).cps.toList.length = (revS (signs l)).length := by simp [Str.length]
   rw [e2, revS_length, signs_len] at e
   omega
  ·rw [rev_v2]
   exact q
def spWords (K : PySem.W.Frag) : Sp := fun vs H Q _ => ∃ l : List Bool, vs = [.str (signs l)] ∧ l.length ≤ 20000 ∧ ∀ p H', Same H H' → H p = none → H' p = some (.tup (nV (wordsOf l))) → Q (.ref p) H'
theorem ok_words_of {f : Addr} {fd : FuncData} (F : Fun K "words_of" "words_of" s_words_of f fd) (T : Txt K mg Qc Qb Qd Qi Qe Qg) (c_word_of : Cal P w K mg base "word_of" 1 ["signs"] spWord) : FnOk P w K mg base CX0 2 f fd ["text"] (spWords K) := by
 refine F.ok sc_words_of (fun vs H Q E h => ?_) (fun cdv A outer s H vs Q E hr h => ?_)
 ·obtain ⟨l, rfl, _⟩ := h
  rfl
 ·obtain ⟨l, rfl, hl, q⟩ := h
  have hz : (signs l).length ≤ sizeLine := by rw [signs_len]; exact Nat.le_of_lt (small20000 (by omega))
  refine ⟨_, (pss_one (ps_ret (pe_callTy call_tuple_of (by rfl) T.n_tuple b_tuple (pa_d (pe_lc rfl lc_words_of_0 (pi_range3 rfl T.n_range (pa_d pe_int (pa_d (pe_callB call_len_str (by rfl) T.n_len b_len (pa_d (pv 0) pa_nil rfl)) (pa_d (pe_globI rfl T.g_WORD_BITS) pa_nil rfl) rfl) rfl)) (fun _ _ _ _ => pif_nil) (fun _ _ _ _ => (pe_fn c_word_of (hr.mono (by decide : 1 ≤ _)) (pa_d (pe_slice sl_str (pv 1) (po_some (pv 0)) (po_some (pe_op op_add (pv 0) (pe_globI rfl T.g_WORD_BITS)))) pa_nil rfl)))) pa_nil rfl)))), ?_⟩
  k_is
  refine ⟨_, rfl, hz, ?_⟩
  rw [signs_len]
  k_is
  refine ⟨0, l.length, 32, rfl, by omega, ?_⟩
  have hn : stepsN 0 (l.length : Int) 32 = manyW l.length := stepsN_nat l.length 32 (by decide)
  rw [hn]
  refine lc_steps (fun i => nV ((List.range i).map fun j => val (wordAt l j))) rfl (fun i hi => ?_) (fun i H1 R A hi sm kR kA => ?_) (fun D H1 hD sm hl' => ?_)
  ·have := manyW_lt hi
   rw [List.length_map, List.length_map, List.length_range]
   exact small20000 (by omega)
  ·k_is
   refine r_slS hz ?_
   have hi' := manyW_lt hi
   rw [show (0 + (i : Int) * 32) = ((32 * i : Nat) : Int) by omega, show (((32 * i : Nat) : Int) + 32) = ((32 * i + 32 : Nat) : Int) by omega, cut_signs]
   k_is
   refine ⟨wordAt l i, ?_, ?_, ?_, ?_⟩
   ·unfold wordAt
    rw [show 32 * i + 32 - 32 * i = 32 by omega]
    rfl
   ·unfold wordAt
    rw [List.length_take, List.length_drop]
    omega
   ·unfold wordAt
    rw [List.length_take]
    omega
   ·refine kA _ _ ?_ (Same.refl _)
    exact nV_range _ _
  ·k_is
   refine ⟨D, _, rfl, .inl ⟨SqL.of hl', fun p hp => ?_⟩⟩
   exact q p _ (sm.trans (same_upd hp)) (sm.free hp) upd_same
theorem fourT_at : ∀ r : Nat, r < 16 → fourT[r]? = some (.str (signs (four r))) := by
 intro r hr
 have : r = 0 ∨ r = 1 ∨ r = 2 ∨ r = 3 ∨ r = 4 ∨ r = 5 ∨ r = 6 ∨ r = 7 ∨ r = 8 ∨ r = 9 ∨ r = 10 ∨ r = 11 ∨ r = 12 ∨ r = 13 ∨ r = 14 ∨ r = 15 := by omega
 rcases this with rfl | rfl | rfl | rfl | rfl | rfl | rfl | rfl | rfl | rfl | rfl | rfl | rfl | rfl | rfl | rfl <;> rfl
theorem flat_cps (ls : List (List Bool)) : Txt.join ("" : Str) (ls.map signs) = signs ls.flatten := by
 refine ext_cps ?_
 rw [join_empty, signs_cps]
 induction ls with
 | nil => rfl
 | cons a r ih =>
  rw [List.map_cons, List.map_cons, List.flatten_cons, ih, List.flatten_cons, List.map_append, signs_cps]
theorem flat_len (ls : List (List Bool)) : ((ls.map signs).map (·.length)).sum = ls.flatten.length := by
 induction ls with
 | nil => rfl
 | cons a r ih => rw [List.map_cons, List.map_cons, List.sum_cons, ih, List.flatten_cons, List.length_append, signs_len]
theorem rd_joinL {K : PySem.W.Frag} {H1 : Hp} {Q : VK} {p : Addr} {ls : List (List Bool)} (hl : H1 p = some (.lst (ls.map fun l => V.str (signs l)))) (hz : ls.flatten.length ≤ 100000) (q : Q (.str (signs ls.flatten)) H1) : rJoin K (.str "") [.ref p] H1 Q := by
 refine ⟨"", p, ls.map signs, rfl, rfl, SqL.of ?_, ?_, ?_⟩
 ·rw [hl, List.map_map]
  rfl
 ·rw [flat_len]
  show ls.flatten.length + _ * 0 ≤ _
  omega
 ·rw [flat_cps]
  exact q
theorem shr_nat (n k : Nat) {j : Int} (h : j = (k : Int)) : (n : Int) / 2 ^ j.toNat = ((n / 2 ^ k : Nat) : Int) := by
 subst h
 rw [Int.toNat_natCast]
 exact (Int.natCast_ediv n (2 ^ k)).symm
def spSignsOf (K : PySem.W.Frag) : Sp := fun vs H Q _ => ∃ n : Nat, vs = [.int n] ∧ ∀ H', Same H H' → Q (.str (signs (bit32 n))) H'
theorem ok_signs_of {f : Addr} {fd : FuncData} (F : Fun K "signs_of" "signs_of" s_signs_of f fd) (T : Txt K mg Qc Qb Qd Qi Qe Qg) : FnOk P w K mg base CX0 1 f fd ["word"] (spSignsOf K) := by
 refine F.ok sc_signs_of (fun vs H Q E h => ?_) (fun cdv A outer s H vs Q E hr h => ?_)
 ·obtain ⟨n, rfl, _⟩ := h
  rfl
 ·obtain ⟨n, rfl, q⟩ := h
  refine ⟨_, (pss_one (ps_ret (pe_bm PySem.F.plainAttrs_str PySem.F.slot_str_join PySem.F.type_str_join mt_join pe_str (pa_d (pe_lc rfl lc_signs_of_0 (pi_range3 rfl T.n_range (pa_d pe_int (pa_d (pe_globI rfl T.g_WORD_BITS) (pa_d pe_int pa_nil rfl) rfl) rfl)) (fun _ _ _ _ => pif_nil) (fun _ _ _ _ => (pe_ix (ix_tupK K) (pe_glob (v := .ref _) rfl T.g_SIGNS_OF_FOUR rfl) (pe_op op_and (pe_op op_shr (pv 1) (pv 0)) pe_int) (fun _ _ => rfl)))) pa_nil rfl)))), ?_⟩
  k_is
  refine ⟨rfl, ?_⟩
  k_is
  refine ⟨0, 32, 4, rfl, by omega, ?_⟩
  refine lc_steps (fun i => ((List.range i).map fun j => four (n / 2 ^ (4 * j) % 16)).map fun l => V.str (signs l)) rfl (fun i hi => ?_) (fun i H1 R A hi sm kR kA => ?_) (fun D H1 hD sm hl => ?_)
  ·have hi : i < 8 := hi
   rw [List.length_map, List.length_map, List.length_range]
   exact small1000 (by omega)
  ·have hi : i < 8 := hi
   k_is
   refine r_shr (by omega) ?_
   k_is
   rw [shr_nat n (4 * i) (by omega), and15]
   refine r_ixT (T.q_SIGNS_OF_FOUR _) (atI_nat (fourT_at _ (Nat.mod_lt _ (by decide)))) ?_
   refine kA _ _ ?_ (Same.refl _)
   rw [List.range_succ, List.map_append, List.map_append]
   rfl
  ·k_is
   have hl : H1 D = some (.lst (((List.range 8).map fun j => four (n / 2 ^ (4 * j) % 16)).map fun l => V.str (signs l))) := hl
   refine rd_joinL hl ?_ ?_
   ·rw [fours_flat]
    unfold bit32
    rw [List.length_map, List.length_range]
    decide
   ·rw [fours_flat]
    exact q _ sm
def bitsFs (l : List Bool) (t : Addr) : List (Str × V) := [("length", .int (l.length : Nat)), ("many_ones", .int (l.count true : Nat)), ("kept_words", .ref t)]
def IsBits (K : PySem.W.Frag) (C : Addr) (H : Hp) (a : Addr) (l : List Bool) : Prop := ∃ dx t, H a = some (.ins C dx (bitsFs l t)) ∧ H t = some (.tup (nV (wordsOf l))) ∧ l.length ≤ 20000
theorem isBits_but {K : PySem.W.Frag} {C x b : Addr} {H H' : Hp} {l : List Bool} (s : SameBut x H H') (n : NotSq H x) (hne : b ≠ x) (h : IsBits K C H b l) : IsBits K C H' b l := by
 obtain ⟨dx, t, h1, h2, h3⟩ := h
 exact ⟨dx, t, s _ _ hne h1, s _ _ (fun e => by subst e; exact (n _).1 (.inl h2)) h2, h3⟩
theorem IsBits.same {K : PySem.W.Frag} {C b : Addr} {H H' : Hp} {l : List Bool} (s : Same H H') (h : IsBits K C H b l) : IsBits K C H' b l := by
 obtain ⟨dx, t, h1, h2, h3⟩ := h
 exact ⟨dx, t, s _ _ h1, s _ _ h2, h3⟩
def spBitsInit (K : PySem.W.Frag) (C : Addr) : Sp := fun vs H Q _ => ∃ (x dx : Addr) (l : List Bool), vs = [.ref x, .str (signs l)] ∧ H x = some (.ins C dx []) ∧ l.length ≤ 20000 ∧ ∀ H', SameBut x H H' → IsBits K C H' x l → Q .non H'
theorem rowS_signs {l : List Bool} (h : l.length ≤ 20000) : rowS (signs l) = true := by
 unfold rowS
 rw [signs_len, if_neg (by omega)]
 exact decide_eq_true (cnt_signs l).2
theorem J8 {f : Addr} {fd : FuncData} (F : Fun K "__init__" "Bits.__init__" Ws f fd) (T : Txt K mg Qc Qb Qd Qi Qe Qg) (Z : Wa K Qh) (c_is_row : Cal P w K mg base "is_row" 1 ["thing"] spIsRow) (c_words_of : Cal P w K mg base "words_of" 2 ["text"] (spWords K)) :
    FnOk P w K mg base CX0 3 f fd ["self", "text"] (spBitsInit K Qh) := by
  refine F.ok Qaa (fun vs H Q E h => ?_) (fun cdv A outer s H vs Q E hr h => ?_)
  · obtain ⟨x, dx, l, rfl, _⟩ := h
    rfl
  · obtain ⟨x, dx, l, rfl, hx, hl, q⟩ := h
    have hz : (signs l).length ≤ sizeLine := by rw [signs_len]; exact Nat.le_of_lt (small20000 (by omega))
    refine ⟨_, (pss_cons (ps_if (pt_not (pt_val (pe_fn c_is_row (hr.mono (by decide : 1 ≤ _)) (pa_d (pv 1) pa_nil rfl)))) (pss_one ps_never)
      pss_nil)
      (pss_cons (ps_fld (pv 0) (pe_callB call_len_str (by rfl) T.n_len b_len (pa_d (pv 1) pa_nil rfl)) rfl)
      (pss_cons (ps_fld (pv 0) (pe_bm PySem.F.plainAttrs_str PySem.F.slot_str_count PySem.F.type_str_count mt_count (pv 1) (pa_d pe_str pa_nil rfl)) rfl)
      (pss_one (ps_fld (pv 0) (pe_fn c_words_of (hr.mono (by decide : 2 ≤ _)) (pa_d (pv 1) pa_nil rfl)) rfl))))), ?_⟩
    k_is
    refine ⟨_, rfl, hz, ?_⟩
    rw [rowS_signs hl]
    k_is
    refine ⟨_, rfl, hz, ?_⟩
    rw [signs_len]
    k_is
    refine r_sfldE hx Z.cl Z.n_length (by decide) ?_
    k_is
    refine ⟨rfl, ?_⟩
    k_is
    refine ⟨_, 49, rfl, rfl, ?_⟩
    rw [(cnt_signs l).1]
    k_is
    refine r_sfldE upd_same Z.cl Z.n_many_ones (show 1 < 1000 by decide) ?_
    rw [upd_upd]
    k_is
    refine ⟨l, rfl, hl, fun t H' sm hf ht => ?_⟩
    k_is
    refine r_sfldE (sm _ _ upd_same) Z.cl Z.n_kept_words (show 2 < 1000 by decide) ?_
    k_is
    refine q _ ((sameBut_upd.trans sm.but).trans sameBut_upd) ⟨dx, t, upd_same, ?_, hl⟩
    have hne : t ≠ x := fun e => by
      subst e
      rw [upd_same] at hf
      cases hf
    rw [upd_ne hne]
    exact ht
def spBitsSize (K : PySem.W.Frag) (C : Addr) : Sp := fun vs H Q _ => ∃ (x : Addr) (l : List Bool), vs = [.ref x] ∧ IsBits K C H x l ∧ Q (.int (l.length : Nat)) H
theorem J9 {f : Addr} {fd : FuncData} (F : Fun K "size" "Bits.size" Wt f fd) (T : Txt K mg Qc Qb Qd Qi Qe Qg) (Z : Wa K Qh) : FnOk P w K mg base CX0 1 f fd ["self"] (spBitsSize K Qh) := by
 refine F.ok Qab (fun vs H Q E h => ?_) (fun cdv A outer s H vs Q E hr h => ?_)
 ·obtain ⟨x, l, rfl, _⟩ := h
  rfl
 ·obtain ⟨x, l, rfl, ⟨dx, t, hx, ht, hl⟩, q⟩ := h
  refine ⟨_, (pss_one (ps_ret (pe_fld (pv 0) rfl))), ?_⟩
  k_is
  exact r_fldE hx Z.cl Z.n_length rfl q
def spBitsWords (K : PySem.W.Frag) (C : Addr) : Sp := fun vs H Q _ => ∃ (x : Addr) (l : List Bool), vs = [.ref x] ∧ IsBits K C H x l ∧ ∀ t, H t = some (.tup (nV (wordsOf l))) → Q (.ref t) H
theorem J2 {f : Addr} {fd : FuncData} (F : Fun K "words" "Bits.words" Wn f fd) (T : Txt K mg Qc Qb Qd Qi Qe Qg) (Z : Wa K Qh) : FnOk P w K mg base CX0 1 f fd ["self"] (spBitsWords K Qh) := by
 refine F.ok J5 (fun vs H Q E h => ?_) (fun cdv A outer s H vs Q E hr h => ?_)
 ·obtain ⟨x, l, rfl, _⟩ := h
  rfl
 ·obtain ⟨x, l, rfl, ⟨dx, t, hx, ht, hl⟩, q⟩ := h
  refine ⟨_, (pss_one (ps_ret (pe_fld (pv 0) rfl))), ?_⟩
  k_is
  exact r_fldE hx Z.cl Z.n_kept_words rfl (q t ht)
def spStretch (K : PySem.W.Frag) (C CP : Addr) : Sp := fun vs H Q E => ∃ (a : Addr) (l : List Bool) (x y : V), vs = [.ref a, x, y] ∧ IsBits K C H a l ∧ Any K H x ∧ Any K H y ∧ (strOk x y (l.length : Int) = true → ∀ H', Same H H' → Q (.str (signs ((l.drop (natI x)).take (natI y - natI x)))) H') ∧ (strOk x y (l.length : Int) = false → E (.ref CP) none H)
theorem strOk_of {x y : V} {g : Int} (h : strOk x y g = true) : ∃ i j : Nat, x = .int i ∧ y = .int j ∧ i ≤ j ∧ (j : Int) ≤ g := by
 unfold strOk at h
 rw [Bool.and_eq_true, Bool.and_eq_true] at h
 obtain ⟨i, rfl, i0, i1⟩ := inI_of h.1.1
 obtain ⟨j, rfl, j0, j1⟩ := inI_of h.1.2
 have h3 : i ≤ j := of_decide_eq_true h.2
 refine ⟨i.toNat, j.toNat, ?_, ?_, by omega, by omega⟩
 ·rw [Int.toNat_of_nonneg i0]
 ·rw [Int.toNat_of_nonneg j0]
theorem Jj {f : Addr} {fd : FuncData} (F : Fun K "stretch" "Bits.stretch" Q4 f fd) (T : Txt K mg Qc Qb Qd Qi Qe Qg) (Z : Wa K Qh) (c_check_stretch : CalE P w K mg base "check_stretch" 4 ["low", "high", "greatest"] (spCheckStretch K Qe)) (c_signs_of : Cal P w K mg base "signs_of" 1 ["word"] (spSignsOf K)) :
    FnOk P w K mg base (CXE P w) 5 f fd ["self", "low", "high"] (spStretch K Qh Qe) := by
  refine F.okE Wj (fun vs H Q E h => ?_) (fun cdv A outer s H vs Q E hr h => ?_)
  · obtain ⟨a, l, x, y, rfl, _⟩ := h
    rfl
  · obtain ⟨a, l, x, y, rfl, ⟨dx, t, hx, ht, hl⟩, ha, hb, q1, q2⟩ := h
    refine ⟨_, (pss_cons (ps_expr (pe_fnE c_check_stretch (hr.mono (by decide : 4 ≤ _)) (pass_on rfl) (pa_d (pv 1) (pa_d (pv 2) (pa_d (pe_fld (pv 0) rfl) pa_nil rfl) rfl) rfl)))
      (pss_cons (ps_set (i := 3) Wj.nd rfl (Or.inl rfl) (pe_op op_fdiv (pv 1) (pe_globI rfl T.g_WORD_BITS)))
      (pss_cons (ps_set (i := 4) Wj.nd rfl (Or.inl rfl) (pe_op op_fdiv (pe_op op_sub (pe_op op_add (pv 2) (pe_globI rfl T.g_WORD_BITS)) pe_int) (pe_globI rfl T.g_WORD_BITS)))
      (pss_cons (ps_set (i := 5) Wj.nd rfl (Or.inl rfl) (pe_bm PySem.F.plainAttrs_str PySem.F.slot_str_join PySem.F.type_str_join mt_join pe_str (pa_d (pe_lc rfl Y3 (pi_tup (pe_slice sl_tupA (pe_fld (pv 0) rfl) (po_some (pv 3)) (po_some (pv 4)))) (fun _ _ _ _ => pif_nil) (fun _ _ _ _ => (pe_fn c_signs_of (hr.mono (by decide : 1 ≤ _)) (pa_d (pv 0) pa_nil rfl)))) pa_nil rfl)))
      (pss_cons (ps_set (i := 6) Wj.nd rfl (Or.inl rfl) (pe_op op_mul (pv 3) (pe_globI rfl T.g_WORD_BITS)))
      (pss_one (ps_ret (pe_slice sl_str (pv 5) (po_some (pe_op op_sub (pv 1) (pv 6))) (po_some (pe_op op_sub (pv 2) (pv 6))))))))))), ?_⟩
    k_is
    refine ⟨a, Qh, dx, _, _, rfl, hx, Z.cl, Z.n_length, rfl, ?_⟩
    k_is
    refine ⟨x, y, _, rfl, ha, hb, fun hi => ?_, q2⟩
    have q1 := q1 hi
    obtain ⟨low, high, rfl, rfl, h1, h2⟩ := strOk_of hi
    have h2 : high ≤ l.length := by omega
    k_is
    refine ⟨rfl, ?_⟩
    k_is
    refine ⟨a, Qh, dx, _, _, rfl, hx, Z.cl, Z.n_kept_words, rfl, ?_⟩
    k_is
    refine ⟨t, _, rfl, SqT.of ht, fun p2 H2 s2 hp2 => ?_⟩
    rw [show ((low : Int) / 32) = ((low / 32 : Nat) : Int) by omega, show ((high : Int) + 32 - 1) / 32 = (((high + 31) / 32 : Nat) : Int) by omega, cutV_nat] at hp2
    have hW : (wordsOf l).length = manyW l.length := by unfold TW.wordsOf; rw [List.length_map, List.length_range]
    have e8 : ((nV (wordsOf l)).drop (low / 32)).take ((high + 31) / 32 - low / 32) = nV ((List.range ((high + 31) / 32 - low / 32)).map fun j => val (wordAt l (low / 32 + j))) := by
      unfold nV
      have : min ((high + 31) / 32 - low / 32) (manyW l.length - low / 32) = (high + 31) / 32 - low / 32 := by unfold manyW; omega
      rw [← List.map_drop, ← List.map_take, words_cut, this]
    rw [e8] at hp2
    refine ⟨p2, rfl, ⟨_, hp2⟩, ?_⟩
    generalize hm : (high + 31) / 32 - low / 32 = m at hp2
    refine lc_tup hp2 (fun j => ((List.range j).map fun i => bit32 (val (wordAt l (low / 32 + i)))).map fun l => V.str (signs l)) rfl (fun j hj => ?_) (fun j z H3 R A hz s3 kR kA => ?_) (fun D H3 hD s3 hl3 => ?_)
    · rw [List.length_map, List.length_map, List.length_range] at hj
      rw [List.length_map, List.length_map, List.length_range]
      exact small1000 (by omega)
    · have hj : j < m := by
        have := (List.getElem?_eq_some_iff.mp hz).1
        rwa [List.length_map, List.length_map, List.length_range] at this
      have hze : z = .int (val (wordAt l (low / 32 + j)) : Nat) := by
        unfold nV at hz
        rw [List.getElem?_map, List.getElem?_map, List.getElem?_range hj] at hz
        exact (Option.some.inj hz).symm
      subst hze
      k_is
      refine ⟨_, rfl, fun H4 s4 => ?_⟩
      refine kA _ _ ?_ s4
      rw [List.range_succ, List.map_append, List.map_append]
      rfl
    · rw [List.length_map, List.length_map, List.length_range] at hl3
      have hfl : ((List.range m).map fun i => bit32 (val (wordAt l (low / 32 + i)))).flatten.length ≤ 100000 := by
        rw [words_flat, List.length_map, List.length_range]
        omega
      k_is
      refine rd_joinL hl3 hfl ?_
      k_is
      refine r_slS ?_ ?_
      · rw [signs_len]
        exact Nat.le_of_lt (small20000 hfl)
      rw [words_flat, show ((low : Int) - (low : Int) / 32 * 32) = ((low - 32 * (low / 32) : Nat) : Int) by omega, show ((high : Int) - (low : Int) / 32 * 32) = ((high - 32 * (low / 32) : Nat) : Int) by omega, cut_signs,
        show high - 32 * (low / 32) - (low - 32 * (low / 32)) = high - low by omega, rows_cut l (low / 32) m low (high - low) (by omega) (by omega) (by omega)]
      exact q1 _ (s2.trans s3)
def spRun : Sp := fun vs H Q _ => ∃ (a : Addr) (xs : List Nat), vs = [.ref a] ∧ H a = some (.lst (nV xs)) ∧ xs.length ≤ 1000 ∧ ∀ p H', Same H H' → H p = none → H' p = some (.lst (nV ((List.range (xs.length + 1)).map fun i => (xs.take i).sum))) → Q (.ref p) H'
theorem ok_running_sums {f : Addr} {fd : FuncData} (F : Fun K "running_sums" "running_sums" s_running_sums f fd) (T : Txt K mg Qc Qb Qd Qi Qe Qg) : FnOk P w K mg base CX0 1 f fd ["numbers"] spRun := by
 refine F.ok sc_running_sums (fun vs H Q E h => ?_) (fun cdv A outer s H vs Q E hr h => ?_)
 ·obtain ⟨a, xs, rfl, _⟩ := h
  rfl
 ·obtain ⟨a, xs, rfl, ha, hn, q⟩ := h
  refine ⟨_, (pss_cons (ps_set (i := 1) sc_running_sums.nd rfl (Or.inl rfl) (pe_lst (pa_d pe_int pa_nil rfl)))
   (pss_cons (ps_for PassesOwn.never rfl (pi_list (pv 0)) (pg_name (i := 2) sc_running_sums.nd rfl (Or.inl rfl))
   (pss_one (ps_expr (pe_bm PySem.F.plainAttrs_list PySem.F.slot_list_append PySem.F.type_list_append mt_append (pv 1) (pa_d (pe_op op_add (pe_ix ix_list (pv 1) (pe_un un_neg pe_int) (fun _ _ => rfl)) (pv 2)) pa_nil rfl)))))
   (pss_one (ps_ret (pv 1))))), ?_⟩
  k_is
  refine ⟨few (by simp), fun p hp => ?_⟩
  have t0 := same_upd (o := .lst [V.int 0]) hp
  k_is
  refine ⟨a, rfl, ⟨_, SqL.of (t0 _ _ ha)⟩, ?_⟩
  refine for_list (xs := nV xs) (fun i σ H1 => (∃ v : Option V, σ = [some (.ref a), some (.ref p), v]) ∧ H1 p = some (.lst (nV ((List.range (i + 1)).map fun i => (xs.take i).sum))) ∧ Same H H1) ⟨⟨_, rfl⟩, upd_same, t0⟩ (fun i σ H1 _ h => SqL.of (h.2.2 _ _ ha)) ?_ ?_
  ·rintro i x σ H1 hx ⟨⟨v, rfl⟩, hp1, s1⟩
   have hi := at_lt hx
   rw [show (nV xs).length = xs.length by unfold nV; rw [List.length_map]] at hi
   obtain rfl : x = .int (xs[i] : Nat) := by
    unfold nV at hx
    rw [List.getElem?_map, List.getElem?_eq_getElem hi] at hx
    exact (Option.some.inj hx).symm
   k_is
   refine ⟨.inl ⟨rfl, _, SqL.of hp1⟩, ?_⟩
   k_is
   refine r_ixL (SqL.of hp1) (v := .int ((xs.take i).sum : Nat)) ?_ ?_
   ·rw [nV_range]
    exact atI_last _ _
   k_is
   refine r_append hp1 ?_ ?_
   ·unfold nV
    rw [List.length_map, List.length_map, List.length_range]
    exact small20000 (by omega)
   k_is
   refine ⟨⟨_, rfl⟩, ?_, fun b u e => ?_⟩
   ·rw [upd_same, nV_range _ (i + 1), List.take_add_one, List.getElem?_eq_getElem hi, List.sum_append]
    show some (HO.lst (_ ++ [V.int (((xs.take i).sum : Nat) + (xs[i] : Nat) : Int)])) = some (HO.lst (_ ++ [V.int (((xs.take i).sum + [xs[i]].sum : Nat) : Int)]))
    rw [List.sum_singleton, Int.natCast_add]
   ·rw [upd_ne (ne_of_none e hp)]
    exact s1 _ _ e
  ·rintro σ H1 ⟨⟨v, rfl⟩, hp1, s1⟩
   rw [show (nV xs).length = xs.length by unfold nV; rw [List.length_map]] at hp1
   k_is
   exact q p H1 s1 hp hp1
def blocks (n : Nat) : Nat := (manyW n + 7) / 8
def tableOf (l : List Bool) : List Nat := (List.range (blocks l.length + 1)).map fun b => cnt l (256 * b)
def spTable (K : PySem.W.Frag) : Sp := fun vs H Q _ => ∃ (t : Addr) (l : List Bool), vs = [.ref t] ∧ H t = some (.tup (nV (wordsOf l))) ∧ l.length ≤ 20000 ∧ ∀ p H', Same H H' → H p = none → H' p = some (.tup (nV (tableOf l))) → Q (.ref p) H'
theorem wordsOf_cut (l : List Bool) (b : Nat) : ((wordsOf l).drop (8 * b)).take 8 = (List.range (min 8 (manyW l.length - 8 * b))).map fun i => val (wordAt l (8 * b + i)) := by
 unfold TW.wordsOf
 refine List.ext_getElem? fun i => ?_
 rw [List.getElem?_take]
 by_cases h8 : i < 8
 ·rw [if_pos h8, List.getElem?_drop, List.getElem?_map, List.getElem?_map]
  by_cases hm : 8 * b + i < manyW l.length
  ·rw [List.getElem?_range hm, List.getElem?_range (by omega)]
   rfl
  ·rw [List.getElem?_eq_none (by rw [List.length_range]; omega), List.getElem?_eq_none (by rw [List.length_range]; omega)]
   rfl
 ·rw [if_neg h8, List.getElem?_eq_none (by rw [List.length_map, List.length_range]; omega)]
def blk (l : List Bool) (i : Nat) : List Nat := (List.range (min 8 (manyW l.length - 8 * i))).map fun j => val (wordAt l (8 * i + j))
def bsum (l : List Bool) (i : Nat) : Nat := ((List.range (min 8 (manyW l.length - 8 * i))).map fun m => pc (val (wordAt l (8 * i + m)))).sum
theorem bsum_all (l : List Bool) : ∀ i, (((List.range i).map (bsum l)).sum) = cnt l (256 * i)
 | 0 => by
  show 0 = cnt l 0
  rfl
 | i + 1 => by
  rw [List.range_succ, List.map_append, List.sum_append, bsum_all l i]
  show cnt l (256 * i) + [bsum l i].sum = _
  rw [List.sum_singleton]
  have := block_sum l i (min 8 (manyW l.length - 8 * i)) rfl
  unfold bsum
  omega
def Blks (K : PySem.W.Frag) (l : List Bool) (i : Nat) (ys : List V) (H : Hp) : Prop := ys.length = i ∧ ∀ j y, ys[j]? = some y → ∃ a, y = .ref a ∧ SqT K H a (nV (blk l j))
theorem blks_upd {K : PySem.W.Frag} {l : List Bool} {i : Nat} {ys : List V} {H : Hp} {D : Addr} {xs : List V} {o : HO} (hD : H D = some (.lst xs)) (h : Blks K l i ys H) : Blks K l i ys (upd H D o) := ⟨h.1, fun j y e => by
 obtain ⟨a, rfl, ht⟩ := h.2 j y e
 refine ⟨a, rfl, ?_⟩
 rcases ht with (ht | ⟨ob, ht⟩) | ht
 ·exact .inl (.inl (by rw [upd_ne (ne_of ht hD (by intro z; cases z))]; exact ht))
 ·exact .inl (.inr ⟨ob, by rw [upd_ne (ne_of ht hD (by intro z; cases z))]; exact ht⟩)
 ·exact .inr ht⟩
theorem Blks.same {K : PySem.W.Frag} {l : List Bool} {i : Nat} {ys : List V} {H H' : Hp} (h : Blks K l i ys H) (s : Same H H') : Blks K l i ys H' := ⟨h.1, fun j y e => by
 obtain ⟨a, rfl, ht⟩ := h.2 j y e
 exact ⟨a, rfl, s.seqT ht⟩⟩
theorem ok_table_of_words {f : Addr} {fd : FuncData} (F : Fun K "table_of_words" "table_of_words" s_table_of_words f fd) (T : Txt K mg Qc Qb Qd Qi Qe Qg) (c_ones_in : Cal P w K mg base "ones_in" 1 ["word"] spOnes) (c_running_sums : Cal P w K mg base "running_sums" 1 ["numbers"] spRun) : FnOk P w K mg base CX0 2 f fd ["words"] (spTable K) := by
  refine F.ok sc_table_of_words (fun vs H Q E h => ?_) (fun cdv A outer s H vs Q E hr h => ?_)
  · obtain ⟨t, l, rfl, _⟩ := h
    rfl
  · obtain ⟨t, l, rfl, ht, hl, q⟩ := h
    have hW : (wordsOf l).length = manyW l.length := by unfold TW.wordsOf; rw [List.length_map, List.length_range]
    have hM : manyW l.length ≤ 626 := by unfold manyW; omega
    have hB : blocks l.length ≤ 80 := by unfold blocks; omega
    refine ⟨_, (pss_cons (ps_setlc (i := 1) rfl lc_table_of_words_0 sc_table_of_words.nd rfl rfl (pi_range3 rfl T.n_range (pa_d pe_int (pa_d (pe_callB call_len_seq (by rfl) T.n_len b_len (pa_d (pv 0) pa_nil rfl)) (pa_d (pe_globI rfl T.g_BLOCK_WORDS) pa_nil rfl) rfl) rfl)) (fun _ _ _ _ => pif_nil) (fun _ _ _ _ => (pe_slice (sl_tupAK K) (pv 1) (po_some (pv 0)) (po_some (pe_op op_add (pv 0) (pe_globI rfl T.g_BLOCK_WORDS))))))
      (pss_one (ps_ret (pe_callTy call_tuple_of (by rfl) T.n_tuple b_tuple (pa_d (pe_fn c_running_sums (hr.mono (by decide : 1 ≤ _)) (pa_d (pe_lc rfl lc_table_of_words_1 (pi_list (pv 1)) (fun _ _ _ _ => pif_nil) (fun _ _ _ _ => (pe_callB (call_sumK K rfl) (by rfl) T.n_sum b_sum (pa_d (pe_lcIn rfl lc_table_of_words_2 (pi_tupK K (pv 0)) (fun _ _ _ _ => pif_nil) (fun _ _ _ _ => (pe_fn c_ones_in (hr.mono (by decide : 1 ≤ _)) (pa_d (pv 0) pa_nil rfl)))) pa_nil rfl)))) pa_nil rfl)) pa_nil rfl))))), ?_⟩
    k_is
    refine ⟨t, _, rfl, .inr (SqT.of ht), ?_⟩
    k_is
    rw [List.length_map, hW]
    refine ⟨0, manyW l.length, 8, rfl, by omega, ?_⟩
    have hn : stepsN 0 (manyW l.length : Int) 8 = blocks l.length := stepsN_nat (manyW l.length) 8 (by decide)
    rw [hn]
    refine lc_stepsN (fun i ys H1 => Blks K l i ys H1) (fun H1 _ => ⟨rfl, fun j y e => by cases e⟩) (fun i ys H1 D xs o hD h => blks_upd hD h) (fun i ys H1 hi h => by rw [h.1]; exact small1000 (by omega)) (fun i ys H1 A R hi s1 hP kA => ?_) (fun D ys H1 hD s1 hP hDl => ?_)
    · k_is
      refine ⟨t, _, rfl, SqT.of (s1 _ _ ht), fun p2 H2 s2 hp2 => ?_⟩
      rw [show (0 + (i : Int) * 8) = ((8 * i : Nat) : Int) by omega, show (((8 * i : Nat) : Int) + 8) = ((8 * i + 8 : Nat) : Int) by omega, cutV_nat, show 8 * i + 8 - 8 * i = 8 by omega] at hp2
      have e8 : ((nV (wordsOf l)).drop (8 * i)).take 8 = nV (blk l i) := by
        unfold nV blk
        rw [← List.map_drop, ← List.map_take, wordsOf_cut]
      rw [e8] at hp2
      refine kA _ _ s2 ⟨by rw [List.length_append, hP.1]; rfl, fun j y e => ?_⟩
      by_cases hj : j < ys.length
      · rw [List.getElem?_append_left hj] at e
        exact (hP.same s2).2 j y e
      · rw [List.getElem?_append_right (by omega)] at e
        have e0 : j - ys.length = 0 := by
          have := at_lt e
          simp only [List.length_cons, List.length_nil] at this
          omega
        rw [e0] at e
        obtain rfl := Option.some.inj e
        have : j = i := by have := hP.1; omega
        subst this
        exact ⟨p2, rfl, hp2⟩
    · k_is
      refine ⟨D, rfl, ⟨_, SqL.of hDl⟩, ?_⟩
      refine lc_list (SqL.of hDl) (fun i => nV ((List.range i).map (bsum l))) rfl (fun i hi => ?_) (fun i x H2 R A hx s2 kR kA => ?_) (fun D2 H2 hD2 s2 hl2 => ?_)
      · unfold nV
        rw [List.length_map, List.length_map, List.length_range]
        rw [hP.1] at hi
        exact small1000 (by omega)
      · obtain ⟨b, rfl, hb⟩ := (hP.same s2).2 i x hx
        k_is
        refine ⟨b, rfl, ⟨_, hb⟩, ?_⟩
        refine lc_tup hb (fun j => nV ((List.range j).map fun m => pc (val (wordAt l (8 * i + m))))) rfl (fun j hj => ?_) (fun j x H3 R3 A3 hx3 s3 kR3 kA3 => ?_) (fun D3 H3 hD3 s3 hl3 => ?_)
        · unfold blk nV at hj
          rw [List.length_map, List.length_map, List.length_range] at hj
          rw [List.length_map, List.length_map, List.length_range]
          exact small1000 (by omega)
        · have hj : j < min 8 (manyW l.length - 8 * i) := by
            have := (List.getElem?_eq_some_iff.mp hx3).1
            unfold blk nV at this
            rwa [List.length_map, List.length_map, List.length_range] at this
          have hxe : x = .int (val (wordAt l (8 * i + j)) : Nat) := by
            unfold nV blk at hx3
            rw [List.getElem?_map, List.getElem?_map, List.getElem?_range hj] at hx3
            exact (Option.some.inj hx3).symm
          subst hxe
          k_is
          refine ⟨_, rfl, ?_⟩
          refine kA3 _ _ ?_ (Same.refl _)
          exact nV_range _ _
        · unfold blk at hl3
          rw [List.length_map, List.length_map, List.length_range] at hl3
          k_is
          refine ⟨D3, _, rfl, SqL.of (by rw [hl3, nV_ints]), ?_⟩
          rw [sum_cast]
          refine kA _ _ ?_ s3
          exact nV_range _ _
      · rw [hP.1] at hl2
        k_is
        refine ⟨D2, (List.range (blocks l.length)).map (bsum l), rfl, hl2, by rw [List.length_map, List.length_range]; omega, fun p4 H4 s4 hp4 hl4 => ?_⟩
        k_is
        refine ⟨p4, _, rfl, .inl ⟨SqL.of hl4, fun p5 hp5 => ?_⟩⟩
        have et : (List.range (((List.range (blocks l.length)).map (bsum l)).length + 1)).map (fun i => (((List.range (blocks l.length)).map (bsum l)).take i).sum) = tableOf l := by
          rw [List.length_map, List.length_range]
          unfold tableOf
          refine List.map_congr_left fun i hi => ?_
          have hi := List.mem_range.mp hi
          rw [← List.map_take, List.take_range, Nat.min_eq_left (by omega), bsum_all]
        rw [et] at *
        exact q p5 _ (((s1.trans s2).trans s4).trans (same_upd hp5)) (((s1.trans s2).trans s4).free hp5) upd_same
def countsFs (l : List Bool) (t u : Addr) : List (Str × V) := [("length", .int (l.length : Nat)), ("kept_words", .ref t), ("kept_table", .ref u)]
def IsCounts (K : PySem.W.Frag) (C : Addr) (H : Hp) (a : Addr) (l : List Bool) : Prop := ∃ dx t u, H a = some (.ins C dx (countsFs l t u)) ∧ H t = some (.tup (nV (wordsOf l))) ∧ H u = some (.tup (nV (tableOf l))) ∧ l.length ≤ 20000
theorem IsCounts.same {K : PySem.W.Frag} {C b : Addr} {H H' : Hp} {l : List Bool} (s : Same H H') (h : IsCounts K C H b l) : IsCounts K C H' b l := by
 obtain ⟨dx, t, u, h1, h2, h3, h4⟩ := h
 exact ⟨dx, t, u, s _ _ h1, s _ _ h2, s _ _ h3, h4⟩
def spCountsInit (K : PySem.W.Frag) (CB C : Addr) : Sp := fun vs H Q _ => ∃ (x dx b : Addr) (l : List Bool), vs = [.ref x, .ref b] ∧ H x = some (.ins C dx []) ∧ IsBits K CB H b l ∧ ∀ H', SameBut x H H' → IsCounts K C H' x l → Q .non H'
theorem Jv {f : Addr} {fd : FuncData} (F : Fun K "__init__" "Counts.__init__" Wf f fd) (T : Txt K mg Qc Qb Qd Qi Qe Qg) (Z : Wm K Qf) (Qac : Mth P w K mg base Qh "size" 1 ["self"] (spBitsSize K Qh))
    (J7 : Mth P w K mg base Qh "words" 1 ["self"] (spBitsWords K Qh)) (c_table_of_words : Cal P w K mg base "table_of_words" 2 ["words"] (spTable K)) :
    FnOk P w K mg base CX0 3 f fd ["self", "bits"] (spCountsInit K Qh Qf) := by
  refine F.ok Jx (fun vs H Q E h => ?_) (fun cdv A outer s H vs Q E hr h => ?_)
  · obtain ⟨x, dx, b, l, rfl, _⟩ := h
    rfl
  · obtain ⟨x, dx, b, l, rfl, hx, hb, q⟩ := h
    have hb0 := hb
    obtain ⟨dxb, t, hbx, ht, hl⟩ := hb0
    have hbne : b ≠ x := ne_of hbx hx (by intro z; cases z)
    refine ⟨_, (pss_cons (ps_fld (pv 0) (pe_mt0 Qac (hr.mono (by decide : 1 ≤ _)) (pv 1)) rfl)
      (pss_cons (ps_fld (pv 0) (pe_mt0 J7 (hr.mono (by decide : 1 ≤ _)) (pv 1)) rfl)
      (pss_one (ps_fld (pv 0) (pe_fn c_table_of_words (hr.mono (by decide : 2 ≤ _)) (pa_d (pe_fld (pv 0) rfl) pa_nil rfl)) rfl)))), ?_⟩
    k_is
    refine ⟨b, dxb, _, rfl, hbx, rfl, ?_⟩
    k_is
    refine ⟨b, l, rfl, hb, ?_⟩
    k_is
    refine r_sfldE hx Z.cl Z.n_length (by decide) ?_
    k_is
    refine ⟨b, dxb, bitsFs l t, rfl, by rw [upd_ne hbne]; exact hbx, rfl, ?_⟩
    k_is
    refine ⟨b, l, rfl, isBits_but sameBut_upd (notSq_ins hx) hbne hb, fun t2 ht2 => ?_⟩
    k_is
    refine r_sfldE upd_same Z.cl Z.n_kept_words (show 1 < 1000 by decide) ?_
    rw [upd_upd]
    have ht3 : (upd H x (.ins Qf dx (putF "kept_words" (.ref t2) (putF "length" (.int (l.length : Nat)) [])))) t2 = some (.tup (nV (wordsOf l))) := by
      have hne : t2 ≠ x := ne_of ht2 upd_same (by intro z; cases z)
      rw [upd_ne hne] at ht2 ⊢
      exact ht2
    k_is
    refine ⟨x, Qf, dx, _, .ref t2, rfl, upd_same, Z.cl, Z.n_kept_words, rfl, ?_⟩
    k_is
    refine ⟨t2, l, rfl, ht3, hl, fun u H' sm hf hu => ?_⟩
    k_is
    refine r_sfldE (sm _ _ upd_same) Z.cl Z.n_kept_table (show 2 < 1000 by decide) ?_
    k_is
    have hix := sm _ _ (upd_same (H := H) (a := x))
    have n1 : t2 ≠ x := ne_of (sm _ _ ht3) hix (by intro z; cases z)
    have n2 : u ≠ x := ne_of hu hix (by intro z; cases z)
    exact q _ ((sameBut_upd.trans sm.but).trans sameBut_upd) ⟨dx, t2, u, upd_same, by rw [upd_ne n1]; exact sm _ _ ht3, by rw [upd_ne n2]; exact hu, hl⟩
theorem table_at {l : List Bool} {b : Nat} (h : b ≤ blocks l.length) : atI (nV (tableOf l)) (b : Int) = some (.int (cnt l (256 * b) : Nat)) := by
 refine atI_nat ?_
 unfold nV tableOf
 rw [List.getElem?_map, List.getElem?_map, List.getElem?_range (by omega)]
 rfl
def spOnesAhead (K : PySem.W.Frag) (C : Addr) : Sp := fun vs H Q _ => ∃ (a : Addr) (l : List Bool) (n : Nat), vs = [.ref a, .int n] ∧ IsCounts K C H a l ∧ n ≤ l.length ∧ ∀ H', Same H H' → Q (.int (cnt l n : Nat)) H'
theorem Yk {f : Addr} {fd : FuncData} (F : Fun K "ones_ahead" "Counts.ones_ahead" Qs f fd) (T : Txt K mg Qc Qb Qd Qi Qe Qg) (Z : Wm K Qf) (c_ones_in : Cal P w K mg base "ones_in" 1 ["word"] spOnes) : FnOk P w K mg base CX0 2 f fd ["self", "place"] (spOnesAhead K Qf) := by
  refine F.ok Qk (fun vs H Q E h => ?_) (fun cdv A outer s H vs Q E hr h => ?_)
  · obtain ⟨a, l, n, rfl, _⟩ := h
    rfl
  · obtain ⟨a, l, n, rfl, ⟨dx, t, u, hx, ht, hu, hl⟩, hn, q⟩ := h
    refine ⟨_, (pss_cons (ps_set (i := 2) Qk.nd rfl (Or.inl rfl) (pe_op op_fdiv (pv 1) (pe_globI rfl T.g_WORD_BITS)))
      (pss_cons (ps_set (i := 3) Qk.nd rfl (Or.inl rfl) (pe_op op_fdiv (pv 2) (pe_globI rfl T.g_BLOCK_WORDS)))
      (pss_cons (ps_set (i := 4) Qk.nd rfl (Or.inl rfl) (pe_ix ix_tup (pe_fld (pv 0) rfl) (pv 3) (fun _ _ => rfl)))
      (pss_cons (ps_for PassesOwn.never rfl (pi_tup (pe_slice sl_tupA (pe_fld (pv 0) rfl) (po_some (pe_op op_mul (pv 3) (pe_globI rfl T.g_BLOCK_WORDS))) (po_some (pv 2)))) (pg_name (i := 5) Qk.nd rfl (Or.inl rfl))
      (pss_one (ps_aug (i := 4) Qk.nd rfl (Or.inl rfl) (pe_fn c_ones_in (hr.mono (by decide : 1 ≤ _)) (pa_d (pv 5) pa_nil rfl)) ip_add)))
      (pss_cons (ps_set (i := 6) Qk.nd rfl (Or.inl rfl) (pe_op op_mod (pv 1) (pe_globI rfl T.g_WORD_BITS)))
      (pss_cons (ps_if (pt_cmpR op_gt (pv 6) pe_int (nomark _)) (pss_one (ps_aug (i := 4) Qk.nd rfl (Or.inl rfl) (pe_fn c_ones_in (hr.mono (by decide : 1 ≤ _)) (pa_d (pe_op op_and (pe_ix ix_tup (pe_fld (pv 0) rfl) (pv 2) (fun _ _ => rfl)) (pe_op op_sub (pe_op op_shl pe_int (pv 6)) pe_int)) pa_nil rfl)) ip_add))
      pss_nil)
      (pss_one (ps_ret (pv 4))))))))), ?_⟩
    k_is
    refine ⟨a, Qf, dx, _, _, rfl, hx, Z.cl, Z.n_kept_table, rfl, ?_⟩
    k_is
    rw [show ((n : Int) / 32 / 8) = ((n / 256 : Nat) : Int) by omega, show ((n : Int) / 32) = ((n / 32 : Nat) : Int) by omega]
    refine r_ixT (SqT.of hu) (table_at (by unfold blocks manyW; omega)) ?_
    k_is
    refine ⟨a, Qf, dx, _, _, rfl, hx, Z.cl, Z.n_kept_words, rfl, ?_⟩
    k_is
    refine ⟨t, _, rfl, SqT.of ht, fun p2 H2 s2 hp2 => ?_⟩
    rw [show ((n / 256 : Nat) : Int) * 8 = ((8 * (n / 256) : Nat) : Int) by omega, cutV_nat] at hp2
    have e8 : ((nV (wordsOf l)).drop (8 * (n / 256))).take (n / 32 - 8 * (n / 256)) = nV ((List.range (n / 32 - 8 * (n / 256))).map fun j => val (wordAt l (8 * (n / 256) + j))) := by
      unfold nV
      have : min (n / 32 - 8 * (n / 256)) (manyW l.length - 8 * (n / 256)) = n / 32 - 8 * (n / 256) := by unfold manyW; omega
      rw [← List.map_drop, ← List.map_take, words_cut, this]
    rw [e8] at hp2
    refine ⟨p2, rfl, ⟨_, hp2⟩, ?_⟩
    generalize hm : n / 32 - 8 * (n / 256) = m at hp2
    refine for_tup (xs := nV ((List.range m).map fun j => val (wordAt l (8 * (n / 256) + j)))) (fun i σ H' => H' = H2 ∧ ∃ v5 v6 : Option V, σ = [some (.ref a), some (.int n), some (.int ((n / 32 : Nat) : Int)), some (.int ((n / 256 : Nat) : Int)), some (.int (cnt l (32 * (8 * (n / 256) + i)) : Nat)), v5, v6]) ?_ (fun i σ H' _ h => by rw [h.1]; exact hp2) ?_ ?_
    · refine ⟨rfl, none, none, ?_⟩
      rw [show 32 * (8 * (n / 256) + 0) = 256 * (n / 256) by omega]
      rfl
    · rintro i x σ H' hx' ⟨rfl, v5, v6, rfl⟩
      have hi : i < m := by
        have := (List.getElem?_eq_some_iff.mp hx').1
        rwa [List.length_map, List.length_map, List.length_range] at this
      have hze : x = .int (val (wordAt l (8 * (n / 256) + i)) : Nat) := by
        unfold nV at hx'
        rw [List.getElem?_map, List.getElem?_map, List.getElem?_range hi] at hx'
        exact (Option.some.inj hx').symm
      subst hze
      k_is
      refine ⟨_, rfl, ?_⟩
      k_is
      refine ⟨rfl, some (.int (val (wordAt l (8 * (n / 256) + i)) : Nat)), v6, ?_⟩
      have := cnt_word l (8 * (n / 256) + i)
      rw [show 8 * (n / 256) + (i + 1) = 8 * (n / 256) + i + 1 by omega, this]
      rfl
    · rintro σ H' ⟨rfl, v5, v6, rfl⟩
      rw [show (nV ((List.range m).map fun j => val (wordAt l (8 * (n / 256) + j)))).length = m by unfold nV; rw [List.length_map, List.length_map, List.length_range], show 8 * (n / 256) + m = n / 32 by omega]
      k_is
      have ec : cnt l n = cnt l (32 * (n / 32)) + ((l.drop (32 * (n / 32))).take (n % 32)).count true := by
        rw [← cnt_add]
        congr 1
        omega
      refine iteP (fun hr' => ?_) (fun hr' => ?_)
      · have hr0 : 0 < n % 32 := by omega
        k_is
        refine ⟨a, Qf, dx, _, _, rfl, s2 _ _ hx, Z.cl, Z.n_kept_words, rfl, ?_⟩
        k_is
        refine r_ixT (SqT.of (s2 _ _ ht)) (word_at (by unfold manyW; omega)) ?_
        k_is
        refine r_rI ⟨by omega, by omega, by decide⟩ ?_
        k_is
        rw [and_mask _ (n % 32) (by omega)]
        refine ⟨_, rfl, ?_⟩
        k_is
        rw [val_take, pc_val]
        have e2 : (wordAt l (n / 32)).take (n % 32) = (l.drop (32 * (n / 32))).take (n % 32) := by
          unfold wordAt
          rw [List.take_take, Nat.min_eq_left (by omega)]
        rw [e2]
        have := q _ s2
        rw [ec] at this
        exact this
      · have hr0 : n % 32 = 0 := by omega
        k_is
        have := q _ s2
        rw [ec, hr0, List.take_zero] at this
        exact this
def spAhead (K : PySem.W.Frag) (C CB CP : Addr) : Sp := fun vs H Q E => ∃ (a : Addr) (l : List Bool) (x y : V), vs = [.ref a, x, y] ∧ IsCounts K C H a l ∧ Any K H x ∧ Any K H y ∧ (∀ (b : Bool) (n : Nat), x = .int (b.toNat : Nat) → y = .int n → n ≤ l.length → ∀ H', Same H H' → Q (.int ((occ b l n).length : Nat)) H') ∧
 (inI x 0 1 = false → E (.ref CB) none H) ∧ (inI x 0 1 = true → inI y 0 (l.length : Int) = false → E (.ref CP) none H)
theorem Jk {f : Addr} {fd : FuncData} (F : Fun K "ahead" "Counts.ahead" Wb f fd) (T : Txt K mg Qc Qb Qd Qi Qe Qg) (Z : Wm K Qf) (c_check_bit : CalE P w K mg base "check_bit" 3 ["bit"] (spCheckBit K Qi)) (c_check_place : CalE P w K mg base "check_place" 3 ["place", "greatest"] (spCheckPlace K Qe))
    (Yo : Mth P w K mg base Qf "ones_ahead" 2 ["self", "place"] (spOnesAhead K Qf)) : FnOk P w K mg base (CXE P w) 4 f fd ["self", "bit", "place"] (spAhead K Qf Qi Qe) := by
  refine F.okE Yd (fun vs H Q E h => ?_) (fun cdv A outer s H vs Q E hr h => ?_)
  · obtain ⟨a, l, x, y, rfl, _⟩ := h
    rfl
  · obtain ⟨a, l, x, y, rfl, hC, ha, hb, q1, q2, q3⟩ := h
    obtain ⟨dx, t, u, hx, ht, hu, hl⟩ := id hC
    refine ⟨_, (pss_cons (ps_expr (pe_fnE c_check_bit (hr.mono (by decide : 3 ≤ _)) (pass_on rfl) (pa_d (pv 1) pa_nil rfl)))
      (pss_cons (ps_expr (pe_fnE c_check_place (hr.mono (by decide : 3 ≤ _)) (pass_on rfl) (pa_d (pv 2) (pa_d (pe_fld (pv 0) rfl) pa_nil rfl) rfl)))
      (pss_cons (ps_set (i := 3) Yd.nd rfl (Or.inl rfl) (pe_mt Yo (hr.mono (by decide : 2 ≤ _)) (pv 0) (pa_d (pv 2) pa_nil rfl)))
      (pss_one (ps_ret (pe_ifExp (pt_cmpR op_eq (pv 1) pe_int (nomark _)) (pv 3) (pe_op op_sub (pv 2) (pv 3)))))))), ?_⟩
    k_is
    refine ⟨x, rfl, ha, fun hbx => ?_, q2⟩
    k_is
    refine ⟨a, Qf, dx, _, _, rfl, hx, Z.cl, Z.n_length, rfl, ?_⟩
    k_is
    refine ⟨y, _, rfl, hb, fun hby => ?_, fun hby => q3 hbx hby⟩
    obtain ⟨b, rfl⟩ := bit_in hbx
    obtain ⟨i, rfl, i0, i1⟩ := inI_of hby
    obtain ⟨n, rfl⟩ := Int.eq_ofNat_of_zero_le i0
    have hn : n ≤ l.length := by omega
    have q1 := q1 b n rfl rfl hn
    k_is
    refine ⟨a, dx, _, rfl, hx, rfl, ?_⟩
    k_is
    refine ⟨a, l, n, rfl, hC, hn, fun H' s' => ?_⟩
    k_is
    have ho := occ_cnt l n
    cases b with
    | true =>
      refine iteP (fun _ => ?_) (fun z => absurd rfl z)
      k_is
      have := q1 H' s'
      rw [ho.1] at this
      exact this
    | false =>
      refine iteP (fun z => absurd z (by decide)) (fun _ => ?_)
      k_is
      have := q1 H' s'
      rw [show ((n : Int) - (cnt l n : Nat)) = ((occ false l n).length : Nat) by omega]
      exact this
def hts (l : List Bool) (i : Nat) : List Int := (List.range i).map fun j => hgt l (j + 1)
theorem hts_succ (l : List Bool) (i : Nat) : hts l (i + 1) = hts l i ++ [hgt l (i + 1)] := by
 unfold hts
 rw [List.range_succ, List.map_append]
 rfl
def htB (l : List Bool) (b : Int) (i : Nat) : List Int := (hts l i).map (b + ·)
def spHeightsB : Sp := fun vs H Q _ => ∃ (l : List Bool) (bg : Int), vs = [.str (signs l), .int bg] ∧ l.length ≤ 1000 ∧ ∀ p H', Same H H' → H p = none → H' p = some (.lst ((htB l bg l.length).map V.int)) → Q (.ref p) H'
theorem ok_heights_of {f : Addr} {fd : FuncData} (F : Fun K "heights_of" "heights_of" s_heights_of f fd) (T : Txt K mg Qc Qb Qd Qi Qe Qg) : FnOk P w K mg base CX0 1 f fd ["text", "begin"] spHeightsB := by
 refine F.ok sc_heights_of (fun vs H Q E h => ?_) (fun cdv A outer s H vs Q E hr h => ?_)
 ·obtain ⟨l, bg, rfl, _⟩ := h
  rfl
 ·obtain ⟨l, bg, rfl, hl, q⟩ := h
  refine ⟨_, (pss_cons (ps_set (i := 2) sc_heights_of.nd rfl (Or.inl rfl) (pv 1))
   (pss_cons (ps_set (i := 3) sc_heights_of.nd rfl (Or.inl rfl) (pe_lst pa_nil))
   (pss_cons (ps_for PassesOwn.never rfl (pi_str (pv 0)) (pg_name (i := 4) sc_heights_of.nd rfl (Or.inl rfl))
   (pss_cons (ps_aug (i := 2) sc_heights_of.nd rfl (Or.inl rfl) (pe_ifExp (pt_cmpR op_eq (pv 4) pe_str (nomark _)) pe_int (pe_un un_neg pe_int)) ip_add)
   (pss_one (ps_expr (pe_bm PySem.F.plainAttrs_list PySem.F.slot_list_append PySem.F.type_list_append mt_append (pv 3) (pa_d (pv 2) pa_nil rfl))))))
   (pss_one (ps_ret (pv 3)))))), ?_⟩
  k_is
  refine ⟨Nat.zero_le _, fun p hp => ?_⟩
  k_is
  refine ⟨_, rfl, ?_⟩
  refine for_str (fun i σ H1 => ∃ v : Option V, σ = [some (.str (signs l)), some (.int bg), some (.int (bg + hgt l i)), some (.ref p), v] ∧ H1 p = some (.lst ((htB l bg i).map V.int)) ∧ Same H H1) ⟨_, by rw [show bg + hgt l 0 = bg by unfold hgt; simp]; rfl, upd_same, same_upd hp⟩ ?_ ?_
  ·rintro i c σ H1 hc ⟨v, rfl, hp1, sm⟩
   obtain ⟨b, hb, rfl⟩ := sign_of hc
   have hi := at_lt hb
   have hh := hgt_succ hb
   have hz1 : ((htB l bg i).map V.int).length < sizeLine := by
    rw [List.length_map]
    unfold htB hts
    rw [List.length_map, List.length_map, List.length_range]
    exact small1000 (by omega)
   have fin : ∀ d : Int, hgt l (i + 1) = hgt l i + d → ∃ v : Option V, [some (V.str (signs l)), some (V.int bg), some (V.int (bg + hgt l i + d)), some (V.ref p), some (V.str (sgn (if b then 49 else 48)))] = [some (V.str (signs l)), some (V.int bg), some (V.int (bg + hgt l (i + 1))), some (V.ref p), v] ∧
     (upd H1 p (.lst ((htB l bg i).map V.int ++ [V.int (bg + hgt l i + d)]))) p = some (.lst ((htB l bg (i + 1)).map V.int)) ∧ Same H (upd H1 p (.lst ((htB l bg i).map V.int ++ [V.int (bg + hgt l i + d)]))) := fun d hd => by
    refine ⟨_, by rw [hd, Int.add_assoc], ?_, fun b' u e => ?_⟩
    ·unfold htB
     rw [upd_same, hts_succ, hd, List.map_append, List.map_append, Int.add_assoc]
     rfl
    ·rw [upd_ne (ne_of_none e hp)]
     exact sm _ _ e
   k_is
   refine iteP (fun h1 => ?_) (fun h1 => ?_)
   ·have hd : hgt l (i + 1) = hgt l i + 1 := by cases b with | true => exact hh | false => exact absurd h1 (by decide)
    k_is
    refine ⟨.inl ⟨rfl, _, SqL.of hp1⟩, ?_⟩
    k_is
    exact r_append hp1 hz1 (fin 1 hd)
   ·have hd : hgt l (i + 1) = hgt l i + -1 := by cases b with | false => exact hh | true => exact absurd rfl h1
    k_is
    refine ⟨.inl ⟨rfl, _, SqL.of hp1⟩, ?_⟩
    k_is
    exact r_append hp1 hz1 (fin (-1) hd)
  ·rintro σ H1 ⟨v, rfl, hp1, sm⟩
   rw [show (signs l).cps.size = l.length from signs_len l] at *
   k_is
   exact q p H1 sm hp hp1
def dueF8 : List Nat → Nat → Int → Option Nat
 | [], k, h => if h > 0 then some k else none
 | c :: r, k, h => if isBad c = true then some k else if h + (if c = 49 then 1 else -1) < 0 then some k else if k = 8192 then some k else dueF8 r (k + 1) (h + (if c = 49 then 1 else -1))
def dueV8 : V → Option Nat
 | .str z => dueF8 z.cps.toList 0 0
 | _ => some 0
theorem due8 : ∀ (cs : List Nat) (k : Nat) (h : Int), k ≤ 8192 → dueF8 cs k h = none → dueF cs k h = none ∧ k + cs.length ≤ 8192
 | [], k, h, hk, e => ⟨e, hk⟩
 | c :: r, k, h, hk, e => by
  unfold dueF8 at e
  unfold dueF
  by_cases h1 : isBad c = true
  ·rw [if_pos h1] at e; cases e
  ·rw [if_neg h1] at e ⊢
   by_cases h2 : h + (if c = 49 then 1 else -1) < 0
   ·rw [if_pos h2] at e; cases e
   ·rw [if_neg h2] at e ⊢
    by_cases h3 : k = 8192
    ·rw [if_pos h3] at e; cases e
    ·rw [if_neg h3] at e
     obtain ⟨a, b⟩ := due8 r (k + 1) _ (by omega) e
     exact ⟨a, by rw [List.length_cons]; omega⟩
def spCheck8 (K : PySem.W.Frag) (C : Addr) : Sp := fun vs H Q E => ∃ v : V, vs = [v] ∧ AnyS K H v ∧ (∀ z, v = .str z → z.length ≤ 9000) ∧ (dueV8 v = none → ∀ H', Same H H' → Q .non H') ∧
 ∀ d : Nat, dueV8 v = some d → ∀ dx H', Same H H' → H dx = none → H' dx = some (.xd [("place", .int d)]) → E (.ref C) (some dx) H'
theorem small12 {i : Nat} (h : i ≤ 10000) : ((i : Int)).natAbs < 10 ^ 12 := by
 have : (10000 : Nat) < 10 ^ 12 := by decide
 omega
theorem ok_check_row {f : Addr} {fd : FuncData} (F : Fun K "check_row" "check_row" s_check_row f fd) (T : Txt K mg Qc Qb Qd Qi Qe Qg) (x_NoRow : ExcI P w K mg base "NoRow" Qd Qg 1 ["self", "place"]) : FnOk P w K mg base (CXE P w) 3 f fd ["text"] (spCheck8 K Qg) := by
  refine F.okE sc_check_row (fun vs H Q E h => ?_) (fun cdv A outer s H vs Q E hr h => ?_)
  · obtain ⟨v, rfl, _⟩ := h
    rfl
  · obtain ⟨v, rfl, hS, hz, q, qe⟩ := h
    refine ⟨_, (pss_cons (ps_if (pt_not (pt_val (pe_callB call_isinst (by rfl) T.n_isinstance b_isinstance (pa_d (pv 0) (pa_d (pe_bltn (v := .ty "str") rfl T.n_str b_str rfl) pa_nil rfl) rfl)))) (pss_one (ps_raiseI x_NoRow (hr.mono (by decide : 2 ≤ _)) rfl (pa_d pe_int pa_nil rfl)))
      pss_nil)
      (pss_cons (ps_set (i := 1) sc_check_row.nd rfl (Or.inl rfl) pe_int)
      (pss_cons (ps_for PassesOwn.leaving rfl (pi_enumS rfl T.n_enumerate (pa_d (pv 0) pa_nil rfl)) (pg_tup rfl (pgs_cons (pg_name (i := 2) sc_check_row.nd rfl (Or.inl rfl)) (pgs_cons (pg_name (i := 3) sc_check_row.nd rfl (Or.inl rfl)) pgs_nil)))
      (pss_cons (ps_aug (i := 1) sc_check_row.nd rfl (Or.inl rfl) (pe_ifExp (pt_cmpR op_eq (pv 3) pe_str (nomark _)) pe_int (pe_un un_neg pe_int)) ip_add)
      (pss_one (ps_if (PW.pt (pw_or (pt_cmpR op_notIn_str (pv 3) pe_str rfl) (pw_or (pt_cmpR op_lt (pv 1) pe_int (nomark _)) (pw_or1 (pt_cmpR op_eq (pv 2) (pe_globI rfl T.g_MOST_SIGNS) (nomark _)))))) (pss_one (ps_raiseI x_NoRow (hr.mono (by decide : 2 ≤ _)) rfl (pa_d (pv 2) pa_nil rfl)))
      pss_nil))))
      (pss_one (ps_if (pt_cmpR op_gt (pv 1) pe_int (nomark _)) (pss_one (ps_raiseI x_NoRow (hr.mono (by decide : 2 ≤ _)) rfl (pa_d (pe_callB call_len_str (by rfl) T.n_len b_len (pa_d (pv 0) pa_nil rfl)) pa_nil rfl)))
      pss_nil))))), ?_⟩
    k_is
    obtain ⟨t, h1, h2⟩ := hS
    refine ⟨_, _, _, _, rfl, h1, h2, ?_⟩
    cases v with
    | str z =>
      have hz := hz z rfl
      rw [show isS (V.str z) = true from rfl]
      k_is
      refine ⟨_, rfl, ?_⟩
      have hzs : z.cps.size = z.length := rfl
      refine for_enumS (fun i σ H1 => (∃ (h : Nat) (v2 v3 : Option V), σ = [some (.str z), some (.int h), v2, v3] ∧ h ≤ i ∧ dueF8 (z.cps.toList.drop i) i h = dueV8 (.str z)) ∧ Same H H1) ?_ ?_ ?_
      · exact ⟨⟨0, _, _, rfl, Nat.le_refl _, rfl⟩, Same.refl _⟩
      · rintro i c σ H1 t hc ⟨⟨h, v2, v3, rfl, hhi, hd⟩, s1⟩ ht
        have hi : i < z.length := (Array.getElem?_eq_some_iff.mp hc).1
        rw [cps_drop hc] at hd
        unfold dueF8 at hd
        have s2 := s1.trans (same_upd (o := .tup [.int i, .str (sgn c)]) ht)
        generalize upd H1 t (.tup [.int i, .str (sgn c)]) = H2 at *
        have out : dueV8 (.str z) = some i → ∀ dx, H2 dx = none → E (.ref Qg) (some dx) (upd H2 dx (.xd [("place", .int (i : Nat))])) := fun e dx hx => qe i e dx _ (s2.trans (same_upd hx)) (s2.free hx) upd_same
        have sm : ((i : Nat) : Int).natAbs < 10 ^ 12 := small12 (by omega)
        k_is
        refine iteP (fun h1 => ?_) (fun h1 => ?_)
        · obtain rfl := sgn_one h1
          have hd : (if (h : Int) + 1 < 0 then some i else if i = 8192 then some i else dueF8 (z.cps.toList.drop (i + 1)) (i + 1) ((h : Int) + 1)) = dueV8 (.str z) := hd
          rw [if_neg (by omega)] at hd
          k_is
          refine ⟨_, _, rfl, rfl, ?_⟩
          rw [occ01, show isBad 49 = false by decide]
          k_is
          refine iteP (fun h => by omega) (fun _ => ?_)
          k_is
          refine iteP (fun h8 => ?_) (fun h8 => ?_)
          · rw [if_pos (by have := V.int.inj h8; omega)] at hd
            k_is
            exact ⟨_, rfl, sm, out hd.symm⟩
          · rw [if_neg (fun e => h8 (by rw [e]; rfl))] at hd
            k_is
            exact ⟨⟨h + 1, _, _, rfl, by omega, hd⟩, s2⟩
        · k_is
          refine ⟨_, _, rfl, rfl, ?_⟩
          rw [occ01]
          cases hb : isBad c with
          | true =>
            rw [if_pos hb] at hd
            k_is
            exact ⟨_, rfl, sm, out hd.symm⟩
          | false =>
            obtain rfl : c = 48 := (bad_iff.mp hb).resolve_right (sgn_one' h1)
            have hd : (if (h : Int) + -1 < 0 then some i else if i = 8192 then some i else dueF8 (z.cps.toList.drop (i + 1)) (i + 1) ((h : Int) + -1)) = dueV8 (.str z) := hd
            k_is
            refine iteP (fun h => ?_) (fun h2 => ?_)
            · rw [if_pos h] at hd
              k_is
              exact ⟨_, rfl, sm, out hd.symm⟩
            · rw [if_neg h2] at hd
              k_is
              refine iteP (fun h8 => ?_) (fun h8 => ?_)
              · rw [if_pos (by have := V.int.inj h8; omega)] at hd
                k_is
                exact ⟨_, rfl, sm, out hd.symm⟩
              rw [if_neg (fun e => h8 (by rw [e]; rfl))] at hd
              k_is
              refine ⟨⟨h - 1, some (.int i), some (.str (sgn 48)), ?_, by omega, ?_⟩, s2⟩
              · rw [show ((h - 1 : Nat) : Int) = (h : Int) + -1 by omega]
                rfl
              · rw [show ((h - 1 : Nat) : Int) = (h : Int) + -1 by omega]
                exact hd
      · rintro σ H1 ⟨⟨h, v2, v3, rfl, hhi, hd⟩, s1⟩
        rw [List.drop_of_length_le (by rw [cps_len, hzs]; exact Nat.le_refl _)] at hd
        have hd : (if (h : Int) > 0 then some z.cps.size else none) = dueV8 (.str z) := hd
        rw [hzs] at hd
        k_is
        refine iteP (fun h1 => ?_) (fun h1 => ?_)
        · rw [if_pos h1] at hd
          k_is
          refine ⟨_, rfl, Nat.le_of_lt (small20000 (by omega)), ?_⟩
          k_is
          exact ⟨_, rfl, small12 (i := z.length) (by omega), fun dx hx => qe _ hd.symm dx _ (s1.trans (same_upd hx)) (s1.free hx) upd_same⟩
        · rw [if_neg h1] at hd
          k_is
          exact q hd.symm H1 s1
    | _ =>
      rw [show isS _ = false from rfl]
      k_is
      exact ⟨_, rfl, by decide, fun dx hx => qe 0 rfl dx _ (same_upd hx) hx upd_same⟩
def pairFs1 (b : V) : List (Str × V) := [("bits", b)]
def pairFs2 (b c : V) : List (Str × V) := [("bits", b), ("counts", c)]
def pairFs (b c n t o : V) : List (Str × V) := [("bits", b), ("counts", c), ("length", n), ("kept_table", t), ("often_least", o)]
def spHInit (K : PySem.W.Frag) (CP : Addr) : Sp := fun vs H Q _ => ∃ (x dx : Addr) (b c n t o : V), vs = [.ref x, n, t, o] ∧ H x = some (.ins CP dx (pairFs2 b c)) ∧ Q .non (upd H x (.ins CP dx (pairFs b c n t o)))
theorem Jl {f : Addr} {fd : FuncData} (F : Fun K "__init__" "Heights.__init__" Wc f fd) (T : Txt K mg Qc Qb Qd Qi Qe Qg) (Z : Qj K Qa) : FnOk P w K mg base CX0 1 f fd ["self", "length", "table", "often_least"] (spHInit K Qa) := by
 refine F.ok Jo (fun vs H Q E h => ?_) (fun cdv A outer s H vs Q E hr h => ?_)
 ·obtain ⟨x, dx, b, c, n, t, o, rfl, _⟩ := h
  rfl
 ·obtain ⟨x, dx, b, c, n, t, o, rfl, hx, q⟩ := h
  refine ⟨_, (pss_cons (ps_fld (pv 0) (pv 1) rfl)
   (pss_cons (ps_fld (pv 0) (pv 2) rfl)
   (pss_one (ps_fld (pv 0) (pv 3) rfl)))), ?_⟩
  k_is
  refine r_sfldE hx Z.cl Z.n_length (show 2 < 1000 by decide) ?_
  k_is
  refine r_sfldE upd_same Z.cl Z.n_kept_table (show 3 < 1000 by decide) ?_
  rw [upd_upd]
  k_is
  refine r_sfldE upd_same Z.cl Z.n_often_least (show 4 < 1000 by decide) ?_
  rw [upd_upd]
  exact q
def spOpens (K : PySem.W.Frag) (CC CP : Addr) : Sp := fun vs H Q _ => ∃ (x dx c : Addr) (fs : List (Str × V)) (l : List Bool) (n : Nat), vs = [.ref x, .int n] ∧ H x = some (.ins CP dx fs) ∧ fs.lookup ("counts" : Str) = some (.ref c) ∧ IsCounts K CC H c l ∧ n ≤ l.length ∧ ∀ H', Same H H' → Q (.int ((occ true l n).length : Nat)) H'
theorem Yl {f : Addr} {fd : FuncData} (F : Fun K "opens_ahead" "Pairs.opens_ahead" Qt f fd) (T : Txt K mg Qc Qb Qd Qi Qe Qg) (Z : Qj K Qa) (Jt : MthE P w K mg base Qf "ahead" 4 ["self", "bit", "place"] (spAhead K Qf Qi Qe)) : FnOk P w K mg base CX0 5 f fd ["self", "place"] (spOpens K Qf Qa) := by
 refine F.ok Ym (fun vs H Q E h => ?_) (fun cdv A outer s H vs Q E hr h => ?_)
 ·obtain ⟨x, dx, c, fs, l, n, rfl, _⟩ := h
  rfl
 ·obtain ⟨x, dx, c, fs, l, n, rfl, hx, hc, hC, hn, q⟩ := h
  refine ⟨_, (pss_one (ps_ret (pe_mtE Jt (hr.mono (by decide : 4 ≤ _)) passE0 (pe_fld (pv 0) rfl) (pa_d pe_int (pa_d (pv 1) pa_nil rfl) rfl)))), ?_⟩
  k_is
  refine ⟨x, Qa, dx, fs, .ref c, rfl, hx, Z.cl, Z.n_counts, hc, ?_⟩
  obtain ⟨dc, t, u, hc1, _⟩ := id hC
  k_is
  refine ⟨c, dc, _, rfl, hc1, rfl, ?_⟩
  k_is
  refine ⟨c, l, .int 1, .int n, rfl, hC, any_int _, any_int _, fun b m e1 e2 hm H' s => ?_, fun e => ?_, fun _ e => ?_⟩
  ·have hb : b = true := by
    cases b with
    | true => rfl
    | false => exact absurd (V.int.inj e1) (by decide)
   have hm : m = n := by have := V.int.inj e2; omega
   subst hb
   subst hm
   exact q H' s
  ·cases e
  ·rw [inI_int] at e
   simp at e
   omega
def spHeight (K : PySem.W.Frag) (CC CP : Addr) : Sp := fun vs H Q _ => ∃ (x dx c : Addr) (fs : List (Str × V)) (l : List Bool) (n : Nat), vs = [.ref x, .int n] ∧ H x = some (.ins CP dx fs) ∧ fs.lookup ("counts" : Str) = some (.ref c) ∧ fs.lookup ("opens_ahead" : Str) = none ∧ IsCounts K CC H c l ∧ n ≤ l.length ∧ ∀ H', Same H H' → Q (.int (2 * ((occ true l n).length : Int) - n)) H'
theorem Y4 {f : Addr} {fd : FuncData} (F : Fun K "height" "Heights.height" Q5 f fd) (T : Txt K mg Qc Qb Qd Qi Qe Qg) (Z : Qj K Qa) (Yr : Mth P w K mg base Qa "opens_ahead" 5 ["self", "place"] (spOpens K Qf Qa)) : FnOk P w K mg base CX0 6 f fd ["self", "place"] (spHeight K Qf Qa) := by
 refine F.ok Y7 (fun vs H Q E h => ?_) (fun cdv A outer s H vs Q E hr h => ?_)
 ·obtain ⟨x, dx, c, fs, l, n, rfl, _⟩ := h
  rfl
 ·obtain ⟨x, dx, c, fs, l, n, rfl, hx, hc, ho, hC, hn, q⟩ := h
  refine ⟨_, (pss_one (ps_ret (pe_op op_sub (pe_op op_mul pe_int (pe_mt Yr (hr.mono (by decide : 5 ≤ _)) (pv 0) (pa_d (pv 1) pa_nil rfl))) (pv 1)))), ?_⟩
  k_is
  refine ⟨x, dx, fs, rfl, hx, ho, ?_⟩
  k_is
  refine ⟨x, dx, c, fs, l, n, rfl, hx, hc, hC, hn, fun H' s => ?_⟩
  k_is
  exact q H' s
def spPStretch (K : PySem.W.Frag) (CB CP : Addr) : Sp := fun vs H Q _ => ∃ (x dx b : Addr) (fs : List (Str × V)) (l : List Bool) (i j : Nat), vs = [.ref x, .int i, .int j] ∧ H x = some (.ins CP dx fs) ∧ fs.lookup ("bits" : Str) = some (.ref b) ∧ IsBits K CB H b l ∧ i ≤ j ∧ j ≤ l.length ∧ ∀ H', Same H H' → Q (.str (signs ((l.drop i).take (j - i)))) H'
theorem Jc {f : Addr} {fd : FuncData} (F : Fun K "stretch" "Pairs.stretch" Q9 f fd) (T : Txt K mg Qc Qb Qd Qi Qe Qg) (Z : Qj K Qa) (Js : MthE P w K mg base Qh "stretch" 5 ["self", "low", "high"] (spStretch K Qh Qe)) : FnOk P w K mg base CX0 6 f fd ["self", "low", "high"] (spPStretch K Qh Qa) := by
 refine F.ok Je (fun vs H Q E h => ?_) (fun cdv A outer s H vs Q E hr h => ?_)
 ·obtain ⟨x, dx, b, fs, l, i, j, rfl, _⟩ := h
  rfl
 ·obtain ⟨x, dx, b, fs, l, i, j, rfl, hx, hb, hB, hij, hj, q⟩ := h
  refine ⟨_, (pss_one (ps_ret (pe_mtE Js (hr.mono (by decide : 5 ≤ _)) passE0 (pe_fld (pv 0) rfl) (pa_d (pv 1) (pa_d (pv 2) pa_nil rfl) rfl)))), ?_⟩
  k_is
  refine ⟨x, Qa, dx, fs, .ref b, rfl, hx, Z.cl, Z.n_bits, hb, ?_⟩
  obtain ⟨db, t, hb1, _⟩ := id hB
  k_is
  refine ⟨b, db, _, rfl, hb1, rfl, ?_⟩
  k_is
  refine ⟨b, l, .int i, .int j, rfl, hB, any_int _, any_int _, fun _ H' s => ?_, fun e => ?_⟩
  ·exact q H' s
  ·rw [strOk_int] at e
   simp at e
   omega
def bgH (l : List Bool) (t : Nat) : Int := 2 * ((occ true l (t * 256)).length : Int) - (t * 256 : Nat)
def sgH (l : List Bool) (t : Nat) : List Bool := (l.drop (t * 256)).take 256
theorem sgH_len (l : List Bool) (t : Nat) : (sgH l t).length ≤ 1000 := by unfold sgH; rw [List.length_take]; omega
def hSeg (l : List Bool) (t : Nat) : List Int := htB (sgH l t) (bgH l t) (sgH l t).length
def TabRow (l : List Bool) (H : Hp) (r : Addr) (j : Nat) : Prop := ∃ mn mx : Int, H r = some (.tup [.int (bgH l j), .int mn, .int mx]) ∧ IsLeast (hSeg l j) mn ∧ IsMost (hSeg l j) mx
def TabAt (l : List Bool) (H : Hp) (t : Addr) : Prop := ∃ rs : List Addr, H t = some (.tup (rs.map V.ref)) ∧ rs.length = (l.length + 256 - 1) / 256 ∧ ∀ (j : Nat) r, rs[j]? = some r → TabRow l H r j
theorem TabAt.keep {l : List Bool} {H H' : Hp} {t : Addr} (k : ∀ b xs, H b = some (.tup xs) → H' b = some (.tup xs)) (h : TabAt l H t) : TabAt l H' t := by
 obtain ⟨rs, h1, h2, h3⟩ := h
 refine ⟨rs, k _ _ h1, h2, fun j r e => ?_⟩
 obtain ⟨mn, mx, e1, e2, e3⟩ := h3 j r e
 exact ⟨mn, mx, k _ _ e1, e2, e3⟩
theorem TabAt.same {l : List Bool} {H H' : Hp} {t : Addr} (s : Same H H') (h : TabAt l H t) : TabAt l H' t := h.keep fun b xs e => s _ _ e
def IsPairs (K : PySem.W.Frag) (CB CC CP : Addr) (H : Hp) (x : Addr) (l : List Bool) : Prop := ∃ (dx b c t : Addr) (o : V), H x = some (.ins CP dx (pairFs (.ref b) (.ref c) (.int (l.length : Nat)) (.ref t) o)) ∧ IsBits K CB H b l ∧ IsCounts K CC H c l ∧ TabAt l H t ∧ Vs 0 l ∧ l.length ≤ 8192
theorem IsPairs.same {K : PySem.W.Frag} {CB CC CP : Addr} {H H' : Hp} {x : Addr} {l : List Bool} (h : IsPairs K CB CC CP H x l) (s : Same H H') : IsPairs K CB CC CP H' x l := by
 obtain ⟨dx, b, c, t, o, h1, h2, h3, h4, h5⟩ := h
 exact ⟨dx, b, c, t, o, s _ _ h1, h2.same s, h3.same s, h4.same s, h5⟩
def spPSize (K : PySem.W.Frag) (CB CC CP : Addr) : Sp := fun vs H Q _ => ∃ (x : Addr) (l : List Bool), vs = [.ref x] ∧ IsPairs K CB CC CP H x l ∧ Q (.int (l.length : Nat)) H
theorem Jm {f : Addr} {fd : FuncData} (F : Fun K "size" "Heights.size" Wd f fd) (T : Txt K mg Qc Qb Qd Qi Qe Qg) (Z : Qj K Qa) : FnOk P w K mg base CX0 1 f fd ["self"] (spPSize K Qh Qf Qa) := by
 refine F.ok Jp (fun vs H Q E h => ?_) (fun cdv A outer s H vs Q E hr h => ?_)
 ·obtain ⟨x, l, rfl, _⟩ := h
  rfl
 ·obtain ⟨x, l, rfl, ⟨dx, b, c, t, o, hx, _⟩, q⟩ := h
  refine ⟨_, (pss_one (ps_ret (pe_fld (pv 0) rfl))), ?_⟩
  k_is
  exact ⟨x, Qa, dx, _, _, rfl, hx, Z.cl, Z.n_length, rfl, q⟩
def spPText (K : PySem.W.Frag) (CB CC CP : Addr) : Sp := fun vs H Q _ => ∃ (x : Addr) (l : List Bool), vs = [.ref x] ∧ IsPairs K CB CC CP H x l ∧ ∀ H', Same H H' → Q (.str (signs l)) H'
theorem Jn {f : Addr} {fd : FuncData} (F : Fun K "text" "Heights.text" We f fd) (T : Txt K mg Qc Qb Qd Qi Qe Qg) (Z : Qj K Qa) (W2 : Mth P w K mg base Qa "stretch" 6 ["self", "low", "high"] (spPStretch K Qh Qa)) : FnOk P w K mg base CX0 7 f fd ["self"] (spPText K Qh Qf Qa) := by
 refine F.ok Jq (fun vs H Q E h => ?_) (fun cdv A outer s H vs Q E hr h => ?_)
 ·obtain ⟨x, l, rfl, _⟩ := h
  rfl
 ·obtain ⟨x, l, rfl, ⟨dx, b, c, t, o, hx, hB, hC, _⟩, q⟩ := h
  refine ⟨_, (pss_one (ps_ret (pe_mt W2 (hr.mono (by decide : 6 ≤ _)) (pv 0) (pa_d pe_int (pa_d (pe_fld (pv 0) rfl) pa_nil rfl) rfl)))), ?_⟩
  k_is
  refine ⟨x, dx, _, rfl, hx, rfl, ?_⟩
  k_is
  refine ⟨x, Qa, dx, _, _, rfl, hx, Z.cl, Z.n_length, rfl, ?_⟩
  k_is
  refine ⟨x, dx, b, _, l, 0, l.length, rfl, hx, rfl, hB, Nat.zero_le _, Nat.le_refl _, fun H' s => ?_⟩
  simpa using q H' s
theorem made_same {H1 H2 : Hp} {x dx C : Addr} (hx : H1 x = none) (hd : H1 dx = none) (s : SameBut x (upd (upd H1 dx (.own x)) x (.ins C dx [])) H2) : Same H1 H2 := fun b u e => s b u (ne_of_none e hx) (by rw [upd_ne (ne_of_none e hx), upd_ne (ne_of_none e hd)]; exact e)
theorem new_same {H1 : Hp} {x dx : Addr} {o o' : HO} (hx : H1 x = none) (hd : H1 dx = none) : Same H1 (upd (upd H1 dx o) x o') := fun b u e => by rw [upd_ne (ne_of_none e hx), upd_ne (ne_of_none e hd)]; exact e
theorem isCounts_but {K : PySem.W.Frag} {C x b : Addr} {H H' : Hp} {l : List Bool} (s : SameBut x H H') (n : NotSq H x) (hne : b ≠ x) (h : IsCounts K C H b l) : IsCounts K C H' b l := by
 obtain ⟨dx, t, u, h1, h2, h3, h4⟩ := h
 exact ⟨dx, t, u, s _ _ hne h1, s _ _ (fun e => by subst e; exact (n _).1 (.inl h2)) h2, s _ _ (fun e => by subst e; exact (n _).1 (.inl h3)) h3, h4⟩
def spPInit (K : PySem.W.Frag) (CB CC CP CR : Addr) : Sp := fun vs H Q E => ∃ (x dx : Addr) (v : V), vs = [.ref x, v] ∧ H x = some (.ins CP dx []) ∧ AnyS K H v ∧ (∀ z, v = .str z → z.length ≤ 9000) ∧ (∀ l, v = .str (signs l) → dueV8 v = none → ∀ H', SameBut x H H' → IsPairs K CB CC CP H' x l → Q .non H') ∧
 ∀ d : Nat, dueV8 v = some d → ∀ e H', Same H H' → H e = none → H' e = some (.xd [("place", .int d)]) → E (.ref CR) (some e) H'
theorem J4 {f : Addr} {fd : FuncData} (F : Fun K "__init__" "Pairs.__init__" Qv f fd) (T : Txt K mg Qc Qb Qd Qi Qe Qg) (Z : Qj K Qa) (c_check_row : CalE P w K mg base "check_row" 3 ["text"] (spCheck8 K Qg)) (c_Bits : Mkr P w K mg base "Bits" Qh 3 ["self", "text"] (spBitsInit K Qh))
    (c_Counts : Mkr P w K mg base "Counts" Qf 3 ["self", "bits"] (spCountsInit K Qh Qf)) (Qn : Mth P w K mg base Qa "height" 6 ["self", "place"] (spHeight K Qf Qa)) (c_heights_of : Cal P w K mg base "heights_of" 1 ["text", "begin"] spHeightsB)
    (Jr : CalC P w K mg base "Heights" "__init__" 1 ["self", "length", "table", "often_least"] (spHInit K Qa)) : FnOk P w K mg base (CXE P w) 7 f fd ["self", "text"] (spPInit K Qh Qf Qa Qg) := by
  refine F.okE Wr (fun vs H Q E h => ?_) (fun cdv A outer s H vs Q E hr h => ?_)
  · obtain ⟨x, dx, v, rfl, _⟩ := h
    rfl
  · obtain ⟨x, dx, v, rfl, hx, hS, hz, q, qe⟩ := h
    refine ⟨_, (pss_cons (ps_expr (pe_fnE c_check_row (hr.mono (by decide : 3 ≤ _)) (pass_on rfl) (pa_d (pv 1) pa_nil rfl)))
      (pss_cons (ps_fld (pv 0) (pe_mk c_Bits (hr.mono (by decide : 4 ≤ _)) (pa_d (pv 1) pa_nil rfl)) rfl)
      (pss_cons (ps_fld (pv 0) (pe_mk c_Counts (hr.mono (by decide : 4 ≤ _)) (pa_d (pe_fld (pv 0) rfl) pa_nil rfl)) rfl)
      (pss_cons (ps_set (i := 2) Wr.nd rfl (Or.inl rfl) (pe_lrange3 rfl rfl T.n_list rfl T.n_range (pa_d pe_int (pa_d (pe_callB call_len_str (by rfl) T.n_len b_len (pa_d (pv 1) pa_nil rfl)) (pa_d (pe_globI rfl T.g_STRETCH_BITS) pa_nil rfl) rfl) rfl)))
      (pss_cons (ps_setlc (i := 3) rfl Jf Wr.nd rfl rfl (pi_list (pv 2)) (fun _ _ _ _ => pif_nil) (fun _ _ _ _ => (pe_mt Qn (hr.mono (by decide : 6 ≤ _)) (pv 1) (pa_d (pv 0) pa_nil rfl))))
      (pss_cons (ps_setlc2 (i := 4) rfl Jg Wr.nd rfl rfl (pi_zip rfl T.n_zip (pa_d (pv 2) (pa_d (pv 3) pa_nil rfl) rfl)) (fun _ _ _ _ => pif_nil) (fun _ _ _ _ => (pe_fn c_heights_of (hr.mono (by decide : 1 ≤ _)) (pa_d (pe_slice sl_str (pv 2) (po_some (pv 0)) (po_some (pe_op op_add (pv 0) (pe_globI rfl T.g_STRETCH_BITS)))) (pa_d (pv 1) pa_nil rfl) rfl))))
      (pss_cons (ps_setlc2 (i := 5) rfl Jh Wr.nd rfl rfl (pi_zip rfl T.n_zip (pa_d (pv 3) (pa_d (pv 4) pa_nil rfl) rfl)) (fun _ _ _ _ => pif_nil) (fun _ _ _ _ => (pe_tup (pa_d (pv 0) (pa_d (pe_callB (call_min1K K rfl) (by rfl) T.n_min b_min (pa_d (pv 1) pa_nil rfl)) (pa_d (pe_callB (call_max1K K rfl) (by rfl) T.n_max b_max (pa_d (pv 1) pa_nil rfl)) pa_nil rfl) rfl) rfl))))
      (pss_one (ps_expr (pe_cm Jr (hr.mono (by decide : 1 ≤ _)) rfl (pa_d (pv 0) (pa_d (pe_callB call_len_str (by rfl) T.n_len b_len (pa_d (pv 1) pa_nil rfl)) (pa_d (pe_callTy call_tuple_of (by rfl) T.n_tuple b_tuple (pa_d (pv 5) pa_nil rfl)) (pa_d (pe_lc rfl Ji (pi_list (pv 4)) (fun _ _ _ _ => pif_nil) (fun _ _ _ _ => (pe_bmK K PySem.F.plainAttrs_list PySem.F.slot_list_count PySem.F.type_list_count mt_countB (pv 0) (pa_d (pe_callB (call_min1K K rfl) (by rfl) T.n_min b_min (pa_d (pv 0) pa_nil rfl)) pa_nil rfl)))) pa_nil rfl) rfl) rfl) rfl))))))))))), ?_⟩
    k_is
    refine ⟨v, rfl, hS, hz, fun hn H1 s1 => ?_, qe⟩
    obtain ⟨z, rfl⟩ : ∃ z, v = .str z := by
      cases v with
      | str z => exact ⟨z, rfl⟩
      | _ => cases hn
    obtain ⟨hd8, hlen⟩ := due8 _ 0 0 (by decide) hn
    obtain ⟨l, hcs, hV⟩ := due_none _ 0 0 hd8
    obtain rfl : z = signs l := ext_cps (by rw [signs_cps]; exact hcs)
    have hl : l.length ≤ 8192 := by rw [hcs, List.length_map] at hlen; omega
    have q := q l rfl hn
    have hx1 := s1 _ _ hx
    k_is
    intro b db hb hdb hbd
    refine ⟨b, db, l, rfl, upd_same, by omega, fun H2 s2 hB2 => ⟨rfl, ?_⟩⟩
    have s2 := made_same hb hdb s2
    have hx2 := s2 _ _ hx1
    have nbx : b ≠ x := (ne_of_none hx1 hb).symm
    k_is
    refine r_sfldE hx2 Z.cl Z.n_bits (show 0 < 1000 by decide) ?_
    rw [show putF ("bits" : Str) (V.ref b) [] = (pairFs1 (.ref b)) from rfl]
    have hB3 : IsBits K Qh (upd H2 x (.ins Qa dx (pairFs1 (.ref b)))) b l := isBits_but sameBut_upd (notSq_ins hx2) nbx hB2
    have hx3 : upd H2 x (.ins Qa dx (pairFs1 (.ref b))) x = some (.ins Qa dx (pairFs1 (.ref b))) := upd_same
    have b3 : SameBut x H2 (upd H2 x (.ins Qa dx (pairFs1 (.ref b)))) := sameBut_upd
    generalize upd H2 x (.ins Qa dx (pairFs1 (.ref b))) = H3 at *
    k_is
    refine ⟨x, Qa, dx, _, .ref b, rfl, hx3, Z.cl, Z.n_bits, rfl, ?_⟩
    k_is
    intro c dc hc hdc hcd
    refine ⟨c, dc, b, l, rfl, upd_same, hB3.same (new_same hc hdc), fun H4 s4 hC4 => ⟨rfl, ?_⟩⟩
    have s4 := made_same hc hdc s4
    have hx4 := s4 _ _ hx3
    have ncx : c ≠ x := (ne_of_none hx3 hc).symm
    have hB4 := hB3.same s4
    k_is
    refine r_sfldE hx4 Z.cl Z.n_counts (show 1 < 1000 by decide) ?_
    rw [show putF ("counts" : Str) (V.ref c) (pairFs1 (.ref b)) = pairFs2 (.ref b) (.ref c) from rfl]
    have hB5 : IsBits K Qh (upd H4 x (.ins Qa dx (pairFs2 (.ref b) (.ref c)))) b l := isBits_but sameBut_upd (notSq_ins hx4) nbx hB4
    have hC5 : IsCounts K Qf (upd H4 x (.ins Qa dx (pairFs2 (.ref b) (.ref c)))) c l := isCounts_but sameBut_upd (notSq_ins hx4) ncx hC4
    have hx5 : upd H4 x (.ins Qa dx (pairFs2 (.ref b) (.ref c))) x = some (.ins Qa dx (pairFs2 (.ref b) (.ref c))) := upd_same
    have b5 : SameBut x H4 (upd H4 x (.ins Qa dx (pairFs2 (.ref b) (.ref c)))) := sameBut_upd
    have but5 : SameBut x H (upd H4 x (.ins Qa dx (pairFs2 (.ref b) (.ref c)))) := (((s1.trans s2).but.trans b3).trans s4.but).trans b5
    generalize upd H4 x (.ins Qa dx (pairFs2 (.ref b) (.ref c))) = H5 at *
    k_is
    refine ⟨_, rfl, Nat.le_of_lt (small20000 (by rw [signs_len]; omega)), ?_⟩
    rw [signs_len]
    k_is
    refine ⟨l.length, 256, rfl, by omega, by decide, by decide, fun lo hlo => ?_⟩
    have u6 := same_upd (o := .lst ((List.range ((l.length + 256 - 1) / 256)).map fun t : Nat => V.int (t * 256 : Nat))) hlo
    have hlo6 : upd H5 lo (.lst ((List.range ((l.length + 256 - 1) / 256)).map fun t : Nat => V.int (t * 256 : Nat))) lo = some (.lst ((List.range ((l.length + 256 - 1) / 256)).map fun t : Nat => V.int (t * 256 : Nat))) := upd_same
    have hx6 := u6 _ _ hx5
    have hB6 := hB5.same u6
    have hC6 := hC5.same u6
    have but6 := but5.trans u6.but
    generalize upd H5 lo (.lst ((List.range ((l.length + 256 - 1) / 256)).map fun t : Nat => V.int (t * 256 : Nat))) = H6 at *
    obtain ⟨m, hm⟩ : ∃ m, (l.length + 256 - 1) / 256 = m := ⟨_, rfl⟩
    rw [hm] at hlo6
    have hll : ((List.range m).map fun t : Nat => V.int (t * 256 : Nat)).length = m := by rw [List.length_map, List.length_range]
    k_is
    refine ⟨lo, rfl, ⟨_, SqL.of hlo6⟩, ?_⟩
    refine lc_list (xs := (List.range m).map fun t : Nat => V.int (t * 256 : Nat)) (SqL.of hlo6) (fun i => (List.range i).map fun t : Nat => V.int (bgH l t)) rfl (fun i hi => ?_) (fun i y H7 R A hy s7 _ hA => ?_) (fun D7 H7 hD7 s7 h7 => ?_)
    · rw [List.length_map, List.length_range]
      exact small20000 (by omega)
    · have hi : i < m := by have := at_lt hy; rw [hll] at this; exact this
      rw [List.getElem?_map, List.getElem?_range hi] at hy
      obtain rfl : y = V.int (i * 256 : Nat) := (Option.some.inj hy).symm
      k_is
      refine ⟨x, dx, _, rfl, s7 _ _ hx6, rfl, ?_⟩
      k_is
      refine ⟨x, dx, c, _, l, i * 256, rfl, s7 _ _ hx6, rfl, rfl, hC6.same s7, by omega, fun H8 s8 => ?_⟩
      refine hA _ _ ?_ s8
      rw [List.range_succ, List.map_append]
      rfl
    rw [hll] at h7
    have hx7 := s7 _ _ hx6
    have hB7 := hB6.same s7
    have hC7 := hC6.same s7
    have but7 := but6.trans s7.but
    have hlo7 := s7 _ _ hlo6
    have hbl : ((List.range m).map fun t : Nat => V.int (bgH l t)).length = m := by rw [List.length_map, List.length_range]
    k_is
    refine ⟨lo, D7, rfl, ⟨_, SqL.of hlo7⟩, ⟨_, SqL.of h7⟩, ?_⟩
    refine lc_zipN (SqL.of hlo7) (SqL.of h7) (fun D i zs H' => ∃ rs : List Addr, zs = rs.map V.ref ∧ rs.length = i ∧ ∀ (j : Nat) r, rs[j]? = some r → r ≠ D ∧ H' r = some (.lst ((hSeg l j).map V.int))) (fun D H' _ _ => ⟨[], rfl, rfl, fun j r e => by cases e⟩) ?_ ?_ ?_ ?_ ?_
    · rintro D i zs H' us o hD ⟨rs, e1, e2, e3⟩
      exact ⟨rs, e1, e2, fun j r e => ⟨(e3 j r e).1, by rw [upd_ne (e3 j r e).1]; exact (e3 j r e).2⟩⟩
    · rintro D i zs H' hi ⟨rs, rfl, e2, e3⟩
      rw [List.length_map, e2]
      rw [hll, hbl] at hi
      exact small20000 (by omega)
    · rintro D i zs H' H'' s ⟨rs, e1, e2, e3⟩
      exact ⟨rs, e1, e2, fun j r e => ⟨(e3 j r e).1, s _ _ (e3 j r e).2⟩⟩
    · intro D i zs y y2 H8 A R hy hy2 s8 hD0 hD8 hPv hA
      obtain ⟨rs, rfl, e2, e3⟩ := hPv
      have hi : i < m := by have := at_lt hy; rw [hll] at this; exact this
      rw [List.getElem?_map, List.getElem?_range hi] at hy hy2
      obtain rfl : y = V.int (i * 256 : Nat) := (Option.some.inj hy).symm
      obtain rfl : y2 = V.int (bgH l i) := (Option.some.inj hy2).symm
      k_is
      refine ⟨_, rfl, Nat.le_of_lt (small20000 (by rw [signs_len]; omega)), ?_⟩
      k_is
      have ec : cutS (signs l) (some ((i * 256 : Nat) : Int)) (some (((i * 256 : Nat) : Int) + 256)) = signs (sgH l i) := by
        have := cut_signs l (i * 256) (i * 256 + 256)
        rw [Nat.add_sub_cancel_left] at this
        exact this
      rw [ec]
      refine ⟨sgH l i, bgH l i, rfl, sgH_len l i, fun p H9 s9 hp h9 => ?_⟩
      refine hA _ _ s9 ⟨rs ++ [p], by rw [List.map_append]; rfl, by rw [List.length_append, e2]; rfl, fun j r e => ?_⟩
      by_cases hj : j < rs.length
      · rw [List.getElem?_append_left hj] at e
        exact ⟨(e3 j r e).1, s9 _ _ (e3 j r e).2⟩
      · have hj2 := at_lt e
        rw [List.length_append] at hj2
        have hj3 : j = rs.length := by simp at hj2; omega
        subst hj3
        rw [List.getElem?_append_right (Nat.le_refl _), Nat.sub_self] at e
        obtain rfl : p = r := Option.some.inj e
        rw [e2]
        exact ⟨(ne_of_none hD8 hp).symm, h9⟩
    · intro D8 zs H8 hD8 s8 hPv h8
      obtain ⟨rs, rfl, e2, e3⟩ := hPv
      rw [hll, hbl, Nat.min_self] at e2
      have hx8 := s8 _ _ hx7
      have hB8 := hB7.same s8
      have hC8 := hC7.same s8
      have but8 := but7.trans s8.but
      have h78 := s8 _ _ h7
      have hrl : (rs.map V.ref).length = m := by rw [List.length_map, e2]
      have hne : ∀ i, i < m → hSeg l i ≠ [] := fun i hi e => by
        have e := congrArg List.length e
        unfold hSeg htB hts sgH at e
        simp at e
        omega
      k_is
      refine ⟨D7, D8, rfl, ⟨_, SqL.of h78⟩, ⟨_, SqL.of h8⟩, ?_⟩
      refine lc_zipN (SqL.of h78) (SqL.of h8) (fun D i zs H' => ∃ ts : List Addr, zs = ts.map V.ref ∧ ts.length = i ∧ ∀ (j : Nat) r, ts[j]? = some r → TabRow l H' r j) (fun D H' _ _ => ⟨[], rfl, rfl, fun j r e => by cases e⟩) ?_ ?_ ?_ ?_ ?_
      · rintro D i zs H' us o hD ⟨ts, e1, e2, e3⟩
        refine ⟨ts, e1, e2, fun j r e => ?_⟩
        obtain ⟨mn, mx, h1, h2⟩ := e3 j r e
        exact ⟨mn, mx, by rw [upd_ne (fun z => by rw [z, hD] at h1; cases h1)]; exact h1, h2⟩
      · rintro D i zs H' hi ⟨ts, rfl, e2, e3⟩
        rw [hbl, hrl] at hi
        rw [List.length_map, e2]
        exact small20000 (by omega)
      · rintro D i zs H' H'' s ⟨ts, e1, e2, e3⟩
        refine ⟨ts, e1, e2, fun j r e => ?_⟩
        obtain ⟨mn, mx, h1, h2⟩ := e3 j r e
        exact ⟨mn, mx, s _ _ h1, h2⟩
      · intro D i zs y y2 H9 A R hy hy2 s9 hD0 hD9 hPv hA
        obtain ⟨ts, rfl, ts2, ts3⟩ := hPv
        have hi : i < m := by have := at_lt hy; rw [hbl] at this; exact this
        rw [List.getElem?_map, List.getElem?_range hi] at hy
        obtain rfl : y = V.int (bgH l i) := (Option.some.inj hy).symm
        have er : rs[i]? = some (rs[i]'(by omega)) := List.getElem?_eq_getElem _
        generalize rs[i]'(by omega) = r at er
        rw [List.getElem?_map, er] at hy2
        obtain rfl : y2 = V.ref r := (Option.some.inj hy2).symm
        have hr9 := s9 _ _ (e3 i r er).2
        k_is
        refine ⟨r, hSeg l i, rfl, SqL.of hr9, hne i hi, fun mn hmn => ?_⟩
        k_is
        refine ⟨r, hSeg l i, rfl, SqL.of hr9, hne i hi, fun mx hmx => ?_⟩
        k_is
        refine ⟨few (by simp), fun tp htp => ?_⟩
        refine hA _ _ (same_upd htp) ⟨ts ++ [tp], by rw [List.map_append]; rfl, by rw [List.length_append, ts2]; rfl, fun j q e => ?_⟩
        by_cases hj : j < ts.length
        · rw [List.getElem?_append_left hj] at e
          obtain ⟨mn', mx', h1, h2⟩ := ts3 j q e
          exact ⟨mn', mx', same_upd htp _ _ h1, h2⟩
        · have hj2 := at_lt e
          rw [List.length_append] at hj2
          have hj3 : j = ts.length := by simp at hj2; omega
          subst hj3
          rw [List.getElem?_append_right (Nat.le_refl _), Nat.sub_self] at e
          obtain rfl : tp = q := Option.some.inj e
          rw [ts2]
          exact ⟨mn, mx, upd_same, hmn, hmx⟩
      · intro D9 zs H9 hD9 s9 hPv h9
        rw [hbl, hrl, Nat.min_self] at hPv
        obtain ⟨ts, rfl, ts2, ts3⟩ := hPv
        have hx9 := s9 _ _ hx8
        have hB9 := hB8.same s9
        have hC9 := hC8.same s9
        have but9 := but8.trans s9.but
        have h89 := s9 _ _ h8
        k_is
        refine ⟨_, rfl, Nat.le_of_lt (small20000 (by rw [signs_len]; omega)), ?_⟩
        rw [signs_len]
        k_is
        refine ⟨D9, _, rfl, .inl ⟨SqL.of h9, fun tq htq => ?_⟩⟩
        have s10 := same_upd (o := .tup (ts.map V.ref)) htq
        have hx10 := s10 _ _ hx9
        have hB10 := hB9.same s10
        have hC10 := hC9.same s10
        have but10 := but9.trans s10.but
        have h810 := s10 _ _ h89
        have e310 : ∀ (j : Nat) r, rs[j]? = some r → upd H9 tq (.tup (ts.map V.ref)) r = some (.lst ((hSeg l j).map V.int)) := fun j r e => s10 _ _ (s9 _ _ (e3 j r e).2)
        have hTab10 : TabAt l (upd H9 tq (.tup (ts.map V.ref))) tq := ⟨ts, upd_same, by rw [ts2, hm], fun j r e => by
          obtain ⟨mn, mx, h1, h2⟩ := ts3 j r e
          exact ⟨mn, mx, s10 _ _ h1, h2⟩⟩
        generalize upd H9 tq (.tup (ts.map V.ref)) = H10 at *
        k_is
        refine ⟨D8, rfl, ⟨_, SqL.of h810⟩, ?_⟩
        refine lc_listN (SqL.of h810) (fun i ys H' => ys.length = i) (fun _ _ => rfl) (fun i ys H' D zs o _ h => h) (fun i ys H' hi h => ?_) ?_ ?_
        · rw [hrl] at hi
          rw [h]
          exact small20000 (by omega)
        · intro i ys y H11 A R hy s11 hPv hA
          have hi : i < m := by have := at_lt hy; rw [hrl] at this; exact this
          have er : rs[i]? = some (rs[i]'(by omega)) := List.getElem?_eq_getElem _
          generalize rs[i]'(by omega) = r at er
          rw [List.getElem?_map, er] at hy
          obtain rfl : y = V.ref r := (Option.some.inj hy).symm
          have hr := s11 _ _ (e310 i r er)
          k_is
          refine ⟨.inl ⟨rfl, _, SqL.of hr⟩, ?_⟩
          k_is
          refine ⟨r, hSeg l i, rfl, SqL.of hr, hne i hi, fun mn _ => ?_⟩
          k_is
          refine ⟨r, _, _, rfl, rfl, hr, flat_ints _, rfl, ?_⟩
          exact hA _ _ (Same.refl _) (by rw [List.length_append, hPv]; rfl)
        · intro D12 ys H12 hD12 s12 hPv h12
          have hx12 := s12 _ _ hx10
          k_is
          refine ⟨x, dx, .ref b, .ref c, .int (l.length : Nat), .ref tq, .ref D12, rfl, hx12, ?_⟩
          exact q _ ((but10.trans s12.but).trans sameBut_upd) ⟨dx, b, c, tq, _, upd_same, isBits_but sameBut_upd (notSq_ins hx12) nbx (hB10.same s12), isCounts_but sameBut_upd (notSq_ins hx12) ncx (hC10.same s12), (hTab10.same s12).keep (fun b2 xs e => by rw [upd_ne (fun z => by rw [z, hx12] at e; cases e)]; exact e), hV, hl⟩
theorem hgt_occ (l : List Bool) (i : Nat) : 2 * ((occ true l i).length : Int) - (i : Int) = hgt l i := by
 unfold hgt
 rw [(occ_cnt l i).1]
 rfl
theorem hgt_seg (l : List Bool) (a m j : Nat) (hj : j ≤ m) : hgt l a + hgt ((l.drop a).take m) j = hgt l (a + j) := by
 unfold hgt
 rw [List.take_add, List.count_append, List.take_take, Nat.min_eq_left hj]
 omega
def hw (l : List Bool) (lo hi : Nat) : List Int := (List.range (hi - lo)).map fun j => hgt l (lo + j + 1)
theorem hw_len (l : List Bool) (lo hi : Nat) : (hw l lo hi).length = hi - lo := by unfold hw; rw [List.length_map, List.length_range]
theorem hw_at {l : List Bool} {lo hi j : Nat} (h : j < hi - lo) : (hw l lo hi)[j]? = some (hgt l (lo + j + 1)) := by unfold hw; rw [List.getElem?_map, List.getElem?_range h]; rfl
theorem hw_of {l : List Bool} {lo hi : Nat} {x : Int} (h : x ∈ hw l lo hi) : ∃ i, lo < i ∧ i ≤ hi ∧ hgt l i = x := by
 unfold hw at h
 obtain ⟨j, hj, e⟩ := List.mem_map.mp h
 have := List.mem_range.mp hj
 exact ⟨lo + j + 1, by omega, by omega, e⟩
theorem hw_mem {l : List Bool} {lo hi i : Nat} (h1 : lo < i) (h2 : i ≤ hi) : hgt l i ∈ hw l lo hi := by
 unfold hw
 exact List.mem_map.mpr ⟨i - lo - 1, List.mem_range.mpr (by omega), by rw [show lo + (i - lo - 1) + 1 = i by omega]⟩
theorem htB_hw {l : List Bool} {lo hi : Nat} (h1 : lo ≤ hi) (h2 : hi ≤ l.length) : htB ((l.drop lo).take (hi - lo)) (hgt l lo) ((l.drop lo).take (hi - lo)).length = hw l lo hi := by
 have e : ((l.drop lo).take (hi - lo)).length = hi - lo := by rw [List.length_take, List.length_drop]; omega
 rw [e]
 unfold htB hts hw
 rw [List.map_map]
 refine List.map_congr_left fun j hj => ?_
 have := List.mem_range.mp hj
 show hgt l lo + hgt ((l.drop lo).take (hi - lo)) (j + 1) = _
 rw [hgt_seg l lo (hi - lo) (j + 1) (by omega)]
 rfl
theorem bgH_eq (l : List Bool) (t : Nat) : bgH l t = hgt l (t * 256) := hgt_occ l (t * 256)
def endN (l : List Bool) (t : Nat) : Nat := min ((t + 1) * 256) l.length
theorem hSeg_eq {l : List Bool} {t : Nat} (h : t * 256 ≤ l.length) : hSeg l t = hw l (t * 256) (endN l t) := by
 have e : sgH l t = (l.drop (t * 256)).take (endN l t - t * 256) := by
  unfold sgH endN
  by_cases h2 : (t + 1) * 256 ≤ l.length
  ·rw [Nat.min_eq_left h2, show (t + 1) * 256 - t * 256 = 256 by omega]
  ·rw [Nat.min_eq_right (by omega), List.take_of_length_le (by rw [List.length_drop]; omega), List.take_of_length_le (by rw [List.length_drop]; exact Nat.le_refl _)]
 unfold hSeg
 rw [e, bgH_eq]
 exact htB_hw (by unfold endN; omega) (by unfold endN; omega)
def spPTable (K : PySem.W.Frag) (CB CC CP : Addr) : Sp := fun vs H Q _ => ∃ (x : Addr) (l : List Bool), vs = [.ref x] ∧ IsPairs K CB CC CP H x l ∧ ∀ t, TabAt l H t → Q (.ref t) H
theorem Jw {f : Addr} {fd : FuncData} (F : Fun K "table" "Pairs.table" Wg f fd) (T : Txt K mg Qc Qb Qd Qi Qe Qg) (Z : Qj K Qa) : FnOk P w K mg base CX0 1 f fd ["self"] (spPTable K Qh Qf Qa) := by
 refine F.ok Jy (fun vs H Q E h => ?_) (fun cdv A outer s H vs Q E hr h => ?_)
 ·obtain ⟨x, l, rfl, _⟩ := h
  rfl
 ·obtain ⟨x, l, rfl, ⟨dx, b, c, t, o, hx, _, _, hT, _⟩, q⟩ := h
  refine ⟨_, (pss_one (ps_ret (pe_fld (pv 0) rfl))), ?_⟩
  k_is
  exact ⟨x, Qa, dx, _, _, rfl, hx, Z.cl, Z.n_kept_table, rfl, q t hT⟩
def spStretchAt : Sp := fun vs H Q _ => ∃ (x : V) (p : Nat), vs = [x, .int p] ∧ Q (.int ((p / 256 : Nat) : Int)) H
theorem Yu {f : Addr} {fd : FuncData} (F : Fun K "stretch_at" "Pairs.stretch_at" Qz f fd) (T : Txt K mg Qc Qb Qd Qi Qe Qg) (Z : Qj K Qa) : FnOk P w K mg base CX0 1 f fd ["self", "place"] spStretchAt := by
 refine F.ok Yw (fun vs H Q E h => ?_) (fun cdv A outer s H vs Q E hr h => ?_)
 ·obtain ⟨x, p, rfl, _⟩ := h
  rfl
 ·obtain ⟨x, p, rfl, q⟩ := h
  refine ⟨_, (pss_one (ps_ret (pe_op op_fdiv (pv 1) (pe_globI rfl T.g_STRETCH_BITS)))), ?_⟩
  k_is
  rw [show ((p : Int) / 256) = ((p / 256 : Nat) : Int) by omega]
  exact q
def spBeginOf (K : PySem.W.Frag) (CB CC CP : Addr) : Sp := fun vs H Q _ => ∃ (x : Addr) (l : List Bool) (n : Nat), vs = [.ref x, .int n] ∧ IsPairs K CB CC CP H x l ∧ Q (.int ((min (n * 256) l.length : Nat) : Int)) H
theorem Y6 {f : Addr} {fd : FuncData} (F : Fun K "begin_of" "Pairs.begin_of" Q6 f fd) (T : Txt K mg Qc Qb Qd Qi Qe Qg) (Z : Qj K Qa) : FnOk P w K mg base CX0 1 f fd ["self", "number"] (spBeginOf K Qh Qf Qa) := by
 refine F.ok Y8 (fun vs H Q E h => ?_) (fun cdv A outer s H vs Q E hr h => ?_)
 ·obtain ⟨x, l, n, rfl, _⟩ := h
  rfl
 ·obtain ⟨x, l, n, rfl, ⟨dx, b, c, t, o, hx, _⟩, q⟩ := h
  refine ⟨_, (pss_one (ps_ret (pe_callB (call_min2 rfl) (by rfl) T.n_min b_min (pa_d (pe_op op_mul (pv 1) (pe_globI rfl T.g_STRETCH_BITS)) (pa_d (pe_fld (pv 0) rfl) pa_nil rfl) rfl)))), ?_⟩
  k_is
  refine ⟨x, Qa, dx, _, _, rfl, hx, Z.cl, Z.n_length, rfl, ?_⟩
  k_is
  refine ⟨_, _, rfl, ?_⟩
  have e : (if (l.length : Int) < (n : Int) * 256 then (l.length : Int) else (n : Int) * 256) = ((min (n * 256) l.length : Nat) : Int) := by
   split <;> omega
  rw [e]
  exact q
def pM (lo hi : Nat) : Nat := if lo < hi then (hi - 1) / 256 - lo / 256 + 1 else 0
def loN (lo i : Nat) : Nat := if i = 0 then lo else (lo / 256 + i) * 256
def hiN (lo hi i : Nat) : Nat := if i = (hi - 1) / 256 - lo / 256 then hi else (lo / 256 + i + 1) * 256
def pLo (lo hi : Nat) : List Nat := (List.range (pM lo hi)).map (loN lo)
def pHi (lo hi : Nat) : List Nat := (List.range (pM lo hi)).map (hiN lo hi)
theorem pLo_len (lo hi : Nat) : (pLo lo hi).length = pM lo hi := by unfold pLo; rw [List.length_map, List.length_range]
theorem pHi_len (lo hi : Nat) : (pHi lo hi).length = pM lo hi := by unfold pHi; rw [List.length_map, List.length_range]
theorem part_ok {lo hi i : Nat} (h : i < pM lo hi) : lo ≤ loN lo i ∧ loN lo i < hiN lo hi i ∧ hiN lo hi i ≤ hi ∧ loN lo i / 256 = lo / 256 + i ∧ hiN lo hi i ≤ (lo / 256 + i + 1) * 256 ∧ lo < hi := by
 unfold pM at h
 split at h
 ·unfold loN hiN
  split <;> split <;> omega
 ·omega
theorem part_first {lo hi : Nat} (h : lo < hi) : loN lo 0 = lo ∧ 0 < pM lo hi := ⟨rfl, by unfold pM; rw [if_pos h]; omega⟩
theorem part_next {lo hi i : Nat} (h : i + 1 < pM lo hi) : hiN lo hi i = loN lo (i + 1) := by
 unfold pM at h
 split at h
 ·unfold loN hiN
  rw [if_neg (by omega), if_neg (by omega), Nat.add_assoc]
 ·omega
theorem part_last {lo hi i : Nat} (h : i + 1 = pM lo hi) : hiN lo hi i = hi := by
 unfold pM at h
 split at h
 ·unfold hiN
  rw [if_pos (by omega)]
 ·omega
def spParts (K : PySem.W.Frag) (CB CC CP : Addr) : Sp := fun vs H Q _ => ∃ (x : Addr) (l : List Bool) (lo : Nat) (hi : Int), vs = [.ref x, .int lo, .int hi] ∧ IsPairs K CB CC CP H x l ∧ hi ≤ (l.length : Int) ∧
 ∀ p as H', Same H H' → H p = none → H' p = some (.lst (as.map V.ref)) → PrsN H H' as (nV (pLo lo hi.toNat)) (nV (pHi lo hi.toNat)) → Q (.ref p) H'
theorem Ja {f : Addr} {fd : FuncData} (F : Fun K "parts" "Heights.parts" Q0 f fd) (T : Txt K mg Qc Qb Qd Qi Qe Qg) (Z : Qj K Qa) (Qm : Mth P w K mg base Qa "stretch_at" 1 ["self", "place"] spStretchAt) (Wp : Mth P w K mg base Qa "begin_of" 1 ["self", "number"] (spBeginOf K Qh Qf Qa)) : FnOk P w K mg base CX0 2 f fd ["self", "low", "high"] (spParts K Qh Qf Qa) := by
  refine F.ok W7 (fun vs H Q E h => ?_) (fun cdv A outer s H vs Q E hr h => ?_)
  · obtain ⟨x, l, lo, hi, rfl, _⟩ := h
    rfl
  · obtain ⟨x, l, lo, hi, rfl, hP, hl, q⟩ := h
    obtain ⟨dx, b, c, t, o, hx, _, _, _, _, hl8⟩ := id hP
    refine ⟨_, (pss_cons (ps_if (pt_cmpR op_ge (pv 1) (pv 2) (nomark _)) (pss_one (ps_ret (pe_lst pa_nil)))
      pss_nil)
      (pss_cons (ps_setlc (i := 3) rfl Yx W7.nd rfl rfl (pi_range2 rfl T.n_range (pa_d (pe_op op_add (pe_mt Qm (hr.mono (by decide : 1 ≤ _)) (pv 0) (pa_d (pv 1) pa_nil rfl)) pe_int) (pa_d (pe_op op_add (pe_mt Qm (hr.mono (by decide : 1 ≤ _)) (pv 0) (pa_d (pe_op op_sub (pv 2) pe_int) pa_nil rfl)) pe_int) pa_nil rfl) rfl)) (fun _ _ _ _ => pif_nil) (fun _ _ _ _ => (pe_mt Wp (hr.mono (by decide : 1 ≤ _)) (pv 1) (pa_d (pv 0) pa_nil rfl))))
      (pss_one (ps_ret (pe_lzip rfl rfl T.n_list rfl T.n_zip (pa_d (pe_op op_cat (pe_lst (pa_d (pv 1) pa_nil rfl)) (pv 3)) (pa_d (pe_op op_cat (pv 3) (pe_lst (pa_d (pv 2) pa_nil rfl))) pa_nil rfl) rfl)))))), ?_⟩
    k_is
    refine iteP (fun h0 => ?_) (fun h0 => ?_)
    · k_is
      refine ⟨Nat.zero_le _, fun p hp => ?_⟩
      have e : pM lo hi.toNat = 0 := by unfold pM; rw [if_neg (by omega)]
      refine q p [] _ (same_upd hp) hp upd_same ⟨?_, fun i t x y e => by cases e⟩
      unfold pLo
      rw [e]
      rfl
    · obtain ⟨hn, rfl⟩ : ∃ hn : Nat, hi = (hn : Int) := ⟨hi.toNat, by omega⟩
      rw [Int.toNat_natCast] at q
      have hlt : lo < hn := by omega
      obtain ⟨k1, hk1⟩ : ∃ k1, lo / 256 = k1 := ⟨_, rfl⟩
      obtain ⟨k2, hk2⟩ : ∃ k2, (hn - 1) / 256 = k2 := ⟨_, rfl⟩
      have hk12 : k1 ≤ k2 := by omega
      have hk33 : k2 ≤ 31 := by omega
      k_is
      refine ⟨x, dx, _, rfl, hx, rfl, ?_⟩
      k_is
      refine ⟨.ref x, lo, rfl, ?_⟩
      rw [hk1]
      k_is
      refine ⟨x, dx, _, rfl, hx, rfl, ?_⟩
      k_is
      refine ⟨.ref x, hn - 1, by rw [show ((hn - 1 : Nat) : Int) = (hn : Int) - 1 by omega]; rfl, ?_⟩
      rw [hk2]
      k_is
      refine ⟨_, _, rfl, ⟨by omega, by omega, by omega, by omega⟩, ?_⟩
      rw [show ((k2 : Int) + 1 - ((k1 : Int) + 1)).toNat = k2 - k1 by omega]
      refine lc_range (fun i => nV ((List.range i).map fun j => (k1 + 1 + j) * 256)) rfl (fun i hi => ?_) (fun i H1 R A hi s1 _ hA => ?_) (fun D1 H1 hD1 s1 h1 => ?_)
      · rw [nV_len, List.length_map, List.length_range]
        exact small20000 (by omega)
      · k_is
        refine ⟨x, dx, _, rfl, s1 _ _ hx, rfl, ?_⟩
        k_is
        refine ⟨x, l, k1 + 1 + i, by rw [show ((k1 + 1 + i : Nat) : Int) = (k1 : Int) + 1 + (i : Int) by omega]; rfl, hP.same s1, ?_⟩
        refine hA _ _ ?_ (Same.refl _)
        rw [Nat.min_eq_left (by omega), List.range_succ, List.map_append]
        unfold nV
        rw [List.map_append]
        rfl
      k_is
      refine ⟨few (by simp), fun a1 ha1 => ?_⟩
      have t1 := same_upd (o := .lst [V.int (lo : Int)]) ha1
      have e1 : upd H1 a1 (.lst [V.int (lo : Int)]) a1 = some (.lst [V.int (lo : Int)]) := upd_same
      have h12 := t1 _ _ h1
      have s2 := s1.trans t1
      generalize upd H1 a1 (.lst [V.int (lo : Int)]) = H2 at *
      obtain ⟨cs, hcs⟩ : ∃ cs, cs = (List.range (k2 - k1)).map fun j => (k1 + 1 + j) * 256 := ⟨_, rfl⟩
      have hcl : cs.length = k2 - k1 := by rw [hcs, List.length_map, List.length_range]
      rw [← hcs] at h12
      k_is
      refine ⟨a1, D1, _, _, rfl, rfl, e1, h12, Nat.le_of_lt (small20000 (by rw [nV_len, hcl, List.length_singleton]; omega)), fun a2 ha2 => ?_⟩
      have t2 := same_upd (o := .lst ([V.int (lo : Int)] ++ nV cs)) ha2
      have e2 : upd H2 a2 (.lst ([V.int (lo : Int)] ++ nV cs)) a2 = some (.lst (nV (lo :: cs))) := upd_same
      have h13 := t2 _ _ h12
      have s3 := s2.trans t2
      generalize upd H2 a2 (.lst ([V.int (lo : Int)] ++ nV cs)) = H3 at *
      k_is
      refine ⟨few (by simp), fun a3 ha3 => ?_⟩
      have t3 := same_upd (o := .lst [V.int (hn : Int)]) ha3
      have e3 : upd H3 a3 (.lst [V.int (hn : Int)]) a3 = some (.lst [V.int (hn : Int)]) := upd_same
      have h14 := t3 _ _ h13
      have e23 := t3 _ _ e2
      have s4 := s3.trans t3
      generalize upd H3 a3 (.lst [V.int (hn : Int)]) = H4 at *
      k_is
      refine ⟨D1, a3, _, _, rfl, rfl, h14, e3, Nat.le_of_lt (small20000 (by rw [nV_len, hcl, List.length_singleton]; omega)), fun a4 ha4 => ?_⟩
      have t4 := same_upd (o := .lst (nV cs ++ [V.int (hn : Int)])) ha4
      have e4 : upd H4 a4 (.lst (nV cs ++ [V.int (hn : Int)])) a4 = some (.lst (nV (cs ++ [hn]))) := by rw [upd_same, ← nV_app]; rfl
      have e24 := t4 _ _ e23
      have s5 := s4.trans t4
      generalize upd H4 a4 (.lst (nV cs ++ [V.int (hn : Int)])) = H5 at *
      have hpm : pM lo hn = k2 - k1 + 1 := by unfold pM; rw [if_pos hlt, hk1, hk2]
      have eLo : lo :: cs = pLo lo hn := by
        refine List.ext_getElem? fun i => ?_
        unfold pLo
        rw [hpm]
        by_cases hi : i < k2 - k1 + 1
        · rw [List.getElem?_map, List.getElem?_range hi]
          cases i with
          | zero => rfl
          | succ i =>
            rw [List.getElem?_cons_succ, hcs, List.getElem?_map, List.getElem?_range (by omega)]
            show some ((k1 + 1 + i) * 256) = some ((lo / 256 + (i + 1)) * 256)
            rw [hk1, show k1 + 1 + i = k1 + (i + 1) by omega]
        · rw [List.getElem?_eq_none (by rw [List.length_cons, hcl]; omega), List.getElem?_eq_none (by rw [List.length_map, List.length_range]; omega)]
      have eHi : cs ++ [hn] = pHi lo hn := by
        refine List.ext_getElem? fun i => ?_
        unfold pHi
        rw [hpm]
        by_cases hi : i < k2 - k1 + 1
        · rw [List.getElem?_map, List.getElem?_range hi]
          show _ = some (hiN lo hn i)
          unfold hiN
          rw [hk1, hk2]
          by_cases h2 : i = k2 - k1
          · rw [if_pos h2, List.getElem?_append_right (by omega), h2, hcl, Nat.sub_self]
            rfl
          · rw [if_neg h2, List.getElem?_append_left (by omega), hcs, List.getElem?_map, List.getElem?_range (by omega)]
            show some ((k1 + 1 + i) * 256) = _
            rw [show k1 + 1 + i = k1 + i + 1 by omega]
        · rw [List.getElem?_eq_none (by rw [List.length_append, hcl, List.length_singleton]; omega), List.getElem?_eq_none (by rw [List.length_map, List.length_range]; omega)]
      rw [eLo] at e24
      rw [eHi] at e4
      k_is
      refine ⟨a2, a4, _, _, rfl, SqL.of e24, SqL.of e4, by rw [nV_len, nV_len, pLo_len, pHi_len], fun p as H6 s6 hp0 hp hN => ?_⟩
      refine q p as H6 (s5.trans s6) (s5.free hp0) hp ⟨hN.1, fun i t' x' y' g1 g2 g3 => ?_⟩
      obtain ⟨n1, n2⟩ := hN.2 i t' x' y' g1 g2 g3
      exact ⟨s5.free n1, n2⟩
def spMayMeet (K : PySem.W.Frag) (CB CC CP : Addr) : Sp := fun vs H Q _ => ∃ (x : Addr) (l : List Bool) (lo : Nat) (h : Int), vs = [.ref x, .int lo, .int h] ∧ IsPairs K CB CC CP H x l ∧ lo < l.length ∧ ∀ b : Bool, (b = false → ∀ i, lo / 256 * 256 < i → i ≤ endN l (lo / 256) → hgt l i ≠ h) → Q (.bl b) H
theorem Ys {f : Addr} {fd : FuncData} (F : Fun K "may_meet" "Heights.may_meet" Qx f fd) (T : Txt K mg Qc Qb Qd Qi Qe Qg) (Z : Qj K Qa) (Qm : Mth P w K mg base Qa "stretch_at" 1 ["self", "place"] spStretchAt) : FnOk P w K mg base CX0 2 f fd ["self", "low", "height"] (spMayMeet K Qh Qf Qa) := by
  refine F.ok W3 (fun vs H Q E h => ?_) (fun cdv A outer s H vs Q E hr h => ?_)
  · obtain ⟨x, l, lo, h, rfl, _⟩ := h
    rfl
  · obtain ⟨x, l, lo, h, rfl, hP, hl, q⟩ := h
    obtain ⟨dx, b, c, t, o, hx, _, _, ⟨rs, ht, hrl, hrs⟩, _, hl8⟩ := id hP
    refine ⟨_, (pss_cons (ps_set (i := 3) W3.nd rfl (Or.inl rfl) (pe_ix ix_tup (pe_fld (pv 0) rfl) (pe_mt Qm (hr.mono (by decide : 1 ≤ _)) (pv 0) (pa_d (pv 1) pa_nil rfl)) (fun _ _ => rfl)))
      (pss_one (ps_ret (pe_chain op_le op_le (pe_ix ix_tup (pv 3) pe_int (fun _ _ => rfl)) (pv 2) (pe_ix ix_tup (pv 3) pe_int (fun _ _ => rfl)))))), ?_⟩
    k_is
    refine ⟨x, Qa, dx, _, _, rfl, hx, Z.cl, Z.n_kept_table, rfl, ?_⟩
    k_is
    refine ⟨x, dx, _, rfl, hx, rfl, ?_⟩
    k_is
    refine ⟨.ref x, lo, rfl, ?_⟩
    have hj : lo / 256 < rs.length := by omega
    obtain ⟨mn, mx, hr1, hmn, hmx⟩ := hrs _ _ (List.getElem?_eq_getElem hj)
    rw [hSeg_eq (by omega)] at hmn hmx
    k_is
    refine r_ixT (SqT.of ht) (atI_nat (by rw [List.getElem?_map, List.getElem?_eq_getElem hj]; rfl)) ?_
    k_is
    refine r_ixT (SqT.of hr1) (v := .int mn) rfl ?_
    k_is
    by_cases h1 : mn ≤ h
    · rw [decide_eq_true h1]
      k_is
      refine r_ixT (SqT.of hr1) (v := .int mx) rfl ?_
      k_is
      refine q _ fun hb i hi1 hi2 he => ?_
      have := hmx.2 _ (hw_mem (l := l) hi1 hi2)
      rw [he] at this
      rw [decide_eq_true this] at hb
      cases hb
    · rw [decide_eq_false h1]
      k_is
      refine q false fun _ i hi1 hi2 he => ?_
      have := hmn.2 _ (hw_mem (l := l) hi1 hi2)
      omega
def spHWithin (K : PySem.W.Frag) (CB CC CP : Addr) : Sp := fun vs H Q _ => ∃ (x : Addr) (l : List Bool) (lo hi : Nat), vs = [.ref x, .int lo, .int hi] ∧ IsPairs K CB CC CP H x l ∧ lo ≤ hi ∧ hi ≤ l.length ∧ hi - lo ≤ 1000 ∧ ∀ p H', Same H H' → H p = none → H' p = some (.lst ((hw l lo hi).map V.int)) → Q (.ref p) H'
theorem W5 {f : Addr} {fd : FuncData} (F : Fun K "heights_within" "Heights.heights_within" Ql f fd) (T : Txt K mg Qc Qb Qd Qi Qe Qg) (Z : Qj K Qa) (c_heights_of : Cal P w K mg base "heights_of" 1 ["text", "begin"] spHeightsB) (W2 : Mth P w K mg base Qa "stretch" 6 ["self", "low", "high"] (spPStretch K Qh Qa)) (Qn : Mth P w K mg base Qa "height" 6 ["self", "place"] (spHeight K Qf Qa)) : FnOk P w K mg base CX0 7 f fd ["self", "low", "high"] (spHWithin K Qh Qf Qa) := by
 refine F.ok W6 (fun vs H Q E h => ?_) (fun cdv A outer s H vs Q E hr h => ?_)
 ·obtain ⟨x, l, lo, hi, rfl, _⟩ := h
  rfl
 ·obtain ⟨x, l, lo, hi, rfl, hP, h1, h2, h3, q⟩ := h
  obtain ⟨dx, b, c, t, o, hx, hB, hC, _⟩ := id hP
  refine ⟨_, (pss_one (ps_ret (pe_fn c_heights_of (hr.mono (by decide : 1 ≤ _)) (pa_d (pe_mt W2 (hr.mono (by decide : 6 ≤ _)) (pv 0) (pa_d (pv 1) (pa_d (pv 2) pa_nil rfl) rfl)) (pa_d (pe_mt Qn (hr.mono (by decide : 6 ≤ _)) (pv 0) (pa_d (pv 1) pa_nil rfl)) pa_nil rfl) rfl)))), ?_⟩
  k_is
  refine ⟨x, dx, _, rfl, hx, rfl, ?_⟩
  k_is
  refine ⟨x, dx, b, _, l, lo, hi, rfl, hx, rfl, hB, h1, h2, fun H1 s1 => ?_⟩
  k_is
  refine ⟨x, dx, _, rfl, s1 _ _ hx, rfl, ?_⟩
  k_is
  refine ⟨x, dx, c, _, l, lo, rfl, s1 _ _ hx, rfl, rfl, hC.same s1, by omega, fun H2 s2 => ?_⟩
  rw [hgt_occ]
  k_is
  refine ⟨(l.drop lo).take (hi - lo), hgt l lo, rfl, by rw [List.length_take]; omega, fun p H3 s3 hp0 hp => ?_⟩
  rw [htB_hw h1 h2] at hp
  have s12 := s1.trans s2
  exact q p H3 (s12.trans s3) (s12.free hp0) hp
def IsNxt (l : List Bool) (lo hi : Nat) (h : Int) : Option Nat → Prop
 | some j => lo < j ∧ j ≤ hi ∧ hgt l j = h ∧ ∀ i, lo < i → i < j → hgt l i ≠ h
 | none => ∀ i, lo < i → i ≤ hi → hgt l i ≠ h
def IsLst (l : List Bool) (lo hi : Nat) (h : Int) : Option Nat → Prop
 | some j => lo < j ∧ j ≤ hi ∧ hgt l j = h ∧ ∀ i, j < i → i ≤ hi → hgt l i ≠ h
 | none => ∀ i, lo < i → i ≤ hi → hgt l i ≠ h
def optN : Option Nat → V
 | some j => .int (j : Nat)
 | none => .non
theorem first_at : ∀ {ns : List Int} {x : Int}, x ∈ ns → ∃ j : Nat, ns[j]? = some x ∧ ∀ i : Nat, i < j → ns[i]? ≠ some x
 | y :: ns, x, h => by
  by_cases e : y = x
  ·exact ⟨0, by rw [e]; rfl, fun i hi => absurd hi (Nat.not_lt_zero _)⟩
  ·obtain ⟨j, h1, h2⟩ := first_at (List.mem_of_ne_of_mem (fun z => e z.symm) h)
   refine ⟨j + 1, h1, fun i hi => ?_⟩
   cases i with
   | zero => exact fun z => e (Option.some.inj z)
   | succ i => exact h2 i (by omega)
theorem in_ints {w : List Int} {e : Int} : inV (.int e) (w.map V.int) = decide (e ∈ w) := by
 unfold inV
 rw [List.any_map]
 by_cases h : e ∈ w
 ·rw [decide_eq_true h, List.any_eq_true]
  exact ⟨e, h, by simp [eqV]⟩
 ·rw [decide_eq_false h]
  refine Bool.eq_false_iff.mpr fun hc => ?_
  obtain ⟨x, hx, hxe⟩ := List.any_eq_true.mp hc
  have : x = e := by simpa [eqV] using hxe
  exact h (this ▸ hx)
def spNextW (K : PySem.W.Frag) (CB CC CP : Addr) : Sp := fun vs H Q _ => ∃ (x : Addr) (l : List Bool) (lo hi : Nat) (h : Int), vs = [.ref x, .int lo, .int hi, .int h] ∧ IsPairs K CB CC CP H x l ∧ lo ≤ hi ∧ hi ≤ l.length ∧ hi - lo ≤ 1000 ∧ ∀ r H', IsNxt l lo hi h r → Same H H' → Q (optN r) H'
theorem Yg {f : Addr} {fd : FuncData} (F : Fun K "next_within" "Heights.next_within" Qq f fd) (T : Txt K mg Qc Qb Qd Qi Qe Qg) (Z : Qj K Qa) (Qu : Mth P w K mg base Qa "heights_within" 7 ["self", "low", "high"] (spHWithin K Qh Qf Qa)) : FnOk P w K mg base CX0 8 f fd ["self", "low", "high", "height"] (spNextW K Qh Qf Qa) := by
  refine F.ok Wy (fun vs H Q E h => ?_) (fun cdv A outer s H vs Q E hr h => ?_)
  · obtain ⟨x, l, lo, hi, h, rfl, _⟩ := h
    rfl
  · obtain ⟨x, l, lo, hi, h, rfl, hP, h1, h2, h3, q⟩ := h
    obtain ⟨dx, b, c, t, o, hx, _⟩ := id hP
    refine ⟨_, (pss_cons (ps_set (i := 4) Wy.nd rfl (Or.inl rfl) (pe_mt Qu (hr.mono (by decide : 7 ≤ _)) (pv 0) (pa_d (pv 1) (pa_d (pv 2) pa_nil rfl) rfl)))
      (pss_one (ps_ret (pe_ifExp (pt_cmpR op_in_seq (pv 3) (pv 4) rfl) (pe_op op_add (pe_op op_add (pv 1) pe_int) (pe_bm PySem.F.plainAttrs_list PySem.F.slot_list_index PySem.F.type_list_index mt_index (pv 4) (pa_d (pv 3) pa_nil rfl))) pe_non)))), ?_⟩
    k_is
    refine ⟨x, dx, _, rfl, hx, rfl, ?_⟩
    k_is
    refine ⟨x, l, lo, hi, rfl, hP, h1, h2, h3, fun p H1 s1 hp0 hp => ?_⟩
    k_is
    refine ⟨p, _, rfl, .inl (SqL.of hp), rfl, flat_ints _, ?_⟩
    rw [in_ints]
    by_cases hm : h ∈ hw l lo hi
    · rw [decide_eq_true hm, show (if false = true then !true else true) = true by decide]
      obtain ⟨j, hj, hno⟩ := first_at hm
      have hjl := at_lt hj
      rw [hw_len] at hjl
      k_is
      refine ⟨.inl ⟨rfl, _, SqL.of hp⟩, ?_⟩
      k_is
      refine ⟨p, _, h, j, rfl, rfl, hp, hj, hno, ?_⟩
      k_is
      rw [hw_at hjl] at hj
      have := q (some (lo + j + 1)) H1 ⟨by omega, by omega, Option.some.inj hj, fun i hi1 hi2 he => ?_⟩ s1
      · rw [show optN (some (lo + j + 1)) = V.int ((lo : Int) + 1 + (j : Int)) by show V.int _ = _; congr 1; omega] at this
        exact this
      · refine hno (i - lo - 1) (by omega) ?_
        rw [hw_at (by omega), show lo + (i - lo - 1) + 1 = i by omega, he]
    · rw [decide_eq_false hm, show (if false = true then !false else false) = false by decide]
      k_is
      exact q none H1 (fun i hi1 hi2 he => hm (he ▸ hw_mem hi1 hi2)) s1
def spLastW (K : PySem.W.Frag) (CB CC CP : Addr) : Sp := fun vs H Q _ => ∃ (x : Addr) (l : List Bool) (lo hi : Nat) (h : Int), vs = [.ref x, .int lo, .int hi, .int h] ∧ IsPairs K CB CC CP H x l ∧ lo ≤ hi ∧ hi ≤ l.length ∧ hi - lo ≤ 1000 ∧ ∀ r H', IsLst l lo hi h r → Same H H' → Q (optN r) H'
theorem Ye {f : Addr} {fd : FuncData} (F : Fun K "last_within" "Heights.last_within" Qp f fd) (T : Txt K mg Qc Qb Qd Qi Qe Qg) (Z : Qj K Qa) (Qu : Mth P w K mg base Qa "heights_within" 7 ["self", "low", "high"] (spHWithin K Qh Qf Qa)) : FnOk P w K mg base CX0 8 f fd ["self", "low", "high", "height"] (spLastW K Qh Qf Qa) := by
  refine F.ok Wx (fun vs H Q E h => ?_) (fun cdv A outer s H vs Q E hr h => ?_)
  · obtain ⟨x, l, lo, hi, h, rfl, _⟩ := h
    rfl
  · obtain ⟨x, l, lo, hi, h, rfl, hP, h1, h2, h3, q⟩ := h
    obtain ⟨dx, b, c, t, o, hx, _⟩ := id hP
    refine ⟨_, (pss_cons (ps_set (i := 4) Wx.nd rfl (Or.inl rfl) (pe_lrev (pe_mt Qu (hr.mono (by decide : 7 ≤ _)) (pv 0) (pa_d (pv 1) (pa_d (pv 2) pa_nil rfl) rfl))))
      (pss_one (ps_ret (pe_ifExp (pt_cmpR op_in_seq (pv 3) (pv 4) rfl) (pe_op op_sub (pv 2) (pe_bm PySem.F.plainAttrs_list PySem.F.slot_list_index PySem.F.type_list_index mt_index (pv 4) (pa_d (pv 3) pa_nil rfl))) pe_non)))), ?_⟩
    k_is
    refine ⟨x, dx, _, rfl, hx, rfl, ?_⟩
    k_is
    refine ⟨x, l, lo, hi, rfl, hP, h1, h2, h3, fun p H1 s1 hp0 hp => ?_⟩
    k_is
    refine ⟨p, _, rfl, SqL.of hp, fun p2 hp2 => ?_⟩
    have t2 := s1.trans (same_upd (o := .lst ((hw l lo hi).map V.int).reverse) hp2)
    have e2 : upd H1 p2 (.lst ((hw l lo hi).map V.int).reverse) p2 = some (.lst ((hw l lo hi).reverse.map V.int)) := by rw [upd_same, List.map_reverse]
    generalize upd H1 p2 (.lst ((hw l lo hi).map V.int).reverse) = H2 at *
    k_is
    refine ⟨p2, _, rfl, .inl (SqL.of e2), rfl, flat_ints _, ?_⟩
    rw [in_ints]
    by_cases hm : h ∈ (hw l lo hi).reverse
    · rw [decide_eq_true hm, show (if false = true then !true else true) = true by decide]
      obtain ⟨j, hj, hno⟩ := first_at hm
      have hjl := at_lt hj
      rw [List.length_reverse, hw_len] at hjl
      have rev : ∀ k, k < hi - lo → (hw l lo hi).reverse[k]? = some (hgt l (hi - k)) := fun k hk => by
        rw [List.getElem?_reverse (by rw [hw_len]; exact hk), hw_len, hw_at (by omega), show lo + (hi - lo - 1 - k) + 1 = hi - k by omega]
      k_is
      refine ⟨.inl ⟨rfl, _, SqL.of e2⟩, ?_⟩
      k_is
      refine ⟨p2, _, h, j, rfl, rfl, e2, hj, hno, ?_⟩
      k_is
      rw [rev j hjl] at hj
      have := q (some (hi - j)) H2 ⟨by omega, by omega, Option.some.inj hj, fun i hi1 hi2 he => ?_⟩ t2
      · rw [show optN (some (hi - j)) = V.int ((hi : Int) - (j : Int)) by show V.int _ = _; congr 1; omega] at this
        exact this
      · refine hno (hi - i) (by omega) ?_
        rw [rev _ (by omega), show hi - (hi - i) = i by omega, he]
    · rw [decide_eq_false hm, show (if false = true then !false else false) = false by decide]
      k_is
      exact q none H2 (fun i hi1 hi2 he => hm (List.mem_reverse.mpr (he ▸ hw_mem hi1 hi2))) t2
def spCheckH (K : PySem.W.Frag) (C : Addr) : Sp := fun vs H Q E => ∃ v : V, vs = [v] ∧ Any K H v ∧ (isI v = true → Q .non H) ∧ (isI v = false → E (.ref C) none H)
theorem ok_check_height {f : Addr} {fd : FuncData} (F : Fun K "check_height" "check_height" s_check_height f fd) (T : Txt K mg Qc Qb Qd Qi Qe Qg) (c_is_whole : Cal P w K mg base "is_whole" 1 ["thing"] (spWhole0 K)) : FnOk P w K mg base (CXE P w) 3 f fd ["height"] (spCheckH K Qe) := by
  refine F.okE sc_check_height (fun vs H Q E h => ?_) (fun cdv A outer s H vs Q E hr h => ?_)
  · obtain ⟨v, rfl, _⟩ := h
    rfl
  · obtain ⟨v, rfl, hv, q1, q2⟩ := h
    refine ⟨_, (pss_one (ps_if (pt_not (pt_val (pe_fn c_is_whole (hr.mono (by decide : 1 ≤ _)) (pa_d (pv 0) pa_nil rfl)))) (pss_one (ps_raise T.x_NoPlace rfl (pa_d pe_str pa_nil rfl)))
      pss_nil)), ?_⟩
    k_is
    refine ⟨v, rfl, hv, ?_⟩
    cases hi : isI v with
    | true =>
      k_is
      exact q1 hi
    | false =>
      k_is
      exact ⟨by decide, q2 hi⟩
def spNextAt (K : PySem.W.Frag) (CB CC CP : Addr) : Sp := fun vs H Q _ => ∃ (x : Addr) (l : List Bool) (p : Nat) (h : Int), vs = [.ref x, .int p, .int h] ∧ IsPairs K CB CC CP H x l ∧ p ≤ l.length ∧ ∀ r H', IsNxt l p l.length h r → Same H H' → Q (optN r) H'
def cov (lo hi i : Nat) : Nat := if i < pM lo hi then loN lo i else hi
theorem cov_next {lo hi i : Nat} (h : i < pM lo hi) : cov lo hi i = loN lo i ∧ cov lo hi (i + 1) = hiN lo hi i := by
 refine ⟨if_pos h, ?_⟩
 unfold cov
 by_cases h2 : i + 1 < pM lo hi
 ·rw [if_pos h2, part_next h2]
 ·rw [if_neg h2, part_last (by omega)]
theorem Y0 {f : Addr} {fd : FuncData} (F : Fun K "next_at" "Heights.next_at" Q2 f fd) (T : Txt K mg Qc Qb Qd Qi Qe Qg) (Z : Qj K Qa) (c_check_place : CalE P w K mg base "check_place" 3 ["place", "greatest"] (spCheckPlace K Qe)) (c_check_height : CalE P w K mg base "check_height" 3 ["height"] (spCheckH K Qe))
    (Wq : Mth P w K mg base Qa "parts" 2 ["self", "low", "high"] (spParts K Qh Qf Qa)) (Wz : Mth P w K mg base Qa "may_meet" 2 ["self", "low", "height"] (spMayMeet K Qh Qf Qa)) (Yq : Mth P w K mg base Qa "next_within" 8 ["self", "low", "high", "height"] (spNextW K Qh Qf Qa)) : FnOk P w K mg base CX0 9 f fd ["self", "place", "height"] (spNextAt K Qh Qf Qa) := by
  refine F.ok Wl (fun vs H Q E h => ?_) (fun cdv A outer s H vs Q E hr h => ?_)
  · obtain ⟨x, l, p, h, rfl, _⟩ := h
    rfl
  · obtain ⟨x, l, p, h, rfl, hP, hp, q⟩ := h
    obtain ⟨dx, b, c, t, o, hx, _, _, _, _, hl8⟩ := id hP
    refine ⟨_, (pss_cons (ps_expr (pe_fnE c_check_place (hr.mono (by decide : 3 ≤ _)) passE0 (pa_d (pv 1) (pa_d (pe_fld (pv 0) rfl) pa_nil rfl) rfl)))
      (pss_cons (ps_expr (pe_fnE c_check_height (hr.mono (by decide : 3 ≤ _)) passE0 (pa_d (pv 2) pa_nil rfl)))
      (pss_cons (ps_for PassesOwn.never rfl (pi_list (pe_mt Wq (hr.mono (by decide : 2 ≤ _)) (pv 0) (pa_d (pv 1) (pa_d (pe_fld (pv 0) rfl) pa_nil rfl) rfl))) (pg_tup rfl (pgs_cons (pg_name (i := 3) Wl.nd rfl (Or.inl rfl)) (pgs_cons (pg_name (i := 4) Wl.nd rfl (Or.inl rfl)) pgs_nil)))
      (pss_cons (ps_set (i := 5) Wl.nd rfl (Or.inl rfl) (pe_ifExp (pt_val (pe_mt Wz (hr.mono (by decide : 2 ≤ _)) (pv 0) (pa_d (pv 3) (pa_d (pv 2) pa_nil rfl) rfl))) (pe_mt Yq (hr.mono (by decide : 8 ≤ _)) (pv 0) (pa_d (pv 3) (pa_d (pv 4) (pa_d (pv 2) pa_nil rfl) rfl) rfl)) pe_non))
      (pss_one (ps_if (pt_cmp (pc_notN (pv 5))) (pss_one (ps_ret (pv 5)))
      pss_nil))))
      (pss_one (ps_ret pe_non))))), ?_⟩
    k_is
    refine ⟨x, Qa, dx, _, _, rfl, hx, Z.cl, Z.n_length, rfl, ?_⟩
    k_is
    refine ⟨.int p, _, rfl, any_int _, fun _ => ?_, fun e => ?_⟩
    · k_is
      refine ⟨.int h, rfl, any_int _, fun _ => ?_, fun e => by cases e⟩
      k_is
      refine ⟨x, dx, _, rfl, hx, rfl, ?_⟩
      k_is
      refine ⟨x, Qa, dx, _, _, rfl, hx, Z.cl, Z.n_length, rfl, ?_⟩
      k_is
      refine ⟨x, l, p, (l.length : Int), rfl, hP, Int.le_refl _, fun pa as H1 s1 hpa0 hpa hN => ?_⟩
      rw [Int.toNat_natCast] at hN
      have hP1 := hP.same s1
      have hal : as.length = pM p l.length := by rw [hN.1, nV_len, pLo_len]
      refine ⟨pa, rfl, ⟨_, SqL.of hpa⟩, ?_⟩
      refine for_pairs (as := as) (xs := nV (pLo p l.length)) (ys := nV (pHi p l.length)) hN.1 (by rw [hal, nV_len, pHi_len]) (fun i σ H2 => (∃ v3 v4 v5 : Option V, σ = [some (.ref x), some (.int (p : Nat)), some (.int h), v3, v4, v5]) ∧ Same H1 H2 ∧ ∀ k, p < k → k ≤ cov p l.length i → hgt l k ≠ h) ?_ (fun i σ H2 _ h => SqL.of (h.2.1 _ _ hpa)) (fun i t x y σ H2 e1 e2 e3 h => h.2.1 _ _ (hN.2 i t x y e1 e2 e3).2) ?_ ?_
      · refine ⟨⟨_, _, _, rfl⟩, Same.refl _, fun k hk1 hk2 => ?_⟩
        unfold cov at hk2
        split at hk2
        · exact absurd hk2 (by show ¬ k ≤ p; omega)
        · rename_i hz
          have : ¬ p < l.length := fun h => hz (part_first h).2
          omega
      · rintro i y y2 σ H2 hy hy2 ⟨⟨v3, v4, v5, rfl⟩, s2, hno⟩
        have hi : i < pM p l.length := by have := at_lt hy; rwa [nV_len, pLo_len] at this
        obtain ⟨ok1, ok2, ok3, ok4, ok5, ok6⟩ := part_ok hi
        obtain ⟨cv1, cv2⟩ := cov_next hi
        unfold nV pLo at hy
        unfold nV pHi at hy2
        rw [List.getElem?_map, List.getElem?_map, List.getElem?_range hi] at hy hy2
        obtain rfl : V.int ((loN p i : Nat) : Int) = y := Option.some.inj hy
        obtain rfl : V.int ((hiN p l.length i : Nat) : Int) = y2 := Option.some.inj hy2
        have hP2 := hP1.same s2
        have hx2 := s2 _ _ (s1 _ _ hx)
        have go : (∀ k, loN p i < k → k ≤ hiN p l.length i → hgt l k ≠ h) → ∀ k, p < k → k ≤ cov p l.length (i + 1) → hgt l k ≠ h := fun hh k k1 k2 => by
          by_cases k3 : k ≤ loN p i
          · exact hno k k1 (by rw [cv1]; exact k3)
          · exact hh k (by omega) (by rw [← cv2]; exact k2)
        k_is
        refine ⟨x, dx, _, rfl, hx2, rfl, ?_⟩
        k_is
        refine ⟨x, l, loN p i, h, rfl, hP2, by omega, fun bb hbb => ?_⟩
        cases bb with
        | true =>
          k_is
          refine ⟨x, dx, _, rfl, hx2, rfl, ?_⟩
          k_is
          refine ⟨x, l, loN p i, hiN p l.length i, h, rfl, hP2, by omega, ok3, by omega, fun r H3 hr3 s3 => ?_⟩
          cases r with
          | some j =>
            k_is
            obtain ⟨j1, j2, j3, j4⟩ := hr3
            refine q (some j) H3 ⟨by omega, by omega, j3, fun i' i1 i2 he => ?_⟩ ((s1.trans s2).trans s3)
            by_cases k3 : i' ≤ loN p i
            · exact hno i' i1 (by rw [cv1]; exact k3) he
            · exact j4 i' (by omega) i2 he
          | none =>
            k_is
            rw [show (!decide (optN none = V.non)) = false from rfl]
            k_is
            exact ⟨⟨_, _, _, rfl⟩, s2.trans s3, go hr3⟩
        | false =>
          k_is
          rw [show (!decide (V.non = V.non)) = false from rfl]
          k_is
          refine ⟨⟨_, _, _, rfl⟩, s2, go fun k k1 k2 => hbb rfl k (by omega) ?_⟩
          unfold endN
          omega
      · rintro σ H2 ⟨⟨v3, v4, v5, rfl⟩, s2, hno⟩
        rw [hal] at hno
        k_is
        refine q none H2 (fun i i1 i2 => hno i i1 ?_) (s1.trans s2)
        unfold cov
        rw [if_neg (Nat.lt_irrefl _)]
        exact i2
    · rw [inI_int] at e
      simp at e
      omega
def IsLastA (l : List Bool) (p : Nat) (h : Int) : Option Nat → Prop
 | some j => j < p ∧ hgt l j = h ∧ ∀ i, j < i → i < p → hgt l i ≠ h
 | none => ∀ i, i < p → hgt l i ≠ h
def spLastAt (K : PySem.W.Frag) (CB CC CP : Addr) : Sp := fun vs H Q _ => ∃ (x : Addr) (l : List Bool) (p : Nat) (h : Int), vs = [.ref x, .int p, .int h] ∧ IsPairs K CB CC CP H x l ∧ p ≤ l.length ∧ ∀ r H', IsLastA l p h r → Same H H' → Q (optN r) H'
def covR (hi i : Nat) : Nat := if i = 0 then hi else loN 0 (pM 0 hi - i)
theorem covR_next {hi i : Nat} (h : i < pM 0 hi) : covR hi i = hiN 0 hi (pM 0 hi - 1 - i) ∧ covR hi (i + 1) = loN 0 (pM 0 hi - 1 - i) := by
 unfold covR
 refine ⟨?_, ?_⟩
 ·by_cases h0 : i = 0
  ·rw [if_pos h0, part_last (by omega)]
  ·rw [if_neg h0, part_next (by omega), show pM 0 hi - 1 - i + 1 = pM 0 hi - i by omega]
 ·rw [if_neg (by omega), show pM 0 hi - (i + 1) = pM 0 hi - 1 - i by omega]
theorem hgt_zero (l : List Bool) : hgt l 0 = 0 := by unfold hgt; simp
theorem Yz {f : Addr} {fd : FuncData} (F : Fun K "last_at" "Heights.last_at" Q1 f fd) (T : Txt K mg Qc Qb Qd Qi Qe Qg) (Z : Qj K Qa) (c_check_place : CalE P w K mg base "check_place" 3 ["place", "greatest"] (spCheckPlace K Qe)) (c_check_height : CalE P w K mg base "check_height" 3 ["height"] (spCheckH K Qe))
    (Wq : Mth P w K mg base Qa "parts" 2 ["self", "low", "high"] (spParts K Qh Qf Qa)) (Wz : Mth P w K mg base Qa "may_meet" 2 ["self", "low", "height"] (spMayMeet K Qh Qf Qa)) (Yp : Mth P w K mg base Qa "last_within" 8 ["self", "low", "high", "height"] (spLastW K Qh Qf Qa)) : FnOk P w K mg base CX0 9 f fd ["self", "place", "height"] (spLastAt K Qh Qf Qa) := by
  refine F.ok Wk (fun vs H Q E h => ?_) (fun cdv A outer s H vs Q E hr h => ?_)
  · obtain ⟨x, l, p, h, rfl, _⟩ := h
    rfl
  · obtain ⟨x, l, p, h, rfl, hP, hp, q⟩ := h
    obtain ⟨dx, b, c, t, o, hx, _, _, _, _, hl8⟩ := id hP
    refine ⟨_, (pss_cons (ps_expr (pe_fnE c_check_place (hr.mono (by decide : 3 ≤ _)) passE0 (pa_d (pv 1) (pa_d (pe_fld (pv 0) rfl) pa_nil rfl) rfl)))
      (pss_cons (ps_expr (pe_fnE c_check_height (hr.mono (by decide : 3 ≤ _)) passE0 (pa_d (pv 2) pa_nil rfl)))
      (pss_cons (ps_for PassesOwn.never rfl (pi_revL rfl T.n_reversed (pe_mt Wq (hr.mono (by decide : 2 ≤ _)) (pv 0) (pa_d pe_int (pa_d (pe_op op_sub (pv 1) pe_int) pa_nil rfl) rfl))) (pg_tup rfl (pgs_cons (pg_name (i := 3) Wk.nd rfl (Or.inl rfl)) (pgs_cons (pg_name (i := 4) Wk.nd rfl (Or.inl rfl)) pgs_nil)))
      (pss_cons (ps_set (i := 5) Wk.nd rfl (Or.inl rfl) (pe_ifExp (pt_val (pe_mt Wz (hr.mono (by decide : 2 ≤ _)) (pv 0) (pa_d (pv 3) (pa_d (pv 2) pa_nil rfl) rfl))) (pe_mt Yp (hr.mono (by decide : 8 ≤ _)) (pv 0) (pa_d (pv 3) (pa_d (pv 4) (pa_d (pv 2) pa_nil rfl) rfl) rfl)) pe_non))
      (pss_one (ps_if (pt_cmp (pc_notN (pv 5))) (pss_one (ps_ret (pv 5)))
      pss_nil))))
      (pss_one (ps_ret (pe_ifExp (PW.pt (pw_and (pt_cmpR op_gt (pv 1) pe_int (nomark _)) (pw_and1 (pt_cmpR op_eq (pv 2) pe_int (nomark _))))) pe_int pe_non)))))), ?_⟩
    k_is
    refine ⟨x, Qa, dx, _, _, rfl, hx, Z.cl, Z.n_length, rfl, ?_⟩
    k_is
    refine ⟨.int p, _, rfl, any_int _, fun _ => ?_, fun e => ?_⟩
    · k_is
      refine ⟨.int h, rfl, any_int _, fun _ => ?_, fun e => by cases e⟩
      k_is
      refine ⟨x, dx, _, rfl, hx, rfl, ?_⟩
      k_is
      refine ⟨x, l, 0, (p : Int) - 1, rfl, hP, by omega, fun pa as H1 s1 hpa0 hpa hN => ?_⟩
      rw [show ((p : Int) - 1).toNat = p - 1 by omega] at hN
      have hP1 := hP.same s1
      have hal : as.length = pM 0 (p - 1) := by rw [hN.1, nV_len, pLo_len]
      refine ⟨pa, _, rfl, SqL.of hpa, ?_⟩
      rw [List.length_map]
      refine for_pairsR (as := as) (xs := nV (pLo 0 (p - 1))) (ys := nV (pHi 0 (p - 1))) hN.1 (by rw [hal, nV_len, pHi_len]) (fun i σ H2 => (∃ v3 v4 v5 : Option V, σ = [some (.ref x), some (.int (p : Nat)), some (.int h), v3, v4, v5]) ∧ Same H1 H2 ∧ ∀ k, covR (p - 1) i < k → k < p → hgt l k ≠ h) ?_ (fun i σ H2 _ h => SqL.of (h.2.1 _ _ hpa)) (fun i j t x y σ H2 e1 e2 e3 h => h.2.1 _ _ (hN.2 j t x y e1 e2 e3).2) ?_ ?_
      · refine ⟨⟨_, _, _, rfl⟩, Same.refl _, fun k hk1 hk2 => ?_⟩
        have hk1 : p - 1 < k := hk1
        omega
      · rintro i y y2 σ H2 hlt hy hy2 ⟨⟨v3, v4, v5, rfl⟩, s2, hno⟩
        rw [hal] at hlt hy hy2
        obtain ⟨j, hj⟩ : ∃ j, pM 0 (p - 1) - 1 - i = j := ⟨_, rfl⟩
        have hi : j < pM 0 (p - 1) := by omega
        obtain ⟨cv1, cv2⟩ := covR_next hlt
        rw [hj] at hy hy2 cv1 cv2
        obtain ⟨ok1, ok2, ok3, ok4, ok5, ok6⟩ := part_ok hi
        unfold nV pLo at hy
        unfold nV pHi at hy2
        rw [List.getElem?_map, List.getElem?_map, List.getElem?_range hi] at hy hy2
        obtain rfl : V.int ((loN 0 j : Nat) : Int) = y := Option.some.inj hy
        obtain rfl : V.int ((hiN 0 (p - 1) j : Nat) : Int) = y2 := Option.some.inj hy2
        have hP2 := hP1.same s2
        have hx2 := s2 _ _ (s1 _ _ hx)
        have go : (∀ k, loN 0 j < k → k ≤ hiN 0 (p - 1) j → hgt l k ≠ h) → ∀ k, covR (p - 1) (i + 1) < k → k < p → hgt l k ≠ h := fun hh k k1 k2 => by
          rw [cv2] at k1
          by_cases k3 : k ≤ hiN 0 (p - 1) j
          · exact hh k k1 k3
          · exact hno k (by rw [cv1]; omega) k2
        k_is
        refine ⟨x, dx, _, rfl, hx2, rfl, ?_⟩
        k_is
        refine ⟨x, l, loN 0 j, h, rfl, hP2, by omega, fun bb hbb => ?_⟩
        cases bb with
        | true =>
          k_is
          refine ⟨x, dx, _, rfl, hx2, rfl, ?_⟩
          k_is
          refine ⟨x, l, loN 0 j, hiN 0 (p - 1) j, h, rfl, hP2, by omega, by omega, by omega, fun r H3 hr3 s3 => ?_⟩
          cases r with
          | some m =>
            k_is
            obtain ⟨j1, j2, j3, j4⟩ := hr3
            refine q (some m) H3 ⟨by omega, j3, fun i' i1 i2 he => ?_⟩ ((s1.trans s2).trans s3)
            by_cases k3 : i' ≤ hiN 0 (p - 1) j
            · exact j4 i' i1 k3 he
            · exact hno i' (by rw [cv1]; omega) i2 he
          | none =>
            k_is
            rw [show (!decide (optN none = V.non)) = false from rfl]
            k_is
            exact ⟨⟨_, _, _, rfl⟩, s2.trans s3, go hr3⟩
        | false =>
          k_is
          rw [show (!decide (V.non = V.non)) = false from rfl]
          k_is
          refine ⟨⟨_, _, _, rfl⟩, s2, go fun k k1 k2 => hbb rfl k (by omega) ?_⟩
          unfold endN
          omega
      · rintro σ H2 ⟨⟨v3, v4, v5, rfl⟩, s2, hno⟩
        rw [hal] at hno
        have hno : ∀ k, 0 < k → k < p → hgt l k ≠ h := fun k k1 k2 => by
          refine hno k ?_ k2
          unfold covR
          split
          · rename_i hz
            by_cases hp1 : 0 < p - 1
            · exact absurd hz (by have := (part_first hp1).2; omega)
            · omega
          · rw [Nat.sub_self]
            exact k1
        k_is
        refine iteP (fun h1 => ?_) (fun h1 => ?_)
        · k_is
          refine iteP (fun h2 => ?_) (fun h2 => ?_)
          · k_is
            have h2 := V.int.inj h2
            exact q (some 0) H2 ⟨by omega, by rw [hgt_zero, h2], hno⟩ (s1.trans s2)
          · k_is
            refine q none H2 (fun i hi he => ?_) (s1.trans s2)
            by_cases i0 : i = 0
            · rw [i0, hgt_zero] at he
              exact h2 (by rw [he])
            · exact hno i (by omega) hi he
        · k_is
          exact q none H2 (fun i hi => absurd hi (by omega)) (s1.trans s2)
    · rw [inI_int] at e
      simp at e
      omega
def spBit (K : PySem.W.Frag) (C CP : Addr) : Sp := fun vs H Q E => ∃ (a : Addr) (l : List Bool) (x : V), vs = [.ref a, x] ∧ IsBits K C H a l ∧ Any K H x ∧ (inI x 0 ((l.length : Int) - 1) = true → Q (.int ((l.getD (natI x) false).toNat : Nat)) H) ∧ (inI x 0 ((l.length : Int) - 1) = false → E (.ref CP) none H)
theorem bit_of (l : List Bool) (i : Nat) : Builtin.bitAnd (((val (wordAt l (i / 32)) / 2 ^ (i % 32) : Nat) : Int)) 1 = ((l.getD i false).toNat : Nat) := by
 rw [and1, val_bit, wordAt_getD l _ (Nat.mod_lt _ (by decide)), show 32 * (i / 32) + i % 32 = i by omega]
theorem Qad {f : Addr} {fd : FuncData} (F : Fun K "bit" "Bits.bit" Wv f fd) (T : Txt K mg Qc Qb Qd Qi Qe Qg) (Z : Wa K Qh) (c_check_place : CalE P w K mg base "check_place" 3 ["place", "greatest"] (spCheckPlace K Qe)) :
    FnOk P w K mg base (CXE P w) 4 f fd ["self", "place"] (spBit K Qh Qe) := by
  refine F.okE Qae (fun vs H Q E h => ?_) (fun cdv A outer s H vs Q E hr h => ?_)
  · obtain ⟨a, l, x, rfl, _⟩ := h
    rfl
  · obtain ⟨a, l, x, rfl, ⟨dx, t, hx, ht, hl⟩, ha, q1, q2⟩ := h
    refine ⟨_, (pss_cons (ps_expr (pe_fnE c_check_place (hr.mono (by decide : 3 ≤ _)) (pass_on rfl) (pa_d (pv 1) (pa_d (pe_op op_sub (pe_fld (pv 0) rfl) pe_int) pa_nil rfl) rfl)))
      (pss_one (ps_ret (pe_op op_and (pe_op op_shr (pe_ix ix_tup (pe_fld (pv 0) rfl) (pe_op op_fdiv (pv 1) (pe_globI rfl T.g_WORD_BITS)) (fun _ _ => rfl)) (pe_op op_mod (pv 1) (pe_globI rfl T.g_WORD_BITS))) pe_int)))), ?_⟩
    k_is
    refine ⟨a, Qh, dx, _, _, rfl, hx, Z.cl, Z.n_length, rfl, ?_⟩
    k_is
    refine ⟨x, _, rfl, ha, fun hi => ?_, q2⟩
    have q1 := q1 hi
    obtain ⟨i, rfl, i0, i1⟩ := inI_of hi
    obtain ⟨n, rfl⟩ := Int.eq_ofNat_of_zero_le i0
    k_is
    refine ⟨a, Qh, dx, _, _, rfl, hx, Z.cl, Z.n_kept_words, rfl, ?_⟩
    k_is
    have hn : n < l.length := by omega
    rw [show ((n : Int) / 32) = ((n / 32 : Nat) : Int) by omega]
    refine r_ixT (SqT.of ht) (word_at (by unfold manyW; omega)) ?_
    k_is
    refine r_shr (by omega) ?_
    k_is
    rw [shr_nat _ (n % 32) (by omega), bit_of]
    exact q1
def spIsOpen (K : PySem.W.Frag) (CB CC CP : Addr) : Sp := fun vs H Q _ => ∃ (x : Addr) (l : List Bool) (p : Nat), vs = [.ref x, .int p] ∧ IsPairs K CB CC CP H x l ∧ p < l.length ∧ Q (.bl (l.getD p false)) H
theorem Yt {f : Addr} {fd : FuncData} (F : Fun K "is_opening" "Pairs.is_opening" Qy f fd) (T : Txt K mg Qc Qb Qd Qi Qe Qg) (Z : Qj K Qa) (Qaf : MthE P w K mg base Qh "bit" 4 ["self", "place"] (spBit K Qh Qe)) : FnOk P w K mg base CX0 5 f fd ["self", "place"] (spIsOpen K Qh Qf Qa) := by
 refine F.ok Yv (fun vs H Q E h => ?_) (fun cdv A outer s H vs Q E hr h => ?_)
 ·obtain ⟨x, l, p, rfl, _⟩ := h
  rfl
 ·obtain ⟨x, l, p, rfl, ⟨dx, b, c, t, o, hx, hB, _⟩, hp, q⟩ := h
  refine ⟨_, (pss_one (ps_ret (pe_cmpR op_eq (pe_mtE Qaf (hr.mono (by decide : 4 ≤ _)) passE0 (pe_fld (pv 0) rfl) (pa_d (pv 1) pa_nil rfl)) pe_int (nomark _)))), ?_⟩
  k_is
  refine ⟨x, Qa, dx, _, .ref b, rfl, hx, Z.cl, Z.n_bits, rfl, ?_⟩
  obtain ⟨db, tb, hb1, _⟩ := id hB
  k_is
  refine ⟨b, db, _, rfl, hb1, rfl, ?_⟩
  k_is
  refine ⟨b, l, .int p, rfl, hB, any_int _, fun _ => ?_, fun e => ?_⟩
  ·k_is
   rw [show natI (.int (p : Int)) = p from Int.toNat_natCast p]
   cases hg : l.getD p false with
   | true =>
    rw [hg] at q
    exact q
   | false =>
    rw [hg] at q
    exact q
  ·rw [inI_int] at e
   simp at e
   omega
theorem hgt_ge {l : List Bool} (hV : Vs 0 l) {i : Nat} (hi : i ≤ l.length) : 0 ≤ hgt l i := by
 obtain ⟨h, e, _⟩ := tl_ok hV i hi
 omega
theorem hgt_end {l : List Bool} (hV : Vs 0 l) : hgt l l.length = 0 := by
 obtain ⟨h, e, v, _⟩ := tl_ok hV l.length (Nat.le_refl _)
 rw [List.drop_of_length_le (Nat.le_refl _)] at v
 have v : h = 0 := v
 omega
theorem hgt_step {l : List Bool} {i : Nat} (hi : i < l.length) : hgt l (i + 1) = hgt l i + if l.getD i false then 1 else -1 := by
 have h := hgt_succ (l := l) (List.getElem?_eq_getElem hi)
 rw [h]
 unfold List.getD
 rw [List.getElem?_eq_getElem hi]
 rfl
theorem nxt_ex {l : List Bool} (hV : Vs 0 l) {p : Nat} (hp : p < l.length) (ho : l.getD p false = true) : ¬ IsNxt l p l.length (hgt l p) none := fun hn => by
 have up : ∀ d, p + 1 + d ≤ l.length → hgt l p < hgt l (p + 1 + d) := fun d => by
  induction d with
  | zero =>
   intro _
   have := hgt_step hp
   rw [ho] at this
   have this : hgt l (p + 1) = hgt l p + 1 := this
   show hgt l p < hgt l (p + 1)
   omega
  | succ d ih =>
   intro hd
   have h1 := ih (by omega)
   have h2 := hgt_step (l := l) (i := p + 1 + d) (by omega)
   have h3 := hn (p + 1 + (d + 1)) (by omega) hd
   have e : p + 1 + (d + 1) = p + 1 + d + 1 := by omega
   rw [e] at h3 ⊢
   split at h2 <;> omega
 have h1 := up (l.length - (p + 1)) (by omega)
 rw [show p + 1 + (l.length - (p + 1)) = l.length by omega, hgt_end hV] at h1
 have := hgt_ge hV (i := p) (by omega)
 omega
theorem lst_ex {l : List Bool} (hV : Vs 0 l) {p : Nat} (hp : p < l.length) (ho : l.getD p false = false) : ¬ IsLastA l (p + 1) (hgt l (p + 1)) none := fun hn => by
 have hs := hgt_step hp
 rw [ho] at hs
 have hs : hgt l (p + 1) = hgt l p + -1 := hs
 have up : ∀ i, i ≤ p → hgt l i < hgt l (p + 1) := fun i => by
  induction i with
  | zero =>
   intro _
   have h1 := hgt_ge hV (i := p + 1) (by omega)
   have h2 := hn 0 (by omega)
   rw [hgt_zero] at h2 ⊢
   omega
  | succ i ih =>
   intro hi
   have h1 := ih (by omega)
   have h2 := hgt_step (l := l) (i := i) (by omega)
   have h3 := hn (i + 1) (by omega)
   split at h2 <;> omega
 have := up p (Nat.le_refl _)
 omega
def spPartner (K : PySem.W.Frag) (CB CC CP : Addr) : Sp := fun vs H Q _ => ∃ (x : Addr) (l : List Bool) (p : Nat), vs = [.ref x, .int p] ∧ IsPairs K CB CC CP H x l ∧ p < l.length ∧
 ∀ (j : Nat) H', (l.getD p false = true → IsNxt l p l.length (hgt l p) (some (j + 1))) → (l.getD p false = false → IsLastA l (p + 1) (hgt l (p + 1)) (some j)) → Same H H' → Q (.int (j : Nat)) H'
theorem Y1 {f : Addr} {fd : FuncData} (F : Fun K "partner" "Heights.partner" Q3 f fd) (T : Txt K mg Qc Qb Qd Qi Qe Qg) (Z : Qj K Qa) (Wu : Mth P w K mg base Qa "is_opening" 5 ["self", "place"] (spIsOpen K Qh Qf Qa)) (Wi : Mth P w K mg base Qa "next_at" 9 ["self", "place", "height"] (spNextAt K Qh Qf Qa))
    (Qn : Mth P w K mg base Qa "height" 6 ["self", "place"] (spHeight K Qf Qa)) (Wh : Mth P w K mg base Qa "last_at" 9 ["self", "place", "height"] (spLastAt K Qh Qf Qa)) : FnOk P w K mg base CX0 10 f fd ["self", "place"] (spPartner K Qh Qf Qa) := by
  refine F.ok Y2 (fun vs H Q E h => ?_) (fun cdv A outer s H vs Q E hr h => ?_)
  · obtain ⟨x, l, p, rfl, _⟩ := h
    rfl
  · obtain ⟨x, l, p, rfl, hP, hp, q⟩ := h
    obtain ⟨dx, b, c, t, o, hx, _, hC, _, hV, hl8⟩ := id hP
    refine ⟨_, (pss_cons (ps_if (pt_val (pe_mt Wu (hr.mono (by decide : 5 ≤ _)) (pv 0) (pa_d (pv 1) pa_nil rfl))) (pss_one (ps_ret (pe_op op_sub (pe_mt Wi (hr.mono (by decide : 9 ≤ _)) (pv 0) (pa_d (pv 1) (pa_d (pe_mt Qn (hr.mono (by decide : 6 ≤ _)) (pv 0) (pa_d (pv 1) pa_nil rfl)) pa_nil rfl) rfl)) pe_int)))
      pss_nil)
      (pss_one (ps_ret (pe_mt Wh (hr.mono (by decide : 9 ≤ _)) (pv 0) (pa_d (pe_op op_add (pv 1) pe_int) (pa_d (pe_mt Qn (hr.mono (by decide : 6 ≤ _)) (pv 0) (pa_d (pe_op op_add (pv 1) pe_int) pa_nil rfl)) pa_nil rfl) rfl))))), ?_⟩
    k_is
    refine ⟨x, dx, _, rfl, hx, rfl, ?_⟩
    k_is
    refine ⟨x, l, p, rfl, hP, hp, ?_⟩
    cases hg : l.getD p false with
    | true =>
      k_is
      refine ⟨x, dx, _, rfl, hx, rfl, ?_⟩
      k_is
      refine ⟨x, dx, _, rfl, hx, rfl, ?_⟩
      k_is
      refine ⟨x, dx, c, _, l, p, rfl, hx, rfl, rfl, hC, by omega, fun H1 s1 => ?_⟩
      rw [hgt_occ]
      k_is
      refine ⟨x, l, p, hgt l p, rfl, hP.same s1, by omega, fun r H2 hr2 s2 => ?_⟩
      cases r with
      | none => exact absurd hr2 (nxt_ex hV hp hg)
      | some j =>
        obtain ⟨j', rfl⟩ : ∃ j', j = j' + 1 := ⟨j - 1, by have := hr2.1; omega⟩
        rw [show optN (some (j' + 1)) = V.int ((j' : Int) + 1) by show V.int _ = _; congr 1]
        k_is
        rw [show ((j' : Int) + 1 - 1) = (j' : Int) by omega]
        exact q j' H2 (fun _ => hr2) (fun e => by rw [hg] at e; cases e) (s1.trans s2)
    | false =>
      k_is
      refine ⟨x, dx, _, rfl, hx, rfl, ?_⟩
      k_is
      refine ⟨x, dx, _, rfl, hx, rfl, ?_⟩
      k_is
      refine ⟨x, dx, c, _, l, p + 1, by rw [show ((p + 1 : Nat) : Int) = (p : Int) + 1 by omega]; rfl, hx, rfl, rfl, hC, by omega, fun H1 s1 => ?_⟩
      rw [hgt_occ]
      k_is
      refine ⟨x, l, p + 1, hgt l (p + 1), by rw [show ((p + 1 : Nat) : Int) = (p : Int) + 1 by omega]; rfl, hP.same s1, by omega, fun r H2 hr2 s2 => ?_⟩
      cases r with
      | none => exact absurd hr2 (lst_ex hV hp hg)
      | some j => exact q j H2 (fun e => by rw [hg] at e; cases e) (fun _ => hr2) (s1.trans s2)
def dpt (l : List Bool) (p : Nat) : Int := hgt l (if l.getD p false then p else p + 1)
def spDepthP (K : PySem.W.Frag) (CB CC CP : Addr) : Sp := fun vs H Q _ => ∃ (x : Addr) (l : List Bool) (p : Nat), vs = [.ref x, .int p] ∧ IsPairs K CB CC CP H x l ∧ p < l.length ∧ ∀ H', Same H H' → Q (.int (dpt l p)) H'
theorem Y9 {f : Addr} {fd : FuncData} (F : Fun K "depth" "Heights.depth" Q7 f fd) (T : Txt K mg Qc Qb Qd Qi Qe Qg) (Z : Qj K Qa) (Wu : Mth P w K mg base Qa "is_opening" 5 ["self", "place"] (spIsOpen K Qh Qf Qa)) (Qn : Mth P w K mg base Qa "height" 6 ["self", "place"] (spHeight K Qf Qa)) : FnOk P w K mg base CX0 7 f fd ["self", "place"] (spDepthP K Qh Qf Qa) := by
 refine F.ok Jd (fun vs H Q E h => ?_) (fun cdv A outer s H vs Q E hr h => ?_)
 ·obtain ⟨x, l, p, rfl, _⟩ := h
  rfl
 ·obtain ⟨x, l, p, rfl, hP, hp, q⟩ := h
  obtain ⟨dx, b, c, t, o, hx, _, hC, _, hV, hl8⟩ := id hP
  unfold dpt at q
  refine ⟨_, (pss_one (ps_ret (pe_mt Qn (hr.mono (by decide : 6 ≤ _)) (pv 0) (pa_d (pe_ifExp (pt_val (pe_mt Wu (hr.mono (by decide : 5 ≤ _)) (pv 0) (pa_d (pv 1) pa_nil rfl))) (pv 1) (pe_op op_add (pv 1) pe_int)) pa_nil rfl)))), ?_⟩
  k_is
  refine ⟨x, dx, _, rfl, hx, rfl, ?_⟩
  k_is
  refine ⟨x, dx, _, rfl, hx, rfl, ?_⟩
  k_is
  refine ⟨x, l, p, rfl, hP, hp, ?_⟩
  cases hg : l.getD p false with
  | true =>
   rw [hg] at q
   k_is
   refine ⟨x, dx, c, _, l, p, rfl, hx, rfl, rfl, hC, by omega, fun H1 s1 => ?_⟩
   rw [hgt_occ]
   exact q H1 s1
  | false =>
   rw [hg] at q
   k_is
   refine ⟨x, dx, c, _, l, p + 1, by rw [show ((p + 1 : Nat) : Int) = (p : Int) + 1 by omega]; rfl, hx, rfl, rfl, hC, by omega, fun H1 s1 => ?_⟩
   rw [hgt_occ]
   exact q H1 s1
def spRound (K : PySem.W.Frag) (CB CC CP : Addr) : Sp := fun vs H Q _ => ∃ (x : Addr) (l : List Bool) (p : Nat), vs = [.ref x, .int p] ∧ IsPairs K CB CC CP H x l ∧ p < l.length ∧
 ∀ r H', (dpt l p ≤ 0 → r = none) → (0 < dpt l p → IsLastA l p (dpt l p - 1) r) → Same H H' → Q (optN r) H'
theorem Jb {f : Addr} {fd : FuncData} (F : Fun K "round" "Heights.round" Q8 f fd) (T : Txt K mg Qc Qb Qd Qi Qe Qg) (Z : Qj K Qa) (Jz : Mth P w K mg base Qa "depth" 7 ["self", "place"] (spDepthP K Qh Qf Qa)) (Wh : Mth P w K mg base Qa "last_at" 9 ["self", "place", "height"] (spLastAt K Qh Qf Qa)) : FnOk P w K mg base CX0 10 f fd ["self", "place"] (spRound K Qh Qf Qa) := by
  refine F.ok W8 (fun vs H Q E h => ?_) (fun cdv A outer s H vs Q E hr h => ?_)
  · obtain ⟨x, l, p, rfl, _⟩ := h
    rfl
  · obtain ⟨x, l, p, rfl, hP, hp, q⟩ := h
    obtain ⟨dx, b, c, t, o, hx, _⟩ := id hP
    refine ⟨_, (pss_cons (ps_set (i := 2) W8.nd rfl (Or.inl rfl) (pe_mt Jz (hr.mono (by decide : 7 ≤ _)) (pv 0) (pa_d (pv 1) pa_nil rfl)))
      (pss_one (ps_ret (pe_ifExp (pt_cmpR op_gt (pv 2) pe_int (nomark _)) (pe_mt Wh (hr.mono (by decide : 9 ≤ _)) (pv 0) (pa_d (pv 1) (pa_d (pe_op op_sub (pv 2) pe_int) pa_nil rfl) rfl)) pe_non)))), ?_⟩
    k_is
    refine ⟨x, dx, _, rfl, hx, rfl, ?_⟩
    k_is
    refine ⟨x, l, p, rfl, hP, hp, fun H1 s1 => ?_⟩
    k_is
    refine iteP (fun h1 => ?_) (fun h1 => ?_)
    · k_is
      refine ⟨x, dx, _, rfl, s1 _ _ hx, rfl, ?_⟩
      k_is
      refine ⟨x, l, p, dpt l p - 1, rfl, hP.same s1, by omega, fun r H2 hr2 s2 => ?_⟩
      exact q r H2 (fun h => by omega) (fun _ => hr2) (s1.trans s2)
    · k_is
      exact q none H1 (fun _ => rfl) (fun h => by omega) s1
def spIsStr (K : PySem.W.Frag) (CB CC CP : Addr) : Sp := fun vs H Q _ => ∃ (x : Addr) (l : List Bool) (lo hi : Nat), vs = [.ref x, .int lo, .int hi] ∧ IsPairs K CB CC CP H x l ∧ lo < l.length ∧ ∀ b : Bool, (b = true → lo = lo / 256 * 256 ∧ hi = endN l (lo / 256)) → Q (.bl b) H
theorem Yi {f : Addr} {fd : FuncData} (F : Fun K "is_stretch" "Heights.is_stretch" Qr f fd) (T : Txt K mg Qc Qb Qd Qi Qe Qg) (Z : Qj K Qa) (Qm : Mth P w K mg base Qa "stretch_at" 1 ["self", "place"] spStretchAt) (Wp : Mth P w K mg base Qa "begin_of" 1 ["self", "number"] (spBeginOf K Qh Qf Qa)) : FnOk P w K mg base CX0 2 f fd ["self", "low", "high"] (spIsStr K Qh Qf Qa) := by
  refine F.ok W0 (fun vs H Q E h => ?_) (fun cdv A outer s H vs Q E hr h => ?_)
  · obtain ⟨x, l, lo, hi, rfl, _⟩ := h
    rfl
  · obtain ⟨x, l, lo, hi, rfl, hP, hl, q⟩ := h
    obtain ⟨dx, b, c, t, o, hx, _⟩ := id hP
    refine ⟨_, (pss_cons (ps_set (i := 3) W0.nd rfl (Or.inl rfl) (pe_mt Qm (hr.mono (by decide : 1 ≤ _)) (pv 0) (pa_d (pv 1) pa_nil rfl)))
      (pss_one (ps_ret (pe_and (pe_cmpR op_eq (pv 1) (pe_mt Wp (hr.mono (by decide : 1 ≤ _)) (pv 0) (pa_d (pv 3) pa_nil rfl)) (nomark _)) (pe_one (pe_cmpR op_eq (pv 2) (pe_mt Wp (hr.mono (by decide : 1 ≤ _)) (pv 0) (pa_d (pe_op op_add (pv 3) pe_int) pa_nil rfl)) (nomark _))))))), ?_⟩
    k_is
    refine ⟨x, dx, _, rfl, hx, rfl, ?_⟩
    k_is
    refine ⟨.ref x, lo, rfl, ?_⟩
    k_is
    refine ⟨x, dx, _, rfl, hx, rfl, ?_⟩
    k_is
    refine ⟨x, l, lo / 256, rfl, hP, ?_⟩
    k_is
    refine iteP (fun h1 => ?_) (fun _ => q false fun e => by cases e)
    have h1 : lo = lo / 256 * 256 := by
      have := V.int.inj h1
      omega
    k_is
    refine ⟨x, dx, _, rfl, hx, rfl, ?_⟩
    k_is
    refine ⟨x, l, lo / 256 + 1, by rw [show ((lo / 256 + 1 : Nat) : Int) = ((lo / 256 : Nat) : Int) + 1 by omega]; rfl, hP, ?_⟩
    k_is
    refine q _ fun hb => ⟨h1, ?_⟩
    have := V.int.inj (of_decide_eq_true hb)
    unfold endN
    omega
def spLeastW (K : PySem.W.Frag) (CB CC CP : Addr) : Sp := fun vs H Q _ => ∃ (x : Addr) (l : List Bool) (lo hi : Nat), vs = [.ref x, .int lo, .int hi] ∧ IsPairs K CB CC CP H x l ∧ lo < hi ∧ hi ≤ l.length ∧ hi - lo ≤ 1000 ∧ ∀ m H', IsLeast (hw l lo hi) m → Same H H' → Q (.int m) H'
theorem W9 {f : Addr} {fd : FuncData} (F : Fun K "least_within" "Heights.least_within" Qo f fd) (T : Txt K mg Qc Qb Qd Qi Qe Qg) (Z : Qj K Qa) (Yy : Mth P w K mg base Qa "is_stretch" 2 ["self", "low", "high"] (spIsStr K Qh Qf Qa)) (Qm : Mth P w K mg base Qa "stretch_at" 1 ["self", "place"] spStretchAt) (Qu : Mth P w K mg base Qa "heights_within" 7 ["self", "low", "high"] (spHWithin K Qh Qf Qa)) : FnOk P w K mg base CX0 8 f fd ["self", "low", "high"] (spLeastW K Qh Qf Qa) := by
  refine F.ok Yb (fun vs H Q E h => ?_) (fun cdv A outer s H vs Q E hr h => ?_)
  · obtain ⟨x, l, lo, hi, rfl, _⟩ := h
    rfl
  · obtain ⟨x, l, lo, hi, rfl, hP, h1, h2, h3, q⟩ := h
    obtain ⟨dx, b, c, t, o, hx, _, _, ⟨rs, ht, hrl, hrs⟩, _, hl8⟩ := id hP
    refine ⟨_, (pss_cons (ps_if (pt_val (pe_mt Yy (hr.mono (by decide : 2 ≤ _)) (pv 0) (pa_d (pv 1) (pa_d (pv 2) pa_nil rfl) rfl))) (pss_one (ps_ret (pe_ix ix_tup (pe_ix ix_tup (pe_fld (pv 0) rfl) (pe_mt Qm (hr.mono (by decide : 1 ≤ _)) (pv 0) (pa_d (pv 1) pa_nil rfl)) (fun _ _ => rfl)) pe_int (fun _ _ => rfl))))
      pss_nil)
      (pss_one (ps_ret (pe_callB (call_min1 rfl) (by rfl) T.n_min b_min (pa_d (pe_mt Qu (hr.mono (by decide : 7 ≤ _)) (pv 0) (pa_d (pv 1) (pa_d (pv 2) pa_nil rfl) rfl)) pa_nil rfl))))), ?_⟩
    k_is
    refine ⟨x, dx, _, rfl, hx, rfl, ?_⟩
    k_is
    refine ⟨x, l, lo, hi, rfl, hP, by omega, fun bb hbb => ?_⟩
    cases bb with
    | true =>
      obtain ⟨g1, g2⟩ := hbb rfl
      k_is
      refine ⟨x, Qa, dx, _, _, rfl, hx, Z.cl, Z.n_kept_table, rfl, ?_⟩
      k_is
      refine ⟨x, dx, _, rfl, hx, rfl, ?_⟩
      k_is
      refine ⟨.ref x, lo, rfl, ?_⟩
      have hj : lo / 256 < rs.length := by omega
      obtain ⟨mn, mx, hr1, hmn, hmx⟩ := hrs _ _ (List.getElem?_eq_getElem hj)
      rw [hSeg_eq (by omega), ← g1, ← g2] at hmn
      k_is
      refine r_ixT (SqT.of ht) (atI_nat (by rw [List.getElem?_map, List.getElem?_eq_getElem hj]; rfl)) ?_
      k_is
      refine r_ixT (SqT.of hr1) (v := .int mn) rfl ?_
      exact q mn H hmn (Same.refl _)
    | false =>
      k_is
      refine ⟨x, dx, _, rfl, hx, rfl, ?_⟩
      k_is
      refine ⟨x, l, lo, hi, rfl, hP, by omega, h2, h3, fun p H1 s1 hp0 hp => ?_⟩
      k_is
      refine ⟨p, _, rfl, SqL.of hp, fun e => ?_, fun m hm => ?_⟩
      · have := congrArg List.length e
        rw [hw_len, List.length_nil] at this
        omega
      · exact q m H1 hm s1
def IsLow (l : List Bool) (lo hi : Nat) (m : Int) : Prop := (∃ i, lo ≤ i ∧ i ≤ hi ∧ hgt l i = m) ∧ ∀ i, lo ≤ i → i ≤ hi → m ≤ hgt l i
def spLowest (K : PySem.W.Frag) (CB CC CP : Addr) : Sp := fun vs H Q _ => ∃ (x : Addr) (l : List Bool) (lo hi : Nat), vs = [.ref x, .int lo, .int hi] ∧ IsPairs K CB CC CP H x l ∧ lo ≤ hi ∧ hi ≤ l.length ∧
 ∀ m v tp H', IsLow l lo hi m → (m = hgt l lo → v = .int (lo : Nat)) → (m ≠ hgt l lo → ∃ j, v = .int (j : Nat) ∧ IsNxt l lo l.length m (some j)) → Same H H' → H' tp = some (.tup [.int m, v]) → Q (.ref tp) H'
def LowPs (l : List Bool) (lo hi i : Nat) (ms : List Int) : Prop := ms.length = i ∧ ∀ (j : Nat) m, ms[j]? = some m → IsLeast (hw l (loN lo j) (hiN lo hi j)) m
theorem lowPs_all {l : List Bool} {lo hi : Nat} {ms : List Int} (h : LowPs l lo hi (pM lo hi) ms) {m : Int} (hlh : lo ≤ hi) (hm : IsLeast (hgt l lo :: ms) m) : IsLow l lo hi m := by
 have cover : ∀ d i, i < pM lo hi → i + d = pM lo hi → ∀ k, loN lo i < k → k ≤ hi → ∃ j, i ≤ j ∧ j < pM lo hi ∧ loN lo j < k ∧ k ≤ hiN lo hi j := fun d => by
  induction d with
  | zero => intro i h1 h2; omega
  | succ d ih =>
   intro i h1 h2 k k1 k2
   by_cases k3 : k ≤ hiN lo hi i
   ·exact ⟨i, Nat.le_refl _, h1, k1, k3⟩
   ·by_cases h3 : i + 1 < pM lo hi
    ·obtain ⟨j, a1, a2, a3, a4⟩ := ih (i + 1) h3 (by omega) k (by rw [← part_next h3]; omega) k2
     exact ⟨j, by omega, a2, a3, a4⟩
    ·rw [part_last (show i + 1 = pM lo hi by omega)] at k3
     omega
 refine ⟨?_, fun i i1 i2 => ?_⟩
 ·rcases List.mem_cons.mp hm.1 with e | e
  ·exact ⟨lo, Nat.le_refl _, hlh, e.symm⟩
  ·obtain ⟨j, hj⟩ := List.getElem?_of_mem e
   have hjl := at_lt hj
   rw [h.1] at hjl
   obtain ⟨ok1, ok2, ok3, _⟩ := part_ok hjl
   obtain ⟨i, a1, a2, a3⟩ := hw_of (h.2 j m hj).1
   exact ⟨i, by omega, by omega, a3⟩
 ·by_cases e : i = lo
  ·rw [e]
   exact hm.2 _ List.mem_cons_self
  ·have hlt : lo < hi := by omega
   obtain ⟨j, _, j2, j3, j4⟩ := cover (pM lo hi) 0 (part_first hlt).2 (Nat.zero_add _) i (by show lo < i; omega) i2
   have hj : ms[j]? = some (ms[j]'(by rw [h.1]; exact j2)) := List.getElem?_eq_getElem _
   have h1 := (h.2 j _ hj).2 _ (hw_mem (l := l) j3 j4)
   have h2 := hm.2 _ (List.mem_cons_of_mem _ (List.mem_of_getElem? hj))
   exact Int.le_trans h2 h1
theorem Y5 {f : Addr} {fd : FuncData} (F : Fun K "lowest" "Heights.lowest" Qw f fd) (T : Txt K mg Qc Qb Qd Qi Qe Qg) (Z : Qj K Qa) (c_check_stretch : CalE P w K mg base "check_stretch" 4 ["low", "high", "greatest"] (spCheckStretch K Qe)) (Qn : Mth P w K mg base Qa "height" 6 ["self", "place"] (spHeight K Qf Qa))
    (Yj : Mth P w K mg base Qa "least_within" 8 ["self", "low", "high"] (spLeastW K Qh Qf Qa)) (Wq : Mth P w K mg base Qa "parts" 2 ["self", "low", "high"] (spParts K Qh Qf Qa)) (Wi : Mth P w K mg base Qa "next_at" 9 ["self", "place", "height"] (spNextAt K Qh Qf Qa)) : FnOk P w K mg base CX0 10 f fd ["self", "low", "high"] (spLowest K Qh Qf Qa) := by
  refine F.ok Ww (fun vs H Q E h => ?_) (fun cdv A outer s H vs Q E hr h => ?_)
  · obtain ⟨x, l, lo, hi, rfl, _⟩ := h
    rfl
  · obtain ⟨x, l, lo, hi, rfl, hP, h1, h2, q⟩ := h
    obtain ⟨dx, b, c, t, o, hx, _, hC, _, hV, hl8⟩ := id hP
    refine ⟨_, (pss_cons (ps_expr (pe_fnE c_check_stretch (hr.mono (by decide : 4 ≤ _)) passE0 (pa_d (pv 1) (pa_d (pv 2) (pa_d (pe_fld (pv 0) rfl) pa_nil rfl) rfl) rfl)))
      (pss_cons (ps_set (i := 3) Ww.nd rfl (Or.inl rfl) (pe_mt Qn (hr.mono (by decide : 6 ≤ _)) (pv 0) (pa_d (pv 1) pa_nil rfl)))
      (pss_cons (ps_set (i := 4) Ww.nd rfl (Or.inl rfl) (pe_callB (call_min1 rfl) (by rfl) T.n_min b_min (pa_d (pe_op op_cat (pe_lst (pa_d (pv 3) pa_nil rfl)) (pe_lc2 rfl Yn (pi_list (pe_mt Wq (hr.mono (by decide : 2 ≤ _)) (pv 0) (pa_d (pv 1) (pa_d (pv 2) pa_nil rfl) rfl))) (fun _ _ _ _ => pif_nil) (fun _ _ _ _ => (pe_mt Yj (hr.mono (by decide : 8 ≤ _)) (pv 2) (pa_d (pv 0) (pa_d (pv 1) pa_nil rfl) rfl))))) pa_nil rfl)))
      (pss_one (ps_ret (pe_tup (pa_d (pv 4) (pa_d (pe_ifExp (pt_cmpR op_eq (pv 4) (pv 3) (nomark _)) (pv 1) (pe_mt Wi (hr.mono (by decide : 9 ≤ _)) (pv 0) (pa_d (pv 1) (pa_d (pv 4) pa_nil rfl) rfl))) pa_nil rfl) rfl))))))), ?_⟩
    k_is
    refine ⟨x, Qa, dx, _, _, rfl, hx, Z.cl, Z.n_length, rfl, ?_⟩
    k_is
    refine ⟨.int lo, .int hi, _, rfl, any_int _, any_int _, fun _ => ?_, fun e => ?_⟩
    · k_is
      refine ⟨x, dx, _, rfl, hx, rfl, ?_⟩
      k_is
      refine ⟨x, dx, c, _, l, lo, rfl, hx, rfl, rfl, hC, by omega, fun H1 s1 => ?_⟩
      rw [hgt_occ]
      have hP1 := hP.same s1
      have hx1 := s1 _ _ hx
      k_is
      refine ⟨few (by simp), fun a1 ha1 => ?_⟩
      have t2 := same_upd (o := .lst [V.int (hgt l lo)]) ha1
      have e1 : upd H1 a1 (.lst [V.int (hgt l lo)]) a1 = some (.lst [V.int (hgt l lo)]) := upd_same
      have s2 := s1.trans t2
      generalize upd H1 a1 (.lst [V.int (hgt l lo)]) = H2 at *
      have hx2 := s2 _ _ hx
      have hP2 := hP.same s2
      k_is
      refine ⟨x, dx, _, rfl, hx2, rfl, ?_⟩
      k_is
      refine ⟨x, l, lo, (hi : Int), rfl, hP2, by omega, fun pa as H3 s3 hpa0 hpa hN => ?_⟩
      rw [Int.toNat_natCast] at hN
      have hal : as.length = pM lo hi := by rw [hN.1, nV_len, pLo_len]
      have hP3 := hP2.same s3
      have hx3 := s3 _ _ hx2
      have s13 := s2.trans s3
      k_is
      refine ⟨pa, rfl, ⟨_, SqL.of hpa⟩, ?_⟩
      refine lc_pairsN (as := as) (xs := nV (pLo lo hi)) (ys := nV (pHi lo hi)) hN.1 (by rw [hal, nV_len, pHi_len]) (SqL.of hpa) (fun i t x y g1 g2 g3 => (hN.2 i t x y g1 g2 g3).2) (fun D i zs H' => ∃ ms : List Int, zs = ms.map V.int ∧ LowPs l lo hi i ms) (fun D H' _ _ => ⟨[], rfl, rfl, fun j m e => by cases e⟩) (fun D i zs H' us o _ h => h) (fun D i zs H' hi h => ?_) (fun D i zs H' H'' _ h => h) ?_ ?_
      · obtain ⟨ms, rfl, hms, _⟩ := h
        rw [List.length_map, hms]
        rw [hal] at hi
        unfold pM at hi
        split at hi
        · exact small20000 (by omega)
        · omega
      · intro D i zs y y2 H4 A R hy hy2 s4 _ _ hPv _ hA
        obtain ⟨ms, rfl, hms, hms2⟩ := hPv
        have hii : i < pM lo hi := by have := at_lt hy; rwa [nV_len, pLo_len] at this
        obtain ⟨ok1, ok2, ok3, ok4, ok5, ok6⟩ := part_ok hii
        unfold nV pLo at hy
        unfold nV pHi at hy2
        rw [List.getElem?_map, List.getElem?_map, List.getElem?_range hii] at hy hy2
        obtain rfl : V.int ((loN lo i : Nat) : Int) = y := Option.some.inj hy
        obtain rfl : V.int ((hiN lo hi i : Nat) : Int) = y2 := Option.some.inj hy2
        k_is
        refine ⟨x, dx, _, rfl, s4 _ _ hx3, rfl, ?_⟩
        k_is
        refine ⟨x, l, loN lo i, hiN lo hi i, rfl, hP3.same s4, ok2, by omega, by omega, fun m H5 hm s5 => ?_⟩
        refine hA _ _ s5 ⟨ms ++ [m], by rw [List.map_append]; rfl, by rw [List.length_append, hms]; rfl, fun j m' e => ?_⟩
        by_cases hj : j < ms.length
        · rw [List.getElem?_append_left hj] at e
          exact hms2 j m' e
        · have hj2 := at_lt e
          rw [List.length_append] at hj2
          have hj3 : j = ms.length := by simp at hj2; omega
          subst hj3
          rw [List.getElem?_append_right (Nat.le_refl _), Nat.sub_self] at e
          obtain rfl : m = m' := Option.some.inj e
          rw [hms]
          exact hm
      · intro D zs H4 hD s4 hPv hD4
        obtain ⟨ms, rfl, hms⟩ := hPv
        rw [hal] at hms
        have s14 := s13.trans s4
        have e14 := s4 _ _ (s3 _ _ e1)
        have hml : ms.length ≤ 100 := by
          rw [hms.1]
          unfold pM
          split <;> omega
        k_is
        refine ⟨a1, D, _, _, rfl, rfl, e14, hD4, Nat.le_of_lt (small20000 (by rw [List.length_map, List.length_singleton]; omega)), fun a2 ha2 => ?_⟩
        have t5 := same_upd (o := .lst ([V.int (hgt l lo)] ++ ms.map V.int)) ha2
        have e5 : upd H4 a2 (.lst ([V.int (hgt l lo)] ++ ms.map V.int)) a2 = some (.lst ((hgt l lo :: ms).map V.int)) := upd_same
        have s15 := s14.trans t5
        generalize upd H4 a2 (.lst ([V.int (hgt l lo)] ++ ms.map V.int)) = H5 at *
        k_is
        refine ⟨a2, _, rfl, SqL.of e5, (fun e => nomatch e), fun m hm => ?_⟩
        have hlow := lowPs_all hms h1 hm
        k_is
        refine iteP (fun h3 => ?_) (fun h3 => ?_)
        · have h3 := V.int.inj h3
          k_is
          refine ⟨few (by simp), fun tp htp => ?_⟩
          exact q m _ tp _ hlow (fun _ => rfl) (fun h => absurd h3 h) (s15.trans (same_upd htp)) upd_same
        · have h3 : m ≠ hgt l lo := fun e => h3 (congrArg V.int e)
          k_is
          refine ⟨x, dx, _, rfl, s15 _ _ hx, rfl, ?_⟩
          k_is
          refine ⟨x, l, lo, m, rfl, hP.same s15, by omega, fun r H6 hr6 s6 => ?_⟩
          cases r with
          | none =>
            obtain ⟨⟨i, i1, i2, i3⟩, _⟩ := hlow
            exact absurd i3 (hr6 i (by
              by_cases e : i = lo
              · exact absurd (by rw [← i3, e]) h3
              · omega) (by omega))
          | some j =>
            k_is
            refine ⟨few (by simp), fun tp htp => ?_⟩
            exact q m _ tp _ hlow (fun h => absurd h h3) (fun _ => ⟨j, rfl, hr6⟩) ((s15.trans s6).trans (same_upd htp)) upd_same
    · rw [strOk_int] at e
      simp at e
      omega
def spCell (K : PySem.W.Frag) : Sp := fun vs H Q _ => ∃ (a : Addr) (ns : List Int) (k : Nat), vs = [.ref a, .int k] ∧ SqL K H a (ns.map V.int) ∧ ∀ c : Int, Q (.int c) H
theorem ok_law_cell_at {f : Addr} {fd : FuncData} (F : Fun K "_law_cell_at" "_law_cell_at" s_law_cell_at f fd) (T : Txt K mg Qc Qb Qd Qi Qe Qg) : FnOk P w K mg base CX0 1 f fd ["_law_script", "_law_k"] (spCell K) := by
  refine F.ok sc_law_cell_at (fun vs H Q E h => ?_) (fun cdv A outer s H vs Q E hr h => ?_)
  · obtain ⟨a, ns, k, rfl, _⟩ := h
    rfl
  · obtain ⟨a, ns, k, rfl, hS, q⟩ := h
    refine ⟨_, (pss_cons (ps_if (pt_cmpR op_lt (pv 1) (pe_callB call_len_seq (by rfl) T.n_len b_len (pa_d (pv 0) pa_nil rfl)) (nomark _)) (pss_one (ps_ret (pe_ix ix_list (pv 0) (pv 1) (fun _ _ => rfl))))
      pss_nil)
      (pss_one (ps_ret pe_int))), ?_⟩
    k_is
    refine ⟨a, _, rfl, .inl hS, ?_⟩
    k_is
    rw [List.length_map]
    refine iteP (fun hb => ?_) (fun hb => ?_)
    · k_is
      have hk : k < ns.length := by omega
      refine r_ixL hS (v := .int ns[k]) ?_ (q _)
      refine atI_nat ?_
      rw [List.getElem?_map, List.getElem?_eq_getElem hk]
      rfl
    · k_is
      exact q 0
def spMixed : Sp := fun vs H Q _ => ∃ c k : Int, vs = [.int c, .int k] ∧ 0 ≤ k ∧ k ≤ 1000 ∧ ∀ r : Int, 0 ≤ r → r < 2147483647 → Q (.int r) H
theorem ok_law_mixed {f : Addr} {fd : FuncData} (F : Fun K "_law_mixed" "_law_mixed" s_law_mixed f fd) (T : Txt K mg Qc Qb Qd Qi Qe Qg) : FnOk P w K mg base CX0 1 f fd ["_law_cell", "_law_k"] spMixed := by
 refine F.ok sc_law_mixed (fun vs H Q E h => ?_) (fun cdv A outer s H vs Q E hr h => ?_)
 ·obtain ⟨c, k, rfl, _⟩ := h
  rfl
 ·obtain ⟨c, k, rfl, h0, h1, q⟩ := h
  refine ⟨_, (pss_cons (ps_set (i := 2) sc_law_mixed.nd rfl (Or.inl rfl) (pe_op op_mod (pe_op op_mul (pe_op op_add (pe_op op_add (pe_op op_add (pe_op op_mod (pv 0) pe_int) (pe_op op_mul (pe_op op_mul pe_int (pv 1)) (pv 1))) (pe_op op_mul pe_int (pv 1))) pe_int) pe_int) pe_int))
   (pss_cons (ps_set (i := 2) sc_law_mixed.nd rfl (Or.inl rfl) (pe_op op_mod (pe_op op_mul (pe_op op_add (pv 2) (pe_op op_mul pe_int (pv 1))) pe_int) pe_int))
   (pss_one (ps_ret (pe_op op_mod (pe_op op_mul (pv 2) pe_int) pe_int))))), ?_⟩
  k_is
  refine r_mulR (by omega) (by omega) ?_
  k_is
  exact q _ (Int.emod_nonneg _ (by decide)) (Int.emod_lt_of_pos _ (by decide))
theorem take_next {ds : List Nat} {k : Nat} (hk : k < ds.length) : nV (ds.take k) ++ [V.int (dAt ds k : Nat)] = nV (ds.take (k + 1)) := by
 unfold nV dAt List.getD
 rw [List.take_add_one, List.getElem?_eq_getElem hk, List.map_append]
 rfl
def spElders : Sp := fun vs H Q _ => ∃ (c : Int) (n : Nat), vs = [.int c, .int n] ∧ n ≤ 60 ∧ ∀ p (ds : List Nat) H', Same H H' → H p = none → H' p = some (.lst ((elds ds).map V.int)) → Dok ds → ds.length = n → Q (.ref p) H'
theorem cut_to (xs : List V) (m : Nat) : cutV xs none (some (m : Int)) = xs.take m := by
 unfold cutV
 rw [HT.sIx_nat]
 show (xs.drop 0).take (min m xs.length - 0) = xs.take m
 rw [List.drop_zero, Nat.sub_zero]
 by_cases h : m ≤ xs.length
 ·rw [Nat.min_eq_left h]
 ·rw [Nat.min_eq_right (by omega), List.take_of_length_le (Nat.le_refl _), List.take_of_length_le (by omega)]
theorem menuI {ys : List Int} {i : Int} {k : Nat} (h : ys.length = k) (h0 : 0 ≤ i) (h1 : i < k) : ∃ y, y ∈ ys ∧ atI (ys.map V.int) i = some (.int y) := by
 have hk : i.toNat < ys.length := by omega
 refine ⟨ys[i.toNat], List.getElem_mem hk, atI_int h0 ?_⟩
 rw [List.getElem?_map, List.getElem?_eq_getElem hk]
 rfl
theorem ok_law_elders {f : Addr} {fd : FuncData} (F : Fun K "_law_elders" "_law_elders" s_law_elders f fd) (T : Txt K mg Qc Qb Qd Qi Qe Qg) (c_law_mixed : Cal P w K mg base "_law_mixed" 1 ["_law_cell", "_law_k"] spMixed) : FnOk P w K mg base CX0 2 f fd ["_law_cell", "_law_many"] spElders := by
  refine F.ok sc_law_elders (fun vs H Q E h => ?_) (fun cdv A outer s H vs Q E hr h => ?_)
  · obtain ⟨c, n, rfl, _⟩ := h
    rfl
  · obtain ⟨c, n, rfl, hn, q⟩ := h
    refine ⟨_, (pss_cons (ps_set (i := 2) sc_law_elders.nd rfl (Or.inl rfl) (pe_lst pa_nil))
      (pss_cons (ps_set (i := 3) sc_law_elders.nd rfl (Or.inl rfl) (pe_lst (pa_d (pe_un un_neg pe_int) pa_nil rfl)))
      (pss_cons (ps_set (i := 4) sc_law_elders.nd rfl (Or.inl rfl) (pe_op op_fdiv (pe_callB call_abs (by rfl) T.n_abs b_abs (pa_d (pv 0) pa_nil rfl)) pe_int))
      (pss_cons (ps_for PassesOwn.never rfl (pi_range1 rfl T.n_range (pa_d (pv 1) pa_nil rfl)) (pg_name (i := 5) sc_law_elders.nd rfl (Or.inl rfl))
      (pss_cons (ps_ifJ (PW.pt (pw_and (pt_cmpR op_eq (pe_op op_mod (pv 0) pe_int) pe_int (nomark _)) (pw_and1 (pt_cmpR op_gt (pv 4) pe_int (nomark _))))) (pss_cons (ps_set (i := 6) sc_law_elders.nd rfl (Or.inl rfl) (pe_op op_mod (pv 4) (pe_callB call_len_seq (by rfl) T.n_len b_len (pa_d (pv 3) pa_nil rfl))))
      (pss_one (ps_set (i := 4) sc_law_elders.nd rfl (Or.inl rfl) (pe_op op_fdiv (pv 4) (pe_callB call_len_seq (by rfl) T.n_len b_len (pa_d (pv 3) pa_nil rfl))))))
      (PSsI.h (bi_cons (si (ps_set (i := 7) sc_law_elders.nd rfl (Or.inl rfl) (pe_fn c_law_mixed (hr.mono (by decide : 1 ≤ _)) (pa_d (pv 0) (pa_d (pv 5) pa_nil rfl) rfl))))
      (bi_one (si_set (i := 6) sc_law_elders.nd rfl (Or.inl rfl) (ei_op op_mod (ei_ix ix_list (ei_lst (ai_c pe_int (ai_c pe_int (ai_c pe_int (ai_c pe_int (ai_c pe_int (ai_c (pe_op op_fdiv (pv 7) pe_int) ai_nil rfl) rfl) rfl) rfl) rfl) rfl)) (pe_op op_mod (pe_op op_fdiv (pv 7) pe_int) pe_int) (fun _ _ => rfl)) (pe_callB call_len_seq (by rfl) T.n_len b_len (pa_d (pv 3) pa_nil rfl))))))))
      (pss_cons (ps_set (i := 3) sc_law_elders.nd rfl (Or.inl rfl) (pe_slice sl_list (pv 3) po_none (po_some (pe_op op_sub (pe_callB call_len_seq (by rfl) T.n_len b_len (pa_d (pv 3) pa_nil rfl)) (pv 6)))))
      (pss_cons (ps_expr (pe_bm PySem.F.plainAttrs_list PySem.F.slot_list_append PySem.F.type_list_append mt_append (pv 2) (pa_d (pe_ix ix_list (pv 3) (pe_un un_neg pe_int) (fun _ _ => rfl)) pa_nil rfl)))
      (pss_one (ps_expr (pe_bm PySem.F.plainAttrs_list PySem.F.slot_list_append PySem.F.type_list_append mt_append (pv 3) (pa_d (pv 5) pa_nil rfl))))))))
      (pss_one (ps_ret (pv 2))))))), ?_⟩
    k_is
    refine ⟨Nat.zero_le _, fun p hp => ?_⟩
    have t0 := same_upd (o := .lst []) hp
    k_is
    refine ⟨few (by simp), fun p0 hp0 => ?_⟩
    have t1 := same_upd (o := .lst [V.int (-1)]) hp0
    k_is
    refine ⟨_, rfl, ?_⟩
    k_is
    refine ⟨_, rfl, by omega, by omega, ?_⟩
    rw [Int.toNat_natCast]
    refine for_range (fun k σ H1 => (∃ (q : Addr) (ds : List Nat) (g : Int) (v5 v6 v7 : Option V), σ = [some (.int c), some (.int n), some (.ref p), some (.ref q), some (.int g), v5, v6, v7] ∧ Dok ds ∧ ds.length = k ∧ H1 p = some (.lst ((elds ds).map V.int)) ∧ H1 q = some (.lst ((way ds k).map V.int)) ∧ p ≠ q ∧ H q = none) ∧ Same H H1) ?_ ?_ ?_
    · exact ⟨⟨p0, [], _, _, _, _, rfl, (fun k hk => by cases hk), rfl, t1 _ _ upd_same, upd_same, ne_of_none upd_same hp0, t0.free hp0⟩, t0.trans t1⟩
    · rintro k σ H1 hk ⟨⟨q1, ds, g, v5, v6, v7, rfl, hD, hl, hp1, hq1, hne, hqH⟩, s1⟩
      have hw := way_len hD k (by omega)
      have hok := opn_le hD k (by omega)
      k_is
      refine r_ifJ (fun σ H2 => (∃ (g : Int) (u : Nat) (v7 : Option V), σ = [some (.int c), some (.int n), some (.ref p), some (.ref q1), some (.int g), some (.int (0 + (k : Int))), some (.int u), v7] ∧ u ≤ opn ds k) ∧ Same H1 H2) ?_ ?_
      · have fin : ∀ y : Int, ∃ u : Nat, y % ((opn ds k + 1 : Nat) : Int) = (u : Int) ∧ u ≤ opn ds k := fun y => by
          have e0 := Int.emod_nonneg y (show ((opn ds k + 1 : Nat) : Int) ≠ 0 by omega)
          have e1 := Int.emod_lt_of_pos y (show (0 : Int) < ((opn ds k + 1 : Nat) : Int) by omega)
          exact ⟨(y % ((opn ds k + 1 : Nat) : Int)).toNat, by omega, by omega⟩
        k_is
        refine iteP (fun _ => ?_) (fun _ => ?_)
        · k_is
          refine iteP (fun _ => ?_) (fun _ => ?_)
          · k_is
            refine ⟨q1, _, rfl, .inl (SqL.of hq1), ?_⟩
            k_is
            rw [List.length_map, hw]
            refine r_mod (by omega) ?_
            k_is
            refine ⟨q1, _, rfl, .inl (SqL.of hq1), ?_⟩
            k_is
            rw [List.length_map, hw]
            refine r_div (by omega) (by omega) ?_
            k_is
            obtain ⟨u, hu, hu1⟩ := fin g
            rw [hu]
            exact ⟨⟨_, u, _, rfl, hu1⟩, Same.refl _⟩
          · k_is
            refine ⟨c, 0 + (k : Int), rfl, by omega, by omega, fun r r0 r1 => ?_⟩
            k_is
            refine ⟨few (by simp), fun y hy => ?_⟩
            have ty := same_upd (o := .lst ([0, 0, 1, 1, 2, r / 42].map V.int)) hy
            obtain ⟨z, _, hz⟩ := menuI (ys := [0, 0, 1, 1, 2, r / 42]) (i := r / 7 % 6) (k := 6) rfl (by omega) (by omega)
            k_is
            refine r_ixL (SqL.of upd_same) hz ?_
            k_is
            refine ⟨q1, _, rfl, .inl (SqL.of (ty _ _ hq1)), ?_⟩
            k_is
            rw [List.length_map, hw]
            refine r_mod (by omega) ?_
            k_is
            obtain ⟨u, hu, hu1⟩ := fin z
            rw [hu]
            exact ⟨⟨g, u, _, rfl, hu1⟩, ty⟩
        · k_is
          refine ⟨c, 0 + (k : Int), rfl, by omega, by omega, fun r r0 r1 => ?_⟩
          k_is
          refine ⟨few (by simp), fun y hy => ?_⟩
          have ty := same_upd (o := .lst ([0, 0, 1, 1, 2, r / 42].map V.int)) hy
          obtain ⟨z, _, hz⟩ := menuI (ys := [0, 0, 1, 1, 2, r / 42]) (i := r / 7 % 6) (k := 6) rfl (by omega) (by omega)
          k_is
          refine r_ixL (SqL.of upd_same) hz ?_
          k_is
          refine ⟨q1, _, rfl, .inl (SqL.of (ty _ _ hq1)), ?_⟩
          k_is
          rw [List.length_map, hw]
          refine r_mod (by omega) ?_
          k_is
          obtain ⟨u, hu, hu1⟩ := fin z
          rw [hu]
          exact ⟨⟨g, u, _, rfl, hu1⟩, ty⟩
      · rintro σ H2 ⟨⟨g, u, v7, rfl, hu⟩, s2⟩
        have hp2 := s2 _ _ hp1
        have hq2 := s2 _ _ hq1
        have s2 := s1.trans s2
        k_is
        refine ⟨q1, _, rfl, .inl (SqL.of hq2), ?_⟩
        k_is
        rw [List.length_map, hw]
        obtain ⟨d, hd, hd1⟩ : ∃ d : Nat, ((opn ds k + 1 : Nat) : Int) - (u : Int) = ((d + 1 : Nat) : Int) ∧ d ≤ opn ds k := ⟨opn ds k - u, by omega, by omega⟩
        rw [hd]
        refine ⟨q1, _, rfl, SqL.of hq2, fun q3 h3 => ?_⟩
        rw [cut_to] at *
        rw [← List.map_take] at *
        have u3 := same_upd (o := .lst (((way ds k).take (d + 1)).map V.int)) h3
        have hq3H : H q3 = none := s2.free h3
        have hp3 := u3 _ _ hp2
        have hpq3 : p ≠ q3 := ne_of_none hp2 h3
        have s3 := s2.trans u3
        have hq3 : upd H2 q3 (.lst (((way ds k).take (d + 1)).map V.int)) q3 = some (.lst (((way ds k).take (d + 1)).map V.int)) := upd_same
        generalize upd H2 q3 (.lst (((way ds k).take (d + 1)).map V.int)) = H3 at *
        have hx : (way ds k)[d + 1 - 1]? = some ((way ds k).getD d 0) := by
          rw [Nat.add_sub_cancel]
          unfold List.getD
          rw [List.getElem?_eq_getElem (by omega)]
          rfl
        k_is
        refine ⟨.inl ⟨rfl, _, SqL.of hp3⟩, ?_⟩
        k_is
        refine r_ixL (SqL.of hq3) (last_take (by omega) hx) ?_
        k_is
        refine r_append hp3 ?_ ?_
        · rw [List.length_map, elds_len]
          exact small1000 (by omega)
        have s4 := push_same (o := .lst ((elds ds).map V.int ++ [V.int ((way ds k).getD d 0)])) s3 hp
        have hq4 : upd H3 p (.lst ((elds ds).map V.int ++ [V.int ((way ds k).getD d 0)])) q3 = some (.lst (((way ds k).take (d + 1)).map V.int)) := by rw [upd_ne hpq3.symm]; exact hq3
        have hp4 : upd H3 p (.lst ((elds ds).map V.int ++ [V.int ((way ds k).getD d 0)])) p = some (.lst ((elds ds).map V.int ++ [V.int ((way ds k).getD d 0)])) := upd_same
        generalize upd H3 p (.lst ((elds ds).map V.int ++ [V.int ((way ds k).getD d 0)])) = H4 at *
        k_is
        refine ⟨.inl ⟨rfl, _, SqL.of hq4⟩, ?_⟩
        k_is
        refine r_append hq4 ?_ ?_
        · rw [List.length_map, List.length_take]
          exact small1000 (by omega)
        k_is
        refine ⟨⟨q3, ds ++ [d], g, _, _, _, rfl, dok_snoc hD (by rw [hl]; exact hd1), by rw [List.length_append, hl]; rfl, ?_, ?_, hpq3, hq3H⟩, push_same s4 hq3H⟩
        · rw [upd_ne hpq3, hp4, elds_snoc, List.map_append, hl]
          rfl
        · have e := way_next ds d
          rw [hl] at e
          rw [upd_same, e, List.map_append, show (0 + (k : Int)) = (k : Int) by omega]
          rfl
    · rintro σ H1 ⟨⟨q1, ds, g, v5, v6, v7, rfl, hD, hl, hp1, hq1, hne, hqH⟩, s1⟩
      k_is
      exact q p ds H1 s1 hp hp1 hD hl
def spRow : Sp := fun vs H Q _ => ∃ (a : Addr) (ds : List Nat), vs = [.ref a] ∧ H a = some (.lst ((elds ds).map V.int)) ∧ Dok ds ∧ ds.length ≤ 1000 ∧ ∀ H', Same H H' → Q (.str (signs (rowD ds))) H'
theorem ok_law_row {f : Addr} {fd : FuncData} (F : Fun K "_law_row" "_law_row" s_law_row f fd) (T : Txt K mg Qc Qb Qd Qi Qe Qg) : FnOk P w K mg base CX0 1 f fd ["_law_elders_here"] spRow := by
 refine F.ok sc_law_row (fun vs H Q E h => ?_) (fun cdv A outer s H vs Q E hr h => ?_)
 ·obtain ⟨a, ds, rfl, _⟩ := h
  rfl
 ·obtain ⟨a, ds, rfl, ha, hD, hn, q⟩ := h
  refine ⟨_, (pss_cons (ps_set (i := 1) sc_law_row.nd rfl (Or.inl rfl) pe_str)
   (pss_cons (ps_set (i := 2) sc_law_row.nd rfl (Or.inl rfl) (pe_lst pa_nil))
   (pss_cons (ps_for PassesOwn.never rfl (pi_list (pv 0)) (pg_name (i := 3) sc_law_row.nd rfl (Or.inl rfl))
   (pss_cons (ps_set (i := 4) sc_law_row.nd rfl (Or.inl rfl) pe_int)
   (pss_cons (ps_ifJ (pt_cmpR op_ge (pv 3) pe_int (nomark _)) (pss_one (ps_set (i := 4) sc_law_row.nd rfl (Or.inl rfl) (pe_op op_add (pe_ix ix_list (pv 2) (pv 3) (fun _ _ => rfl)) pe_int)))
   pss_nil)
   (pss_cons (ps_ifJ (pt_cmpR (op_neL (hu60 hr)) (pv 2) (pe_lst pa_nil) (nomark _)) (pss_one (ps_set (i := 1) sc_law_row.nd rfl (Or.inl rfl) (pe_op op_add_str (pv 1) (pe_op op_mulS pe_str (pe_op op_sub (pe_op op_add (pe_ix ix_list (pv 2) (pe_un un_neg pe_int) (fun _ _ => rfl)) pe_int) (pv 4))))))
   pss_nil)
   (pss_cons (ps_expr (pe_bm PySem.F.plainAttrs_list PySem.F.slot_list_append PySem.F.type_list_append mt_append (pv 2) (pa_d (pv 4) pa_nil rfl)))
   (pss_one (ps_set (i := 1) sc_law_row.nd rfl (Or.inl rfl) (pe_op op_add_str (pv 1) pe_str))))))))
   (pss_cons (ps_ifJ (pt_cmpR (op_neL (hu60 hr)) (pv 2) (pe_lst pa_nil) (nomark _)) (pss_one (ps_set (i := 1) sc_law_row.nd rfl (Or.inl rfl) (pe_op op_add_str (pv 1) (pe_op op_mulS pe_str (pe_op op_add (pe_ix ix_list (pv 2) (pe_un un_neg pe_int) (fun _ _ => rfl)) pe_int)))))
   pss_nil)
   (pss_one (ps_ret (pv 1))))))), ?_⟩
  k_is
  refine ⟨Nat.zero_le _, fun p hp => ?_⟩
  have t0 := same_upd (o := .lst []) hp
  k_is
  refine ⟨a, rfl, ⟨_, SqL.of (t0 _ _ ha)⟩, ?_⟩
  refine for_list (xs := (elds ds).map V.int) (fun k σ H1 => (∃ v3 v4 : Option V, σ = [some (.ref a), some (.str (signs (rowP ds k))), some (.ref p), v3, v4]) ∧ H1 p = some (.lst (nV (ds.take k))) ∧ Same H H1) ⟨⟨_, _, rfl⟩, upd_same, t0⟩ (fun k σ H1 _ h => SqL.of (h.2.2 _ _ ha)) ?_ ?_
  ·rintro k x σ H1 hx ⟨⟨v3, v4, rfl⟩, hp1, s1⟩
   have hk := at_lt hx
   rw [List.length_map, elds_len] at hk
   obtain ⟨e, he, rfl⟩ := iV_get hx
   rw [elds_at hk] at he
   obtain rfl := Option.some.inj he
   have hlen : (nV (ds.take k)).length = k := by rw [nV_len, List.length_take]; omega
   have hrl := rowP_len hD k (by omega)
   have hdk := hD k hk
   have hopk := opn_le hD k (by omega)
   k_is
   refine r_ifJ (fun σ H2 => σ = [some (.ref a), some (.str (signs (rowP ds k))), some (.ref p), some (.int (eld ds k)), some (.int (dAt ds k : Nat))] ∧ H2 = H1) ?_ ?_
   ·k_is
    refine iteP (fun h => ?_) (fun h => ?_)
    ·obtain ⟨v, hv, hlt, hd⟩ := eld_deep hD hk (fun e => by omega)
     k_is
     rw [hv]
     refine r_ixL (SqL.of hp1) (v := .int (dAt ds v : Nat)) ?_ ?_
     ·refine atI_nat (nV_at ?_)
      rw [List.getElem?_take_of_lt hlt, List.getElem?_eq_getElem (by omega)]
      unfold dAt List.getD
      rw [List.getElem?_eq_getElem (by omega)]
      rfl
     k_is
     refine ⟨?_, rfl⟩
     rw [hd, ← hv]
     rfl
    ·have hge := eld_ge hD hk
     have hd := eld_top hD hk (by omega)
     k_is
     refine ⟨?_, rfl⟩
     rw [hd]
     rfl
   ·rintro σ H2 ⟨rfl, rfl⟩
    k_is
    refine r_ifJ (fun σ H3 => σ = [some (.ref a), some (.str (signs (rowP ds k ++ List.replicate (opn ds k - dAt ds k) false))), some (.ref p), some (.int (eld ds k)), some (.int (dAt ds k : Nat))] ∧ H3 p = some (.lst (nV (ds.take k))) ∧ Same H H3) ?_ ?_
    ·k_is
     refine ⟨Nat.zero_le _, fun e hE => ?_⟩
     have tE := same_upd (o := .lst []) hE
     have hp3 := tE _ _ hp1
     have s3 := s1.trans tE
     refine r_neI (ns := (ds.take k).map fun n : Nat => (n : Int)) (ms := []) (SqL.of ?_) (SqL.of upd_same) ?_
     ·rw [hp3, List.map_map]
      rfl
     generalize upd H2 e (.lst []) = H3 at *
     k_is
     refine iteN (fun hne => ?_) (fun hem => ?_)
     ·have hk0 : 0 < k := by
       cases k with
       | zero => exact absurd rfl hne
       | succ k => omega
      have hok : opn ds k = dAt ds (k - 1) + 1 := by
       obtain ⟨j, rfl⟩ : ∃ j, k = j + 1 := ⟨k - 1, by omega⟩
       rfl
      have hlast : atI (nV (ds.take k)) (-1) = some (.int (dAt ds (k - 1) : Nat)) := by
       have := take_next (ds := ds) (k := k - 1) (by omega)
       rw [show k - 1 + 1 = k by omega] at this
       rw [← this]
       exact atI_last _ _
      k_is
      refine r_ixL (SqL.of hp3) hlast ?_
      k_is
      refine ⟨"0", (dAt ds (k - 1) : Int) + 1 - (dAt ds k : Int), rfl, rfl, by omega, by omega, ?_, few (by decide), ?_⟩
      ·exact Nat.le_of_lt (small20000 (by rw [show ("0" : Str).length = 1 by rfl]; omega))
      have e0 : repS ("0" : Str) ((dAt ds (k - 1) : Int) + 1 - (dAt ds k : Int)).toNat = signs (List.replicate (opn ds k - dAt ds k) false) := by
       rw [show ((dAt ds (k - 1) : Int) + 1 - (dAt ds k : Int)).toNat = opn ds k - dAt ds k by omega]
       exact rep_signs false _
      rw [e0]
      k_is
      refine ⟨_, _, rfl, rfl, ?_, ?_⟩
      ·rw [signs_len, signs_len, List.length_replicate]
       exact Nat.le_of_lt (small20000 (by omega))
      k_is
      rw [signs_append]
      exact ⟨rfl, hp3, s3⟩
     ·have hk0 : k = 0 := by
       have := congrArg List.length hem
       rw [List.length_map, List.length_take, List.length_nil] at this
       omega
      have e0 : opn ds k - dAt ds k = 0 := by
       subst hk0
       show 0 - _ = 0
       omega
      k_is
      rw [e0, List.replicate_zero, List.append_nil]
      exact ⟨rfl, hp3, s3⟩
    ·rintro σ H3 ⟨rfl, hp3, s3⟩
     k_is
     refine ⟨.inl ⟨rfl, _, SqL.of hp3⟩, ?_⟩
     k_is
     refine r_append hp3 (by rw [hlen]; exact small20000 (by omega)) ?_
     k_is
     refine ⟨_, "1", rfl, rfl, ?_, ?_⟩
     ·rw [signs_len, List.length_append, List.length_replicate]
      exact Nat.le_of_lt (small20000 (by rw [show ("1" : Str).length = 1 by rfl]; omega))
     k_is
     have e1 : signs (rowP ds k ++ List.replicate (opn ds k - dAt ds k) false) ++ ("1" : Str) = signs (rowP ds (k + 1)) := by
      rw [rowP_succ]
      show signs _ ++ signs [true] = _
      rw [signs_append, List.append_assoc]
      rfl
     rw [e1]
     refine ⟨⟨_, _, rfl⟩, ?_, push_same s3 hp⟩
     rw [upd_same, take_next hk]
  ·rintro σ H1 ⟨⟨v3, v4, rfl⟩, hp1, s1⟩
   rw [List.length_map, elds_len] at *
   rw [List.take_of_length_le (Nat.le_refl _)] at hp1
   have hrl := rowP_len hD ds.length (Nat.le_refl _)
   have hopk := opn_le hD ds.length (Nat.le_refl _)
   k_is
   refine r_ifJ (fun σ H3 => (∃ v3 v4 : Option V, σ = [some (.ref a), some (.str (signs (rowD ds))), some (.ref p), v3, v4]) ∧ Same H H3) ?_ ?_
   ·k_is
    refine ⟨Nat.zero_le _, fun e hE => ?_⟩
    have tE := same_upd (o := .lst []) hE
    have hp3 := tE _ _ hp1
    have s3 := s1.trans tE
    refine r_neI (ns := ds.map fun n : Nat => (n : Int)) (ms := []) (SqL.of ?_) (SqL.of upd_same) ?_
    ·rw [hp3, List.map_map]
     rfl
    generalize upd H1 e (.lst []) = H3 at *
    k_is
    refine iteN (fun hne => ?_) (fun hem => ?_)
    ·have hk0 : 0 < ds.length := by
      cases ds with
      | nil => exact absurd rfl hne
      | cons d r => exact Nat.succ_pos _
     have hok : opn ds ds.length = dAt ds (ds.length - 1) + 1 := by
      obtain ⟨j, hj⟩ : ∃ j, ds.length = j + 1 := ⟨ds.length - 1, by omega⟩
      rw [hj]
      rfl
     have hlast : atI (nV ds) (-1) = some (.int (dAt ds (ds.length - 1) : Nat)) := by
      have := take_next (ds := ds) (k := ds.length - 1) (by omega)
      rw [show ds.length - 1 + 1 = ds.length by omega, List.take_of_length_le (Nat.le_refl _)] at this
      rw [← this]
      exact atI_last _ _
     k_is
     refine r_ixL (SqL.of hp3) hlast ?_
     k_is
     refine ⟨"0", (dAt ds (ds.length - 1) : Int) + 1, rfl, rfl, by omega, by omega, ?_, few (by decide), ?_⟩
     ·exact Nat.le_of_lt (small20000 (by rw [show ("0" : Str).length = 1 by rfl]; omega))
     have e0 : repS ("0" : Str) ((dAt ds (ds.length - 1) : Int) + 1).toNat = signs (List.replicate (opn ds ds.length) false) := by
      rw [show ((dAt ds (ds.length - 1) : Int) + 1).toNat = opn ds ds.length by omega]
      exact rep_signs false _
     rw [e0]
     k_is
     refine ⟨_, _, rfl, rfl, ?_, ?_⟩
     ·rw [signs_len, signs_len, List.length_replicate]
      exact Nat.le_of_lt (small20000 (by omega))
     k_is
     rw [signs_append]
     exact ⟨⟨_, _, rfl⟩, s3⟩
    ·have hds : ds = [] := List.map_eq_nil_iff.mp hem
     k_is
     have e0 : rowP ds ds.length = rowD ds := by
      rw [hds]
      rfl
     rw [e0]
     exact ⟨⟨_, _, rfl⟩, s3⟩
   ·rintro σ H3 ⟨⟨v3, v4, rfl⟩, s3⟩
    k_is
    exact q H3 s3
theorem due8_eq : ∀ (cs : List Nat) (k : Nat) (h : Int), k + cs.length ≤ 8192 → dueF8 cs k h = dueF cs k h
 | [], k, h, _ => rfl
 | c :: r, k, h, hk => by
  rw [List.length_cons] at hk
  unfold dueF8 dueF
  rw [due8_eq r (k + 1) _ (by omega), if_neg (show ¬ k = 8192 by omega)]
theorem due8_short (z : Str) (h : z.length ≤ 8192) : dueV8 (.str z) = dueV (.str z) := due8_eq _ 0 0 (by rw [cps_len, Nat.zero_add]; exact h)
def spIs : Sp := fun vs H Q _ => ∃ i : Int, vs = [.int i, .int i] ∧ Q (.bl true) H
theorem ok_law_is {f : Addr} {fd : FuncData} (F : Fun K "_law_is" "_law_is" s_law_is f fd) (T : Txt K mg Qc Qb Qd Qi Qe Qg) : FnOk P w K mg base CX0 1 f fd ["_law_found", "_law_due"] spIs := by
 refine F.ok sc_law_is (fun vs H Q E h => ?_) (fun cdv A outer s H vs Q E hr h => ?_)
 ·obtain ⟨i, rfl, _⟩ := h
  rfl
 ·obtain ⟨i, rfl, q⟩ := h
  refine ⟨_, (pss_one (ps_ret (pe_and (pe_callB call_isinst (by rfl) T.n_isinstance b_isinstance (pa_d (pv 0) (pa_d (pe_bltn (v := .ty "int") rfl T.n_int b_int rfl) pa_nil rfl) rfl)) (pe_and (pe_not (pe_callB call_isinst (by rfl) T.n_isinstance b_isinstance (pa_d (pv 0) (pa_d (pe_bltn (v := .ty "bool") rfl T.n_bool b_bool rfl) pa_nil rfl) rfl))) (pe_one (pe_cmpR op_eq (pv 0) (pv 1) (nomark _))))))), ?_⟩
  k_is
  refine ⟨_, _, _, _, rfl, .int _, kit_int_int, ?_⟩
  k_is
  refine ⟨_, _, _, _, rfl, .int _, kit_int_bool, ?_⟩
  k_is
  rw [decide_eq_true (show V.int i = V.int i from rfl)]
  exact q
theorem vs_app : ∀ (l : List Bool) (g h : Nat) (s : List Bool), Vs g l → Vs h s → Vs (g + h) (l ++ s)
 | [], g, h, s, e, hs => by
  obtain rfl : g = 0 := e
  rw [Nat.zero_add]
  exact hs
 | false :: r, g, h, s, e, hs => by
  refine ⟨by have := e.1; omega, ?_⟩
  have := vs_app r (g - 1) h s e.2 hs
  rw [show g - 1 + h = g + h - 1 by have := e.1; omega] at this
  exact this
 | true :: r, g, h, s, e, hs => by
  have := vs_app r (g + 1) h s e hs
  rw [show g + 1 + h = g + h + 1 by omega] at this
  exact this
theorem vs_ones : ∀ (n h : Nat) (s : List Bool), Vs (h + n) s → Vs h (List.replicate n true ++ s)
 | 0, h, s, e => e
 | n + 1, h, s, e => by
  rw [List.replicate_succ]
  exact vs_ones n (h + 1) s (by rw [show h + 1 + n = h + (n + 1) by omega]; exact e)
theorem vs_times {l : List Bool} (h : Vs 0 l) : ∀ n, Vs 0 (List.replicate n l).flatten
 | 0 => rfl
 | n + 1 => by
  rw [List.replicate_succ, List.flatten_cons]
  exact vs_app l 0 0 _ h (vs_times h n)
theorem due8_row {l : List Bool} (h : Vs 0 l) (hl : l.length ≤ 8192) : dueV8 (.str (signs l)) = none := by
 rw [due8_short _ (by rw [signs_len]; exact hl)]
 show due (signs l).cps.toList = none
 rw [signs_cps]
 exact due_vs l 0 0 h
def spText21 (K : PySem.W.Frag) : Sp := fun vs H Q _ => ∃ (a : Addr) (ns : List Int) (k : Nat), vs = [.ref a, .int k] ∧ SqL K H a (ns.map V.int) ∧ k ≤ 100 ∧ ∀ (l : List Bool) H', Same H H' → Vs 0 l → l.length ≤ 900 → Q (.str (signs l)) H'
theorem ok_law_text {f : Addr} {fd : FuncData} (F : Fun K "_law_text" "_law_text" s_law_text f fd) (T : Txt K mg Qc Qb Qd Qi Qe Qg) (c_law_cell_at : Cal P w K mg base "_law_cell_at" 1 ["_law_script", "_law_k"] (spCell K)) (c_law_mixed : Cal P w K mg base "_law_mixed" 1 ["_law_cell", "_law_k"] spMixed) (c_law_elders : Cal P w K mg base "_law_elders" 2 ["_law_cell", "_law_many"] spElders)
    (c_law_row : Cal P w K mg base "_law_row" 1 ["_law_elders_here"] spRow) : FnOk P w K mg base CX0 3 f fd ["_law_script", "_law_at"] (spText21 K) := by
  refine F.ok sc_law_text (fun vs H Q E h => ?_) (fun cdv A outer s H vs Q E hr h => ?_)
  · obtain ⟨a, ns, k, rfl, _⟩ := h
    rfl
  · obtain ⟨a, ns, k, rfl, hS, hk, q⟩ := h
    refine ⟨_, (pss_cons (ps_set (i := 2) sc_law_text.nd rfl (Or.inl rfl) (pe_fn c_law_mixed (hr.mono (by decide : 1 ≤ _)) (pa_d (pe_fn c_law_cell_at (hr.mono (by decide : 1 ≤ _)) (pa_d (pv 0) (pa_d (pv 1) pa_nil rfl) rfl)) (pa_d (pv 1) pa_nil rfl) rfl)))
      (pss_cons (ps_set (i := 3) sc_law_text.nd rfl (Or.inl rfl) (pe_ix ix_list (pe_lst (pa_d (pe_op op_mod (pe_op op_fdiv (pv 2) pe_int) pe_int) (pa_d (pe_op op_mod (pe_op op_fdiv (pv 2) pe_int) pe_int) (pa_d pe_int (pa_d pe_int pa_nil rfl) rfl) rfl) rfl)) (pe_op op_mod (pv 2) pe_int) (fun _ _ => rfl)))
      (pss_cons (ps_set (i := 4) sc_law_text.nd rfl (Or.inl rfl) (pe_fn c_law_row (hr.mono (by decide : 1 ≤ _)) (pa_d (pe_fn c_law_elders (hr.mono (by decide : 2 ≤ _)) (pa_d (pe_fn c_law_cell_at (hr.mono (by decide : 1 ≤ _)) (pa_d (pv 0) (pa_d (pe_op op_add (pv 1) pe_int) pa_nil rfl) rfl)) (pa_d (pv 3) pa_nil rfl) rfl)) pa_nil rfl)))
      (pss_cons (ps_if (pt_cmpR op_eq (pe_op op_mod (pe_op op_fdiv (pv 2) pe_int) pe_int) pe_int (nomark _)) (pss_cons (ps_set (i := 5) sc_law_text.nd rfl (Or.inl rfl) (pe_op op_mod (pe_op op_fdiv (pv 2) pe_int) pe_int))
      (pss_one (ps_set (i := 4) sc_law_text.nd rfl (Or.inl rfl) (pe_op op_add_str (pe_op op_add_str (pe_op op_mulS pe_str (pv 5)) (pe_op op_mulS (pv 4) (pe_op op_add pe_int (pe_op op_mod (pe_op op_fdiv (pv 2) pe_int) pe_int)))) (pe_op op_mulS pe_str (pv 5))))))
      pss_nil)
      (pss_one (ps_ret (pv 4))))))), ?_⟩
    k_is
    refine ⟨a, ns, k, rfl, hS, fun c => ?_⟩
    k_is
    refine ⟨c, (k : Int), rfl, by omega, by omega, fun r hr0 hr1 => ?_⟩
    k_is
    refine ⟨few (by simp), fun y hy => ?_⟩
    have s1 := same_upd (o := .lst [V.int (r / 4 % 61), V.int (r / 4 % 13), V.int 60, V.int 7]) hy
    obtain ⟨mny, hat, hm⟩ : ∃ mny : Nat, atI [V.int (r / 4 % 61), V.int (r / 4 % 13), V.int 60, V.int 7] (r % 4) = some (.int (mny : Int)) ∧ mny ≤ 60 := by
      obtain ⟨j, hj, hj1⟩ := emod_nat r 3
      have hj : r % 4 = (j : Int) := hj
      obtain ⟨a1, ha1, hb1⟩ := emod_nat (r / 4) 60
      obtain ⟨a2, ha2, hb2⟩ := emod_nat (r / 4) 12
      have ha1 : r / 4 % 61 = (a1 : Int) := ha1
      have ha2 : r / 4 % 13 = (a2 : Int) := ha2
      rw [hj, ha1, ha2]
      match j, hj1 with
      | 0, _ => exact ⟨a1, rfl, hb1⟩
      | 1, _ => exact ⟨a2, rfl, by omega⟩
      | 2, _ => exact ⟨60, rfl, by decide⟩
      | 3, _ => exact ⟨7, rfl, by decide⟩
    k_is
    refine r_ixL (SqL.of upd_same) hat ?_
    generalize upd H y (.lst [V.int (r / 4 % 61), V.int (r / 4 % 13), V.int 60, V.int 7]) = H1 at *
    k_is
    refine ⟨a, ns, k + 1, rfl, s1.seq hS, fun c1 => ?_⟩
    k_is
    refine ⟨c1, mny, rfl, hm, fun p ds H2 s2 _ hp hD hl => ?_⟩
    refine ⟨p, ds, rfl, hp, hD, by omega, fun H3 s3 => ?_⟩
    have s13 := (s1.trans s2).trans s3
    have hrl := rowD_len hD
    k_is
    refine iteP (fun _ => ?_) (fun _ => ?_)
    · obtain ⟨wd, hw, hw1⟩ := emod_nat (r / 900) 39
      obtain ⟨tm, ht, ht1⟩ := emod_nat (r / 36000) 5
      have hw : r / 900 % 40 = (wd : Int) := hw
      have ht : r / 36000 % 6 = (tm : Int) := ht
      k_is
      rw [hw]
      refine ⟨"1", (wd : Int), rfl, rfl, by omega, by omega, ?_, few (by decide), ?_⟩
      · exact few (by rw [show ("1" : Str).length = 1 by rfl]; omega)
      rw [Int.toNat_natCast, show repS ("1" : Str) wd = signs (List.replicate wd true) from rep_signs true wd]
      k_is
      rw [ht]
      have hn : (1 + (tm : Int)).toNat = 1 + tm := by omega
      have hrow : (List.replicate (1 + tm) (rowD ds)).flatten.length ≤ 720 := by
        rw [List.length_flatten, List.map_replicate, List.sum_replicate_nat, hrl]
        have := Nat.mul_le_mul (show 1 + tm ≤ 6 by omega) (show 2 * ds.length ≤ 120 by omega)
        omega
      refine ⟨signs (rowD ds), 1 + (tm : Int), rfl, rfl, by omega, by omega, ?_, few (by rw [signs_len]; omega), ?_⟩
      · rw [signs_len, hn, hrl]
        have := Nat.mul_le_mul (show 1 + tm ≤ 6 by omega) (show 2 * ds.length ≤ 120 by omega)
        first | exact Nat.le_of_lt (small20000 (by omega)) | exact Nat.le_of_lt (small20000 (by rw [Nat.mul_comm]; omega))
      rw [hn, repS_signs]
      refine ⟨_, _, rfl, rfl, Nat.le_of_lt (small20000 (by rw [signs_len, signs_len, List.length_replicate]; omega)), ?_⟩
      rw [signs_append]
      k_is
      refine ⟨"0", (wd : Int), rfl, rfl, by omega, by omega, ?_, few (by decide), ?_⟩
      · exact few (by rw [show ("0" : Str).length = 1 by rfl]; omega)
      rw [Int.toNat_natCast, show repS ("0" : Str) wd = signs (List.replicate wd false) from rep_signs false wd]
      refine ⟨_, _, rfl, rfl, Nat.le_of_lt (small20000 (by rw [signs_len, signs_len, List.length_append, List.length_replicate, List.length_replicate]; omega)), ?_⟩
      rw [signs_append]
      k_is
      refine q _ H3 s13 ?_ ?_
      · rw [List.append_assoc]
        refine vs_ones wd 0 _ ?_
        rw [Nat.zero_add]
        have := vs_app _ 0 wd (List.replicate wd false) (vs_times (vs_row hD) (1 + tm)) (by have := vs_zeros wd 0 [] rfl; rw [List.append_nil, Nat.zero_add] at this; exact this)
        rw [Nat.zero_add] at this
        exact this
      · rw [List.length_append, List.length_append, List.length_replicate, List.length_replicate]
        omega
    · k_is
      exact q _ H3 s13 (vs_row hD) (by rw [hrl]; omega)
def htsA (l : List Bool) (i : Nat) : List Int := (List.range (i + 1)).map (hgt l)
theorem htsA_succ (l : List Bool) (i : Nat) : htsA l (i + 1) = htsA l i ++ [hgt l (i + 1)] := by
 unfold htsA
 rw [List.range_succ, List.map_append]
 rfl
theorem htsA_len (l : List Bool) (i : Nat) : (htsA l i).length = i + 1 := by unfold htsA; rw [List.length_map, List.length_range]
theorem htsA_at {l : List Bool} {n i : Nat} (h : i ≤ n) : (htsA l n)[i]? = some (hgt l i) := by unfold htsA; rw [List.getElem?_map, List.getElem?_range (by omega)]; rfl
def spHts26 : Sp := fun vs H Q _ => ∃ l : List Bool, vs = [.str (signs l)] ∧ l.length ≤ 8192 ∧ ∀ p H', Same H H' → H p = none → H' p = some (.lst ((htsA l l.length).map V.int)) → Q (.ref p) H'
theorem ok_law_heights {f : Addr} {fd : FuncData} (F : Fun K "_law_heights" "_law_heights" s_law_heights f fd) (T : Txt K mg Qc Qb Qd Qi Qe Qg) : FnOk P w K mg base CX0 1 f fd ["_law_text_here"] spHts26 := by
 refine F.ok sc_law_heights (fun vs H Q E h => ?_) (fun cdv A outer s H vs Q E hr h => ?_)
 ·obtain ⟨l, rfl, _⟩ := h
  rfl
 ·obtain ⟨l, rfl, hn, q⟩ := h
  refine ⟨_, (pss_cons (ps_set (i := 1) sc_law_heights.nd rfl (Or.inl rfl) (pe_lst (pa_d pe_int pa_nil rfl)))
   (pss_cons (ps_for PassesOwn.never rfl (pi_str (pv 0)) (pg_name (i := 2) sc_law_heights.nd rfl (Or.inl rfl))
   (pss_one (ps_expr (pe_bm PySem.F.plainAttrs_list PySem.F.slot_list_append PySem.F.type_list_append mt_append (pv 1) (pa_d (pe_op op_add (pe_ix ix_list (pv 1) (pe_un un_neg pe_int) (fun _ _ => rfl)) (pe_ix ix_list (pe_lst (pa_d (pe_un un_neg pe_int) (pa_d pe_int pa_nil rfl) rfl)) (pe_callTy call_int1 (by rfl) T.n_int b_int (pa_d (pe_cmpR op_eq (pv 2) pe_str (nomark _)) pa_nil rfl)) (fun _ _ => rfl))) pa_nil rfl)))))
   (pss_one (ps_ret (pv 1))))), ?_⟩
  k_is
  refine ⟨few (by simp), fun p hp => ?_⟩
  k_is
  refine ⟨_, rfl, ?_⟩
  refine for_str (fun i σ H1 => ∃ v : Option V, σ = [some (.str (signs l)), some (.ref p), v] ∧ H1 p = some (.lst ((htsA l i).map V.int)) ∧ Same H H1) ⟨_, rfl, by rw [upd_same]; show _ = some (HO.lst [V.int (hgt l 0)]); rw [hgt_zero], same_upd hp⟩ ?_ ?_
  ·rintro i c σ H1 hc ⟨v, rfl, hp1, s1⟩
   obtain ⟨b, hb, rfl⟩ := sign_of hc
   have hi := at_lt hb
   have hh := hgt_succ hb
   k_is
   refine ⟨.inl ⟨rfl, _, SqL.of hp1⟩, ?_⟩
   k_is
   refine r_ixL (SqL.of hp1) (v := .int (hgt l i)) ?_ ?_
   ·have e : (htsA l i).map V.int = ((List.range i).map fun j => V.int (hgt l j)) ++ [V.int (hgt l i)] := by
     unfold htsA
     rw [List.map_map, List.range_succ, List.map_append]
     rfl
    rw [e]
    exact atI_last _ _
   k_is
   refine ⟨few (by simp), fun m hm => ?_⟩
   have t1 := same_upd (o := .lst [V.int (-1), V.int 1]) hm
   have e1 : upd H1 m (.lst [V.int (-1), V.int 1]) m = some (.lst [V.int (-1), V.int 1]) := upd_same
   have hp2 := t1 _ _ hp1
   have s2 := s1.trans t1
   generalize upd H1 m (.lst [V.int (-1), V.int 1]) = H2 at *
   k_is
   refine .inr ⟨_, rfl, ?_⟩
   have key : ∀ d : Int, hgt l (i + 1) = hgt l i + d → rAppend (V.ref p) [V.int (hgt l i + d)] H2 fun x H1 => ∃ v_1, [some (V.str (signs l)), some (V.ref p), some (V.str (sgn (if b = true then 49 else 48)))] = [some (V.str (signs l)), some (V.ref p), v_1] ∧ H1 p = some (HO.lst (List.map V.int (htsA l (i + 1)))) ∧ Same H H1 := fun d hd => by
    refine r_append hp2 (by rw [List.length_map, htsA_len]; exact small20000 (by omega)) ⟨_, rfl, ?_, push_same s2 hp⟩
    rw [upd_same, htsA_succ, hd, List.map_append]
    rfl
   cases b with
   | true =>
    refine r_ixL (SqL.of e1) (v := .int 1) rfl ?_
    k_is
    exact key 1 hh
   | false =>
    refine r_ixL (SqL.of e1) (v := .int (-1)) rfl ?_
    k_is
    exact key (-1) hh
  ·rintro σ H1 ⟨v, rfl, hp1, s1⟩
   rw [show (signs l).cps.size = l.length from signs_len l] at *
   k_is
   exact q p H1 s1 hp hp1
theorem hgt_ivt (l : List Bool) : ∀ (d i : Nat), i + d ≤ l.length → ∀ x : Int, (hgt l i ≤ x ∧ x ≤ hgt l (i + d)) ∨ (hgt l (i + d) ≤ x ∧ x ≤ hgt l i) → ∃ k, i ≤ k ∧ k ≤ i + d ∧ hgt l k = x
 | 0, i, _, x, h => ⟨i, Nat.le_refl _, Nat.le_refl _, by rcases h with h | h <;> (have h1 := h.1; have h2 := h.2; rw [Nat.add_zero] at *; omega)⟩
 | d + 1, i, hd, x, h => by
  by_cases e : x = hgt l (i + (d + 1))
  ·exact ⟨i + (d + 1), by omega, Nat.le_refl _, e.symm⟩
  ·have hs := hgt_step (l := l) (i := i + d) (by omega)
   have e2 : i + (d + 1) = i + d + 1 := by omega
   rw [e2] at h e
   obtain ⟨k, k1, k2, k3⟩ := hgt_ivt l d i (by omega) x (by split at hs <;> omega)
   exact ⟨k, k1, by omega, k3⟩
theorem hw_all {l : List Bool} {lo hi : Nat} (hl : hi ≤ l.length) {mn mx : Int} (h1 : IsLeast (hw l lo hi) mn) (h2 : IsMost (hw l lo hi) mx) : mn ≤ mx ∧ ∀ x, x ∈ hw l lo hi ↔ mn ≤ x ∧ x ≤ mx := by
 refine ⟨h2.2 _ h1.1, fun x => ⟨fun hx => ⟨h1.2 _ hx, h2.2 _ hx⟩, fun hx => ?_⟩⟩
 obtain ⟨a, a1, a2, a3⟩ := hw_of h1.1
 obtain ⟨b, b1, b2, b3⟩ := hw_of h2.1
 have : ∃ k, lo < k ∧ k ≤ hi ∧ hgt l k = x := by
  by_cases hab : a ≤ b
  ·obtain ⟨k, k1, k2, k3⟩ := hgt_ivt l (b - a) a (by omega) x (by rw [show a + (b - a) = b by omega]; omega)
   exact ⟨k, by omega, by omega, k3⟩
  ·obtain ⟨k, k1, k2, k3⟩ := hgt_ivt l (a - b) b (by omega) x (by rw [show b + (a - b) = a by omega]; omega)
   exact ⟨k, by omega, by omega, k3⟩
 obtain ⟨k, k1, k2, k3⟩ := this
 rw [← k3]
 exact hw_mem k1 k2
theorem htsA_cut {l : List Bool} {t : Nat} (h : t * 256 ≤ l.length) : ((htsA l l.length).drop (t * 256 + 1)).take 256 = hw l (t * 256) (endN l t) := by
 refine List.ext_getElem? fun i => ?_
 by_cases hi : i < endN l t - t * 256
 ·unfold endN at hi
  rw [List.getElem?_take_of_lt (by omega), List.getElem?_drop, htsA_at (by omega), hw_at (by unfold endN; omega), show t * 256 + 1 + i = t * 256 + i + 1 by omega]
 ·rw [List.getElem?_eq_none (by rw [List.length_take, List.length_drop, htsA_len]; unfold endN at hi; omega), List.getElem?_eq_none (by rw [hw_len]; omega)]
theorem mrgV_len2 : ∀ (ks : List Int) (ys : List V) (kvs : List (Key × V)), (mrgV kvs ks ys).length ≤ kvs.length + ks.length
 | [], ys, kvs => by cases ys <;> exact Nat.le_refl _
 | k :: ks, [], kvs => Nat.le_add_right _ _
 | k :: ks, y :: ys, kvs => by
  have h1 := mrgV_len2 ks ys (putK kvs (.inl k) y)
  have h2 := length_putK kvs (.inl k : Key) y
  show (mrgV (putK kvs (.inl k) y) ks ys).length ≤ _
  rw [List.length_cons]
  omega
def DkAt (ks : List Int) (i : Nat) (zs : List V) (H : Hp) : Prop := ∃ as : List Addr, zs = as.map V.ref ∧ as.length = i ∧ ∀ (j : Nat) a k, as[j]? = some a → ks[j]? = some k → H a = some (.tup [.int k, .bl true])
theorem least_one {ns : List Int} {a b : Int} (h1 : IsLeast ns a) (h2 : IsLeast ns b) : a = b := by
 have := h1.2 _ h2.1
 have := h2.2 _ h1.1
 omega
theorem most_one {ns : List Int} {a b : Int} (h1 : IsMost ns a) (h2 : IsMost ns b) : a = b := by
 have := h1.2 _ h2.1
 have := h2.2 _ h1.1
 omega
def spRight26 (K : PySem.W.Frag) : Sp := fun vs H Q _ => ∃ l : List Bool, vs = [.str (signs l)] ∧ Vs 0 l ∧ l.length ≤ 3000 ∧ ∀ H', Same H H' → Q (.bl true) H'
theorem ok_law_right {f : Addr} {fd : FuncData} (F : Fun K "_law_right" "_law_right" s_law_right f fd) (T : Txt K mg Qc Qb Qd Qi Qe Qg) (Z : Qj K Qa) (c_Pairs : MkrE P w K mg base "Pairs" Qa 7 ["self", "text"] (spPInit K Qh Qf Qa Qg)) (J1 : Mth P w K mg base Qa "table" 1 ["self"] (spPTable K Qh Qf Qa))
    (c_law_heights : Cal P w K mg base "_law_heights" 1 ["_law_text_here"] spHts26) (c_law_is : Cal P w K mg base "_law_is" 1 ["_law_found", "_law_due"] spIs) : FnOk P w K mg base CX0 9 f fd ["_law_text_here"] (spRight26 K) := by
  refine F.ok sc_law_right (fun vs H Q E h => ?_) (fun cdv A outer s H vs Q E hr h => ?_)
  · obtain ⟨l, rfl, _⟩ := h
    rfl
  · obtain ⟨l, rfl, hV, hn, q⟩ := h
    have hdu : dueV8 (.str (signs l)) = none := due8_row hV (by omega)
    refine ⟨_, (pss_cons (ps_set (i := 1) sc_law_right.nd rfl (Or.inl rfl) (pe_mt0 J1 (hr.mono (by decide : 1 ≤ _)) (pe_mkE c_Pairs (hr.mono (by decide : 8 ≤ _)) passE0 (pa_d (pv 0) pa_nil rfl))))
      (pss_cons (ps_set (i := 2) sc_law_right.nd rfl (Or.inl rfl) (pe_fn c_law_heights (hr.mono (by decide : 1 ≤ _)) (pa_d (pv 0) pa_nil rfl)))
      (pss_cons (ps_if (PW.pt (pw_or (pt_not (pt_val (pe_callB call_isinst (by rfl) T.n_isinstance b_isinstance (pa_d (pv 1) (pa_d (pe_bltn (v := .ty "tuple") rfl T.n_tuple b_tuple rfl) pa_nil rfl) rfl)))) (pw_or1 (pt_cmpR op_ne (pe_callB call_len_seq (by rfl) T.n_len b_len (pa_d (pv 1) pa_nil rfl)) (pe_op op_fdiv (pe_op op_add (pe_callB call_len_str (by rfl) T.n_len b_len (pa_d (pv 0) pa_nil rfl)) pe_int) pe_int) (nomark _))))) (pss_one (ps_ret pe_bl))
      pss_nil)
      (pss_cons (ps_for PassesOwn.never rfl (pi_range1 rfl T.n_range (pa_d (pe_callB call_len_seq (by rfl) T.n_len b_len (pa_d (pv 1) pa_nil rfl)) pa_nil rfl)) (pg_name (i := 3) sc_law_right.nd rfl (Or.inl rfl))
      (pss_cons (ps_set (i := 4) sc_law_right.nd rfl (Or.inl rfl) (pe_slice sl_list (pv 2) (po_some (pe_op op_add (pe_op op_mul pe_int (pv 3)) pe_int)) (po_some (pe_op op_add (pe_op op_mul pe_int (pv 3)) pe_int))))
      (pss_cons (ps_set (i := 5) sc_law_right.nd rfl (Or.inl rfl) (pe_tup (pa_d (pe_ix ix_list (pv 2) (pe_op op_mul pe_int (pv 3)) (fun _ _ => rfl)) (pa_d (pe_callB (call_min1 rfl) (by rfl) T.n_min b_min (pa_d (pv 4) pa_nil rfl)) (pa_d (pe_callB (call_max1 rfl) (by rfl) T.n_max b_max (pa_d (pv 4) pa_nil rfl)) pa_nil rfl) rfl) rfl)))
      (pss_cons (ps_if (PW.pt (pw_or (pt_not (pt_val (pe_callB call_isinst (by rfl) T.n_isinstance b_isinstance (pa_d (pe_ix ix_tup (pv 1) (pv 3) (fun _ _ => rfl)) (pa_d (pe_bltn (v := .ty "tuple") rfl T.n_tuple b_tuple rfl) pa_nil rfl) rfl)))) (pw_or1 (pt_cmpR op_ne (pe_callB call_len_seq (by rfl) T.n_len b_len (pa_d (pe_ix ix_tup (pv 1) (pv 3) (fun _ _ => rfl)) pa_nil rfl)) pe_int (nomark _))))) (pss_one (ps_ret pe_bl))
      pss_nil)
      (pss_cons (ps_for PassesOwn.never rfl (pi_zipT rfl T.n_zip (pa_d (pe_ix ix_tup (pv 1) (pv 3) (fun _ _ => rfl)) (pa_d (pv 5) pa_nil rfl) rfl)) (pg_tup rfl (pgs_cons (pg_name (i := 6) sc_law_right.nd rfl (Or.inl rfl)) (pgs_cons (pg_name (i := 7) sc_law_right.nd rfl (Or.inl rfl)) pgs_nil)))
      (pss_one (ps_if (pt_not (pt_val (pe_fn c_law_is (hr.mono (by decide : 1 ≤ _)) (pa_d (pv 6) (pa_d (pv 7) pa_nil rfl) rfl)))) (pss_one (ps_ret pe_bl))
      pss_nil)))
      (pss_cons (ps_set (i := 8) sc_law_right.nd rfl (Or.inl rfl) (pe_callTy (call_dictP rfl) (by rfl) T.n_dict b_dict (pa_d (pe_lc rfl lc_law_right_0 (pi_list (pv 4)) (fun _ _ _ _ => pif_nil) (fun _ _ _ _ => (pe_tup (pa_d (pv 0) (pa_d pe_bl pa_nil rfl) rfl)))) pa_nil rfl)))
      (pss_one (ps_if (pt_cmpR op_ne (pe_callB call_lenD (by rfl) T.n_len b_len (pa_d (pv 8) pa_nil rfl)) (pe_op op_add (pe_op op_sub (pe_ix ix_tup (pe_ix ix_tup (pv 1) (pv 3) (fun _ _ => rfl)) pe_int (fun _ _ => rfl)) (pe_ix ix_tup (pe_ix ix_tup (pv 1) (pv 3) (fun _ _ => rfl)) pe_int (fun _ _ => rfl))) pe_int) (nomark _)) (pss_one (ps_ret pe_bl))
      pss_nil))))))))
      (pss_one (ps_ret pe_bl)))))), ?_⟩
    k_is
    intro x dx hx hdx hxd
    refine ⟨x, dx, _, rfl, upd_same, anyS_str _, fun z e => by rw [← V.str.inj e, signs_len]; omega, fun l2 e2 _ H1 s1 hP => ⟨rfl, ?_⟩, fun d e => by rw [hdu] at e; cases e⟩
    obtain rfl : l = l2 := signs_inj (V.str.inj e2)
    have s1 := made_same hx hdx s1
    obtain ⟨dp, b, c, t0, o, hp1, _⟩ := id hP
    k_is
    refine ⟨x, dp, _, rfl, hp1, rfl, ?_⟩
    k_is
    refine ⟨x, l, rfl, hP, fun t hT => ?_⟩
    k_is
    refine ⟨l, rfl, by omega, fun p H2 s2 hp0 hp => ?_⟩
    have s12 := s1.trans s2
    obtain ⟨rs, ht, hrl, hrs⟩ := hT.same s2
    k_is
    refine ⟨_, _, _, _, rfl, .tup ht, kit_tuple_tuple, ?_⟩
    k_is
    refine ⟨t, _, rfl, .inr (SqT.of ht), ?_⟩
    rw [List.length_map]
    k_is
    refine ⟨_, rfl, Nat.le_of_lt (small20000 (by rw [signs_len]; omega)), ?_⟩
    rw [signs_len]
    k_is
    refine iteN (fun h => absurd (by rw [hrl, show (((l.length : Int) + 255) / 256) = (((l.length + 256 - 1) / 256 : Nat) : Int) by omega]) h) (fun _ => ?_)
    k_is
    refine ⟨t, _, rfl, .inr (SqT.of ht), ?_⟩
    rw [List.length_map]
    k_is
    refine ⟨_, rfl, by omega, by omega, ?_⟩
    rw [Int.toNat_natCast]
    refine for_range (fun k σ H3 => (∃ v3 v4 v5 v6 v7 v8 : Option V, σ = [some (.str (signs l)), some (.ref t), some (.ref p), v3, v4, v5, v6, v7, v8]) ∧ Same H2 H3) ⟨⟨_, _, _, _, _, _, rfl⟩, Same.refl _⟩ ?_ ?_
    · rintro k σ H3 hk ⟨⟨v3, v4, v5, v6, v7, v8, rfl⟩, s3⟩
      have hk2 : k * 256 < l.length := by omega
      obtain ⟨r, hr0⟩ : ∃ r, rs[k]? = some r := ⟨_, List.getElem?_eq_getElem hk⟩
      obtain ⟨mn, mx, hr1, hmn, hmx⟩ := hrs k r hr0
      rw [hSeg_eq (by omega)] at hmn hmx
      rw [bgH_eq] at hr1
      have hat : ∀ {H' : Hp}, atI (rs.map V.ref) (0 + (k : Int)) = some (.ref r) := by
        intro H'
        rw [show (0 + (k : Int)) = ((k : Nat) : Int) by omega]
        exact atI_nat (by rw [List.getElem?_map, hr0]; rfl)
      have hat := @hat H3
      have hp3 := s3 _ _ hp
      k_is
      refine ⟨p, _, rfl, SqL.of hp3, fun p4 hp4 => ?_⟩
      have ec : cutV ((htsA l l.length).map V.int) (some (256 * (0 + (k : Int)) + 1)) (some (256 * (0 + (k : Int)) + 257)) = (hw l (k * 256) (endN l k)).map V.int := by
        rw [show (256 * (0 + (k : Int)) + 1) = ((k * 256 + 1 : Nat) : Int) by omega, show (256 * (0 + (k : Int)) + 257) = ((k * 256 + 257 : Nat) : Int) by omega, cutV_nat, show k * 256 + 257 - (k * 256 + 1) = 256 by omega, ← List.map_drop, ← List.map_take, htsA_cut (by omega)]
      rw [ec]
      have t4 := same_upd (o := .lst ((hw l (k * 256) (endN l k)).map V.int)) hp4
      have e4 : upd H3 p4 (.lst ((hw l (k * 256) (endN l k)).map V.int)) p4 = some (.lst ((hw l (k * 256) (endN l k)).map V.int)) := upd_same
      have s4 := s3.trans t4
      generalize upd H3 p4 (.lst ((hw l (k * 256) (endN l k)).map V.int)) = H4 at *
      have hne : hw l (k * 256) (endN l k) ≠ [] := fun e => by
        have := congrArg List.length e
        rw [hw_len] at this
        unfold endN at this
        simp at this
        omega
      k_is
      refine r_ixL (SqL.of (s4 _ _ hp)) (v := .int (hgt l (k * 256))) (by rw [show (256 * (0 + (k : Int))) = ((k * 256 : Nat) : Int) by omega]; exact atI_nat (iV_at (htsA_at (by omega)))) ?_
      k_is
      refine ⟨p4, _, rfl, SqL.of e4, hne, fun m1 hm1 => ?_⟩
      obtain rfl := least_one hmn hm1
      k_is
      refine ⟨p4, _, rfl, SqL.of e4, hne, fun m2 hm2 => ?_⟩
      obtain rfl := most_one hmx hm2
      k_is
      refine ⟨few (by simp), fun du hdu0 => ?_⟩
      have t5 := same_upd (o := .tup [V.int (hgt l (k * 256)), V.int mn, V.int mx]) hdu0
      have e5 : upd H4 du (.tup [V.int (hgt l (k * 256)), V.int mn, V.int mx]) du = some (.tup [V.int (hgt l (k * 256)), V.int mn, V.int mx]) := upd_same
      have e45 := t5 _ _ e4
      have s5 := s4.trans t5
      generalize upd H4 du (.tup [V.int (hgt l (k * 256)), V.int mn, V.int mx]) = H5 at *
      have ht5 := s5 _ _ ht
      have hr5 := s5 _ _ hr1
      k_is
      refine r_ixT (SqT.of ht5) hat ?_
      k_is
      refine ⟨_, _, _, _, rfl, .tup hr5, kit_tuple_tuple, ?_⟩
      k_is
      refine r_ixT (SqT.of ht5) hat ?_
      k_is
      refine ⟨r, _, rfl, .inr (SqT.of hr5), ?_⟩
      k_is
      refine iteN (fun h => absurd rfl h) (fun _ => ?_)
      k_is
      refine r_ixT (SqT.of ht5) hat ?_
      k_is
      refine ⟨r, du, rfl, ⟨_, SqT.of hr5⟩, ⟨_, SqT.of e5⟩, ?_⟩
      obtain ⟨ns, hns⟩ : ∃ ns : List Int, ns = [hgt l (k * 256), mn, mx] := ⟨_, rfl⟩
      have hnv : [V.int (hgt l (k * 256)), V.int mn, V.int mx] = ns.map V.int := by rw [hns]; rfl
      rw [hnv] at hr5 e5
      refine for_zipT (xs := ns.map V.int) (ys := ns.map V.int) rfl (fun i σ H6 => (∃ v6 v7 v8 : Option V, σ = [some (.str (signs l)), some (.ref t), some (.ref p), some (.int (0 + (k : Int))), some (.ref p4), some (.ref du), v6, v7, v8]) ∧ Same H5 H6) ⟨⟨_, _, _, rfl⟩, Same.refl _⟩ (fun i σ H6 _ h => ⟨SqT.of (h.2 _ _ hr5), SqT.of (h.2 _ _ e5)⟩) ?_ ?_
      · rintro i y y2 σ H6 tq hy hy2 ⟨⟨v6, v7, v8, rfl⟩, s6⟩ htq
        rw [hy] at hy2
        obtain rfl := Option.some.inj hy2
        obtain ⟨n, _, rfl⟩ := iV_get hy
        have t7 := same_upd (o := .tup [V.int n, V.int n]) htq
        k_is
        refine ⟨n, rfl, ?_⟩
        k_is
        exact ⟨⟨_, _, _, rfl⟩, s6.trans t7⟩
      · rintro σ H6 ⟨⟨v6, v7, v8, rfl⟩, s6⟩
        have e46 := s6 _ _ e45
        have s26 := s5.trans s6
        obtain ⟨ks, hks⟩ : ∃ ks, ks = hw l (k * 256) (endN l k) := ⟨_, rfl⟩
        rw [← hks] at e46
        have hkl : ks.length ≤ 256 := by rw [hks, hw_len]; unfold endN; omega
        k_is
        refine ⟨p4, rfl, ⟨_, SqL.of e46⟩, ?_⟩
        refine lc_listN (SqL.of e46) (fun i zs H' => DkAt ks i zs H') (fun H' _ => ⟨[], rfl, rfl, fun j a k e => by cases e⟩) ?_ ?_ ?_ ?_
        · rintro i zs H' D us o hD ⟨as, a1, a2, a3⟩
          refine ⟨as, a1, a2, fun j a k g1 g2 => ?_⟩
          have := a3 j a k g1 g2
          rw [upd_ne (fun z => by rw [z, hD] at this; cases this)]
          exact this
        · rintro i zs H' hi ⟨as, rfl, a2, a3⟩
          rw [List.length_map] at hi ⊢
          rw [a2]
          exact small20000 (by omega)
        · rintro i zs y H7 A R hy s7 ⟨as, rfl, a2, a3⟩ hA
          obtain ⟨n, hn1, rfl⟩ := iV_get hy
          k_is
          refine ⟨few (by simp), fun tq htq => ?_⟩
          refine hA _ _ (same_upd htq) ⟨as ++ [tq], by rw [List.map_append]; rfl, by rw [List.length_append, a2]; rfl, fun j a k g1 g2 => ?_⟩
          by_cases hj : j < as.length
          · rw [List.getElem?_append_left hj] at g1
            exact same_upd htq _ _ (a3 j a k g1 g2)
          · have hj2 := at_lt g1
            rw [List.length_append] at hj2
            have hj3 : j = as.length := by simp at hj2; omega
            subst hj3
            rw [List.getElem?_append_right (Nat.le_refl _), Nat.sub_self] at g1
            obtain rfl : tq = a := Option.some.inj g1
            rw [a2, hn1] at g2
            obtain rfl := Option.some.inj g2
            exact upd_same
        · intro D zs H7 hD0 s7 hPv hD7
          obtain ⟨as, rfl, a2, a3⟩ := hPv
          rw [List.length_map] at a2
          have hml := mrgV_len2 ks (List.replicate ks.length (V.bl true)) []
          k_is
          refine ⟨D, as, ks, List.replicate ks.length (V.bl true), rfl, hD7, ⟨a2, by rw [List.length_replicate, a2], fun i a k' y g1 g2 g3 => ?_⟩, by simpa using hml, fun pd hpd => ?_⟩
          · rw [List.getElem?_replicate] at g3
            split at g3
            · obtain rfl := Option.some.inj g3
              exact a3 i a k' g1 g2
            · cases g3
          have t8 := same_upd (o := .dK (mrgV [] ks (List.replicate ks.length (V.bl true)))) hpd
          have e8 : upd H7 pd (.dK (mrgV [] ks (List.replicate ks.length (V.bl true)))) pd = some (.dK (mrgV [] ks (List.replicate ks.length (V.bl true)))) := upd_same
          have s28 := (s26.trans s7).trans t8
          generalize upd H7 pd (.dK (mrgV [] ks (List.replicate ks.length (V.bl true)))) = H8 at *
          obtain ⟨hle, hall⟩ := hw_all (show endN l k ≤ l.length by unfold endN; omega) hmn hmx
          rw [← hks] at hall
          have hcnt := mrg_count (ys := List.replicate ks.length (V.bl true)) (by rw [List.length_replicate]) hle hall
          have ht8 := s28 _ _ ht
          have hr8 := s28 _ _ hr1
          k_is
          refine ⟨pd, _, rfl, e8, ?_⟩
          rw [hcnt]
          k_is
          refine r_ixT (SqT.of ht8) hat ?_
          k_is
          refine r_ixT (SqT.of hr8) (v := .int mx) rfl ?_
          k_is
          refine r_ixT (SqT.of ht8) hat ?_
          k_is
          refine r_ixT (SqT.of hr8) (v := .int mn) rfl ?_
          k_is
          refine iteN (fun h => absurd rfl h) (fun _ => ?_)
          k_is
          exact ⟨⟨_, _, _, _, _, _, rfl⟩, s28⟩
    · rintro σ H3 ⟨⟨v3, v4, v5, v6, v7, v8, rfl⟩, s3⟩
      k_is
      exact q H3 (s12.trans s3)
def farR (h : Nat) : List Bool := List.replicate h true ++ (List.replicate 500 [true, false]).flatten ++ List.replicate h false
theorem pairs_len (n : Nat) : (List.replicate n [true, false]).flatten.length = 2 * n := by
 rw [List.length_flatten, List.map_replicate, List.sum_replicate_nat]
 show n * 2 = 2 * n
 omega
theorem pairs_at : ∀ (n i : Nat), i < 2 * n → (List.replicate n [true, false]).flatten[i]? = some (decide (i % 2 = 0))
 | 0, i, h => by omega
 | n + 1, i, h => by
  rw [List.replicate_succ, List.flatten_cons]
  match i with
  | 0 => rfl
  | 1 => rfl
  | i + 2 =>
   show (List.replicate n [true, false]).flatten[i]? = _
   rw [pairs_at n i (by omega), show (i + 2) % 2 = i % 2 by omega]
theorem far_len (h : Nat) : (farR h).length = 2 * h + 1000 := by
 unfold farR
 rw [List.length_append, List.length_append, pairs_len, List.length_replicate, List.length_replicate]
 omega
theorem far_at {h i : Nat} (hi : i < 2 * h + 1000) : (farR h).getD i false = (decide (i < h) || (decide (i < h + 1000) && decide ((i - h) % 2 = 0))) := by
 unfold List.getD farR
 by_cases h1 : i < h
 ·rw [List.getElem?_append_left (by rw [List.length_append, List.length_replicate]; omega), List.getElem?_append_left (by rw [List.length_replicate]; exact h1), List.getElem?_replicate, if_pos h1, decide_eq_true h1]
  rfl
 ·rw [decide_eq_false h1]
  by_cases h2 : i < h + 1000
  ·rw [List.getElem?_append_left (by rw [List.length_append, List.length_replicate, pairs_len]; omega), List.getElem?_append_right (by rw [List.length_replicate]; omega), List.length_replicate, pairs_at 500 (i - h) (by omega), decide_eq_true h2]
   rfl
  ·rw [List.getElem?_append_right (by rw [List.length_append, List.length_replicate, pairs_len]; omega), List.getElem?_replicate, if_pos (by rw [List.length_append, List.length_replicate, pairs_len]; omega), decide_eq_false h2]
   rfl
def farH (h i : Nat) : Nat := if i ≤ h then i else if i ≤ h + 1000 then h + (i - h) % 2 else 2 * h + 1000 - i
theorem far_hgt {h : Nat} : ∀ i, i ≤ 2 * h + 1000 → hgt (farR h) i = (farH h i : Int)
 | 0, _ => by rw [hgt_zero]; unfold farH; rw [if_pos (Nat.zero_le _)]; rfl
 | i + 1, hi => by
  rw [hgt_step (by rw [far_len]; omega), far_hgt i (by omega), far_at (by omega)]
  unfold farH
  by_cases h1 : i < h
  ·rw [decide_eq_true h1, if_pos (show i ≤ h by omega), if_pos (show i + 1 ≤ h by omega)]
   show (i : Int) + 1 = _
   omega
  ·rw [decide_eq_false h1]
   by_cases h2 : i < h + 1000
   ·rw [decide_eq_true h2, if_neg (show ¬ i + 1 ≤ h by omega), if_pos (show i + 1 ≤ h + 1000 by omega)]
    by_cases h3 : (i - h) % 2 = 0
    ·rw [decide_eq_true h3]
     show (((if i ≤ h then i else if i ≤ h + 1000 then h + (i - h) % 2 else 2 * h + 1000 - i : Nat) : Int)) + 1 = _
     split
     ·omega
     ·rw [if_pos (by omega)]
      omega
    ·rw [decide_eq_false h3]
     show (((if i ≤ h then i else if i ≤ h + 1000 then h + (i - h) % 2 else 2 * h + 1000 - i : Nat) : Int)) + -1 = _
     split
     ·omega
     ·rw [if_pos (by omega)]
      omega
   ·rw [decide_eq_false h2, if_neg (show ¬ i + 1 ≤ h by omega), if_neg (show ¬ i + 1 ≤ h + 1000 by omega)]
    show (((if i ≤ h then i else if i ≤ h + 1000 then h + (i - h) % 2 else 2 * h + 1000 - i : Nat) : Int)) + -1 = _
    split
    ·omega
    ·split <;> omega
theorem far_vs (h : Nat) : Vs 0 (farR h) := by
 unfold farR
 rw [List.append_assoc]
 refine vs_ones h 0 _ ?_
 rw [Nat.zero_add]
 have hp : Vs 0 (List.replicate 500 [true, false]).flatten := vs_times (show Vs 0 [true, false] from ⟨by decide, rfl⟩) 500
 have hz := vs_zeros h 0 [] rfl
 rw [List.append_nil, Nat.zero_add] at hz
 have := vs_app _ 0 h (List.replicate h false) hp hz
 rw [Nat.zero_add] at this
 exact this
def spFar26 (K : PySem.W.Frag) : Sp := fun vs H Q _ => ∃ h : Nat, vs = [.str (signs (farR h)), .int h] ∧ 1 ≤ h ∧ h ≤ 500 ∧ ∀ H', Same H H' → Q (.bl true) H'
theorem ok_law_far {f : Addr} {fd : FuncData} (F : Fun K "_law_far" "_law_far" s_law_far f fd) (T : Txt K mg Qc Qb Qd Qi Qe Qg) (Z : Qj K Qa) (c_Pairs : MkrE P w K mg base "Pairs" Qa 7 ["self", "text"] (spPInit K Qh Qf Qa Qg)) (c_law_is : Cal P w K mg base "_law_is" 1 ["_law_found", "_law_due"] spIs) (W1 : Mth P w K mg base Qa "partner" 10 ["self", "place"] (spPartner K Qh Qf Qa))
    (Wi : Mth P w K mg base Qa "next_at" 9 ["self", "place", "height"] (spNextAt K Qh Qf Qa)) (Wh : Mth P w K mg base Qa "last_at" 9 ["self", "place", "height"] (spLastAt K Qh Qf Qa)) (J0 : Mth P w K mg base Qa "round" 10 ["self", "place"] (spRound K Qh Qf Qa)) (Ju : Mth P w K mg base Qa "lowest" 10 ["self", "low", "high"] (spLowest K Qh Qf Qa)) : FnOk P w K mg base CX0 11 f fd ["_law_text_here", "_law_high"] (spFar26 K) := by
  refine F.ok sc_law_far (fun vs H Q E h => ?_) (fun cdv A outer s H vs Q E hr h => ?_)
  · obtain ⟨h, rfl, _⟩ := h
    rfl
  · obtain ⟨h, rfl, h1, h5, q⟩ := h
    have hn := far_len h
    have hdu : dueV8 (.str (signs (farR h))) = none := due8_row (far_vs h) (by omega)
    refine ⟨_, (pss_cons (ps_set (i := 2) sc_law_far.nd rfl (Or.inl rfl) (pe_mkE c_Pairs (hr.mono (by decide : 8 ≤ _)) passE0 (pa_d (pv 0) pa_nil rfl)))
      (pss_cons (ps_set (i := 3) sc_law_far.nd rfl (Or.inl rfl) (pe_callB call_len_str (by rfl) T.n_len b_len (pa_d (pv 0) pa_nil rfl)))
      (pss_cons (ps_if (pt_not (pt_val (pe_fn c_law_is (hr.mono (by decide : 1 ≤ _)) (pa_d (pe_mt W1 (hr.mono (by decide : 10 ≤ _)) (pv 2) (pa_d pe_int pa_nil rfl)) (pa_d (pe_op op_sub (pv 3) pe_int) pa_nil rfl) rfl)))) (pss_one (ps_ret pe_bl))
      pss_nil)
      (pss_cons (ps_if (pt_not (pt_val (pe_fn c_law_is (hr.mono (by decide : 1 ≤ _)) (pa_d (pe_mt W1 (hr.mono (by decide : 10 ≤ _)) (pv 2) (pa_d (pe_op op_sub (pv 3) pe_int) pa_nil rfl)) (pa_d pe_int pa_nil rfl) rfl)))) (pss_one (ps_ret pe_bl))
      pss_nil)
      (pss_cons (ps_if (pt_not (pt_val (pe_fn c_law_is (hr.mono (by decide : 1 ≤ _)) (pa_d (pe_mt W1 (hr.mono (by decide : 10 ≤ _)) (pv 2) (pa_d (pe_op op_sub (pv 1) pe_int) pa_nil rfl)) (pa_d (pe_op op_sub (pv 3) (pv 1)) pa_nil rfl) rfl)))) (pss_one (ps_ret pe_bl))
      pss_nil)
      (pss_cons (ps_if (pt_not (pt_val (pe_fn c_law_is (hr.mono (by decide : 1 ≤ _)) (pa_d (pe_mt Wi (hr.mono (by decide : 9 ≤ _)) (pv 2) (pa_d pe_int (pa_d pe_int pa_nil rfl) rfl)) (pa_d (pv 3) pa_nil rfl) rfl)))) (pss_one (ps_ret pe_bl))
      pss_nil)
      (pss_cons (ps_if (pt_not (pt_val (pe_fn c_law_is (hr.mono (by decide : 1 ≤ _)) (pa_d (pe_mt Wh (hr.mono (by decide : 9 ≤ _)) (pv 2) (pa_d (pv 3) (pa_d pe_int pa_nil rfl) rfl)) (pa_d pe_int pa_nil rfl) rfl)))) (pss_one (ps_ret pe_bl))
      pss_nil)
      (pss_cons (ps_if (pt_not (pt_val (pe_fn c_law_is (hr.mono (by decide : 1 ≤ _)) (pa_d (pe_mt J0 (hr.mono (by decide : 10 ≤ _)) (pv 2) (pa_d (pe_op op_sub (pe_op op_sub (pv 3) (pv 1)) pe_int) pa_nil rfl)) (pa_d (pe_op op_sub (pv 1) pe_int) pa_nil rfl) rfl)))) (pss_one (ps_ret pe_bl))
      pss_nil)
      (pss_one (ps_ret (pe_cmpR (op_eqD (hu60 hr)) (pe_mt Ju (hr.mono (by decide : 10 ≤ _)) (pv 2) (pa_d (pv 1) (pa_d (pe_op op_sub (pv 3) (pv 1)) pa_nil rfl) rfl)) (pe_tup (pa_d (pv 1) (pa_d (pv 1) pa_nil rfl) rfl)) (nomark _)))))))))))), ?_⟩
    k_is
    intro x dx hx hdx hxd
    refine ⟨x, dx, _, rfl, upd_same, anyS_str _, fun z e => by rw [← V.str.inj e, signs_len]; omega, fun l2 e2 _ H1 s1 hP => ⟨rfl, ?_⟩, fun d e => by rw [hdu] at e; cases e⟩
    obtain rfl : farR h = l2 := signs_inj (V.str.inj e2)
    have s1 := made_same hx hdx s1
    obtain ⟨dp, b, c, t, o, hp1, _⟩ := id hP
    k_is
    refine ⟨_, rfl, Nat.le_of_lt (small20000 (by rw [signs_len]; omega)), ?_⟩
    rw [signs_len, hn]
    have H0 : ∀ i, i ≤ 2 * h + 1000 → hgt (farR h) i = (farH h i : Int) := fun i hi => far_hgt i hi
    have z0 : ∀ i, 0 < i → i ≤ 2 * h + 1000 → hgt (farR h) i = 0 → i = 2 * h + 1000 := fun i i0 i1 e => by
      rw [H0 i i1] at e
      unfold farH at e
      split at e
      · omega
      · split at e <;> omega
    have zn : hgt (farR h) (2 * h + 1000) = 0 := by
      rw [H0 _ (Nat.le_refl _)]
      unfold farH
      rw [if_neg (by omega), if_neg (by omega)]
      omega
    k_is
    refine ⟨x, dp, _, rfl, hp1, rfl, ?_⟩
    k_is
    refine ⟨x, farR h, 0, rfl, hP, by omega, fun j H2 hj1 _ s2 => ?_⟩
    have hj1 := hj1 (by rw [far_at (by omega), decide_eq_true (show 0 < h by omega)]; rfl)
    rw [hgt_zero, hn] at hj1
    obtain rfl : j = 2 * h + 999 := by have := z0 _ hj1.1 hj1.2.1 hj1.2.2.1; omega
    k_is
    refine ⟨((2 * h + 999 : Nat) : Int), by rw [show (((2 * h + 1000 : Nat) : Int) - 1) = ((2 * h + 999 : Nat) : Int) by omega]; rfl, ?_⟩
    k_is
    refine ⟨x, dp, _, rfl, s2 _ _ hp1, rfl, ?_⟩
    k_is
    refine ⟨x, farR h, 2 * h + 999, by rw [show ((2 * h + 999 : Nat) : Int) = ((2 * h + 1000 : Nat) : Int) - 1 by omega]; rfl, hP.same s2, by omega, fun j H3 _ hj2 s3 => ?_⟩
    have hj2 := hj2 (by rw [far_at (by omega), decide_eq_false (show ¬ 2 * h + 999 < h by omega)]; by_cases e : 2 * h + 999 < h + 1000
                        · omega
                        · rw [decide_eq_false e]; rfl)
    rw [show 2 * h + 999 + 1 = 2 * h + 1000 by omega, zn] at hj2
    obtain rfl : j = 0 := by
      by_cases e : j = 0
      · exact e
      · have := z0 j (by omega) (by have := hj2.1; omega) hj2.2.1
        have := hj2.1
        omega
    have s13 := s2.trans s3
    k_is
    refine ⟨0, rfl, ?_⟩
    k_is
    refine ⟨x, dp, _, rfl, s13 _ _ hp1, rfl, ?_⟩
    k_is
    refine ⟨x, farR h, h - 1, by rw [show ((h - 1 : Nat) : Int) = (h : Int) - 1 by omega]; rfl, hP.same s13, by omega, fun j H4 hj1 _ s4 => ?_⟩
    have hj1 := hj1 (by rw [far_at (by omega), decide_eq_true (show h - 1 < h by omega)]; rfl)
    have u1 : ∀ i, i ≤ 2 * h + 1000 → hgt (farR h) i = ((h - 1 : Nat) : Int) → i = h - 1 ∨ i = h + 1001 := fun i i1 e => by
      rw [H0 i i1] at e
      unfold farH at e
      split at e
      · omega
      · split at e <;> omega
    have u2 : hgt (farR h) (h - 1) = ((h - 1 : Nat) : Int) := by
      rw [H0 _ (by omega)]
      unfold farH
      rw [if_pos (by omega)]
    rw [u2, hn] at hj1
    obtain rfl : j = h + 1000 := by
      obtain ⟨a1, a2, a3, _⟩ := hj1
      rcases u1 _ a2 a3 with e | e <;> omega
    have s14 := s13.trans s4
    k_is
    refine ⟨((h + 1000 : Nat) : Int), by rw [show (((2 * h + 1000 : Nat) : Int) - (h : Int)) = ((h + 1000 : Nat) : Int) by omega]; rfl, ?_⟩
    k_is
    refine ⟨x, dp, _, rfl, s14 _ _ hp1, rfl, ?_⟩
    k_is
    refine ⟨x, farR h, 0, 0, rfl, hP.same s14, by omega, fun r H5 hr5 s5 => ?_⟩
    rw [hn] at hr5
    have s15 := s14.trans s5
    cases r with
    | none => exact absurd zn (hr5 _ (by omega) (Nat.le_refl _))
    | some j =>
    obtain rfl := z0 j hr5.1 hr5.2.1 hr5.2.2.1
    k_is
    refine ⟨((2 * h + 1000 : Nat) : Int), rfl, ?_⟩
    k_is
    refine ⟨x, dp, _, rfl, s15 _ _ hp1, rfl, ?_⟩
    k_is
    refine ⟨x, farR h, 2 * h + 1000, 0, rfl, hP.same s15, by omega, fun r H6 hr6 s6 => ?_⟩
    have s16 := s15.trans s6
    cases r with
    | none => exact absurd (hgt_zero _) (hr6 0 (by omega))
    | some j =>
    obtain rfl : j = 0 := by
      by_cases e : j = 0
      · exact e
      · have := z0 j (by omega) (by have := hr6.1; omega) hr6.2.1
        have := hr6.1
        omega
    k_is
    refine ⟨0, rfl, ?_⟩
    k_is
    refine ⟨x, dp, _, rfl, s16 _ _ hp1, rfl, ?_⟩
    k_is
    have hge : ∀ i, h ≤ i → i ≤ h + 1000 → (h : Int) ≤ hgt (farR h) i := fun i i1 i2 => by
      rw [H0 i (by omega)]
      unfold farH
      split <;> first | omega | (split <;> omega)
    have hdp : dpt (farR h) (h + 999) = (h : Int) := by
      unfold dpt
      rw [far_at (by omega), decide_eq_false (show ¬ h + 999 < h by omega), decide_eq_true (show h + 999 < h + 1000 by omega), show h + 999 - h = 999 by omega]
      show hgt (farR h) (h + 999 + 1) = _
      rw [H0 _ (by omega)]
      unfold farH
      rw [if_neg (by omega), if_pos (by omega), show h + 999 + 1 - h = 1000 by omega]
      rfl
    refine ⟨x, farR h, h + 999, by rw [show ((h + 999 : Nat) : Int) = ((2 * h + 1000 : Nat) : Int) - (h : Int) - 1 by omega]; rfl, hP.same s16, by omega, fun r H7 _ hr7 s7 => ?_⟩
    rw [hdp] at hr7
    have hr7 := hr7 (by omega)
    have s17 := s16.trans s7
    rw [show (h : Int) - 1 = ((h - 1 : Nat) : Int) by omega] at hr7
    cases r with
    | none => exact absurd u2 (hr7 (h - 1) (by omega))
    | some j =>
    obtain rfl : j = h - 1 := by
      obtain ⟨a1, a2, _⟩ := hr7
      rcases u1 j (by omega) a2 with e | e <;> omega
    k_is
    refine ⟨((h - 1 : Nat) : Int), by rw [show ((h : Int) - 1) = ((h - 1 : Nat) : Int) by omega]; rfl, ?_⟩
    k_is
    refine ⟨x, dp, _, rfl, s17 _ _ hp1, rfl, ?_⟩
    k_is
    refine ⟨x, farR h, h, h + 1000, by rw [show ((h + 1000 : Nat) : Int) = ((2 * h + 1000 : Nat) : Int) - (h : Int) by omega]; rfl, hP.same s17, by omega, by omega, fun m v tp H8 hlow hv _ s8 htp => ?_⟩
    have u3 : hgt (farR h) h = (h : Int) := by
      rw [H0 _ (by omega)]
      unfold farH
      rw [if_pos (Nat.le_refl _)]
    obtain rfl : m = (h : Int) := by
      obtain ⟨⟨i, i1, i2, i3⟩, lo⟩ := hlow
      have g1 := lo h (Nat.le_refl _) (by omega)
      have g2 := hge i i1 i2
      omega
    obtain rfl := hv u3.symm
    have s18 := s17.trans s8
    k_is
    refine ⟨few (by simp), fun tq htq => ?_⟩
    have t9 := same_upd (o := .tup [V.int (h : Int), V.int (h : Int)]) htq
    refine ⟨tp, tq, rfl, rfl, SameD.tups (SqT.of (t9 _ _ htp)) (SqT.of upd_same) rfl, ?_⟩
    exact q _ ((s1.trans s18).trans t9)
def spLaw (K : PySem.W.Frag) : Sp := fun vs H Q _ => ∃ (a : Addr) (ns : List Int), vs = [.ref a] ∧ SqL K H a (ns.map V.int) ∧ ns.length ≤ 63 ∧ ∀ H', Q (.bl true) H'
theorem ok_law {f : Addr} {fd : FuncData} (F : Fun K "law" "law" s_law f fd) (T : Txt K mg Qc Qb Qd Qi Qe Qg) (c_law_right : Cal P w K mg base "_law_right" 9 ["_law_text_here"] (spRight26 K)) (c_law_text : Cal P w K mg base "_law_text" 3 ["_law_script", "_law_at"] (spText21 K)) (c_law_mixed : Cal P w K mg base "_law_mixed" 1 ["_law_cell", "_law_k"] spMixed) (c_law_cell_at : Cal P w K mg base "_law_cell_at" 1 ["_law_script", "_law_k"] (spCell K))
    (c_law_far : Cal P w K mg base "_law_far" 11 ["_law_text_here", "_law_high"] (spFar26 K)) : FnOk P w K mg base CX0 12 f fd ["_law_script"] (spLaw K) := by
  refine F.ok sc_law (fun vs H Q E h => ?_) (fun cdv A outer s H vs Q E hr h => ?_)
  · obtain ⟨a, ns, rfl, _⟩ := h
    rfl
  · obtain ⟨a, ns, rfl, hS, hlen, q⟩ := h
    refine ⟨_, (pss_cons (ps_for PassesOwn.never rfl (pi_range3 rfl T.n_range (pa_d pe_int (pa_d (pe_callB (call_max2 rfl) (by rfl) T.n_max b_max (pa_d pe_int (pa_d (pe_callB (call_min2 rfl) (by rfl) T.n_min b_min (pa_d (pe_callB call_len_seq (by rfl) T.n_len b_len (pa_d (pv 0) pa_nil rfl)) (pa_d pe_int pa_nil rfl) rfl)) pa_nil rfl) rfl)) (pa_d pe_int pa_nil rfl) rfl) rfl)) (pg_name (i := 1) sc_law.nd rfl (Or.inl rfl))
      (pss_one (ps_if (pt_not (pt_val (pe_fn c_law_right (hr.mono (by decide : 9 ≤ _)) (pa_d (pe_fn c_law_text (hr.mono (by decide : 3 ≤ _)) (pa_d (pv 0) (pa_d (pv 1) pa_nil rfl) rfl)) pa_nil rfl)))) (pss_one (ps_ret pe_bl))
      pss_nil)))
      (pss_cons (ps_set (i := 2) sc_law.nd rfl (Or.inl rfl) (pe_op op_add pe_int (pe_op op_mod (pe_fn c_law_mixed (hr.mono (by decide : 1 ≤ _)) (pa_d (pe_fn c_law_cell_at (hr.mono (by decide : 1 ≤ _)) (pa_d (pv 0) (pa_d pe_int pa_nil rfl) rfl)) (pa_d pe_int pa_nil rfl) rfl)) pe_int)))
      (pss_cons (ps_set (i := 3) sc_law.nd rfl (Or.inl rfl) (pe_op op_add_str (pe_op op_add_str (pe_op op_mulS pe_str (pv 2)) (pe_op op_mulS pe_str pe_int)) (pe_op op_mulS pe_str (pv 2))))
      (pss_one (ps_ret (pe_and (pe_fn c_law_right (hr.mono (by decide : 9 ≤ _)) (pa_d (pv 3) pa_nil rfl)) (pe_and (pe_fn c_law_far (hr.mono (by decide : 11 ≤ _)) (pa_d (pv 3) (pa_d (pv 2) pa_nil rfl) rfl)) (pe_one (pe_fn c_law_right (hr.mono (by decide : 9 ≤ _)) (pa_d pe_str pa_nil rfl)))))))))), ?_⟩
    k_is
    refine ⟨a, _, rfl, .inl hS, ?_⟩
    rw [List.length_map]
    k_is
    refine ⟨_, _, rfl, ?_⟩
    k_is
    refine ⟨_, _, rfl, ?_⟩
    k_is
    generalize hn : (if (if (12 : Int) < (ns.length : Int) then (12 : Int) else (ns.length : Int)) > 2 then if (12 : Int) < (ns.length : Int) then (12 : Int) else (ns.length : Int) else 2) = m
    have hm : m ≤ 12 ∧ 2 ≤ m := by
      rw [← hn]
      split <;> (try split) <;> omega
    clear hn
    refine ⟨0, m, 2, rfl, by omega, ?_⟩
    have hst : ∀ i, i < stepsN 0 m 2 → 2 * i < m := fun i hi => by
      unfold stepsN at hi
      omega
    refine for_steps (fun i σ H' => (∃ v1 v2 v3 : Option V, σ = [some (.ref a), v1, v2, v3]) ∧ Same H H') ⟨⟨_, _, _, rfl⟩, Same.refl _⟩ ?_ ?_
    · rintro i σ H1 hi ⟨⟨v1, v2, v3, rfl⟩, s1⟩
      have hi2 := hst i hi
      have hki : (0 + (i : Int) * 2) = ((2 * i : Nat) : Int) := by omega
      rw [hki]
      k_is
      refine ⟨a, ns, 2 * i, rfl, s1.seq hS, by omega, fun l H2 s2 hV hl => ?_⟩
      k_is
      refine ⟨l, rfl, hV, by omega, fun H3 s3 => ?_⟩
      k_is
      exact ⟨⟨_, _, _, rfl⟩, (s1.trans s2).trans s3⟩
    · rintro σ H1 ⟨⟨v1, v2, v3, rfl⟩, s1⟩
      k_is
      refine ⟨a, ns, 0, rfl, s1.seq hS, fun c => ?_⟩
      k_is
      refine ⟨c, 9, rfl, by decide, by decide, fun r r0 r1 => ?_⟩
      obtain ⟨h0, hh0, hh1⟩ := emod_nat r 499
      have hh0 : r % 500 = (h0 : Int) := hh0
      k_is
      rw [hh0, show (1 + (h0 : Int)) = ((h0 + 1 : Nat) : Int) by omega]
      obtain ⟨h, hh⟩ : ∃ h, h = h0 + 1 := ⟨_, rfl⟩
      rw [← hh]
      have hh2 : 1 ≤ h ∧ h ≤ 500 := by omega
      refine ⟨"1", (h : Int), rfl, rfl, by omega, by omega, ?_, few (by decide), ?_⟩
      · exact few (by rw [show ("1" : Str).length = 1 by rfl]; omega)
      rw [Int.toNat_natCast, show repS ("1" : Str) h = signs (List.replicate h true) from rep_signs true h]
      k_is
      refine ⟨"10", 500, rfl, rfl, by decide, by decide, ?_, few (by decide), ?_⟩
      · exact Nat.le_of_lt (small20000 (by decide))
      rw [show repS ("10" : Str) (500 : Int).toNat = signs (List.replicate 500 [true, false]).flatten from repS_signs [true, false] 500]
      refine ⟨_, _, rfl, rfl, Nat.le_of_lt (small20000 (by rw [signs_len, signs_len, List.length_replicate, pairs_len]; omega)), ?_⟩
      rw [signs_append]
      k_is
      refine ⟨"0", (h : Int), rfl, rfl, by omega, by omega, ?_, few (by decide), ?_⟩
      · exact few (by rw [show ("0" : Str).length = 1 by rfl]; omega)
      rw [Int.toNat_natCast, show repS ("0" : Str) h = signs (List.replicate h false) from rep_signs false h]
      refine ⟨_, _, rfl, rfl, Nat.le_of_lt (small20000 (by rw [signs_len, signs_len, List.length_append, List.length_replicate, List.length_replicate, pairs_len]; omega)), ?_⟩
      rw [signs_append]
      k_is
      refine ⟨farR h, rfl, far_vs h, by rw [far_len]; omega, fun H2 s2 => ?_⟩
      k_is
      refine ⟨h, rfl, hh2.1, hh2.2, fun H3 s3 => ?_⟩
      k_is
      refine ⟨[], rfl, rfl, Nat.zero_le _, fun H4 s4 => ?_⟩
      exact q H4
end
set_option maxHeartbeats 8000000 in
theorem all_mk {l : PySem.W.OpenLaw} {w : World} {K : PySem.W.Frag} {h : Heap} {mg : Str → Option Value} {fa : Addr} (X : K.In h) (G : h.Ns mainGlobals mg) (hfa : mg "law" = some (.ref fa))
  {Qh : Addr}
  {Qf : Addr}
  {Qa : Addr}
  {W4 : Addr}
  {f0 : Addr} {od0 an0 : Option Addr} {sl0 : Array (Option Value)} {oc0 kV0 dc0 pm0 cd0 ct0 : Value}
  {f1 : Addr} {od1 an1 : Option Addr} {sl1 : Array (Option Value)} {oc1 kV1 dc1 pm1 cd1 ct1 : Value}
  {f2 : Addr} {od2 an2 : Option Addr} {sl2 : Array (Option Value)} {oc2 kV2 dc2 pm2 cd2 ct2 : Value}
  {f3 : Addr} {od3 an3 : Option Addr} {sl3 : Array (Option Value)} {oc3 kV3 dc3 pm3 cd3 ct3 : Value}
  {f4 : Addr} {od4 an4 : Option Addr} {sl4 : Array (Option Value)} {oc4 kV4 dc4 pm4 cd4 ct4 : Value}
  {f5 : Addr} {od5 an5 : Option Addr} {sl5 : Array (Option Value)} {oc5 kV5 dc5 pm5 cd5 ct5 : Value}
  {f6 : Addr} {od6 an6 : Option Addr} {sl6 : Array (Option Value)} {oc6 kV6 dc6 pm6 cd6 ct6 : Value}
  {f7 : Addr} {od7 an7 : Option Addr} {sl7 : Array (Option Value)} {oc7 kV7 dc7 pm7 cd7 ct7 : Value}
  {f8 : Addr} {od8 an8 : Option Addr} {sl8 : Array (Option Value)} {oc8 kV8 dc8 pm8 cd8 ct8 : Value}
  {f9 : Addr} {od9 an9 : Option Addr} {sl9 : Array (Option Value)} {oc9 kV9 dc9 pm9 cd9 ct9 : Value}
  {f10 : Addr} {od10 an10 : Option Addr} {sl10 : Array (Option Value)} {oc10 kV10 dc10 pm10 cd10 ct10 : Value}
  {f11 : Addr} {od11 an11 : Option Addr} {sl11 : Array (Option Value)} {oc11 kV11 dc11 pm11 cd11 ct11 : Value}
  {f12 : Addr} {od12 an12 : Option Addr} {sl12 : Array (Option Value)} {oc12 kV12 dc12 pm12 cd12 ct12 : Value}
  {f13 : Addr} {od13 an13 : Option Addr} {sl13 : Array (Option Value)} {oc13 kV13 dc13 pm13 cd13 ct13 : Value}
  {f14 : Addr} {od14 an14 : Option Addr} {sl14 : Array (Option Value)} {oc14 kV14 dc14 pm14 cd14 ct14 : Value}
  {f15 : Addr} {od15 an15 : Option Addr} {sl15 : Array (Option Value)} {oc15 kV15 dc15 pm15 cd15 ct15 : Value}
  {f16 : Addr} {od16 an16 : Option Addr} {sl16 : Array (Option Value)} {oc16 kV16 dc16 pm16 cd16 ct16 : Value}
  {f17 : Addr} {od17 an17 : Option Addr} {sl17 : Array (Option Value)} {oc17 kV17 dc17 pm17 cd17 ct17 : Value}
  {f18 : Addr} {od18 an18 : Option Addr} {sl18 : Array (Option Value)} {oc18 kV18 dc18 pm18 cd18 ct18 : Value}
  {f19 : Addr} {od19 an19 : Option Addr} {sl19 : Array (Option Value)} {oc19 kV19 dc19 pm19 cd19 ct19 : Value}
  {f20 : Addr} {od20 an20 : Option Addr} {sl20 : Array (Option Value)} {oc20 kV20 dc20 pm20 cd20 ct20 : Value}
  {f21 : Addr} {od21 an21 : Option Addr} {sl21 : Array (Option Value)} {oc21 kV21 dc21 pm21 cd21 ct21 : Value}
  {f22 : Addr} {od22 an22 : Option Addr} {sl22 : Array (Option Value)} {oc22 kV22 dc22 pm22 cd22 ct22 : Value}
  {f23 : Addr} {od23 an23 : Option Addr} {sl23 : Array (Option Value)} {oc23 kV23 dc23 pm23 cd23 ct23 : Value}
  {f24 : Addr} {od24 an24 : Option Addr} {sl24 : Array (Option Value)} {oc24 kV24 dc24 pm24 cd24 ct24 : Value}
  {f25 : Addr} {od25 an25 : Option Addr} {sl25 : Array (Option Value)} {oc25 kV25 dc25 pm25 cd25 ct25 : Value}
  {f26 : Addr} {od26 an26 : Option Addr} {sl26 : Array (Option Value)} {oc26 kV26 dc26 pm26 cd26 ct26 : Value}
  {f27 : Addr} {od27 an27 : Option Addr} {sl27 : Array (Option Value)} {oc27 kV27 dc27 pm27 cd27 ct27 : Value}
  {f28 : Addr} {od28 an28 : Option Addr} {sl28 : Array (Option Value)} {oc28 kV28 dc28 pm28 cd28 ct28 : Value}
  {f29 : Addr} {od29 an29 : Option Addr} {sl29 : Array (Option Value)} {oc29 kV29 dc29 pm29 cd29 ct29 : Value}
  {f30 : Addr} {od30 an30 : Option Addr} {sl30 : Array (Option Value)} {oc30 kV30 dc30 pm30 cd30 ct30 : Value}
  {f31 : Addr} {od31 an31 : Option Addr} {sl31 : Array (Option Value)} {oc31 kV31 dc31 pm31 cd31 ct31 : Value}
  {f32 : Addr} {od32 an32 : Option Addr} {sl32 : Array (Option Value)} {oc32 kV32 dc32 pm32 cd32 ct32 : Value}
  {f33 : Addr} {od33 an33 : Option Addr} {sl33 : Array (Option Value)} {oc33 kV33 dc33 pm33 cd33 ct33 : Value}
  {f34 : Addr} {od34 an34 : Option Addr} {sl34 : Array (Option Value)} {oc34 kV34 dc34 pm34 cd34 ct34 : Value}
  {f35 : Addr} {od35 an35 : Option Addr} {sl35 : Array (Option Value)} {oc35 kV35 dc35 pm35 cd35 ct35 : Value}
  {f36 : Addr} {od36 an36 : Option Addr} {sl36 : Array (Option Value)} {oc36 kV36 dc36 pm36 cd36 ct36 : Value}
  {f37 : Addr} {od37 an37 : Option Addr} {sl37 : Array (Option Value)} {oc37 kV37 dc37 pm37 cd37 ct37 : Value}
  {f38 : Addr} {od38 an38 : Option Addr} {sl38 : Array (Option Value)} {oc38 kV38 dc38 pm38 cd38 ct38 : Value}
  {f39 : Addr} {od39 an39 : Option Addr} {sl39 : Array (Option Value)} {oc39 kV39 dc39 pm39 cd39 ct39 : Value}
  {f40 : Addr} {od40 an40 : Option Addr} {sl40 : Array (Option Value)} {oc40 kV40 dc40 pm40 cd40 ct40 : Value}
  {f41 : Addr} {od41 an41 : Option Addr} {sl41 : Array (Option Value)} {oc41 kV41 dc41 pm41 cd41 ct41 : Value}
  {f42 : Addr} {od42 an42 : Option Addr} {sl42 : Array (Option Value)} {oc42 kV42 dc42 pm42 cd42 ct42 : Value}
  {f43 : Addr} {od43 an43 : Option Addr} {sl43 : Array (Option Value)} {oc43 kV43 dc43 pm43 cd43 ct43 : Value}
  {f44 : Addr} {od44 an44 : Option Addr} {sl44 : Array (Option Value)} {oc44 kV44 dc44 pm44 cd44 ct44 : Value}
  {f45 : Addr} {od45 an45 : Option Addr} {sl45 : Array (Option Value)} {oc45 kV45 dc45 pm45 cd45 ct45 : Value}
  {f46 : Addr} {od46 an46 : Option Addr} {sl46 : Array (Option Value)} {oc46 kV46 dc46 pm46 cd46 ct46 : Value}
  {f47 : Addr} {od47 an47 : Option Addr} {sl47 : Array (Option Value)} {oc47 kV47 dc47 pm47 cd47 ct47 : Value}
  {f48 : Addr} {od48 an48 : Option Addr} {sl48 : Array (Option Value)} {oc48 kV48 dc48 pm48 cd48 ct48 : Value}
  {f49 : Addr} {od49 an49 : Option Addr} {sl49 : Array (Option Value)} {oc49 kV49 dc49 pm49 cd49 ct49 : Value}
  {f50 : Addr} {od50 an50 : Option Addr} {sl50 : Array (Option Value)} {oc50 kV50 dc50 pm50 cd50 ct50 : Value}
  {f51 : Addr} {od51 an51 : Option Addr} {sl51 : Array (Option Value)} {oc51 kV51 dc51 pm51 cd51 ct51 : Value}
  {f52 : Addr} {od52 an52 : Option Addr} {sl52 : Array (Option Value)} {oc52 kV52 dc52 pm52 cd52 ct52 : Value}
  {f53 : Addr} {od53 an53 : Option Addr} {sl53 : Array (Option Value)} {oc53 kV53 dc53 pm53 cd53 ct53 : Value}
  {f54 : Addr} {od54 an54 : Option Addr} {sl54 : Array (Option Value)} {oc54 kV54 dc54 pm54 cd54 ct54 : Value}
  {f55 : Addr} {od55 an55 : Option Addr} {sl55 : Array (Option Value)} {oc55 kV55 dc55 pm55 cd55 ct55 : Value}
  {f56 : Addr} {od56 an56 : Option Addr} {sl56 : Array (Option Value)} {oc56 kV56 dc56 pm56 cd56 ct56 : Value}
  {f57 : Addr} {od57 an57 : Option Addr} {sl57 : Array (Option Value)} {oc57 kV57 dc57 pm57 cd57 ct57 : Value}
  {Qc : Addr} {o_ONES_OF_FOUR : Obj} {i_ONES_OF_FOUR : Array Value} {Yh : Nat}
  {Qb : Addr} {o_SIGNS_OF_FOUR : Obj} {i_SIGNS_OF_FOUR : Array Value} {Yc : Nat}
  {t_WORD_BITS : Tok}
  {t_MOST_BITS : Tok}
  {t_BLOCK_WORDS : Tok}
  {t_MOST_SIGNS : Tok}
  {t_STRETCH_BITS : Tok}
  {Qd : Addr}
  {Qi : Addr}
  {Qe : Addr}
  {Qg : Addr}
  {nm_NoRow qn_NoRow : Str} {N_NoRow : Addr} {bs_NoRow : List Value} {sn_NoRow : List Str} {sub_NoRow : List Value} {ab_NoRow : Bool} {col_NoRow : Option Bool} {dd_NoRow : Option Addr} {k0_NoRow k1_NoRow k2_NoRow k3_NoRow k5_NoRow : Option Value}
  (a_Bits : PySem.W.nsIn K mainGlobals "Bits" = some (some (.ref Qh)))
  (pg_Bits : PySem.W.plainGet K Qh Str.empty = true)
  (hd_Bits : PySem.W.hasDictIn K Qh = true)
  (po_Bits : PySem.W.plainOver K Qh = true)
  (sa_Bits : PySem.W.findIn K (.ref Qh) "__setattr__" = some (some (.builtin "object.__setattr__")))
  (mk_Bits : PySem.W.makesIn K Qh = true)
  (kc_Bits : PySem.W.keepIn K (.ref Qh) = true)
  (n_Bits_length : PySem.W.findIn K (.ref Qh) "length" = some none)
  (n_Bits_many_ones : PySem.W.findIn K (.ref Qh) "many_ones" = some none)
  (n_Bits_kept_words : PySem.W.findIn K (.ref Qh) "kept_words" = some none)
  (a_Counts : PySem.W.nsIn K mainGlobals "Counts" = some (some (.ref Qf)))
  (pg_Counts : PySem.W.plainGet K Qf Str.empty = true)
  (hd_Counts : PySem.W.hasDictIn K Qf = true)
  (po_Counts : PySem.W.plainOver K Qf = true)
  (sa_Counts : PySem.W.findIn K (.ref Qf) "__setattr__" = some (some (.builtin "object.__setattr__")))
  (mk_Counts : PySem.W.makesIn K Qf = true)
  (kc_Counts : PySem.W.keepIn K (.ref Qf) = true)
  (n_Counts_length : PySem.W.findIn K (.ref Qf) "length" = some none)
  (n_Counts_kept_words : PySem.W.findIn K (.ref Qf) "kept_words" = some none)
  (n_Counts_kept_table : PySem.W.findIn K (.ref Qf) "kept_table" = some none)
  (a_Pairs : PySem.W.nsIn K mainGlobals "Pairs" = some (some (.ref Qa)))
  (pg_Pairs : PySem.W.plainGet K Qa Str.empty = true)
  (hd_Pairs : PySem.W.hasDictIn K Qa = true)
  (po_Pairs : PySem.W.plainOver K Qa = true)
  (sa_Pairs : PySem.W.findIn K (.ref Qa) "__setattr__" = some (some (.builtin "object.__setattr__")))
  (mk_Pairs : PySem.W.makesIn K Qa = true)
  (kc_Pairs : PySem.W.keepIn K (.ref Qa) = true)
  (n_Pairs_bits : PySem.W.findIn K (.ref Qa) "bits" = some none)
  (n_Pairs_counts : PySem.W.findIn K (.ref Qa) "counts" = some none)
  (n_Pairs_length : PySem.W.findIn K (.ref Qa) "length" = some none)
  (n_Pairs_kept_table : PySem.W.findIn K (.ref Qa) "kept_table" = some none)
  (n_Pairs_often_least : PySem.W.findIn K (.ref Qa) "often_least" = some none)
  (a_Heights : PySem.W.nsIn K mainGlobals "Heights" = some (some (.ref W4)))
  (bg_Heights : PySem.W.specialIn K (.ref W4) "__getattribute__" = some (some (.builtin "type.__getattribute__")))
  (br_Heights : PySem.W.readsIn K W4 (.type "type") = true)
  (i0 : PySem.W.isFn K (.ref f0) = true)
  (a0 : PySem.W.findIn K (.ref Qg) "__init__" = some (some (.ref f0))) (l0 : K.lookup f0 = some ⟨oc0, od0, .func (PySem.W.fnOf "__init__" "NoRow.__init__" (defArgs Wo) (defBody Wo) (defScope Wo) .none kV0 dc0 pm0 an0 cd0 ct0), sl0⟩) (c0 : PySem.W.codeIn K cd0 "NoRow.__init__" = true) (k0 : PySem.W.keepIn K (.ref f0) = true)
  (a1 : PySem.W.nsIn K mainGlobals "is_whole" = some (some (.ref f1))) (l1 : K.lookup f1 = some ⟨oc1, od1, .func (PySem.W.fnOf "is_whole" "is_whole" (defArgs s_is_whole) (defBody s_is_whole) (defScope s_is_whole) .none kV1 dc1 pm1 an1 cd1 ct1), sl1⟩) (c1 : PySem.W.codeIn K cd1 "is_whole" = true) (k1 : PySem.W.keepIn K (.ref f1) = true)
  (a2 : PySem.W.nsIn K mainGlobals "is_within" = some (some (.ref f2))) (l2 : K.lookup f2 = some ⟨oc2, od2, .func (PySem.W.fnOf "is_within" "is_within" (defArgs s_is_within) (defBody s_is_within) (defScope s_is_within) .none kV2 dc2 pm2 an2 cd2 ct2), sl2⟩) (c2 : PySem.W.codeIn K cd2 "is_within" = true) (k2 : PySem.W.keepIn K (.ref f2) = true)
  (a3 : PySem.W.nsIn K mainGlobals "check_bit" = some (some (.ref f3))) (l3 : K.lookup f3 = some ⟨oc3, od3, .func (PySem.W.fnOf "check_bit" "check_bit" (defArgs s_check_bit) (defBody s_check_bit) (defScope s_check_bit) .none kV3 dc3 pm3 an3 cd3 ct3), sl3⟩) (c3 : PySem.W.codeIn K cd3 "check_bit" = true) (k3 : PySem.W.keepIn K (.ref f3) = true)
  (a4 : PySem.W.nsIn K mainGlobals "check_place" = some (some (.ref f4))) (l4 : K.lookup f4 = some ⟨oc4, od4, .func (PySem.W.fnOf "check_place" "check_place" (defArgs s_check_place) (defBody s_check_place) (defScope s_check_place) .none kV4 dc4 pm4 an4 cd4 ct4), sl4⟩) (c4 : PySem.W.codeIn K cd4 "check_place" = true) (k4 : PySem.W.keepIn K (.ref f4) = true)
  (a5 : PySem.W.nsIn K mainGlobals "check_stretch" = some (some (.ref f5))) (l5 : K.lookup f5 = some ⟨oc5, od5, .func (PySem.W.fnOf "check_stretch" "check_stretch" (defArgs s_check_stretch) (defBody s_check_stretch) (defScope s_check_stretch) .none kV5 dc5 pm5 an5 cd5 ct5), sl5⟩) (c5 : PySem.W.codeIn K cd5 "check_stretch" = true) (k5 : PySem.W.keepIn K (.ref f5) = true)
  (a6 : PySem.W.nsIn K mainGlobals "ones_in" = some (some (.ref f6))) (l6 : K.lookup f6 = some ⟨oc6, od6, .func (PySem.W.fnOf "ones_in" "ones_in" (defArgs s_ones_in) (defBody s_ones_in) (defScope s_ones_in) .none kV6 dc6 pm6 an6 cd6 ct6), sl6⟩) (c6 : PySem.W.codeIn K cd6 "ones_in" = true) (k6 : PySem.W.keepIn K (.ref f6) = true)
  (a7 : PySem.W.nsIn K mainGlobals "is_row" = some (some (.ref f7))) (l7 : K.lookup f7 = some ⟨oc7, od7, .func (PySem.W.fnOf "is_row" "is_row" (defArgs s_is_row) (defBody s_is_row) (defScope s_is_row) .none kV7 dc7 pm7 an7 cd7 ct7), sl7⟩) (c7 : PySem.W.codeIn K cd7 "is_row" = true) (k7 : PySem.W.keepIn K (.ref f7) = true)
  (a8 : PySem.W.nsIn K mainGlobals "word_of" = some (some (.ref f8))) (l8 : K.lookup f8 = some ⟨oc8, od8, .func (PySem.W.fnOf "word_of" "word_of" (defArgs s_word_of) (defBody s_word_of) (defScope s_word_of) .none kV8 dc8 pm8 an8 cd8 ct8), sl8⟩) (c8 : PySem.W.codeIn K cd8 "word_of" = true) (k8 : PySem.W.keepIn K (.ref f8) = true)
  (a9 : PySem.W.nsIn K mainGlobals "words_of" = some (some (.ref f9))) (l9 : K.lookup f9 = some ⟨oc9, od9, .func (PySem.W.fnOf "words_of" "words_of" (defArgs s_words_of) (defBody s_words_of) (defScope s_words_of) .none kV9 dc9 pm9 an9 cd9 ct9), sl9⟩) (c9 : PySem.W.codeIn K cd9 "words_of" = true) (k9 : PySem.W.keepIn K (.ref f9) = true)
  (a10 : PySem.W.nsIn K mainGlobals "signs_of" = some (some (.ref f10))) (l10 : K.lookup f10 = some ⟨oc10, od10, .func (PySem.W.fnOf "signs_of" "signs_of" (defArgs s_signs_of) (defBody s_signs_of) (defScope s_signs_of) .none kV10 dc10 pm10 an10 cd10 ct10), sl10⟩) (c10 : PySem.W.codeIn K cd10 "signs_of" = true) (k10 : PySem.W.keepIn K (.ref f10) = true)
  (i11 : PySem.W.isFn K (.ref f11) = true)
  (a11 : PySem.W.findIn K (.ref Qh) "__init__" = some (some (.ref f11))) (l11 : K.lookup f11 = some ⟨oc11, od11, .func (PySem.W.fnOf "__init__" "Bits.__init__" (defArgs Ws) (defBody Ws) (defScope Ws) .none kV11 dc11 pm11 an11 cd11 ct11), sl11⟩) (c11 : PySem.W.codeIn K cd11 "Bits.__init__" = true) (k11 : PySem.W.keepIn K (.ref f11) = true)
  (i12 : PySem.W.isFn K (.ref f12) = true)
  (a12 : PySem.W.findIn K (.ref Qh) "size" = some (some (.ref f12))) (l12 : K.lookup f12 = some ⟨oc12, od12, .func (PySem.W.fnOf "size" "Bits.size" (defArgs Wt) (defBody Wt) (defScope Wt) .none kV12 dc12 pm12 an12 cd12 ct12), sl12⟩) (c12 : PySem.W.codeIn K cd12 "Bits.size" = true) (k12 : PySem.W.keepIn K (.ref f12) = true)
  (i13 : PySem.W.isFn K (.ref f13) = true)
  (a13 : PySem.W.findIn K (.ref Qh) "words" = some (some (.ref f13))) (l13 : K.lookup f13 = some ⟨oc13, od13, .func (PySem.W.fnOf "words" "Bits.words" (defArgs Wn) (defBody Wn) (defScope Wn) .none kV13 dc13 pm13 an13 cd13 ct13), sl13⟩) (c13 : PySem.W.codeIn K cd13 "Bits.words" = true) (k13 : PySem.W.keepIn K (.ref f13) = true)
  (i14 : PySem.W.isFn K (.ref f14) = true)
  (a14 : PySem.W.findIn K (.ref Qh) "stretch" = some (some (.ref f14))) (l14 : K.lookup f14 = some ⟨oc14, od14, .func (PySem.W.fnOf "stretch" "Bits.stretch" (defArgs Q4) (defBody Q4) (defScope Q4) .none kV14 dc14 pm14 an14 cd14 ct14), sl14⟩) (c14 : PySem.W.codeIn K cd14 "Bits.stretch" = true) (k14 : PySem.W.keepIn K (.ref f14) = true)
  (a15 : PySem.W.nsIn K mainGlobals "running_sums" = some (some (.ref f15))) (l15 : K.lookup f15 = some ⟨oc15, od15, .func (PySem.W.fnOf "running_sums" "running_sums" (defArgs s_running_sums) (defBody s_running_sums) (defScope s_running_sums) .none kV15 dc15 pm15 an15 cd15 ct15), sl15⟩) (c15 : PySem.W.codeIn K cd15 "running_sums" = true) (k15 : PySem.W.keepIn K (.ref f15) = true)
  (a16 : PySem.W.nsIn K mainGlobals "table_of_words" = some (some (.ref f16))) (l16 : K.lookup f16 = some ⟨oc16, od16, .func (PySem.W.fnOf "table_of_words" "table_of_words" (defArgs s_table_of_words) (defBody s_table_of_words) (defScope s_table_of_words) .none kV16 dc16 pm16 an16 cd16 ct16), sl16⟩) (c16 : PySem.W.codeIn K cd16 "table_of_words" = true) (k16 : PySem.W.keepIn K (.ref f16) = true)
  (i17 : PySem.W.isFn K (.ref f17) = true)
  (a17 : PySem.W.findIn K (.ref Qf) "__init__" = some (some (.ref f17))) (l17 : K.lookup f17 = some ⟨oc17, od17, .func (PySem.W.fnOf "__init__" "Counts.__init__" (defArgs Wf) (defBody Wf) (defScope Wf) .none kV17 dc17 pm17 an17 cd17 ct17), sl17⟩) (c17 : PySem.W.codeIn K cd17 "Counts.__init__" = true) (k17 : PySem.W.keepIn K (.ref f17) = true)
  (i18 : PySem.W.isFn K (.ref f18) = true)
  (a18 : PySem.W.findIn K (.ref Qf) "ones_ahead" = some (some (.ref f18))) (l18 : K.lookup f18 = some ⟨oc18, od18, .func (PySem.W.fnOf "ones_ahead" "Counts.ones_ahead" (defArgs Qs) (defBody Qs) (defScope Qs) .none kV18 dc18 pm18 an18 cd18 ct18), sl18⟩) (c18 : PySem.W.codeIn K cd18 "Counts.ones_ahead" = true) (k18 : PySem.W.keepIn K (.ref f18) = true)
  (i19 : PySem.W.isFn K (.ref f19) = true)
  (a19 : PySem.W.findIn K (.ref Qf) "ahead" = some (some (.ref f19))) (l19 : K.lookup f19 = some ⟨oc19, od19, .func (PySem.W.fnOf "ahead" "Counts.ahead" (defArgs Wb) (defBody Wb) (defScope Wb) .none kV19 dc19 pm19 an19 cd19 ct19), sl19⟩) (c19 : PySem.W.codeIn K cd19 "Counts.ahead" = true) (k19 : PySem.W.keepIn K (.ref f19) = true)
  (a20 : PySem.W.nsIn K mainGlobals "heights_of" = some (some (.ref f20))) (l20 : K.lookup f20 = some ⟨oc20, od20, .func (PySem.W.fnOf "heights_of" "heights_of" (defArgs s_heights_of) (defBody s_heights_of) (defScope s_heights_of) .none kV20 dc20 pm20 an20 cd20 ct20), sl20⟩) (c20 : PySem.W.codeIn K cd20 "heights_of" = true) (k20 : PySem.W.keepIn K (.ref f20) = true)
  (a21 : PySem.W.nsIn K mainGlobals "check_row" = some (some (.ref f21))) (l21 : K.lookup f21 = some ⟨oc21, od21, .func (PySem.W.fnOf "check_row" "check_row" (defArgs s_check_row) (defBody s_check_row) (defScope s_check_row) .none kV21 dc21 pm21 an21 cd21 ct21), sl21⟩) (c21 : PySem.W.codeIn K cd21 "check_row" = true) (k21 : PySem.W.keepIn K (.ref f21) = true)
  (i22 : PySem.W.isFn K (.ref f22) = true)
  (a22 : PySem.W.findCls K (.ref W4) (.type "type") "__init__" = some (.val (.ref f22))) (l22 : K.lookup f22 = some ⟨oc22, od22, .func (PySem.W.fnOf "__init__" "Heights.__init__" (defArgs Wc) (defBody Wc) (defScope Wc) .none kV22 dc22 pm22 an22 cd22 ct22), sl22⟩) (c22 : PySem.W.codeIn K cd22 "Heights.__init__" = true) (k22 : PySem.W.keepIn K (.ref f22) = true)
  (i23 : PySem.W.isFn K (.ref f23) = true)
  (a23 : PySem.W.findIn K (.ref Qa) "opens_ahead" = some (some (.ref f23))) (l23 : K.lookup f23 = some ⟨oc23, od23, .func (PySem.W.fnOf "opens_ahead" "Pairs.opens_ahead" (defArgs Qt) (defBody Qt) (defScope Qt) .none kV23 dc23 pm23 an23 cd23 ct23), sl23⟩) (c23 : PySem.W.codeIn K cd23 "Pairs.opens_ahead" = true) (k23 : PySem.W.keepIn K (.ref f23) = true)
  (i24 : PySem.W.isFn K (.ref f24) = true)
  (a24 : PySem.W.findIn K (.ref Qa) "height" = some (some (.ref f24))) (l24 : K.lookup f24 = some ⟨oc24, od24, .func (PySem.W.fnOf "height" "Heights.height" (defArgs Q5) (defBody Q5) (defScope Q5) .none kV24 dc24 pm24 an24 cd24 ct24), sl24⟩) (c24 : PySem.W.codeIn K cd24 "Heights.height" = true) (k24 : PySem.W.keepIn K (.ref f24) = true)
  (i25 : PySem.W.isFn K (.ref f25) = true)
  (a25 : PySem.W.findIn K (.ref Qa) "stretch" = some (some (.ref f25))) (l25 : K.lookup f25 = some ⟨oc25, od25, .func (PySem.W.fnOf "stretch" "Pairs.stretch" (defArgs Q9) (defBody Q9) (defScope Q9) .none kV25 dc25 pm25 an25 cd25 ct25), sl25⟩) (c25 : PySem.W.codeIn K cd25 "Pairs.stretch" = true) (k25 : PySem.W.keepIn K (.ref f25) = true)
  (i26 : PySem.W.isFn K (.ref f26) = true)
  (a26 : PySem.W.findIn K (.ref Qa) "size" = some (some (.ref f26))) (l26 : K.lookup f26 = some ⟨oc26, od26, .func (PySem.W.fnOf "size" "Heights.size" (defArgs Wd) (defBody Wd) (defScope Wd) .none kV26 dc26 pm26 an26 cd26 ct26), sl26⟩) (c26 : PySem.W.codeIn K cd26 "Heights.size" = true) (k26 : PySem.W.keepIn K (.ref f26) = true)
  (i27 : PySem.W.isFn K (.ref f27) = true)
  (a27 : PySem.W.findIn K (.ref Qa) "text" = some (some (.ref f27))) (l27 : K.lookup f27 = some ⟨oc27, od27, .func (PySem.W.fnOf "text" "Heights.text" (defArgs We) (defBody We) (defScope We) .none kV27 dc27 pm27 an27 cd27 ct27), sl27⟩) (c27 : PySem.W.codeIn K cd27 "Heights.text" = true) (k27 : PySem.W.keepIn K (.ref f27) = true)
  (i28 : PySem.W.isFn K (.ref f28) = true)
  (a28 : PySem.W.findIn K (.ref Qa) "__init__" = some (some (.ref f28))) (l28 : K.lookup f28 = some ⟨oc28, od28, .func (PySem.W.fnOf "__init__" "Pairs.__init__" (defArgs Qv) (defBody Qv) (defScope Qv) .none kV28 dc28 pm28 an28 cd28 ct28), sl28⟩) (c28 : PySem.W.codeIn K cd28 "Pairs.__init__" = true) (k28 : PySem.W.keepIn K (.ref f28) = true)
  (i29 : PySem.W.isFn K (.ref f29) = true)
  (a29 : PySem.W.findIn K (.ref Qa) "table" = some (some (.ref f29))) (l29 : K.lookup f29 = some ⟨oc29, od29, .func (PySem.W.fnOf "table" "Pairs.table" (defArgs Wg) (defBody Wg) (defScope Wg) .none kV29 dc29 pm29 an29 cd29 ct29), sl29⟩) (c29 : PySem.W.codeIn K cd29 "Pairs.table" = true) (k29 : PySem.W.keepIn K (.ref f29) = true)
  (i30 : PySem.W.isFn K (.ref f30) = true)
  (a30 : PySem.W.findIn K (.ref Qa) "stretch_at" = some (some (.ref f30))) (l30 : K.lookup f30 = some ⟨oc30, od30, .func (PySem.W.fnOf "stretch_at" "Pairs.stretch_at" (defArgs Qz) (defBody Qz) (defScope Qz) .none kV30 dc30 pm30 an30 cd30 ct30), sl30⟩) (c30 : PySem.W.codeIn K cd30 "Pairs.stretch_at" = true) (k30 : PySem.W.keepIn K (.ref f30) = true)
  (i31 : PySem.W.isFn K (.ref f31) = true)
  (a31 : PySem.W.findIn K (.ref Qa) "begin_of" = some (some (.ref f31))) (l31 : K.lookup f31 = some ⟨oc31, od31, .func (PySem.W.fnOf "begin_of" "Pairs.begin_of" (defArgs Q6) (defBody Q6) (defScope Q6) .none kV31 dc31 pm31 an31 cd31 ct31), sl31⟩) (c31 : PySem.W.codeIn K cd31 "Pairs.begin_of" = true) (k31 : PySem.W.keepIn K (.ref f31) = true)
  (i32 : PySem.W.isFn K (.ref f32) = true)
  (a32 : PySem.W.findIn K (.ref Qa) "parts" = some (some (.ref f32))) (l32 : K.lookup f32 = some ⟨oc32, od32, .func (PySem.W.fnOf "parts" "Heights.parts" (defArgs Q0) (defBody Q0) (defScope Q0) .none kV32 dc32 pm32 an32 cd32 ct32), sl32⟩) (c32 : PySem.W.codeIn K cd32 "Heights.parts" = true) (k32 : PySem.W.keepIn K (.ref f32) = true)
  (i33 : PySem.W.isFn K (.ref f33) = true)
  (a33 : PySem.W.findIn K (.ref Qa) "may_meet" = some (some (.ref f33))) (l33 : K.lookup f33 = some ⟨oc33, od33, .func (PySem.W.fnOf "may_meet" "Heights.may_meet" (defArgs Qx) (defBody Qx) (defScope Qx) .none kV33 dc33 pm33 an33 cd33 ct33), sl33⟩) (c33 : PySem.W.codeIn K cd33 "Heights.may_meet" = true) (k33 : PySem.W.keepIn K (.ref f33) = true)
  (i34 : PySem.W.isFn K (.ref f34) = true)
  (a34 : PySem.W.findIn K (.ref Qa) "heights_within" = some (some (.ref f34))) (l34 : K.lookup f34 = some ⟨oc34, od34, .func (PySem.W.fnOf "heights_within" "Heights.heights_within" (defArgs Ql) (defBody Ql) (defScope Ql) .none kV34 dc34 pm34 an34 cd34 ct34), sl34⟩) (c34 : PySem.W.codeIn K cd34 "Heights.heights_within" = true) (k34 : PySem.W.keepIn K (.ref f34) = true)
  (i35 : PySem.W.isFn K (.ref f35) = true)
  (a35 : PySem.W.findIn K (.ref Qa) "next_within" = some (some (.ref f35))) (l35 : K.lookup f35 = some ⟨oc35, od35, .func (PySem.W.fnOf "next_within" "Heights.next_within" (defArgs Qq) (defBody Qq) (defScope Qq) .none kV35 dc35 pm35 an35 cd35 ct35), sl35⟩) (c35 : PySem.W.codeIn K cd35 "Heights.next_within" = true) (k35 : PySem.W.keepIn K (.ref f35) = true)
  (i36 : PySem.W.isFn K (.ref f36) = true)
  (a36 : PySem.W.findIn K (.ref Qa) "last_within" = some (some (.ref f36))) (l36 : K.lookup f36 = some ⟨oc36, od36, .func (PySem.W.fnOf "last_within" "Heights.last_within" (defArgs Qp) (defBody Qp) (defScope Qp) .none kV36 dc36 pm36 an36 cd36 ct36), sl36⟩) (c36 : PySem.W.codeIn K cd36 "Heights.last_within" = true) (k36 : PySem.W.keepIn K (.ref f36) = true)
  (a37 : PySem.W.nsIn K mainGlobals "check_height" = some (some (.ref f37))) (l37 : K.lookup f37 = some ⟨oc37, od37, .func (PySem.W.fnOf "check_height" "check_height" (defArgs s_check_height) (defBody s_check_height) (defScope s_check_height) .none kV37 dc37 pm37 an37 cd37 ct37), sl37⟩) (c37 : PySem.W.codeIn K cd37 "check_height" = true) (k37 : PySem.W.keepIn K (.ref f37) = true)
  (i38 : PySem.W.isFn K (.ref f38) = true)
  (a38 : PySem.W.findIn K (.ref Qa) "next_at" = some (some (.ref f38))) (l38 : K.lookup f38 = some ⟨oc38, od38, .func (PySem.W.fnOf "next_at" "Heights.next_at" (defArgs Q2) (defBody Q2) (defScope Q2) .none kV38 dc38 pm38 an38 cd38 ct38), sl38⟩) (c38 : PySem.W.codeIn K cd38 "Heights.next_at" = true) (k38 : PySem.W.keepIn K (.ref f38) = true)
  (i39 : PySem.W.isFn K (.ref f39) = true)
  (a39 : PySem.W.findIn K (.ref Qa) "last_at" = some (some (.ref f39))) (l39 : K.lookup f39 = some ⟨oc39, od39, .func (PySem.W.fnOf "last_at" "Heights.last_at" (defArgs Q1) (defBody Q1) (defScope Q1) .none kV39 dc39 pm39 an39 cd39 ct39), sl39⟩) (c39 : PySem.W.codeIn K cd39 "Heights.last_at" = true) (k39 : PySem.W.keepIn K (.ref f39) = true)
  (i40 : PySem.W.isFn K (.ref f40) = true)
  (a40 : PySem.W.findIn K (.ref Qh) "bit" = some (some (.ref f40))) (l40 : K.lookup f40 = some ⟨oc40, od40, .func (PySem.W.fnOf "bit" "Bits.bit" (defArgs Wv) (defBody Wv) (defScope Wv) .none kV40 dc40 pm40 an40 cd40 ct40), sl40⟩) (c40 : PySem.W.codeIn K cd40 "Bits.bit" = true) (k40 : PySem.W.keepIn K (.ref f40) = true)
  (i41 : PySem.W.isFn K (.ref f41) = true)
  (a41 : PySem.W.findIn K (.ref Qa) "is_opening" = some (some (.ref f41))) (l41 : K.lookup f41 = some ⟨oc41, od41, .func (PySem.W.fnOf "is_opening" "Pairs.is_opening" (defArgs Qy) (defBody Qy) (defScope Qy) .none kV41 dc41 pm41 an41 cd41 ct41), sl41⟩) (c41 : PySem.W.codeIn K cd41 "Pairs.is_opening" = true) (k41 : PySem.W.keepIn K (.ref f41) = true)
  (i42 : PySem.W.isFn K (.ref f42) = true)
  (a42 : PySem.W.findIn K (.ref Qa) "partner" = some (some (.ref f42))) (l42 : K.lookup f42 = some ⟨oc42, od42, .func (PySem.W.fnOf "partner" "Heights.partner" (defArgs Q3) (defBody Q3) (defScope Q3) .none kV42 dc42 pm42 an42 cd42 ct42), sl42⟩) (c42 : PySem.W.codeIn K cd42 "Heights.partner" = true) (k42 : PySem.W.keepIn K (.ref f42) = true)
  (i43 : PySem.W.isFn K (.ref f43) = true)
  (a43 : PySem.W.findIn K (.ref Qa) "depth" = some (some (.ref f43))) (l43 : K.lookup f43 = some ⟨oc43, od43, .func (PySem.W.fnOf "depth" "Heights.depth" (defArgs Q7) (defBody Q7) (defScope Q7) .none kV43 dc43 pm43 an43 cd43 ct43), sl43⟩) (c43 : PySem.W.codeIn K cd43 "Heights.depth" = true) (k43 : PySem.W.keepIn K (.ref f43) = true)
  (i44 : PySem.W.isFn K (.ref f44) = true)
  (a44 : PySem.W.findIn K (.ref Qa) "round" = some (some (.ref f44))) (l44 : K.lookup f44 = some ⟨oc44, od44, .func (PySem.W.fnOf "round" "Heights.round" (defArgs Q8) (defBody Q8) (defScope Q8) .none kV44 dc44 pm44 an44 cd44 ct44), sl44⟩) (c44 : PySem.W.codeIn K cd44 "Heights.round" = true) (k44 : PySem.W.keepIn K (.ref f44) = true)
  (i45 : PySem.W.isFn K (.ref f45) = true)
  (a45 : PySem.W.findIn K (.ref Qa) "is_stretch" = some (some (.ref f45))) (l45 : K.lookup f45 = some ⟨oc45, od45, .func (PySem.W.fnOf "is_stretch" "Heights.is_stretch" (defArgs Qr) (defBody Qr) (defScope Qr) .none kV45 dc45 pm45 an45 cd45 ct45), sl45⟩) (c45 : PySem.W.codeIn K cd45 "Heights.is_stretch" = true) (k45 : PySem.W.keepIn K (.ref f45) = true)
  (i46 : PySem.W.isFn K (.ref f46) = true)
  (a46 : PySem.W.findIn K (.ref Qa) "least_within" = some (some (.ref f46))) (l46 : K.lookup f46 = some ⟨oc46, od46, .func (PySem.W.fnOf "least_within" "Heights.least_within" (defArgs Qo) (defBody Qo) (defScope Qo) .none kV46 dc46 pm46 an46 cd46 ct46), sl46⟩) (c46 : PySem.W.codeIn K cd46 "Heights.least_within" = true) (k46 : PySem.W.keepIn K (.ref f46) = true)
  (i47 : PySem.W.isFn K (.ref f47) = true)
  (a47 : PySem.W.findIn K (.ref Qa) "lowest" = some (some (.ref f47))) (l47 : K.lookup f47 = some ⟨oc47, od47, .func (PySem.W.fnOf "lowest" "Heights.lowest" (defArgs Qw) (defBody Qw) (defScope Qw) .none kV47 dc47 pm47 an47 cd47 ct47), sl47⟩) (c47 : PySem.W.codeIn K cd47 "Heights.lowest" = true) (k47 : PySem.W.keepIn K (.ref f47) = true)
  (a48 : PySem.W.nsIn K mainGlobals "_law_cell_at" = some (some (.ref f48))) (l48 : K.lookup f48 = some ⟨oc48, od48, .func (PySem.W.fnOf "_law_cell_at" "_law_cell_at" (defArgs s_law_cell_at) (defBody s_law_cell_at) (defScope s_law_cell_at) .none kV48 dc48 pm48 an48 cd48 ct48), sl48⟩) (c48 : PySem.W.codeIn K cd48 "_law_cell_at" = true) (k48 : PySem.W.keepIn K (.ref f48) = true)
  (a49 : PySem.W.nsIn K mainGlobals "_law_mixed" = some (some (.ref f49))) (l49 : K.lookup f49 = some ⟨oc49, od49, .func (PySem.W.fnOf "_law_mixed" "_law_mixed" (defArgs s_law_mixed) (defBody s_law_mixed) (defScope s_law_mixed) .none kV49 dc49 pm49 an49 cd49 ct49), sl49⟩) (c49 : PySem.W.codeIn K cd49 "_law_mixed" = true) (k49 : PySem.W.keepIn K (.ref f49) = true)
  (a50 : PySem.W.nsIn K mainGlobals "_law_elders" = some (some (.ref f50))) (l50 : K.lookup f50 = some ⟨oc50, od50, .func (PySem.W.fnOf "_law_elders" "_law_elders" (defArgs s_law_elders) (defBody s_law_elders) (defScope s_law_elders) .none kV50 dc50 pm50 an50 cd50 ct50), sl50⟩) (c50 : PySem.W.codeIn K cd50 "_law_elders" = true) (k50 : PySem.W.keepIn K (.ref f50) = true)
  (a51 : PySem.W.nsIn K mainGlobals "_law_row" = some (some (.ref f51))) (l51 : K.lookup f51 = some ⟨oc51, od51, .func (PySem.W.fnOf "_law_row" "_law_row" (defArgs s_law_row) (defBody s_law_row) (defScope s_law_row) .none kV51 dc51 pm51 an51 cd51 ct51), sl51⟩) (c51 : PySem.W.codeIn K cd51 "_law_row" = true) (k51 : PySem.W.keepIn K (.ref f51) = true)
  (a52 : PySem.W.nsIn K mainGlobals "_law_is" = some (some (.ref f52))) (l52 : K.lookup f52 = some ⟨oc52, od52, .func (PySem.W.fnOf "_law_is" "_law_is" (defArgs s_law_is) (defBody s_law_is) (defScope s_law_is) .none kV52 dc52 pm52 an52 cd52 ct52), sl52⟩) (c52 : PySem.W.codeIn K cd52 "_law_is" = true) (k52 : PySem.W.keepIn K (.ref f52) = true)
  (a53 : PySem.W.nsIn K mainGlobals "_law_text" = some (some (.ref f53))) (l53 : K.lookup f53 = some ⟨oc53, od53, .func (PySem.W.fnOf "_law_text" "_law_text" (defArgs s_law_text) (defBody s_law_text) (defScope s_law_text) .none kV53 dc53 pm53 an53 cd53 ct53), sl53⟩) (c53 : PySem.W.codeIn K cd53 "_law_text" = true) (k53 : PySem.W.keepIn K (.ref f53) = true)
  (a54 : PySem.W.nsIn K mainGlobals "_law_heights" = some (some (.ref f54))) (l54 : K.lookup f54 = some ⟨oc54, od54, .func (PySem.W.fnOf "_law_heights" "_law_heights" (defArgs s_law_heights) (defBody s_law_heights) (defScope s_law_heights) .none kV54 dc54 pm54 an54 cd54 ct54), sl54⟩) (c54 : PySem.W.codeIn K cd54 "_law_heights" = true) (k54 : PySem.W.keepIn K (.ref f54) = true)
  (a55 : PySem.W.nsIn K mainGlobals "_law_right" = some (some (.ref f55))) (l55 : K.lookup f55 = some ⟨oc55, od55, .func (PySem.W.fnOf "_law_right" "_law_right" (defArgs s_law_right) (defBody s_law_right) (defScope s_law_right) .none kV55 dc55 pm55 an55 cd55 ct55), sl55⟩) (c55 : PySem.W.codeIn K cd55 "_law_right" = true) (k55 : PySem.W.keepIn K (.ref f55) = true)
  (a56 : PySem.W.nsIn K mainGlobals "_law_far" = some (some (.ref f56))) (l56 : K.lookup f56 = some ⟨oc56, od56, .func (PySem.W.fnOf "_law_far" "_law_far" (defArgs s_law_far) (defBody s_law_far) (defScope s_law_far) .none kV56 dc56 pm56 an56 cd56 ct56), sl56⟩) (c56 : PySem.W.codeIn K cd56 "_law_far" = true) (k56 : PySem.W.keepIn K (.ref f56) = true)
  (a57 : PySem.W.nsIn K mainGlobals "law" = some (some (.ref f57))) (l57 : K.lookup f57 = some ⟨oc57, od57, .func (PySem.W.fnOf "law" "law" (defArgs s_law) (defBody s_law) (defScope s_law) .none kV57 dc57 pm57 an57 cd57 ct57), sl57⟩) (c57 : PySem.W.codeIn K cd57 "law" = true) (k57 : PySem.W.keepIn K (.ref f57) = true)
  (g_ONES_OF_FOUR : PySem.W.nsIn K mainGlobals "ONES_OF_FOUR" = some (some (.ref Qc))) (o1_ONES_OF_FOUR : K.lookup Qc = some o_ONES_OF_FOUR) (o2_ONES_OF_FOUR : o_ONES_OF_FOUR.cls = .type "tuple") (o3_ONES_OF_FOUR : o_ONES_OF_FOUR.data = .seq i_ONES_OF_FOUR Yh) (o4_ONES_OF_FOUR : i_ONES_OF_FOUR.size ≤ sizeLine) (o5_ONES_OF_FOUR : Vals (fours.map fun n : Nat => V.int n) i_ONES_OF_FOUR.toList)
  (g_SIGNS_OF_FOUR : PySem.W.nsIn K mainGlobals "SIGNS_OF_FOUR" = some (some (.ref Qb))) (o1_SIGNS_OF_FOUR : K.lookup Qb = some o_SIGNS_OF_FOUR) (o2_SIGNS_OF_FOUR : o_SIGNS_OF_FOUR.cls = .type "tuple") (o3_SIGNS_OF_FOUR : o_SIGNS_OF_FOUR.data = .seq i_SIGNS_OF_FOUR Yc) (o4_SIGNS_OF_FOUR : i_SIGNS_OF_FOUR.size ≤ sizeLine) (o5_SIGNS_OF_FOUR : Vals (fourT) i_SIGNS_OF_FOUR.toList)
  (g_WORD_BITS : PySem.W.nsIn K mainGlobals "WORD_BITS" = some (some (.int 32 t_WORD_BITS)))
  (g_MOST_BITS : PySem.W.nsIn K mainGlobals "MOST_BITS" = some (some (.int 20000 t_MOST_BITS)))
  (g_BLOCK_WORDS : PySem.W.nsIn K mainGlobals "BLOCK_WORDS" = some (some (.int 8 t_BLOCK_WORDS)))
  (g_MOST_SIGNS : PySem.W.nsIn K mainGlobals "MOST_SIGNS" = some (some (.int 8192 t_MOST_SIGNS)))
  (g_STRETCH_BITS : PySem.W.nsIn K mainGlobals "STRETCH_BITS" = some (some (.int 256 t_STRETCH_BITS)))
  (z_range : PySem.W.nsIn K mainGlobals "range" = some none)
  (z_len : PySem.W.nsIn K mainGlobals "len" = some none)
  (z_int : PySem.W.nsIn K mainGlobals "int" = some none)
  (z_bool : PySem.W.nsIn K mainGlobals "bool" = some none)
  (z_str : PySem.W.nsIn K mainGlobals "str" = some none)
  (z_isinstance : PySem.W.nsIn K mainGlobals "isinstance" = some none)
  (z_list : PySem.W.nsIn K mainGlobals "list" = some none)
  (z_tuple : PySem.W.nsIn K mainGlobals "tuple" = some none)
  (z_enumerate : PySem.W.nsIn K mainGlobals "enumerate" = some none)
  (z_zip : PySem.W.nsIn K mainGlobals "zip" = some none)
  (z_sum : PySem.W.nsIn K mainGlobals "sum" = some none)
  (z_abs : PySem.W.nsIn K mainGlobals "abs" = some none)
  (z_max : PySem.W.nsIn K mainGlobals "max" = some none)
  (z_min : PySem.W.nsIn K mainGlobals "min" = some none)
  (z_dict : PySem.W.nsIn K mainGlobals "dict" = some none)
  (z_reversed : PySem.W.nsIn K mainGlobals "reversed" = some none)
  (z_ValueError : PySem.W.nsIn K mainGlobals "ValueError" = some none)
  (eg_WoodError : PySem.W.nsIn K mainGlobals "WoodError" = some (some (.ref Qd)))
  (eg_NoBits : PySem.W.nsIn K mainGlobals "NoBits" = some (some (.ref Qi)))
  (eg_NoPlace : PySem.W.nsIn K mainGlobals "NoPlace" = some (some (.ref Qe)))
  (eg_NoRow : PySem.W.nsIn K mainGlobals "NoRow" = some (some (.ref Qg)))
  (ex_WoodError : PySem.W.excIn K Qd veMro "ValueError.__new__" = true)
  (bg_WoodError : PySem.W.specialIn K (.ref Qd) "__getattribute__" = some (some (.builtin "type.__getattribute__")))
  (br_WoodError : PySem.W.readsIn K Qd (.type "type") = true)
  (bi_WoodError : PySem.W.findCls K (.ref Qd) (.type "type") "__init__" = some (.val (.builtin "ValueError.__init__")))
  (ex_NoBits : PySem.W.excIn K Qi veMro "ValueError.__new__" = true)
  (ga_NoBits : PySem.W.findIn K (.ref Qi) "__getattribute__" = some (some (.builtin "BaseException.__getattribute__")))
  (gx_NoBits : PySem.W.findIn K (.ref Qi) "__getattr__" = some none)
  (ca_NoBits : PySem.W.findIn K (.ref Qi) "__class__" = some (some (.builtin "object.__class__")))
  (sp_NoBits : PySem.W.specialIn K (.builtin "object.__class__") "__get__" = some (some (.builtin "getset_descriptor.__get__")))
  (tk_NoBits : PySem.W.takesIn K (.builtin "object.__class__") = some true)
  (mo_NoBits : PySem.W.mroIn K Qi (.type "object") = some true)
  (mb_NoBits : PySem.W.mroIn K Qi (.type "BaseException") = some true)
  (em_NoBits : PySem.W.exmOne K (.ref Qi) (.ref Qd) = some true)
  (ex_NoPlace : PySem.W.excIn K Qe veMro "ValueError.__new__" = true)
  (ga_NoPlace : PySem.W.findIn K (.ref Qe) "__getattribute__" = some (some (.builtin "BaseException.__getattribute__")))
  (gx_NoPlace : PySem.W.findIn K (.ref Qe) "__getattr__" = some none)
  (ca_NoPlace : PySem.W.findIn K (.ref Qe) "__class__" = some (some (.builtin "object.__class__")))
  (sp_NoPlace : PySem.W.specialIn K (.builtin "object.__class__") "__get__" = some (some (.builtin "getset_descriptor.__get__")))
  (tk_NoPlace : PySem.W.takesIn K (.builtin "object.__class__") = some true)
  (mo_NoPlace : PySem.W.mroIn K Qe (.type "object") = some true)
  (mb_NoPlace : PySem.W.mroIn K Qe (.type "BaseException") = some true)
  (em_NoPlace : PySem.W.exmOne K (.ref Qe) (.ref Qd) = some true)
  (sa_NoRow : PySem.W.findIn K (.ref Qg) "__setattr__" = some (some (.builtin "object.__setattr__")))
  (pl_NoRow : PySem.W.findIn K (.ref Qg) "place" = some none)
  (ga_NoRow : PySem.W.findIn K (.ref Qg) "__getattribute__" = some (some (.builtin "BaseException.__getattribute__")))
  (gx_NoRow : PySem.W.findIn K (.ref Qg) "__getattr__" = some none)
  (ca_NoRow : PySem.W.findIn K (.ref Qg) "__class__" = some (some (.builtin "object.__class__")))
  (sp_NoRow : PySem.W.specialIn K (.builtin "object.__class__") "__get__" = some (some (.builtin "getset_descriptor.__get__")))
  (tk_NoRow : PySem.W.takesIn K (.builtin "object.__class__") = some true)
  (mo_NoRow : PySem.W.mroIn K Qg (.type "object") = some true)
  (mb_NoRow : PySem.W.mroIn K Qg (.type "BaseException") = some true)
  (em_NoRow : PySem.W.exmOne K (.ref Qg) (.ref Qd) = some true)
  (em2_NoRow : PySem.W.exmOne K (.ref Qg) (.ref Qg) = some true)
  (ob_NoRow : K.lookup Qg = some (excClassObj nm_NoRow qn_NoRow Qg N_NoRow bs_NoRow (.ref Qd :: veMro) true sn_NoRow sub_NoRow ab_NoRow col_NoRow dd_NoRow k0_NoRow k1_NoRow k2_NoRow k3_NoRow k5_NoRow "ValueError.__new__"))
  : ∃ fd : FuncData, (∀ (s : Shared) (v : Value), BindsTo s fd ⟨[v], []⟩ [("_law_script", v)]) ∧ ∀ base : Heap, K.In base → base.Ns mainGlobals mg → FnOk l.prog w K mg base CX0 12 fa fd ["_law_script"] (spLaw K) := by
 have e := hfa.symm.trans (PySem.W.mg_of X G a57)
 cases e
 have q_ONES_OF_FOUR : ∀ H, SqT K H Qc (fours.map fun n : Nat => V.int n) := fun H => .inr ⟨o_ONES_OF_FOUR, i_ONES_OF_FOUR, Yh, o1_ONES_OF_FOUR, o2_ONES_OF_FOUR, o3_ONES_OF_FOUR, o4_ONES_OF_FOUR, o5_ONES_OF_FOUR⟩
 have q_SIGNS_OF_FOUR : ∀ H, SqT K H Qb (fourT) := fun H => .inr ⟨o_SIGNS_OF_FOUR, i_SIGNS_OF_FOUR, Yc, o1_SIGNS_OF_FOUR, o2_SIGNS_OF_FOUR, o3_SIGNS_OF_FOUR, o4_SIGNS_OF_FOUR, o5_SIGNS_OF_FOUR⟩
 have O_NoRow : OwnX K Qd Qg f0 := ⟨ex_WoodError, ⟨_, _, _, _, _, _, _, _, _, _, _, _, _, _, ob_NoRow⟩, a0, beq_iff_eq.mp i0, sa_NoRow, pl_NoRow⟩
 have T : Txt K mg Qc Qb Qd Qi Qe Qg := ⟨PySem.W.mg_of X G eg_WoodError, PySem.W.mg_of X G eg_NoBits, PySem.W.mg_of X G eg_NoPlace, PySem.W.mg_of X G eg_NoRow, ex_WoodError, bg_WoodError, br_WoodError, bi_WoodError, ex_NoBits, ga_NoBits, gx_NoBits, ca_NoBits, sp_NoBits, tk_NoBits, mo_NoBits, mb_NoBits, em_NoBits, ex_NoPlace, ga_NoPlace, gx_NoPlace, ca_NoPlace, sp_NoPlace, tk_NoPlace, mo_NoPlace, mb_NoPlace, em_NoPlace, sa_NoRow, pl_NoRow, ga_NoRow, gx_NoRow, ca_NoRow, sp_NoRow, tk_NoRow, mo_NoRow, mb_NoRow, em_NoRow, em2_NoRow, PySem.W.mg_of X G g_ONES_OF_FOUR, q_ONES_OF_FOUR, PySem.W.mg_of X G g_SIGNS_OF_FOUR, q_SIGNS_OF_FOUR, ⟨_, PySem.W.mg_of X G g_WORD_BITS⟩, ⟨_, PySem.W.mg_of X G g_MOST_BITS⟩, ⟨_, PySem.W.mg_of X G g_BLOCK_WORDS⟩, ⟨_, PySem.W.mg_of X G g_MOST_SIGNS⟩, ⟨_, PySem.W.mg_of X G g_STRETCH_BITS⟩, PySem.W.mg_none_of X G z_range, PySem.W.mg_none_of X G z_len, PySem.W.mg_none_of X G z_int, PySem.W.mg_none_of X G z_bool, PySem.W.mg_none_of X G z_str, PySem.W.mg_none_of X G z_isinstance, PySem.W.mg_none_of X G z_list, PySem.W.mg_none_of X G z_tuple, PySem.W.mg_none_of X G z_enumerate, PySem.W.mg_none_of X G z_zip, PySem.W.mg_none_of X G z_sum, PySem.W.mg_none_of X G z_abs, PySem.W.mg_none_of X G z_max, PySem.W.mg_none_of X G z_min, PySem.W.mg_none_of X G z_dict, PySem.W.mg_none_of X G z_reversed, PySem.W.mg_none_of X G z_ValueError, ⟨_, O_NoRow⟩⟩
 have Wa : Wa K Qh := ⟨⟨pg_Bits, hd_Bits, po_Bits, sa_Bits⟩, n_Bits_length, n_Bits_many_ones, n_Bits_kept_words⟩
 have Wm : Wm K Qf := ⟨⟨pg_Counts, hd_Counts, po_Counts, sa_Counts⟩, n_Counts_length, n_Counts_kept_words, n_Counts_kept_table⟩
 have Qj : Qj K Qa := ⟨⟨pg_Pairs, hd_Pairs, po_Pairs, sa_Pairs⟩, n_Pairs_bits, n_Pairs_counts, n_Pairs_length, n_Pairs_kept_table, n_Pairs_often_least⟩
 have F0 := fun_mk (st := Wo) l0 c0 k0
 have b0 := F0.binds (ps := ["self", "place"]) fun _ _ _ _ _ _ => us2 fun _ _ => rfl
 have F1 := fun_mk (st := s_is_whole) l1 c1 k1
 have b1 := F1.binds (ps := ["thing"]) fun _ _ _ _ _ _ => us1 fun _ => rfl
 have F2 := fun_mk (st := s_is_within) l2 c2 k2
 have b2 := F2.binds (ps := ["thing", "low", "high"]) fun _ _ _ _ _ _ => us3 fun _ _ _ => rfl
 have F3 := fun_mk (st := s_check_bit) l3 c3 k3
 have b3 := F3.binds (ps := ["bit"]) fun _ _ _ _ _ _ => us1 fun _ => rfl
 have F4 := fun_mk (st := s_check_place) l4 c4 k4
 have b4 := F4.binds (ps := ["place", "greatest"]) fun _ _ _ _ _ _ => us2 fun _ _ => rfl
 have F5 := fun_mk (st := s_check_stretch) l5 c5 k5
 have b5 := F5.binds (ps := ["low", "high", "greatest"]) fun _ _ _ _ _ _ => us3 fun _ _ _ => rfl
 have F6 := fun_mk (st := s_ones_in) l6 c6 k6
 have b6 := F6.binds (ps := ["word"]) fun _ _ _ _ _ _ => us1 fun _ => rfl
 have F7 := fun_mk (st := s_is_row) l7 c7 k7
 have b7 := F7.binds (ps := ["thing"]) fun _ _ _ _ _ _ => us1 fun _ => rfl
 have F8 := fun_mk (st := s_word_of) l8 c8 k8
 have b8 := F8.binds (ps := ["signs"]) fun _ _ _ _ _ _ => us1 fun _ => rfl
 have F9 := fun_mk (st := s_words_of) l9 c9 k9
 have b9 := F9.binds (ps := ["text"]) fun _ _ _ _ _ _ => us1 fun _ => rfl
 have F10 := fun_mk (st := s_signs_of) l10 c10 k10
 have b10 := F10.binds (ps := ["word"]) fun _ _ _ _ _ _ => us1 fun _ => rfl
 have F11 := fun_mk (st := Ws) l11 c11 k11
 have b11 := F11.binds (ps := ["self", "text"]) fun _ _ _ _ _ _ => us2 fun _ _ => rfl
 have F12 := fun_mk (st := Wt) l12 c12 k12
 have b12 := F12.binds (ps := ["self"]) fun _ _ _ _ _ _ => us1 fun _ => rfl
 have F13 := fun_mk (st := Wn) l13 c13 k13
 have b13 := F13.binds (ps := ["self"]) fun _ _ _ _ _ _ => us1 fun _ => rfl
 have F14 := fun_mk (st := Q4) l14 c14 k14
 have b14 := F14.binds (ps := ["self", "low", "high"]) fun _ _ _ _ _ _ => us3 fun _ _ _ => rfl
 have F15 := fun_mk (st := s_running_sums) l15 c15 k15
 have b15 := F15.binds (ps := ["numbers"]) fun _ _ _ _ _ _ => us1 fun _ => rfl
 have F16 := fun_mk (st := s_table_of_words) l16 c16 k16
 have b16 := F16.binds (ps := ["words"]) fun _ _ _ _ _ _ => us1 fun _ => rfl
 have F17 := fun_mk (st := Wf) l17 c17 k17
 have b17 := F17.binds (ps := ["self", "bits"]) fun _ _ _ _ _ _ => us2 fun _ _ => rfl
 have F18 := fun_mk (st := Qs) l18 c18 k18
 have b18 := F18.binds (ps := ["self", "place"]) fun _ _ _ _ _ _ => us2 fun _ _ => rfl
 have F19 := fun_mk (st := Wb) l19 c19 k19
 have b19 := F19.binds (ps := ["self", "bit", "place"]) fun _ _ _ _ _ _ => us3 fun _ _ _ => rfl
 have F20 := fun_mk (st := s_heights_of) l20 c20 k20
 have b20 := F20.binds (ps := ["text", "begin"]) fun _ _ _ _ _ _ => us2 fun _ _ => rfl
 have F21 := fun_mk (st := s_check_row) l21 c21 k21
 have b21 := F21.binds (ps := ["text"]) fun _ _ _ _ _ _ => us1 fun _ => rfl
 have F22 := fun_mk (st := Wc) l22 c22 k22
 have b22 := F22.binds (ps := ["self", "length", "table", "often_least"]) fun _ _ _ _ _ _ => us4 fun _ _ _ _ => rfl
 have F23 := fun_mk (st := Qt) l23 c23 k23
 have b23 := F23.binds (ps := ["self", "place"]) fun _ _ _ _ _ _ => us2 fun _ _ => rfl
 have F24 := fun_mk (st := Q5) l24 c24 k24
 have b24 := F24.binds (ps := ["self", "place"]) fun _ _ _ _ _ _ => us2 fun _ _ => rfl
 have F25 := fun_mk (st := Q9) l25 c25 k25
 have b25 := F25.binds (ps := ["self", "low", "high"]) fun _ _ _ _ _ _ => us3 fun _ _ _ => rfl
 have F26 := fun_mk (st := Wd) l26 c26 k26
 have b26 := F26.binds (ps := ["self"]) fun _ _ _ _ _ _ => us1 fun _ => rfl
 have F27 := fun_mk (st := We) l27 c27 k27
 have b27 := F27.binds (ps := ["self"]) fun _ _ _ _ _ _ => us1 fun _ => rfl
 have F28 := fun_mk (st := Qv) l28 c28 k28
 have b28 := F28.binds (ps := ["self", "text"]) fun _ _ _ _ _ _ => us2 fun _ _ => rfl
 have F29 := fun_mk (st := Wg) l29 c29 k29
 have b29 := F29.binds (ps := ["self"]) fun _ _ _ _ _ _ => us1 fun _ => rfl
 have F30 := fun_mk (st := Qz) l30 c30 k30
 have b30 := F30.binds (ps := ["self", "place"]) fun _ _ _ _ _ _ => us2 fun _ _ => rfl
 have F31 := fun_mk (st := Q6) l31 c31 k31
 have b31 := F31.binds (ps := ["self", "number"]) fun _ _ _ _ _ _ => us2 fun _ _ => rfl
 have F32 := fun_mk (st := Q0) l32 c32 k32
 have b32 := F32.binds (ps := ["self", "low", "high"]) fun _ _ _ _ _ _ => us3 fun _ _ _ => rfl
 have F33 := fun_mk (st := Qx) l33 c33 k33
 have b33 := F33.binds (ps := ["self", "low", "height"]) fun _ _ _ _ _ _ => us3 fun _ _ _ => rfl
 have F34 := fun_mk (st := Ql) l34 c34 k34
 have b34 := F34.binds (ps := ["self", "low", "high"]) fun _ _ _ _ _ _ => us3 fun _ _ _ => rfl
 have F35 := fun_mk (st := Qq) l35 c35 k35
 have b35 := F35.binds (ps := ["self", "low", "high", "height"]) fun _ _ _ _ _ _ => us4 fun _ _ _ _ => rfl
 have F36 := fun_mk (st := Qp) l36 c36 k36
 have b36 := F36.binds (ps := ["self", "low", "high", "height"]) fun _ _ _ _ _ _ => us4 fun _ _ _ _ => rfl
 have F37 := fun_mk (st := s_check_height) l37 c37 k37
 have b37 := F37.binds (ps := ["height"]) fun _ _ _ _ _ _ => us1 fun _ => rfl
 have F38 := fun_mk (st := Q2) l38 c38 k38
 have b38 := F38.binds (ps := ["self", "place", "height"]) fun _ _ _ _ _ _ => us3 fun _ _ _ => rfl
 have F39 := fun_mk (st := Q1) l39 c39 k39
 have b39 := F39.binds (ps := ["self", "place", "height"]) fun _ _ _ _ _ _ => us3 fun _ _ _ => rfl
 have F40 := fun_mk (st := Wv) l40 c40 k40
 have b40 := F40.binds (ps := ["self", "place"]) fun _ _ _ _ _ _ => us2 fun _ _ => rfl
 have F41 := fun_mk (st := Qy) l41 c41 k41
 have b41 := F41.binds (ps := ["self", "place"]) fun _ _ _ _ _ _ => us2 fun _ _ => rfl
 have F42 := fun_mk (st := Q3) l42 c42 k42
 have b42 := F42.binds (ps := ["self", "place"]) fun _ _ _ _ _ _ => us2 fun _ _ => rfl
 have F43 := fun_mk (st := Q7) l43 c43 k43
 have b43 := F43.binds (ps := ["self", "place"]) fun _ _ _ _ _ _ => us2 fun _ _ => rfl
 have F44 := fun_mk (st := Q8) l44 c44 k44
 have b44 := F44.binds (ps := ["self", "place"]) fun _ _ _ _ _ _ => us2 fun _ _ => rfl
 have F45 := fun_mk (st := Qr) l45 c45 k45
 have b45 := F45.binds (ps := ["self", "low", "high"]) fun _ _ _ _ _ _ => us3 fun _ _ _ => rfl
 have F46 := fun_mk (st := Qo) l46 c46 k46
 have b46 := F46.binds (ps := ["self", "low", "high"]) fun _ _ _ _ _ _ => us3 fun _ _ _ => rfl
 have F47 := fun_mk (st := Qw) l47 c47 k47
 have b47 := F47.binds (ps := ["self", "low", "high"]) fun _ _ _ _ _ _ => us3 fun _ _ _ => rfl
 have F48 := fun_mk (st := s_law_cell_at) l48 c48 k48
 have b48 := F48.binds (ps := ["_law_script", "_law_k"]) fun _ _ _ _ _ _ => us2 fun _ _ => rfl
 have F49 := fun_mk (st := s_law_mixed) l49 c49 k49
 have b49 := F49.binds (ps := ["_law_cell", "_law_k"]) fun _ _ _ _ _ _ => us2 fun _ _ => rfl
 have F50 := fun_mk (st := s_law_elders) l50 c50 k50
 have b50 := F50.binds (ps := ["_law_cell", "_law_many"]) fun _ _ _ _ _ _ => us2 fun _ _ => rfl
 have F51 := fun_mk (st := s_law_row) l51 c51 k51
 have b51 := F51.binds (ps := ["_law_elders_here"]) fun _ _ _ _ _ _ => us1 fun _ => rfl
 have F52 := fun_mk (st := s_law_is) l52 c52 k52
 have b52 := F52.binds (ps := ["_law_found", "_law_due"]) fun _ _ _ _ _ _ => us2 fun _ _ => rfl
 have F53 := fun_mk (st := s_law_text) l53 c53 k53
 have b53 := F53.binds (ps := ["_law_script", "_law_at"]) fun _ _ _ _ _ _ => us2 fun _ _ => rfl
 have F54 := fun_mk (st := s_law_heights) l54 c54 k54
 have b54 := F54.binds (ps := ["_law_text_here"]) fun _ _ _ _ _ _ => us1 fun _ => rfl
 have F55 := fun_mk (st := s_law_right) l55 c55 k55
 have b55 := F55.binds (ps := ["_law_text_here"]) fun _ _ _ _ _ _ => us1 fun _ => rfl
 have F56 := fun_mk (st := s_law_far) l56 c56 k56
 have b56 := F56.binds (ps := ["_law_text_here", "_law_high"]) fun _ _ _ _ _ _ => us2 fun _ _ => rfl
 have F57 := fun_mk (st := s_law) l57 c57 k57
 refine ⟨PySem.W.fnOf "law" "law" (defArgs s_law) (defBody s_law) (defScope s_law) .none kV57 dc57 pm57 an57 cd57 ct57, fun s v => .of_eq rfl, fun base _ _ => ?_⟩
 have V0 : ExcI l.prog w K mg base "NoRow" Qd Qg 1 ["self", "place"] := ⟨⟨f0, _, J3 F0 T, b0, O_NoRow⟩, T.g_NoRow, T.k_NoRow⟩
 have V1 : Cal l.prog w K mg base "is_whole" 1 ["thing"] (spWhole0 K) := ⟨⟨f1, _, ok_is_whole F1 T, b1, PySem.W.mg_of X G a1, k1⟩⟩
 have V2 : Cal l.prog w K mg base "is_within" 2 ["thing", "low", "high"] (spWithin K) := ⟨⟨f2, _, ok_is_within F2 T V1, b2, PySem.W.mg_of X G a2, k2⟩⟩
 have V3 : CalE l.prog w K mg base "check_bit" 3 ["bit"] (spCheckBit K Qi) := ⟨⟨f3, _, ok_check_bit F3 T V2, b3, PySem.W.mg_of X G a3, k3⟩⟩
 have V4 : CalE l.prog w K mg base "check_place" 3 ["place", "greatest"] (spCheckPlace K Qe) := ⟨⟨f4, _, ok_check_place F4 T V2, b4, PySem.W.mg_of X G a4, k4⟩⟩
 have V5 : CalE l.prog w K mg base "check_stretch" 4 ["low", "high", "greatest"] (spCheckStretch K Qe) := ⟨⟨f5, _, ok_check_stretch F5 T V4, b5, PySem.W.mg_of X G a5, k5⟩⟩
 have V6 : Cal l.prog w K mg base "ones_in" 1 ["word"] spOnes := ⟨⟨f6, _, ok_ones_in F6 T, b6, PySem.W.mg_of X G a6, k6⟩⟩
 have V7 : Cal l.prog w K mg base "is_row" 1 ["thing"] spIsRow := ⟨⟨f7, _, ok_is_row F7 T, b7, PySem.W.mg_of X G a7, k7⟩⟩
 have V8 : Cal l.prog w K mg base "word_of" 1 ["signs"] spWord := ⟨⟨f8, _, ok_word_of F8 T, b8, PySem.W.mg_of X G a8, k8⟩⟩
 have V9 : Cal l.prog w K mg base "words_of" 2 ["text"] (spWords K) := ⟨⟨f9, _, ok_words_of F9 T V8, b9, PySem.W.mg_of X G a9, k9⟩⟩
 have V10 : Cal l.prog w K mg base "signs_of" 1 ["word"] (spSignsOf K) := ⟨⟨f10, _, ok_signs_of F10 T, b10, PySem.W.mg_of X G a10, k10⟩⟩
 have V11 : Mkr l.prog w K mg base "Bits" Qh 3 ["self", "text"] (spBitsInit K Qh) := ⟨⟨f11, _, J8 F11 T Wa V7 V9, b11, ⟨mk_Bits, a11, i11, kc_Bits⟩, PySem.W.mg_of X G a_Bits⟩⟩
 have V12 : Mth l.prog w K mg base Qh "size" 1 ["self"] (spBitsSize K Qh) := ⟨⟨f12, _, J9 F12 T Wa, b12, ⟨a12, i12, k12⟩⟩, Wa.cl⟩
 have V13 : Mth l.prog w K mg base Qh "words" 1 ["self"] (spBitsWords K Qh) := ⟨⟨f13, _, J2 F13 T Wa, b13, ⟨a13, i13, k13⟩⟩, Wa.cl⟩
 have V14 : MthE l.prog w K mg base Qh "stretch" 5 ["self", "low", "high"] (spStretch K Qh Qe) := ⟨⟨f14, _, Jj F14 T Wa V5 V10, b14, ⟨a14, i14, k14⟩⟩, Wa.cl⟩
 have V15 : Cal l.prog w K mg base "running_sums" 1 ["numbers"] spRun := ⟨⟨f15, _, ok_running_sums F15 T, b15, PySem.W.mg_of X G a15, k15⟩⟩
 have V16 : Cal l.prog w K mg base "table_of_words" 2 ["words"] (spTable K) := ⟨⟨f16, _, ok_table_of_words F16 T V6 V15, b16, PySem.W.mg_of X G a16, k16⟩⟩
 have V17 : Mkr l.prog w K mg base "Counts" Qf 3 ["self", "bits"] (spCountsInit K Qh Qf) := ⟨⟨f17, _, Jv F17 T Wm V12 V13 V16, b17, ⟨mk_Counts, a17, i17, kc_Counts⟩, PySem.W.mg_of X G a_Counts⟩⟩
 have V18 : Mth l.prog w K mg base Qf "ones_ahead" 2 ["self", "place"] (spOnesAhead K Qf) := ⟨⟨f18, _, Yk F18 T Wm V6, b18, ⟨a18, i18, k18⟩⟩, Wm.cl⟩
 have V19 : MthE l.prog w K mg base Qf "ahead" 4 ["self", "bit", "place"] (spAhead K Qf Qi Qe) := ⟨⟨f19, _, Jk F19 T Wm V3 V4 V18, b19, ⟨a19, i19, k19⟩⟩, Wm.cl⟩
 have V20 : Cal l.prog w K mg base "heights_of" 1 ["text", "begin"] spHeightsB := ⟨⟨f20, _, ok_heights_of F20 T, b20, PySem.W.mg_of X G a20, k20⟩⟩
 have V21 : CalE l.prog w K mg base "check_row" 3 ["text"] (spCheck8 K Qg) := ⟨⟨f21, _, ok_check_row F21 T V0, b21, PySem.W.mg_of X G a21, k21⟩⟩
 have V22 : CalC l.prog w K mg base "Heights" "__init__" 1 ["self", "length", "table", "often_least"] (spHInit K Qa) := ⟨⟨W4, f22, _, Jl F22 T Qj, b22, PySem.W.mg_of X G a_Heights, bg_Heights, br_Heights, a22, k22⟩⟩
 have V23 : Mth l.prog w K mg base Qa "opens_ahead" 5 ["self", "place"] (spOpens K Qf Qa) := ⟨⟨f23, _, Yl F23 T Qj V19, b23, ⟨a23, i23, k23⟩⟩, Qj.cl⟩
 have V24 : Mth l.prog w K mg base Qa "height" 6 ["self", "place"] (spHeight K Qf Qa) := ⟨⟨f24, _, Y4 F24 T Qj V23, b24, ⟨a24, i24, k24⟩⟩, Qj.cl⟩
 have V25 : Mth l.prog w K mg base Qa "stretch" 6 ["self", "low", "high"] (spPStretch K Qh Qa) := ⟨⟨f25, _, Jc F25 T Qj V14, b25, ⟨a25, i25, k25⟩⟩, Qj.cl⟩
 have V26 : Mth l.prog w K mg base Qa "size" 1 ["self"] (spPSize K Qh Qf Qa) := ⟨⟨f26, _, Jm F26 T Qj, b26, ⟨a26, i26, k26⟩⟩, Qj.cl⟩
 have V27 : Mth l.prog w K mg base Qa "text" 7 ["self"] (spPText K Qh Qf Qa) := ⟨⟨f27, _, Jn F27 T Qj V25, b27, ⟨a27, i27, k27⟩⟩, Qj.cl⟩
 have V28 : MkrE l.prog w K mg base "Pairs" Qa 7 ["self", "text"] (spPInit K Qh Qf Qa Qg) := ⟨⟨f28, _, J4 F28 T Qj V21 V11 V17 V24 V20 V22, b28, ⟨mk_Pairs, a28, i28, kc_Pairs⟩, PySem.W.mg_of X G a_Pairs⟩⟩
 have V29 : Mth l.prog w K mg base Qa "table" 1 ["self"] (spPTable K Qh Qf Qa) := ⟨⟨f29, _, Jw F29 T Qj, b29, ⟨a29, i29, k29⟩⟩, Qj.cl⟩
 have V30 : Mth l.prog w K mg base Qa "stretch_at" 1 ["self", "place"] spStretchAt := ⟨⟨f30, _, Yu F30 T Qj, b30, ⟨a30, i30, k30⟩⟩, Qj.cl⟩
 have V31 : Mth l.prog w K mg base Qa "begin_of" 1 ["self", "number"] (spBeginOf K Qh Qf Qa) := ⟨⟨f31, _, Y6 F31 T Qj, b31, ⟨a31, i31, k31⟩⟩, Qj.cl⟩
 have V32 : Mth l.prog w K mg base Qa "parts" 2 ["self", "low", "high"] (spParts K Qh Qf Qa) := ⟨⟨f32, _, Ja F32 T Qj V30 V31, b32, ⟨a32, i32, k32⟩⟩, Qj.cl⟩
 have V33 : Mth l.prog w K mg base Qa "may_meet" 2 ["self", "low", "height"] (spMayMeet K Qh Qf Qa) := ⟨⟨f33, _, Ys F33 T Qj V30, b33, ⟨a33, i33, k33⟩⟩, Qj.cl⟩
 have V34 : Mth l.prog w K mg base Qa "heights_within" 7 ["self", "low", "high"] (spHWithin K Qh Qf Qa) := ⟨⟨f34, _, W5 F34 T Qj V20 V25 V24, b34, ⟨a34, i34, k34⟩⟩, Qj.cl⟩
 have V35 : Mth l.prog w K mg base Qa "next_within" 8 ["self", "low", "high", "height"] (spNextW K Qh Qf Qa) := ⟨⟨f35, _, Yg F35 T Qj V34, b35, ⟨a35, i35, k35⟩⟩, Qj.cl⟩
 have V36 : Mth l.prog w K mg base Qa "last_within" 8 ["self", "low", "high", "height"] (spLastW K Qh Qf Qa) := ⟨⟨f36, _, Ye F36 T Qj V34, b36, ⟨a36, i36, k36⟩⟩, Qj.cl⟩
 have V37 : CalE l.prog w K mg base "check_height" 3 ["height"] (spCheckH K Qe) := ⟨⟨f37, _, ok_check_height F37 T V1, b37, PySem.W.mg_of X G a37, k37⟩⟩
 have V38 : Mth l.prog w K mg base Qa "next_at" 9 ["self", "place", "height"] (spNextAt K Qh Qf Qa) := ⟨⟨f38, _, Y0 F38 T Qj V4 V37 V32 V33 V35, b38, ⟨a38, i38, k38⟩⟩, Qj.cl⟩
 have V39 : Mth l.prog w K mg base Qa "last_at" 9 ["self", "place", "height"] (spLastAt K Qh Qf Qa) := ⟨⟨f39, _, Yz F39 T Qj V4 V37 V32 V33 V36, b39, ⟨a39, i39, k39⟩⟩, Qj.cl⟩
 have V40 : MthE l.prog w K mg base Qh "bit" 4 ["self", "place"] (spBit K Qh Qe) := ⟨⟨f40, _, Qad F40 T Wa V4, b40, ⟨a40, i40, k40⟩⟩, Wa.cl⟩
 have V41 : Mth l.prog w K mg base Qa "is_opening" 5 ["self", "place"] (spIsOpen K Qh Qf Qa) := ⟨⟨f41, _, Yt F41 T Qj V40, b41, ⟨a41, i41, k41⟩⟩, Qj.cl⟩
 have V42 : Mth l.prog w K mg base Qa "partner" 10 ["self", "place"] (spPartner K Qh Qf Qa) := ⟨⟨f42, _, Y1 F42 T Qj V41 V38 V24 V39, b42, ⟨a42, i42, k42⟩⟩, Qj.cl⟩
 have V43 : Mth l.prog w K mg base Qa "depth" 7 ["self", "place"] (spDepthP K Qh Qf Qa) := ⟨⟨f43, _, Y9 F43 T Qj V41 V24, b43, ⟨a43, i43, k43⟩⟩, Qj.cl⟩
 have V44 : Mth l.prog w K mg base Qa "round" 10 ["self", "place"] (spRound K Qh Qf Qa) := ⟨⟨f44, _, Jb F44 T Qj V43 V39, b44, ⟨a44, i44, k44⟩⟩, Qj.cl⟩
 have V45 : Mth l.prog w K mg base Qa "is_stretch" 2 ["self", "low", "high"] (spIsStr K Qh Qf Qa) := ⟨⟨f45, _, Yi F45 T Qj V30 V31, b45, ⟨a45, i45, k45⟩⟩, Qj.cl⟩
 have V46 : Mth l.prog w K mg base Qa "least_within" 8 ["self", "low", "high"] (spLeastW K Qh Qf Qa) := ⟨⟨f46, _, W9 F46 T Qj V45 V30 V34, b46, ⟨a46, i46, k46⟩⟩, Qj.cl⟩
 have V47 : Mth l.prog w K mg base Qa "lowest" 10 ["self", "low", "high"] (spLowest K Qh Qf Qa) := ⟨⟨f47, _, Y5 F47 T Qj V5 V24 V46 V32 V38, b47, ⟨a47, i47, k47⟩⟩, Qj.cl⟩
 have V48 : Cal l.prog w K mg base "_law_cell_at" 1 ["_law_script", "_law_k"] (spCell K) := ⟨⟨f48, _, ok_law_cell_at F48 T, b48, PySem.W.mg_of X G a48, k48⟩⟩
 have V49 : Cal l.prog w K mg base "_law_mixed" 1 ["_law_cell", "_law_k"] spMixed := ⟨⟨f49, _, ok_law_mixed F49 T, b49, PySem.W.mg_of X G a49, k49⟩⟩
 have V50 : Cal l.prog w K mg base "_law_elders" 2 ["_law_cell", "_law_many"] spElders := ⟨⟨f50, _, ok_law_elders F50 T V49, b50, PySem.W.mg_of X G a50, k50⟩⟩
 have V51 : Cal l.prog w K mg base "_law_row" 1 ["_law_elders_here"] spRow := ⟨⟨f51, _, ok_law_row F51 T, b51, PySem.W.mg_of X G a51, k51⟩⟩
 have V52 : Cal l.prog w K mg base "_law_is" 1 ["_law_found", "_law_due"] spIs := ⟨⟨f52, _, ok_law_is F52 T, b52, PySem.W.mg_of X G a52, k52⟩⟩
 have V53 : Cal l.prog w K mg base "_law_text" 3 ["_law_script", "_law_at"] (spText21 K) := ⟨⟨f53, _, ok_law_text F53 T V48 V49 V50 V51, b53, PySem.W.mg_of X G a53, k53⟩⟩
 have V54 : Cal l.prog w K mg base "_law_heights" 1 ["_law_text_here"] spHts26 := ⟨⟨f54, _, ok_law_heights F54 T, b54, PySem.W.mg_of X G a54, k54⟩⟩
 have V55 : Cal l.prog w K mg base "_law_right" 9 ["_law_text_here"] (spRight26 K) := ⟨⟨f55, _, ok_law_right F55 T Qj V28 V29 V54 V52, b55, PySem.W.mg_of X G a55, k55⟩⟩
 have V56 : Cal l.prog w K mg base "_law_far" 11 ["_law_text_here", "_law_high"] (spFar26 K) := ⟨⟨f56, _, ok_law_far F56 T Qj V28 V52 V42 V38 V39 V44 V47, b56, PySem.W.mg_of X G a56, k56⟩⟩
 exact ok_law F57 T V55 V53 V49 V48 V56
theorem walk {l : PySem.W.OpenLaw} {q : Program} {loose : List Str} {XP : (Str → Option Value) → Heap → Prop} {YP : World → Heap → Prop} {d : DefRec} {K : Params → PySem.W.Frag} (hn : l.most = some 63) (hdf : d.params.defaults = [])
  (hY : ∀ (w : World) (h : Heap), YP w h → (K w.params).In h)
  (F : ∀ (w : World) (mg : Str → Option Value) (fa : Addr) (h : Heap), (K w.params).In h → h.Ns mainGlobals mg → mg d.name = some (.ref fa) →
   ∃ fd : FuncData, (∀ (s : Shared) (u : Value), BindsTo s fd ⟨[u], []⟩ [("_law_script", u)]) ∧ ∀ base : Heap, (K w.params).In base → base.Ns mainGlobals mg → FnOk l.prog w (K w.params) mg base CX0 12 fa fd ["_law_script"] (spLaw (K w.params))) :
  PySem.W.WalkO q loose XP YP l.row.toRowW d [] (fun f vs => PySem.call f vs) :=
 L2.walk_of (n := 63) (k := 12) (x := "_law_script") (CX := fun _ => CX0) (sp := fun w => spLaw (K w.params)) hn (by decide) hdf ⟨rfl, by decide, by decide⟩ hY F (fun _ _ a ns hl _ hS => ⟨a, ns, rfl, hS, hl, fun _ => rfl⟩) fun _ _ _ _ _ z => z
end TK
noncomputable def PySem.W.Fast.tw11020432635111088478 : PySem.Program := PySem.Challenge.pw_tightwood_k26_tables_of_heights
theorem PySem.W.Fast.te11020432635111088478 : PySem.Challenge.pw_tightwood_k26_tables_of_heights = PySem.W.Fast.tw11020432635111088478 := rfl
def HD.loose : List PySem.Str := [PySem.Str.ofString "_wall", PySem.Str.ofString "WoodError", PySem.Str.ofString "NoBits", PySem.Str.ofString "NoPlace", PySem.Str.ofString "NoRow", PySem.Str.ofString "is_whole", PySem.Str.ofString "is_within", PySem.Str.ofString "check_bit", PySem.Str.ofString "check_place", PySem.Str.ofString "check_stretch", PySem.Str.ofString "WORD_BITS", PySem.Str.ofString "ONES_OF_FOUR", PySem.Str.ofString "ones_in", PySem.Str.ofString "MOST_BITS", PySem.Str.ofString "SIGNS_OF_FOUR", PySem.Str.ofString "is_row", PySem.Str.ofString "word_of", PySem.Str.ofString "words_of", PySem.Str.ofString "signs_of", PySem.Str.ofString "Bits", PySem.Str.ofString "BLOCK_WORDS", PySem.Str.ofString "running_sums", PySem.Str.ofString "table_of_words", PySem.Str.ofString "Counts", PySem.Str.ofString "heights_of", PySem.Str.ofString "check_height", PySem.Str.ofString "Heights", PySem.Str.ofString "MOST_SIGNS", PySem.Str.ofString "STRETCH_BITS", PySem.Str.ofString "check_row", PySem.Str.ofString "Pairs", PySem.Str.ofString "_law_cell_at", PySem.Str.ofString "_law_mixed", PySem.Str.ofString "_law_elders", PySem.Str.ofString "_law_row", PySem.Str.ofString "_law_text", PySem.Str.ofString "_law_heights", PySem.Str.ofString "_law_is", PySem.Str.ofString "_law_right", PySem.Str.ofString "_law_far"]
def HD.LD : PySem.DefRec := HD.recOf (PySem.Challenge.pw_tightwood_k26_tables_of_heights.main.body.getD 48 (.Pass ⟨0, 0, 0, 0⟩))
def HD.VQ : PySem.Program := PySem.W.view PySem.Challenge.pw_tightwood_k26_tables_of_heights [48]
theorem HD.A_ok (w : PySem.World) : (fun os => HD.oneA (HD.bootT w os) (PySem.W.boot_heap w.params) HD.bootSize PySem.Challenge.pw_tightwood_k26_tables_of_heights 100000 w) = (fun _ => some true) := by rw [HD.oneA_eq]; kernel_rfl
theorem HD.B_ok (w : PySem.World) : (fun os => HD.oneB (HD.bootT w os) HD.bootSize PySem.Challenge.pw_tightwood_k26_tables_of_heights HD.VQ HD.loose 100000 w) = (fun _ => some (PySem.W.openGood HD.VQ HD.loose)) := by rw [HD.oneB_eq]; kernel_rfl
local macro_rules | `(tactic| o_head $H) => `(tactic| (refine PySem.W.holds_open (q := HD.VQ) (loose := HD.loose) (d := HD.LD) (kwd := []) (Xt := fun _ => true) (XP := fun _ _ => True) (Yf := PySem.W.Hook.obs $H) (Ya := PySem.W.Hook.val $H) (YP := PySem.W.Hook.says $H) (N := 100000) (HD.left_of3 (p := PySem.Challenge.pw_tightwood_k26_tables_of_heights) (q := HD.VQ) (loose := HD.loose) (Yf := PySem.W.Hook.obs $H) (Ya := PySem.W.Hook.val $H) (N := 100000) (M := 100000) (by kernel_rfl) (fun _ => by kernel_rfl) (by kernel_rfl) (by kernel_rfl) HD.A_ok HD.B_ok (HD.hC_k (fun w => by rw [HD.oneP_eq]; kernel_rfl))) (PySem.W.Hook.of $H) (PySem.W.Hook.keeps $H) (fun _ _ => trivial) (fun _ _ _ _ _ => trivial) (by kernel_rfl) (by kernel_rfl) (by kernel_rfl) (fun _ _ => PySem.W.recFacts_nil rfl) rfl (by assumption) (by decide +kernel) ⟨rfl, rfl, rfl, rfl, rfl, by decide +kernel⟩ ?_ ?_))
open PySem PySem.W PyProof.Rows
set_option maxRecDepth 100000 in
set_option maxHeartbeats 0 in
theorem PySem.Challenge.cw_tightwood_k26_tables_of_heights_holds : PySem.Challenge.rw_tightwood_k26_tables_of_heights.Holds := by
 w_on; o_law; k_head
 ·w_witness2
 k_fill
 refine TK.walk (l := PySem.Challenge.rw_tightwood_k26_tables_of_heights) rfl (by kernel_rfl) (fun w h Y => PySem.W.kIn_of Y) ?F
 case F =>
  intro w mg fa h KX G hmg
  refine' TK.all_mk KX G hmg ?a_Bits ?pg_Bits ?hd_Bits ?po_Bits ?sa_Bits ?mk_Bits ?kc_Bits ?n_Bits_length ?n_Bits_many_ones ?n_Bits_kept_words ?a_Counts ?pg_Counts ?hd_Counts ?po_Counts ?sa_Counts ?mk_Counts ?kc_Counts ?n_Counts_length ?n_Counts_kept_words ?n_Counts_kept_table ?a_Pairs ?pg_Pairs ?hd_Pairs ?po_Pairs ?sa_Pairs ?mk_Pairs ?kc_Pairs ?n_Pairs_bits ?n_Pairs_counts ?n_Pairs_length ?n_Pairs_kept_table ?n_Pairs_often_least ?a_Heights ?bg_Heights ?br_Heights ?i0 ?a0 ?l0 ?c0 ?k0 ?a1 ?l1 ?c1 ?k1 ?a2 ?l2 ?c2 ?k2 ?a3 ?l3 ?c3 ?k3 ?a4 ?l4 ?c4 ?k4 ?a5 ?l5 ?c5 ?k5 ?a6 ?l6 ?c6 ?k6 ?a7 ?l7 ?c7 ?k7 ?a8 ?l8 ?c8 ?k8 ?a9 ?l9 ?c9 ?k9 ?a10 ?l10 ?c10 ?k10 ?i11 ?a11 ?l11 ?c11 ?k11 ?i12 ?a12 ?l12 ?c12 ?k12 ?i13 ?a13 ?l13 ?c13 ?k13 ?i14 ?a14 ?l14 ?c14 ?k14 ?a15 ?l15 ?c15 ?k15 ?a16 ?l16 ?c16 ?k16 ?i17 ?a17 ?l17 ?c17 ?k17 ?i18 ?a18 ?l18 ?c18 ?k18 ?i19 ?a19 ?l19 ?c19 ?k19 ?a20 ?l20 ?c20 ?k20 ?a21 ?l21 ?c21 ?k21 ?i22 ?a22 ?l22 ?c22 ?k22 ?i23 ?a23 ?l23 ?c23 ?k23 ?i24 ?a24 ?l24 ?c24 ?k24 ?i25 ?a25 ?l25 ?c25 ?k25 ?i26 ?a26 ?l26 ?c26 ?k26 ?i27 ?a27 ?l27 ?c27 ?k27 ?i28 ?a28 ?l28 ?c28 ?k28 ?i29 ?a29 ?l29 ?c29 ?k29 ?i30 ?a30 ?l30 ?c30 ?k30 ?i31 ?a31 ?l31 ?c31 ?k31 ?i32 ?a32 ?l32 ?c32 ?k32 ?i33 ?a33 ?l33 ?c33 ?k33 ?i34 ?a34 ?l34 ?c34 ?k34 ?i35 ?a35 ?l35 ?c35 ?k35 ?i36 ?a36 ?l36 ?c36 ?k36 ?a37 ?l37 ?c37 ?k37 ?i38 ?a38 ?l38 ?c38 ?k38 ?i39 ?a39 ?l39 ?c39 ?k39 ?i40 ?a40 ?l40 ?c40 ?k40 ?i41 ?a41 ?l41 ?c41 ?k41 ?i42 ?a42 ?l42 ?c42 ?k42 ?i43 ?a43 ?l43 ?c43 ?k43 ?i44 ?a44 ?l44 ?c44 ?k44 ?i45 ?a45 ?l45 ?c45 ?k45 ?i46 ?a46 ?l46 ?c46 ?k46 ?i47 ?a47 ?l47 ?c47 ?k47 ?a48 ?l48 ?c48 ?k48 ?a49 ?l49 ?c49 ?k49 ?a50 ?l50 ?c50 ?k50 ?a51 ?l51 ?c51 ?k51 ?a52 ?l52 ?c52 ?k52 ?a53 ?l53 ?c53 ?k53 ?a54 ?l54 ?c54 ?k54 ?a55 ?l55 ?c55 ?k55 ?a56 ?l56 ?c56 ?k56 ?a57 ?l57 ?c57 ?k57 ?g_ONES_OF_FOUR ?o1_ONES_OF_FOUR ?o2_ONES_OF_FOUR ?o3_ONES_OF_FOUR ?o4_ONES_OF_FOUR ?o5_ONES_OF_FOUR ?g_SIGNS_OF_FOUR ?o1_SIGNS_OF_FOUR ?o2_SIGNS_OF_FOUR ?o3_SIGNS_OF_FOUR ?o4_SIGNS_OF_FOUR ?o5_SIGNS_OF_FOUR ?g_WORD_BITS ?g_MOST_BITS ?g_BLOCK_WORDS ?g_MOST_SIGNS ?g_STRETCH_BITS ?z_range ?z_len ?z_int ?z_bool ?z_str ?z_isinstance ?z_list ?z_tuple ?z_enumerate ?z_zip ?z_sum ?z_abs ?z_max ?z_min ?z_dict ?z_reversed ?z_ValueError ?eg_WoodError ?eg_NoBits ?eg_NoPlace ?eg_NoRow ?ex_WoodError ?bg_WoodError ?br_WoodError ?bi_WoodError ?ex_NoBits ?ga_NoBits ?gx_NoBits ?ca_NoBits ?sp_NoBits ?tk_NoBits ?mo_NoBits ?mb_NoBits ?em_NoBits ?ex_NoPlace ?ga_NoPlace ?gx_NoPlace ?ca_NoPlace ?sp_NoPlace ?tk_NoPlace ?mo_NoPlace ?mb_NoPlace ?em_NoPlace ?sa_NoRow ?pl_NoRow ?ga_NoRow ?gx_NoRow ?ca_NoRow ?sp_NoRow ?tk_NoRow ?mo_NoRow ?mb_NoRow ?em_NoRow ?em2_NoRow ?ob_NoRow
  (case eg_WoodError|eg_NoBits|eg_NoPlace|eg_NoRow|a_Bits|pg_Bits|hd_Bits|po_Bits|sa_Bits|mk_Bits|kc_Bits|n_Bits_length|n_Bits_many_ones|n_Bits_kept_words|a_Counts|pg_Counts|hd_Counts|po_Counts|sa_Counts|mk_Counts|kc_Counts|n_Counts_length|n_Counts_kept_words|n_Counts_kept_table|a_Pairs|pg_Pairs|hd_Pairs|po_Pairs|sa_Pairs|mk_Pairs|kc_Pairs|n_Pairs_bits|n_Pairs_counts|n_Pairs_length|n_Pairs_kept_table|n_Pairs_often_least|a_Heights|bg_Heights|br_Heights|a0|l0|c0|k0|i0|a1|l1|c1|k1|a2|l2|c2|k2|a3|l3|c3|k3|a4|l4|c4|k4|a5|l5|c5|k5|a6|l6|c6|k6|a7|l7|c7|k7|a8|l8|c8|k8|a9|l9|c9|k9|a10|l10|c10|k10|a11|l11|c11|k11|i11|a12|l12|c12|k12|i12|a13|l13|c13|k13|i13|a14|l14|c14|k14|i14|a15|l15|c15|k15|a16|l16|c16|k16|a17|l17|c17|k17|i17|a18|l18|c18|k18|i18|a19|l19|c19|k19|i19|a20|l20|c20|k20|a21|l21|c21|k21|a22|l22|c22|k22|i22|a23|l23|c23|k23|i23|a24|l24|c24|k24|i24|a25|l25|c25|k25|i25|a26|l26|c26|k26|i26|a27|l27|c27|k27|i27|a28|l28|c28|k28|i28|a29|l29|c29|k29|i29|a30|l30|c30|k30|i30|a31|l31|c31|k31|i31|a32|l32|c32|k32|i32|a33|l33|c33|k33|i33|a34|l34|c34|k34|i34|a35|l35|c35|k35|i35|a36|l36|c36|k36|i36|a37|l37|c37|k37|a38|l38|c38|k38|i38|a39|l39|c39|k39|i39|a40|l40|c40|k40|i40|a41|l41|c41|k41|i41|a42|l42|c42|k42|i42|a43|l43|c43|k43|i43|a44|l44|c44|k44|i44|a45|l45|c45|k45|i45|a46|l46|c46|k46|i46|a47|l47|c47|k47|i47|a48|l48|c48|k48|a49|l49|c49|k49|a50|l50|c50|k50|a51|l51|c51|k51|a52|l52|c52|k52|a53|l53|c53|k53|a54|l54|c54|k54|a55|l55|c55|k55|a56|l56|c56|k56|a57|l57|c57|k57|g_ONES_OF_FOUR|o1_ONES_OF_FOUR => k_is)
  (case o2_ONES_OF_FOUR => rfl); (case o3_ONES_OF_FOUR => rfl); (case o4_ONES_OF_FOUR => decide); (case o5_ONES_OF_FOUR => repeat (first | exact .nil | refine .cons ⟨_, rfl⟩ ?_))
  (case g_SIGNS_OF_FOUR|o1_SIGNS_OF_FOUR => k_is)
  (case o2_SIGNS_OF_FOUR => rfl); (case o3_SIGNS_OF_FOUR => rfl); (case o4_SIGNS_OF_FOUR => decide); (case o5_SIGNS_OF_FOUR => repeat (first | exact .nil | refine .cons ⟨_, rfl⟩ ?_))
  (case g_WORD_BITS|g_MOST_BITS|g_BLOCK_WORDS|g_MOST_SIGNS|g_STRETCH_BITS|z_range|z_len|z_int|z_bool|z_str|z_isinstance|z_list|z_tuple|z_enumerate|z_zip|z_sum|z_abs|z_max|z_min|z_dict|z_reversed|z_ValueError => k_is)
  (case ex_WoodError => k_exc)
  (case bg_WoodError|br_WoodError|bi_WoodError => k_is)
  (case ex_NoBits => k_exc)
  (case ga_NoBits|gx_NoBits|ca_NoBits|sp_NoBits|tk_NoBits|mo_NoBits|mb_NoBits => k_is)
  (case em_NoBits => kts_exm)
  (case ex_NoPlace => k_exc)
  (case ga_NoPlace|gx_NoPlace|ca_NoPlace|sp_NoPlace|tk_NoPlace|mo_NoPlace|mb_NoPlace => k_is)
  (case em_NoPlace => kts_exm)
  (case sa_NoRow|pl_NoRow|ga_NoRow|gx_NoRow|ca_NoRow|sp_NoRow|tk_NoRow|mo_NoRow|mb_NoRow => k_is)
  (case em_NoRow => kts_exm)
  (case em2_NoRow => kts_exm)
  (case ob_NoRow => k_is)
#print axioms PySem.Challenge.cw_tightwood_k26_tables_of_heights_holds
