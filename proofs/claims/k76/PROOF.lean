import PyProof.Rows.All
import Wide.All
import OpenK.AllK
import Wide.FinOn
import Lean
import PyProof.EqAt
import PyProof.EqKinds
import PyProof.TupleCall
import KE.KDictOf
import KE.KLam
import KE.KNest
import KE.KNestM
import KE.KRevIter
import KE.KSortKey
import KE.KSortTup
import KE.KTryMore
import OpenK.KCls
import PyProof.AttrMissHeap
import PyProof.Draws
import PyProof.EnumMake
import PyProof.EnumStmt
import PyProof.InstStoreFacts
import PyProof.ListNew
import PyProof.ListRange
import PyProof.ObjNew
import PyProof.Rows.Range3
import PyProof.SliceList
import PyProof.StrBlockL
import PyProof.StrLawsChain
import PyProof.StrLawsIn
import PyProof.WalksEnum
import PyProof.ZipIter
import PySem.Challenge.RW_tightwood_k76_pieces_that_stay
set_option Elab.async false
set_option linter.all false
set_option maxRecDepth 100000
set_option maxHeartbeats 4000000
local macro_rules | `(tactic| omega) => `(tactic| first | lia | omega (splitDisjunctions := true))
open PySem.W (instObj lookIn emptyDict kitOne kia_one callWith_K CodeHd kla_obj km_in_of mg_none_of)
namespace L2
open PySem PySem.Spec PyProof.Rows
abbrev Key:=Sum Int Str
def oX:Key->Value->Bool
 | .inl k,v=>Value.isInt k v
 | .inr x,v=>Value.isStrOf x v
def uC (w:World):Key->Int
 | .inl k=>hashInt k
 | .inr x=>hashStr w x
theorem Ct:∀ {k:Key} {v:Value},oX k v=true->(∃ i t,k=Sum.inl i/\v=Value.int i t)\/(∃ x t,k=Sum.inr x/\v=Value.str x t)
 | .inl i,v,h=>by
  obtain ⟨t,e⟩:=Value.isInt_shape (k:=i) (v:=v) h
  exact .inl ⟨i,t,rfl,e⟩
 | .inr x,v,h=>by
  obtain ⟨t,e⟩:=Value.isStrOf_shape (x:=x) (v:=v) h
  exact .inr ⟨x,t,rfl,e⟩
theorem pJ (a b:Int):decide ((Sum.inl a:Key)=Sum.inl b)=(a==b):=by
 by_cases e:a=b
 ·subst e;simp
 ·have h:¬ (Sum.inl a:Key)=Sum.inl b:=fun q=>e (Sum.inl.inj q)
  rw [decide_eq_false h]
  exact (beq_eq_false_iff_ne.mpr e).symm
theorem pX (a b:Str):decide ((Sum.inr a:Key)=Sum.inr b)=decide (a=b):=by
 by_cases e:a=b
 ·subst e;simp
 ·have h:¬ (Sum.inr a:Key)=Sum.inr b:=fun q=>e (Sum.inr.inj q)
  rw [decide_eq_false h,decide_eq_false e]
theorem qL (a:Int)(b:Str):decide ((Sum.inl a:Key)=Sum.inr b)=false:=decide_eq_false (fun q=>nomatch q)
theorem qE (a:Str)(b:Int):decide ((Sum.inr a:Key)=Sum.inl b)=false:=decide_eq_false (fun q=>nomatch q)
def dL (prog:Program)(w:World):PySem.KeyKind prog w Key where
 is:=oX
 hash:=uC w
 inj:=fun v a b ha hb=>by
  rcases Ct ha with ⟨i,t,rfl,rfl⟩ | ⟨x,t,rfl,rfl⟩
  ·rcases Ct hb with ⟨j,u,rfl,e⟩ | ⟨y,u,rfl,e⟩
   ·injection e with e1 _;rw [e1]
   ·exact nomatch e
  ·rcases Ct hb with ⟨j,u,rfl,e⟩ | ⟨y,u,rfl,e⟩
   ·exact nomatch e
   ·injection e with e1 _;rw [e1]
 byValue:=fun k v h=>by
  rcases Ct h with ⟨i,t,rfl,rfl⟩ | ⟨x,t,rfl,rfl⟩<;>rfl
 pyHash:=fun hv h=>by
  rcases Ct hv with ⟨i,t,rfl,rfl⟩ | ⟨x,t,rfl,rfl⟩
  ·exact wpAny_pyHash_int h
  ·exact wpAny_pyHash_str h
 eqBool:=fun hu hv h=>by
  rcases Ct hu with ⟨i,t,rfl,rfl⟩ | ⟨x,t,rfl,rfl⟩
  ·rcases Ct hv with ⟨j,u,rfl,rfl⟩ | ⟨y,u,rfl,rfl⟩
   ·rw [pJ] at h;exact wpAny_eqBool_int h
   ·rw [qL] at h;exact SeqAt.EqAt.int_str i t y u _ _ _ _ h
  ·rcases Ct hv with ⟨j,u,rfl,rfl⟩ | ⟨y,u,rfl,rfl⟩
   ·rw [qE] at h;exact SeqAt.EqAt.str_int x t j u _ _ _ _ h
   ·rw [pX] at h;exact wpAny_eqBool_str h
 «strs»:=fun k x t v h=>by
  rcases Ct h with ⟨i,u,rfl,e⟩ | ⟨y,u,rfl,e⟩
  ·exact nomatch e
  ·injection e with e1 _
   subst e1
   cases v<;>rfl
inductive V where
 | non | bl (b:Bool) | int (i:Int) | str (x:Str) | byt (b:Array UInt8) | flt (b:UInt64) | ref (a:Addr) | ty (n:String)
 deriving DecidableEq
def B1:V->Value->Prop
 | .non,u=>u=Value.none
 | .bl b,u=>u=Value.bool b
 | .int i,u=>∃ t,u=Value.int i t
 | .str x,u=>∃ t,u=Value.str x t
 | .byt b,u=>∃ t,u=Value.bytes b t
 | .flt b,u=>∃ t,u=Value.float b t
 | .ref a,u=>u=Value.ref a
 | .ty n,u=>u=Value.type n
abbrev Bi:List V->List Value->Prop:=Paired B1
theorem Bi.length {xs:List V}{us:List Value}(r:Bi xs us):xs.length=us.length:=Paired.length r
theorem Bi.get:∀ {xs:List V} {us:List Value} {i:Nat} {x:V},Bi xs us->xs[i]?=some x->∃ u,us[i]?=some u/\B1 x u
 | _,_,_,_,.nil,e=>by simp at e
 | _,_,0,_,.cons r _,e=>by simp at e;subst e;exact ⟨_,rfl,r⟩
 | _,_,i+1,x,.cons _ t,e=>by
  obtain ⟨u,h1,h2⟩:=Bi.get (i:=i) (x:=x) t (by simpa using e)
  exact ⟨u,by simpa using h1,h2⟩
theorem Bi.append:∀ {xs ys:List V} {us ws:List Value},Bi xs us->Bi ys ws->Bi (xs++ys) (us++ws)
 | _,_,_,_,.nil,s=>s
 | _,_,_,_,.cons r t,s=>.cons r (Bi.append t s)
theorem Bi.take:∀ {xs:List V} {us:List Value} (n:Nat),Bi xs us->Bi (xs.take n) (us.take n)
 | _,_,0,_=>.nil
 | _,_,_+1,.nil=>.nil
 | _,_,n+1,.cons r t=>.cons r (Bi.take n t)
theorem Bi.drop:∀ {xs:List V} {us:List Value} (n:Nat),Bi xs us->Bi (xs.drop n) (us.drop n)
 | _,_,0,r=>r
 | _,_,_+1,.nil=>.nil
 | _,_,n+1,.cons _ t=>Bi.drop n t
def Tg:Option V->Option Value->Prop
 | some v,some u=>B1 v u
 | none,none=>True
 | _,_=>False
def KV {κ:Type}:List (κ×V)->List (κ×Value)->Prop:=Paired fun (p:κ×V) (q:κ×Value)=>p.1=q.1/\B1 p.2 q.2
def kV:Key->V
 | .inl i=>.int i
 | .inr x=>.str x
inductive HO where
  | lst (xs:List V)
  | tup (xs:List V)
  | dK (kvs:List (Key×V)) | dT (kvs:List (List Key×V))
  | set (S:Int->Bool) (n:Nat)
  | ins (C dx:Addr) (fs:List (Str×V))
  | own (x:Addr)
  | xd (fs:List (Str×V))
  | met (f x:Addr)
  | rng (lo hi:Int)
  | frz (o:Obj) (u:HO)
  | tbl (ps:Array Value)
  | ext (φ:Heap->Prop)
abbrev Hp:=Addr->Option HO
def upd (H:Hp)(a:Addr)(o:HO):Hp:=fun b=>if b=a then some o else H b
theorem Ae {H:Hp}{a:Addr}{o:HO}:upd H a o a=some o:=by unfold upd;rw [if_pos rfl]
theorem Aw {H:Hp}{a b:Addr}{o:HO}(h:b≠a):upd H a o b=H b:=by unfold upd;rw [if_neg h]
theorem Ws {H:Hp}{a:Addr}{o u:HO}:upd (upd H a o) a u=upd H a u:=by
 funext b;unfold upd;split<;>rfl
theorem Lc {H:Hp}{a b:Addr}{o u:HO}(h:H a=some o)(h':H b=some u)(d:o≠u):a≠b:=by
 intro e;subst e;rw [h] at h';exact d (Option.some.inj h')
theorem Ap {H:Hp}{a b:Addr}{o:HO}(h:H a=some o)(h':H b=none):a≠b:=by
 intro e;subst e;rw [h] at h';cases h'
section
variable (P:Program) (w:World)
def Eu (H:Hp)(h:Heap)(a:Addr):HO->Prop
 | .lst xs=>xs.length<=sizeLine/\∃ (its:List Value) (n:Nat),Bi xs its/\h.get? a=some { cls:=.type "list",data:=.seq its.toArray n }
 | .tup xs=>xs.length<=sizeLine/\∃ its:List Value,Bi xs its/\IsTup h a its.toArray
 | .dK kvs=>kvs.length<=sizeLine/\(a==sysModules)=false/\∃ vs,KV kvs vs/\h.DictOf (dL P w) a vs
 | .dT kvs=>kvs.length<=sizeLine/\(a==sysModules)=false/\∃ xs:List (List Key×Addr×Value),
   Paired (fun (p:List Key×V) (q:List Key×Addr×Value)=>p.1=q.1/\H q.2.1=some (.tup (p.1.map kV))/\B1 p.2 q.2.2) kvs xs /\
   ∃ o es ep,h.get? a=some o/\o.ExactDict/\o.data=.dict es ep/\es.toList=xs.map (entryOfKey (tupleKind (dL P w)))/\(xs.map (·.1)).Nodup
 | .set S n=>h.SetOf (intKind P w) a S n
 | .ins C dx fs=>H dx=some (.own a)/\fs.length<=1000/\dx≠a/\h.get? a=some (instObj C dx) /\
   ∃ mA,h.Ns1 dx mA/\(∀ f,Tg (fs.lookup f) (mA f))/\PySem.Within mA (fs.map (·.1))
 | .own _=>∃ o,h.get? a=some o
 | .xd fs=>∃ mA,h.Ns1 a mA/\∀ f,Tg (fs.lookup f) (mA f)
 | .rng lo hi=>∃ t u v,h.get? a=some { cls:=.type "range",data:=.fields #[.int lo t,.int hi u,.int 1 v] }
 | .frz o u=>h.get? a=some o/\Eu H h a u
 | .tbl ps=>h.get? a=some { cls:=.none,data:=.fields ps }
 | .met f x=>h.get? a=some (PySem.W.methodObj (.ref f) (.ref x))
 | .ext φ=>φ h/\(∃ o,h.get? a=some o)/\∀ h1 h2:Heap,φ h1->(∀ o,h1.get? a=some o->h2.get? a=some o)->φ h2
def HOk (H:Hp)(h:Heap):Prop:=∀ a o,H a=some o->Eu P w H h a o
end
section
variable {P:Program} {w:World} {H H':Hp} {h h':Heap} {a:Addr} {o:HO}
theorem Eu.lt (x:Eu P w H h a o):a<h.objs.size:=by
 cases o with
 | lst xs=>obtain ⟨_,_,_,_,e⟩:=x;exact Heap.lt_size e
 | tup xs=>obtain ⟨_,_,_,p⟩:=x;exact p.lt
 | dK kvs=>obtain ⟨_,_,_,_,o,_,_,e,_⟩:=x;exact Heap.lt_size e
 | dT kvs=>obtain ⟨_,_,_,_,o,_,_,e,_⟩:=x;exact Heap.lt_size e
 | set S n=>obtain ⟨o,_,_,_,e,_⟩:=x;exact Heap.lt_size e
 | ins C dx fs=>obtain ⟨_,_,_,e,_⟩:=x;exact Heap.lt_size e
 | own y=>obtain ⟨_,e⟩:=x;exact Heap.lt_size e
 | xd fs=>obtain ⟨_,⟨_,_,_,e,_⟩,_⟩:=x;exact Heap.lt_size e
 | rng lo hi=>obtain ⟨_,_,_,e⟩:=x;exact Heap.lt_size e
 | frz ob u=>obtain ⟨e,_⟩:=x;exact Heap.lt_size e
 | tbl ps=>exact Heap.lt_size (show h.get? a=some _ from x)
 | met f y=>exact Heap.lt_size (show h.get? a=some _ from x)
 | ext φ=>obtain ⟨_,⟨_,e⟩,_⟩:=x;exact Heap.lt_size e
theorem Paired.mapP {α β:Type}{F G:α->β->Prop}:∀ {l₁:List α} {l₂:List β},Paired F l₁ l₂->(∀ a b,F a b->G a b)->Paired G l₁ l₂
 | _,_,.nil,_=>.nil
 | _,_,.cons r t,f=>.cons (f _ _ r) (Paired.mapP t f)
theorem Eu.stay (x:Eu P w H h a o)(k:∀ b u,(b=a\/H b=some (.own a))->h.get? b=some u->h'.get? b=some u)
  (ho:∀ b,H b=some (.own a)->H' b=some (.own a))(ht:∀ b xs,H b=some (.tup xs)->H' b=some (.tup xs)):Eu P w H' h' a o:=by
 induction o with
 | lst xs=>obtain ⟨z,its,n,r,e⟩:=x;exact ⟨z,its,n,r,k _ _ (.inl rfl) e⟩
 | tup xs=>obtain ⟨z,its,r,ob,e,c⟩:=x;exact ⟨z,its,r,ob,k _ _ (.inl rfl) e,c⟩
 | dK kvs=>obtain ⟨z,y,vs,r,ob,es,ep,e,c⟩:=x;exact ⟨z,y,vs,r,ob,es,ep,k _ _ (.inl rfl) e,c⟩
 | dT kvs =>
  obtain ⟨z,y,xs,r,ob,es,ep,e,c⟩:=x
  exact ⟨z,y,xs,Paired.mapP r fun p q z=>⟨z.1,ht _ _ z.2.1,z.2.2⟩,ob,es,ep,k _ _ (.inl rfl) e,c⟩
 | set S n=>obtain ⟨ob,es,ep,t,e,c⟩:=x;exact ⟨ob,es,ep,t,k _ _ (.inl rfl) e,c⟩
 | ins C dx fs =>
  obtain ⟨d,z,ne,e,mA,⟨od,es,ep,e2,c⟩,r⟩:=x
  exact ⟨ho _ d,z,ne,k _ _ (.inl rfl) e,mA,⟨od,es,ep,k _ _ (.inr d) e2,c⟩,r⟩
 | own y=>obtain ⟨ob,e⟩:=x;exact ⟨ob,k _ _ (.inl rfl) e⟩
 | xd fs=>obtain ⟨mA,⟨od,es,ep,e,c⟩,r⟩:=x;exact ⟨mA,⟨od,es,ep,k _ _ (.inl rfl) e,c⟩,r⟩
 | rng lo hi=>obtain ⟨t,u,v,e⟩:=x;exact ⟨t,u,v,k _ _ (.inl rfl) e⟩
 | frz ob u ih=>obtain ⟨e,q⟩:=x;exact ⟨k _ _ (.inl rfl) e,ih q⟩
 | tbl ps =>
  have e:h.get? a=some { cls:=.none,data:=.fields ps }:=x
  show h'.get? a=some { cls:=.none,data:=.fields ps }
  exact k a _ (.inl rfl) e
 | met f y =>
  have e:h.get? a=some (PySem.W.methodObj (.ref f) (.ref y)):=x
  show h'.get? a=some (PySem.W.methodObj (.ref f) (.ref y))
  exact k a _ (.inl rfl) e
 | ext φ=>obtain ⟨p,⟨o,e⟩,st⟩:=x;exact ⟨st _ _ p fun o q=>k _ _ (.inl rfl) q,⟨o,k _ _ (.inl rfl) e⟩,st⟩
theorem HOk.lt (x:HOk P w H h)(e:H a=some o):a<h.objs.size:=(x a o e).lt
theorem HOk.fresh (x:HOk P w H h)(e:h.objs.size<=a):H a=none:=by
 cases q:H a with
 | none=>rfl
 | some u=>exact absurd (Nat.lt_of_lt_of_le (x.lt q) e) (Nat.lt_irrefl _)
theorem HOk.kept (x:HOk P w H h)(k:∀ b u,h.get? b=some u->h'.get? b=some u):HOk P w H h':=fun a o e =>
 (x a o e).stay (fun b u _ q=>k b u q) (fun _ q=>q) fun _ _ q=>q
theorem HOk.laid (x:HOk P w H h)(k:∀ b u,h.get? b=some u->h'.get? b=some u)(hp:h.objs.size<=a)(new:Eu P w (upd H a o) h' a o):HOk P w (upd H a o) h':=fun b u e=>by
 have hn:=x.fresh hp
 by_cases hb:b=a
 ·subst hb;rw [Ae] at e;cases e;exact new
 ·rw [Aw hb] at e
  exact (x b u e).stay (fun c v _ q=>k c v q) (fun c q=>by rw [Aw (Ap q hn)];exact q) fun c xs q=>by rw [Aw (Ap q hn)];exact q
end
def Rd (H:Hp)(a:Addr)(u:HO):Prop:=H a=some u\/∃ o,H a=some (.frz o u)
theorem Rd.ok {P:Program}{w:World}{H:Hp}{h:Heap}{a:Addr}{u:HO}(r:Rd H a u)(x:HOk P w H h):Eu P w H h a u:=by
 rcases r with r | ⟨o,r⟩
 ·exact x a u r
 ·obtain ⟨_,q⟩:=x a _ r
  exact q
def Mut:Option HO->Prop
 | some (.lst _)=>True
 | some (.dK _)=>True
 | some (.dT _)=>True
 | some (.set _ _)=>True
 | some (.ins _ _ _)=>True
 | some (.ext _)=>True
 | _=>False
section
variable {P:Program} {w:World} {H:Hp} {h h':Heap} {x e:Addr} {o':HO}
theorem HOk.write (ok:HOk P w H h)(mu:Mut (H x))(he:e=x\/H e=some (.own x))(k:∀ b u,b≠e->h.get? b=some u->h'.get? b=some u)(heo:∃ u,h'.get? e=some u)
  (new:Eu P w (upd H x o') h' x o'):HOk P w (upd H x o') h':=fun b u q=>by
 have nown:∀ c y,H c=some (.own y)->c≠x:=fun c y r z=>by subst z;rw [r] at mu;exact mu
 have ntup:∀ c xs,H c=some (.tup xs)->c≠x:=fun c xs r z=>by subst z;rw [r] at mu;exact mu
 by_cases hb:b=x
 ·subst hb;rw [Ae] at q;cases q;exact new
 ·rw [Aw hb] at q
  by_cases hbe:b=e
  ·have q':H b=some (.own x):=by
    rcases he with z | z
    ·exact absurd (hbe.trans z) hb
    ·rw [hbe];exact z
   rw [q] at q';cases q'
   obtain ⟨v,hv⟩:=heo
   exact ⟨v,by rw [hbe];exact hv⟩
  ·refine (ok b u q).stay (fun c v hc r=>k c v ?_ r) (fun c r=>by rw [Aw (nown c b r)];exact r) fun c xs r=>by rw [Aw (ntup c xs r)];exact r
   rcases hc with rfl | hc
   ·exact hbe
   ·rintro rfl
    rcases he with z | z
    ·exact nown c b hc z
    ·rw [hc] at z;cases z;exact hb rfl
end
structure Un (fs ex:List Addr) (H H':Hp) (h h':Heap):Prop where
 keep:∀ b o,h.get? b=some o->H b=none->b∉fs->b∉ex->h'.get? b=some o
 slot:∀ b o,h.get? b=some o->H b=none->b∈fs->b∉ex->∃ sl,h'.get? b=some { o with slots:=sl }
 free:∀ b o,h.get? b=some o->H b=none->b∉ex->H' b=none
 there:∀ b o,h.get? b=some o->b∉ex->∃ o',h'.get? b=some o'
 tups:∀ b xs,H b=some (.tup xs)->H' b=some (.tup xs)
 frzs:∀ b o u,H b=some (.frz o u)->H' b=some (.frz o u)
 tbls:∀ b ps,H b=some (.tbl ps)->∃ more,H' b=some (.tbl (ps++more))
section
variable {fs fs' ex ex':List Addr} {H H1 H2:Hp} {h h1 h2 h':Heap} {a x e:Addr} {o:HO}
theorem Un.any (u:Un fs ex H H1 h h1){b:Addr}{ob:Obj}(q:h.get? b=some ob)(n:H b=none)(hx:b∉ex):∃ sl,h1.get? b=some { ob with slots:=sl }:=by
 by_cases hb:b∈fs
 ·exact u.slot b ob q n hb hx
 ·exact ⟨ob.slots,u.keep b ob q n hb hx⟩
theorem Un.trans (a:Un fs ex H H1 h h1)(b:Un fs ex H1 H2 h1 h2):Un fs ex H H2 h h2 where
 keep:=fun c ob q n hc hx=>b.keep c ob (a.keep c ob q n hc hx) (a.free c ob q n hx) hc hx
 slot:=fun c ob q n hc hx=>by
  obtain ⟨sl,e1⟩:=a.slot c ob q n hc hx
  obtain ⟨sl',e2⟩:=b.slot c _ e1 (a.free c ob q n hx) hc hx
  exact ⟨sl',e2⟩
 free:=fun c ob q n hx=>by
  obtain ⟨o',e1⟩:=a.there c ob q hx
  exact b.free c o' e1 (a.free c ob q n hx) hx
 there:=fun c ob q hx=>by
  obtain ⟨o',e1⟩:=a.there c ob q hx
  exact b.there c o' e1 hx
 tups:=fun c xs q=>b.tups c xs (a.tups c xs q)
 frzs:=fun c ob xs q=>b.frzs c ob xs (a.frzs c ob xs q)
 tbls:=fun c ps q=>by
  obtain ⟨m1,e1⟩:=a.tbls c ps q
  obtain ⟨m2,e2⟩:=b.tbls c _ e1
  exact ⟨m1++m2,by rw [e2,Array.append_assoc]⟩
theorem Un.kept (k:∀ b u,h.get? b=some u->h'.get? b=some u):Un fs ex H H h h' :=
 ⟨fun b ob q _ _ _=>k b ob q,fun b ob q _ _ _=>⟨ob.slots,k b ob q⟩,fun _ _ _ n _=>n,fun b ob q _=>⟨ob,k b ob q⟩,fun _ _ q=>q,fun _ _ _ q=>q,fun _ ps q=>⟨#[],by rw [q];simp⟩⟩
theorem Un.refl:Un fs ex H H h h:=Un.kept fun _ _ q=>q
theorem Un.laid (k:∀ b u,h.get? b=some u->h'.get? b=some u)(hp:h.objs.size<=a)(hn:H a=none):Un fs ex H (upd H a o) h h' where
 keep:=fun b u q _ _ _=>k b u q
 slot:=fun b u q _ _ _=>⟨u.slots,k b u q⟩
 free:=fun b u q n _=>by rw [Aw (Nat.ne_of_lt (Nat.lt_of_lt_of_le (Heap.lt_size q) hp))];exact n
 there:=fun b u q _=>⟨u,k b u q⟩
 tups:=fun b xs q=>by rw [Aw (Ap q hn)];exact q
 frzs:=fun b u xs q=>by rw [Aw (Ap q hn)];exact q
 tbls:=fun b ps q=>⟨#[],by rw [Aw (Ap q hn),q];simp⟩
theorem Un.write (mu:Mut (H x))(he:e=x\/H e=some (.own x))(k:∀ b u,b≠e->h.get? b=some u->h'.get? b=some u)(heo:∃ u,h'.get? e=some u):Un fs ex H (upd H x o) h h':=by
 have hx:∀ b,H b=none->b≠x:=fun b n z=>by subst z;rw [n] at mu;exact mu
 have hb:∀ b,H b=none->b≠e:=fun b n z=>by
  subst z
  rcases he with r | r
  ·exact hx b n r
  ·rw [n] at r;cases r
 have hm:∀ b u,H b=some u->¬ Mut (some u)->b≠x:=fun b u q nm z=>by subst z;rw [q] at mu;exact nm mu
 refine ⟨fun b u q n _ _=>k b u (hb b n) q,fun b u q n _ _=>⟨u.slots,k b u (hb b n) q⟩,fun b u q n _=>by rw [Aw (hx b n)];exact n,fun b u q _=>?_,
  fun b xs q=>by rw [Aw (hm b _ q fun z=>z)];exact q,fun b u xs q=>by rw [Aw (hm b _ q fun z=>z)];exact q,fun b ps q=>⟨#[],by rw [Aw (hm b _ q fun z=>z),q];simp⟩⟩
 by_cases hbe:b=e
 ·subst hbe;exact heo
 ·exact ⟨u,k b u hbe q⟩
end
def trk (h:Heap)(H:Hp):List Addr:=(List.range h.objs.size).filter fun a=>(H a).isSome
def Ww (h:Heap)(H:Hp):Heap:=PySem.W.hideAll h (trk h H)
theorem gG (h:Heap)(H:Hp):(Ww h H).objs.size=h.objs.size:=PySem.W.hideAll_size _ _
theorem S2 {h:Heap}{H:Hp}{b:Addr}{o:Obj}(e:h.get? b=some o)(n:H b=none):(Ww h H).get? b=some o :=
 PySem.W.hideAll_get _ e fun hm=>by
  have q:(H b).isSome=true:=(List.mem_filter.mp hm).2
  rw [n] at q;simp at q
theorem nH {h:Heap}{H:Hp}{b:Addr}{o:Obj}(e:(Ww h H).get? b=some o):h.get? b=some o/\H b=none:=by
 have e':h.get? b=some o:=PySem.W.of_hideAll (trk h H) e
 refine ⟨e',?_⟩
 cases q:H b with
 | none=>rfl
 | some x =>
  have hm:b∈trk h H:=List.mem_filter.mpr ⟨List.mem_range.mpr (Heap.lt_size e'),by simp [q]⟩
  have z:(Ww h H).get? b=none:=PySem.W.hideAll_none (trk h H) hm
  rw [z] at e;cases e
structure Mod (K:PySem.W.Frag) (mg:Str->Option Value) (base:Heap):Prop where
 kin:K.In base
 glob:base.Ns mainGlobals mg
 blt:∃ mb,base.Ns builtinsNs mb/\∀ x:Str,x≠"__name__"->mb x=bootBuiltins x
 nolimit:base.NoLimit
structure Cx where
 prog:Program
 w:World
 K:PySem.W.Frag
 mg:Str->Option Value
 base:Heap
 A:Around
 N:List Str
 s₀:Shared
 H₀:Hp
 env:Env
 outer:List Env
 stack:List Env
 ex:List Addr
 fn:Str->Bool
 calm:Bool
 pn:List (Addr×Obj)
 xe:Value->Shared->Prop
def frs (l:List Env):List Addr:=l.filterMap (·.frame)
abbrev Cx.fs (X:Cx):List Addr:=frs X.outer
def Vis (sc:Scope)(x:Str):Prop:=sc.names.lookup x=some .local\/sc.names.lookup x=some .cell\/sc.names.lookup x=some .free
def Loc (sc:Scope)(x:Str):Prop:=sc.names.lookup x=some .local\/sc.names.lookup x=some .cell
def uV (env:Env)(h:Heap)(m:Str->Option Value)(x:Str)(u:Value):Prop :=
 (env.kindOf x=some .local/\m x=some u)\/((env.kindOf x=some .cell\/env.kindOf x=some .free)/\∃ c,env.cells.lookup x=some c/\h.IsCell c (some u))
structure Cx.Ok (X:Cx):Prop where
 mod:Mod X.K X.mg X.base
 kind:X.env.scope.kind=.function
 glob:X.env.globals=mainGlobals
 blt:X.env.builtins=builtinsNs
 above:X.s₀.heap.objs.size<=X.env.locals
 inj:∀ x y c,X.env.cells.lookup x=some c->X.env.cells.lookup y=some c->x=y
 has:∀ x,(X.env.kindOf x=some .cell\/X.env.kindOf x=some .free)->∃ c,X.env.cells.lookup x=some c
 cab:∀ x c,X.fn x=true->X.env.cells.lookup x=some c->X.s₀.heap.objs.size<=c
 hd:X.calm=true->X.A.handled=none
 frames:X.A.frames=some X.stack
 stk:X.stack=X.outer\/(X.stack=X.env::X.outer/\X.env.frame=some X.env.locals)
 exf:∀ b∈X.ex,b≠X.env.locals/\∀ x c,X.env.cells.lookup x=some c->c≠b
 bs:∀ b o,X.base.get? b=some o->X.s₀.heap.get? b=some o/\X.H₀ b=none
 bsz:X.base.objs.size<=X.s₀.heap.objs.size
 noex:∀ b o,X.base.get? b=some o->b∉X.ex
 exfs:∀ b∈X.ex,b∉X.fs
 funs:X.s₀.heap.FunFrames X.base X.outer
 frf:∀ b∈X.fs,X.H₀ b=none
structure Inv (X:Cx) (pins:List (Addr×Obj)) (σ:List (Option V)) (H:Hp) (s:Shared):Prop where
 ok:X.Ok
 os:s.os=X.s₀.os
 bare:AllBare s.gens
 base:Un X.fs X.ex X.H₀ H X.s₀.heap s.heap
 loc:∃ m,s.heap.Ns X.env.locals m/\∀ (i:Nat) (x:Str) (v:V),X.N[i]?=some x->σ[i]?=some (some v)->Vis X.env.scope x->∃ u,B1 v u/\uV X.env s.heap m x u
 cell:∀ x c,X.env.cells.lookup x=some c->∃ v,s.heap.IsCell c v
 free:H X.env.locals=none
 freeC:∀ x c,X.env.cells.lookup x=some c->H c=none
 pin:∀ p∈X.pn++pins,s.heap.get? p.1=some p.2/\H p.1=none/\p.1≠X.env.locals/\p.1∉X.fs/\∀ v,p.2.data≠.cell v
 hok:HOk X.prog X.w H s.heap
 len:σ.length=X.N.length
section
variable {X:Cx} {pins:List (Addr×Obj)} {σ:List (Option V)} {H H':Hp} {s:Shared} {h':Heap}
theorem Cx.Ok.nofr (ok:X.Ok){b:Addr}{o:Obj}(e:X.base.get? b=some o):b∉X.fs:=fun hb=>by
 have:=(ok.funs.mem hb).1
 rw [e] at this;cases this
theorem Inv.bs (I:Inv X pins σ H s):∀ b o,X.base.get? b=some o->s.heap.get? b=some o/\H b=none:=fun b o e =>
 ⟨I.base.keep b o (I.ok.bs b o e).1 (I.ok.bs b o e).2 (I.ok.nofr e) (I.ok.noex b o e),I.base.free b o (I.ok.bs b o e).1 (I.ok.bs b o e).2 (I.ok.noex b o e)⟩
theorem Inv.bk (I:Inv X pins σ H s):∀ b o,X.base.get? b=some o->s.heap.get? b=some o:=fun b o e=>(I.bs b o e).1
theorem Inv.mod (I:Inv X pins σ H s):Mod X.K X.mg X.base:=I.ok.mod
theorem Inv.kIn (I:Inv X pins σ H s):X.K.In s.heap:=I.ok.mod.kin.keeps I.bk
theorem Inv.fr (I:Inv X pins σ H s):∃ m,Fr X.base X.env.locals s.heap m :=
 let ⟨m,hn,_⟩:=I.loc
 ⟨m,hn,I.bk,Nat.le_trans I.ok.bsz I.ok.above⟩
theorem Inv.lt (I:Inv X pins σ H s):X.env.locals<s.heap.objs.size:=let ⟨_,hn,_⟩:=I.loc;hn.lt
theorem Inv.sz (I:Inv X pins σ H s):X.s₀.heap.objs.size<=s.heap.objs.size:=Nat.le_trans I.ok.above (Nat.le_of_lt I.lt)
theorem Inv.nofs (I:Inv X pins σ H s){a:Addr}(h:s.heap.objs.size<=a):a∉X.fs:=fun hb=>by
 obtain ⟨_,o,ho,_⟩:=I.ok.funs.mem hb
 exact absurd (Nat.lt_of_lt_of_le (Heap.lt_size ho) (Nat.le_trans I.sz h)) (Nat.lt_irrefl _)
theorem Inv.cne (I:Inv X pins σ H s):∀ x c,X.env.cells.lookup x=some c->c≠X.env.locals:=fun x c e z=>by
 obtain ⟨v,o,ho,hd⟩:=I.cell x c e
 obtain ⟨m,⟨o',es,ep,ho',hd',_⟩,_⟩:=I.loc
 rw [z,ho'] at ho;cases ho;rw [hd'] at hd;cases hd
theorem Inv.funs (I:Inv X pins σ H s):s.heap.FunFrames X.base X.outer:=by
 have all:∀ (l:List Env),(∀ b∈frs l,b∈X.fs)->X.s₀.heap.FunFrames X.base l->s.heap.FunFrames X.base l:=by
  intro l
  induction l with
  | nil=>intro _ _;trivial
  | cons env r ih =>
   intro hs hl
   obtain ⟨hk,⟨L,o,hf,hn,ho,hd⟩,hr⟩:=hl
   have hL:L∈X.fs:=hs L (by unfold frs;rw [List.filterMap_cons,hf];exact List.mem_cons_self)
   obtain ⟨sl,e⟩:=I.base.slot L o ho (I.ok.frf L hL) hL fun z=>I.ok.exfs L z hL
   exact ⟨hk,⟨L,_,hf,hn,e,hd⟩,ih (fun b hb=>hs b (by unfold frs;rw [List.filterMap_cons,hf];exact List.mem_cons_of_mem _ hb)) hr⟩
 exact all X.outer (fun _ hb=>hb) I.ok.funs
theorem Inv.stack (I:Inv X pins σ H s):s.heap.FunFrames X.base X.stack:=by
 rcases I.ok.stk with e | ⟨e,hf⟩
 ·rw [e];exact I.funs
 ·rw [e]
  obtain ⟨m,hn,_⟩:=I.loc
  refine .cons (by rw [I.ok.kind];decide) hf hn ?_ I.funs
  exact Heap.get?_none_of_le (Nat.le_trans I.ok.bsz I.ok.above)
theorem Inv.stkSub (I:Inv X pins σ H s):∀ b∈frs X.stack,b∈X.env.locals::X.fs:=fun b hb=>by
 rcases I.ok.stk with e | ⟨e,hf⟩
 ·rw [e] at hb;exact List.mem_cons_of_mem _ hb
 ·rw [e] at hb
  unfold frs at hb
  rw [List.filterMap_cons,hf] at hb
  exact hb
theorem Inv.stkFree (I:Inv X pins σ H s):∀ b∈frs X.stack,H b=none:=fun b hb=>by
 rcases List.mem_cons.mp (I.stkSub b hb) with e | hb
 ·rw [e];exact I.free
 ·obtain ⟨_,o,ho,_⟩:=I.ok.funs.mem hb
  exact I.base.free b o ho (I.ok.frf b hb) fun z=>I.ok.exfs b z hb
theorem Inv.step {g':Array GenState}{t':Nat}{d':Drawn}{ch:List Addr}(I:Inv X pins σ H s)
  (hch:∀ b∈ch,(b∈X.ex\/X.s₀.heap.objs.size<=b)/\b≠X.env.locals/\(∀ x c,X.env.cells.lookup x=some c->c≠b)/\∀ p∈X.pn++pins,p.1≠b)
  (keep:∀ b o,b≠X.env.locals->b∉X.fs->b∉ch->s.heap.get? b=some o->H b=none->h'.get? b=some o)
  (slot:∀ b o,b≠X.env.locals->b∈X.fs->b∉ch->s.heap.get? b=some o->H b=none->∃ sl,h'.get? b=some { o with slots:=sl })(free:∀ b o,b∉ch->s.heap.get? b=some o->H b=none->H' b=none)
  (there:∀ b o,b∉ch->s.heap.get? b=some o->∃ o',h'.get? b=some o')
  (tups:∀ b xs,H b=some (.tup xs)->H' b=some (.tup xs))(frzs:∀ b o u,H b=some (.frz o u)->H' b=some (.frz o u))(tbls:∀ b ps,H b=some (.tbl ps)->∃ more,H' b=some (.tbl (ps++more)))
  (ns:∀ m,s.heap.Ns X.env.locals m->h'.Ns X.env.locals m)(hok:HOk X.prog X.w H' h')(hg:AllBare g') :
  Inv X pins σ H' { s with heap:=h',gens:=g',drawn:=d',toks:=t' }:=by
 have neL:∀ b o,X.s₀.heap.get? b=some o->b≠X.env.locals:=fun b o e=>Nat.ne_of_lt (Nat.lt_of_lt_of_le (Heap.lt_size e) I.ok.above)
 have neC:∀ b o,X.s₀.heap.get? b=some o->b∉X.ex->b∉ch:=fun b o e hx hb=>by
  rcases (hch b hb).1 with z | z
  ·exact hx z
  ·exact absurd (Nat.lt_of_lt_of_le (Heap.lt_size e) z) (Nat.lt_irrefl _)
 have cellK:∀ x c,X.env.cells.lookup x=some c->∀ v,s.heap.IsCell c v->h'.IsCell c v:=fun x c e v ⟨o,ho,hd⟩=>by
  have nch:c∉ch:=fun z=>(hch c z).2.2.1 x c e rfl
  by_cases hc:c∈X.fs
  ·obtain ⟨sl,q⟩:=slot c o (I.cne x c e) hc nch ho (I.freeC x c e)
   exact ⟨_,q,hd⟩
  ·exact ⟨o,keep c o (I.cne x c e) hc nch ho (I.freeC x c e),hd⟩
 refine ⟨I.ok,I.os,hg,⟨fun b o e n hb hx=>?_,fun b o e n hb hx=>?_,fun b o e n hx=>?_,fun b o e hx=>?_,fun b xs e=>tups b xs (I.base.tups b xs e),fun b o xs e=>frzs b o xs (I.base.frzs b o xs e),fun b ps e=>?_⟩,?_,fun x c e=>?_,?_,fun x c e=>?_,fun p hp=>?_,hok,I.len⟩
 ·exact keep b o (neL b o e) hb (neC b o e hx) (I.base.keep b o e n hb hx) (I.base.free b o e n hx)
 ·obtain ⟨sl,e1⟩:=I.base.slot b o e n hb hx
  obtain ⟨sl',e2⟩:=slot b _ (neL b o e) hb (neC b o e hx) e1 (I.base.free b o e n hx)
  exact ⟨sl',e2⟩
 ·obtain ⟨o',e1⟩:=I.base.there b o e hx
  exact free b o' (neC b o e hx) e1 (I.base.free b o e n hx)
 ·obtain ⟨o',e1⟩:=I.base.there b o e hx
  exact there b o' (neC b o e hx) e1
 ·obtain ⟨m1,e1⟩:=I.base.tbls b ps e
  obtain ⟨m2,e2⟩:=tbls b _ e1
  exact ⟨m1++m2,by rw [e2,Array.append_assoc]⟩
 ·obtain ⟨m,hn,hl⟩:=I.loc
  refine ⟨m,ns m hn,fun i x v e1 e2 e3=>?_⟩
  obtain ⟨u,r,l⟩:=hl i x v e1 e2 e3
  refine ⟨u,r,?_⟩
  rcases l with l | ⟨k,c,e,z⟩
  ·exact .inl l
  ·exact .inr ⟨k,c,e,cellK x c e _ z⟩
 ·obtain ⟨v,z⟩:=I.cell x c e
  exact ⟨v,cellK x c e v z⟩
 ·obtain ⟨m,⟨o,_,_,ho,_⟩,_⟩:=I.loc
  exact free _ o (fun z=>(hch _ z).2.1 rfl) ho I.free
 ·obtain ⟨v,o,ho,hd⟩:=I.cell x c e
  exact free c o (fun z=>(hch c z).2.2.1 x c e rfl) ho (I.freeC x c e)
 ·obtain ⟨e,n,ne,nf,d⟩:=I.pin p hp
  have nch:p.1∉ch:=fun z=>(hch p.1 z).2.2.2 p hp rfl
  exact ⟨keep p.1 p.2 ne nf nch e n,free p.1 p.2 nch e n,ne,nf,d⟩
theorem Inv.un {t':Nat}(I:Inv X pins σ H s)(u:Un X.fs [] H H' s.heap h')(hok:HOk X.prog X.w H' h'):Inv X pins σ H' { s with heap:=h',toks:=t' }:=by
 obtain ⟨m,⟨o,es,ep,ho,r⟩,_⟩:=id I.loc
 obtain ⟨sl,hL⟩:=u.any ho I.free (by simp)
 exact I.step (g':=s.gens) (d':=s.drawn) (ch:=[]) (fun _ z=>nomatch z) (fun b o _ hb _ e n=>u.keep b o e n hb (by simp)) (fun b o _ hb _ e n=>u.slot b o e n hb (by simp)) (fun b o _ e n=>u.free b o e n (by simp)) (fun b o _ e=>u.there b o e (by simp)) u.tups u.frzs u.tbls (fun m' hm=>by
  obtain ⟨o',es',ep',ho',r'⟩:=hm
  rw [ho] at ho';cases ho'
  exact ⟨_,es',ep',hL,r'⟩) hok I.bare
theorem Inv.call {g':Array GenState}{t':Nat}{d':Drawn}{ch:List Addr}(I:Inv X pins σ H s)(u:Un (frs X.stack) ch H H' s.heap h')(hok:HOk X.prog X.w H' h')(hg:AllBare g')
  (hch:∀ b∈ch,(b∈X.ex\/X.s₀.heap.objs.size<=b)/\b≠X.env.locals/\(∀ x c,X.env.cells.lookup x=some c->c≠b)/\∀ p∈X.pn++pins,p.1≠b) :
  Inv X pins σ H' { s with heap:=h',gens:=g',drawn:=d',toks:=t' }:=by
 obtain ⟨m,⟨o,es,ep,ho,r⟩,_⟩:=id I.loc
 obtain ⟨sl,hL⟩:=u.any ho I.free fun z=>(hch _ z).2.1 rfl
 exact I.step (ch:=ch) hch (fun b o hL hb hc e n=>u.keep b o e n (fun z=>(List.mem_cons.mp (I.stkSub b z)).elim hL hb) hc) (fun b o _ _ hc e n=>u.any e n hc) (fun b o hc e n=>u.free b o e n hc) (fun b o hc e=>u.there b o e hc) u.tups u.frzs u.tbls (fun m' hm=>by
  obtain ⟨o',es',ep',ho',r'⟩:=hm
  rw [ho] at ho';cases ho'
  exact ⟨_,es',ep',hL,r'⟩) hok hg
theorem Inv.turned {t':Nat}{it:Addr}(I:Inv X pins σ H s)(k:∀ b o,b≠it->s.heap.get? b=some o->h'.get? b=some o)(hn:H it=none)(hL:it≠X.env.locals)
  (h1:it∈X.ex\/X.s₀.heap.objs.size<=it)(h2:∀ x c,X.env.cells.lookup x=some c->c≠it)(h3:∀ p∈X.pn++pins,p.1≠it):Inv X pins σ H { s with heap:=h',toks:=t' }:=by
 have nit:∀ b u,H b=some u->b≠it:=fun b u e z=>by rw [z,hn] at e;cases e
 refine I.step (g':=s.gens) (d':=s.drawn) (ch:=[it]) (fun b hb=>?_) (fun b o _ _ hc e _=>k b o (fun z=>hc (by simp [z])) e) (fun b o _ _ hc e _=>⟨o.slots,k b o (fun z=>hc (by simp [z])) e⟩) (fun _ _ _ _ n=>n)
  (fun b o hc e=>⟨o,k b o (fun z=>hc (by simp [z])) e⟩) (fun _ _ e=>e) (fun _ _ _ e=>e) (fun b ps e=>⟨#[],by rw [e];simp⟩) (fun m hm=>?_) (fun b u e=>?_) I.bare
 ·have e:b=it:=by simpa using hb
  subst e
  exact ⟨h1,hL,h2,h3⟩
 ·obtain ⟨o,es,ep,ho,r⟩:=hm
  exact ⟨o,es,ep,k _ o (Ne.symm hL) ho,r⟩
 ·refine (I.hok b u e).stay (fun c v hc q=>k c v ?_ q) (fun _ q=>q) fun _ _ q=>q
  rcases hc with z | z
  ·rw [z];exact nit b u e
  ·exact nit c _ z
theorem Inv.tok (I:Inv X pins σ H s)(t:Nat):Inv X pins σ H { s with toks:=t }:=I.un (h':=s.heap) (t':=t) Un.refl I.hok
theorem Inv.kept {t':Nat}(I:Inv X pins σ H s)(k:∀ b u,s.heap.get? b=some u->h'.get? b=some u):Inv X pins σ H { s with heap:=h',toks:=t' }:=I.un (Un.kept k) (I.hok.kept k)
theorem Inv.laid {a:Addr}{o:HO}{t':Nat}(I:Inv X pins σ H s)(k:∀ b u,s.heap.get? b=some u->h'.get? b=some u)(hp:s.heap.objs.size<=a)(new:Eu X.prog X.w (upd H a o) h' a o) :
  Inv X pins σ (upd H a o) { s with heap:=h',toks:=t' }:=I.un (Un.laid k hp (I.hok.fresh hp)) (I.hok.laid k hp new)
theorem Inv.write {x e:Addr}{o:HO}{t':Nat}(I:Inv X pins σ H s)(mu:Mut (H x))(he:e=x\/H e=some (.own x))(k:∀ b u,b≠e->s.heap.get? b=some u->h'.get? b=some u)(heo:∃ u,h'.get? e=some u)
  (new:Eu X.prog X.w (upd H x o) h' x o):Inv X pins σ (upd H x o) { s with heap:=h',toks:=t' }:=I.un (Un.write mu he k heo) (I.hok.write mu he k heo new)
theorem Inv.weak {σ':List (Option V)}(I:Inv X pins σ H s)(hl:σ'.length=σ.length)(w:∀ (i:Nat) v,σ'[i]?=some (some v)->σ[i]?=some (some v)):Inv X pins σ' H s :=
 ⟨I.ok,I.os,I.bare,I.base,let ⟨m,hn,hl'⟩:=I.loc;⟨m,hn,fun i x v e1 e2 e3=>hl' i x v e1 (w i v e2) e3⟩,I.cell,I.free,I.freeC,I.pin,I.hok,hl.trans I.len⟩
theorem Inv.pins_of {pins':List (Addr×Obj)}(I:Inv X pins σ H s)(h:∀ p∈pins',s.heap.get? p.1=some p.2/\H p.1=none/\p.1≠X.env.locals/\p.1∉X.fs/\∀ v,p.2.data≠.cell v):Inv X pins' σ H s :=
 ⟨I.ok,I.os,I.bare,I.base,I.loc,I.cell,I.free,I.freeC,fun p hp=>(List.mem_append.mp hp).elim (fun z=>I.pin p (List.mem_append_left _ z)) (h p),I.hok,I.len⟩
theorem Xx {N:List Str}(hN:N.Nodup){i j:Nat}{x:Str}(a:N[i]?=some x)(b:N[j]?=some x):i=j:=by
 obtain ⟨h1,e1⟩:=List.getElem?_eq_some_iff.mp a
 obtain ⟨h2,e2⟩:=List.getElem?_eq_some_iff.mp b
 exact (List.getElem_inj hN).mp (e1.trans e2.symm)
theorem fW {M:Model}{A:Around}{E:Value->Shared->Prop}{i:Nat}{x:Str}{v:V}{u:Value}{Q:Unit->Shared->Prop}(I:Inv X pins σ H s)(hN:X.N.Nodup)(hi:X.N[i]?=some x)(hx:Loc X.env.scope x)(r:B1 v u)
  (h:∀ s',Inv X pins (σ.set i (some v)) H s'->(∃ a,Heap.SameBut a s.heap s'.heap/\(a=X.env.locals\/X.env.cells.lookup x=some a))->Q () s')(hf:X.fn x=true\/X.env.scope.names.lookup x=some .local:=by first | exact .inl rfl | exact .inr rfl | assumption):wpAny M A (storeName X.env x u) Q E s:=by
 obtain ⟨m,hn,hl⟩:=id I.loc
 have hcls:(X.env.scope.kind==.class||(X.env.scope.kind==.module&&X.env.locals != X.env.globals))=false:=by rw [I.ok.kind];rfl
 have hiσ:i<σ.length:=by rw [I.len];exact (List.getElem?_eq_some_iff.mp hi).1
 have cne:=I.cne
 have tracked:∀ {a:Addr} {h':Heap},(∃ o,s.heap.get? a=some o/\H a=none)->Heap.SameBut a s.heap h'->HOk X.prog X.w H h':=fun {a h'} ha hs b ob e=>by
  obtain ⟨_,_,hfree⟩:=ha
  refine (I.hok b ob e).stay (fun c w' hc q=>(hs.2 c ?_).trans q) (fun _ q=>q) fun _ _ q=>q
  rintro rfl
  rcases hc with rfl | hc
  ·rw [hfree] at e;cases e
  ·rw [hfree] at hc;cases hc
 rcases hx with hk | hk
 ·refine wpAny_storeName_local hk hn (fun h' hn' hs=>?_) hcls
  obtain ⟨oL,_,_,hoL,_⟩:=id hn
  refine h _ ⟨I.ok,I.os,I.bare,⟨fun b o e n hb hx=>?_,fun b o e n hb hx=>?_,I.base.free,fun b o e hx=>?_,I.base.tups,I.base.frzs,I.base.tbls⟩,⟨_,hn',fun j y v' e1 e2 e3=>?_⟩,fun y c e=>?_,I.free,I.freeC,fun p hp=>?_,tracked ⟨oL,hoL,I.free⟩ hs,by simpa using I.len⟩ ⟨_,hs,.inl rfl⟩
  ·exact (hs.2 b (Nat.ne_of_lt (Nat.lt_of_lt_of_le (Heap.lt_size e) I.ok.above))).trans (I.base.keep b o e n hb hx)
  ·obtain ⟨sl,e1⟩:=I.base.slot b o e n hb hx
   exact ⟨sl,(hs.2 b (Nat.ne_of_lt (Nat.lt_of_lt_of_le (Heap.lt_size e) I.ok.above))).trans e1⟩
  ·obtain ⟨o',e1⟩:=I.base.there b o e hx
   exact ⟨o',(hs.2 b (Nat.ne_of_lt (Nat.lt_of_lt_of_le (Heap.lt_size e) I.ok.above))).trans e1⟩
  ·by_cases hj:j=i
   ·subst hj
    rw [hi] at e1;cases e1
    rw [List.getElem?_set_self hiσ] at e2
    cases e2
    exact ⟨u,r,.inl ⟨hk,by simp⟩⟩
   ·rw [List.getElem?_set_ne (Ne.symm hj)] at e2
    obtain ⟨u',r',q⟩:=hl j y v' e1 e2 e3
    refine ⟨u',r',?_⟩
    rcases q with ⟨k,e⟩ | ⟨k,c,e,z⟩
    ·refine .inl ⟨k,?_⟩
     have:y≠x:=fun e=>hj (Xx hN e1 (e▸hi))
     simp [this,e]
    ·exact .inr ⟨k,c,e,z.sameBut hs (cne y c e)⟩
  ·obtain ⟨w',z⟩:=I.cell y c e
   exact ⟨w',z.sameBut hs (cne y c e)⟩
  ·obtain ⟨e,n,ne,nf,d⟩:=I.pin p hp
   exact ⟨(hs.2 p.1 ne).trans e,n,ne,nf,d⟩
 ·have hfn:X.fn x=true:=by
   rcases hf with z | z
   ·exact z
   ·rw [z] at hk;cases hk
  obtain ⟨c,hc⟩:=I.ok.has x (.inl hk)
  obtain ⟨w',z⟩:=I.cell x c hc
  refine wpAny_storeName_cell I.ok.kind hk hc z (fun h' hc' hs=>?_)
  obtain ⟨oc,hoc,hocd⟩:=id z
  refine h { s with heap:=h' } ⟨I.ok,I.os,I.bare,⟨fun b o e n hb hx=>?_,fun b o e n hb hx=>?_,I.base.free,fun b o e hx=>?_,I.base.tups,I.base.frzs,I.base.tbls⟩,⟨m,hn.sameBut hs (Ne.symm (cne x c hc)),fun j y v' e1 e2 e3=>?_⟩,fun y c' e=>?_,I.free,I.freeC,fun p hp=>?_,tracked ⟨oc,hoc,I.freeC x c hc⟩ hs,by simpa using I.len⟩ ⟨c,hs,.inr hc⟩
  ·exact (hs.2 b (Nat.ne_of_lt (Nat.lt_of_lt_of_le (Heap.lt_size e) (I.ok.cab x c hfn hc)))).trans (I.base.keep b o e n hb hx)
  ·obtain ⟨sl,e1⟩:=I.base.slot b o e n hb hx
   exact ⟨sl,(hs.2 b (Nat.ne_of_lt (Nat.lt_of_lt_of_le (Heap.lt_size e) (I.ok.cab x c hfn hc)))).trans e1⟩
  ·obtain ⟨o',e1⟩:=I.base.there b o e hx
   exact ⟨o',(hs.2 b (Nat.ne_of_lt (Nat.lt_of_lt_of_le (Heap.lt_size e) (I.ok.cab x c hfn hc)))).trans e1⟩
  ·by_cases hj:j=i
   ·subst hj
    rw [hi] at e1;cases e1
    rw [List.getElem?_set_self hiσ] at e2
    cases e2
    exact ⟨u,r,.inr ⟨.inl hk,c,hc,hc'⟩⟩
   ·rw [List.getElem?_set_ne (Ne.symm hj)] at e2
    obtain ⟨u',r',q⟩:=hl j y v' e1 e2 e3
    refine ⟨u',r',?_⟩
    rcases q with q | ⟨k,c',e,z'⟩
    ·exact .inl q
    ·refine .inr ⟨k,c',e,z'.sameBut hs ?_⟩
     rintro rfl
     exact hj (Xx hN e1 (I.ok.inj _ _ _ e hc▸hi))
  ·by_cases hcc:c'=c
   ·subst hcc;exact ⟨_,hc'⟩
   ·obtain ⟨w2,z2⟩:=I.cell y c' e
    exact ⟨w2,z2.sameBut hs hcc⟩
  ·obtain ⟨e,n,ne,nf,d⟩:=I.pin p hp
   refine ⟨(hs.2 p.1 ?_).trans e,n,ne,nf,d⟩
   intro q
   rw [q,hoc] at e
   have q':oc=p.2:=Option.some.inj e
   exact d w' (by rw [<- q'];exact hocd)
theorem So {M:Model}{A:Around}{E:Value->Shared->Prop}{i:Nat}{x:Str}{v:V}{u:Value}{Q:Unit->Shared->Prop}(I:Inv X pins σ H s)(hN:X.N.Nodup)(hi:X.N[i]?=some x)(hx:Loc X.env.scope x)(r:B1 v u)
  (h:∀ s',Inv X pins (σ.set i (some v)) H s'->Q () s')(hf:X.fn x=true\/X.env.scope.names.lookup x=some .local:=by first | exact .inl rfl | exact .inr rfl | assumption):wpAny M A (storeName X.env x u) Q E s :=
 fW I hN hi hx r (fun s' I' _=>h s' I') hf
theorem Inv.call' {s':Shared}{ch:List Addr}(I:Inv X pins σ H s)(ho:s'.os=s.os)(u:Un (frs X.stack) ch H H' s.heap s'.heap)(hok:HOk X.prog X.w H' s'.heap)(hg:AllBare s'.gens)
  (hch:∀ b∈ch,(b∈X.ex\/X.s₀.heap.objs.size<=b)/\b≠X.env.locals/\(∀ x c,X.env.cells.lookup x=some c->c≠b)/\∀ p∈X.pn++pins,p.1≠b):Inv X pins σ H' s':=by
 obtain ⟨h',g',d',t',o'⟩:=s'
 have e:o'=s.os:=ho
 subst e
 exact I.call (g':=g') (t':=t') (d':=d') u hok hg hch
end
abbrev XK:=Value->Option Addr->Hp->Prop
abbrev St:=List (Option V)
abbrev VK:=V->Hp->Prop
abbrev TE:=St->Hp->VK->Prop
abbrev TT:=St->Hp->(Bool->Hp->Prop)->Prop
abbrev TA:=St->Hp->(List V->Hp->Prop)->Prop
structure Kn where
 nx:St->Hp->Prop
 rt:VK
 bk:St->Hp->Prop:=fun _ _=>False
 ct:St->Hp->Prop:=fun _ _=>False
abbrev TS:=Kn->St->Hp->Prop
def EP (X:Cx)(pins:List (Addr×Obj))(σ:St)(Q:VK)(u:Value)(s':Shared):Prop:=∃ v H',Inv X pins σ H' s'/\B1 v u/\Q v H'
def TP (X:Cx)(pins:List (Addr×Obj))(σ:St)(Q:Bool->Hp->Prop)(b:Bool)(s':Shared):Prop:=∃ H',Inv X pins σ H' s'/\Q b H'
def AP (X:Cx)(pins:List (Addr×Obj))(σ:St)(Q:List V->Hp->Prop)(us:List Value)(s':Shared):Prop:=∃ vs H',Inv X pins σ H' s'/\Bi vs us/\Q vs H'
def SP (X:Cx)(pins:List (Addr×Obj))(D:Kn)(f:Flow)(s':Shared):Prop :=
 match f with
 | .next=>∃ σ' H',Inv X pins σ' H' s'/\D.nx σ' H'
 | .brk=>∃ σ' H',Inv X pins σ' H' s'/\D.bk σ' H'
 | .cont=>∃ σ' H',Inv X pins σ' H' s'/\D.ct σ' H'
 | .ret u=>∃ v σ' H',Inv X pins σ' H' s'/\B1 v u/\D.rt v H'
def PE (X:Cx)(e:Expr)(t:TE):Prop :=
 ∀ (pins:List (Addr×Obj)) (s:Shared) (σ:St) (H:Hp) (Q:VK),Inv X pins σ H s->t σ H Q->wpAny (model X.prog X.w) X.A (eval e X.env) (EP X pins σ Q) X.xe s
def PT (X:Cx)(e:Expr)(t:TT):Prop :=
 ∀ (pins:List (Addr×Obj)) (s:Shared) (σ:St) (H:Hp) (Q:Bool->Hp->Prop),Inv X pins σ H s->t σ H Q->wpAny (model X.prog X.w) X.A (isTrue e X.env (eval e X.env)) (TP X pins σ Q) X.xe s
def PW (X:Cx)(e:Expr)(t:TT):Prop :=
 ∀ (whole:Sem Value) (pins:List (Addr×Obj)) (s:Shared) (σ:St) (H:Hp) (Q:Bool->Hp->Prop),Inv X pins σ H s->t σ H Q->wpAny (model X.prog X.w) X.A (isTrue e X.env whole) (TP X pins σ Q) X.xe s
theorem PW.pt {X:Cx}{e:Expr}{t:TT}(h:PW X e t):PT X e t:=h _
def PA (X:Cx)(es:List Expr)(t:TA):Prop :=
 ∀ (pos:Pos) (pins:List (Addr×Obj)) (s:Shared) (σ:St) (H:Hp) (Q:List V->Hp->Prop),Inv X pins σ H s->t σ H Q->wpAny (model X.prog X.w) X.A (spliced (backTo pos (starEach es X.env))) (AP X pins σ Q) X.xe s
def PS (X:Cx)(st:Stmt)(t:TS):Prop :=
 ∀ (pins:List (Addr×Obj)) (s:Shared) (σ:St) (H:Hp) (D:Kn),Inv X pins σ H s->t D σ H->wpAny (model X.prog X.w) X.A (exec st X.env) (SP X pins D) X.xe s
def PSs (X:Cx)(st:List Stmt)(t:TS):Prop :=
 ∀ (pins:List (Addr×Obj)) (s:Shared) (σ:St) (H:Hp) (D:Kn),Inv X pins σ H s->t D σ H->wpAny (model X.prog X.w) X.A (execs st X.env) (SP X pins D) X.xe s
theorem thn {α:Type}{t:Sem α}{Q Q':α->Shared->Prop}{M:Model}{A:Around}{E:Value->Shared->Prop}{s:Shared}(h:wpAny M A t Q E s)(hQ:∀ a s,Q a s->Q' a s):wpAny M A t Q' E s:=wpAny_mono h hQ fun _ _ x=>x
section
variable {X:Cx}
def nG (i:Nat):TE:=fun σ H Q=>∃ v,σ[i]?=some (some v)/\Q v H
def tC (v:V):TE:=fun _ H Q=>Q v H
theorem jJ {i:Nat}{x:Str}{pos:Pos}(hN:X.N[i]?=some x)(hv:Vis X.env.scope x)(hd:(x==("__debug__":Str))=false:=by decide)(hcd:(x==("__classdict__":Str))=false:=by decide):PE X (.Name x pos) (nG i):=by
 intro pins s σ H Q I h
 obtain ⟨v,e,h⟩:=h
 obtain ⟨m,hn,hl⟩:=I.loc
 obtain ⟨u,r,l⟩:=hl i x v hN e hv
 have fin:EP X pins σ Q u s:=⟨v,H,I,r,h⟩
 rcases l with ⟨hk,hm⟩ | ⟨hk,c,hc,hcell⟩
 ·exact wpAny_Name (wpAny_loadName_local I.ok.kind hk hn hm fin) hd
 ·rcases hk with hk | hk
  ·exact wpAny_Name (wpAny_loadName_cell I.ok.kind hk hc hcell fin) hd
  ·exact wpAny_Name (wpAny_loadName_free I.ok.kind hk hc hcell fin hcd) hd
theorem Aj {i j pos}:PE X (.Constant (.int i) j pos) (tC (.int i)):=fun _ _ _ H _ I h=>wpAny_Constant_int ⟨.int i,H,I.tok _,⟨_,rfl⟩,h⟩
theorem Nd {b j pos}:PE X (.Constant (.bool b) j pos) (tC (.bl b)):=fun _ _ _ H _ I h=>Constant_bool ⟨.bl b,H,I,rfl,h⟩
theorem Ic {j pos}:PE X (.Constant .none j pos) (tC .non):=fun _ _ _ H _ I h=>Constant_none ⟨.non,H,I,rfl,h⟩
theorem Cz {x j pos}:PE X (.Constant (.str x) j pos) (tC (.str x)):=fun _ _ _ H _ I h=>Calls.Constant_str ⟨.str x,H,I.tok _,⟨_,rfl⟩,h⟩
def Gl (X:Cx)(x:Str):Prop:=X.env.kindOf x=some .globalImplicit
theorem Nn {E:Value->Shared->Prop}{pins:List (Addr×Obj)}{s:Shared}{σ:St}{H:Hp}{x:Str}{u:Value}{pos:Pos}{Q:Value->Shared->Prop}(I:Inv X pins σ H s)(hg:Gl X x)(hm:X.mg x=some u)(h:Q u s)
  (hd:(x==("__debug__":Str))=false:=by decide):wpAny (model X.prog X.w) X.A (eval (.Name x pos) X.env) Q E s :=
 Calls.Name_function_global I.ok.kind hg (Calls.loadGlobal_global (by rw [I.ok.glob];exact I.mod.glob.keeps I.bk) hm h) hd
theorem Ft {E:Value->Shared->Prop}{pins:List (Addr×Obj)}{s:Shared}{σ:St}{H:Hp}{x:Str}{u:Value}{pos:Pos}{Q:Value->Shared->Prop}(I:Inv X pins σ H s)(hg:Gl X x)(hm:X.mg x=none)(hv:bootBuiltins x=some u)(h:Q u s)
  (hn:x≠"__name__":=by decide)(hd:(x==("__debug__":Str))=false:=by decide):wpAny (model X.prog X.w) X.A (eval (.Name x pos) X.env) Q E s:=by
 obtain ⟨mb,h1,h2⟩:=I.mod.blt
 exact Calls.Name_function_global I.ok.kind hg (Calls.loadGlobal_builtin (by rw [I.ok.glob];exact I.mod.glob.keeps I.bk) hm (by rw [I.ok.blt];exact h1.keeps I.bk) ((h2 x hn).trans hv) h) hd
theorem nZ {x:Str}{v:V}{u:Value}{pos:Pos}(hg:Gl X x)(hm:X.mg x=some u)(r:B1 v u)(hd:(x==("__debug__":Str))=false:=by decide):PE X (.Name x pos) (tC v) :=
 fun _ _ _ H _ I h=>Nn I hg hm ⟨v,H,I,r,h⟩ hd
theorem Po {x:Str}{v:V}{u:Value}{pos:Pos}(hg:Gl X x)(hm:X.mg x=none)(hv:bootBuiltins x=some u)(r:B1 v u)(hn:x≠"__name__":=by decide)(hd:(x==("__debug__":Str))=false:=by decide):PE X (.Name x pos) (tC v) :=
 fun _ _ _ H _ I h=>Ft I hg hm hv ⟨v,H,I,r,h⟩ hn hd
variable {a b:Expr} {ta tb:TE} {pos:Pos}
def PC (X:Cx)(op:CmpOp)(a b:Expr)(t:TE):Prop :=
 ∀ (pins:List (Addr×Obj)) (s:Shared) (σ:St) (H:Hp) (Q:VK),Inv X pins σ H s->t σ H Q ->
  wpAny (model X.prog X.w) X.A (eval a X.env) (fun v s₁=>wpAny (model X.prog X.w) X.A (eval b X.env) (fun u s₂=>wpAny (model X.prog X.w) X.A (compareOp op v u) (EP X pins σ Q) X.xe s₂) X.xe s₁) X.xe s
theorem iG (b:Expr){op:CmpOp}(h:op≠.In)(h2:op≠.NotIn):behindInMarks op b=false:=by
 have e1:(op==CmpOp.In)=false:=by cases op<;>first | rfl | exact absurd rfl h
 have e2:(op==CmpOp.NotIn)=false:=by cases op<;>first | rfl | exact absurd rfl h2
 cases b<;>simp [behindInMarks,e1,e2]
def rZ (ta:TE):TE:=fun σ H Q=>ta σ H fun x H1=>Q (.bl (decide (x=.non))) H1
def oZ (ta:TE):TE:=fun σ H Q=>ta σ H fun x H1=>Q (.bl (!decide (x=.non))) H1
theorem B1.none_iff {x:V}{v:Value}(r:B1 x v):(v==Value.none)=decide (x=.non):=by
 cases x with
 | non=>cases r;rfl
 | bl _=>cases r;rfl
 | int _=>obtain ⟨t,rfl⟩:=r;rfl
 | str _=>obtain ⟨t,rfl⟩:=r;rfl
 | byt _=>obtain ⟨t,rfl⟩:=r;rfl
 | flt _=>obtain ⟨t,rfl⟩:=r;rfl
 | ref _=>cases r;rfl
 | ty _=>cases r;rfl
theorem jA {j pos'}(ha:PE X a ta):PC X .Is a (.Constant .none j pos') (rZ ta):=by
 intro pins s σ H Q I h
 refine thn (ha pins s σ H _ I h) fun v s1 ⟨x,H1,I1,r1,q1⟩=>?_
 exact Constant_none (is_none_gen ⟨.bl _,H1,I1,by rw [r1.none_iff];rfl,q1⟩)
theorem dU {j pos'}(ha:PE X a ta):PC X .IsNot a (.Constant .none j pos') (oZ ta):=by
 intro pins s σ H Q I h
 refine thn (ha pins s σ H _ I h) fun v s1 ⟨x,H1,I1,r1,q1⟩=>?_
 exact Constant_none (isnot_none_gen ⟨.bl _,H1,I1,by rw [r1.none_iff];rfl,q1⟩)
def tB (t:TE):TT:=fun σ H Q=>t σ H fun x H1=>∃ c,x=.bl c/\Q c H1
theorem Vp {op:CmpOp}{t:TE}(h:PC X op a b t)(h1:behindInMarks op b=false:=by first | exact iG _ (by decide) (by decide) | rfl):PT X (.Compare a [op] [b] pos) (tB t):=by
 intro pins s σ H Q I hw
 refine wpAny_isTrue_Compare1 (thn (h pins s σ H _ I hw) fun v s1 h1=>thn h1 fun u s2 h2=>thn h2 fun c s3 ⟨x,H1,I1,r1,q1⟩=>?_) h1
 obtain ⟨d,rfl,q⟩:=q1
 cases r1
 exact wpAny_truthy_bool ⟨H1,I1,q⟩
theorem Dr {e:Expr}{t:TE}(h:PE X e t)(he:∀ whole,isTrue e X.env whole=(do let v <- whole;standAt e.pos;holding [v] (truthy v)):=by intro _;rfl):PT X e (tB t):=by
 intro pins s σ H Q I hw
 refine isTrue_plain (thn (h pins s σ H _ I hw) fun v s1 ⟨x,H1,I1,r1,q1⟩=>?_) (he _)
 obtain ⟨d,rfl,q⟩:=q1
 cases r1
 exact wpAny_truthy_bool ⟨H1,I1,q⟩
variable {tA tB':TT} {rest:List Expr}
def rX (t u:TT):TT:=fun σ H Q=>t σ H fun c H1=>if c=true then u σ H1 Q else Q false H1
def tOr (t u:TT):TT:=fun σ H Q=>t σ H fun c H1=>if c=true then Q true H1 else u σ H1 Q
def tI (t:TT):TT:=fun σ H Q=>t σ H fun c H1=>Q (!c) H1
theorem Nk (ha:PT X a tA):PW X (.BoolOp .And [a] pos) tA:=by
 intro wh pins s σ H Q I h
 refine isTrue_and (thn (ha pins s σ H Q I h) fun c s1 e=>?_)
 cases c with
 | true=>exact isTrue_and_nil e
 | false=>exact e
theorem K8 (ha:PT X a tA):PW X (.BoolOp .Or [a] pos) tA:=by
 intro wh pins s σ H Q I h
 refine isTrue_or (thn (ha pins s σ H Q I h) fun c s1 e=>?_)
 cases c with
 | false=>exact isTrue_or_nil e
 | true=>exact e
theorem Sz (ha:PT X a tA)(hb:PW X (.BoolOp .And (b::rest) pos) tB'):PW X (.BoolOp .And (a::b::rest) pos) (rX tA tB'):=by
 intro wh pins s σ H Q I h
 refine isTrue_and (thn (ha pins s σ H _ I h) fun c s1 ⟨H1,I1,q1⟩=>?_)
 cases c with
 | true=>exact hb wh pins s1 σ H1 Q I1 q1
 | false=>exact ⟨H1,I1,q1⟩
theorem Mc (ha:PT X a tA)(hb:PW X (.BoolOp .Or (b::rest) pos) tB'):PW X (.BoolOp .Or (a::b::rest) pos) (tOr tA tB'):=by
 intro wh pins s σ H Q I h
 refine isTrue_or (thn (ha pins s σ H _ I h) fun c s1 ⟨H1,I1,q1⟩=>?_)
 cases c with
 | true=>exact ⟨H1,I1,q1⟩
 | false=>exact hb wh pins s1 σ H1 Q I1 q1
theorem Gu (ha:PT X a tA):PT X (.UnaryOp .Not a pos) (tI tA):=by
 intro pins s σ H Q I h
 exact isTrue_not (ha pins s σ H (fun c H1=>Q (!c) H1) I h)
def oV (ta tb:TE):TE:=fun σ H Q=>ta σ H fun x H1=>∃ c,x=.bl c/\if c=true then tb σ H1 Q else Q (.bl false) H1
def pC (ta:TE):TE:=fun σ H Q=>ta σ H fun x H1=>∃ c,x=.bl c/\Q (.bl (!c)) H1
theorem Y9 {op}{t:TE}(h:PE X a t):PE X (.BoolOp op [a] pos) t:=fun pins s σ H Q I hw=>BoolOp_one (h pins s σ H Q I hw)
theorem Z5 (ha:PE X a ta)(hb:PE X (.BoolOp .And (b::rest) pos) tb):PE X (.BoolOp .And (a::b::rest) pos) (oV ta tb):=by
 intro pins s σ H Q I h
 refine BoolOp_and (thn (ha pins s σ H _ I h) fun v s1 ⟨x,H1,I1,r1,q1⟩=>?_)
 obtain ⟨c,rfl,q1⟩:=q1
 cases r1
 refine wpAny_truthy_bool ?_
 cases c with
 | true=>exact hb pins s1 σ H1 Q I1 q1
 | false=>exact ⟨.bl false,H1,I1,rfl,q1⟩
theorem qI (ha:PE X a ta):PE X (.UnaryOp .Not a pos) (pC ta):=by
 intro pins s σ H Q I h
 refine UnaryOp_ (thn (ha pins s σ H _ I h) fun v s1 ⟨x,H1,I1,r1,q1⟩=>?_)
 obtain ⟨c,rfl,q1⟩:=q1
 cases r1
 exact not_of (wpAny_truthy_bool ⟨.bl (!c),H1,I1,rfl,q1⟩)
def tIf (t:TT)(ta tb:TE):TE:=fun σ H Q=>t σ H fun c H1=>if c=true then ta σ H1 Q else tb σ H1 Q
theorem C4 {c:Expr}(hc:PT X c tA)(ha:PE X a ta)(hb:PE X b tb):PE X (.IfExp c a b pos) (tIf tA ta tb):=by
 intro pins s σ H Q I h
 refine wpAny_IfExp (thn (hc pins s σ H _ I h) fun d s1 ⟨H1,I1,q1⟩=>?_)
 cases d with
 | true=>exact ha pins s1 σ H1 Q I1 q1
 | false=>exact hb pins s1 σ H1 Q I1 q1
end
def SqL (K:PySem.W.Frag)(H:Hp)(a:Addr)(xs:List V):Prop :=
 Rd H a (.lst xs) \/
  ∃ (o:Obj) (its:Array Value) (n:Nat),K.lookup a=some o/\o.cls=.type "list"/\o.dict=none/\o.data=.seq its n/\its.size<=sizeLine/\Bi xs its.toList
def SqT (K:PySem.W.Frag)(H:Hp)(a:Addr)(xs:List V):Prop :=
 Rd H a (.tup xs) \/
  ∃ (o:Obj) (its:Array Value) (n:Nat),K.lookup a=some o/\o.cls=.type "tuple"/\o.data=.seq its n/\its.size<=sizeLine/\Bi xs its.toList
def uU:Value->Option V
 | .none=>some .non
 | .bool b=>some (.bl b)
 | .int i _=>some (.int i)
 | .str x _=>some (.str x)
 | .bytes b _=>some (.byt b)
 | .float b _=>some (.flt b)
 | .ref a=>some (.ref a)
 | .type n=>some (.ty n)
 | _=>none
theorem B1.abs {x:V}{u:Value}(r:B1 x u):uU u=some x:=by
 cases x with
 | non=>cases r;rfl
 | bl _=>cases r;rfl
 | int _=>obtain ⟨t,rfl⟩:=r;rfl
 | str _=>obtain ⟨t,rfl⟩:=r;rfl
 | byt _=>obtain ⟨t,rfl⟩:=r;rfl
 | flt _=>obtain ⟨t,rfl⟩:=r;rfl
 | ref _=>cases r;rfl
 | ty _=>cases r;rfl
theorem B1.inj {x y:V}{u:Value}(r:B1 x u)(q:B1 y u):x=y:=Option.some.inj (r.abs.symm.trans q.abs)
theorem Bi.inj:∀ {xs ys:List V} {us:List Value},Bi xs us->Bi ys us->xs=ys
 | _,_,_,.nil,.nil=>rfl
 | _,_,_,.cons r t,.cons r' t'=>by rw [r.inj r',Bi.inj t t']
section
variable {X:Cx} {pins:List (Addr×Obj)} {σ:St} {H:Hp} {s:Shared} {a:Addr} {xs ys:List V}
theorem SqL.of {K:PySem.W.Frag}(h:H a=some (.lst xs)):SqL K H a xs:=.inl (.inl h)
theorem SqT.of {K:PySem.W.Frag}(h:H a=some (.tup xs)):SqT K H a xs:=.inl (.inl h)
theorem Inv.list (I:Inv X pins σ H s)(h:SqL X.K H a xs):∃ its:List Value,Bi xs its/\PlainL s.heap a its.toArray/\xs.length<=sizeLine:=by
 rcases h with h | ⟨o,its,n,hk,hc,hd,hs,hz,r⟩
 ·obtain ⟨z,its,n,r,e⟩:=h.ok I.hok
  exact ⟨its,r,⟨_,n,e,rfl,rfl,rfl⟩,z⟩
 ·refine ⟨its.toList,r,⟨o,n,I.kIn a o hk,hc,hd,by simpa using hs⟩,?_⟩
  have e:=r.length
  simp only [Array.length_toList] at e
  omega
theorem Inv.tuple (I:Inv X pins σ H s)(h:SqT X.K H a xs):∃ its:List Value,Bi xs its/\IsTup s.heap a its.toArray/\xs.length<=sizeLine:=by
 rcases h with h | ⟨o,its,n,hk,hc,hs,hz,r⟩
 ·obtain ⟨z,its,r,p⟩:=h.ok I.hok
  exact ⟨its,r,p,z⟩
 ·refine ⟨its.toList,r,⟨o,I.kIn a o hk,hc,n,by simpa using hs⟩,?_⟩
  have e:=r.length
  simp only [Array.length_toList] at e
  omega
theorem Inv.list_inj (I:Inv X pins σ H s)(h:SqL X.K H a xs)(h':SqL X.K H a ys):xs=ys:=by
 obtain ⟨its,r,⟨o,n,e,_,_,d⟩,_⟩:=I.list h
 obtain ⟨its',r',⟨o',n',e',_,_,d'⟩,_⟩:=I.list h'
 rw [e] at e';cases e'
 rw [d] at d'
 injection d' with d1 _
 have:its=its':=by simpa using congrArg Array.toList d1
 subst this
 exact r.inj r'
end
abbrev Cx.wish (X:Cx)(E:Value->Shared->Prop):Cx:={ X with xe:=E }
abbrev Cx.nox (X:Cx):Cx:=X.wish fun _ _=>False
theorem Cx.Ok.wish {X:Cx}(ok:X.Ok)(E:Value->Shared->Prop):(X.wish E).Ok :=
 ⟨ok.mod,ok.kind,ok.glob,ok.blt,ok.above,ok.inj,ok.has,ok.cab,ok.hd,ok.frames,ok.stk,ok.exf,ok.bs,ok.bsz,ok.noex,ok.exfs,ok.funs,ok.frf⟩
theorem Cx.Ok.unwish {X:Cx}{E:Value->Shared->Prop}(ok:(X.wish E).Ok):X.Ok :=
 ⟨ok.mod,ok.kind,ok.glob,ok.blt,ok.above,ok.inj,ok.has,ok.cab,ok.hd,ok.frames,ok.stk,ok.exf,ok.bs,ok.bsz,ok.noex,ok.exfs,ok.funs,ok.frf⟩
section
variable {X:Cx} {pins:List (Addr×Obj)} {σ:St} {H:Hp} {s:Shared} {E:Value->Shared->Prop}
theorem Inv.wish (I:Inv X pins σ H s)(E:Value->Shared->Prop):Inv (X.wish E) pins σ H s:=⟨I.ok.wish E,I.os,I.bare,I.base,I.loc,I.cell,I.free,I.freeC,I.pin,I.hok,I.len⟩
theorem Inv.unwish (I:Inv (X.wish E) pins σ H s):Inv X pins σ H s:=⟨I.ok.unwish,I.os,I.bare,I.base,I.loc,I.cell,I.free,I.freeC,I.pin,I.hok,I.len⟩
theorem SP.unwish {D:Kn}{f:Flow}{s':Shared}(h:SP (X.wish E) pins D f s'):SP X pins D f s':=by
 cases f with
 | next=>obtain ⟨σ',H',I,q⟩:=h;exact ⟨σ',H',I.unwish,q⟩
 | brk=>obtain ⟨σ',H',I,q⟩:=h;exact ⟨σ',H',I.unwish,q⟩
 | cont=>obtain ⟨σ',H',I,q⟩:=h;exact ⟨σ',H',I.unwish,q⟩
 | ret u=>obtain ⟨v,σ',H',I,r,q⟩:=h;exact ⟨v,σ',H',I.unwish,r,q⟩
theorem PSs.nox {st:List Stmt}{t:TS}(h:PSs X.nox st t):PSs X st t:=fun pins s σ H D I hw =>
 wpAny_mono (h pins s σ H D (I.wish _) hw) (fun _ _ q=>q.unwish) fun _ _ z=>False.elim z
end
section
variable {X:Cx} {st:Stmt} {rest:List Stmt} {t u:TS} {e:Expr} {te:TE} {pos:Pos}
def oE:TS:=fun D σ H=>D.nx σ H
def sC (t u:TS):TS:=fun D σ H=>t { D with nx:=u D } σ H
theorem Ba:PSs X [] oE:=fun _ _ σ H _ I h=>wpAny_execs_nil ⟨σ,H,I,h⟩
theorem Ab (h1:PS X st t)(h2:PSs X rest u):PSs X (st::rest) (sC t u):=by
 intro pins s σ H D I h
 refine wpAny_execs_cons (thn (h1 pins s σ H { D with nx:=u D } I h) fun f s1 q=>?_)
 cases f with
 | next =>
  obtain ⟨σ',H',I',q⟩:=q
  exact h2 pins s1 σ' H' D I' q
 | ret v=>exact q
 | brk=>exact q
 | cont=>exact q
theorem Ai (h1:PS X st t):PSs X [st] t:=by
 intro pins s σ H D I h
 refine wpAny_execs_cons (thn (h1 pins s σ H D I h) fun f s1 q=>?_)
 cases f with
 | next=>exact wpAny_execs_nil q
 | ret v=>exact q
 | brk=>exact q
 | cont=>exact q
theorem Inv.quiet {pins:List (Addr×Obj)}{σ:St}{H:Hp}{s:Shared}(I:Inv X pins σ H s):interactive X.env=false:=by simp [interactive,I.ok.kind]
def pD (te:TE):TS:=fun D σ H=>te σ H fun _ H1=>D.nx σ H1
theorem Bl (he:PE X e te)(hs:swapsWith e none pos.line X.env=pure false:=by rfl):PS X (.Expr e pos) (pD te):=by
 intro pins s σ H D I h
 exact wpAny_Expr_any (thn (he pins s σ H _ I h) fun v s1 ⟨x,H1,I1,r1,q1⟩=>⟨σ,H1,I1,q1⟩) I.quiet hs
def rS (te:TE):TS:=fun D σ H=>te σ H D.rt
theorem At (he:PE X e te):PS X (.Return (some e) pos) (rS te):=by
 intro pins s σ H D I h
 exact wpAny_Return_some (thn (he pins s σ H _ I h) fun v s1 ⟨x,H1,I1,r1,q1⟩=>⟨x,σ,H1,I1,r1,q1⟩)
def tJ (c:TT)(t u:TS):TS:=fun D σ H=>c σ H fun b H1=>if b=true then t D σ H1 else u D σ H1
theorem B3 {c:Expr}{a b:List Stmt}{tc:TT}(hc:PT X c tc)(ha:PSs X a t)(hb:PSs X b u):PS X (.If c a b pos) (tJ tc t u):=by
 intro pins s σ H D I h
 refine wpAny_If (thn (hc pins s σ H _ I h) fun d s1 ⟨H1,I1,q1⟩=>?_)
 cases d with
 | true=>exact ha pins s1 σ H1 D I1 q1
 | false=>exact hb pins s1 σ H1 D I1 q1
def pO:TS:=fun _ _ _=>False
theorem Cv:PS X st pO:=fun _ _ _ _ _ _ h=>h.elim
end
abbrev TG:=V->St->Hp->(St->Hp->Prop)->Prop
abbrev TGs:=List V->St->Hp->(St->Hp->Prop)->Prop
def PG (X:Cx)(target:Expr)(t:TG):Prop :=
 ∀ (pins:List (Addr×Obj)) (s:Shared) (σ:St) (H:Hp) (v:V) (u:Value) (Q:St->Hp->Prop),Inv X pins σ H s->B1 v u->t v σ H Q ->
  wpAny (model X.prog X.w) X.A (assign target X.env u) (fun _ s'=>∃ σ' H',Inv X pins σ' H' s'/\Q σ' H') X.xe s
def PGs (X:Cx)(ts:List Expr)(t:TGs):Prop :=
 ∀ (pins:List (Addr×Obj)) (s:Shared) (σ:St) (H:Hp) (vs:List V) (us:List Value) (Q:St->Hp->Prop),Inv X pins σ H s->Bi vs us->t vs σ H Q ->
  wpAny (model X.prog X.w) X.A (assignInOrder ((assignEach ts X.env).map (·.2)) us) (fun _ s'=>∃ σ' H',Inv X pins σ' H' s'/\Q σ' H') X.xe s
abbrev TIp:=V->V->Hp->VK->Prop
def PIp (X:Cx)(op:Operator)(t:TIp):Prop :=
 ∀ (pins:List (Addr×Obj)) (s:Shared) (σ:St) (H:Hp) (x y:V) (v u:Value) (Q:VK),Inv X pins σ H s->B1 x v->B1 y u->t x y H Q ->
  wpAny (model X.prog X.w) X.A (inplaceOp op v u) (EP X pins σ Q) X.xe s
section
variable {X:Cx} {pos:Pos}
def E7 (i:Nat):TG:=fun v σ H Q=>Q (σ.set i (some v)) H
theorem Bt {i:Nat}{x:Str}(hN:X.N.Nodup)(hi:X.N[i]?=some x)(hx:Loc X.env.scope x)(hf:X.fn x=true\/X.env.scope.names.lookup x=some .local:=by first | exact .inl rfl | exact .inr rfl | assumption):PG X (.Name x pos) (E7 i):=by
 intro pins s σ H v u Q I r h
 exact wpAny_assign_Name (So I hN hi hx r (fun s' I'=>⟨_,H,I',h⟩) hf)
def Zy:TGs:=fun vs σ H Q=>vs=[]/\Q σ H
def Jg (t:TG)(u:TGs):TGs:=fun vs σ H Q=>∃ v r,vs=v::r/\t v σ H fun σ' H'=>u r σ' H' Q
theorem Lo:PGs X [] Zy:=by
 intro pins s σ H vs us Q I r h
 obtain ⟨e,h⟩:=h
 subst e
 cases r
 exact assignInOrder_nil ⟨σ,H,I,h⟩
theorem Dk {e:Expr}{es:List Expr}{t:TG}{u:TGs}(h1:PG X e t)(h2:PGs X es u)
  (hs:(assignEach (e::es) X.env).map (·.2)=assign e X.env::(assignEach es X.env).map (·.2):=by rfl):PGs X (e::es) (Jg t u):=by
 intro pins s σ H vs us Q I r h
 obtain ⟨v,vr,e1,h⟩:=h
 subst e1
 cases r with
 | cons r rr =>
  rw [hs]
  refine assignInOrder_cons (thn (h1 pins s σ H _ _ _ I r h) fun _ s1 ⟨σ1,H1,I1,q1⟩=>?_)
  exact h2 pins s1 σ1 H1 _ _ Q I1 rr q1
def cZ (K:PySem.W.Frag)(n:Nat)(t:TGs):TG:=fun v σ H Q=>∃ a xs,v=.ref a/\SqT K H a xs/\xs.length=n/\t xs σ H Q
theorem N7 {es:List Expr}{k:Nat}{t:TGs}{n:Nat}(hc:X.calm=true)(h:PGs X es t)
  (hn:(assignEach es X.env).length=n:=by rfl)(hst:(assignEach es X.env).findIdx? (·.1)=none:=by rfl):PG X (.Tuple es k pos) (cZ X.K n t):=by
 intro pins s σ H v u Q I r hw
 obtain ⟨a,xs,e1,hq,hl,hw⟩:=hw
 subst e1
 cases r
 obtain ⟨its,rv,ht,hz⟩:=I.tuple hq
 refine assign_Tuple_tuple (I.ok.hd hc) ht (by simp [hn,<- hl,rv.length]) hst fun h' hx=>?_
 have I1:Inv X pins σ H { s with heap:=h' }:=I.kept (t':=s.toks) fun b o e=>hx b o (Nat.ne_of_lt (Heap.lt_size e)) e
 exact h pins _ σ H xs _ Q I1 (by simpa using rv) hw
def mU (te:TE)(g:TG):TS:=fun D σ H=>te σ H fun x H1=>g x σ H1 D.nx
theorem Aq {i:Nat}{x:Str}{e:Expr}{te:TE}{pos':Pos}(hN:X.N.Nodup)(hi:X.N[i]?=some x)(hx:Loc X.env.scope x)(he:PE X e te)(hs:swapsWith e (some (.Name x pos')) pos.line X.env=pure false:=by rfl)(hf:X.fn x=true\/X.env.scope.names.lookup x=some .local:=by first | exact .inl rfl | exact .inr rfl | assumption) :
  PS X (.Assign [.Name x pos'] e pos) (mU te (E7 i)):=by
 intro pins s σ H D I h
 refine wpAny_Assign_Name (thn (he pins s σ H _ I h) fun v s1 ⟨y,H1,I1,r1,q1⟩=>?_) hs
 exact So I1 hN hi hx r1 (fun s2 I2=>⟨_,H1,I2,q1⟩) hf
def tP (i:Nat)(te:TE)(ti:TIp):TS:=fun D σ H=>∃ x,σ[i]?=some (some x)/\te σ H fun y H1=>ti x y H1 fun z H2=>D.nx (σ.set i (some z)) H2
theorem Z0 {i:Nat}{x:Str}{e:Expr}{te:TE}{op:Operator}{ti:TIp}{pos':Pos}(hN:X.N.Nodup)(hi:X.N[i]?=some x)(hx:Loc X.env.scope x)(he:PE X e te)(ho:PIp X op ti)(hf:X.fn x=true\/X.env.scope.names.lookup x=some .local:=by first | exact .inl rfl | exact .inr rfl | assumption) :
  PS X (.AugAssign (.Name x pos') op e pos) (tP i te ti):=by
 intro pins s σ H D I h
 obtain ⟨v,e1,h⟩:=h
 obtain ⟨m,hn,hl⟩:=I.loc
 have vis:Vis X.env.scope x:=by rcases hx with k | k;exact .inl k;exact .inr (.inl k)
 obtain ⟨u,r,l⟩:=hl i x v hi e1 vis
 refine wpAny_AugAssign_Name ?_
 have go:wpAny (model X.prog X.w) X.A (eval e X.env) (fun w s₂=>wpAny (model X.prog X.w) X.A (inplaceOp op u w) (fun r s₃=>wpAny (model X.prog X.w) X.A (storeName X.env x r) (fun _=>SP X pins D .next) X.xe s₃) X.xe s₂) X.xe s:=by
  refine thn (he pins s σ H _ I h) fun w s1 ⟨y,H1,I1,r1,q1⟩=>?_
  refine thn (ho pins s1 σ H1 v y u w _ I1 r r1 q1) fun z s2 ⟨zv,H2,I2,r2,q2⟩=>?_
  exact So I2 hN hi hx r2 (fun s3 I3=>⟨_,H2,I3,q2⟩) hf
 rcases l with ⟨hk,hm⟩ | ⟨hk,c,hc,hcell⟩
 ·exact wpAny_loadName_local I.ok.kind hk hn hm go
 ·rcases hk with hk | hk
  ·exact wpAny_loadName_cell I.ok.kind hk hc hcell go
  ·rcases hx with k | k
   ·have:X.env.scope.names.lookup x=some .free:=hk
    rw [k] at this;cases this
   ·have:X.env.scope.names.lookup x=some .free:=hk
    rw [k] at this;cases this
def ipI (f:Int->Int->Int):TIp:=fun x y H Q=>∃ i j,x=.int i/\y=.int j/\Q (.int (f i j)) H
theorem iT:PIp X .Add (ipI fun i j=>i+j):=by
 intro pins s σ H x y v u Q I r1 r2 h
 obtain ⟨i,j,e1,e2,q⟩:=h
 subst e1;subst e2
 obtain ⟨t,rfl⟩:=r1
 obtain ⟨t',rfl⟩:=r2
 exact iadd_int ⟨.int _,H,I.tok _,⟨_,rfl⟩,q⟩
theorem pQ:PIp X .Sub (ipI fun i j=>i-j):=by
 intro pins s σ H x y v u Q I r1 r2 h
 obtain ⟨i,j,e1,e2,q⟩:=h
 subst e1;subst e2
 obtain ⟨t,rfl⟩:=r1
 obtain ⟨t',rfl⟩:=r2
 exact isub_int ⟨.int _,H,I.tok _,⟨_,rfl⟩,q⟩
end
section
variable {X:Cx} {pos:Pos}
def iF (c:TT)(tb:TS):TS:=fun D σ H=>∃ W:Nat->St->Hp->Prop,(∃ m,W m σ H)/\∀ m σ H,W m σ H ->
 c σ H fun b H1=>if b=true then ∃ N:St->Hp->Prop,(∀ σ' H',N σ' H'->∃ m',m'<m/\W m' σ' H')/\tb { D with nx:=N,ct:=N,bk:=D.nx } σ H1 else D.nx σ H1
theorem Kw {c:Expr}{body:List Stmt}{tc:TT}{tb:TS}(hp:PassesOwn (model X.prog X.w) X.A X.env X.xe)(hc:PT X c tc)(hb:PSs X body tb):PS X (.While c body [] pos) (iF tc tb):=by
 intro pins s σ H D I h
 obtain ⟨W,⟨m0,w0⟩,turn⟩:=h
 refine wpAny_While (codeAny_whileLoop (fun n s'=>∃ σ' H',Inv X pins σ' H' s'/\W n σ' H') ?_ m0 ⟨σ,H,I,w0⟩)
 rintro n s1 ⟨σ1,H1,I1,w1⟩
 refine wpAny_passesOwn hp (thn (hc pins s1 σ1 H1 _ I1 (turn n σ1 H1 w1)) fun b s2 ⟨H2,I2,q2⟩=>?_)
 cases b with
 | true =>
  obtain ⟨N,hN,q2⟩:=q2
  rw [if_pos rfl]
  refine wpAny_passesOwn hp (thn (hb pins s2 σ1 H2 _ I2 q2) fun f s3 q3=>?_)
  cases f with
  | next =>
   obtain ⟨σ3,H3,I3,n3⟩:=q3
   obtain ⟨m',hm,w3⟩:=hN σ3 H3 n3
   exact ⟨m',hm,σ3,H3,I3,w3⟩
  | cont =>
   obtain ⟨σ3,H3,I3,n3⟩:=q3
   obtain ⟨m',hm,w3⟩:=hN σ3 H3 n3
   exact ⟨m',hm,σ3,H3,I3,w3⟩
  | brk=>exact q3
  | ret v=>exact q3
 | false =>
  rw [if_neg Bool.false_ne_true]
  exact wpAny_execs_nil ⟨σ1,H2,I2,q2⟩
end
structure It where
 go:Nat->Hp->Prop
 yld:Nat->Hp->V->Hp->Prop
 stop:Nat->Hp->Prop
def Ni (X:Cx)(pins:List (Addr×Obj))(H:Hp)(b:Addr):Prop :=
 H b=none/\b≠X.env.locals/\b∉X.fs/\(b∈X.ex\/X.s₀.heap.objs.size<=b)/\(∀ x c,X.env.cells.lookup x=some c->c≠b)/\∀ p∈X.pn++pins,p.1≠b
theorem Inv.fpOk {X:Cx}{pins:List (Addr×Obj)}{σ:St}{H H':Hp}{s:Shared}{b:Addr}(I:Inv X pins σ H s)(hb:s.heap.objs.size<=b)(hn:H' b=none):Ni X pins H' b:=by
 refine ⟨hn,Nat.ne_of_gt (Nat.lt_of_lt_of_le I.lt hb),I.nofs hb,.inr (Nat.le_trans I.sz hb),fun x c e z=>?_,fun p hp z=>?_⟩
 ·obtain ⟨v,q⟩:=I.cell x c e
  exact absurd (Nat.lt_of_lt_of_le q.lt (by rw [z];exact hb)) (Nat.lt_irrefl _)
 ·exact absurd (Nat.lt_of_lt_of_le (Heap.lt_size (I.pin p hp).1) (by rw [z];exact hb)) (Nat.lt_irrefl _)
structure Nw (P:Program) (w:World) (K:PySem.W.Frag) (tg:Expr) (J:It) (fp:List Addr) (it:Addr) (tn:Nat->Heap->Prop):Prop where
 mem:it∈fp
 obj:∀ i h,tn i h->∀ b∈fp,∃ o,h.get? b=some o/\∀ v,o.data≠.cell v
 keep:∀ i h h',tn i h->(∀ b∈fp,∀ o,h.get? b=some o->h'.get? b=some o)->tn i h'
 item:∀ (X:Cx),X.prog=P->X.w=w->X.K=K->X.calm=true->∀ (i:Nat) (pins:List (Addr×Obj)) (s:Shared) (σ:St) (H:Hp) (E:Value->Shared->Prop),Inv X pins σ H s->(∀ b∈fp,Ni X pins H b)->tn i s.heap->J.go i H ->
  wpAny (model P w) X.A (pyNext (.ref it)) (fun r s1=>∃ u,r=some u /\
   wpAny (model P w) X.A (letOwnedTupleGo tg (.ref it) u) (fun _ s2=>∃ x H',Inv X pins σ H' s2/\B1 x u/\J.yld i H x H'/\tn (i+1) s2.heap/\∀ b∈fp,H' b=none) E s1) E s
 done:∀ (X:Cx),X.prog=P->X.w=w->X.K=K->X.calm=true->∀ (i:Nat) (pins:List (Addr×Obj)) (s:Shared) (σ:St) (H:Hp) (E:Value->Shared->Prop),Inv X pins σ H s->(∀ b∈fp,Ni X pins H b)->tn i s.heap->J.stop i H ->
  wpAny (model P w) X.A (pyNext (.ref it)) (fun r s1=>r=none/\Inv X pins σ H s1) E s
 self:∀ (A:Around) (i:Nat) (s:Shared) (Q:Value->Shared->Prop) (E:Value->Shared->Prop),tn i s.heap->Q (.ref it) s->wpAny (model P w) A (pyIter (.ref it)) Q E s
abbrev TI:=St->Hp->(It->Hp->Prop)->Prop
def PIE (X:Cx)(pins:List (Addr×Obj))(σ:St)(tg:Expr)(R:It->Hp->Prop)(itv:Value)(s2:Shared):Prop :=
 ∃ (it:Addr) (fp:List Addr) (tn:Nat->Heap->Prop) (J:It) (H':Hp),itv=.ref it/\Inv X pins σ H' s2/\Nw X.prog X.w X.K tg J fp it tn/\tn 0 s2.heap/\(∀ b∈fp,Ni X pins H' b)/\R J H'
def PI (X:Cx)(tg iter:Expr)(wi:TI):Prop :=
 ∀ (pins:List (Addr×Obj)) (s:Shared) (σ:St) (H:Hp) (R:It->Hp->Prop),Inv X pins σ H s->wi σ H R ->
  wpAny (model X.prog X.w) X.A (eval iter X.env) (fun v s1=>wpAny (model X.prog X.w) X.A (pyIter v) (PIE X pins σ tg R) X.xe s1) X.xe s
theorem dN {M:Model}{A:Around}{E:Value->Shared->Prop}{s:Shared}{tg:Expr}{it:Addr}{u:Value}{o:Obj}{n:String}{vs:Array Value}{Q:Unit->Shared->Prop}(ho:s.heap.get? it=some o)(hc:o.cls=.type n)(hd:o.data=.fields vs)
    (hn : ["enumerate", "zip", "dict_itemiterator", "dict_reverseitemiterator", "odict_iterator", "itertools.zip_longest", "itertools.pairwise"].contains n = false)(hQ : Q () s) : wpAny M A (letOwnedTupleGo tg (.ref it) u) Q E s := by
  unfold letOwnedTupleGo
  cases tg <;> first
    | exact wpAny_pure hQ
    | (cases u <;> first
        | exact wpAny_pure hQ
        | (refine wpAny_bind (wpAny_load ho ?_)
           rw [hc, hd]
           show wpAny M A (if (["enumerate", "zip", "dict_itemiterator", "dict_reverseitemiterator", "odict_iterator", "itertools.zip_longest", "itertools.pairwise"].contains n && vs[0]? == some (rawInt _)) = true then _ else _) Q E s
           rw [if_neg (by intro h; rw [hn, Bool.false_and] at h; cases h)]
           exact wpAny_pure hQ))
def Itl (K:PySem.W.Frag)(a:Addr):It :=
 ⟨fun i H=>∃ xs x,SqL K H a xs/\xs[i]?=some x,fun i H x H'=>H'=H/\∀ xs,SqL K H a xs->xs[i]?=some x,fun i H=>∃ xs,SqL K H a xs/\xs.length<=i⟩
def Itr (lo:Int)(n:Nat):It:=⟨fun i _=>i<n,fun i H x H'=>H'=H/\x=.int (lo+i),fun i _=>n<=i⟩
theorem fP {P:Program}{w:World}{K:PySem.W.Frag}{tg:Expr}(a it:Addr):Nw P w K tg (Itl K a) [it] it (fun i h=>h.IsListIter it a i) where
 mem:=by simp
 obj:=fun i h st b hb=>by
  have e:b=it:=by simpa using hb
  subst e
  obtain ⟨o,e,c,d⟩:=st
  exact ⟨o,e,fun v z=>by rw [d] at z;cases z⟩
 keep:=fun i h h' st k=>st.at fun o e=>k it (by simp) o e
 item:=by
  intro X hP hw hK hc i pins s σ H E I hf st hg
  subst hP hw hK
  obtain ⟨xs,x,hq,hx⟩:=hg
  obtain ⟨its,rv,p,hz⟩:=I.list hq
  obtain ⟨u,hu,ru⟩:=rv.get hx
  obtain ⟨f0,f1,f2,f3,f4,f5⟩:=hf it (by simp)
  refine wpAny_pyNext_list_item st p.isList (x:=u) (by simpa using hu) fun h' st' sb=>?_
  have I1:Inv X pins σ H { s with heap:=h' }:=I.turned (t':=s.toks) (fun b o hb e=>(sb.2 b hb).trans e) f0 f1 f3 f4 f5
  obtain ⟨o,e,c,d⟩:=id st'
  exact ⟨u,rfl,dN (s:={ s with heap:=h' }) e c d (by decide) ⟨x,H,I1,ru,⟨rfl,fun ys hy=>by rw [I.list_inj hy hq];exact hx⟩,st',fun b hb=>(hf b hb).1⟩⟩
 done:=by
  intro X hP hw hK hc i pins s σ H E I hf st hg
  subst hP hw hK
  obtain ⟨xs,hq,hx⟩:=hg
  obtain ⟨its,rv,p,hz⟩:=I.list hq
  obtain ⟨f0,f1,f2,f3,f4,f5⟩:=hf it (by simp)
  have hl:=rv.length
  exact wpAny_pyNext_list_end (I.ok.hd hc) st p.isList (by simp;omega) fun h' eb=>⟨rfl,I.turned (t':=s.toks) (fun b o hb e=>eb b o hb e) f0 f1 f3 f4 f5⟩
 self:=fun _ _ _ _ _ st h=>wpAny_pyIter_listiter st h
theorem Zz {P:Program}{w:World}{K:PySem.W.Frag}{tg:Expr}(it:Addr)(lo:Int)(n:Nat):Nw P w K tg (Itr lo n) [it] it (fun i h=>IsRangeIter h it (lo+(i:Nat)*1) ((n:Int)-(i:Nat)) 1) where
 mem:=by simp
 obj:=fun i h st b hb=>by
  have e:b=it:=by simpa using hb
  subst e
  exact ⟨_,st,fun v z=>by
   have z':Data.fields _=Data.cell v:=z
   cases z'⟩
 keep:=fun i h h' st k=>k it (by simp) _ st
 item:=by
  intro X hP hw hK hc i pins s σ H E I hf st hg
  subst hP hw hK
  obtain ⟨f0,f1,f2,f3,f4,f5⟩:=hf it (by simp)
  have W:=Walks.range (prog:=X.prog) (w:=X.w) (I.ok.hd hc) it lo 1 n
  refine W.item i s _ _ hg st fun v h' tk hv st' kk=>?_
  obtain ⟨t,rfl⟩:=hv
  have I1:Inv X pins σ H { s with heap:=h',toks:=tk }:=I.turned (fun b o hb e=>kk b o (by simpa using hb) e) f0 f1 f3 f4 f5
  refine ⟨_,rfl,dN (s:={ s with heap:=h',toks:=tk }) (n:="range_iterator") st' rfl rfl (by decide) ⟨.int (lo+i),H,I1,⟨t,?_⟩,⟨rfl,rfl⟩,st',fun b hb=>(hf b hb).1⟩⟩
  rw [Int.mul_one]
 done:=by
  intro X hP hw hK hc i pins s σ H E I hf st hg
  subst hP hw hK
  obtain ⟨f0,f1,f2,f3,f4,f5⟩:=hf it (by simp)
  exact wpAny_pyNext_range_end (I.ok.hd hc) st (by have:n<=i:=hg;omega) fun h' eb=>⟨rfl,I.turned (t':=s.toks) (fun b o hb e=>eb b o hb e) f0 f1 f3 f4 f5⟩
 self:=fun _ _ _ _ _ st h=>wpAny_pyIter_rangeiter st h
section
variable {X:Cx} {tg:Expr}
def oS (K:PySem.W.Frag)(tl:TE):TI:=fun σ H R=>tl σ H fun x H1=>∃ a,x=.ref a/\(∃ xs,SqL K H1 a xs)/\R (Itl K a) H1
theorem B4 {l:Expr}{tl:TE}(hl:PE X l tl):PI X tg l (oS X.K tl):=by
 intro pins s σ H R I h
 refine thn (hl pins s σ H _ I h) fun v s1 ⟨x,H1,I1,r1,q1⟩=>?_
 obtain ⟨a,e,⟨xs,hq⟩,q⟩:=q1
 subst e
 cases r1
 obtain ⟨its,rv,p,hz⟩:=I1.list hq
 refine wpAny_pyIter_list p.isList ?_
 refine ⟨s1.heap.objs.size,[s1.heap.objs.size],_,_,H1,rfl,I1.kept (t':=s1.toks) fun b o e=>Heap.get?_push_of_some _ e,fP a _,⟨_,Heap.get?_push_size _ rfl,rfl,rfl⟩,fun b hb=>?_,q⟩
 have e:b=s1.heap.objs.size:=by simpa using hb
 subst e
 exact I1.fpOk (Nat.le_refl _) (I1.hok.fresh (Nat.le_refl _))
theorem Yr {pins:List (Addr×Obj)}{σ:St}{H:Hp}{s:Shared}{R:It->Hp->Prop}{E:Value->Shared->Prop}{lo hi:Int}{t u v:Tok}{tk:Nat}(I:Inv X pins σ H s)(h1:-(2 ^ 62)<=lo)(h2:lo<2 ^ 62)(h3:-(2 ^ 62)<=hi)(h4:hi<2 ^ 62)
  (q:R (Itr lo (hi-lo).toNat) H):wpAny (model X.prog X.w) X.A (pyIter (.ref s.heap.objs.size)) (PIE X pins σ tg R) E { s with heap:=s.heap.push { cls:=.type "range",data:=.fields #[.int lo t,.int hi u,.int 1 v] },toks:=tk }:=by
 refine wpAny_pyIter_range (IsRange.new ..) (small_one h1 h2 h3 h4) ?_
 have I1:Inv X pins σ H { s with heap:=s.heap.push { cls:=.type "range",data:=.fields #[.int lo t,.int hi u,.int 1 v] },toks:=tk }:=I.kept fun b o e=>Heap.get?_push_of_some _ e
 refine ⟨(s.heap.push { cls:=.type "range",data:=.fields #[.int lo t,.int hi u,.int 1 v] }).objs.size,[(s.heap.push { cls:=.type "range",data:=.fields #[.int lo t,.int hi u,.int 1 v] }).objs.size],_,_,H,rfl,
  I1.kept (t':=tk) fun b o e=>Heap.get?_push_of_some _ e,Zz _ lo (hi-lo).toNat,?_,fun b hb=>?_,q⟩
 ·have e1:lo+((0:Nat):Int)*1=lo:=by simp
  have e2:(((hi-lo).toNat:Nat):Int)-((0:Nat):Int)=Builtin.Range.rangeSize lo hi 1:=by rw [rangeSize_one];split<;>omega
  show IsRangeIter _ _ (lo+((0:Nat):Int)*1) ((((hi-lo).toNat:Nat):Int)-((0:Nat):Int)) 1
  rw [e1,e2]
  exact Heap.get?_push_size _ rfl
 ·have e:b=(s.heap.push { cls:=.type "range",data:=.fields #[.int lo t,.int hi u,.int 1 v] }).objs.size:=by simpa using hb
  subst e
  exact I1.fpOk (Nat.le_refl _) (I1.hok.fresh (Nat.le_refl _))
def pE (ta:TA):TI:=fun σ H R=>ta σ H fun vs H1=>∃ j:Int,vs=[.int j]/\-(2 ^ 62)<=j/\j<2 ^ 62/\R (Itr 0 j.toNat) H1
def oB (ta:TA):TI:=fun σ H R=>ta σ H fun vs H1=>∃ i j:Int,vs=[.int i,.int j]/\(-(2 ^ 62)<=i/\i<2 ^ 62/\-(2 ^ 62)<=j/\j<2 ^ 62)/\R (Itr i (j-i).toNat) H1
theorem E9 {a:Expr}{ta:TA}{p pos:Pos}(hg:Gl X "range")(hm:X.mg "range"=none)(ha:PA X [a] ta)(hs:starEach [a] X.env=[(false,eval a X.env)]:=by rfl):PI X tg (.Call (.Name "range" p) [a] [] pos) (pE ta):=by
 intro pins s σ H R I h
 refine Call_ (Ft I hg hm boot_range (PyProof.Rows.callWith_type1 (thn (ha pos pins s σ H _ I h) fun us s1 ⟨vs,H1,I1,r1,q1⟩=>?_) hs rfl))
 obtain ⟨j,e,q1,q2,q⟩:=q1
 subst e
 cases r1 with
 | cons r rr =>
  cases rr
  obtain ⟨t,rfl⟩:=r
  exact call_range_1 (Yr I1 (by omega) (by omega) q1 q2 (by simpa using q))
theorem Od {a b:Expr}{ta:TA}{p pos:Pos}(hg:Gl X "range")(hm:X.mg "range"=none)(ha:PA X [a,b] ta)(hs:starEach [a,b] X.env=[(false,eval a X.env),(false,eval b X.env)]:=by rfl)(hs2:starEach [b] X.env=[(false,eval b X.env)]:=by rfl) :
  PI X tg (.Call (.Name "range" p) [a,b] [] pos) (oB ta):=by
 intro pins s σ H R I h
 refine Call_ (Ft I hg hm boot_range (PyProof.Rows.callWith_type1 (thn (ha pos pins s σ H _ I h) fun us s1 ⟨vs,H1,I1,r1,q1⟩=>?_) (by rw [hs,hs2]) (by rw [hs2];rfl)))
 obtain ⟨i,j,e,⟨q1,q2,q3,q4⟩,q⟩:=q1
 subst e
 cases r1 with
 | cons r rr =>
  cases rr with
  | cons r' rr =>
   cases rr
   obtain ⟨t,rfl⟩:=r
   obtain ⟨t',rfl⟩:=r'
   exact call_range_2 (Yr I1 q1 q2 q3 q4 q)
def tX (wi:TI)(g:TG)(tb:TS):TS:=fun D σ H=>wi σ H fun J H1=>∃ W:Nat->Nat->St->Hp->Prop,(∃ m,W 0 m σ H1)/\∀ i m σ H,W i m σ H ->
 (J.stop i H/\D.nx σ H)\/(J.go i H/\∃ N:St->Hp->Prop,(∀ σ' H',N σ' H'->∃ m',m'<m/\W (i+1) m' σ' H')/\∀ x H',J.yld i H x H'->g x σ H' fun σ2 H2=>tb { D with nx:=N,ct:=N,bk:=D.nx } σ2 H2)
def Oi (fp:List Addr)(h:Heap):List (Addr×Obj):=fp.filterMap fun b=>(h.get? b).map fun o=>(b,o)
theorem F4 {fp:List Addr}{h:Heap}{b:Addr}{o:Obj}(hb:b∈fp)(e:h.get? b=some o):(b,o)∈Oi fp h:=List.mem_filterMap.mpr ⟨b,hb,by rw [e];rfl⟩
theorem fN {fp:List Addr}{h:Heap}{p:Addr×Obj}(hp:p∈Oi fp h):p.1∈fp/\h.get? p.1=some p.2:=by
 obtain ⟨b,hb,e⟩:=List.mem_filterMap.mp hp
 cases q:h.get? b with
 | none=>rw [q] at e;cases e
 | some o =>
  rw [q] at e
  have e':(b,o)=p:=Option.some.inj e
  subst e'
  exact ⟨hb,q⟩
theorem Inv.pinned {pins:List (Addr×Obj)}{σ:St}{H:Hp}{s:Shared}{fp:List Addr}(I:Inv X pins σ H s)(hf:∀ b∈fp,Ni X pins H b)(ho:∀ b∈fp,∃ o,s.heap.get? b=some o/\∀ v,o.data≠.cell v):Inv X (pins++Oi fp s.heap) σ H s :=
 I.pins_of fun p hp=>(List.mem_append.mp hp).elim (fun z=>I.pin p (List.mem_append_right _ z)) fun z=>by
  obtain ⟨hb,e⟩:=fN z
  obtain ⟨f0,f1,f2,_⟩:=hf p.1 hb
  obtain ⟨o,e',d⟩:=ho p.1 hb
  rw [e] at e';cases e'
  exact ⟨e,f0,f1,f2,d⟩
theorem Inv.unpinned {pins pl:List (Addr×Obj)}{σ:St}{H:Hp}{s:Shared}(I:Inv X (pins++pl) σ H s):Inv X pins σ H s:=I.pins_of fun p hp=>I.pin p (List.mem_append_right _ (List.mem_append_left _ hp))
theorem Dn {iter:Expr}{body:List Stmt}{wi:TI}{g:TG}{tb:TS}{pos:Pos}(hp:PassesOwn (model X.prog X.w) X.A X.env X.xe)(hc:X.calm=true)(hi:PI X tg iter wi)(hg:PG X tg g)(hb:PSs X body tb)
  (hs:∀ x,foldedSetIterable iter X.env x=pure x:=by intro _;rfl):PS X (.For tg iter body [] pos) (tX wi g tb):=by
 intro pins s σ H D I h
 refine wpAny_For (thn (hi pins s σ H _ I h) fun v s1 h1=>thn h1 fun itv s2 h2=>?_) hs
 obtain ⟨it,fp,tn,J,H2,e,I2,T,st2,f2,W,⟨m0,w0⟩,turn⟩:=h2
 subst e
 -- what stays true of the iterator's objects through the loop
 have stat:∀ {H':Hp},(∀ b∈fp,H' b=none)->∀ b∈fp,Ni X pins H' b:=fun hn b hb=>⟨hn b hb,(f2 b hb).2⟩
 refine codeAny_forLoop_any (fun n s'=>∃ i σ' H',Inv X pins σ' H' s'/\tn i s'.heap/\(∀ b∈fp,H' b=none)/\W i n σ' H') ?_ m0 ⟨0,σ,H2,I2,st2,fun b hb=>(f2 b hb).1,w0⟩
 rintro n s3 ⟨i,σ3,H3,I3,st3,fr3,w3⟩
 rcases turn i n σ3 H3 w3 with ⟨stop,qn⟩ | ⟨go,N,hN,step⟩
 ·refine wpAny_passesOwn hp (thn (T.done X rfl rfl rfl hc i pins s3 σ3 H3 X.xe I3 (stat fr3) st3 stop) fun r s4 ⟨hr,I4⟩=>?_)
  subst hr
  exact wpAny_execs_nil ⟨σ3,H3,I4,qn⟩
 ·refine wpAny_passesOwn hp (thn (T.item X rfl rfl rfl hc i pins s3 σ3 H3 X.xe I3 (stat fr3) st3 go) fun r s4 ⟨u,hr,h4⟩=>?_)
  subst hr
  refine wpAny_passesOwn hp (thn h4 fun _ s5 ⟨x,H5,I5,r5,y5,st5,fr5⟩=>?_)
  have I5':=I5.pinned (stat fr5) (T.obj _ _ st5)
  refine wpAny_passesOwn hp (thn (hg _ s5 σ3 H5 x u _ I5' r5 (step x H5 y5)) fun _ s6 ⟨σ6,H6,I6,q6⟩=>?_)
  refine wpAny_passesOwn hp (thn (hb _ s6 σ6 H6 _ I6 q6) fun f s7 q7=>?_)
  have again:∀ {σ7:St} {H7:Hp},Inv X (pins++Oi fp s5.heap) σ7 H7 s7->N σ7 H7->∃ m,m<n/\∃ i σ' H',Inv X pins σ' H' s7/\tn i s7.heap/\(∀ b∈fp,H' b=none)/\W i m σ' H':=fun {σ7 H7} I7 n7=>by
   obtain ⟨m',hm,w7⟩:=hN σ7 H7 n7
   refine ⟨m',hm,i+1,σ7,H7,I7.unpinned,T.keep _ _ _ st5 fun b hb o e=>(I7.pin (b,o) (List.mem_append_right _ (List.mem_append_right _ (F4 hb e)))).1,fun b hb=>?_,w7⟩
   obtain ⟨o,e,d⟩:=T.obj _ _ st5 b hb
   exact (I7.pin (b,o) (List.mem_append_right _ (List.mem_append_right _ (F4 hb e)))).2.1
  cases f with
  | next=>obtain ⟨σ7,H7,I7,n7⟩:=q7;exact again I7 n7
  | cont=>obtain ⟨σ7,H7,I7,n7⟩:=q7;exact again I7 n7
  | brk=>obtain ⟨σ7,H7,I7,q7⟩:=q7;exact ⟨σ7,H7,I7.unpinned,q7⟩
  | ret v=>obtain ⟨x7,σ7,H7,I7,r7,q7⟩:=q7;exact ⟨x7,σ7,H7,I7.unpinned,r7,q7⟩
end
theorem Ix {K:PySem.W.Frag}{a:Addr}{xs:List V}{g:TG}{tb:TS}{D:Kn}{σ:St}{H:Hp}(Pv:Nat->St->Hp->Prop)(h0:Pv 0 σ H)(hl:∀ i σ H,i<=xs.length->Pv i σ H->SqL K H a xs)
  (hs:∀ i x σ H,xs[i]?=some x->Pv i σ H->g x σ H fun σ2 H2=>tb { D with nx:=Pv (i+1),ct:=Pv (i+1),bk:=D.nx } σ2 H2)(hd:∀ σ H,Pv xs.length σ H->D.nx σ H) :
  ∃ W:Nat->Nat->St->Hp->Prop,(∃ m,W 0 m σ H)/\∀ i m σ H,W i m σ H ->
   ((Itl K a).stop i H/\D.nx σ H)\/((Itl K a).go i H/\∃ N:St->Hp->Prop,(∀ σ' H',N σ' H'->∃ m',m'<m/\W (i+1) m' σ' H')/\∀ x H',(Itl K a).yld i H x H'->g x σ H' fun σ2 H2=>tb { D with nx:=N,ct:=N,bk:=D.nx } σ2 H2):=by
 refine ⟨fun i m σ H=>m=xs.length-i/\i<=xs.length/\Pv i σ H,⟨xs.length,by simp,Nat.zero_le _,h0⟩,?_⟩
 rintro i m σ H ⟨rfl,hi,p⟩
 have q:=hl i σ H hi p
 by_cases hlt:i<xs.length
 ·refine .inr ⟨⟨xs,xs[i],q,by simp [hlt]⟩,Pv (i+1),fun σ' H' p'=>⟨xs.length-(i+1),by omega,rfl,hlt,p'⟩,fun x H' y=>?_⟩
  obtain ⟨e,y⟩:=y
  subst e
  exact hs i x σ _ (y xs q) p
 ·have e:i=xs.length:=by omega
  subst e
  exact .inl ⟨⟨xs,q,Nat.le_refl _⟩,hd σ H p⟩
theorem Lu {lo:Int}{n:Nat}{g:TG}{tb:TS}{D:Kn}{σ:St}{H:Hp}(Pv:Nat->St->Hp->Prop)(h0:Pv 0 σ H)
  (hs:∀ i σ H,i<n->Pv i σ H->g (.int (lo+i)) σ H fun σ2 H2=>tb { D with nx:=Pv (i+1),ct:=Pv (i+1),bk:=D.nx } σ2 H2)(hd:∀ σ H,Pv n σ H->D.nx σ H) :
  ∃ W:Nat->Nat->St->Hp->Prop,(∃ m,W 0 m σ H)/\∀ i m σ H,W i m σ H ->
   ((Itr lo n).stop i H/\D.nx σ H)\/((Itr lo n).go i H/\∃ N:St->Hp->Prop,(∀ σ' H',N σ' H'->∃ m',m'<m/\W (i+1) m' σ' H')/\∀ x H',(Itr lo n).yld i H x H'->g x σ H' fun σ2 H2=>tb { D with nx:=N,ct:=N,bk:=D.nx } σ2 H2):=by
 refine ⟨fun i m σ H=>m=n-i/\i<=n/\Pv i σ H,⟨n,by simp,Nat.zero_le _,h0⟩,?_⟩
 rintro i m σ H ⟨rfl,hi,p⟩
 by_cases hlt:i<n
 ·refine .inr ⟨hlt,Pv (i+1),fun σ' H' p'=>⟨n-(i+1),by omega,rfl,hlt,p'⟩,fun x H' y=>?_⟩
  obtain ⟨e,y⟩:=y
  subst e y
  exact hs i σ _ hlt p
 ·have e:i=n:=by omega
  subst e
  exact .inl ⟨Nat.le_refl _,hd σ H p⟩
abbrev R2:=V->V->Hp->VK->Prop
def OpR (X:Cx)(f:Value->Value->Sem Value)(r:R2):Prop :=
 ∀ (pins:List (Addr×Obj)) (s:Shared) (σ:St) (H:Hp) (x y:V) (v u:Value) (Q:VK),Inv X pins σ H s->B1 x v->B1 y u->r x y H Q ->
  wpAny (model X.prog X.w) X.A (f v u) (EP X pins σ Q) X.xe s
def UnR (X:Cx)(f:Value->Sem Value)(r:V->Hp->VK->Prop):Prop :=
 ∀ (pins:List (Addr×Obj)) (s:Shared) (σ:St) (H:Hp) (x:V) (v:Value) (Q:VK),Inv X pins σ H s->B1 x v->r x H Q ->
  wpAny (model X.prog X.w) X.A (f v) (EP X pins σ Q) X.xe s
def Hr (X:Cx)(f:Value)(r:List V->Hp->VK->Prop):Prop :=
 ∀ (pins:List (Addr×Obj)) (s:Shared) (σ:St) (H:Hp) (xs:List V) (us:List Value) (Q:VK),Inv X pins σ H s->Bi xs us->r xs H Q ->
  wpAny (model X.prog X.w) X.A (call f us) (EP X pins σ Q) X.xe s
def tOp (r:R2)(ta tb:TE):TE:=fun σ H Q=>ta σ H fun x H1=>tb σ H1 fun y H2=>r x y H2 Q
def tUn (r:V->Hp->VK->Prop)(ta:TE):TE:=fun σ H Q=>ta σ H fun x H1=>r x H1 Q
def rI (C:Int->Int->Prop)(g:Int->Int->V):R2:=fun x y H Q=>∃ i j,x=.int i/\y=.int j/\C i j/\Q (g i j) H
def rI0 (g:Int->Int->V):R2:=fun x y H Q=>∃ i j,x=.int i/\y=.int j/\Q (g i j) H
def rU (g:Int->V):V->Hp->VK->Prop:=fun x H Q=>∃ i,x=.int i/\Q (g i) H
section
variable {X:Cx} {a b c:Expr} {ta tb tc:TE} {pos:Pos}
theorem qG (ha:PE X a ta)(hb:PE X b tb){pins:List (Addr×Obj)}{s:Shared}{σ:St}{H:Hp}{R:V->V->Hp->Prop}(I:Inv X pins σ H s)
  (h:ta σ H fun x H1=>tb σ H1 fun y H2=>R x y H2){Q:Value->Shared->Prop}{f:Value->Value->Sem Value}
  (hf:∀ v u s2 x y H2,Inv X pins σ H2 s2->B1 x v->B1 y u->R x y H2->wpAny (model X.prog X.w) X.A (f v u) Q X.xe s2) :
  wpAny (model X.prog X.w) X.A (eval a X.env) (fun v s₁=>wpAny (model X.prog X.w) X.A (eval b X.env) (fun u s₂=>wpAny (model X.prog X.w) X.A (f v u) Q X.xe s₂) X.xe s₁) X.xe s:=by
 refine thn (ha pins s σ H _ I h) fun v s1 ⟨x,H1,I1,r1,q1⟩=>?_
 refine thn (hb pins s1 σ H1 _ I1 q1) fun u s2 ⟨y,H2,I2,r2,q2⟩=>?_
 exact hf v u s2 x y H2 I2 r1 r2 q2
theorem Am {op:Operator}{r:R2}(ho:OpR X (binaryOp op) r)(ha:PE X a ta)(hb:PE X b tb):PE X (.BinOp a op b pos) (tOp r ta tb):=by
 intro pins s σ H Q I h
 exact wpAny_BinOp (qG ha hb I h fun v u s2 x y H2 I2 rx ry q=>ho pins s2 σ H2 x y v u Q I2 rx ry q)
theorem E8 {op:UnaryOp}{r:V->Hp->VK->Prop}(ho:UnR X (unaryOp op) r)(ha:PE X a ta):PE X (.UnaryOp op a pos) (tUn r ta):=by
 intro pins s σ H Q I h
 exact UnaryOp_ (thn (ha pins s σ H _ I h) fun v s1 ⟨x,H1,I1,r1,q1⟩=>ho pins s1 σ H1 x v Q I1 r1 q1)
theorem opI {f:Value->Value->Sem Value}{C:Int->Int->Prop}{g:Int->Int->Int}
  (rule:∀ (i j:Int) (t u:Tok) (s:Shared) (Q:Value->Shared->Prop) (E:Value->Shared->Prop),C i j->Q (.int (g i j) s.toks) { s with toks:=s.toks+1 }->wpAny (model X.prog X.w) X.A (f (.int i t) (.int j u)) Q E s) :
  OpR X f (rI C fun i j=>.int (g i j)):=by
 intro pins s σ H x y v u Q I rx ry h
 obtain ⟨i,j,rfl,rfl,hc,q⟩:=h
 obtain ⟨t,rfl⟩:=rx
 obtain ⟨t',rfl⟩:=ry
 exact rule i j t t' s _ _ hc ⟨.int (g i j),H,I.tok _,⟨_,rfl⟩,q⟩
theorem rT {f:Value->Value->Sem Value}{g:Int->Int->Int}
  (rule:∀ (i j:Int) (t u:Tok) (s:Shared) (Q:Value->Shared->Prop) (E:Value->Shared->Prop),Q (.int (g i j) s.toks) { s with toks:=s.toks+1 }->wpAny (model X.prog X.w) X.A (f (.int i t) (.int j u)) Q E s) :
  OpR X f (rI0 fun i j=>.int (g i j)):=by
 intro pins s σ H x y v u Q I rx ry h
 obtain ⟨i,j,rfl,rfl,q⟩:=h
 obtain ⟨t,rfl⟩:=rx
 obtain ⟨t',rfl⟩:=ry
 exact rule i j t t' s _ _ ⟨.int (g i j),H,I.tok _,⟨_,rfl⟩,q⟩
theorem lH {f:Value->Value->Sem Value}{g:Int->Int->Bool}
  (rule:∀ (i j:Int) (t u:Tok) (s:Shared) (Q:Value->Shared->Prop) (E:Value->Shared->Prop),Q (.bool (g i j)) s->wpAny (model X.prog X.w) X.A (f (.int i t) (.int j u)) Q E s) :
  OpR X f (rI0 fun i j=>.bl (g i j)):=by
 intro pins s σ H x y v u Q I rx ry h
 obtain ⟨i,j,rfl,rfl,q⟩:=h
 obtain ⟨t,rfl⟩:=rx
 obtain ⟨t',rfl⟩:=ry
 exact rule i j t t' s _ _ ⟨.bl (g i j),H,I,rfl,q⟩
def tU (i j:Int):Prop:=0<j/\j<1073741824
def jE (i j:Int):Prop:=(-(2 ^ 64)<i/\i<2 ^ 64)\/(-(2 ^ 64)<j/\j<2 ^ 64)
theorem jE.ok {i j:Int}(h:jE i j):IntMulOk i j:=by
 rcases h with ⟨h1,h2⟩ | ⟨h1,h2⟩
 ·exact .of_left (intBits_le_64 h1 h2)
 ·exact .of_right (intBits_le_64 h1 h2)
theorem A7:OpR X (binaryOp .Add) (rI0 fun i j=>.int (i+j)):=rT fun _ _ _ _ _ _ _ q=>add_int q
theorem Be:OpR X (binaryOp .Sub) (rI0 fun i j=>.int (i-j)):=rT fun _ _ _ _ _ _ _ q=>sub_int q
theorem Ei:OpR X (binaryOp .Mult) (rI jE fun i j=>.int (i*j)):=opI fun _ _ _ _ _ _ _ hc q=>mul_int q hc.ok
theorem Dv:OpR X (binaryOp .FloorDiv) (rI tU fun i j=>.int (i/j)):=opI fun i j _ _ _ _ _ hc q=>by
 have h1:(0:Int)<j:=hc.1
 have h2:j<1073741824:=hc.2
 exact floordiv_int (by omega) (by rw [Int.fdiv_eq_ediv_of_nonneg i (by omega)];exact q) (.inl (PyProof.noPylong_small (by omega)))
theorem Ea:OpR X (binaryOp .Mod) (rI (fun _ j=>0<j) fun i j=>.int (i%j)):=opI fun i j _ _ _ _ _ hc q=>by
 have h1:(0:Int)<j:=hc
 exact mod_int' (by omega) (by rw [Int.fmod_eq_emod_of_nonneg i (by omega)];exact q)
theorem unI {f:Value->Sem Value}{g:Int->Int}
  (rule:∀ (i:Int) (t:Tok) (s:Shared) (Q:Value->Shared->Prop) (E:Value->Shared->Prop),Q (.int (g i) s.toks) { s with toks:=s.toks+1 }->wpAny (model X.prog X.w) X.A (f (.int i t)) Q E s) :
  UnR X f (rU fun i=>.int (g i)):=by
 intro pins s σ H x v Q I rx h
 obtain ⟨i,rfl,q⟩:=h
 obtain ⟨t,rfl⟩:=rx
 exact rule i t s _ _ ⟨.int (g i),H,I.tok _,⟨_,rfl⟩,q⟩
theorem C5:UnR X (unaryOp .USub) (rU fun i=>.int (-i)):=unI fun _ _ _ _ _ q=>neg_int q
end
def nR:V->V->Bool
 | .non,.non=>true | .non,.int _=>true | .int _,.non=>true | .non,.bl _=>true | .bl _,.non=>true | .non,.str _=>true | .str _,.non=>true
 | .int _,.int _=>true | .bl _,.bl _=>true | .str _,.str _=>true | .byt _,.byt _=>true
 | .int _,.str _=>true | .str _,.int _=>true | .bl _,.str _=>true | .str _,.bl _=>true
 | _,_=>false
def rEq:R2:=fun x y H Q=>nR x y=true/\Q (.bl (decide (x=y))) H
def rNe:R2:=fun x y H Q=>nR x y=true/\Q (.bl (!decide (x=y))) H
theorem dG {i j:Int}:decide (V.int i=V.int j)=(i==j):=by
 rw [Bool.eq_iff_iff]
 simp
theorem iA {i j:Bool}:decide (V.bl i=V.bl j)=(i==j):=by
 rw [Bool.eq_iff_iff]
 simp
theorem eW {i j:Str}:decide (V.str i=V.str j)=(i==j):=by
 rw [Bool.eq_iff_iff]
 simp
theorem dE {i j:Array UInt8}:decide (V.byt i=V.byt j)=(i.toList==j.toList):=by
 rw [Bool.eq_iff_iff]
 cases i
 cases j
 simp
section
variable {X:Cx} {a b c:Expr} {ta tb tc:TE} {pos:Pos}
theorem B2 {pins:List (Addr×Obj)}{σ:St}{H:Hp}{s:Shared}{Q:VK}{k k':Bool}(I:Inv X pins σ H s)(q:Q (.bl k) H)(e:k=k'):EP X pins σ Q (.bool k') s:=by
 subst e
 exact ⟨.bl k,H,I,rfl,q⟩
theorem Ew:OpR X (compareOp .Eq) rEq:=by
 intro pins s σ H x y v u Q I rx ry h
 obtain ⟨hs,q⟩:=h
 cases x with
 | non =>
  cases rx
  cases y with
  | non=>cases ry;exact PySem.EqNone.eq_none_none (B2 I q (by simp))
  | bl j=>cases ry;exact PySem.EqNone.eq_none_bool (B2 I q (by simp))
  | int j=>obtain ⟨t',rfl⟩:=ry;exact PySem.EqNone.eq_none_int (B2 I q (by simp))
  | str j=>obtain ⟨t',rfl⟩:=ry;exact PySem.EqNone.eq_none_str (B2 I q (by simp))
  | _=>exact absurd (show false=true from hs) Bool.false_ne_true
 | bl i =>
  cases rx
  cases y with
  | non=>cases ry;exact PySem.EqNone.eq_bool_none (B2 I q (by simp))
  | bl j=>cases ry;exact eq_bool (B2 I q iA)
  | str j=>obtain ⟨t',rfl⟩:=ry;exact PySem.EqMixed.eq_bool_str (B2 I q (by simp))
  | _=>exact absurd (show false=true from hs) Bool.false_ne_true
 | int i =>
  obtain ⟨t,rfl⟩:=rx
  cases y with
  | non=>cases ry;exact PySem.EqNone.eq_int_none (B2 I q (by simp))
  | int j=>obtain ⟨t',rfl⟩:=ry;exact eq_int (B2 I q dG)
  | str j=>obtain ⟨t',rfl⟩:=ry;exact PySem.EqMixed.eq_int_str (B2 I q (by simp))
  | _=>exact absurd (show false=true from hs) Bool.false_ne_true
 | str i =>
  obtain ⟨t,rfl⟩:=rx
  cases y with
  | non=>cases ry;exact PySem.EqNone.eq_str_none (B2 I q (by simp))
  | bl j=>cases ry;exact PySem.EqMixed.eq_str_bool (B2 I q (by simp))
  | int j=>obtain ⟨t',rfl⟩:=ry;exact PySem.EqMixed.eq_str_int (B2 I q (by simp))
  | str j=>obtain ⟨t',rfl⟩:=ry;exact eq_str (B2 I q eW)
  | _=>exact absurd (show false=true from hs) Bool.false_ne_true
 | byt i =>
  obtain ⟨t,rfl⟩:=rx
  cases y with
  | byt j=>obtain ⟨t',rfl⟩:=ry;exact PySem.W.eq_bytes (B2 I q dE)
  | _=>exact absurd (show false=true from hs) Bool.false_ne_true
 | _=>cases y<;>exact absurd (show false=true from hs) Bool.false_ne_true
theorem Tu:OpR X (compareOp .NotEq) rNe:=by
 intro pins s σ H x y v u Q I rx ry h
 obtain ⟨hs,q⟩:=h
 cases x with
 | non =>
  cases rx
  cases y with
  | non=>cases ry;exact PySem.EqNone.ne_none_none (B2 I q (by simp))
  | bl j=>cases ry;exact PySem.EqNone.ne_none_bool (B2 I q (by simp))
  | int j=>obtain ⟨t',rfl⟩:=ry;exact PySem.EqNone.ne_none_int (B2 I q (by simp))
  | str j=>obtain ⟨t',rfl⟩:=ry;exact PySem.EqNone.ne_none_str (B2 I q (by simp))
  | _=>exact absurd (show false=true from hs) Bool.false_ne_true
 | bl i =>
  cases rx
  cases y with
  | non=>cases ry;exact PySem.EqNone.ne_bool_none (B2 I q (by simp))
  | bl j=>cases ry;exact ne_bool (B2 I q (congrArg not iA))
  | str j=>obtain ⟨t',rfl⟩:=ry;exact PySem.EqMixed.ne_bool_str (B2 I q (by simp))
  | _=>exact absurd (show false=true from hs) Bool.false_ne_true
 | int i =>
  obtain ⟨t,rfl⟩:=rx
  cases y with
  | non=>cases ry;exact PySem.EqNone.ne_int_none (B2 I q (by simp))
  | int j=>obtain ⟨t',rfl⟩:=ry;exact ne_int (B2 I q (congrArg not dG))
  | str j=>obtain ⟨t',rfl⟩:=ry;exact PySem.EqMixed.ne_int_str (B2 I q (by simp))
  | _=>exact absurd (show false=true from hs) Bool.false_ne_true
 | str i =>
  obtain ⟨t,rfl⟩:=rx
  cases y with
  | non=>cases ry;exact PySem.EqNone.ne_str_none (B2 I q (by simp))
  | bl j=>cases ry;exact PySem.EqMixed.ne_str_bool (B2 I q (by simp))
  | int j=>obtain ⟨t',rfl⟩:=ry;exact PySem.EqMixed.ne_str_int (B2 I q (by simp))
  | str j=>obtain ⟨t',rfl⟩:=ry;exact ne_str (B2 I q (congrArg not eW))
  | _=>exact absurd (show false=true from hs) Bool.false_ne_true
 | byt i =>
  obtain ⟨t,rfl⟩:=rx
  cases y with
  | byt j=>obtain ⟨t',rfl⟩:=ry;exact PySem.W.ne_bytes (B2 I q (congrArg not dE))
  | _=>exact absurd (show false=true from hs) Bool.false_ne_true
 | _=>cases y<;>exact absurd (show false=true from hs) Bool.false_ne_true
theorem Fy:OpR X (compareOp .Lt) (rI0 fun i j=>.bl (decide (i<j))):=lH fun _ _ _ _ _ _ _ q=>lt_int q
theorem Ko:OpR X (compareOp .LtE) (rI0 fun i j=>.bl (decide (i<=j))):=lH fun _ _ _ _ _ _ _ q=>le_int q
theorem Mb:OpR X (compareOp .Gt) (rI0 fun i j=>.bl (decide (j<i))):=lH fun _ _ _ _ _ _ _ q=>gt_int q
theorem O5:OpR X (compareOp .GtE) (rI0 fun i j=>.bl (decide (j<=i))):=lH fun _ _ _ _ _ _ _ q=>ge_int q
theorem Ax (b:Expr){op:CmpOp}(h:op≠.In:=by decide)(h2:op≠.NotIn:=by decide):behindInMarks op b=false:=by
 have e1:(op==CmpOp.In)=false:=by cases op<;>first | rfl | exact absurd rfl h
 have e2:(op==CmpOp.NotIn)=false:=by cases op<;>first | rfl | exact absurd rfl h2
 cases b<;>simp [behindInMarks,e1,e2]
theorem C2 {op:CmpOp}{r:R2}(ho:OpR X (compareOp op) r)(ha:PE X a ta)(hb:PE X b tb)(hm:behindInMarks op b=false):PE X (.Compare a [op] [b] pos) (tOp r ta tb):=by
 intro pins s σ H Q I h
 exact wpAny_Compare1 (qG ha hb I h fun v u s2 x y H2 I2 rx ry q=>ho pins s2 σ H2 x y v u Q I2 rx ry q) hm
def kE (t:TE):TT:=fun σ H Q=>t σ H fun x H'=>∃ k,x=.bl k/\Q k H'
theorem Av {op:CmpOp}{r:R2}(ho:OpR X (compareOp op) r)(ha:PE X a ta)(hb:PE X b tb)(hm:behindInMarks op b=false):PT X (.Compare a [op] [b] pos) (kE (tOp r ta tb)):=by
 intro pins s σ H Q I h
 refine wpAny_isTrue_Compare1 (thn (ha pins s σ H _ I h) fun v s1 ⟨x,H1,I1,r1,q1⟩=>thn (hb pins s1 σ H1 _ I1 q1) fun u s2 ⟨y,H2,I2,r2,q2⟩ =>
  thn (ho pins s2 σ H2 x y v u _ I2 r1 r2 q2) fun c s3 ⟨z,H3,I3,r3,k,e,q3⟩=>?_) hm
 subst e
 cases r3
 exact wpAny_truthy_bool ⟨H3,I3,q3⟩
def cA (r r':R2)(ta tb tc:TE):TE:=fun σ H Q=>ta σ H fun x H1=>tb σ H1 fun y H2=>r x y H2 fun z H3=>∃ k,z=.bl k /\
 (if k=true then tc σ H3 fun w' H4=>r' y w' H4 Q else Q (.bl false) H3)
theorem Xw {op op':CmpOp}{r r':R2}(ho:OpR X (compareOp op) r)(ho':OpR X (compareOp op') r')(ha:PE X a ta)(hb:PE X b tb)(hc:PE X c tc)
  (hm:lastMarks [op,op'] [b,c]=false:=by with_unfolding_all rfl):PE X (.Compare a [op,op'] [b,c] pos) (cA r r' ta tb tc):=by
 intro pins s σ H Q I h
 refine Compare_chain (thn (ha pins s σ H _ I h) fun v s1 ⟨x,H1,I1,r1,q1⟩=>chain_link (thn (hb pins s1 σ H1 _ I1 q1) fun u s2 ⟨y,H2,I2,r2,q2⟩ =>
  thn (ho pins s2 σ H2 x y v u _ I2 r1 r2 q2) fun d s3 ⟨z,H3,I3,r3,k,e,q3⟩=>?_)) hm
 subst e
 cases r3
 refine wpAny_truthy_bool ?_
 cases k with
 | false=>exact ite_ff ⟨.bl false,H3,I3,rfl,q3⟩
 | true=>exact ite_tt (chain_last (thn (hc pins s3 σ H3 _ I3 q3) fun w' s4 ⟨z',H4,I4,r4,q4⟩=>ho' pins s4 σ H4 y z' u w' Q I4 r2 r4 q4))
theorem Yj {op op':CmpOp}{r r':R2}(ho:OpR X (compareOp op) r)(ho':OpR X (compareOp op') r')(ha:PE X a ta)(hb:PE X b tb)(hc:PE X c tc)
  (hm:lastMarks [op,op'] [b,c]=false:=by with_unfolding_all rfl):PT X (.Compare a [op,op'] [b,c] pos) (kE (cA r r' ta tb tc)):=by
 intro pins s σ H Q I h
 refine isTrue_chain (thn (ha pins s σ H _ I h) fun v s1 ⟨x,H1,I1,r1,q1⟩=>test_link (thn (hb pins s1 σ H1 _ I1 q1) fun u s2 ⟨y,H2,I2,r2,q2⟩ =>
  thn (ho pins s2 σ H2 x y v u _ I2 r1 r2 q2) fun d s3 ⟨z,H3,I3,r3,k,e,q3⟩=>?_)) hm
 subst e
 cases r3
 refine wpAny_truthy_bool ?_
 cases k with
 | false =>
  obtain ⟨k',e',q'⟩:=q3
  cases e'
  exact ite_ff ⟨H3,I3,q'⟩
 | true =>
  refine ite_tt (test_last (thn (hc pins s3 σ H3 _ I3 q3) fun w' s4 ⟨z',H4,I4,r4,q4⟩=>thn (ho' pins s4 σ H4 y z' u w' _ I4 r2 r4 q4) fun d' s5 ⟨z2,H5,I5,r5,k2,e2,q5⟩=>?_))
  subst e2
  cases r5
  exact wpAny_truthy_bool ⟨H5,I5,q5⟩
theorem N9:(sizeLine:Nat)<2 ^ 63:=by rw [sizeLine_eq];decide
theorem Ge:OpR X (binaryOp .Add) (fun x y H Q=>∃ i j,x=.str i/\y=.str j/\i.length+j.length<=sizeLine/\Q (.str (i++j)) H):=by
 intro pins s σ H x y v u Q I rx ry h
 obtain ⟨i,j,rfl,rfl,hz,q⟩:=h
 obtain ⟨t,rfl⟩:=rx
 obtain ⟨t',rfl⟩:=ry
 exact add_str (fun t' tk=>⟨.str (i++j),H,I.tok _,⟨_,rfl⟩,q⟩) hz
theorem Fd {x:V}{us:List Value}(r:Bi [x] us):∃ u,us=[u]/\B1 x u:=by
 cases r with
 | cons r1 r2=>cases r2;exact ⟨_,rfl,r1⟩
theorem Xm {x y:V}{us:List Value}(r:Bi [x,y] us):∃ u w',us=[u,w']/\B1 x u/\B1 y w':=by
 cases r with
 | cons r1 r2 =>
  cases r2 with
  | cons r3 r4=>cases r4;exact ⟨_,_,rfl,r1,r3⟩
theorem kL:Hr X (.builtin "abs") (fun xs H Q=>∃ i,xs=[.int i]/\Q (.int (if i<0 then -i else i)) H):=by
 intro pins s σ H xs us Q I r h
 obtain ⟨i,rfl,q⟩:=h
 obtain ⟨u,rfl,t,rfl⟩:=Fd r
 exact call_abs_int fun u tk=>⟨.int (if i<0 then -i else i),H,I.tok _,⟨_,rfl⟩,q⟩
theorem Oc (hc:X.calm=true):Hr X (.builtin "max") (fun xs H Q=>∃ i j,xs=[.int i,.int j]/\Q (.int (if j>i then j else i)) H):=by
 intro pins s σ H xs us Q I r h
 obtain ⟨i,j,rfl,q⟩:=h
 obtain ⟨u,w',rfl,⟨t,rfl⟩,⟨t',rfl⟩⟩:=Xm r
 refine max_two_ints (I.ok.hd hc) fun h' tk k=>⟨_,H,I.kept k,?_,q⟩
 by_cases hj:j>i
 ·rw [if_pos hj,if_pos hj];exact ⟨_,rfl⟩
 ·rw [if_neg hj,if_neg hj];exact ⟨_,rfl⟩
theorem Tq (hc:X.calm=true):Hr X (.builtin "min") (fun xs H Q=>∃ i j,xs=[.int i,.int j]/\Q (.int (if j<i then j else i)) H):=by
 intro pins s σ H xs us Q I r h
 obtain ⟨i,j,rfl,q⟩:=h
 obtain ⟨u,w',rfl,⟨t,rfl⟩,⟨t',rfl⟩⟩:=Xm r
 refine min_two_ints (I.ok.hd hc) fun h' tk k=>⟨_,H,I.kept k,?_,q⟩
 by_cases hj:j<i
 ·rw [if_pos hj,if_pos hj];exact ⟨_,rfl⟩
 ·rw [if_neg hj,if_neg hj];exact ⟨_,rfl⟩
theorem Ff:Hr X (.type "int") (fun xs H Q=>(∃ i,xs=[.int i]/\Q (.int i) H)\/∃ k,xs=[.bl k]/\Q (.int (if k then 1 else 0)) H):=by
 intro pins s σ H xs us Q I r h
 rcases h with ⟨i,rfl,q⟩ | ⟨k,rfl,q⟩
 ·obtain ⟨u,rfl,t,rfl⟩:=Fd r
  exact call_int_int ⟨.int i,H,I,⟨_,rfl⟩,q⟩
 ·obtain ⟨u,rfl,r1⟩:=Fd r
  cases r1
  exact call_int_bool ⟨.int (if k then 1 else 0),H,I.tok _,⟨_,rfl⟩,q⟩
end
structure cN (h:Heap) (x dx C:Addr) (mA:Str->Option Value):Prop where
 obj:h.get? x=some (instObj C dx)
 ns:h.Ns1 dx mA
 ne:dx≠x
theorem fL {h:Heap}{dx:Addr}{mA:Str->Option Value}(n:h.Ns1 dx mA):∃ od,h.get? dx=some od/\∀ name,lookIn name od=some (mA name):=by
 obtain ⟨o,es,ep,ho,hd,hk,_,hm⟩:=n
 refine ⟨o,ho,fun name=>?_⟩
 have e:=hm name
 unfold nsFind findBy at e
 rw [<- Array.find?_toList] at e
 unfold lookIn
 rw [hd]
 dsimp only
 split
 ·rename_i y q
  rw [q] at e
  exact congrArg some e
 ·rename_i q
  rw [q] at e
  have a:es.toList.any (·.refKey)=false:=by
   rw [List.any_eq_false]
   intro y hy
   obtain ⟨z,t,hkey⟩:=hk y (Array.mem_toList_iff.mp hy)
   simp [DictEntry.refKey,hkey]
  have a':¬ es.toList.any (·.refKey)=true:=by rw [a];exact Bool.false_ne_true
  rw [if_neg a']
  exact congrArg some e
theorem cN.look {h:Heap}{x dx C:Addr}{mA:Str->Option Value}(I:cN h x dx C mA):∃ od,PySem.W.InstAt h x (instObj C dx) C (some od)/\∀ name,lookIn name od=some (mA name) :=
 let ⟨od,ho,hl⟩:=fL I.ns
 ⟨od,⟨I.obj,rfl,rfl,ho⟩,hl⟩
section
variable {prog:Program} {w:World} {A:Around} {E:Value->Shared->Prop} {s:Shared} {K:PySem.W.Frag} {x dx C f:Addr} {mA:Str->Option Value} {name:Str} {v:Value}
theorem nB {expr:Bool}{Q:Value->Shared->Prop}(X:K.In s.heap)(I:cN s.heap x dx C mA)(hg:PySem.W.plainGet K C name=true)(hh:PySem.W.hasDictIn K C=true)
  (ha:PySem.W.findIn K (.ref C) name=some none)(hv:mA name=some v)(hv':PySem.W.handedIn v=true)(h:Q v { s with toks:=s.toks+1 }) :
  wpAny (model prog w) A (getAttr (.ref x) name expr) Q E s:=by
 obtain ⟨od,J,hl⟩:=I.look
 exact PySem.W.get_value X J (PySem.W.plainGet_of hg).1 (PySem.W.findObj_own hh ha rfl (by rw [hl,hv])) hv' h
theorem lG {pl:Sem Bool}{Q:Value×List Value->Shared->Prop}(X:K.In s.heap)(I:cN s.heap x dx C mA)(hg:PySem.W.plainGet K C name=true)
  (hf:PySem.W.findIn K (.ref C) name=some (some (.ref f)))(ht:PySem.W.isFn K (.ref f)=true)(hv:mA name=none)(h:Q (.ref f,[.ref x]) s) :
  wpAny (model prog w) A (getMethod (.ref x) name pl) Q E s:=by
 obtain ⟨od,J,hl⟩:=I.look
 exact PySem.W.method_fn X J (PySem.W.plainGet_of hg).1 (PySem.W.plainGet_of hg).2 hf (beq_iff_eq.mp ht) (by show (lookIn name od).map (·.isSome)=some false;rw [hl,hv];rfl) h
theorem lT {ns:List Str}{Q:Unit->Shared->Prop}(X:K.In s.heap)(I:cN s.heap x dx C mA)
  (hs:PySem.W.findIn K (.ref C) "__setattr__"=some (some (.builtin "object.__setattr__")))(hp:PySem.W.plainOver K C=true)(ht:PySem.W.takerIn K C name=some none)(hh:PySem.W.hasDictIn K C=true)
  (hw:PySem.Within mA ns)(hsz:ns.length<=sizeLine)
  (h:∀ h',cN h' x dx C (fun y=>if y=name then some v else mA y)->Heap.SameBut dx s.heap h'->Q () { s with heap:=h',toks:=s.toks+2 }) :
  wpAny (model prog w) A (setAttr (.ref x) name v) Q E s:=by
 obtain ⟨od,J,hl⟩:=I.look
 refine PySem.W.set_plain X J hs (PySem.W.osa_open (s:={ s with toks:=s.toks+1 }) (r:=none) X J hp ht fun b=>?_)
 obtain ⟨cd,hc,hd'⟩:=PySem.W.any_some hh
 have hx:s.heap.get? x=some ⟨.ref C,some dx,.plain,#[]⟩:=I.obj
 refine wpAny_bind (wpAny_pure (wpAny_bind (wpAny_bind (wpAny_loadPart hx (wpAny_bind (PySem.W.Looks.here (s:={ s with toks:=s.toks+1 }) (PySem.W.looks_clsIn X hc) ?_))))))
 rw [hd']
 refine wpAny_pure (a:=some dx) (wpAny_bind (wpAny_pure (wpAny_bind ?_)))
 refine wpAny_nsSet1 (s:={ s with toks:=s.toks+1 }) I.ns fun h' hn2 hs2=>?_
 obtain ⟨oD,esD,epD,hoD,hdD,hcD⟩:=hn2.count (PySem.Within.cons name v hw)
 refine wpAny_bind (wpAny_lookBehind hoD (by rw [hdD];exact pastItsLine_dict (Nat.le_trans hcD (by rw [List.length_cons];omega))) ?_)
 exact wpAny_pure (h _ ⟨(hs2.2 _ (Ne.symm I.ne)).trans I.obj,hn2,I.ne⟩ hs2)
theorem iE {R:Result->Shared->Prop}{vs:List Value}{kw:List (Str×Value)}(X:K.In s.heap)(hm:PySem.W.makesIn K C=true)
  (hi:PySem.W.findIn K (.ref C) "__init__"=some (some (.ref f)))(hf:PySem.W.typeIn K (.ref f)=some (.type "function"))
  (h:codeAny (model prog w) (A.under (.builtin "type.__call__" ⟨.ref C::vs,kw⟩)) (.call (.ref f) ⟨.ref (s.heap.objs.size+1)::vs,kw⟩) (PySem.W.InitBack (s.heap.objs.size+1) R)
   { s with heap:=(s.heap.push emptyDict).push (instObj C s.heap.objs.size) }) :
  codeAny (model prog w) A (.call (.ref C) ⟨vs,kw⟩) R s:=by
 obtain ⟨hh,g,d,t,os⟩:=s
 exact PySem.W.make_core (PySem.W.makes_of X hm) (PySem.W.looks_findIn X hi) (fun self=>PySem.W.bind_fn X self hf) (.inl rfl) h
end
def Cl (f : Str)(v : V) : List (Str × V)->List (Str × V)
  | [] => [(f, v)]
  | (g, x) :: r => if g = f then (g, v) :: r else (g, x) :: Cl f v r
theorem O6 (f g:Str)(v:V):∀ fs:List (Str×V),(Cl f v fs).lookup g=if g=f then some v else fs.lookup g
  | [] => by
    show List.lookup g [(f, v)] = _
    by_cases h : g = f
    · have hb : (g == f) = true := beq_iff_eq.mpr h
      simp only [List.lookup, hb, if_pos h]
    · have hb : (g == f) = false := beq_eq_false_iff_ne.mpr h
      simp only [List.lookup, hb, if_neg h]
  | (k, x) :: r => by
    have ih := O6 f g v r
    rw [show Cl f v ((k, x) :: r) = (if k = f then (k, v) :: r else (k, x) :: Cl f v r) from rfl]
    by_cases hk : k = f
    · rw [if_pos hk]
      by_cases h : g = k
      · have hb : (g == k) = true := beq_iff_eq.mpr h
        simp only [List.lookup, hb, if_pos (h.trans hk)]
      · have hb : (g == k) = false := beq_eq_false_iff_ne.mpr h
        simp only [List.lookup, hb, if_neg (fun e : g = f => h (e.trans hk.symm))]
    · rw [if_neg hk]
      by_cases h : g = k
      · have hb : (g == k) = true := beq_iff_eq.mpr h
        simp only [List.lookup, hb, if_neg (fun e : g = f => hk (h.symm.trans e))]
      · have hb : (g == k) = false := beq_eq_false_iff_ne.mpr h
        simp only [List.lookup, hb]
        exact ih
theorem N6 (f:Str)(v:V):∀ fs:List (Str×V),f∈(Cl f v fs).map (·.1)/\∀ g,g∈fs.map (·.1)->g∈(Cl f v fs).map (·.1)
  | [] => ⟨by simp [Cl], fun g h => by simp at h⟩
  | (k, x) :: r => by
    obtain ⟨i1, i2⟩ := N6 f v r
    rw [show Cl f v ((k, x) :: r) = (if k = f then (k, v) :: r else (k, x) :: Cl f v r) from rfl]
    by_cases hk : k = f
    · rw [if_pos hk]
      subst hk
      exact ⟨by simp, fun g h => by simpa using h⟩
    · rw [if_neg hk]
      refine ⟨?_, fun g h => ?_⟩
      · rw [List.map_cons]
        exact List.mem_cons_of_mem _ i1
      · rw [List.map_cons] at h ⊢
        rcases List.mem_cons.mp h with e | e
        · exact List.mem_cons.mpr (.inl e)
        · exact List.mem_cons_of_mem _ (i2 g e)
theorem O7 (f:Str)(v:V):∀ fs:List (Str×V),(Cl f v fs).length<=fs.length+1
  | [] => by simp [Cl]
  | (k, x) :: r => by
    have ih := O7 f v r
    rw [show Cl f v ((k, x) :: r) = (if k = f then (k, v) :: r else (k, x) :: Cl f v r) from rfl]
    by_cases hk : k = f
    · rw [if_pos hk, List.length_cons, List.length_cons]; omega
    · rw [if_neg hk, List.length_cons, List.length_cons]; omega
theorem Tg.some_of {v:V}{o:Option Value}(r:Tg (some v) o):∃ u,o=some u/\B1 v u:=by
 cases o with
 | none=>exact (show False from r).elim
 | some u=>exact ⟨u,rfl,r⟩
theorem Tg.none_of {o:Option Value}(r:Tg none o):o=none:=by
 cases o with
 | none=>rfl
 | some u=>exact (show False from r).elim
theorem fY {v:V}{u:Value}(r:B1 v u):PySem.W.handedIn u=true:=by
 cases v with
 | non=>cases (show u=Value.none from r);rfl
 | bl b=>cases (show u=Value.bool b from r);rfl
 | int i=>obtain ⟨t,e⟩:=(show ∃ t,u=Value.int i t from r);cases e;rfl
 | str x=>obtain ⟨t,e⟩:=(show ∃ t,u=Value.str x t from r);cases e;rfl
 | byt b=>obtain ⟨t,e⟩:=(show ∃ t,u=Value.bytes b t from r);cases e;rfl
 | flt b=>obtain ⟨t,e⟩:=(show ∃ t,u=Value.float b t from r);cases e;rfl
 | ref a=>cases (show u=Value.ref a from r);rfl
 | ty n=>cases (show u=Value.type n from r);rfl
section
variable {P:Program} {w:World} {H H':Hp} {h h':Heap} {a C dx:Addr} {fs fs':List (Str×V)}
theorem Pn (hok:HOk P w H h)(e:H a=some (.ins C dx fs)):∃ mA,cN h a dx C mA/\(∀ f,Tg (fs.lookup f) (mA f))/\PySem.Within mA (fs.map (·.1))/\fs.length<=1000/\H dx=some (.own a):=by
 obtain ⟨d,z,ne,ob,mA,n,r,q⟩:=(show Eu P w H h a (.ins C dx fs) from hok a _ e)
 exact ⟨mA,⟨ob,n,ne⟩,r,q,z,d⟩
end
structure Cls (K:PySem.W.Frag) (C:Addr):Prop where
 pg:PySem.W.plainGet K C Str.empty=true
 hd:PySem.W.hasDictIn K C=true
 po:PySem.W.plainOver K C=true
 sa:PySem.W.findIn K (.ref C) "__setattr__"=some (some (.builtin "object.__setattr__"))
theorem Cls.get {K:PySem.W.Frag}{C:Addr}(c:Cls K C)(f:Str):PySem.W.plainGet K C f=true:=c.pg
def Ch (K:PySem.W.Frag)(C:Addr)(f:Str):Prop:=PySem.W.findIn K (.ref C) f=some none
theorem Ch.taker {K:PySem.W.Frag}{C:Addr}{f:Str}(n:Ch K C f):PySem.W.takerIn K C f=some none:=by
 unfold PySem.W.takerIn
 rw [show PySem.W.findIn K (.ref C) f=some none from n]
 rfl
structure nO (K:PySem.W.Frag) (C:Addr) (m:Str) (f:Addr):Prop where
 at_:PySem.W.findIn K (.ref C) m=some (some (.ref f))
 fn:PySem.W.isFn K (.ref f)=true
 kp:PySem.W.keepIn K (.ref f)=true
section
variable {X:Cx} {pins:List (Addr×Obj)} {σ:St} {H:Hp} {s:Shared} {a C dx:Addr} {fs:List (Str×V)} {f:Str} {v:V} {A:Around} {E:Value->Shared->Prop}
theorem cC {b:Bool}{Q:Value->Shared->Prop}(I:Inv X pins σ H s)(e:H a=some (.ins C dx fs))(c:Cls X.K C)(n:Ch X.K C f)(l:fs.lookup f=some v)
  (h:∀ u s',Inv X pins σ H s'->B1 v u->Q u s'):wpAny (model X.prog X.w) A (getAttr (.ref a) f b) Q E s:=by
 obtain ⟨mA,O,r,_,_,_⟩:=Pn I.hok e
 obtain ⟨u,hu,ru⟩:=Tg.some_of (v:=v) (o:=mA f) (by rw [<- l];exact r f)
 exact nB I.kIn O (c.get f) c.hd n hu (fY ru) (h u _ (I.tok _) ru)
theorem Sa {m:Str}{g:Addr}{pl:Sem Bool}{Q:Value×List Value->Shared->Prop}(I:Inv X pins σ H s)(e:H a=some (.ins C dx fs))(c:Cls X.K C)(k:nO X.K C m g)(l:fs.lookup m=none)
  (h:Q (.ref g,[.ref a]) s):wpAny (model X.prog X.w) A (getMethod (.ref a) m pl) Q E s:=by
 obtain ⟨mA,O,r,_,_,_⟩:=Pn I.hok e
 have hn:mA m=none:=Tg.none_of (by rw [<- l];exact r m)
 exact lG I.kIn O (c.get m) k.at_ k.fn hn h
theorem Zx {y:V}{u:Value}{Q:Unit->Shared->Prop}(I:Inv X pins σ H s)(e:H a=some (.ins C dx fs))(c:Cls X.K C)(n:Ch X.K C f)(hl:fs.length<1000)(ry:B1 y u)
  (h:∀ s',Inv X pins σ (upd H a (.ins C dx (Cl f y fs))) s'->Q () s'):wpAny (model X.prog X.w) A (setAttr (.ref a) f u) Q E s:=by
 obtain ⟨mA,O,r,wi,_,ho⟩:=Pn I.hok e
 have hz:(fs.map (·.1)).length<=sizeLine:=by rw [List.length_map,sizeLine_eq];omega
 refine lT I.kIn O c.sa c.po n.taker c.hd wi hz fun h' O' sb=>h _ ?_
 have hd:∃ o,h'.get? dx=some o:=let ⟨o,_,_,e',_⟩:=O'.ns;⟨o,e'⟩
 refine I.write (x:=a) (e:=dx) (by rw [e];exact True.intro) (.inr ho) (fun b q hb z=>(sb.2 b hb).trans z) hd ?_
 refine ⟨by rw [Aw O.ne];exact ho,?_,O.ne,O'.obj,_,O'.ns,fun g=>?_,fun g hg=>?_⟩
 ·have:=O7 f y fs;omega
 ·show Tg ((Cl f y fs).lookup g) (if g=f then some u else mA g)
  rw [O6]
  by_cases q:g=f
  ·rw [if_pos q,if_pos q];exact ry
  ·rw [if_neg q,if_neg q];exact r g
 ·by_cases q:g=f
  ·rw [q];exact (N6 f y fs).1
  ·refine (N6 f y fs).2 g (wi g fun z=>hg ?_)
   show (if g=f then some u else mA g)=none
   rw [if_neg q];exact z
theorem Inv.made (I:Inv X pins σ H s):Inv X pins σ (upd (upd H s.heap.objs.size (.own (s.heap.objs.size+1))) (s.heap.objs.size+1) (.ins C s.heap.objs.size []))
  { s with heap:=(s.heap.push emptyDict).push (instObj C s.heap.objs.size) }:=by
 have e1:(s.heap.push emptyDict).get? s.heap.objs.size=some emptyDict:=Heap.get?_push_size s.heap rfl
 have e2:((s.heap.push emptyDict).push (instObj C s.heap.objs.size)).get? (s.heap.objs.size+1)=some (instObj C s.heap.objs.size):=by
  have:=Heap.get?_push_size (s.heap.push emptyDict) (o:=instObj C s.heap.objs.size) rfl
  rwa [Heap.size_push] at this
 have e3:(s.heap.push emptyDict).Ns s.heap.objs.size (fun _=>none):=⟨emptyDict,#[],_,e1,rfl,(fun e he=>absurd he (by simp)),fun _=>rfl⟩
 have I1:=I.laid (a:=s.heap.objs.size) (o:=.own (s.heap.objs.size+1)) (h':=s.heap.push emptyDict) (t':=s.toks) (fun b u q=>Heap.get?_push_of_some _ q) (Nat.le_refl _) ⟨_,e1⟩
 refine I1.laid (a:=s.heap.objs.size+1) (o:=.ins C s.heap.objs.size []) (t':=s.toks) (fun b u q=>Heap.get?_push_of_some _ q) (Nat.le_of_eq (Heap.size_push _ _)) ?_
 have ne:s.heap.objs.size≠s.heap.objs.size+1:=Nat.ne_of_lt (Nat.lt_succ_self _)
 refine ⟨by rw [Aw ne,Ae],Nat.zero_le _,ne,e2,fun _=>none,(Heap.Ns1.of_empty e3).at fun o q=>Heap.get?_push_of_some _ q,fun _=>True.intro,fun y hy=>absurd rfl hy⟩
theorem mJ {prog:Program}{w:World}{env:Env}{e:Expr}{f:Str}{pos:Pos}{s:Shared}{Q:Value->Shared->Prop}(hb:attributeBase e f env (eval e env)=eval e env)
  (h:wpAny (model prog w) A (eval e env) (fun o s₁=>wpAny (model prog w) A (getAttr o f true) Q E s₁) E s):wpAny (model prog w) A (eval (.Attribute e f pos) env) Q E s :=
 Attribute_any_ h (by rw [arm_eval_Attribute,hb])
end
def rF (K:PySem.W.Frag)(ta:TE)(f:Str):TE:=fun σ H Q=>ta σ H fun x H1=>∃ a C dx fs v,x=.ref a/\H1 a=some (.ins C dx fs)/\Cls K C/\Ch K C f/\fs.lookup f=some v/\Q v H1
def rY (K:PySem.W.Frag)(ta tv:TE)(f:Str):TS:=fun D σ H=>tv σ H fun y H1=>ta σ H1 fun x H2=>∃ a C dx fs,x=.ref a/\H2 a=some (.ins C dx fs)/\Cls K C/\Ch K C f/\fs.length<1000 /\
 D.nx σ (upd H2 a (.ins C dx (Cl f y fs)))
section
variable {X:Cx} {o e value:Expr} {f:Str} {pos pos' tpos:Pos} {ta tv:TE}
theorem A6 (he:PE X e ta)(hb:attributeBase e f X.env (eval e X.env)=eval e X.env):PE X (.Attribute e f pos) (rF X.K ta f):=by
 intro pins s σ H Q I h
 refine mJ hb (thn (he pins s σ H _ I h) fun u s1 ⟨x,H1,I1,rx,a,C,dx,fs,v,ex,ea,c,n,l,q⟩=>?_)
 subst ex
 obtain rfl:u=Value.ref a:=rx
 exact cC I1 ea c n l fun u' s2 I2 ru=>⟨v,H1,I2,ru,q⟩
theorem F9 (ha:PE X o ta)(hv:PE X value tv)(hs:swapsWith value (some (.Attribute o f pos')) pos.line X.env=pure false):PS X (.Assign [.Attribute o f pos'] value pos) (rY X.K ta tv f):=by
 intro pins s σ H D I h
 refine plainObj_wpAny_Assign_Attribute (thn (hv pins s σ H _ I h) fun u s1 ⟨y,H1,I1,ry,q⟩=>thn (ha pins s1 σ H1 _ I1 q) fun ov s2 ⟨x,H2,I2,rx,a,C,dx,fs,ex,ea,c,n,l,q2⟩=>?_) hs
 subst ex
 obtain rfl:ov=Value.ref a:=rx
 exact Zx I2 ea c n l ry fun s3 I3=>⟨σ,_,I3,q2⟩
end
section
variable {X:Cx} {pins:List (Addr×Obj)} {σ:St} {H:Hp} {s:Shared} {A:Around} {E:Value->Shared->Prop} {Q:Value->Shared->Prop} {c:Value} {b:Bool}
inductive N2 (K:PySem.W.Frag) (H:Hp):V->Value->Prop where
 | non:N2 K H .non (.type "NoneType")
 | bl (x:Bool):N2 K H (.bl x) (.type "bool")
 | int (i:Int):N2 K H (.int i) (.type "int")
 | str (x:Str):N2 K H (.str x) (.type "str")
 | flt (x:UInt64):N2 K H (.flt x) (.type "float")
 | lst {a:Addr} {xs:List V} (e:H a=some (.lst xs)):N2 K H (.ref a) (.type "list")
 | frz {a:Addr} {o:Obj} {xs:List V} (e:H a=some (.frz o (.lst xs))):N2 K H (.ref a) (.type "list")
 | tup {a:Addr} {xs:List V} (e:H a=some (.tup xs)):N2 K H (.ref a) (.type "tuple")
 | dK {a:Addr} {kvs:List (Key×V)} (e:H a=some (.dK kvs)):N2 K H (.ref a) (.type "dict")
 | dT {a:Addr} {kvs:List (List Key×V)} (e:H a=some (.dT kvs)):N2 K H (.ref a) (.type "dict")
 | ins {a C dx:Addr} {fs:List (Str×V)} (e:H a=some (.ins C dx fs)) (cl:Cls K C) (ha:PySem.W.findIn K (.ref C) "__class__"=some (some (.builtin "object.__class__")))
   (hn:PySem.W.specialIn K (.builtin "object.__class__") "__get__"=some (some (.builtin "getset_descriptor.__get__"))) (htk:PySem.W.takesIn K (.builtin "object.__class__")=some true)
   (hm:PySem.W.mroIn K C (.type "object")=some true):N2 K H (.ref a) (.ref C)
theorem gE {x:V}{u t:Value}(I:Inv X pins σ H s)(rx:B1 x u)(ty:N2 X.K H x t)(e:kitOne X.K t c=some b)(h:∀ tk,Q (.bool b) { s with toks:=tk }) :
  wpAny (model X.prog X.w) A (call (.builtin "isinstance") [u,c]) Q E s:=by
 cases ty with
 | non=>cases (show u=Value.none from rx);exact kia_one PySem.W.kitx_none I.kIn True.intro e (fun z=>nomatch z) h
 | bl y=>cases (show u=Value.bool y from rx);exact kia_one PySem.W.kitx_bool I.kIn True.intro e (fun z=>nomatch z) h
 | int i=>obtain ⟨t,q⟩:=(show ∃ t,u=Value.int i t from rx);cases q;exact kia_one PySem.W.kitx_int I.kIn True.intro e (fun z=>nomatch z) h
 | str y=>obtain ⟨t,q⟩:=(show ∃ t,u=Value.str y t from rx);cases q;exact kia_one PySem.W.kitx_str I.kIn True.intro e (fun z=>nomatch z) h
 | flt y=>obtain ⟨t,q⟩:=(show ∃ t,u=Value.float y t from rx);cases q;exact kia_one PySem.W.kitx_float I.kIn True.intro e (fun z=>nomatch z) h
 | @lst a xs ea =>
  cases (show u=Value.ref a from rx)
  obtain ⟨_,_,n,_,h1⟩:=(show Eu X.prog X.w H s.heap a (.lst xs) from I.hok a _ ea)
  exact kia_one PySem.W.kitx_list I.kIn ⟨_,h1,rfl⟩ e (fun z=>nomatch z) h
 | @frz a ob xs ea =>
  cases (show u=Value.ref a from rx)
  obtain ⟨_,_,_,n,_,h1⟩:=(show Eu X.prog X.w H s.heap a (.frz ob (.lst xs)) from I.hok a _ ea)
  exact kia_one PySem.W.kitx_list I.kIn ⟨_,h1,rfl⟩ e (fun z=>nomatch z) h
 | @tup a xs ea =>
  cases (show u=Value.ref a from rx)
  obtain ⟨_,_,_,p⟩:=(show Eu X.prog X.w H s.heap a (.tup xs) from I.hok a _ ea)
  obtain ⟨o,h1,h2,_⟩:=p
  exact kia_one PySem.W.kitx_tuple I.kIn ⟨o,h1,h2⟩ e (fun z=>nomatch z) h
 | @dK a kvs ea =>
  cases (show u=Value.ref a from rx)
  obtain ⟨_,_,vs,_,p⟩:=(show Eu X.prog X.w H s.heap a (.dK kvs) from I.hok a _ ea)
  obtain ⟨o,es,ep,h1,h2,_⟩:=p
  exact kia_one PySem.W.kitx_dict I.kIn ⟨o,h1,h2.1⟩ e (fun z=>nomatch z) h
 | @dT a kvs ea =>
  cases (show u=Value.ref a from rx)
  obtain ⟨_,_,xs,_,o,es,ep,h1,h2,_⟩:=(show Eu X.prog X.w H s.heap a (.dT kvs) from I.hok a _ ea)
  exact kia_one PySem.W.kitx_dict I.kIn ⟨o,h1,h2.1⟩ e (fun z=>nomatch z) h
 | @ins a C dx fs ea cl ha hn htk hm =>
  cases (show u=Value.ref a from rx)
  obtain ⟨mA,O,_⟩:=Pn I.hok ea
  obtain ⟨od,J,_⟩:=O.look
  exact kia_one (PySem.W.kitx_own (cl.get _) cl.hd ha hn htk hm) I.kIn J e (fun z=>nomatch z) h
end
structure Dh (k:Nat) (A:Around):Prop where
 hd:A.handled=none
 dp:A.depth+3*k+5<recursionLimit
 un:A.units+16*k+200<cLine
theorem Dh.mono {j k:Nat}{A:Around}(r:Dh k A)(h:j<=k):Dh j A:=⟨r.hd,by have:=r.dp;omega,by have:=r.un;omega⟩
theorem Dh.deeper {k:Nat}{A:Around}(r:Dh (k+1) A)(env:Env):Dh k (A.deeper env) :=
 ⟨r.hd,by have:=r.dp;show A.depth+1+3*k+5<_;omega,by have:=r.un;show A.units+3+16*k+200<_;omega⟩
theorem cH {A:Around}{C:Addr}{us:List Value}{kw:List (Str×Value)}:(A.under (.builtin "type.__call__" ⟨.ref C::us,kw⟩)).depth=A.depth+1:=by
 first | rfl | simp [Around.under,Code.weight,Code.isCreation,Code.isGuard,Code.isCaller,Code.frames,Code.isFrame,guardIds]
theorem Z2 {A:Around}{C:Addr}{us:List Value}{kw:List (Str×Value)}:(A.under (.builtin "type.__call__" ⟨.ref C::us,kw⟩)).units=A.units+1:=by
 first | rfl | simp [Around.under,Code.cUnits,Code.frames,Code.isFrame]
theorem Dh.make {k:Nat}{A:Around}(r:Dh (k+1) A)(C:Addr)(us:List Value)(kw:List (Str×Value)):Dh k (A.under (.builtin "type.__call__" ⟨.ref C::us,kw⟩)) :=
 ⟨r.hd,by have:=r.dp;rw [cH];omega,by have:=r.un;rw [Z2];omega⟩
theorem Dh.depth {k:Nat}{A:Around}(r:Dh k A):A.depth<recursionLimit:=by have:=r.dp;omega
theorem Dh.units {k:Nat}{A:Around}(r:Dh k A):A.units+64<cLine:=by have:=r.un;omega
def Y2:TA:=fun _ H Q=>Q [] H
def Xg (ta:TE)(tr:TA):TA:=fun σ H Q=>ta σ H fun x H1=>tr σ H1 fun xs H2=>Q (x::xs) H2
section
variable {X:Cx} {e:Expr} {es:List Expr} {te:TE} {t:TA} {pos:Pos}
theorem Aa:PA X [] Y2:=fun _ _ _ _ H Q I h=>Calls.spliced_nil ⟨[],H,I,.nil,h⟩
theorem dW (ha:PE X e te)(hr:PA X es t)(hs:starEach (e::es) X.env=(false,eval e X.env)::starEach es X.env:=by rfl):PA X (e::es) (Xg te t):=by
 intro pos pins s σ H Q I h
 rw [hs]
 show wpAny _ _ (spliced ((false,eval e X.env)::backTo pos (starEach es X.env))) _ _ s
 refine Calls.spliced_cons (thn (ha pins s σ H _ I h) fun u s1 ⟨x,H1,I1,r1,q1⟩=>?_)
 exact thn (hr pos pins s1 σ H1 _ I1 q1) fun us s2 ⟨xs,H2,I2,r2,q2⟩=>⟨x::xs,H2,I2,.cons r1 r2,q2⟩
def sS (t:TA):TE:=fun σ H Q=>t σ H fun xs H1=>xs.length<=sizeLine/\∀ p,H1 p=none->Q (.ref p) (upd H1 p (.tup xs))
def tF (t:TA):TE:=fun σ H Q=>t σ H fun xs H1=>xs.length<=sizeLine/\∀ p,H1 p=none->Q (.ref p) (upd H1 p (.lst xs))
theorem Zh {x1}(h:PA X es t):PE X (.Tuple es x1 pos) (sS t):=by
 intro pins s σ H Q I hq
 refine wpAny_Tuple_spliced (thn (h pos pins s σ H _ I hq) fun us s1 ⟨xs,H1,I1,r,z,q⟩=>⟨by rw [<- r.length];exact z,?_⟩)
 have hf:H1 s1.heap.objs.size=none:=I1.hok.fresh (Nat.le_refl _)
 refine ⟨.ref s1.heap.objs.size,upd H1 s1.heap.objs.size (.tup xs),I1.laid (t':=s1.toks) (fun b u e=>Heap.get?_push_of_some _ e) (Nat.le_refl _) ?_,rfl,q _ hf⟩
 exact ⟨z,us,r,⟨_,Heap.get?_push_size _ rfl,rfl,_,rfl⟩⟩
theorem Br (h:PA X es t):PE X (.List es pos) (tF t):=by
 intro pins s σ H Q I hq
 refine wpAny_List_spliced (thn (h pos pins s σ H _ I hq) fun us s1 ⟨xs,H1,I1,r,z,q⟩=>⟨by rw [<- r.length];exact z,?_⟩)
 have hf:H1 s1.heap.objs.size=none:=I1.hok.fresh (Nat.le_refl _)
 refine ⟨.ref s1.heap.objs.size,upd H1 s1.heap.objs.size (.lst xs),I1.laid (t':=s1.toks) (fun b u e=>Heap.get?_push_of_some _ e) (Nat.le_refl _) ?_,rfl,q _ hf⟩
 exact ⟨z,us,0,r,Heap.get?_push_size _ rfl⟩
end
abbrev Sp:=List V->Hp->VK->XK->Prop
abbrev CXT:=List Env->Hp->Shared->XK->Value->Shared->Prop
structure Tf (P:Program) (w:World) (K:PySem.W.Frag) (mg:Str->Option Value) (base:Heap) (A:Around) (outer:List Env) (s:Shared) (H:Hp):Prop where
 frames:A.frames=some outer
 mod:Mod K mg base
 bs:∀ b o,base.get? b=some o->s.heap.get? b=some o/\H b=none
 bsz:base.objs.size<=s.heap.objs.size
 funs:s.heap.FunFrames base outer
 frf:∀ b∈frs outer,H b=none
 hok:HOk P w H s.heap
 bare:AllBare s.gens
def CE (outer:List Env)(P:Program)(w:World)(H:Hp)(s:Shared)(Q:VK)(u:Value)(s':Shared):Prop :=
 ∃ v H',s'.os=s.os/\AllBare s'.gens/\Un (frs outer) [] H H' s.heap s'.heap/\HOk P w H' s'.heap/\B1 v u/\Q v H'
def CR (CX:CXT)(outer:List Env)(P:Program)(w:World)(H:Hp)(s:Shared)(Q:VK)(E:XK)(r:Result)(s':Shared):Prop :=
 match r with
 | .ok (.ret u)=>CE outer P w H s Q u s'
 | .ok _=>False
 | .error e=>CX outer H s E e s'
structure A9 (P:Program) (w:World) (K:PySem.W.Frag) (mg:Str->Option Value) (base:Heap) (CX:CXT) (k:Nat) (f:Addr) (fd:FuncData) (ps:List Str) (sp:Sp):Prop where
 len:∀ vs H Q E,sp vs H Q E->vs.length=ps.length
 run:∀ (A:Around) (outer:List Env) (s:Shared) (H:Hp) (args:Args) (us:List Value) (vs:List V) (Q:VK) (E:XK),Dh k A->Tf P w K mg base A outer s H->BindsTo s fd args (ps.zip us)->Bi vs us->sp vs H Q E ->
  codeAny (model P w) A (.call (.ref f) args) (CR CX outer P w H s Q E) s
theorem Tf.make {P:Program}{w:World}{K:PySem.W.Frag}{mg:Str->Option Value}{base:Heap}{A:Around}{outer:List Env}{s:Shared}{H:Hp}(e:Tf P w K mg base A outer s H)(C:Addr)(us:List Value)(kw:List (Str×Value)) :
  Tf P w K mg base (A.under (.builtin "type.__call__" ⟨.ref C::us,kw⟩)) outer s H:=⟨by first | exact e.frames | (simpa [Around.under,Code.envs,Code.isFrame,pushEnvs] using e.frames),e.mod,e.bs,e.bsz,e.funs,e.frf,e.hok,e.bare⟩
section
variable {X:Cx} {pins:List (Addr×Obj)} {σ:St} {H:Hp} {s s':Shared}
theorem Inv.env0 (I:Inv X pins σ H s):Tf X.prog X.w X.K X.mg X.base X.A X.stack s H :=
 ⟨I.ok.frames,I.ok.mod,I.bs,Nat.le_trans I.ok.bsz I.sz,I.stack,I.stkFree,I.hok,I.bare⟩
theorem Inv.after {Q:VK}{u:Value}(I:Inv X pins σ H s)(h:CE X.stack X.prog X.w H s Q u s'):EP X pins σ Q u s':=by
 obtain ⟨v,H',os,bare,un,hok,r,q⟩:=h
 obtain ⟨hh,g,d,t,os'⟩:=s'
 obtain rfl:os'=s.os:=os
 exact ⟨v,H',I.call (h':=hh) (g':=g) (d':=d) (t':=t) (ch:=[]) un hok bare (fun b z=>absurd z (by simp)),r,q⟩
end
def eR (sp:Sp)(dvs:List V)(E:XK)(t:TA):TE:=fun σ H Q=>t σ H fun vs H1=>sp (vs++dvs) H1 Q E
def X0 (C:Addr)(m:Str)(sp:Sp)(dvs:List V)(E:XK)(ta:TE)(t:TA):TE:=fun σ H Q=>ta σ H fun x H1=>∃ a dx fs,x=.ref a/\H1 a=some (.ins C dx fs)/\fs.lookup m=none /\
 t σ H1 fun vs H2=>sp (x::(vs++dvs)) H2 Q E
def iV (C:Addr)(sp:Sp)(dvs:List V)(E:XK)(t:TA):TE:=fun σ H Q=>t σ H fun vs H1=>∀ x dx,H1 x=none->H1 dx=none->dx≠x ->
 sp (.ref x::(vs++dvs)) (upd (upd H1 dx (.own x)) x (.ins C dx [])) (fun v H2=>v=.non/\Q (.ref x) H2) E
def Gw (K:PySem.W.Frag)(fd:FuncData)(ps:List Str)(ds:List Value):Prop :=
 ∀ (s:Shared) (us:List Value),K.In s.heap->(us++ds).length=ps.length->BindsTo s fd ⟨us,[]⟩ (ps.zip (us++ds))
theorem Gw.all {K:PySem.W.Frag}{fd:FuncData}{ps:List Str}(h:∀ us:List Value,us.length=ps.length->bindArgs fd ⟨us,[]⟩=pure (ps.zip us)):Gw K fd ps []:=fun s us _ hl=>by
 rw [List.append_nil] at hl ⊢
 exact .of_eq (h us hl)
def Md (CX:CXT)(X:Cx)(E:XK):Prop:=∀ (pins:List (Addr×Obj)) (σ:St) (H:Hp) (s:Shared) (e:Value) (s':Shared),Inv X pins σ H s->CX X.stack H s E e s'->X.xe e s'
section
variable {X:Cx} {CX:CXT} {k:Nat} {f C:Addr} {fd:FuncData} {ps:List Str} {sp:Sp} {dvs:List V} {ds:List Value} {E:XK} {x m:Str} {p pos apos:Pos} {e o:Expr} {es:List Expr} {ta:TE} {t:TA}
theorem W9 {pins:List (Addr×Obj)}{σ:St}{H:Hp}{s:Shared}{Q:VK}{us:List Value}{vs:List V}(F:A9 X.prog X.w X.K X.mg X.base CX k f fd ps sp)(hr:Dh k X.A)(hb:Gw X.K fd ps ds)(hd:Bi dvs ds)(hx:Md CX X E)
  (I:Inv X pins σ H s)(r:Bi vs us)(h:sp (vs++dvs) H Q E):wpAny (model X.prog X.w) X.A (call (.ref f) us) (EP X pins σ Q) X.xe s:=by
 have r2:Bi (vs++dvs) (us++ds):=r.append hd
 have hl:(us++ds).length=ps.length:=by rw [<- r2.length];exact F.len _ _ _ _ h
 refine wpAny_call (codeAny_mono (F.run X.A X.stack s H ⟨us,[]⟩ (us++ds) (vs++dvs) Q E hr I.env0 (hb s us I.kIn hl) r2 h) fun r s' hq=>?_)
 cases r with
 | error e=>exact hx pins σ H s e s' I hq
 | ok fl =>
  cases fl with
  | ret u=>exact I.after hq
  | next=>exact False.elim hq
  | brk=>exact False.elim hq
  | cont=>exact False.elim hq
theorem nI (F:A9 X.prog X.w X.K X.mg X.base CX k f fd ps sp)(hr:Dh k X.A)(hg:Gl X x)(hm:X.mg x=some (.ref f))(hk:PySem.W.keepIn X.K (.ref f)=true)(hb:Gw X.K fd ps ds)(hd:Bi dvs ds)(hx:Md CX X E)
  (ha:PA X (e::es) t)(hdb:(x==("__debug__":Str))=false:=by decide)(he:starEach (e::es) X.env=(false,eval e X.env)::starEach es X.env:=by rfl)(hpl:(backTo pos (starEach es X.env)).any (·.1)=false:=by rfl) :
  PE X (.Call (.Name x p) (e::es) [] pos) (eR sp dvs E t):=by
 intro pins s σ H Q I h
 refine wpAny_Call_Name_kw (Nn I hg hm ?_ hdb)
 refine callWith_K (h₀:=X.base) I.ok.mod.kin hk (thn (ha pos pins s σ H _ I h) fun us s1 ⟨vs,H1,I1,r,q⟩=>⟨I1.kIn,?_⟩) he hpl
 exact W9 F hr hb hd hx I1 r q
theorem mO {pl:Sem Bool}(he:PE X o ta)(c:Cls X.K C)(hm:nO X.K C m f)(F:A9 X.prog X.w X.K X.mg X.base CX k f fd ps sp)(hr:Dh k X.A)(hb:Gw X.K fd ps ds)(hd:Bi dvs ds)(hx:Md CX X E)(ha:PA X (e::es) t)
  (hst:starEach (e::es) X.env=(false,eval e X.env)::starEach es X.env:=by rfl)(hpl:(backTo pos (starEach es X.env)).any (·.1)=false:=by rfl)
  (ht:eval (.Call (.Attribute o m apos) (e::es) [] pos) X.env=(do
   let ov <- eval o X.env
   standAt apos.atName
   let (f,first) <- holding [ov] (getMethod ov m pl)
   callWith pos f first (backTo pos (starEach (e::es) X.env)) (backToKw pos (keywordEach [] X.env))):=by rfl) :
  PE X (.Call (.Attribute o m apos) (e::es) [] pos) (X0 C m sp dvs E ta t):=by
 intro pins s σ H Q I h
 refine PySem.W.methodCall_KW (pl:=pl) (thn (he pins s σ H _ I h) fun u s1 ⟨x,H1,I1,rx,a,dx,fs,ex,ea,l,q⟩=>?_) ht
 subst ex
 obtain rfl:u=Value.ref a:=rx
 refine Sa I1 ea c hm l ?_
 refine callWith_K (first:=[.ref a]) (h₀:=X.base) I.ok.mod.kin hm.kp (thn (ha pos pins s1 σ H1 _ I1 q) fun us s2 ⟨vs,H2,I2,r,q2⟩=>⟨I2.kIn,?_⟩) hst hpl
 exact W9 (us:=.ref a::us) (vs:=.ref a::vs) F hr hb hd hx I2 (.cons rfl r) q2
theorem kJ {pl:Sem Bool}(he:PE X o ta)(c:Cls X.K C)(hm:nO X.K C m f)(F:A9 X.prog X.w X.K X.mg X.base CX k f fd ps sp)(hr:Dh k X.A)(hb:Gw X.K fd ps ds)(hd:Bi dvs ds)(hx:Md CX X E)
  (ht:eval (.Call (.Attribute o m apos) [] [] pos) X.env=(do
   let ov <- eval o X.env
   standAt apos.atName
   let (f,first) <- holding [ov] (getMethod ov m pl)
   callWith pos f first (backTo pos (starEach [] X.env)) (backToKw pos (keywordEach [] X.env))):=by rfl) :
  PE X (.Call (.Attribute o m apos) [] [] pos) (X0 C m sp dvs E ta Y2):=by
 intro pins s σ H Q I h
 refine PySem.W.methodCall_KW (pl:=pl) (thn (he pins s σ H _ I h) fun u s1 ⟨x,H1,I1,rx,a,dx,fs,ex,ea,l,q⟩=>?_) ht
 subst ex
 obtain rfl:u=Value.ref a:=rx
 refine Sa I1 ea c hm l ?_
 exact PySem.W.callWith_K0 (first:=[.ref a]) I1.kIn hm.kp (W9 (us:=[.ref a]) (vs:=[.ref a]) F hr hb hd hx I1 (.cons rfl .nil) q)
structure Mk (K:PySem.W.Frag) (C f:Addr):Prop where
 makes:PySem.W.makesIn K C=true
 init:PySem.W.findIn K (.ref C) "__init__"=some (some (.ref f))
 fn:PySem.W.isFn K (.ref f)=true
 kp:PySem.W.keepIn K (.ref C)=true
theorem iB {pins:List (Addr×Obj)}{σ:St}{H:Hp}{s:Shared}{Q:VK}{us:List Value}{vs:List V}(M:Mk X.K C f)(F:A9 X.prog X.w X.K X.mg X.base CX k f fd ps sp)(hr:Dh (k+1) X.A)(hb:Gw X.K fd ps ds)(hd:Bi dvs ds)
  (hx:Md CX X E)(I:Inv X pins σ H s)(r:Bi vs us)
  (h:∀ x dx,H x=none->H dx=none->dx≠x->sp (.ref x::(vs++dvs)) (upd (upd H dx (.own x)) x (.ins C dx [])) (fun v H2=>v=.non/\Q (.ref x) H2) E) :
  wpAny (model X.prog X.w) X.A (call (.ref C) us) (EP X pins σ Q) X.xe s:=by
 have hq:=h (s.heap.objs.size+1) s.heap.objs.size (I.hok.fresh (Nat.le_succ _)) (I.hok.fresh (Nat.le_refl _)) (Nat.ne_of_lt (Nat.lt_succ_self _))
 have I2:=Inv.made (C:=C) I
 have r2:Bi (V.ref (s.heap.objs.size+1)::(vs++dvs)) (Value.ref (s.heap.objs.size+1)::(us++ds)):=.cons rfl (r.append hd)
 have hl:(Value.ref (s.heap.objs.size+1)::us++ds).length=ps.length:=by
  have e:=r2.length
  rw [F.len _ _ _ _ hq] at e
  exact e.symm
 refine wpAny_call (iE (f:=f) I.kIn M.makes M.init (beq_iff_eq.mp M.fn) (codeAny_mono (F.run _ X.stack _ _ ⟨Value.ref (s.heap.objs.size+1)::us,[]⟩ (Value.ref (s.heap.objs.size+1)::(us++ds)) _ _ E (hr.make C us [])
  (I2.env0.make C us []) (hb _ (Value.ref (s.heap.objs.size+1)::us) I2.kIn hl) r2 hq) fun r s' hq'=>?_))
 cases r with
 | error e=>exact hx pins σ _ _ e s' I2 hq'
 | ok fl =>
  cases fl with
  | ret u =>
   obtain ⟨v,H',I3,rv,ev,q3⟩:=I2.after hq'
   subst ev
   exact ⟨rv,⟨V.ref (s.heap.objs.size+1),H',I3,rfl,q3⟩⟩
  | next=>exact False.elim hq'
  | brk=>exact False.elim hq'
  | cont=>exact False.elim hq'
theorem nN (M:Mk X.K C f)(F:A9 X.prog X.w X.K X.mg X.base CX k f fd ps sp)(hr:Dh (k+1) X.A)(hg:Gl X x)(hm:X.mg x=some (.ref C))(hb:Gw X.K fd ps ds)(hd:Bi dvs ds)(hx:Md CX X E)
  (ha:PA X (e::es) t)(hdb:(x==("__debug__":Str))=false:=by decide)(he:starEach (e::es) X.env=(false,eval e X.env)::starEach es X.env:=by rfl)(hpl:(backTo pos (starEach es X.env)).any (·.1)=false:=by rfl) :
  PE X (.Call (.Name x p) (e::es) [] pos) (iV C sp dvs E t):=by
 intro pins s σ H Q I h
 refine wpAny_Call_Name_kw (Nn I hg hm ?_ hdb)
 refine callWith_K (h₀:=X.base) I.ok.mod.kin M.kp (thn (ha pos pins s σ H _ I h) fun us s1 ⟨vs,H1,I1,r,q⟩=>⟨I1.kIn,?_⟩) he hpl
 exact iB M F hr hb hd hx I1 r q
end
def PK (X:Cx)(kws:List Keyword)(t:TA):Prop :=
 ∀ (pos:Pos) (pins:List (Addr×Obj)) (s:Shared) (σ:St) (H:Hp) (Q:List V->Hp->Prop),Inv X pins σ H s->t σ H Q->wpAny (model X.prog X.w) X.A (evalAll ((backToKw pos (keywordEach kws X.env)).map (·.2))) (AP X pins σ Q) X.xe s
section
variable {X:Cx} {CX:CXT} {k:Nat} {f C:Addr} {fd:FuncData} {ps ks:List Str} {sp:Sp} {E:XK} {x m:Str} {p pos apos kpos:Pos} {e o:Expr} {es:List Expr} {kws:List Keyword} {te ta:TE} {t tk:TA} {nm:Option Str}
theorem cW:PK X [] Y2:=fun _ _ _ _ H Q I h=>wpAny_evalAll_nil ⟨[],H,I,.nil,h⟩
theorem Wu (ha:PE X e te)(hr:PK X kws t):PK X (⟨nm,e,kpos⟩::kws) (Xg te t):=by
 intro pos pins s σ H Q I h
 show wpAny _ _ (evalAll ((do let v <- eval e X.env;standAt pos;pure v)::(backToKw pos (keywordEach kws X.env)).map (·.2))) _ _ s
 refine wpAny_evalAll_cons (wpAny_bind (thn (ha pins s σ H _ I h) fun u s1 ⟨x,H1,I1,r1,q1⟩=>wpAny_bind (wpAny_standAt (wpAny_pure ?_))))
 exact thn (hr pos pins s1 σ H1 _ I1 q1) fun us s2 ⟨xs,H2,I2,r2,q2⟩=>⟨x::xs,H2,I2,.cons r1 r2,q2⟩
variable {g:List Value->List Value->List Value} {gV:List V->List V->List V}
end
structure Ao (N P:List Str) (sc:Scope):Prop where
 kind:sc.kind=.function
 co:sc.isCoroutine=false
 gen:sc.isGenerator=false
 nd:N.Nodup
 pre:N.take P.length=P
 par:∀ x∈P,sc.names.lookup x=some .local\/sc.names.lookup x=some .cell
 nofree:∀ y∈sc.names,y.2≠.free
theorem T3 {kindOf:Str->Option NameKind}{x:Str}:∀ {binds:List (Str×Value)} {m:Str->Option Value},(∀ v,(x,v)∉binds)->bindL kindOf binds m x=m x
  | [], _, _ => rfl
  | (n, v) :: r, m, h => by
    unfold bindL
    rw [T3 fun w hw => h w (List.mem_cons_of_mem _ hw)]
    split
    · have : x ≠ n := by rintro rfl; exact h v List.mem_cons_self
      simp [this]
    · rfl
theorem Ui {kindOf:Str->Option NameKind}{x:Str}:∀ {binds:List (Str×Value)} {m:Str->Option Value},(∀ v,(x,v)∉binds)->bindC kindOf binds m x=m x
  | [], _, _ => rfl
  | (n, v) :: r, m, h => by
    unfold bindC
    rw [Ui fun w hw => h w (List.mem_cons_of_mem _ hw)]
    split
    · rfl
    · have : x ≠ n := by rintro rfl; exact h v List.mem_cons_self
      simp [this]
theorem Tt {kindOf:Str->Option NameKind}{x:Str}{v:Value}:∀ {P:List Str} {vs:List Value} {i:Nat} {m:Str->Option Value},P.Nodup->P[i]?=some x->vs[i]?=some v->kindOf x=some .local ->
  bindL kindOf (P.zip vs) m x=some v
 | [],_,_,_,_,h,_,_=>by simp at h
 | _::_,[],_,_,_,_,h,_=>by simp at h
 | p::P,w::vs,0,m,nd,h1,h2,hk=>by
  simp at h1 h2;subst h1;subst h2
  show bindL kindOf ((p,w)::P.zip vs) m p=_
  unfold bindL
  rw [T3 fun v hv=>(List.nodup_cons.mp nd).1 (List.of_mem_zip hv).1,if_pos hk]
  simp
 | p::P,w::vs,i+1,m,nd,h1,h2,hk=>by
  show bindL kindOf ((p,w)::P.zip vs) m x=_
  unfold bindL
  exact Tt (i:=i) (List.nodup_cons.mp nd).2 (by simpa using h1) (by simpa using h2) hk
theorem Uf {kindOf:Str->Option NameKind}{x:Str}{v:Value}:∀ {P:List Str} {vs:List Value} {i:Nat} {m:Str->Option Value},P.Nodup->P[i]?=some x->vs[i]?=some v->kindOf x≠some .local ->
  bindC kindOf (P.zip vs) m x=some v
 | [],_,_,_,_,h,_,_=>by simp at h
 | _::_,[],_,_,_,_,h,_=>by simp at h
 | p::P,w::vs,0,m,nd,h1,h2,hk=>by
  simp at h1 h2;subst h1;subst h2
  show bindC kindOf ((p,w)::P.zip vs) m p=_
  unfold bindC
  rw [Ui fun v hv=>(List.nodup_cons.mp nd).1 (List.of_mem_zip hv).1,if_neg hk]
  simp
 | p::P,w::vs,i+1,m,nd,h1,h2,hk=>by
  show bindC kindOf ((p,w)::P.zip vs) m x=_
  unfold bindC
  exact Uf (i:=i) (List.nodup_cons.mp nd).2 (by simpa using h1) (by simpa using h2) hk
def M0 (N:List Str)(vs:List V):St:=vs.map some++List.replicate (N.length-vs.length) none
def cQ (CX:CXT)(P:Program)(w:World)(K:PySem.W.Frag)(mg:Str->Option Value)(base:Heap)(N:List Str)(qual:Str)(scope:Scope)(f:Addr)(cd:Value)(A:Around)(outer:List Env)(s:Shared)(H:Hp)(E:XK):Cx where
 prog:=P
 w:=w
 K:=K
 mg:=mg
 base:=base
 A:=A.deeper (envOfC qual scope s.heap.objs.size f cd)
 N:=N
 s₀:=s
 H₀:=H
 env:=envOfC qual scope s.heap.objs.size f cd
 outer:=outer
 stack:=envOfC qual scope s.heap.objs.size f cd::outer
 ex:=[]
 calm:=true
 fn:=fun _=>true
 pn:=[]
 xe:=fun e s'=>wpAny (model P w) (A.deeper (envOfC qual scope s.heap.objs.size f cd)) (leaving (envOfC qual scope s.heap.objs.size f cd) e) (fun _ s''=>CX outer H s E e s'') (fun e' s''=>CX outer H s E e' s'') s'
theorem Yo {sc:Scope}{n:Nat}{x:Str}(h:sc.names.lookup x=some .cell):∃ c,(cellsFrom n sc.names []).lookup x=some c:=by
 have q:=PySem.W.cellsFrom_some sc.names n [] (.inl h)
 exact Option.isSome_iff_exists.mp q
theorem fG {CX:CXT}{P:Program}{w:World}{K:PySem.W.Frag}{mg:Str->Option Value}{base:Heap}{N ps:List Str}{qual:Str}{scope:Scope}{f:Addr}{cd:Value}{A:Around}{outer:List Env}{s s1:Shared}{H:Hp}{E:XK}{us:List Value}{vs:List V}
  (S:Ao N ps scope)(hd:A.handled=none)(e0:Tf P w K mg base A outer s H)(hl:vs.length=ps.length)(r:Bi vs us)
  (x:InCallC s s.heap.objs.size (bindL (envOfC qual scope s.heap.objs.size f cd).kindOf (ps.zip us) fun _=>none) (cellsFrom (s.heap.objs.size+1) scope.names []) (bindC (envOfC qual scope s.heap.objs.size f cd).kindOf (ps.zip us) fun _=>none) s1) :
  Inv (cQ CX P w K mg base N qual scope f cd A outer s H E) [] (M0 N vs) H s1:=by
 have hpl:ps.length<=N.length:=by have:=congrArg List.length S.pre;rw [List.length_take] at this;omega
 obtain ⟨h1,tk,rfl,hk⟩:=x.done
 have noA:∀ b:Addr,b∉(cQ CX P w K mg base N qual scope f cd A outer s H E).ex:=fun b z=>absurd (show b∈([]:List Addr) from z) (by simp)
 refine ⟨⟨e0.mod,S.kind,rfl,rfl,Nat.le_refl _,fun y z c h1 h2=>?_,fun y hy=>?_,fun y c _ h=>?_,fun _=>hd,Around.frames_deeper e0.frames,.inr ⟨rfl,rfl⟩,fun b z=>absurd z (noA b),e0.bs,e0.bsz,fun b _ _=>noA b,fun b z=>absurd z (noA b),e0.funs,e0.frf⟩,
  rfl,e0.bare,Un.kept hk,⟨_,x.toInCall.ns,fun i y v h1 h2 h3=>?_⟩,fun y c h=>⟨_,x.cell y c h⟩,e0.hok.fresh (Nat.le_refl _),fun y c h=>?_,fun p hp=>absurd (show p∈([]:List (Addr×Obj)) from hp) (by simp),e0.hok.kept hk,?_⟩
 ·exact name_of_addr x.apart (PySem.mem_of_lookup h1) (PySem.mem_of_lookup h2)
 ·have hy:scope.names.lookup y=some .cell\/scope.names.lookup y=some .free:=hy
  rcases hy with hy | hy
  ·exact Yo hy
  ·exact absurd rfl (S.nofree _ (PySem.mem_of_lookup hy))
 ·exact Nat.le_of_lt (x.above y c (PySem.mem_of_lookup h))
 ·have hi:i<vs.length:=by
   unfold M0 at h2
   by_cases hi:i<vs.length
   ·exact hi
   ·rw [List.getElem?_append_right (by simpa using hi)] at h2
    rw [List.getElem?_replicate] at h2
    split at h2<;>cases h2
  have ha:vs[i]?=some v:=by
   unfold M0 at h2
   rw [List.getElem?_append_left (by simpa using hi),List.getElem?_map] at h2
   cases e:vs[i]? with
   | none=>rw [e] at h2;cases h2
   | some a=>rw [e] at h2;cases h2;rfl
  obtain ⟨u,hu,rv⟩:=r.get ha
  have hp:ps[i]?=some y:=by
   rw [<- S.pre,List.getElem?_take_of_lt (by omega)];exact h1
  have ndP:ps.Nodup:=by rw [<- S.pre];exact S.nd.sublist (List.take_sublist _ _)
  refine ⟨u,rv,?_⟩
  rcases S.par y (List.mem_of_getElem? hp) with k | k
  ·exact .inl ⟨k,Tt ndP hp hu k⟩
  ·obtain ⟨c,e⟩:=Yo (n:=s.heap.objs.size+1) k
   refine .inr ⟨.inl k,c,e,?_⟩
   have q:=x.cell y c e
   rw [Uf ndP hp hu (by show scope.names.lookup y≠_;rw [k];decide)] at q
   exact q
 ·exact e0.hok.fresh (Nat.le_of_lt (x.above y c (PySem.mem_of_lookup h)))
 ·unfold M0
  show _=N.length
  rw [List.length_append,List.length_map,List.length_replicate]
  omega
theorem oR {CX:CXT}{P:Program}{w:World}{K:PySem.W.Frag}{mg:Str->Option Value}{base:Heap}{k:Nat}{f:Addr}{name qual:Str}{params:Arguments}{body:List Stmt}{scope:Scope}{dV kV doc pm cdv ct oc:Value}{an od:Option Addr}
  {osl:Array (Option Value)}{N ps:List Str}{sp:Sp}(lk:K.lookup f=some ⟨oc,od,.func (PySem.W.fnOf name qual params body scope dV kV doc pm an cdv ct),osl⟩)(hcd:PySem.W.codeIn K cdv qual=true)(S:Ao N ps scope)
  (len:∀ vs H Q E,sp vs H Q E->vs.length=ps.length)
  (hbody:∀ (A:Around) (outer:List Env) (s:Shared) (H:Hp) (vs:List V) (Q:VK) (E:XK),Dh k (A.deeper (envOfC qual scope s.heap.objs.size f cdv))->sp vs H Q E ->
   ∃ t,PSs (cQ CX P w K mg base N qual scope f cdv A outer s H E) body t/\t { nx:=fun _ H'=>Q .non H',rt:=Q } (M0 N vs) H) :
  A9 P w K mg base CX (k+1) f (PySem.W.fnOf name qual params body scope dV kV doc pm an cdv ct) ps sp:=by
 refine ⟨len,fun A outer s H args us vs Q E hr e0 hb r hsp=>?_⟩
 have hl:=len _ _ _ _ hsp
 have KX:K.In s.heap:=e0.mod.kin.keeps fun b o e=>(e0.bs b o e).1
 have lim:s.heap.NoLimit:=e0.mod.nolimit.keeps fun b o e=>(e0.bs b o e).1
 have hkind:∀ y∈ps.zip us,scope.names.lookup y.1=some .local\/(scope.names.lookup y.1=some .cell/\((cellsFrom (s.heap.objs.size+1) scope.names []).lookup y.1).isSome=true):=fun ⟨n,v⟩ hy=>by
  rcases S.par n (List.of_mem_zip hy).1 with q | q
  ·exact .inl q
  ·exact .inr ⟨q,PySem.W.cellsFrom_some _ _ _ (.inl q)⟩
 refine codeAny_call_function hr.depth (KX _ _ lk) rfl S.co S.gen rfl (PySem.W.codeRec_of KX hcd) (hb _ _ _ _ ?_)
 refine wpAny_newFunctionEnv_cells S.kind hkind fun env he s1 x=>?_
 subst he
 refine ⟨lim.keeps x.toInCall.keep,codeAny_func ?_⟩
 obtain ⟨t,ht,hq⟩:=hbody A outer s H vs Q E (hr.deeper _) hsp
 have I:Inv (cQ CX P w K mg base N qual scope f cdv A outer s H E) [] (M0 N vs) H s1:=fG S hr.hd e0 hl r x
 refine wpAny_mono (ht [] s1 (M0 N vs) H _ I hq) (fun fl s' hs=>?_) fun e s' hs=>hs
 have fin:∀ {σ':St} {H':Hp} {v:V} {u:Value},Inv (cQ CX P w K mg base N qual scope f cdv A outer s H E) [] σ' H' s'->B1 v u->Q v H'->CE outer P w H s Q u s' :=
  fun {σ' H' v u} J rv q=>⟨v,H',J.os,J.bare,J.base,J.hok,rv,q⟩
 cases fl with
 | ret u =>
  obtain ⟨v,σ',H',J,rv,q⟩:=hs
  exact fin J rv q
 | next =>
  obtain ⟨σ',H',J,q⟩:=hs
  exact fin (v:=V.non) (u:=Value.none) J rfl q
 | brk =>
  obtain ⟨_,_,_,q⟩:=hs
  exact False.elim q
 | cont =>
  obtain ⟨_,_,_,q⟩:=hs
  exact False.elim q
section
variable {X:Cx} {x:Str} {p pos:Pos} {e:Expr} {es:List Expr} {t:TA} {id T:String} {r:List V->Hp->VK->Prop}
def tCB (r:List V->Hp->VK->Prop)(t:TA):TE:=fun σ H Q=>t σ H fun vs H1=>r vs H1 Q
theorem As (hc:Hr X (.builtin id) r)(hg:Gl X x)(hm:X.mg x=none)(hv:bootBuiltins x=some (.builtin id))(ha:PA X (e::es) t)(hn:x≠"__name__":=by decide)(hdb:(x==("__debug__":Str))=false:=by decide)
  (he:starEach (e::es) X.env=(false,eval e X.env)::starEach es X.env:=by rfl)(hpl:(backTo pos (starEach es X.env)).any (·.1)=false:=by rfl):PE X (.Call (.Name x p) (e::es) [] pos) (tCB r t):=by
 intro pins s σ H Q I h
 refine wpAny_Call_Name_kw (Ft I hg hm hv ?_ hn hdb)
 exact PyProof.Rows.callWith_builtin1 (thn (ha pos pins s σ H _ I h) fun us s1 ⟨vs,H1,I1,r1,q1⟩=>hc pins s1 σ H1 vs us Q I1 r1 q1) he hpl
theorem Dl (hc:Hr X (.type T) r)(hg:Gl X x)(hm:X.mg x=none)(hv:bootBuiltins x=some (.type T))(ha:PA X (e::es) t)(hn:x≠"__name__":=by decide)(hdb:(x==("__debug__":Str))=false:=by decide)
  (he:starEach (e::es) X.env=(false,eval e X.env)::starEach es X.env:=by rfl)(hpl:(backTo pos (starEach es X.env)).any (·.1)=false:=by rfl):PE X (.Call (.Name x p) (e::es) [] pos) (tCB r t):=by
 intro pins s σ H Q I h
 refine wpAny_Call_Name_kw (Ft I hg hm hv ?_ hn hdb)
 exact PyProof.Rows.callWith_type1 (thn (ha pos pins s σ H _ I h) fun us s1 ⟨vs,H1,I1,r1,q1⟩=>hc pins s1 σ H1 vs us Q I1 r1 q1) he hpl
end
end L2
namespace HT
open PySem PyProof.Rows
section
open PySem.SeqAt
open PySem.AutoSeq1 (wpAny_loadPart')
open PySem.MeetsSeq PySem.MeetsSeq2 PySem.MeetsSeq3
end
section
variable {prog:Program} {w:World} {A:Around} {E:Value->Shared->Prop} {s:Shared}
def sIx (n d:Nat):Option Int->Nat
 | none=>d
 | some v=>if v<0 then (v+(n:Int)).toNat else min v.toNat n
theorem sIx_nat (n d k:Nat):sIx n d (some (k:Int))=min k n:=by
 show (if (k:Int)<0 then ((k:Int)+(n:Int)).toNat else min (k:Int).toNat n)=min k n
 rw [if_neg (by omega),Int.toNat_natCast]
theorem sIx_le (n d:Nat)(hd:d<=n)(o:Option Int):sIx n d o<=n:=by
 cases o with
 | none=>exact hd
 | some v =>
  show (if v<0 then (v+(n:Int)).toNat else min v.toNat n)<=n
  by_cases hv:v<0
  ·rw [if_pos hv];omega
  ·rw [if_neg hv];exact Nat.min_le_right _ _
end
end HT
namespace L2
open PySem PySem.Spec PyProof.Rows
abbrev TO:=St->Hp->(Option Int->Hp->Prop)->Prop
def PO (X:Cx)(e:Option Expr)(t:TO):Prop :=
 ∀ (pins:List (Addr×Obj)) (s:Shared) (σ:St) (H:Hp) (Q:Option Int->Hp->Prop),Inv X pins σ H s->t σ H Q ->
  wpAny (model X.prog X.w) X.A (evalPart e X.env) (fun u s'=>∃ o H',Inv X pins σ H' s'/\IsPart u o/\Q o H') X.xe s
def eA:TO:=fun _ H Q=>Q none H
def oK (t:TE):TO:=fun σ H Q=>t σ H fun x H1=>∃ i,x=.int i/\Q (some i) H1
theorem Rc {ns:List Int}:∀ {us:List Value},Bi (ns.map V.int) us->IntsAre us ns:=by
 induction ns with
 | nil=>intro us r;rw [List.map_nil] at r;cases r;exact .nil
 | cons n ns ih =>
  intro us r
  rw [List.map_cons] at r
  cases r with
  | cons r1 r2 =>
   obtain ⟨t,e⟩:=r1
   subst e
   exact .cons n t (ih r2)
section
variable {X:Cx} {e:Expr} {te:TE} {lo hi:Option Expr} {tl th:TO} {pos p2:Pos}
theorem Ed:PO X none eA:=by
 intro pins s σ H Q I h
 rw [evalPart_none]
 exact wpAny_pure ⟨none,H,I,.none,h⟩
theorem B8 (h:PE X e te):PO X (some e) (oK te):=by
 intro pins s σ H Q I hw
 rw [evalPart_some]
 refine thn (h pins s σ H _ I hw) fun u s1 ⟨x,H1,I1,r1,q1⟩=>?_
 obtain ⟨i,rfl,q⟩:=q1
 obtain ⟨t,rfl⟩:=r1
 exact ⟨some i,H1,I1,.int i t,q⟩
def SlR (X:Cx)(r:V->Option Int->Option Int->Hp->VK->Prop):Prop :=
 ∀ (pins:List (Addr×Obj)) (s:Shared) (σ:St) (H:Hp) (x:V) (v vl vu:Value) (lo hi:Option Int) (sl:Addr) (Q:VK),Inv X pins σ H s->B1 x v->s.heap.IsSliceOf sl vl vu .none->IsPart vl lo->IsPart vu hi->r x lo hi H Q ->
  ∃ T id,typeLookup (.type T) "__getitem__"=pure (some (.builtin id))/\s.TypeIs v T/\wpAny (model X.prog X.w) X.A (getItem v (.ref sl)) (EP X pins σ Q) X.xe s
def tSl (r:V->Option Int->Option Int->Hp->VK->Prop)(te:TE)(tl th:TO):TE:=fun σ H Q=>te σ H fun x H1=>tl σ H1 fun l H2=>th σ H2 fun u H3=>r x l u H3 Q
theorem Ca {r:V->Option Int->Option Int->Hp->VK->Prop}(hr:SlR X r)(he:PE X e te)(hl:PO X lo tl)(hu:PO X hi th):PE X (.Subscript e (.Slice lo hi none p2) pos) (tSl r te tl th):=by
 intro pins s σ H Q I h
 refine Subscript_ (thn (he pins s σ H _ I h) fun v s1 ⟨x,H1,I1,r1,q1⟩=>?_)
 refine wpAny_Slice (thn (hl pins s1 σ H1 _ I1 q1) fun vl s2 ⟨l,H2,I2,pl,q2⟩=>thn (hu pins s2 σ H2 _ I2 q2) fun vu s3 ⟨u,H3,I3,pu,q3⟩=>?_)
 rw [evalPart_none]
 refine wpAny_pure ?_
 have I4:Inv X pins σ H3 { s3 with heap:=s3.heap.push { cls:=.type "slice",data:=.fields #[vl,vu,.none] } }:=I3.kept (t':=s3.toks) fun b ob q=>Heap.get?_push_of_some _ q
 obtain ⟨T,id,hT,ht,hg⟩:=hr pins { s3 with heap:=s3.heap.push { cls:=.type "slice",data:=.fields #[vl,vu,.none] } } σ H3 x v vl vu l u s3.heap.objs.size Q I4 r1 (Heap.IsSliceOf.new ..) pl pu q3
 show wpAny (model X.prog X.w) X.A (subscriptTail e (.Slice lo hi none p2) v (.ref s3.heap.objs.size)) (EP X pins σ Q) X.xe { s3 with heap:=s3.heap.push { cls:=.type "slice",data:=.fields #[vl,vu,.none] } }
 exact tail_any (ops:=[.ref s3.heap.objs.size,v]) ht hT hg (by with_unfolding_all rfl)
def La (xs:List V)(lo hi:Option Int):List V:=(xs.drop (HT.sIx xs.length 0 lo)).take (HT.sIx xs.length xs.length hi-HT.sIx xs.length 0 lo)
theorem Ye (xs:List V)(lo hi:Option Int):(La xs lo hi).length<=xs.length:=by
 unfold La
 rw [List.length_take,List.length_drop]
 omega
end
def ixN (n:Nat)(i:Int):Option Nat:=if 0<=i then (if i<n then some i.toNat else none) else if -(n:Int)<=i then some (i+n).toNat else none
def atI {α:Type}(xs:List α)(i:Int):Option α:=(ixN xs.length i).bind fun j=>xs[j]?
theorem mF {n:Nat}{i:Int}{j:Nat}(h:ixN n i=some j):seqIndex? i n=some j/\j<n/\-(n:Int)<=i/\i<n:=by
 unfold ixN at h
 by_cases h0:0<=i
 ·rw [if_pos h0] at h
  by_cases h1:i<n
  ·rw [if_pos h1] at h
   have e:i.toNat=j:=Option.some.inj h
   exact ⟨by rw [seqIndex_of h0 h1,e],by omega,by omega,h1⟩
  ·rw [if_neg h1] at h;cases h
 ·rw [if_neg h0] at h
  by_cases h1:-(n:Int)<=i
  ·rw [if_pos h1] at h
   have e:(i+n).toNat=j:=Option.some.inj h
   exact ⟨by rw [seqIndex_neg (by omega) h1,e],by omega,h1,by omega⟩
  ·rw [if_neg h1] at h;cases h
theorem eM {α:Type}{xs:List α}{i:Int}{v:α}(h:atI xs i=some v):∃ j,seqIndex? i xs.length=some j/\xs[j]?=some v/\j<xs.length/\-(xs.length:Int)<=i/\i<xs.length:=by
 unfold atI at h
 cases e:ixN xs.length i with
 | none=>rw [e] at h;cases h
 | some j =>
  rw [e] at h
  obtain ⟨h1,h2,h3,h4⟩:=mF e
  exact ⟨j,h1,h,h2,h3,h4⟩
theorem Bc {α:Type}{xs:List α}{j:Nat}{v:α}(h:xs[j]?=some v):atI xs (j:Int)=some v:=by
 have hj:j<xs.length:=(List.getElem?_eq_some_iff.mp h).1
 have e:ixN xs.length (j:Int)=some j:=by
  unfold ixN
  rw [if_pos (by omega),if_pos (by omega)];simp
 unfold atI;rw [e];exact h
theorem K7 {α:Type}(xs:List α)(v:α):atI (xs++[v]) (-1)=some v:=by
 have hl:(xs++[v]).length=xs.length+1:=by simp
 have e:ixN (xs++[v]).length (-1)=some xs.length:=by
  unfold ixN
  rw [hl,if_neg (by decide),if_pos (by omega)]
  congr 1
  omega
 unfold atI
 rw [e]
 show (xs++[v])[xs.length]?=some v
 simp
def lK (b:Expr):Prop:=∀ o i,subscripted b false o i=operate [o,i] (getItem o i)
def IxR (X:Cx)(r:R2):Prop :=
 ∀ (value slice:Expr) (pins:List (Addr×Obj)) (s:Shared) (σ:St) (H:Hp) (x y:V) (v u:Value) (Q:VK),Inv X pins σ H s->B1 x v->B1 y u->r x y H Q ->
  subscripted slice false v u=operate [v,u] (getItem v u)->wpAny (model X.prog X.w) X.A (subscriptTail value slice v u) (EP X pins σ Q) X.xe s
def MtR (X:Cx)(id:String)(r:V->List V->Hp->VK->Prop):Prop :=
 ∀ (pins:List (Addr×Obj)) (s:Shared) (σ:St) (H:Hp) (x:V) (xs:List V) (v:Value) (us:List Value) (Q:VK),Inv X pins σ H s->B1 x v->Bi xs us->r x xs H Q ->
  wpAny (model X.prog X.w) X.A (call (.builtin id) (v::us)) (EP X pins σ Q) X.xe s
section
variable {X:Cx} {a b:Expr} {ta tb:TE} {pos:Pos}
theorem Bd {r:R2}(hr:IxR X r)(ha:PE X a ta)(hb:PE X b tb)(hs:lK b):PE X (.Subscript a b pos) (tOp r ta tb):=by
 intro pins s σ H Q I h
 exact Subscript_ (qG ha hb I h fun v u s2 x y H2 I2 rx ry q=>hr a b pins s2 σ H2 x y v u Q I2 rx ry q (hs _ _))
def qA (K:PySem.W.Frag):R2:=fun x y H Q=>∃ p xs i v,x=.ref p/\y=.int i/\SqL K H p xs/\atI xs i=some v/\Q v H
def pW (K:PySem.W.Frag):R2:=fun x y H Q=>∃ p xs i v,x=.ref p/\y=.int i/\SqT K H p xs/\atI xs i=some v/\Q v H
theorem A8:IxR X (qA X.K):=by
 intro value slice pins s σ H x y v u Q I rx ry h hs
 obtain ⟨p,xs,i,z,rfl,rfl,hq,he,q⟩:=h
 cases rx
 obtain ⟨t,rfl⟩:=ry
 obtain ⟨its,r,pl,hz⟩:=I.list hq
 obtain ⟨j,h1,h2,h3,h4,h5⟩:=eM he
 obtain ⟨w,ew,rw'⟩:=r.get h2
 have hl:=r.length
 have hn:=N9
 have fin:EP X pins σ Q w s:=⟨z,H,I,rw',q⟩
 by_cases h0:0<=i
 ·have hj:i.toNat=j:=by
   rw [seqIndex_of h0 h5] at h1
   exact Option.some.inj h1
  exact item_listR pl.isList h0 (by omega) (by rw [hj];simpa using ew) fin hs
 ·have hj:(i+(its.toArray.size:Int)).toNat=j:=by
   rw [seqIndex_neg (by omega) h4] at h1
   rw [List.size_toArray,<- hl]
   exact Option.some.inj h1
  exact subscriptTail_builtinR (x:=w) pl.isList.typeIs slot_list_getitem.lookup
   (wpAny_getItem_list_neg (Q:=fun r s'=>r=w/\EP X pins σ Q r s') pl.isList (by omega) (by rw [List.size_toArray]<;>omega) (by omega) (by rw [hj];simpa using ew) ⟨rfl,fin⟩) hs
theorem Wt:IxR X (pW X.K):=by
 intro value slice pins s σ H x y v u Q I rx ry h hs
 obtain ⟨p,xs,i,z,rfl,rfl,hq,he,q⟩:=h
 cases rx
 obtain ⟨t,rfl⟩:=ry
 obtain ⟨its,r,pl,hz⟩:=I.tuple hq
 obtain ⟨j,h1,h2,h3,h4,h5⟩:=eM he
 obtain ⟨w,ew,rw'⟩:=r.get h2
 have hl:=r.length
 have hn:=N9
 have fin:EP X pins σ Q w s:=⟨z,H,I,rw',q⟩
 exact subscriptTail_builtinR (x:=w) pl.typeIs slot_tuple_getitem.lookup
  (getItem_tuple (j:=j) (Q:=fun r s'=>r=w/\EP X pins σ Q r s') pl (by omega) (by omega) (by rw [List.size_toArray,<- hl];exact h1) (by simpa using ew) ⟨rfl,fin⟩) hs
theorem Vu (lo hi:Option Int)(n:Nat):(sliceBounds lo hi none n).1=((HT.sIx n 0 lo:Nat):Int)/\(sliceBounds lo hi none n).2.1=((HT.sIx n n hi:Nat):Int)/\(sliceBounds lo hi none n).2.2=1:=by
 refine ⟨?_,?_,rfl⟩
 ·cases lo with
  | none=>simp [sliceBounds,HT.sIx]
  | some i =>
   simp only [sliceBounds,HT.sIx,Option.getD_none,show (1:Int)>0 by decide,if_true]
   by_cases h:i<0
   ·simp only [h,if_true]<;>omega
   ·simp only [h,if_false]<;>omega
 ·cases hi with
  | none=>simp [sliceBounds,HT.sIx]
  | some i =>
   simp only [sliceBounds,HT.sIx,Option.getD_none,show (1:Int)>0 by decide,if_true]
   by_cases h:i<0
   ·simp only [h,if_true]<;>omega
   ·simp only [h,if_false]<;>omega
theorem S8 (its:List Value)(lo hi:Option Int):slicePick its.toArray lo hi none=((its.drop (HT.sIx its.length 0 lo)).take (HT.sIx its.length its.length hi-HT.sIx its.length 0 lo)).toArray:=by
 obtain ⟨h1,h2,h3⟩:=Vu lo hi its.toArray.size
 unfold slicePick
 rw [h1,h2,h3]
 simp only [sliceRange_one,pick_run,List.size_toArray]<;>rfl
def uM (K:PySem.W.Frag):V->Option Int->Option Int->Hp->VK->Prop:=fun x lo hi H Q=>∃ a xs,x=.ref a/\SqL K H a xs/\∀ p,H p=none->Q (.ref p) (upd H p (.lst (La xs lo hi)))
theorem Db:SlR X (uM X.K):=by
 intro pins s σ H x v vl vu lo hi sl Q I rx hs pl pu h
 obtain ⟨a,xs,rfl,hx,q⟩:=h
 cases rx
 obtain ⟨its,r,ht,hz⟩:=I.list hx
 have hlen:=r.length
 refine ⟨"list",_,slot_list_getitem.lookup,ht.isList.typeIs,?_⟩
 refine wpAny_getItem_list_slice ht.isList hs pl pu .none (by simp) ?_ (by rw [List.size_toArray]<;>omega)
 rw [S8,<- hlen]
 refine ⟨.ref s.heap.objs.size,_,I.laid (t':=s.toks) (o:=.lst (La xs lo hi)) (fun b ob q=>Heap.get?_push_of_some _ q) (Nat.le_refl _) ?_,rfl,q _ (I.hok.fresh (Nat.le_refl _))⟩
 exact ⟨Nat.le_trans (Ye xs lo hi) hz,_,0,(r.drop (HT.sIx xs.length 0 lo)).take (HT.sIx xs.length xs.length hi-HT.sIx xs.length 0 lo),Heap.get?_push_size _ rfl⟩
def Eb:V->Bool
 | .non=>true
 | .bl _=>true
 | .int _=>true
 | .str _=>true
 | _=>false
def eqV:V->V->Bool
 | .non,.non=>true
 | .bl a,.bl b=>a==b
 | .bl a,.int b=>(if a then 1 else 0)==b
 | .int a,.bl b=>a==(if b then 1 else 0)
 | .int a,.int b=>a==b
 | .str a,.str b=>a==b
 | _,_=>false
theorem cJ {A:Around}{s:Shared}{y x:V}{u v:Value}(ry:B1 y u)(rx:B1 x v)(fy:Eb y=true)(fx:Eb x=true):SeqAt.EqAt A s u v (eqV y x):=by
 cases y with
 | non =>
  cases ry
  cases x with
  | non=>cases rx;exact SeqAt.EqAt.same _
  | bl b=>cases rx;exact SeqAt.EqAt.none_bool b
  | int b=>obtain ⟨t,rfl⟩:=rx;exact SeqAt.EqAt.none_int b t
  | str b=>obtain ⟨t,rfl⟩:=rx;exact SeqAt.EqAt.none_str b t
  | _=>exact absurd (show false=true from fx) Bool.false_ne_true
 | bl a =>
  cases ry
  cases x with
  | non=>cases rx;exact SeqAt.EqAt.bool_none a
  | bl b=>cases rx;exact SeqAt.EqAt.bool_bool a b
  | int b=>obtain ⟨t,rfl⟩:=rx;exact SeqAt.EqAt.bool_int a b t
  | str b=>obtain ⟨t,rfl⟩:=rx;exact SeqAt.EqAt.bool_str a b t
  | _=>exact absurd (show false=true from fx) Bool.false_ne_true
 | int a =>
  obtain ⟨t',rfl⟩:=ry
  cases x with
  | non=>cases rx;exact SeqAt.EqAt.int_none a t'
  | bl b=>cases rx;exact SeqAt.EqAt.int_bool a t' b
  | int b=>obtain ⟨t,rfl⟩:=rx;exact SeqAt.EqAt.int_int a t' b t
  | str b=>obtain ⟨t,rfl⟩:=rx;exact SeqAt.EqAt.int_str a t' b t
  | _=>exact absurd (show false=true from fx) Bool.false_ne_true
 | str a =>
  obtain ⟨t',rfl⟩:=ry
  cases x with
  | non=>cases rx;exact SeqAt.EqAt.str_none a t'
  | bl b=>cases rx;exact SeqAt.EqAt.str_bool a t' b
  | int b=>obtain ⟨t,rfl⟩:=rx;exact SeqAt.EqAt.str_int a t' b t
  | str b=>obtain ⟨t,rfl⟩:=rx;exact SeqAt.EqAt.str_str a t' b t
  | _=>exact absurd (show false=true from fx) Bool.false_ne_true
 | _=>exact absurd (show false=true from fy) Bool.false_ne_true
def eqU (x:V)(u:Value):Bool:=match u with
 | .none=>eqV .non x
 | .bool b=>eqV (.bl b) x
 | .int i _=>eqV (.int i) x
 | .str z _=>eqV (.str z) x
 | _=>false
theorem U7 {x y:V}{u:Value}(r:B1 y u)(f:Eb y=true):eqU x u=eqV y x:=by
 cases y with
 | non=>cases r;rfl
 | bl b=>cases r;rfl
 | int i=>obtain ⟨t,rfl⟩:=r;rfl
 | str z=>obtain ⟨t,rfl⟩:=r;rfl
 | _=>exact absurd (show false=true from f) Bool.false_ne_true
theorem Vg {x:V}:∀ {xs:List V} {us:List Value},Bi xs us->xs.all Eb=true->us.any (eqU x)=xs.any fun y=>eqV y x
 | _,_,.nil,_=>rfl
 | y::xs,u::us,.cons r t,f=>by
  rw [List.all_cons,Bool.and_eq_true] at f
  rw [List.any_cons,List.any_cons,U7 r f.1,Vg t f.2]
theorem Ll {A:Around}{s:Shared}{x:V}{v:Value}(rx:B1 x v)(fx:Eb x=true):∀ {xs:List V} {us:List Value},Bi xs us->xs.all Eb=true->∀ u∈us,SeqAt.EqAt A s u v (eqU x u)
 | _,_,.nil,_=>fun u hu=>by cases hu
 | y::xs,u::us,.cons r t,f=>fun u' hu=>by
  rw [List.all_cons,Bool.and_eq_true] at f
  rcases List.mem_cons.mp hu with rfl | hu
  ·rw [U7 r f.1];exact cJ r rx f.1 fx
  ·exact Ll rx fx t f.2 u' hu
def inV (x:V)(xs:List V):Bool:=xs.any fun y=>eqV y x
def rIn (K:PySem.W.Frag)(neg:Bool):R2:=fun x y H Q=>∃ p xs,y=.ref p/\(SqL K H p xs\/SqT K H p xs)/\Eb x=true/\xs.all Eb=true/\Q (.bl (if neg then !inV x xs else inV x xs)) H
theorem T1:OpR X (compareOp .In) (rIn X.K false):=by
 intro pins s σ H x y v u Q I rx ry h
 obtain ⟨p,xs,rfl,hq,fx,fs,q⟩:=h
 cases ry
 rcases hq with hq | hq
 ·obtain ⟨its,r,pl,hz⟩:=I.list hq
  refine SeqAt.in_listAt (eqU x) pl.isList (fun w hw=>Ll rx fx r fs w (by simpa using hw)) ⟨.bl _,H,I,rfl,?_⟩
  rw [show its.toArray.any (eqU x)=its.any (eqU x) by simp,Vg r fs]
  exact q
 ·obtain ⟨its,r,pl,hz⟩:=I.tuple hq
  refine SeqAt.in_tupleAt (eqU x) pl (fun w hw=>Ll rx fx r fs w (by simpa using hw)) ⟨.bl _,H,I,rfl,?_⟩
  rw [show its.toArray.any (eqU x)=its.any (eqU x) by simp,Vg r fs]
  exact q
theorem W6:OpR X (compareOp .NotIn) (fun x y H Q=>∃ i j,x=.str i/\y=.str j/\Q (.bl (!(!(Builtin.Str.occurrences j i 0 j.length 1).isEmpty))) H):=by
 intro pins s σ H x y v u Q I rx ry h
 obtain ⟨i,j,rfl,rfl,q⟩:=h
 obtain ⟨t,rfl⟩:=rx
 obtain ⟨t',rfl⟩:=ry
 exact notIn_str ⟨.bl _,H,I,rfl,q⟩
theorem Ar:Hr X (.builtin "len") (fun xs H Q=>∃ p ys,xs=[.ref p]/\(SqL X.K H p ys\/SqT X.K H p ys)/\Q (.int ys.length) H):=by
 intro pins s σ H xs us Q I r h
 obtain ⟨p,ys,rfl,hq,q⟩:=h
 obtain ⟨u,rfl,rx⟩:=Fd r
 cases rx
 have hn:=N9
 rcases hq with hq | hq
 ·obtain ⟨its,r',pl,hz⟩:=I.list hq
  have hlen:=r'.length
  exact Calls.call_len_list pl.isList (by simp only [List.size_toArray]<;>omega) ⟨.int ys.length,H,I.tok _,⟨s.toks+1,by rw [List.size_toArray,hlen]⟩,q⟩
 ·obtain ⟨its,r',pl,hz⟩:=I.tuple hq
  have hlen:=r'.length
  exact len_tuple pl (by simp only [List.size_toArray]<;>omega) ⟨.int ys.length,H,I.tok _,⟨s.toks+1,by rw [List.size_toArray,hlen]⟩,q⟩
theorem B5:Hr X (.builtin "len") (fun xs H Q=>∃ z,xs=[.str z]/\z.length<=sizeLine/\Q (.int z.length) H):=by
 intro pins s σ H xs us Q I r h
 obtain ⟨z,rfl,hz,q⟩:=h
 obtain ⟨u,rfl,t,rfl⟩:=Fd r
 have hn:=N9
 exact len_str (by omega) ⟨.int z.length,H,I.tok _,⟨_,rfl⟩,q⟩
theorem Nm:Hr X (.type "list") (fun xs H Q=>∃ p ys,xs=[.ref p]/\(SqL X.K H p ys\/SqT X.K H p ys)/\∀ l,H l=none->Q (.ref l) (upd H l (.lst ys))):=by
 intro pins s σ H xs us Q I r h
 obtain ⟨p,ys,rfl,hq,q⟩:=h
 obtain ⟨u,rfl,rx⟩:=Fd r
 cases rx
 have fin:∀ (its:List Value),Bi ys its->ys.length<=sizeLine->∀ (h':Heap) (c':Nat),(∀ b o',s.heap.get? b=some o'->h'.get? b=some o') ->
   h'.get? s.heap.objs.size=some { cls:=.type "list",dict:=none,data:=.seq its.toArray c',slots:=#[] }->EP X pins σ Q (.ref s.heap.objs.size) { s with heap:=h' }:=fun its r' hz h' c' kp e =>
  ⟨.ref s.heap.objs.size,_,I.laid (t':=s.toks) kp (Nat.le_refl _) (show Eu X.prog X.w _ h' _ (.lst ys) from ⟨hz,its,c',r',e⟩),rfl,q _ (I.hok.fresh (Nat.le_refl _))⟩
 rcases hq with hq | hq
 ·obtain ⟨its,r',pl,hz⟩:=I.list hq
  have hlen:=r'.length
  obtain ⟨o,ho,hc,n,hd⟩:=pl.isList
  exact call_list_seq p (.inl rfl) ho hc hd (fun h' c' kp e=>fin its r' hz h' c' kp e) (by simp only [List.size_toArray]<;>omega)
 ·obtain ⟨its,r',pl,hz⟩:=I.tuple hq
  have hlen:=r'.length
  obtain ⟨o,ho,hc,n,hd⟩:=pl
  exact call_list_seq p (.inr rfl) ho hc hd (fun h' c' kp e=>fin its r' hz h' c' kp e) (by simp only [List.size_toArray]<;>omega)
def tyV (K:PySem.W.Frag)(T:String)(x:V)(H:Hp):Prop:=match x with
 | .str _=>T="str"
 | .int _=>T="int"
 | .ref p=>(T="list"/\∃ xs,SqL K H p xs)\/(T="tuple"/\∃ o,K.lookup p=some o/\o.cls=.type "tuple"/\o.dict=none) \/
   (T="dict"/\((∃ kvs,H p=some (.dK kvs))\/∃ kvs,H p=some (.dT kvs)))\/(T="set"/\∃ S n,H p=some (.set S n))
 | _=>False
theorem lB {pins:List (Addr×Obj)}{σ:St}{H:Hp}{s:Shared}{T:String}{x:V}{v:Value}(I:Inv X pins σ H s)(r:B1 x v)(ty:tyV X.K T x H) :
  s.TypeIs v T/\∀ a,v=.ref a->∃ ob,s.heap.get? a=some ob/\ob.dict=none:=by
 cases x with
 | str z =>
  obtain ⟨t,rfl⟩:=r
  cases (show T="str" from ty)
  exact ⟨typeIs_str s z t,fun _ e=>nomatch e⟩
 | int i =>
  obtain ⟨t,rfl⟩:=r
  cases (show T="int" from ty)
  exact ⟨typeIs_int s i t,fun _ e=>nomatch e⟩
 | ref p =>
  cases r
  rcases ty with ⟨rfl,xs,hq⟩ | ⟨rfl,o,hk,hc,hd⟩ | ⟨rfl,hk⟩ | ⟨rfl,S,n,hk⟩
  ·obtain ⟨its,_,pl,_⟩:=I.list hq
   refine ⟨pl.isList.typeIs,fun a e=>?_⟩
   cases e
   obtain ⟨o,n,e,c,hd,_⟩:=pl
   exact ⟨o,e,hd⟩
  ·refine ⟨⟨o,I.kIn p o hk,hc⟩,fun a e=>?_⟩
   cases e
   exact ⟨o,I.kIn _ o hk,hd⟩
  ·have z:∃ o,s.heap.get? p=some o/\o.ExactDict:=by
    rcases hk with ⟨kvs,hk⟩ | ⟨kvs,hk⟩
    ·obtain ⟨_,_,_,_,o,_,_,e,ex,_⟩:=I.hok p _ hk
     exact ⟨o,e,ex⟩
    ·obtain ⟨_,_,_,_,o,_,_,e,ex,_⟩:=I.hok p _ hk
     exact ⟨o,e,ex⟩
   obtain ⟨o,e,ex⟩:=z
   refine ⟨⟨o,e,ex.1⟩,fun a e2=>?_⟩
   cases e2
   exact ⟨o,e,ex.2.1⟩
  ·obtain ⟨o,_,_,_,e,ex,_⟩:=I.hok p _ hk
   refine ⟨⟨o,e,ex.1⟩,fun a e2=>?_⟩
   cases e2
   exact ⟨o,e,ex.2.1⟩
 | _=>exact False.elim ty
def tZ (K:PySem.W.Frag)(T:String)(r:V->List V->Hp->VK->Prop)(to:TE):TE:=fun σ H Q=>to σ H fun x H1=>tyV K T x H1/\r x [] H1 Q
def tBM (K:PySem.W.Frag)(T:String)(r:V->List V->Hp->VK->Prop)(to:TE)(t:TA):TE:=fun σ H Q=>to σ H fun x H1=>tyV K T x H1/\t σ H1 fun xs H2=>r x xs H2 Q
variable {o e:Expr} {es:List Expr} {to:TE} {t:TA} {name:Str} {apos cpos:Pos} {T id:String} {r:V->List V->Hp->VK->Prop}
theorem Z3 (pa:PlainAttrs T)(slot:Slot T name id)(hty:typeOf (.builtin id)=pure (.type "method_descriptor"))(hm:MtR X id r)(ho:PE X o to)
  (hbase:attributeBase o name X.env (eval o X.env)=eval o X.env:=by rfl)(hline:(apos.endLine==cpos.line)=true:=by rfl):PE X (.Call (.Attribute o name apos) [] [] cpos) (tZ X.K T r to):=by
 intro pins s σ H Q I h
 refine wpAny_Call_method0_late hbase hline (thn (ho pins s σ H _ I h) fun v s1 ⟨x,H1,I1,r1,ty,q1⟩=>?_)
 obtain ⟨h1,h2⟩:=lB I1 r1 ty
 exact ⟨T,id,pa,slot,hty,h1,h2,Calls.callWith_builtin rfl (PySem.evalArgs_none (hm pins s1 σ H1 x [] v [] Q I1 r1 .nil q1))⟩
theorem Ds (pa:PlainAttrs T)(slot:Slot T name id)(hty:typeOf (.builtin id)=pure (.type "method_descriptor"))(hm:MtR X id r)(ho:PE X o to)(ha:PA X (e::es) t)
  (hbase:attributeBase o name X.env (eval o X.env)=eval o X.env:=by rfl)
  (hfew:((backTo cpos (starEach (e::es) X.env)).all (fun x=>!x.1)&&(backToKw cpos (keywordEach [] X.env)).all (fun x=>x.1.isSome)
   && decide ((e::es).length+([]:List Keyword).length+(if ([]:List Keyword).isEmpty then 0 else 1)<30))=true:=by rfl)
  (hline:(apos.endLine==cpos.line)=true:=by rfl)(hs:starEach (e::es) X.env=(false,eval e X.env)::starEach es X.env:=by rfl)(hplain:(backTo cpos (starEach es X.env)).any (·.1)=false:=by rfl) :
  PE X (.Call (.Attribute o name apos) (e::es) [] cpos) (tBM X.K T r to t):=by
 intro pins s σ H Q I h
 refine wpAny_Call_method_late hbase hfew hline rfl (thn (ho pins s σ H _ I h) fun v s1 ⟨x,H1,I1,r1,ty,q1⟩=>?_)
 obtain ⟨h1,h2⟩:=lB I1 r1 ty
 refine ⟨T,id,pa,slot,hty,h1,h2,?_⟩
 have hA:=ha cpos pins s1 σ H1 _ I1 q1
 rw [hs] at hA ⊢
 refine Calls.callWith_builtin (by show (false||(backTo cpos (starEach es X.env)).any (·.1))=false;rw [hplain]<;>rfl) (Calls.evalArgs_plain ?_)
 exact thn hA fun us s2 ⟨vs,H2,I2,r2,q2⟩=>hm pins s2 σ H2 x vs v us Q I2 r1 r2 q2
/- xs.append(e),list.index on a module's tuple .. are MtR facts of 06m -/
end
def MtM (X:Cx)(id:String)(r:V->List V->Hp->VK->Prop):Prop :=
 ∀ (pins:List (Addr×Obj)) (s:Shared) (σ:St) (H:Hp) (x:V) (xs:List V) (v:Value) (us:List Value) (Q:VK),Inv X pins σ H s->B1 x v->Bi xs us->r x xs H Q ->
  wpAny (model X.prog X.w) X.A (call (.builtin id) (v::us)) (EP X pins σ Q) X.xe s
theorem Bi.one:∀ {x:V} {us:List Value},Bi [x] us->∃ u,us=[u]/\B1 x u
 | _,_,.cons r .nil=>⟨_,rfl,r⟩
theorem Bi.zero:∀ {us:List Value},Bi [] us->us=[]
 | _,.nil=>rfl
theorem Bi.dropLast {xs:List V}{us:List Value}(h:Bi xs us):Bi xs.dropLast us.dropLast:=by
 induction h with
 | nil=>exact .nil
 | cons r t ih =>
  cases t with
  | nil=>exact .nil
  | cons q t'=>exact .cons r ih
theorem Z1 {α:Type}(l:List α):l.eraseIdx (l.length-1)=l.dropLast:=by
 induction l with
 | nil=>rfl
 | cons a r ih =>
  cases r with
  | nil=>rfl
  | cons b r =>
   have e:(a::b::r).length-1=((b::r).length-1)+1:=by
    have h1:(a::b::r).length=r.length+2:=rfl
    have h2:(b::r).length=r.length+1:=rfl
    omega
   rw [e,List.eraseIdx_cons_succ,ih]
   all_goals rfl
section
variable {X:Cx} {pins:List (Addr×Obj)} {σ:St} {H:Hp} {s:Shared} {l b:Addr} {xs ys zs:List V}
theorem Inv.lset {its its':List Value}{n:Nat}{f:Array Value->Array Value}{t':Nat}(I:Inv X pins σ H s)(hH:H l=some (.lst xs))
  (e:s.heap.get? l=some { cls:=.type "list",data:=.seq its.toArray n })(hf:f its.toArray=its'.toArray)(hv:Bi ys its')(hz:ys.length<=sizeLine) :
  Inv X pins σ (upd H l (.lst ys)) { s with heap:=s.heap.update l (Obj.mapSeq f),toks:=t' }:=by
 have q:=PySem.IsL.update e f
 rw [hf] at q
 refine I.write (x:=l) (e:=l) (by rw [hH];exact trivial) (.inl rfl) (fun b' u hb hu=>(Heap.get?_update_other s.heap (Obj.mapSeq f) (Ne.symm hb)).trans hu) ⟨_,q⟩ ?_
 exact ⟨hz,its',_,hv,q⟩
theorem Inv.lnew {its:List Value}{t':Nat}(I:Inv X pins σ H s)(hv:Bi ys its)(hz:ys.length<=sizeLine) :
  Inv X pins σ (upd H s.heap.objs.size (.lst ys)) { s with heap:=s.heap.push { cls:=.type "list",data:=.seq its.toArray },toks:=t' } :=
 I.laid (fun _ _ q=>Heap.get?_push_of_some _ q) (Nat.le_refl _) ⟨hz,its,0,hv,Heap.get?_push_size _ rfl⟩
theorem Inv.fresh (I:Inv X pins σ H s):H s.heap.objs.size=none:=I.hok.fresh (Nat.le_refl _)
theorem Inv.lstM (I:Inv X pins σ H s)(hH:H l=some (.lst xs)):xs.length<=sizeLine/\∃ (its:List Value) (n:Nat),Bi xs its/\xs.length=its.length/\s.heap.get? l=some { cls:=.type "list",data:=.seq its.toArray n }:=by
 obtain ⟨z,its,n,r,e⟩:=I.hok l _ hH
 exact ⟨z,its,n,r,r.length,e⟩
theorem hX {n:Nat}(h:n<=sizeLine):Builtin.List.listTooLong n=false:=by
 unfold Builtin.List.listTooLong
 exact decide_eq_false (by omega)
end
section
variable {X:Cx}
def eQ:V->List V->Hp->VK->Prop:=fun x vs H Q=>∃ l xs y,x=.ref l/\vs=[y]/\H l=some (.lst xs)/\xs.length<sizeLine/\Q .non (upd H l (.lst (xs++[y])))
theorem B7:MtM X "list.append" eQ:=by
 intro pins s σ H x vs v us Q I rx rv h
 obtain ⟨l,xs,y,rfl,rfl,hH,hz,q⟩:=h
 cases rx
 obtain ⟨u,rfl,ru⟩:=rv.one
 obtain ⟨z,its,n,r,hl,e⟩:=I.lstM hH
 refine call_meets F.slot_list_append ⟨_,e,rfl⟩ F.entry_list_append (F.args_list_append_2 _ _) (PySem.list_append l its.toArray n u (by rw [List.size_toArray];omega)) ⟨e,?_⟩
 refine ⟨.non,_,I.lset (its':=its++[u]) hH e (by simp) (r.append (.cons ru .nil)) ?_,rfl,q⟩
 rw [List.length_append,List.length_singleton]
 omega
def mB:V->List V->Hp->VK->Prop:=fun x vs H Q=>∃ l b xs zs,x=.ref l/\vs=[.ref b]/\H l=some (.lst xs)/\H b=some (.lst zs)/\xs.length+zs.length<=sizeLine/\Q .non (upd H l (.lst (xs++zs)))
theorem rH:MtM X "list.extend" mB:=by
 intro pins s σ H x vs v us Q I rx rv h
 obtain ⟨l,b,xs,zs,rfl,rfl,hH,hB,hz,q⟩:=h
 cases rx
 obtain ⟨u,rfl,ru⟩:=rv.one
 cases ru
 obtain ⟨z,its,n,r,hl,e⟩:=I.lstM hH
 obtain ⟨z2,its2,n2,r2,hl2,e2⟩:=I.lstM hB
 have hsz:its.toArray.size+its2.toArray.size<=sizeLine:=by rw [List.size_toArray,List.size_toArray];omega
 have hlong:¬ (!its.toArray.isEmpty&&Builtin.List.listTooLong (its.toArray.size+its2.toArray.size))=true:=by
  rw [hX hsz,Bool.and_false]
  exact Bool.false_ne_true
 refine call_meets F.slot_list_extend ⟨_,e,rfl⟩ F.entry_list_extend (F.args_list_extend_2 _ _)
  (AutoSeq1.list_extend_list_list_0 l its.toArray n b its2.toArray n2 hlong (by rw [List.size_toArray];omega) (by omega)) ⟨e,e2,?_⟩
 refine ⟨.non,_,I.lset (its':=its++its2) hH e (by simp) (r.append r2) ?_,rfl,q⟩
 rw [List.length_append]
 omega
def uK:V->List V->Hp->VK->Prop:=fun x vs H Q=>∃ l xs y,x=.ref l/\vs=[]/\H l=some (.lst xs)/\xs[xs.length-1]?=some y/\Q y (upd H l (.lst xs.dropLast))
theorem cG:MtM X "list.pop" uK:=by
 intro pins s σ H x vs v us Q I rx rv h
 obtain ⟨l,xs,y,rfl,rfl,hH,hy,q⟩:=h
 cases rx
 have hus:=rv.zero
 subst hus
 obtain ⟨z,its,n,r,hl,e⟩:=I.lstM hH
 obtain ⟨u,hu,ru⟩:=r.get hy
 have hy':its.toArray[its.toArray.size-1]?=some u:=by
  show its.toArray[its.length-1]?=some u
  rw [<- Array.getElem?_toList,<- hl]
  exact hu
 refine call_meets F.slot_list_pop ⟨_,e,rfl⟩ F.entry_list_pop (F.args_list_pop_1 _) (MeetsSeq.list_pop_last l its.toArray n u hy' (by rw [List.size_toArray];omega)) ⟨e,?_⟩
 refine ⟨y,_,I.lset (its':=its.dropLast) hH e ?_ r.dropLast ?_,ru,q⟩
 ·show its.toArray.eraseIdxIfInBounds (its.toArray.size-1)=its.dropLast.toArray
  rw [List.size_toArray,List.eraseIdxIfInBounds_toArray,Z1]
 ·rw [List.length_dropLast]
  omega
def uN:R2:=fun x y H Q=>∃ l b xs zs,x=.ref l/\y=.ref b/\H l=some (.lst xs)/\H b=some (.lst zs)/\xs.length+zs.length<=sizeLine/\∀ p,H p=none->Q (.ref p) (upd H p (.lst (xs++zs)))
theorem F5:OpR X (binaryOp .Add) uN:=by
 intro pins s σ H x y v u Q I rx ry h
 obtain ⟨l,b,xs,zs,rfl,rfl,hH,hB,hz,q⟩:=h
 cases rx
 cases ry
 obtain ⟨z,its,n,r,hl,e⟩:=I.lstM hH
 obtain ⟨z2,its2,n2,r2,hl2,e2⟩:=I.lstM hB
 refine PySem.P.add_list e e2 ?_ (by rw [List.size_toArray,List.size_toArray];omega)
 have ea:its.toArray++its2.toArray=(its++its2).toArray:=by simp
 rw [ea]
 exact ⟨.ref _,_,I.lnew (t':=s.toks) (r.append r2) (by rw [List.length_append];omega),rfl,q _ I.fresh⟩
theorem lQ {α:Type}(xs:List α)(k:Nat):(List.replicate k xs).flatten.length=k*xs.length:=by
 induction k with
 | zero=>simp
 | succ k ih=>rw [List.replicate_succ,List.flatten_cons,List.length_append,ih,Nat.succ_mul,Nat.add_comm]
end
end L2
namespace Att
open PySem PySem.W PySem.Calls PyProof.Rows
theorem Pd {P:Params}{h:Heap}:∀ (ns:List Int) (vs:List Value),WellAll P h vs (ns.map WData.int)->IntsAre vs ns:=by
 intro ns
 induction ns with
 | nil =>
  intro vs w
  rw [List.map_nil] at w
  cases w
  exact .nil
 | cons n ns ih =>
  intro vs w
  rw [List.map_cons] at w
  cases w with
  | cons a b =>
   cases a
   exact .cons _ _ (ih _ b)
theorem gO {l:OpenLaw}{n:Nat}(hn:l.most=some n){P:Params}{h:Heap}{args:List WData}{vals:List Value}
    (hpre : l.row.toRowW.claim.pre args = true)(hwl : WellAll P h vals args) :
    ∃ a vs ns, vals = [Value.ref a]/\args = [WData.list (ns.map WData.int)]/\h.get? a = some { cls := .type "list", data := .seq vs.toArray }/\IntsAre vs ns/\ns.length <= n := by
  have hsh : WShape.hasAll [] args [.list .int] = true := (pre_splitW hpre).1
  have hc : l.pre.holds [] { args := args } = true := (pre_splitW hpre).2
  obtain ⟨d, r, rfl, h1, h2⟩ := hasAllW_cons hsh
  obtain rfl := hasAllW_nil h2
  obtain ⟨xs, rfl, h3⟩ := hasW_list h1
  obtain ⟨ns, rfl⟩ := items_int h3
  have hlen : ns.length <= n := by
    unfold OpenLaw.pre at hc
    have h4 : (WTm.not (.lt (.lit (.int (n : Int))) (.len (.arg 0)))).holds [] { args := [.list (ns.map .int)] } = true := by
      have h4 := (holds_andW hc).1
      rw [hn] at h4
      exact h4
    have h5 := condW_of h4 (w_not (w_lt w_lit (w_len_list (w_arg rfl))))
    rw [List.length_map] at h5
    refine Nat.le_of_not_lt fun q => ?_
    have q' : (n : Int) < ((ns.length : Nat) : Int) := by omega
    first
      | (rw [decide_eq_true q'] at h5; exact absurd h5 (by decide))
      | (simp at h5; omega)
  cases hwl with
  | cons w1 w2 =>
    cases w2
    cases w1 with
    | list ho hall => exact ⟨_, _, ns, rfl, rfl, ho, Pd ns _ hall, hlen⟩
theorem fH (l:OpenLaw)(args:List WData):l.row.toRowW.claim.post args (.bool true) args=true :=
 postW_of (r:=l.row.toRowW) (X:=(true==true))
  (show WShape.has [] (.bool true) .bool=true by first | rfl | decide | simp [WShape.has,WShape.arms,WShape.armsAll])
  (show (WTm.eq .res (.lit (.bool true))).value [] { args:=args,res:=some (.bool true),after:=args }=some (.bool (true==true)) from w_eq_bool (w_res rfl) w_lit) rfl
theorem attach_call {l:OpenLaw}{n:Nat}{q:Program}{loose:List Str}{XP:(Str->Option Value)->Heap->Prop}{YP:World->Heap->Prop}{d:DefRec}
  (hn:l.most=some n)(hdf:d.params.defaults=[])
  (call:∀ (w:World) (s₀ s₁:Shared) (mg mb:Str->Option Value) (fa:Addr) (o:Obj) (pm cd doc:Value) (a:Addr) (vs:List Value) (ns:List Int),
   Ground q loose [] XP w s₀ mg mb s₁.heap->YP w s₁.heap ->
   s₁.heap.get? fa=some o->o.data=.func (docDef d.name d.params d.body d.scope pm cd doc)->s₁.heap.CodeRec cd d.name->mg d.name=some (.ref fa) ->
   s₁.heap.get? a=some { cls:=.type "list",data:=.seq vs.toArray }->IntsAre vs ns->ns.length<=n->s₁.gens=#[] ->
   codeAny (model l.prog w) callerA (.call (.ref fa) ⟨[.ref a],[]⟩) (fun r s'=>r=.ok (.ret (.bool true))/\OldK s₁.heap s'.heap/\s'.os=s₁.os/\AllBare s'.gens) s₁) :
  WalkO q loose XP YP l.row.toRowW d [] (fun f vs=>PySem.call f vs):=by
 intro w s₀ s₁ mg mb G Y fa o pm cd doc dV kV ho hd hcd hD hmg hg args vals as hpre hlay hrd hwl hlo
 obtain rfl:dV=.none:=Dflts.none hD hdf
 obtain rfl:kV=.none:=Dflts.noKw hD
 obtain ⟨a,vs,ns,rfl,rfl,hobj,hints,hlen⟩:=gO hn hpre hwl
 refine enter_call (codeAny_mono (call w s₀ s₁ mg mb fa o pm cd doc a vs ns G Y ho (fd_plain hd) hcd hmg hobj hints hlen hg) fun r s' hq=>?_)
 obtain ⟨rfl,h2,h3,h4⟩:=hq
 exact ⟨.inl ⟨.bool true,.bool true,[],rfl,fun _=>rfl,.bool true,fH l _,fun _=>⟨List.Pairwise.nil,fun _ hm=>(nomatch hm)⟩⟩,h2,h3,h4⟩
section
variable {prog:Program} {w:World} {A:Around} {E:Value->Shared->Prop} {s:Shared} {K:Frag}
end
end Att
namespace L2
open PySem PySem.Spec PyProof.Rows
theorem Tx:∀ {vs:List Value} {ns:List Int},IntsAre vs ns->Bi (ns.map V.int) vs
 | _,_,.nil=>.nil
 | _,_,.cons n t h=>.cons ⟨t,rfl⟩ (Tx h)
def A3 (s:Stmt)(j:Nat):Stmt:=match s with
 | .ClassDef _ _ _ body _ _ _ _ _ _ _=>body.getD j (.Pass ⟨0,0,0,0⟩)
 | _=>.Pass ⟨0,0,0,0⟩
def C1 (s:Stmt):Arguments:=match s with
 | .FunctionDef _ a _ _ _ _ _ _ _ _=>a
 | _=>{ posonlyargs:=[],args:=[],vararg:=none,kwonlyargs:=[],kw_defaults:=[],kwarg:=none,defaults:=[] }
def Ck (s:Stmt):List Stmt:=match s with
 | .FunctionDef _ _ b _ _ _ _ _ _ _=>b
 | _=>[]
def Ah (s:Stmt):Scope:=match s with
 | .FunctionDef _ _ _ _ _ _ sc _ _ _=>sc
 | _=>{ kind:=.function,names:=[],isGenerator:=false,isCoroutine:=false }
abbrev CX0:CXT:=fun _ _ _ _ _ _=>False
abbrev E0:XK:=fun _ _ _=>False
theorem Yh {X:Cx}:Md CX0 X E0:=fun _ _ _ _ _ _ _ h=>h.elim
structure Fun (K:PySem.W.Frag) (x qual:Str) (st:Stmt) (f:Addr) (fd:FuncData):Prop where
 ex:∃ (oc:Value) (od:Option Addr) (kV doc pm:Value) (an:Option Addr) (cdv ct:Value) (osl:Array (Option Value)),
  fd=PySem.W.fnOf x qual (C1 st) (Ck st) (Ah st) .none kV doc pm an cdv ct/\K.lookup f=some ⟨oc,od,.func fd,osl⟩/\PySem.W.codeIn K cdv qual=true
 kp:PySem.W.keepIn K (.ref f)=true
section
variable {P:Program} {w:World} {K:PySem.W.Frag} {mg:Str->Option Value} {base:Heap}
theorem Fun.ok {x qual:Str}{st:Stmt}{f:Addr}{fd:FuncData}{N ps:List Str}{k:Nat}{sp:Sp}(F:Fun K x qual st f fd)(S:Ao N ps (Ah st))(len:∀ vs H Q E,sp vs H Q E->vs.length=ps.length)
  (hbody:∀ (cdv:Value) (A:Around) (outer:List Env) (s:Shared) (H:Hp) (vs:List V) (Q:VK) (E:XK),Dh k (A.deeper (envOfC qual (Ah st) s.heap.objs.size f cdv))->sp vs H Q E ->
   ∃ t,PSs (cQ CX0 P w K mg base N qual (Ah st) f cdv A outer s H E).nox (Ck st) t/\t { nx:=fun _ H'=>Q .non H',rt:=Q } (M0 N vs) H):A9 P w K mg base CX0 (k+1) f fd ps sp:=by
 obtain ⟨oc,od,kV,doc,pm,an,cdv,ct,osl,rfl,lk,hcd⟩:=F.ex
 refine oR lk hcd S len fun A outer s H vs Q E hr hsp=>?_
 obtain ⟨t,h,q⟩:=hbody cdv A outer s H vs Q E hr hsp
 exact ⟨t,h.nox,q⟩
theorem Fun.binds {x qual:Str}{st:Stmt}{f:Addr}{fd:FuncData}{ps:List Str}(F:Fun K x qual st f fd)
  (h:∀ (kV doc pm:Value) (an:Option Addr) (cdv ct:Value) (us:List Value),us.length=ps.length->bindArgs (PySem.W.fnOf x qual (C1 st) (Ck st) (Ah st) .none kV doc pm an cdv ct) ⟨us,[]⟩=pure (ps.zip us)):Gw K fd ps []:=by
 obtain ⟨oc,od,kV,doc,pm,an,cdv,ct,osl,rfl,lk,hcd⟩:=F.ex
 exact .all (h kV doc pm an cdv ct)
theorem cM {x qual:Str}{st:Stmt}{f:Addr}{oc:Value}{od an:Option Addr}{osl:Array (Option Value)}{kV doc pm cdv ct:Value}(l:K.lookup f=some ⟨oc,od,.func (PySem.W.fnOf x qual (C1 st) (Ck st) (Ah st) .none kV doc pm an cdv ct),osl⟩)
  (c:PySem.W.codeIn K cdv qual=true)(k:PySem.W.keepIn K (.ref f)=true):Fun K x qual st f (PySem.W.fnOf x qual (C1 st) (Ck st) (Ah st) .none kV doc pm an cdv ct):=⟨⟨oc,od,kV,doc,pm,an,cdv,ct,osl,rfl,l,c⟩,k⟩
end
theorem Lw {n:Nat}(h:n<=1000):n<sizeLine:=Nat.lt_of_le_of_lt h (by decide)
section
variable {X:Cx}
theorem pv (i:Nat){x:Str}{pos:Pos}(hN:X.N[i]?=some x:=by rfl)(hv:Vis X.env.scope x:=by first | exact Or.inl rfl | exact Or.inr (Or.inl rfl) | exact Or.inr (Or.inr rfl))(hd:(x==("__debug__":Str))=false:=by decide)
  (hcd:(x==("__classdict__":Str))=false:=by decide):PE X (.Name x pos) (nG i):=jJ hN hv hd hcd
end
theorem uH {A B:Prop}(h:B):if false=true then A else B:=by
 rw [if_neg Bool.false_ne_true]
 exact h
theorem uY {A B:Prop}(h:A):if true=true then A else B:=by
 rw [if_pos rfl]
 exact h
def An (H H':Hp):Prop:=∀ b o,H b=some o->H' b=some o
theorem An.refl (H:Hp):An H H:=fun _ _ h=>h
theorem An.trans {H H1 H2:Hp}(a:An H H1)(b:An H1 H2):An H H2:=fun c o h=>b c o (a c o h)
theorem An.free {H H':Hp}(e:An H H'){l:Addr}(h:H' l=Option.none):H l=Option.none:=by
 cases q:H l with
 | none=>rfl
 | some o =>
  rw [e l o q] at h
  cases h
theorem An.seq {K:PySem.W.Frag}{H H':Hp}{a:Addr}{xs:List V}(e:An H H')(h:SqL K H a xs):SqL K H' a xs:=by
 rcases h with (h | ⟨o,h⟩) | h
 ·exact .inl (.inl (e _ _ h))
 ·exact .inl (.inr ⟨o,e _ _ h⟩)
 ·exact .inr h
end L2
section
namespace L2
open PySem PySem.Spec PyProof.Rows
section
variable {prog:Program} {w:World} {A:Around} {R:Result->Shared->Prop} {s:Shared}
def eD (ifs:List Expr)(env:Env):Sem Bool :=
 forIn ifs true fun c r=>if r=true then do let ok <- isTrue c env (eval c env);pure (ForInStep.yield ok) else pure (ForInStep.yield r)
theorem dD {elt tg iter:Expr}{ifs:List Expr}{scope:Scope}{pos:Pos}{it acc:Value}{env:Env}(J:Nat->Shared->Prop)
  (turn:∀ n s,J n s->wpAny (model prog w) A (pyNext it) (fun r s1=>match r with
   | none=>R (.ok .next) s1
   | some v=>wpAny (model prog w) A (letOwnedTupleGo tg it v) (fun _ s2=>wpAny (model prog w) A (assign tg env v) (fun _ s3=>wpAny (model prog w) A (eD ifs env) (fun ok s4 =>
     if ok=true then wpAny (model prog w) A (eval elt env) (fun x s5=>wpAny (model prog w) A (call (.builtin "list.append") [acc,x]) (fun _ s6=>∃ m,m<n/\J m s6) (fun _ _=>False) s5) (fun _ _=>False) s4
     else ∃ m,m<n/\J m s4) (fun _ _=>False) s3) (fun _ _=>False) s2) (fun _ _=>False) s1) (fun _ _=>False) s)
  (n:Nat)(h:J n s):codeAny (model prog w) A (.compLoop (.ListComp elt [⟨tg,iter,ifs,0⟩] scope pos) 0 it acc env) R s:=by
 refine codeAny_loop rfl J (fun n s hJ=>?_) n h
 show wpAny _ A (Sem.onRaise (compTurn (.ListComp elt [⟨tg,iter,ifs,0⟩] scope pos) 0 it acc env) _) _ _ s
 refine wpAny_noted ?_
 rw [compTurn_list]
 refine wpAny_bind (wpAny_standAt (wpAny_bind (wpAny_mono (turn n s hJ) (fun r s1 h1=>?_) (fun _ _ z=>z.elim))))
 cases r with
 | none=>exact wpAny_pure h1
 | some v =>
  refine wpAny_bind (wpAny_mono h1 (fun _ s2 h2=>wpAny_bind (wpAny_mono h2 (fun _ s3 h3=>wpAny_bind (wpAny_mono h3 (fun ok s4 h4=>?_) (fun _ _ z=>z.elim))) (fun _ _ z=>z.elim))) (fun _ _ z=>z.elim))
  cases ok with
  | false=>exact wpAny_pure ⟨rfl,h4⟩
  | true=>exact wpAny_bind (wpAny_bind (wpAny_mono h4 (fun x s5 h5=>wpAny_bind (wpAny_mono h5 (fun _ s6 h6=>wpAny_pure (wpAny_pure ⟨rfl,h6⟩)) (fun _ _ z=>z.elim))) (fun _ _ z=>z.elim)))
end
def Dw (env:Env):List (Str×NameKind)->List (Str×Addr)->List (Str×Addr)
 | [],cs=>cs
 | y::r,cs=>if y.2=.free then Dw env r ((y.1,(env.cells.lookup y.1).getD 0)::cs) else Dw env r cs
theorem W1 {env:Env}(f:Str×NameKind->List (Str×Addr)->Sem (ForInStep (List (Str×Addr))))
  (h1:∀ y cs c,y.2=.free->env.cells.lookup y.1=some c->f y cs=pure (.yield ((y.1,c)::cs)))(h2:∀ y cs,y.2≠.free->f y cs=pure (.yield cs)) :
  ∀ (ns:List (Str×NameKind)) (cs:List (Str×Addr)),(∀ y∈ns,y.2=.free->∃ c,env.cells.lookup y.1=some c)->forIn ns cs f=(pure (Dw env ns cs):Sem (List (Str×Addr)))
 | [],cs,_=>by simp [Dw]
 | y::r,cs,h=>by
  have hr:∀ z∈r,z.2=.free->∃ c,env.cells.lookup z.1=some c:=fun z hz=>h z (List.mem_cons_of_mem _ hz)
  rw [List.forIn_cons]
  by_cases hy:y.2=.free
  ·obtain ⟨c,hc⟩:=h y List.mem_cons_self hy
   rw [h1 y cs c hy hc]
   simp only [Dw,if_pos hy,hc,Option.getD_some]
   exact W1 f h1 h2 r _ hr
  ·rw [h2 y cs hy]
   simp only [Dw,if_neg hy]
   exact W1 f h1 h2 r _ hr
theorem Hi {scope:Scope}{env:Env}(h:∀ y∈scope.names,y.2=.free->∃ c,env.cells.lookup y.1=some c):closureFor scope env=pure (Dw env scope.names []):=by
 unfold closureFor
 dsimp only
 rw [W1 (env:=env) _ (fun y cs c hy hc=>?_) (fun y cs hy=>?_) scope.names [] h]
 ·rfl
 ·obtain ⟨n,k⟩:=y
  dsimp only at hy hc ⊢
  subst hy
  simp only [cellOf,hc,beq_self_eq_true,if_true]
  rfl
 ·obtain ⟨n,k⟩:=y
  have e:(k==NameKind.free)=false:=by simpa using hy
  simp only [e,Bool.false_eq_true,if_false]
theorem Ir {env:Env}:∀ (ns:List (Str×NameKind)) (cs:List (Str×Addr)) (x:Str) (c:Addr),(∀ y∈ns,y.2=.free->∃ c,env.cells.lookup y.1=some c) ->
  (∀ z d,cs.lookup z=some d->env.cells.lookup z=some d)->(Dw env ns cs).lookup x=some c->env.cells.lookup x=some c
 | [],cs,x,c,_,hc,h=>hc x c h
 | y::r,cs,x,c,hy,hc,h=>by
  have hr:∀ z∈r,z.2=.free->∃ c,env.cells.lookup z.1=some c:=fun z hz=>hy z (List.mem_cons_of_mem _ hz)
  unfold Dw at h
  split at h
  ·rename_i hk
   obtain ⟨d,hd⟩:=hy y List.mem_cons_self hk
   rw [hd] at h
   refine Ir r _ x c hr (fun z e hz=>?_) h
   rw [List.lookup_cons] at hz
   split at hz
   ·rename_i hzy
    cases hz
    rw [eq_of_beq hzy];exact hd
   ·exact hc z e hz
  ·exact Ir r _ x c hr hc h
theorem Ml {env:Env}:∀ (ns:List (Str×NameKind)) (cs:List (Str×Addr)) (x:Str),(cs.lookup x).isSome=true->((Dw env ns cs).lookup x).isSome=true
 | [],_,_,h=>h
 | y::r,cs,x,h=>by
  unfold Dw
  split
  ·refine Ml r _ x ?_
   rw [List.lookup_cons]
   split
   ·rfl
   ·exact h
  ·exact Ml r _ x h
theorem Fb {env:Env}:∀ (ns:List (Str×NameKind)) (cs:List (Str×Addr)) (x:Str),(x,NameKind.free)∈ns->((Dw env ns cs).lookup x).isSome=true
 | [],_,_,h=>by simp at h
 | y::r,cs,x,h=>by
  rcases List.mem_cons.mp h with e | e
  ·subst e
   unfold Dw
   rw [if_pos rfl]
   exact Ml r _ x (by simp)
  ·unfold Dw
   split
   ·exact Fb r _ x e
   ·exact Fb r _ x e
theorem Jz {scope:Scope}{env:Env}{x:Str}{k:NameKind}(h:(relabel scope env).names.lookup x=some k):(x,k)∈scope.names\/((x,NameKind.free)∈scope.names/\k=NameKind.cell):=by
 have m:=PySem.mem_of_lookup h
 obtain ⟨⟨n,k'⟩,hm,e⟩:=List.mem_map.mp m
 dsimp only at e
 split at e
 ·rename_i hk
  cases e
  simp only [Bool.and_eq_true,beq_iff_eq] at hk
  rw [hk.1.1] at hm
  exact .inr ⟨hm,rfl⟩
 ·cases e
  exact .inl hm
theorem Nr {scope:Scope}{env:Env}(hk:env.scope.kind=.function){x:Str}(hx:env.kindOf x=some .cell)(h:scope.names.lookup x=some .free):(relabel scope env).names.lookup x=some .cell:=by
 unfold relabel
 show (scope.names.map _).lookup x=some NameKind.cell
 generalize scope.names=ns at h
 induction ns with
 | nil=>simp at h
 | cons y r ih =>
  obtain ⟨n,k⟩:=y
  rw [List.lookup_cons] at h
  rw [List.map_cons]
  split at h
  ·rename_i hn
   cases h
   rw [<- eq_of_beq hn]
   simp [hk,hx]
  ·rename_i hn
   dsimp only
   split
   ·rw [List.lookup_cons,hn];exact ih h
   ·rw [List.lookup_cons,hn];exact ih h
def Fg (X:Cx)(scope:Scope)(N:List Str)(C:Addr)(s:Shared)(H:Hp)(fp:List Addr):Cx :=
 { X with N:=N,s₀:=s,H₀:=H,env:=compEnvC scope (Dw X.env scope.names []) C X.env,outer:=X.stack,ex:=fp,fn:=fun _=>false,pn:=[],xe:=fun _ _=>False }
structure Bf (N₀:List Str) (sc₀ sc:Scope) (x:Str) (N:List Str) (ix:List Nat):Prop where
 kind:sc.kind=.function
 nocell:∀ y∈sc.names,y.2≠.cell
 names:∀ y∈sc.names,y.2=.local->sc.names.lookup y.1=some .local
 free:∀ y∈sc.names,y.2=.free->sc₀.names.lookup y.1=some .cell
 nd:N.Nodup
 hd:N.head?=some x
 loc:sc.names.lookup x=some .local
 len:N.length=ix.length+1
 at_:∀ p∈N.tail.zip ix,N₀[p.2]?=some p.1/\sc.names.lookup p.1=some .free
def frV (σ:St)(ix:List Nat):St:=ix.map fun j=>(σ[j]?).getD none
def PIf (X:Cx)(ifs:List Expr)(t:TT):Prop :=
 ∀ (pins:List (Addr×Obj)) (s:Shared) (σ:St) (H:Hp) (Q:Bool->Hp->Prop),Inv X pins σ H s->t σ H Q->wpAny (model X.prog X.w) X.A (eD ifs X.env) (TP X pins σ Q) X.xe s
def sH:TT:=fun _ H Q=>Q true H
theorem Co {X:Cx}:PIf X [] sH:=fun pins s σ H Q I h=>wpAny_tests_nil ⟨H,I,h⟩
theorem Gf {X:Cx}{c:Expr}{t:TT}(h:PT X c t):PIf X [c] t:=fun pins s σ H Q I hw=>wpAny_tests_one (h pins s σ H Q I hw)
def Vn (J:It)(H1:Hp)(fr:St)(tc:TT)(te:TE)(Q:VK):Prop:=∀ D,H1 D=none->∃ W:Nat->Nat->Hp->Prop,(∃ m,W 0 m (upd H1 D (.lst [])))/\∀ i m H,W i m H ->
 (J.stop i H/\Q (.ref D) H)\/(J.go i H/\∀ x H',J.yld i H x H'->tc (some x::fr) H' fun b H3 =>
  if b=true then te (some x::fr) H3 fun y H4=>∃ ys,H4 D=some (.lst ys)/\ys.length<sizeLine/\∃ m',m'<m/\W (i+1) m' (upd H4 D (.lst (ys++[y]))) else ∃ m',m'<m/\W (i+1) m' H3)
def tLc (wi:TI)(ix:List Nat)(tc:TT)(te:TE):TE:=fun σ H Q=>wi σ H fun J H1=>Vn J H1 (frV σ ix) tc te Q
section
variable {X:Cx} {scope:Scope} {N:List Str} {ix:List Nat} {x:Str} {px:Pos} {elt iter:Expr} {ifs:List Expr} {tc:TT} {te:TE} {pos:Pos}
theorem sR {pins:List (Addr×Obj)}{σ:St}{H2:Hp}{s2:Shared}{J:It}{fp:List Addr}{it:Addr}{tn:Nat->Heap->Prop}{tg:Expr}(L:Bf X.N X.env.scope scope x N ix)(I2:Inv X pins σ H2 s2)
  (T:Nw X.prog X.w X.K tg J fp it tn)(st2:tn 0 s2.heap)(f2:∀ b∈fp,Ni X pins H2 b){C:Addr}{s3 s4:Shared}{H3:Hp}(I3:Inv X pins σ H3 s3)(I4:Inv X pins σ H3 s4)(hle:s2.heap.objs.size<=s3.heap.objs.size)
  (hC:C=s3.heap.objs.size)(ho:s4.os=s3.os)(kp:∀ b u,s3.heap.get? b=some u->s4.heap.get? b=some u){m:Str->Option Value}(hns:s4.heap.Ns C m):Inv (Fg X scope N C s3 H3 fp) [] (none::frV σ ix) H3 s4:=by
 have hfree:∀ y∈scope.names,y.2=.free->∃ c,X.env.cells.lookup y.1=some c:=fun y hy hf=>I2.ok.has y.1 (.inl (L.free y hy hf))
 have sub:∀ y c,(Dw X.env scope.names []).lookup y=some c->X.env.cells.lookup y=some c:=fun y c h=>Ir _ _ y c hfree (fun _ _ z=>by simp at z) h
 have lt2:∀ b∈fp,b<s2.heap.objs.size:=fun b hb=>by obtain ⟨o,e,_⟩:=T.obj _ _ st2 b hb;exact Heap.lt_size e
 have okY:(Fg X scope N C s3 H3 fp).Ok:=by
  refine ⟨I2.ok.mod,L.kind,I2.ok.glob,I2.ok.blt,Nat.le_of_eq hC.symm,fun y z c h1 h2=>I2.ok.inj y z c (sub y c h1) (sub z c h2),fun y hy=>?_,fun y c z _=>?_,I2.ok.hd,I2.ok.frames,.inl rfl,fun b hb=>⟨?_,fun y c h=>(f2 b hb).2.2.2.2.1 y c (sub y c h)⟩,
   I3.bs,Nat.le_trans I3.ok.bsz I3.sz,fun b o e hb=>?_,fun b hb z=>?_,I3.stack,I3.stkFree⟩
  ·have hk:(y,NameKind.free)∈scope.names:=by
    rcases hy with hy | hy
    ·rcases Jz hy with q | q
     ·exact absurd rfl (L.nocell _ q)
     ·exact q.1
    ·rcases Jz hy with q | q
     ·exact q
     ·exact absurd q.2 (by decide)
   exact Option.isSome_iff_exists.mp (Fb _ _ y hk)
  ·cases (show false=true from z)
  ·have l:=lt2 b hb
   show b≠C
   rw [hC]
   exact Nat.ne_of_lt (Nat.lt_of_lt_of_le l hle)
  ·rcases (f2 b hb).2.2.2.1 with q | q
   ·exact I2.ok.noex b o e q
   ·exact absurd (Nat.lt_of_lt_of_le (Heap.lt_size e) (Nat.le_trans I2.ok.bsz q)) (Nat.lt_irrefl _)
  ·rcases List.mem_cons.mp (I2.stkSub b z) with q | q
   ·exact (f2 b hb).2.1 q
   ·exact (f2 b hb).2.2.1 q
 refine ⟨okY,ho,I4.bare,Un.kept kp,⟨m,hns,fun i y v h1 h2 h3=>?_⟩,fun y c e=>I4.cell y c (sub y c e),?_,fun y c e=>I4.freeC y c (sub y c e),fun p hp=>absurd (show p∈([]:List (Addr×Obj)) from hp) (by simp),I4.hok,?_⟩
 ·cases i with
  | zero=>cases (show some none=some (some v) from h2)
  | succ k =>
   have h2:(frV σ ix)[k]?=some (some v):=h2
   have h1:N[k+1]?=some y:=h1
   unfold frV at h2
   rw [List.getElem?_map] at h2
   cases hj:ix[k]? with
   | none=>rw [hj] at h2;cases h2
   | some j =>
    rw [hj] at h2
    have h2:(σ[j]?).getD none=some v:=Option.some.inj h2
    have h2':σ[j]?=some (some v):=by
     cases e:σ[j]? with
     | none=>rw [e] at h2;cases h2
     | some z=>rw [e] at h2;exact congrArg some h2
    have ht:N.tail[k]?=some y:=by rw [List.getElem?_tail];exact h1
    have hz:(y,j)∈N.tail.zip ix:=List.mem_of_getElem? (i:=k) (by rw [List.getElem?_zip_eq_some];exact ⟨ht,hj⟩)
    obtain ⟨q1,q2⟩:=L.at_ _ hz
    have hm:=PySem.mem_of_lookup q2
    have hcell:=L.free _ hm rfl
    obtain ⟨m',hn',hl'⟩:=I4.loc
    obtain ⟨u,r,lk⟩:=hl' j y v q1 h2' (.inr (.inl hcell))
    refine ⟨u,r,.inr ⟨.inl (Nr I2.ok.kind hcell q2),?_⟩⟩
    rcases lk with lk | ⟨_,c,e,z⟩
    ·rw [show X.env.kindOf y=some .cell from hcell] at lk
     cases lk.1
    ·obtain ⟨c',e'⟩:=Option.isSome_iff_exists.mp (Fb (env:=X.env) scope.names [] y hm)
     have e2:=sub y c' e'
     rw [e] at e2
     cases e2
     exact ⟨c,e',z⟩
 ·show H3 C=none
  exact I3.hok.fresh (Nat.le_of_eq hC.symm)
 ·show (none::frV σ ix).length=N.length
  rw [L.len]
  simp [frV]
theorem iL {tgt:Expr}(htg:tgt=.Name x px){pins:List (Addr×Obj)}{σ:St}{H2:Hp}{s2:Shared}{J:It}{fp:List Addr}{it:Addr}{tn:Nat->Heap->Prop}(hc:X.calm=true)(L:Bf X.N X.env.scope scope x N ix)(I2:Inv X pins σ H2 s2)
  (T:Nw X.prog X.w X.K tgt J fp it tn)(st2:tn 0 s2.heap)(f2:∀ b∈fp,Ni X pins H2 b)
  (hif:∀ C s H,PIf (Fg X scope N C s H fp) ifs tc)(he:∀ C s H,PE (Fg X scope N C s H fp) elt te){Q:VK}(rd:Vn J H2 (frV σ ix) tc te Q){RR:Value->Addr->Result->Shared->Prop}{E:Value->Shared->Prop}
  (fin:∀ D C H' s' m,Inv X pins σ H' s'->s2.heap.objs.size<=C->H' C=none->s'.heap.Ns C m->Q (.ref D) H'->RR (.ref D) C (.ok .next) s') :
  wpAny (model X.prog X.w) X.A (newList []) (fun acc s3=>wpAny (model X.prog X.w) X.A (newFunctionEnv scope X.env.globals (Dw X.env scope.names []) [] X.env.qual none .none (some X.env)) (fun cenv s4 =>
   codeAny (model X.prog X.w) X.A (.compStart (.ListComp elt [⟨tgt,iter,ifs,0⟩] scope pos) 0 (.ref it) acc { cenv with scope:=relabel scope X.env }) (RR acc cenv.locals) s4) E s3) E s2:=by
 refine wpAny_newObj_type (wpAny_newFunctionEnv L.nocell (by intro y hy;simp at hy) (fun h1 hns hsb=>?_) L.kind)
 dsimp only at hns hsb ⊢
 have I3:Inv X pins σ (upd H2 s2.heap.objs.size (.lst [])) { s2 with heap:=s2.heap.push { cls:=.type "list",dict:=none,data:=.seq ([]:List Value).toArray } }:=I2.lnew (its:=[]) (t':=s2.toks) .nil (Nat.zero_le _)
 generalize hH3:s2.heap.push { cls:=.type "list",dict:=none,data:=.seq ([]:List Value).toArray }=h3 at hns hsb I3 ⊢
 have hsz:h3.objs.size=s2.heap.objs.size+1:=by rw [<- hH3,Heap.size_push]
 have kp34:∀ b u,h3.get? b=some u->h1.get? b=some u:=fun b u e=>hsb.extBut b u (Nat.ne_of_lt (Heap.lt_size e)) (Heap.get?_push_of_some _ e)
 have I4:Inv X pins σ (upd H2 s2.heap.objs.size (.lst [])) { s2 with heap:=h1,toks:=s2.toks+([]:List (Str×Value)).length }:=I3.kept (t':=s2.toks+([]:List (Str×Value)).length) kp34
 have kp24:∀ b u,s2.heap.get? b=some u->h1.get? b=some u:=fun b u e=>kp34 b u (by rw [<- hH3];exact Heap.get?_push_of_some _ e)
 have IY:=sR (C:=h3.objs.size) (s3:={ s2 with heap:=h3 }) L I2 T st2 f2 I3 I4 (by show s2.heap.objs.size<=h3.objs.size;omega) rfl rfl kp34 hns
 have fD:H2 s2.heap.objs.size=none:=I2.hok.fresh (Nat.le_refl _)
 have lt2:∀ b∈fp,b<s2.heap.objs.size:=fun b hb=>by obtain ⟨o,e,_⟩:=T.obj _ _ st2 b hb;exact Heap.lt_size e
 have st4:tn 0 h1:=T.keep _ _ _ st2 fun b _ o e=>kp24 b o e
 have stat:∀ {pn:List (Addr×Obj)} {H':Hp},pn=[]->(∀ b∈fp,H' b=none)->∀ b∈fp,Ni (Fg X scope N h3.objs.size { s2 with heap:=h3 } (upd H2 s2.heap.objs.size (.lst [])) fp) pn H' b:=fun hp hn b hb=>by
  subst hp
  exact ⟨hn b hb,(IY.ok.exf b hb).1,IY.ok.exfs b hb,.inl hb,(IY.ok.exf b hb).2,fun p hp=>absurd (show p∈([]:List (Addr×Obj)) from hp) (by simp)⟩
 obtain ⟨W,⟨m0,w0⟩,turn⟩:=rd _ fD
 have loop:codeAny (model X.prog X.w) X.A (.compLoop (.ListComp elt [⟨tgt,iter,ifs,0⟩] scope pos) 0 (.ref it) (.ref s2.heap.objs.size) (compEnvC scope (Dw X.env scope.names []) h3.objs.size X.env)) (RR (.ref s2.heap.objs.size) h3.objs.size)
   { s2 with heap:=h1,toks:=s2.toks+([]:List (Str×Value)).length }:=by
  refine dD (fun n s'=>∃ i H',Inv (Fg X scope N h3.objs.size { s2 with heap:=h3 } (upd H2 s2.heap.objs.size (.lst [])) fp) [] (none::frV σ ix) H' s'/\tn i s'.heap/\(∀ b∈fp,H' b=none)/\W i n H') ?_ m0
   ⟨0,_,IY,st4,fun b hb=>by rw [Aw (Nat.ne_of_lt (lt2 b hb))];exact (f2 b hb).1,w0⟩
  rintro n s5 ⟨i,H5,I5,st5,fr5,w5⟩
  rcases turn i n H5 w5 with ⟨stop,q⟩ | ⟨go,step⟩
  ·refine thn (T.done (Fg X scope N h3.objs.size { s2 with heap:=h3 } (upd H2 s2.heap.objs.size (.lst [])) fp) rfl rfl rfl hc i [] s5 _ H5 (fun _ _=>False) I5 (stat rfl fr5) st5 stop) fun r s6 ⟨hr,I6⟩=>?_
   subst hr
   obtain ⟨m6,hn6,_⟩:=I6.loc
   have u1:Un (frs X.stack) fp H2 (upd H2 s2.heap.objs.size (.lst [])) s2.heap h3:=Un.laid (fun b u e=>by rw [<- hH3];exact Heap.get?_push_of_some _ e) (Nat.le_refl _) fD
   have back:Inv X pins σ H5 s6:=I2.call' (ch:=fp) (I6.os.trans rfl) (u1.trans I6.base) I6.hok I6.bare fun b hb=>⟨(f2 b hb).2.2.2.1,(f2 b hb).2.1,(f2 b hb).2.2.2.2.1,(f2 b hb).2.2.2.2.2⟩
   exact fin _ _ H5 s6 m6 back (by omega) I6.free hn6 q
  ·refine thn (T.item (Fg X scope N h3.objs.size { s2 with heap:=h3 } (upd H2 s2.heap.objs.size (.lst [])) fp) rfl rfl rfl hc i [] s5 _ H5 (fun _ _=>False) I5 (stat rfl fr5) st5 go) fun r s6 ⟨u,hr,h6⟩=>?_
   subst hr
   refine thn h6 fun _ s7 ⟨y,H7,I7,r7,y7,st7,fr7⟩=>?_
   have I7':=I7.pinned (stat rfl fr7) (T.obj _ _ st7)
   have hg:PG (Fg X scope N h3.objs.size { s2 with heap:=h3 } (upd H2 s2.heap.objs.size (.lst [])) fp) tgt (E7 0):=by
    rw [htg]
    have hi:N[0]?=some x:=by have:=L.hd;rwa [List.head?_eq_getElem?] at this
    exact Bt L.nd hi (.inl (lookup_relabel_local L.loc)) (.inr (lookup_relabel_local L.loc))
   refine thn (hg _ s7 _ H7 y u (fun σ' H'=>σ'=some y::frV σ ix/\H'=H7) I7' r7 ⟨rfl,rfl⟩) fun _ s8 ⟨σ8,H8,I8,e8,e8'⟩=>?_
   subst e8 e8'
   refine thn (hif _ _ _ _ s8 _ _ _ I8 (step y _ y7)) fun ok s9 ⟨H9,I9,q9⟩=>?_
   have again:∀ {sz:Shared} {Hz:Hp} {m':Nat},Inv (Fg X scope N h3.objs.size { s2 with heap:=h3 } (upd H2 s2.heap.objs.size (.lst [])) fp) ([]++Oi fp s7.heap) (some y::frV σ ix) Hz sz->m'<n->W (i+1) m' Hz ->
     ∃ m,m<n/\∃ i H',Inv (Fg X scope N h3.objs.size { s2 with heap:=h3 } (upd H2 s2.heap.objs.size (.lst [])) fp) [] (none::frV σ ix) H' sz/\tn i sz.heap/\(∀ b∈fp,H' b=none)/\W i m H':=fun {sz Hz m'} Iz hm wz=>by
    refine ⟨m',hm,i+1,Hz,Iz.unpinned.weak (by simp) (fun j v e=>?_),T.keep _ _ _ st7 fun b hb o e=>(Iz.pin (b,o) (List.mem_append_right _ (List.mem_append_right _ (F4 hb e)))).1,fun b hb=>?_,wz⟩
    ·cases j with
     | zero=>cases e
     | succ j=>exact e
    ·obtain ⟨o,e,d⟩:=T.obj _ _ st7 b hb
     exact (Iz.pin (b,o) (List.mem_append_right _ (List.mem_append_right _ (F4 hb e)))).2.1
   cases ok with
   | false =>
    obtain ⟨m',hm,wz⟩:=q9
    exact again I9 hm wz
   | true =>
    refine thn (he _ _ _ _ s9 _ _ _ I9 q9) fun xv s10 ⟨z,H10,I10,r10,ys,hD,hl,m',hm,wz⟩=>?_
    refine thn (B7 _ s10 _ H10 (.ref s2.heap.objs.size) [z] (.ref s2.heap.objs.size) [xv] (fun _ Hz=>Hz=upd H10 s2.heap.objs.size (.lst (ys++[z]))) I10 rfl (.cons r10 .nil) ⟨_,ys,z,rfl,rfl,hD,hl,rfl⟩) fun _ s11 ⟨_,H11,I11,_,q11⟩=>?_
    subst q11
    exact again I11 hm wz
 exact codeAny_compStart_list loop (T.self X.A 0 _ _ _ st4 loop)
theorem G5 {wi:TI}(hc:X.calm=true)(L:Bf X.N X.env.scope scope x N ix)(hi:PI X (.Name x px) iter wi)(hif:∀ C s H fp,PIf (Fg X scope N C s H fp) ifs tc)(he:∀ C s H fp,PE (Fg X scope N C s H fp) elt te)
  (hs:∀ z,foldedSetIterable iter X.env z=pure z:=by intro _;rfl):PE X (.ListComp elt [⟨.Name x px,iter,ifs,0⟩] scope pos) (tLc wi ix tc te):=by
 intro pins s σ H Q I h
 have hfree:∀ y∈scope.names,y.2=.free->∃ c,X.env.cells.lookup y.1=some c:=fun y hy hf=>I.ok.has y.1 (.inl (L.free y hy hf))
 rw [eval_ListComp]
 refine wpAny_comprehension_free (use:=none) rfl hs (Hi hfree) L.kind L.names (thn (hi pins s σ H _ I h) fun v s1 h1=>thn h1 fun itv s2 h2=>?_)
 obtain ⟨it,fp,tn,J,H2,e,I2,T,st2,f2,rd⟩:=h2
 subst e
 refine iL (RR:=fun acc C=>compPost (model X.prog X.w) X.A X.xe none _ acc C) rfl hc L I2 T st2 f2 (fun C s H=>hif C s H fp) (fun C s H=>he C s H fp) rd fun D C H' s' m I' hC hf hn q=>?_
 refine ⟨m,hn,fun h' hsb=>⟨.ref D,H',?_,rfl,q⟩⟩
 have l2:=I2.lt
 refine I'.turned (t':=s'.toks) (it:=C) (fun b o hb e=>hsb.extBut b o hb e) hf (Nat.ne_of_gt (Nat.lt_of_lt_of_le l2 hC)) (.inr (Nat.le_trans I2.sz hC)) (fun y c e=>?_) fun p hp=>?_
 ·obtain ⟨v,hv⟩:=I2.cell y c e
  exact Nat.ne_of_lt (Nat.lt_of_lt_of_le hv.lt hC)
 ·exact Nat.ne_of_lt (Nat.lt_of_lt_of_le (Heap.lt_size (I2.pin p hp).1) hC)
theorem Io {wi:TI}{i:Nat}{y:Str}{py spos:Pos}(hc:X.calm=true)(L:Bf X.N X.env.scope scope x N ix)(hN:X.N.Nodup)(hy:X.N[i]?=some y)(hl:X.env.scope.names.lookup y=some .local)
  (hi:PI X (.Name x px) iter wi)(hif:∀ C s H fp,PIf (Fg X scope N C s H fp) ifs tc)(he:∀ C s H fp,PE (Fg X scope N C s H fp) elt te)
  (hsw:swapsWith (.ListComp elt [⟨.Name x px,iter,ifs,0⟩] scope pos) (some (.Name y py)) spos.line X.env=pure true:=by rfl)
  (hs:∀ z,foldedSetIterable iter X.env z=pure z:=by intro _;rfl):PS X (.Assign [.Name y py] (.ListComp elt [⟨.Name x px,iter,ifs,0⟩] scope pos) spos) (mU (tLc wi ix tc te) (E7 i)):=by
 intro pins s σ H D I h
 have hfree:∀ y∈scope.names,y.2=.free->∃ c,X.env.cells.lookup y.1=some c:=fun y hy hf=>I.ok.has y.1 (.inl (L.free y hy hf))
 rw [exec_Assign_Name_used _ _ _ _ hsw]
 refine wpAny_bind (wpAny_standAt (wpAny_bind ?_))
 show wpAny _ X.A (do let _ <- comprehension (.ListComp elt [⟨.Name x px,iter,ifs,0⟩] scope pos) scope X.env _ (newList []) false (eval iter X.env) (some (assign (.Name y py) X.env))) _ _ s
 refine wpAny_bind (thn (Q:=fun _ s'=>SP X pins D .next s') (wpAny_comprehension_free (use:=some (assign (.Name y py) X.env)) rfl hs (Hi hfree) L.kind L.names (thn (hi pins s σ H _ I h) fun v s1 h1=>thn h1 fun itv s2 h2=>?_)) fun _ s' hq=>wpAny_pure (wpAny_pure hq))
 obtain ⟨it,fp,tn,J,H2,e,I2,T,st2,f2,rd⟩:=h2
 subst e
 refine iL (RR:=fun acc C=>compPost (model X.prog X.w) X.A X.xe (some (assign (.Name y py) X.env)) _ acc C) rfl hc L I2 T st2 f2 (fun C s H=>hif C s H fp) (fun C s H=>he C s H fp) rd fun Da C H' s' m I' hC hf hn q=>?_
 have l2:=I2.lt
 have nC:C≠X.env.locals:=Nat.ne_of_gt (Nat.lt_of_lt_of_le l2 hC)
 have nF:C∉X.fs:=I2.nofs hC
 obtain ⟨oC,es,ep,hget,hdat,hrest⟩:=id hn
 have Ip:Inv X (pins++[(C,oC)]) σ H' s':=I'.pins_of fun p hp=>(List.mem_append.mp hp).elim (fun z=>I'.pin p (List.mem_append_right _ z)) fun z=>by
  have e:p=(C,oC):=by simpa using z
  subst e
  exact ⟨hget,hf,nC,nF,fun v z=>by rw [hdat] at z;cases z⟩
 have hg:PG X (.Name y py) (E7 i):=Bt hN hy (.inl hl) (.inr hl)
 show wpAny _ X.A (assign (.Name y py) X.env (.ref Da)) _ _ s'
 refine thn (hg _ s' σ H' (.ref Da) (.ref Da) D.nx Ip rfl q) fun _ s'' ⟨σ'',H'',I'',q''⟩=>?_
 obtain ⟨g1,g2,_⟩:=I''.pin (C,oC) (List.mem_append_right _ (List.mem_append_right _ (by simp)))
 refine ⟨m,⟨oC,es,ep,g1,hdat,hrest⟩,fun h' hsb=>⟨σ'',H'',?_,q''⟩⟩
 refine I''.unpinned.turned (t':=s''.toks) (it:=C) (fun b o hb e=>hsb.extBut b o hb e) g2 nC (.inr (Nat.le_trans I2.sz hC)) (fun y c e=>?_) fun p hp=>?_
 ·obtain ⟨v,hv⟩:=I2.cell y c e
  exact Nat.ne_of_lt (Nat.lt_of_lt_of_le hv.lt hC)
 ·exact Nat.ne_of_lt (Nat.lt_of_lt_of_le (Heap.lt_size (I2.pin p hp).1) hC)
end
theorem Al {H:Hp}{D:Addr}{o:HO}(h:H D=none):An H (upd H D o):=fun b u e=>by rw [Aw (Ap e h)];exact e
theorem eX {J:It}{H1:Hp}{fr:St}{tc:TT}{te:TE}{Q:VK}(n:Nat)(item:Nat->V)(acc:Nat->List V)(h0:acc 0=[])(hz:∀ i,i<n->(acc i).length<sizeLine)
  (hgo:∀ i H,i<n->An H1 H->J.go i H)(hy:∀ i H x H',i<n->An H1 H->J.yld i H x H'->x=item i/\H'=H)(hst:∀ H,An H1 H->J.stop n H)
  (turn:∀ i H (R:Hp->Prop) (A:VK),i<n->An H1 H->(acc (i+1)=acc i->∀ H',An H H'->R H')->(∀ y H',acc (i+1)=acc i++[y]->An H H'->A y H') ->
   tc (some (item i)::fr) H fun b H3=>if b=true then te (some (item i)::fr) H3 A else R H3)
  (fin:∀ D H,H1 D=none->An H1 H->H D=some (.lst (acc n))->Q (.ref D) H):Vn J H1 fr tc te Q:=by
 intro D hD
 refine ⟨fun i m H=>i<=n/\m=n-i/\An H1 H/\H D=some (.lst (acc i)),⟨n,Nat.zero_le _,rfl,Al hD,by rw [Ae,h0]⟩,?_⟩
 rintro i m H ⟨hi,rfl,sm,hl⟩
 by_cases h:i=n
 ·subst h
  exact .inl ⟨hst H sm,fin D H hD sm hl⟩
 ·have hlt:i<n:=Nat.lt_of_le_of_ne hi h
  refine .inr ⟨hgo i H hlt sm,fun x H' hyl=>?_⟩
  obtain ⟨rfl,rfl⟩:=hy i H x H' hlt sm hyl
  refine turn i H' _ _ hlt sm (fun ea H3 s3=>?_) (fun y H4 ea s4=>?_)
  ·exact ⟨n-(i+1),by omega,by omega,rfl,sm.trans s3,by rw [ea];exact s3 _ _ hl⟩
  ·refine ⟨acc i,s4 _ _ hl,hz i hlt,n-(i+1),by omega,by omega,rfl,fun b u e=>?_,by rw [Ae,ea]⟩
   rw [Aw (Ap e hD)]
   exact s4 _ _ (sm _ _ e)
theorem G7 {lo:Int}{n:Nat}{H1:Hp}{fr:St}{tc:TT}{te:TE}{Q:VK}(acc:Nat->List V)(h0:acc 0=[])(hz:∀ i,i<n->(acc i).length<sizeLine)
  (turn:∀ (i:Nat) H (R:Hp->Prop) (A:VK),i<n->An H1 H->(acc (i+1)=acc i->∀ H',An H H'->R H')->(∀ y H',acc (i+1)=acc i++[y]->An H H'->A y H') ->
   tc (some (.int (lo+i))::fr) H fun b H3=>if b=true then te (some (.int (lo+i))::fr) H3 A else R H3)
  (fin:∀ D H,H1 D=none->An H1 H->H D=some (.lst (acc n))->Q (.ref D) H):Vn (Itr lo n) H1 fr tc te Q :=
 eX n (fun i=>.int (lo+i)) acc h0 hz (fun i H hi _=>hi) (fun i H x H' _ _ h=>⟨h.2,h.1⟩) (fun H _=>Nat.le_refl n) turn fin
theorem Fh {K:PySem.W.Frag}{a:Addr}{xs:List V}{H1:Hp}{fr:St}{tc:TT}{te:TE}{Q:VK}(hl:SqL K H1 a xs)(acc:Nat->List V)(h0:acc 0=[])(hz:∀ i,i<xs.length->(acc i).length<sizeLine)
  (turn:∀ (i:Nat) x H (R:Hp->Prop) (A:VK),xs[i]?=some x->An H1 H->(acc (i+1)=acc i->∀ H',An H H'->R H')->(∀ y H',acc (i+1)=acc i++[y]->An H H'->A y H') ->
   tc (some x::fr) H fun b H3=>if b=true then te (some x::fr) H3 A else R H3)
  (fin:∀ D H,H1 D=none->An H1 H->H D=some (.lst (acc xs.length))->Q (.ref D) H):Vn (Itl K a) H1 fr tc te Q:=by
 refine eX xs.length (fun i=>xs.getD i .non) acc h0 hz (fun i H hi sm=>⟨xs,xs[i],sm.seq hl,by simp [hi]⟩) (fun i H x H' hi sm h=>⟨?_,h.1⟩) (fun H sm=>⟨xs,sm.seq hl,Nat.le_refl _⟩) (fun i H R A hi sm=>turn i _ H R A (by simp [hi]) sm) fin
 have:=h.2 xs (sm.seq hl)
 simp [List.getD,this]
theorem Ms:bootBuiltins "int"=some (.type "int"):=by decide +kernel
theorem rV:bootBuiltins "str"=some (.type "str"):=by decide +kernel
theorem qF:bootBuiltins "bool"=some (.type "bool"):=by decide +kernel
theorem Vq:bootBuiltins "list"=some (.type "list"):=by decide +kernel
theorem Bs:bootBuiltins "len"=some (.builtin "len"):=by decide +kernel
theorem Gz:bootBuiltins "isinstance"=some (.builtin "isinstance"):=by decide +kernel
theorem sJ:bootBuiltins "sum"=some (.builtin "sum"):=by decide +kernel
theorem eI:bootBuiltins "min"=some (.builtin "min"):=by decide +kernel
theorem eL:bootBuiltins "max"=some (.builtin "max"):=by decide +kernel
structure Cal (P:Program) (w:World) (K:PySem.W.Frag) (mg:Str->Option Value) (base:Heap) (name:Str) (k:Nat) (ps:List Str) (sp:Sp):Prop where
 ex:∃ (f:Addr) (fd:FuncData),A9 P w K mg base CX0 k f fd ps sp/\Gw K fd ps []/\mg name=some (.ref f)/\PySem.W.keepIn K (.ref f)=true
section
variable {X:Cx} {k:Nat} {ps:List Str} {sp:Sp} {name m:Str} {p pos apos:Pos} {e o:Expr} {es:List Expr} {ta:TE} {t:TA}
theorem Bb (C:Cal X.prog X.w X.K X.mg X.base name k ps sp)(hr:Dh k X.A)(ha:PA X (e::es) t)(hg:Gl X name:=by rfl)(hdb:(name==("__debug__":Str))=false:=by decide)
  (he:starEach (e::es) X.env=(false,eval e X.env)::starEach es X.env:=by rfl)(hpl:(backTo pos (starEach es X.env)).any (·.1)=false:=by rfl):PE X (.Call (.Name name p) (e::es) [] pos) (eR sp [] E0 t):=by
 obtain ⟨f,fd,F,b,hm,hk⟩:=C.ex
 exact nI F hr hg hm hk b .nil Yh ha hdb he hpl
end
section
variable {X:Cx}
def uI (K:PySem.W.Frag):List V->Hp->VK->Prop:=fun xs H Q=>∃ x n t b,xs=[x,.ty n]/\N2 K H x t/\kitOne K t (.type n)=some b/\Q (.bl b) H
theorem Hv:Hr X (.builtin "isinstance") (uI X.K):=by
 intro pins s σ H xs us Q I r h
 obtain ⟨x,n,t,b,rfl,ty,e,q⟩:=h
 obtain ⟨u,w',rfl,ru,rw'⟩:=Xm r
 cases (show w'=Value.type n from rw')
 exact gE I ru ty e fun tk=>⟨.bl b,H,I.tok tk,rfl,q⟩
theorem U8 {K:PySem.W.Frag}:kitOne K (.type "int") (.type "bool")=some false:=by rfl
theorem Xi {K:PySem.W.Frag}:kitOne K (.type "int") (.type "int")=some true:=by rfl
theorem Xq {K:PySem.W.Frag}:kitOne K (.type "str") (.type "str")=some true:=by rfl
end
theorem J9 {x y:Str}(h:x.cps.toList=y.cps.toList):x=y:=by
 obtain ⟨a⟩:=x
 obtain ⟨b⟩:=y
 have:a=b:=Array.toList_inj.mp h
 rw [this]
def sgn (c:Nat):Str:=⟨#[c]⟩
def Se (x:Str)(k:Nat):Str:=⟨(List.replicate k x.cps.toList).flatten.toArray⟩
theorem Yc (x:Str)(k:Nat):(Se x k).length=k*x.length:=by
 show (List.replicate k x.cps.toList).flatten.toArray.size=k*x.cps.size
 rw [List.size_toArray,lQ]
 simp
theorem Ub (a:Array Nat):∀ (k:Nat) (acc:Array Nat),((List.replicate k a).foldl (·++·) acc).toList=acc.toList++(List.replicate k a.toList).flatten
 | 0,acc=>by simp
 | k+1,acc=>by
  rw [List.replicate_succ,List.foldl_cons,Ub a k,List.replicate_succ]
  simp [List.append_assoc]
section
variable {X:Cx}
def sM:R2:=fun x y H Q=>∃ z k,x=.str z/\y=.int k/\-(2 ^ 40)<k/\k<2 ^ 40/\z.length*k.toNat<=sizeLine/\z.length<=sizeLine/\Q (.str (Se z k.toNat)) H
theorem U6:OpR X (binaryOp .Mult) sM:=by
 intro pins s σ H x y v u Q I rx ry h
 obtain ⟨z,k,rfl,rfl,k1,k2,hz,hz2,q⟩:=h
 obtain ⟨t,rfl⟩:=rx
 obtain ⟨t',rfl⟩:=ry
 have hs:=N9
 have hs':=sizeLine_eq
 refine PySem.P.mul_str ?_ ?_ ?_ ?_
 ·rw [decide_eq_false (by omega),decide_eq_false (by omega)];rfl
 ·intro h1 _ hgt
  have hk:k<=2 ^ 40:=by omega
  have:(z.length:Int)<=(2 ^ 63-1)/k:=by
   rw [Int.le_ediv_iff_mul_le (by omega)]
   have e:(z.length:Int)*k=((z.length*k.toNat:Nat):Int):=by
    rw [Int.natCast_mul,Int.toNat_of_nonneg (by omega)]
   rw [e]
   omega
  omega
 ·intro _ _
  unfold Builtin.Str.tooLong
  simpa using hz
 ·split
  ·rename_i h1
   have e:Se z k.toNat=Str.empty:=by
    rw [show k.toNat=0 by omega];rfl
   rw [e] at q
   exact ⟨by decide,.str Str.empty,H,I.tok _,⟨_,rfl⟩,q⟩
  ·rename_i h1
   split
   ·rename_i h2
    have e:Se z k.toNat=z:=by
     refine J9 ?_
     show (List.replicate k.toNat z.cps.toList).flatten.toArray.toList=_
     rcases Bool.or_eq_true_iff.mp h2 with h2 | h2
     ·have:k=1:=by simpa using h2
      subst this
      simp
     ·have:z.length=0:=by simpa using h2
      have e0:z.cps.toList=[]:=by
       have:z.cps.size=0:=this
       simpa using this
      rw [e0]
      simp
    rw [e] at q
    exact ⟨.str z,H,I,⟨_,rfl⟩,q⟩
   ·have e:(⟨(List.replicate k.toNat z.cps).foldl (·++·) #[]⟩:Str)=Se z k.toNat:=by
     refine J9 ?_
     show ((List.replicate k.toNat z.cps).foldl (·++·) #[]).toList=_
     rw [Ub]
     simp [Se]
    refine ⟨?_,.str (Se z k.toNat),H,I.tok _,⟨s.toks,by rw [e]⟩,q⟩
    rw [e,Yc,Nat.mul_comm]
    exact hz
theorem Zb {ys:List Str}:∀ {us:List Value},Bi (ys.map V.str) us->StrsAre us ys:=by
 induction ys with
 | nil=>intro us r;rw [List.map_nil] at r;cases r;exact .nil
 | cons y ys ih =>
  intro us r
  rw [List.map_cons] at r
  cases r with
  | cons r1 r2 =>
   obtain ⟨t,e⟩:=r1
   subst e
   exact .cons y t (ih r2)
def pA (K:PySem.W.Frag):V->List V->Hp->VK->Prop:=fun x vs H Q=>∃ sep p ys,x=.str sep/\vs=[.ref p]/\SqL K H p (ys.map V.str)/\(ys.map (·.length)).sum+ys.length*sep.length<=16777216/\Q (.str (Txt.join sep ys)) H
theorem Ut:MtM X "str.join" (pA X.K):=by
 intro pins s σ H x vs v us Q I rx rv h
 obtain ⟨sep,p,ys,rfl,rfl,hp,hz,q⟩:=h
 obtain ⟨t,rfl⟩:=rx
 obtain ⟨u,rfl,ru⟩:=rv.one
 cases ru
 obtain ⟨its,r,pl,_⟩:=I.list hp
 exact join_list pl.isList (by simpa using Zb r) hz fun t' k=>⟨.str (Txt.join sep ys),H,I.tok k,⟨t',rfl⟩,q⟩
theorem Ur:∀ (ys:List Str) (a:Array Nat),(ys.foldl (fun acc p=>acc++("":Str).cps++p.cps) a).toList=a.toList++(ys.map fun y=>y.cps.toList).flatten
 | [],a=>by simp
 | y::r,a=>by
  rw [List.foldl_cons,Ur r]
  have e:("":Str).cps=#[]:=rfl
  rw [e]
  simp [List.append_assoc]
theorem Zc (ys:List Str):(Txt.join ("":Str) ys).cps.toList=(ys.map fun y=>y.cps.toList).flatten:=by
 show ((ys.drop 1).foldl (fun acc p=>acc++("":Str).cps++p.cps) (ys.headD Str.empty).cps).toList=_
 rw [Ur]
 cases ys with
 | nil=>rfl
 | cons y r=>simp
end
def jN:Expr->Bool
 | .Starred ..=>false
 | _=>true
theorem X8 {e:Expr}{es:List Expr}{env:Env}(h:jN e=true):starEach (e::es) env=(false,eval e env)::starEach es env:=by
 cases e<;>first | rfl | cases h
section
variable {X:Cx} {e:Expr} {es:List Expr} {te:TE} {t:TA}
theorem Af (ha:PE X e te)(hr:PA X es t)(hs:jN e=true):PA X (e::es) (Xg te t):=dW ha hr (X8 hs)
end
theorem us2 {P:List Value->Prop}(h:∀ a b,P [a,b]):∀ us:List Value,us.length=2->P us
 | [_,_],_=>h _ _
section
variable {σ:St} {H:Hp} {D:Kn} {Q:VK} {t u:TS} {te ta tb:TE} {QB:Bool->Hp->Prop}
theorem sA (h:t { D with nx:=u D } σ H):sC t u D σ H:=h
theorem qR (h:D.nx σ H):oE D σ H:=h
theorem rP {g:TG}(h:te σ H fun x H1=>g x σ H1 D.nx):mU te g D σ H:=h
theorem nX {i:Nat}{v:V}{R:St->Hp->Prop}(h:R (σ.set i (some v)) H):E7 i v σ H R:=h
theorem rO (h:te σ H D.rt):rS te D σ H:=h
theorem pL (h:te σ H fun _ H1=>D.nx σ H1):pD te D σ H:=h
theorem sI {c:TT}(h:c σ H fun b H1=>if b=true then t D σ H1 else u D σ H1):tJ c t u D σ H:=h
theorem sE {i:Nat}{ti:TIp}{x:V}(e:σ[i]?=some (some x))(h:te σ H fun y H1=>ti x y H1 fun z H2=>D.nx (σ.set i (some z)) H2):tP i te ti D σ H:=⟨x,e,h⟩
theorem rJ {i:Nat}{v:V}(e:σ[i]?=some (some v))(h:Q v H):nG i σ H Q:=⟨v,e,h⟩
theorem r_c {v:V}(h:Q v H):tC v σ H Q:=h
theorem uW {r:R2}(h:ta σ H fun x H1=>tb σ H1 fun y H2=>r x y H2 Q):tOp r ta tb σ H Q:=h
theorem uJ {r:V->Hp->VK->Prop}(h:ta σ H fun x H1=>r x H1 Q):tUn r ta σ H Q:=h
theorem vB {g:Int->V}{i:Int}(h:Q (g i) H):rU g (.int i) H Q:=⟨i,rfl,h⟩
theorem tL {g:Int->Int->V}{i j:Int}(h:Q (g i j) H):rI0 g (.int i) (.int j) H Q:=⟨i,j,rfl,rfl,h⟩
theorem tY {f:Int->Int->Int}{i j:Int}(h:Q (.int (f i j)) H):ipI f (.int i) (.int j) H Q:=⟨i,j,rfl,rfl,h⟩
theorem rQ {x y:V}(e:nR x y=true)(h:Q (.bl (decide (x=y))) H):rEq x y H Q:=⟨e,h⟩
theorem oJ {x y:V}(e:nR x y=true)(h:Q (.bl (!decide (x=y))) H):rNe x y H Q:=⟨e,h⟩
theorem pU (h:te σ H fun x H'=>∃ k,x=.bl k/\QB k H'):kE te σ H QB:=h
theorem uP (h:te σ H fun x H'=>∃ k,x=.bl k/\QB k H'):tB te σ H QB:=h
theorem uS {k:Bool}{P:Bool->Prop}(h:P k):∃ k',V.bl k=.bl k'/\P k':=⟨k,rfl,h⟩
theorem tK {c:TT}(h:c σ H fun b H1=>QB (!b) H1):tI c σ H QB:=h
theorem sF {c d:TT}(h:c σ H fun b H1=>if b=true then d σ H1 QB else QB false H1):rX c d σ H QB:=h
theorem vA {c d:TT}(h:c σ H fun b H1=>if b=true then QB true H1 else d σ H1 QB):tOr c d σ H QB:=h
theorem qS (h:ta σ H fun x H1=>∃ c,x=.bl c/\if c=true then tb σ H1 Q else Q (.bl false) H1):oV ta tb σ H Q:=h
theorem pI (h:ta σ H fun x H1=>∃ c,x=.bl c/\Q (.bl (!c)) H1):pC ta σ H Q:=h
theorem tV {c:TT}(h:c σ H fun b H1=>if b=true then ta σ H1 Q else tb σ H1 Q):tIf c ta tb σ H Q:=h
theorem rK (h:ta σ H fun x H1=>Q (.bl (decide (x=.non))) H1):rZ ta σ H Q:=h
theorem qU (h:ta σ H fun x H1=>Q (.bl (!decide (x=.non))) H1):oZ ta σ H Q:=h
theorem mG {r r':R2}{tc:TE}(h:ta σ H fun x H1=>tb σ H1 fun y H2=>r x y H2 fun z H3=>∃ k,z=.bl k/\(if k=true then tc σ H3 fun w' H4=>r' y w' H4 Q else Q (.bl false) H3)):cA r r' ta tb tc σ H Q:=h
theorem uA (h:QB true H):sH σ H QB:=h
variable {tA tR:TA} {QA:List V->Hp->Prop}
theorem tM (h:QA [] H):Y2 σ H QA:=h
theorem pK (h:te σ H fun x H1=>tR σ H1 fun xs H2=>QA (x::xs) H2):Xg te tR σ H QA:=h
theorem qB {sp:Sp}{E:XK}(h:tA σ H fun vs H1=>sp (vs++[]) H1 Q E):eR sp [] E tA σ H Q:=h
theorem uT {r:List V->Hp->VK->Prop}(h:tA σ H fun vs H1=>r vs H1 Q):tCB r tA σ H Q:=h
theorem sD (h:tA σ H fun xs H1=>xs.length<=sizeLine/\∀ p,H1 p=none->Q (.ref p) (upd H1 p (.lst xs))):tF tA σ H Q:=h
theorem sY (h:tA σ H fun xs H1=>xs.length<=sizeLine/\∀ p,H1 p=none->Q (.ref p) (upd H1 p (.tup xs))):sS tA σ H Q:=h
theorem uE {K:PySem.W.Frag}{T:String}{r:V->List V->Hp->VK->Prop}(h:te σ H fun x H1=>tyV K T x H1/\tA σ H1 fun xs H2=>r x xs H2 Q):tBM K T r te tA σ H Q:=h
theorem uR {r:V->Option Int->Option Int->Hp->VK->Prop}{tl th:TO}(h:te σ H fun x H1=>tl σ H1 fun l H2=>th σ H2 fun u H3=>r x l u H3 Q):tSl r te tl th σ H Q:=h
theorem kO {QO:Option Int->Hp->Prop}(h:QO none H):eA σ H QO:=h
theorem pV {QO:Option Int->Hp->Prop}(h:te σ H fun x H1=>∃ i,x=.int i/\QO (some i) H1):oK te σ H QO:=h
theorem sK {P:Int->Prop}{i:Int}(h:P i):∃ j,V.int i=.int j/\P j:=⟨i,rfl,h⟩
def fU (J:It)(g:TG)(tb:TS)(D:Kn)(σ:St)(H1:Hp):Prop:=∃ W:Nat->Nat->St->Hp->Prop,(∃ m,W 0 m σ H1)/\∀ i m σ H,W i m σ H ->
 (J.stop i H/\D.nx σ H)\/(J.go i H/\∃ N:St->Hp->Prop,(∀ σ' H',N σ' H'->∃ m',m'<m/\W (i+1) m' σ' H')/\∀ x H',J.yld i H x H'->g x σ H' fun σ2 H2=>tb { D with nx:=N,ct:=N,bk:=D.nx } σ2 H2)
theorem tD {wi:TI}{g:TG}(h:wi σ H fun J H1=>fU J g t D σ H1):tX wi g t D σ H:=h
theorem qN {R:It->Hp->Prop}(h:tA σ H fun vs H1=>∃ j:Int,vs=[.int j]/\-(2 ^ 62)<=j/\j<2 ^ 62/\R (Itr 0 j.toNat) H1):pE tA σ H R:=h
theorem pY {R:It->Hp->Prop}(h:tA σ H fun vs H1=>∃ i j:Int,vs=[.int i,.int j]/\(-(2 ^ 62)<=i/\i<2 ^ 62/\-(2 ^ 62)<=j/\j<2 ^ 62)/\R (Itr i (j-i).toNat) H1):oB tA σ H R:=h
theorem lZ {K:PySem.W.Frag}{R:It->Hp->Prop}(h:te σ H fun x H1=>∃ a,x=.ref a/\(∃ xs,SqL K H1 a xs)/\R (Itl K a) H1):oS K te σ H R:=h
theorem uG {wi:TI}{ix:List Nat}{tc:TT}(h:wi σ H fun J H1=>Vn J H1 (frV σ ix) tc te Q):tLc wi ix tc te σ H Q:=h
theorem Bg {K:PySem.W.Frag}{p:Addr}{xs:List V}{i:Int}{v:V}(hs:SqL K H p xs)(e:atI xs i=some v)(h:Q v H):qA K (.ref p) (.int i) H Q:=⟨p,xs,i,v,rfl,rfl,hs,e,h⟩
theorem X4 {K:PySem.W.Frag}{p:Addr}{xs:List V}{i:Int}{v:V}(hs:SqT K H p xs)(e:atI xs i=some v)(h:Q v H):pW K (.ref p) (.int i) H Q:=⟨p,xs,i,v,rfl,rfl,hs,e,h⟩
theorem B9 {l:Addr}{xs:List V}{y:V}(hl:H l=some (.lst xs))(hz:xs.length<sizeLine)(h:Q .non (upd H l (.lst (xs++[y])))):eQ (.ref l) [y] H Q:=⟨l,xs,y,rfl,rfl,hl,hz,h⟩
end
theorem Ky {c:TT}{tb:TS}{D:Kn}{σ:St}{H:Hp}(Pv:St->Hp->Prop)(μ:St->Hp->Nat)(h0:Pv σ H)
  (hs:∀ m σ H,Pv σ H->μ σ H=m->c σ H fun b H1=>if b=true then ∃ N:St->Hp->Prop,(∀ σ' H',N σ' H'->∃ m',m'<m/\(Pv σ' H'/\μ σ' H'=m'))/\tb { D with nx:=N,ct:=N,bk:=D.nx } σ H1 else D.nx σ H1):iF c tb D σ H :=
 ⟨fun m σ H=>Pv σ H/\μ σ H=m,⟨_,h0,rfl⟩,fun m σ H h=>hs m σ H h.1 h.2⟩
theorem Su {tb:TS}{rt:VK}{bk:St->Hp->Prop}{σ:St}{H1:Hp}{Pv:St->Hp->Prop}{μ:St->Hp->Nat}{m:Nat}
  (h:tb { nx:=fun σ' H'=>Pv σ' H'/\μ σ' H'<m,rt:=rt,bk:=bk,ct:=fun σ' H'=>Pv σ' H'/\μ σ' H'<m } σ H1) :
  ∃ N:St->Hp->Prop,(∀ σ' H',N σ' H'->∃ m',m'<m/\(Pv σ' H'/\μ σ' H'=m'))/\tb { nx:=N,rt:=rt,bk:=bk,ct:=N } σ H1:=⟨_,fun σ' H' z=>⟨_,z.2,z.1,rfl⟩,h⟩
section
variable {H:Hp} {Q:VK} {g:Int->Int->V} {i j:Int}
theorem oM (c:0<j)(h:Q (g i j) H):rI (fun _ j=>0<j) g (.int i) (.int j) H Q:=⟨i,j,rfl,rfl,c,h⟩
theorem oF (c1:0<j)(c2:j<1073741824)(h:Q (g i j) H):rI tU g (.int i) (.int j) H Q:=⟨i,j,rfl,rfl,⟨c1,c2⟩,h⟩
theorem Sl (c1:-(2 ^ 64)<j)(c2:j<2 ^ 64)(h:Q (g i j) H):rI jE g (.int i) (.int j) H Q:=⟨i,j,rfl,rfl,.inr ⟨c1,c2⟩,h⟩
theorem jM (c1:-(2 ^ 64)<i)(c2:i<2 ^ 64)(h:Q (g i j) H):rI jE g (.int i) (.int j) H Q:=⟨i,j,rfl,rfl,.inl ⟨c1,c2⟩,h⟩
end
theorem Bz {c A B:Prop}[Decidable c](h1:c->A)(h2:¬ c->B):if decide c=true then A else B:=by
 by_cases h:c
 ·rw [decide_eq_true h,if_pos rfl]
  exact h1 h
 ·rw [decide_eq_false h,if_neg Bool.false_ne_true]
  exact h2 h
theorem mY {c A B:Prop}[Decidable c](h1:¬ c->A)(h2:c->B):if (!decide c)=true then A else B:=by
 by_cases h:c
 ·rw [decide_eq_true h,if_neg (by decide)]
  exact h2 h
 ·rw [decide_eq_false h,if_pos (by decide)]
  exact h1 h
def tQ (c:TT)(t u:TS):TS:=fun D σ H=>∃ J:St->Hp->Prop,(∀ σ H,J σ H->D.nx σ H)/\c σ H fun b H1=>if b=true then t { D with nx:=J } σ H1 else u { D with nx:=J } σ H1
theorem kH {X:Cx}{c:Expr}{a b:List Stmt}{tc:TT}{t u:TS}{pos:Pos}(hc:PT X c tc)(ha:PSs X a t)(hb:PSs X b u):PS X (.If c a b pos) (tQ tc t u):=by
 intro pins s σ H D I h
 obtain ⟨J,hJ,h⟩:=h
 refine thn (B3 hc ha hb pins s σ H { D with nx:=J } I h) fun f s' q=>?_
 cases f with
 | next =>
  obtain ⟨σ',H',I',q'⟩:=q
  exact ⟨σ',H',I',hJ _ _ q'⟩
 | brk=>exact q
 | cont=>exact q
 | ret u=>exact q
theorem oY {c:TT}{t u:TS}{D:Kn}{σ:St}{H:Hp}(J:St->Hp->Prop)(h:c σ H fun b H1=>if b=true then t { D with nx:=J } σ H1 else u { D with nx:=J } σ H1)(hJ:∀ σ H,J σ H->D.nx σ H):tQ c t u D σ H:=⟨J,hJ,h⟩
def Its (z:Str):It:=⟨fun i _=>i<z.cps.size,fun i H x H'=>H'=H/\∃ c,z.cps[i]?=some c/\x=.str (sgn c),fun i _=>z.cps.size<=i⟩
section
variable {X:Cx} {tg:Expr}
def tO (tl:TE):TI:=fun σ H R=>tl σ H fun x H1=>∃ z,x=.str z/\R (Its z) H1
theorem jU {P:Program}{w:World}{K:PySem.W.Frag}{tg:Expr}{it:Addr}{z:Str}{ty:String}{t:Tok}(hty:ty="str_ascii_iterator"\/ty="str_iterator")
  (W:∀ A':Around,A'.handled=none->Walks P w A' it [it] [it] z.cps.size (SignAt z) (fun i h=>h.IsStrIter it ty z t i))
  (hself:∀ (A:Around) (i:Nat) (s:Shared) (Q:Value->Shared->Prop) (E:Value->Shared->Prop),s.heap.IsStrIter it ty z t i->Q (.ref it) s->wpAny (model P w) A (pyIter (.ref it)) Q E s):Nw P w K tg (Its z) [it] it (fun i h=>h.IsStrIter it ty z t i) where
 mem:=by simp
 obj:=fun i h st b hb=>by
  have e:b=it:=by simpa using hb
  subst e
  obtain ⟨o,e,c,d⟩:=st
  exact ⟨o,e,fun v z=>by rw [d] at z;cases z⟩
 keep:=fun i h h' st k=>let ⟨o,ho,r⟩:=st;⟨o,k it (by simp) o ho,r⟩
 item:=by
  intro X hP hw hK hc i pins s σ H E I hf st hg
  subst hP hw hK
  obtain ⟨f0,f1,f2,f3,f4,f5⟩:=hf it (by simp)
  refine (W X.A (I.ok.hd hc)).item i s _ _ hg st fun v h' tk hv st' kk=>?_
  obtain ⟨c,u,hc',rfl⟩:=hv
  have I1:Inv X pins σ H { s with heap:=h',toks:=tk }:=I.turned (fun b o hb e=>kk b o (by simpa using hb) e) f0 f1 f3 f4 f5
  obtain ⟨o,e,cc,d⟩:=id st'
  exact ⟨_,rfl,dN (s:={ s with heap:=h',toks:=tk }) e cc d (by rcases hty with rfl | rfl<;>decide) ⟨.str (sgn c),H,I1,⟨u,rfl⟩,⟨rfl,c,hc',rfl⟩,st',fun b hb=>(hf b hb).1⟩⟩
 done:=by
  intro X hP hw hK hc i pins s σ H E I hf st hg
  subst hP hw hK
  obtain ⟨f0,f1,f2,f3,f4,f5⟩:=hf it (by simp)
  rcases hty with rfl | rfl
  ·exact wpAny_pyNext_ascii_end (I.ok.hd hc) st (Array.getElem?_eq_none hg) fun h' eb=>⟨rfl,I.turned (t':=s.toks) (fun b o hb e=>eb b o hb e) f0 f1 f3 f4 f5⟩
  ·exact wpAny_pyNext_wide_end (I.ok.hd hc) st (Array.getElem?_eq_none hg) fun h' eb=>⟨rfl,I.turned (t':=s.toks) (fun b o hb e=>eb b o hb e) f0 f1 f3 f4 f5⟩
 self:=fun A i s Q E st h=>hself A i s Q E st h
theorem Zi {l:Expr}{tl:TE}(hl:PE X l tl):PI X tg l (tO tl):=by
 intro pins s σ H R I h
 refine thn (hl pins s σ H _ I h) fun v s1 ⟨x,H1,I1,r1,q1⟩=>?_
 obtain ⟨z,e,q⟩:=q1
 subst e
 obtain ⟨t,rfl⟩:=r1
 have fin:∀ (o:Obj) (ty:String),(ty="str_ascii_iterator"\/ty="str_iterator")->(∀ A':Around,A'.handled=none->Walks X.prog X.w A' s1.heap.objs.size [s1.heap.objs.size] [s1.heap.objs.size] z.cps.size (SignAt z) (fun i h=>h.IsStrIter s1.heap.objs.size ty z t i)) ->
   (∀ (A:Around) (i:Nat) (s:Shared) (Q:Value->Shared->Prop) (E:Value->Shared->Prop),s.heap.IsStrIter s1.heap.objs.size ty z t i->Q (.ref s1.heap.objs.size) s->wpAny (model X.prog X.w) A (pyIter (.ref s1.heap.objs.size)) Q E s) ->
   (s1.heap.push o).IsStrIter s1.heap.objs.size ty z t 0->PIE X pins σ tg R (.ref s1.heap.objs.size) { s1 with heap:=s1.heap.push o }:=fun o ty hty W hs h0=>by
  refine ⟨s1.heap.objs.size,[s1.heap.objs.size],_,_,H1,rfl,I1.kept (t':=s1.toks) fun b o e=>Heap.get?_push_of_some _ e,jU hty W hs,h0,fun b hb=>?_,q⟩
  have e:b=s1.heap.objs.size:=by simpa using hb
  subst e
  exact I1.fpOk (Nat.le_refl _) (I1.hok.fresh (Nat.le_refl _))
 cases ha:z.cps.all (· < 128)
 ·exact wpAny_pyIter_wide ha (fin _ _ (.inr rfl) (fun A' hA=>Walks.strWide hA _ z t) (fun A i s Q E st h=>wpAny_pyIter_striter_wide st h) ⟨_,Heap.get?_push_size _ rfl,rfl,rfl⟩)
 ·exact wpAny_pyIter_ascii ha (fin _ _ (.inl rfl) (fun A' hA=>Walks.strAscii hA _ z t) (fun A i s Q E st h=>wpAny_pyIter_striter_ascii st h) ⟨_,Heap.get?_push_size _ rfl,rfl,rfl⟩)
end
theorem pS {tl:TE}{σ:St}{H:Hp}{R:It->Hp->Prop}(h:tl σ H fun x H1=>∃ z,x=.str z/\R (Its z) H1):tO tl σ H R:=h
def jW (z:Str)(lo hi:Option Int):Str:=⟨((z.cps.toList.drop (HT.sIx z.cps.size 0 lo)).take (HT.sIx z.cps.size z.cps.size hi-HT.sIx z.cps.size 0 lo)).toArray⟩
def uQ:V->Option Int->Option Int->Hp->VK->Prop:=fun x lo hi H Q=>∃ z,x=.str z/\z.length<=sizeLine/\Q (.str (jW z lo hi)) H
theorem sW (lo hi:Option Int)(n:Nat):Builtin.Str.strSliceIndices lo hi 1 n=(List.range (HT.sIx n n hi-HT.sIx n 0 lo)).map (HT.sIx n 0 lo + ·):=by
 have e:Builtin.Str.strSliceIndices lo hi 1 n=sliceRange ((HT.sIx n 0 lo:Nat):Int) ((HT.sIx n n hi:Nat):Int) 1:=by
  unfold Builtin.Str.strSliceIndices
  dsimp only
  congr 1
  ·cases lo with
   | none=>simp [HT.sIx]
   | some i =>
    simp only [HT.sIx,show (1:Int)>0 by decide,if_true]
    by_cases h:i<0
    ·simp only [h,if_true]
     omega
    ·simp only [h,if_false]
     omega
  ·cases hi with
   | none=>simp [HT.sIx]
   | some i =>
    simp only [HT.sIx,show (1:Int)>0 by decide,if_true]
    by_cases h:i<0
    ·simp only [h,if_true]
     omega
    ·simp only [h,if_false]
     omega
 rw [e,sliceRange_one]
theorem iW (z:Str)(t:Tok)(l u:Option (Int×Tok)):(sliceMade z t l u none=.val (.str z t)/\jW z (l.map (·.1)) (u.map (·.1))=z)\/sliceMade z t l u none=.str (jW z (l.map (·.1)) (u.map (·.1))):=by
 have hp:slicePicked z l u none=(List.range (HT.sIx z.length z.length (u.map (·.1))-HT.sIx z.length 0 (l.map (·.1)))).map (HT.sIx z.length 0 (l.map (·.1)) + ·):=sW _ _ _
 have hc:(slicePicked z l u none).filterMap (z.cps[·]?)=(jW z (l.map (·.1)) (u.map (·.1))).cps.toList:=by
  rw [hp,pick_run]
  rfl
 unfold sliceMade
 split
 ·rename_i hw
  left
  refine ⟨rfl,J9 ?_⟩
  have hlen:(slicePicked z l u none).length=z.length:=by simpa using hw
  rw [hp,List.length_map,List.length_range] at hlen
  have h1:=HT.sIx_le z.length 0 (Nat.zero_le _) (l.map (·.1))
  have h2:=HT.sIx_le z.length z.length (Nat.le_refl _) (u.map (·.1))
  have e1:HT.sIx z.length 0 (l.map (·.1))=0\/z.length=0:=by omega
  show ((z.cps.toList.drop (HT.sIx z.cps.size 0 (l.map (·.1)))).take _).toArray.toList=_
  rw [show z.cps.size=z.length from rfl] at *
  rcases e1 with e1 | e1
  ·rw [e1,Nat.sub_zero] at hlen
   rw [e1,hlen,Nat.sub_zero,List.drop_zero,List.toList_toArray]
   exact List.take_of_length_le (by simp [Str.length])
  ·have:z.cps.toList=[]:=by
    have:z.cps.size=0:=e1
    simpa using this
   rw [this]
   simp
 ·right
  rw [hc]
section
variable {X:Cx}
theorem gT:SlR X uQ:=by
 intro pins s σ H x v vl vu lo hi sl Q I rx hs pl pu h
 obtain ⟨z,rfl,hz,q⟩:=h
 obtain ⟨t,rfl⟩:=rx
 refine ⟨"str",_,PySem.F.slot_str_getitem.lookup,typeIs_str _ _ _,?_⟩
 obtain ⟨l,el,el'⟩:∃ l:Option (Int×Tok),vl=partValue l/\lo=l.map (·.1):=by
  cases pl with
  | none=>exact ⟨none,rfl,rfl⟩
  | int i t=>exact ⟨some (i,t),rfl,rfl⟩
 obtain ⟨u,eu,eu'⟩:∃ u:Option (Int×Tok),vu=partValue u/\hi=u.map (·.1):=by
  cases pu with
  | none=>exact ⟨none,rfl,rfl⟩
  | int i t=>exact ⟨some (i,t),rfl,rfl⟩
 subst el el' eu eu'
 refine wpAny_getItem_str_slice (l:=l) (u:=u) (st:=none) hs rfl ?_
 rcases iW z t l u with ⟨e,e2⟩ | e
 ·rw [e]
  rw [e2] at q
  exact ⟨.str z,H,I,⟨t,rfl⟩,q⟩
 ·rw [e]
  refine ⟨?_,.str _,H,I.tok _,⟨_,rfl⟩,q⟩
  refine Nat.le_trans ?_ hz
  show (List.take _ (List.drop _ z.cps.toList)).toArray.size<=z.cps.size
  rw [List.size_toArray,List.length_take,List.length_drop]
  simp
  omega
end
theorem oH:bootBuiltins "zip"=some (.type "zip"):=by decide +kernel
theorem Ht:bootBuiltins "enumerate"=some (.type "enumerate"):=by decide +kernel
theorem Inv.turnT {X:Cx}{pins:List (Addr×Obj)}{σ:List (Option V)}{H:Hp}{s:Shared}{h':Heap}{t':Nat}{wr:List Addr}{T:Addr}{xs:List V}{us:List Value}(I:Inv X pins σ H s)
  (k:∀ b o,b∉wr->s.heap.get? b=some o->h'.get? b=some o)(hf:∀ b∈wr,Ni X pins H b)(hT:s.heap.objs.size<=T)(hI:h'.IsTuple T us.toArray)(rv:Bi xs us)(hz:xs.length<=sizeLine) :
  Inv X pins σ (upd H T (.tup xs)) { s with heap:=h',toks:=t' }:=by
 have hn:H T=none:=I.hok.fresh hT
 have nT:∀ b u,H b=some u->b≠T:=fun b u e=>Ap e hn
 have nW:∀ b u,H b=some u->b∉wr:=fun b u e z=>by rw [(hf b z).1] at e;cases e
 refine I.step (g':=s.gens) (d':=s.drawn) (ch:=wr) (fun b hb=>?_) (fun b o _ _ hc e _=>k b o hc e) (fun b o _ _ hc e _=>⟨o.slots,k b o hc e⟩) (fun b o hc e n=>?_)
  (fun b o hc e=>⟨o,k b o hc e⟩) (fun b xs e=>by rw [Aw (nT _ _ e)];exact e) (fun b o u e=>by rw [Aw (nT _ _ e)];exact e) (fun b ps e=>⟨#[],by rw [Aw (nT _ _ e),e];simp⟩) (fun m hm=>?_) (fun b u e=>?_) I.bare
 ·obtain ⟨_,f1,_,f3,f4,f5⟩:=hf b hb
  exact ⟨f3,f1,f4,f5⟩
 ·rw [Aw (Nat.ne_of_lt (Nat.lt_of_lt_of_le (Heap.lt_size e) hT))]
  exact n
 ·obtain ⟨o,es,ep,ho,r⟩:=hm
  exact ⟨o,es,ep,k _ o (fun z=>(hf _ z).2.1 rfl) ho,r⟩
 ·by_cases hb:b=T
  ·subst hb
   rw [Ae] at e
   cases e
   exact ⟨hz,us,rv,hI⟩
  ·rw [Aw hb] at e
   refine (I.hok b u e).stay (fun c v hc q=>k c v ?_ q) (fun c q=>by rw [Aw (nT _ _ q)];exact q) fun c ys q=>by rw [Aw (nT _ _ q)];exact q
   rcases hc with z | z
   ·rw [z];exact nW b u e
   ·exact nW c _ z
theorem Inv.turnW {X:Cx}{pins:List (Addr×Obj)}{σ:List (Option V)}{H:Hp}{s:Shared}{h':Heap}{t':Nat}{wr:List Addr}(I:Inv X pins σ H s)
  (k:∀ b o,b∉wr->s.heap.get? b=some o->h'.get? b=some o)(hf:∀ b∈wr,Ni X pins H b):Inv X pins σ H { s with heap:=h',toks:=t' }:=by
 have nW:∀ b u,H b=some u->b∉wr:=fun b u e z=>by rw [(hf b z).1] at e;cases e
 refine I.step (g':=s.gens) (d':=s.drawn) (ch:=wr) (fun b hb=>?_) (fun b o _ _ hc e _=>k b o hc e) (fun b o _ _ hc e _=>⟨o.slots,k b o hc e⟩) (fun b o hc e n=>n)
  (fun b o hc e=>⟨o,k b o hc e⟩) (fun _ _ e=>e) (fun _ _ _ e=>e) (fun b ps e=>⟨#[],by rw [e];simp⟩) (fun m hm=>?_) (fun b u e=>?_) I.bare
 ·obtain ⟨_,f1,_,f3,f4,f5⟩:=hf b hb
  exact ⟨f3,f1,f4,f5⟩
 ·obtain ⟨o,es,ep,ho,r⟩:=hm
  exact ⟨o,es,ep,k _ o (fun z=>(hf _ z).2.1 rfl) ho,r⟩
 ·refine (I.hok b u e).stay (fun c v hc q=>k c v ?_ q) (fun _ q=>q) fun _ _ q=>q
  rcases hc with z | z
  ·rw [z];exact nW b u e
  ·exact nW c _ z
theorem Eh {h:Heap}{a b:Addr}{o u:Obj}(h1:h.get? a=some o)(h2:h.get? b=some u)(d:o.cls≠u.cls):a≠b:=fun e=>by
 subst e
 rw [h1] at h2
 cases h2
 exact d rfl
def Itz (K:PySem.W.Frag)(a b:Addr):It :=
 ⟨fun i H=>∃ xs ys x y,SqL K H a xs/\SqL K H b ys/\xs[i]?=some x/\ys[i]?=some y,
  fun i H v H'=>∃ t x y,H t=none/\v=.ref t/\(∀ xs,SqL K H a xs->xs[i]?=some x)/\(∀ ys,SqL K H b ys->ys[i]?=some y)/\H'=upd H t (.tup [x,y]),
  fun i H=>∃ xs ys,SqL K H a xs/\SqL K H b ys/\i=min xs.length ys.length⟩
def StZ (z TI TO i1 i2 l1 l2:Addr)(i:Nat)(h:Heap):Prop:=IsZip h z TI TO .none/\IsPair h TI (.ref i1) (.ref i2)/\(∃ a b,IsPair h TO a b)/\h.IsListIter i1 l1 i/\h.IsListIter i2 l2 i
structure Y7 (z TI TO i1 i2:Addr):Prop where
 TIz:TI≠z
 TOz:TO≠z
 i1z:i1≠z
 i2z:i2≠z
 TITO:TI≠TO
 TIi1:TI≠i1
 TIi2:TI≠i2
 TOi1:TO≠i1
 TOi2:TO≠i2
 i12:i1≠i2
theorem cF {h:Heap}{z TI TO i1 i2 a b:Addr}{i:Nat}{xs ys:Array Value}(D:Y7 z TI TO i1 i2)(st:StZ z TI TO i1 i2 a b i h)(ha:h.IsList a xs)(hb:h.IsList b ys):ZipApart z TI TO i1 i2 a b:=by
 obtain ⟨hz,hTI,⟨u,v,hTO⟩,⟨o1,e1,c1,_⟩,⟨o2,e2,c2,_⟩⟩:=st
 obtain ⟨oa,ea,ca,_⟩:=ha
 obtain ⟨ob,eb,cb,_⟩:=hb
 refine ⟨D.TIz,D.TOz,D.i1z,D.i2z,D.TITO,D.TIi1,D.TIi2,D.TOi1,D.TOi2,D.i12,Eh ea hz ?_,Eh ea hTO ?_,Eh ea e1 ?_,Eh ea e2 ?_,Eh eb hz ?_,Eh eb hTO ?_,Eh eb e1 ?_,Eh eb e2 ?_⟩
 ·rw [ca];exact show Value.type "list"≠Value.type "zip" by decide
 ·rw [ca];exact show Value.type "list"≠Value.type "tuple" by decide
 ·rw [ca,c1];decide
 ·rw [ca,c2];decide
 ·rw [cb];exact show Value.type "list"≠Value.type "zip" by decide
 ·rw [cb];exact show Value.type "list"≠Value.type "tuple" by decide
 ·rw [cb,c1];decide
 ·rw [cb,c2];decide
theorem Rz (n:Nat):Y7 (n+4) (n+2) (n+3) n (n+1):=by
 constructor<;>(intro h;have h:(_:Nat)=_:=h;omega)
theorem tT {n c:Nat}(h:c=n+4\/c=n+2\/c=n+3\/c=n\/c=n+1):n<=c:=by omega
theorem dR {n c:Nat}(h:c=n+1\/c=n):n<=c:=by omega
theorem dS (n:Nat):n+1≠n:=by omega
theorem lA {P:Program}{w:World}{K:PySem.W.Frag}{elts:List Expr}{k:Nat}{pos:Pos}(z TI TO i1 i2 a b:Addr)(D:Y7 z TI TO i1 i2) :
  Nw P w K (.Tuple elts k pos) (Itz K a b) [z,TI,TO,i1,i2] z (StZ z TI TO i1 i2 a b) where
 mem:=by simp
 obj:=fun i h st c hc=>by
  obtain ⟨hz,hTI,⟨u,v,hTO⟩,⟨o1,e1,c1,d1⟩,⟨o2,e2,c2,d2⟩⟩:=st
  simp only [List.mem_cons,List.not_mem_nil,or_false] at hc
  rcases hc with rfl | rfl | rfl | rfl | rfl
  ·exact ⟨_,hz,fun v z=>by cases z⟩
  ·exact ⟨_,hTI,fun v z=>by cases z⟩
  ·exact ⟨_,hTO,fun v z=>by cases z⟩
  ·exact ⟨_,e1,fun v z=>by rw [d1] at z;cases z⟩
  ·exact ⟨_,e2,fun v z=>by rw [d2] at z;cases z⟩
 keep:=fun i h h' st kk=>by
  obtain ⟨hz,hTI,⟨u,v,hTO⟩,h1,h2⟩:=st
  exact ⟨kk _ (by simp) _ hz,kk _ (by simp) _ hTI,⟨u,v,kk _ (by simp) _ hTO⟩,h1.at fun o e=>kk _ (by simp) o e,h2.at fun o e=>kk _ (by simp) o e⟩
 item:=by
  intro X hP hw hK hc i pins s σ H E I hf st hg
  subst hP hw hK
  obtain ⟨xs,ys,x,y,ha,hb,hx,hy⟩:=hg
  obtain ⟨its,rv,p,hz⟩:=I.list ha
  obtain ⟨its2,rv2,p2,hz2⟩:=I.list hb
  have W:=WalksT.zip2 (prog:=X.prog) (w:=X.w) (A:=X.A) (I.ok.hd hc) z TI TO i1 i2 a b (cF D st p.isList p2.isList) its.toArray its2.toArray
  obtain ⟨u1,hu1,ru1⟩:=rv.get hx
  obtain ⟨u2,hu2,ru2⟩:=rv2.get hy
  have l1:=(List.getElem?_eq_some_iff.mp hu1).1
  have l2:=(List.getElem?_eq_some_iff.mp hu2).1
  obtain ⟨s1,s2,s3,s4,s5⟩:=id st
  refine W.item i s _ _ (by simp;omega) ⟨s1,s2,s3,s4,s5,p.isList,p2.isList⟩ fun T vals h' tk hv hT hTu mid kk=>?_
  obtain ⟨v1,v2,e1,e2,rfl⟩:=hv
  have e1:v1=u1:=by have:=e1;simp only [List.getElem?_toArray] at this;rw [hu1] at this;exact (Option.some.inj this).symm
  have e2:v2=u2:=by have:=e2;simp only [List.getElem?_toArray] at this;rw [hu2] at this;exact (Option.some.inj this).symm
  subst e1 e2
  have nT:=W.apart i T h' mid
  refine ⟨.ref T,rfl,W.go elts k pos i T { s with heap:=h',toks:=tk } _ _ mid fun h'' st'' kk2=>?_⟩
  have hTu2:h''.IsTuple T ([v1,v2]:List Value).toArray:=by
   obtain ⟨o,e,r⟩:=hTu
   exact ⟨o,kk2 T o nT e,r⟩
  have I2:Inv X pins σ (upd H T (.tup [x,y])) { s with heap:=h'',toks:=tk }:=I.turnT (t':=tk) (fun b o hb e=>kk2 b o hb (kk b o hb e)) (fun b hb=>hf b (by simp at hb ⊢;rcases hb with rfl | rfl | rfl | rfl<;>simp)) hT hTu2 (.cons ru1 (.cons ru2 .nil)) (show 2<=sizeLine by decide)
  refine ⟨.ref T,_,I2,rfl,⟨T,x,y,I.hok.fresh hT,rfl,fun xs' h=>by rw [I.list_inj h ha];exact hx,fun ys' h=>by rw [I.list_inj h hb];exact hy,rfl⟩,⟨st''.1,st''.2.1,st''.2.2.1,st''.2.2.2.1,st''.2.2.2.2.1⟩,fun c hc'=>?_⟩
  have hlt:c<s.heap.objs.size:=by
   obtain ⟨q,⟨t1,t2,t3⟩⟩:c∈[z,TI,TO,i1,i2]/\(IsZip s.heap z TI TO .none/\IsPair s.heap TI (.ref i1) (.ref i2)/\True):=⟨hc',s1,s2,trivial⟩
   obtain ⟨u,v,s3⟩:=s3
   obtain ⟨o4,s4,_⟩:=s4
   obtain ⟨o5,s5,_⟩:=s5
   simp only [List.mem_cons,List.not_mem_nil,or_false] at hc'
   rcases hc' with rfl | rfl | rfl | rfl | rfl
   ·exact Heap.lt_size s1
   ·exact Heap.lt_size s2
   ·exact Heap.lt_size s3
   ·exact Heap.lt_size s4
   ·exact Heap.lt_size s5
  rw [Aw (Nat.ne_of_lt (Nat.lt_of_lt_of_le hlt hT))]
  exact (hf c hc').1
 done:=by
  intro X hP hw hK hc i pins s σ H E I hf st hg
  subst hP hw hK
  obtain ⟨xs,ys,ha,hb,hi⟩:=hg
  obtain ⟨its,rv,p,hz⟩:=I.list ha
  obtain ⟨its2,rv2,p2,hz2⟩:=I.list hb
  have W:=WalksT.zip2 (prog:=X.prog) (w:=X.w) (A:=X.A) (I.ok.hd hc) z TI TO i1 i2 a b (cF D st p.isList p2.isList) its.toArray its2.toArray
  have hl:=rv.length
  have hl2:=rv2.length
  have hi2:i=min its.toArray.size its2.toArray.size:=by rw [hi,hl,hl2];simp
  obtain ⟨s1,s2,s3,s4,s5⟩:=id st
  refine W.done s _ _ (by rw [<- hi2];exact ⟨s1,s2,s3,s4,s5,p.isList,p2.isList⟩) fun h' tk kk=>⟨rfl,?_⟩
  exact I.turnW (t':=tk) kk fun b hb=>hf b (by simp at hb ⊢;rcases hb with rfl | rfl | rfl | rfl<;>simp)
 self:=fun _ _ _ _ _ st h=>wpAny_pyIter_zip st.1 h
section
variable {X:Cx} {elts:List Expr} {k:Nat} {tpos:Pos}
def tS (K:PySem.W.Frag)(ta:TA):TI:=fun σ H R=>ta σ H fun vs H1=>∃ a b,vs=[.ref a,.ref b]/\(∃ xs,SqL K H1 a xs)/\(∃ ys,SqL K H1 b ys)/\R (Itz K a b) H1
theorem bY {a b:Expr}{ta:TA}{p pos:Pos}(hg:Gl X "zip")(hm:X.mg "zip"=none)(ha:PA X [a,b] ta)(hs:starEach [a,b] X.env=[(false,eval a X.env),(false,eval b X.env)]:=by rfl)(hs2:starEach [b] X.env=[(false,eval b X.env)]:=by rfl) :
  PI X (.Tuple elts k tpos) (.Call (.Name "zip" p) [a,b] [] pos) (tS X.K ta):=by
 intro pins s σ H R I h
 refine Call_ (Ft I hg hm oH (PyProof.Rows.callWith_type1 (thn (ha pos pins s σ H _ I h) fun us s1 ⟨vs,H1,I1,r1,q1⟩=>?_) (by rw [hs,hs2]) (by rw [hs2];rfl)))
 obtain ⟨a,b,e,⟨xs,hx⟩,⟨ys,hy⟩,q⟩:=q1
 subst e
 obtain ⟨u,v,rfl,ru,rv⟩:=Xm r1
 cases ru
 cases rv
 obtain ⟨its,rv,p,hz⟩:=I1.list hx
 obtain ⟨its2,rv2,p2,hz2⟩:=I1.list hy
 refine call_zip_2 p.isList p2.isList fun h' g1 g2 g3 g4 g5 hsz kk=>?_
 refine wpAny_pyIter_zip (s:={ s1 with heap:=h' }) g1 ?_
 refine ⟨s1.heap.objs.size+4,[s1.heap.objs.size+4,s1.heap.objs.size+2,s1.heap.objs.size+3,s1.heap.objs.size,s1.heap.objs.size+1],_,_,H1,rfl,I1.kept (t':=s1.toks) kk,
  lA _ _ _ _ _ a b (Rz _),⟨g1,g2,⟨_,_,g3⟩,g4,g5⟩,fun c hc=>?_,q⟩
 have hle:s1.heap.objs.size<=c:=by
  simp only [List.mem_cons,List.not_mem_nil,or_false] at hc
  exact tT hc
 exact I1.fpOk hle (I1.hok.fresh hle)
end
def Ite (K:PySem.W.Frag)(a:Addr):It :=
 ⟨fun i H=>∃ xs x,SqL K H a xs/\xs[i]?=some x,
  fun i H v H'=>∃ t x,H t=none/\v=.ref t/\(∀ xs,SqL K H a xs->xs[i]?=some x)/\H'=upd H t (.tup [.int i,x]),
  fun i H=>∃ xs,SqL K H a xs/\i=xs.length⟩
def StE (e it l:Addr)(i:Nat)(h:Heap):Prop:=(∃ old,IsEnum h e it i old)/\h.IsListIter it l i
theorem fI {P:Program}{w:World}{K:PySem.W.Frag}{elts:List Expr}{k:Nat}{pos:Pos}(e it a:Addr)(D:e≠it) :
  Nw P w K (.Tuple elts k pos) (Ite K a) [e,it] e (StE e it a) where
 mem:=by simp
 obj:=fun i h st c hc=>by
  obtain ⟨⟨old,he⟩,⟨o1,e1,c1,d1⟩⟩:=st
  simp only [List.mem_cons,List.not_mem_nil,or_false] at hc
  rcases hc with rfl | rfl
  ·exact ⟨_,he,fun v z=>by cases z⟩
  ·exact ⟨_,e1,fun v z=>by rw [d1] at z;cases z⟩
 keep:=fun i h h' st kk=>by
  obtain ⟨⟨old,he⟩,h1⟩:=st
  exact ⟨⟨old,kk _ (by simp) _ he⟩,h1.at fun o e=>kk _ (by simp) o e⟩
 item:=by
  intro X hP hw hK hc i pins s σ H E I hf st hg
  subst hP hw hK
  obtain ⟨xs,x,ha,hx⟩:=hg
  obtain ⟨its,rv,p,hz⟩:=I.list ha
  obtain ⟨⟨old,s1⟩,s2⟩:=id st
  have n1:a≠e:=by obtain ⟨oa,ea,ca,_⟩:=p.isList;exact Eh ea s1 (by rw [ca];exact show Value.type "list"≠Value.type "enumerate" by decide)
  have n2:a≠it:=by obtain ⟨oa,ea,ca,_⟩:=p.isList;obtain ⟨o1,e1,c1,_⟩:=s2;exact Eh ea e1 (by rw [ca,c1];decide)
  have W:=WalksT.enumerate (prog:=X.prog) (w:=X.w) (A:=X.A) (I.ok.hd hc) e it a D n1 n2 its.toArray
  obtain ⟨u1,hu1,ru1⟩:=rv.get hx
  have l1:=(List.getElem?_eq_some_iff.mp hu1).1
  refine W.item i s _ _ (by simpa using l1) ⟨⟨old,s1⟩,s2,p.isList⟩ fun T vals h' tk hv hT hTu mid kk=>?_
  obtain ⟨t,v1,e1,rfl⟩:=hv
  have e1:v1=u1:=by have:=e1;simp only [List.getElem?_toArray] at this;rw [hu1] at this;exact (Option.some.inj this).symm
  subst e1
  have nT:=W.apart i T h' mid
  refine ⟨.ref T,rfl,W.go elts k pos i T { s with heap:=h',toks:=tk } _ _ mid fun h'' st'' kk2=>?_⟩
  have hTu2:h''.IsTuple T ([Value.int (i:Int) t,v1]:List Value).toArray:=by
   obtain ⟨o,e,r⟩:=hTu
   exact ⟨o,kk2 T o nT e,r⟩
  have I2:Inv X pins σ (upd H T (.tup [.int i,x])) { s with heap:=h'',toks:=tk }:=I.turnT (t':=tk) (fun b o hb e=>kk2 b o hb (kk b o hb e)) (fun b hb=>hf b hb) hT hTu2 (.cons ⟨t,rfl⟩ (.cons ru1 .nil)) (show 2<=sizeLine by decide)
  refine ⟨.ref T,_,I2,rfl,⟨T,x,I.hok.fresh hT,rfl,fun xs' h=>by rw [I.list_inj h ha];exact hx,rfl⟩,⟨?_,st''.2.1⟩,fun c hc'=>?_⟩
  ·exact st''.1
  have hlt:c<s.heap.objs.size:=by
   obtain ⟨o5,s5,_⟩:=s2
   simp only [List.mem_cons,List.not_mem_nil,or_false] at hc'
   rcases hc' with rfl | rfl
   ·exact Heap.lt_size s1
   ·exact Heap.lt_size s5
  rw [Aw (Nat.ne_of_lt (Nat.lt_of_lt_of_le hlt hT))]
  exact (hf c hc').1
 done:=by
  intro X hP hw hK hc i pins s σ H E I hf st hg
  subst hP hw hK
  obtain ⟨xs,ha,hi⟩:=hg
  obtain ⟨its,rv,p,hz⟩:=I.list ha
  obtain ⟨⟨old,s1⟩,s2⟩:=id st
  have n1:a≠e:=by obtain ⟨oa,ea,ca,_⟩:=p.isList;exact Eh ea s1 (by rw [ca];exact show Value.type "list"≠Value.type "enumerate" by decide)
  have n2:a≠it:=by obtain ⟨oa,ea,ca,_⟩:=p.isList;obtain ⟨o1,e1,c1,_⟩:=s2;exact Eh ea e1 (by rw [ca,c1];decide)
  have W:=WalksT.enumerate (prog:=X.prog) (w:=X.w) (A:=X.A) (I.ok.hd hc) e it a D n1 n2 its.toArray
  have hl:=rv.length
  have hi2:i=its.toArray.size:=by rw [hi,hl];simp
  refine W.done s _ _ (by rw [<- hi2];exact ⟨⟨old,s1⟩,s2,p.isList⟩) fun h' tk kk=>⟨rfl,?_⟩
  exact I.turnW (t':=tk) kk fun b hb=>hf b hb
 self:=fun _ _ _ _ _ st h=>wpAny_pyIter_enum (Classical.choose_spec st.1) h
section
variable {X:Cx} {elts:List Expr} {k:Nat} {tpos:Pos}
def oO (K:PySem.W.Frag)(ta:TA):TI:=fun σ H R=>ta σ H fun vs H1=>∃ a,vs=[.ref a]/\(∃ xs,SqL K H1 a xs)/\R (Ite K a) H1
theorem lL {a:Expr}{ta:TA}{p pos:Pos}(hg:Gl X "enumerate")(hm:X.mg "enumerate"=none)(ha:PA X [a] ta)(hs:starEach [a] X.env=[(false,eval a X.env)]:=by rfl) :
  PI X (.Tuple elts k tpos) (.Call (.Name "enumerate" p) [a] [] pos) (oO X.K ta):=by
 intro pins s σ H R I h
 refine Call_ (Ft I hg hm Ht (PyProof.Rows.callWith_type1 (thn (ha pos pins s σ H _ I h) fun us s1 ⟨vs,H1,I1,r1,q1⟩=>?_) hs rfl))
 obtain ⟨a,e,⟨xs,hx⟩,q⟩:=q1
 subst e
 obtain ⟨u,rfl,ru⟩:=Fd r1
 cases ru
 obtain ⟨its,rv,p,hz⟩:=I1.list hx
 refine call_enumerate_list p.isList fun h' g1 g2 hsz kk=>?_
 refine wpAny_pyIter_enum (s:={ s1 with heap:=h' }) g1 ?_
 refine ⟨s1.heap.objs.size+1,[s1.heap.objs.size+1,s1.heap.objs.size],_,_,H1,rfl,I1.kept (t':=s1.toks) kk,
  fI _ _ a (dS _),⟨⟨_,g1⟩,g2⟩,fun c hc=>?_,q⟩
 have hle:s1.heap.objs.size<=c:=by
  simp only [List.mem_cons,List.not_mem_nil,or_false] at hc
  exact dR hc
 exact I1.fpOk hle (I1.hok.fresh hle)
end
structure Eo (N₀:List Str) (sc₀ sc:Scope) (x1 x2:Str) (N:List Str) (ix:List Nat):Prop where
 kind:sc.kind=.function
 nocell:∀ y∈sc.names,y.2≠.cell
 names:∀ y∈sc.names,y.2=.local->sc.names.lookup y.1=some .local
 free:∀ y∈sc.names,y.2=.free->sc₀.names.lookup y.1=some .cell
 nd:N.Nodup
 hd:N[0]?=some x1
 hd2:N[1]?=some x2
 loc:sc.names.lookup x1=some .local
 loc2:sc.names.lookup x2=some .local
 len:N.length=ix.length+2
 at_:∀ p∈N.tail.tail.zip ix,N₀[p.2]?=some p.1/\sc.names.lookup p.1=some .free
def Ki (K:PySem.W.Frag)(J:It)(H1:Hp)(fr:St)(tc:TT)(te:TE)(Q:VK):Prop:=∀ D,H1 D=none->∃ W:Nat->Nat->Hp->Prop,(∃ m,W 0 m (upd H1 D (.lst [])))/\∀ i m H,W i m H ->
 (J.stop i H/\Q (.ref D) H)\/(J.go i H/\∀ v H',J.yld i H v H'->∃ a x y,v=.ref a/\SqT K H' a [x,y]/\tc (some x::some y::fr) H' fun b H3 =>
  if b=true then te (some x::some y::fr) H3 fun y H4=>∃ ys,H4 D=some (.lst ys)/\ys.length<sizeLine/\∃ m',m'<m/\W (i+1) m' (upd H4 D (.lst (ys++[y]))) else ∃ m',m'<m/\W (i+1) m' H3)
def qY (K:PySem.W.Frag)(wi:TI)(ix:List Nat)(tc:TT)(te:TE):TE:=fun σ H Q=>wi σ H fun J H1=>Ki K J H1 (frV σ ix) tc te Q
section
variable {X:Cx} {scope:Scope} {N:List Str} {ix:List Nat} {x1 x2:Str} {px px2 ppos:Pos} {kk:Nat} {elt iter:Expr} {ifs:List Expr} {tc:TT} {te:TE} {pos:Pos}
theorem rG {pins:List (Addr×Obj)}{σ:St}{H2:Hp}{s2:Shared}{J:It}{fp:List Addr}{it:Addr}{tn:Nat->Heap->Prop}{tg:Expr}(L:Eo X.N X.env.scope scope x1 x2 N ix)(I2:Inv X pins σ H2 s2)
  (T:Nw X.prog X.w X.K tg J fp it tn)(st2:tn 0 s2.heap)(f2:∀ b∈fp,Ni X pins H2 b){C:Addr}{s3 s4:Shared}{H3:Hp}(I3:Inv X pins σ H3 s3)(I4:Inv X pins σ H3 s4)(hle:s2.heap.objs.size<=s3.heap.objs.size)
  (hC:C=s3.heap.objs.size)(ho:s4.os=s3.os)(kp:∀ b u,s3.heap.get? b=some u->s4.heap.get? b=some u){m:Str->Option Value}(hns:s4.heap.Ns C m):Inv (Fg X scope N C s3 H3 fp) [] (none::none::frV σ ix) H3 s4:=by
 have hfree:∀ y∈scope.names,y.2=.free->∃ c,X.env.cells.lookup y.1=some c:=fun y hy hf=>I2.ok.has y.1 (.inl (L.free y hy hf))
 have sub:∀ y c,(Dw X.env scope.names []).lookup y=some c->X.env.cells.lookup y=some c:=fun y c h=>Ir _ _ y c hfree (fun _ _ z=>by simp at z) h
 have lt2:∀ b∈fp,b<s2.heap.objs.size:=fun b hb=>by obtain ⟨o,e,_⟩:=T.obj _ _ st2 b hb;exact Heap.lt_size e
 have okY:(Fg X scope N C s3 H3 fp).Ok:=by
  refine ⟨I2.ok.mod,L.kind,I2.ok.glob,I2.ok.blt,Nat.le_of_eq hC.symm,fun y z c h1 h2=>I2.ok.inj y z c (sub y c h1) (sub z c h2),fun y hy=>?_,fun y c z _=>?_,I2.ok.hd,I2.ok.frames,.inl rfl,fun b hb=>⟨?_,fun y c h=>(f2 b hb).2.2.2.2.1 y c (sub y c h)⟩,
   I3.bs,Nat.le_trans I3.ok.bsz I3.sz,fun b o e hb=>?_,fun b hb z=>?_,I3.stack,I3.stkFree⟩
  ·have hk:(y,NameKind.free)∈scope.names:=by
    rcases hy with hy | hy
    ·rcases Jz hy with q | q
     ·exact absurd rfl (L.nocell _ q)
     ·exact q.1
    ·rcases Jz hy with q | q
     ·exact q
     ·exact absurd q.2 (by decide)
   exact Option.isSome_iff_exists.mp (Fb _ _ y hk)
  ·cases (show false=true from z)
  ·have l:=lt2 b hb
   show b≠C
   rw [hC]
   exact Nat.ne_of_lt (Nat.lt_of_lt_of_le l hle)
  ·rcases (f2 b hb).2.2.2.1 with q | q
   ·exact I2.ok.noex b o e q
   ·exact absurd (Nat.lt_of_lt_of_le (Heap.lt_size e) (Nat.le_trans I2.ok.bsz q)) (Nat.lt_irrefl _)
  ·rcases List.mem_cons.mp (I2.stkSub b z) with q | q
   ·exact (f2 b hb).2.1 q
   ·exact (f2 b hb).2.2.1 q
 refine ⟨okY,ho,I4.bare,Un.kept kp,⟨m,hns,fun i y v h1 h2 h3=>?_⟩,fun y c e=>I4.cell y c (sub y c e),?_,fun y c e=>I4.freeC y c (sub y c e),fun p hp=>absurd (show p∈([]:List (Addr×Obj)) from hp) (by simp),I4.hok,?_⟩
 ·cases i with
  | zero=>cases (show some none=some (some v) from h2)
  | succ k =>
   cases k with
   | zero=>cases (show some none=some (some v) from h2)
   | succ k =>
   have h2:(frV σ ix)[k]?=some (some v):=h2
   have h1:N[k+1+1]?=some y:=h1
   unfold frV at h2
   rw [List.getElem?_map] at h2
   cases hj:ix[k]? with
   | none=>rw [hj] at h2;cases h2
   | some j =>
    rw [hj] at h2
    have h2:(σ[j]?).getD none=some v:=Option.some.inj h2
    have h2':σ[j]?=some (some v):=by
     cases e:σ[j]? with
     | none=>rw [e] at h2;cases h2
     | some z=>rw [e] at h2;exact congrArg some h2
    have ht:N.tail.tail[k]?=some y:=by rw [List.getElem?_tail,List.getElem?_tail];exact h1
    have hz:(y,j)∈N.tail.tail.zip ix:=List.mem_of_getElem? (i:=k) (by rw [List.getElem?_zip_eq_some];exact ⟨ht,hj⟩)
    obtain ⟨q1,q2⟩:=L.at_ _ hz
    have hm:=PySem.mem_of_lookup q2
    have hcell:=L.free _ hm rfl
    obtain ⟨m',hn',hl'⟩:=I4.loc
    obtain ⟨u,r,lk⟩:=hl' j y v q1 h2' (.inr (.inl hcell))
    refine ⟨u,r,.inr ⟨.inl (Nr I2.ok.kind hcell q2),?_⟩⟩
    rcases lk with lk | ⟨_,c,e,z⟩
    ·rw [show X.env.kindOf y=some .cell from hcell] at lk
     cases lk.1
    ·obtain ⟨c',e'⟩:=Option.isSome_iff_exists.mp (Fb (env:=X.env) scope.names [] y hm)
     have e2:=sub y c' e'
     rw [e] at e2
     cases e2
     exact ⟨c,e',z⟩
 ·show H3 C=none
  exact I3.hok.fresh (Nat.le_of_eq hC.symm)
 ·show (none::none::frV σ ix).length=N.length
  rw [L.len]
  simp [frV]
theorem eB {tgt:Expr}(htg:tgt=.Tuple [.Name x1 px,.Name x2 px2] kk ppos){pins:List (Addr×Obj)}{σ:St}{H2:Hp}{s2:Shared}{J:It}{fp:List Addr}{it:Addr}{tn:Nat->Heap->Prop}(hc:X.calm=true)(L:Eo X.N X.env.scope scope x1 x2 N ix)(I2:Inv X pins σ H2 s2)
  (T:Nw X.prog X.w X.K tgt J fp it tn)(st2:tn 0 s2.heap)(f2:∀ b∈fp,Ni X pins H2 b)
  (hif:∀ C s H,PIf (Fg X scope N C s H fp) ifs tc)(he:∀ C s H,PE (Fg X scope N C s H fp) elt te){Q:VK}(rd:Ki X.K J H2 (frV σ ix) tc te Q){RR:Value->Addr->Result->Shared->Prop}{E:Value->Shared->Prop}
  (fin:∀ D C H' s' m,Inv X pins σ H' s'->s2.heap.objs.size<=C->H' C=none->s'.heap.Ns C m->Q (.ref D) H'->RR (.ref D) C (.ok .next) s') :
  wpAny (model X.prog X.w) X.A (newList []) (fun acc s3=>wpAny (model X.prog X.w) X.A (newFunctionEnv scope X.env.globals (Dw X.env scope.names []) [] X.env.qual none .none (some X.env)) (fun cenv s4 =>
   codeAny (model X.prog X.w) X.A (.compStart (.ListComp elt [⟨tgt,iter,ifs,0⟩] scope pos) 0 (.ref it) acc { cenv with scope:=relabel scope X.env }) (RR acc cenv.locals) s4) E s3) E s2:=by
 refine wpAny_newObj_type (wpAny_newFunctionEnv L.nocell (by intro y hy;simp at hy) (fun h1 hns hsb=>?_) L.kind)
 dsimp only at hns hsb ⊢
 have I3:Inv X pins σ (upd H2 s2.heap.objs.size (.lst [])) { s2 with heap:=s2.heap.push { cls:=.type "list",dict:=none,data:=.seq ([]:List Value).toArray } }:=I2.lnew (its:=[]) (t':=s2.toks) .nil (Nat.zero_le _)
 generalize hH3:s2.heap.push { cls:=.type "list",dict:=none,data:=.seq ([]:List Value).toArray }=h3 at hns hsb I3 ⊢
 have hsz:h3.objs.size=s2.heap.objs.size+1:=by rw [<- hH3,Heap.size_push]
 have kp34:∀ b u,h3.get? b=some u->h1.get? b=some u:=fun b u e=>hsb.extBut b u (Nat.ne_of_lt (Heap.lt_size e)) (Heap.get?_push_of_some _ e)
 have I4:Inv X pins σ (upd H2 s2.heap.objs.size (.lst [])) { s2 with heap:=h1,toks:=s2.toks+([]:List (Str×Value)).length }:=I3.kept (t':=s2.toks+([]:List (Str×Value)).length) kp34
 have kp24:∀ b u,s2.heap.get? b=some u->h1.get? b=some u:=fun b u e=>kp34 b u (by rw [<- hH3];exact Heap.get?_push_of_some _ e)
 have IY:=rG (C:=h3.objs.size) (s3:={ s2 with heap:=h3 }) L I2 T st2 f2 I3 I4 (by show s2.heap.objs.size<=h3.objs.size;omega) rfl rfl kp34 hns
 have fD:H2 s2.heap.objs.size=none:=I2.hok.fresh (Nat.le_refl _)
 have lt2:∀ b∈fp,b<s2.heap.objs.size:=fun b hb=>by obtain ⟨o,e,_⟩:=T.obj _ _ st2 b hb;exact Heap.lt_size e
 have st4:tn 0 h1:=T.keep _ _ _ st2 fun b _ o e=>kp24 b o e
 have stat:∀ {pn:List (Addr×Obj)} {H':Hp},pn=[]->(∀ b∈fp,H' b=none)->∀ b∈fp,Ni (Fg X scope N h3.objs.size { s2 with heap:=h3 } (upd H2 s2.heap.objs.size (.lst [])) fp) pn H' b:=fun hp hn b hb=>by
  subst hp
  exact ⟨hn b hb,(IY.ok.exf b hb).1,IY.ok.exfs b hb,.inl hb,(IY.ok.exf b hb).2,fun p hp=>absurd (show p∈([]:List (Addr×Obj)) from hp) (by simp)⟩
 obtain ⟨W,⟨m0,w0⟩,turn⟩:=rd _ fD
 have loop:codeAny (model X.prog X.w) X.A (.compLoop (.ListComp elt [⟨tgt,iter,ifs,0⟩] scope pos) 0 (.ref it) (.ref s2.heap.objs.size) (compEnvC scope (Dw X.env scope.names []) h3.objs.size X.env)) (RR (.ref s2.heap.objs.size) h3.objs.size)
   { s2 with heap:=h1,toks:=s2.toks+([]:List (Str×Value)).length }:=by
  refine dD (fun n s'=>∃ i H',Inv (Fg X scope N h3.objs.size { s2 with heap:=h3 } (upd H2 s2.heap.objs.size (.lst [])) fp) [] (none::none::frV σ ix) H' s'/\tn i s'.heap/\(∀ b∈fp,H' b=none)/\W i n H') ?_ m0
   ⟨0,_,IY,st4,fun b hb=>by rw [Aw (Nat.ne_of_lt (lt2 b hb))];exact (f2 b hb).1,w0⟩
  rintro n s5 ⟨i,H5,I5,st5,fr5,w5⟩
  rcases turn i n H5 w5 with ⟨stop,q⟩ | ⟨go,step⟩
  ·refine thn (T.done (Fg X scope N h3.objs.size { s2 with heap:=h3 } (upd H2 s2.heap.objs.size (.lst [])) fp) rfl rfl rfl hc i [] s5 _ H5 (fun _ _=>False) I5 (stat rfl fr5) st5 stop) fun r s6 ⟨hr,I6⟩=>?_
   subst hr
   obtain ⟨m6,hn6,_⟩:=I6.loc
   have u1:Un (frs X.stack) fp H2 (upd H2 s2.heap.objs.size (.lst [])) s2.heap h3:=Un.laid (fun b u e=>by rw [<- hH3];exact Heap.get?_push_of_some _ e) (Nat.le_refl _) fD
   have back:Inv X pins σ H5 s6:=I2.call' (ch:=fp) (I6.os.trans rfl) (u1.trans I6.base) I6.hok I6.bare fun b hb=>⟨(f2 b hb).2.2.2.1,(f2 b hb).2.1,(f2 b hb).2.2.2.2.1,(f2 b hb).2.2.2.2.2⟩
   exact fin _ _ H5 s6 m6 back (by omega) I6.free hn6 q
  ·refine thn (T.item (Fg X scope N h3.objs.size { s2 with heap:=h3 } (upd H2 s2.heap.objs.size (.lst [])) fp) rfl rfl rfl hc i [] s5 _ H5 (fun _ _=>False) I5 (stat rfl fr5) st5 go) fun r s6 ⟨u,hr,h6⟩=>?_
   subst hr
   refine thn h6 fun _ s7 ⟨y,H7,I7,r7,y7,st7,fr7⟩=>?_
   have I7':=I7.pinned (stat rfl fr7) (T.obj _ _ st7)
   have hg:PG (Fg X scope N h3.objs.size { s2 with heap:=h3 } (upd H2 s2.heap.objs.size (.lst [])) fp) tgt (cZ X.K 2 (Jg (E7 0) (Jg (E7 1) Zy))):=by
    rw [htg]
    exact N7 hc (Dk (Bt L.nd L.hd (.inl (lookup_relabel_local L.loc)) (.inr (lookup_relabel_local L.loc))) (Dk (Bt L.nd L.hd2 (.inl (lookup_relabel_local L.loc2)) (.inr (lookup_relabel_local L.loc2))) Lo))
   obtain ⟨ta,y1,y2,ey,hTu,hst⟩:=step y _ y7
   refine thn (hg _ s7 _ H7 y u (fun σ' H'=>σ'=some y1::some y2::frV σ ix/\H'=H7) I7' r7 ⟨ta,[y1,y2],ey,hTu,rfl,y1,[y2],rfl,y2,[],rfl,rfl,rfl,rfl⟩) fun _ s8 ⟨σ8,H8,I8,e8,e8'⟩=>?_
   subst e8 e8'
   refine thn (hif _ _ _ _ s8 _ _ _ I8 hst) fun ok s9 ⟨H9,I9,q9⟩=>?_
   have again:∀ {sz:Shared} {Hz:Hp} {m':Nat},Inv (Fg X scope N h3.objs.size { s2 with heap:=h3 } (upd H2 s2.heap.objs.size (.lst [])) fp) ([]++Oi fp s7.heap) (some y1::some y2::frV σ ix) Hz sz->m'<n->W (i+1) m' Hz ->
     ∃ m,m<n/\∃ i H',Inv (Fg X scope N h3.objs.size { s2 with heap:=h3 } (upd H2 s2.heap.objs.size (.lst [])) fp) [] (none::none::frV σ ix) H' sz/\tn i sz.heap/\(∀ b∈fp,H' b=none)/\W i m H':=fun {sz Hz m'} Iz hm wz=>by
    refine ⟨m',hm,i+1,Hz,Iz.unpinned.weak (by simp) (fun j v e=>?_),T.keep _ _ _ st7 fun b hb o e=>(Iz.pin (b,o) (List.mem_append_right _ (List.mem_append_right _ (F4 hb e)))).1,fun b hb=>?_,wz⟩
    ·cases j with
     | zero=>cases e
     | succ j =>
      cases j with
      | zero=>cases e
      | succ j=>exact e
    ·obtain ⟨o,e,d⟩:=T.obj _ _ st7 b hb
     exact (Iz.pin (b,o) (List.mem_append_right _ (List.mem_append_right _ (F4 hb e)))).2.1
   cases ok with
   | false =>
    obtain ⟨m',hm,wz⟩:=q9
    exact again I9 hm wz
   | true =>
    refine thn (he _ _ _ _ s9 _ _ _ I9 q9) fun xv s10 ⟨z,H10,I10,r10,ys,hD,hl,m',hm,wz⟩=>?_
    refine thn (B7 _ s10 _ H10 (.ref s2.heap.objs.size) [z] (.ref s2.heap.objs.size) [xv] (fun _ Hz=>Hz=upd H10 s2.heap.objs.size (.lst (ys++[z]))) I10 rfl (.cons r10 .nil) ⟨_,ys,z,rfl,rfl,hD,hl,rfl⟩) fun _ s11 ⟨_,H11,I11,_,q11⟩=>?_
    subst q11
    exact again I11 hm wz
 exact codeAny_compStart_list loop (T.self X.A 0 _ _ _ st4 loop)
theorem bU {wi:TI}(hc:X.calm=true)(L:Eo X.N X.env.scope scope x1 x2 N ix)(hi:PI X (.Tuple [.Name x1 px,.Name x2 px2] kk ppos) iter wi)(hif:∀ C s H fp,PIf (Fg X scope N C s H fp) ifs tc)(he:∀ C s H fp,PE (Fg X scope N C s H fp) elt te)
  (hs:∀ z,foldedSetIterable iter X.env z=pure z:=by intro _;rfl):PE X (.ListComp elt [⟨.Tuple [.Name x1 px,.Name x2 px2] kk ppos,iter,ifs,0⟩] scope pos) (qY X.K wi ix tc te):=by
 intro pins s σ H Q I h
 have hfree:∀ y∈scope.names,y.2=.free->∃ c,X.env.cells.lookup y.1=some c:=fun y hy hf=>I.ok.has y.1 (.inl (L.free y hy hf))
 rw [eval_ListComp]
 refine wpAny_comprehension_free (use:=none) rfl hs (Hi hfree) L.kind L.names (thn (hi pins s σ H _ I h) fun v s1 h1=>thn h1 fun itv s2 h2=>?_)
 obtain ⟨it,fp,tn,J,H2,e,I2,T,st2,f2,rd⟩:=h2
 subst e
 refine eB (RR:=fun acc C=>compPost (model X.prog X.w) X.A X.xe none _ acc C) rfl hc L I2 T st2 f2 (fun C s H=>hif C s H fp) (fun C s H=>he C s H fp) rd fun D C H' s' m I' hC hf hn q=>?_
 refine ⟨m,hn,fun h' hsb=>⟨.ref D,H',?_,rfl,q⟩⟩
 have l2:=I2.lt
 refine I'.turned (t':=s'.toks) (it:=C) (fun b o hb e=>hsb.extBut b o hb e) hf (Nat.ne_of_gt (Nat.lt_of_lt_of_le l2 hC)) (.inr (Nat.le_trans I2.sz hC)) (fun y c e=>?_) fun p hp=>?_
 ·obtain ⟨v,hv⟩:=I2.cell y c e
  exact Nat.ne_of_lt (Nat.lt_of_lt_of_le hv.lt hC)
 ·exact Nat.ne_of_lt (Nat.lt_of_lt_of_le (Heap.lt_size (I2.pin p hp).1) hC)
theorem Ox {wi:TI}{i:Nat}{y:Str}{py spos:Pos}(hc:X.calm=true)(L:Eo X.N X.env.scope scope x1 x2 N ix)(hN:X.N.Nodup)(hy:X.N[i]?=some y)(hl:X.env.scope.names.lookup y=some .local)
  (hi:PI X (.Tuple [.Name x1 px,.Name x2 px2] kk ppos) iter wi)(hif:∀ C s H fp,PIf (Fg X scope N C s H fp) ifs tc)(he:∀ C s H fp,PE (Fg X scope N C s H fp) elt te)
  (hsw:swapsWith (.ListComp elt [⟨.Tuple [.Name x1 px,.Name x2 px2] kk ppos,iter,ifs,0⟩] scope pos) (some (.Name y py)) spos.line X.env=pure true:=by rfl)
  (hs:∀ z,foldedSetIterable iter X.env z=pure z:=by intro _;rfl):PS X (.Assign [.Name y py] (.ListComp elt [⟨.Tuple [.Name x1 px,.Name x2 px2] kk ppos,iter,ifs,0⟩] scope pos) spos) (mU (qY X.K wi ix tc te) (E7 i)):=by
 intro pins s σ H D I h
 have hfree:∀ y∈scope.names,y.2=.free->∃ c,X.env.cells.lookup y.1=some c:=fun y hy hf=>I.ok.has y.1 (.inl (L.free y hy hf))
 rw [exec_Assign_Name_used _ _ _ _ hsw]
 refine wpAny_bind (wpAny_standAt (wpAny_bind ?_))
 show wpAny _ X.A (do let _ <- comprehension (.ListComp elt [⟨.Tuple [.Name x1 px,.Name x2 px2] kk ppos,iter,ifs,0⟩] scope pos) scope X.env _ (newList []) false (eval iter X.env) (some (assign (.Name y py) X.env))) _ _ s
 refine wpAny_bind (thn (Q:=fun _ s'=>SP X pins D .next s') (wpAny_comprehension_free (use:=some (assign (.Name y py) X.env)) rfl hs (Hi hfree) L.kind L.names (thn (hi pins s σ H _ I h) fun v s1 h1=>thn h1 fun itv s2 h2=>?_)) fun _ s' hq=>wpAny_pure (wpAny_pure hq))
 obtain ⟨it,fp,tn,J,H2,e,I2,T,st2,f2,rd⟩:=h2
 subst e
 refine eB (RR:=fun acc C=>compPost (model X.prog X.w) X.A X.xe (some (assign (.Name y py) X.env)) _ acc C) rfl hc L I2 T st2 f2 (fun C s H=>hif C s H fp) (fun C s H=>he C s H fp) rd fun Da C H' s' m I' hC hf hn q=>?_
 have l2:=I2.lt
 have nC:C≠X.env.locals:=Nat.ne_of_gt (Nat.lt_of_lt_of_le l2 hC)
 have nF:C∉X.fs:=I2.nofs hC
 obtain ⟨oC,es,ep,hget,hdat,hrest⟩:=id hn
 have Ip:Inv X (pins++[(C,oC)]) σ H' s':=I'.pins_of fun p hp=>(List.mem_append.mp hp).elim (fun z=>I'.pin p (List.mem_append_right _ z)) fun z=>by
  have e:p=(C,oC):=by simpa using z
  subst e
  exact ⟨hget,hf,nC,nF,fun v z=>by rw [hdat] at z;cases z⟩
 have hg:PG X (.Name y py) (E7 i):=Bt hN hy (.inl hl) (.inr hl)
 show wpAny _ X.A (assign (.Name y py) X.env (.ref Da)) _ _ s'
 refine thn (hg _ s' σ H' (.ref Da) (.ref Da) D.nx Ip rfl q) fun _ s'' ⟨σ'',H'',I'',q''⟩=>?_
 obtain ⟨g1,g2,_⟩:=I''.pin (C,oC) (List.mem_append_right _ (List.mem_append_right _ (by simp)))
 refine ⟨m,⟨oC,es,ep,g1,hdat,hrest⟩,fun h' hsb=>⟨σ'',H'',?_,q''⟩⟩
 refine I''.unpinned.turned (t':=s''.toks) (it:=C) (fun b o hb e=>hsb.extBut b o hb e) g2 nC (.inr (Nat.le_trans I2.sz hC)) (fun y c e=>?_) fun p hp=>?_
 ·obtain ⟨v,hv⟩:=I2.cell y c e
  exact Nat.ne_of_lt (Nat.lt_of_lt_of_le hv.lt hC)
 ·exact Nat.ne_of_lt (Nat.lt_of_lt_of_le (Heap.lt_size (I2.pin p hp).1) hC)
end
theorem qJ {K:PySem.W.Frag}{tA:TA}{σ:St}{H:Hp}{R:It->Hp->Prop}(h:tA σ H fun vs H1=>∃ a b,vs=[.ref a,.ref b]/\(∃ xs,SqL K H1 a xs)/\(∃ ys,SqL K H1 b ys)/\R (Itz K a b) H1):tS K tA σ H R:=h
theorem lJ {K:PySem.W.Frag}{tA:TA}{σ:St}{H:Hp}{R:It->Hp->Prop}(h:tA σ H fun vs H1=>∃ a,vs=[.ref a]/\(∃ xs,SqL K H1 a xs)/\R (Ite K a) H1):oO K tA σ H R:=h
theorem sU {K:PySem.W.Frag}{σ:St}{H:Hp}{Q:VK}{wi:TI}{ix:List Nat}{tc:TT}{te:TE}(h:wi σ H fun J H1=>Ki K J H1 (frV σ ix) tc te Q):qY K wi ix tc te σ H Q:=h
theorem Pw {K:PySem.W.Frag}{σ:St}{H:Hp}{R:St->Hp->Prop}{a:Addr}{x y:V}{i j:Nat}(hs:SqT K H a [x,y])(h:R ((σ.set i (some x)).set j (some y)) H):cZ K 2 (Jg (E7 i) (Jg (E7 j) Zy)) (.ref a) σ H R :=
 ⟨a,[x,y],rfl,hs,rfl,x,[y],rfl,y,[],rfl,rfl,h⟩
theorem Rl {K:PySem.W.Frag}{J:It}{H1:Hp}{fr:St}{tc:TT}{te:TE}{Q:VK}(n:Nat)(f1 f2:Nat->V)(acc:Nat->List V)(h0:acc 0=[])(hz:∀ i,i<n->(acc i).length<sizeLine)
  (hgo:∀ i H,i<n->An H1 H->J.go i H)(hy:∀ i H v H',i<n->An H1 H->J.yld i H v H'->∃ a,v=.ref a/\SqT K H' a [f1 i,f2 i]/\An H H')(hst:∀ H,An H1 H->J.stop n H)
  (turn:∀ i H (R:Hp->Prop) (A:VK),i<n->An H1 H->(acc (i+1)=acc i->∀ H',An H H'->R H')->(∀ y H',acc (i+1)=acc i++[y]->An H H'->A y H') ->
   tc (some (f1 i)::some (f2 i)::fr) H fun b H3=>if b=true then te (some (f1 i)::some (f2 i)::fr) H3 A else R H3)
  (fin:∀ D H,H1 D=none->An H1 H->H D=some (.lst (acc n))->Q (.ref D) H):Ki K J H1 fr tc te Q:=by
 intro D hD
 refine ⟨fun i m H=>i<=n/\m=n-i/\An H1 H/\H D=some (.lst (acc i)),⟨n,Nat.zero_le _,rfl,Al hD,by rw [Ae,h0]⟩,?_⟩
 rintro i m H ⟨hi,rfl,sm,hl⟩
 by_cases h:i=n
 ·subst h
  exact .inl ⟨hst H sm,fin D H hD sm hl⟩
 ·have hlt:i<n:=Nat.lt_of_le_of_ne hi h
  refine .inr ⟨hgo i H hlt sm,fun v H' hyl=>?_⟩
  obtain ⟨a,rfl,ht,s2⟩:=hy i H v H' hlt sm hyl
  refine ⟨a,_,_,rfl,ht,turn i H' _ _ hlt (sm.trans s2) (fun ea H3 s3=>?_) (fun y H4 ea s4=>?_)⟩
  ·exact ⟨n-(i+1),by omega,by omega,rfl,(sm.trans s2).trans s3,by rw [ea];exact s3 _ _ (s2 _ _ hl)⟩
  ·refine ⟨acc i,s4 _ _ (s2 _ _ hl),hz i hlt,n-(i+1),by omega,by omega,rfl,fun b u e=>?_,by rw [Ae,ea]⟩
   rw [Aw (Ap e hD)]
   exact s4 _ _ (s2 _ _ (sm _ _ e))
theorem qD {K:PySem.W.Frag}{a b:Addr}{xs ys:List V}{H1:Hp}{fr:St}{tc:TT}{te:TE}{Q:VK}(ha:SqL K H1 a xs)(hb:SqL K H1 b ys)(acc:Nat->List V)(h0:acc 0=[])(hz:∀ i,i<min xs.length ys.length->(acc i).length<sizeLine)
  (turn:∀ (i:Nat) x y H (R:Hp->Prop) (A:VK),xs[i]?=some x->ys[i]?=some y->An H1 H->(acc (i+1)=acc i->∀ H',An H H'->R H')->(∀ y H',acc (i+1)=acc i++[y]->An H H'->A y H') ->
   tc (some x::some y::fr) H fun b H3=>if b=true then te (some x::some y::fr) H3 A else R H3)
  (fin:∀ D H,H1 D=none->An H1 H->H D=some (.lst (acc (min xs.length ys.length)))->Q (.ref D) H):Ki K (Itz K a b) H1 fr tc te Q:=by
 refine Rl (min xs.length ys.length) (fun i=>xs.getD i .non) (fun i=>ys.getD i .non) acc h0 hz (fun i H hi sm=>⟨xs,ys,xs[i]'(by omega),ys[i]'(by omega),sm.seq ha,sm.seq hb,by simp,by simp⟩) (fun i H v H' hi sm h=>?_)
  (fun H sm=>⟨xs,ys,sm.seq ha,sm.seq hb,rfl⟩) (fun i H R A hi sm=>turn i _ _ H R A (by simp [show i<xs.length by omega]) (by simp [show i<ys.length by omega]) sm) fin
 obtain ⟨t,x,y,hn,rfl,h1,h2,rfl⟩:=h
 have e1:=h1 xs (sm.seq ha)
 have e2:=h2 ys (sm.seq hb)
 refine ⟨t,rfl,?_,Al hn⟩
 simp only [List.getD,e1,e2,Option.getD_some]
 exact SqT.of Ae
theorem jK {K:PySem.W.Frag}{a:Addr}{xs:List V}{i1 i2:Nat}{tb:TS}{D:Kn}{σ:St}{H:Hp}(Pv:Nat->St->Hp->Prop)(h0:Pv 0 σ H)(hl:∀ i σ H,i<=xs.length->Pv i σ H->SqL K H a xs)
  (step:∀ i x σ H t,xs[i]?=some x->Pv i σ H->H t=none->tb { D with nx:=Pv (i+1),ct:=Pv (i+1),bk:=D.nx } ((σ.set i1 (some (.int i))).set i2 (some x)) (upd H t (.tup [.int i,x])))
  (fin:∀ σ H,Pv xs.length σ H->D.nx σ H):fU (Ite K a) (cZ K 2 (Jg (E7 i1) (Jg (E7 i2) Zy))) tb D σ H:=by
 refine ⟨fun i m σ H=>i<=xs.length/\m=xs.length-i/\Pv i σ H,⟨_,Nat.zero_le _,rfl,h0⟩,?_⟩
 rintro i m σ H ⟨hi,rfl,hp⟩
 by_cases h:i=xs.length
 ·exact .inl ⟨⟨xs,hl i σ H hi hp,h⟩,fin σ H (h▸hp)⟩
 ·have hlt:i<xs.length:=Nat.lt_of_le_of_ne hi h
  refine .inr ⟨⟨xs,xs[i],hl i σ H hi hp,by simp⟩,Pv (i+1),fun σ' H' q=>⟨xs.length-(i+1),by omega,hlt,rfl,q⟩,fun v H' hy=>?_⟩
  obtain ⟨t,x,hn,rfl,hx,rfl⟩:=hy
  exact Pw (SqT.of Ae) (step i x σ H t (hx xs (hl i σ H hi hp)) hp hn)
def mQ (z:Str):It :=
 ⟨fun i _=>i<z.cps.size,fun i H v H'=>∃ t c,H t=none/\v=.ref t/\z.cps[i]?=some c/\H'=upd H t (.tup [.int i,.str (sgn c)]),fun i _=>i=z.cps.size⟩
theorem Za {P:Program}{w:World}{K:PySem.W.Frag}{elts:List Expr}{k:Nat}{pos:Pos}{e it:Addr}{z:Str}{ty:String}{t:Tok}(hne:e≠it)
  (D:∀ A':Around,A'.handled=none->Draws P w A' it [it] z.cps.size (fun i v=>∃ c u,z.cps[i]?=some c/\v=.str ⟨#[c]⟩ u) (fun i h=>h.IsStrIter it ty z t i)) :
  Nw P w K (.Tuple elts k pos) (mQ z) [e,it] e (fun i h=>(∃ old,IsEnum h e it i old)/\h.IsStrIter it ty z t i) where
 mem:=by simp
 obj:=fun i h st c hc=>by
  obtain ⟨⟨old,he⟩,⟨o1,e1,c1,d1⟩⟩:=st
  simp only [List.mem_cons,List.not_mem_nil,or_false] at hc
  rcases hc with rfl | rfl
  ·exact ⟨_,he,fun v z=>by cases z⟩
  ·exact ⟨_,e1,fun v z=>by rw [d1] at z;cases z⟩
 keep:=fun i h h' st kk=>by
  obtain ⟨⟨old,he⟩,⟨o,ho,r⟩⟩:=st
  exact ⟨⟨old,kk _ (by simp) _ he⟩,⟨o,kk _ (by simp) o ho,r⟩⟩
 item:=by
  intro X hP hw hK hc i pins s σ H E I hf st hg
  subst hP hw hK
  have W:=WalksT.enumerateD (D X.A.in1 (I.ok.hd hc)) e hne (by simpa using hne) (by simp)
  refine W.item i s _ _ hg st fun T vals h' tk hv hT hTu mid kk=>?_
  obtain ⟨t1,x,⟨c,u,hc',rfl⟩,rfl⟩:=hv
  have nT:=W.apart i T h' mid
  refine ⟨.ref T,rfl,W.go elts k pos i T { s with heap:=h',toks:=tk } _ _ mid fun h'' st'' kk2=>?_⟩
  have hTu2:h''.IsTuple T ([Value.int (i:Int) t1,Value.str ⟨#[c]⟩ u]:List Value).toArray:=by
   obtain ⟨o,e,r⟩:=hTu
   exact ⟨o,kk2 T o nT e,r⟩
  have I2:Inv X pins σ (upd H T (.tup [.int i,.str (sgn c)])) { s with heap:=h'',toks:=tk }:=I.turnT (t':=tk) (fun b o hb e=>kk2 b o hb (kk b o hb e)) (fun b hb=>hf b hb) hT hTu2 (.cons ⟨t1,rfl⟩ (.cons ⟨u,rfl⟩ .nil)) (show 2<=sizeLine by decide)
  refine ⟨.ref T,_,I2,rfl,⟨T,c,I.hok.fresh hT,rfl,hc',rfl⟩,st'',fun b hb=>?_⟩
  have hlt:b<s.heap.objs.size:=by
   obtain ⟨⟨old,s1⟩,⟨o5,s5,_⟩⟩:=id st
   simp only [List.mem_cons,List.not_mem_nil,or_false] at hb
   rcases hb with rfl | rfl
   ·exact Heap.lt_size s1
   ·exact Heap.lt_size s5
  rw [Aw (Nat.ne_of_lt (Nat.lt_of_lt_of_le hlt hT))]
  exact (hf b hb).1
 done:=by
  intro X hP hw hK hc i pins s σ H E I hf st hg
  subst hP hw hK
  have W:=WalksT.enumerateD (D X.A.in1 (I.ok.hd hc)) e hne (by simpa using hne) (by simp)
  have hi:i=z.cps.size:=hg
  refine W.done s _ _ (by rw [<- hi];exact st) fun h' tk kk=>⟨rfl,?_⟩
  exact I.turnW (t':=tk) kk fun b hb=>hf b hb
 self:=fun _ _ _ _ _ st h=>wpAny_pyIter_enum (Classical.choose_spec st.1) h
section
variable {X:Cx} {elts:List Expr} {k:Nat} {tpos:Pos}
def kK (ta:TA):TI:=fun σ H R=>ta σ H fun vs H1=>∃ z,vs=[.str z]/\R (mQ z) H1
theorem jL {a:Expr}{ta:TA}{p pos:Pos}(hg:Gl X "enumerate")(hm:X.mg "enumerate"=none)(ha:PA X [a] ta)(hs:starEach [a] X.env=[(false,eval a X.env)]:=by rfl) :
  PI X (.Tuple elts k tpos) (.Call (.Name "enumerate" p) [a] [] pos) (kK ta):=by
 intro pins s σ H R I h
 refine Call_ (Ft I hg hm Ht (PyProof.Rows.callWith_type1 (thn (ha pos pins s σ H _ I h) fun us s1 ⟨vs,H1,I1,r1,q1⟩=>?_) hs rfl))
 obtain ⟨z,e,q⟩:=q1
 subst e
 obtain ⟨u,rfl,⟨t,rfl⟩⟩:=Fd r1
 refine call_enumerate_str fun h' g1 g2 hsz kk=>?_
 refine wpAny_pyIter_enum (s:={ s1 with heap:=h' }) g1 ?_
 have fin:∀ ty:String,h'.IsStrIter s1.heap.objs.size ty z t 0->(∀ A':Around,A'.handled=none->Draws X.prog X.w A' s1.heap.objs.size [s1.heap.objs.size] z.cps.size (fun i v=>∃ c u,z.cps[i]?=some c/\v=.str ⟨#[c]⟩ u) (fun i h=>h.IsStrIter s1.heap.objs.size ty z t i)) ->
   PIE X pins σ (.Tuple elts k tpos) R (.ref (s1.heap.objs.size+1)) { s1 with heap:=h' }:=fun ty g2 D=>by
  refine ⟨s1.heap.objs.size+1,[s1.heap.objs.size+1,s1.heap.objs.size],_,_,H1,rfl,I1.kept (t':=s1.toks) kk,Za (dS _) D,⟨⟨_,g1⟩,g2⟩,fun c hc=>?_,q⟩
  have hle:s1.heap.objs.size<=c:=by
   simp only [List.mem_cons,List.not_mem_nil,or_false] at hc
   exact dR hc
  exact I1.fpOk hle (I1.hok.fresh hle)
 by_cases ha:z.cps.all (· < 128)=true
 ·have e:strIterType z="str_ascii_iterator":=by unfold strIterType;rw [if_pos ha]
  exact fin _ (e▸g2) fun A' hA=>Draws.strAscii hA _ z t
 ·have e:strIterType z="str_iterator":=by unfold strIterType;rw [if_neg ha]
  exact fin _ (e▸g2) fun A' hA=>Draws.strWide hA _ z t
end
theorem gX {tA:TA}{σ:St}{H:Hp}{R:It->Hp->Prop}(h:tA σ H fun vs H1=>∃ z,vs=[.str z]/\R (mQ z) H1):kK tA σ H R:=h
theorem gP {K:PySem.W.Frag}{z:Str}{i1 i2:Nat}{tb:TS}{D:Kn}{σ:St}{H:Hp}(Pv:Nat->St->Hp->Prop)(h0:Pv 0 σ H)
  (step:∀ i c σ H t,z.cps[i]?=some c->Pv i σ H->H t=none->tb { D with nx:=Pv (i+1),ct:=Pv (i+1),bk:=D.nx } ((σ.set i1 (some (.int i))).set i2 (some (.str (sgn c)))) (upd H t (.tup [.int i,.str (sgn c)])))
  (fin:∀ σ H,Pv z.cps.size σ H->D.nx σ H):fU (mQ z) (cZ K 2 (Jg (E7 i1) (Jg (E7 i2) Zy))) tb D σ H:=by
 refine ⟨fun i m σ H=>i<=z.cps.size/\m=z.cps.size-i/\Pv i σ H,⟨_,Nat.zero_le _,rfl,h0⟩,?_⟩
 rintro i m σ H ⟨hi,rfl,hp⟩
 by_cases h:i=z.cps.size
 ·exact .inl ⟨h,fin σ H (h▸hp)⟩
 ·have hlt:i<z.cps.size:=Nat.lt_of_le_of_ne hi h
  refine .inr ⟨hlt,Pv (i+1),fun σ' H' q=>⟨z.cps.size-(i+1),by omega,hlt,rfl,q⟩,fun v H' hy=>?_⟩
  obtain ⟨t,c,hn,rfl,hx,rfl⟩:=hy
  exact Pw (SqT.of Ae) (step i c σ H t hx hp hn)
structure Mth (P:Program) (w:World) (K:PySem.W.Frag) (mg:Str->Option Value) (base:Heap) (C:Addr) (m:Str) (k:Nat) (ps:List Str) (sp:Sp):Prop where
 ex:∃ (f:Addr) (fd:FuncData),A9 P w K mg base CX0 k f fd ps sp/\Gw K fd ps []/\nO K C m f
 cl:Cls K C
structure Mkr (P:Program) (w:World) (K:PySem.W.Frag) (mg:Str->Option Value) (base:Heap) (name:Str) (C:Addr) (k:Nat) (ps:List Str) (sp:Sp):Prop where
 ex:∃ (f:Addr) (fd:FuncData),A9 P w K mg base CX0 k f fd ps sp/\Gw K fd ps []/\Mk K C f/\mg name=some (.ref C)
section
variable {X:Cx} {k:Nat} {C:Addr} {ps:List Str} {sp:Sp} {name m:Str} {p pos apos:Pos} {e o:Expr} {es:List Expr} {ta:TE} {t:TA} {pl:Sem Bool}
theorem dJ (M:Mkr X.prog X.w X.K X.mg X.base name C k ps sp)(hr:Dh (k+1) X.A)(ha:PA X (e::es) t)(hg:Gl X name:=by rfl)(hdb:(name==("__debug__":Str))=false:=by decide)
  (he:starEach (e::es) X.env=(false,eval e X.env)::starEach es X.env:=by rfl)(hpl:(backTo pos (starEach es X.env)).any (·.1)=false:=by rfl):PE X (.Call (.Name name p) (e::es) [] pos) (iV C sp [] E0 t):=by
 obtain ⟨f,fd,F,b,M,hm⟩:=M.ex
 exact nN M F hr hg hm b .nil Yh ha hdb he hpl
theorem A4 (M:Mth X.prog X.w X.K X.mg X.base C m k ps sp)(hr:Dh k X.A)(ho:PE X o ta)(ha:PA X (e::es) t)
  (hst:starEach (e::es) X.env=(false,eval e X.env)::starEach es X.env:=by rfl)(hpl:(backTo pos (starEach es X.env)).any (·.1)=false:=by rfl)
  (ht:eval (.Call (.Attribute o m apos) (e::es) [] pos) X.env=(do
   let ov <- eval o X.env
   standAt apos.atName
   let (f,first) <- holding [ov] (getMethod ov m pl)
   callWith pos f first (backTo pos (starEach (e::es) X.env)) (backToKw pos (keywordEach [] X.env))):=by rfl) :
  PE X (.Call (.Attribute o m apos) (e::es) [] pos) (X0 C m sp [] E0 ta t):=by
 obtain ⟨f,fd,F,b,hm⟩:=M.ex
 exact mO ho M.cl hm F hr b .nil Yh ha hst hpl ht
theorem Ie (M:Mth X.prog X.w X.K X.mg X.base C m k ps sp)(hr:Dh k X.A)(ho:PE X o ta)
  (ht:eval (.Call (.Attribute o m apos) [] [] pos) X.env=(do
   let ov <- eval o X.env
   standAt apos.atName
   let (f,first) <- holding [ov] (getMethod ov m pl)
   callWith pos f first (backTo pos (starEach [] X.env)) (backToKw pos (keywordEach [] X.env))):=by rfl) :
  PE X (.Call (.Attribute o m apos) [] [] pos) (X0 C m sp [] E0 ta Y2):=by
 obtain ⟨f,fd,F,b,hm⟩:=M.ex
 exact kJ ho M.cl hm F hr b .nil Yh ht
end
section
variable {σ:St} {H:Hp} {D:Kn} {Q:VK} {te ta tv:TE} {tA:TA} {K:PySem.W.Frag}
theorem tH {f:Str}(h:te σ H fun x H1=>∃ a C dx fs v,x=.ref a/\H1 a=some (.ins C dx fs)/\Cls K C/\Ch K C f/\fs.lookup f=some v/\Q v H1):rF K te f σ H Q:=h
theorem rA {f:Str}(h:tv σ H fun y H1=>ta σ H1 fun x H2=>∃ a C dx fs,x=.ref a/\H2 a=some (.ins C dx fs)/\Cls K C/\Ch K C f/\fs.length<1000/\D.nx σ (upd H2 a (.ins C dx (Cl f y fs)))):rY K ta tv f D σ H:=h
theorem Ef {a C dx:Addr}{fs:List (Str×V)}{f:Str}{R:Hp->Prop}{y:V}(h:H a=some (.ins C dx fs))(c:Cls K C)(n:Ch K C f)(l:fs.length<1000)(q:R (upd H a (.ins C dx (Cl f y fs)))) :
  ∃ a' C' dx' fs',V.ref a=.ref a'/\H a'=some (.ins C' dx' fs')/\Cls K C'/\Ch K C' f/\fs'.length<1000/\R (upd H a' (.ins C' dx' (Cl f y fs'))):=⟨a,C,dx,fs,rfl,h,c,n,l,q⟩
theorem pZ {C:Addr}{sp:Sp}{E:XK}(h:tA σ H fun vs H1=>∀ x dx,H1 x=none->H1 dx=none->dx≠x->sp (.ref x::(vs++[])) (upd (upd H1 dx (.own x)) x (.ins C dx [])) (fun v H2=>v=.non/\Q (.ref x) H2) E):iV C sp [] E tA σ H Q:=h
theorem rC {C:Addr}{m:Str}{sp:Sp}{E:XK}(h:ta σ H fun x H1=>∃ a dx fs,x=.ref a/\H1 a=some (.ins C dx fs)/\fs.lookup m=none/\tA σ H1 fun vs H2=>sp (x::(vs++[])) H2 Q E):X0 C m sp [] E ta tA σ H Q:=h
end
section
variable {X:Cx}
def cD (z:Str)(c:Nat):Nat:=z.cps.toList.count c
theorem T7 (c:Nat):∀ l:List Nat,PyProof.Rows.cnt c l=(l.count c:Nat)
 | []=>rfl
 | n::r=>by
  rw [PyProof.Rows.cnt_cons,T7 c r,List.count_cons]
  by_cases h:n=c
  ·subst h;simp;omega
  ·simp [h]
def qP:V->List V->Hp->VK->Prop:=fun x vs H Q=>∃ z c,x=.str z/\vs=[.str (sgn c)]/\Q (.int (cD z c:Nat)) H
theorem Ry:MtM X "str.count" qP:=by
 intro pins s σ H x vs v us Q I rx rv h
 obtain ⟨z,c,rfl,rfl,q⟩:=h
 obtain ⟨t,rfl⟩:=rx
 obtain ⟨u,rfl,ru⟩:=rv.one
 obtain ⟨t',rfl⟩:=ru
 have e:Txt.count z (sgn c)=(cD z c:Nat):=(PyProof.Rows.count_cnt z c).trans (T7 c _)
 refine SC.count ?_
 rw [e]
 exact ⟨.int (cD z c:Nat),H,I.tok _,⟨_,rfl⟩,q⟩
def uL (K:PySem.W.Frag):List V->Hp->VK->Prop:=fun xs H Q=>∃ (p:Addr) (ns:List Int),xs=[.ref p]/\SqL K H p (ns.map V.int)/\Q (.int ns.sum) H
theorem jP (hc:X.calm=true):Hr X (.builtin "sum") (uL X.K):=by
 intro pins s σ H xs us Q I r h
 obtain ⟨p,ns,rfl,hp,q⟩:=h
 obtain ⟨u,rfl,ru⟩:=Fd r
 cases ru
 obtain ⟨its,r,pl,_⟩:=I.list hp
 have hi:=Rc r
 obtain ⟨ys,e⟩:=hi.allInts.items
 have hl:=pl.isList
 have hs:(numsOf its).sum=ns.sum:=by rw [hi.numsOf]
 rw [e] at hl
 refine sum_intListG (I.ok.hd hc) hl fun h' tk t' hk=>?_
 refine ⟨.int ns.sum,H,I.kept hk,⟨t',?_⟩,q⟩
 rw [preSum_eq,List.take_of_length_le (by simp),<- hs]
 have e2:=nums_intItems ys
 rw [<- e] at e2
 rw [show its=its.toArray.toList from rfl,e2]
end
namespace IB
open PySem.NumText PySem.Calls
end IB
inductive Cg (K:PySem.W.Frag) (H:Hp):Nat->V->V->Prop where
 | flat {n:Nat} {x:V} (h:Eb x=true):Cg K H n x x
 | tup {n:Nat} {a b:Addr} {xs ys:List V} (h1:SqT K H a xs) (h2:SqT K H b ys) (hl:xs.length=ys.length) (h:∀ (j:Nat) (x y:V),xs[j]?=some x->ys[j]?=some y->Cg K H n x y):Cg K H (n+1) (.ref a) (.ref b)
 | lst {n:Nat} {a b:Addr} {xs ys:List V} (h1:SqL K H a xs) (h2:SqL K H b ys) (hl:xs.length=ys.length) (h:∀ (j:Nat) (x y:V),xs[j]?=some x->ys[j]?=some y->Cg K H n x y):Cg K H (n+1) (.ref a) (.ref b)
theorem lE {x:V}(h:Eb x=true):eqV x x=true:=by
 cases x<;>first | rfl | (simp [eqV];done) | cases h
theorem Cg.flats {K:PySem.W.Frag}{H:Hp}{n:Nat}{xs:List V}(h:xs.all Eb=true):∀ (j:Nat) (x y:V),xs[j]?=some x->xs[j]?=some y->Cg K H n x y:=fun j x y h1 h2=>by
 rw [h1] at h2
 cases h2
 exact .flat (List.all_eq_true.mp h x (List.mem_of_getElem? h1))
theorem Cg.tups {K:PySem.W.Frag}{H:Hp}{n:Nat}{a b:Addr}{xs:List V}(h1:SqT K H a xs)(h2:SqT K H b xs)(h:xs.all Eb=true):Cg K H (n+1) (.ref a) (.ref b):=.tup h1 h2 rfl (Cg.flats h)
theorem Cg.lsts {K:PySem.W.Frag}{H:Hp}{n:Nat}{a b:Addr}{xs:List V}(h1:SqL K H a xs)(h2:SqL K H b xs)(h:xs.all Eb=true):Cg K H (n+1) (.ref a) (.ref b):=.lst h1 h2 rfl (Cg.flats h)
theorem Dm (ns:List Int):(ns.map V.int).all Eb=true:=by simp [List.all_eq_true,Eb]
section
variable {X:Cx} {pins:List (Addr×Obj)} {σ:St} {H:Hp} {s:Shared}
theorem Jf {n:Nat}{e:Nat->Bool}(h:∀ j,e j=true):(List.range n).all e=true:=by simp [h]
mutual
theorem Cg.eqAt (I:Inv X pins σ H s):∀ {n:Nat} {x y:V} {A:Around} {u v:Value},A.units+n<cLine->Cg X.K H n x y->B1 x u->B1 y v->SeqAt.EqAt A s u v true
 | _,_,_,A,u,v,hu,.flat h,ru,rv=>by
  have:=cJ (A:=A) (s:=s) ru rv h h
  rw [lE h] at this
  exact this
 | n+1,.ref a,.ref b,A,u,v,hu,.tup (xs:=xs) (ys:=ys) h1 h2 hl h,ru,rv=>by
  cases ru;cases rv
  by_cases hab:a=b
  ·subst hab;exact SeqAt.EqAt.same _
  ·obtain ⟨is,r1,p1,_⟩:=I.tuple h1
   obtain ⟨js,r2,p2,_⟩:=I.tuple h2
   have l1:=r1.length;have l2:=r2.length
   have:=SeqAt.RcAt.tuples (A:=A) (e:=fun _=>true) p1 p2 (by omega) fun j a1 a2=>Cg.items I (by show A.units+1+n<cLine;omega) h r1 r2 j (by simpa using a1) (by simpa using a2)
   refine SeqAt.EqAt.of_refs hab ?_
   rw [Jf fun _=>rfl] at this
   simpa [<- l1,<- l2,hl] using this
 | n+1,.ref a,.ref b,A,u,v,hu,.lst (xs:=xs) (ys:=ys) h1 h2 hl h,ru,rv=>by
  cases ru;cases rv
  by_cases hab:a=b
  ·subst hab;exact SeqAt.EqAt.same _
  ·obtain ⟨is,r1,p1,_⟩:=I.list h1
   obtain ⟨js,r2,p2,_⟩:=I.list h2
   have l1:=r1.length;have l2:=r2.length
   have:=SeqAt.RcAt.lists (A:=A) (e:=fun _=>true) p1.isList p2.isList (by simp;omega) (by omega) fun j a1 a2=>Cg.items I (by show A.units+1+n<cLine;omega) h r1 r2 j (by simpa using a1) (by simpa using a2)
   refine SeqAt.EqAt.of_refs hab ?_
   rw [Jf fun _=>rfl] at this
   exact this
theorem Cg.items (I:Inv X pins σ H s){n:Nat}{A:Around}{xs ys:List V}{us vs:List Value}(hu:A.units+n<cLine)(h:∀ (j:Nat) (x y:V),xs[j]?=some x->ys[j]?=some y->Cg X.K H n x y)(r1:Bi xs us)(r2:Bi ys vs)(j:Nat)(h1:j<us.length)(h2:j<vs.length) :
  SeqAt.EqAt A s us[j] vs[j] true:=by
 have l1:=r1.length;have l2:=r2.length
 obtain ⟨x,ex⟩:∃ x,xs[j]?=some x:=⟨_,List.getElem?_eq_getElem (by omega)⟩
 obtain ⟨y,ey⟩:∃ y,ys[j]?=some y:=⟨_,List.getElem?_eq_getElem (by omega)⟩
 obtain ⟨u,eu,ru⟩:=r1.get ex
 obtain ⟨v,ev,rv⟩:=r2.get ey
 rw [List.getElem?_eq_getElem h1] at eu
 rw [List.getElem?_eq_getElem h2] at ev
 cases eu;cases ev
 exact Cg.eqAt I hu (h j x y ex ey) ru rv
end
end
def iP (K:PySem.W.Frag)(r:Bool):R2:=fun x y H Q=>∃ a b,x=.ref a/\y=.ref b/\Cg K H 60 x y/\Q (.bl r) H
section
variable {X:Cx}
theorem uX (hu:X.A.units+60<cLine):OpR X (compareOp .Eq) (iP X.K true):=by
 intro pins s σ H x y v u Q I rx ry h
 obtain ⟨a,b,rfl,rfl,hs,q⟩:=h
 cases rx;cases ry
 cases hs with
 | flat h=>cases h
 | @tup n _ _ xs ys h1 h2 hl h =>
  obtain ⟨is,r1,p1,_⟩:=I.tuple h1
  obtain ⟨js,r2,p2,_⟩:=I.tuple h2
  have l1:=r1.length;have l2:=r2.length
  have:=SeqAt.RcAt.tuples (A:=X.A) (e:=fun _=>true) p1 p2 (by omega) fun j a1 a2=>Cg.items I (by show X.A.units+1+59<cLine;omega) h r1 r2 j (by simpa using a1) (by simpa using a2)
  rw [Jf fun _=>rfl] at this
  refine this _ _ _ _ ⟨.bl true,H,I,?_,q⟩
  simp [B1,<- l1,<- l2,hl]
 | @lst n _ _ xs ys h1 h2 hl h =>
  obtain ⟨is,r1,p1,_⟩:=I.list h1
  obtain ⟨js,r2,p2,_⟩:=I.list h2
  have l1:=r1.length;have l2:=r2.length
  have:=SeqAt.RcAt.lists (A:=X.A) (e:=fun _=>true) p1.isList p2.isList (by simp;omega) (by omega) fun j a1 a2=>Cg.items I (by show X.A.units+1+59<cLine;omega) h r1 r2 j (by simpa using a1) (by simpa using a2)
  rw [Jf fun _=>rfl] at this
  exact this _ _ _ _ ⟨.bl true,H,I,rfl,q⟩
theorem Zg (hu:X.A.units+60<cLine):OpR X (compareOp .NotEq) (iP X.K false):=by
 intro pins s σ H x y v u Q I rx ry h
 obtain ⟨a,b,rfl,rfl,hs,q⟩:=h
 cases rx;cases ry
 cases hs with
 | flat h=>cases h
 | @tup n _ _ xs ys h1 h2 hl h =>
  obtain ⟨is,r1,p1,_⟩:=I.tuple h1
  obtain ⟨js,r2,p2,_⟩:=I.tuple h2
  have l1:=r1.length;have l2:=r2.length
  have:=SeqAt.RcNeAt.tuples (A:=X.A) (e:=fun _=>true) p1 p2 (by omega) fun j a1 a2=>Cg.items I (by show X.A.units+1+59<cLine;omega) h r1 r2 j (by simpa using a1) (by simpa using a2)
  rw [Jf fun _=>rfl] at this
  refine this _ _ _ _ ⟨.bl false,H,I,?_,q⟩
  simp [B1,<- l1,<- l2,hl]
 | @lst n _ _ xs ys h1 h2 hl h =>
  obtain ⟨is,r1,p1,_⟩:=I.list h1
  obtain ⟨js,r2,p2,_⟩:=I.list h2
  have l1:=r1.length;have l2:=r2.length
  have:=SeqAt.RcNeAt.lists (A:=X.A) (e:=fun _=>true) p1.isList p2.isList (by simp;omega) (by omega) fun j a1 a2=>Cg.items I (by show X.A.units+1+59<cLine;omega) h r1 r2 j (by simpa using a1) (by simpa using a2)
  rw [Jf fun _=>rfl] at this
  exact this _ _ _ _ ⟨.bl false,H,I,rfl,q⟩
end
theorem Zf {K:PySem.W.Frag}{H:Hp}{Q:VK}{a b:Addr}{r:Bool}(h:Cg K H 60 (.ref a) (.ref b))(q:Q (.bl r) H):iP K r (.ref a) (.ref b) H Q:=⟨a,b,rfl,rfl,h,q⟩
theorem Zl {A:Around}{k:Nat}(hr:Dh k A):A.units+60<cLine:=by have:=hr.units;omega
def eqL (xs ys:List V):Bool:=decide (xs.length=ys.length)&&(List.range xs.length).all fun j=>eqV (xs.getD j .non) (ys.getD j .non)
def mP (K:PySem.W.Frag)(n:Bool):R2:=fun x y H Q=>∃ a b xs ys,x=.ref a/\y=.ref b/\SqL K H a xs/\SqL K H b ys/\xs.all Eb=true/\ys.all Eb=true/\Q (.bl (n != eqL xs ys)) H
section
variable {X:Cx} {pins:List (Addr×Obj)} {σ:St} {H:Hp} {s:Shared}
theorem T9 {A:Around}{xs ys:List V}{us vs:List Value}(f1:xs.all Eb=true)(f2:ys.all Eb=true)(r1:Bi xs us)(r2:Bi ys vs)(j:Nat)(h1:j<us.length)(h2:j<vs.length) :
  SeqAt.EqAt A s us[j] vs[j] (eqV (xs.getD j .non) (ys.getD j .non)):=by
 have l1:=r1.length;have l2:=r2.length
 have e1:xs[j]?=some (xs[j]'(by omega)):=List.getElem?_eq_getElem _
 have e2:ys[j]?=some (ys[j]'(by omega)):=List.getElem?_eq_getElem _
 obtain ⟨u,eu,ru⟩:=r1.get e1
 obtain ⟨v,ev,rv⟩:=r2.get e2
 rw [List.getElem?_eq_getElem h1] at eu
 rw [List.getElem?_eq_getElem h2] at ev
 cases eu;cases ev
 simp only [List.getD,e1,e2,Option.getD_some]
 exact cJ ru rv (List.all_eq_true.mp f1 _ (List.mem_of_getElem? e1)) (List.all_eq_true.mp f2 _ (List.mem_of_getElem? e2))
end
section
variable {X:Cx}
theorem pM (hu:X.A.units+60<cLine):OpR X (compareOp .Eq) (mP X.K false):=by
 intro pins s σ H x y v u Q I rx ry h
 obtain ⟨a,b,xs,ys,rfl,rfl,h1,h2,f1,f2,q⟩:=h
 cases rx;cases ry
 obtain ⟨is,r1,p1,_⟩:=I.list h1
 obtain ⟨js,r2,p2,_⟩:=I.list h2
 have l1:=r1.length;have l2:=r2.length
 by_cases hl:xs.length=ys.length
 ·have:=SeqAt.RcAt.lists (A:=X.A) (e:=fun j=>eqV (xs.getD j .non) (ys.getD j .non)) p1.isList p2.isList (by simp;omega) (by omega) fun j a1 a2=>T9 (s:=s) f1 f2 r1 r2 j (by simpa using a1) (by simpa using a2)
  refine this _ _ _ _ ⟨.bl (false != eqL xs ys),H,I,?_,q⟩
  unfold eqL
  rw [decide_eq_true hl]
  simp [B1,<- l1]
 ·have:=SeqAt.RcAt.lists_lengths (A:=X.A) p1.isList p2.isList (by simp;omega) (by omega)
  refine this _ _ _ _ ⟨.bl (false != eqL xs ys),H,I,?_,q⟩
  unfold eqL
  rw [decide_eq_false hl]
  simp [B1]
theorem Ze (hu:X.A.units+60<cLine):OpR X (compareOp .NotEq) (mP X.K true):=by
 intro pins s σ H x y v u Q I rx ry h
 obtain ⟨a,b,xs,ys,rfl,rfl,h1,h2,f1,f2,q⟩:=h
 cases rx;cases ry
 obtain ⟨is,r1,p1,_⟩:=I.list h1
 obtain ⟨js,r2,p2,_⟩:=I.list h2
 have l1:=r1.length;have l2:=r2.length
 by_cases hl:xs.length=ys.length
 ·have:=SeqAt.RcNeAt.lists (A:=X.A) (e:=fun j=>eqV (xs.getD j .non) (ys.getD j .non)) p1.isList p2.isList (by simp;omega) (by omega) fun j a1 a2=>T9 (s:=s) f1 f2 r1 r2 j (by simpa using a1) (by simpa using a2)
  refine this _ _ _ _ ⟨.bl (true != eqL xs ys),H,I,?_,q⟩
  unfold eqL
  rw [decide_eq_true hl]
  simp [B1,<- l1]
 ·have:=SeqAt.RcNeAt.lists_lengths (A:=X.A) p1.isList p2.isList (by simp;omega) (by omega)
  refine this _ _ _ _ ⟨.bl (true != eqL xs ys),H,I,?_,q⟩
  unfold eqL
  rw [decide_eq_false hl]
  simp [B1]
end
theorem Xh (ns ms:List Int):eqL (ns.map V.int) (ms.map V.int)=decide (ns=ms):=by
 unfold eqL
 rw [List.length_map,List.length_map]
 by_cases hl:ns.length=ms.length
 ·rw [decide_eq_true hl,Bool.true_and]
  by_cases h:ns=ms
  ·subst h
   rw [decide_eq_true rfl,List.all_eq_true]
   intro j hj
   have hj:j<ns.length:=List.mem_range.mp hj
   simp [List.getD,hj,eqV]
  ·rw [decide_eq_false h]
   refine Bool.eq_false_iff.mpr fun hc=>h (List.ext_getElem hl fun j h1 h2=>?_)
   have:=List.all_eq_true.mp hc j (List.mem_range.mpr h1)
   simp [List.getD,h1,h2,eqV] at this
   exact this
 ·rw [decide_eq_false hl,Bool.false_and,decide_eq_false]
  intro e
  exact hl (by rw [e])
theorem rM {K:PySem.W.Frag}{H:Hp}{Q:VK}{a b:Addr}{ns ms:List Int}(h1:SqL K H a (ns.map V.int))(h2:SqL K H b (ms.map V.int))(q:Q (.bl (decide (ns=ms))) H):mP K false (.ref a) (.ref b) H Q:=by
 refine ⟨a,b,_,_,rfl,rfl,h1,h2,Dm _,Dm _,?_⟩
 rw [Xh]
 cases hd:decide (ns=ms)<;>(rw [hd] at q;exact q)
theorem gR {K:PySem.W.Frag}{H:Hp}{Q:VK}{a b:Addr}{ns ms:List Int}(h1:SqL K H a (ns.map V.int))(h2:SqL K H b (ms.map V.int))(q:Q (.bl (!decide (ns=ms))) H):mP K true (.ref a) (.ref b) H Q:=by
 refine ⟨a,b,_,_,rfl,rfl,h1,h2,Dm _,Dm _,?_⟩
 rw [Xh]
 cases hd:decide (ns=ms)<;>(rw [hd] at q;exact q)
section
variable {X:Cx} {tg:Expr}
def qK:V->List V->Hp->VK->Prop:=fun x vs H Q=>∃ (l:Addr) (ns:List Int) (k:Int) (j:Nat),x=.ref l/\vs=[.int k]/\H l=some (.lst (ns.map V.int))/\ns[j]?=some k/\(∀ i:Nat,i<j->ns[i]?≠some k)/\Q (.int (j:Nat)) H
theorem Yi:MtM X "list.index" qK:=by
 intro pins s σ H x vs v us Q I rx rv h
 obtain ⟨l,ns,k,j,rfl,rfl,hH,hj,hno,q⟩:=h
 cases rx
 obtain ⟨u,rfl,t,rfl⟩:=Fd rv
 obtain ⟨z,its,n,r,hl,e⟩:=I.lstM hH
 have fl:=Dm ns
 have hjl:=(List.getElem?_eq_some_iff.mp hj).1
 have hln:ns.length=its.length:=by rw [<- hl,List.length_map]
 have at':∀ i (hi:i<its.length),eqU (.int k) its[i]=decide (ns[i]?=some k):=fun i hi=>by
  have e1:(ns.map V.int)[i]?=some (.int (ns[i]'(by omega))):=by rw [List.getElem?_map,List.getElem?_eq_getElem (by omega)];rfl
  obtain ⟨u,eu,ru⟩:=r.get e1
  rw [List.getElem?_eq_getElem hi] at eu
  cases eu
  rw [U7 ru rfl,List.getElem?_eq_getElem (by omega)]
  show (ns[i]==k)=decide (some ns[i]=some k)
  by_cases h:ns[i]=k
  ·rw [decide_eq_true (congrArg some h)]
   simpa using h
  ·rw [decide_eq_false fun z=>h (Option.some.inj z)]
   simpa using h
 have sl:=N9
 refine call_meets F.slot_list_index ⟨_,e,rfl⟩ F.entry_list_index (F.args_list_index_2 _ _)
  (SeqAt.list_indexAt l its.toArray n none #[] (.int k t) (eqU (.int k)) j (by simp;omega) (by rw [List.length_map] at z;omega) ?_ ?_) ⟨e,fun y hy=>Ll (x:=.int k) (v:=.int k t) ⟨t,rfl⟩ rfl r fl y (by simpa using hy),?_⟩
 ·show eqU (.int k) its[j]=true
  rw [at' j (by omega),decide_eq_true hj]
 ·intro i hi hlt
  show eqU (.int k) its[i]=false
  rw [at' i (by simpa using hi),decide_eq_false (hno i hlt)]
 ·exact ⟨.int j,H,I.tok _,⟨_,rfl⟩,q⟩
end
section
variable {X:Cx}
theorem G6 {x:Str}{i:Int}{pos:Pos}(hg:Gl X x)(hm:∃ t,X.mg x=some (.int i t))(hd:(x==("__debug__":Str))=false:=by decide):PE X (.Name x pos) (tC (.int i)):=by
 obtain ⟨t,h⟩:=hm
 exact nZ hg h ⟨t,rfl⟩ hd
end
section
variable {σ:St} {H:Hp} {D:Kn} {Q:VK} {te:TE} {QB:Bool->Hp->Prop} {tA:TA}
theorem sL {K:PySem.W.Frag}{T:String}{r:V->List V->Hp->VK->Prop}(h:te σ H fun x H1=>tyV K T x H1/\r x [] H1 Q):tZ K T r te σ H Q:=h
end
theorem rN {A B:Prop}(h:B):if (!true)=true then A else B:=by
 rw [if_neg (by decide)]
 exact h
theorem rW {A B:Prop}(h:A):if (!false)=true then A else B:=by
 rw [if_pos (by decide)]
 exact h
def SameBut (x:Addr)(H H':Hp):Prop:=∀ b o,b≠x->H b=some o->H' b=some o
theorem An.but {H H':Hp}{x:Addr}(h:An H H'):SameBut x H H':=fun b o _ e=>h b o e
theorem SameBut.trans {H H1 H2:Hp}{x:Addr}(a:SameBut x H H1)(b:SameBut x H1 H2):SameBut x H H2:=fun c o n h=>b c o n (a c o n h)
theorem Ce {H:Hp}{x:Addr}{o:HO}:SameBut x H (upd H x o):=fun b u n e=>by rw [Aw n];exact e
theorem kF {J:It}{H1:Hp}{fr:St}{tc:TT}{te:TE}{Q:VK}(n:Nat)(item:Nat->V)(Pv:Nat->List V->Hp->Prop)(h0:∀ H,An H1 H->Pv 0 [] H)
  (stab:∀ i ys H D xs o,H D=some (.lst xs)->Pv i ys H->Pv i ys (upd H D o))(hz:∀ i ys H,i<n->Pv i ys H->ys.length<sizeLine)
  (hgo:∀ i H,i<n->An H1 H->J.go i H)(hy:∀ i H x H',i<n->An H1 H->J.yld i H x H'->x=item i/\H'=H)(hst:∀ H,An H1 H->J.stop n H)
  (turn:∀ i ys H (A:VK) (R:Hp->Prop),i<n->An H1 H->Pv i ys H->(∀ y H',An H H'->Pv (i+1) (ys++[y]) H'->A y H')->tc (some (item i)::fr) H fun b H3=>if b=true then te (some (item i)::fr) H3 A else R H3)
  (fin:∀ D ys H,H1 D=none->An H1 H->Pv n ys H->H D=some (.lst ys)->Q (.ref D) H):Vn J H1 fr tc te Q:=by
 intro D hD
 refine ⟨fun i m H=>i<=n/\m=n-i/\An H1 H/\∃ ys,H D=some (.lst ys)/\Pv i ys H,⟨n,Nat.zero_le _,rfl,Al hD,[],Ae,h0 _ (Al hD)⟩,?_⟩
 rintro i m H ⟨hi,rfl,sm,ys,hl,hp⟩
 by_cases h:i=n
 ·subst h
  exact .inl ⟨hst H sm,fin D ys H hD sm hp hl⟩
 ·have hlt:i<n:=Nat.lt_of_le_of_ne hi h
  refine .inr ⟨hgo i H hlt sm,fun x H' hyl=>?_⟩
  obtain ⟨rfl,rfl⟩:=hy i H x H' hlt sm hyl
  refine turn i ys H' _ _ hlt sm hp (fun y H4 s4 hp4=>?_)
  refine ⟨ys,s4 _ _ hl,hz i ys _ hlt hp,n-(i+1),by omega,by omega,rfl,fun b u e=>?_,ys++[y],Ae,stab _ _ _ _ _ _ (s4 _ _ hl) hp4⟩
  rw [Aw (Ap e hD)]
  exact s4 _ _ (sm _ _ e)
theorem sP:bootBuiltins "abs"=some (.builtin "abs"):=by decide +kernel
def Gh (ns:List Int)(m:Int):Prop:=m∈ns/\∀ a∈ns,m<=a
def Uy (ns:List Int)(m:Int):Prop:=m∈ns/\∀ a∈ns,a<=m
theorem Gh.uniq {ns:List Int}{a b:Int}(h:Gh ns a)(k:Gh ns b):a=b:=Int.le_antisymm (h.2 _ k.1) (k.2 _ h.1)
section
variable {X:Cx}
def sO (K:PySem.W.Frag):List V->Hp->VK->Prop:=fun xs H Q=>∃ (p:Addr) (ns:List Int),xs=[.ref p]/\SqL K H p (ns.map V.int)/\ns≠[]/\∀ m,Gh ns m->Q (.int m) H
def tN (K:PySem.W.Frag):List V->Hp->VK->Prop:=fun xs H Q=>∃ (p:Addr) (ns:List Int),xs=[.ref p]/\SqL K H p (ns.map V.int)/\ns≠[]/\∀ m,Uy ns m->Q (.int m) H
theorem U2 {pins:List (Addr×Obj)}{s:Shared}{σ:St}{H:Hp}{p:Addr}{ns:List Int}(I:Inv X pins σ H s)(hp:SqL X.K H p (ns.map V.int)):∃ ys:Array (Int×Tok),s.heap.IsList p (intItems ys)/\ns=ys.toList.map (·.1):=by
 obtain ⟨its,r,pl,_⟩:=I.list hp
 have hi:=Rc r
 obtain ⟨ys,e⟩:=hi.allInts.items
 have hl:=pl.isList
 rw [e] at hl
 exact ⟨ys,hl,by rw [<- hi.numsOf,<- nums_intItems,<- e]⟩
theorem X3 {ys:Array (Int×Tok)}{v:Value}(hz:0<ys.size)(hv:(intItems ys)[argBest (fun i j=>decide (numAt ys i<numAt ys j)) (ys.size-1)]?=some v):∃ m t,v=.int m t/\Gh (ys.toList.map (·.1)) m:=by
 obtain ⟨t,rfl⟩:=intItems_at hv
 obtain ⟨h1,h2⟩:=argBest_lt (numAt ys) (ys.size-1)
 refine ⟨_,t,rfl,?_,fun a ha=>?_⟩
 ·rw [numAt_eq]
  exact getD_mem (by rw [List.length_map,Array.length_toList];omega)
 ·obtain ⟨j,hj,rfl⟩:=mem_getD ha
  rw [List.length_map,Array.length_toList] at hj
  rw [<- numAt_eq]
  exact h2 j (by omega)
theorem nK {ys:Array (Int×Tok)}{v:Value}(hz:0<ys.size)(hv:(intItems ys)[argBest (fun i j=>decide (numAt ys i>numAt ys j)) (ys.size-1)]?=some v):∃ m t,v=.int m t/\Uy (ys.toList.map (·.1)) m:=by
 obtain ⟨t,rfl⟩:=intItems_at hv
 obtain ⟨h1,h2⟩:=argBest_gt (numAt ys) (ys.size-1)
 refine ⟨_,t,rfl,?_,fun a ha=>?_⟩
 ·rw [numAt_eq]
  exact getD_mem (by rw [List.length_map,Array.length_toList];omega)
 ·obtain ⟨j,hj,rfl⟩:=mem_getD ha
  rw [List.length_map,Array.length_toList] at hj
  rw [<- numAt_eq]
  exact h2 j (by omega)
theorem Rh {ns:List Int}{ys:Array (Int×Tok)}(e:ns=ys.toList.map (·.1))(h:ns≠[]):0<ys.size:=by
 rcases Nat.eq_zero_or_pos ys.size with z | z
 ·exfalso
  apply h
  rw [e,List.eq_nil_of_length_eq_zero (l:=ys.toList) (by rw [Array.length_toList];exact z)]
  rfl
 ·exact z
theorem fK (hc:X.calm=true):Hr X (.builtin "min") (sO X.K):=by
 intro pins s σ H xs us Q I r h
 obtain ⟨p,ns,rfl,hp,hne,q⟩:=h
 obtain ⟨u,rfl,ru⟩:=Fd r
 cases ru
 obtain ⟨ys,hl,e⟩:=U2 I hp
 have hz:=Rh e hne
 refine min_intList (I.ok.hd hc) hl hz fun v h' tk hv hk=>?_
 obtain ⟨m,t,rfl,hm⟩:=X3 hz hv
 exact ⟨.int m,H,I.kept hk,⟨t,rfl⟩,q m (e▸hm)⟩
theorem gA (hc:X.calm=true):Hr X (.builtin "max") (tN X.K):=by
 intro pins s σ H xs us Q I r h
 obtain ⟨p,ns,rfl,hp,hne,q⟩:=h
 obtain ⟨u,rfl,ru⟩:=Fd r
 cases ru
 obtain ⟨ys,hl,e⟩:=U2 I hp
 have hz:=Rh e hne
 refine max_intList (I.ok.hd hc) hl hz fun v h' tk hv hk=>?_
 obtain ⟨m,t,rfl,hm⟩:=nK hz hv
 exact ⟨.int m,H,I.kept hk,⟨t,rfl⟩,q m (e▸hm)⟩
end
section
variable {prog:Program} {w:World} {A:Around} {R:Result->Shared->Prop} {I S:Addr} {fp wr:List Addr} {n:Nat} {P:Nat->Value->Prop} {St:Nat->Heap->Prop} {d:Value}
abbrev iU (I S:Addr)(d:Value):Args:=⟨[.ref I,.none,.ref S],[(Str.ofString "default",d)]⟩
theorem Lx:(toString "min"++toString ".loop":String)="min.loop":=by decide
theorem lR (W:Walks prog w A.in1 I fp wr n P St)(bt:Nat->Nat->Bool)(hc:CmpOf prog w A.in1 .Lt P bt)(nS:S∉fp):∀ (k j:Nat) (s:Shared) (b:Value) (c:Nat),n-(j+1)=k->j+1<=n->St (j+1) s.heap->P (argBest bt j) b ->
  s.heap.get? S=some { cls:=.type "list",dict:=none,data:=.seq #[b,b] c,slots:=#[] } ->
  (∀ v h' tk,P (argBest bt (n-1)) v->(∀ a o,a∉wr->a≠S->s.heap.get? a=some o->h'.get? a=some o)->R (.ok (.ret v)) { s with heap:=h',toks:=tk })->codeAny (model prog w) A (.builtin "min.loop" (iU I S d)) R s:=by
 have nw:S∉wr:=fun h=>nS (W.sub _ h)
 intro k
 induction k with
 | zero =>
  intro j s b c hk hj st hb eS hR
  have hn:j+1=n:=by omega
  refine codeAny_builtin F.entry_min_loop ?_;rw [Around.under_plainId F.plain_min_loop _];show wpAny _ A.in1 (seqItems? (.ref S) >>= _) _ _ s
  refine wpAny_bind (wpAny_seqItems eS rfl ?_);show wpAny _ A.in1 (tryCatch (pyNext (.ref I)) _ >>= _) _ _ s
  refine wpAny_bind (wpAny_tryCatch (W.done s _ _ (hn▸st) fun h' tk kp=>?_))
  have eS':=kp S _ nw eS
  show wpAny _ A.in1 (updateSeq S (fun _=>#[]) >>= _) _ _ _;refine wpAny_bind ?_;refine wpAny_updateSeq eS' rfl (wpAny_bind (wpAny_letGo (wpAny_pure ?_)))
  exact hR b _ tk (by rw [<- hn];exact hb) fun a o aw aS e=>(Heap.get?_update_other _ _ (Ne.symm aS)).trans (kp a o aw e)
 | succ k ih =>
  intro j s b c hk hj st hb eS hR
  have hn:j+1<n:=by omega
  refine codeAny_builtin F.entry_min_loop ?_;rw [Around.under_plainId F.plain_min_loop _];show wpAny _ A.in1 (seqItems? (.ref S) >>= _) _ _ s
  refine wpAny_bind (wpAny_seqItems eS rfl ?_);show wpAny _ A.in1 (tryCatch (pyNext (.ref I)) _ >>= _) _ _ s
  refine wpAny_bind (wpAny_tryCatch (W.item (j+1) s _ _ hn st fun v h' tk hv st' kp=>?_))
  have eS':=kp S _ nw eS
  show wpAny _ A.in1 (tryCatch (holding [v,v] (richCompare .Lt v b >>= _)) _ >>= _) _ _ _
  refine wpAny_bind (wpAny_tryCatch (wpAny_holding (wpAny_bind (hc (j+1) (argBest bt j) v b _ _ _ hv hb ?_))));refine wpAny_bind (wpAny_holding (wpAny_truthy_bool ?_));refine wpAny_bind (wpAny_letGo (wpAny_pure ?_))
  cases t:bt (j+1) (argBest bt j) with
  | true =>
   simp only [if_true];refine wpAny_bind ?_;refine wpAny_updateSeq eS' rfl (wpAny_bind (wpAny_letGo ?_));rw [Lx]
   refine wpAny_pure ⟨plainId_quiet F.plain_min_loop _,ih (j+1) _ v _ (by omega) hn (W.frame _ _ _ st' fun a af o e=>?_) (by simp only [argBest,t,if_true];exact hv) (Heap.get?_update_self _ eS' rfl) fun v' h2 tk2 hv' kp2=>?_⟩
   ·exact (Heap.get?_update_other _ _ (fun z:S=a=>nS (by rw [z];exact af))).trans e
   ·exact hR v' h2 tk2 hv' fun a o aw aS e=>kp2 a o aw aS ((Heap.get?_update_other _ _ (Ne.symm aS)).trans (kp a o aw e))
  | false =>
   simp only [Bool.false_eq_true,if_false];refine wpAny_bind (wpAny_letGo ?_);rw [Lx]
   refine wpAny_pure ⟨plainId_quiet F.plain_min_loop _,ih (j+1) _ b c (by omega) hn st' (by simp only [argBest,t,Bool.false_eq_true,if_false];exact hb) eS' fun v' h2 tk2 hv' kp2=>?_⟩
   exact hR v' h2 tk2 hv' fun a o aw aS e=>kp2 a o aw aS (kp a o aw e)
theorem Zr (W:Walks prog w A.in1 I fp wr n P St)(bt:Nat->Nat->Bool)(hc:CmpOf prog w A.in1 .Lt P bt)(nS:S∉fp){s:Shared}{c:Nat}(st:St 0 s.heap)(eS:s.heap.get? S=some { cls:=.type "list",dict:=none,data:=.seq #[] c,slots:=#[] })
  (h0:n=0->∀ h' tk,(∀ a o,a∉wr->a≠S->s.heap.get? a=some o->h'.get? a=some o)->R (.ok (.ret d)) { s with heap:=h',toks:=tk })
  (hR:0<n->∀ v h' tk,P (argBest bt (n-1)) v->(∀ a o,a∉wr->a≠S->s.heap.get? a=some o->h'.get? a=some o)->R (.ok (.ret v)) { s with heap:=h',toks:=tk }):codeAny (model prog w) A (.builtin "min.loop" (iU I S d)) R s:=by
 have nw:S∉wr:=fun h=>nS (W.sub _ h)
 refine codeAny_builtin F.entry_min_loop ?_;rw [Around.under_plainId F.plain_min_loop _];show wpAny _ A.in1 (seqItems? (.ref S) >>= _) _ _ s
 refine wpAny_bind (wpAny_seqItems eS rfl ?_);show wpAny _ A.in1 (tryCatch (pyNext (.ref I)) _ >>= _) _ _ s
 rcases Nat.eq_zero_or_pos n with hn | hn
 ·refine wpAny_bind (wpAny_tryCatch (W.done s _ _ (hn▸st) fun h' tk kp=>?_))
  exact wpAny_bind (wpAny_rule (wpAny_pure (h0 hn h' tk fun a o aw _ e=>kp a o aw e)))
 ·refine wpAny_bind (wpAny_tryCatch (W.item 0 s _ _ hn st fun v h' tk hv st' kp=>?_))
  have eS':=kp S _ nw eS
  show wpAny _ A.in1 (updateSeq S (fun _=>#[v,v]) >>= _) _ _ _;refine wpAny_bind ?_;refine wpAny_updateSeq eS' rfl ?_;rw [Lx]
  refine wpAny_pure ⟨plainId_quiet F.plain_min_loop _,lR W bt hc nS _ 0 _ v _ rfl hn (W.frame _ _ _ st' fun a af o e=>?_) hv (Heap.get?_update_self _ eS' rfl) fun v' h2 tk2 hv' kp2=>?_⟩
  ·exact (Heap.get?_update_other _ _ (fun z:S=a=>nS (by rw [z];exact af))).trans e
  ·exact hR hn v' h2 tk2 hv' fun a o aw aS e=>kp2 a o aw aS ((Heap.get?_update_other _ _ (Ne.symm aS)).trans (kp a o aw e))
end
section
variable {prog:Program} {w:World} {A:Around} {E:Value->Shared->Prop} {s:Shared}
theorem gN (a v:Value):argsOk "min" ⟨[a],[(Str.ofString "default",v)]⟩:=by unfold argsOk;kernel_rfl
theorem fF (d:Value):Builtin.Builtins.bindParams "min" ["key","default"] 0 ⟨[],[(Str.ofString "default",d)]⟩=pure [none,some d]:=by kernel_rfl
theorem gL {l:Addr}{ys:Array (Int×Tok)}{d:Value}{Q:Value->Shared->Prop}(hh:A.handled=none)(hl:s.heap.IsList l (intItems ys))(h0:ys.size=0->∀ h' tk,(∀ b o,s.heap.get? b=some o->h'.get? b=some o)->Q d { s with heap:=h',toks:=tk })
  (h1:0<ys.size->∀ v h' tk,(intItems ys)[argBest (fun i j=>decide (numAt ys i<numAt ys j)) (ys.size-1)]?=some v->(∀ b o,s.heap.get? b=some o->h'.get? b=some o)->Q v { s with heap:=h',toks:=tk }) :
  wpAny (model prog w) A (call (.builtin "min") [.ref l] [(Str.ofString "default",d)]) Q E s:=by
 refine kmb_tree F.kind_min F.plain_min F.entry_min (gN _ _) ?_
 show wpAny _ A.in1 (Builtin.Builtins.bindParams "min" ["key","default"] 0 ⟨[],[(Str.ofString "default",d)]⟩ >>= _) _ _ s
 refine wpAny_bind (wpAny_of_eq (fF d) ?_)
 refine wpAny_bind (wpAny_pure ?_);refine wpAny_bind (iter_intList hl fun s₂ e st hfp hlI=>?_)
 subst e
 have hsz:(intItems ys).size=ys.size:=by simp [intItems]
 refine wpAny_bind (wpAny_newObj_type ?_)
 rw [Lx]
 refine wpAny_pure ⟨plainId_quiet F.plain_min_loop _,?_⟩
 refine Zr (Walks.list (A:=A.in1) hh _ l hlI (intItems ys)) _ (CmpOf.ints_lt (numAt ys) (fun _ _=>intItems_at)) (fun hm=>Nat.lt_irrefl _ (hfp _ hm)) ⟨st.1.at fun o e=>Heap.get?_push_of_some _ e,st.2.push _⟩ (Heap.get?_push_size _ rfl) (fun hz h' tk kp=>?_) (fun hz v h' tk hv kp=>?_)
 ·refine h0 (by rw [<- hsz];exact hz) h' tk (old_kept fun b o hb e=>kp b o hb (Nat.ne_of_lt (Heap.lt_size e)) (Heap.get?_push_of_some _ e))
 ·rw [hsz] at hz
  refine h1 hz v h' tk (by simpa [intItems] using hv) (old_kept fun b o hb e=>kp b o hb (Nat.ne_of_lt (Heap.lt_size e)) (Heap.get?_push_of_some _ e))
end
section
variable {X:Cx} {x:Str} {p pos:Pos} {e:Expr} {es:List Expr} {kws:List Keyword} {t tk:TA} {id:String} {ks:List Str}
def iY (X:Cx)(f:Value)(ks:List Str)(r:List V->List V->Hp->VK->Prop):Prop :=
 ∀ (pins:List (Addr×Obj)) (s:Shared) (σ:St) (H:Hp) (xs zs:List V) (us ws:List Value) (Q:VK),Inv X pins σ H s->Bi xs us->Bi zs ws->r xs zs H Q->wpAny (model X.prog X.w) X.A (call f us (ks.zip ws)) (EP X pins σ Q) X.xe s
def tG (r:List V->List V->Hp->VK->Prop)(t tk:TA):TE:=fun σ H Q=>t σ H fun vs H1=>tk σ H1 fun zs H2=>r vs zs H2 Q
theorem gB {r:List V->List V->Hp->VK->Prop}(hc:iY X (.builtin id) ks r)(hg:Gl X x)(hm:X.mg x=none)(hv:bootBuiltins x=some (.builtin id))(ha:PA X (e::es) t)(hkw:PK X kws tk)(hks:(backToKw pos (keywordEach kws X.env)).filterMap (·.1)=ks:=by rfl)
  (hn:x≠"__name__":=by decide)(hdb:(x==("__debug__":Str))=false:=by decide)(he:backTo pos (starEach (e::es) X.env)=(false,eval e X.env)::backTo pos (starEach es X.env):=by rfl)(hpl:(backTo pos (starEach (e::es) X.env)).any (·.1)=false:=by rfl)
  (hall:(backToKw pos (keywordEach kws X.env)).all (·.1.isSome)=true:=by rfl)(hnone:(backToKw pos (keywordEach kws X.env)).any (·.1.isNone)=false:=by rfl):PE X (.Call (.Name x p) (e::es) kws pos) (tG r t tk):=by
 intro pins s σ H Q I h
 refine wpAny_Call_Name_kw (Ft I hg hm hv ?_ hn hdb)
 refine callWith_kw (thn (ha pos pins s σ H _ I h) fun us s1 ⟨vs,H1,I1,r1,q1⟩=>?_) he hpl hall hnone
 refine thn (hkw pos pins s1 σ H1 _ I1 q1) fun ws s2 ⟨zs,H2,I2,r2,q2⟩=>?_
 rw [hks]
 exact hc pins s2 σ H2 vs zs us ws Q I2 r1 r2 q2
def rR (K:PySem.W.Frag):List V->List V->Hp->VK->Prop:=fun xs zs H Q=>∃ (p:Addr) (ns:List Int) (d:V),xs=[.ref p]/\zs=[d]/\SqL K H p (ns.map V.int)/\(ns=[]->Q d H)/\∀ m,Gh ns m->Q (.int m) H
theorem gC (hc:X.calm=true):iY X (.builtin "min") ["default"] (rR X.K):=by
 intro pins s σ H xs zs us ws Q I r r2 h
 obtain ⟨p,ns,d,rfl,rfl,hp,q0,q1⟩:=h
 obtain ⟨u,rfl,ru⟩:=Fd r
 obtain ⟨u2,rfl,ru2⟩:=Fd r2
 cases ru
 obtain ⟨ys,hl,e⟩:=U2 I hp
 refine gL (I.ok.hd hc) hl (fun hz h' tk hk=>?_) (fun hz v h' tk hv hk=>?_)
 ·refine ⟨d,H,I.kept hk,ru2,q0 ?_⟩
  rw [e,List.eq_nil_of_length_eq_zero (l:=ys.toList) (by rw [Array.length_toList];exact hz)]
  rfl
 ·obtain ⟨m,t,rfl,hm⟩:=X3 hz hv
  exact ⟨.int m,H,I.kept hk,⟨t,rfl⟩,q1 m (e▸hm)⟩
theorem sT {r:List V->List V->Hp->VK->Prop}{σ:St}{H:Hp}{Q:VK}(h:t σ H fun vs H1=>tk σ H1 fun zs H2=>r vs zs H2 Q):tG r t tk σ H Q:=h
end
theorem W0 {z:Str}{g:TG}{tb:TS}{D:Kn}{σ:St}{H:Hp}(Pv:Nat->St->Hp->Prop)(h0:Pv 0 σ H)
  (hs:∀ (i c:Nat) σ H,z.cps[i]?=some c->Pv i σ H->g (.str (sgn c)) σ H fun σ2 H2=>tb { D with nx:=Pv (i+1),ct:=Pv (i+1),bk:=D.nx } σ2 H2)(hd:∀ σ H,Pv z.cps.size σ H->D.nx σ H):fU (Its z) g tb D σ H:=by
 refine ⟨fun i m σ H=>i<=z.cps.size/\m=z.cps.size-i/\Pv i σ H,⟨_,Nat.zero_le _,rfl,h0⟩,?_⟩
 rintro i m σ H ⟨hi,rfl,hP⟩
 by_cases h:i=z.cps.size
 ·subst h
  exact .inl ⟨Nat.le_refl _,hd σ H hP⟩
 ·have hlt:i<z.cps.size:=Nat.lt_of_le_of_ne hi h
  refine .inr ⟨hlt,Pv (i+1),fun σ' H' hN=>⟨z.cps.size-(i+1),by omega,hlt,rfl,hN⟩,fun x H' hy=>?_⟩
  obtain ⟨rfl,c,hc,rfl⟩:=hy
  exact hs i c σ _ hc hP
end L2
end
section
namespace TW
def pc (n:Nat):Nat:=if n=0 then 0 else n%2+pc (n/2)
termination_by n
decreasing_by omega
end TW
end
section
namespace TW
def cnt (l:List Bool)(k:Nat):Nat:=(l.take k).count true
end TW
end
section
namespace TW
end TW
end
section
namespace TW
theorem dZ (f:Nat->Bool)(n:Nat):[n].filter f=if f n then [n] else []:=by
 cases h:f n<;>simp [List.filter,h]
def occ (b:Bool)(l:List Bool)(n:Nat):List Nat:=(List.range n).filter fun i=>l.getD i false==b
theorem Jc (b:Bool)(l:List Bool)(n:Nat):occ b l (n+1)=occ b l n++if l.getD n false==b then [n] else []:=by
 unfold occ
 rw [List.range_succ,List.filter_append,dZ]
theorem eY (b:Bool)(l:List Bool)(n:Nat):∀ d:Nat,occ b l (n+d)=occ b l n++((List.range d).filter fun p=>l.getD (n+p) false==b).map (n + ·)
 | 0=>by simp
 | d+1=>by
  rw [show n+(d+1)=n+d+1 by omega,Jc,eY b l n d,List.range_succ,List.filter_append,List.map_append,List.append_assoc,dZ]
  congr 2
  cases l.getD (n+d) false==b<;>rfl
theorem nU {b:Bool}{l:List Bool}{n m i:Nat}(h:n<=m)(hi:i<(occ b l n).length):(occ b l m)[i]?=(occ b l n)[i]?:=by
 obtain ⟨d,rfl⟩:=Nat.le.dest h
 rw [eY,List.getElem?_append_left hi]
theorem Py (l:List Bool):∀ n:Nat,(occ true l n).length=cnt l n/\(occ false l n).length+cnt l n=n
 | 0=>by simp [occ,cnt]
 | n+1=>by
  obtain ⟨h1,h2⟩:=Py l n
  have e:cnt l (n+1)=cnt l n+(l.getD n false).toNat:=by
   unfold cnt
   rw [List.take_add_one,List.count_append,List.getD_eq_getElem?_getD]
   cases hx:l[n]? with
   | none=>simp
   | some b=>cases b<;>simp
  rw [Jc,Jc,e]
  cases l.getD n false<;>simp<;>omega
end TW
end
section
namespace TW
end TW
end
section
namespace TW
def dAt (ds:List Nat)(k:Nat):Nat:=ds.getD k 0
def opn (ds:List Nat):Nat->Nat
 | 0=>0
 | k+1=>dAt ds k+1
def way (ds:List Nat):Nat->List Int
 | 0=>[-1]
 | k+1=>(way ds k).take (dAt ds k+1)++[(k:Int)]
def Dok (ds:List Nat):Prop:=∀ k,k<ds.length->dAt ds k<=opn ds k
def eld (ds:List Nat)(k:Nat):Int:=(way ds k).getD (dAt ds k) 0
def A0 (ds:List Nat):List Int:=(List.range ds.length).map (eld ds)
theorem Cj {ds:List Nat}(h:Dok ds):∀ k,k<=ds.length->(way ds k).length=opn ds k+1
 | 0,_=>rfl
 | k+1,hk=>by
  show ((way ds k).take (dAt ds k+1)++[(k:Int)]).length=dAt ds k+1+1
  have:=Cj h k (by omega)
  have:=h k (by omega)
  rw [List.length_append,List.length_take]
  simp only [List.length_cons,List.length_nil]
  omega
theorem Ci {ds:List Nat}(h:Dok ds):∀ k,k<=ds.length->(way ds k)[0]?=some (-1)
 | 0,_=>rfl
 | k+1,hk=>by
  show ((way ds k).take (dAt ds k+1)++[(k:Int)])[0]?=some (-1)
  have e:=Ci h k (by omega)
  have hl:=Cj h k (by omega)
  rw [List.getElem?_append_left (by rw [List.length_take];omega),List.getElem?_take_of_lt (by omega)]
  exact e
theorem Ow {ds:List Nat}(h:Dok ds):∀ (k j:Nat) (x:Int),k<=ds.length->(way ds k)[j+1]?=some x->∃ v:Nat,x=(v:Int)/\v<k/\dAt ds v=j
 | 0,j,x,_,e=>by cases e
 | k+1,j,x,hk,e=>by
  have e:((way ds k).take (dAt ds k+1)++[(k:Int)])[j+1]?=some x:=e
  have hl:=Cj h k (by omega)
  have hd:=h k (by omega)
  have hl2:((way ds k).take (dAt ds k+1)).length=dAt ds k+1:=by rw [List.length_take];omega
  by_cases hj:j+1<dAt ds k+1
  ·rw [List.getElem?_append_left (by omega),List.getElem?_take_of_lt hj] at e
   obtain ⟨v,hv,hlt,hdv⟩:=Ow h k j x (by omega) e
   exact ⟨v,hv,by omega,hdv⟩
  ·rw [List.getElem?_append_right (by omega),hl2] at e
   have e0:j+1-(dAt ds k+1)=0:=by
    have:=(List.getElem?_eq_some_iff.mp e).1
    simp only [List.length_cons,List.length_nil] at this
    omega
   rw [e0] at e
   have e:=Option.some.inj e
   exact ⟨k,e.symm,by omega,by omega⟩
theorem Ro {ds:List Nat}(h:Dok ds):∀ (k i j:Nat) (x y:Int),k<=ds.length->i<j->(way ds k)[i]?=some x->(way ds k)[j]?=some y->x<y
 | 0,i,j,x,y,_,hij,e1,e2=>by
  have:=(List.getElem?_eq_some_iff.mp e2).1
  simp only [way,List.length_cons,List.length_nil] at this
  omega
 | k+1,i,j,x,y,hk,hij,e1,e2=>by
  have hl:=Cj h k (by omega)
  have hd:=h k (by omega)
  have hl2:((way ds k).take (dAt ds k+1)).length=dAt ds k+1:=by rw [List.length_take];omega
  have e2':((way ds k).take (dAt ds k+1)++[(k:Int)])[j]?=some y:=e2
  have e1':((way ds k).take (dAt ds k+1)++[(k:Int)])[i]?=some x:=e1
  by_cases hj:j<dAt ds k+1
  ·rw [List.getElem?_append_left (by omega),List.getElem?_take_of_lt hj] at e2'
   rw [List.getElem?_append_left (by omega),List.getElem?_take_of_lt (by omega)] at e1'
   exact Ro h k i j x y (by omega) hij e1' e2'
  ·rw [List.getElem?_append_right (by omega),hl2] at e2'
   have e0:j-(dAt ds k+1)=0:=by
    have:=(List.getElem?_eq_some_iff.mp e2').1
    simp only [List.length_cons,List.length_nil] at this
    omega
   rw [e0] at e2'
   have ey:=Option.some.inj e2'
   rw [List.getElem?_append_left (by omega),List.getElem?_take_of_lt (by omega)] at e1'
   cases i with
   | zero =>
    rw [Ci h k (by omega)] at e1'
    have:=Option.some.inj e1'
    omega
   | succ i =>
    obtain ⟨v,hv,hlt,_⟩:=Ow h k i x (by omega) e1'
    omega
theorem E3 {ds:List Nat}(h:Dok ds){k:Nat}(hk:k<ds.length):(way ds k)[dAt ds k]?=some (eld ds k):=by
 have hl:=Cj h k (by omega)
 have hd:=h k hk
 unfold eld List.getD
 rw [List.getElem?_eq_getElem (by omega)]
 rfl
theorem Jr {ds:List Nat}(h:Dok ds){k:Nat}(hk:k<ds.length)(e:eld ds k=-1):dAt ds k=0:=by
 have ha:=E3 h hk
 cases hd:dAt ds k with
 | zero=>rfl
 | succ j =>
  rw [hd] at ha
  obtain ⟨v,hv,_⟩:=Ow h k j _ (by omega) ha
  omega
theorem En {ds:List Nat}(h:Dok ds){k:Nat}(hk:k<ds.length)(e:eld ds k≠-1):∃ v:Nat,eld ds k=(v:Int)/\v<k/\dAt ds k=dAt ds v+1:=by
 have ha:=E3 h hk
 cases hd:dAt ds k with
 | zero =>
  rw [hd,Ci h k (by omega)] at ha
  exact absurd (Option.some.inj ha).symm e
 | succ j =>
  rw [hd] at ha
  obtain ⟨v,hv,hlt,hdv⟩:=Ow h k j _ (by omega) ha
  exact ⟨v,hv,hlt,by omega⟩
theorem cL {ds:List Nat}(h:Dok ds){k:Nat}(hk:k<ds.length):-1<=eld ds k:=by
 by_cases e:eld ds k=-1
 ·omega
 ·obtain ⟨v,hv,_⟩:=En h hk e
  omega
theorem Au (ds:List Nat):(A0 ds).length=ds.length:=by unfold A0;rw [List.length_map,List.length_range]
theorem Cp {ds:List Nat}{k:Nat}(hk:k<ds.length):(A0 ds)[k]?=some (eld ds k):=by
 unfold A0
 rw [List.getElem?_map,List.getElem?_range hk]
 rfl
def Bv (ds:List Nat)(k:Nat):List Bool:=List.replicate (opn ds k-dAt ds k) false++[true]
def Km (ds:List Nat)(k:Nat):List Bool:=((List.range k).map (Bv ds)).flatten
def A5 (ds:List Nat):List Bool:=Km ds ds.length++List.replicate (opn ds ds.length) false
theorem Iu (ds:List Nat)(k:Nat):Km ds (k+1)=Km ds k++Bv ds k:=by
 unfold Km
 rw [List.range_succ,List.map_append,List.flatten_append]
 simp
theorem Mw {ds:List Nat}(h:Dok ds):∀ k,k<=ds.length->(Km ds k).length+opn ds k=2*k
 | 0,_=>rfl
 | k+1,hk=>by
  have:=Mw h k (by omega)
  have:=h k (by omega)
  rw [Iu,List.length_append]
  show (Km ds k).length+(List.replicate (opn ds k-dAt ds k) false++[true]).length+(dAt ds k+1)=2*(k+1)
  rw [List.length_append,List.length_replicate]
  simp only [List.length_cons,List.length_nil]
  omega
theorem Bp {ds:List Nat}(h:Dok ds):(A5 ds).length=2*ds.length:=by
 unfold A5
 rw [List.length_append,List.length_replicate]
 exact Mw h _ (Nat.le_refl _)
def Vs:Nat->List Bool->Prop
 | h,[]=>h=0
 | h,false::s=>0<h/\Vs (h-1) s
 | h,true::s=>Vs (h+1) s
theorem Sf:∀ (m h:Nat) (s:List Bool),Vs h s->Vs (h+m) (List.replicate m false++s)
 | 0,h,s,v=>v
 | m+1,h,s,v=>by
  rw [List.replicate_succ]
  refine ⟨by omega,?_⟩
  show Vs (h+(m+1)-1) (List.replicate m false++s)
  rw [show h+(m+1)-1=h+m by omega]
  exact Sf m h s v
theorem eE {ds:List Nat}(h:Dok ds):∀ (m k:Nat),k+m=ds.length->Vs (opn ds k) (((List.range m).map fun i=>Bv ds (k+i)).flatten++List.replicate (opn ds ds.length) false)
 | 0,k,e=>by
  have e:k=ds.length:=by omega
  subst e
  have:=Sf (opn ds ds.length) 0 [] rfl
  rw [Nat.zero_add,List.append_nil] at this
  exact this
 | m+1,k,e=>by
  have ih:=eE h m (k+1) (by omega)
  have hd:=h k (by omega)
  rw [List.range_succ_eq_map,List.map_cons,List.map_map,List.flatten_cons]
  have e1:((fun i=>Bv ds (k+i)) ∘ Nat.succ)=fun i=>Bv ds (k+1+i):=by
   funext i
   show Bv ds (k+(i+1))=Bv ds (k+1+i)
   rw [show k+(i+1)=k+1+i by omega]
  rw [e1]
  show Vs (opn ds k) ((List.replicate (opn ds k-dAt ds (k+0)) false++[true]++_)++_)
  rw [Nat.add_zero,List.append_assoc,List.append_assoc]
  have:=Sf (opn ds k-dAt ds k) (dAt ds k) (true::(((List.range m).map fun i=>Bv ds (k+1+i)).flatten++List.replicate (opn ds ds.length) false)) ih
  rw [show dAt ds k+(opn ds k-dAt ds k)=opn ds k by omega] at this
  exact this
theorem iO {ds:List Nat}(h:Dok ds):Vs 0 (A5 ds):=by
 have:=eE h ds.length 0 (by omega)
 unfold A5 Km
 have e:(fun i=>Bv ds (0+i))=Bv ds:=by funext i;rw [Nat.zero_add]
 rw [e] at this
 exact this
theorem Ru:∀ (m n:Nat) (s t:List Bool),List.replicate m false++true::s=List.replicate n false++true::t->m=n/\s=t
 | 0,0,s,t,e=>⟨rfl,by simpa using e⟩
 | 0,n+1,s,t,e=>by rw [List.replicate_succ] at e;cases e
 | m+1,0,s,t,e=>by rw [List.replicate_succ] at e;cases e
 | m+1,n+1,s,t,e=>by
  rw [List.replicate_succ,List.replicate_succ] at e
  obtain ⟨a,b⟩:=Ru m n s t (List.cons.inj e).2
  exact ⟨by omega,b⟩
theorem Xc {ds es:List Nat}(h1:Dok ds)(h2:Dok es)(hl:ds.length=es.length):∀ (m k:Nat),k+m=ds.length->opn ds k=opn es k ->
  ((List.range m).map fun i=>Bv ds (k+i)).flatten++List.replicate (opn ds ds.length) false=((List.range m).map fun i=>Bv es (k+i)).flatten++List.replicate (opn es es.length) false->∀ i,k<=i->i<ds.length->dAt ds i=dAt es i
 | 0,k,e,_,_=>fun i a b=>by omega
 | m+1,k,e,ho,hr=>fun i a b=>by
  have f:∀ xs:List Nat,((List.range (m+1)).map fun i=>Bv xs (k+i)).flatten=List.replicate (opn xs k-dAt xs k) false++true::((List.range m).map fun i=>Bv xs (k+1+i)).flatten:=fun xs=>by
   rw [List.range_succ_eq_map,List.map_cons,List.map_map,List.flatten_cons]
   have e1:((fun i=>Bv xs (k+i)) ∘ Nat.succ)=fun i=>Bv xs (k+1+i):=by
    funext i
    show Bv xs (k+(i+1))=Bv xs (k+1+i)
    rw [show k+(i+1)=k+1+i by omega]
   rw [e1]
   show (List.replicate (opn xs k-dAt xs (k+0)) false++[true])++_=_
   rw [Nat.add_zero,List.append_assoc]
   rfl
  rw [f,f,List.append_assoc,List.append_assoc,List.cons_append,List.cons_append] at hr
  obtain ⟨e1,e2⟩:=Ru _ _ _ _ hr
  have d1:=h1 k (by omega)
  have d2:=h2 k (by omega)
  have hk:dAt ds k=dAt es k:=by omega
  by_cases hi:i=k
  ·rw [hi];exact hk
  ·exact Xc h1 h2 hl m (k+1) (by omega) (by show dAt ds k+1=dAt es k+1;omega) e2 i (by omega) b
theorem iK {ds es:List Nat}(h1:Dok ds)(h2:Dok es)(e:A5 ds=A5 es):ds=es:=by
 have hl:ds.length=es.length:=by
  have a:=Bp h1
  have b:=Bp h2
  rw [e] at a
  omega
 have z:∀ xs:List Nat,A5 xs=((List.range xs.length).map fun i=>Bv xs (0+i)).flatten++List.replicate (opn xs xs.length) false:=fun xs=>by
  unfold A5 Km
  have e:(fun i=>Bv xs (0+i))=Bv xs:=by funext i;rw [Nat.zero_add]
  rw [e]
 have key:=Xc h1 h2 hl ds.length 0 (by omega) rfl (by rw [<- z,e,z,hl])
 refine List.ext_getElem hl fun k a b=>?_
 have:=key k (by omega) a
 unfold dAt at this
 simpa [List.getD,a,b] using this
end TW
end
section
namespace TW
def Hm (A B:List Nat)(off:Nat):List Nat:=A++B.map (·+off)
theorem Jj (A B:List Nat)(off:Nat):(Hm A B off).length=A.length+B.length:=by unfold Hm;rw [List.length_append,List.length_map]
theorem M2 {A B:List Nat}{off k:Nat}(h:k<A.length):dAt (Hm A B off) k=dAt A k:=by
 unfold Hm dAt List.getD
 rw [List.getElem?_append_left h]
theorem Le {A B:List Nat}{off k:Nat}(h:k<B.length):dAt (Hm A B off) (A.length+k)=dAt B k+off:=by
 unfold Hm dAt List.getD
 rw [List.getElem?_append_right (by omega),Nat.add_sub_cancel_left,List.getElem?_map,List.getElem?_eq_getElem h]
 rfl
theorem Xd {A B:List Nat}{off:Nat}:∀ k,k<=A.length->opn (Hm A B off) k=opn A k
 | 0,_=>rfl
 | k+1,h=>by
  show dAt (Hm A B off) k+1=dAt A k+1
  rw [M2 (by omega)]
theorem M4 {A B:List Nat}{off:Nat}:∀ k,k<=A.length->way (Hm A B off) k=way A k
 | 0,_=>rfl
 | k+1,h=>by
  show (way (Hm A B off) k).take (dAt (Hm A B off) k+1)++[(k:Int)]=_
  rw [M4 k (by omega),M2 (by omega)]
  rfl
theorem Lg {B:List Nat}(hB:Dok B)(h:0<B.length):dAt B 0=0:=by
 have:=hB 0 h
 have e:opn B 0=0:=rfl
 omega
theorem eZ {A B:List Nat}{off:Nat}(hA:Dok A)(hB:Dok B)(ho:off<=opn A A.length):Dok (Hm A B off):=fun k hk=>by
 rw [Jj] at hk
 by_cases h:k<A.length
 ·rw [M2 h,Xd k (by omega)]
  exact hA k h
 ·obtain ⟨j,rfl⟩:∃ j,k=A.length+j:=⟨k-A.length,by omega⟩
  rw [Le (by omega)]
  cases j with
  | zero =>
   rw [Nat.add_zero,Xd _ (Nat.le_refl _),Lg hB (by omega)]
   omega
  | succ j =>
   have:=hB (j+1) (by omega)
   have e:opn B (j+1)=dAt B j+1:=rfl
   show _<=dAt (Hm A B off) (A.length+j)+1
   rw [Le (by omega)]
   omega
theorem nE {B:List Nat}(hB:Dok B){k:Nat}(h:k<=B.length):way B k=-1::(way B k).tail:=by
 have e:=Ci hB k h
 cases hw:way B k with
 | nil=>rw [hw] at e;cases e
 | cons x r =>
  rw [hw] at e
  obtain rfl:=Option.some.inj e
  rfl
theorem Tp {A B:List Nat}{off:Nat}(hA:Dok A)(hB:Dok B)(ho:off<=opn A A.length):∀ k,k<B.length->way (Hm A B off) (A.length+(k+1))=(way A A.length).take (off+1)++(way B (k+1)).tail.map (·+(A.length:Int))
 | 0,h=>by
  show (way (Hm A B off) A.length).take (dAt (Hm A B off) (A.length+0)+1)++[(A.length:Int)]=_
  rw [M4 _ (Nat.le_refl _),Le h,Lg hB h,Nat.zero_add]
  congr 1
  show _=((way B 0).take (dAt B 0+1)++[((0:Nat):Int)]).tail.map _
  rw [Lg hB h]
  show [(A.length:Int)]=[(0:Int)+(A.length:Int)]
  rw [Int.zero_add]
 | k+1,h=>by
  show (way (Hm A B off) (A.length+(k+1))).take (dAt (Hm A B off) (A.length+(k+1))+1)++[((A.length+(k+1):Nat):Int)]=_
  rw [Tp hA hB ho k (by omega),Le h]
  have hl:=Cj hA A.length (Nat.le_refl _)
  have hw:((way A A.length).take (off+1)).length=off+1:=by rw [List.length_take];omega
  rw [List.take_append,hw,List.take_of_length_le (by omega),List.append_assoc]
  congr 1
  have e:(way B (k+1+1)).tail=(way B (k+1)).tail.take (dAt B (k+1))++[((k+1:Nat):Int)]:=by
   show ((way B (k+1)).take (dAt B (k+1)+1)++[((k+1:Nat):Int)]).tail=_
   rw [nE hB (k:=k+1) (by omega)]
   rfl
  rw [e,List.map_append,List.map_take,show dAt B (k+1)+off+1-(off+1)=dAt B (k+1) by omega]
  congr 1
  show [((A.length+(k+1):Nat):Int)]=[((k+1:Nat):Int)+(A.length:Int)]
  congr 1
  omega
theorem lF {A B:List Nat}{off:Nat}(hA:Dok A)(hB:Dok B)(ho:off<=opn A A.length){k:Nat}(hk:k<B.length){top:Int}(ht:(way A A.length)[off]?=some top) :
  eld (Hm A B off) (A.length+k)=if eld B k<0 then top else eld B k+(A.length:Int):=by
 have hC:=eZ hA hB ho
 have h1:=E3 hC (k:=A.length+k) (by rw [Jj];omega)
 rw [Le hk] at h1
 have h2:=E3 hB hk
 have hl:=Cj hA A.length (Nat.le_refl _)
 have hw:((way A A.length).take (off+1)).length=off+1:=by rw [List.length_take];omega
 cases k with
 | zero =>
  rw [Nat.add_zero,M4 _ (Nat.le_refl _),Lg hB hk,Nat.zero_add,ht] at h1
  rw [Lg hB hk,Ci hB 0 (by omega)] at h2
  have e2:=Option.some.inj h2
  rw [if_pos (by omega)]
  exact (Option.some.inj h1).symm
 | succ k =>
  rw [Tp hA hB ho k (by omega)] at h1
  cases hd:dAt B (k+1) with
  | zero =>
   rw [hd,Nat.zero_add,List.getElem?_append_left (by omega),List.getElem?_take_of_lt (by omega),ht] at h1
   rw [hd,Ci hB _ (by omega)] at h2
   have e2:=Option.some.inj h2
   rw [if_pos (by omega)]
   exact (Option.some.inj h1).symm
  | succ d =>
   rw [hd,List.getElem?_append_right (by omega),hw,List.getElem?_map,List.getElem?_tail,show d+1+off-(off+1)+1=d+1 by omega] at h1
   rw [hd] at h2
   rw [h2] at h1
   obtain ⟨v,hv,_⟩:=Ow hB (k+1) d _ (by omega) h2
   rw [if_neg (by omega)]
   exact (Option.some.inj h1).symm
theorem T0 {A B:List Nat}{off:Nat}(hA:Dok A)(hB:Dok B)(ho:off<=opn A A.length){top:Int}(ht:(way A A.length)[off]?=some top) :
  A0 (Hm A B off)=A0 A++(A0 B).map fun e=>if e<0 then top else e+(A.length:Int):=by
 refine List.ext_getElem? fun k=>?_
 by_cases h:k<A.length
 ·rw [Cp (by rw [Jj];omega),List.getElem?_append_left (by rw [Au];exact h),Cp h]
  unfold eld
  rw [M4 k (by omega),M2 h]
 ·by_cases h2:k<A.length+B.length
  ·obtain ⟨j,rfl⟩:∃ j,k=A.length+j:=⟨k-A.length,by omega⟩
   rw [Cp (by rw [Jj];omega),List.getElem?_append_right (by rw [Au];omega),Au,Nat.add_sub_cancel_left,List.getElem?_map,Cp (by omega)]
   show some _=some _
   rw [lF hA hB ho (by omega) ht]
  ·rw [List.getElem?_eq_none (by rw [Au,Jj];omega),List.getElem?_eq_none (by rw [List.length_append,List.length_map,Au,Au];omega)]
theorem gQ {A:List Nat}(hA:Dok A)(h:0<A.length):(way A A.length)[opn A A.length]?=some ((A.length:Int)-1):=by
 obtain ⟨n,hn⟩:∃ n,A.length=n+1:=⟨A.length-1,by omega⟩
 have hl:=Cj hA n (by omega)
 have hd:=hA n (by omega)
 rw [hn]
 show ((way A n).take (dAt A n+1)++[(n:Int)])[dAt A n+1]?=_
 rw [List.getElem?_append_right (by rw [List.length_take];omega),List.length_take,Nat.min_eq_left (by omega),Nat.sub_self]
 show some (n:Int)=some (((n+1:Nat):Int)-1)
 congr 1
 omega
end TW
end
section
namespace L2
open PySem PySem.Spec PyProof.Rows
theorem eK (K:PySem.W.Frag){X:Cx}(h:X.K=K:=by rfl):IxR X (pW K):=by
 subst h
 exact Wt
theorem Di (K:PySem.W.Frag){X:Cx}(h:X.K=K:=by rfl):IxR X (qA K):=by
 subst h
 exact A8
open PySem.W Builtin.Getset_descriptor
section
variable {X:Cx}
def lS:V->List V->Hp->VK->Prop:=fun x vs H Q=>∃ (l:Addr) (xs:List V) (y:V),x=.ref l/\vs=[y]/\H l=some (.lst xs)/\xs.all Eb=true/\Eb y=true/\Q (.int (xs.countP (fun z=>eqV z y):Nat)) H
theorem S3 {y:V}:∀ {xs:List V} {us:List Value},Bi xs us->xs.all Eb=true->us.countP (eqU y)=xs.countP fun z=>eqV z y
 | _,_,.nil,_=>rfl
 | x::xs,u::us,.cons r t,f=>by
  rw [List.all_cons,Bool.and_eq_true] at f
  rw [List.countP_cons,List.countP_cons,S3 t f.2,U7 r f.1]
theorem Ue:MtM X "list.count" lS:=by
 intro pins s σ H x vs v us Q I rx rv h
 obtain ⟨l,xs,y,rfl,rfl,hH,hf,hy,q⟩:=h
 cases rx
 obtain ⟨u,rfl,ru⟩:=Fd rv
 obtain ⟨z,its,n,r,hl,e⟩:=I.lstM hH
 refine call_meets F.slot_list_count ⟨_,e,rfl⟩ F.entry_list_count (F.args_list_count_2 _ _) (SeqAt.list_countAt l its.toArray n none #[] u (eqU y)) ⟨e,fun w hw=>Ll ru hy r hf w (by simpa using hw),?_⟩
 rw [show its.toArray.toList=its from rfl,S3 r hf]
 exact ⟨.int _,H,I.tok _,⟨_,rfl⟩,q⟩
end
abbrev uZ (vs:Array Value):Obj:={ cls:=.type "zip",dict:=none,data:=.fields vs,slots:=#[] }
abbrev Nh (h:Heap)(z TI TO T:Addr)(c:Bool):Prop:=h.get? z=some (uZ #[rawInt T,.bool c,.bool false,.ref TI,.ref TO])
section
variable {prog:Program} {w:World} {A:Around} {E:Value->Shared->Prop} {s:Shared}
theorem kZ {a:Addr}{Q:Option Obj->Shared->Prop}(h:Q (s.heap.get? a) s):wpAny (model prog w) A (loadIfAlive a) Q E s:=fun Γ p hΓ=>by
 show Sem.wp _ _ (.loadIfAlive a _) _ _ _ _
 rw [Sem.wp_loadIfAlive]
 exact h
theorem Uj {z TI TO T:Addr}{c:Bool}{oT:Obj}{Q:Bool->Shared->Prop}(hz:Nh s.heap z TI TO T c)(hT:s.heap.get? T=some oT)(q:∀ h',Nh h' z TI TO T true->Heap.SameBut z s.heap h'->Q false { s with heap:=h' }) :
  wpAny (model prog w) A (Builtin.SmallTypes.ownedTupleIsFree (.ref z)) Q E s:=by
 unfold Builtin.SmallTypes.ownedTupleIsFree
 refine wpAny_bind (wpAny_field hz rfl (x:=rawInt T) rfl ?_)
 show wpAny _ _ (loadIfAlive (Int.toNat (T:Int)) >>= _) _ _ _
 refine wpAny_bind (kZ ?_)
 rw [Int.toNat_natCast,hT]
 show wpAny _ _ (field (.ref z) 1 >>= _) _ _ _
 refine wpAny_bind (wpAny_field hz rfl (x:=.bool c) rfl ?_)
 cases c with
 | true =>
  exact wpAny_pure (q s.heap hz (Heap.SameBut.refl _ _))
 | false =>
  refine wpAny_bind (wpAny_setField_rec hz (by simp) fun h₁ hz₁ hs₁=>?_)
  exact wpAny_pure (q h₁ hz₁ hs₁)
theorem gH {z TI TO T i1 i2 l1 l2:Addr}{k1 k2:Nat}{xs ys:Array Value}{x y:Value}{c:Bool}{oT:Obj}{Q:Value->Shared->Prop}(D:ZipApart z TI TO i1 i2 l1 l2)
  (hz:Nh s.heap z TI TO T c)(hT:s.heap.get? T=some oT)(hTI:IsPair s.heap TI (.ref i1) (.ref i2))(h1:s.heap.IsListIter i1 l1 k1)(h2:s.heap.IsListIter i2 l2 k2)(hl1:s.heap.IsList l1 xs)(hl2:s.heap.IsList l2 ys)(hx:xs[k1]?=some x)(hy:ys[k2]?=some y)
  (hQ:∀ h',Nh h' z TI TO T true->h'.IsListIter i1 l1 (k1+1)->h'.IsListIter i2 l2 (k2+1)->IsPair h' s.heap.objs.size x y->h'.objs.size=s.heap.objs.size+1->(∀ b o,b≠z->b≠i1->b≠i2->s.heap.get? b=some o->h'.get? b=some o)->Q (.ref s.heap.objs.size) { s with heap:=h' }) :
  wpAny (model prog w) A (Builtin.«zip.__next__» ⟨[.ref z],[]⟩) (fun fin s'=>∃ v,fin=.done (.ret v)/\Q v s') E s:=by
 show wpAny _ _ (field (.ref z) 2 >>= _) _ _ _
 refine wpAny_bind (wpAny_field hz rfl (x:=.bool false) rfl ?_)
 show wpAny _ _ (field (.ref z) 3 >>= _) _ _ _
 refine wpAny_bind (wpAny_field hz rfl (x:=.ref TI) rfl ?_)
 refine wpAny_bind (wpAny_seqItems hTI rfl ?_)
 show wpAny _ _ (Builtin.SmallTypes.ownedTupleIsFree (.ref z) >>= _) _ _ _
 refine wpAny_bind (Uj hz hT fun h₁ hz₁ hs₁=>?_)
 rw [if_neg (by decide)]
 refine wpAny_bind ?_
 rw [<- Array.forIn_toList]
 simp only [List.forIn_cons,List.forIn_nil]
 refine wpAny_bind (wpAny_bind (wpAny_holding ?_))
 show wpAny _ _ (Builtin.SmallTypes.nextOf (.ref i1) >>= _) _ _ _
 refine wpAny_bind (wpAny_nextOf_list_item (h1.extBut hs₁.extBut D.i1z) (hl1.extBut hs₁.extBut D.l1z) hx fun h₂ h1₂ hs₂=>wpAny_pure ?_)
 refine wpAny_pure ?_
 refine wpAny_bind (wpAny_bind (wpAny_holding ?_))
 show wpAny _ _ (Builtin.SmallTypes.nextOf (.ref i2) >>= _) _ _ _
 refine wpAny_bind (wpAny_nextOf_list_item ((h2.extBut hs₁.extBut D.i2z).extBut hs₂.extBut D.i12.symm) ((hl2.extBut hs₁.extBut D.l2z).extBut hs₂.extBut D.l2i1) hy fun h₄ h2₄ hs₄=>wpAny_pure ?_)
 refine wpAny_pure (wpAny_pure ?_)
 have hsz:h₄.objs.size=s.heap.objs.size:=by rw [hs₄.1,hs₂.1,hs₁.1]
 have kp:∀ b o,b≠z->b≠i1->b≠i2->s.heap.get? b=some o->h₄.get? b=some o:=fun b o b1 b2 b3 e=>hs₄.extBut _ _ b3 (hs₂.extBut _ _ b2 (hs₁.extBut _ _ b1 e))
 have hz₄:Nh h₄ z TI TO T true:=hs₄.extBut _ _ D.i2z.symm (hs₂.extBut _ _ D.i1z.symm hz₁)
 show wpAny _ _ (newTuple [x,y] >>= _) _ _ _
 refine wpAny_bind (wpAny_newTuple (wpAny_pure ⟨_,rfl,?_⟩))
 have hp:h₄.objs.size=s.heap.objs.size:=hsz
 rw [hp]
 refine hQ _ (Heap.get?_push_of_some _ hz₄) ((h1₂.extBut hs₄.extBut D.i12).at fun o e=>Heap.get?_push_of_some _ e) (h2₄.at fun o e=>Heap.get?_push_of_some _ e) ?_ (by rw [Heap.size_push,hp]) fun b o b1 b2 b3 e=>Heap.get?_push_of_some _ (kp b o b1 b2 b3 e)
 rw [<- hp]
 exact Heap.get?_push_size _ rfl
theorem fM {z TI TO T i1 i2 l1 l2:Addr}{k1 k2:Nat}{xs ys:Array Value}{x y:Value}{c:Bool}{oT:Obj}{Q:Option Value->Shared->Prop}(D:ZipApart z TI TO i1 i2 l1 l2)
  (hz:Nh s.heap z TI TO T c)(hT:s.heap.get? T=some oT)(hTI:IsPair s.heap TI (.ref i1) (.ref i2))(h1:s.heap.IsListIter i1 l1 k1)(h2:s.heap.IsListIter i2 l2 k2)(hl1:s.heap.IsList l1 xs)(hl2:s.heap.IsList l2 ys)(hx:xs[k1]?=some x)(hy:ys[k2]?=some y)
  (hQ:∀ h',Nh h' z TI TO T true->h'.IsListIter i1 l1 (k1+1)->h'.IsListIter i2 l2 (k2+1)->IsPair h' s.heap.objs.size x y->h'.objs.size=s.heap.objs.size+1->(∀ b o,b≠z->b≠i1->b≠i2->s.heap.get? b=some o->h'.get? b=some o)->Q (some (.ref s.heap.objs.size)) { s with heap:=h' }) :
  wpAny (model prog w) A (pyNext (.ref z)) Q E s:=by
 have hTy:s.TypeIs (.ref z) "zip":=⟨_,hz,rfl⟩
 unfold pyNext
 exact wpAny_bind (wpAny_attempt (wpAny_callSpecial?_slot (name:=Str.ofString "__next__") hTy PySem.F.slot_zip_next
  (wpAny_call_entry PySem.F.slot_zip_next hTy PySem.F.entry_zip_next
   (gH D hz hT hTI h1 h2 hl1 hl2 hx hy fun h' a1 a2 a3 a4 a5 a6=>wpAny_pure (hQ h' a1 a2 a3 a4 a5 a6)) (PySem.F.args_zip_next_1 _))))
theorem gW {z TI TO T i1 i2 l1 l2:Addr}{k1:Nat}{xs:Array Value}{c:Bool}{oT:Obj}{Q:Option Value->Shared->Prop}(hh:A.handled=none)(D:ZipApart z TI TO i1 i2 l1 l2)
  (hz:Nh s.heap z TI TO T c)(hT:s.heap.get? T=some oT)(hTI:IsPair s.heap TI (.ref i1) (.ref i2))(h1:s.heap.IsListIter i1 l1 k1)(hl1:s.heap.IsList l1 xs)(hx:xs[k1]?=none)
  (hQ:∀ h',(∀ b o,b≠z->b≠i1->b≠i2->s.heap.get? b=some o->h'.get? b=some o)->Q none { s with heap:=h' }) :
  wpAny (model prog w) A (pyNext (.ref z)) Q E s:=by
 have hTy:s.TypeIs (.ref z) "zip":=⟨_,hz,rfl⟩
 unfold pyNext
 refine wpAny_bind (wpAny_attempt (wpAny_callSpecial?_slot (name:=Str.ofString "__next__") hTy PySem.F.slot_zip_next
  (wpAny_call_entry PySem.F.slot_zip_next hTy PySem.F.entry_zip_next ?_ (PySem.F.args_zip_next_1 _))))
 show wpAny _ _ (field (.ref z) 2 >>= _) _ _ _
 refine wpAny_bind (wpAny_field hz rfl (x:=.bool false) rfl ?_)
 show wpAny _ _ (field (.ref z) 3 >>= _) _ _ _
 refine wpAny_bind (wpAny_field hz rfl (x:=.ref TI) rfl ?_)
 refine wpAny_bind (wpAny_seqItems hTI rfl ?_)
 show wpAny _ _ (Builtin.SmallTypes.ownedTupleIsFree (.ref z) >>= _) _ _ _
 refine wpAny_bind (Uj hz hT fun h₁ hz₁ hs₁=>?_)
 rw [if_neg (by decide)]
 refine wpAny_bind ?_
 rw [<- Array.forIn_toList]
 simp only [List.forIn_cons,List.forIn_nil]
 refine wpAny_bind (wpAny_bind (wpAny_holding ?_))
 show wpAny _ _ (Builtin.SmallTypes.nextOf (.ref i1) >>= _) _ _ _
 refine wpAny_bind (wpAny_nextOf_list_end hh (h1.extBut hs₁.extBut D.i1z) (hl1.extBut hs₁.extBut D.l1z) hx fun h₂ e hs₂ he=>?_)
 obtain ⟨oe,hoe,hce⟩:=he
 show wpAny _ _ (isInstance (.ref e) (.type "StopIteration") >>= _) _ _ _
 refine wpAny_bind (wpAny_isInstance (T:="StopIteration") (b:=true) ⟨oe,hoe,hce⟩ isSubtype_stop ?_)
 exact wpAny_pure (hQ _ fun b o b1 b2 b3 e=>hs₂ _ _ b2 (hs₁.extBut _ _ b1 e))
end
section
variable {prog:Program} {w:World} {A:Around} {E:Value->Shared->Prop} {R:Result->Shared->Prop}
structure DzA (d z TI TO i1 i2 l1 l2:Addr):Prop where
 za:ZipApart z TI TO i1 i2 l1 l2
 dz:d≠z
 dI:d≠TI
 dO:d≠TO
 d1:d≠i1
 d2:d≠i2
 dl:d≠l1
 dm:d≠l2
end
theorem Rm:∀ {xs:List V} {us:List Value},xs.length=us.length->(∀ (i:Nat) x u,xs[i]?=some x->us[i]?=some u->B1 x u)->Bi xs us
 | [],[],_,_=>.nil
 | x::xs,u::us,hl,h=>.cons (h 0 x u rfl rfl) (Rm (Nat.succ.inj hl) fun i y v e1 e2=>h (i+1) y v e1 e2)
section
variable {X:Cx} {pins:List (Addr×Obj)} {σ:St} {H:Hp} {s:Shared} {a:Addr} {y v:V} {u r:Value} {o:Option V} {A:Around} {E:Value->Shared->Prop}
end
end L2
end
section
namespace TW
end TW
end
section
namespace L2
open PySem PySem.Spec PyProof.Rows
end L2
end
section
namespace TW
section
variable {α:Type} (lt:α->α->Bool)
variable {lt}
variable (lt)
variable {lt}
end
end TW
end
section
namespace L2
open PySem PySem.Spec PyProof.Rows TW
def Tm (N H:Hp):Hp:=fun b=>match N b with | some o=>some o | none=>H b
theorem K9 {N H:Hp}{b:Addr}{o:HO}(h:N b=some o):Tm N H b=some o:=by unfold Tm;rw [h]
theorem Gn {N H:Hp}{b:Addr}(h:N b=none):Tm N H b=H b:=by unfold Tm;rw [h]
def Vl (oc:Obj)(qual:Str):Prop:=∃ vs t,oc.data=.fields vs/\vs[1]?=some (.str qual t)
def Rq (H:Hp)(P:Addr)(pos:Pos)(qual:Str):Prop:=∃ ps:Array Value,H P=some (.tbl ps)/\TriplesOk ps.toList/\(codeAmong pos ps.toList=none\/∃ c' oc,codeAmong pos ps.toList=some (.ref c')/\H c'=some (.frz oc (.own 0))/\Vl oc qual)
section
variable {X:Cx} {pins:List (Addr×Obj)} {σ:St} {H:Hp} {s:Shared}
theorem Inv.grown {P:Addr}{ps more:Array Value}{N:Hp}{h':Heap}{t':Nat}(I:Inv X pins σ H s)(hP:H P=some (.tbl ps))(k:∀ b u,b≠P->s.heap.get? b=some u->h'.get? b=some u)(hT:h'.get? P=some (PySem.W.tabObj (ps++more)))
  (hp:∀ b o,N b=some o->s.heap.objs.size<=b)(new:∀ b o,N b=some o->Eu X.prog X.w (Tm N (upd H P (.tbl (ps++more)))) h' b o):Inv X pins σ (Tm N (upd H P (.tbl (ps++more)))) { s with heap:=h',toks:=t' }:=by
 have hlt:P<s.heap.objs.size:=(I.hok P _ hP).lt
 have hNP:N P=none:=by
  cases e:N P with
  | none=>rfl
  | some o=>exact absurd hlt (Nat.not_lt.mpr (hp P o e))
 have hn:∀ b o,N b=some o->H b=none:=fun b o e=>I.hok.fresh (hp b o e)
 have old:∀ b u,s.heap.get? b=some u->N b=none:=fun b u e=>by
  cases hN:N b with
  | none=>rfl
  | some o=>exact absurd (Heap.lt_size e) (Nat.not_lt.mpr (hp b o hN))
 have sm:∀ b o,b≠P->H b=some o->Tm N (upd H P (.tbl (ps++more))) b=some o:=fun b o hb e=>by
  have:N b=none:=by
   cases hN:N b with
   | none=>rfl
   | some u=>rw [hn b u hN] at e;cases e
  rw [Gn this,Aw hb]
  exact e
 have neP:∀ b,H b=none->b≠P:=fun b e z=>by rw [z,hP] at e;cases e
 refine I.un ⟨fun b u q n _ _=>k b u (neP b n) q,fun b u q n _ _=>⟨u.slots,k b u (neP b n) q⟩,fun b u q n _=>by rw [Gn (old b u q),Aw (neP b n)];exact n,fun b u q _=>?_,fun b xs q=>sm _ _ (fun z=>by rw [z,hP] at q;cases q) q,fun b u xs q=>sm _ _ (fun z=>by rw [z,hP] at q;cases q) q,fun b qs q=>?_⟩ fun b o e=>?_
 ·by_cases hb:b=P
  ·rw [hb];exact ⟨_,hT⟩
  ·exact ⟨u,k b u hb q⟩
 ·by_cases hb:b=P
  ·rw [hb,hP] at q
   cases q
   exact ⟨more,by rw [hb,Gn hNP,Ae]⟩
  ·exact ⟨#[],by rw [sm b _ hb q];simp⟩
 ·cases hN:N b with
  | some u =>
   rw [K9 hN] at e
   cases e
   exact new b _ hN
  | none =>
   rw [Gn hN] at e
   by_cases hb:b=P
   ·rw [hb,Ae] at e
    cases e
    rw [hb]
    exact hT
   ·rw [Aw hb] at e
    refine (I.hok b o e).stay (fun c v hc q=>k c v (fun z=>?_) q) (fun c q=>sm _ _ (fun z=>by rw [z,hP] at q;cases q) q) fun c xs q=>sm _ _ (fun z=>by rw [z,hP] at q;cases q) q
    rcases hc with h | h
    ·exact hb (h▸z)
    ·rw [z,hP] at h;cases h
end
def Pa (P:Addr)(H H':Hp):Prop:=∀ b u,b≠P->H b=some u->H' b=some u
section
variable {X:Cx} {pins:List (Addr×Obj)} {σ:St} {H:Hp} {s:Shared} {M:Model} {A:Around} {E:Value->Shared->Prop} {Q:Value->Shared->Prop} {c P:Addr} {pos:Pos} {qual:Str} {params:Arguments} {body:Expr} {scope:Scope} {clos:List (Str×Addr)}
theorem jH (I:Inv X pins σ H s)(T:Rq H P pos qual)(C:CodeHd X.base c P)(hb:X.base.BuiltinsAt X.mg P)(hcode:X.env.code=.ref c)(hcl:closureFor scope X.env=pure clos)(hdef:defaultsOf params X.env=([],[]))(hq:X.env.qual++"<lambda>"=qual)
  (h:∀ (f c':Addr) (oc:Obj) (pm ctv:Value) (s':Shared) (H':Hp),Inv X pins σ H' s'->Rq H' P pos qual->Pa P H H'->H f=none->H' f=some (.frz (kla_obj "<lambda>" qual params body scope clos pm c' ctv) (.own 0))->H' c'=some (.frz oc (.own 0))->Vl oc qual->Q (.ref f) s') :
  wpAny M A (eval (.Lambda params body scope pos) X.env) Q E s:=by
 obtain ⟨ps,hP,ht,hc⟩:=T
 refine PySem.W.kla_eval hdef ?_
 rw [hq]
 have hPs:s.heap.get? P=some (PySem.W.tabObj ps):=I.hok P _ hP
 have hg:s.heap.Ns mainGlobals X.mg:=I.mod.glob.keeps I.bk
 have hgP:mainGlobals≠P:=fun e=>by
  obtain ⟨o,es,ep,e1,d,_⟩:=I.mod.glob
  have:=(I.bs _ _ e1).2
  rw [e,hP] at this;cases this
 have hb':s.heap.BuiltinsAt X.mg P:=by
  obtain ⟨bm,o,a1,a2,a3,a4,a5,a6⟩:=hb
  exact ⟨bm,o,a1,a2,a3,a4,I.bk _ _ a5,a6⟩
 rcases hc with hc | ⟨c',oc,hc,hc',ho⟩
 ·refine PySem.W.kla_makeFunction hcl I.ok.glob hg hcode (C.keeps I.bk) hPs ht hc hgP hb' fun c' ctv h' tk hx hge hlt hrec htb=>?_
  obtain ⟨c₂,oc,vs,t,e2,hoc,hd,hv⟩:=hrec
  cases e2
  let fo:=kla_obj "<lambda>" qual params body scope clos ((X.mg "__name__").getD .none) c' ctv
  let N:Hp:=fun b=>if b=h'.objs.size then some (.frz fo (.own 0)) else if b=c' then some (.frz oc (.own 0)) else none
  have n1:N h'.objs.size=some (.frz fo (.own 0)):=if_pos rfl
  have n2:N c'=some (.frz oc (.own 0)):=(if_neg (Nat.ne_of_lt hlt)).trans (if_pos rfl)
  have n3:∀ b o,N b=some o->(b=h'.objs.size/\o=.frz fo (.own 0))\/(b=c'/\o=.frz oc (.own 0)):=fun b o e=>by
   by_cases h1:b=h'.objs.size
   ·rw [h1,n1] at e;cases e;exact .inl ⟨h1,rfl⟩
   ·by_cases h2:b=c'
    ·rw [h2,n2] at e;cases e;exact .inr ⟨h2,rfl⟩
    ·have:N b=none:=(if_neg h1).trans (if_neg h2)
     rw [this] at e;cases e
  have hp:∀ b o,N b=some o->s.heap.objs.size<=b:=fun b o e=>by
   rcases n3 b o e with ⟨r,_⟩ | ⟨r,_⟩<;>rw [r]
   ·exact Nat.le_trans hge (Nat.le_of_lt hlt)
   ·exact hge
  have hNP:N P=none:=by
   cases e:N P with
   | none=>rfl
   | some o=>exact absurd (I.hok P _ hP).lt (Nat.not_lt.mpr (hp P o e))
  have gf:(h'.push fo).get? h'.objs.size=some fo:=Heap.get?_push_size _ rfl
  have gc:(h'.push fo).get? c'=some oc:=Heap.get?_push_of_some _ hoc
  have I':=Inv.grown (N:=N) (more:=#[PySem.rawInt pos.line,PySem.rawInt pos.col,.ref c']) (h':=h'.push fo) (t':=tk) I hP (fun b u hb e=>Heap.get?_push_of_some _ (hx b u hb e)) (Heap.get?_push_of_some _ htb) hp fun b o e=>by
   rcases n3 b o e with ⟨r,r'⟩ | ⟨r,r'⟩<;>rw [r,r']
   ·exact ⟨gf,_,gf⟩
   ·exact ⟨gc,_,gc⟩
  refine h _ c' oc _ ctv _ _ I' ⟨_,by rw [Gn hNP,Ae],?_,.inr ⟨c',oc,?_,K9 n2,vs,t,hd,hv⟩⟩ (fun b u hb e=>?_) (I.hok.fresh (hp _ _ n1)) (K9 n1) (K9 n2) ⟨vs,t,hd,hv⟩
  ·rw [Array.toList_append];exact TriplesOk_snoc _ _ _ _ ht
  ·rw [Array.toList_append];exact codeAmong_snoc _ ht hc
  ·have:N b=none:=by
    cases hN:N b with
    | none=>rfl
    | some o=>rw [I.hok.fresh (hp b o hN)] at e;cases e
   rw [Gn this,Aw hb];exact e
 ·refine PySem.W.kla_makeFunctionHit hcl I.ok.glob hg hcode (C.keeps I.bk) hPs ht hc hb' fun ctv h' tk hk hsz=>?_
  let fo:=kla_obj "<lambda>" qual params body scope clos ((X.mg "__name__").getD .none) c' ctv
  let N:Hp:=fun b=>if b=h'.objs.size then some (.frz fo (.own 0)) else none
  have n1:N h'.objs.size=some (.frz fo (.own 0)):=if_pos rfl
  have n3:∀ b o,N b=some o->b=h'.objs.size/\o=.frz fo (.own 0):=fun b o e=>by
   by_cases h1:b=h'.objs.size
   ·rw [h1,n1] at e;cases e;exact ⟨h1,rfl⟩
   ·have:N b=none:=if_neg h1
    rw [this] at e;cases e
  have hp:∀ b o,N b=some o->s.heap.objs.size<=b:=fun b o e=>by rw [(n3 b o e).1];exact hsz
  have hn:∀ b u,H b=some u->N b=none:=fun b u e=>by
   cases hN:N b with
   | none=>rfl
   | some o=>rw [I.hok.fresh (hp b o hN)] at e;cases e
  have gf:(h'.push fo).get? h'.objs.size=some fo:=Heap.get?_push_size _ rfl
  have I':=Inv.grown (N:=N) (more:=#[]) (h':=h'.push fo) (t':=tk) I hP (fun b u _ e=>Heap.get?_push_of_some _ (hk b u e)) (by rw [Array.append_empty];exact Heap.get?_push_of_some _ (hk _ _ hPs)) hp fun b o e=>by
   rw [(n3 b o e).1,(n3 b o e).2];exact ⟨gf,_,gf⟩
  rw [Array.append_empty] at I'
  have old:∀ b u,b≠P->H b=some u->Tm N (upd H P (.tbl ps)) b=some u:=fun b u hb e=>by rw [Gn (hn b u e),Aw hb];exact e
  have hcP:c'≠P:=Lc hc' hP (by intro q;cases q)
  exact h _ c' oc _ ctv _ _ I' ⟨ps,by rw [Gn (hn P _ hP),Ae],ht,.inr ⟨c',oc,hc,old _ _ hcP hc',ho⟩⟩ old (I.hok.fresh (hp _ _ n1)) (K9 n1) (old _ _ hcP hc') ho
end
open PySem.W
def J0 (o:Obj)(c P:Addr):Prop:=∃ vs file tf flags tg inF text tt,o.cls=.type "code"/\o.data=.fields vs/\vs[11]?=some (.ref P)/\vs.getD 11 .none=.ref P/\vs.getD 18 .none=.str file tf /\
  vs.getD 7 .none=.int flags tg/\vs.getD 9 .none=.bool inF/\vs.getD 10 .none=.int text tt/\c≠P
theorem J0.at {h:Heap}{o:Obj}{c P:Addr}(x:J0 o c P)(e:h.get? c=some o):CodeHd h c P:=by
 obtain ⟨vs,file,tf,flags,tg,inF,text,tt,a1,a2,a3,a4,a5,a6,a7,a8,a9⟩:=x
 exact ⟨o,vs,file,tf,flags,tg,inF,text,tt,e,a1,a2,a3,a4,a5,a6,a7,a8,a9⟩
theorem cK {P:Program}{w:World}{K:PySem.W.Frag}{mg mb:Str->Option Value}{CX:CXT}{k:Nat}{fa a:Addr}{fd:FuncData}{x:Str}{sp:Sp}{s₁:Shared}{vs:List Value}{ns:List Int}{tabs:List (Addr×Addr)}
  (hT:PySem.W.TabsAt tabs s₁.heap)(hTK:∀ q∈tabs,K.lookup q.2=none)(hB:∃ bm ob,mg "__builtins__"=some (.ref bm)/\bm≠builtinsNs/\s₁.heap.get? bm=some ob/\ob.cls=.type "module"/\ob.dict=some builtinsNs/\ob.data=.plain)(KX:K.In s₁.heap)(hns:s₁.heap.Ns mainGlobals mg)(hb:s₁.heap.Ns builtinsNs mb)(hbb:∀ x:Str,x≠"__name__"->mb x=bootBuiltins x)(hlim:s₁.heap.NoLimit)(hg:s₁.gens=#[])
  (ha:s₁.heap.get? a=some { cls:=.type "list",data:=.seq vs.toArray })(hi:IntsAre vs ns)(hl:ns.length<=sizeLine)(hr:Dh k callerA)
  (F:∀ base:Heap,K.In base->base.Ns mainGlobals mg->(∀ q∈tabs,base.BuiltinsAt mg q.2)->A9 P w K mg base CX k fa fd [x] sp)(hbind:∀ (s:Shared) (u:Value),BindsTo s fd ⟨[u],[]⟩ [(x,u)])
  (hsp:∀ H:Hp,(∀ q∈tabs,H q.2=some (.tbl #[]))->SqL K H a (ns.map V.int)->sp [.ref a] H (fun v _=>v=.bl true) fun _ _ _=>False)
  (hCX:∀ H e s',CX [] H s₁ (fun _ _ _=>False) e s'->False) :
  codeAny (model P w) callerA (.call (.ref fa) ⟨[.ref a],[]⟩) (fun r s'=>r=.ok (.ret (.bool true))/\OldK s₁.heap s'.heap/\s'.os=s₁.os/\AllBare s'.gens) s₁:=by
 have rv:=Tx hi
 have tabAt:∀ b,b∈tabs.map (·.2)->s₁.heap.get? b=some (PySem.W.tabObj #[])/\K.lookup b=none/\isCodeTable s₁.heap b:=fun b hm=>by
  obtain ⟨q,hq,rfl⟩:=List.mem_map.mp hm
  exact ⟨(hT q hq).2,hTK q hq,((hT q hq).1.tab (hT q hq).2).isCodeTable⟩
 have haT:a∉tabs.map (·.2):=fun hm=>by
  have:=(tabAt a hm).1
  rw [ha] at this
  cases this
 let H:Hp:=fun b=>if b∈tabs.map (·.2) then some (.tbl #[]) else if b=a/\K.lookup a=none then some (.frz { cls:=.type "list",data:=.seq vs.toArray } (.lst (ns.map V.int))) else none
 have H1:∀ b,b∈tabs.map (·.2)->H b=some (.tbl #[]):=fun b hm=>if_pos hm
 have H2:∀ b,b∉tabs.map (·.2)->¬ (b=a/\K.lookup a=none)->H b=none:=fun b h1 h2=>(if_neg h1).trans (if_neg h2)
 have H3:K.lookup a=none->H a=some (.frz { cls:=.type "list",data:=.seq vs.toArray } (.lst (ns.map V.int))):=fun h=>(if_neg haT).trans (if_pos ⟨rfl,h⟩)
 have cases3:∀ b,(b∈tabs.map (·.2))\/(b=a/\K.lookup a=none/\b∉tabs.map (·.2))\/(H b=none):=fun b=>by
  by_cases h1:b∈tabs.map (·.2)
  ·exact .inl h1
  ·by_cases h2:b=a/\K.lookup a=none
   ·exact .inr (.inl ⟨h2.1,h2.2,h1⟩)
   ·exact .inr (.inr (H2 b h1 h2))
 have hok:HOk P w H s₁.heap:=fun b o e=>by
  rcases cases3 b with h | ⟨rfl,h1,_⟩ | h
  ·rw [H1 b h] at e
   cases e
   exact (tabAt b h).1
  ·rw [H3 h1] at e
   cases e
   exact ⟨ha,by rw [List.length_map];exact hl,vs,_,rv,ha⟩
  ·rw [h] at e
   cases e
 have noD:∀ {b:Addr} {o:Obj} {es:Array DictEntry} {ep:Nat},s₁.heap.get? b=some o->o.data=.dict es ep->H b=none:=fun {b o es ep} e d=>by
  rcases cases3 b with h | ⟨rfl,_,_⟩ | h
  ·rw [(tabAt b h).1] at e
   cases e
   have d':Data.fields #[]=Data.dict es ep:=d
   cases d'
  ·rw [ha] at e
   cases e
   have d':Data.seq vs.toArray _=Data.dict es ep:=d
   cases d'
  ·exact h
 have nsK:∀ {b:Addr} {m:Str->Option Value},s₁.heap.Ns b m->(Ww s₁.heap H).Ns b m:=fun {b m} ⟨o,es,ep,e,d,r⟩=>⟨o,es,ep,S2 e (noD e d),d,r⟩
 have hKb:K.In (Ww s₁.heap H):=fun b o e=>S2 (KX b o e) (by
  rcases cases3 b with h | ⟨rfl,h1,_⟩ | h
  ·rw [(tabAt b h).2.1] at e;cases e
  ·rw [h1] at e;cases e
  ·exact h)
 have hBa:∀ q∈tabs,(Ww s₁.heap H).BuiltinsAt mg q.2:=fun q hq=>by
  obtain ⟨bm,ob,b1,b2,b3,b4,b5,b6⟩:=hB
  have n1:bm≠mainGlobals:=fun z=>by
   obtain ⟨o,es,ep,e,d,_⟩:=hns
   rw [z,e] at b3
   cases b3
   rw [d] at b6;cases b6
  have nP:bm∉tabs.map (·.2):=fun hm=>by
   have:=(tabAt bm hm).1
   rw [b3] at this
   cases this
   cases b6
  have hn:H bm=none:=by
   rcases cases3 bm with h | ⟨h,_,_⟩ | h
   ·exact absurd h nP
   ·rw [h,ha] at b3
    cases b3
    cases b6
   ·exact h
  exact ⟨bm,ob,b1,b2,n1,fun z=>nP (z▸List.mem_map_of_mem hq),S2 b3 hn,b4,b5,b6⟩
 have hM:Mod K mg (Ww s₁.heap H):=⟨hKb,nsK hns,⟨mb,nsK hb,hbb⟩,let ⟨mc,h1,h2⟩:=hlim;⟨mc,nsK h1,h2⟩⟩
 have e0:Tf P w K mg (Ww s₁.heap H) callerA [] s₁ H:=⟨rfl,hM,fun b o e=>nH e,Nat.le_of_eq (gG _ _),trivial,fun b hb=>absurd (show b∈([]:List Addr) from hb) (by simp),hok,.of_eq hg⟩
 have hS:SqL K H a (ns.map V.int):=by
  cases hk:K.lookup a with
  | none=>exact .inl (.inr ⟨_,H3 hk⟩)
  | some o =>
   have e:=KX a o hk
   rw [ha] at e
   cases e
   exact .inr ⟨_,vs.toArray,_,hk,rfl,rfl,rfl,by rw [List.size_toArray,hi.length];exact hl,by simpa using rv⟩
 refine codeAny_mono ((F _ hKb (nsK hns) hBa).run callerA [] s₁ H ⟨[.ref a],[]⟩ [.ref a] [.ref a] _ _ hr e0 (hbind s₁ (.ref a)) (.cons rfl .nil) (hsp H (fun q hq=>H1 _ (List.mem_map_of_mem hq)) hS)) fun r s' h=>?_
 cases r with
 | error e=>exact (hCX H e s' h).elim
 | ok fl =>
  cases fl with
  | next=>exact False.elim h
  | brk=>exact False.elim h
  | cont=>exact False.elim h
  | ret u =>
   obtain ⟨v,H',os,bare,un,hok',r',q⟩:=h
   have q':v=.bl true:=q
   subst q'
   obtain rfl:u=Value.bool true:=r'
   have out:∀ b o,s₁.heap.get? b=some o->(b∈tabs.map (·.2)/\∃ more,s'.heap.get? b=some (PySem.W.tabObj more))\/s'.heap.get? b=some o:=fun b o e=>by
    rcases cases3 b with h | ⟨rfl,h1,_⟩ | h
    ·obtain ⟨more,hm⟩:=un.tbls b _ (H1 b h)
     exact .inl ⟨h,_,hok' b _ hm⟩
    ·obtain ⟨e2,_⟩:=hok' _ _ (un.frzs _ _ _ (H3 h1))
     rw [ha] at e
     cases e
     exact .inr e2
    ·exact .inr (un.keep b o e h (by intro z;exact absurd (show b∈([]:List Addr) from z) (by simp)) (by simp))
   refine ⟨rfl,⟨fun b o e=>?_,fun b o e=>?_⟩,os,bare⟩
   ·rcases out b o e with ⟨h,more,hm⟩ | h
    ·have e1:=(tabAt b h).1
     rw [e] at e1
     cases e1
     exact .inr (.inl ⟨(tabAt b h).2.2,rfl,#[],more,rfl,by rw [Array.empty_append];exact hm⟩)
    ·exact .inl h
   ·rcases out b o e with ⟨_,more,hm⟩ | h
    ·exact ⟨_,hm⟩
    ·exact ⟨o,h⟩
theorem fQ {l:PySem.W.OpenLaw}{n k:Nat}{q:Program}{loose:List Str}{XP:(Str->Option Value)->Heap->Prop}{YP:World->Heap->Prop}{d:DefRec}{K:Params->PySem.W.Frag}{CX:World->CXT}{sp:World->Sp}{x:Str}{tabs:List (Addr×Addr)}
  (hn:l.most=some n)(hn2:n<=sizeLine)(hdf:d.params.defaults=[])(hr:Dh k callerA)
  (hY:∀ (w:World) (h:Heap),YP w h->(K w.params).In h)(hTb:∀ (w:World) (h:Heap),YP w h->PySem.W.TabsAt tabs h)(hTK:∀ w:World,∀ p∈tabs,(K w.params).lookup p.2=none)
  (F:∀ (w:World) (mg:Str->Option Value) (fa:Addr) (h:Heap),(K w.params).In h->h.Ns mainGlobals mg->mg d.name=some (.ref fa) ->
   ∃ fd:FuncData,(∀ (s:Shared) (u:Value),BindsTo s fd ⟨[u],[]⟩ [(x,u)]) /\
    ∀ base:Heap,(K w.params).In base->base.Ns mainGlobals mg->(∀ q∈tabs,base.BuiltinsAt mg q.2)->A9 l.prog w (K w.params) mg base (CX w) k fa fd [x] (sp w))
  (hsp:∀ (w:World) (H:Hp) (a:Addr) (ns:List Int),ns.length<=n->(∀ p∈tabs,H p.2=some (.tbl #[]))->SqL (K w.params) H a (ns.map V.int)->sp w [.ref a] H (fun v _=>v=.bl true) fun _ _ _=>False)
  (hCX:∀ (w:World) (H:Hp) (s:Shared) (e:Value) (s':Shared),CX w [] H s (fun _ _ _=>False) e s'->False) :
  PySem.W.WalkO q loose XP YP l.row.toRowW d [] (fun f vs=>PySem.call f vs):=by
 refine Att.attach_call hn hdf fun w s₀ s₁ mg mb fa o pm cd doc a vs ns G Y ho hd hcd hmg hobj hints hlen hg=>?_
 have KX:=hY w _ Y
 obtain ⟨fd,hb,hF⟩:=F w mg fa _ KX G.T.g hmg
 exact cK (hTb w _ Y) (hTK w) G.T.bmain KX G.T.g G.T.b G.T.builtins G.T.nolimit hg hobj hints (Nat.le_trans hlen hn2) hr hF hb (fun H hO hS=>hsp w H a ns hlen hO hS) fun H e s'=>hCX w H s₁ e s'
structure Te (K:PySem.W.Frag) (x qual:Str) (st:Stmt) (f:Addr) (fd:FuncData) (c P:Addr):Prop where
 ex:∃ (oc:Value) (od:Option Addr) (kV doc pm:Value) (an:Option Addr) (ct:Value) (osl:Array (Option Value)),
  fd=PySem.W.fnOf x qual (C1 st) (Ck st) (Ah st) .none kV doc pm an (.ref c) ct/\K.lookup f=some ⟨oc,od,.func fd,osl⟩/\PySem.W.codeIn K (.ref c) qual=true
 kp:PySem.W.keepIn K (.ref f)=true
 hd:∃ oc,K.lookup c=some oc/\J0 oc c P
section
variable {P:Program} {w:World} {K:PySem.W.Frag} {mg:Str->Option Value} {base:Heap}
theorem Te.ok {x qual:Str}{st:Stmt}{f c Pt:Addr}{fd:FuncData}{N ps:List Str}{k:Nat}{sp:Sp}(F:Te K x qual st f fd c Pt)(S:Ao N ps (Ah st))(len:∀ vs H Q E,sp vs H Q E->vs.length=ps.length)
  (hbody:∀ (A:Around) (outer:List Env) (s:Shared) (H:Hp) (vs:List V) (Q:VK) (E:XK),Dh k (A.deeper (envOfC qual (Ah st) s.heap.objs.size f (.ref c)))->sp vs H Q E ->
   ∃ t,PSs (cQ CX0 P w K mg base N qual (Ah st) f (.ref c) A outer s H E).nox (Ck st) t/\t { nx:=fun _ H'=>Q .non H',rt:=Q } (M0 N vs) H):A9 P w K mg base CX0 (k+1) f fd ps sp:=by
 obtain ⟨oc,od,kV,doc,pm,an,ct,osl,rfl,lk,hcd⟩:=F.ex
 refine oR lk hcd S len fun A outer s H vs Q E hr hsp=>?_
 obtain ⟨t,h,q⟩:=hbody A outer s H vs Q E hr hsp
 exact ⟨t,h.nox,q⟩
theorem Te.code {x qual:Str}{st:Stmt}{f c Pt:Addr}{fd:FuncData}(F:Te K x qual st f fd c Pt)(hK:K.In base):CodeHd base c Pt:=let ⟨oc,e,h⟩:=F.hd;h.at (hK _ _ e)
theorem Te.binds {x qual:Str}{st:Stmt}{f c Pt:Addr}{fd:FuncData}{ps:List Str}(F:Te K x qual st f fd c Pt)
  (h:∀ (kV doc pm:Value) (an:Option Addr) (cdv ct:Value) (us:List Value),us.length=ps.length->bindArgs (PySem.W.fnOf x qual (C1 st) (Ck st) (Ah st) .none kV doc pm an cdv ct) ⟨us,[]⟩=pure (ps.zip us)):Gw K fd ps []:=by
 obtain ⟨oc,od,kV,doc,pm,an,ct,osl,rfl,lk,hcd⟩:=F.ex
 exact .all (h kV doc pm an (.ref c) ct)
theorem Vf {x qual:Str}{st:Stmt}{f c Pt:Addr}{oc:Value}{od an:Option Addr}{osl:Array (Option Value)}{kV doc pm ct:Value}{oo:Obj}(l:K.lookup f=some ⟨oc,od,.func (PySem.W.fnOf x qual (C1 st) (Ck st) (Ah st) .none kV doc pm an (.ref c) ct),osl⟩)
  (cc:PySem.W.codeIn K (.ref c) qual=true)(k:PySem.W.keepIn K (.ref f)=true)(lc:K.lookup c=some oo)(hc:J0 oo c Pt):Te K x qual st f (PySem.W.fnOf x qual (C1 st) (Ck st) (Ah st) .none kV doc pm an (.ref c) ct) c Pt:=⟨⟨oc,od,kV,doc,pm,an,ct,osl,rfl,l,cc⟩,k,oo,lc,hc⟩
end
def InC (cl:List (Str×Addr))(b:Addr):Prop:=∃ x,cl.lookup x=some b
open Classical in
noncomputable def Iv (H:Hp) (cl:List (Str×Addr)):Hp:=fun b=>if InC cl b then none else H b
open Classical in
noncomputable def Jm (H:Hp) (h:Heap) (cl:List (Str×Addr)):Hp:=fun b=>if InC cl b then (h.get? b).map fun o=>.frz o (.own 0) else H b
theorem K4 {H:Hp}{cl:List (Str×Addr)}{b:Addr}(h:InC cl b):Iv H cl b=none:=if_pos h
theorem Gb {H:Hp}{cl:List (Str×Addr)}{b:Addr}(h:¬ InC cl b):Iv H cl b=H b:=if_neg h
theorem No {H:Hp}{h:Heap}{cl:List (Str×Addr)}{b:Addr}{o:Obj}(hb:InC cl b)(e:h.get? b=some o):Jm H h cl b=some (.frz o (.own 0)):=by
 unfold Jm
 rw [if_pos hb,e]
 rfl
theorem C3 {H:Hp}{h:Heap}{cl:List (Str×Addr)}{b:Addr}(hb:¬ InC cl b):Jm H h cl b=H b:=if_neg hb
theorem E6 {H:Hp}{cl:List (Str×Addr)}{b:Addr}(h:H b=none):Iv H cl b=none:=by
 by_cases hb:InC cl b
 ·exact K4 hb
 ·rw [Gb hb];exact h
theorem cI {H:Hp}{cl:List (Str×Addr)}{b:Addr}{o:HO}(h:Iv H cl b=some o):¬ InC cl b/\H b=some o:=by
 by_cases hb:InC cl b
 ·rw [K4 hb] at h;cases h
 ·rw [Gb hb] at h;exact ⟨hb,h⟩
theorem Xe {P:Program}{w:World}{H:Hp}{h:Heap}{cl:List (Str×Addr)}(hk:HOk P w H h)(hc:∀ b,InC cl b->∃ o u,H b=some (.frz o u)):HOk P w (Iv H cl) h:=fun b o e=>by
 obtain ⟨hb,e⟩:=cI e
 refine (hk b o e).stay (fun _ _ _ q=>q) (fun c q=>?_) fun c xs q=>?_
 ·rw [Gb fun z=>?_]
  ·exact q
  ·obtain ⟨o,u,e⟩:=hc c z
   rw [q] at e;cases e
 ·rw [Gb fun z=>?_]
  ·exact q
  ·obtain ⟨o,u,e⟩:=hc c z
   rw [q] at e;cases e
theorem Xj {P:Program}{w:World}{H:Hp}{h:Heap}{cl:List (Str×Addr)}(hk:HOk P w H h)(hn:∀ b,InC cl b->H b=none):HOk P w (Jm H h cl) h:=fun b o e=>by
 by_cases hb:InC cl b
 ·unfold Jm at e
  rw [if_pos hb] at e
  cases g:h.get? b with
  | none=>rw [g] at e;cases e
  | some ob =>
   rw [g] at e
   cases e
   exact ⟨g,_,g⟩
 ·rw [C3 hb] at e
  refine (hk b o e).stay (fun _ _ _ q=>q) (fun c q=>?_) fun c xs q=>?_
  ·rw [C3 fun z=>by rw [hn c z] at q;cases q];exact q
  ·rw [C3 fun z=>by rw [hn c z] at q;cases q];exact q
def Xo (P:Program)(w:World)(K:PySem.W.Frag)(mg:Str->Option Value)(base:Heap)(k:Nat)(H:Hp)(f:Addr)(dom:Int->Prop)(p:Int->Bool):Prop :=
 (∃ oc od fd sl u,H f=some (.frz ⟨oc,od,.func fd,sl⟩ u))/\∀ (A:Around) (outer:List Env) (s:Shared) (H1:Hp) (i:Int) (t:Tok),Dh k A->Tf P w K mg base A outer s H1->An H H1->dom i ->
  codeAny (model P w) A (.call (.ref f) ⟨[.int i t],[]⟩) (CR CX0 outer P w H1 s (fun v H2=>v=.bl (p i)/\An H1 H2) E0) s
theorem Xo.same {P:Program}{w:World}{K:PySem.W.Frag}{mg:Str->Option Value}{base:Heap}{k:Nat}{H H':Hp}{f:Addr}{dom:Int->Prop}{p:Int->Bool}(a:Xo P w K mg base k H f dom p)(s:An H H'):Xo P w K mg base k H' f dom p :=
 ⟨let ⟨oc,od,fd,sl,u,e⟩:=a.1;⟨oc,od,fd,sl,u,s _ _ e⟩,fun A outer st H1 i t hr e0 sm hd=>a.2 A outer st H1 i t hr e0 (fun b o e=>sm _ _ (s _ _ e)) hd⟩
section
variable {X:Cx} {x:Str} {i:Nat} {k:Nat} {a:Expr} {ta:TE} {q pos:Pos}
def sG (P:Program)(w:World)(K:PySem.W.Frag)(mg:Str->Option Value)(base:Heap)(k i:Nat)(ta:TE):TE:=fun σ H Q=>∃ (f:Addr) (dom:Int->Prop) (p:Int->Bool),σ[i]?=some (some (.ref f))/\Xo P w K mg base k H f dom p /\
 ta σ H fun v H1=>Y2 σ H1 fun vs H2=>∃ z:Int,v::vs=[.int z]/\An H H2/\dom z/\∀ H3,An H2 H3->Q (.bl (p z)) H3
theorem sQ {P:Program}{w:World}{K:PySem.W.Frag}{mg:Str->Option Value}{base:Heap}{σ:St}{H:Hp}{Q:VK}(h:∃ (f:Addr) (dom:Int->Prop) (p:Int->Bool),σ[i]?=some (some (.ref f))/\Xo P w K mg base k H f dom p /\
 ta σ H fun v H1=>Y2 σ H1 fun vs H2=>∃ z:Int,v::vs=[.int z]/\An H H2/\dom z/\∀ H3,An H2 H3->Q (.bl (p z)) H3):sG P w K mg base k i ta σ H Q:=h
theorem qC (hr:Dh k X.A)(hN:X.N[i]?=some x)(hv:X.env.scope.names.lookup x=some .local)(ha:PE X a ta)(hdb:(x==("__debug__":Str))=false:=by decide)(hcd:(x==("__classdict__":Str))=false:=by decide)
  (he:starEach [a] X.env=[(false,eval a X.env)]:=by rfl) :
  PE X (.Call (.Name x q) [a] [] pos) (sG X.prog X.w X.K X.mg X.base k i ta):=by
 intro pins s σ H Q I ⟨f,dom,p,hσ,hA,h⟩
 have hn:PE X (.Name x q) (nG i):=jJ hN (.inl hv) hdb hcd
 refine wpAny_Call_Name_kw (thn (hn pins s σ H (fun v H1=>v=.ref f/\H1=H) I ⟨_,hσ,rfl,rfl⟩) fun u s0 ⟨v0,H0,I0,r0,e0,e1⟩=>?_)
 subst e0 e1
 obtain rfl:u=Value.ref f:=r0
 have fnAt:∀ {s':Shared} {H':Hp},Inv X pins σ H' s'->An H0 H'->PySem.W.FnAt f s'.heap:=fun I' sm=>by
  obtain ⟨oc,od,fd,sl,u,e⟩:=hA.1
  exact ⟨oc,od,fd,sl,(I'.hok _ _ (sm _ _ e)).1⟩
 have hp:PA X [a] (Xg ta Y2):=dW ha Aa he
 refine PySem.W.callWith_F (fnAt I0 (fun _ _ e=>e)) (thn (hp pos pins s0 σ H0 (fun vs H1=>∃ z:Int,vs=[.int z]/\An H0 H1/\dom z/\∀ H3,An H1 H3->Q (.bl (p z)) H3) I0 ?_) fun us s1 ⟨vs,H1,I1,r1,z,e1,sm,hz,q1⟩=>⟨fnAt I1 sm,?_⟩) he rfl
 ·exact h
 subst e1
 obtain ⟨u,rfl,t,rfl⟩:=Fd r1
 refine wpAny_call (codeAny_mono (hA.2 X.A X.stack s1 H1 z t hr I1.env0 sm hz) fun r s' hq=>?_)
 cases r with
 | error e=>exact hq.elim
 | ok fl =>
  cases fl with
  | ret u =>
   obtain ⟨v,H',os,bare,un,hok,r,e2,sm2⟩:=hq
   subst e2
   exact I1.after ⟨_,H',os,bare,un,hok,r,q1 _ sm2⟩
  | next=>exact False.elim hq
  | brk=>exact False.elim hq
  | cont=>exact False.elim hq
end
abbrev gM (qual:Str)(scope:Scope)(cl:List (Str×Addr))(C f:Addr)(cd:Value):Env:=newEnv scope C mainGlobals cl (qual++Str.ofString ".<locals>.") (some f) cd none builtinsNs
def Tw (P:Program)(w:World)(K:PySem.W.Frag)(mg:Str->Option Value)(base:Heap)(N:List Str)(qual:Str)(scope:Scope)(cl:List (Str×Addr))(f:Addr)(cd:Value)(A:Around)(outer:List Env)(s:Shared)(H:Hp):Cx where
 prog:=P
 w:=w
 K:=K
 mg:=mg
 base:=base
 A:=A.deeper (gM qual scope cl s.heap.objs.size f cd)
 N:=N
 s₀:=s
 H₀:=H
 env:=gM qual scope cl s.heap.objs.size f cd
 outer:=outer
 stack:=gM qual scope cl s.heap.objs.size f cd::outer
 ex:=[]
 fn:=fun _=>false
 calm:=true
 pn:=[]
 xe:=fun _ _=>False
section
variable {P:Program} {w:World} {K:PySem.W.Frag} {mg:Str->Option Value} {base:Heap}
theorem nL {N N₀:List Str}{sc₀ scope:Scope}{x:Str}{ix:List Nat}{qual:Str}{cl:List (Str×Addr)}{f:Addr}{cd:Value}{A:Around}{outer:List Env}{s:Shared}{H1:Hp}{σ:St}{h₁:Heap}{tk:Nat}{v0:V}{u0:Value}{k:Nat}
  (L:Bf N₀ sc₀ scope x N ix)(hr:Dh (k+1) A)(e0:Tf P w K mg base A outer s H1)
  (hinj:∀ y z c,cl.lookup y=some c->cl.lookup z=some c->y=z)(hhas:∀ y,(y,NameKind.free)∈scope.names->∃ c,cl.lookup y=some c)
  (hcs:∀ y c,cl.lookup y=some c->∃ o v,H1 c=some (.frz o (.own 0))/\o.data=.cell v)
  (hval:∀ y j v,(y,j)∈N.tail.zip ix->σ[j]?=some (some v)->∃ c o u,cl.lookup y=some c/\H1 c=some (.frz o (.own 0))/\o.data=.cell (some u)/\B1 v u)
  (hr0:B1 v0 u0)(hns:h₁.Ns s.heap.objs.size fun z=>List.lookup z [(x,u0)].reverse)(hk:∀ b o,s.heap.get? b=some o->h₁.get? b=some o) :
  Inv (Tw P w K mg base N qual scope cl f cd A outer s (Iv H1 cl)) [] (some v0::frV σ ix) (Iv H1 cl) { s with heap:=h₁,toks:=tk }:=by
 have noA:∀ b:Addr,b∉(Tw P w K mg base N qual scope cl f cd A outer s (Iv H1 cl)).ex:=fun b z=>absurd (show b∈([]:List Addr) from z) (by simp)
 have kf:∀ y,scope.names.lookup y≠some .cell:=fun y e=>L.nocell _ (PySem.mem_of_lookup e) rfl
 refine ⟨⟨e0.mod,L.kind,rfl,rfl,Nat.le_refl _,fun y z c h1 h2=>hinj y z c h1 h2,fun y hy=>?_,fun y c z _=>?_,fun _=>(hr.deeper _).hd,Around.frames_deeper e0.frames,.inr ⟨rfl,rfl⟩,fun b z=>absurd z (noA b),fun b o e=>⟨(e0.bs b o e).1,E6 (e0.bs b o e).2⟩,e0.bsz,fun b _ _=>noA b,fun b z=>absurd z (noA b),e0.funs,fun b hb=>E6 (e0.frf b hb)⟩,
  rfl,e0.bare,Un.kept hk,⟨_,hns,fun i y v h1 h2 h3=>?_⟩,fun y c e=>?_,E6 (e0.hok.fresh (Nat.le_refl _)),fun y c e=>K4 ⟨y,e⟩,fun p hp=>absurd (show p∈([]:List (Addr×Obj)) from hp) (by simp),?_,?_⟩
 ·have hy:scope.names.lookup y=some .cell\/scope.names.lookup y=some .free:=hy
  rcases hy with hy | hy
  ·exact absurd hy (kf y)
  ·exact hhas y (PySem.mem_of_lookup hy)
 ·cases (show false=true from z)
 ·cases i with
  | zero =>
   have h1:N[0]?=some y:=h1
   have h2:some (some v0)=some (some v):=h2
   cases h2
   have hx:N[0]?=some x:=by have:=L.hd;rwa [List.head?_eq_getElem?] at this
   rw [h1] at hx
   cases hx
   exact ⟨u0,hr0,.inl ⟨L.loc,by simp⟩⟩
  | succ j =>
   have h1:N[j+1]?=some y:=h1
   have h2:(frV σ ix)[j]?=some (some v):=h2
   unfold frV at h2
   rw [List.getElem?_map] at h2
   cases hj:ix[j]? with
   | none=>rw [hj] at h2;cases h2
   | some m =>
    rw [hj] at h2
    have h2:(σ[m]?).getD none=some v:=Option.some.inj h2
    have h2':σ[m]?=some (some v):=by
     cases e:σ[m]? with
     | none=>rw [e] at h2;cases h2
     | some z=>rw [e] at h2;exact congrArg some h2
    have ht:N.tail[j]?=some y:=by rw [List.getElem?_tail];exact h1
    have hz:(y,m)∈N.tail.zip ix:=List.mem_of_getElem? (i:=j) (by rw [List.getElem?_zip_eq_some];exact ⟨ht,hj⟩)
    obtain ⟨c,o,u,e1,e2,e3,r⟩:=hval y m v hz h2'
    exact ⟨u,r,.inr ⟨.inr (L.at_ _ hz).2,c,e1,o,hk _ _ (e0.hok _ _ e2).1,e3⟩⟩
 ·obtain ⟨o,v,e1,e2⟩:=hcs y c e
  exact ⟨v,o,hk _ _ (e0.hok _ _ e1).1,e2⟩
 ·exact (Xe e0.hok fun b ⟨y,e⟩=>let ⟨o,v,e1,_⟩:=hcs y b e;⟨o,_,e1⟩).kept hk
 ·show (some v0::frV σ ix).length=N.length
  rw [L.len]
  simp [frV]
theorem hV {N N₀:List Str}{sc₀ scope:Scope}{x:Str}{ix:List Nat}{qual:Str}{cl:List (Str×Addr)}{f c':Addr}{H:Hp}{σ:St}{k:Nat}{params:Arguments}{body:Expr}{pm ctv:Value}{oc:Obj}{te:TE}{dom:Int->Prop}{p:Int->Bool}
  (L:Bf N₀ sc₀ scope x N ix)(hco:scope.isCoroutine=false)(hgen:scope.isGenerator=false)
  (hinj:∀ y z c,cl.lookup y=some c->cl.lookup z=some c->y=z)(hhas:∀ y,(y,NameKind.free)∈scope.names->∃ c,cl.lookup y=some c)
  (hcs:∀ y c,cl.lookup y=some c->∃ o v,H c=some (.frz o (.own 0))/\o.data=.cell v)
  (hval:∀ y j v,(y,j)∈N.tail.zip ix->σ[j]?=some (some v)->∃ c o u,cl.lookup y=some c/\H c=some (.frz o (.own 0))/\o.data=.cell (some u)/\B1 v u)
  (hf:H f=some (.frz (kla_obj "<lambda>" qual params body scope cl pm c' ctv) (.own 0)))(hc':H c'=some (.frz oc (.own 0)))(hoc:Vl oc qual)
  (hbind:∀ (n:Int) (t:Tok),bindArgs (PySem.W.kla_fn "<lambda>" qual params body scope cl pm (.ref c') ctv) ⟨[.int n t],[]⟩=pure [(x,.int n t)])
  (hbody:∀ (A:Around) (outer:List Env) (s:Shared) (H1:Hp),Dh k (A.deeper (gM qual scope cl s.heap.objs.size f (.ref c')))->PE (Tw P w K mg base N qual scope cl f (.ref c') A outer s H1) body te)
  (hte:∀ (i:Int) (H1:Hp),dom i->(∀ b u,¬ InC cl b->H b=some u->H1 b=some u)->te (some (.int i)::frV σ ix) H1 fun v H2=>v=.bl (p i)/\An H1 H2):Xo P w K mg base (k+1) H f dom p:=by
 refine ⟨⟨_,_,_,_,_,hf⟩,fun A outer s H1 i t hr e0 sm hd=>?_⟩
 have hfo:s.heap.get? f=some (kla_obj "<lambda>" qual params body scope cl pm c' ctv):=(e0.hok _ _ (sm _ _ hf)).1
 have hco':s.heap.get? c'=some oc:=(e0.hok _ _ (sm _ _ hc')).1
 have lim:s.heap.NoLimit:=e0.mod.nolimit.keeps fun b o e=>(e0.bs b o e).1
 refine PySem.W.kla_callFunE hr.depth hfo rfl hco hgen rfl (let ⟨vs,t,e1,e2⟩:=hoc;⟨c',oc,vs,t,rfl,hco',e1,e2⟩) ?_
 rw [hbind]
 refine wpAny_pure (wpAny_newFunctionEnv L.nocell (fun y hy=>by cases List.mem_singleton.mp hy;exact L.loc) (fun h₁ hns hsb=>⟨lim.fresh _ hsb,?_⟩) L.kind)
 have hk₁:∀ b o,s.heap.get? b=some o->h₁.get? b=some o:=fun b o e=>hsb.extBut b o (Nat.ne_of_lt (Heap.lt_size e)) (Heap.get?_push_of_some _ e)
 have inH:∀ b,InC cl b->∃ o v,H1 b=some (.frz o (.own 0))/\o.data=.cell v:=fun b ⟨y,e⟩=>let ⟨o,v,e1,e2⟩:=hcs y b e;⟨o,v,sm _ _ e1,e2⟩
 have I':=nL (qual:=qual) (f:=f) (cd:=.ref c') (tk:=s.toks+[(x,Value.int i t)].length) (v0:=.int i) (u0:=.int i t) L hr e0 hinj hhas (fun y c e=>let ⟨o,v,e1,e2⟩:=hcs y c e;⟨o,v,sm _ _ e1,e2⟩)
  (fun y j v h1 h2=>let ⟨c,o,u,a1,a2,a3,a4⟩:=hval y j v h1 h2;⟨c,o,u,a1,sm _ _ a2,a3,a4⟩) ⟨t,rfl⟩ hns hk₁
 refine PySem.W.kla_codeExpr (wpAny_mono (hbody A outer s (Iv H1 cl) (hr.deeper _) [] _ _ _ _ I' (hte i _ hd fun b u hb e=>by rw [Gb hb];exact sm _ _ e)) (fun v s' ⟨v',H2,I2,r,ev,sm2⟩=>?_) fun e s' z=>z.elim)
 have nfr:∀ b,InC cl b->b∉frs outer:=fun b hb z=>by
  obtain ⟨o,v,e1,_⟩:=inH b hb
  rw [e0.frf b z] at e1;cases e1
 have cell':∀ b o u,InC cl b->H1 b=some (.frz o u)->s'.heap.get? b=some o/\u=.own 0:=fun b o u hb e=>by
  obtain ⟨o2,v2,e1,_⟩:=inH b hb
  rw [e] at e1
  cases e1
  exact ⟨I2.base.keep b o (e0.hok _ _ e).1 (K4 hb) (nfr b hb) (by simp [Tw]),rfl⟩
 have same':∀ b u,H1 b=some u->(∀ ps,u≠.tbl ps)\/True->Jm H2 s'.heap cl b=some u:=fun b u e _=>by
  by_cases hb:InC cl b
  ·obtain ⟨o,v,e1,_⟩:=inH b hb
   rw [e] at e1
   cases e1
   exact No hb (cell' b o _ hb e).1
  ·rw [C3 hb]
   exact sm2 _ _ (by rw [Gb hb];exact e)
 refine ⟨v',Jm H2 s'.heap cl,I2.os,I2.bare,⟨fun b o e n hf hx=>I2.base.keep b o e (E6 n) hf hx,fun b o e n hf hx=>I2.base.slot b o e (E6 n) hf hx,fun b o e n hx=>?_,fun b o e hx=>I2.base.there b o e hx,fun b xs e=>same' _ _ e (.inr trivial),fun b o u e=>same' _ _ e (.inr trivial),fun b ps e=>⟨#[],by rw [Array.append_empty];exact same' _ _ e (.inr trivial)⟩⟩,Xj I2.hok fun b ⟨y,e⟩=>I2.freeC y b e,r,ev,fun b u e=>same' b u e (.inr trivial)⟩
 have hb:¬ InC cl b:=fun hb=>by
  obtain ⟨o,v,e1,_⟩:=inH b hb
  rw [n] at e1;cases e1
 rw [C3 hb]
 exact I2.base.free b o e (E6 n) hx
end
def Jx (P:Program)(w:World)(K:PySem.W.Frag)(mg:Str->Option Value)(base:Heap)(k:Nat):Sp:=fun vs H Q _=>∃ (lo hi:Int) (f:Addr) (p:Int->Bool),vs=[.int lo,.int hi,.ref f]/\lo<=hi/\Xo P w K mg base k H f (fun i=>lo<=i/\i<hi) p /\
 ∀ m H',lo<=m->m<=hi->(lo<m->p (m-1)=false)->(m<hi->p m=true)->An H H'->Q (.int m) H'
def Zp (Pt:Addr)(lpos:Pos)(qual:Str)(ix:List Nat)(te ta tb:TE):TE:=fun σ H Q=>ta σ H fun v H1=>tb σ H1 fun u H2=>∃ (lo hi:Int) (p:Int->Bool),v=.int lo/\u=.int hi/\lo<=hi/\Rq H2 Pt lpos qual /\
 (∀ (i:Int) (H3:Hp),lo<=i->i<hi->Pa Pt H2 H3->te (some (.int i)::frV σ ix) H3 fun v H4=>v=.bl (p i)/\An H3 H4) /\
 ∀ (m:Int) (H':Hp),lo<=m->m<=hi->(lo<m->p (m-1)=false)->(m<hi->p m=true)->Pa Pt H2 H'->Rq H' Pt lpos qual->Q (.int m) H'
theorem nD {Pt:Addr}{lpos:Pos}{qual:Str}{ix:List Nat}{te ta tb:TE}{σ:St}{H:Hp}{Q:VK}(h:ta σ H fun v H1=>tb σ H1 fun u H2=>∃ (lo hi:Int) (p:Int->Bool),v=.int lo/\u=.int hi/\lo<=hi/\Rq H2 Pt lpos qual /\
 (∀ (i:Int) (H3:Hp),lo<=i->i<hi->Pa Pt H2 H3->te (some (.int i)::frV σ ix) H3 fun v H4=>v=.bl (p i)/\An H3 H4) /\
 ∀ (m:Int) (H':Hp),lo<=m->m<=hi->(lo<m->p (m-1)=false)->(m<hi->p m=true)->Pa Pt H2 H'->Rq H' Pt lpos qual->Q (.int m) H'):Zp Pt lpos qual ix te ta tb σ H Q:=h
section
variable {X:Cx}
theorem gU {g x qual:Str}{a b body:Expr}{ta tb te:TE}{q pos lpos:Pos}{ff c Pt:Addr}{fd:FuncData}{ps N:List Str}{ix:List Nat}{kf k:Nat}{params:Arguments}{scope:Scope}
  (F:A9 X.prog X.w X.K X.mg X.base CX0 kf ff fd ps (Jx X.prog X.w X.K X.mg X.base (k+1)))(hr:Dh kf X.A)(hg:Gl X g)(hm:X.mg g=some (.ref ff))(hkp:PySem.W.keepIn X.K (.ref ff)=true)(hb:Gw X.K fd ps [])
  (ha:PE X a ta)(hbb:PE X b tb)(hfn:X.fn=fun _=>true)
  (C:CodeHd X.base c Pt)(hB:X.base.BuiltinsAt X.mg Pt)(hcode:X.env.code=.ref c)(hq:X.env.qual++"<lambda>"=qual)
  (L:Bf X.N X.env.scope scope x N ix)(hco:scope.isCoroutine=false)(hgen:scope.isGenerator=false)(hdef:defaultsOf params X.env=([],[]))
  (hbind:∀ (cl:List (Str×Addr)) (pm cv ctv:Value) (n:Int) (t:Tok),bindArgs (PySem.W.kla_fn "<lambda>" qual params body scope cl pm cv ctv) ⟨[.int n t],[]⟩=pure [(x,.int n t)])
  (hbody:∀ (cl:List (Str×Addr)) (f c':Addr) (A:Around) (outer:List Env) (s:Shared) (H1:Hp),Dh k (A.deeper (gM qual scope cl s.heap.objs.size f (.ref c')))->PE (Tw X.prog X.w X.K X.mg X.base N qual scope cl f (.ref c') A outer s H1) body te)
  (hdb:(g==("__debug__":Str))=false:=by decide)(he1:starEach [a,b,.Lambda params body scope lpos] X.env=(false,eval a X.env)::starEach [b,.Lambda params body scope lpos] X.env:=by rfl)(he2:starEach [b,.Lambda params body scope lpos] X.env=(false,eval b X.env)::starEach [.Lambda params body scope lpos] X.env:=by rfl)
  (he3:starEach [.Lambda params body scope lpos] X.env=[(false,eval (.Lambda params body scope lpos) X.env)]:=by rfl)(hpl:(backTo pos (starEach [b,.Lambda params body scope lpos] X.env)).any (·.1)=false:=by rfl) :
  PE X (.Call (.Name g q) [a,b,.Lambda params body scope lpos] [] pos) (Zp Pt lpos qual ix te ta tb):=by
 intro pins s σ H Q I h
 refine wpAny_Call_Name_kw (Nn I hg hm ?_ hdb)
 refine callWith_K (h₀:=X.base) I.ok.mod.kin hkp ?_ he1 hpl
 rw [he1]
 show wpAny _ _ (spliced ((false,eval a X.env)::backTo pos (starEach [b,.Lambda params body scope lpos] X.env))) _ _ s
 refine Calls.spliced_cons (thn (ha pins s σ H _ I h) fun u1 s1 ⟨v1,H1,I1,r1,q1⟩=>?_)
 rw [he2]
 show wpAny _ _ (spliced ((false,eval b X.env)::backTo pos (starEach [.Lambda params body scope lpos] X.env))) _ _ s1
 refine Calls.spliced_cons (thn (hbb pins s1 σ H1 _ I1 q1) fun u2 s2 ⟨v2,H2,I2,r2,lo,hi,p,e1,e2,hle,hT,hbd,q2⟩=>?_)
 subst e1 e2
 rw [he3]
 show wpAny _ _ (spliced [(false,eval (.Lambda params body scope lpos) X.env)]) _ _ s2
 have hfree:∀ y∈scope.names,y.2=.free->∃ c,X.env.cells.lookup y.1=some c:=fun y hy hf=>I.ok.has y.1 (.inl (L.free y hy hf))
 have sub:∀ y c,(Dw X.env scope.names []).lookup y=some c->X.env.cells.lookup y=some c:=fun y c h=>Ir _ _ y c hfree (fun _ _ z=>by simp at z) h
 refine Calls.spliced_cons (jH I2 hT C hB hcode (Hi hfree) hdef hq fun f c' oc pm ctv s3 H3 I3 hT3 sm hf0 hf hc' hoc=>?_)
 refine Calls.spliced_nil ?_
 generalize hcl:Dw X.env scope.names []=cl at hf sub
 have inj:∀ y z c,cl.lookup y=some c->cl.lookup z=some c->y=z:=fun y z c h1 h2=>I.ok.inj y z c (sub y c h1) (sub z c h2)
 have n3:∀ b,InC cl b->H3 b=none:=fun b ⟨y,e⟩=>I3.freeC y b (sub y b e)
 have cellAt:∀ y c,cl.lookup y=some c->∃ o v,s3.heap.get? c=some o/\o.data=.cell v:=fun y c e=>let ⟨v,o,e1,e2⟩:=I3.cell y c (sub y c e);⟨o,v,e1,e2⟩
 have nLoc:∀ b,InC cl b->b≠X.env.locals:=fun b ⟨y,e⟩=>I3.cne y b (sub y b e)
 have hab:∀ b,InC cl b->X.s₀.heap.objs.size<=b:=fun b ⟨y,e⟩=>I3.ok.cab y b (by rw [hfn]) (sub y b e)
 have nfr:∀ b,InC cl b->b∉frs X.stack:=fun b hb z=>by
  rcases List.mem_cons.mp (I3.stkSub b z) with e | hz
  ·exact nLoc b hb e
  ·obtain ⟨_,o,ho,_⟩:=I3.ok.funs.mem hz
   exact absurd (Heap.lt_size ho) (Nat.not_lt.mpr (hab b hb))
 have e0:Tf X.prog X.w X.K X.mg X.base X.A X.stack s3 (Jm H3 s3.heap cl):=by
  have z:=I3.env0
  refine ⟨z.frames,z.mod,fun b o e=>⟨(z.bs b o e).1,?_⟩,z.bsz,z.funs,fun b hb=>?_,Xj z.hok n3,z.bare⟩
  ·rw [C3 fun hb=>?_]
   ·exact (z.bs b o e).2
   ·exact absurd (Heap.lt_size e) (Nat.not_lt.mpr (Nat.le_trans I3.ok.bsz (hab b hb)))
  ·rw [C3 fun h=>nfr b h hb]
   exact z.frf b hb
 have out:∀ b u,H3 b=some u->Jm H3 s3.heap cl b=some u:=fun b u e=>by
  rw [C3 fun hb=>by rw [n3 b hb] at e;cases e];exact e
 have asks:Xo X.prog X.w X.K X.mg X.base (k+1) (Jm H3 s3.heap cl) f (fun i=>lo<=i/\i<hi) p:=by
  refine hV (σ:=σ) (te:=te) L hco hgen inj (fun y hy=>?_) (fun y c e=>?_) (fun y j v hz hj=>?_) (out _ _ hf) (out _ _ hc') hoc (hbind _ _ _ _) (fun A outer s H1 hr=>hbody _ _ _ A outer s H1 hr) fun i H4 hi k4=>?_
  ·rw [<- hcl];exact Option.isSome_iff_exists.mp (Fb _ _ y hy)
  ·obtain ⟨o,v,e1,e2⟩:=cellAt y c e
   exact ⟨o,v,No ⟨y,e⟩ e1,e2⟩
  ·obtain ⟨b1,b2⟩:=L.at_ _ hz
   have hm:=PySem.mem_of_lookup b2
   have hcell:=L.free _ hm rfl
   obtain ⟨m',hn',hl'⟩:=I3.loc
   obtain ⟨u,r,lk⟩:=hl' j y v b1 hj (.inr (.inl hcell))
   rcases lk with lk | ⟨_,c2,e,o,z1,z2⟩
   ·rw [show X.env.kindOf y=some .cell from hcell] at lk
    cases lk.1
   ·obtain ⟨c3,e'⟩:=Option.isSome_iff_exists.mp (Fb (env:=X.env) scope.names [] y hm)
    rw [hcl] at e'
    have e2:=sub y c3 e'
    rw [e] at e2
    cases e2
    exact ⟨c2,o,u,e',No ⟨y,e'⟩ z1,z2,r⟩
  ·refine hbd i H4 hi.1 hi.2 fun b u hb e=>?_
   have e3:=sm b u hb e
   exact k4 b u (fun hc=>by rw [n3 b hc] at e3;cases e3) (out b u e3)
 refine ⟨I3.kIn,?_⟩
 show wpAny _ _ (call (.ref ff) [u1,u2,.ref f]) _ _ s3
 have rv:Bi [V.int lo,V.int hi,V.ref f] [u1,u2,.ref f]:=.cons r1 (.cons r2 (.cons rfl .nil))
 have hl:([u1,u2,Value.ref f]++[]).length=ps.length:=by
  have:=F.len [.int lo,.int hi,.ref f] (Jm H3 s3.heap cl) (fun _ _=>True) E0 ⟨lo,hi,f,p,rfl,hle,asks,fun _ _ _ _ _ _ _=>trivial⟩
  exact this
 refine wpAny_call (codeAny_mono (F.run X.A X.stack s3 (Jm H3 s3.heap cl) ⟨[u1,u2,.ref f],[]⟩ ([u1,u2,.ref f]++[]) [.int lo,.int hi,.ref f] (fun v H'=>∃ m,v=.int m/\lo<=m/\m<=hi/\(lo<m->p (m-1)=false)/\(m<hi->p m=true)/\An (Jm H3 s3.heap cl) H') E0 hr e0 (hb s3 _ I3.kIn hl) (by simpa using rv)
  ⟨lo,hi,f,p,rfl,hle,asks,fun m H' a1 a2 a3 a4 a5=>⟨m,rfl,a1,a2,a3,a4,a5⟩⟩) fun r s' hq=>?_)
 cases r with
 | error e=>exact hq.elim
 | ok fl =>
  cases fl with
  | next=>exact False.elim hq
  | brk=>exact False.elim hq
  | cont=>exact False.elim hq
  | ret u =>
   obtain ⟨v,H4,os,bare,un,hok,rr,m,ev,a1,a2,a3,a4,sm4⟩:=hq
   subst ev
   have c4:∀ b,InC cl b->∃ o,s3.heap.get? b=some o/\H4 b=some (.frz o (.own 0)):=fun b ⟨y,e⟩=>by
    obtain ⟨o,v,e1,_⟩:=cellAt y b e
    exact ⟨o,e1,sm4 _ _ (No ⟨y,e⟩ e1)⟩
   have sm5:∀ b u,H3 b=some u->Iv H4 cl b=some u:=fun b u e=>by
    rw [Gb fun hb=>by rw [n3 b hb] at e;cases e]
    exact sm4 _ _ (out _ _ e)
   have un2:Un (frs X.stack) [] H3 (Iv H4 cl) s3.heap s'.heap:=by
    refine ⟨fun b o e n hf hx=>?_,fun b o e n hf hx=>?_,fun b o e n hx=>?_,fun b o e hx=>un.there b o e hx,fun b xs e=>sm5 _ _ e,fun b o u e=>sm5 _ _ e,fun b ps e=>⟨#[],by rw [Array.append_empty];exact sm5 _ _ e⟩⟩
    ·by_cases hb:InC cl b
     ·obtain ⟨o2,z1,z2⟩:=c4 b hb
      rw [e] at z1
      cases z1
      exact (hok _ _ z2).1
     ·exact un.keep b o e (by rw [C3 hb];exact n) hf hx
    ·have hb:¬ InC cl b:=fun hb=>nfr b hb hf
     exact un.slot b o e (by rw [C3 hb];exact n) hf hx
    ·by_cases hb:InC cl b
     ·exact K4 hb
     ·exact E6 (un.free b o e (by rw [C3 hb];exact n) hx)
   have hok2:HOk X.prog X.w (Iv H4 cl) s'.heap:=Xe hok fun b hb=>let ⟨o,_,z⟩:=c4 b hb;⟨o,_,z⟩
   refine I3.after ⟨_,Iv H4 cl,os,bare,un2,hok2,rr,q2 m _ a1 a2 a3 a4 (fun b u hb e=>sm5 _ _ (sm b u hb e)) ?_⟩
   obtain ⟨pps,t1,t2,t3⟩:=hT3
   exact ⟨pps,sm5 _ _ t1,t2,t3.imp id fun ⟨c2,oc2,z1,z2,z3⟩=>⟨c2,oc2,z1,sm5 _ _ z2,z3⟩⟩
theorem Zs {g x qual:Str}{a b body:Expr}{ta tb te:TE}{q pos lpos:Pos}{c Pt:Addr}{ps N:List Str}{ix:List Nat}{kf k:Nat}{params:Arguments}{scope:Scope}
  (F:Cal X.prog X.w X.K X.mg X.base g kf ps (Jx X.prog X.w X.K X.mg X.base (k+1)))(hr:Dh kf X.A)(ha:PE X a ta)(hbb:PE X b tb)(C:CodeHd X.base c Pt)(hB:X.base.BuiltinsAt X.mg Pt)(hcode:X.env.code=.ref c)(hq:X.env.qual++"<lambda>"=qual)
  (L:Bf X.N X.env.scope scope x N ix)(hbody:∀ (cl:List (Str×Addr)) (f c':Addr) (A:Around) (outer:List Env) (s:Shared) (H1:Hp),Dh k (A.deeper (gM qual scope cl s.heap.objs.size f (.ref c')))->PE (Tw X.prog X.w X.K X.mg X.base N qual scope cl f (.ref c') A outer s H1) body te)
  (hfn:X.fn=fun _=>true:=by rfl)(hg:Gl X g:=by rfl)(hco:scope.isCoroutine=false:=by rfl)(hgen:scope.isGenerator=false:=by rfl)(hdef:defaultsOf params X.env=([],[]):=by rfl)
  (hbind:∀ (cl:List (Str×Addr)) (pm cv ctv:Value) (n:Int) (t:Tok),bindArgs (PySem.W.kla_fn "<lambda>" qual params body scope cl pm cv ctv) ⟨[.int n t],[]⟩=pure [(x,.int n t)]:=by intros;rfl)
  (hdb:(g==("__debug__":Str))=false:=by decide)(he1:starEach [a,b,.Lambda params body scope lpos] X.env=(false,eval a X.env)::starEach [b,.Lambda params body scope lpos] X.env:=by rfl)(he2:starEach [b,.Lambda params body scope lpos] X.env=(false,eval b X.env)::starEach [.Lambda params body scope lpos] X.env:=by rfl)
  (he3:starEach [.Lambda params body scope lpos] X.env=[(false,eval (.Lambda params body scope lpos) X.env)]:=by rfl)(hpl:(backTo pos (starEach [b,.Lambda params body scope lpos] X.env)).any (·.1)=false:=by rfl) :
  PE X (.Call (.Name g q) [a,b,.Lambda params body scope lpos] [] pos) (Zp Pt lpos qual ix te ta tb):=by
 obtain ⟨f,fd,F,bb,hm,hk⟩:=F.ex
 exact gU F hr hg hm hk bb ha hbb hfn C hB hcode hq L hco hgen hdef hbind hbody hdb he1 he2 he3 hpl
end
theorem Tk:bootBuiltins "reversed"=some (.type "reversed"):=by decide +kernel
end L2
end
section
namespace HD
open PySem PySem.W PySem.Calls PyProof.Rows
def Hq (tb:String->Option Builtin)(p:Program)(w:World)(m:Nat)(ann:Option Value):Nat->SharedT->Thread->Option SharedT
 | 0,_,_=>none
 | n+1,s,t=>match through t with
  | true=>some s
  | false=>match stepOk m ann t with
   | false=>none
   | true=>match stepT (denote tb) p w s t with
    | some (s',t')=>Hq tb p w m ann n s' t'
    | none=>none
theorem Uk {tb:String->Option Builtin}{p:Program}{w:World}{m:Nat}{ann:Option Value}:∀ {n:Nat} {s s':SharedT} {t:Thread},Hq tb p w m ann n s t=some s'->topRun tb p w m ann n s.abs t=some s'.abs
 | 0,_,_,_,h=>by cases h
 | n+1,s,s',t,h=>by
  unfold Hq at h
  unfold topRun
  cases he:through t with
  | true=>rw [he] at h;cases h;rfl
  | false =>
   rw [he] at h
   cases hk:stepOk m ann t with
   | false=>rw [hk] at h;cases h
   | true =>
    rw [hk] at h
    cases hs:stepT (denote tb) p w s t with
    | none=>rw [hs] at h;cases h
    | some r=>obtain ⟨s₂,t₂⟩:=r;rw [hs] at h;rw [stepT_spec hs];exact Uk h
def kP:List Obj->Nat->BT->BT
 | [],_,t=>t
 | o::l,n,t=>kP l (n+1) (t.ins n o)
noncomputable def R5 (P:Params):BT:=kP (boot_heap P).objs.toList 0 .nil
def bootSize:Nat:=11
noncomputable def bootT (w:World) (os:OsState):SharedT:=⟨R5 w.params,bootSize,(boot_heap w.params).life,#[],boot_drawn,boot_toks,os⟩
def Zu {α:Type}(Yf:Shared->α)(h0:Heap)(p q:Program)(loose:List Str)(s:Shared) :=
 (staticsOk (importedModules p.main.body) h0 s.heap&&namesBound p s.heap&&gensDone s&&laidKept h0 s.heap,
  openSeen q loose (importedModules p.main.body) (fun _=>true) true s,Yf s)
def bothT {α:Type}(Yf:Shared->α)(s0:SharedT)(h0:Heap)(m:Nat)(p q:Program)(loose:List Str)(M:Nat)(w:World) :=
 (Hq treeTable p w m (some (.ref 6)) M s0 (topStub p)).map fun s=>Zu Yf h0 p q loose s.abs
theorem jT (P:Params):absHeap (R5 P) bootSize (boot_heap P).life=boot_heap P:=by kernel_rfl
theorem fV (P:Params):((boot_heap P).isNs mainGlobals&&(#[]:Array GenState).size==0,(boot_heap P).objs.size,(boot_heap P).nsMap mainGlobals "__annotations__")=(true,bootSize,some (.ref 6)):=by kernel_rfl
theorem mW {p q:Program}{loose:List Str}{α:Type}{Yf:Shared->α}{Ya:World->α}{M N:Nat}(e:opening p=plainProg p.main.scope.names)(f:∀ s,fenceModules? p s=some s)(hN:Nat.ble 600 N=true)(le:Nat.ble M N=true)
  (Tm:∀ w:World,(fun os=>bothT Yf (bootT w os) (boot_heap w.params) bootSize p q loose M w)=fun _=>some (true,openGood q loose,Ya w)) :
  LeftO p q loose (fun _=>true) Yf Ya N:=fun w=>by
 obtain ⟨⟨h,gs,d,k,os⟩,e1,e'⟩:=Option.map_eq_some_iff.mp (boot_open e hN f w)
 obtain ⟨rfl,rfl,rfl,rfl⟩:h=boot_heap w.params/\gs=Array.mk []/\d=boot_drawn/\k=boot_toks:=by simpa using e'
 have b:=congrFun (Tm w) os
 unfold bothT at b
 obtain ⟨s,r,l⟩:=Option.map_eq_some_iff.mp b
 have r2:=Uk r
 have r3:=topRun_mono (N-M) _ _ _ _ r2
 rw [show M+(N-M)=N by have:=Nat.le_of_ble_eq_true le;omega] at r3
 have eb:(bootT w os).abs=⟨boot_heap w.params,Array.mk [],boot_drawn,boot_toks,os⟩:=by
  show Shared.mk (absHeap (R5 w.params) bootSize (boot_heap w.params).life) (Array.mk []) boot_drawn boot_toks os=_
  rw [jT]
 rw [eb] at r3
 obtain ⟨z1,z2,z3⟩:_/\_/\_:=by simpa only [Prod.mk.injEq] using fV w.params
 obtain ⟨l1,l2,l3⟩:_/\_/\_:=by simpa only [Zu,Prod.mk.injEq] using l
 have t:topFrom treeTable p w N ⟨boot_heap w.params,Array.mk [],boot_drawn,boot_toks,os⟩=some s.abs:=by
  unfold topFrom
  dsimp only
  rw [z1,z2,z3,r3]
  show (match staticsOk (importedModules p.main.body) (boot_heap w.params) s.abs.heap&&namesBound p s.abs.heap&&gensDone s.abs&&laidKept (boot_heap w.params) s.abs.heap with | true=>_ | false=>_)=_
  rw [l1]
 unfold openEnds
 rw [e1]
 show (topFrom treeTable p w N _).map _=_
 rw [t]
 exact congrArg some (Prod.ext l2 l3)
def recOf:Stmt->DefRec
 | .FunctionDef n a b _ _ _ sc _ _ pos=>⟨n,a,b,sc,pos⟩
 | _=>⟨"",default,[],default,default⟩
end HD
lay_quick HD.bothT
end
section
namespace TW
open PySem PySem.StrLaws PySem.Builtin.Str
end TW
end
section
namespace TW
end TW
namespace TW
end TW
end
section
namespace TW
theorem qH {ds:List Nat}(h:Dok ds){k:Nat}(hk:k<ds.length):eld ds k<k:=by
 by_cases e:eld ds k=-1
 ·omega
 ·obtain ⟨v,e1,e2,_⟩:=En h hk e
  omega
def Bq (ds:List Nat)(k:Nat)(v:Int):List Nat:=(List.range k).filter fun j=>decide (eld ds j=v)
theorem P1 (ds:List Nat)(k:Nat)(v:Int):(Bq ds k v).length<=k:=by
 unfold Bq
 exact Nat.le_trans (List.length_filter_le ..) (by rw [List.length_range];exact Nat.le_refl _)
theorem Fn {ds:List Nat}{k:Nat}{v:Int}(h:eld ds k=v):Bq ds (k+1) v=Bq ds k v++[k]:=by
 unfold Bq
 rw [List.range_succ,List.filter_append,List.filter_cons_of_pos (by simpa using h)]
 rfl
theorem G1 {ds:List Nat}{k:Nat}{v:Int}(h:eld ds k≠v):Bq ds (k+1) v=Bq ds k v:=by
 unfold Bq
 rw [List.range_succ,List.filter_append,List.filter_cons_of_neg (by simpa using h)]
 simp
theorem P7 {ds:List Nat}{k j:Nat}{v:Int}:j∈Bq ds k v↔j<k/\eld ds j=v:=by
 unfold Bq
 rw [List.mem_filter,List.mem_range]
 simp
theorem gK {ds:List Nat}(h:Dok ds){k v:Nat}(hk:k<=ds.length)(hv:k<=v+1):Bq ds k v=[]:=by
 apply List.eq_nil_iff_forall_not_mem.mpr
 intro j hj
 obtain ⟨h1,h2⟩:=P7.mp hj
 have:=qH h (k:=j) (by omega)
 omega
end TW
namespace TW
end TW
namespace TW
end TW
namespace TW
end TW
namespace TW
end TW
end
section
namespace L2
open PySem PySem.Spec PyProof.Rows
section
variable {X:Cx}
theorem cT (K:PySem.W.Frag){X:Cx}(h:X.K=K:=by rfl):Hr X (.builtin "len") (fun xs H Q=>∃ p ys,xs=[.ref p]/\(SqL K H p ys\/SqT K H p ys)/\Q (.int ys.length) H):=by
 subst h
 exact Ar
end
theorem lM {K:PySem.W.Frag}{J:It}{H1:Hp}{fr:St}{tc:TT}{te:TE}{Q:VK}(n:Nat)(f1 f2:Nat->V)(Pv:Addr->Nat->List V->Hp->Prop)(h0:∀ D H,H1 D=none->An H1 H->Pv D 0 [] H)
  (stab:∀ D i ys H xs o,H D=some (.lst xs)->Pv D i ys H->Pv D i ys (upd H D o))(hz:∀ D i ys H,i<n->Pv D i ys H->ys.length<sizeLine)(psame:∀ D i ys H H',An H H'->Pv D i ys H->Pv D i ys H')
  (hgo:∀ i H,i<n->An H1 H->J.go i H)(hy:∀ i H v H',i<n->An H1 H->J.yld i H v H'->∃ a,v=.ref a/\SqT K H' a [f1 i,f2 i]/\An H H')(hst:∀ H,An H1 H->J.stop n H)
  (turn:∀ D i ys H (A:VK) (R:Hp->Prop),i<n->An H1 H->H1 D=none->H D=some (.lst ys)->Pv D i ys H->(∀ y H',An H H'->Pv D (i+1) (ys++[y]) H'->A y H') ->
   tc (some (f1 i)::some (f2 i)::fr) H fun b H3=>if b=true then te (some (f1 i)::some (f2 i)::fr) H3 A else R H3)
  (fin:∀ D ys H,H1 D=none->An H1 H->Pv D n ys H->H D=some (.lst ys)->Q (.ref D) H):Ki K J H1 fr tc te Q:=by
 intro D hD
 refine ⟨fun i m H=>i<=n/\m=n-i/\An H1 H/\∃ ys,H D=some (.lst ys)/\Pv D i ys H,⟨n,Nat.zero_le _,rfl,Al hD,[],Ae,h0 D _ hD (Al hD)⟩,?_⟩
 rintro i m H ⟨hi,rfl,sm,ys,hl,hp⟩
 by_cases h:i=n
 ·subst h
  exact .inl ⟨hst H sm,fin D ys H hD sm hp hl⟩
 ·have hlt:i<n:=Nat.lt_of_le_of_ne hi h
  refine .inr ⟨hgo i H hlt sm,fun v H' hyl=>?_⟩
  obtain ⟨a,rfl,ht,s2⟩:=hy i H v H' hlt sm hyl
  refine ⟨a,_,_,rfl,ht,turn D i ys H' _ _ hlt (sm.trans s2) hD (s2 _ _ hl) (psame _ _ _ _ _ s2 hp) (fun y H4 s4 hp4=>?_)⟩
  refine ⟨ys,s4 _ _ (s2 _ _ hl),hz D i ys _ hlt hp,n-(i+1),by omega,by omega,rfl,fun b u e=>?_,ys++[y],Ae,stab _ _ _ _ _ _ (s4 _ _ (s2 _ _ hl)) hp4⟩
  rw [Aw (Ap e hD)]
  exact s4 _ _ (s2 _ _ (sm _ _ e))
theorem nY {K:PySem.W.Frag}{a b:Addr}{xs ys:List V}{H1:Hp}{fr:St}{tc:TT}{te:TE}{Q:VK}(ha:SqL K H1 a xs)(hb:SqL K H1 b ys)(Pv:Addr->Nat->List V->Hp->Prop)(h0:∀ D H,H1 D=none->An H1 H->Pv D 0 [] H)
  (stab:∀ D i zs H us o,H D=some (.lst us)->Pv D i zs H->Pv D i zs (upd H D o))(hz:∀ D i zs H,i<min xs.length ys.length->Pv D i zs H->zs.length<sizeLine)(psame:∀ D i zs H H',An H H'->Pv D i zs H->Pv D i zs H')
  (turn:∀ D (i:Nat) zs x y H (A:VK) (R:Hp->Prop),xs[i]?=some x->ys[i]?=some y->An H1 H->H1 D=none->H D=some (.lst zs)->Pv D i zs H->(∀ y H',An H H'->Pv D (i+1) (zs++[y]) H'->A y H') ->
   tc (some x::some y::fr) H fun b H3=>if b=true then te (some x::some y::fr) H3 A else R H3)
  (fin:∀ D zs H,H1 D=none->An H1 H->Pv D (min xs.length ys.length) zs H->H D=some (.lst zs)->Q (.ref D) H):Ki K (Itz K a b) H1 fr tc te Q:=by
 refine lM (min xs.length ys.length) (fun i=>xs.getD i .non) (fun i=>ys.getD i .non) Pv h0 stab hz psame (fun i H hi sm=>⟨xs,ys,xs[i]'(by omega),ys[i]'(by omega),sm.seq ha,sm.seq hb,by simp,by simp⟩) (fun i H v H' hi sm h=>?_)
  (fun H sm=>⟨xs,ys,sm.seq ha,sm.seq hb,rfl⟩) (fun D i zs H A R hi sm=>turn D i zs _ _ H A R (by simp [show i<xs.length by omega]) (by simp [show i<ys.length by omega]) sm) fin
 obtain ⟨t,x,y,hn,rfl,h1,h2,rfl⟩:=h
 have e1:=h1 xs (sm.seq ha)
 have e2:=h2 ys (sm.seq hb)
 refine ⟨t,rfl,?_,Al hn⟩
 simp only [List.getD,e1,e2,Option.getD_some]
 exact SqT.of Ae
theorem P8 {K:PySem.W.Frag}{a:Addr}{xs:List V}{H1:Hp}{fr:St}{tc:TT}{te:TE}{Q:VK}(hl:SqL K H1 a xs)(Pv:Nat->List V->Hp->Prop)(h0:∀ H,An H1 H->Pv 0 [] H)
  (stab:∀ i ys H D zs o,H D=some (.lst zs)->Pv i ys H->Pv i ys (upd H D o))(hz:∀ i ys H,i<xs.length->Pv i ys H->ys.length<sizeLine)
  (turn:∀ (i:Nat) ys x H (A:VK) (R:Hp->Prop),xs[i]?=some x->An H1 H->Pv i ys H->(∀ y H',An H H'->Pv (i+1) (ys++[y]) H'->A y H')->tc (some x::fr) H fun b H3=>if b=true then te (some x::fr) H3 A else R H3)
  (fin:∀ D ys H,H1 D=none->An H1 H->Pv xs.length ys H->H D=some (.lst ys)->Q (.ref D) H):Vn (Itl K a) H1 fr tc te Q:=by
 refine kF xs.length (fun i=>xs.getD i .non) Pv h0 stab hz (fun i H hi sm=>⟨xs,xs[i],sm.seq hl,by simp [hi]⟩) (fun i H x H' hi sm h=>⟨?_,h.1⟩) (fun H sm=>⟨xs,sm.seq hl,Nat.le_refl _⟩) (fun i ys H A R hi sm=>turn i ys _ H A R (by simp [hi]) sm) fin
 have:=h.2 xs (sm.seq hl)
 simp [List.getD,this]
open PySem.W
structure lO (P:Program) (w:World) (K:PySem.W.Frag) (mg:Str->Option Value) (base:Heap) (x m:Str) (k:Nat) (ps:List Str) (sp:Sp):Prop where
 ex:∃ (W f:Addr) (fd:FuncData),A9 P w K mg base CX0 k f fd ps sp/\Gw K fd ps []/\mg x=some (.ref W)/\specialIn K (.ref W) "__getattribute__"=some (some (.builtin "type.__getattribute__")) /\
  readsIn K W (.type "type")=true/\findCls K (.ref W) (.type "type") m=some (.val (.ref f))/\keepIn K (.ref f)=true
section
variable {X:Cx} {x m:Str} {k:Nat} {ps:List Str} {sp:Sp} {np apos pos:Pos} {e:Expr} {es:List Expr} {t:TA} {pl:Sem Bool}
theorem oW (M:lO X.prog X.w X.K X.mg X.base x m k ps sp)(hr:Dh k X.A)(hg:Gl X x)(ha:PA X (e::es) t)(hdb:(x==("__debug__":Str))=false:=by decide)
  (hst:starEach (e::es) X.env=(false,eval e X.env)::starEach es X.env:=by rfl)(hpl:(backTo pos (starEach es X.env)).any (·.1)=false:=by rfl)
  (ht:eval (.Call (.Attribute (.Name x np) m apos) (e::es) [] pos) X.env=(do
   let ov <- eval (.Name x np) X.env
   standAt apos.atName
   let (f,first) <- holding [ov] (getMethod ov m pl)
   callWith pos f first (backTo pos (starEach (e::es) X.env)) (backToKw pos (keywordEach [] X.env))):=by rfl) :
  PE X (.Call (.Attribute (.Name x np) m apos) (e::es) [] pos) (eR sp [] E0 t):=by
 obtain ⟨W,f,fd,F,hb,hm,ga,rd,ini,kp⟩:=M.ex
 intro pins s σ H Q I h
 refine methodCall_KW (Nn I hg hm ?_ hdb) ht
 refine method_cls I.kIn ga (cls_value I.kIn rd ini rfl ?_)
 refine callWith_K (h₀:=X.base) I.ok.mod.kin kp (thn (ha pos pins _ σ H _ (I.tok (s.toks+1)) h) fun us s1 ⟨vs,H1,I1,r,q⟩=>⟨I1.kIn,?_⟩) hst hpl
 exact W9 F hr hb .nil Yh I1 r q
end
theorem jY {K:PySem.W.Frag}{J:It}{H1:Hp}{fr:St}{tc:TT}{te:TE}{Q:VK}(n:Nat)(f1 f2:Nat->V)(Pv:Addr->Nat->List V->Hp->Prop)(h0:∀ D H,H1 D=none->An H1 H->Pv D 0 [] H)
  (stab:∀ D i ys H xs o,H D=some (.lst xs)->Pv D i ys H->Pv D i ys (upd H D o))(hz:∀ D i ys H,i<n->Pv D i ys H->ys.length<sizeLine)(psame:∀ D i ys H H',An H H'->Pv D i ys H->Pv D i ys H')
  (hgo:∀ i H,i<n->An H1 H->J.go i H)(hy:∀ i H v H',i<n->An H1 H->J.yld i H v H'->∃ a,v=.ref a/\SqT K H' a [f1 i,f2 i]/\An H H')(hst:∀ H,An H1 H->J.stop n H)
  (turn:∀ D i ys H (A:VK) (R:Hp->Prop),i<n->An H1 H->H1 D=none->H D=some (.lst ys)->Pv D i ys H->(∀ H',An H H'->Pv D (i+1) ys H'->R H')->(∀ y H',An H H'->Pv D (i+1) (ys++[y]) H'->A y H') ->
   tc (some (f1 i)::some (f2 i)::fr) H fun b H3=>if b=true then te (some (f1 i)::some (f2 i)::fr) H3 A else R H3)
  (fin:∀ D ys H,H1 D=none->An H1 H->Pv D n ys H->H D=some (.lst ys)->Q (.ref D) H):Ki K J H1 fr tc te Q:=by
 intro D hD
 refine ⟨fun i m H=>i<=n/\m=n-i/\An H1 H/\∃ ys,H D=some (.lst ys)/\Pv D i ys H,⟨n,Nat.zero_le _,rfl,Al hD,[],Ae,h0 D _ hD (Al hD)⟩,?_⟩
 rintro i m H ⟨hi,rfl,sm,ys,hl,hp⟩
 by_cases h:i=n
 ·subst h
  exact .inl ⟨hst H sm,fin D ys H hD sm hp hl⟩
 ·have hlt:i<n:=Nat.lt_of_le_of_ne hi h
  refine .inr ⟨hgo i H hlt sm,fun v H' hyl=>?_⟩
  obtain ⟨a,rfl,ht,s2⟩:=hy i H v H' hlt sm hyl
  refine ⟨a,_,_,rfl,ht,turn D i ys H' _ _ hlt (sm.trans s2) hD (s2 _ _ hl) (psame _ _ _ _ _ s2 hp) (fun H3 s3 hp3=>?_) (fun y H4 s4 hp4=>?_)⟩
  ·exact ⟨n-(i+1),by omega,by omega,rfl,(sm.trans s2).trans s3,ys,s3 _ _ (s2 _ _ hl),hp3⟩
  refine ⟨ys,s4 _ _ (s2 _ _ hl),hz D i ys _ hlt hp,n-(i+1),by omega,by omega,rfl,fun b u e=>?_,ys++[y],Ae,stab _ _ _ _ _ _ (s4 _ _ (s2 _ _ hl)) hp4⟩
  rw [Aw (Ap e hD)]
  exact s4 _ _ (s2 _ _ (sm _ _ e))
end L2
end
section
namespace HD
open PySem PySem.W PySem.Calls PyProof.Rows
def oneA (s0:SharedT)(h0:Heap)(m:Nat)(p:Program)(M:Nat)(w:World) :=
 (Hq treeTable p w m (some (.ref 6)) M s0 (topStub p)).map fun s=>staticsOk (importedModules p.main.body) h0 s.abs.heap&&namesBound p s.abs.heap&&gensDone s.abs&&laidKept h0 s.abs.heap
def oneB (s0:SharedT)(m:Nat)(p q:Program)(loose:List Str)(M:Nat)(w:World) :=
 (Hq treeTable p w m (some (.ref 6)) M s0 (topStub p)).map fun s=>openSeen q loose (importedModules p.main.body) (fun _=>true) true s.abs
def kD {α:Type}(Yf:Shared->α)(s0:SharedT)(m:Nat)(p:Program)(M:Nat)(w:World) :=
 (Hq treeTable p w m (some (.ref 6)) M s0 (topStub p)).map fun s=>Yf s.abs
theorem tW {α:Type}{Yf:Shared->α}{s0:SharedT}{h0:Heap}{m:Nat}{p q:Program}{loose:List Str}{M:Nat}{w:World}{a:α}
  (hA:oneA s0 h0 m p M w=some true)(hB:oneB s0 m p q loose M w=some (openGood q loose))(hC:kD Yf s0 m p M w=some a) :
  bothT Yf s0 h0 m p q loose M w=some (true,openGood q loose,a):=by
 unfold oneA at hA
 unfold oneB at hB
 unfold kD at hC
 unfold bothT Zu
 obtain ⟨s,r,l⟩:=Option.map_eq_some_iff.mp hA
 rw [r] at hB hC ⊢
 have hB:=Option.some.inj hB
 have hC:=Option.some.inj hC
 exact congrArg some (Prod.ext l (Prod.ext hB hC))
theorem left_of3 {p q:Program}{loose:List Str}{α:Type}{Yf:Shared->α}{Ya:World->α}{M N:Nat}(e:opening p=plainProg p.main.scope.names)(f:∀ s,fenceModules? p s=some s)(hN:Nat.ble 600 N=true)(le:Nat.ble M N=true)
  (hA:∀ w:World,(fun os=>oneA (bootT w os) (boot_heap w.params) bootSize p M w)=fun _=>some true)(hB:∀ w:World,(fun os=>oneB (bootT w os) bootSize p q loose M w)=fun _=>some (openGood q loose))
  (hC:∀ w:World,(fun os=>kD Yf (bootT w os) bootSize p M w)=fun _=>some (Ya w)):LeftO p q loose (fun _=>true) Yf Ya N :=
 mW e f hN le fun w=>funext fun os=>tW (congrFun (hA w) os) (congrFun (hB w) os) (congrFun (hC w) os)
def Yw (s:SharedT)(a:Nat):Option Obj:=match Nat.blt a s.n with
 | true=>(match s.tree.get a with
  | some o=>alive o
  | none=>none)
 | false=>none
theorem iZ {s:SharedT}{a:Nat}{o:Obj}(h:Yw s a=some o):s.abs.heap.get? a=some o:=by
 unfold Yw at h
 cases hb:Nat.blt a s.n with
 | false=>rw [hb] at h;cases h
 | true =>
  rw [hb] at h
  cases hg:s.tree.get a with
  | none=>rw [hg] at h;cases h
  | some u =>
   rw [hg] at h
   have hlt:a<s.n:=by
    have:=Nat.le_of_ble_eq_true hb
    omega
   exact (abs_get hlt hg).trans h
theorem Sg {s:SharedT}:∀ {as:List Nat} {L:List (Option Obj)},(∀ x∈L,x.isSome=true)->as.map (Yw s)=L->as.map s.abs.heap.get?=L
 | [],L,_,e=>e
 | a::as,[],_,e=>by cases e
 | a::as,x::L,h,e=>by
  obtain ⟨e1,e2⟩:=List.cons.inj e
  obtain ⟨o,ho⟩:=Option.isSome_iff_exists.mp (h x List.mem_cons_self)
  subst ho
  show s.abs.heap.get? a::as.map s.abs.heap.get?=_
  rw [iZ e1,Sg (fun y hy=>h y (List.mem_cons_of_mem _ hy)) e2]
def oneP (as ts:List Addr)(s0:SharedT)(m:Nat)(p:Program)(M:Nat)(w:World) :=
 (Hq treeTable p w m (some (.ref 6)) M s0 (topStub p)).map fun s=>(as.map (Yw s),ts.map (Yw s))
theorem hC_km {K:Params->Frag}{as:List Addr}{e:∀ P,as=(K P).map (·.1)}{ts:List Addr}{p:Program}{M:Nat}
  (h:∀ w:World,(fun os=>oneP as ts (bootT w os) bootSize p M w)=fun _=>some ((K w.params).map fun q=>some q.2,ts.map fun _=>some (tabObj #[]))) :
  ∀ w:World,(fun os=>kD (kmHook K as e ts).obs (bootT w os) bootSize p M w)=fun _=>some ((kmHook K as e ts).val w):=fun w=>funext fun os=>by
 have h:=congrFun (h w) os
 unfold oneP at h
 unfold kD
 obtain ⟨s,r,l⟩:=Option.map_eq_some_iff.mp h
 obtain ⟨l1,l2⟩:=Prod.mk.inj l
 rw [r]
 show some (as.map s.abs.heap.get?,ts.map s.abs.heap.get?)=some ((K w.params).map fun q=>some q.2,ts.map fun _=>some (tabObj #[]))
 rw [Sg (fun x hx=>by obtain ⟨q,_,rfl⟩:=List.mem_map.mp hx;rfl) l1,Sg (fun x hx=>by obtain ⟨q,_,rfl⟩:=List.mem_map.mp hx;rfl) l2]
end HD
lay_quick HD.oneP
theorem HD.oneP_eq:@HD.oneP=@PySem.W.Fast.tw13831889492591282369:=PySem.W.Fast.te13831889492591282369
lay_quick HD.oneA
lay_quick HD.oneB
theorem HD.oneA_eq:@HD.oneA=@PySem.W.Fast.tw6247638121477898359:=PySem.W.Fast.te6247638121477898359
theorem HD.oneB_eq:@HD.oneB=@PySem.W.Fast.tw4394042064226896843:=PySem.W.Fast.te4394042064226896843
end
section
namespace L2
open PySem PySem.Spec PyProof.Rows
theorem cV:typeLookup (.type "zip") "__len__"=pure none:=by rw [typeLookup_type,builtinLookup_eq_fast];kernel_rfl
theorem Y4:typeLookup (.type "zip") "__length_hint__"=pure none:=by rw [typeLookup_type,builtinLookup_eq_fast];kernel_rfl
def N8 (h:Heap)(lo:Nat)(xs ys acc:Array Value):Prop:=(∀ (j:Nat) v,acc[j]?=some v->∃ T x y,v=Value.ref T/\lo<=T/\xs[j]?=some x/\ys[j]?=some y/\IsPair h T x y)/\∀ (j k:Nat) v,acc[j]?=some v->acc[k]?=some v->j=k
theorem N8.keep {h h':Heap}{lo:Nat}{xs ys acc:Array Value}(p:N8 h lo xs ys acc)(k:∀ b o,lo<=b->h.get? b=some o->h'.get? b=some o):N8 h' lo xs ys acc:=⟨fun j v e=>by
 obtain ⟨T,x,y,e1,e2,e3,e4,e5⟩:=p.1 j v e
 exact ⟨T,x,y,e1,e2,e3,e4,k _ _ e2 e5⟩,p.2⟩
theorem N8.push {h:Heap}{lo T:Nat}{x y:Value}{xs ys acc:Array Value}(p:N8 h lo xs ys acc)(hn:∀ j:Nat,acc[j]?≠some (.ref T))(hT:lo<=T)(hx:xs[acc.size]?=some x)(hy:ys[acc.size]?=some y)(hp:IsPair h T x y):N8 h lo xs ys (acc.push (.ref T)):=by
 refine ⟨fun j v e=>?_,fun j k v e1 e2=>?_⟩
 ·rw [Array.getElem?_push] at e
  by_cases hj:j=acc.size
  ·rw [if_pos hj] at e
   cases e
   rw [hj]
   exact ⟨T,x,y,rfl,hT,hx,hy,hp⟩
  ·rw [if_neg hj] at e
   exact p.1 j v e
 ·rw [Array.getElem?_push] at e1 e2
  by_cases hj:j=acc.size
  ·by_cases hk:k=acc.size
   ·rw [hj,hk]
   ·rw [if_pos hj] at e1
    rw [if_neg hk] at e2
    cases e1
    exact absurd e2 (hn k)
  ·by_cases hk:k=acc.size
   ·rw [if_neg hj] at e1
    rw [if_pos hk] at e2
    cases e2
    exact absurd e1 (hn j)
   ·rw [if_neg hj] at e1
    rw [if_neg hk] at e2
    exact p.2 j k v e1 e2
theorem N8.below {h:Heap}{lo:Nat}{xs ys acc:Array Value}(p:N8 h lo xs ys acc)(j:Nat):acc[j]?≠some (.ref h.objs.size):=fun e=>by
 obtain ⟨T,x,y,e1,_,_,_,e5⟩:=p.1 j _ e
 cases e1
 exact Nat.lt_irrefl _ (Heap.lt_size e5)
section
variable {prog:Program} {w:World} {A:Around} {E:Value->Shared->Prop} {R:Result->Shared->Prop}
abbrev kG (acc:Array Value)(c:Nat):Obj:={ cls:=.type "list",dict:=none,data:=.seq acc c,slots:=#[] }
theorem qO {S z TI TO i1 i2 l1 l2 T lo:Addr}{xs ys:Array Value}(D:DzA S z TI TO i1 i2 l1 l2)(hTz:T≠z)(hT1:T≠i1)(hT2:T≠i2)(hTS:T≠S)(hlo:z<lo/\i1<lo/\i2<lo/\S<lo)(hh:A.handled=none)(he:xs.size=ys.size)(hsz:xs.size<=sizeLine) :
  ∀ (m i:Nat) (s:Shared) (c:Bool) (acc:Array Value) (n:Nat) (oT:Obj),xs.size-i=m->i<=xs.size->Nh s.heap z TI TO T c->s.heap.get? T=some oT->IsPair s.heap TI (.ref i1) (.ref i2) ->
   s.heap.IsListIter i1 l1 i->s.heap.IsListIter i2 l2 i->s.heap.IsList l1 xs->s.heap.IsList l2 ys->s.heap.get? S=some (kG acc n)->acc.size=i->N8 s.heap lo xs ys acc->lo<=s.heap.objs.size ->
   (∀ h' acc' n',h'.get? S=some (kG acc' n')->acc'.size=xs.size->N8 h' lo xs ys acc'->(∀ b o,b≠z->b≠i1->b≠i2->b≠S->s.heap.get? b=some o->h'.get? b=some o)->R (.ok (.ret .none)) { s with heap:=h' }) ->
   codeAny (model prog w) A (.builtin "list.extend.loop" ⟨[.ref S,.ref z,.none],[]⟩) R s:=by
 have far:∀ b,lo<=b->b≠z/\b≠i1/\b≠i2/\b≠S:=fun b hb=>⟨Nat.ne_of_gt (Nat.lt_of_lt_of_le hlo.1 hb),Nat.ne_of_gt (Nat.lt_of_lt_of_le hlo.2.1 hb),Nat.ne_of_gt (Nat.lt_of_lt_of_le hlo.2.2.1 hb),Nat.ne_of_gt (Nat.lt_of_lt_of_le hlo.2.2.2 hb)⟩
 intro m
 induction m with
 | zero =>
  intro i s c acc n oT hm hi hz hT hTI h1 h2 hl1 hl2 hS hac hp hls q
  refine codeAny_builtin PySem.F.entry_extend_loop ?_
  rw [Around.under_plainId PySem.F.plain_extend_loop _]
  show wpAny _ A.in1 (pyNext (.ref z) >>= _) _ _ s
  refine wpAny_bind (gW (by exact hh) D.za hz hT hTI h1 hl1 (Array.getElem?_eq_none (by omega)) fun h' kp=>?_)
  refine wpAny_pure ?_
  exact q h' acc n (kp _ _ D.dz D.d1 D.d2 hS) (by omega) (hp.keep fun b o hb e=>kp b o (far b hb).1 (far b hb).2.1 (far b hb).2.2.1 e) fun b o b1 b2 b3 _ e=>kp b o b1 b2 b3 e
 | succ m ih =>
  intro i s c acc n oT hm hi hz hT hTI h1 h2 hl1 hl2 hS hac hp hls q
  obtain ⟨x,hx⟩:∃ x,xs[i]?=some x:=⟨_,Array.getElem?_eq_getElem (show i<xs.size by omega)⟩
  obtain ⟨y,hy⟩:∃ y,ys[i]?=some y:=⟨_,Array.getElem?_eq_getElem (show i<ys.size by omega)⟩
  refine codeAny_builtin PySem.F.entry_extend_loop ?_
  rw [Around.under_plainId PySem.F.plain_extend_loop _]
  show wpAny _ A.in1 (pyNext (.ref z) >>= _) _ _ s
  refine wpAny_bind (fM D.za hz hT hTI h1 h2 hl1 hl2 hx hy fun h' hz' h1' h2' hpr hsz' kp=>?_)
  have hS':=kp _ _ D.dz D.d1 D.d2 hS
  show wpAny _ A.in1 (updateSeq S (·.push (.ref s.heap.objs.size)) >>= _) _ _ _
  refine wpAny_bind ?_
  have oth:∀ b o,b≠S->h'.get? b=some o->(h'.update S (Obj.mapSeq (·.push (.ref s.heap.objs.size)))).get? b=some o:=fun b o hb e=>(Heap.get?_update_other _ _ (Ne.symm hb)).trans e
  have k2:∀ b o,b≠z->b≠i1->b≠i2->b≠S->s.heap.get? b=some o->(h'.update S (Obj.mapSeq (·.push (.ref s.heap.objs.size)))).get? b=some o:=fun b o b1 b2 b3 b4 e=>oth b o b4 (kp b o b1 b2 b3 e)
  refine wpAny_updateSeq hS' rfl (wpAny_pure ⟨plainId_quiet PySem.F.plain_extend_loop _,?_⟩) (by rw [hac];omega) (by show (acc.push _).size<=sizeLine+1;rw [Array.size_push,hac];omega)
  refine ih (i+1) _ true (acc.push (.ref s.heap.objs.size)) _ oT (by omega) (by omega) (oth _ _ D.dz.symm hz') (k2 _ _ hTz hT1 hT2 hTS hT) (k2 _ _ D.za.TIz D.za.TIi1 D.za.TIi2 D.dI.symm hTI) (h1'.at fun o e=>oth _ o D.d1.symm e) (h2'.at fun o e=>oth _ o D.d2.symm e)
   (hl1.at fun o e=>k2 _ o D.za.l1z D.za.l1i1 D.za.l1i2 D.dl.symm e) (hl2.at fun o e=>k2 _ o D.za.l2z D.za.l2i1 D.za.l2i2 D.dm.symm e) (Heap.get?_update_self _ hS' rfl) (by rw [Array.size_push,hac]) ?_ (by rw [Heap.size_update,hsz'];exact Nat.le_succ_of_le hls) fun h3 acc' n' hS3 hac3 hp3 kp3=>?_
  ·have far1:=far _ hls
   refine ((hp.keep fun b o hb e=>kp b o (far b hb).1 (far b hb).2.1 (far b hb).2.2.1 e).push hp.below hls (by rw [hac];exact hx) (by rw [hac];exact hy) hpr).keep fun b o hb e=>oth b o (far b hb).2.2.2 e
  ·exact q h3 acc' n' hS3 hac3 hp3 fun b o b1 b2 b3 b4 e=>kp3 b o b1 b2 b3 b4 (k2 b o b1 b2 b3 b4 e)
theorem gI {s:Shared}{S z TI TO i1 i2 l1 l2 lo:Addr}{a b:Value}{xs ys:Array Value}{n:Nat}(D:DzA S z TI TO i1 i2 l1 l2)(hlo:z<lo/\i1<lo/\i2<lo/\S<lo/\TO<lo)(hh:A.handled=none)(he:xs.size=ys.size)(hsz:xs.size<=sizeLine)
  (hz:IsZip s.heap z TI TO .none)(hTO:IsPair s.heap TO a b)(hTI:IsPair s.heap TI (.ref i1) (.ref i2))(h1:s.heap.IsListIter i1 l1 0)(h2:s.heap.IsListIter i2 l2 0)(hl1:s.heap.IsList l1 xs)(hl2:s.heap.IsList l2 ys)(hS:s.heap.get? S=some (kG #[] n))(hls:lo<=s.heap.objs.size)
  (q:∀ h' acc' n',h'.get? S=some (kG acc' n')->acc'.size=xs.size->N8 h' lo xs ys acc'->(∀ b o,b≠z->b≠TO->b≠i1->b≠i2->b≠S->s.heap.get? b=some o->h'.get? b=some o)->R (.ok (.ret .none)) { s with heap:=h' }) :
  codeAny (model prog w) A (.builtin "list.extend.loop" ⟨[.ref S,.ref z,.none],[]⟩) R s:=by
 have far:∀ b,lo<=b->b≠z/\b≠i1/\b≠i2/\b≠S/\b≠TO:=fun b hb=>⟨Nat.ne_of_gt (Nat.lt_of_lt_of_le hlo.1 hb),Nat.ne_of_gt (Nat.lt_of_lt_of_le hlo.2.1 hb),Nat.ne_of_gt (Nat.lt_of_lt_of_le hlo.2.2.1 hb),Nat.ne_of_gt (Nat.lt_of_lt_of_le hlo.2.2.2.1 hb),Nat.ne_of_gt (Nat.lt_of_lt_of_le hlo.2.2.2.2 hb)⟩
 refine codeAny_builtin PySem.F.entry_extend_loop ?_
 rw [Around.under_plainId PySem.F.plain_extend_loop _]
 show wpAny _ A.in1 (pyNext (.ref z) >>= _) _ _ s
 rcases Nat.eq_zero_or_pos xs.size with h0 | h0
 ·refine wpAny_bind (wpAny_pyNext_zip_end (by exact hh) D.za hz hTI hTO h1 h2 hl1 hl2 (.inl (Array.getElem?_eq_none (by omega))) fun h' kp=>?_)
  refine wpAny_pure ?_
  exact q h' #[] n (kp _ _ D.dz D.dO D.d1 D.d2 hS) (by rw [h0];rfl) ⟨fun j v e=>by simp at e,fun j k v e=>by simp at e⟩ fun b o b1 b2 b3 b4 _ e=>kp b o b1 b2 b3 b4 e
 ·obtain ⟨x,hx⟩:∃ x,xs[0]?=some x:=⟨_,Array.getElem?_eq_getElem h0⟩
  obtain ⟨y,hy⟩:∃ y,ys[0]?=some y:=⟨_,Array.getElem?_eq_getElem (show 0<ys.size by omega)⟩
  refine wpAny_bind (wpAny_pyNext_zip_item D.za hz hTI hTO h1 h2 hl1 hl2 hx hy fun h' hz' _ h1' h2' hpr hsz' kp=>?_)
  have hS':=kp _ _ D.dz D.dO D.d1 D.d2 hS
  have lt:∀ {c o},s.heap.get? c=some o->s.heap.objs.size≠c:=fun e=>Nat.ne_of_gt (Heap.lt_size e)
  show wpAny _ A.in1 (updateSeq S (·.push (.ref s.heap.objs.size)) >>= _) _ _ _
  refine wpAny_bind ?_
  have oth:∀ b o,b≠S->h'.get? b=some o->(h'.update S (Obj.mapSeq (·.push (.ref s.heap.objs.size)))).get? b=some o:=fun b o hb e=>(Heap.get?_update_other _ _ (Ne.symm hb)).trans e
  have k2:∀ b o,b≠z->b≠TO->b≠i1->b≠i2->b≠S->s.heap.get? b=some o->(h'.update S (Obj.mapSeq (·.push (.ref s.heap.objs.size)))).get? b=some o:=fun b o b1 b2 b3 b5 b4 e=>oth b o b4 (kp b o b1 b2 b3 b5 e)
  refine wpAny_updateSeq hS' rfl (wpAny_pure ⟨plainId_quiet PySem.F.plain_extend_loop _,?_⟩) (by show (#[]:Array Value).size<=_;exact Nat.zero_le _) (by show ((#[]:Array Value).push _).size<=sizeLine+1;rw [Array.size_push];exact Nat.succ_le_succ (Nat.zero_le _))
  refine qO (T:=s.heap.objs.size) D (lt hz) (by obtain ⟨_,e,_⟩:=h1;exact lt e) (by obtain ⟨_,e,_⟩:=h2;exact lt e) (lt hS) ⟨hlo.1,hlo.2.1,hlo.2.2.1,hlo.2.2.2.1⟩ hh he hsz _ 1 _ false ((#[]:Array Value).push (.ref s.heap.objs.size)) _ _ rfl h0 (oth _ _ D.dz.symm hz') (oth _ _ (lt hS) hpr) (k2 _ _ D.za.TIz D.za.TITO D.za.TIi1 D.za.TIi2 D.dI.symm hTI) (h1'.at fun o e=>oth _ o D.d1.symm e) (h2'.at fun o e=>oth _ o D.d2.symm e)
   (hl1.at fun o e=>k2 _ o D.za.l1z D.za.l1TO D.za.l1i1 D.za.l1i2 D.dl.symm e) (hl2.at fun o e=>k2 _ o D.za.l2z D.za.l2TO D.za.l2i1 D.za.l2i2 D.dm.symm e) (Heap.get?_update_self _ hS' rfl) rfl ?_ (by rw [Heap.size_update,hsz'];exact Nat.le_succ_of_le hls) fun h3 acc' n' hS3 hac3 hp3 kp3=>?_
  ·refine (N8.push (acc:=#[]) ⟨fun j v e=>by simp at e,fun j k v e=>by simp at e⟩ (fun j e=>by simp at e) hls hx hy hpr).keep fun b o hb e=>oth b o (far b hb).2.2.2.1 e
  ·exact q h3 acc' n' hS3 hac3 hp3 fun b o b1 b2 b3 b5 b4 e=>kp3 b o b1 b3 b5 b4 (k2 b o b1 b2 b3 b5 b4 e)
theorem Tl {s:Shared}{z TI TO i1 i2 l1 l2:Addr}{a b:Value}{xs ys:Array Value}{Q:Value->Shared->Prop}(D:ZipApart z TI TO i1 i2 l1 l2)(hh:A.handled=none)(he:xs.size=ys.size)(hsz:xs.size<=sizeLine)
  (hz:IsZip s.heap z TI TO .none)(hTO:IsPair s.heap TO a b)(hTI:IsPair s.heap TI (.ref i1) (.ref i2))(h1:s.heap.IsListIter i1 l1 0)(h2:s.heap.IsListIter i2 l2 0)(hl1:s.heap.IsList l1 xs)(hl2:s.heap.IsList l2 ys)
  (q:∀ h' acc' n',h'.get? s.heap.objs.size=some (kG acc' n')->acc'.size=xs.size->N8 h' (s.heap.objs.size+1) xs ys acc'->(∀ b o,b≠z->b≠TO->b≠i1->b≠i2->s.heap.get? b=some o->h'.get? b=some o)->Q (.ref s.heap.objs.size) { s with heap:=h' }) :
  wpAny (model prog w) A (call (.type "list") [.ref z]) Q E s:=by
 refine callType_codes (Q₁:=fun obj s₁=>obj=.ref s.heap.objs.size/\s₁={ s with heap:=s.heap.push { cls:=.type "list",data:=.seq #[] } }) PySem.F.called_list (PySem.F.typeCall_list_1 _) PySem.F.entry_list_init (code_list_new _ ⟨rfl,rfl⟩) ?_
 rintro obj s₁ ⟨rfl,rfl⟩
 have hS:(s.heap.push { cls:=.type "list",data:=.seq #[] }).get? s.heap.objs.size=some { cls:=.type "list",data:=.seq #[] }:=Heap.get?_push_size _ rfl
 have up:∀ b o,s.heap.get? b=some o->(s.heap.push { cls:=.type "list",data:=.seq #[] }).get? b=some o:=fun b o e=>Heap.get?_push_of_some _ e
 have lt:∀ {c o},s.heap.get? c=some o->s.heap.objs.size≠c:=fun e=>Nat.ne_of_gt (Heap.lt_size e)
 refine ⟨⟨_,hS,rfl⟩,PySem.F.args_list_init_2 _ _,?_⟩
 show wpAny _ _ (do let old <- Builtin.List.listItems (.ref s.heap.objs.size);Builtin.List.listUpdate (.ref s.heap.objs.size) (fun _=>#[]);letGo old.toList.reverse;Builtin.List.listExtendWith (.ref s.heap.objs.size) (.ref z) .none) _ _ _
 refine wpAny_bind ?_
 unfold Builtin.List.listItems
 refine wpAny_bind (wpAny_seqItems hS rfl (wpAny_pure ?_))
 show wpAny _ _ (updateSeq s.heap.objs.size (fun _=>#[]) >>= fun _=>letGo (#[]:Array Value).toList.reverse >>= fun _=>Builtin.List.listExtendWith (.ref s.heap.objs.size) (.ref z) .none) _ _ _
 refine wpAny_bind (wpAny_updateSeq hS rfl ?_)
 have hS₂:=Heap.get?_update_self (Obj.mapSeq (fun _=>(#[]:Array Value))) hS rfl
 have oth:∀ b o,s.heap.get? b=some o->((s.heap.push { cls:=.type "list",data:=.seq #[] }).update s.heap.objs.size (Obj.mapSeq (fun _=>(#[]:Array Value)))).get? b=some o :=
  fun b o e=>(Heap.get?_update_other _ _ (lt e)).trans (up b o e)
 refine wpAny_bind (wpAny_letGo ?_)
 unfold Builtin.List.listExtendWith
 have hzT:=oth _ _ hz
 refine wpAny_bind (wpAny_typeOf (T:="zip") ⟨_,hzT,rfl⟩ ?_)
 have g1:Builtin.List.listSameRef (.ref s.heap.objs.size) (.ref z)=false:=by simp [Builtin.List.listSameRef,lt hz]
 have g2:(Value.type "zip"==Value.type "list")=false:=by decide
 have g3:(Value.type "zip"==Value.type "tuple")=false:=by decide
 simp only [g1,g2,g3,Bool.or_false,Bool.false_eq_true,if_false]
 refine wpAny_bind (wpAny_pyIter_zip hzT ?_)
 refine wpAny_bind (wpAny_holding ?_)
 unfold Builtin.List.listLengthHint
 refine wpAny_bind (wpAny_specialOf (T:="zip") ⟨_,hzT,rfl⟩ cV ?_)
 show wpAny _ _ (specialOf (Value.ref z) (Str.ofString "__length_hint__") >>= _) _ _ _
 refine wpAny_bind (wpAny_specialOf (T:="zip") ⟨_,hzT,rfl⟩ Y4 ?_)
 refine wpAny_pure ?_
 show wpAny _ _ (rule "list.extend.makes-room" >>= fun _=>Builtin.List.listTouch (.ref s.heap.objs.size) >>= fun _ =>
  again (.builtin "list.extend.loop" ⟨[.ref s.heap.objs.size,.ref z,.none],[]⟩)) _ _ _
 refine wpAny_bind (wpAny_rule ?_)
 refine wpAny_bind ?_
 show wpAny _ _ (updateSeq s.heap.objs.size (·.push .none) >>= fun _=>updateSeq s.heap.objs.size (·.pop)) _ _ _
 refine wpAny_bind (wpAny_updateSeq hS₂ rfl ?_)
 have hS₃:=Heap.get?_update_self (Obj.mapSeq (·.push Value.none)) hS₂ rfl
 refine wpAny_updateSeq (hz:=by seq_fits) hS₃ rfl ?_
 have hS₄:=Heap.get?_update_self (Obj.mapSeq (·.pop)) hS₃ rfl
 have up2:∀ b o,s.heap.get? b=some o->((((s.heap.push { cls:=.type "list",data:=.seq #[] }).update s.heap.objs.size (Obj.mapSeq (fun _=>(#[]:Array Value)))).update s.heap.objs.size (Obj.mapSeq (·.push Value.none))).update s.heap.objs.size (Obj.mapSeq (·.pop))).get? b=some o :=
  fun b o e=>(Heap.get?_update_other _ _ (lt e)).trans ((Heap.get?_update_other _ _ (lt e)).trans (oth b o e))
 have ltS:∀ {c o},s.heap.get? c=some o->c<s.heap.objs.size+1:=fun e=>Nat.lt_succ_of_lt (Heap.lt_size e)
 refine wpAny_pure ⟨plainId_quiet PySem.F.plain_extend_loop _,?_⟩
 refine gI (a:=a) (b:=b) (lo:=s.heap.objs.size+1) (xs:=xs) (ys:=ys) ⟨D,lt hz,lt hTI,lt hTO,?_,?_,?_,?_⟩ ⟨ltS hz,?_,?_,Nat.lt_succ_self _,ltS hTO⟩ (by exact hh) he hsz (up2 _ _ hz) (up2 _ _ hTO) (up2 _ _ hTI) (h1.at fun o e=>up2 _ o e) (h2.at fun o e=>up2 _ o e) (hl1.at fun o e=>up2 _ o e) (hl2.at fun o e=>up2 _ o e) hS₄ ?_ fun h3 acc' n' hS3 hac3 hp3 kp3=>?_
 ·obtain ⟨_,e,_⟩:=h1;exact lt e
 ·obtain ⟨_,e,_⟩:=h2;exact lt e
 ·obtain ⟨_,e,_⟩:=hl1;exact lt e
 ·obtain ⟨_,e,_⟩:=hl2;exact lt e
 ·obtain ⟨_,e,_⟩:=h1;exact ltS e
 ·obtain ⟨_,e,_⟩:=h2;exact ltS e
 ·rw [Heap.size_update,Heap.size_update,Heap.size_update,Heap.size_push]
  exact Nat.le_refl _
 ·exact ⟨rfl,q h3 acc' n' hS3 hac3 hp3 fun b o b1 b2 b3 b4 e=>kp3 b o b1 b2 b3 b4 (lt e).symm (up2 _ _ e)⟩
end
def O4 (N H:Hp):Hp:=fun b=>match N b with | some o=>some o | none=>H b
theorem N0 {N H:Hp}{b:Addr}{o:HO}(h:N b=some o):O4 N H b=some o:=by unfold O4;rw [h]
theorem Oz {N H:Hp}{b:Addr}(h:N b=none):O4 N H b=H b:=by unfold O4;rw [h]
theorem R8 {N H:Hp}(h:∀ b o,N b=some o->H b=none):An H (O4 N H):=fun b o e=>by
 cases hN:N b with
 | none=>rw [Oz hN];exact e
 | some u=>rw [h b u hN] at e;cases e
theorem Inv.laidN {X:Cx}{pins:List (Addr×Obj)}{σ:St}{H N:Hp}{s:Shared}{h':Heap}{t':Nat}(I:Inv X pins σ H s)(k:∀ b u,s.heap.get? b=some u->h'.get? b=some u)(hp:∀ b o,N b=some o->s.heap.objs.size<=b)
  (new:∀ b o,N b=some o->Eu X.prog X.w (O4 N H) h' b o):Inv X pins σ (O4 N H) { s with heap:=h',toks:=t' }:=by
 have hn:∀ b o,N b=some o->H b=none:=fun b o e=>I.hok.fresh (hp b o e)
 have sm:=R8 hn
 have old:∀ b u,s.heap.get? b=some u->N b=none:=fun b u e=>by
  cases hN:N b with
  | none=>rfl
  | some o=>exact absurd (Heap.lt_size e) (Nat.not_lt.mpr (hp b o hN))
 refine I.un ⟨fun b u q _ _ _=>k b u q,fun b u q _ _ _=>⟨u.slots,k b u q⟩,fun b u q n _=>by rw [Oz (old b u q)];exact n,fun b u q _=>⟨u,k b u q⟩,fun b xs q=>sm _ _ q,fun b u xs q=>sm _ _ q,fun b ps q=>⟨#[],by rw [sm _ _ q];simp⟩⟩ fun b o e=>?_
 cases hN:N b with
 | some u =>
  rw [N0 hN] at e
  cases e
  exact new b _ hN
 | none =>
  rw [Oz hN] at e
  exact (I.hok b o e).stay (fun c v _ q=>k c v q) (fun c q=>sm _ _ q) fun c xs q=>sm _ _ q
def uF:Value->Addr
 | .ref a=>a
 | _=>0
def pN (H1 H':Hp)(as:List Addr)(xs ys:List V):Prop:=as.length=xs.length/\∀ (i:Nat) t x y,as[i]?=some t->xs[i]?=some x->ys[i]?=some y->H1 t=none/\H' t=some (.tup [x,y])
def X5:List Addr->List V->List V->Hp
 | t::as,x::xs,y::ys=>fun b=>if b=t then some (.tup [x,y]) else X5 as xs ys b
 | _,_,_=>fun _=>none
theorem eU:∀ {as:List Addr} {xs ys:List V},(∀ (j k:Nat) t,as[j]?=some t->as[k]?=some t->j=k)->∀ (i:Nat) t x y,as[i]?=some t->xs[i]?=some x->ys[i]?=some y->X5 as xs ys t=some (.tup [x,y])
 | [],_,_,_,_,_,_,_,e,_,_=>by cases e
 | _::_,[],_,_,_,_,_,_,_,e,_=>by cases e
 | _::_,_::_,[],_,_,_,_,_,_,_,e=>by cases e
 | t::as,x::xs,y::ys,inj,i,t',x',y',e1,e2,e3=>by
  show (if t'=t then some (HO.tup [x,y]) else X5 as xs ys t')=_
  cases i with
  | zero =>
   cases e1;cases e2;cases e3
   rw [if_pos rfl]
  | succ i =>
   have hne:t'≠t:=fun h=>by
    have:=inj (i+1) 0 t' e1 (by rw [h];rfl)
    cases this
   rw [if_neg hne]
   exact eU (fun j k u h1 h2=>by have:=inj (j+1) (k+1) u h1 h2;omega) i t' x' y' e1 e2 e3
theorem Uv:∀ {as:List Addr} {xs ys:List V} {b:Addr} {o:HO},X5 as xs ys b=some o->∃ (i:Nat) (x y:V),as[i]?=some b/\xs[i]?=some x/\ys[i]?=some y/\o=.tup [x,y]
 | [],_,_,_,_,e=>by cases e
 | _::_,[],_,_,_,e=>by cases e
 | _::_,_::_,[],_,_,e=>by cases e
 | t::as,x::xs,y::ys,b,o,e=>by
  have e:(if b=t then some (HO.tup [x,y]) else X5 as xs ys b)=some o:=e
  by_cases h:b=t
  ·rw [if_pos h] at e
   cases e
   exact ⟨0,x,y,by rw [h];rfl,rfl,rfl,rfl⟩
  ·rw [if_neg h] at e
   obtain ⟨i,x',y',a1,a2,a3,a4⟩:=Uv e
   exact ⟨i+1,x',y',a1,a2,a3,a4⟩
section
variable {X:Cx}
def oI (K:PySem.W.Frag)(ta:TA):TE:=fun σ H Q=>ta σ H fun vs H1=>∃ a b xs ys,vs=[.ref a,.ref b]/\SqL K H1 a xs/\SqL K H1 b ys/\xs.length=ys.length/\∀ p as H',An H1 H'->H1 p=none->H' p=some (.lst (as.map V.ref))->pN H1 H' as xs ys->Q (.ref p) H'
theorem lP {a b:Expr}{ta:TA}{p q pos pos2:Pos}(hcal:X.calm=true)(hg:Gl X "list")(hm:X.mg "list"=none)(hg2:Gl X "zip")(hm2:X.mg "zip"=none)(ha:PA X [a,b] ta)
  (hs:starEach [a,b] X.env=[(false,eval a X.env),(false,eval b X.env)]:=by rfl)(hs2:starEach [b] X.env=[(false,eval b X.env)]:=by rfl)
  (hs3:starEach [Expr.Call (.Name "zip" q) [a,b] [] pos2] X.env=[(false,eval (.Call (.Name "zip" q) [a,b] [] pos2) X.env)]:=by rfl) :
  PE X (.Call (.Name "list" p) [.Call (.Name "zip" q) [a,b] [] pos2] [] pos) (oI X.K ta):=by
 intro pins s σ H Q I h
 refine wpAny_Call_Name_kw (Ft I hg hm Vq (PyProof.Rows.callWith_type1 ?_ hs3 rfl) (by decide) (by decide))
 rw [hs3]
 refine Calls.spliced_cons ?_
 show wpAny _ _ (eval (Expr.Call (.Name "zip" q) [a,b] [] pos2) X.env) _ _ _
 refine wpAny_Call_Name_kw (Ft I hg2 hm2 oH (PyProof.Rows.callWith_type1 (thn (ha pos2 pins s σ H _ I h) fun us s1 ⟨vs,H1,I1,r1,q1⟩=>?_) (by rw [hs,hs2]) (by rw [hs2];rfl)) (by decide) (by decide))
 obtain ⟨a,b,xs,ys,e,hx,hy,hl,q⟩:=q1
 subst e
 obtain ⟨u,v,rfl,ru,rv⟩:=Xm r1
 cases ru
 cases rv
 obtain ⟨its,rv,p,hz⟩:=I1.list hx
 obtain ⟨its2,rv2,p2,hz2⟩:=I1.list hy
 have l1:=rv.length
 have l2:=rv2.length
 refine call_zip_2 p.isList p2.isList fun h' g1 g2 g3 g4 g5 hsz kk=>?_
 refine Calls.spliced_nil ?_
 have A1:h'.IsList a its.toArray:=p.isList.at fun o e=>kk _ o e
 have A2:h'.IsList b its2.toArray:=p2.isList.at fun o e=>kk _ o e
 have D:=cF (Rz _) (⟨g1,g2,⟨_,_,g3⟩,g4,g5⟩:StZ _ _ _ _ _ a b 0 h') A1 A2
 refine Tl (s:={ s1 with heap:=h' }) D (I1.ok.hd hcal) (by simp;omega) (by simp;omega) g1 g3 g2 g4 g5 A1 A2 fun h2 acc n hS hac hp kp=>?_
 have hle:s1.heap.objs.size<=h'.objs.size:=by omega
 have hac:acc.size=xs.length:=by rw [hac];simp;omega
 have kp1:∀ b o,s1.heap.get? b=some o->h2.get? b=some o:=fun b o e=>by
  have lt:=Heap.lt_size e
  have ne:∀ c,s1.heap.objs.size<=c->b≠c:=fun c hc z=>Nat.lt_irrefl _ (Nat.lt_of_lt_of_le lt (z▸hc))
  exact kp b o (ne _ (Nat.le_add_right _ _)) (ne _ (Nat.le_add_right _ _)) (ne _ (Nat.le_refl _)) (ne _ (Nat.le_add_right _ _)) (kk _ _ e)
 obtain ⟨as,has⟩:∃ as,as=acc.toList.map uF:=⟨_,rfl⟩
 have hasl:as.length=xs.length:=by rw [has,List.length_map,Array.length_toList,hac]
 have hat:∀ (i:Nat) t,as[i]?=some t->∃ x y,acc[i]?=some (Value.ref t)/\h'.objs.size+1<=t/\its[i]?=some x/\its2[i]?=some y/\IsPair h2 t x y:=fun i t e=>by
  rw [has,List.getElem?_map] at e
  cases hv:acc.toList[i]? with
  | none=>rw [hv] at e;cases e
  | some v =>
   rw [hv] at e
   have hv2:acc[i]?=some v:=by rw [<- Array.getElem?_toList];exact hv
   obtain ⟨T,x,y,e1,e2,e3,e4,e5⟩:=hp.1 i v hv2
   subst e1
   obtain rfl:T=t:=Option.some.inj e
   exact ⟨x,y,hv2,e2,by simpa using e3,by simpa using e4,e5⟩
 have inj:∀ (j k:Nat) t,as[j]?=some t->as[k]?=some t->j=k:=fun j k t h1 h2=>by
  obtain ⟨_,_,a1,_⟩:=hat j t h1
  obtain ⟨_,_,a2,_⟩:=hat k t h2
  exact hp.2 j k _ a1 a2
 let N:Hp:=fun b=>if b=h'.objs.size then some (.lst (as.map V.ref)) else X5 as xs ys b
 have hN0:N h'.objs.size=some (.lst (as.map V.ref)):=if_pos rfl
 have hNt:∀ (i:Nat) t x y,as[i]?=some t->xs[i]?=some x->ys[i]?=some y->N t=some (.tup [x,y]):=fun i t x y e1 e2 e3=>by
  obtain ⟨_,_,_,hlt,_⟩:=hat i t e1
  show (if t=h'.objs.size then _ else _)=_
  rw [if_neg (Nat.ne_of_gt hlt)]
  exact eU inj i t x y e1 e2 e3
 have hNp:∀ b o,N b=some o->s1.heap.objs.size<=b:=fun b o e=>by
  have e:(if b=h'.objs.size then some (HO.lst (as.map V.ref)) else X5 as xs ys b)=some o:=e
  by_cases hb:b=h'.objs.size
  ·rw [hb];exact hle
  ·rw [if_neg hb] at e
   obtain ⟨i,x,y,e1,_⟩:=Uv e
   obtain ⟨_,_,_,hlt,_⟩:=hat i b e1
   exact Nat.le_trans hle (Nat.le_of_succ_le hlt)
 have hNn:∀ b o,N b=some o->H1 b=none:=fun b o e=>I1.hok.fresh (hNp b o e)
 have I2:Inv X pins σ (O4 N H1) { s1 with heap:=h2 }:=by
  refine I1.laidN (t':=s1.toks) kp1 hNp fun b o e=>?_
  have e:(if b=h'.objs.size then some (HO.lst (as.map V.ref)) else X5 as xs ys b)=some o:=e
  by_cases hb:b=h'.objs.size
  ·rw [if_pos hb] at e
   cases e
   subst hb
   refine ⟨by rw [List.length_map];omega,acc.toList,n,?_,hS⟩
   refine Rm (by rw [List.length_map,hasl,<- hac];exact (Array.length_toList (xs:=acc)).symm) fun i v u e1 e2=>?_
   rw [List.getElem?_map] at e1
   cases ht:as[i]? with
   | none=>rw [ht] at e1;cases e1
   | some t =>
    rw [ht] at e1
    cases e1
    obtain ⟨_,_,a1,_⟩:=hat i t ht
    rw [<- Array.getElem?_toList,e2] at a1
    exact Option.some.inj a1
  ·rw [if_neg hb] at e
   obtain ⟨i,x,y,e1,e2,e3,rfl⟩:=Uv e
   obtain ⟨u,v,_,_,e4,e5,e6⟩:=hat i b e1
   obtain ⟨u',hu,ru⟩:=rv.get e2
   obtain ⟨v',hv,rv'⟩:=rv2.get e3
   rw [e4] at hu
   rw [e5] at hv
   cases hu
   cases hv
   exact ⟨Nat.le_of_lt (Nat.lt_of_le_of_lt (show 2<=2 from Nat.le_refl 2) (by decide)),[u,v],.cons ru (.cons rv' .nil),_,e6,rfl,_,rfl⟩
 refine ⟨.ref h'.objs.size,_,I2,rfl,q _ as _ (R8 hNn) (hNn _ _ hN0) (N0 hN0) ⟨hasl,fun i t x y e1 e2 e3=>⟨hNn _ _ (hNt i t x y e1 e2 e3),N0 (hNt i t x y e1 e2 e3)⟩⟩⟩
theorem qT {σ:St}{H:Hp}{Q:VK}{ta:TA}{K:PySem.W.Frag}(h:ta σ H fun vs H1=>∃ a b xs ys,vs=[.ref a,.ref b]/\SqL K H1 a xs/\SqL K H1 b ys/\xs.length=ys.length/\∀ p as H',An H1 H'->H1 p=none->H' p=some (.lst (as.map V.ref))->pN H1 H' as xs ys->Q (.ref p) H'):oI K ta σ H Q:=h
end
def oA (K:PySem.W.Frag)(a:Addr)(n:Nat):It :=
 ⟨fun i H=>∃ xs x,SqL K H a xs/\i<n/\xs[n-1-i]?=some x,fun i H x H'=>H'=H/\∀ xs,SqL K H a xs->xs[n-1-i]?=some x,fun i _=>i=n⟩
theorem bT {P:Program}{w:World}{K:PySem.W.Frag}{tg:Expr}(a it:Addr)(n:Nat):Nw P w K tg (oA K a n) [it] it (fun i h=>h.IsRevIter it a ((n:Int)-1-(i:Int))) where
 mem:=by simp
 obj:=fun i h st b hb=>by
  have e:b=it:=by simpa using hb
  subst e
  obtain ⟨o,e,c,d⟩:=st
  exact ⟨o,e,fun v z=>by rw [d] at z;cases z⟩
 keep:=fun i h h' st k=>st.at fun o e=>k it (by simp) o e
 item:=by
  intro X hP hw hK hc i pins s σ H E I hf st hg
  subst hP hw hK
  obtain ⟨xs,x,hq,hi,hx⟩:=hg
  obtain ⟨its,rv,p,hz⟩:=I.list hq
  obtain ⟨u,hu,ru⟩:=rv.get hx
  obtain ⟨f0,f1,f2,f3,f4,f5⟩:=hf it (by simp)
  have e:(n:Int)-1-(i:Int)=((n-1-i:Nat):Int):=by omega
  have st1:=st
  rw [e] at st1
  refine wpAny_pyNext_rev_item st1 p.isList (x:=u) (by simpa using hu) fun h' st' sb=>?_
  have e2:((n-1-i:Nat):Int)-1=(n:Int)-1-((i+1:Nat):Int):=by omega
  rw [e2] at st'
  have I1:Inv X pins σ H { s with heap:=h' }:=I.turned (t':=s.toks) (fun b o hb e=>(sb.2 b hb).trans e) f0 f1 f3 f4 f5
  obtain ⟨o,e,c,d⟩:=id st'
  exact ⟨u,rfl,dN (s:={ s with heap:=h' }) e c d (by decide) ⟨x,H,I1,ru,⟨rfl,fun ys hy=>by rw [I.list_inj hy hq];exact hx⟩,st',fun b hb=>(hf b hb).1⟩⟩
 done:=by
  intro X hP hw hK hc i pins s σ H E I hf st hg
  subst hP hw hK
  have hg:i=n:=hg
  subst hg
  obtain ⟨f0,f1,f2,f3,f4,f5⟩:=hf it (by simp)
  have e:(i:Int)-1-(i:Int)=-1:=by omega
  rw [e] at st
  exact wpAny_pyNext_rev_end (I.ok.hd hc) st fun h' eb=>⟨rfl,I.turned (t':=s.toks) (fun b o hb e=>eb b o hb e) f0 f1 f3 f4 f5⟩
 self:=fun _ _ _ _ _ st h=>wpAny_pyIter_revIter st h
section
variable {X:Cx} {tg:Expr}
def oP (K:PySem.W.Frag)(tl:TE):TI:=fun σ H R=>tl σ H fun x H1=>∃ a xs,x=.ref a/\SqL K H1 a xs/\R (oA K a xs.length) H1
theorem pT {K:PySem.W.Frag}{tl:TE}{σ:St}{H:Hp}{R:It->Hp->Prop}(h:tl σ H fun x H1=>∃ a xs,x=.ref a/\SqL K H1 a xs/\R (oA K a xs.length) H1):oP K tl σ H R:=h
theorem mI {l:Expr}{tl:TE}{p pos:Pos}(hg:Gl X "reversed")(hm:X.mg "reversed"=none)(hl:PE X l tl)(hs3:starEach [l] X.env=[(false,eval l X.env)]:=by rfl):PI X tg (.Call (.Name "reversed" p) [l] [] pos) (oP X.K tl):=by
 intro pins s σ H R I h
 refine Call_ (Ft I hg hm Tk (PyProof.Rows.callWith_type1 ?_ hs3 rfl))
 rw [hs3]
 refine Calls.spliced_cons ?_
 refine thn (hl pins s σ H _ I h) fun v s1 ⟨x,H1,I1,r1,q1⟩=>?_
 obtain ⟨a,xs,e,hq,q⟩:=q1
 subst e
 cases r1
 obtain ⟨its,rv,p,hz⟩:=I1.list hq
 refine Calls.spliced_nil ?_
 refine call_reversed_list p.isList ?_
 have hn:((its.toArray.size:Nat):Int)-1=((xs.length:Nat):Int)-1-((0:Nat):Int):=by have:=rv.length;simp;omega
 refine wpAny_pyIter_revIter (i:=((xs.length:Nat):Int)-1-((0:Nat):Int)) (l:=a) ⟨_,Heap.get?_push_size _ rfl,rfl,by rw [<- hn];rfl⟩ ?_
 refine ⟨s1.heap.objs.size,[s1.heap.objs.size],_,_,H1,rfl,I1.kept (t':=s1.toks) fun b o e=>Heap.get?_push_of_some _ e,bT a _ xs.length,⟨_,Heap.get?_push_size _ rfl,rfl,by rw [<- hn];rfl⟩,fun b hb=>?_,q⟩
 have e:b=s1.heap.objs.size:=by simpa using hb
 subst e
 exact I1.fpOk (Nat.le_refl _) (I1.hok.fresh (Nat.le_refl _))
end
theorem T2 {K:PySem.W.Frag}{a:Addr}{as:List Addr}{xs ys:List V}{i1 i2:Nat}{tb:TS}{D:Kn}{σ:St}{H:Hp}(hx:as.length=xs.length)(hy:as.length=ys.length)(Pv:Nat->St->Hp->Prop)(h0:Pv 0 σ H)
  (hl:∀ i σ H,i<=as.length->Pv i σ H->SqL K H a (as.map V.ref))(ht:∀ (i:Nat) t x y σ H,as[i]?=some t->xs[i]?=some x->ys[i]?=some y->Pv i σ H->H t=some (.tup [x,y]))
  (step:∀ (i:Nat) x y σ H,xs[i]?=some x->ys[i]?=some y->Pv i σ H->tb { D with nx:=Pv (i+1),ct:=Pv (i+1),bk:=D.nx } ((σ.set i1 (some x)).set i2 (some y)) H)
  (fin:∀ σ H,Pv as.length σ H->D.nx σ H):fU (Itl K a) (cZ K 2 (Jg (E7 i1) (Jg (E7 i2) Zy))) tb D σ H:=by
 refine ⟨fun i m σ H=>i<=as.length/\m=as.length-i/\Pv i σ H,⟨_,Nat.zero_le _,rfl,h0⟩,?_⟩
 rintro i m σ H ⟨hi,rfl,hp⟩
 by_cases h:i=as.length
 ·exact .inl ⟨⟨_,hl i σ H hi hp,by rw [List.length_map];omega⟩,fin σ H (h▸hp)⟩
 ·have hlt:i<as.length:=Nat.lt_of_le_of_ne hi h
  refine .inr ⟨⟨_,.ref as[i],hl i σ H hi hp,by rw [List.getElem?_map,List.getElem?_eq_getElem hlt];rfl⟩,Pv (i+1),fun σ' H' q=>⟨as.length-(i+1),by omega,hlt,rfl,q⟩,fun v H' hyl=>?_⟩
  obtain ⟨rfl,hv⟩:=hyl
  have hv:=hv _ (hl i σ H' hi hp)
  rw [List.getElem?_map,List.getElem?_eq_getElem hlt] at hv
  obtain rfl:=Option.some.inj hv
  exact Pw (SqT.of (ht i _ _ _ σ H' (List.getElem?_eq_getElem hlt) (List.getElem?_eq_getElem (by omega)) (List.getElem?_eq_getElem (by omega)) hp)) (step i _ _ σ H' (List.getElem?_eq_getElem (by omega)) (List.getElem?_eq_getElem (by omega)) hp)
theorem cU {K:PySem.W.Frag}{a:Addr}{as:List Addr}{xs ys:List V}{i1 i2:Nat}{tb:TS}{D:Kn}{σ:St}{H:Hp}(hx:as.length=xs.length)(hy:as.length=ys.length)(Pv:Nat->St->Hp->Prop)(h0:Pv 0 σ H)
  (hl:∀ i σ H,i<=as.length->Pv i σ H->SqL K H a (as.map V.ref))(ht:∀ (i j:Nat) t x y σ H,as[j]?=some t->xs[j]?=some x->ys[j]?=some y->Pv i σ H->H t=some (.tup [x,y]))
  (step:∀ (i:Nat) x y σ H,i<as.length->xs[as.length-1-i]?=some x->ys[as.length-1-i]?=some y->Pv i σ H->tb { D with nx:=Pv (i+1),ct:=Pv (i+1),bk:=D.nx } ((σ.set i1 (some x)).set i2 (some y)) H)
  (fin:∀ σ H,Pv as.length σ H->D.nx σ H):fU (oA K a as.length) (cZ K 2 (Jg (E7 i1) (Jg (E7 i2) Zy))) tb D σ H:=by
 refine ⟨fun i m σ H=>i<=as.length/\m=as.length-i/\Pv i σ H,⟨_,Nat.zero_le _,rfl,h0⟩,?_⟩
 rintro i m σ H ⟨hi,rfl,hp⟩
 by_cases h:i=as.length
 ·exact .inl ⟨h,fin σ H (h▸hp)⟩
 ·have hlt:i<as.length:=Nat.lt_of_le_of_ne hi h
  have hj:as.length-1-i<as.length:=by omega
  refine .inr ⟨⟨_,.ref as[as.length-1-i],hl i σ H hi hp,hlt,by rw [List.getElem?_map,List.getElem?_eq_getElem hj];rfl⟩,Pv (i+1),fun σ' H' q=>⟨as.length-(i+1),by omega,hlt,rfl,q⟩,fun v H' hyl=>?_⟩
  obtain ⟨rfl,hv⟩:=hyl
  have hv:=hv _ (hl i σ H' hi hp)
  rw [List.getElem?_map,List.getElem?_eq_getElem hj] at hv
  obtain rfl:=Option.some.inj hv
  exact Pw (SqT.of (ht i _ _ _ _ σ H' (List.getElem?_eq_getElem hj) (List.getElem?_eq_getElem (by omega)) (List.getElem?_eq_getElem (by omega)) hp)) (step i _ _ σ H' hlt (List.getElem?_eq_getElem (by omega)) (List.getElem?_eq_getElem (by omega)) hp)
theorem Zw (n:Nat):sliceRange (sliceBounds none none (some (-1)) n).1 (sliceBounds none none (some (-1)) n).2.1 (sliceBounds none none (some (-1)) n).2.2=(List.range n).map fun k=>n-1-k:=by
 have e:sliceBounds none none (some (-1)) n=((n:Int)-1,-1,-1):=by simp [sliceBounds]
 rw [e]
 unfold sliceRange
 dsimp only
 rw [if_neg (by decide)]
 have e2:(if (n:Int)-1 > -1 then ((n:Int)-1 - -1 - -1-1) / - -1 else 0).toNat=n:=by
  split
  ·rw [show (- -1:Int)=1 by decide,Int.ediv_one]
   omega
  ·omega
 rw [e2]
 refine List.map_congr_left fun k hk=>?_
 have:=List.mem_range.mp hk
 omega
theorem R4 {α:Type}(l:List α):∀ n,n<=l.length->((List.range n).map fun k=>n-1-k).filterMap (l[·]?)=(l.take n).reverse
 | 0,_=>by simp
 | n+1,h=>by
  have hl:n<l.length:=h
  rw [List.range_succ_eq_map,List.map_cons,List.map_map,List.filterMap_cons]
  have e:((fun k=>n+1-1-k) ∘ Nat.succ)=fun k=>n-1-k:=by
   funext k
   show n+1-1-(k+1)=n-1-k
   omega
  rw [e,show n+1-1-0=n by omega,List.getElem?_eq_getElem hl]
  dsimp only
  rw [R4 l n (by omega),List.take_add_one,List.getElem?_eq_getElem hl,Option.toList_some,List.reverse_append]
  rfl
theorem jI:∀ {xs:List V} {us:List Value},Bi xs us->Bi xs.reverse us.reverse:=fun {xs us} h=>by
 have key:∀ (xs:List V) (us:List Value) (ys:List V) (vs:List Value),Bi xs us->Bi ys vs->Bi (xs.reverse++ys) (us.reverse++vs):=fun xs=>by
  induction xs with
  | nil=>intro us ys vs h1 h2;cases h1;exact h2
  | cons x xs ih =>
   intro us ys vs h1 h2
   cases h1 with
   | cons r t =>
    rw [List.reverse_cons,List.reverse_cons,List.append_assoc,List.append_assoc]
    exact ih _ _ _ t (.cons r h2)
 have:=key xs us [] [] h .nil
 rwa [List.append_nil,List.append_nil] at this
def oQ (K:PySem.W.Frag)(te:TE):TE:=fun σ H Q=>te σ H fun x H1=>∃ a xs,x=.ref a/\SqL K H1 a xs/\∀ p,H1 p=none->Q (.ref p) (upd H1 p (.lst xs.reverse))
section
variable {X:Cx} {e:Expr} {te:TE} {pos p1 p2 p3:Pos}
theorem mK {x1}(he:PE X e te):PE X (.Subscript e (.Slice none none (some (.UnaryOp .USub (.Constant (.int 1) x1 p1) p2)) p3) pos) (oQ X.K te):=by
 intro pins s σ H Q I h
 refine Subscript_ (thn (he pins s σ H _ I h) fun v s1 ⟨x,H1,I1,r1,q1⟩=>?_)
 obtain ⟨a,xs,rfl,hq,q⟩:=q1
 obtain rfl:v=Value.ref a:=r1
 refine wpAny_Slice ?_
 rw [evalPart_none]
 refine wpAny_pure (wpAny_pure ?_)
 rw [evalPart_some]
 have hm:PE X (.UnaryOp .USub (.Constant (.int 1) x1 p1) p2) (tUn (rU fun i=>.int (-i)) (tC (.int 1))):=E8 C5 Aj
 refine thn (hm pins s1 σ H1 (fun y H2=>y=.int (-1)/\H2=H1) I1 ⟨1,rfl,rfl,rfl⟩) fun w s2 ⟨y,H2,I2,r2,e2,e3⟩=>?_
 subst e2 e3
 obtain ⟨t,rfl⟩:=r2
 have I4:Inv X pins σ H2 { s2 with heap:=s2.heap.push { cls:=.type "slice",data:=.fields #[.none,.none,.int (-1) t] } }:=I2.kept (t':=s2.toks) fun b ob q=>Heap.get?_push_of_some _ q
 obtain ⟨its,r,pl,hz⟩:=I4.list hq
 have e1:=r.length
 show wpAny (model X.prog X.w) X.A (subscriptTail e (.Slice none none (some (.UnaryOp .USub (.Constant (.int 1) x1 p1) p2)) p3) (.ref a) (.ref s2.heap.objs.size)) (EP X pins σ Q) X.xe { s2 with heap:=s2.heap.push { cls:=.type "slice",data:=.fields #[.none,.none,.int (-1) t] } }
 refine tail_any (ops:=[.ref a,.ref s2.heap.objs.size]) pl.isList.typeIs list_getitem_lookup ?_ (by with_unfolding_all rfl)
 refine wpAny_getItem_list_slice pl.isList (Heap.IsSliceOf.new ..) .none .none (.int (-1) t) (by intro z;have:=Option.some.inj z;omega) ?_ (by rw [List.size_toArray];omega)
 have hp:slicePick its.toArray none none (some (-1))=its.reverse.toArray:=by
  have:=R4 its its.length (Nat.le_refl _)
  rw [List.take_of_length_le (Nat.le_refl _)] at this
  rw [<- this,<- Zw its.length]
  unfold slicePick
  simp
 rw [hp]
 exact ⟨.ref _,_,I4.lnew (t':=s2.toks) (jI r) (by rw [List.length_reverse];exact hz),rfl,q _ (I4.hok.fresh (Nat.le_refl _))⟩
theorem rD {K:PySem.W.Frag}{σ:St}{H:Hp}{Q:VK}(h:te σ H fun x H1=>∃ a xs,x=.ref a/\SqL K H1 a xs/\∀ p,H1 p=none->Q (.ref p) (upd H1 p (.lst xs.reverse))):oQ K te σ H Q:=h
end
theorem kM {K:PySem.W.Frag}{a b:Addr}{xs ys:List V}{H1:Hp}{fr:St}{tc:TT}{te:TE}{Q:VK}(ha:SqL K H1 a xs)(hb:SqL K H1 b ys)(Pv:Addr->Nat->List V->Hp->Prop)(h0:∀ D H,H1 D=none->An H1 H->Pv D 0 [] H)
  (stab:∀ D i zs H us o,H D=some (.lst us)->Pv D i zs H->Pv D i zs (upd H D o))(hz:∀ D i zs H,i<min xs.length ys.length->Pv D i zs H->zs.length<sizeLine)(psame:∀ D i zs H H',An H H'->Pv D i zs H->Pv D i zs H')
  (turn:∀ D (i:Nat) zs x y H (A:VK) (R:Hp->Prop),xs[i]?=some x->ys[i]?=some y->An H1 H->H1 D=none->H D=some (.lst zs)->Pv D i zs H->(∀ H',An H H'->Pv D (i+1) zs H'->R H')->(∀ y H',An H H'->Pv D (i+1) (zs++[y]) H'->A y H') ->
   tc (some x::some y::fr) H fun b H3=>if b=true then te (some x::some y::fr) H3 A else R H3)
  (fin:∀ D zs H,H1 D=none->An H1 H->Pv D (min xs.length ys.length) zs H->H D=some (.lst zs)->Q (.ref D) H):Ki K (Itz K a b) H1 fr tc te Q:=by
 refine jY (min xs.length ys.length) (fun i=>xs.getD i .non) (fun i=>ys.getD i .non) Pv h0 stab hz psame (fun i H hi sm=>⟨xs,ys,xs[i]'(by omega),ys[i]'(by omega),sm.seq ha,sm.seq hb,by simp,by simp⟩) (fun i H v H' hi sm h=>?_)
  (fun H sm=>⟨xs,ys,sm.seq ha,sm.seq hb,rfl⟩) (fun D i zs H A R hi sm=>turn D i zs _ _ H A R (by simp [show i<xs.length by omega]) (by simp [show i<ys.length by omega]) sm) fin
 obtain ⟨t,x,y,hn,rfl,h1,h2,rfl⟩:=h
 have e1:=h1 xs (sm.seq ha)
 have e2:=h2 ys (sm.seq hb)
 refine ⟨t,rfl,?_,Al hn⟩
 simp only [List.getD,e1,e2,Option.getD_some]
 exact SqT.of Ae
theorem Fw (K:PySem.W.Frag){X:Cx}{e:Expr}{f:Str}{pos:Pos}{ta:TE}(he:PE X e ta)(h:X.K=K:=by rfl)(hb:attributeBase e f X.env (eval e X.env)=eval e X.env:=by rfl):PE X (.Attribute e f pos) (rF K ta f):=by
 subst h
 exact A6 he hb
open PySem.W
def GD (K:Frag)(x:Str)(st:Stmt):Prop:=∃ (f:Addr) (fd:FuncData),Fun K x x st f fd/\nsIn K mainGlobals x=some (some (.ref f))
def MD (K:Frag)(C:Addr)(x q:Str)(st:Stmt):Prop:=∃ (f:Addr) (fd:FuncData),Fun K x q st f fd/\findIn K (.ref C) x=some (some (.ref f))/\isFn K (.ref f)=true
def BD (K:Frag)(C:Addr)(x q:Str)(st:Stmt):Prop:=∃ (f:Addr) (fd:FuncData),Fun K x q st f fd/\findCls K (.ref C) (.type "type") x=some (.val (.ref f))
structure CD (K:Frag) (C:Addr) (x:Str):Prop where
 a:nsIn K mainGlobals x=some (some (.ref C))
 ma:makesIn K C=true
 kc:keepIn K (.ref C)=true
structure BC (K:Frag) (C:Addr) (x:Str):Prop where
 a:nsIn K mainGlobals x=some (some (.ref C))
 bg:specialIn K (.ref C) "__getattribute__"=some (some (.builtin "type.__getattribute__"))
 br:readsIn K C (.type "type")=true
def noB:Option (Option Value)->Bool
 | some none=>true
 | _=>false
structure FD (K:Frag) (C:Addr) (fs:List Str):Prop where
 cl:Cls K C
 al:(fs.all fun f=>noB (findIn K (.ref C) f))=true
section
variable {P:Program} {w:World} {K:Frag} {mg:Str->Option Value} {base h:Heap} {x q:Str} {st:Stmt} {f C:Addr} {oc:Value} {od an:Option Addr} {osl:Array (Option Value)} {kV doc pm cdv ct:Value} {fs ps:List Str} {k:Nat} {sp:Sp}
theorem gD (a:nsIn K mainGlobals x=some (some (.ref f)))(l:K.lookup f=some ⟨oc,od,.func (fnOf x x (C1 st) (Ck st) (Ah st) .none kV doc pm an cdv ct),osl⟩)(c:codeIn K cdv x=true)(k:keepIn K (.ref f)=true):GD K x st:=⟨f,_,cM l c k,a⟩
theorem mD (a:findIn K (.ref C) x=some (some (.ref f)))(i:isFn K (.ref f)=true)(l:K.lookup f=some ⟨oc,od,.func (fnOf x q (C1 st) (Ck st) (Ah st) .none kV doc pm an cdv ct),osl⟩)(c:codeIn K cdv q=true)(k:keepIn K (.ref f)=true):MD K C x q st:=⟨f,_,cM l c k,a,i⟩
theorem bD (a:findCls K (.ref C) (.type "type") x=some (.val (.ref f)))(l:K.lookup f=some ⟨oc,od,.func (fnOf x q (C1 st) (Ck st) (Ah st) .none kV doc pm an cdv ct),osl⟩)(c:codeIn K cdv q=true)(k:keepIn K (.ref f)=true):BD K C x q st:=⟨f,_,cM l c k,a⟩
theorem fD (pg:plainGet K C Str.empty=true)(hd:hasDictIn K C=true)(po:plainOver K C=true)(sa:findIn K (.ref C) "__setattr__"=some (some (.builtin "object.__setattr__")))(al:(fs.all fun f=>noB (findIn K (.ref C) f))=true):FD K C fs:=⟨⟨pg,hd,po,sa⟩,al⟩
theorem FD.no (D:FD K C fs)(i:Nat){g:Str}(h:fs[i]?=some g:=by rfl):Ch K C g:=by
 have:=List.all_eq_true.mp D.al g (List.mem_of_getElem? h)
 show findIn K (.ref C) g=some none
 cases e:findIn K (.ref C) g with
 | none=>rw [e] at this;cases this
 | some o =>
  cases o with
  | none=>rfl
  | some v=>rw [e] at this;cases this
def Cur:Nat->(List Value->Prop)->Prop
 | 0,P=>P []
 | n+1,P=>∀ a,Cur n fun l=>P (a::l)
theorem Cur.all:∀ {n:Nat} {P:List Value->Prop},Cur n P->∀ us:List Value,us.length=n->P us
 | 0,_,h,[],_=>h
 | n+1,_,h,a::l,e=>Cur.all (n:=n) (h a) l (Nat.succ.inj e)
abbrev Kt (x q:Str)(st:Stmt)(ps:List Str):Prop:=∀ (kV doc pm:Value) (an:Option Addr) (cdv ct:Value),Cur ps.length fun us=>bindArgs (fnOf x q (C1 st) (Ck st) (Ah st) .none kV doc pm an cdv ct) ⟨us,[]⟩=pure (ps.zip us)
theorem Fun.bd {fd:FuncData}(F:Fun K x q st f fd)(hb:Kt x q st ps):Gw K fd ps []:=F.binds fun a b c d e g=>(hb a b c d e g).all
theorem GD.cal (X:K.In h)(G:h.Ns mainGlobals mg)(g:GD K x st)(ok:∀ {f fd},Fun K x x st f fd->A9 P w K mg base CX0 k f fd ps sp)
  (hb:Kt x x st ps:=by (repeat intro _);rfl):Cal P w K mg base x k ps sp :=
 let ⟨f,fd,F,a⟩:=g
 ⟨⟨f,fd,ok F,F.bd hb,mg_of X G a,F.kp⟩⟩
theorem MD.mth (c:Cls K C)(g:MD K C x q st)(ok:∀ {f fd},Fun K x q st f fd->A9 P w K mg base CX0 k f fd ps sp)
  (hb:Kt x q st ps:=by (repeat intro _);rfl):Mth P w K mg base C x k ps sp :=
 let ⟨f,fd,F,a,i⟩:=g
 ⟨⟨f,fd,ok F,F.bd hb,⟨a,i,F.kp⟩⟩,c⟩
theorem MD.mkr {y:Str}(X:K.In h)(G:h.Ns mainGlobals mg)(c:CD K C y)(g:MD K C "__init__" q st)(ok:∀ {f fd},Fun K "__init__" q st f fd->A9 P w K mg base CX0 k f fd ps sp)
  (hb:Kt "__init__" q st ps:=by (repeat intro _);rfl):Mkr P w K mg base y C k ps sp :=
 let ⟨f,fd,F,a,i⟩:=g
 ⟨⟨f,fd,ok F,F.bd hb,⟨c.ma,a,i,c.kc⟩,mg_of X G c.a⟩⟩
theorem BD.calC {y:Str}(X:K.In h)(G:h.Ns mainGlobals mg)(c:BC K C y)(g:BD K C x q st)(ok:∀ {f fd},Fun K x q st f fd->A9 P w K mg base CX0 k f fd ps sp)
  (hb:Kt x q st ps:=by (repeat intro _);rfl):lO P w K mg base y x k ps sp :=
 let ⟨f,fd,F,a⟩:=g
 ⟨⟨C,f,fd,ok F,F.bd hb,mg_of X G c.a,c.bg,c.br,a,F.kp⟩⟩
end
end L2
end
section
namespace TW
theorem eT {ds:List Nat}{v:Nat}:∀ {i j:Nat},v<j->j<=i->(v:Int)∈way ds i->(v:Int)∈way ds j
 | 0,j,h1,h2,_=>by omega
 | i+1,j,h1,h2,h=>by
  by_cases e:j=i+1
  ·rw [e];exact h
  ·have h:(v:Int)∈(way ds i).take (dAt ds i+1)++[(i:Int)]:=h
   rcases List.mem_append.mp h with h | h
   ·exact eT h1 (by omega) (List.mem_of_mem_take h)
   ·have:=List.mem_singleton.mp h
    omega
theorem rE {ds:List Nat}(h:Dok ds){i j:Nat}{v:Int}(hi:i<ds.length)(e:eld ds i=v)(h1:v<j)(h2:j<i):v<=eld ds j:=by
 by_cases hv:v=-1
 ·rw [hv];exact cL h (by omega)
 obtain ⟨w,hw,hwi,_⟩:=En h hi (by rw [e];exact hv)
 have hwv:v=(w:Int):=by rw [<- e,hw]
 subst hwv
 have hm:(w:Int)∈way ds i:=by rw [<- e];exact List.mem_of_getElem? (E3 h hi)
 have hm2:(w:Int)∈(way ds j).take (dAt ds j+1)++[(j:Int)]:=eT (i:=i) (j:=j+1) (by omega) (by omega) hm
 rcases List.mem_append.mp hm2 with hm3 | hm3
 ·obtain ⟨a,ha⟩:=List.getElem?_of_mem hm3
  have hlt:=(List.getElem?_eq_some_iff.mp ha).1
  rw [List.length_take] at hlt
  rw [List.getElem?_take_of_lt (by omega)] at ha
  have hea:=E3 h (show j<ds.length by omega)
  by_cases hd:a=dAt ds j
  ·rw [hd,hea] at ha
   have:=Option.some.inj ha
   omega
  ·have:=Ro h j a (dAt ds j) _ _ (by omega) (by omega) ha hea
   omega
 ·have:=List.mem_singleton.mp hm3
  omega
def Y3 (ds:List Nat)(k:Nat):Nat->Nat->Nat
 | 0,j=>j
 | m+1,j=>if (k:Int)<=eld ds j then Y3 ds k m (j+1) else j
def Bj (ds:List Nat)(k:Nat):Nat:=Y3 ds k (ds.length-(k+1)) (k+1)
theorem eP (ds:List Nat)(k:Nat):∀ m j,k<j->(∀ i,k<i->i<j->(k:Int)<=eld ds i)->j<=Y3 ds k m j/\Y3 ds k m j<=j+m/\(∀ i,k<i->i<Y3 ds k m j->(k:Int)<=eld ds i)/\(Y3 ds k m j<j+m->eld ds (Y3 ds k m j)<k)
 | 0,j,h1,h2=>⟨Nat.le_refl _,Nat.le_refl _,h2,fun h=>absurd h (Nat.lt_irrefl _)⟩
 | m+1,j,h1,h2=>by
  unfold Y3
  by_cases h:(k:Int)<=eld ds j
  ·rw [if_pos h]
   obtain ⟨a,b,c,d⟩:=eP ds k m (j+1) (by omega) (fun i h3 h4=>by
    by_cases e:i=j
    ·rw [e];exact h
    ·exact h2 i h3 (by omega))
   exact ⟨by omega,by omega,c,fun h5=>d (by omega)⟩
  ·rw [if_neg h]
   exact ⟨Nat.le_refl _,by omega,h2,fun _=>by omega⟩
theorem Bx {ds:List Nat}{k:Nat}(hk:k<ds.length):k<Bj ds k/\Bj ds k<=ds.length/\(∀ i,k<i->i<Bj ds k->(k:Int)<=eld ds i)/\(Bj ds k<ds.length->eld ds (Bj ds k)<k):=by
 obtain ⟨a,b,c,d⟩:=eP ds k (ds.length-(k+1)) (k+1) (by omega) (fun i h1 h2=>by omega)
 unfold Bj
 exact ⟨by omega,by omega,c,fun h=>d (by omega)⟩
theorem lN {ds:List Nat}(h:Dok ds){k i:Nat}(hk:k<ds.length)(h1:Bj ds k<=i)(h2:i<ds.length):eld ds i<k\/(Bj ds k:Int)<=eld ds i:=by
 obtain ⟨a,b,c,d⟩:=Bx (ds:=ds) hk
 by_cases e:i=Bj ds k
 ·left;rw [e];exact d (by omega)
 ·by_cases z:eld ds i<k
  ·exact .inl z
  ·right
   by_cases y:(Bj ds k:Int)<=eld ds i
   ·exact y
   ·have:=rE h h2 rfl (show eld ds i<(Bj ds k:Nat) by omega) (by omega)
    have:=d (by omega)
    omega
theorem dX {ds:List Nat}(h:Dok ds){k:Nat}(hk:k<ds.length):eld ds k<k:=by
 by_cases e:eld ds k=-1
 ·omega
 ·obtain ⟨v,hv,hvk,_⟩:=En h hk e
  omega
end TW
end
section
namespace TW
theorem T8 {ds:List Nat}{v:Int}:∀ (d k:Nat),(∀ i,k<=i->i<k+d->eld ds i≠v)->Bq ds (k+d) v=Bq ds k v
 | 0,k,_=>rfl
 | d+1,k,h=>by
  rw [show k+(d+1)=k+d+1 by omega,G1 (h (k+d) (by omega) (by omega)),T8 d k fun i a b=>h i a (by omega)]
theorem Ua {ds:List Nat}{v:Int}:∀ (d k:Nat),(Bq ds k v).length<=(Bq ds (k+d) v).length
 | 0,k=>Nat.le_refl _
 | d+1,k=>by
  have:=Ua (ds:=ds) (v:=v) d k
  rw [show k+(d+1)=k+d+1 by omega]
  by_cases e:eld ds (k+d)=v
  ·rw [Fn e,List.length_append];omega
  ·rw [G1 e];exact this
theorem Nx {ds:List Nat}(h:Dok ds){k:Nat}(hk:k<ds.length):∀ i,k<i->i<Bj ds k->dAt ds k<dAt ds i:=fun i=>by
 obtain ⟨a,b,c,d⟩:=Bx (ds:=ds) hk
 induction i using Nat.strongRecOn with
 | _ i ih =>
  intro h1 h2
  have h3:=c i h1 h2
  obtain ⟨v,hv,hvi,hd⟩:=En h (show i<ds.length by omega) (by omega)
  by_cases e:v=k
  ·rw [hd,e];omega
  ·have:=ih v hvi (by omega) (by omega)
   omega
def Gc (ds:List Nat)(k:Nat):List Nat:=(List.range (Bj ds k-k)).map fun i=>dAt ds (k+i)-dAt ds k
theorem Fo (ds:List Nat)(k:Nat):(Gc ds k).length=Bj ds k-k:=by unfold Gc;rw [List.length_map,List.length_range]
theorem Vw {ds:List Nat}{k i:Nat}(h:i<Bj ds k-k):dAt (Gc ds k) i=dAt ds (k+i)-dAt ds k:=by
 unfold dAt Gc List.getD
 rw [List.getElem?_map,List.getElem?_range h]
 rfl
theorem Mr {ds:List Nat}(h:Dok ds){k:Nat}(hk:k<ds.length):Dok (Gc ds k):=fun i hi=>by
 obtain ⟨a,b,c,d⟩:=Bx (ds:=ds) hk
 rw [Fo] at hi
 rw [Vw hi]
 cases i with
 | zero=>show _<=0;rw [Nat.add_zero,Nat.sub_self];exact Nat.le_refl _
 | succ i =>
  show _<=dAt (Gc ds k) i+1
  rw [Vw (by omega)]
  have h1:dAt ds (k+(i+1))<=dAt ds (k+i)+1:=h (k+(i+1)) (by omega)
  by_cases e:i=0
  ·subst e
   rw [Nat.add_zero] at *
   omega
  ·have:=Nx h hk (k+i) (by omega) (by omega)
   omega
theorem P4:∀ {l m:List Nat},l.Pairwise (· < ·)->m.Pairwise (· < ·)->(∀ x,x∈l↔x∈m)->l=m
 | [],[],_,_,_=>rfl
 | [],b::m,_,_,h=>by have:=(h b).mpr (by simp);cases this
 | a::l,[],_,_,h=>by have:=(h a).mp (by simp);cases this
 | a::l,b::m,h1,h2,h=>by
  rw [List.pairwise_cons] at h1 h2
  have e:a=b:=by
   rcases List.mem_cons.mp ((h a).mp (by simp)) with z | z
   ·exact z
   ·rcases List.mem_cons.mp ((h b).mpr (by simp)) with y | y
    ·exact y.symm
    ·have:=h2.1 a z
     have:=h1.1 b y
     omega
  subst e
  congr 1
  refine P4 h1.2 h2.2 fun x=>⟨fun hx=>?_,fun hx=>?_⟩
  ·rcases List.mem_cons.mp ((h x).mp (by simp [hx])) with z | z
   ·have:=h1.1 x hx;omega
   ·exact z
  ·rcases List.mem_cons.mp ((h x).mpr (by simp [hx])) with z | z
   ·have:=h2.1 x hx;omega
   ·exact z
end TW
end
section
namespace TW
def rwH:Nat->List Nat->List Bool
 | h,[]=>List.replicate h false
 | h,d::ds=>List.replicate (h-d) false++true::rwH (d+1) ds
def dk:Nat->List Nat->Prop
 | _,[]=>True
 | h,d::ds=>d<=h/\dk (d+1) ds
def J2:Nat->List Nat->Nat
 | h,[]=>h
 | _,d::ds=>J2 (d+1) ds
def Oa (B:List Nat)(off:Nat):Prop:=∀ d C,B=d::C->d<=off
theorem Zv {ds:List Nat}{k:Nat}(h:k<ds.length):ds.drop k=dAt ds k::ds.drop (k+1):=by
 rw [List.drop_eq_getElem_cons h]
 unfold dAt List.getD
 rw [List.getElem?_eq_getElem h]
 rfl
theorem Yz {ds:List Nat}:∀ (m k:Nat),k+m=ds.length->((List.range m).map fun i=>Bv ds (k+i)).flatten++List.replicate (opn ds ds.length) false=rwH (opn ds k) (ds.drop k)
 | 0,k,e=>by
  obtain rfl:k=ds.length:=by omega
  rw [List.drop_of_length_le (Nat.le_refl _)]
  rfl
 | m+1,k,e=>by
  have ih:=Yz (ds:=ds) m (k+1) (by omega)
  rw [List.range_succ_eq_map,List.map_cons,List.map_map,List.flatten_cons,Zv (by omega)]
  have e1:((fun i=>Bv ds (k+i)) ∘ Nat.succ)=fun i=>Bv ds (k+1+i):=by
   funext i
   show Bv ds (k+(i+1))=Bv ds (k+1+i)
   rw [show k+(i+1)=k+1+i by omega]
  rw [e1,List.append_assoc,ih]
  show (List.replicate (opn ds k-dAt ds (k+0)) false++[true])++_=List.replicate (opn ds k-dAt ds k) false++true::rwH (dAt ds k+1) _
  rw [Nat.add_zero,List.append_assoc]
  rfl
theorem cR (ds:List Nat):A5 ds=rwH 0 ds:=by
 have:=Yz (ds:=ds) ds.length 0 (by omega)
 unfold A5 Km
 have e:(fun i=>Bv ds (0+i))=Bv ds:=by funext i;rw [Nat.zero_add]
 rw [e] at this
 exact this
theorem pB:∀ (B:List Nat) (h:Nat),(∀ k,k<B.length->dAt B k<=if k=0 then h else dAt B (k-1)+1)->dk h B
 | [],_,_=>trivial
 | d::B,h,hh=>⟨hh 0 (by simp),pB B (d+1) fun k hk=>by
  have:=hh (k+1) (by simp;exact hk)
  rw [if_neg (by omega)] at this
  cases k with
  | zero=>exact this
  | succ k=>exact this⟩
theorem oG:∀ (B:List Nat) (h:Nat),dk h B->∀ k,k<B.length->dAt B k<=if k=0 then h else dAt B (k-1)+1
 | d::B,h,hh,0,_=>hh.1
 | d::B,h,hh,k+1,hk=>by
  have:=oG B (d+1) hh.2 k (by simp at hk;exact hk)
  rw [if_neg (by omega)]
  cases k with
  | zero=>exact this
  | succ k=>exact this
theorem Fl {ds:List Nat}:Dok ds↔dk 0 ds:=by
 constructor
 ·intro h
  refine pB ds 0 fun k hk=>?_
  have:=h k hk
  cases k with
  | zero=>exact this
  | succ k=>rw [if_neg (by omega)];exact this
 ·intro h k hk
  have:=oG ds 0 h k hk
  cases k with
  | zero=>exact this
  | succ k=>rw [if_neg (by omega)] at this;exact this
theorem Ib:∀ (A B:List Nat) (h:Nat),dk h (A++B)↔dk h A/\dk (J2 h A) B
 | [],B,h=>⟨fun e=>⟨trivial,e⟩,fun e=>e.2⟩
 | d::A,B,h=>by
  have ih:=Ib A B (d+1)
  exact ⟨fun e=>⟨⟨e.1,(ih.mp e.2).1⟩,(ih.mp e.2).2⟩,fun e=>⟨e.1.1,ih.mpr ⟨e.1.2,e.2⟩⟩⟩
theorem lC {B:List Nat}{h h' off:Nat}(hB:dk h B)(hd:Oa B off)(ho:off<=h'):dk h' B:=by
 cases B with
 | nil=>trivial
 | cons d B=>exact ⟨Nat.le_trans (hd d B rfl) ho,hB.2⟩
theorem rL {B:List Nat}{h h':Nat}(hB:dk h B)(hh:h<=h'):dk h' B:=by
 cases B with
 | nil=>trivial
 | cons d B=>exact ⟨Nat.le_trans hB.1 hh,hB.2⟩
theorem jS {off:Nat}:∀ (E:List Nat) (h:Nat),dk h E->dk (h+off) (E.map (·+off))
 | [],_,_=>trivial
 | d::E,h,hh=>⟨Nat.add_le_add_right hh.1 _,by
  have:=jS (off:=off) E (d+1) hh.2
  rw [show d+1+off=d+off+1 by omega] at this
  exact this⟩
theorem Yt {off:Nat}:∀ (E:List Nat) (h:Nat),off<=h->off<=J2 h (E.map (·+off))
 | [],_,hh=>hh
 | d::E,h,_=>Yt E (d+off+1) (by omega)
theorem S4:∀ (A:List Nat),J2 0 A=opn A A.length:=by
 have key:∀ (A:List Nat) (h:Nat),J2 h A=if A.length=0 then h else dAt A (A.length-1)+1:=by
  intro A
  induction A with
  | nil=>intro h;rfl
  | cons d A ih =>
   intro h
   show J2 (d+1) A=_
   rw [ih (d+1)]
   cases A with
   | nil=>rfl
   | cons c A=>rfl
 intro A
 rw [key A 0]
 cases h:A.length with
 | zero=>rfl
 | succ n=>rw [if_neg (by omega)];rfl
theorem qQ {off:Nat}{E B:List Nat}(hE:dk 0 E)(hB:Oa B off):Oa (E.map (·+off)++B) off:=by
 intro d C e
 cases E with
 | nil=>exact hB d C e
 | cons c E =>
  have:=hE.1
  have e:c+off=d:=(List.cons.inj e).1
  omega
theorem pF {A E B:List Nat}{off:Nat}(h:dk 0 (A++B))(hE:dk 0 E)(ho:off<=J2 0 A)(hB:Oa B off):dk 0 (A++(E.map (·+off)++B)):=by
 obtain ⟨h1,h2⟩:=(Ib A B 0).mp h
 have h3:=jS (off:=off) E 0 hE
 rw [Nat.zero_add] at h3
 exact (Ib _ _ _).mpr ⟨h1,(Ib _ _ _).mpr ⟨rL h3 ho,lC h2 hB (Yt E _ ho)⟩⟩
theorem jV {A E B:List Nat}{off:Nat}(h:dk 0 (A++(E.map (·+off)++B)))(ho:off<=J2 0 A)(hB:Oa B off):dk 0 (A++B):=by
 obtain ⟨h1,h2⟩:=(Ib A _ 0).mp h
 exact (Ib _ _ _).mpr ⟨h1,lC ((Ib _ _ _).mp h2).2 hB ho⟩
theorem eO (a b:Nat):List.replicate (a+b) false=List.replicate a false++List.replicate b false:=by rw [List.replicate_append_replicate]
theorem Wx {h off:Nat}{B:List Nat}(ho:off<=h)(hB:Oa B off):rwH h B=List.replicate (h-off) false++rwH off B:=by
 cases B with
 | nil =>
  show List.replicate h false=List.replicate (h-off) false++List.replicate off false
  rw [<- eO,Nat.sub_add_cancel ho]
 | cons d B =>
  have:=hB d B rfl
  show List.replicate (h-d) false++_=List.replicate (h-off) false++(List.replicate (off-d) false++_)
  rw [<- List.append_assoc,<- eO,show h-off+(off-d)=h-d by omega]
theorem kS {off:Nat}{B:List Nat}(hB:Oa B off):∀ (E:List Nat) (h:Nat),dk h E->rwH (h+off) (E.map (·+off)++B)=rwH h E++rwH off B
 | [],h,_=>by
  show rwH (h+off) B=List.replicate h false++_
  rw [Wx (by omega) hB,Nat.add_sub_cancel]
 | d::E,h,hh=>by
  have ih:=kS hB E (d+1) hh.2
  show List.replicate (h+off-(d+off)) false++true::rwH (d+off+1) (E.map (·+off)++B)=(List.replicate (h-d) false++true::rwH (d+1) E)++_
  rw [show d+off+1=d+1+off by omega,ih,Nat.add_sub_add_right,List.append_assoc]
  rfl
theorem jC:∀ (A:List Nat) (h:Nat),dk h A->∃ P:List Bool,P.length+J2 h A=h+2*A.length/\P.count true=A.length/\∀ B,rwH h (A++B)=P++rwH (J2 h A) B
 | [],h,_=>⟨[],by show 0+h=h+2*0;omega,rfl,fun B=>rfl⟩
 | d::A,h,hh=>by
  obtain ⟨P,p1,p2,p3⟩:=jC A (d+1) hh.2
  refine ⟨List.replicate (h-d) false++true::P,?_,?_,fun B=>?_⟩
  ·have:=hh.1
   rw [List.length_append,List.length_replicate,List.length_cons,List.length_cons]
   show h-d+(P.length+1)+J2 (d+1) A=_
   omega
  ·rw [List.count_append,List.count_cons,p2,List.count_replicate]
   simp
  ·show List.replicate (h-d) false++true::rwH (d+1) (A++B)=_
   rw [p3,List.append_assoc]
   rfl
theorem Vo {A E B:List Nat}{off:Nat}(hA:dk 0 A)(hE:dk 0 E)(ho:off<=J2 0 A)(hB:Oa B off):∃ P S:List Bool,P.length+off=2*A.length/\P.count true=A.length/\A5 (A++(E.map (·+off)++B))=P++(A5 E++S)/\A5 (A++B)=P++S:=by
 obtain ⟨P,p1,p2,p3⟩:=jC A 0 hA
 refine ⟨P++List.replicate (J2 0 A-off) false,rwH off B,?_,?_,?_,?_⟩
 ·rw [List.length_append,List.length_replicate]
  omega
 ·rw [List.count_append,p2,List.count_replicate]
  simp
 ·rw [cR,cR,p3,Wx ho (qQ hE hB),List.append_assoc]
  have:=kS hB E 0 hE
  rw [Nat.zero_add] at this
  rw [this]
 ·rw [cR,p3,Wx ho hB,List.append_assoc]
def els:List Int->Nat->List Nat->List Int
 | _,_,[]=>[]
 | W,n,d::ds=>W.getD d 0::els (W.take (d+1)++[(n:Int)]) (n+1) ds
def Re:List Int->Nat->List Nat->List Int
 | W,_,[]=>W
 | W,n,d::ds=>Re (W.take (d+1)++[(n:Int)]) (n+1) ds
theorem X7 {ds:List Nat}:∀ (m k:Nat),k+m=ds.length->els (way ds k) k (ds.drop k)=(List.range m).map (fun i=>eld ds (k+i))/\Re (way ds k) k (ds.drop k)=way ds ds.length
 | 0,k,e=>by
  obtain rfl:k=ds.length:=by omega
  rw [List.drop_of_length_le (Nat.le_refl _)]
  exact ⟨rfl,rfl⟩
 | m+1,k,e=>by
  have ih:=X7 (ds:=ds) m (k+1) (by omega)
  rw [Zv (by omega),List.range_succ_eq_map,List.map_cons,List.map_map]
  have e1:((fun i=>eld ds (k+i)) ∘ Nat.succ)=fun i=>eld ds (k+1+i):=by
   funext i
   show eld ds (k+(i+1))=eld ds (k+1+i)
   rw [show k+(i+1)=k+1+i by omega]
  rw [e1,<- ih.1]
  exact ⟨rfl,ih.2⟩
theorem Ij (ds:List Nat):A0 ds=els [-1] 0 ds/\Re [-1] 0 ds=way ds ds.length:=by
 have:=X7 (ds:=ds) ds.length 0 (by omega)
 unfold A0
 have e:(fun i=>eld ds (0+i))=eld ds:=by funext i;rw [Nat.zero_add]
 rw [e] at this
 exact ⟨this.1.symm,this.2⟩
theorem U1:∀ (A B:List Nat) (W:List Int) (n:Nat),els W n (A++B)=els W n A++els (Re W n A) (n+A.length) B
 | [],_,_,_=>rfl
 | d::A,B,W,n=>by
  have ih:=U1 A B (W.take (d+1)++[(n:Int)]) (n+1)
  show _::els (W.take (d+1)++[(n:Int)]) (n+1) (A++B)=_::(_++els _ (n+(A.length+1)) B)
  rw [ih,show n+(A.length+1)=n+1+A.length by omega]
  rfl
theorem Yb:∀ (A B:List Nat) (W:List Int) (n:Nat),Re W n (A++B)=Re (Re W n A) (n+A.length) B
 | [],_,_,_=>rfl
 | d::A,B,W,n=>by
  have ih:=Yb A B (W.take (d+1)++[(n:Int)]) (n+1)
  show Re (W.take (d+1)++[(n:Int)]) (n+1) (A++B)=Re _ (n+(A.length+1)) B
  rw [ih,show n+(A.length+1)=n+1+A.length by omega]
  rfl
theorem eJ {off n:Nat}{W:List Int}{B:List Nat}(hB:Oa B off):els W n B=els (W.take (off+1)) n B:=by
 cases B with
 | nil=>rfl
 | cons d B =>
  have:=hB d B rfl
  show W.getD d 0::els (W.take (d+1)++[(n:Int)]) (n+1) B=(W.take (off+1)).getD d 0::els ((W.take (off+1)).take (d+1)++[(n:Int)]) (n+1) B
  rw [List.take_take,Nat.min_eq_left (by omega)]
  congr 1
  unfold List.getD
  rw [List.getElem?_take_of_lt (by omega)]
theorem eN {φ:Int->Int}:∀ (B:List Nat) (W:List Int) (n m h:Nat),(∀ i:Nat,φ ((n+i:Nat):Int)=((m+i:Nat):Int))->dk h B->W.length=h+1->els (W.map φ) m B=(els W n B).map φ
 | [],_,_,_,_,_,_,_=>rfl
 | d::B,W,n,m,h,hp,hd,hl=>by
  have ih:=eN (φ:=φ) B (W.take (d+1)++[(n:Int)]) (n+1) (m+1) (d+1) (fun i=>by
   rw [show n+1+i=n+(i+1) by omega,hp,show m+1+i=m+(i+1) by omega]) hd.2 (by
   have:=hd.1
   rw [List.length_append,List.length_take,Nat.min_eq_left (by omega)]
   rfl)
  show (W.map φ).getD d 0::els ((W.map φ).take (d+1)++[(m:Int)]) (m+1) B=φ (W.getD d 0)::_
  have hdl:d<W.length:=by have:=hd.1;omega
  have e0:φ (n:Int)=(m:Int):=hp 0
  rw [<- ih,List.map_append,List.map_take]
  congr 1
  ·unfold List.getD
   rw [List.getElem?_map,List.getElem?_eq_getElem hdl]
   rfl
  ·show els (_++[(m:Int)]) _ _=els (_++[φ (n:Int)]) _ _
   rw [e0]
theorem T4 {off:Nat}:∀ (E:List Nat) (W:List Int) (n:Nat),off+1<=W.length->(Re W n (E.map (·+off))).take (off+1)=W.take (off+1)
 | [],_,_,_=>rfl
 | d::E,W,n,hl=>by
  have ih:=T4 (off:=off) E (W.take (d+off+1)++[(n:Int)]) (n+1) (by rw [List.length_append,List.length_take];simp only [List.length_cons,List.length_nil];omega)
  show (Re (W.take (d+off+1)++[(n:Int)]) (n+1) (E.map (·+off))).take (off+1)=_
  rw [ih,List.take_append_of_le_length (by rw [List.length_take];omega),List.take_take,Nat.min_eq_left (by omega)]
theorem Xk {A E B:List Nat}{off:Nat}(h:dk 0 (A++B))(hE:dk 0 E)(ho:off<=J2 0 A)(hB:Oa B off){top:Int}(ht:(way A A.length)[off]?=some top) :
  A0 (A++(E.map (·+off)++B))=A0 A++(((A0 E).map fun e=>if e<0 then top else e+(A.length:Int))++(els (way A A.length) A.length B).map fun x=>if (A.length:Int)<=x then x+(E.length:Int) else x)/\A0 (A++B)=A0 A++els (way A A.length) A.length B:=by
 obtain ⟨hA,hB2⟩:=(Ib A B 0).mp h
 have hAo:=Fl.mpr hA
 have h1:=T0 hAo (Fl.mpr hE) (by rw [<- S4];exact ho) ht
 have hwl:=Cj hAo A.length (Nat.le_refl _)
 rw [<- S4] at hwl
 have e2:A0 (A++B)=A0 A++els (way A A.length) A.length B:=by
  rw [(Ij _).1,U1,(Ij A).2,(Ij A).1,Nat.zero_add]
 refine ⟨?_,e2⟩
 rw [<- List.append_assoc A,(Ij _).1,U1,Yb,(Ij A).2,Nat.zero_add,List.length_append,List.length_map]
 have e3:els [-1] 0 (A++E.map (·+off))=A0 A++(A0 E).map fun e=>if e<0 then top else e+(A.length:Int):=by
  rw [<- h1,(Ij _).1]
  rfl
 rw [e3,List.append_assoc]
 congr 2
 rw [eJ hB,T4 E _ _ (by omega),eJ hB (W:=way A A.length)]
 have e4:((way A A.length).take (off+1)).map (fun x=>if (A.length:Int)<=x then x+(E.length:Int) else x)=(way A A.length).take (off+1):=by
  rw [List.map_congr_left (g:=id),List.map_id]
  intro x hx
  obtain ⟨i,hi⟩:=List.getElem?_of_mem (List.mem_of_mem_take hx)
  have:¬ (A.length:Int)<=x:=by
   cases i with
   | zero =>
    rw [Ci hAo _ (Nat.le_refl _)] at hi
    have:=Option.some.inj hi
    omega
   | succ i =>
    obtain ⟨v,hv,hlt,_⟩:=Ow hAo _ i x (Nat.le_refl _) hi
    omega
  show (if _ then _ else _)=x
  rw [if_neg this]
 have e5:=eN (φ:=fun x=>if (A.length:Int)<=x then x+(E.length:Int) else x) B ((way A A.length).take (off+1)) A.length (A.length+E.length) off (fun i=>by
  show (if _ then _ else _)=_
  rw [if_pos (by omega)]
  omega) (lC hB2 hB (Nat.le_refl _)) (by rw [List.length_take];omega)
 rw [e4] at e5
 rw [Nat.zero_add]
 exact e5
theorem Vd {ds:List Nat}(h:Dok ds){k:Nat}(hk:k<ds.length):∀ d,k+1+d<=Bj ds k->(way ds (k+1+d))[dAt ds k+1]?=some (k:Int)
 | 0,_=>by
  have hl:=Cj h k (by omega)
  have hd:=h k hk
  show ((way ds k).take (dAt ds k+1)++[(k:Int)])[dAt ds k+1]?=_
  rw [List.getElem?_append_right (by rw [List.length_take];omega),List.length_take,Nat.min_eq_left (by omega),Nat.sub_self]
  rfl
 | d+1,hd=>by
  have ih:=Vd h hk d (by omega)
  obtain ⟨a,b,c,_⟩:=Bx (ds:=ds) hk
  have hl:=Cj h (k+1+d) (by omega)
  have h2:=h (k+1+d) (by omega)
  have h3:=Nx h hk (k+1+d) (by omega) (by omega)
  show ((way ds (k+1+d)).take (dAt ds (k+1+d)+1)++[((k+1+d:Nat):Int)])[dAt ds k+1]?=_
  rw [List.getElem?_append_left (by rw [List.length_take];omega),List.getElem?_take_of_lt (by omega)]
  exact ih
theorem Ux {ds:List Nat}(h:Dok ds){k:Nat}(hk:k<ds.length)(he:Bj ds k<ds.length):dAt ds (Bj ds k)<=dAt ds k:=by
 obtain ⟨a,b,c,d⟩:=Bx (ds:=ds) hk
 have h1:=d he
 have h2:=Vd h hk (Bj ds k-(k+1)) (by omega)
 rw [show k+1+(Bj ds k-(k+1))=Bj ds k by omega] at h2
 have h3:=E3 h he
 by_cases hlt:dAt ds (Bj ds k)<=dAt ds k
 ·exact hlt
 ·exfalso
  by_cases e:dAt ds (Bj ds k)=dAt ds k+1
  ·rw [e,h2] at h3
   have:=Option.some.inj h3
   omega
  ·have:=Ro h _ _ _ _ _ b (show dAt ds k+1<dAt ds (Bj ds k) by omega) h2 h3
   omega
theorem Pq {ds:List Nat}(h:Dok ds){k j:Nat}(hk:k<ds.length)(h1:k<j)(h2:j<Bj ds k):eld ds j=(k:Int)↔dAt ds j=dAt ds k+1:=by
 obtain ⟨a,b,c,d⟩:=Bx (ds:=ds) hk
 have h3:=Vd h hk (j-(k+1)) (by omega)
 rw [show k+1+(j-(k+1))=j by omega] at h3
 have h4:=E3 h (show j<ds.length by omega)
 constructor
 ·intro e
  obtain ⟨v,hv,_,hd⟩:=En h (show j<ds.length by omega) (by omega)
  obtain rfl:v=k:=by omega
  exact hd
 ·intro e
  rw [e,h3] at h4
  exact (Option.some.inj h4).symm
theorem Vb {ds:List Nat}(h:Dok ds){k j:Nat}(hk:k<ds.length)(hj:j<ds.length)(e:eld ds j=(k:Int)):k<j/\j<Bj ds k:=by
 have hlt:=dX h hj
 refine ⟨by omega,?_⟩
 by_cases h2:j<Bj ds k
 ·exact h2
 ·rcases lN h hk (by omega) hj with h3 | h3
  ·omega
  ·have:=(Bx (ds:=ds) hk).1
   omega
def Cm (ds:List Nat)(k:Nat):List Nat:=(List.range (Bj ds k-(k+1))).map fun i=>dAt ds (k+1+i)-(dAt ds k+1)
theorem Du (ds:List Nat)(k:Nat):(Cm ds k).length=Bj ds k-(k+1):=by unfold Cm;rw [List.length_map,List.length_range]
theorem Rp {ds:List Nat}{k i:Nat}(h:i<Bj ds k-(k+1)):dAt (Cm ds k) i=dAt ds (k+1+i)-(dAt ds k+1):=by
 unfold dAt Cm List.getD
 rw [List.getElem?_map,List.getElem?_range h]
 rfl
theorem Hx {ds:List Nat}(h:Dok ds){k:Nat}(hk:k<ds.length):Dok (Cm ds k):=fun i hi=>by
 obtain ⟨a,b,c,d⟩:=Bx (ds:=ds) hk
 rw [Du] at hi
 rw [Rp hi]
 have h1:=h (k+1+i) (by omega)
 cases i with
 | zero =>
  have h1:dAt ds (k+1+0)<=dAt ds k+1:=h1
  show _<=0
  omega
 | succ i =>
  show _<=dAt (Cm ds k) i+1
  rw [Rp (by omega)]
  have h1:dAt ds (k+1+(i+1))<=dAt ds (k+1+i)+1:=h1
  have:=Nx h hk (k+1+i) (by omega) (by omega)
  omega
theorem cP {ds:List Nat}{a b:Nat}(h1:a<=b)(h2:b<=ds.length):ds=ds.take a++((ds.drop a).take (b-a)++ds.drop b):=by
 have e1:=(List.take_append_drop a ds).symm
 have e2:=(List.take_append_drop (b-a) (ds.drop a)).symm
 rw [List.drop_drop,show a+(b-a)=b by omega] at e2
 rw [e2] at e1
 exact e1
theorem mC {ds es:List Nat}{a b off:Nat}(h1:a<=b)(h2:b<=ds.length)(hl:es.length=b-a)(he:∀ i,i<b-a->dAt ds (a+i)=dAt es i+off):(ds.drop a).take (b-a)=es.map (·+off):=by
 refine List.ext_getElem? fun i=>?_
 by_cases hi:i<b-a
 ·have e:=he i hi
  unfold dAt List.getD at e
  rw [List.getElem?_eq_getElem (show a+i<ds.length by omega),List.getElem?_eq_getElem (show i<es.length by omega)] at e
  rw [List.getElem?_take_of_lt hi,List.getElem?_drop,List.getElem?_map,List.getElem?_eq_getElem (show a+i<ds.length by omega),List.getElem?_eq_getElem (show i<es.length by omega)]
  exact congrArg some e
 ·rw [List.getElem?_eq_none (by rw [List.length_take];omega),List.getElem?_eq_none (by rw [List.length_map];omega)]
theorem Ug {ds:List Nat}(h:Dok ds){k:Nat}(hk:k<ds.length):ds=ds.take k++((Gc ds k).map (·+dAt ds k)++ds.drop (Bj ds k)):=by
 obtain ⟨a,b,c,d⟩:=Bx (ds:=ds) hk
 have:=cP (ds:=ds) (a:=k) (b:=Bj ds k) (by omega) b
 rw [mC (es:=Gc ds k) (off:=dAt ds k) (by omega) b (Fo _ _) fun i hi=>?_] at this
 ·exact this
 ·rw [Vw hi]
  cases i with
  | zero=>show _=dAt ds (k+0)-dAt ds k+dAt ds k;rw [Nat.add_zero];omega
  | succ i =>
   have:=Nx h hk (k+(i+1)) (by omega) (by omega)
   omega
theorem Pz {ds:List Nat}{a off:Nat}(h:a<ds.length->dAt ds a<=off):Oa (ds.drop a) off:=by
 intro d C e
 by_cases ha:a<ds.length
 ·rw [Zv ha] at e
  rw [<- (List.cons.inj e).1]
  exact h ha
 ·rw [List.drop_of_length_le (by omega)] at e
  cases e
theorem M5 {ds:List Nat}{a:Nat}(ha:a<=ds.length):J2 0 (ds.take a)=opn ds a:=by
 rw [S4,List.length_take,Nat.min_eq_left ha]
 cases a with
 | zero=>rfl
 | succ a =>
  show dAt (ds.take (a+1)) a+1=dAt ds a+1
  unfold dAt List.getD
  rw [List.getElem?_take_of_lt (by omega)]
theorem M9 {ds:List Nat}:∀ {a b:Nat},a<=b->b<=ds.length->way (ds.take b) a=way ds a
 | 0,_,_,_=>rfl
 | a+1,b,h1,h2=>by
  have ih:=M9 (ds:=ds) (a:=a) (b:=b) (by omega) h2
  show (way (ds.take b) a).take (dAt (ds.take b) a+1)++_=(way ds a).take (dAt ds a+1)++_
  have e:dAt (ds.take b) a=dAt ds a:=by
   unfold dAt List.getD
   rw [List.getElem?_take_of_lt (by omega)]
  rw [ih,e]
theorem Ov {ds:List Nat}{a:Nat}(ha:a<=ds.length):A0 (ds.take a)=(A0 ds).take a:=by
 refine List.ext_getElem? fun i=>?_
 by_cases hi:i<a
 ·rw [Cp (by rw [List.length_take];omega),List.getElem?_take_of_lt hi,Cp (by omega)]
  unfold eld
  rw [M9 (by omega) ha]
  unfold dAt List.getD
  rw [List.getElem?_take_of_lt hi]
 ·rw [List.getElem?_eq_none (by rw [Au,List.length_take];omega),List.getElem?_eq_none (by rw [List.length_take];omega)]
def Us (ds:List Nat)(k:Nat):List Nat:=ds.take k++ds.drop (Bj ds k)
def Ii (ds es:List Nat)(a off:Nat):List Nat:=ds.take a++(es.map (·+off)++ds.drop a)
theorem Wr {ds:List Nat}(h:Dok ds){k:Nat}(hk:k<ds.length):Dok (Us ds k)/\∃ P S:List Bool,P.length+dAt ds k=2*k/\P.count true=k/\A5 ds=P++(A5 (Gc ds k)++S)/\A5 (Us ds k)=P++S:=by
 obtain ⟨a,b,c,d⟩:=Bx (ds:=ds) hk
 have hs:=Ug h hk
 have hd:=Fl.mp h
 have ho:dAt ds k<=J2 0 (ds.take k):=by rw [M5 (by omega)];exact h k hk
 have hB:Oa (ds.drop (Bj ds k)) (dAt ds k):=Pz fun he=>Ux h hk he
 rw [hs] at hd
 obtain ⟨P,S,p1,p2,p3,p4⟩:=Vo ((Ib _ _ _).mp hd).1 (Fl.mp (Mr h hk)) ho hB
 rw [List.length_take,Nat.min_eq_left (by omega)] at p1 p2
 rw [<- hs] at p3
 exact ⟨Fl.mpr (jV hd ho hB),P,S,p1,p2,p3,p4⟩
theorem jX {ds:List Nat}(h:Dok ds){k:Nat}(hk:k<ds.length):A0 (Us ds k)=(A0 ds).take k++((A0 ds).drop (Bj ds k)).map fun x=>if (k:Int)<=x then x-(Bj ds k:Int)+(k:Int) else x:=by
 obtain ⟨a,b,c,d⟩:=Bx (ds:=ds) hk
 have hs:=Ug h hk
 have hd:=Fl.mp h
 have ho:dAt ds k<=J2 0 (ds.take k):=by rw [M5 (by omega)];exact h k hk
 have hB:Oa (ds.drop (Bj ds k)) (dAt ds k):=Pz fun he=>Ux h hk he
 rw [hs] at hd
 have hl:(ds.take k).length=k:=by rw [List.length_take];omega
 obtain ⟨e1,e2⟩:=Xk (jV hd ho hB) (Fl.mp (Mr h hk)) ho hB (top:=eld ds k) (by
  rw [hl,M9 (Nat.le_refl _) (by omega)]
  exact E3 h hk)
 rw [<- hs,hl,Fo] at e1
 rw [hl] at e2
 show A0 (ds.take k++ds.drop (Bj ds k))=_
 rw [e2,Ov (by omega)]
 congr 1
 have hl2:((A0 ds).take k).length=k:=by rw [List.length_take,Au];omega
 have hdr:(A0 ds).drop (Bj ds k)=(els (way (ds.take k) k) k (ds.drop (Bj ds k))).map fun x=>if (k:Int)<=x then x+((Bj ds k-k:Nat):Int) else x:=by
  rw [e1,Ov (by omega),<- List.append_assoc,List.drop_append_of_le_length (by rw [List.length_append,List.length_map,Au,Fo,hl2];omega),List.drop_of_length_le (by rw [List.length_append,List.length_map,Au,Fo,hl2];omega)]
  rfl
 rw [hdr,List.map_map]
 refine (List.map_id _).symm.trans (List.map_congr_left fun x hx=>?_)
 show x=(fun x:Int=>if (k:Int)<=x then x-(Bj ds k:Int)+(k:Int) else x) ((fun x:Int=>if (k:Int)<=x then x+((Bj ds k-k:Nat):Int) else x) x)
 dsimp only
 by_cases hkx:(k:Int)<=x
 ·rw [if_pos hkx,if_pos (by omega)]
  omega
 ·rw [if_neg hkx,if_neg hkx]
theorem Ls {ds es:List Nat}(h:Dok ds)(he:Dok es){a off:Nat}(ha:a<=ds.length)(ho:off<=opn ds a)(hB:a<ds.length->dAt ds a<=off):Dok (Ii ds es a off)/\∃ P S:List Bool,P.length+off=2*a/\A5 ds=P++S/\A5 (Ii ds es a off)=P++(A5 es++S):=by
 have hd:=Fl.mp h
 have ho:off<=J2 0 (ds.take a):=by rw [M5 ha];exact ho
 have hB:=Pz hB
 rw [<- List.take_append_drop a ds] at hd
 obtain ⟨P,S,p1,p2,p3,p4⟩:=Vo ((Ib _ _ _).mp hd).1 (Fl.mp he) ho hB
 rw [List.length_take,Nat.min_eq_left ha] at p1
 rw [List.take_append_drop] at p4
 exact ⟨Fl.mpr (pF hd (Fl.mp he) ho hB),P,S,p1,p4,p3⟩
theorem cB {ds es:List Nat}(h:Dok ds)(he:Dok es){a off:Nat}(ha:a<=ds.length)(ho:off<=opn ds a)(hB:a<ds.length->dAt ds a<=off){top:Int}(ht:(way ds a)[off]?=some top) :
  A0 (Ii ds es a off)=(A0 ds).take a++(((A0 es).map fun e=>if e<0 then top else e+(a:Int))++((A0 ds).drop a).map fun x=>if (a:Int)<=x then x+(es.length:Int) else x):=by
 have hd:=Fl.mp h
 have ho:off<=J2 0 (ds.take a):=by rw [M5 ha];exact ho
 have hB:=Pz hB
 rw [<- List.take_append_drop a ds] at hd
 have hl:(ds.take a).length=a:=by rw [List.length_take];omega
 obtain ⟨e1,e2⟩:=Xk hd (Fl.mp he) ho hB (top:=top) (by rw [hl,M9 (Nat.le_refl _) ha];exact ht)
 rw [hl] at e1 e2
 rw [List.take_append_drop] at e2
 have hl2:(A0 (ds.take a)).length=a:=by rw [Au,hl]
 have hdr:(A0 ds).drop a=els (way (ds.take a) a) a (ds.drop a):=by
  rw [e2,List.drop_append_of_le_length (by omega),List.drop_of_length_le (by omega)]
  rfl
 show A0 (ds.take a++_)=_
 rw [e1,hdr,Ov ha]
def hg (l:List Bool)(i:Nat):Int:=2*((l.take i).count true:Int)-i
theorem Ly (b:Bool)(l:List Bool)(i:Nat):hg (b::l) (i+1)=(if b then 1 else -1)+hg l i:=by
 unfold hg
 rw [List.take_succ_cons,List.count_cons]
 cases b<;>simp<;>omega
theorem Ou {P X:List Bool}(i:Nat):hg (P++X) (P.length+i)=hg P P.length+hg X i:=by
 unfold hg
 rw [List.take_append,List.take_of_length_le (show P.length<=P.length+i by omega),List.take_length,List.count_append,Nat.add_sub_cancel_left]
 omega
theorem Vt {P X:List Bool}{i:Nat}(h:i<=P.length):hg (P++X) i=hg P i:=by
 unfold hg
 rw [List.take_append_of_le_length h]
theorem kU:∀ (l:List Bool) (h:Nat),Vs h l->(∀ i,i<=l.length->0<=(h:Int)+hg l i)/\(h:Int)+hg l l.length=0
  | [], h, hv => by
    have hv : h = 0 := hv
    subst hv
    exact ⟨fun i hi => by obtain rfl : i = 0 := by simpa using hi
                          exact Int.le_refl _, rfl⟩
  | true :: l, h, hv => by
    obtain ⟨h1, h2⟩ := kU l (h + 1) hv
    refine ⟨fun i hi => ?_, ?_⟩
    · cases i with
      | zero => show (0 : Int) <= h + (2 * 0 - 0); omega
      | succ i =>
        have := h1 i (by simp at hi; omega)
        rw [Ly]
        simp only [if_true]
        omega
    · rw [List.length_cons, Ly]
      simp only [if_true]
      omega
  | false :: l, h, hv => by
    obtain ⟨h0, hv⟩ := hv
    obtain ⟨g, rfl⟩ : ∃ g, h = g + 1 := ⟨h - 1, by omega⟩
    obtain ⟨h1, h2⟩ := kU l g hv
    refine ⟨fun i hi => ?_, ?_⟩
    · cases i with
      | zero => show (0 : Int) <= _ + (2 * 0 - 0); omega
      | succ i =>
        have := h1 i (by simp at hi; omega)
        rw [Ly]
        simp only [Bool.false_eq_true, if_false]
        omega
    · rw [List.length_cons, Ly]
      simp only [Bool.false_eq_true, if_false]
      omega
theorem Oj {ds:List Nat}(h:Dok ds):(∀ i,i<=2*ds.length->0<=hg (A5 ds) i)/\hg (A5 ds) (2*ds.length)=0:=by
 have:=kU _ _ (iO h)
 rw [Bp h] at this
 exact ⟨fun i hi=>by have:=this.1 i hi;omega,by have:=this.2;omega⟩
theorem qX {P:List Bool}{a off:Nat}(h1:P.length+off=2*a)(h2:P.count true=a):hg P P.length=off:=by
 unfold hg
 rw [List.take_length,h2]
 omega
theorem nA {ds:List Nat}(h:Dok ds){k:Nat}(hk:k<ds.length):A5 (Gc ds k)=true::(A5 (Cm ds k)++[false]):=by
 obtain ⟨a,b,c,d⟩:=Bx (ds:=ds) hk
 have hu:=Hx h hk
 have e:Gc ds k=[0]++((Cm ds k).map (·+1)++[]):=by
  rw [List.append_nil]
  refine List.ext_getElem? fun i=>?_
  by_cases hi:i<Bj ds k-k
  ·have e1:=Vw hi
   unfold dAt List.getD at e1
   rw [List.getElem?_eq_getElem (show i<(Gc ds k).length by rw [Fo];exact hi)] at e1
   rw [List.getElem?_eq_getElem (show i<(Gc ds k).length by rw [Fo];exact hi)]
   have e1:(Gc ds k)[i]'(by rw [Fo];exact hi)=dAt ds (k+i)-dAt ds k:=e1
   rw [e1]
   cases i with
   | zero=>rw [Nat.add_zero,Nat.sub_self];rfl
   | succ i =>
    have e2:=Rp (ds:=ds) (k:=k) (i:=i) (by omega)
    unfold dAt List.getD at e2
    rw [List.getElem?_eq_getElem (show i<(Cm ds k).length by rw [Du];omega)] at e2
    have e2:(Cm ds k)[i]'(by rw [Du];omega)=dAt ds (k+1+i)-(dAt ds k+1):=e2
    show _=((Cm ds k).map (·+1))[i]?
    rw [List.getElem?_map,List.getElem?_eq_getElem (show i<(Cm ds k).length by rw [Du];omega),e2]
    have:=Nx h hk (k+1+i) (by omega) (by omega)
    show some _=some (dAt ds (k+1+i)-(dAt ds k+1)+1)
    rw [show k+(i+1)=k+1+i by omega]
    congr 1
    omega
  ·rw [List.getElem?_eq_none (by rw [Fo];omega),List.getElem?_eq_none (by rw [List.length_append,List.length_map,Du];simp only [List.length_cons,List.length_nil];omega)]
 obtain ⟨P,S,p1,p2,p3,p4⟩:=Vo (A:=[0]) (B:=[]) (off:=1) (show dk 0 [0] from ⟨Nat.le_refl _,trivial⟩) (Fl.mp hu) (Nat.le_refl _) (fun d C e=>by cases e)
 rw [e,p3]
 have p5:P++S=[true,false]:=p4.symm
 have p1:P.length=1:=by simp only [List.length_cons,List.length_nil] at p1;omega
 match P,p1 with
 | [x],_ =>
  have e1:x=true:=(List.cons.inj p5).1
  have e2:S=[false]:=(List.cons.inj p5).2
  rw [e1,e2]
  rfl
theorem X2 {ds:List Nat}(h:Dok ds){k:Nat}(hk:k<ds.length):∃ P S:List Bool,P.length+dAt ds k=2*k/\P.count true=k/\A5 ds=P++(true::(A5 (Cm ds k)++false::S))/\A5 (Us ds k)=P++S:=by
 obtain ⟨_,P,S,p1,p2,p3,p4⟩:=Wr h hk
 refine ⟨P,S,p1,p2,?_,p4⟩
 rw [p3,nA h hk]
 show P++(true::((A5 (Cm ds k)++[false])++S))=_
 rw [List.append_assoc]
 rfl
theorem Nu {l:List Bool}{p q:Nat}(h1:l[p]?=some true)(h2:p<q):(l.take p).count true<(l.take q).count true:=by
 have e:l.take q=l.take p++(true::(l.drop (p+1)).take (q-(p+1))):=by
  have h3:=(List.getElem?_eq_some_iff.mp h1).1
  have e1:l.drop p=true::l.drop (p+1):=by
   rw [List.drop_eq_getElem_cons h3]
   rw [List.getElem?_eq_getElem h3] at h1
   rw [Option.some.inj h1]
  rw [show q=p+(q-p) by omega,List.take_add,e1,show p+(q-p)-(p+1)=q-(p+1) by omega,show q-p=(q-(p+1))+1 by omega,List.take_succ_cons]
 rw [e,List.count_append,List.count_cons]
 simp
theorem gF {l:List Bool}{p q:Nat}(h1:l[p]?=some true)(h2:l[q]?=some true)(h3:(l.take p).count true=(l.take q).count true):p=q:=by
 rcases Nat.lt_trichotomy p q with h | h | h
 ·have:=Nu h1 h;omega
 ·exact h
 ·have:=Nu h2 h;omega
theorem Fm {ds:List Nat}(h:Dok ds){k:Nat}(hk:k<ds.length):dAt ds k<=2*k/\(A5 ds)[2*k-dAt ds k]?=some true/\((A5 ds).take (2*k-dAt ds k)).count true=k:=by
 obtain ⟨P,S,p1,p2,p3,_⟩:=X2 h hk
 have e:2*k-dAt ds k=P.length:=by omega
 refine ⟨by omega,?_,?_⟩
 ·rw [p3,e,List.getElem?_append_right (Nat.le_refl _),Nat.sub_self]
  rfl
 ·rw [p3,e,List.take_left,p2]
theorem mH {ds:List Nat}(h:Dok ds){k p:Nat}(hk:k<ds.length)(h1:(A5 ds)[p]?=some true)(h2:((A5 ds).take p).count true=k):p+dAt ds k=2*k:=by
 obtain ⟨a,b,c⟩:=Fm h hk
 have:=gF h1 b (by rw [h2,c])
 omega
theorem Xb {ds:List Nat}(h:Dok ds){p:Nat}(hp:p<2*ds.length):hg (A5 ds) p=0↔∃ j,j<ds.length/\eld ds j=-1/\p=2*j:=by
 constructor
 ·intro e
  have hl:=Bp h
  obtain ⟨c,hc⟩:∃ c,((A5 ds).take p).count true=c:=⟨_,rfl⟩
  have hp2:p=2*c:=by unfold hg at e;rw [hc] at e;omega
  have hpl:p<(A5 ds).length:=by omega
  have hb:(A5 ds)[p]?=some true:=by
   rw [List.getElem?_eq_getElem hpl]
   cases hx:(A5 ds)[p] with
   | true=>rfl
   | false =>
    exfalso
    have h1:=(Oj h).1 (p+1) (by omega)
    unfold hg at h1 e
    rw [List.take_add_one,List.getElem?_eq_getElem hpl,hx,List.count_append] at h1
    simp at h1
    omega
  have hcl:c<ds.length:=by omega
  have:=mH h hcl hb hc
  refine ⟨c,hcl,?_,hp2⟩
  have hd:dAt ds c=0:=by omega
  have:=E3 h hcl
  rw [hd,Ci h c (by omega)] at this
  exact (Option.some.inj this).symm
 ·rintro ⟨j,hj,he,rfl⟩
  have hd:=Jr h hj he
  obtain ⟨a,b,c⟩:=Fm h hj
  rw [hd,Nat.sub_zero] at c
  unfold hg
  rw [c]
  omega
theorem nJ {ds:List Nat}(h:Dok ds){t:Nat}(ht:t<=ds.length):((List.range (2*t)).filter fun i=>decide (hg (A5 ds) i=0)).length=(Bq ds t (-1)).length:=by
 have e:((List.range (2*t)).filter fun i=>decide (hg (A5 ds) i=0))=(Bq ds t (-1)).map (2 * ·):=by
  refine P4 (List.Pairwise.filter _ List.pairwise_lt_range) ?_ fun x=>?_
  ·unfold Bq
   rw [List.pairwise_map]
   exact (List.Pairwise.filter _ List.pairwise_lt_range).imp fun hab=>by omega
  ·rw [List.mem_filter,List.mem_range,List.mem_map]
   constructor
   ·rintro ⟨h1,h2⟩
    obtain ⟨j,hj,he,rfl⟩:=(Xb h (by omega)).mp (of_decide_eq_true h2)
    exact ⟨j,P7.mpr ⟨by omega,he⟩,rfl⟩
   ·rintro ⟨j,hj,rfl⟩
    obtain ⟨h1,h2⟩:=P7.mp hj
    exact ⟨by omega,decide_eq_true ((Xb h (by omega)).mpr ⟨j,by omega,h2,rfl⟩)⟩
 rw [e,List.length_map]
theorem R3 {ds:List Nat}(h:Dok ds){k:Nat}(hk:k<ds.length):∀ t,t<=Bj ds k-(k+1)->(Bq (Cm ds k) t (-1)).length=(Bq ds (k+1+t) k).length
 | 0,_=>by
  rw [Nat.add_zero,gK h (k:=k+1) (v:=k) (by omega) (Nat.le_refl _)]
  rfl
 | t+1,ht=>by
  have ih:=R3 h hk t (by omega)
  obtain ⟨a,b,c,d⟩:=Bx (ds:=ds) hk
  have hu:=Hx h hk
  have hkd:=Pq h hk (j:=k+1+t) (by omega) (by omega)
  have hdi:=Nx h hk (k+1+t) (by omega) (by omega)
  have hua:=Rp (ds:=ds) (k:=k) (i:=t) (by omega)
  have htl:t<(Cm ds k).length:=by rw [Du];omega
  show _=(Bq ds (k+1+t+1) k).length
  by_cases e:eld ds (k+1+t)=(k:Int)
  ·have e2:eld (Cm ds k) t=-1:=by
    have:=E3 hu htl
    rw [hua,hkd.mp e,Nat.sub_self,Ci hu _ (by omega)] at this
    exact (Option.some.inj this).symm
   rw [Fn e,Fn e2,List.length_append,List.length_append,ih]
   rfl
  ·have e2:eld (Cm ds k) t≠-1:=fun z=>e (hkd.mpr (by
    have:=Jr hu htl z
    omega))
   rw [G1 e,G1 e2,ih]
theorem M8 {ds:List Nat}(h:Dok ds){k:Nat}(hk:k<ds.length):∃ A B:List Bool,A.length=2*k-dAt ds k+1/\A5 ds=A++(A5 (Cm ds k)++B)/\dAt ds k<=2*k/\hg (A5 ds) (2*k-dAt ds k)=dAt ds k/\(∀ j,j<=2*(Cm ds k).length->hg (A5 ds) (A.length+j)=dAt ds k+1+hg (A5 (Cm ds k)) j)/\hg (A5 ds) (A.length+2*(Cm ds k).length+1)=dAt ds k:=by
 obtain ⟨P,S,p1,p2,p3,_⟩:=X2 h hk
 have hu:=Hx h hk
 have hl:=Bp hu
 have hP:=qX p1 p2
 have hA:hg (P++[true]) (P++[true]).length=dAt ds k+1:=by
  rw [List.length_append,Ou,hP]
  show (dAt ds k:Int)+hg [true] 1=_
  rw [Ly]
  simp [hg]
 have e:A5 ds=(P++[true])++(A5 (Cm ds k)++false::S):=by rw [p3,List.append_assoc];rfl
 refine ⟨P++[true],false::S,by rw [List.length_append];show P.length+1=_;omega,e,by omega,?_,fun j hj=>?_,?_⟩
 ·rw [p3,show 2*k-dAt ds k=P.length by omega,Vt (Nat.le_refl _),hP]
 ·rw [e,Ou,hA,Vt (by omega)]
 ·rw [e,Nat.add_assoc,Ou,hA,<- hl,Ou]
  have e1:=(Oj hu).2
  rw [<- hl] at e1
  rw [e1,Ly]
  simp [hg]
  omega
def GAt (ds:List Nat)(ko:Option Nat)(place a off:Nat)(top:Int):Prop:=match ko with
 | some k=>k<ds.length/\off=dAt ds k+1/\top=(k:Int)/\k<a/\a<=Bj ds k/\(Bq ds a k).length=place/\(a=Bj ds k\/a<Bj ds k/\eld ds a=(k:Int))
 | none=>off=0/\top=-1/\a<=ds.length/\(Bq ds a (-1)).length=place/\(a=ds.length\/a<ds.length/\eld ds a=-1)
theorem GAt.ok {ds:List Nat}(h:Dok ds){ko:Option Nat}{place a off:Nat}{top:Int}(g:GAt ds ko place a off top):a<=ds.length/\off<=opn ds a/\(a<ds.length->dAt ds a<=off)/\(way ds a)[off]?=some top:=by
 cases ko with
 | none =>
  obtain ⟨rfl,rfl,h3,h4,h5⟩:=g
  refine ⟨h3,Nat.zero_le _,fun hlt=>?_,Ci h a h3⟩
  rcases h5 with h5 | h5
  ·omega
  ·rw [Jr h hlt h5.2]
   exact Nat.le_refl _
 | some k =>
  obtain ⟨hk,rfl,rfl,h3,h4,h5,h6⟩:=g
  obtain ⟨e1,e2,_⟩:=Bx (ds:=ds) hk
  have hw:=Vd h hk (a-(k+1)) (by omega)
  rw [show k+1+(a-(k+1))=a by omega] at hw
  have hl:=Cj h a (by omega)
  have hlt:=(List.getElem?_eq_some_iff.mp hw).1
  refine ⟨by omega,by omega,fun hlt=>?_,hw⟩
  rcases h6 with h6 | h6
  ·have:=Ux h hk (by omega)
   rw [<- h6] at this
   omega
  ·exact Nat.le_of_eq ((Pq h hk h3 h6.1).mp h6.2)
theorem Lk {ds:List Nat}(h:Dok ds){k:Nat}(hk:k<ds.length):Bq ds ds.length k=Bq ds (Bj ds k) k:=by
 obtain ⟨e1,e2,_⟩:=Bx (ds:=ds) hk
 have:=T8 (ds:=ds) (v:=(k:Int)) (ds.length-Bj ds k) (Bj ds k) fun i h1 h2 he=>by
  have:=Vb h hk (show i<ds.length by omega) he
  omega
 rw [show Bj ds k+(ds.length-Bj ds k)=ds.length by omega] at this
 exact this
theorem Rg {ds:List Nat}{v:Int}{a b:Nat}(h:a<=b):(Bq ds a v).length<=(Bq ds b v).length:=by
 have:=Ua (ds:=ds) (v:=v) (b-a) a
 rw [show a+(b-a)=b by omega] at this
 exact this
theorem P3 {ds:List Nat}{v:Int}{i a:Nat}:∀ {n:Nat},(Bq ds n v)[i]?=some a->(Bq ds a v).length=i/\a<n/\eld ds a=v
 | 0,h=>by cases h
 | n+1,h=>by
  by_cases e:eld ds n=v
  ·rw [Fn e] at h
   by_cases hi:i<(Bq ds n v).length
   ·rw [List.getElem?_append_left hi] at h
    obtain ⟨h1,h2,h3⟩:=P3 h
    exact ⟨h1,by omega,h3⟩
   ·have hl:=(List.getElem?_eq_some_iff.mp h).1
    rw [List.length_append] at hl
    obtain rfl:i=(Bq ds n v).length:=by simp only [List.length_cons,List.length_nil] at hl;omega
    rw [List.getElem?_append_right (Nat.le_refl _),Nat.sub_self] at h
    obtain rfl:n=a:=Option.some.inj h
    exact ⟨rfl,Nat.lt_succ_self _,e⟩
  ·rw [G1 e] at h
   obtain ⟨h1,h2,h3⟩:=P3 h
   exact ⟨h1,by omega,h3⟩
def kI:Option Nat->Int
 | some k=>(k:Int)
 | none=>-1
theorem jO {ds:List Nat}(h:Dok ds){ko:Option Nat}{place:Nat}(hk:∀ k,ko=some k->k<ds.length)(hp:place<=(Bq ds ds.length (kI ko)).length):∃ a off top,GAt ds ko place a off top:=by
 by_cases hlt:place<(Bq ds ds.length (kI ko)).length
 ·obtain ⟨j1,j2,j3⟩:=P3 (List.getElem?_eq_getElem hlt)
  generalize (Bq ds ds.length (kI ko))[place]=j at *
  cases ko with
  | none=>exact ⟨j,0,-1,rfl,rfl,by omega,j1,.inr ⟨j2,j3⟩⟩
  | some k =>
   have hk:=hk k rfl
   obtain ⟨i1,i2⟩:=Vb h hk j2 j3
   exact ⟨j,dAt ds k+1,k,hk,rfl,rfl,i1,by omega,j1,.inr ⟨i2,j3⟩⟩
 ·have hp:(Bq ds ds.length (kI ko)).length=place:=by omega
  cases ko with
  | none=>exact ⟨ds.length,0,-1,rfl,rfl,Nat.le_refl _,hp,.inl rfl⟩
  | some k =>
   have hk:=hk k rfl
   have e1:=(Bx (ds:=ds) hk).1
   exact ⟨Bj ds k,dAt ds k+1,k,hk,rfl,rfl,e1,Nat.le_refl _,by rw [<- Lk h hk];exact hp,.inl rfl⟩
theorem Ja {ds:List Nat}{v:Int}{a b:Nat}(h:a<b)(e:eld ds a=v):(Bq ds a v).length<(Bq ds b v).length:=by
 have h1:=Rg (ds:=ds) (v:=v) (show a+1<=b by omega)
 rw [Fn e,List.length_append] at h1
 exact h1
theorem Sb {ds:List Nat}(h:Dok ds){ko:Option Nat}{place a b off off2:Nat}{top top2:Int}(g:GAt ds ko place a off top)(g2:GAt ds ko place b off2 top2):a=b/\off=off2:=by
 cases ko with
 | none =>
  obtain ⟨rfl,_,a3,a4,a5⟩:=g
  obtain ⟨rfl,_,b3,b4,b5⟩:=g2
  refine ⟨?_,rfl⟩
  rcases Nat.lt_trichotomy a b with hl | hl | hl
  ·rcases a5 with a5 | a5
   ·omega
   ·have:=Ja hl a5.2
    omega
  ·exact hl
  ·rcases b5 with b5 | b5
   ·omega
   ·have:=Ja hl b5.2
    omega
 | some k =>
  obtain ⟨_,rfl,_,a2,a3,a4,a5⟩:=g
  obtain ⟨_,rfl,_,b2,b3,b4,b5⟩:=g2
  refine ⟨?_,rfl⟩
  rcases Nat.lt_trichotomy a b with hl | hl | hl
  ·rcases a5 with a5 | a5
   ·omega
   ·have:=Ja hl a5.2
    omega
  ·exact hl
  ·rcases b5 with b5 | b5
   ·omega
   ·have:=Ja hl b5.2
    omega
end TW
end
section
namespace L2
open PySem PySem.Spec PyProof.Rows
section
variable {prog:Program} {w:World} {A:Around} {E:Value->Shared->Prop} {s:Shared}
def Ym (v:Value):List (Str×Value):=[(Str.ofString "start",v)]
def Kg (v:Value)(n:Int):Obj:={ cls:=.type "enumerate",data:=.fields #[.none,.bool false,v,rawInt n,.none,.none] }
theorem iR (a v:Value):checkTypeCall "enumerate" ⟨[a],Ym v⟩=pure ():=by kernel_rfl
theorem lX (a v:Value):checkBuiltinCall "enumerate.__new__" ⟨[.type "enumerate",a],Ym v⟩=pure ():=by kernel_rfl
theorem iI (o a v:Value):argsOk "object.__init__" ⟨[o,a],Ym v⟩:=by
 unfold argsOk;rw [signature?_of (id:="object.__init__") (n:=['_','_','t','i','n','i','_','_']) (o:=['t','c','e','j','b','o']) (by kernel_rfl) F.owner_object];kernel_rfl
theorem jR (x:Value)(n:Int)(u:Tok)(hf:Builtin.SmallTypes.fitsIndex n=true) :
  MeetsIn prog w (Builtin.«enumerate.__new__» ⟨[.type "enumerate",x],Ym (.int n u)⟩) (fun A R s=>wpAny (model prog w) A.in1 (pyIter x) (fun v s1=>R (.ok (.ret (.ref s1.heap.objs.size))) { s1 with heap:=s1.heap.push (Kg v n) }) (fun e s1=>R (.error e) s1) s) :=
 .of_wp fun A R s h=>by
  have e0:=sub_enumerate
  wp_walk
  refine wpAny_stack_any fun st=>wpAny_pure ?_
  have go:wpAny (model prog w) A.in1 (pyIter x >>= fun v=>Builtin.SmallTypes.newRecord (.type "enumerate") (Builtin.SmallTypes.ownedTupleFields++[v,rawInt n,.none,.none]) >>= fun r=>ret r) (fun fin s'=>∃ v,fin=Fin.done (.ret v)/\R (.ok (.ret v)) s') (fun e s'=>R (.error e) s') s:=by
   refine wpAny_bind (wpAny_mono h (fun v s1 h1=>?_) fun _ _ z=>z)
   wp_walk
   exact ⟨_,rfl,h1⟩
  have fin:wpAny (model prog w) A.in1 (Builtin.SmallTypes.indexObject "enumerate.__new__" (.int n u)) (fun v s1=>v=.int n u/\s1=s) (fun e s'=>R (.error e) s') s:=by
   show wpAny _ _ (pure (Value.int n u)) _ _ _
   exact wpAny_pure ⟨rfl,rfl⟩
  split
  ·rename_i c _ _ _ _ _
   cases (c==Value.type "enumerate")
   ·refine wpAny_bind ?_
    refine' wpAny_of_eq (a:=(x,some (.int n u))) ?eqA ?eqB
    case eqA=>kernel_rfl
    case eqB =>
     refine wpAny_bind (wpAny_mono fin (fun v s1 hv=>?_) fun _ _ z=>z)
     obtain ⟨rfl,rfl⟩:=hv
     refine wpAny_bind (wpAny_pure ?_)
     show wpAny _ _ (if (!Builtin.SmallTypes.fitsIndex n)=true then _ else _) _ _ _
     rw [hf]
     exact go
   ·refine wpAny_bind ?_
    refine' wpAny_of_eq (a:=(x,some (.int n u))) ?eqC ?eqD
    case eqC=>kernel_rfl
    case eqD =>
     refine wpAny_bind (wpAny_mono fin (fun v s1 hv=>?_) fun _ _ z=>z)
     obtain ⟨rfl,rfl⟩:=hv
     refine wpAny_bind (wpAny_pure ?_)
     show wpAny _ _ (if (!Builtin.SmallTypes.fitsIndex n)=true then _ else _) _ _ _
     rw [hf]
     exact go
  ·refine wpAny_bind ?_
   refine' wpAny_of_eq (a:=(x,some (.int n u))) ?eqF ?eqG
   case eqF=>kernel_rfl
   case eqG =>
    refine wpAny_bind (wpAny_mono fin (fun v s1 hv=>?_) fun _ _ z=>z)
    obtain ⟨rfl,rfl⟩:=hv
    refine wpAny_bind (wpAny_pure ?_)
    show wpAny _ _ (if (!Builtin.SmallTypes.fitsIndex n)=true then _ else _) _ _ _
    rw [hf]
    exact go
theorem fZ {o a v:Value}:Meets (Builtin.«object.__init__» ⟨[o,a],Ym v⟩) (fun _ R s=>s.TypeIs o "enumerate"/\R (.ok (.ret .none)) s):=by
 have l1:=F.called_enumerate.init.lookup
 have l2:=F.called_enumerate.made
 refine Meets.of_wp fun prog w A R s ⟨hT,hq⟩=>?_
 repeat (any_goals (first | assumption | wp_step))
 exact ⟨_,rfl,hq⟩
theorem Yu {x:Value}{n:Int}{u:Tok}{Q:Value->Shared->Prop}(hf:Builtin.SmallTypes.fitsIndex n=true)
  (h:wpAny (model prog w) A.in1.in1 (pyIter x) (fun v s1=>Q (.ref s1.heap.objs.size) { s1 with heap:=s1.heap.push (Kg v n) }) E s):wpAny (model prog w) A (call (.type "enumerate") [x] (Ym (.int n u))) Q E s:=by
 have ft:=F.called_enumerate
 obtain ⟨c,tl,m0⟩:=ft.mro
 have m1:=ft.made
 have m2:=ft.sub
 have m3:=ft.notType
 have m4:=ft.canCreate
 have m5:=iR x (.int n u)
 refine wpAny_call (codeAny_of_tree ?_)
 show wpAny _ _ (callAny (.type "enumerate") _) _ _ _
 refine wpAny_pure ⟨Code.quiet_builtin _ (by decide +kernel),codeAny_builtin F.entry_type_call ?_⟩
 rw [Around.under_plain (weight_type_call_type "enumerate" [x] (Ym (.int n u))) (units_type_call_type "enumerate" [x] (Ym (.int n u)))]
 repeat (any_goals (first | assumption | wp_step))
 have g:=jR (prog:=prog) (w:=w) x n u hf A.in1 (wants (fun obj s1=>s1.TypeIs obj "enumerate"/\Q obj s1) E) s (wpAny_mono h (fun v s1 hv=>⟨⟨_,Heap.get?_push_size _ rfl,rfl⟩,hv⟩) fun _ _ z=>z)
 refine codeAny_mono (codeAny_call_builtin ft.plain F.entry_enumerate_new (wpAny_of_eq (lX x (.int n u)) g)) fun r s1 hr=>?_
 cases r with
 | error e=>exact hr
 | ok fl =>
  cases fl with
  | ret obj =>
   obtain ⟨hT,hq⟩:=hr
   have m6:=ft.init.lookup
   have m7:=ft.init.bind obj
   repeat (any_goals (first | assumption | wp_step))
   have gi:=fZ (o:=obj) (a:=x) (v:=.int n u) prog w A.in1 (wants (fun r s2=>r=.none/\Q obj s2) E) s1 ⟨hT,rfl,hq⟩
   refine codeAny_mono (codeAny_call_builtin ft.init.plain F.entry_object_init (ft.init.check _ _ _ _ _ _ _ _ hT (iI obj x _) gi)) fun r2 s2 hr2=>?_
   cases r2 with
   | error e=>exact hr2
   | ok f2 =>
    cases f2 with
    | ret r =>
     obtain ⟨rfl,hq2⟩:=hr2
     repeat (any_goals (first | assumption | wp_step))
    | _=>exact hr2.elim
  | _=>exact hr.elim
end
theorem Jv {prog:Program}{w:World}{A:Around}{it:Addr}{fp:List Addr}{n:Nat}{P:Nat->Value->Prop}{St:Nat->Heap->Prop}(D:Draws prog w A it fp n P St)(k:Nat) :
  Draws prog w A it fp (k+n) (fun i v=>k<=i/\P (i-k) v) (fun i h=>k<=i/\St (i-k) h) where
 live:=fun i h st=>D.live _ _ st.2
 frame:=fun i h h' st f=>⟨st.1,D.frame _ _ _ st.2 f⟩
 item:=fun i s Q E hi st hQ=>D.item (i-k) s Q E (by have:=st.1;omega) st.2 fun x h' tk hP hS hB=>hQ x h' tk ⟨st.1,hP⟩ ⟨Nat.le_succ_of_le st.1,by rw [show i+1-k=i-k+1 by have:=st.1;omega];exact hS⟩ hB
 done:=fun s Q E st hE=>D.done s Q E (by have:=st.2;rwa [Nat.add_sub_cancel_left] at this) hE
def dM (k:Nat)(z:Str):It :=
 ⟨fun i _=>i<z.cps.size,fun i H v H'=>∃ t c,H t=none/\v=.ref t/\z.cps[i]?=some c/\H'=upd H t (.tup [.int ((k+i:Nat):Int),.str (sgn c)]),fun i _=>i=z.cps.size⟩
def mN (k:Nat)(K:PySem.W.Frag)(a:Addr):It :=
 ⟨fun i H=>∃ xs x,SqL K H a xs/\xs[i]?=some x,
  fun i H v H'=>∃ t x,H t=none/\v=.ref t/\(∀ xs,SqL K H a xs->xs[i]?=some x)/\H'=upd H t (.tup [.int ((k+i:Nat):Int),x]),
  fun i H=>∃ xs,SqL K H a xs/\i=xs.length⟩
theorem Yp {P:Program}{w:World}{K:PySem.W.Frag}{elts:List Expr}{m k:Nat}{pos:Pos}{e it:Addr}{z:Str}{ty:String}{t:Tok}(hne:e≠it)
  (D:∀ A':Around,A'.handled=none->Draws P w A' it [it] z.cps.size (fun i v=>∃ c u,z.cps[i]?=some c/\v=.str ⟨#[c]⟩ u) (fun i h=>h.IsStrIter it ty z t i)) :
  Nw P w K (.Tuple elts m pos) (dM k z) [e,it] e (fun i h=>(∃ old,IsEnum h e it ((k+i:Nat):Int) old)/\h.IsStrIter it ty z t i) where
 mem:=by simp
 obj:=fun i h st c hc=>by
  obtain ⟨⟨old,he⟩,⟨o1,e1,c1,d1⟩⟩:=st
  rcases List.mem_cons.mp hc with rfl | hc
  ·exact ⟨_,he,fun v z=>by cases z⟩
  ·obtain rfl:=List.mem_singleton.mp hc
   exact ⟨_,e1,fun v z=>by rw [d1] at z;cases z⟩
 keep:=fun i h h' st kk=>⟨st.1.imp fun old he=>kk _ (by simp) _ he,st.2.imp fun o r=>⟨kk _ (by simp) o r.1,r.2⟩⟩
 item:=by
  intro X hP hw hK hc i pins s σ H E I hf st hg
  subst hP hw hK
  have W:=WalksT.enumerateD (Jv (D X.A.in1 (I.ok.hd hc)) k) e hne (by simpa using hne) (by simp)
  refine W.item (k+i) s _ _ (Nat.add_lt_add_left hg k) ⟨st.1,Nat.le_add_right _ _,by rw [Nat.add_sub_cancel_left];exact st.2⟩ fun T vals h' tk hv hT hTu mid kk=>?_
  obtain ⟨t1,x,⟨_,c,u,hc',rfl⟩,rfl⟩:=hv
  rw [Nat.add_sub_cancel_left] at hc'
  have nT:=W.apart (k+i) T h' mid
  refine ⟨.ref T,rfl,W.go elts m pos (k+i) T { s with heap:=h',toks:=tk } _ _ mid fun h'' st'' kk2=>?_⟩
  have tu:h''.IsTuple T ([Value.int ((k+i:Nat):Int) t1,Value.str ⟨#[c]⟩ u]:List Value).toArray:=hTu.imp fun o r=>⟨kk2 T o nT r.1,r.2⟩
  have I2:Inv X pins σ (upd H T (.tup [.int ((k+i:Nat):Int),.str (sgn c)])) { s with heap:=h'',toks:=tk }:=I.turnT (t':=tk) (fun b o hb e=>kk2 b o hb (kk b o hb e)) (fun b hb=>hf b hb) hT tu (.cons ⟨t1,rfl⟩ (.cons ⟨u,rfl⟩ .nil)) (show 2<=sizeLine by decide)
  refine ⟨.ref T,_,I2,rfl,⟨T,c,I.hok.fresh hT,rfl,hc',rfl⟩,⟨by rw [Nat.add_assoc] at st'';exact st''.1,by have:=st''.2.2;rwa [show k+i+1-k=i+1 by omega] at this⟩,fun b hb=>?_⟩
  have hlt:b<s.heap.objs.size:=by
   obtain ⟨⟨old,s1⟩,⟨o5,s5,_⟩⟩:=id st
   rcases List.mem_cons.mp hb with rfl | hb
   ·exact Heap.lt_size s1
   ·obtain rfl:=List.mem_singleton.mp hb
    exact Heap.lt_size s5
  rw [Aw (Nat.ne_of_lt (Nat.lt_of_lt_of_le hlt hT))]
  exact (hf b hb).1
 done:=by
  intro X hP hw hK hc i pins s σ H E I hf st hg
  subst hP hw hK
  have W:=WalksT.enumerateD (Jv (D X.A.in1 (I.ok.hd hc)) k) e hne (by simpa using hne) (by simp)
  obtain rfl:i=z.cps.size:=hg
  exact W.done s _ _ ⟨st.1,Nat.le_add_right _ _,by rw [Nat.add_sub_cancel_left];exact st.2⟩ fun h' tk kk=>⟨rfl,I.turnW (t':=tk) kk fun b hb=>hf b hb⟩
 self:=fun _ _ _ _ _ st h=>wpAny_pyIter_enum (Classical.choose_spec st.1) h
theorem Yk {P:Program}{w:World}{K:PySem.W.Frag}{elts:List Expr}{m k:Nat}{pos:Pos}(e it a:Addr)(hne:e≠it) :
  Nw P w K (.Tuple elts m pos) (mN k K a) [e,it] e (fun i h=>(∃ old,IsEnum h e it ((k+i:Nat):Int) old)/\h.IsListIter it a i) where
 mem:=by simp
 obj:=fun i h st c hc=>by
  obtain ⟨⟨old,he⟩,⟨o1,e1,c1,d1⟩⟩:=st
  rcases List.mem_cons.mp hc with rfl | hc
  ·exact ⟨_,he,fun v z=>by cases z⟩
  ·obtain rfl:=List.mem_singleton.mp hc
   exact ⟨_,e1,fun v z=>by rw [d1] at z;cases z⟩
 keep:=fun i h h' st kk=>⟨st.1.imp fun old he=>kk _ (by simp) _ he,st.2.at fun o e=>kk _ (by simp) o e⟩
 item:=by
  intro X hP hw hK hc i pins s σ H E I hf st hg
  subst hP hw hK
  obtain ⟨xs,x,ha,hx⟩:=hg
  obtain ⟨its,rv,p,hz⟩:=I.list ha
  obtain ⟨⟨old,s1⟩,s2⟩:=id st
  have n1:a≠e:=by obtain ⟨oa,ea,ca,_⟩:=p.isList;exact Eh ea s1 (by rw [ca];exact show Value.type "list"≠Value.type "enumerate" by decide)
  have n2:a≠it:=by obtain ⟨oa,ea,ca,_⟩:=p.isList;obtain ⟨o1,e1,c1,_⟩:=s2;exact Eh ea e1 (by rw [ca,c1];decide)
  have W:=WalksT.enumerateD (Jv (Draws.list (prog:=X.prog) (w:=X.w) (A:=X.A.in1) (I.ok.hd hc) it a n2 its.toArray) k) e hne (by simp;exact ⟨hne,fun z=>n1 z.symm⟩) (by simp)
  obtain ⟨u1,hu1,ru1⟩:=rv.get hx
  have l1:=(List.getElem?_eq_some_iff.mp hu1).1
  refine W.item (k+i) s _ _ (Nat.add_lt_add_left (by simpa using l1) k) ⟨⟨old,s1⟩,Nat.le_add_right _ _,by rw [Nat.add_sub_cancel_left];exact ⟨s2,p.isList⟩⟩ fun T vals h' tk hv hT hTu mid kk=>?_
  obtain ⟨t,v1,⟨_,e1⟩,rfl⟩:=hv
  obtain rfl:v1=u1:=by rw [Nat.add_sub_cancel_left] at e1;simp only [List.getElem?_toArray] at e1;rw [hu1] at e1;exact (Option.some.inj e1).symm
  have nT:=W.apart (k+i) T h' mid
  refine ⟨.ref T,rfl,W.go elts m pos (k+i) T { s with heap:=h',toks:=tk } _ _ mid fun h'' st'' kk2=>?_⟩
  have tu:h''.IsTuple T ([Value.int ((k+i:Nat):Int) t,v1]:List Value).toArray:=hTu.imp fun o r=>⟨kk2 T o nT r.1,r.2⟩
  have I2:Inv X pins σ (upd H T (.tup [.int ((k+i:Nat):Int),x])) { s with heap:=h'',toks:=tk }:=I.turnT (t':=tk) (fun b o hb e=>kk2 b o hb (kk b o hb e)) (fun b hb=>hf b hb) hT tu (.cons ⟨t,rfl⟩ (.cons ru1 .nil)) (show 2<=sizeLine by decide)
  refine ⟨.ref T,_,I2,rfl,⟨T,x,I.hok.fresh hT,rfl,fun xs' h=>by rw [I.list_inj h ha];exact hx,rfl⟩,⟨by rw [Nat.add_assoc] at st'';exact st''.1,by have:=st''.2.2.1;rwa [show k+i+1-k=i+1 by omega] at this⟩,fun c hc'=>?_⟩
  have hlt:c<s.heap.objs.size:=by
   obtain ⟨o5,s5,_⟩:=s2
   rcases List.mem_cons.mp hc' with rfl | hc'
   ·exact Heap.lt_size s1
   ·obtain rfl:=List.mem_singleton.mp hc'
    exact Heap.lt_size s5
  rw [Aw (Nat.ne_of_lt (Nat.lt_of_lt_of_le hlt hT))]
  exact (hf c hc').1
 done:=by
  intro X hP hw hK hc i pins s σ H E I hf st hg
  subst hP hw hK
  obtain ⟨xs,ha,hi⟩:=hg
  obtain ⟨its,rv,p,hz⟩:=I.list ha
  obtain ⟨⟨old,s1⟩,s2⟩:=id st
  have n1:a≠e:=by obtain ⟨oa,ea,ca,_⟩:=p.isList;exact Eh ea s1 (by rw [ca];exact show Value.type "list"≠Value.type "enumerate" by decide)
  have n2:a≠it:=by obtain ⟨oa,ea,ca,_⟩:=p.isList;obtain ⟨o1,e1,c1,_⟩:=s2;exact Eh ea e1 (by rw [ca,c1];decide)
  have W:=WalksT.enumerateD (Jv (Draws.list (prog:=X.prog) (w:=X.w) (A:=X.A.in1) (I.ok.hd hc) it a n2 its.toArray) k) e hne (by simp;exact ⟨hne,fun z=>n1 z.symm⟩) (by simp)
  have hi2:i=its.toArray.size:=by rw [hi,rv.length];simp
  refine W.done s _ _ ?_ fun h' tk kk=>⟨rfl,I.turnW (t':=tk) kk fun b hb=>hf b hb⟩
  rw [<- hi2]
  exact ⟨⟨old,s1⟩,Nat.le_add_right _ _,by rw [Nat.add_sub_cancel_left];exact ⟨s2,p.isList⟩⟩
 self:=fun _ _ _ _ _ st h=>wpAny_pyIter_enum (Classical.choose_spec st.1) h
theorem Yd {n:Nat}(h:n<=100000):Builtin.SmallTypes.fitsIndex (n:Int)=true:=by
 unfold Builtin.SmallTypes.fitsIndex
 simp
 omega
section
variable {M:Model} {A:Around} {E:Value->Shared->Prop} {s:Shared} {env:Env}
theorem Kj {pos:Pos}{T:String}{e:Expr}{rest:List Expr}{kws:List Keyword}{Q:Value->Shared->Prop}
  (h:wpAny M A (spliced (backTo pos (starEach (e::rest) env))) (fun vs s1=>wpAny M A (evalAll ((backToKw pos (keywordEach kws env)).map (·.2))) (fun kvs s2=>wpAny M A (call (.type T) vs (((backToKw pos (keywordEach kws env)).filterMap (·.1)).zip kvs)) Q E s2) E s1) E s)
  (e1:backTo pos (starEach (e::rest) env)=(false,eval e env)::backTo pos (starEach rest env))(e2:(backTo pos (starEach (e::rest) env)).any (·.1)=false)
  (e3:(backToKw pos (keywordEach kws env)).all (·.1.isSome)=true)(e4:(backToKw pos (keywordEach kws env)).any (·.1.isNone)=false) :
  wpAny M A (callWith pos (.type T) [] (backTo pos (starEach (e::rest) env)) (backToKw pos (keywordEach kws env))) Q E s:=by
 unfold callWith
 have h5:wpAny M A (evalArgs (.type T) true (backTo pos (starEach (e::rest) env)) (backToKw pos (keywordEach kws env))) (fun a s1=>wpAny M A (call (.type T) ([]++a.pos) a.kw) Q E s1) E s:=by
  rw [e1] at h ⊢
  exact evalArgs_kwB e3 h
 refine wpAny_bind (wpAny_holding (wpAny_mono h5 (fun a s1 h6=>wpAny_bind (wpAny_standAt ?_)) fun _ _ z=>z))
 simp only [e2,e4,Bool.or_self]
 exact wpAny_bind (wpAny_pure (wpAny_bind (wpAny_mono h6 (fun r s2 h7=>wpAny_bind (wpAny_holding (wpAny_point (wpAny_pure h7)))) fun _ _ z=>z)))
end
section
variable {X:Cx} {elts:List Expr} {m:Nat} {tpos:Pos}
def oN (ta tk:TA):TI:=fun σ H R=>ta σ H fun vs H1=>tk σ H1 fun zs H2=>∃ (z:Str) (k:Nat),vs=[.str z]/\zs=[.int k]/\k<=100000/\R (dM k z) H2
def oU (K:PySem.W.Frag)(ta tk:TA):TI:=fun σ H R=>ta σ H fun vs H1=>tk σ H1 fun zs H2=>∃ (a:Addr) (k:Nat),vs=[.ref a]/\zs=[.int k]/\k<=100000/\(∃ xs,SqL K H2 a xs)/\R (mN k K a) H2
theorem fJ {a:Expr}{ta tk:TA}{p pos kp:Pos}{e:Expr}(hg:Gl X "enumerate")(hm:X.mg "enumerate"=none)(ha:PA X [a] ta)(hk:PK X [⟨some "start",e,kp⟩] tk)(e1:backTo pos (starEach [a] X.env)=(false,eval a X.env)::backTo pos (starEach [] X.env):=by rfl)(e2:(backTo pos (starEach [a] X.env)).any (·.1)=false:=by rfl) :
  PI X (.Tuple elts m tpos) (.Call (.Name "enumerate" p) [a] [⟨some "start",e,kp⟩] pos) (oN ta tk):=by
 intro pins s σ H R I h
 refine wpAny_Call_Name_kw (Ft I hg hm Ht ?_ (by decide) (by decide))
 refine Kj (thn (ha pos pins s σ H _ I h) fun us s0 ⟨vs,H0,I0,r0,q0⟩=>?_) e1 e2 rfl rfl
 refine thn (hk pos pins s0 σ H0 _ I0 q0) fun ws s1 ⟨zs,H1,I1,r1,q1⟩=>?_
 obtain ⟨z,k,e3,e4,hk1,q⟩:=q1
 subst e3 e4
 obtain ⟨u,rfl,⟨t,rfl⟩⟩:=Fd r0
 obtain ⟨u2,rfl,⟨t2,rfl⟩⟩:=Fd r1
 refine Yu (Yd hk1) (wpAny_pyIter_strU ?_)
 have hz:(s1.heap.push { cls:=.type (strIterType z),data:=.fields #[.str z t,.int 0 0] }).objs.size=s1.heap.objs.size+1:=Heap.size_push ..
 have kk:∀ b o,s1.heap.get? b=some o->((s1.heap.push { cls:=.type (strIterType z),data:=.fields #[.str z t,.int 0 0] }).push (Kg (.ref s1.heap.objs.size) k)).get? b=some o:=fun b o y=>Heap.get?_push_of_some _ (Heap.get?_push_of_some _ y)
 have g1:IsEnum ((s1.heap.push { cls:=.type (strIterType z),data:=.fields #[.str z t,.int 0 0] }).push (Kg (.ref s1.heap.objs.size) k)) (s1.heap.objs.size+1) s1.heap.objs.size (k:Int) .none:=by
  have:=Heap.get?_push_size (s1.heap.push { cls:=.type (strIterType z),data:=.fields #[.str z t,.int 0 0] }) (o:=Kg (.ref s1.heap.objs.size) k) rfl
  rw [hz] at this
  exact this
 have g2:((s1.heap.push { cls:=.type (strIterType z),data:=.fields #[.str z t,.int 0 0] }).push (Kg (.ref s1.heap.objs.size) k)).IsStrIter s1.heap.objs.size (strIterType z) z t 0:=⟨_,Heap.get?_push_of_some _ (Heap.get?_push_size _ rfl),rfl,rfl⟩
 dsimp only
 rw [hz]
 generalize (s1.heap.push { cls:=.type (strIterType z),data:=.fields #[.str z t,.int 0 0] }).push (Kg (.ref s1.heap.objs.size) k)=h' at *
 refine wpAny_pyIter_enum (s:={ s1 with heap:=h' }) g1 ?_
 have fin:∀ ty:String,h'.IsStrIter s1.heap.objs.size ty z t 0->(∀ A':Around,A'.handled=none->Draws X.prog X.w A' s1.heap.objs.size [s1.heap.objs.size] z.cps.size (fun i v=>∃ c u,z.cps[i]?=some c/\v=.str ⟨#[c]⟩ u) (fun i h=>h.IsStrIter s1.heap.objs.size ty z t i)) ->
   PIE X pins σ (.Tuple elts m tpos) R (.ref (s1.heap.objs.size+1)) { s1 with heap:=h' }:=fun ty g2 D=>by
  refine ⟨s1.heap.objs.size+1,[s1.heap.objs.size+1,s1.heap.objs.size],_,_,H1,rfl,I1.kept (t':=s1.toks) kk,Yp (dS _) D,⟨⟨_,g1⟩,g2⟩,fun c hc=>?_,q⟩
  have hle:s1.heap.objs.size<=c:=by
   simp only [List.mem_cons,List.not_mem_nil,or_false] at hc
   exact dR hc
  exact I1.fpOk hle (I1.hok.fresh hle)
 by_cases ha:z.cps.all (· < 128)=true
 ·have e:strIterType z="str_ascii_iterator":=by unfold strIterType;rw [if_pos ha]
  exact fin _ (e▸g2) fun A' hA=>Draws.strAscii hA _ z t
 ·have e:strIterType z="str_iterator":=by unfold strIterType;rw [if_neg ha]
  exact fin _ (e▸g2) fun A' hA=>Draws.strWide hA _ z t
theorem fR {a:Expr}{ta tk:TA}{p pos kp:Pos}{e:Expr}(hg:Gl X "enumerate")(hm:X.mg "enumerate"=none)(ha:PA X [a] ta)(hk:PK X [⟨some "start",e,kp⟩] tk)(e1:backTo pos (starEach [a] X.env)=(false,eval a X.env)::backTo pos (starEach [] X.env):=by rfl)(e2:(backTo pos (starEach [a] X.env)).any (·.1)=false:=by rfl) :
  PI X (.Tuple elts m tpos) (.Call (.Name "enumerate" p) [a] [⟨some "start",e,kp⟩] pos) (oU X.K ta tk):=by
 intro pins s σ H R I h
 refine wpAny_Call_Name_kw (Ft I hg hm Ht ?_ (by decide) (by decide))
 refine Kj (thn (ha pos pins s σ H _ I h) fun us s0 ⟨vs,H0,I0,r0,q0⟩=>?_) e1 e2 rfl rfl
 refine thn (hk pos pins s0 σ H0 _ I0 q0) fun ws s1 ⟨zs,H1,I1,r1,q1⟩=>?_
 obtain ⟨a,k,e3,e4,hk1,⟨xs,hx⟩,q⟩:=q1
 subst e3 e4
 obtain ⟨u,rfl,ru⟩:=Fd r0
 cases ru
 obtain ⟨u2,rfl,⟨t2,rfl⟩⟩:=Fd r1
 obtain ⟨its,rv,p,_⟩:=I1.list hx
 refine Yu (Yd hk1) (wpAny_pyIter_list p.isList ?_)
 have hz:(s1.heap.push { cls:=.type "list_iterator",data:=.fields #[.ref a,.int 0 0] }).objs.size=s1.heap.objs.size+1:=Heap.size_push ..
 have kk:∀ b o,s1.heap.get? b=some o->((s1.heap.push { cls:=.type "list_iterator",data:=.fields #[.ref a,.int 0 0] }).push (Kg (.ref s1.heap.objs.size) k)).get? b=some o:=fun b o y=>Heap.get?_push_of_some _ (Heap.get?_push_of_some _ y)
 have g1:IsEnum ((s1.heap.push { cls:=.type "list_iterator",data:=.fields #[.ref a,.int 0 0] }).push (Kg (.ref s1.heap.objs.size) k)) (s1.heap.objs.size+1) s1.heap.objs.size (k:Int) .none:=by
  have:=Heap.get?_push_size (s1.heap.push { cls:=.type "list_iterator",data:=.fields #[.ref a,.int 0 0] }) (o:=Kg (.ref s1.heap.objs.size) k) rfl
  rw [hz] at this
  exact this
 have g2:((s1.heap.push { cls:=.type "list_iterator",data:=.fields #[.ref a,.int 0 0] }).push (Kg (.ref s1.heap.objs.size) k)).IsListIter s1.heap.objs.size a 0:=⟨_,Heap.get?_push_of_some _ (Heap.get?_push_size _ rfl),rfl,rfl⟩
 dsimp only
 rw [hz]
 generalize (s1.heap.push { cls:=.type "list_iterator",data:=.fields #[.ref a,.int 0 0] }).push (Kg (.ref s1.heap.objs.size) k)=h' at *
 refine wpAny_pyIter_enum (s:={ s1 with heap:=h' }) g1 ?_
 refine ⟨s1.heap.objs.size+1,[s1.heap.objs.size+1,s1.heap.objs.size],_,_,H1,rfl,I1.kept (t':=s1.toks) kk,Yk _ _ a (dS _),⟨⟨_,g1⟩,g2⟩,fun c hc=>?_,q⟩
 have hle:s1.heap.objs.size<=c:=by
  simp only [List.mem_cons,List.not_mem_nil,or_false] at hc
  exact dR hc
 exact I1.fpOk hle (I1.hok.fresh hle)
end
theorem nM {tA tk:TA}{σ:St}{H:Hp}{R:It->Hp->Prop}(h:tA σ H fun vs H1=>tk σ H1 fun zs H2=>∃ (z:Str) (k:Nat),vs=[.str z]/\zs=[.int k]/\k<=100000/\R (dM k z) H2):oN tA tk σ H R:=h
theorem lW {K:PySem.W.Frag}{tA tk:TA}{σ:St}{H:Hp}{R:It->Hp->Prop}(h:tA σ H fun vs H1=>tk σ H1 fun zs H2=>∃ (a:Addr) (k:Nat),vs=[.ref a]/\zs=[.int k]/\k<=100000/\(∃ xs,SqL K H2 a xs)/\R (mN k K a) H2):oU K tA tk σ H R:=h
theorem fX {K:PySem.W.Frag}{k:Nat}{z:Str}{H1:Hp}{fr:St}{tc:TT}{te:TE}{Q:VK}(acc:Nat->List V)(h0:acc 0=[])(hz:∀ i,i<z.cps.size->(acc i).length<sizeLine)
  (turn:∀ (i:Nat) c H (R:Hp->Prop) (A:VK),z.cps[i]?=some c->An H1 H->(acc (i+1)=acc i->∀ H',An H H'->R H')->(∀ y H',acc (i+1)=acc i++[y]->An H H'->A y H') ->
   tc (some (.int ((k+i:Nat):Int))::some (.str (sgn c))::fr) H fun b H3=>if b=true then te (some (.int ((k+i:Nat):Int))::some (.str (sgn c))::fr) H3 A else R H3)
  (fin:∀ D H,H1 D=none->An H1 H->H D=some (.lst (acc z.cps.size))->Q (.ref D) H):Ki K (dM k z) H1 fr tc te Q:=by
 refine Rl z.cps.size (fun i=>.int ((k+i:Nat):Int)) (fun i=>.str (sgn (z.cps.getD i 0))) acc h0 hz (fun i H hi sm=>hi) (fun i H v H' hi sm h=>?_)
  (fun H sm=>rfl) (fun i H R A hi sm=>turn i _ H R A (by simp [hi]) sm) fin
 obtain ⟨t,c,hn,rfl,hc,rfl⟩:=h
 refine ⟨t,rfl,?_,Al hn⟩
 obtain rfl:z.cps.getD i 0=c:=by simp [Array.getD,hi] at hc ⊢;exact hc
 exact SqT.of Ae
theorem gJ {K:PySem.W.Frag}{k:Nat}{a:Addr}{xs:List V}{H1:Hp}{fr:St}{tc:TT}{te:TE}{Q:VK}(ha:H1 a=some (.lst xs))(acc:Nat->List V)(h0:acc 0=[])(hz:∀ i,i<xs.length->(acc i).length<sizeLine)
  (turn:∀ (i:Nat) x H (R:Hp->Prop) (A:VK),xs[i]?=some x->An H1 H->(acc (i+1)=acc i->∀ H',An H H'->R H')->(∀ y H',acc (i+1)=acc i++[y]->An H H'->A y H') ->
   tc (some (.int ((k+i:Nat):Int))::some x::fr) H fun b H3=>if b=true then te (some (.int ((k+i:Nat):Int))::some x::fr) H3 A else R H3)
  (fin:∀ D H,H1 D=none->An H1 H->H D=some (.lst (acc xs.length))->Q (.ref D) H):Ki K (mN k K a) H1 fr tc te Q:=by
 refine Rl xs.length (fun i=>.int ((k+i:Nat):Int)) (fun i=>xs.getD i .non) acc h0 hz (fun i H hi sm=>⟨xs,xs[i],SqL.of (sm _ _ ha),List.getElem?_eq_getElem hi⟩) (fun i H v H' hi sm h=>?_)
  (fun H sm=>⟨xs,SqL.of (sm _ _ ha),rfl⟩) (fun i H R A hi sm=>turn i _ H R A (by simp [hi]) sm) fin
 obtain ⟨t,x,hn,rfl,hx,rfl⟩:=h
 refine ⟨t,rfl,?_,Al hn⟩
 have hx:=hx xs (SqL.of (sm _ _ ha))
 obtain rfl:xs.getD i .non=x:=by rw [List.getD_eq_getElem?_getD,hx];rfl
 exact SqT.of Ae
end L2
end
local macro_rules | `(tactic| walk_at "rd")=>`(tactic| repeat (first | with_reducible refine L2.sA ?_ | with_reducible refine L2.qR ?_ | with_reducible refine L2.rP ?_ | with_reducible refine L2.nX ?_ | with_reducible refine L2.rO ?_ | with_reducible refine L2.r_retN ?_ | with_reducible refine L2.pL ?_ | with_reducible refine L2.sI ?_ | with_reducible refine L2.pU ?_ | with_reducible refine L2.uP ?_ | with_reducible refine L2.tK ?_ | with_reducible refine L2.sF ?_ | with_reducible refine L2.vA ?_ | with_reducible refine L2.rK ?_ | with_reducible refine L2.qU ?_ | with_reducible refine L2.uW ?_ | with_reducible refine L2.uJ ?_ | with_reducible refine L2.vB ?_ | with_reducible refine L2.r_c ?_ | with_reducible refine L2.tL ?_ | with_reducible refine L2.tY ?_ | with_reducible refine L2.uS ?_ | with_reducible refine L2.sK ?_ | with_reducible refine L2.tM ?_ | with_reducible refine L2.pK ?_ | with_reducible refine L2.qB ?_ | with_reducible refine L2.uT ?_ | with_reducible refine L2.sD ?_ | with_reducible refine L2.sY ?_ | with_reducible refine L2.uE ?_ | with_reducible refine L2.sL ?_ | with_reducible refine L2.uR ?_ | with_reducible refine L2.kO ?_ | with_reducible refine L2.pV ?_ | with_reducible refine L2.tD ?_ | with_reducible refine L2.qN ?_ | with_reducible refine L2.pY ?_ | with_reducible refine L2.r_rng3 ?_ | with_reducible refine L2.lZ ?_ | with_reducible refine L2.r_itup ?_ | with_reducible refine L2.pS ?_ | with_reducible refine L2.uG ?_ | with_reducible refine L2.uA ?_ | with_reducible refine L2.tV ?_ | with_reducible refine L2.mG ?_ | with_reducible refine L2.qS ?_ | with_reducible refine L2.r_orV ?_ | with_reducible refine L2.pI ?_ | with_reducible refine L2.tH ?_ | with_reducible refine L2.rA ?_ | with_reducible refine L2.pZ ?_ | with_reducible refine L2.rC ?_ | with_reducible refine L2.r_rev ?_ | with_reducible refine L2.sT ?_ | with_reducible refine L2.qJ ?_ | with_reducible refine L2.lJ ?_ | with_reducible refine L2.sU ?_ | with_reducible refine L2.gX ?_ | with_reducible refine L2.r_rngD ?_ | with_reducible refine L2.nD ?_ | with_reducible refine L2.sQ ?_ | with_reducible refine L2.qT ?_ | with_reducible refine L2.pT ?_ | with_reducible refine L2.rD ?_ | with_reducible refine L2.nM ?_ | with_reducible refine L2.lW ?_ | with_reducible refine L2.oM (by decide) ?_ | with_reducible refine L2.r_shr (by decide) ?_ | with_reducible refine L2.oF (by decide) (by decide) ?_ | with_reducible refine L2.Sl (by decide) (by decide) ?_ | with_reducible refine L2.jM (by decide) (by decide) ?_ | with_reducible refine L2.rQ rfl ?_ | with_reducible refine L2.oJ rfl ?_ | with_reducible refine L2.uY ?_ | with_reducible refine L2.uH ?_ | with_reducible refine L2.rN ?_ | with_reducible refine L2.rW ?_ | refine L2.rJ rfl ?_ | refine L2.sE rfl ?_ | dsimp only))
namespace TK
open PySem L2 TW
def top (i:Nat):Stmt:=PySem.Challenge.pw_tightwood_k76_pieces_that_stay.main.body.getD i (.Pass ⟨0,0,0,0⟩)
abbrev Mm:Stmt:=top 10
theorem Xs:Ao ["thing"] ["thing"] (Ah Mm):=⟨rfl,rfl,rfl,by decide +kernel,rfl,by decide +kernel,by decide +kernel⟩
abbrev Ld:Stmt:=top 11
theorem U5:Ao ["thing","low","high"] ["thing","low","high"] (Ah Ld):=⟨rfl,rfl,rfl,by decide +kernel,rfl,by decide +kernel,by decide +kernel⟩
abbrev Ia:Stmt:=top 12
theorem Sw:Ao ["place","greatest"] ["place","greatest"] (Ah Ia):=⟨rfl,rfl,rfl,by decide +kernel,rfl,by decide +kernel,by decide +kernel⟩
abbrev J7:Stmt:=top 14
theorem Th:Ao ["k","many_knots"] ["k","many_knots"] (Ah J7):=⟨rfl,rfl,rfl,by decide +kernel,rfl,by decide +kernel,by decide +kernel⟩
abbrev G4:Stmt:=top 20
theorem Pf:Ao ["height"] ["height"] (Ah G4):=⟨rfl,rfl,rfl,by decide +kernel,rfl,by decide +kernel,by decide +kernel⟩
abbrev Ek:Stmt:=top 13
theorem Lb:Ao ["number"] ["number"] (Ah Ek):=⟨rfl,rfl,rfl,by decide +kernel,rfl,by decide +kernel,by decide +kernel⟩
abbrev Ke:Stmt:=top 16
theorem Gm:Ao ["low","high","holds","middle"] ["low","high","holds"] (Ah Ke):=⟨rfl,rfl,rfl,by decide +kernel,rfl,by decide +kernel,by decide +kernel⟩
abbrev Hl:Stmt:=top 17
theorem Gv:Ao ["numbers","sums","number"] ["numbers"] (Ah Hl):=⟨rfl,rfl,rfl,by decide +kernel,rfl,by decide +kernel,by decide +kernel⟩
abbrev J1:Stmt:=top 19
theorem Em:Ao ["text","begin","height","heights","sign"] ["text","begin"] (Ah J1):=⟨rfl,rfl,rfl,by decide +kernel,rfl,by decide +kernel,by decide +kernel⟩
abbrev O2:Stmt:=top 38
theorem Sc:Ao ["text","heights"] ["text"] (Ah O2):=⟨rfl,rfl,rfl,by decide +kernel,rfl,by decide +kernel,by decide +kernel⟩
abbrev Hk:Stmt:=A3 (top 21) 0
theorem Pc:Ao ["self","length","table","often_least"] ["self","length","table","often_least"] (Ah Hk):=⟨rfl,rfl,rfl,by decide +kernel,rfl,by decide +kernel,by decide +kernel⟩
abbrev G9:Stmt:=A3 (top 21) 7
theorem Pe:Ao ["self"] ["self"] (Ah G9):=⟨rfl,rfl,rfl,by decide +kernel,rfl,by decide +kernel,by decide +kernel⟩
abbrev Ks:Stmt:=top 24
theorem Fq:Ao ["text","height","place","sign"] ["text"] (Ah Ks):=⟨rfl,rfl,rfl,by decide +kernel,rfl,by decide +kernel,by decide +kernel⟩
abbrev Oh:Stmt:=top 28
theorem Kc:Ao ["elders","path","k","elder"] ["elders"] (Ah Oh):=⟨rfl,rfl,rfl,by decide +kernel,rfl,by decide +kernel,by decide +kernel⟩
abbrev K5:Stmt:=top 31
theorem Jw:Ao ["elders","depths","elder"] ["elders"] (Ah K5):=⟨rfl,rfl,rfl,by decide +kernel,rfl,by decide +kernel,by decide +kernel⟩
abbrev Rt:Stmt:=top 29
theorem Iq:Ao ["elders","signs","still_opened","depth"] ["elders"] (Ah Rt):=⟨rfl,rfl,rfl,by decide +kernel,rfl,by decide +kernel,by decide +kernel⟩
abbrev Kx:Stmt:=top 30
theorem G3:Ao ["text","elders","path","sign"] ["text"] (Ah Kx):=⟨rfl,rfl,rfl,by decide +kernel,rfl,by decide +kernel,by decide +kernel⟩
abbrev Gs:Stmt:=A3 (top 34) 0
theorem Oo:Ao ["self","pairs"] ["self","pairs"] (Ah Gs):=⟨rfl,rfl,rfl,by decide +kernel,rfl,by decide +kernel,by decide +kernel⟩
abbrev Do:Stmt:=A3 (top 34) 1
theorem J4:Ao ["self"] ["self"] (Ah Do):=⟨rfl,rfl,rfl,by decide +kernel,rfl,by decide +kernel,by decide +kernel⟩
abbrev Jq:Stmt:=A3 (top 40) 0
theorem L9:Ao ["self","signs","heights"] ["self","signs"] (Ah Jq):=⟨rfl,rfl,rfl,by decide +kernel,rfl,by decide +kernel,by decide +kernel⟩
abbrev Gp:Stmt:=top 39
theorem J6:Ao ["text","many","cuts"] ["text"] (Ah Gp):=⟨rfl,rfl,rfl,by decide +kernel,rfl,by decide +kernel,by decide +kernel⟩
theorem Sd:Bf ["text","many","cuts"] (Ah Gp) { kind:=.function,names:=[(".0",.local),("number",.local),("len",.globalImplicit),("many",.free),("text",.free)],isGenerator:=false,isCoroutine:=false,more:=[] } "number" ["number","many","text"] [1,0]:=⟨rfl,by decide +kernel,by decide +kernel,by decide +kernel,by decide +kernel,rfl,rfl,rfl,by decide +kernel⟩
theorem Ss:Eo ["text","many","cuts"] (Ah Gp) { kind:=.function,names:=[(".0",.local),("low",.local),("high",.local),("Piece",.globalImplicit),("text",.free)],isGenerator:=false,isCoroutine:=false,more:=[] } "low" "high" ["low","high","text"] [0]:=⟨rfl,by decide +kernel,by decide +kernel,by decide +kernel,by decide +kernel,rfl,rfl,rfl,rfl,rfl,by decide +kernel⟩
abbrev By:Stmt:=A3 (top 41) 0
theorem Fk:Ao ["self","pieces","heights","table"] ["self","pieces"] (Ah By):=⟨rfl,rfl,rfl,by decide +kernel,rfl,by decide +kernel,by decide +kernel⟩
theorem L5:Eo ["self","pieces","heights","table"] (Ah By) { kind:=.function,names:=[(".0",.local),("knots",.local),("begin",.local)],isGenerator:=false,isCoroutine:=false,more:=[] } "knots" "begin" ["knots","begin"] []:=⟨rfl,by decide +kernel,by decide +kernel,by decide +kernel,by decide +kernel,rfl,rfl,rfl,rfl,rfl,by decide +kernel⟩
theorem L7:Eo ["self","pieces","heights","table"] (Ah By) { kind:=.function,names:=[(".0",.local),("height",.local),("piece",.local)],isGenerator:=false,isCoroutine:=false,more:=[] } "height" "piece" ["height","piece"] []:=⟨rfl,by decide +kernel,by decide +kernel,by decide +kernel,by decide +kernel,rfl,rfl,rfl,rfl,rfl,by decide +kernel⟩
theorem L4:Bf ["self","pieces","heights","table"] (Ah By) { kind:=.function,names:=[(".0",.local),("piece",.local),("len",.globalImplicit)],isGenerator:=false,isCoroutine:=false,more:=[] } "piece" ["piece"] []:=⟨rfl,by decide +kernel,by decide +kernel,by decide +kernel,by decide +kernel,rfl,rfl,rfl,by decide +kernel⟩
theorem Lz:Bf ["self","pieces","heights","table"] (Ah By) { kind:=.function,names:=[(".0",.local),("piece",.local)],isGenerator:=false,isCoroutine:=false,more:=[] } "piece" ["piece"] []:=⟨rfl,by decide +kernel,by decide +kernel,by decide +kernel,by decide +kernel,rfl,rfl,rfl,by decide +kernel⟩
theorem L8:Bf ["self","pieces","heights","table"] (Ah By) { kind:=.function,names:=[(".0",.local),("piece",.local)],isGenerator:=false,isCoroutine:=false,more:=[] } "piece" ["piece"] []:=⟨rfl,by decide +kernel,by decide +kernel,by decide +kernel,by decide +kernel,rfl,rfl,rfl,by decide +kernel⟩
abbrev Bh:Stmt:=A3 (top 41) 5
theorem Jd:Ao ["self","place"] ["self","place"] (Ah Bh):=⟨rfl,rfl,rfl,by decide +kernel,rfl,by decide +kernel,by decide +kernel⟩
theorem Hj:Bf ["self","place"] (Ah Bh) { kind:=.function,names:=[("number",.local),("place",.free),("self",.free)],isGenerator:=false,isCoroutine:=false,more:=[] } "number" ["number","place","self"] [1,0]:=⟨rfl,by decide +kernel,by decide +kernel,by decide +kernel,by decide +kernel,rfl,rfl,rfl,by decide +kernel⟩
abbrev Bo:Stmt:=A3 (top 41) 7
theorem Ju:Ao ["self","place"] ["self","place"] (Ah Bo):=⟨rfl,rfl,rfl,by decide +kernel,rfl,by decide +kernel,by decide +kernel⟩
theorem Ho:Bf ["self","place"] (Ah Bo) { kind:=.function,names:=[("number",.local),("place",.free),("self",.free)],isGenerator:=false,isCoroutine:=false,more:=[] } "number" ["number","place","self"] [1,0]:=⟨rfl,by decide +kernel,by decide +kernel,by decide +kernel,by decide +kernel,rfl,rfl,rfl,by decide +kernel⟩
abbrev C0:Stmt:=A3 (top 41) 1
theorem Cr:Ao ["self","low","high","first","signs","begin"] ["self","low","high"] (Ah C0):=⟨rfl,rfl,rfl,by decide +kernel,rfl,by decide +kernel,by decide +kernel⟩
theorem J3:Bf ["self","low","high","first","signs","begin"] (Ah C0) { kind:=.function,names:=[(".0",.local),("piece",.local)],isGenerator:=false,isCoroutine:=false,more:=[] } "piece" ["piece"] []:=⟨rfl,by decide +kernel,by decide +kernel,by decide +kernel,by decide +kernel,rfl,rfl,rfl,by decide +kernel⟩
abbrev G8:Stmt:=A3 (top 21) 8
theorem Pi:Ao ["self"] ["self"] (Ah G8):=⟨rfl,rfl,rfl,by decide +kernel,rfl,by decide +kernel,by decide +kernel⟩
abbrev C7:Stmt:=A3 (top 41) 3
theorem Es:Ao ["self","place","number"] ["self","place"] (Ah C7):=⟨rfl,rfl,rfl,by decide +kernel,rfl,by decide +kernel,by decide +kernel⟩
abbrev F2:Stmt:=A3 (top 21) 9
theorem Na:Ao ["self","place"] ["self","place"] (Ah F2):=⟨rfl,rfl,rfl,by decide +kernel,rfl,by decide +kernel,by decide +kernel⟩
abbrev Df:Stmt:=A3 (top 41) 2
theorem Jb:Ao ["self","place"] ["self","place"] (Ah Df):=⟨rfl,rfl,rfl,by decide +kernel,rfl,by decide +kernel,by decide +kernel⟩
abbrev D0:Stmt:=A3 (top 41) 6
theorem Kl:Ao ["self","number"] ["self","number"] (Ah D0):=⟨rfl,rfl,rfl,by decide +kernel,rfl,by decide +kernel,by decide +kernel⟩
abbrev Bm:Stmt:=A3 (top 41) 4
theorem Cq:Ao ["self","number","piece","signs","places"] ["self","number"] (Ah Bm):=⟨rfl,rfl,rfl,by decide +kernel,rfl,by decide +kernel,by decide +kernel⟩
theorem Jp:Eo ["self","number","piece","signs","places"] (Ah Bm) { kind:=.function,names:=[(".0",.local),("place",.local),("sign",.local)],isGenerator:=false,isCoroutine:=false,more:=[] } "place" "sign" ["place","sign"] []:=⟨rfl,by decide +kernel,by decide +kernel,by decide +kernel,by decide +kernel,rfl,rfl,rfl,rfl,rfl,by decide +kernel⟩
theorem Im:Bf ["self","number","piece","signs","places"] (Ah Bm) { kind:=.function,names:=[("one",.local),("number",.free),("self",.free)],isGenerator:=false,isCoroutine:=false,more:=[] } "one" ["one","number","self"] [1,0]:=⟨rfl,by decide +kernel,by decide +kernel,by decide +kernel,by decide +kernel,rfl,rfl,rfl,by decide +kernel⟩
abbrev Ex:Stmt:=A3 (top 21) 18
theorem Jl:Ao ["self","low","high","cuts"] ["self","low","high"] (Ah Ex):=⟨rfl,rfl,rfl,by decide +kernel,rfl,by decide +kernel,by decide +kernel⟩
theorem Mh:Bf ["self","low","high","cuts"] (Ah Ex) { kind:=.function,names:=[(".0",.local),("number",.local),("self",.free)],isGenerator:=false,isCoroutine:=false,more:=[] } "number" ["number","self"] [0]:=⟨rfl,by decide +kernel,by decide +kernel,by decide +kernel,by decide +kernel,rfl,rfl,rfl,by decide +kernel⟩
abbrev E5:Stmt:=A3 (top 21) 19
theorem Gy:Ao ["self","low","height","row"] ["self","low","height"] (Ah E5):=⟨rfl,rfl,rfl,by decide +kernel,rfl,by decide +kernel,by decide +kernel⟩
abbrev Cw:Stmt:=A3 (top 21) 21
theorem Hn:Ao ["self","low","high"] ["self","low","high"] (Ah Cw):=⟨rfl,rfl,rfl,by decide +kernel,rfl,by decide +kernel,by decide +kernel⟩
abbrev Dq:Stmt:=A3 (top 21) 22
theorem Fs:Ao ["self","low","high","height","heights"] ["self","low","high","height"] (Ah Dq):=⟨rfl,rfl,rfl,by decide +kernel,rfl,by decide +kernel,by decide +kernel⟩
abbrev Fv:Stmt:=A3 (top 21) 13
theorem De:Ao ["self","place","height","low","high","found"] ["self","place","height"] (Ah Fv):=⟨rfl,rfl,rfl,by decide +kernel,rfl,by decide +kernel,by decide +kernel⟩
abbrev Fu:Stmt:=A3 (top 21) 10
theorem Mj:Ao ["self","place"] ["self","place"] (Ah Fu):=⟨rfl,rfl,rfl,by decide +kernel,rfl,by decide +kernel,by decide +kernel⟩
abbrev Dp:Stmt:=A3 (top 21) 23
theorem Fi:Ao ["self","low","high","height","heights"] ["self","low","high","height"] (Ah Dp):=⟨rfl,rfl,rfl,by decide +kernel,rfl,by decide +kernel,by decide +kernel⟩
abbrev Fp:Stmt:=A3 (top 21) 14
theorem Dc:Ao ["self","place","height","low","high","found"] ["self","place","height"] (Ah Fp):=⟨rfl,rfl,rfl,by decide +kernel,rfl,by decide +kernel,by decide +kernel⟩
abbrev Dx:Stmt:=A3 (top 21) 20
theorem F1:Ao ["self","low","high","number"] ["self","low","high"] (Ah Dx):=⟨rfl,rfl,rfl,by decide +kernel,rfl,by decide +kernel,by decide +kernel⟩
abbrev Dd:Stmt:=A3 (top 21) 26
theorem Fc:Ao ["self","low","high","height","number"] ["self","low","high","height"] (Ah Dd):=⟨rfl,rfl,rfl,by decide +kernel,rfl,by decide +kernel,by decide +kernel⟩
abbrev Cu:Stmt:=A3 (top 21) 24
theorem F0:Ao ["self","low","high","height","nth","heights"] ["self","low","high","height","nth"] (Ah Cu):=⟨rfl,rfl,rfl,by decide +kernel,rfl,by decide +kernel,by decide +kernel⟩
theorem Je:Eo ["self","low","high","height","nth","heights"] (Ah Cu) { kind:=.function,names:=[(".0",.local),("place",.local),("one",.local),("height",.free)],isGenerator:=false,isCoroutine:=false,more:=[] } "place" "one" ["place","one","height"] [3]:=⟨rfl,by decide +kernel,by decide +kernel,by decide +kernel,by decide +kernel,rfl,rfl,rfl,rfl,rfl,by decide +kernel⟩
abbrev Cs:Stmt:=A3 (top 21) 16
theorem Fz:Ao ["self","low","high","height"] ["self","low","high"] (Ah Cs):=⟨rfl,rfl,rfl,by decide +kernel,rfl,by decide +kernel,by decide +kernel⟩
theorem Iy:Eo ["self","low","high","height"] (Ah Cs) { kind:=.function,names:=[(".0",.local),("begin",.local),("end",.local),("height",.free),("self",.free)],isGenerator:=false,isCoroutine:=false,more:=[] } "begin" "end" ["begin","end","height","self"] [3,0]:=⟨rfl,by decide +kernel,by decide +kernel,by decide +kernel,by decide +kernel,rfl,rfl,rfl,rfl,rfl,by decide +kernel⟩
abbrev Ej:Stmt:=A3 (top 21) 17
theorem B0:Ao ["self","low","nth","height","begin","end","often"] ["self","low","nth"] (Ah Ej):=⟨rfl,rfl,rfl,by decide +kernel,rfl,by decide +kernel,by decide +kernel⟩
abbrev Ha:Stmt:=A3 (top 34) 3
theorem Pj:Ao ["self"] ["self"] (Ah Ha):=⟨rfl,rfl,rfl,by decide +kernel,rfl,by decide +kernel,by decide +kernel⟩
abbrev Fx:Stmt:=A3 (top 34) 2
theorem Mi:Ao ["self"] ["self"] (Ah Fx):=⟨rfl,rfl,rfl,by decide +kernel,rfl,by decide +kernel,by decide +kernel⟩
abbrev E4:Stmt:=A3 (top 34) 4
theorem L0:Ao ["self","k"] ["self","k"] (Ah E4):=⟨rfl,rfl,rfl,by decide +kernel,rfl,by decide +kernel,by decide +kernel⟩
abbrev Ez:Stmt:=A3 (top 34) 5
theorem L6:Ao ["self","k"] ["self","k"] (Ah Ez):=⟨rfl,rfl,rfl,by decide +kernel,rfl,by decide +kernel,by decide +kernel⟩
abbrev Gr:Stmt:=A3 (top 34) 12
theorem Nz:Ao ["self","k"] ["self","k"] (Ah Gr):=⟨rfl,rfl,rfl,by decide +kernel,rfl,by decide +kernel,by decide +kernel⟩
abbrev Dy:Stmt:=A3 (top 34) 20
theorem Kk:Ao ["self"] ["self"] (Ah Dy):=⟨rfl,rfl,rfl,by decide +kernel,rfl,by decide +kernel,by decide +kernel⟩
abbrev E1:Stmt:=A3 (top 34) 6
theorem L3:Ao ["self","place"] ["self","place"] (Ah E1):=⟨rfl,rfl,rfl,by decide +kernel,rfl,by decide +kernel,by decide +kernel⟩
abbrev F6:Stmt:=A3 (top 34) 15
theorem Mv:Ao ["self","k"] ["self","k"] (Ah F6):=⟨rfl,rfl,rfl,by decide +kernel,rfl,by decide +kernel,by decide +kernel⟩
abbrev Id:Stmt:=A3 (top 34) 16
theorem Kr:Ao ["self","k","many","depth"] ["self","k","many"] (Ah Id):=⟨rfl,rfl,rfl,by decide +kernel,rfl,by decide +kernel,by decide +kernel⟩
abbrev F7:Stmt:=A3 (top 34) 7
theorem Nq:Ao ["self","k"] ["self","k"] (Ah F7):=⟨rfl,rfl,rfl,by decide +kernel,rfl,by decide +kernel,by decide +kernel⟩
abbrev E2:Stmt:=A3 (top 34) 14
theorem L1:Ao ["self","k"] ["self","k"] (Ah E2):=⟨rfl,rfl,rfl,by decide +kernel,rfl,by decide +kernel,by decide +kernel⟩
abbrev Dz:Stmt:=A3 (top 41) 8
theorem Bn:Ao ["self","low","high","text","first","behind","left_over","middle"] ["self","low","high","text"] (Ah Dz):=⟨rfl,rfl,rfl,by decide +kernel,rfl,by decide +kernel,by decide +kernel⟩
abbrev Ig:Stmt:=A3 (top 43) 0
theorem R0:Ao ["self","elders"] ["self","elders"] (Ah Ig):=⟨rfl,rfl,rfl,by decide +kernel,rfl,by decide +kernel,by decide +kernel⟩
abbrev Ey:Stmt:=A3 (top 43) 1
theorem Om:Ao ["self"] ["self"] (Ah Ey):=⟨rfl,rfl,rfl,by decide +kernel,rfl,by decide +kernel,by decide +kernel⟩
theorem Mo:Bf ["self"] (Ah Ey) { kind:=.function,names:=[(".0",.local),("piece",.local)],isGenerator:=false,isCoroutine:=false,more:=[] } "piece" ["piece"] []:=⟨rfl,by decide +kernel,by decide +kernel,by decide +kernel,by decide +kernel,rfl,rfl,rfl,by decide +kernel⟩
abbrev Gg:Stmt:=A3 (top 43) 2
theorem Sn:Ao ["self"] ["self"] (Ah Gg):=⟨rfl,rfl,rfl,by decide +kernel,rfl,by decide +kernel,by decide +kernel⟩
theorem N5:Bf ["self"] (Ah Gg) { kind:=.function,names:=[(".0",.local),("piece",.local)],isGenerator:=false,isCoroutine:=false,more:=[] } "piece" ["piece"] []:=⟨rfl,by decide +kernel,by decide +kernel,by decide +kernel,by decide +kernel,rfl,rfl,rfl,by decide +kernel⟩
abbrev Dg:Stmt:=A3 (top 43) 6
theorem Jh:Ao ["self","low","high","text"] ["self","low","high","text"] (Ah Dg):=⟨rfl,rfl,rfl,by decide +kernel,rfl,by decide +kernel,by decide +kernel⟩
abbrev Jy:Stmt:=A3 (top 43) 3
theorem Gj:Ao ["self","k","low","high","taken"] ["self","k"] (Ah Jy):=⟨rfl,rfl,rfl,by decide +kernel,rfl,by decide +kernel,by decide +kernel⟩
abbrev Hh:Stmt:=A3 (top 43) 4
theorem Dj:Ao ["self","k","place","elders","many","row","within","low"] ["self","k","place","elders"] (Ah Hh):=⟨rfl,rfl,rfl,by decide +kernel,rfl,by decide +kernel,by decide +kernel⟩
abbrev Ih:Stmt:=top 45
theorem R7:Ao ["_law_script","_law_k"] ["_law_script","_law_k"] (Ah Ih):=⟨rfl,rfl,rfl,by decide +kernel,rfl,by decide +kernel,by decide +kernel⟩
abbrev K0:Stmt:=top 47
theorem M6:Ao ["_law_cell","_law_k","_law_once"] ["_law_cell","_law_k"] (Ah K0):=⟨rfl,rfl,rfl,by decide +kernel,rfl,by decide +kernel,by decide +kernel⟩
abbrev Ka:Stmt:=top 48
theorem Ep:Ao ["_law_script","_law_at","_law_many","_law_left","_law_found","_law_k"] ["_law_script","_law_at","_law_many"] (Ah Ka):=⟨rfl,rfl,rfl,by decide +kernel,rfl,by decide +kernel,by decide +kernel⟩
abbrev Mn:Stmt:=top 49
theorem Fe:Ao ["_law_digits_here","_law_elders","_law_path","_law_k"] ["_law_digits_here"] (Ah Mn):=⟨rfl,rfl,rfl,by decide +kernel,rfl,by decide +kernel,by decide +kernel⟩
abbrev Hw:Stmt:=top 50
theorem Ee:Ao ["_law_elders","_law_times","_law_nested","_law_found","_law_k","_law_base","_law_top"] ["_law_elders","_law_times","_law_nested"] (Ah Hw):=⟨rfl,rfl,rfl,by decide +kernel,rfl,by decide +kernel,by decide +kernel⟩
theorem Rv:Bf ["_law_elders","_law_times","_law_nested","_law_found","_law_k","_law_base","_law_top"] (Ah Hw) { kind:=.function,names:=[(".0",.local),("_law_elder",.local),("int",.globalImplicit),("_law_base",.free),("_law_top",.free)],isGenerator:=false,isCoroutine:=false,more:=[] } "_law_elder" ["_law_elder","_law_base","_law_top"] [5,6]:=⟨rfl,by decide +kernel,by decide +kernel,by decide +kernel,by decide +kernel,rfl,rfl,rfl,by decide +kernel⟩
abbrev Ob:Stmt:=top 51
theorem F8:Ao ["_law_elders","_law_found","_law_path","_law_k"] ["_law_elders"] (Ah Ob):=⟨rfl,rfl,rfl,by decide +kernel,rfl,by decide +kernel,by decide +kernel⟩
abbrev Og:Stmt:=top 52
theorem Mp:Ao ["_law_elders","_law_k","_law_end_here"] ["_law_elders","_law_k"] (Ah Og):=⟨rfl,rfl,rfl,by decide +kernel,rfl,by decide +kernel,by decide +kernel⟩
abbrev Gk:Stmt:=top 54
theorem Li:Ao ["_law_elders","_law_k","_law_end_here"] ["_law_elders","_law_k"] (Ah Gk):=⟨rfl,rfl,rfl,by decide +kernel,rfl,by decide +kernel,by decide +kernel⟩
theorem Ny:Bf ["_law_elders","_law_k","_law_end_here"] (Ah Gk) { kind:=.function,names:=[(".0",.local),("_law_elder",.local),("int",.globalImplicit),("_law_end_here",.free),("_law_k",.free)],isGenerator:=false,isCoroutine:=false,more:=[] } "_law_elder" ["_law_elder","_law_end_here","_law_k"] [2,1]:=⟨rfl,by decide +kernel,by decide +kernel,by decide +kernel,by decide +kernel,rfl,rfl,rfl,by decide +kernel⟩
abbrev J5:Stmt:=top 55
theorem O9:Ao ["_law_elders","_law_k","_law_place_here","_law_some"] ["_law_elders","_law_k","_law_place_here"] (Ah J5):=⟨rfl,rfl,rfl,by decide +kernel,rfl,by decide +kernel,by decide +kernel⟩
theorem S7:Bf ["_law_elders","_law_k","_law_place_here","_law_some"] (Ah J5) { kind:=.function,names:=[(".0",.local),("_law_other",.local),("_law_elders",.free),("_law_k",.free)],isGenerator:=false,isCoroutine:=false,more:=[] } "_law_other" ["_law_other","_law_elders","_law_k"] [0,1]:=⟨rfl,by decide +kernel,by decide +kernel,by decide +kernel,by decide +kernel,rfl,rfl,rfl,by decide +kernel⟩
abbrev Hf:Stmt:=top 56
theorem Lh:Ao ["_law_elders","_law_k","_law_place_here","_law_wood_here","_law_at","_law_amid"] ["_law_elders","_law_k","_law_place_here","_law_wood_here"] (Ah Hf):=⟨rfl,rfl,rfl,by decide +kernel,rfl,by decide +kernel,by decide +kernel⟩
theorem Tn:Bf ["_law_elders","_law_k","_law_place_here","_law_wood_here","_law_at","_law_amid"] (Ah Hf) { kind:=.function,names:=[(".0",.local),("_law_elder",.local),("int",.globalImplicit),("_law_at",.free),("_law_k",.free)],isGenerator:=false,isCoroutine:=false,more:=[] } "_law_elder" ["_law_elder","_law_at","_law_k"] [4,1]:=⟨rfl,by decide +kernel,by decide +kernel,by decide +kernel,by decide +kernel,rfl,rfl,rfl,by decide +kernel⟩
theorem S6:Bf ["_law_elders","_law_k","_law_place_here","_law_wood_here","_law_at","_law_amid"] (Ah Hf) { kind:=.function,names:=[(".0",.local),("_law_elder",.local),("len",.globalImplicit),("int",.globalImplicit),("_law_at",.free),("_law_wood_here",.free)],isGenerator:=false,isCoroutine:=false,more:=[] } "_law_elder" ["_law_elder","_law_at","_law_wood_here"] [4,3]:=⟨rfl,by decide +kernel,by decide +kernel,by decide +kernel,by decide +kernel,rfl,rfl,rfl,by decide +kernel⟩
abbrev Mf:Stmt:=top 60
theorem Fa:Ao ["_law_text","_law_whole_here","_law_least","_law_sign"] ["_law_text"] (Ah Mf):=⟨rfl,rfl,rfl,by decide +kernel,rfl,by decide +kernel,by decide +kernel⟩
abbrev Kz:Stmt:=top 57
theorem G0:Ao ["_law_elders","_law_k","_law_found"] ["_law_elders","_law_k"] (Ah Kz):=⟨rfl,rfl,rfl,by decide +kernel,rfl,by decide +kernel,by decide +kernel⟩
abbrev Hy:Stmt:=top 58
theorem Kb:Ao ["_law_elders","_law_k","_law_place_here","_law_at","_law_some"] ["_law_elders","_law_k","_law_place_here"] (Ah Hy):=⟨rfl,rfl,rfl,by decide +kernel,rfl,by decide +kernel,by decide +kernel⟩
theorem P6:Bf ["_law_elders","_law_k","_law_place_here","_law_at","_law_some"] (Ah Hy) { kind:=.function,names:=[(".0",.local),("_law_other",.local),("_law_elders",.free),("_law_k",.free)],isGenerator:=false,isCoroutine:=false,more:=[] } "_law_other" ["_law_other","_law_elders","_law_k"] [0,1]:=⟨rfl,by decide +kernel,by decide +kernel,by decide +kernel,by decide +kernel,rfl,rfl,rfl,by decide +kernel⟩
abbrev Hd:Stmt:=top 59
theorem Gq:Ao ["_law_before","_law_after","_law_low","_law_high","_law_put_in","_law_ends","_law_part_here","_law_ahead","_law_behind"] ["_law_before","_law_after","_law_low","_law_high","_law_put_in"] (Ah Hd):=⟨rfl,rfl,rfl,by decide +kernel,rfl,by decide +kernel,by decide +kernel⟩
theorem S9:Bf ["_law_before","_law_after","_law_low","_law_high","_law_put_in","_law_ends","_law_part_here","_law_ahead","_law_behind"] (Ah Hd) { kind:=.function,names:=[(".0",.local),("_law_end_here",.local),("_law_low",.free)],isGenerator:=false,isCoroutine:=false,more:=[] } "_law_end_here" ["_law_end_here","_law_low"] [2]:=⟨rfl,by decide +kernel,by decide +kernel,by decide +kernel,by decide +kernel,rfl,rfl,rfl,by decide +kernel⟩
theorem Ta:Bf ["_law_before","_law_after","_law_low","_law_high","_law_put_in","_law_ends","_law_part_here","_law_ahead","_law_behind"] (Ah Hd) { kind:=.function,names:=[(".0",.local),("_law_end_here",.local),("_law_high",.free)],isGenerator:=false,isCoroutine:=false,more:=[] } "_law_end_here" ["_law_end_here","_law_high"] [3]:=⟨rfl,by decide +kernel,by decide +kernel,by decide +kernel,by decide +kernel,rfl,rfl,rfl,by decide +kernel⟩
abbrev Ev:Stmt:=top 62
theorem Si:Ao ["_law_parts","_law_row_here"] ["_law_parts","_law_row_here"] (Ah Ev):=⟨rfl,rfl,rfl,by decide +kernel,rfl,by decide +kernel,by decide +kernel⟩
theorem Oe:Bf ["_law_parts","_law_row_here"] (Ah Ev) { kind:=.function,names:=[(".0",.local),("_law_k",.local),("len",.globalImplicit),("_law_parts",.free)],isGenerator:=false,isCoroutine:=false,more:=[] } "_law_k" ["_law_k","_law_parts"] [0]:=⟨rfl,by decide +kernel,by decide +kernel,by decide +kernel,by decide +kernel,rfl,rfl,rfl,by decide +kernel⟩
theorem Ol:Bf ["_law_parts","_law_row_here"] (Ah Ev) { kind:=.function,names:=[(".0",.local),("_law_part_here",.local),("len",.globalImplicit)],isGenerator:=false,isCoroutine:=false,more:=[] } "_law_part_here" ["_law_part_here"] []:=⟨rfl,by decide +kernel,by decide +kernel,by decide +kernel,by decide +kernel,rfl,rfl,rfl,by decide +kernel⟩
abbrev Lj:Stmt:=top 61
theorem Jo:Ao ["_law_wood_here","_law_elders","_law_at","_law_k","_law_elder"] ["_law_wood_here","_law_elders","_law_at"] (Ah Lj):=⟨rfl,rfl,rfl,by decide +kernel,rfl,by decide +kernel,by decide +kernel⟩
abbrev Mq:Stmt:=top 63
theorem Cy:Ao ["_law_script","_law_seed","_law_elders","_law_wood_here","_law_cell","_law_number","_law_before","_law_k","_law_other","_law_low","_law_high","_law_some","_law_place_here","_law_after"] ["_law_script"] (Ah Mq):=⟨rfl,rfl,rfl,by decide +kernel,rfl,by decide +kernel,by decide +kernel⟩
theorem kY:Bf ["_law_script","_law_seed","_law_elders","_law_wood_here","_law_cell","_law_number","_law_before","_law_k","_law_other","_law_low","_law_high","_law_some","_law_place_here","_law_after"] (Ah Mq) { kind:=.function,names:=[(".0",.local),("_law_k",.local),("_law_mixed",.globalImplicit),("_law_number",.free)],isGenerator:=false,isCoroutine:=false,more:=[] } "_law_k" ["_law_k","_law_number"] [5]:=⟨rfl,by decide +kernel,by decide +kernel,by decide +kernel,by decide +kernel,rfl,rfl,rfl,by decide +kernel⟩
theorem lD:Bf ["_law_script","_law_seed","_law_elders","_law_wood_here","_law_cell","_law_number","_law_before","_law_k","_law_other","_law_low","_law_high","_law_some","_law_place_here","_law_after"] (Ah Mq) { kind:=.function,names:=[(".0",.local),("_law_one",.local),("_law_elders",.free),("_law_k",.free)],isGenerator:=false,isCoroutine:=false,more:=[] } "_law_one" ["_law_one","_law_elders","_law_k"] [2,7]:=⟨rfl,by decide +kernel,by decide +kernel,by decide +kernel,by decide +kernel,rfl,rfl,rfl,by decide +kernel⟩
theorem gZ:Bf ["_law_script","_law_seed","_law_elders","_law_wood_here","_law_cell","_law_number","_law_before","_law_k","_law_other","_law_low","_law_high","_law_some","_law_place_here","_law_after"] (Ah Mq) { kind:=.function,names:=[(".0",.local),("_law_part_here",.local),("_law_sums",.globalImplicit)],isGenerator:=false,isCoroutine:=false,more:=[] } "_law_part_here" ["_law_part_here"] []:=⟨rfl,by decide +kernel,by decide +kernel,by decide +kernel,by decide +kernel,rfl,rfl,rfl,by decide +kernel⟩
abbrev Ag:Pos:=⟨402,53,402,99⟩
abbrev Ac:Pos:=⟨408,52,408,98⟩
abbrev Ad:Pos:=⟨414,52,414,95⟩
def Az (l:List Bool):Str:=⟨(l.map fun b=>if b then 49 else 48).toArray⟩
theorem Ay (l:List Bool):(Az l).length=l.length:=by
 show (l.map _).toArray.size=_
 rw [List.size_toArray,List.length_map]
theorem Oq (b:Bool)(k:Nat):Se (sgn (if b then 49 else 48)) k=Az (List.replicate k b):=by
 refine J9 ?_
 show (List.replicate k [if b then 49 else 48]).flatten.toArray.toList=((List.replicate k b).map _).toArray.toList
 rw [List.toList_toArray,List.toList_toArray,List.map_replicate]
 induction k with
 | zero=>rfl
 | succ k ih =>
  rw [List.replicate_succ,List.flatten_cons,ih,List.replicate_succ]
  rfl
theorem F3 (l:List Bool):(Az l).cps.toList=l.map fun b=>if b then 49 else 48:=by
 show (l.map _).toArray.toList=_
 rw [List.toList_toArray]
theorem Ec (a b:List Bool):Az a++Az b=Az (a++b):=by
 refine J9 ?_
 show ((Az a).cps++(Az b).cps).toList=_
 rw [Array.toList_append,F3,F3,F3,List.map_append]
theorem Ma {α:Type}(l:List α)(a b:Nat):(l.drop (min a l.length)).take (min b l.length-min a l.length)=(l.drop a).take (b-a):=by
 by_cases h:a<=l.length
 ·rw [Nat.min_eq_left h]
  by_cases h2:b<=l.length
  ·rw [Nat.min_eq_left h2]
  ·rw [Nat.min_eq_right (by omega),List.take_of_length_le (by rw [List.length_drop];omega),List.take_of_length_le (by rw [List.length_drop];omega)]
 ·have e:min a l.length=l.length:=by omega
  rw [e,List.drop_of_length_le (Nat.le_refl _),List.drop_of_length_le (by omega)]
  simp
theorem Uq (l:List Bool)(a b:Nat):jW (Az l) (some (a:Int)) (some (b:Int))=Az ((l.drop a).take (b-a)):=by
 refine J9 ?_
 show (List.take _ (List.drop _ _)).toArray.toList=_
 rw [List.toList_toArray,HT.sIx_nat,HT.sIx_nat]
 have e:(Az l).cps.size=l.length:=Ay l
 rw [e,F3,F3,List.map_take,List.map_drop]
 have:=Ma (l.map fun b=>if b=true then 49 else 48) a b
 rw [List.length_map] at this
 exact this
theorem iD (xs:List V)(a b:Nat):La xs (some (a:Int)) (some (b:Int))=(xs.drop a).take (b-a):=by
 unfold La
 rw [HT.sIx_nat,HT.sIx_nat]
 exact Ma xs a b
theorem Ot (l:List Bool):cD (Az l) 49=l.count true/\cD (Az l) 48+cD (Az l) 49=l.length:=by
 unfold cD
 rw [F3]
 induction l with
 | nil=>exact ⟨rfl,rfl⟩
 | cons b r ih=>cases b<;>simp [List.count_cons]<;>omega
abbrev nV (ns:List Nat):List V:=ns.map fun n:Nat=>V.int n
theorem R6 (f:Nat->Nat)(i:Nat):nV ((List.range (i+1)).map f)=nV ((List.range i).map f)++[V.int (f i:Nat)]:=by
 unfold nV
 rw [List.range_succ,List.map_append,List.map_append]
 rfl
theorem few {n:Nat}(h:n<=1000):n<=sizeLine:=Nat.le_of_lt (Lw h)
theorem Ak {n:Nat}(h:n<=100000):n<sizeLine:=Nat.lt_of_le_of_lt h (by decide)
theorem Nb {l:List Bool}{i c:Nat}(h:(Az l).cps[i]?=some c):∃ b,l[i]?=some b/\c=if b then 49 else 48:=by
 have e:(Az l).cps.toList[i]?=some c:=by rw [Array.getElem?_toList];exact h
 rw [F3,List.getElem?_map] at e
 cases hb:l[i]? with
 | none=>rw [hb] at e;cases e
 | some b =>
  rw [hb] at e
  exact ⟨b,rfl,(Option.some.inj e).symm⟩
theorem Bw {α:Type}{l:List α}{i:Nat}{b:α}(h:l[i]?=some b):i<l.length:=(List.getElem?_eq_some_iff.mp h).1
theorem Cn (l:List Nat):(nV l).length=l.length:=by unfold nV;rw [List.length_map]
theorem sB {l:List Nat}{i:Nat}{n:Nat}(h:l[i]?=some n):(nV l)[i]?=some (.int (n:Nat)):=by
 unfold nV
 rw [List.getElem?_map,h]
 rfl
theorem W7 (l m:List Nat):nV l++nV m=nV (l++m):=by unfold nV;rw [List.map_append]
theorem Cf {H H1:Hp}{a:Addr}{o:HO}(s:An H H1)(h:H a=none):An H (upd H1 a o):=fun b u e=>by
 rw [Aw (Ap e h)]
 exact s _ _ e
theorem Tc {K:PySem.W.Frag}:kitOne K (.type "list") (.type "list")=some true:=by rfl
theorem Xr {l:List Int}{i:Nat}{n:Int}(h:l[i]?=some n):(l.map V.int)[i]?=some (.int n):=by
 rw [List.getElem?_map,h]
 rfl
theorem Kd {l:List Int}{i:Nat}{x:V}(h:(l.map V.int)[i]?=some x):∃ n,l[i]?=some n/\x=.int n:=by
 rw [List.getElem?_map] at h
 cases e:l[i]? with
 | none=>rw [e] at h;cases h
 | some n =>
  rw [e] at h
  exact ⟨n,rfl,(Option.some.inj h).symm⟩
theorem Ji {l:List Int}{m:Nat}{x:Int}(h0:0<m)(h:l[m-1]?=some x):atI ((l.take m).map V.int) (-1)=some (.int x):=by
 have hm:=Bw h
 have e:l.take m=l.take (m-1)++[x]:=by
  rw [show m=m-1+1 by omega,List.take_add_one,h]
  rfl
 rw [e,List.map_append]
 exact K7 _ _
theorem Go {l:List Int}{m:Nat}(h:m<=l.length):((l.take m).map V.int).length=m:=by rw [List.length_map,List.length_take];omega
theorem On {l:List Int}{m:Nat}(h:m<=l.length):((l.take m).map V.int).dropLast=(l.take (m-1)).map V.int:=by
 rw [<- List.map_dropLast,List.dropLast_eq_take,List.take_take,List.length_take]
 congr 2
 omega
def fB (H:Hp)(p:Addr):Nat:=match H p with | some (.lst xs)=>xs.length | _=>0
theorem Mt {H:Hp}{p:Addr}{xs:List V}(h:H p=some (.lst xs)):fB H p=xs.length:=by unfold fB;rw [h]
theorem Rj {K:PySem.W.Frag}{H1:Hp}{Q:VK}{p:Addr}{ls:List (List Bool)}(hl:H1 p=some (.lst (ls.map fun l=>.str (Az l))))(hz:ls.flatten.length<=100000)(q:Q (.str (Az ls.flatten)) H1):pA K (.str "") [.ref p] H1 Q:=by
 refine ⟨"",p,ls.map Az,rfl,rfl,SqL.of ?_,?_,?_⟩
 ·rw [hl,List.map_map]
  rfl
 ·have e:((ls.map Az).map (·.length)).sum=ls.flatten.length:=by
   rw [List.length_flatten,List.map_map]
   congr 1
   refine List.map_congr_left fun l _=>?_
   exact Ay l
  rw [e]
  show ls.flatten.length+_*0<=_
  omega
 ·have e:Txt.join ("":Str) (ls.map Az)=Az ls.flatten:=by
   refine J9 ?_
   rw [Zc,List.map_map]
   show ((ls.map fun l=>(l.map fun b=>if b then 49 else 48).toArray.toList)).flatten=(ls.flatten.map _).toArray.toList
   simp only [List.toList_toArray]
   rw [List.map_flatten]
  rw [e]
  exact q
theorem Lf {ds:List Nat}(h:Dok ds):∀ k,k<=ds.length->opn ds k<=k
 | 0,_=>Nat.le_refl _
 | k+1,hk=>by
  show dAt ds k+1<=k+1
  have:=h k (by omega)
  have:=Lf h k (by omega)
  omega
theorem Ku {ds:List Nat}{d j:Nat}(h:j<ds.length):dAt (ds++[d]) j=dAt ds j:=by
 unfold dAt List.getD
 rw [List.getElem?_append_left h]
theorem Nf (ds:List Nat)(d:Nat):dAt (ds++[d]) ds.length=d:=by
 unfold dAt List.getD
 rw [List.getElem?_append_right (Nat.le_refl _),Nat.sub_self]
 rfl
theorem Nl {ds:List Nat}{d:Nat}:∀ k,k<=ds.length->opn (ds++[d]) k=opn ds k
 | 0,_=>rfl
 | k+1,h=>by
  show dAt (ds++[d]) k+1=dAt ds k+1
  rw [Ku (by omega)]
theorem Nt {ds:List Nat}{d:Nat}:∀ k,k<=ds.length->way (ds++[d]) k=way ds k
 | 0,_=>rfl
 | k+1,h=>by
  show (way (ds++[d]) k).take (dAt (ds++[d]) k+1)++[(k:Int)]=_
  rw [Nt k (by omega),Ku (by omega)]
  rfl
theorem X6 {ds:List Nat}{d:Nat}(h:Dok ds)(hd:d<=opn ds ds.length):Dok (ds++[d]):=fun k hk=>by
 rw [List.length_append] at hk
 simp only [List.length_cons,List.length_nil] at hk
 by_cases e:k=ds.length
 ·subst e
  rw [Nf,Nl _ (Nat.le_refl _)]
  exact hd
 ·rw [Ku (by omega),Nl k (by omega)]
  exact h k (by omega)
theorem Ty (ds:List Nat)(d:Nat):A0 (ds++[d])=A0 ds++[(way ds ds.length).getD d 0]:=by
 unfold A0
 rw [List.length_append]
 show (List.range (ds.length+1)).map _=_
 rw [List.range_succ,List.map_append]
 congr 1
 ·refine List.map_congr_left fun k hk=>?_
  have hk:=List.mem_range.mp hk
  unfold eld
  rw [Nt k (by omega),Ku hk]
 ·show [eld (ds++[d]) ds.length]=_
  unfold eld
  rw [Nt _ (Nat.le_refl _),Nf]
theorem Yg (ds:List Nat)(d:Nat):way (ds++[d]) (ds.length+1)=(way ds ds.length).take (d+1)++[(ds.length:Int)]:=by
 show (way (ds++[d]) ds.length).take (dAt (ds++[d]) ds.length+1)++_=_
 rw [Nt _ (Nat.le_refl _),Nf]
theorem X9 {ds:List Nat}(h:Dok ds){k:Nat}(hk:k<=ds.length):way ds k=-1::(way ds k).tail:=by
 have e:=Ci h k hk
 cases hw:way ds k with
 | nil=>rw [hw] at e;cases e
 | cons x r =>
  rw [hw] at e
  obtain rfl:=Option.some.inj e
  rfl
structure Kf (H H':Hp):Prop where
 keep:∀ b u,(∀ ps,u≠.tbl ps)->H b=some u->H' b=some u
 tb:∀ b ps,H b=some (.tbl ps)->∃ ps',H' b=some (.tbl ps')
theorem Kf.refl (H:Hp):Kf H H:=⟨fun _ _ _ e=>e,fun _ ps e=>⟨ps,e⟩⟩
theorem Kf.trans {H H1 H2:Hp}(a:Kf H H1)(b:Kf H1 H2):Kf H H2:=⟨fun c u n e=>b.keep c u n (a.keep c u n e),fun c ps e=>let ⟨ps',e'⟩:=a.tb c ps e;b.tb c ps' e'⟩
theorem jD {H H':Hp}(s:An H H'):Kf H H':=⟨fun b u _ e=>s b u e,fun b ps e=>⟨ps,s b _ e⟩⟩
theorem Kf.free {H H':Hp}(s:Kf H H'){l:Addr}(e:H' l=none):H l=none:=by
 cases q:H l with
 | none=>rfl
 | some o =>
  by_cases ho:∃ ps,o=.tbl ps
  ·obtain ⟨ps,rfl⟩:=ho
   obtain ⟨ps',e2⟩:=s.tb l ps q
   rw [e2] at e;cases e
  ·rw [s.keep l o (fun ps z=>ho ⟨ps,z⟩) q] at e;cases e
structure Tb where
 P:Addr
 pos:Pos
 qual:Str
def Tb.ok (t:Tb)(H:Hp):Prop:=Rq H t.P t.pos t.qual
theorem Tb.same {t:Tb}{H H':Hp}(s:An H H')(h:t.ok H):t.ok H':=by
 obtain ⟨ps,e1,e2,e3⟩:=h
 exact ⟨ps,s _ _ e1,e2,e3.imp id fun ⟨c,oc,a1,a2,a3⟩=>⟨c,oc,a1,s _ _ a2,a3⟩⟩
theorem Tb.sameX {t:Tb}{P:Addr}{H H':Hp}(s:Pa P H H')(hP:∃ ps,H P=some (.tbl ps))(n:t.P≠P)(h:t.ok H):t.ok H':=by
 obtain ⟨ps,e1,e2,e3⟩:=h
 obtain ⟨ps',hP⟩:=hP
 exact ⟨ps,s _ _ n e1,e2,e3.imp id fun ⟨c,oc,a1,a2,a3⟩=>⟨c,oc,a1,s _ _ (fun z=>by rw [z,hP] at a2;cases a2) a2,a3⟩⟩
theorem mZ {P:Addr}{H H':Hp}(s:Pa P H H')(hP:∃ ps,H P=some (.tbl ps))(hP':∃ ps,H' P=some (.tbl ps)):Kf H H':=by
 refine ⟨fun b u n e=>s b u (fun z=>?_) e,fun b ps e=>?_⟩
 ·obtain ⟨ps,hP⟩:=hP
  rw [z,hP] at e
  cases e
  exact n ps rfl
 ·by_cases hb:b=P
  ·rw [hb];exact hP'
  ·exact ⟨ps,s b _ hb e⟩
theorem Tb.tbl {t:Tb}{H:Hp}(h:t.ok H):∃ ps,H t.P=some (.tbl ps):=let ⟨ps,e,_⟩:=h;⟨ps,e⟩
def Tbs (ts:List Tb)(H:Hp):Prop:=(∀ t∈ts,t.ok H)/\(ts.map (·.P)).Nodup
structure SmT (ts:List Tb) (H H':Hp):Prop where
 sm:Kf H H'
 ok:Tbs ts H'
theorem Tbs.same {ts:List Tb}{H H':Hp}(h:Tbs ts H)(s:An H H'):Tbs ts H':=⟨fun t ht=>Tb.same s (h.1 t ht),h.2⟩
theorem SmT.of {ts:List Tb}{H H':Hp}(h:Tbs ts H)(s:An H H'):SmT ts H H':=⟨jD s,h.same s⟩
theorem SmT.refl {ts:List Tb}{H:Hp}(h:Tbs ts H):SmT ts H H:=⟨Kf.refl _,h⟩
theorem SmT.trans {ts:List Tb}{H H1 H2:Hp}(a:SmT ts H H1)(b:SmT ts H1 H2):SmT ts H H2:=⟨a.sm.trans b.sm,b.ok⟩
theorem SmT.then {ts:List Tb}{H H1 H2:Hp}(a:SmT ts H H1)(b:An H1 H2):SmT ts H H2:=a.trans (.of a.ok b)
theorem SmT.k {ts:List Tb}{H H':Hp}(s:SmT ts H H'){b:Addr}{u:HO}(h:H b=some u)(n:∀ ps,u≠.tbl ps:=by intro ps e;cases e):H' b=some u:=s.sm.keep _ _ n h
theorem iX:∀ {ts:List Tb} {t u:Tb},(ts.map (·.P)).Nodup->t∈ts->u∈ts->t.P=u.P->t=u
 | [],_,_,_,h,_,_=>nomatch h
 | x::r,t,u,hn,ht,hu,e=>by
  rw [List.map_cons,List.nodup_cons] at hn
  rcases List.mem_cons.mp ht with rfl | ht'<;>rcases List.mem_cons.mp hu with rfl | hu'
  ·rfl
  ·exact absurd (List.mem_map_of_mem (f:=(·.P)) hu') (by rw [<- e];exact hn.1)
  ·exact absurd (List.mem_map_of_mem (f:=(·.P)) ht') (by rw [e];exact hn.1)
  ·exact iX hn.2 ht' hu' e
theorem kQ {ts:List Tb}{t:Tb}{H H':Hp}(h:Tbs ts H)(ht:t∈ts)(s:Pa t.P H H')(ok:t.ok H'):SmT ts H H':=by
 have hP:=Tb.tbl (h.1 t ht)
 refine ⟨mZ s hP (Tb.tbl ok),fun u hu=>?_,h.2⟩
 by_cases e:u.P=t.P
 ·have:u=t:=iX h.2 hu ht e
  rw [this];exact ok
 ·exact Tb.sameX s hP e (h.1 u hu)
def bgn (ls:List (List Bool))(j:Nat):Nat:=(ls.take j).flatten.length
theorem Mu (ls:List (List Bool)):bgn ls 0=0:=rfl
theorem Gi (ls:List (List Bool)):bgn ls ls.length=ls.flatten.length:=by unfold bgn;rw [List.take_length]
theorem C6 {ls:List (List Bool)}{j:Nat}{x:List Bool}(h:ls[j]?=some x):bgn ls (j+1)=bgn ls j+x.length:=by
 unfold bgn
 rw [List.take_add_one,h,List.flatten_append,List.length_append]
 simp
theorem Cc {ls:List (List Bool)}{i j:Nat}(h:i<=j):bgn ls i<=bgn ls j:=by
 unfold bgn
 have e:ls.take i=(ls.take j).take i:=by rw [List.take_take,Nat.min_eq_left h]
 have e2:=congrArg List.length (congrArg List.flatten (List.take_append_drop i (ls.take j)))
 rw [<- e,List.flatten_append,List.length_append] at e2
 omega
theorem Y8 (ls:List (List Bool))(j:Nat):bgn ls j<=ls.flatten.length:=by
 by_cases h:j<=ls.length
 ·rw [<- Gi];exact Cc h
 ·unfold bgn
  rw [List.take_of_length_le (by omega)]
  exact Nat.le_refl _
theorem kW (ls:List (List Bool))(j:Nat):((ls.map List.length).take j).sum=bgn ls j:=by
 unfold bgn
 rw [List.length_flatten,List.map_take]
theorem Lr (ls:List (List Bool))(j:Nat):(ls.drop j).flatten=ls.flatten.drop (bgn ls j):=by
 have e:=congrArg List.flatten (List.take_append_drop j ls)
 rw [List.flatten_append] at e
 rw [<- e]
 unfold bgn
 rw [List.drop_left]
theorem Op (ls:List (List Bool))(j:Nat):(ls.take j).flatten=ls.flatten.take (bgn ls j):=by
 have e:=congrArg List.flatten (List.take_append_drop j ls)
 rw [List.flatten_append] at e
 rw [<- e]
 unfold bgn
 rw [List.take_left]
theorem kN (ls:List (List Bool))(i j:Nat):bgn (ls.drop i) j=bgn ls (i+j)-bgn ls i:=by
 have e:ls.take (i+j)=ls.take i++(ls.drop i).take j:=by rw [List.take_add]
 unfold bgn
 rw [e,List.flatten_append,List.length_append]
 omega
theorem Y5 (ls:List (List Bool)){i j:Nat}(h:i<=j):((ls.drop i).take (j-i)).flatten=(ls.flatten.drop (bgn ls i)).take (bgn ls j-bgn ls i):=by
 rw [Op,Lr,kN,show i+(j-i)=j by omega]
theorem mX (l:List Bool){b e lo hi:Nat}(h1:b<=lo)(h2:lo<=hi)(h3:hi<=e):(((l.drop b).take (e-b)).drop (lo-b)).take (hi-lo)=(l.drop lo).take (hi-lo):=by
 rw [List.drop_take,List.take_take,List.drop_drop,show b+(lo-b)=lo by omega,Nat.min_eq_left (by omega)]
def pcM (L:Nat):Nat:=(L+127)/128
def Cb (L k:Nat):Nat:=k*L/pcM L
def pcs (l:List Bool):List (List Bool):=(List.range (pcM l.length)).map fun k=>(l.drop (Cb l.length k)).take (Cb l.length (k+1)-Cb l.length k)
theorem Uo (L:Nat):Cb L 0=0:=by unfold Cb;rw [Nat.zero_mul,Nat.zero_div]
theorem Sm {L:Nat}(h:0<L):Cb L (pcM L)=L:=by
 unfold Cb
 exact Nat.mul_div_cancel_left L (by unfold pcM;omega)
theorem Lm {L i j:Nat}(h:i<=j):Cb L i<=Cb L j:=Nat.div_le_div_right (Nat.mul_le_mul_right L h)
theorem mR {L k:Nat}(h:k<=pcM L):Cb L k<=L:=by
 by_cases h0:L=0
 ·subst h0;unfold Cb;rw [Nat.mul_zero,Nat.zero_div];exact Nat.zero_le _
 ·have:=Lm (L:=L) h
  rw [Sm (by omega)] at this
  exact this
theorem Oy {L k:Nat}(h:0<L):Cb L k+1<=Cb L (k+1)/\Cb L (k+1)<=Cb L k+128:=by
 have hm:0<pcM L:=by unfold pcM;omega
 have h1:pcM L<=L:=by unfold pcM;omega
 have h2:L<=pcM L*128:=by unfold pcM;omega
 unfold Cb
 constructor
 ·rw [Nat.le_div_iff_mul_le hm,Nat.add_mul,Nat.one_mul,Nat.succ_mul]
  have:=Nat.div_mul_le_self (k*L) (pcM L)
  omega
 ·have h3:(k+1)*L<=k*L+128*pcM L:=by rw [Nat.succ_mul];omega
  have:=Nat.div_le_div_right (c:=pcM L) h3
  rw [Nat.add_mul_div_right _ _ hm] at this
  exact this
theorem iJ {L k:Nat}(h:2<=pcM L):Cb L k+64<Cb L (k+2):=by
 have hm:0<pcM L:=by omega
 have h2:66*pcM L<=2*L:=by unfold pcM at h ⊢;omega
 have e:(k+2)*L=k*L+2*L:=by rw [Nat.add_mul]
 have h3:k*L+65*pcM L<=(k+2)*L:=by omega
 unfold Cb
 have:=Nat.div_le_div_right (c:=pcM L) h3
 rw [Nat.add_mul_div_right _ _ hm] at this
 omega
theorem Eg (l:List Bool):(pcs l).length=pcM l.length:=by unfold pcs;rw [List.length_map,List.length_range]
theorem O0 {l:List Bool}{k:Nat}(h:k<pcM l.length):(pcs l)[k]?=some ((l.drop (Cb l.length k)).take (Cb l.length (k+1)-Cb l.length k)):=by
 unfold pcs
 rw [List.getElem?_map,List.getElem?_range h]
 rfl
theorem Kv {l:List Bool}{k:Nat}(h:k<pcM l.length):((l.drop (Cb l.length k)).take (Cb l.length (k+1)-Cb l.length k)).length=Cb l.length (k+1)-Cb l.length k:=by
 have:=mR (L:=l.length) (k:=k+1) h
 rw [List.length_take,List.length_drop]
 omega
def Dt (ls:List (List Bool)):Prop:=∀ (k:Nat) (x:List Bool),ls[k]?=some x->0<x.length/\x.length<=128
theorem dP {L k:Nat}(h:k<pcM L):0<L:=by unfold pcM at h;omega
theorem Ul (l:List Bool):Dt (pcs l):=fun k x h=>by
 have hk:=(List.getElem?_eq_some_iff.mp h).1
 rw [Eg] at hk
 rw [O0 hk] at h
 obtain rfl:=Option.some.inj h
 rw [Kv hk]
 have:=Oy (k:=k) (dP hk)
 omega
theorem fE (l:List Bool):∀ k,k<=pcM l.length->((pcs l).take k).flatten=l.take (Cb l.length k)
 | 0,_=>by rw [Uo];rfl
 | k+1,h=>by
  rw [List.take_add_one,O0 (by omega),List.flatten_append,fE l k (by omega)]
  have hm:=Lm (L:=l.length) (show k<=k+1 by omega)
  show _++([_]:List (List Bool)).flatten=_
  rw [List.flatten_singleton]
  have:Cb l.length (k+1)=Cb l.length k+(Cb l.length (k+1)-Cb l.length k):=by omega
  conv=>rhs;rw [this,List.take_add]
theorem Rn (l:List Bool):(pcs l).flatten=l:=by
 have:=fE l (pcM l.length) (Nat.le_refl _)
 rw [List.take_of_length_le (by rw [Eg];exact Nat.le_refl _)] at this
 rw [this]
 by_cases h:l.length=0
 ·rw [List.eq_nil_of_length_eq_zero h];rfl
 ·rw [Sm (by omega),List.take_length]
def Fj (ls:List (List Bool)):Prop:=∀ (k:Nat) (x y:List Bool),ls[k]?=some x->ls[k+1]?=some y->64<x.length+y.length
theorem Xl (l:List Bool):Fj (pcs l):=fun k x y h1 h2=>by
 have hk:=(List.getElem?_eq_some_iff.mp h2).1
 rw [Eg] at hk
 rw [O0 (by omega)] at h1
 rw [O0 hk] at h2
 obtain rfl:=Option.some.inj h1
 obtain rfl:=Option.some.inj h2
 rw [Kv (by omega),Kv hk]
 have:=iJ (L:=l.length) (k:=k) (by omega)
 have:=Lm (L:=l.length) (show k<=k+1 by omega)
 have:=Lm (L:=l.length) (show k+1<=k+1+1 by omega)
 rw [show k+1+1=k+2 by omega] at *
 omega
def Kp (H H':Hp):Prop:=∀ b u,(∀ ps,u≠HO.tbl ps)->H b=some u->H' b=some u
theorem An.kp {H H':Hp}(s:An H H'):Kp H H':=fun b u _ e=>s b u e
theorem SmT.kp {ts:List Tb}{H H':Hp}(s:SmT ts H H'):Kp H H':=fun b u n e=>s.sm.keep b u n e
theorem Kp.k {H H':Hp}(s:Kp H H'){b:Addr}{u:HO}(h:H b=some u)(n:∀ ps,u≠.tbl ps:=by intro ps e;cases e):H' b=some u:=s b u n h
def dB (K:PySem.W.Frag)(ts:List Tb):Sp:=fun vs H Q _=>∃ (a:Addr) (ns:List Int),vs=[.ref a]/\SqL K H a (ns.map V.int)/\ns.length<=63/\Tbs ts H/\∀ H',Q (.bl true) H'
abbrev AllMk:Prop:=∀ {l:PySem.W.OpenLaw} {w:World} {K:PySem.W.Frag} {h:Heap} {mg:Str->Option Value} {fa:Addr} (X:K.In h) (G:h.Ns mainGlobals mg) (hfa:mg "law"=some (.ref fa))
  {ab:Addr}
  {aa:Addr}
  {ac:Addr}
  {aA:Addr}
  {aB:Addr}
  {f22:Addr} {od22 an22:Option Addr} {sl22:Array (Option Value)} {oc22 kV22 dc22 pm22 ct22:Value}
  {oo22:Obj}
  {f23:Addr} {od23 an23:Option Addr} {sl23:Array (Option Value)} {oc23 kV23 dc23 pm23 ct23:Value}
  {oo23:Obj}
  {f30:Addr} {od30 an30:Option Addr} {sl30:Array (Option Value)} {oc30 kV30 dc30 pm30 ct30:Value}
  {oo30:Obj}
  {t_MOST_KNOTS:Tok}
  {t_MOST_SIGNS_pairs:Tok}
  {t_MOST_SIGNS_woods:Tok}
  {t_PIECE_SIGNS:Tok}
  {t_ENOUGH_SIGNS:Tok}
  (cd_Piece:CD K ab "Piece")
  (fd_Piece:FD K ab ["signs","kept_sums","greatest","often_least"])
  (cd_PiecedRow:CD K aa "PiecedRow")
  (fd_PiecedRow:FD K aa ["kept_pieces","begins","knots_ahead","length","kept_table","often_least"])
  (cd_Shaped:CD K ac "Shaped")
  (fd_Shaped:FD K ac ["pairs","earlier"])
  (bc_Heights:BC K aA "Heights")
  (bc_Openings:BC K aB "Openings")
  (g0:GD K "is_whole" Mm)
  (g1:GD K "is_within" Ld)
  (g2:GD K "check_place" Ia)
  (g3:GD K "check_knot" J7)
  (g4:GD K "check_height" G4)
  (g5:GD K "check_from_nought" Ek)
  (g6:GD K "first_that" Ke)
  (g7:GD K "running_sums" Hl)
  (g8:GD K "heights_of" J1)
  (g9:GD K "sums_of" O2)
  (g10:BD K aA "__init__" "Heights.__init__" Hk)
  (g11:MD K aa "size" "Heights.size" G9)
  (g12:GD K "check_row" Ks)
  (g13:GD K "look_at" Oh)
  (g14:GD K "depths_of" K5)
  (g15:GD K "row_of" Rt)
  (g16:GD K "elders_of" Kx)
  (g17:BD K aB "__init__" "Openings.__init__" Gs)
  (g18:MD K ac "many_knots" "Openings.many_knots" Do)
  (g19:MD K ab "__init__" "Piece.__init__" Jq)
  (g20:GD K "pieces_of" Gp)
  (g21:MD K aa "__init__" "PiecedRow.__init__" By)
  (i22:PySem.W.isFn K (.ref f22)=true)
  (a22:PySem.W.findIn K (.ref aa) "stretch_at"=some (some (.ref f22))) (l22:K.lookup f22=some ⟨oc22,od22,.func (PySem.W.fnOf "stretch_at" "PiecedRow.stretch_at" (C1 Bh) (Ck Bh) (Ah Bh) .none kV22 dc22 pm22 an22 (.ref 768) ct22),sl22⟩) (c22:PySem.W.codeIn K (.ref 768) "PiecedRow.stretch_at"=true) (k22:PySem.W.keepIn K (.ref f22)=true)
  (lc22:K.lookup 768=some oo22) (hc22:J0 oo22 768 764)
  (i23:PySem.W.isFn K (.ref f23)=true)
  (a23:PySem.W.findIn K (.ref aa) "pieces_to"=some (some (.ref f23))) (l23:K.lookup f23=some ⟨oc23,od23,.func (PySem.W.fnOf "pieces_to" "PiecedRow.pieces_to" (C1 Bo) (Ck Bo) (Ah Bo) .none kV23 dc23 pm23 an23 (.ref 782) ct23),sl23⟩) (c23:PySem.W.codeIn K (.ref 782) "PiecedRow.pieces_to"=true) (k23:PySem.W.keepIn K (.ref f23)=true)
  (lc23:K.lookup 782=some oo23) (hc23:J0 oo23 782 778)
  (g24:MD K aa "stretch" "PiecedRow.stretch" C0)
  (g25:MD K aa "text" "Heights.text" G8)
  (g26:MD K aa "opens_ahead" "PiecedRow.opens_ahead" C7)
  (g27:MD K aa "height" "Heights.height" F2)
  (g28:MD K aa "is_opening" "PiecedRow.is_opening" Df)
  (g29:MD K aa "begin_of" "PiecedRow.begin_of" D0)
  (i30:PySem.W.isFn K (.ref f30)=true)
  (a30:PySem.W.findIn K (.ref aa) "opening"=some (some (.ref f30))) (l30:K.lookup f30=some ⟨oc30,od30,.func (PySem.W.fnOf "opening" "PiecedRow.opening" (C1 Bm) (Ck Bm) (Ah Bm) .none kV30 dc30 pm30 an30 (.ref 761) ct30),sl30⟩) (c30:PySem.W.codeIn K (.ref 761) "PiecedRow.opening"=true) (k30:PySem.W.keepIn K (.ref f30)=true)
  (lc30:K.lookup 761=some oo30) (hc30:J0 oo30 761 759)
  (g31:MD K aa "parts" "Heights.parts" Ex)
  (g32:MD K aa "may_meet" "Heights.may_meet" E5)
  (g33:MD K aa "heights_within" "Heights.heights_within" Cw)
  (g34:MD K aa "next_within" "Heights.next_within" Dq)
  (g35:MD K aa "next_at" "Heights.next_at" Fv)
  (g36:MD K aa "partner" "Heights.partner" Fu)
  (g37:MD K aa "last_within" "Heights.last_within" Dp)
  (g38:MD K aa "last_at" "Heights.last_at" Fp)
  (g39:MD K aa "is_stretch" "Heights.is_stretch" Dx)
  (g40:MD K aa "often_within" "Heights.often_within" Dd)
  (g41:MD K aa "nth_within" "Heights.nth_within" Cu)
  (g42:MD K aa "many_level" "Heights.many_level" Cs)
  (g43:MD K aa "nth_level" "Heights.nth_level" Ej)
  (g44:MD K ac "row" "Openings.row" Ha)
  (g45:MD K ac "elders" "Openings.elders" Fx)
  (g46:MD K ac "opening" "Openings.opening" E4)
  (g47:MD K ac "closing" "Openings.closing" Ez)
  (g48:MD K ac "many" "Openings.many" Gr)
  (g49:MD K ac "many_tops" "Openings.many_tops" Dy)
  (g50:MD K ac "knot_at" "Openings.knot_at" E1)
  (g51:MD K ac "depth" "Openings.depth" F6)
  (g52:MD K ac "up" "Openings.up" Id)
  (g53:MD K ac "elder" "Openings.elder" F7)
  (g54:MD K ac "beneath" "Openings.beneath" E2)
  (g55:MD K aa "replaced" "PiecedRow.replaced" Dz)
  (g56:MD K ac "__init__" "Shaped.__init__" Ig)
  (g57:MD K ac "pieces" "Shaped.pieces" Ey)
  (g58:MD K ac "sums" "Shaped.sums" Gg)
  (g59:MD K ac "replace_signs" "Shaped.replace_signs" Dg)
  (g60:MD K ac "cut" "Shaped.cut" Jy)
  (g61:MD K ac "graft" "Shaped.graft" Hh)
  (g62:GD K "_law_cell_at" Ih)
  (g63:GD K "_law_mixed" K0)
  (g64:GD K "_law_digits" Ka)
  (g65:GD K "_law_wood" Mn)
  (g66:GD K "_law_large" Hw)
  (g67:GD K "_law_row" Ob)
  (g68:GD K "_law_end" Og)
  (g69:GD K "_law_without" Gk)
  (g70:GD K "_law_spot" J5)
  (g71:GD K "_law_with" Hf)
  (g72:GD K "_law_sums" Mf)
  (g73:GD K "_law_depth" Kz)
  (g74:GD K "_law_place" Hy)
  (g75:GD K "_law_stay" Hd)
  (g76:GD K "_law_in_form" Ev)
  (g77:GD K "_law_knots" Lj)
  (g78:GD K "law" Mq)
  (g_MOST_KNOTS:PySem.W.nsIn K mainGlobals "MOST_KNOTS"=some (some (.int 4000 t_MOST_KNOTS)))
  (g_MOST_SIGNS_pairs:PySem.W.nsIn K mainGlobals "MOST_SIGNS_pairs"=some (some (.int 8192 t_MOST_SIGNS_pairs)))
  (g_MOST_SIGNS_woods:PySem.W.nsIn K mainGlobals "MOST_SIGNS_woods"=some (some (.int 8000 t_MOST_SIGNS_woods)))
  (g_PIECE_SIGNS:PySem.W.nsIn K mainGlobals "PIECE_SIGNS"=some (some (.int 128 t_PIECE_SIGNS)))
  (g_ENOUGH_SIGNS:PySem.W.nsIn K mainGlobals "ENOUGH_SIGNS"=some (some (.int 64 t_ENOUGH_SIGNS)))
  (z_range:PySem.W.nsIn K mainGlobals "range"=some none)
  (z_len:PySem.W.nsIn K mainGlobals "len"=some none)
  (z_int:PySem.W.nsIn K mainGlobals "int"=some none)
  (z_bool:PySem.W.nsIn K mainGlobals "bool"=some none)
  (z_str:PySem.W.nsIn K mainGlobals "str"=some none)
  (z_isinstance:PySem.W.nsIn K mainGlobals "isinstance"=some none)
  (z_list:PySem.W.nsIn K mainGlobals "list"=some none)
  (z_tuple:PySem.W.nsIn K mainGlobals "tuple"=some none)
  (z_zip:PySem.W.nsIn K mainGlobals "zip"=some none)
  (z_enumerate:PySem.W.nsIn K mainGlobals "enumerate"=some none)
  (z_abs:PySem.W.nsIn K mainGlobals "abs"=some none)
  (z_max:PySem.W.nsIn K mainGlobals "max"=some none)
  (z_min:PySem.W.nsIn K mainGlobals "min"=some none)
  (z_sum:PySem.W.nsIn K mainGlobals "sum"=some none)
  (z_reversed:PySem.W.nsIn K mainGlobals "reversed"=some none),
   ∃ fd:FuncData,(∀ (s:Shared) (v:Value),BindsTo s fd ⟨[v],[]⟩ [("_law_script",v)])/\∀ base:Heap,K.In base->base.Ns mainGlobals mg->(∀ q∈([(761,759),(768,764),(782,778)]:List (Addr×Addr)),base.BuiltinsAt mg q.2)->A9 l.prog w K mg base CX0 16 fa fd ["_law_script"] (dB K [⟨759,Ag,"PiecedRow.opening.<locals>.<lambda>"⟩,⟨764,Ac,"PiecedRow.stretch_at.<locals>.<lambda>"⟩,⟨778,Ad,"PiecedRow.pieces_to.<locals>.<lambda>"⟩])
theorem walk {l:PySem.W.OpenLaw}{q:Program}{loose:List Str}{XP:(Str->Option Value)->Heap->Prop}{YP:World->Heap->Prop}{d:DefRec}{K:Params->PySem.W.Frag}(hn:l.most=some 63)(hdf:d.params.defaults=[])
  (hY:∀ (w:World) (h:Heap),YP w h->(K w.params).In h)(hTb:∀ (w:World) (h:Heap),YP w h->PySem.W.TabsAt [(761,759),(768,764),(782,778)] h)(hTK:∀ w:World,∀ p∈([(761,759),(768,764),(782,778)]:List (Addr×Addr)),(K w.params).lookup p.2=none)
  (F:∀ (w:World) (mg:Str->Option Value) (fa:Addr) (h:Heap),(K w.params).In h->h.Ns mainGlobals mg->mg d.name=some (.ref fa) ->
   ∃ fd:FuncData,(∀ (s:Shared) (u:Value),BindsTo s fd ⟨[u],[]⟩ [("_law_script",u)])/\∀ base:Heap,(K w.params).In base->base.Ns mainGlobals mg->(∀ q∈([(761,759),(768,764),(782,778)]:List (Addr×Addr)),base.BuiltinsAt mg q.2)->A9 l.prog w (K w.params) mg base CX0 16 fa fd ["_law_script"] (dB (K w.params) [⟨759,Ag,"PiecedRow.opening.<locals>.<lambda>"⟩,⟨764,Ac,"PiecedRow.stretch_at.<locals>.<lambda>"⟩,⟨778,Ad,"PiecedRow.pieces_to.<locals>.<lambda>"⟩])) :
  PySem.W.WalkO q loose XP YP l.row.toRowW d [] (fun f vs=>PySem.call f vs) :=
 L2.fQ (n:=63) (k:=16) (x:="_law_script") (tabs:=[(761,759),(768,764),(782,778)]) (CX:=fun _=>CX0) (sp:=fun w=>(dB (K w.params) [⟨759,Ag,"PiecedRow.opening.<locals>.<lambda>"⟩,⟨764,Ac,"PiecedRow.stretch_at.<locals>.<lambda>"⟩,⟨778,Ad,"PiecedRow.pieces_to.<locals>.<lambda>"⟩])) hn (by decide) hdf ⟨rfl,by decide,by decide⟩ hY hTb hTK F (fun _ _ a ns hl hO hS=>⟨a,ns,rfl,hS,hl,⟨List.forall_mem_cons.mpr ⟨⟨#[],hO (761,759) (by simp),trivial,.inl rfl⟩,List.forall_mem_cons.mpr ⟨⟨#[],hO (768,764) (by simp),trivial,.inl rfl⟩,List.forall_mem_cons.mpr ⟨⟨#[],hO (782,778) (by simp),trivial,.inl rfl⟩,fun _ h=>nomatch h⟩⟩⟩,by decide⟩,fun _=>rfl⟩) fun _ _ _ _ _ z=>z
end TK
section
noncomputable def PySem.W.Fast.tw18359732287108015993:PySem.Program:=PySem.Challenge.pw_tightwood_k76_pieces_that_stay
theorem PySem.W.Fast.te18359732287108015993:PySem.Challenge.pw_tightwood_k76_pieces_that_stay=PySem.W.Fast.tw18359732287108015993:=rfl
def HD.loose:List PySem.Str:=[PySem.Str.ofString "_wall",PySem.Str.ofString "WoodError",PySem.Str.ofString "NoPlace",PySem.Str.ofString "NoRow",PySem.Str.ofString "NoWood",PySem.Str.ofString "NoKnot",PySem.Str.ofString "NoGraft",PySem.Str.ofString "TooLarge",PySem.Str.ofString "is_whole",PySem.Str.ofString "is_within",PySem.Str.ofString "check_place",PySem.Str.ofString "check_from_nought",PySem.Str.ofString "check_knot",PySem.Str.ofString "first_that",PySem.Str.ofString "running_sums",PySem.Str.ofString "heights_of",PySem.Str.ofString "check_height",PySem.Str.ofString "Heights",PySem.Str.ofString "MOST_SIGNS_pairs",PySem.Str.ofString "check_row",PySem.Str.ofString "MOST_KNOTS",PySem.Str.ofString "MOST_SIGNS_woods",PySem.Str.ofString "look_at",PySem.Str.ofString "row_of",PySem.Str.ofString "elders_of",PySem.Str.ofString "depths_of",PySem.Str.ofString "Wood",PySem.Str.ofString "Openings",PySem.Str.ofString "PIECE_SIGNS",PySem.Str.ofString "ENOUGH_SIGNS",PySem.Str.ofString "sums_of",PySem.Str.ofString "pieces_of",PySem.Str.ofString "Piece",PySem.Str.ofString "PiecedRow",PySem.Str.ofString "Shaped",PySem.Str.ofString "_law_cell_at",PySem.Str.ofString "_law_whole",PySem.Str.ofString "_law_mixed",PySem.Str.ofString "_law_digits",PySem.Str.ofString "_law_wood",PySem.Str.ofString "_law_large",PySem.Str.ofString "_law_row",PySem.Str.ofString "_law_end",PySem.Str.ofString "_law_part",PySem.Str.ofString "_law_without",PySem.Str.ofString "_law_spot",PySem.Str.ofString "_law_with",PySem.Str.ofString "_law_depth",PySem.Str.ofString "_law_place",PySem.Str.ofString "_law_stay",PySem.Str.ofString "_law_sums",PySem.Str.ofString "_law_knots",PySem.Str.ofString "_law_in_form"]
def HD.LD:PySem.DefRec:=HD.recOf (PySem.Challenge.pw_tightwood_k76_pieces_that_stay.main.body.getD 63 (.Pass ⟨0,0,0,0⟩))
def HD.VQ:PySem.Program:=PySem.W.view PySem.Challenge.pw_tightwood_k76_pieces_that_stay [63]
theorem HD.A_ok (w:PySem.World):(fun os=>HD.oneA (HD.bootT w os) (PySem.W.boot_heap w.params) HD.bootSize PySem.Challenge.pw_tightwood_k76_pieces_that_stay 100000 w)=(fun _=>some true):=by rw [HD.oneA_eq];kernel_rfl
theorem HD.B_ok (w:PySem.World):(fun os=>HD.oneB (HD.bootT w os) HD.bootSize PySem.Challenge.pw_tightwood_k76_pieces_that_stay HD.VQ HD.loose 100000 w)=(fun _=>some (PySem.W.openGood HD.VQ HD.loose)):=by rw [HD.oneB_eq];kernel_rfl
local macro_rules | `(tactic| o_head $H)=>`(tactic| (refine PySem.W.holds_open (q:=HD.VQ) (loose:=HD.loose) (d:=HD.LD) (kwd:=[]) (Xt:=fun _=>true) (XP:=fun _ _=>True) (Yf:=PySem.W.Hook.obs $H) (Ya:=PySem.W.Hook.val $H) (YP:=PySem.W.Hook.says $H) (N:=100000) (HD.left_of3 (p:=PySem.Challenge.pw_tightwood_k76_pieces_that_stay) (q:=HD.VQ) (loose:=HD.loose) (Yf:=PySem.W.Hook.obs $H) (Ya:=PySem.W.Hook.val $H) (N:=100000) (M:=100000) (by kernel_rfl) (fun _=>by kernel_rfl) (by kernel_rfl) (by kernel_rfl) HD.A_ok HD.B_ok (HD.hC_km (fun w=>by rw [HD.oneP_eq];kernel_rfl))) (PySem.W.Hook.of $H) (PySem.W.Hook.keeps $H) (fun _ _=>trivial) (fun _ _ _ _ _=>trivial) (by kernel_rfl) (by kernel_rfl) (by kernel_rfl) (fun _ _=>PySem.W.recFacts_nil rfl) rfl (by assumption) (by decide +kernel) ⟨rfl,rfl,rfl,rfl,rfl,by decide +kernel⟩ ?_ ?_))
open PySem PySem.W PyProof.Rows
set_option maxRecDepth 100000 in
set_option maxHeartbeats 0 in
theorem TK.HEAD (AM:TK.AllMk):PySem.Challenge.rw_tightwood_k76_pieces_that_stay.Holds:=by
 w_on;o_law;k_head
 ·w_witness2
 k_fill
 refine TK.walk (l:=PySem.Challenge.rw_tightwood_k76_pieces_that_stay) rfl (by kernel_rfl) (fun w h Y=>km_in_of Y) (fun w h Y=>List.forall_mem_cons.mpr ⟨⟨PySem.W.codeHd_of_K (c:=761) (P:=759) (km_in_of Y) (by kernel_rfl),PySem.W.km_tabs_of Y 759 (by simp)⟩,List.forall_mem_cons.mpr ⟨⟨PySem.W.codeHd_of_K (c:=768) (P:=764) (km_in_of Y) (by kernel_rfl),PySem.W.km_tabs_of Y 764 (by simp)⟩,List.forall_mem_cons.mpr ⟨⟨PySem.W.codeHd_of_K (c:=782) (P:=778) (km_in_of Y) (by kernel_rfl),PySem.W.km_tabs_of Y 778 (by simp)⟩,fun _ h=>nomatch h⟩⟩⟩) (fun w=>List.forall_mem_cons.mpr ⟨by kernel_rfl,List.forall_mem_cons.mpr ⟨by kernel_rfl,List.forall_mem_cons.mpr ⟨by kernel_rfl,fun _ h=>nomatch h⟩⟩⟩) ?F
 case F =>
  intro w mg fa h KX G hmg
  refine' AM KX G hmg ?cd_Piece ?fd_Piece ?cd_PiecedRow ?fd_PiecedRow ?cd_Shaped ?fd_Shaped ?bc_Heights ?bc_Openings ?g0 ?g1 ?g2 ?g3 ?g4 ?g5 ?g6 ?g7 ?g8 ?g9 ?g10 ?g11 ?g12 ?g13 ?g14 ?g15 ?g16 ?g17 ?g18 ?g19 ?g20 ?g21 ?i22 ?a22 ?l22 ?c22 ?k22 ?lc22 ?hc22 ?i23 ?a23 ?l23 ?c23 ?k23 ?lc23 ?hc23 ?g24 ?g25 ?g26 ?g27 ?g28 ?g29 ?i30 ?a30 ?l30 ?c30 ?k30 ?lc30 ?hc30 ?g31 ?g32 ?g33 ?g34 ?g35 ?g36 ?g37 ?g38 ?g39 ?g40 ?g41 ?g42 ?g43 ?g44 ?g45 ?g46 ?g47 ?g48 ?g49 ?g50 ?g51 ?g52 ?g53 ?g54 ?g55 ?g56 ?g57 ?g58 ?g59 ?g60 ?g61 ?g62 ?g63 ?g64 ?g65 ?g66 ?g67 ?g68 ?g69 ?g70 ?g71 ?g72 ?g73 ?g74 ?g75 ?g76 ?g77 ?g78 ?g_MOST_KNOTS ?g_MOST_SIGNS_pairs ?g_MOST_SIGNS_woods ?g_PIECE_SIGNS ?g_ENOUGH_SIGNS ?z_range ?z_len ?z_int ?z_bool ?z_str ?z_isinstance ?z_list ?z_tuple ?z_zip ?z_enumerate ?z_abs ?z_max ?z_min ?z_sum ?z_reversed
  (case cd_Piece|cd_PiecedRow|cd_Shaped|bc_Heights|bc_Openings=>refine' ⟨?_,?_,?_⟩<;>try k_is)
  (case fd_Piece|fd_PiecedRow|fd_Shaped=>refine' L2.fD ?_ ?_ ?_ ?_ ?_<;>try first | k_is | kernel_rfl)
  (case g0|g1|g2|g3|g4|g5|g6|g7|g8|g9|g12|g13|g14|g15|g16|g20|g62|g63|g64|g65|g66|g67|g68|g69|g70|g71|g72|g73|g74|g75|g76|g77|g78=>refine' L2.gD ?_ ?_ ?_ ?_<;>try k_is)
  (case g11|g18|g19|g21|g24|g25|g26|g27|g28|g29|g31|g32|g33|g34|g35|g36|g37|g38|g39|g40|g41|g42|g43|g44|g45|g46|g47|g48|g49|g50|g51|g52|g53|g54|g55|g56|g57|g58|g59|g60|g61=>refine' L2.mD ?_ ?_ ?_ ?_ ?_<;>try k_is)
  (case g10|g17=>refine' L2.bD ?_ ?_ ?_ ?_<;>try k_is)
  (case a22|l22|c22|k22|i22|lc22=>k_is)
  (case hc22=>exact ⟨_,_,_,_,_,_,_,_,rfl,rfl,rfl,rfl,rfl,rfl,rfl,rfl,by decide⟩)
  (case a23|l23|c23|k23|i23|lc23=>k_is)
  (case hc23=>exact ⟨_,_,_,_,_,_,_,_,rfl,rfl,rfl,rfl,rfl,rfl,rfl,rfl,by decide⟩)
  (case a30|l30|c30|k30|i30|lc30=>k_is)
  (case hc30=>exact ⟨_,_,_,_,_,_,_,_,rfl,rfl,rfl,rfl,rfl,rfl,rfl,rfl,by decide⟩)
  (case g_MOST_KNOTS|g_MOST_SIGNS_pairs|g_MOST_SIGNS_woods|g_PIECE_SIGNS|g_ENOUGH_SIGNS|z_range|z_len|z_int|z_bool|z_str|z_isinstance|z_list|z_tuple|z_zip|z_enumerate|z_abs|z_max|z_min|z_sum|z_reversed=>k_is)
end
namespace TK
open PySem L2 TW
local macro_rules | `(tactic| k_is)=>`(tactic| walk_at "rd")
structure Qc (K:PySem.W.Frag) (C:Addr):Prop where
 cl:Cls K C
 n_signs:Ch K C "signs"
 n_kept_sums:Ch K C "kept_sums"
 n_greatest:Ch K C "greatest"
 n_often_least:Ch K C "often_least"
structure Qa (K:PySem.W.Frag) (C:Addr):Prop where
 cl:Cls K C
 n_kept_pieces:Ch K C "kept_pieces"
 n_begins:Ch K C "begins"
 n_knots_ahead:Ch K C "knots_ahead"
 n_length:Ch K C "length"
 n_kept_table:Ch K C "kept_table"
 n_often_least:Ch K C "often_least"
structure Qb (K:PySem.W.Frag) (C:Addr):Prop where
 cl:Cls K C
 n_pairs:Ch K C "pairs"
 n_earlier:Ch K C "earlier"
structure Txt (K:PySem.W.Frag) (mg:Str->Option Value):Prop where
 g_MOST_KNOTS:∃ t,mg "MOST_KNOTS"=some (.int 4000 t)
 g_MOST_SIGNS_pairs:∃ t,mg "MOST_SIGNS_pairs"=some (.int 8192 t)
 g_MOST_SIGNS_woods:∃ t,mg "MOST_SIGNS_woods"=some (.int 8000 t)
 g_PIECE_SIGNS:∃ t,mg "PIECE_SIGNS"=some (.int 128 t)
 g_ENOUGH_SIGNS:∃ t,mg "ENOUGH_SIGNS"=some (.int 64 t)
 n_range:mg "range"=none
 n_len:mg "len"=none
 n_int:mg "int"=none
 n_bool:mg "bool"=none
 n_str:mg "str"=none
 n_isinstance:mg "isinstance"=none
 n_list:mg "list"=none
 n_tuple:mg "tuple"=none
 n_zip:mg "zip"=none
 n_enumerate:mg "enumerate"=none
 n_abs:mg "abs"=none
 n_max:mg "max"=none
 n_min:mg "min"=none
 n_sum:mg "sum"=none
 n_reversed:mg "reversed"=none
section
variable {P:Program} {w:World} {K:PySem.W.Frag} {mg:Str->Option Value} {base:Heap} {ab aa ac:Addr}
def Iw:Sp:=fun vs H Q _=>∃ i:Int,vs=[.int i]/\Q (.bl true) H
theorem Yx {f:Addr}{fd:FuncData}(F:Fun K "is_whole" "is_whole" Mm f fd)(T:Txt K mg):A9 P w K mg base CX0 1 f fd ["thing"] Iw:=by
 refine F.ok Xs (fun vs H Q E h=>?_) (fun cdv A outer s H vs Q E hr h=>?_)
 ·obtain ⟨i,rfl,_⟩:=h
  rfl
 ·obtain ⟨i,rfl,q⟩:=h
  refine ⟨_,(Ai (At (Z5 (As Hv (by rfl) T.n_isinstance Gz (Af (pv 0) (Af (Po (v:=.ty "int") rfl T.n_int Ms rfl) Aa rfl) rfl)) (Y9 (qI (As Hv (by rfl) T.n_isinstance Gz (Af (pv 0) (Af (Po (v:=.ty "bool") rfl T.n_bool qF rfl) Aa rfl) rfl))))))),?_⟩
  k_is
  refine ⟨_,_,_,_,rfl,.int _,Xi,?_⟩
  k_is
  refine ⟨_,_,_,_,rfl,.int _,U8,?_⟩
  k_is
  exact q
def Il:Sp:=fun vs H Q _=>∃ x lo hi:Int,vs=[.int x,.int lo,.int hi]/\lo<=x/\x<=hi/\Q (.bl true) H
theorem Wv {f:Addr}{fd:FuncData}(F:Fun K "is_within" "is_within" Ld f fd)(T:Txt K mg)(ai:Cal P w K mg base "is_whole" 1 ["thing"] Iw):A9 P w K mg base CX0 2 f fd ["thing","low","high"] Il:=by
 refine F.ok U5 (fun vs H Q E h=>?_) (fun cdv A outer s H vs Q E hr h=>?_)
 ·obtain ⟨x,lo,hi,rfl,_⟩:=h
  rfl
 ·obtain ⟨x,lo,hi,rfl,h1,h2,q⟩:=h
  refine ⟨_,(Ai (At (Z5 (Bb ai (hr.mono (by decide:1<=_)) (Af (pv 0) Aa rfl)) (Y9 (Xw Ko Ko (pv 1) (pv 0) (pv 2)))))),?_⟩
  k_is
  refine ⟨x,rfl,?_⟩
  k_is
  refine Bz (fun _=>?_) (fun h=>absurd h1 h)
  k_is
  rw [decide_eq_true h2]
  exact q
def M1:Sp:=fun vs H Q _=>∃ n g:Int,vs=[.int n,.int g]/\0<=n/\n<=g/\Q .non H
theorem Rb {f:Addr}{fd:FuncData}(F:Fun K "check_place" "check_place" Ia f fd)(T:Txt K mg)(ap:Cal P w K mg base "is_within" 2 ["thing","low","high"] Il):A9 P w K mg base CX0 3 f fd ["place","greatest"] M1:=by
 refine F.ok Sw (fun vs H Q E h=>?_) (fun cdv A outer s H vs Q E hr h=>?_)
 ·obtain ⟨n,g,rfl,_⟩:=h
  rfl
 ·obtain ⟨n,g,rfl,h0,h1,q⟩:=h
  refine ⟨_,(Ai (B3 (Gu (Dr (Bb ap (hr.mono (by decide:2<=_)) (Af (pv 0) (Af Aj (Af (pv 1) Aa rfl) rfl) rfl)))) (Ai Cv)
   Ba)),?_⟩
  k_is
  refine ⟨n,0,g,rfl,h0,h1,?_⟩
  k_is
  exact q
def Vj:Sp:=fun vs H Q _=>∃ n g:Int,vs=[.int n,.int g]/\0<=n/\n<g/\Q .non H
theorem Td {f:Addr}{fd:FuncData}(F:Fun K "check_knot" "check_knot" J7 f fd)(T:Txt K mg)(ap:Cal P w K mg base "is_within" 2 ["thing","low","high"] Il):A9 P w K mg base CX0 3 f fd ["k","many_knots"] Vj:=by
 refine F.ok Th (fun vs H Q E h=>?_) (fun cdv A outer s H vs Q E hr h=>?_)
 ·obtain ⟨n,g,rfl,_⟩:=h
  rfl
 ·obtain ⟨n,g,rfl,h0,h1,q⟩:=h
  refine ⟨_,(Ai (B3 (Gu (Dr (Bb ap (hr.mono (by decide:2<=_)) (Af (pv 0) (Af Aj (Af (Am Be (pv 1) Aj) Aa rfl) rfl) rfl)))) (Ai Cv)
   Ba)),?_⟩
  k_is
  refine ⟨n,0,g-1,rfl,h0,by omega,?_⟩
  k_is
  exact q
def W8:Sp:=fun vs H Q _=>∃ i:Int,vs=[.int i]/\Q .non H
theorem Pl {f:Addr}{fd:FuncData}(F:Fun K "check_height" "check_height" G4 f fd)(T:Txt K mg)(ai:Cal P w K mg base "is_whole" 1 ["thing"] Iw):A9 P w K mg base CX0 3 f fd ["height"] W8:=by
 refine F.ok Pf (fun vs H Q E h=>?_) (fun cdv A outer s H vs Q E hr h=>?_)
 ·obtain ⟨i,rfl,_⟩:=h
  rfl
 ·obtain ⟨i,rfl,q⟩:=h
  refine ⟨_,(Ai (B3 (Gu (Dr (Bb ai (hr.mono (by decide:1<=_)) (Af (pv 0) Aa rfl)))) (Ai Cv)
   Ba)),?_⟩
  k_is
  refine ⟨i,rfl,?_⟩
  k_is
  exact q
def Wp:Sp:=fun vs H Q _=>∃ n:Int,vs=[.int n]/\0<=n/\Q .non H
theorem K6 {f:Addr}{fd:FuncData}(F:Fun K "check_from_nought" "check_from_nought" Ek f fd)(T:Txt K mg)(ai:Cal P w K mg base "is_whole" 1 ["thing"] Iw):A9 P w K mg base CX0 3 f fd ["number"] Wp:=by
 refine F.ok Lb (fun vs H Q E h=>?_) (fun cdv A outer s H vs Q E hr h=>?_)
 ·obtain ⟨n,rfl,_⟩:=h
  rfl
 ·obtain ⟨n,rfl,h0,q⟩:=h
  refine ⟨_,(Ai (B3 (PW.pt (Mc (Gu (Dr (Bb ai (hr.mono (by decide:1<=_)) (Af (pv 0) Aa rfl)))) (K8 (Av Fy (pv 0) Aj (Ax _))))) (Ai Cv)
   Ba)),?_⟩
  k_is
  refine ⟨n,rfl,?_⟩
  k_is
  refine Bz (fun h=>absurd h (by omega)) (fun _=>?_)
  k_is
  exact q
theorem S5 {f:Addr}{fd:FuncData}(F:Fun K "first_that" "first_that" Ke f fd)(T:Txt K mg):A9 P w K mg base CX0 3 f fd ["low","high","holds"] (Jx P w K mg base 2):=by
 refine F.ok Gm (fun vs H Q E h=>?_) (fun cdv A outer s H vs Q E hr h=>?_)
 ·obtain ⟨lo,hi,g,p,rfl,_⟩:=h
  rfl
 ·obtain ⟨lo,hi,g,p,rfl,hle,hA,q⟩:=h
  refine ⟨_,(Ab (Kw PassesOwn.never (Av Fy (pv 0) (pv 1) (Ax _))
   (Ab (Aq (i:=3) Gm.nd rfl (Or.inl rfl) (Am Dv (Am A7 (pv 0) (pv 1)) Aj))
   (Ai (B3 (Dr (qC (k:=2) (hr.mono (by decide:2<=_)) (i:=2) rfl rfl (pv 3))) (Ai (Aq (i:=1) Gm.nd rfl (Or.inl rfl) (pv 3)))
   (Ai (Aq (i:=0) Gm.nd rfl (Or.inl rfl) (Am A7 (pv 3) Aj)))))))
   (Ai (At (pv 0)))),?_⟩
  k_is
  refine Ky (fun σ H'=>An H H'/\∃ (x y:Int) (v:Option V),σ=[some (.int x),some (.int y),some (.ref g),v]/\lo<=x/\x<=y/\y<=hi/\(lo<x->p (x-1)=false)/\(y<hi->p y=true)) (fun σ _=>match σ with | [some (.int x),some (.int y),_,_]=>(y-x).toNat | _=>0) ⟨An.refl _,lo,hi,none,rfl,Int.le_refl _,hle,Int.le_refl _,fun z=>absurd z (Int.lt_irrefl _),fun z=>absurd z (Int.lt_irrefl _)⟩ ?_
  rintro μ σ H' ⟨sm,x,y,v,rfl,h1,h2,h3,h4,h5⟩ hμ
  k_is
  refine Bz (fun hw=>?_) (fun hw=>?_)
  ·refine Su ?_
   k_is
   refine ⟨g,_,p,rfl,hA.same sm,?_⟩
   k_is
   refine ⟨_,rfl,An.refl _,by constructor<;>omega,fun H2 s2=>?_⟩
   k_is
   have hμ':y-x=(μ:Int):=by
    have:(y-x).toNat=μ:=hμ
    omega
   cases hp:p ((x+y)/2) with
   | true =>
    k_is
    refine ⟨⟨sm.trans s2,x,(x+y)/2,_,rfl,h1,by omega,by omega,h4,fun _=>hp⟩,?_⟩
    show ((x+y)/2-x).toNat<μ
    omega
   | false =>
    k_is
    refine ⟨⟨sm.trans s2,(x+y)/2+1,y,_,rfl,by omega,by omega,h3,fun _=>by rw [show (x+y)/2+1-1=(x+y)/2 by omega];exact hp,h5⟩,?_⟩
    show (y-((x+y)/2+1)).toNat<μ
    omega
  ·k_is
   obtain rfl:x=y:=by omega
   exact q x H' h1 h3 h4 h5 sm
def kX:Sp:=fun vs H Q _=>∃ (a:Addr) (xs:List Nat),vs=[.ref a]/\H a=some (.lst (nV xs))/\xs.length<=1000/\∀ p H',An H H'->H p=none->H' p=some (.lst (nV ((List.range (xs.length+1)).map fun i=>(xs.take i).sum)))->Q (.ref p) H'
theorem Pk {f:Addr}{fd:FuncData}(F:Fun K "running_sums" "running_sums" Hl f fd)(T:Txt K mg):A9 P w K mg base CX0 1 f fd ["numbers"] kX:=by
 refine F.ok Gv (fun vs H Q E h=>?_) (fun cdv A outer s H vs Q E hr h=>?_)
 ·obtain ⟨a,xs,rfl,_⟩:=h
  rfl
 ·obtain ⟨a,xs,rfl,ha,hn,q⟩:=h
  refine ⟨_,(Ab (Aq (i:=1) Gv.nd rfl (Or.inl rfl) (Br (Af Aj Aa rfl)))
   (Ab (Dn PassesOwn.never rfl (B4 (pv 0)) (Bt (i:=2) Gv.nd rfl (Or.inl rfl))
   (Ai (Bl (Ds PySem.F.plainAttrs_list PySem.F.slot_list_append PySem.F.type_list_append B7 (pv 1) (Af (Am A7 (Bd A8 (pv 1) (E8 C5 Aj) (fun _ _=>rfl)) (pv 2)) Aa rfl)))))
   (Ai (At (pv 1))))),?_⟩
  k_is
  refine ⟨few (by simp),fun p hp=>?_⟩
  have t0:=Al (o:=.lst [V.int 0]) hp
  k_is
  refine ⟨a,rfl,⟨_,SqL.of (t0 _ _ ha)⟩,?_⟩
  refine Ix (xs:=nV xs) (fun i σ H1=>(∃ v:Option V,σ=[some (.ref a),some (.ref p),v])/\H1 p=some (.lst (nV ((List.range (i+1)).map fun i=>(xs.take i).sum)))/\An H H1) ⟨⟨_,rfl⟩,Ae,t0⟩ (fun i σ H1 _ h=>SqL.of (h.2.2 _ _ ha)) ?_ ?_
  ·rintro i x σ H1 hx ⟨⟨v,rfl⟩,hp1,s1⟩
   have hi:=Bw hx
   rw [show (nV xs).length=xs.length by unfold nV;rw [List.length_map]] at hi
   obtain rfl:x=.int (xs[i]:Nat):=by
    unfold nV at hx
    rw [List.getElem?_map,List.getElem?_eq_getElem hi] at hx
    exact (Option.some.inj hx).symm
   k_is
   refine ⟨.inl ⟨rfl,_,SqL.of hp1⟩,?_⟩
   k_is
   refine Bg (SqL.of hp1) (v:=.int ((xs.take i).sum:Nat)) ?_ ?_
   ·rw [R6]
    exact K7 _ _
   k_is
   refine B9 hp1 ?_ ?_
   ·unfold nV
    rw [List.length_map,List.length_map,List.length_range]
    exact Ak (by omega)
   k_is
   refine ⟨⟨_,rfl⟩,?_,fun b u e=>?_⟩
   ·rw [Ae,R6 _ (i+1),List.take_add_one,List.getElem?_eq_getElem hi,List.sum_append]
    show some (HO.lst (_++[V.int (((xs.take i).sum:Nat)+(xs[i]:Nat):Int)]))=some (HO.lst (_++[V.int (((xs.take i).sum+[xs[i]].sum:Nat):Int)]))
    rw [List.sum_singleton,Int.natCast_add]
   ·rw [Aw (Ap e hp)]
    exact s1 _ _ e
  ·rintro σ H1 ⟨⟨v,rfl⟩,hp1,s1⟩
   rw [show (nV xs).length=xs.length by unfold nV;rw [List.length_map]] at hp1
   k_is
   exact q p H1 s1 hp hp1
def hgt (l:List Bool)(i:Nat):Int:=2*((l.take i).count true:Int)-i
def hts (l:List Bool)(i:Nat):List Int:=(List.range i).map fun j=>hgt l (j+1)
theorem Sq (l:List Bool)(i:Nat):hts l (i+1)=hts l i++[hgt l (i+1)]:=by
 unfold hts
 rw [List.range_succ,List.map_append]
 rfl
theorem K1 {l:List Bool}{i:Nat}{b:Bool}(h:l[i]?=some b):hgt l (i+1)=hgt l i+if b then 1 else -1:=by
 unfold hgt
 rw [List.take_add_one,h,List.count_append]
 cases b<;>simp<;>omega
def htB (l:List Bool)(b:Int)(i:Nat):List Int:=(hts l i).map (b + ·)
def Hg:Sp:=fun vs H Q _=>∃ (l:List Bool) (bg:Int),vs=[.str (Az l),.int bg]/\l.length<=1000/\∀ p H',An H H'->H p=none->H' p=some (.lst ((htB l bg l.length).map V.int))->Q (.ref p) H'
theorem Tj {f:Addr}{fd:FuncData}(F:Fun K "heights_of" "heights_of" J1 f fd)(T:Txt K mg):A9 P w K mg base CX0 1 f fd ["text","begin"] Hg:=by
 refine F.ok Em (fun vs H Q E h=>?_) (fun cdv A outer s H vs Q E hr h=>?_)
 ·obtain ⟨l,bg,rfl,_⟩:=h
  rfl
 ·obtain ⟨l,bg,rfl,hl,q⟩:=h
  refine ⟨_,(Ab (Aq (i:=2) Em.nd rfl (Or.inl rfl) (pv 1))
   (Ab (Aq (i:=3) Em.nd rfl (Or.inl rfl) (Br Aa))
   (Ab (Dn PassesOwn.never rfl (Zi (pv 0)) (Bt (i:=4) Em.nd rfl (Or.inl rfl))
   (Ab (Z0 (i:=2) Em.nd rfl (Or.inl rfl) (C4 (Av Ew (pv 4) Cz (Ax _)) Aj (E8 C5 Aj)) iT)
   (Ai (Bl (Ds PySem.F.plainAttrs_list PySem.F.slot_list_append PySem.F.type_list_append B7 (pv 3) (Af (pv 2) Aa rfl))))))
   (Ai (At (pv 3)))))),?_⟩
  k_is
  refine ⟨Nat.zero_le _,fun p hp=>?_⟩
  k_is
  refine ⟨_,rfl,?_⟩
  refine W0 (fun i σ H1=>∃ v:Option V,σ=[some (.str (Az l)),some (.int bg),some (.int (bg+hgt l i)),some (.ref p),v]/\H1 p=some (.lst ((htB l bg i).map V.int))/\An H H1) ⟨_,by rw [show bg+hgt l 0=bg by unfold hgt;simp];rfl,Ae,Al hp⟩ ?_ ?_
  ·rintro i c σ H1 hc ⟨v,rfl,hp1,sm⟩
   obtain ⟨b,hb,rfl⟩:=Nb hc
   have hi:=Bw hb
   have hh:=K1 hb
   have hz1:((htB l bg i).map V.int).length<sizeLine:=by
    rw [List.length_map]
    unfold htB hts
    rw [List.length_map,List.length_map,List.length_range]
    exact Lw (by omega)
   have fin:∀ d:Int,hgt l (i+1)=hgt l i+d->∃ v:Option V,[some (V.str (Az l)),some (V.int bg),some (V.int (bg+hgt l i+d)),some (V.ref p),some (V.str (sgn (if b then 49 else 48)))]=[some (V.str (Az l)),some (V.int bg),some (V.int (bg+hgt l (i+1))),some (V.ref p),v] /\
     (upd H1 p (.lst ((htB l bg i).map V.int++[V.int (bg+hgt l i+d)]))) p=some (.lst ((htB l bg (i+1)).map V.int))/\An H (upd H1 p (.lst ((htB l bg i).map V.int++[V.int (bg+hgt l i+d)]))):=fun d hd=>by
    refine ⟨_,by rw [hd,Int.add_assoc],?_,fun b' u e=>?_⟩
    ·unfold htB
     rw [Ae,Sq,hd,List.map_append,List.map_append,Int.add_assoc]
     rfl
    ·rw [Aw (Ap e hp)]
     exact sm _ _ e
   k_is
   refine Bz (fun h1=>?_) (fun h1=>?_)
   ·have hd:hgt l (i+1)=hgt l i+1:=by cases b with | true=>exact hh | false=>exact absurd h1 (by decide)
    k_is
    refine ⟨.inl ⟨rfl,_,SqL.of hp1⟩,?_⟩
    k_is
    exact B9 hp1 hz1 (fin 1 hd)
   ·have hd:hgt l (i+1)=hgt l i + -1:=by cases b with | false=>exact hh | true=>exact absurd rfl h1
    k_is
    refine ⟨.inl ⟨rfl,_,SqL.of hp1⟩,?_⟩
    k_is
    exact B9 hp1 hz1 (fin (-1) hd)
  ·rintro σ H1 ⟨v,rfl,hp1,sm⟩
   rw [show (Az l).cps.size=l.length from Ay l] at *
   k_is
   exact q p H1 sm hp hp1
theorem Y1 (l:List Bool)(i:Nat):htB l 0 i=hts l i:=by
 unfold htB
 refine (List.map_congr_left fun x _=>?_).trans (List.map_id _)
 exact Int.zero_add x
def El (l:List Bool)(m:Int):Prop:=(l=[]/\m=0)\/Gh (hts l l.length) m
theorem El.uniq {l:List Bool}{a b:Int}(h:El l a)(k:El l b):a=b:=by
 rcases h with ⟨e,rfl⟩ | h
 ·rcases k with ⟨_,rfl⟩ | k
  ·rfl
  ·subst e
   exact absurd k.1 (by simp [hts])
 ·rcases k with ⟨e,rfl⟩ | k
  ·subst e
   exact absurd h.1 (by simp [hts])
  ·exact h.uniq k
def O8 (l:List Bool)(m:Int):List V:=[.int (l.count true:Nat),.int (hgt l l.length),.int m]
def Y6 (K:PySem.W.Frag):Sp:=fun vs H Q _=>∃ l:List Bool,vs=[.str (Az l)]/\l.length<=1000/\∀ m t H',El l m->An H H'->H t=none->H' t=some (.tup (O8 l m))->Q (.ref t) H'
theorem bW {f:Addr}{fd:FuncData}(F:Fun K "sums_of" "sums_of" O2 f fd)(T:Txt K mg)(aq:Cal P w K mg base "heights_of" 1 ["text","begin"] Hg):A9 P w K mg base CX0 2 f fd ["text"] (Y6 K):=by
 refine F.ok Sc (fun vs H Q E h=>?_) (fun cdv A outer s H vs Q E hr h=>?_)
 ·obtain ⟨l,rfl,_⟩:=h
  rfl
 ·obtain ⟨l,rfl,hl,q⟩:=h
  refine ⟨_,(Ab (Aq (i:=1) Sc.nd rfl (Or.inl rfl) (Bb aq (hr.mono (by decide:1<=_)) (Af (pv 0) (Af Aj Aa rfl) rfl)))
   (Ai (At (Zh (Af (Ds PySem.F.plainAttrs_str PySem.F.slot_str_count PySem.F.type_str_count Ry (pv 0) (Af Cz Aa rfl)) (Af (C4 (Av Mb (As Ar (by rfl) T.n_len Bs (Af (pv 1) Aa rfl)) Aj (Ax _)) (Bd A8 (pv 1) (E8 C5 Aj) (fun _ _=>rfl)) Aj) (Af (gB (gC rfl) (by rfl) T.n_min eI (Af (pv 1) Aa rfl) (Wu Aj cW)) Aa rfl) rfl) rfl))))),?_⟩
  k_is
  refine ⟨l,0,rfl,hl,fun p H1 sm hp hp1=>?_⟩
  rw [Y1] at hp1
  k_is
  refine ⟨rfl,?_⟩
  k_is
  refine ⟨Az l,49,rfl,rfl,?_⟩
  k_is
  rw [(Ot l).1]
  have hlen:((hts l l.length).map V.int).length=l.length:=by rw [List.length_map];unfold hts;rw [List.length_map,List.length_range]
  refine ⟨p,_,rfl,.inl (SqL.of hp1),?_⟩
  rw [hlen]
  k_is
  have fin:∀ m,El l m->∀ t,H1 t=none->Q (.ref t) (upd H1 t (.tup (O8 l m))):=fun m hm t ht=>q m t _ hm (sm.trans (Al ht)) (sm.free ht) Ae
  have fin2:∃ (a:Addr) (ns:List Int) (d:V),([V.ref p]:List V)=[.ref a]/\([V.int 0]:List V)=[d]/\SqL K H1 a (ns.map V.int)/\(ns=[]->[V.int (l.count true:Nat),V.int (hgt l l.length),d].length<=sizeLine/\∀ t,H1 t=none->Q (.ref t) (upd H1 t (.tup [V.int (l.count true:Nat),V.int (hgt l l.length),d]))) /\
    (∀ m,Gh ns m->[V.int (l.count true:Nat),V.int (hgt l l.length),V.int m].length<=sizeLine/\∀ t,H1 t=none->Q (.ref t) (upd H1 t (.tup [V.int (l.count true:Nat),V.int (hgt l l.length),V.int m]))):=by
   refine ⟨p,hts l l.length,.int 0,rfl,rfl,SqL.of hp1,fun e=>?_,fun m hm=>?_⟩
   ·refine ⟨few (by simp),fun t ht=>fin 0 (.inl ⟨?_,rfl⟩) t ht⟩
    cases l with
    | nil=>rfl
    | cons b r=>exact absurd e (by simp [hts,List.range_succ])
   ·exact ⟨few (by simp),fun t ht=>fin m (.inr hm) t ht⟩
  refine Bz (fun h1=>?_) (fun h1=>?_)
  ·k_is
   refine Bg (SqL.of hp1) (v:=.int (hgt l l.length)) ?_ ?_
   ·obtain ⟨n,hn⟩:∃ n,l.length=n+1:=⟨l.length-1,by omega⟩
    rw [hn,Sq,List.map_append]
    exact K7 _ _
   k_is
   exact fin2
  ·have e0:l=[]:=List.length_eq_zero_iff.mp (by omega)
   have e1:hgt l l.length=0:=by rw [e0];rfl
   rw [e1] at fin2
   k_is
   exact fin2
theorem dC {row:List Bool}{i:Nat}{b:Bool}(h:row[i]?=some b):row.drop i=b::row.drop (i+1):=by
 have hi:=Bw h
 rw [List.drop_eq_getElem_cons hi]
 rw [List.getElem?_eq_getElem hi] at h
 rw [Option.some.inj h]
theorem Yl {row:List Bool}(hv:Vs 0 row):∀ i,i<=row.length->∃ h:Nat,hgt row i=(h:Int)/\Vs h (row.drop i)/\True
 | 0,_=>⟨0,rfl,hv,trivial⟩
 | i+1,hi=>by
  obtain ⟨h,h1,h2,_⟩:=Yl hv i (by omega)
  obtain ⟨b,hb⟩:∃ b,row[i]?=some b:=⟨row[i],List.getElem?_eq_getElem (by omega)⟩
  have hs:=K1 hb
  rw [dC hb] at h2
  cases b with
  | false =>
   obtain ⟨g,rfl⟩:∃ g,h=g+1:=⟨h-1,by have:=h2.1;omega⟩
   have hs:hgt row (i+1)=hgt row i + -1:=hs
   exact ⟨g,by omega,h2.2,trivial⟩
  | true =>
   have hs:hgt row (i+1)=hgt row i+1:=hs
   exact ⟨h+1,by omega,h2,trivial⟩
theorem Lp {H1 H2:Hp}{x dx C:Addr}(hx:H1 x=none)(hd:H1 dx=none)(s:SameBut x (upd (upd H1 dx (.own x)) x (.ins C dx [])) H2):An H1 H2:=fun b u e=>s b u (Ap e hx) (by rw [Aw (Ap e hx),Aw (Ap e hd)];exact e)
theorem Rs {H1:Hp}{x dx:Addr}{o o':HO}(hx:H1 x=none)(hd:H1 dx=none):An H1 (upd (upd H1 dx o) x o'):=fun b u e=>by rw [Aw (Ap e hx),Aw (Ap e hd)];exact e
def pFs (s t g o:V):List (Str×V):=[("signs",s),("kept_sums",t),("greatest",g),("often_least",o)]
def uO (x:List Bool)(m g:Int)(o:V):Prop:=El x m/\Uy (hts x x.length) g/\o=.int ((hts x x.length).count m:Nat)
def Hu (C:Addr)(H:Hp)(a:Addr)(x:List Bool):Prop:=∃ (dx t:Addr) (m g:Int) (o:V),H a=some (.ins C dx (pFs (.str (Az x)) (.ref t) (.int g) o))/\H t=some (.tup (O8 x m))/\uO x m g o
theorem Hu.kp {C a:Addr}{H H':Hp}{x:List Bool}(h:Hu C H a x)(s:Kp H H'):Hu C H' a x:=by
 obtain ⟨dx,t,m,g,o,h1,h2,h3⟩:=h
 exact ⟨dx,t,m,g,o,s.k h1,s.k h2,h3⟩
def Pcs (C:Addr)(H:Hp)(as:List Addr)(ls:List (List Bool)):Prop:=as.length=ls.length/\∀ (k:Nat) (a:Addr) (x:List Bool),as[k]?=some a->ls[k]?=some x->Hu C H a x
theorem Pcs.kp {C:Addr}{H H':Hp}{as:List Addr}{ls:List (List Bool)}(h:Pcs C H as ls)(s:Kp H H'):Pcs C H' as ls:=⟨h.1,fun k a x e1 e2=>(h.2 k a x e1 e2).kp s⟩
theorem Pcs.get {C:Addr}{H:Hp}{as:List Addr}{ls:List (List Bool)}(h:Pcs C H as ls){k:Nat}{v:V}(e:(as.map V.ref)[k]?=some v):∃ a x,v=.ref a/\as[k]?=some a/\ls[k]?=some x/\Hu C H a x:=by
 rw [List.getElem?_map] at e
 cases ea:as[k]? with
 | none=>rw [ea] at e;cases e
 | some a =>
  rw [ea] at e
  have hk:=(List.getElem?_eq_some_iff.mp ea).1
  have hx:ls[k]?=some (ls[k]'(by rw [<- h.1];exact hk)):=List.getElem?_eq_getElem _
  exact ⟨a,_,(Option.some.inj e).symm,rfl,hx,h.2 k a _ ea hx⟩
theorem Pcs.but {C C' x dx:Addr}{H H':Hp}{as:List Addr}{ls:List (List Bool)}{fs:List (Str×V)}(h:Pcs C H as ls)(s:SameBut x H H')(hx:H x=some (.ins C' dx fs))(hne:∀ a∈as,a≠x):Pcs C H' as ls:=⟨h.1,fun k a y e1 e2=>by
 obtain ⟨d,t,m,g,o,h1,h2,h3⟩:=h.2 k a y e1 e2
 refine ⟨d,t,m,g,o,s _ _ (hne a (List.mem_of_getElem? e1)) h1,s _ _ (fun e=>?_) h2,h3⟩
 rw [e,hx] at h2
 cases h2⟩
def Tz (p:V):List (Str×V):=[("kept_pieces",p)]
def To (p b:V):List (Str×V):=[("kept_pieces",p),("begins",b)]
def Um (p b k:V):List (Str×V):=[("kept_pieces",p),("begins",b),("knots_ahead",k)]
def Zm (p b k n t o:V):List (Str×V):=[("kept_pieces",p),("begins",b),("knots_ahead",k),("length",n),("kept_table",t),("often_least",o)]
def bgs (ls:List (List Bool)):List V:=nV ((List.range (ls.length+1)).map fun j=>bgn ls j)
theorem eG (ls:List (List Bool)):(bgs ls).length=ls.length+1:=by unfold bgs nV;rw [List.length_map,List.length_map,List.length_range]
theorem Hb {ls:List (List Bool)}{j:Nat}(h:j<=ls.length):(bgs ls)[j]?=some (.int (bgn ls j:Nat)):=by
 unfold bgs nV
 rw [List.getElem?_map,List.getElem?_map,List.getElem?_range (by omega)]
 rfl
structure mL (C:Addr) (H:Hp) (p b:Addr) (ls:List (List Bool)):Prop where
 pcs:∃ as:List Addr,H p=some (.lst (as.map V.ref))/\Pcs C H as ls
 bg:H b=some (.lst (bgs ls))
 sz:Dt ls
 fw:ls.length<=400
def kns (ls:List (List Bool)):List Nat:=ls.map fun x=>x.count true
def hB (ls:List (List Bool))(j:Nat):Int:=2*(((kns ls).take j).sum:Int)-(bgn ls j:Int)
def uB (H:Hp)(ls:List (List Bool))(r:Addr)(j:Nat):Prop:=∀ x,ls[j]?=some x->∃ m g:Int,H r=some (.tup [.int (hB ls j),.int (hB ls j+m),.int (hB ls j+g)])/\El x m/\Uy (hts x x.length) g
structure cE (H:Hp) (k t o:V) (ls:List (List Bool)):Prop where
 kn:∃ a:Addr,k=.ref a/\H a=some (.lst (nV ((List.range (ls.length+1)).map fun i=>((kns ls).take i).sum)))
 tb:∃ (a:Addr) (rs:List Addr),t=.ref a/\H a=some (.lst (rs.map V.ref))/\rs.length=ls.length/\∀ (j:Nat) (r:Addr),rs[j]?=some r->uB H ls r j
 ol:∃ (a:Addr) (os:List V),o=.ref a/\H a=some (.lst os)/\os.length=ls.length/\∀ (j:Nat) (v:V) (x:List Bool) (m:Int),os[j]?=some v->ls[j]?=some x->El x m->v=.int ((hts x x.length).count m:Nat)
theorem cE.keep {H H':Hp}{k t o:V}{ls:List (List Bool)}(h:cE H k t o ls)(s:∀ b xs,(H b=some (.lst xs)->H' b=some (.lst xs))/\(H b=some (.tup xs)->H' b=some (.tup xs))):cE H' k t o ls:=by
 obtain ⟨a,k1,k2⟩:=h.kn
 obtain ⟨b,rs,t1,t2,t3,t4⟩:=h.tb
 obtain ⟨c,os,o1,o2,o3⟩:=h.ol
 exact ⟨⟨a,k1,(s _ _).1 k2⟩,⟨b,rs,t1,(s _ _).1 t2,t3,fun j r e x ex=>let ⟨m,g,r1,r2⟩:=t4 j r e x ex;⟨m,g,(s _ _).2 r1,r2⟩⟩,⟨c,os,o1,(s _ _).1 o2,o3⟩⟩
def Bk (C CR:Addr)(H:Hp)(x:Addr)(ls:List (List Bool)):Prop:=∃ (dx p b:Addr) (k t o:V),H x=some (.ins CR dx (Zm (.ref p) (.ref b) k (.int (ls.flatten.length:Nat)) t o))/\mL C H p b ls/\cE H k t o ls
theorem mL.kp {C p b:Addr}{H H':Hp}{ls:List (List Bool)}(h:mL C H p b ls)(s:Kp H H'):mL C H' p b ls:=by
 obtain ⟨as,h1,h2⟩:=h.pcs
 exact ⟨⟨as,s.k h1,h2.kp s⟩,s.k h.bg,h.sz,h.fw⟩
theorem cE.kp {H H':Hp}{k t o:V}{ls:List (List Bool)}(h:cE H k t o ls)(s:Kp H H'):cE H' k t o ls:=h.keep fun b xs=>⟨fun e=>s.k e,fun e=>s.k e⟩
theorem Bk.kp {C CR x:Addr}{H H':Hp}{ls:List (List Bool)}(h:Bk C CR H x ls)(s:Kp H H'):Bk C CR H' x ls:=by
 obtain ⟨dx,p,b,k,t,o,h1,h2,h3⟩:=h
 exact ⟨dx,p,b,k,t,o,s.k h1,h2.kp s,h3.kp s⟩
def Pg (p e:V):List (Str×V):=[("pairs",p),("earlier",e)]
def B6 (C CR CS:Addr)(H:Hp)(x:Addr)(ls:List (List Bool)):Prop:=∃ (dx r:Addr) (e:V),H x=some (.ins CS dx (Pg (.ref r) e))/\Bk C CR H r ls
theorem B6.kp {C CR CS x:Addr}{H H':Hp}{ls:List (List Bool)}(h:B6 C CR CS H x ls)(s:Kp H H'):B6 C CR CS H' x ls:=by
 obtain ⟨dx,r,e,h1,h2⟩:=h
 exact ⟨dx,r,e,s.k h1,h2.kp s⟩
def R1 (CR:Addr):Sp:=fun vs H Q _=>∃ (x dx:Addr) (p b k n t o:V),vs=[.ref x,n,t,o]/\H x=some (.ins CR dx (Um p b k))/\Q .non (upd H x (.ins CR dx (Zm p b k n t o)))
theorem We {f:Addr}{fd:FuncData}(F:Fun K "__init__" "Heights.__init__" Hk f fd)(T:Txt K mg)(Z:Qa K aa):A9 P w K mg base CX0 1 f fd ["self","length","table","often_least"] (R1 aa):=by
 refine F.ok Pc (fun vs H Q E h=>?_) (fun cdv A outer s H vs Q E hr h=>?_)
 ·obtain ⟨x,dx,p,b,k,n,t,o,rfl,_⟩:=h
  rfl
 ·obtain ⟨x,dx,p,b,k,n,t,o,rfl,hx,q⟩:=h
  refine ⟨_,(Ab (F9 (pv 0) (pv 1) rfl)
   (Ab (F9 (pv 0) (pv 2) rfl)
   (Ai (F9 (pv 0) (pv 3) rfl)))),?_⟩
  k_is
  refine Ef hx Z.cl Z.n_length (show 3<1000 by decide) ?_
  k_is
  refine Ef Ae Z.cl Z.n_kept_table (show 4<1000 by decide) ?_
  rw [Ws]
  k_is
  refine Ef Ae Z.cl Z.n_often_least (show 5<1000 by decide) ?_
  rw [Ws]
  exact q
def P2 (C CR:Addr):Sp:=fun vs H Q _=>∃ (x:Addr) (ls:List (List Bool)),vs=[.ref x]/\Bk C CR H x ls/\Q (.int (ls.flatten.length:Nat)) H
theorem Wf {f:Addr}{fd:FuncData}(F:Fun K "size" "Heights.size" G9 f fd)(T:Txt K mg)(Z:Qa K aa):A9 P w K mg base CX0 1 f fd ["self"] (P2 ab aa):=by
 refine F.ok Pe (fun vs H Q E h=>?_) (fun cdv A outer s H vs Q E hr h=>?_)
 ·obtain ⟨x,ls,rfl,_⟩:=h
  rfl
 ·obtain ⟨x,ls,rfl,⟨dx,p,b,k,t,o,hx,_⟩,q⟩:=h
  refine ⟨_,(Ai (At (A6 (pv 0) rfl))),?_⟩
  k_is
  exact ⟨x,aa,dx,_,_,rfl,hx,Z.cl,Z.n_length,rfl,q⟩
def Vv:Sp:=fun vs H Q _=>∃ l:List Bool,vs=[.str (Az l)]/\Vs 0 l/\l.length<=8000/\∀ H',An H H'->Q .non H'
theorem W4 {f:Addr}{fd:FuncData}(F:Fun K "check_row" "check_row" Ks f fd)(T:Txt K mg):A9 P w K mg base CX0 1 f fd ["text"] Vv:=by
 refine F.ok Fq (fun vs H Q E h=>?_) (fun cdv A outer s H vs Q E hr h=>?_)
 ·obtain ⟨l,rfl,_⟩:=h
  rfl
 ·obtain ⟨l,rfl,hv,hn,q⟩:=h
  refine ⟨_,(Ab (B3 (Gu (Dr (As Hv (by rfl) T.n_isinstance Gz (Af (pv 0) (Af (Po (v:=.ty "str") rfl T.n_str rV rfl) Aa rfl) rfl)))) (Ai Cv)
   Ba)
   (Ab (Aq (i:=1) Fq.nd rfl (Or.inl rfl) Aj)
   (Ab (Dn PassesOwn.never rfl (jL rfl T.n_enumerate (Af (pv 0) Aa rfl)) (N7 rfl (Dk (Bt (i:=2) Fq.nd rfl (Or.inl rfl)) (Dk (Bt (i:=3) Fq.nd rfl (Or.inl rfl)) Lo)))
   (Ab (Z0 (i:=1) Fq.nd rfl (Or.inl rfl) (C4 (Av Ew (pv 3) Cz (Ax _)) Aj (E8 C5 Aj)) iT)
   (Ai (B3 (PW.pt (Mc (Av W6 (pv 3) Cz rfl) (Mc (Av Fy (pv 1) Aj (Ax _)) (K8 (Av Ew (pv 2) (G6 rfl T.g_MOST_SIGNS_pairs) (Ax _)))))) (Ai Cv)
   Ba))))
   (Ai (B3 (Av Mb (pv 1) Aj (Ax _)) (Ai Cv)
   Ba))))),?_⟩
  k_is
  refine ⟨_,_,_,_,rfl,.str _,Xq,?_⟩
  k_is
  refine ⟨_,rfl,?_⟩
  refine gP (fun i σ H1=>(∃ v2 v3:Option V,σ=[some (.str (Az l)),some (.int (hgt l i)),v2,v3])/\An H H1) ⟨⟨_,_,rfl⟩,An.refl _⟩ ?_ ?_
  ·rintro i c σ H1 t hc ⟨⟨v2,v3,rfl⟩,s1⟩ ht
   obtain ⟨b,hb,rfl⟩:=Nb hc
   have hi:=Bw hb
   have hs:=K1 hb
   obtain ⟨h,hh,_⟩:=Yl hv (i+1) (by omega)
   have s2:=s1.trans (Al (o:=.tup [.int i,.str (sgn (if b then 49 else 48))]) ht)
   generalize upd H1 t (.tup [.int i,.str (sgn (if b then 49 else 48))])=H2 at *
   k_is
   cases b with
   | true =>
    refine Bz (fun _=>?_) (fun h=>absurd rfl h)
    k_is
    refine ⟨_,_,rfl,rfl,?_⟩
    k_is
    have hs:hgt l (i+1)=hgt l i+1:=hs
    rw [<- hs,hh]
    rw [show (!(!(Builtin.Str.occurrences ("01":Str) (sgn (if true=true then 49 else 48)) 0 ("01":Str).length 1).isEmpty))=false by decide +kernel]
    k_is
    refine Bz (fun h=>by omega) (fun _=>?_)
    k_is
    refine Bz (fun h=>?_) (fun _=>?_)
    ·have:=V.int.inj h
     omega
    k_is
    exact ⟨⟨_,_,rfl⟩,s2⟩
   | false =>
    refine Bz (fun h=>absurd h (by decide)) (fun _=>?_)
    k_is
    refine ⟨_,_,rfl,rfl,?_⟩
    k_is
    have hs:hgt l (i+1)=hgt l i + -1:=hs
    rw [<- hs,hh]
    rw [show (!(!(Builtin.Str.occurrences ("01":Str) (sgn (if false=true then 49 else 48)) 0 ("01":Str).length 1).isEmpty))=false by decide +kernel]
    k_is
    refine Bz (fun h=>by omega) (fun _=>?_)
    k_is
    refine Bz (fun h=>?_) (fun _=>?_)
    ·have:=V.int.inj h
     omega
    k_is
    exact ⟨⟨_,_,rfl⟩,s2⟩
  ·rintro σ H1 ⟨⟨v2,v3,rfl⟩,s1⟩
   rw [show (Az l).cps.size=l.length from Ay l]
   obtain ⟨h,hh,hv2,_⟩:=Yl hv l.length (Nat.le_refl _)
   rw [List.drop_of_length_le (Nat.le_refl _)] at hv2
   have hv2:h=0:=hv2
   k_is
   refine Bz (fun h=>by omega) (fun _=>?_)
   k_is
   exact q H1 s1
def bZ:Sp:=fun vs H Q _=>∃ (a:Addr) (ds:List Nat),vs=[.ref a]/\H a=some (.lst ((A0 ds).map V.int))/\Dok ds/\ds.length<4000/\∀ l H',An H H'->H' l=some (.lst ((A0 ds).map V.int))->Q (.ref l) H'
theorem cS {f:Addr}{fd:FuncData}(F:Fun K "look_at" "look_at" Oh f fd)(T:Txt K mg)(ai:Cal P w K mg base "is_whole" 1 ["thing"] Iw):A9 P w K mg base CX0 2 f fd ["elders"] bZ:=by
 refine F.ok Kc (fun vs H Q E h=>?_) (fun cdv A outer s H vs Q E hr h=>?_)
 ·obtain ⟨a,ds,rfl,_⟩:=h
  rfl
 ·obtain ⟨a,ds,rfl,ha,hD,hn,q⟩:=h
  refine ⟨_,(Ab (B3 (Gu (Dr (As Hv (by rfl) T.n_isinstance Gz (Af (pv 0) (Af (Po (v:=.ty "list") rfl T.n_list Vq rfl) Aa rfl) rfl)))) (Ai Cv)
   Ba)
   (Ab (Aq (i:=1) Kc.nd rfl (Or.inl rfl) (Br (Af (E8 C5 Aj) Aa rfl)))
   (Ab (Dn PassesOwn.never rfl (lL rfl T.n_enumerate (Af (pv 0) Aa rfl)) (N7 rfl (Dk (Bt (i:=2) Kc.nd rfl (Or.inl rfl)) (Dk (Bt (i:=3) Kc.nd rfl (Or.inl rfl)) Lo)))
   (Ab (B3 (PW.pt (Mc (Av Ew (pv 2) (G6 rfl T.g_MOST_KNOTS) (Ax _)) (Mc (Gu (Dr (Bb ai (hr.mono (by decide:1<=_)) (Af (pv 3) Aa rfl)))) (K8 (Av Fy (pv 3) (E8 C5 Aj) (Ax _)))))) (Ai Cv)
   Ba)
   (Ab (Kw PassesOwn.never (Av Mb (Bd A8 (pv 1) (E8 C5 Aj) (fun _ _=>rfl)) (pv 3) (Ax _))
   (Ai (Bl (Z3 PySem.F.plainAttrs_list PySem.F.slot_list_pop PySem.F.type_list_pop cG (pv 1)))))
   (Ab (B3 (Av Tu (Bd A8 (pv 1) (E8 C5 Aj) (fun _ _=>rfl)) (pv 3) (Ax _)) (Ai Cv)
   Ba)
   (Ai (Bl (Ds PySem.F.plainAttrs_list PySem.F.slot_list_append PySem.F.type_list_append B7 (pv 1) (Af (pv 2) Aa rfl))))))))
   (Ai (At (Dl Nm (by rfl) T.n_list Vq (Af (pv 0) Aa rfl))))))),?_⟩
  k_is
  refine ⟨_,_,_,_,rfl,.lst ha,Tc,?_⟩
  k_is
  refine ⟨few (by simp),fun p hp=>?_⟩
  k_is
  have t0:=Al (o:=.lst [V.int (-1)]) hp
  refine ⟨a,rfl,⟨_,SqL.of (t0 _ _ ha)⟩,?_⟩
  refine jK (xs:=(A0 ds).map V.int) (fun k σ H1=>(∃ v2 v3:Option V,σ=[some (.ref a),some (.ref p),v2,v3])/\H1 p=some (.lst ((way ds k).map V.int))/\An H H1) ⟨⟨_,_,rfl⟩,Ae,t0⟩ (fun k σ H1 _ h=>SqL.of (h.2.2 _ _ ha)) ?_ ?_
  ·rintro k x σ H1 t hx ⟨⟨v2,v3,rfl⟩,hp1,s1⟩ ht
   have hk:=Bw hx
   rw [List.length_map,Au] at hk
   obtain ⟨e,he,rfl⟩:=Kd hx
   rw [Cp hk] at he
   obtain rfl:=Option.some.inj he
   have st:=Al (o:=.tup [.int k,.int (eld ds k)]) ht
   have hp2:=st _ _ hp1
   have s2:=s1.trans st
   generalize upd H1 t (.tup [.int k,.int (eld ds k)])=H2 at *
   k_is
   refine Bz (fun h=>?_) (fun _=>?_)
   ·have:=V.int.inj h
    omega
   k_is
   refine ⟨_,rfl,?_⟩
   k_is
   have hge:=cL hD hk
   refine Bz (fun h=>by omega) (fun _=>?_)
   k_is
   have hl:=Cj hD k (by omega)
   have hd:=hD k hk
   refine Ky (fun σ H3=>σ=[some (.ref a),some (.ref p),some (.int k),some (.int (eld ds k))]/\An H H3/\∃ m,dAt ds k+1<=m/\m<=(way ds k).length/\H3 p=some (.lst (((way ds k).take m).map V.int))) (fun _ H3=>fB H3 p)
    ⟨rfl,s2,(way ds k).length,by omega,Nat.le_refl _,by rw [List.take_of_length_le (Nat.le_refl _)];exact hp2⟩ ?_
   rintro z σ H3 ⟨rfl,s3,m,hm1,hm2,hp3⟩ hz
   rw [Mt hp3,Go hm2] at hz
   k_is
   have hx1:(way ds k)[m-1]?=some ((way ds k)[m-1]'(by omega)):=List.getElem?_eq_getElem _
   generalize (way ds k)[m-1]'(by omega)=y at hx1
   refine Bg (SqL.of hp3) (Ji (by omega) hx1) ?_
   k_is
   have hea:=E3 hD hk
   refine Bz (fun h=>?_) (fun h=>?_)
   ·have hne:m-1≠dAt ds k:=fun e=>by
     rw [e,hea] at hx1
     have:=Option.some.inj hx1
     omega
    refine Su ?_
    k_is
    refine ⟨.inl ⟨rfl,_,SqL.of hp3⟩,?_⟩
    refine ⟨p,_,.int y,rfl,rfl,hp3,?_,?_⟩
    ·rw [Go hm2,Xr (n:=y)]
     rw [List.getElem?_take_of_lt (by omega)]
     exact hx1
    k_is
    rw [On hm2]
    refine ⟨⟨rfl,Cf s3 hp,m-1,by omega,by omega,Ae⟩,?_⟩
    rw [Mt Ae,Go (by omega)]
    omega
   ·have hme:m=dAt ds k+1:=by
     by_cases e:m-1=dAt ds k
     ·omega
     ·have:=Ro hD k (dAt ds k) (m-1) _ _ (by omega) (by omega) hea hx1
      omega
    subst hme
    have hy:y=eld ds k:=by
     rw [show dAt ds k+1-1=dAt ds k by omega,hea] at hx1
     exact (Option.some.inj hx1).symm
    k_is
    refine Bg (SqL.of hp3) (Ji (by omega) hx1) ?_
    k_is
    refine mY (fun h1=>absurd (congrArg V.int hy) h1) (fun _=>?_)
    k_is
    refine ⟨.inl ⟨rfl,_,SqL.of hp3⟩,?_⟩
    k_is
    refine B9 hp3 ?_ ?_
    ·rw [Go hm2]
     exact Ak (by have:=Lf hD k (by omega);omega)
    k_is
    refine ⟨⟨_,_,rfl⟩,?_,Cf s3 hp⟩
    rw [Ae]
    show _=some (HO.lst (((way ds k).take (dAt ds k+1)++[(k:Int)]).map V.int))
    rw [List.map_append]
    rfl
  ·rintro σ H1 ⟨⟨v2,v3,rfl⟩,hp1,s1⟩
   k_is
   refine ⟨a,_,rfl,.inl (SqL.of (s1 _ _ ha)),fun l hl=>?_⟩
   exact q l _ (s1.trans (Al hl)) Ae
def Rx:Sp:=fun vs H Q _=>∃ (a:Addr) (ds:List Nat),vs=[.ref a]/\H a=some (.lst ((A0 ds).map V.int))/\Dok ds/\ds.length<4000/\∀ l H',An H H'->H' l=some (.lst (nV ds))->Q (.ref l) H'
theorem Uh {ds:List Nat}{k:Nat}(hk:k<ds.length):nV (ds.take k)++[V.int (dAt ds k:Nat)]=nV (ds.take (k+1)):=by
 rw [List.take_add_one,List.getElem?_eq_getElem hk,<- W7]
 unfold dAt List.getD
 rw [List.getElem?_eq_getElem hk]
 rfl
theorem Vx {f:Addr}{fd:FuncData}(F:Fun K "depths_of" "depths_of" K5 f fd)(T:Txt K mg):A9 P w K mg base CX0 1 f fd ["elders"] Rx:=by
 refine F.ok Jw (fun vs H Q E h=>?_) (fun cdv A outer s H vs Q E hr h=>?_)
 ·obtain ⟨a,ds,rfl,_⟩:=h
  rfl
 ·obtain ⟨a,ds,rfl,ha,hD,hn,q⟩:=h
  refine ⟨_,(Ab (Aq (i:=1) Jw.nd rfl (Or.inl rfl) (Br Aa))
   (Ab (Dn PassesOwn.never rfl (B4 (pv 0)) (Bt (i:=2) Jw.nd rfl (Or.inl rfl))
   (Ai (Bl (Ds PySem.F.plainAttrs_list PySem.F.slot_list_append PySem.F.type_list_append B7 (pv 1) (Af (C4 (Av Ew (pv 2) (E8 C5 Aj) (Ax _)) Aj (Am A7 (Bd A8 (pv 1) (pv 2) (fun _ _=>rfl)) Aj)) Aa rfl)))))
   (Ai (At (pv 1))))),?_⟩
  k_is
  refine ⟨Nat.zero_le _,fun p hp=>?_⟩
  k_is
  have t0:=Al (o:=.lst []) hp
  refine ⟨a,rfl,⟨_,SqL.of (t0 _ _ ha)⟩,?_⟩
  refine Ix (xs:=(A0 ds).map V.int) (fun k σ H1=>(∃ v2:Option V,σ=[some (.ref a),some (.ref p),v2])/\H1 p=some (.lst (nV (ds.take k)))/\An H H1) ⟨⟨_,rfl⟩,Ae,t0⟩ (fun k σ H1 _ h=>SqL.of (h.2.2 _ _ ha)) ?_ ?_
  ·rintro k x σ H1 hx ⟨⟨v2,rfl⟩,hp1,s1⟩
   have hk:=Bw hx
   rw [List.length_map,Au] at hk
   obtain ⟨e,he,rfl⟩:=Kd hx
   rw [Cp hk] at he
   obtain rfl:=Option.some.inj he
   have hz:(nV (ds.take k)).length<sizeLine:=by
    rw [Cn,List.length_take]
    exact Ak (by omega)
   k_is
   refine ⟨.inl ⟨rfl,_,SqL.of hp1⟩,?_⟩
   k_is
   refine Bz (fun h=>?_) (fun h=>?_)
   ·have hd:=Jr hD hk (V.int.inj h)
    k_is
    refine B9 hp1 hz ?_
    k_is
    refine ⟨⟨_,rfl⟩,?_,Cf s1 hp⟩
    rw [Ae,<- Uh hk,hd]
    rfl
   ·obtain ⟨v,hv,hlt,hd⟩:=En hD hk (fun e=>h (congrArg V.int e))
    k_is
    rw [hv]
    refine Bg (SqL.of hp1) (v:=.int (dAt ds v:Nat)) ?_ ?_
    ·refine Bc (sB ?_)
     rw [List.getElem?_take_of_lt hlt,List.getElem?_eq_getElem (by omega)]
     unfold dAt List.getD
     rw [List.getElem?_eq_getElem (by omega)]
     rfl
    k_is
    refine B9 hp1 hz ?_
    k_is
    refine ⟨⟨_,rfl⟩,?_,Cf s1 hp⟩
    rw [Ae,<- Uh hk,hd]
    rfl
  ·rintro σ H1 ⟨⟨v2,rfl⟩,hp1,s1⟩
   rw [List.length_map,Au,List.take_of_length_le (Nat.le_refl _)] at hp1
   k_is
   exact q p H1 s1 hp1
def Pm:Sp:=fun vs H Q _=>∃ (a:Addr) (ds:List Nat),vs=[.ref a]/\H a=some (.lst ((A0 ds).map V.int))/\Dok ds/\ds.length<4000/\∀ H',An H H'->Q (.str (Az (A5 ds))) H'
theorem He {l:List Nat}{i:Nat}{x:V}(h:(nV l)[i]?=some x):∃ n,l[i]?=some n/\x=.int (n:Nat):=by
 unfold nV at h
 rw [List.getElem?_map] at h
 cases e:l[i]? with
 | none=>rw [e] at h;cases h
 | some n =>
  rw [e] at h
  exact ⟨n,rfl,(Option.some.inj h).symm⟩
theorem qW {ds:List Nat}{k n:Nat}(h:ds[k]?=some n):n=dAt ds k:=by
 unfold dAt List.getD
 rw [h]
 rfl
theorem fT {f:Addr}{fd:FuncData}(F:Fun K "row_of" "row_of" Rt f fd)(T:Txt K mg)(aX:Cal P w K mg base "depths_of" 1 ["elders"] Rx)(aY:Cal P w K mg base "look_at" 2 ["elders"] bZ):A9 P w K mg base CX0 3 f fd ["elders"] Pm:=by
 refine F.ok Iq (fun vs H Q E h=>?_) (fun cdv A outer s H vs Q E hr h=>?_)
 ·obtain ⟨a,ds,rfl,_⟩:=h
  rfl
 ·obtain ⟨a,ds,rfl,ha,hD,hn,q⟩:=h
  refine ⟨_,(Ab (Aq (i:=1) Iq.nd rfl (Or.inl rfl) (Br Aa))
   (Ab (Aq (i:=2) Iq.nd rfl (Or.inl rfl) Aj)
   (Ab (Dn PassesOwn.never rfl (B4 (Bb aX (hr.mono (by decide:1<=_)) (Af (Bb aY (hr.mono (by decide:2<=_)) (Af (pv 0) Aa rfl)) Aa rfl))) (Bt (i:=3) Iq.nd rfl (Or.inl rfl))
   (Ab (Bl (Ds PySem.F.plainAttrs_list PySem.F.slot_list_append PySem.F.type_list_append B7 (pv 1) (Af (Am Ge (Am U6 Cz (Am Be (pv 2) (pv 3))) Cz) Aa rfl)))
   (Ai (Aq (i:=2) Iq.nd rfl (Or.inl rfl) (Am A7 (pv 3) Aj)))))
   (Ab (Bl (Ds PySem.F.plainAttrs_list PySem.F.slot_list_append PySem.F.type_list_append B7 (pv 1) (Af (Am U6 Cz (pv 2)) Aa rfl)))
   (Ai (At (Ds PySem.F.plainAttrs_str PySem.F.slot_str_join PySem.F.type_str_join Ut Cz (Af (pv 1) Aa rfl)))))))),?_⟩
  k_is
  refine ⟨Nat.zero_le _,fun p hp=>?_⟩
  k_is
  have t0:=Al (o:=.lst []) hp
  refine ⟨a,ds,rfl,t0 _ _ ha,hD,hn,fun l1 H1 s1 hl1=>?_⟩
  k_is
  refine ⟨l1,ds,rfl,hl1,hD,hn,fun l2 H2 s2 hl2=>?_⟩
  k_is
  refine ⟨l2,rfl,⟨_,SqL.of hl2⟩,?_⟩
  have s12:=s1.trans s2
  have hp2:=s12 _ _ (Ae (H:=H) (a:=p) (o:=.lst []))
  have npl:l2≠p\/ds=[]:=by
   by_cases e:l2=p
   ·subst e
    rw [hp2] at hl2
    have:=HO.lst.inj (Option.some.inj hl2)
    cases ds with
    | nil=>exact .inr rfl
    | cons d r=>cases this
   ·exact .inl e
  refine Ix (xs:=nV ds) (fun k σ H3=>(∃ v3:Option V,σ=[some (.ref a),some (.ref p),some (.int (opn ds k:Nat)),v3])/\H3 p=some (.lst ((List.range k).map fun i=>V.str (Az (Bv ds i))))/\An H H3/\H3 l2=some (.lst (nV ds))) ⟨⟨_,rfl⟩,hp2,t0.trans s12,hl2⟩ (fun k σ H3 _ h=>SqL.of h.2.2.2) ?_ ?_
  ·rintro k x σ H3 hx ⟨⟨v3,rfl⟩,hp3,s3,hl3⟩
   have hk:=Bw hx
   rw [Cn] at hk
   have nlp:l2≠p:=by
    rcases npl with h | h
    ·exact h
    ·rw [h] at hk;cases hk
   obtain ⟨d,hd,rfl⟩:=He hx
   obtain rfl:=qW hd
   have hop:=Lf hD k (by omega)
   have hdk:=hD k hk
   k_is
   refine ⟨.inl ⟨rfl,_,SqL.of hp3⟩,?_⟩
   k_is
   refine ⟨"0",(opn ds k:Int)-(dAt ds k:Int),rfl,rfl,by omega,by omega,?_,few (by decide),?_⟩
   ·exact Nat.le_of_lt (Ak (by rw [show ("0":Str).length=1 by rfl];omega))
   have e0:Se ("0":Str) ((opn ds k:Int)-(dAt ds k:Int)).toNat=Az (List.replicate (opn ds k-dAt ds k) false):=by
    rw [show ((opn ds k:Int)-(dAt ds k:Int)).toNat=opn ds k-dAt ds k by omega]
    exact Oq false _
   rw [e0]
   k_is
   have e1:Az (List.replicate (opn ds k-dAt ds k) false)++("1":Str)=Az (Bv ds k):=Ec (List.replicate (opn ds k-dAt ds k) false) [true]
   refine ⟨_,"1",rfl,rfl,?_,?_⟩
   ·rw [Ay,List.length_replicate]
    exact Nat.le_of_lt (Ak (by rw [show ("1":Str).length=1 by rfl];omega))
   rw [e1]
   k_is
   refine B9 hp3 (by rw [List.length_map,List.length_range];exact Ak (by omega)) ?_
   k_is
   refine ⟨⟨_,rfl⟩,?_,Cf s3 hp,?_⟩
   ·rw [Ae,List.range_succ,List.map_append]
    rfl
   ·rw [Aw nlp]
    exact hl3
  ·rintro σ H3 ⟨⟨v3,rfl⟩,hp3,s3,hl3⟩
   rw [Cn] at *
   have hop:=Lf hD ds.length (Nat.le_refl _)
   k_is
   refine ⟨.inl ⟨rfl,_,SqL.of hp3⟩,?_⟩
   k_is
   refine ⟨"0",(opn ds ds.length:Int),rfl,rfl,by omega,by omega,?_,few (by decide),?_⟩
   ·exact Nat.le_of_lt (Ak (by rw [show ("0":Str).length=1 by rfl];omega))
   have e0:Se ("0":Str) ((opn ds ds.length:Int)).toNat=Az (List.replicate (opn ds ds.length) false):=by
    rw [Int.toNat_natCast]
    exact Oq false _
   rw [e0]
   k_is
   refine B9 hp3 (by rw [List.length_map,List.length_range];exact Ak (by omega)) ?_
   k_is
   refine ⟨rfl,?_⟩
   k_is
   have ef:((List.range ds.length).map (Bv ds)++[List.replicate (opn ds ds.length) false]).flatten=A5 ds:=by
    rw [List.flatten_append,List.flatten_singleton]
    rfl
   refine Rj (ls:=(List.range ds.length).map (Bv ds)++[List.replicate (opn ds ds.length) false]) ?_ ?_ ?_
   ·rw [Ae,List.map_append,List.map_map]
    rfl
   ·rw [ef,Bp hD]
    omega
   ·rw [ef]
    exact q _ (Cf s3 hp)
def J8:Sp:=fun vs H Q _=>∃ l:List Bool,vs=[.str (Az l)]/\Vs 0 l/\l.length<=8000/\∀ p (ds:List Nat) H',An H H'->H p=none->H' p=some (.lst ((A0 ds).map V.int))->Dok ds->A5 ds=l->Q (.ref p) H'
theorem T6 {ds:List Nat}{d:Nat}:∀ k,k<=ds.length->Km (ds++[d]) k=Km ds k
 | 0,_=>rfl
 | k+1,h=>by
  rw [Iu,Iu,T6 k (by omega)]
  unfold Bv
  rw [Nl k (by omega),Ku (by omega)]
theorem Uw {f:Addr}{fd:FuncData}(F:Fun K "elders_of" "elders_of" Kx f fd)(T:Txt K mg)(aZ:Cal P w K mg base "check_row" 1 ["text"] Vv):A9 P w K mg base CX0 2 f fd ["text"] J8:=by
 refine F.ok G3 (fun vs H Q E h=>?_) (fun cdv A outer s H vs Q E hr h=>?_)
 ·obtain ⟨l,rfl,_⟩:=h
  rfl
 ·obtain ⟨l,rfl,hv,hn,q⟩:=h
  refine ⟨_,(Ab (Bl (Bb aZ (hr.mono (by decide:1<=_)) (Af (pv 0) Aa rfl)))
   (Ab (B3 (Av Mb (As B5 (by rfl) T.n_len Bs (Af (pv 0) Aa rfl)) (G6 rfl T.g_MOST_SIGNS_woods) (Ax _)) (Ai Cv)
   Ba)
   (Ab (Aq (i:=1) G3.nd rfl (Or.inl rfl) (Br Aa))
   (Ab (Aq (i:=2) G3.nd rfl (Or.inl rfl) (Br (Af (E8 C5 Aj) Aa rfl)))
   (Ab (Dn PassesOwn.never rfl (Zi (pv 0)) (Bt (i:=3) G3.nd rfl (Or.inl rfl))
   (Ai (B3 (Av Ew (pv 3) Cz (Ax _)) (Ab (Bl (Ds PySem.F.plainAttrs_list PySem.F.slot_list_append PySem.F.type_list_append B7 (pv 1) (Af (Bd A8 (pv 2) (E8 C5 Aj) (fun _ _=>rfl)) Aa rfl)))
   (Ai (Bl (Ds PySem.F.plainAttrs_list PySem.F.slot_list_append PySem.F.type_list_append B7 (pv 2) (Af (Am Be (As Ar (by rfl) T.n_len Bs (Af (pv 1) Aa rfl)) Aj) Aa rfl)))))
   (Ai (Bl (Z3 PySem.F.plainAttrs_list PySem.F.slot_list_pop PySem.F.type_list_pop cG (pv 2)))))))
   (Ai (At (pv 1)))))))),?_⟩
  k_is
  refine ⟨l,rfl,hv,hn,fun H1 s1=>?_⟩
  k_is
  refine ⟨_,rfl,by rw [Ay];exact Nat.le_of_lt (Ak (by omega)),?_⟩
  k_is
  rw [Ay]
  refine Bz (fun h=>by omega) (fun _=>?_)
  k_is
  refine ⟨Nat.zero_le _,fun p hp1=>?_⟩
  have hp:H p=none:=s1.free hp1
  have t1:=Al (o:=.lst []) hp1
  k_is
  refine ⟨few (by simp),fun y hy=>?_⟩
  have t2:=Al (o:=.lst [V.int (-1)]) hy
  have hyH:H y=none:=(s1.trans t1).free hy
  k_is
  refine ⟨_,rfl,?_⟩
  refine W0 (fun i σ H2=>(∃ (ds:List Nat) (h:Nat) (v:Option V),σ=[some (.str (Az l)),some (.ref p),some (.ref y),v]/\Dok ds/\ds.length<=i/\hgt l i=(h:Int)/\h<=opn ds ds.length/\l.take i=Km ds ds.length++List.replicate (opn ds ds.length-h) false /\
    H2 p=some (.lst ((A0 ds).map V.int))/\H2 y=some (.lst (((way ds ds.length).take (h+1)).map V.int)))/\An H H2) ⟨⟨[],0,_,rfl,(fun k hk=>by cases hk),Nat.le_refl _,rfl,Nat.le_refl _,rfl,t2 _ _ Ae,Ae⟩,(s1.trans t1).trans t2⟩ ?_ ?_
  ·have hpy:p≠y:=Ap Ae hy
   rintro i c σ H2 hc ⟨⟨ds,h,v,rfl,hD,hdl,hh,hop,htk,hp2,hy2⟩,s2⟩
   obtain ⟨b,hb,rfl⟩:=Nb hc
   have hi:=Bw hb
   have hs:=K1 hb
   have hw:=Cj hD ds.length (Nat.le_refl _)
   obtain ⟨h',hh',hvs,_⟩:=Yl hv i (by omega)
   have e:h'=h:=by omega
   subst e
   have tk1:l.take (i+1)=l.take i++[b]:=by rw [List.take_add_one,hb];rfl
   have hx:(way ds ds.length)[h'+1-1]?=some ((way ds ds.length).getD h' 0):=by
    rw [Nat.add_sub_cancel]
    unfold List.getD
    rw [List.getElem?_eq_getElem (by omega)]
    rfl
   k_is
   cases b with
   | true =>
    refine Bz (fun _=>?_) (fun h=>absurd rfl h)
    have hs:hgt l (i+1)=hgt l i+1:=hs
    k_is
    refine ⟨.inl ⟨rfl,_,SqL.of hp2⟩,?_⟩
    k_is
    refine Bg (SqL.of hy2) (Ji (by omega) hx) ?_
    k_is
    refine B9 hp2 ?_ ?_
    ·rw [List.length_map,Au]
     exact Ak (by omega)
    k_is
    have hy3:upd H2 p (.lst ((A0 ds).map V.int++[V.int ((way ds ds.length).getD h' 0)])) y=some (.lst (((way ds ds.length).take (h'+1)).map V.int)):=by rw [Aw hpy.symm];exact hy2
    have hp3:upd H2 p (.lst ((A0 ds).map V.int++[V.int ((way ds ds.length).getD h' 0)])) p=some (.lst ((A0 ds).map V.int++[V.int ((way ds ds.length).getD h' 0)])):=Ae
    have s3:=Cf (o:=.lst ((A0 ds).map V.int++[V.int ((way ds ds.length).getD h' 0)])) s2 hp
    generalize upd H2 p (.lst ((A0 ds).map V.int++[V.int ((way ds ds.length).getD h' 0)]))=H3 at *
    refine ⟨.inl ⟨rfl,_,SqL.of hy3⟩,?_⟩
    k_is
    refine ⟨p,_,rfl,.inl (SqL.of hp3),?_⟩
    k_is
    rw [List.length_append,List.length_map,Au]
    refine B9 hy3 ?_ ?_
    ·rw [Go (by omega)]
     exact Ak (by have:=Lf hD ds.length (Nat.le_refl _);omega)
    k_is
    have hD2:=X6 (d:=h') hD hop
    have hl2:(ds++[h']).length=ds.length+1:=by rw [List.length_append];rfl
    have ho2:opn (ds++[h']) (ds.length+1)=h'+1:=by
     show dAt (ds++[h']) ds.length+1=_
     rw [Nf]
    refine ⟨⟨ds++[h'],h'+1,_,rfl,hD2,by omega,by omega,by rw [hl2,ho2];exact Nat.le_refl _,?_,?_,?_⟩,Cf s3 hyH⟩
    ·rw [tk1,htk,hl2,ho2,Nat.sub_self,List.replicate_zero,List.append_nil,Iu,T6 _ (Nat.le_refl _),List.append_assoc]
     unfold Bv
     rw [Nl _ (Nat.le_refl _),Nf]
    ·rw [Aw hpy,hp3,Ty,List.map_append]
     rfl
    ·have hwl:=Cj hD2 (ds.length+1) (by omega)
     have ew:(way (ds++[h']) (ds.length+1)).take (h'+1+1)=(way ds ds.length).take (h'+1)++[(ds.length:Int)]:=by
      rw [List.take_of_length_le (by omega),Yg]
     have ei:(((ds.length+[V.int ((way ds ds.length).getD h' 0)].length:Nat):Int)-1)=(ds.length:Int):=by
      simp only [List.length_cons,List.length_nil]
      omega
     rw [Ae,hl2,ew,List.map_append,ei]
     rfl
   | false =>
    refine Bz (fun h=>absurd h (by decide)) (fun _=>?_)
    have hs:hgt l (i+1)=hgt l i + -1:=hs
    rw [dC hb] at hvs
    have hpos:=hvs.1
    k_is
    refine ⟨.inl ⟨rfl,_,SqL.of hy2⟩,?_⟩
    refine ⟨y,_,.int ((way ds ds.length).getD h' 0),rfl,rfl,hy2,?_,?_⟩
    ·rw [Go (by omega),Xr]
     rw [List.getElem?_take_of_lt (by omega)]
     exact hx
    k_is
    rw [On (by omega)]
    refine ⟨⟨ds,h'-1,_,rfl,hD,by omega,by omega,by omega,?_,?_,?_⟩,Cf s2 hyH⟩
    ·rw [tk1,htk,List.append_assoc,show opn ds ds.length-(h'-1)=opn ds ds.length-h'+1 by omega,List.replicate_succ']
    ·rw [Aw hpy]
     exact hp2
    ·rw [Ae,show h'-1+1=h'+1-1 by omega]
  ·rintro σ H2 ⟨⟨ds,h,v,rfl,hD,hdl,hh,hop,htk,hp2,hy2⟩,s2⟩
   rw [show (Az l).cps.size=l.length from Ay l] at *
   obtain ⟨h',hh',hvs,_⟩:=Yl hv l.length (Nat.le_refl _)
   rw [List.drop_of_length_le (Nat.le_refl _)] at hvs
   have hvs:h'=0:=hvs
   have e:h=0:=by omega
   subst e
   rw [List.take_of_length_le (Nat.le_refl _),Nat.sub_zero] at htk
   k_is
   exact q p ds H2 s2 hp hp2 hD htk.symm
def S1 (CS:Addr):Sp:=fun vs H Q _=>∃ (x dx:Addr) (p:V),vs=[.ref x,p]/\H x=some (.ins CS dx [])/\Q .non (upd H x (.ins CS dx [("pairs",p)]))
theorem Wa {f:Addr}{fd:FuncData}(F:Fun K "__init__" "Openings.__init__" Gs f fd)(T:Txt K mg)(Z:Qb K ac):A9 P w K mg base CX0 1 f fd ["self","pairs"] (S1 ac):=by
 refine F.ok Oo (fun vs H Q E h=>?_) (fun cdv A outer s H vs Q E hr h=>?_)
 ·obtain ⟨x,dx,p,rfl,_⟩:=h
  rfl
 ·obtain ⟨x,dx,p,rfl,hx,q⟩:=h
  refine ⟨_,(Ai (F9 (pv 0) (pv 1) rfl)),?_⟩
  k_is
  exact Ef hx Z.cl Z.n_pairs (show 0<1000 by decide) q
def Nj (C CR CS:Addr):Sp:=fun vs H Q _=>∃ (x:Addr) (ls:List (List Bool)),vs=[.ref x]/\B6 C CR CS H x ls/\Q (.int (ls.flatten.length/2:Nat)) H
theorem Ql {f:Addr}{fd:FuncData}(F:Fun K "many_knots" "Openings.many_knots" Do f fd)(T:Txt K mg)(Z:Qb K ac)(aC:Mth P w K mg base aa "size" 1 ["self"] (P2 ab aa)):A9 P w K mg base CX0 2 f fd ["self"] (Nj ab aa ac):=by
 refine F.ok J4 (fun vs H Q E h=>?_) (fun cdv A outer s H vs Q E hr h=>?_)
 ·obtain ⟨x,ls,rfl,_⟩:=h
  rfl
 ·obtain ⟨x,ls,rfl,⟨dx,r,e,hx,hR⟩,q⟩:=h
  refine ⟨_,(Ai (At (Am Dv (Ie aC (hr.mono (by decide:1<=_)) (A6 (pv 0) rfl)) Aj))),?_⟩
  k_is
  refine ⟨x,ac,dx,_,_,rfl,hx,Z.cl,Z.n_pairs,rfl,?_⟩
  obtain ⟨dp,p,b,k,t,o,hp,_⟩:=id hR
  k_is
  refine ⟨r,dp,_,rfl,hp,rfl,?_⟩
  k_is
  refine ⟨r,ls,rfl,hR,?_⟩
  k_is
  exact q
theorem Kq (ns:List Int)(m:Int):(ns.map V.int).countP (fun z=>eqV z (.int m))=ns.count m:=by
 induction ns with
 | nil=>rfl
 | cons n r ih =>
  rw [List.map_cons,List.countP_cons,List.count_cons,ih]
  by_cases h:n=m<;>simp [eqV,h]
def P9 (C:Addr):Sp:=fun vs H Q _=>∃ (x dx:Addr) (l:List Bool),vs=[.ref x,.str (Az l)]/\H x=some (.ins C dx [])/\0<l.length/\l.length<=128/\∀ H',SameBut x H H'->Hu C H' x l->Q .non H'
theorem Wn {f:Addr}{fd:FuncData}(F:Fun K "__init__" "Piece.__init__" Jq f fd)(T:Txt K mg)(Z:Qc K ab)(aq:Cal P w K mg base "heights_of" 1 ["text","begin"] Hg)(a0:Cal P w K mg base "sums_of" 2 ["text"] (Y6 K)):A9 P w K mg base CX0 3 f fd ["self","signs"] (P9 ab):=by
 refine F.ok L9 (fun vs H Q E h=>?_) (fun cdv A outer s H vs Q E hr h=>?_)
 ·obtain ⟨x,dx,l,rfl,_⟩:=h
  rfl
 ·obtain ⟨x,dx,l,rfl,hx,h0,h1,q⟩:=h
  refine ⟨_,(Ab (Aq (i:=2) L9.nd rfl (Or.inl rfl) (Bb aq (hr.mono (by decide:1<=_)) (Af (pv 1) (Af Aj Aa rfl) rfl)))
   (Ab (F9 (pv 0) (pv 1) rfl)
   (Ab (F9 (pv 0) (Bb a0 (hr.mono (by decide:2<=_)) (Af (pv 1) Aa rfl)) rfl)
   (Ab (F9 (pv 0) (As (gA rfl) (by rfl) T.n_max eL (Af (pv 2) Aa rfl)) rfl)
   (Ai (F9 (pv 0) (Ds PySem.F.plainAttrs_list PySem.F.slot_list_count PySem.F.type_list_count Ue (pv 2) (Af (As (fK rfl) (by rfl) T.n_min eI (Af (pv 2) Aa rfl)) Aa rfl)) rfl)))))),?_⟩
  k_is
  refine ⟨l,0,rfl,by omega,fun p H1 s1 hp0 hp=>?_⟩
  rw [Y1] at hp
  have hx1:=s1 _ _ hx
  k_is
  refine Ef hx1 Z.cl Z.n_signs (show 0<1000 by decide) ?_
  have hpx:p≠x:=(Ap hx hp0).symm
  have hp2:upd H1 x (.ins ab dx (Cl "signs" (V.str (Az l)) [])) p=some (.lst ((hts l l.length).map V.int)):=by rw [Aw hpx];exact hp
  have b2:SameBut x H1 (upd H1 x (.ins ab dx (Cl "signs" (V.str (Az l)) []))):=Ce
  have hx2:upd H1 x (.ins ab dx (Cl "signs" (V.str (Az l)) [])) x=some (.ins ab dx (Cl "signs" (V.str (Az l)) [])):=Ae
  generalize upd H1 x (.ins ab dx (Cl "signs" (V.str (Az l)) []))=H2 at *
  k_is
  refine ⟨l,rfl,by omega,fun m t H3 hm s3 ht0 ht=>?_⟩
  have hx3:=s3 _ _ hx2
  have hp3:=s3 _ _ hp2
  have htx:t≠x:=(Ap hx2 ht0).symm
  k_is
  refine Ef hx3 Z.cl Z.n_kept_sums (show 1<1000 by decide) ?_
  have hp4:upd H3 x (.ins ab dx (Cl "kept_sums" (V.ref t) (Cl "signs" (V.str (Az l)) []))) p=some (.lst ((hts l l.length).map V.int)):=by rw [Aw hpx];exact hp3
  have ht4:upd H3 x (.ins ab dx (Cl "kept_sums" (V.ref t) (Cl "signs" (V.str (Az l)) []))) t=some (.tup (O8 l m)):=by rw [Aw htx];exact ht
  have b4:SameBut x H3 (upd H3 x (.ins ab dx (Cl "kept_sums" (V.ref t) (Cl "signs" (V.str (Az l)) [])))):=Ce
  have hx4:upd H3 x (.ins ab dx (Cl "kept_sums" (V.ref t) (Cl "signs" (V.str (Az l)) []))) x=some (.ins ab dx (Cl "kept_sums" (V.ref t) (Cl "signs" (V.str (Az l)) []))):=Ae
  have but4:SameBut x H (upd H3 x (.ins ab dx (Cl "kept_sums" (V.ref t) (Cl "signs" (V.str (Az l)) [])))):=((s1.but.trans b2).trans s3.but).trans b4
  generalize upd H3 x (.ins ab dx (Cl "kept_sums" (V.ref t) (Cl "signs" (V.str (Az l)) [])))=H4 at *
  have hne:hts l l.length≠[]:=fun e=>by
   have:=congrArg List.length e
   unfold hts at this
   rw [List.length_map,List.length_range,List.length_nil] at this
   omega
  k_is
  refine ⟨p,hts l l.length,rfl,SqL.of hp4,hne,fun g hg=>?_⟩
  k_is
  refine Ef hx4 Z.cl Z.n_greatest (show 2<1000 by decide) ?_
  have hp5:upd H4 x (.ins ab dx (Cl "greatest" (V.int g) (Cl "kept_sums" (V.ref t) (Cl "signs" (V.str (Az l)) [])))) p=some (.lst ((hts l l.length).map V.int)):=by rw [Aw hpx];exact hp4
  k_is
  refine ⟨.inl ⟨rfl,_,SqL.of hp5⟩,?_⟩
  k_is
  refine ⟨p,hts l l.length,rfl,SqL.of hp5,hne,fun mn hmn=>?_⟩
  k_is
  refine ⟨p,_,_,rfl,rfl,hp5,Dm _,rfl,?_⟩
  k_is
  refine Ef Ae Z.cl Z.n_often_least (show 3<1000 by decide) ?_
  rw [Ws]
  refine q _ (but4.trans Ce) ⟨dx,t,m,g,_,Ae,?_,hm,hg,?_⟩
  ·rw [Aw htx]
   exact ht4
  ·obtain rfl:mn=m:=by
    rcases hm with ⟨e,_⟩ | hm
    ·rw [e] at h0
     exact absurd h0 (Nat.lt_irrefl _)
    ·exact hmn.uniq hm
   rw [Kq]
def Jt (C:Addr):Sp:=fun vs H Q _=>∃ l:List Bool,vs=[.str (Az l)]/\l.length<=20000/\∀ p (as:List Addr) H',An H H'->H p=none->H' p=some (.lst (as.map V.ref))->Pcs C H' as (pcs l)->Q (.ref p) H'
theorem Ve {f:Addr}{fd:FuncData}(F:Fun K "pieces_of" "pieces_of" Gp f fd)(T:Txt K mg)(ba:Mkr P w K mg base "Piece" ab 3 ["self","signs"] (P9 ab)):A9 P w K mg base CX0 5 f fd ["text"] (Jt ab):=by
 refine F.ok J6 (fun vs H Q E h=>?_) (fun cdv A outer s H vs Q E hr h=>?_)
 ·obtain ⟨l,rfl,_⟩:=h
  rfl
 ·obtain ⟨l,rfl,hl,q⟩:=h
  refine ⟨_,(Ab (Aq (i:=1) J6.nd rfl (Or.inr rfl) (Am Dv (Am Be (Am A7 (As B5 (by rfl) T.n_len Bs (Af (pv 0) Aa rfl)) (G6 rfl T.g_PIECE_SIGNS)) Aj) (G6 rfl T.g_PIECE_SIGNS)))
   (Ab (Io (i:=2) rfl Sd J6.nd rfl rfl (Od rfl T.n_range (Af Aj (Af (pv 1) Aa rfl) rfl)) (fun _ _ _ _=>Co) (fun _ _ _ _=>(Am Dv (Am Ei (pv 0) (As B5 (by rfl) T.n_len Bs (Af (pv 2) Aa rfl))) (pv 1))))
   (Ai (At (bU rfl Ss (bY rfl T.n_zip (Af (Am F5 (Br (Af Aj Aa rfl)) (pv 2)) (Af (Am F5 (pv 2) (Br (Af (As B5 (by rfl) T.n_len Bs (Af (pv 0) Aa rfl)) Aa rfl))) Aa rfl) rfl)) (fun _ _ _ _=>Gf (Av Fy (pv 0) (pv 1) (Ax _))) (fun _ _ _ _=>(dJ ba (hr.mono (by decide:4<=_)) (Af (Ca gT (pv 2) (B8 (pv 0)) (B8 (pv 1))) Aa rfl)))))))),?_⟩
  have hs:(Az l).length=l.length:=Ay l
  k_is
  refine ⟨_,rfl,Nat.le_of_lt (Ak (by rw [Ay];omega)),?_⟩
  rw [Ay]
  k_is
  have hm:((l.length:Nat):Int)+128-1=((l.length+127:Nat):Int):=by omega
  have hm2:(((l.length:Nat):Int)+128-1)/128=((pcM l.length:Nat):Int):=by rw [hm];unfold pcM;omega
  rw [hm2]
  have hM:pcM l.length<=200:=by unfold pcM;omega
  obtain ⟨n,hn⟩:∃ n,n=pcM l.length-1:=⟨_,rfl⟩
  have hn2:(((pcM l.length:Nat):Int)-1).toNat=n:=by omega
  have hx:∀ i,(((i+1)*l.length/pcM l.length:Nat):Int)=(1+(i:Int))*(l.length:Int)/(pcM l.length:Int):=fun i=>by rw [Int.natCast_ediv,Int.natCast_mul,Int.natCast_add,Int.add_comm];rfl
  refine ⟨1,(pcM l.length:Nat),rfl,⟨by decide,by decide,by omega,by omega⟩,?_⟩
  rw [hn2]
  refine G7 (fun i=>(List.range i).map fun k:Nat=>V.int (Cb l.length (k+1):Nat)) rfl (fun i hi=>?_) (fun i H1 R A hi s1 _ hA=>?_) (fun D H1 hD s1 h1=>?_)
  ·rw [List.length_map,List.length_range]
   exact Ak (by omega)
  ·k_is
   refine ⟨_,rfl,Nat.le_of_lt (Ak (by rw [Ay];omega)),?_⟩
   rw [Ay]
   k_is
   refine Sl (by omega) (by omega) ?_
   k_is
   refine oF (by omega) (by omega) ?_
   k_is
   refine hA _ _ ?_ (An.refl _)
   rw [List.range_succ,List.map_append,<- hx i]
   rfl
  ·have hcl:((List.range n).map fun k:Nat=>V.int (Cb l.length (k+1):Nat)).length=n:=by rw [List.length_map,List.length_range]
   k_is
   refine ⟨few (by simp),fun z1 hz1=>?_⟩
   have u1:=Al (o:=.lst [V.int 0]) hz1
   k_is
   refine ⟨z1,D,_,_,rfl,rfl,Ae,u1 _ _ h1,?_,fun p1 hp1=>?_⟩
   ·rw [hcl]
    exact few (by simp only [List.length_cons,List.length_nil];omega)
   have u2:=Al (o:=.lst ([V.int 0]++(List.range n).map fun k:Nat=>V.int (Cb l.length (k+1):Nat))) hp1
   have hq1:upd (upd H1 z1 (.lst [V.int 0])) p1 (.lst ([V.int 0]++(List.range n).map fun k:Nat=>V.int (Cb l.length (k+1):Nat))) p1=_:=Ae
   have s2:=(s1.trans u1).trans u2
   have h2:=u2 _ _ (u1 _ _ h1)
   generalize upd (upd H1 z1 (.lst [V.int 0])) p1 (.lst ([V.int 0]++(List.range n).map fun k:Nat=>V.int (Cb l.length (k+1):Nat)))=H2 at *
   k_is
   refine ⟨_,rfl,Nat.le_of_lt (Ak (by rw [Ay];omega)),?_⟩
   rw [Ay]
   k_is
   refine ⟨few (by simp),fun z2 hz2=>?_⟩
   have u3:=Al (o:=.lst [V.int (l.length:Nat)]) hz2
   k_is
   refine ⟨D,z2,_,_,rfl,rfl,u3 _ _ h2,Ae,?_,fun p2 hp2=>?_⟩
   ·rw [hcl]
    exact few (by simp only [List.length_cons,List.length_nil];omega)
   have u4:=Al (o:=.lst (((List.range n).map fun k:Nat=>V.int (Cb l.length (k+1):Nat))++[V.int (l.length:Nat)])) hp2
   have hq2:upd (upd H2 z2 (.lst [V.int (l.length:Nat)])) p2 (.lst (((List.range n).map fun k:Nat=>V.int (Cb l.length (k+1):Nat))++[V.int (l.length:Nat)])) p2=_:=Ae
   have s4:=(s2.trans u3).trans u4
   have hq14:=u4 _ _ (u3 _ _ hq1)
   generalize upd (upd H2 z2 (.lst [V.int (l.length:Nat)])) p2 (.lst (((List.range n).map fun k:Nat=>V.int (Cb l.length (k+1):Nat))++[V.int (l.length:Nat)]))=H4 at *
   have hl1:([V.int 0]++(List.range n).map fun k:Nat=>V.int (Cb l.length (k+1):Nat)).length=n+1:=by rw [List.length_append,hcl];simp only [List.length_cons,List.length_nil];omega
   have hl2:(((List.range n).map fun k:Nat=>V.int (Cb l.length (k+1):Nat))++[V.int (l.length:Nat)]).length=n+1:=by rw [List.length_append,hcl];rfl
   have ha1:∀ i,i<=n->([V.int 0]++(List.range n).map fun k:Nat=>V.int (Cb l.length (k+1):Nat))[i]?=some (V.int (Cb l.length i:Nat)):=fun i hi=>by
    cases i with
    | zero=>rw [Uo];rfl
    | succ i =>
     show ((List.range n).map fun k:Nat=>V.int (Cb l.length (k+1):Nat))[i]?=_
     rw [List.getElem?_map,List.getElem?_range (by omega)]
     rfl
   have hL:l.length=Cb l.length (n+1):=by
    by_cases h0:l.length=0
    ·rw [h0];unfold Cb;rw [Nat.mul_zero,Nat.zero_div]
    ·have:n+1=pcM l.length:=by unfold pcM at hn ⊢;omega
     rw [this,Sm (by omega)]
   have ha2:∀ i,i<=n->(((List.range n).map fun k:Nat=>V.int (Cb l.length (k+1):Nat))++[V.int (l.length:Nat)])[i]?=some (V.int (Cb l.length (i+1):Nat)):=fun i hi=>by
    by_cases h:i<n
    ·rw [List.getElem?_append_left (by rw [hcl];exact h),List.getElem?_map,List.getElem?_range h]
     rfl
    ·obtain rfl:i=n:=by omega
     rw [List.getElem?_append_right (by rw [hcl];exact Nat.le_refl _),hcl,Nat.sub_self,<- hL]
     rfl
   k_is
   refine ⟨p1,p2,rfl,⟨_,SqL.of hq14⟩,⟨_,SqL.of hq2⟩,?_⟩
   refine kM (SqL.of hq14) (SqL.of hq2) (fun D i zs H'=>∃ as:List Addr,zs=as.map V.ref/\as.length=min i (pcM l.length)/\∀ (k:Nat) a x,as[k]?=some a->(pcs l)[k]?=some x->Hu ab H' a x) (fun D H' _ _=>⟨[],rfl,by rw [Nat.zero_min];rfl,fun k a x e=>by cases e⟩) ?_ ?_ ?_ ?_ ?_
   ·rintro D i zs H' us o hD ⟨as,e1,e2,e3⟩
    refine ⟨as,e1,e2,fun k a x k1 k2=>?_⟩
    obtain ⟨d,t,m,g,o',x1,x2,x3⟩:=e3 k a x k1 k2
    exact ⟨d,t,m,g,o',by rw [Aw (fun e=>by rw [e,hD] at x1;cases x1)];exact x1,by rw [Aw (fun e=>by rw [e,hD] at x2;cases x2)];exact x2,x3⟩
   ·rintro D i zs H' hi ⟨as,rfl,e2,e3⟩
    rw [List.length_map,e2]
    exact Ak (by omega)
   ·rintro D i zs H' H'' s ⟨as,e1,e2,e3⟩
    exact ⟨as,e1,e2,fun k a x k1 k2=>(e3 k a x k1 k2).kp (An.kp s)⟩
   ·intro D i zs y y2 H5 A R hy hy2 s5 hD0 hD5 hPv hR hA
    obtain ⟨as,rfl,e2,e3⟩:=hPv
    have hi:i<=n:=by have:=Bw hy;rw [hl1] at this;omega
    rw [ha1 i hi] at hy
    rw [ha2 i hi] at hy2
    obtain rfl:=Option.some.inj hy
    obtain rfl:=Option.some.inj hy2
    k_is
    refine Bz (fun hlt=>?_) (fun hlt=>?_)
    ·have hlt:Cb l.length i<Cb l.length (i+1):=by omega
     have hiM:i<pcM l.length:=by
      by_cases h0:pcM l.length=0
      ·unfold Cb at hlt
       rw [h0,Nat.div_zero,Nat.div_zero] at hlt
       omega
      ·omega
     have hsz:=Kv hiM
     have hst:=Oy (k:=i) (dP hiM)
     k_is
     refine ⟨_,rfl,Nat.le_of_lt (Ak (by rw [Ay];omega)),?_⟩
     rw [Uq]
     k_is
     intro x dx hx0 hdx hxd
     refine ⟨x,dx,_,rfl,Ae,by rw [hsz];omega,by rw [hsz];omega,fun H6 s6 hP6=>⟨rfl,?_⟩⟩
     have s6:=Lp hx0 hdx s6
     refine hA _ _ s6 ⟨as++[x],by rw [List.map_append];rfl,by rw [List.length_append,e2];simp only [List.length_cons,List.length_nil];omega,fun k a y k1 k2=>?_⟩
     rw [Nat.min_eq_left (by omega)] at e2
     by_cases hk:k<as.length
     ·rw [List.getElem?_append_left hk] at k1
      exact (e3 k a y k1 k2).kp (An.kp s6)
     ·have hk2:=Bw k1
      rw [List.length_append] at hk2
      obtain rfl:k=as.length:=by simp only [List.length_cons,List.length_nil] at hk2;omega
      rw [List.getElem?_append_right (Nat.le_refl _),Nat.sub_self] at k1
      obtain rfl:x=a:=Option.some.inj k1
      rw [e2,O0 hiM] at k2
      obtain rfl:=Option.some.inj k2
      exact hP6
    ·refine hR _ (An.refl _) ⟨as,rfl,?_,e3⟩
     have hM0:pcM l.length=0:=by
      by_cases h0:l.length=0
      ·rw [h0];rfl
      ·exfalso
       have:=Oy (k:=i) (show 0<l.length by omega)
       omega
     rw [e2,hM0,Nat.min_zero,Nat.min_zero]
   ·intro D5 zs H5 hD5 s5 hPv h5
    obtain ⟨as,rfl,e2,e3⟩:=hPv
    rw [hl1,hl2,Nat.min_self] at e2
    refine q D5 as H5 (s4.trans s5) (s4.free hD5) h5 ⟨?_,e3⟩
    rw [e2,Eg]
    omega
theorem Zk {x:List Bool}{m m':Int}(hx:0<x.length)(h1:El x m)(h2:El x m'):m=m':=by
 rcases h1 with ⟨e,_⟩ | h1
 ·rw [e] at hx
  exact absurd hx (Nat.lt_irrefl _)
 ·rcases h2 with ⟨e,_⟩ | h2
  ·rw [e] at hx
   exact absurd hx (Nat.lt_irrefl _)
  ·exact h1.uniq h2
theorem K3 {x b:Addr}{H H':Hp}(s:SameBut x H H')(hb:b≠x)(h:H' b=none):H b=none:=by
 cases e:H b with
 | none=>rfl
 | some u =>
  rw [s b u hb e] at h
  cases h
def Fr4 (CR:Addr)(H H':Hp)(x p:Addr):Prop:=∃ (dr b k t o:Addr) (n:V),H' x=some (.ins CR dr (Zm (.ref p) (.ref b) (.ref k) n (.ref t) (.ref o)))/\H b=none/\H k=none/\H t=none/\H o=none
def Mz (C CR:Addr):Sp:=fun vs H Q _=>∃ (x dx p:Addr) (as:List Addr) (ls:List (List Bool)),vs=[.ref x,.ref p]/\H x=some (.ins CR dx [])/\H p=some (.lst (as.map V.ref))/\Pcs C H as ls/\Dt ls/\ls.length<=400/\∀ H',SameBut x H H'->Bk C CR H' x ls->Fr4 CR H H' x p->Q .non H'
theorem Q8 {f:Addr}{fd:FuncData}(F:Fun K "__init__" "PiecedRow.__init__" By f fd)(T:Txt K mg)(Z:Qa K aa)(Y:Qc K ab)(aU:Cal P w K mg base "running_sums" 1 ["numbers"] kX)(Wj:lO P w K mg base "Heights" "__init__" 1 ["self","length","table","often_least"] (R1 aa)):A9 P w K mg base CX0 2 f fd ["self","pieces"] (Mz ab aa):=by
 refine F.ok Fk (fun vs H Q E h=>?_) (fun cdv A outer s H vs Q E hr h=>?_)
 ·obtain ⟨x,dx,p,as,ls,rfl,_⟩:=h
  rfl
 ·obtain ⟨x,dx,p,as,ls,rfl,hx,hp,hP,hZ,hn,q⟩:=h
  refine ⟨_,(Ab (F9 (pv 0) (pv 1) rfl)
   (Ab (F9 (pv 0) (Bb aU (hr.mono (by decide:1<=_)) (Af (G5 rfl L4 (B4 (pv 1)) (fun _ _ _ _=>Co) (fun _ _ _ _=>(As B5 (by rfl) T.n_len Bs (Af (Fw K (pv 0)) Aa rfl)))) Aa rfl)) rfl)
   (Ab (F9 (pv 0) (Bb aU (hr.mono (by decide:1<=_)) (Af (G5 rfl Lz (B4 (pv 1)) (fun _ _ _ _=>Co) (fun _ _ _ _=>(Bd (eK K) (Fw K (pv 0)) Aj (fun _ _=>rfl)))) Aa rfl)) rfl)
   (Ab (Ox (i:=2) rfl L5 Fk.nd rfl rfl (bY rfl T.n_zip (Af (A6 (pv 0) rfl) (Af (A6 (pv 0) rfl) Aa rfl) rfl)) (fun _ _ _ _=>Co) (fun _ _ _ _=>(Am Be (Am Ei Aj (pv 0)) (pv 1))))
   (Ab (Ox (i:=3) rfl L7 Fk.nd rfl rfl (bY rfl T.n_zip (Af (pv 2) (Af (pv 1) Aa rfl) rfl)) (fun _ _ _ _=>Co) (fun _ _ _ _=>(Zh (Af (pv 0) (Af (Am A7 (pv 0) (Bd (eK K) (Fw K (pv 1)) Aj (fun _ _=>rfl))) (Af (Am A7 (pv 0) (Fw K (pv 1))) Aa rfl) rfl) rfl))))
   (Ai (Bl (oW Wj (hr.mono (by decide:1<=_)) rfl (Af (pv 0) (Af (Bd A8 (A6 (pv 0) rfl) (E8 C5 Aj) (fun _ _=>rfl)) (Af (pv 3) (Af (G5 rfl L8 (B4 (pv 1)) (fun _ _ _ _=>Co) (fun _ _ _ _=>(Fw K (pv 0)))) Aa rfl) rfl) rfl) rfl))))))))),?_⟩
  have hne:∀ a∈as,a≠x:=fun a ha e=>by
   obtain ⟨k,hk⟩:=List.getElem?_of_mem ha
   have hk1:=(List.getElem?_eq_some_iff.mp hk).1
   have hx2:ls[k]?=some (ls[k]'(by rw [<- hP.1];exact hk1)):=List.getElem?_eq_getElem _
   obtain ⟨d,t,m,g,o,h1,_⟩:=hP.2 k a _ hk hx2
   rw [e,hx] at h1
   cases h1
  have hpx:p≠x:=fun e=>by rw [e,hx] at hp;cases hp
  have hal:(as.map V.ref).length=ls.length:=by rw [List.length_map,hP.1]
  k_is
  refine Ef hx Z.cl Z.n_kept_pieces (show 0<1000 by decide) ?_
  rw [show Cl ("kept_pieces":Str) (V.ref p) []=Tz (.ref p) from rfl]
  have hx1:upd H x (.ins aa dx (Tz (.ref p))) x=some (.ins aa dx (Tz (.ref p))):=Ae
  have b1:SameBut x H (upd H x (.ins aa dx (Tz (.ref p)))):=Ce
  have hP1:=hP.but b1 hx hne
  have hp1:=b1 _ _ hpx hp
  generalize upd H x (.ins aa dx (Tz (.ref p)))=H1 at *
  k_is
  refine ⟨p,rfl,⟨_,SqL.of hp1⟩,?_⟩
  refine Fh (SqL.of hp1) (fun i=>nV ((ls.map List.length).take i)) rfl (fun i hi=>?_) (fun i v H2 R A hv s2 _ hA=>?_) (fun D2 H2 hD2 s2 h2=>?_)
  ·unfold nV
   rw [List.length_map,List.length_take]
   exact Ak (by omega)
  ·obtain ⟨a,y,rfl,ea,ey,hy⟩:=hP1.get hv
   obtain ⟨d,t,m,g,o,y1,y2,y3⟩:=hy
   k_is
   refine ⟨a,ab,d,_,_,rfl,s2 _ _ y1,Y.cl,Y.n_signs,rfl,?_⟩
   k_is
   have:=hZ i y ey
   refine ⟨_,rfl,Nat.le_of_lt (Ak (by rw [Ay];omega)),?_⟩
   rw [Ay]
   refine hA _ _ ?_ (An.refl _)
   rw [List.take_add_one,List.getElem?_map,ey]
   unfold nV
   rw [List.map_append]
   rfl
  rw [hal,List.take_of_length_le (by rw [List.length_map];exact Nat.le_refl _)] at h2
  k_is
  refine ⟨D2,ls.map List.length,rfl,h2,by rw [List.length_map];omega,fun bg H3 s3 hb3 hbg=>?_⟩
  have hbe:nV ((List.range ((ls.map List.length).length+1)).map fun i=>((ls.map List.length).take i).sum)=bgs ls:=by
   unfold bgs
   rw [List.length_map]
   exact congrArg nV (List.map_congr_left fun j _=>kW ls j)
  rw [hbe] at hbg
  have s13:=s2.trans s3
  have hbx:bg≠x:=(Ap (s2 _ _ hx1) hb3).symm
  have hx3:=s13 _ _ hx1
  have hp3:=s13 _ _ hp1
  have hP3:=hP1.kp (An.kp s13)
  have but3:=b1.trans s13.but
  k_is
  refine Ef hx3 Z.cl Z.n_begins (show 1<1000 by decide) ?_
  rw [show Cl ("begins":Str) (V.ref bg) (Tz (.ref p))=To (.ref p) (.ref bg) from rfl]
  have hx4:upd H3 x (.ins aa dx (To (.ref p) (.ref bg))) x=some (.ins aa dx (To (.ref p) (.ref bg))):=Ae
  have b4:SameBut x H3 (upd H3 x (.ins aa dx (To (.ref p) (.ref bg)))):=Ce
  have hP4:=hP3.but b4 hx3 hne
  have hp4:=b4 _ _ hpx hp3
  have hbg4:=b4 _ _ hbx hbg
  have but4:=but3.trans b4
  generalize upd H3 x (.ins aa dx (To (.ref p) (.ref bg)))=H4 at *
  k_is
  refine ⟨p,rfl,⟨_,SqL.of hp4⟩,?_⟩
  refine Fh (SqL.of hp4) (fun i=>nV ((kns ls).take i)) rfl (fun i hi=>?_) (fun i v H5 R A hv s5 _ hA=>?_) (fun D5 H5 hD5 s5 h5=>?_)
  ·unfold nV
   rw [List.length_map,List.length_take]
   exact Ak (by omega)
  ·obtain ⟨a,y,rfl,ea,ey,hy⟩:=hP4.get hv
   obtain ⟨d,t,m,g,o,y1,y2,y3⟩:=hy
   k_is
   refine ⟨a,ab,d,_,_,rfl,s5 _ _ y1,Y.cl,Y.n_kept_sums,rfl,?_⟩
   k_is
   refine X4 (SqT.of (s5 _ _ y2)) (v:=.int (y.count true:Nat)) rfl ?_
   refine hA _ _ ?_ (An.refl _)
   unfold kns
   rw [List.take_add_one,List.getElem?_map,ey]
   unfold nV
   rw [List.map_append]
   rfl
  rw [hal,List.take_of_length_le (by unfold kns;rw [List.length_map];exact Nat.le_refl _)] at h5
  k_is
  refine ⟨D5,kns ls,rfl,h5,by unfold kns;rw [List.length_map];omega,fun kn H6 s6 hk6 hkn=>?_⟩
  have hkl:(kns ls).length=ls.length:=by unfold kns;rw [List.length_map]
  rw [hkl] at hkn
  have s46:=s5.trans s6
  have hkx:kn≠x:=(Ap (s5 _ _ hx4) hk6).symm
  have hx6:=s46 _ _ hx4
  have hp6:=s46 _ _ hp4
  have hbg6:=s46 _ _ hbg4
  have hP6:=hP4.kp (An.kp s46)
  have but6:=but4.trans s46.but
  k_is
  refine Ef hx6 Z.cl Z.n_knots_ahead (show 2<1000 by decide) ?_
  rw [show Cl ("knots_ahead":Str) (V.ref kn) (To (.ref p) (.ref bg))=Um (.ref p) (.ref bg) (.ref kn) from rfl]
  have hx7:upd H6 x (.ins aa dx (Um (.ref p) (.ref bg) (.ref kn))) x=some (.ins aa dx (Um (.ref p) (.ref bg) (.ref kn))):=Ae
  have b7:SameBut x H6 (upd H6 x (.ins aa dx (Um (.ref p) (.ref bg) (.ref kn)))):=Ce
  have hP7:=hP6.but b7 hx6 hne
  have hp7:=b7 _ _ hpx hp6
  have hbg7:=b7 _ _ hbx hbg6
  have hkn7:=b7 _ _ hkx hkn
  have but7:=but6.trans b7
  generalize upd H6 x (.ins aa dx (Um (.ref p) (.ref bg) (.ref kn)))=H7 at *
  k_is
  refine ⟨x,aa,dx,_,.ref kn,rfl,hx7,Z.cl,Z.n_knots_ahead,rfl,?_⟩
  k_is
  refine ⟨x,aa,dx,_,.ref bg,rfl,hx7,Z.cl,Z.n_begins,rfl,?_⟩
  k_is
  refine ⟨kn,bg,rfl,⟨_,SqL.of hkn7⟩,⟨_,SqL.of hbg7⟩,?_⟩
  have hkl2:(nV ((List.range (ls.length+1)).map fun i=>((kns ls).take i).sum)).length=ls.length+1:=by unfold nV;rw [List.length_map,List.length_map,List.length_range]
  have kat:∀ {i:Nat} {v:V},(nV ((List.range (ls.length+1)).map fun i=>((kns ls).take i).sum))[i]?=some v->v=.int (((kns ls).take i).sum:Nat):=fun {i v} e=>by
   have hi:=Bw e
   rw [hkl2] at hi
   unfold nV at e
   rw [List.getElem?_map,List.getElem?_map,List.getElem?_range hi] at e
   exact (Option.some.inj e).symm
  refine qD (SqL.of hkn7) (SqL.of hbg7) (fun i=>((List.range i).map fun j=>2*(((kns ls).take j).sum:Int)-(bgn ls j:Int)).map V.int) rfl (fun i hi=>?_) (fun i v v2 H8 R A hv hv2 s8 _ hA=>?_) (fun D8 H8 hD8 s8 h8=>?_)
  ·rw [hkl2,eG] at hi
   rw [List.length_map,List.length_map,List.length_range]
   exact Ak (by omega)
  ·have hi:=Bw hv
   rw [hkl2] at hi
   rw [Hb (by omega)] at hv2
   obtain rfl:=kat hv
   obtain rfl:=Option.some.inj hv2
   k_is
   refine hA _ _ ?_ (An.refl _)
   rw [List.range_succ,List.map_append,List.map_append]
   rfl
  rw [hkl2,eG,Nat.min_self] at h8
  have hx8:=s8 _ _ hx7
  have hp8:=s8 _ _ hp7
  have hbg8:=s8 _ _ hbg7
  have hP8:=hP7.kp (An.kp s8)
  have but8:=but7.trans s8.but
  have hll:(((List.range (ls.length+1)).map fun j=>2*(((kns ls).take j).sum:Int)-(bgn ls j:Int)).map V.int).length=ls.length+1:=by rw [List.length_map,List.length_map,List.length_range]
  k_is
  refine ⟨D8,p,rfl,⟨_,SqL.of h8⟩,⟨_,SqL.of hp8⟩,?_⟩
  refine nY (SqL.of h8) (SqL.of hp8) (fun D i zs H'=>∃ rs:List Addr,zs=rs.map V.ref/\rs.length=i/\∀ (j:Nat) (r:Addr),rs[j]?=some r->uB H' ls r j) (fun D H' _ _=>⟨[],rfl,rfl,fun j r e=>by cases e⟩) (fun D i zs H' us o hD ⟨rs,e1,e2,e3⟩=>⟨rs,e1,e2,fun j r e x ex=>let ⟨m,g,r1,r2⟩:=e3 j r e x ex;⟨m,g,by rw [Aw (Lc r1 hD (by intro z;cases z))];exact r1,r2⟩⟩) ?_ (fun D i zs H' H'' s ⟨rs,e1,e2,e3⟩=>⟨rs,e1,e2,fun j r e x ex=>let ⟨m,g,r1,r2⟩:=e3 j r e x ex;⟨m,g,s _ _ r1,r2⟩⟩) ?_ ?_
  ·rintro D i zs H' hi ⟨rs,rfl,h,_⟩
   rw [List.length_map,h]
   rw [hll,hal] at hi
   exact Ak (by omega)
  ·rintro D i zs y y2 H9 A R hy hy2 s9 _ _ ⟨rs,rfl,hPv,hTR⟩ hA
   obtain ⟨z,hz,rfl⟩:=Kd hy
   have hil:=Bw hz
   rw [List.length_map,List.length_range] at hil
   rw [List.getElem?_map,List.getElem?_range hil] at hz
   obtain rfl:hB ls i=z:=Option.some.inj hz
   obtain ⟨a,c,rfl,ea,ec,hc⟩:=hP8.get hy2
   obtain ⟨d,t,m,g,o,y1,y2,y3⟩:=hc
   k_is
   refine ⟨a,ab,d,_,_,rfl,s9 _ _ y1,Y.cl,Y.n_kept_sums,rfl,?_⟩
   k_is
   refine X4 (SqT.of (s9 _ _ y2)) (v:=.int m) rfl ?_
   k_is
   refine ⟨a,ab,d,_,_,rfl,s9 _ _ y1,Y.cl,Y.n_greatest,rfl,?_⟩
   k_is
   refine ⟨few (by simp),fun tp htp=>?_⟩
   refine hA _ _ (Al htp) ⟨rs++[tp],by rw [List.map_append];rfl,by rw [List.length_append,hPv];rfl,fun j r e x ex=>?_⟩
   by_cases hj:j<rs.length
   ·rw [List.getElem?_append_left hj] at e
    obtain ⟨m',g',r1,r2⟩:=hTR j r e x ex
    exact ⟨m',g',Al htp _ _ r1,r2⟩
   ·rw [List.getElem?_append_right (by omega)] at e
    have hj1:j-rs.length=0:=by
     have:=Bw e
     simp at this
     omega
    rw [hj1] at e
    obtain rfl:tp=r:=Option.some.inj e
    obtain rfl:j=i:=by omega
    rw [ec] at ex
    obtain rfl:=Option.some.inj ex
    exact ⟨m,g,Ae,y3.1,y3.2.1⟩
  ·rintro D9 zs H9 hD9 s9 ⟨rs,rfl,hPv,hTR⟩ h9
   rw [hll,hal,Nat.min_eq_right (by omega)] at hPv
   have hkn9:=s9 _ _ (s8 _ _ hkn7)
   have hD9x:D9≠x:=(Ap hx8 hD9).symm
   have hx9:=s9 _ _ hx8
   have hp9:=s9 _ _ hp8
   have hbg9:=s9 _ _ hbg8
   have hP9:=hP8.kp (An.kp s9)
   have but9:=but8.trans s9.but
   k_is
   refine ⟨x,aa,dx,_,.ref bg,rfl,hx9,Z.cl,Z.n_begins,rfl,?_⟩
   k_is
   refine Bg (SqL.of hbg9) (v:=.int (ls.flatten.length:Nat)) ?_ ?_
   ·unfold bgs
    rw [R6,Gi]
    exact K7 _ _
   k_is
   refine ⟨p,rfl,⟨_,SqL.of hp9⟩,?_⟩
   refine P8 (SqL.of hp9) (fun i ys H'=>ys.length=i/\∀ (j:Nat) (v:V) (x:List Bool) (m:Int),ys[j]?=some v->ls[j]?=some x->El x m->v=.int ((hts x x.length).count m:Nat)) (fun _ _=>⟨rfl,fun j v x m e=>by cases e⟩) (fun i ys H' D zs o _ h=>h) (fun i ys H' hi h=>?_) ?_ ?_
   ·rw [h.1]
    rw [hal] at hi
    exact Ak (by omega)
   ·intro i ys y H10 A R hy s10 hPv2 hA
    obtain ⟨a,c,rfl,ea,ec,hc⟩:=hP9.get hy
    obtain ⟨d,t,m,g,o,y1,y2,y3⟩:=hc
    k_is
    refine ⟨a,ab,d,_,_,rfl,s10 _ _ y1,Y.cl,Y.n_often_least,rfl,?_⟩
    refine hA _ _ (An.refl _) ⟨by rw [List.length_append,hPv2.1];rfl,fun j v x m' e ex hm'=>?_⟩
    by_cases hj:j<ys.length
    ·rw [List.getElem?_append_left hj] at e
     exact hPv2.2 j v x m' e ex hm'
    ·rw [List.getElem?_append_right (by omega)] at e
     have hj1:j-ys.length=0:=by
      have:=Bw e
      simp at this
      omega
     rw [hj1] at e
     have hPv3:=hPv2.1
     obtain rfl:j=i:=by omega
     rw [ec] at ex
     obtain rfl:=Option.some.inj ex
     rw [<- Option.some.inj e,y3.2.2]
     obtain rfl:m=m':=Zk (hZ _ _ ec).1 y3.1 hm'
     rfl
   ·intro D10 ys H10 hD10 s10 hPv2 h10
    have hx10:=s10 _ _ hx9
    k_is
    refine ⟨x,dx,.ref p,.ref bg,.ref kn,_,_,_,rfl,hx10,?_⟩
    have b11:SameBut x H10 (upd H10 x (.ins aa dx (Zm (.ref p) (.ref bg) (.ref kn) (.int (ls.flatten.length:Nat)) (.ref D9) (.ref D10)))):=Ce
    have hD10x:D10≠x:=(Ap hx9 hD10).symm
    have kt:∀ {b:Addr} {xs:List V},H10 b=some (.tup xs)->upd H10 x (.ins aa dx (Zm (.ref p) (.ref bg) (.ref kn) (.int (ls.flatten.length:Nat)) (.ref D9) (.ref D10))) b=some (.tup xs):=fun {b xs} e=>b11 _ _ (Lc e hx10 (by intro z;cases z)) e
    refine q _ ((but9.trans s10.but).trans b11) ⟨dx,p,bg,_,_,_,Ae,⟨⟨as,b11 _ _ hpx (s10 _ _ hp9),(hP9.kp (An.kp s10)).but b11 hx10 hne⟩,b11 _ _ hbx (s10 _ _ hbg9),hZ,hn⟩,⟨kn,rfl,b11 _ _ hkx (s10 _ _ hkn9)⟩,⟨D9,rs,rfl,b11 _ _ hD9x (s10 _ _ h9),hPv,fun j r e x' ex=>let ⟨m,g,r1,r2⟩:=hTR j r e x' ex;⟨m,g,kt (s10 _ _ r1),r2⟩⟩,⟨D10,ys,rfl,b11 _ _ hD10x h10,by rw [hPv2.1,hal],hPv2.2⟩⟩ ⟨dx,bg,kn,D9,D10,_,Ae,K3 (b1.trans s2.but) hbx hb3,K3 (but4.trans s5.but) hkx hk6,K3 but8 hD9x hD9,K3 but9 hD10x hD10⟩
def Nv (C CR:Addr)(ts:List Tb):Sp:=fun vs H Q _=>∃ (x:Addr) (ls:List (List Bool)) (n:Nat),vs=[.ref x,.int n]/\Bk C CR H x ls/\Tbs ts H/\∀ (k:Nat) H',k<=ls.length->bgn ls k<=n->(k<ls.length->n<bgn ls (k+1))->SmT ts H H'->Q (.int k) H'
theorem Qh {f c Pt:Addr}{fd:FuncData}{ts:List Tb}(F:Te K "stretch_at" "PiecedRow.stretch_at" Bh f fd c Pt)(T:Txt K mg)(hK:K.In base)(hB:base.BuiltinsAt mg Pt)(hts:(⟨Pt,Ac,"PiecedRow.stretch_at.<locals>.<lambda>"⟩:Tb)∈ts)(Z:Qa K aa)(ar:Cal P w K mg base "first_that" 3 ["low","high","holds"] (Jx P w K mg base 2)):A9 P w K mg base CX0 4 f fd ["self","place"] (Nv ab aa ts):=by
 refine F.ok Jd (fun vs H Q E h=>?_) (fun A outer s H vs Q E hr h=>?_)
 ·obtain ⟨x,ls,n,rfl,_⟩:=h
  rfl
 ·obtain ⟨x,ls,n,rfl,hR,hT,q⟩:=h
  obtain ⟨dx,p,b,k,t,o,hx,hW,_⟩:=id hR
  obtain ⟨as,hp,hP⟩:=hW.pcs
  refine ⟨_,(Ai (At (Zs (qual:="PiecedRow.stretch_at.<locals>.<lambda>") (k:=1) ar (hr.mono (by decide:3<=_)) Aj (As Ar (by rfl) T.n_len Bs (Af (A6 (pv 0) rfl) Aa rfl)) (F.code hK) hB rfl (by kernel_rfl) Hj (fun _ _ _ _ _ _ _ hr=>(C2 Mb (Bd (Di K) (Fw K (pv 2)) (Am A7 (pv 0) Aj) (fun _ _=>rfl)) (pv 1) (Ax _)))))),?_⟩
  k_is
  refine ⟨x,aa,dx,_,_,rfl,hx,Z.cl,Z.n_kept_pieces,rfl,?_⟩
  k_is
  refine ⟨p,_,rfl,.inl (SqL.of hp),?_⟩
  rw [show (as.map V.ref).length=ls.length by rw [List.length_map,hP.1]]
  k_is
  have hk:=hT.1 _ hts
  refine ⟨0,(ls.length:Nat),fun i=>decide (n<bgn ls (i.toNat+1)),rfl,rfl,by omega,hk,fun i H3 hi1 hi2 s3=>?_,fun m H' hm1 hm2 hm3 hm4 s' t'=>?_⟩
  ·obtain ⟨pt,hpt⟩:=Tb.tbl hk
   have kp:∀ {b:Addr} {u:HO},(∀ ps,u≠.tbl ps)->H b=some u->H3 b=some u:=fun {b u} nt e=>s3 b u (fun z=>by rw [z,hpt] at e;cases e;exact nt pt rfl) e
   have hx3:=kp (by intro ps e;cases e) hx
   have hb3:=kp (by intro ps e;cases e) hW.bg
   k_is
   refine ⟨x,aa,dx,_,_,rfl,hx3,Z.cl,Z.n_begins,rfl,?_⟩
   k_is
   obtain ⟨k,rfl⟩:=Int.eq_ofNat_of_zero_le hi1
   refine Bg (SqL.of hb3) (v:=.int (bgn ls (k+1):Nat)) (Bc (j:=k+1) (Hb (show k+1<=ls.length by omega))) ?_
   k_is
   refine ⟨?_,An.refl _⟩
   rw [Int.toNat_natCast]
   exact congrArg V.bl (decide_eq_decide.mpr (by omega))
  ·obtain ⟨k,rfl⟩:=Int.eq_ofNat_of_zero_le hm1
   refine q k H' (by omega) ?_ (fun hlt=>?_) (kQ hT hts s' t')
   ·rcases Nat.eq_zero_or_pos k with rfl | hk0
    ·rw [Mu];exact Nat.zero_le _
    ·have:=hm3 (by omega)
     dsimp only at this
     rw [show (((k:Int)-1).toNat+1)=k by omega] at this
     have:=of_decide_eq_false this
     omega
   ·have:=hm4 (by omega)
    dsimp only at this
    rw [Int.toNat_natCast] at this
    exact of_decide_eq_true this
def eV (C CR:Addr)(ts:List Tb):Sp:=fun vs H Q _=>∃ (x:Addr) (ls:List (List Bool)) (n:Nat),vs=[.ref x,.int n]/\Bk C CR H x ls/\Tbs ts H/\∀ (k:Nat) H',k<=ls.length->(0<k->bgn ls (k-1)<n)->(k<ls.length->n<=bgn ls k)->SmT ts H H'->Q (.int k) H'
theorem Qm {f c Pt:Addr}{fd:FuncData}{ts:List Tb}(F:Te K "pieces_to" "PiecedRow.pieces_to" Bo f fd c Pt)(T:Txt K mg)(hK:K.In base)(hB:base.BuiltinsAt mg Pt)(hts:(⟨Pt,Ad,"PiecedRow.pieces_to.<locals>.<lambda>"⟩:Tb)∈ts)(Z:Qa K aa)(ar:Cal P w K mg base "first_that" 3 ["low","high","holds"] (Jx P w K mg base 2)):A9 P w K mg base CX0 4 f fd ["self","place"] (eV ab aa ts):=by
 refine F.ok Ju (fun vs H Q E h=>?_) (fun A outer s H vs Q E hr h=>?_)
 ·obtain ⟨x,ls,n,rfl,_⟩:=h
  rfl
 ·obtain ⟨x,ls,n,rfl,hR,hT,q⟩:=h
  obtain ⟨dx,p,b,k,t,o,hx,hW,_⟩:=id hR
  obtain ⟨as,hp,hP⟩:=hW.pcs
  refine ⟨_,(Ai (At (Zs (qual:="PiecedRow.pieces_to.<locals>.<lambda>") (k:=1) ar (hr.mono (by decide:3<=_)) Aj (As Ar (by rfl) T.n_len Bs (Af (A6 (pv 0) rfl) Aa rfl)) (F.code hK) hB rfl (by kernel_rfl) Ho (fun _ _ _ _ _ _ _ hr=>(C2 O5 (Bd (Di K) (Fw K (pv 2)) (pv 0) (fun _ _=>rfl)) (pv 1) (Ax _)))))),?_⟩
  k_is
  refine ⟨x,aa,dx,_,_,rfl,hx,Z.cl,Z.n_kept_pieces,rfl,?_⟩
  k_is
  refine ⟨p,_,rfl,.inl (SqL.of hp),?_⟩
  rw [show (as.map V.ref).length=ls.length by rw [List.length_map,hP.1]]
  k_is
  have hk:=hT.1 _ hts
  refine ⟨0,(ls.length:Nat),fun i=>decide (n<=bgn ls i.toNat),rfl,rfl,by omega,hk,fun i H3 hi1 hi2 s3=>?_,fun m H' hm1 hm2 hm3 hm4 s' t'=>?_⟩
  ·obtain ⟨pt,hpt⟩:=Tb.tbl hk
   have kp:∀ {b:Addr} {u:HO},(∀ ps,u≠.tbl ps)->H b=some u->H3 b=some u:=fun {b u} nt e=>s3 b u (fun z=>by rw [z,hpt] at e;cases e;exact nt pt rfl) e
   have hx3:=kp (by intro ps e;cases e) hx
   have hb3:=kp (by intro ps e;cases e) hW.bg
   k_is
   refine ⟨x,aa,dx,_,_,rfl,hx3,Z.cl,Z.n_begins,rfl,?_⟩
   k_is
   obtain ⟨k,rfl⟩:=Int.eq_ofNat_of_zero_le hi1
   refine Bg (SqL.of hb3) (v:=.int (bgn ls k:Nat)) (Bc (j:=k) (Hb (show k<=ls.length by omega))) ?_
   k_is
   refine ⟨?_,An.refl _⟩
   rw [Int.toNat_natCast]
   exact congrArg V.bl (decide_eq_decide.mpr (by omega))
  ·obtain ⟨k,rfl⟩:=Int.eq_ofNat_of_zero_le hm1
   refine q k H' (by omega) (fun hk0=>?_) (fun hlt=>?_) (kQ hT hts s' t')
   ·have:=hm3 (by omega)
    dsimp only at this
    rw [show ((k:Int)-1).toNat=k-1 by omega] at this
    have:=of_decide_eq_false this
    omega
   ·have:=hm4 (by omega)
    dsimp only at this
    rw [Int.toNat_natCast] at this
    exact of_decide_eq_true this
def C9 (C CR:Addr)(ts:List Tb):Sp:=fun vs H Q _=>∃ (x:Addr) (ls:List (List Bool)) (lo hi:Nat),vs=[.ref x,.int lo,.int hi]/\Bk C CR H x ls/\Tbs ts H/\lo<=hi/\hi<=ls.flatten.length/\∀ H',SmT ts H H'->Q (.str (Az ((ls.flatten.drop lo).take (hi-lo)))) H'
theorem jQ (xs:List V){a b:Nat}(h:b<=xs.length):La xs (some (a:Int)) (some (b:Int))=(xs.drop a).take (b-a):=by
 unfold La
 rw [HT.sIx_nat,HT.sIx_nat,Nat.min_eq_left h]
 by_cases ha:a<=xs.length
 ·rw [Nat.min_eq_left ha]
 ·rw [Nat.min_eq_right (by omega),List.drop_of_length_le (Nat.le_refl _),List.drop_of_length_le (by omega),List.take_nil,List.take_nil]
theorem Z7 {ls:List (List Bool)}(hZ:Dt ls){i j:Nat}(h:i<j)(hj:j<=ls.length):bgn ls i<bgn ls j:=by
 have hi:i<ls.length:=by omega
 have:=C6 (List.getElem?_eq_getElem hi)
 have h1:=(hZ i _ (List.getElem?_eq_getElem hi)).1
 have h2:=Cc (ls:=ls) (show i+1<=j by omega)
 omega
theorem U9 {ls:List (List Bool)}(hZ:Dt ls):∀ j,j<=ls.length->bgn ls j<=128*j
 | 0,_=>by rw [Mu];exact Nat.zero_le _
 | j+1,h=>by
  have h1:=U9 hZ j (by omega)
  have h2:=(hZ j _ (List.getElem?_eq_getElem (show j<ls.length by omega))).2
  rw [C6 (List.getElem?_eq_getElem (show j<ls.length by omega))]
  omega
theorem Qv {f:Addr}{fd:FuncData}{ts:List Tb}(F:Fun K "stretch" "PiecedRow.stretch" C0 f fd)(T:Txt K mg)(Z:Qa K aa)(Y:Qc K ab)(ad:Mth P w K mg base aa "stretch_at" 4 ["self","place"] (Nv ab aa ts))(aD:Mth P w K mg base aa "pieces_to" 4 ["self","place"] (eV ab aa ts)):A9 P w K mg base CX0 5 f fd ["self","low","high"] (C9 ab aa ts):=by
 refine F.ok Cr (fun vs H Q E h=>?_) (fun cdv A outer s H vs Q E hr h=>?_)
 ·obtain ⟨x,ls,lo,hi,rfl,_⟩:=h
  rfl
 ·obtain ⟨x,ls,lo,hi,rfl,hR,hT,hlh,hhi,q⟩:=h
  obtain ⟨dx,p,b,k,t,o,hx,hW,_⟩:=id hR
  obtain ⟨as,hp,hP⟩:=id hW.pcs
  refine ⟨_,(Ab (Aq (i:=3) Cr.nd rfl (Or.inl rfl) (A4 ad (hr.mono (by decide:4<=_)) (pv 0) (Af (pv 1) Aa rfl)))
   (Ab (Aq (i:=4) Cr.nd rfl (Or.inl rfl) (Ds PySem.F.plainAttrs_str PySem.F.slot_str_join PySem.F.type_str_join Ut Cz (Af (G5 rfl J3 (B4 (Ca Db (A6 (pv 0) rfl) (B8 (pv 3)) (B8 (A4 aD (hr.mono (by decide:4<=_)) (pv 0) (Af (pv 2) Aa rfl))))) (fun _ _ _ _=>Co) (fun _ _ _ _=>(Fw K (pv 0)))) Aa rfl)))
   (Ab (Aq (i:=5) Cr.nd rfl (Or.inl rfl) (Bd A8 (A6 (pv 0) rfl) (pv 3) (fun _ _=>rfl)))
   (Ai (At (Ca gT (pv 4) (B8 (Am Be (pv 1) (pv 5))) (B8 (Am Be (pv 2) (pv 5))))))))),?_⟩
  k_is
  refine ⟨x,dx,_,rfl,hx,rfl,?_⟩
  k_is
  refine ⟨x,ls,lo,rfl,hR,hT,fun k1 H1 hk1 ha1 hb1 s1=>?_⟩
  have hx1:=s1.k hx
  have hR1:=hR.kp s1.kp
  k_is
  refine ⟨rfl,?_⟩
  k_is
  refine ⟨x,aa,dx,_,_,rfl,hx1,Z.cl,Z.n_kept_pieces,rfl,?_⟩
  k_is
  refine ⟨x,dx,_,rfl,hx1,rfl,?_⟩
  k_is
  refine ⟨x,ls,hi,rfl,hR1,s1.ok,fun k2 H2 hk2 ha2 hb2 s2=>?_⟩
  have s12:=s1.trans s2
  have hx2:=s12.k hx
  have hp2:=s12.k hp
  have hW2:=hW.kp s12.kp
  have hP2:=hP.kp s12.kp
  have hkk:k1<=k2:=by
   by_cases h:k1<=k2
   ·exact h
   ·exfalso
    have h1:=hb2 (by omega)
    have h2:=Z7 hW.sz (show k2<k1 by omega) hk1
    omega
  have hend:hi<=bgn ls k2:=by
   by_cases h:k2<ls.length
   ·exact hb2 h
   ·rw [show k2=ls.length by omega,Gi];exact hhi
  have hal:(as.map V.ref).length=ls.length:=by rw [List.length_map,hP.1]
  k_is
  refine ⟨p,_,rfl,SqL.of hp2,fun D hD=>?_⟩
  rw [jQ _ (by rw [hal];exact hk2)] at *
  have uD:=Al (o:=.lst (((as.map V.ref).drop k1).take (k2-k1))) hD
  have hD2:upd H2 D (.lst (((as.map V.ref).drop k1).take (k2-k1))) D=some (.lst (((as.map V.ref).drop k1).take (k2-k1))):=Ae
  have hP3:=hP2.kp (An.kp uD)
  have hx3:=uD _ _ hx2
  have hbg3:=uD _ _ hW2.bg
  have s3:=s12.then uD
  generalize upd H2 D (.lst (((as.map V.ref).drop k1).take (k2-k1)))=H3 at *
  have hcl:(((as.map V.ref).drop k1).take (k2-k1)).length=k2-k1:=by rw [List.length_take,List.length_drop,hal];omega
  have hfw:=hW.fw
  k_is
  refine ⟨D,rfl,⟨_,SqL.of hD2⟩,?_⟩
  refine Fh (SqL.of hD2) (fun i=>(((ls.drop k1).take (k2-k1)).take i).map fun l=>V.str (Az l)) rfl (fun i hi=>?_) (fun i v H4 R A hv s4 _ hA=>?_) (fun D4 H4 hD4 s4 h4=>?_)
  ·rw [List.length_map,List.length_take,List.length_take,List.length_drop]
   exact Ak (by omega)
  ·have hi:=Bw hv
   rw [hcl] at hi
   rw [List.getElem?_take_of_lt hi,List.getElem?_drop] at hv
   obtain ⟨a,y,rfl,ea,ey,hy⟩:=hP3.get hv
   obtain ⟨d,t,m,g,o,y1,y2,y3⟩:=hy
   k_is
   refine ⟨a,ab,d,_,_,rfl,s4 _ _ y1,Y.cl,Y.n_signs,rfl,?_⟩
   refine hA _ _ ?_ (An.refl _)
   rw [List.take_add_one,List.getElem?_take_of_lt hi,List.getElem?_drop,ey,List.map_append]
   rfl
  rw [hcl,List.take_of_length_le (by rw [List.length_take];omega)] at h4
  have hfl:ls.flatten.length<=60000:=by
   have:=U9 hW.sz ls.length (Nat.le_refl _)
   rw [Gi] at this
   omega
  k_is
  refine Rj (ls:=(ls.drop k1).take (k2-k1)) h4 ?_ ?_
  ·rw [Y5 ls hkk,List.length_take,List.length_drop]
   omega
  rw [Y5 ls hkk]
  k_is
  refine ⟨x,aa,dx,_,_,rfl,s4 _ _ hx3,Z.cl,Z.n_begins,rfl,?_⟩
  k_is
  refine Bg (SqL.of (s4 _ _ hbg3)) (v:=.int (bgn ls k1:Nat)) (Bc (j:=k1) (Hb hk1)) ?_
  k_is
  refine ⟨_,rfl,Nat.le_of_lt (Ak (by rw [Ay,List.length_take,List.length_drop];omega)),?_⟩
  rw [show (lo:Int)-(bgn ls k1:Nat)=((lo-bgn ls k1:Nat):Int) by omega,show (hi:Int)-(bgn ls k1:Nat)=((hi-bgn ls k1:Nat):Int) by omega,Uq,show hi-bgn ls k1-(lo-bgn ls k1)=hi-lo by omega,mX ls.flatten ha1 hlh hend]
  exact q _ (s3.then s4)
def Vc (C CR:Addr)(ts:List Tb):Sp:=fun vs H Q _=>∃ (x:Addr) (ls:List (List Bool)),vs=[.ref x]/\Bk C CR H x ls/\Tbs ts H/\∀ H',SmT ts H H'->Q (.str (Az ls.flatten)) H'
theorem Wg {f:Addr}{fd:FuncData}{ts:List Tb}(F:Fun K "text" "Heights.text" G8 f fd)(T:Txt K mg)(Z:Qa K aa)(ag:Mth P w K mg base aa "stretch" 5 ["self","low","high"] (C9 ab aa ts)):A9 P w K mg base CX0 6 f fd ["self"] (Vc ab aa ts):=by
 refine F.ok Pi (fun vs H Q E h=>?_) (fun cdv A outer s H vs Q E hr h=>?_)
 ·obtain ⟨x,ls,rfl,_⟩:=h
  rfl
 ·obtain ⟨x,ls,rfl,hR,hT,q⟩:=h
  obtain ⟨dx,p,b,k,t,o,hx,hW,_⟩:=id hR
  refine ⟨_,(Ai (At (A4 ag (hr.mono (by decide:5<=_)) (pv 0) (Af Aj (Af (A6 (pv 0) rfl) Aa rfl) rfl)))),?_⟩
  k_is
  refine ⟨x,dx,_,rfl,hx,rfl,?_⟩
  k_is
  refine ⟨x,aa,dx,_,_,rfl,hx,Z.cl,Z.n_length,rfl,?_⟩
  k_is
  refine ⟨x,ls,0,ls.flatten.length,rfl,hR,hT,Nat.zero_le _,Nat.le_refl _,fun H' s'=>?_⟩
  rw [List.drop_zero,Nat.sub_zero,List.take_length]
  exact q H' s'
theorem Y0 (l:List Bool):hgt l 0=0:=by unfold hgt;simp
theorem eH (ls:List (List Bool))(j:Nat):((kns ls).take j).sum=(ls.flatten.take (bgn ls j)).count true:=by
 unfold kns
 rw [<- Op,List.count_flatten,<- List.map_take]
theorem qZ (ls:List (List Bool))(j:Nat):hB ls j=hgt ls.flatten (bgn ls j):=by
 unfold hB hgt
 rw [eH]
def knV (ls:List (List Bool)):List V:=nV ((List.range (ls.length+1)).map fun i=>((kns ls).take i).sum)
theorem Zo {ls:List (List Bool)}{j:Nat}(h:j<=ls.length):(knV ls)[j]?=some (.int ((ls.flatten.take (bgn ls j)).count true:Nat)):=by
 unfold knV nV
 rw [List.getElem?_map,List.getElem?_map,List.getElem?_range (by omega),<- eH]
 rfl
theorem Lq (l:List Bool){a n:Nat}(h:a<=n):(l.take n).count true=(l.take a).count true+((l.drop a).take (n-a)).count true:=by
 rw [<- List.count_append,<- List.take_add,Nat.add_sub_cancel' h]
def M7 (C CR:Addr)(ts:List Tb):Sp:=fun vs H Q _=>∃ (x:Addr) (ls:List (List Bool)) (n:Nat),vs=[.ref x,.int n]/\Bk C CR H x ls/\Tbs ts H/\n<=ls.flatten.length/\∀ H',SmT ts H H'->Q (.int ((ls.flatten.take n).count true:Nat)) H'
theorem Qe {f:Addr}{fd:FuncData}{ts:List Tb}(F:Fun K "opens_ahead" "PiecedRow.opens_ahead" C7 f fd)(T:Txt K mg)(Z:Qa K aa)(ad:Mth P w K mg base aa "stretch_at" 4 ["self","place"] (Nv ab aa ts))(ag:Mth P w K mg base aa "stretch" 5 ["self","low","high"] (C9 ab aa ts)):A9 P w K mg base CX0 6 f fd ["self","place"] (M7 ab aa ts):=by
 refine F.ok Es (fun vs H Q E h=>?_) (fun cdv A outer s H vs Q E hr h=>?_)
 ·obtain ⟨x,ls,n,rfl,_⟩:=h
  rfl
 ·obtain ⟨x,ls,n,rfl,hR,hT,hn,q⟩:=h
  obtain ⟨dx,p,b,k,t,o,hx,hW,hTb⟩:=id hR
  obtain ⟨ka,rfl,hka⟩:=hTb.kn
  refine ⟨_,(Ab (Aq (i:=2) Es.nd rfl (Or.inl rfl) (A4 ad (hr.mono (by decide:4<=_)) (pv 0) (Af (pv 1) Aa rfl)))
   (Ai (At (Am A7 (Bd A8 (A6 (pv 0) rfl) (pv 2) (fun _ _=>rfl)) (Ds PySem.F.plainAttrs_str PySem.F.slot_str_count PySem.F.type_str_count Ry (A4 ag (hr.mono (by decide:5<=_)) (pv 0) (Af (Bd A8 (A6 (pv 0) rfl) (pv 2) (fun _ _=>rfl)) (Af (pv 1) Aa rfl) rfl)) (Af Cz Aa rfl)))))),?_⟩
  k_is
  refine ⟨x,dx,_,rfl,hx,rfl,?_⟩
  k_is
  refine ⟨x,ls,n,rfl,hR,hT,fun k1 H1 hk1 ha1 hb1 s1=>?_⟩
  have hx1:=s1.k hx
  have hR1:=hR.kp s1.kp
  k_is
  refine ⟨x,aa,dx,_,_,rfl,hx1,Z.cl,Z.n_knots_ahead,rfl,?_⟩
  k_is
  refine Bg (SqL.of (s1.k hka)) (v:=.int ((ls.flatten.take (bgn ls k1)).count true:Nat)) (Bc (j:=k1) (Zo hk1)) ?_
  k_is
  refine ⟨x,dx,_,rfl,hx1,rfl,?_⟩
  k_is
  refine ⟨x,aa,dx,_,_,rfl,hx1,Z.cl,Z.n_begins,rfl,?_⟩
  k_is
  refine Bg (SqL.of (s1.k hW.bg)) (v:=.int (bgn ls k1:Nat)) (Bc (j:=k1) (Hb hk1)) ?_
  k_is
  refine ⟨x,ls,bgn ls k1,n,rfl,hR1,s1.ok,ha1,hn,fun H2 s2=>?_⟩
  k_is
  refine ⟨rfl,?_⟩
  k_is
  refine ⟨Az _,49,rfl,rfl,?_⟩
  rw [(Ot _).1]
  k_is
  have e:=Lq ls.flatten ha1
  have:=q H2 (s1.trans s2)
  rw [e] at this
  exact this
def Gd (C CR:Addr)(ts:List Tb):Sp:=fun vs H Q _=>∃ (x:Addr) (ls:List (List Bool)) (n:Nat),vs=[.ref x,.int n]/\Bk C CR H x ls/\Tbs ts H/\n<=ls.flatten.length/\∀ H',SmT ts H H'->Q (.int (hgt ls.flatten n)) H'
theorem Q5 {f:Addr}{fd:FuncData}{ts:List Tb}(F:Fun K "height" "Heights.height" F2 f fd)(T:Txt K mg)(Z:Qa K aa)(aE:Mth P w K mg base aa "opens_ahead" 6 ["self","place"] (M7 ab aa ts)):A9 P w K mg base CX0 7 f fd ["self","place"] (Gd ab aa ts):=by
 refine F.ok Na (fun vs H Q E h=>?_) (fun cdv A outer s H vs Q E hr h=>?_)
 ·obtain ⟨x,ls,n,rfl,_⟩:=h
  rfl
 ·obtain ⟨x,ls,n,rfl,hR,hT,hn,q⟩:=h
  obtain ⟨dx,p,b,k,t,o,hx,hW,hTb⟩:=id hR
  refine ⟨_,(Ai (At (Am Be (Am Ei Aj (A4 aE (hr.mono (by decide:6<=_)) (pv 0) (Af (pv 1) Aa rfl))) (pv 1)))),?_⟩
  k_is
  refine ⟨x,dx,_,rfl,hx,rfl,?_⟩
  k_is
  refine ⟨x,ls,n,rfl,hR,hT,hn,fun H1 s1=>?_⟩
  k_is
  exact q H1 s1
def Pr (C CR:Addr)(ts:List Tb):Sp:=fun vs H Q _=>∃ (x:Addr) (ls:List (List Bool)) (n:Nat),vs=[.ref x,.int n]/\Bk C CR H x ls/\Tbs ts H/\n<ls.flatten.length/\∀ H',SmT ts H H'->Q (.bl (ls.flatten.getD n false)) H'
theorem jZ {l:List Bool}{n:Nat}(h:n<l.length):(l.drop n).take (n+1-n)=[l.getD n false]:=by
 rw [Nat.add_sub_cancel_left,List.drop_eq_getElem_cons h,List.take_succ_cons,List.take_zero]
 unfold List.getD
 rw [List.getElem?_eq_getElem h]
 rfl
theorem Qg {f:Addr}{fd:FuncData}{ts:List Tb}(F:Fun K "is_opening" "PiecedRow.is_opening" Df f fd)(T:Txt K mg)(Z:Qa K aa)(ag:Mth P w K mg base aa "stretch" 5 ["self","low","high"] (C9 ab aa ts)):A9 P w K mg base CX0 6 f fd ["self","place"] (Pr ab aa ts):=by
 refine F.ok Jb (fun vs H Q E h=>?_) (fun cdv A outer s H vs Q E hr h=>?_)
 ·obtain ⟨x,ls,n,rfl,_⟩:=h
  rfl
 ·obtain ⟨x,ls,n,rfl,hR,hT,hn,q⟩:=h
  obtain ⟨dx,p,b,k,t,o,hx,hW,hTb⟩:=id hR
  refine ⟨_,(Ai (At (C2 Ew (A4 ag (hr.mono (by decide:5<=_)) (pv 0) (Af (pv 1) (Af (Am A7 (pv 1) Aj) Aa rfl) rfl)) Cz (Ax _)))),?_⟩
  k_is
  refine ⟨x,dx,_,rfl,hx,rfl,?_⟩
  k_is
  refine ⟨x,ls,n,n+1,by rw [show ((n+1:Nat):Int)=(n:Int)+1 by omega];rfl,hR,hT,by omega,hn,fun H1 s1=>?_⟩
  rw [jZ hn]
  k_is
  have:=q H1 s1
  cases hg:ls.flatten.getD n false with
  | true=>rw [hg] at this;exact this
  | false=>rw [hg] at this;exact this
def My (C CR:Addr):Sp:=fun vs H Q _=>∃ (x:Addr) (ls:List (List Bool)) (k:Nat),vs=[.ref x,.int k]/\Bk C CR H x ls/\k<=ls.length/\Q (.int (bgn ls k:Nat)) H
theorem Qr {f:Addr}{fd:FuncData}(F:Fun K "begin_of" "PiecedRow.begin_of" D0 f fd)(T:Txt K mg)(Z:Qa K aa):A9 P w K mg base CX0 1 f fd ["self","number"] (My ab aa):=by
 refine F.ok Kl (fun vs H Q E h=>?_) (fun cdv A outer s H vs Q E hr h=>?_)
 ·obtain ⟨x,ls,n,rfl,_⟩:=h
  rfl
 ·obtain ⟨x,ls,k,rfl,hR,hk,q⟩:=h
  obtain ⟨dx,p,b,kk,t,o,hx,hW,hTb⟩:=id hR
  refine ⟨_,(Ai (At (Bd A8 (A6 (pv 0) rfl) (pv 1) (fun _ _=>rfl)))),?_⟩
  k_is
  refine ⟨x,aa,dx,_,_,rfl,hx,Z.cl,Z.n_begins,rfl,?_⟩
  k_is
  refine Bg (SqL.of hW.bg) (v:=.int (bgn ls k:Nat)) (Bc (j:=k) (Hb hk)) ?_
  k_is
  exact q
theorem qV {y:List Bool}{q:Nat}(h:y[q]?=some true):(occ true y y.length)[(y.take q).count true]?=some q:=by
 have hq:=Bw h
 have hc:(occ true y q).length=(y.take q).count true:=by
  rw [(Py y q).1]
  rfl
 have e:occ true y (q+1)=occ true y q++[q]:=by
  rw [Jc]
  unfold List.getD
  rw [h]
  rfl
 have e2:(occ true y (q+1))[(y.take q).count true]?=some q:=by
  rw [e,<- hc,List.getElem?_append_right (Nat.le_refl _),Nat.sub_self]
  rfl
 rw [<- e2]
 exact nU (by omega) (by rw [e,List.length_append,hc];exact Nat.lt_succ_self _)
def Mg (C CR:Addr)(ts:List Tb):Sp:=fun vs H Q _=>∃ (x:Addr) (ls:List (List Bool)) (n p:Nat),vs=[.ref x,.int n]/\Bk C CR H x ls/\Tbs ts H/\ls.flatten[p]?=some true/\(ls.flatten.take p).count true=n/\∀ H',SmT ts H H'->Q (.int (p:Nat)) H'
theorem kT {ls:List (List Bool)}{k p:Nat}{y:List Bool}(hy:ls[k]?=some y)(h1:bgn ls k<=p)(h2:p<bgn ls (k+1)):ls.flatten[p]?=y[p-bgn ls k]?:=by
 have e:=Lr ls k
 have hk:=Bw hy
 have hd:ls.drop k=y::ls.drop (k+1):=by
  rw [List.drop_eq_getElem_cons hk]
  rw [List.getElem?_eq_getElem hk] at hy
  rw [Option.some.inj hy]
 rw [hd,List.flatten_cons] at e
 have hb:=C6 hy
 have:(ls.flatten.drop (bgn ls k))[p-bgn ls k]?=ls.flatten[p]?:=by rw [List.getElem?_drop,Nat.add_sub_cancel' h1]
 rw [<- this,<- e,List.getElem?_append_left (by omega)]
theorem Sh {ls:List (List Bool)}{k p:Nat}{y:List Bool}(hy:ls[k]?=some y)(h1:bgn ls k<=p)(h2:p<=bgn ls (k+1)):(ls.flatten.drop (bgn ls k)).take (p-bgn ls k)=y.take (p-bgn ls k):=by
 have e:=Lr ls k
 have hk:=Bw hy
 have hd:ls.drop k=y::ls.drop (k+1):=by
  rw [List.drop_eq_getElem_cons hk]
  rw [List.getElem?_eq_getElem hk] at hy
  rw [Option.some.inj hy]
 rw [hd,List.flatten_cons] at e
 have hb:=C6 hy
 rw [<- e,List.take_append_of_le_length (by omega)]
theorem Qu {f c Pt:Addr}{fd:FuncData}{ts:List Tb}(F:Te K "opening" "PiecedRow.opening" Bm f fd c Pt)(T:Txt K mg)(hK:K.In base)(hB:base.BuiltinsAt mg Pt)(hts:(⟨Pt,Ag,"PiecedRow.opening.<locals>.<lambda>"⟩:Tb)∈ts)(Z:Qa K aa)(Y:Qc K ab)(ar:Cal P w K mg base "first_that" 3 ["low","high","holds"] (Jx P w K mg base 2)):A9 P w K mg base CX0 4 f fd ["self","number"] (Mg ab aa ts):=by
 refine F.ok Cq (fun vs H Q E h=>?_) (fun A outer s H vs Q E hr h=>?_)
 ·obtain ⟨x,ls,n,p,rfl,_⟩:=h
  rfl
 ·obtain ⟨x,ls,n,pp,rfl,hR,hT,hpp,hcn,q⟩:=h
  obtain ⟨dx,p,b,k,t,o,hx,hW,hTb⟩:=id hR
  obtain ⟨ka,rfl,hka⟩:=hTb.kn
  obtain ⟨as,hp,hP⟩:=hW.pcs
  refine ⟨_,(Ab (Aq (i:=2) Cq.nd rfl (Or.inl rfl) (Zs (qual:="PiecedRow.opening.<locals>.<lambda>") (k:=1) ar (hr.mono (by decide:3<=_)) Aj (As Ar (by rfl) T.n_len Bs (Af (A6 (pv 0) rfl) Aa rfl)) (F.code hK) hB rfl (by kernel_rfl) Im (fun _ _ _ _ _ _ _ hr=>(C2 Mb (Bd (Di K) (Fw K (pv 2)) (Am A7 (pv 0) Aj) (fun _ _=>rfl)) (pv 1) (Ax _)))))
   (Ab (Aq (i:=3) Cq.nd rfl (Or.inl rfl) (A6 (Bd A8 (A6 (pv 0) rfl) (pv 2) (fun _ _=>rfl)) rfl))
   (Ab (Ox (i:=4) rfl Jp Cq.nd rfl rfl (fJ rfl T.n_enumerate (Af (pv 3) Aa rfl) (Wu (Bd A8 (A6 (pv 0) rfl) (pv 2) (fun _ _=>rfl)) cW)) (fun _ _ _ _=>Gf (Av Ew (pv 1) Cz (Ax _))) (fun _ _ _ _=>(pv 0)))
   (Ai (At (Bd A8 (pv 4) (Am Be (pv 1) (Bd A8 (A6 (pv 0) rfl) (pv 2) (fun _ _=>rfl))) (fun _ _=>rfl))))))),?_⟩
  k_is
  refine ⟨x,aa,dx,_,_,rfl,hx,Z.cl,Z.n_kept_pieces,rfl,?_⟩
  k_is
  refine ⟨p,_,rfl,.inl (SqL.of hp),?_⟩
  rw [show (as.map V.ref).length=ls.length by rw [List.length_map,hP.1]]
  k_is
  have hk:=hT.1 _ hts
  refine ⟨0,(ls.length:Nat),fun i=>decide (n<(ls.flatten.take (bgn ls (i.toNat+1))).count true),rfl,rfl,by omega,hk,fun i H3 hi1 hi2 s3=>?_,fun m H' hm1 hm2 hm3 hm4 s' t'=>?_⟩
  ·obtain ⟨pt,hpt⟩:=Tb.tbl hk
   have kp:∀ {b:Addr} {u:HO},(∀ ps,u≠.tbl ps)->H b=some u->H3 b=some u:=fun {b u} nt e=>s3 b u (fun z=>by rw [z,hpt] at e;cases e;exact nt pt rfl) e
   have hx3:=kp (by intro ps e;cases e) hx
   have hk3:=kp (by intro ps e;cases e) hka
   k_is
   refine ⟨x,aa,dx,_,_,rfl,hx3,Z.cl,Z.n_knots_ahead,rfl,?_⟩
   k_is
   obtain ⟨k,rfl⟩:=Int.eq_ofNat_of_zero_le hi1
   refine Bg (SqL.of hk3) (v:=.int ((ls.flatten.take (bgn ls (k+1))).count true:Nat)) (Bc (j:=k+1) (Zo (show k+1<=ls.length by omega))) ?_
   k_is
   refine ⟨?_,An.refl _⟩
   rw [Int.toNat_natCast]
   exact congrArg V.bl (decide_eq_decide.mpr (by omega))
  ·obtain ⟨m,rfl⟩:=Int.eq_ofNat_of_zero_le hm1
   have sm:=kQ hT hts s' t'
   have hlt:=Bw hpp
   have hup:n<(ls.flatten.take ls.flatten.length).count true:=by
    rw [<- hcn]
    exact Nu hpp hlt
   have hml:m<ls.length:=by
    by_cases h:m<ls.length
    ·exact h
    ·exfalso
     by_cases h0:m=0
     ·have e0:ls=[]:=List.eq_nil_of_length_eq_zero (by omega)
      rw [e0] at hlt
      exact absurd hlt (Nat.not_lt_zero _)
     ·have:=hm3 (by omega)
      dsimp only at this
      rw [show ((m:Int)-1).toNat+1=ls.length by omega,Gi] at this
      exact of_decide_eq_false this hup
   have hlo:(ls.flatten.take (bgn ls m)).count true<=n:=by
    rcases Nat.eq_zero_or_pos m with rfl | h0
    ·rw [Mu];exact Nat.zero_le _
    ·have:=hm3 (by omega)
     dsimp only at this
     rw [show ((m:Int)-1).toNat+1=m by omega] at this
     exact Nat.le_of_not_lt (of_decide_eq_false this)
   have hhi:n<(ls.flatten.take (bgn ls (m+1))).count true:=by
    have:=hm4 (by omega)
    dsimp only at this
    rw [Int.toNat_natCast] at this
    exact of_decide_eq_true this
   have hp1:bgn ls m<=pp:=by
    by_cases h:bgn ls m<=pp
    ·exact h
    ·have:=Nu hpp (show pp<bgn ls m by omega)
     omega
   have hp2:pp<bgn ls (m+1):=by
    by_cases h:pp<bgn ls (m+1)
    ·exact h
    ·have e:=Lq ls.flatten (show bgn ls (m+1)<=pp by omega)
     omega
   obtain ⟨a,y,ea,ey,hy⟩:∃ a y,as[m]?=some a/\ls[m]?=some y/\Hu ab H a y:=by
    have e2:as[m]?=some (as[m]'(by rw [hP.1];exact hml)):=List.getElem?_eq_getElem _
    exact ⟨_,_,e2,List.getElem?_eq_getElem hml,hP.2 m _ _ e2 (List.getElem?_eq_getElem hml)⟩
   obtain ⟨d,t',m',g,o,y1,y2,y3⟩:=hy
   k_is
   refine ⟨x,aa,dx,_,_,rfl,sm.k hx,Z.cl,Z.n_kept_pieces,rfl,?_⟩
   k_is
   refine Bg (SqL.of (sm.k hp)) (v:=.ref a) (Bc (j:=m) (by rw [List.getElem?_map,ea];rfl)) ?_
   k_is
   refine ⟨a,ab,d,_,_,rfl,sm.k y1,Y.cl,Y.n_signs,rfl,?_⟩
   k_is
   refine ⟨x,aa,dx,_,_,rfl,sm.k hx,Z.cl,Z.n_begins,rfl,?_⟩
   k_is
   refine Bg (SqL.of (sm.k hW.bg)) (v:=.int (bgn ls m:Nat)) (Bc (j:=m) (Hb (Nat.le_of_lt hml))) ?_
   k_is
   have hsz:=hW.sz m y ey
   have hfw:=hW.fw
   have hbl:=U9 hW.sz m (Nat.le_of_lt hml)
   refine ⟨_,_,rfl,rfl,by omega,?_⟩
   refine fX (fun i=>(occ true y i).map fun q=>V.int ((bgn ls m+q:Nat):Int)) rfl (fun i hi=>?_) (fun i c H4 R A hc s4 hR4 hA4=>?_) (fun D H4 hD s4 h4=>?_)
   ·rw [List.length_map]
    refine Ak ?_
    have e1:=(Py y i).1
    have e2:=(Py y i).2
    rw [show (Az y).cps.size=y.length from Ay y] at hi
    omega
   ·obtain ⟨bb,hb,rfl⟩:=Nb hc
    k_is
    refine Bz (fun h1=>?_) (fun h1=>?_)
    ·have e:bb=true:=by cases bb with | true=>rfl | false=>exact absurd h1 (by decide)
     subst e
     k_is
     refine hA4 _ _ ?_ (An.refl _)
     rw [Jc]
     unfold List.getD
     rw [hb,List.map_append]
     rfl
    ·have e:bb=false:=by cases bb with | false=>rfl | true=>exact absurd rfl h1
     subst e
     refine hR4 ?_ _ (An.refl _)
     rw [Jc]
     unfold List.getD
     rw [hb,List.map_append]
     exact List.append_nil _
   ·rw [show (Az y).cps.size=y.length from Ay y] at h4
    have hqq:y[pp-bgn ls m]?=some true:=by rw [<- kT ey hp1 hp2];exact hpp
    have hoc:=qV hqq
    have hcc:(y.take (pp-bgn ls m)).count true+(ls.flatten.take (bgn ls m)).count true=n:=by
     rw [<- Sh ey hp1 (Nat.le_of_lt hp2),Nat.add_comm,<- Lq _ hp1,hcn]
    have sm4:=sm.then s4
    k_is
    refine ⟨x,aa,dx,_,_,rfl,sm4.k hx,Z.cl,Z.n_knots_ahead,rfl,?_⟩
    k_is
    refine Bg (SqL.of (sm4.k hka)) (v:=.int ((ls.flatten.take (bgn ls m)).count true:Nat)) (Bc (j:=m) (Zo (Nat.le_of_lt hml))) ?_
    k_is
    rw [show (n:Int)-((ls.flatten.take (bgn ls m)).count true:Nat)=((y.take (pp-bgn ls m)).count true:Nat) by omega]
    refine Bg (SqL.of h4) (v:=.int (pp:Nat)) (Bc (by rw [List.getElem?_map,hoc];show some (V.int ((bgn ls m+(pp-bgn ls m):Nat):Int))=_;rw [Nat.add_sub_cancel' hp1])) ?_
    k_is
    exact q H4 sm4
theorem Tbs.keepN {ts:List Tb}{H:Hp}{p:Addr}{o o':HO}(h:Tbs ts H)(hp:H p=some o')(nt:∀ ps,o'≠.tbl ps:=by intro ps e;cases e)(nf:∀ a b,o'≠.frz a b:=by intro a b e;cases e):Tbs ts (upd H p o):=by
 refine ⟨fun t ht=>?_,h.2⟩
 obtain ⟨ps,e1,e2,e3⟩:=h.1 t ht
 exact ⟨ps,by rw [Aw (fun z=>by rw [z,hp] at e1;exact nt _ (Option.some.inj e1))];exact e1,e2,e3.imp id fun ⟨c,oc,a1,a2,a3⟩=>⟨c,oc,a1,by rw [Aw (fun z=>by rw [z,hp] at a2;exact nf _ _ (Option.some.inj a2))];exact a2,a3⟩⟩
theorem SmT.push {ts:List Tb}{H H1:Hp}{p:Addr}{o:HO}{xs:List V}(s:SmT ts H H1)(hp:H p=none)(hl:H1 p=some (.lst xs)):SmT ts H (upd H1 p o):=by
 refine ⟨⟨fun b u n e=>?_,fun b ps e=>?_⟩,s.ok.keepN hl⟩
 ·rw [Aw (Ap e hp)]
  exact s.sm.keep b u n e
 ·rw [Aw (Ap e hp)]
  exact s.sm.tb b ps e
theorem mE (l:List Bool)(a m j:Nat)(hj:j<=m):hgt l a+hgt ((l.drop a).take m) j=hgt l (a+j):=by
 unfold hgt
 rw [List.take_add,List.count_append,List.take_take,Nat.min_eq_left hj]
 omega
def hw (l:List Bool)(lo hi:Nat):List Int:=(List.range (hi-lo)).map fun j=>hgt l (lo+j+1)
theorem Ga (l:List Bool)(lo hi:Nat):(hw l lo hi).length=hi-lo:=by unfold hw;rw [List.length_map,List.length_range]
theorem Pb {l:List Bool}{lo hi j:Nat}(h:j<hi-lo):(hw l lo hi)[j]?=some (hgt l (lo+j+1)):=by unfold hw;rw [List.getElem?_map,List.getElem?_range h];rfl
theorem sX {l:List Bool}{lo hi:Nat}{x:Int}(h:x∈hw l lo hi):∃ i,lo<i/\i<=hi/\hgt l i=x:=by
 unfold hw at h
 obtain ⟨j,hj,e⟩:=List.mem_map.mp h
 have:=List.mem_range.mp hj
 exact ⟨lo+j+1,by omega,by omega,e⟩
theorem Zj {l:List Bool}{lo hi i:Nat}(h1:lo<i)(h2:i<=hi):hgt l i∈hw l lo hi:=by
 unfold hw
 exact List.mem_map.mpr ⟨i-lo-1,List.mem_range.mpr (by omega),by rw [show lo+(i-lo-1)+1=i by omega]⟩
theorem qM {l:List Bool}{lo hi:Nat}(h1:lo<=hi)(h2:hi<=l.length):htB ((l.drop lo).take (hi-lo)) (hgt l lo) ((l.drop lo).take (hi-lo)).length=hw l lo hi:=by
 have e:((l.drop lo).take (hi-lo)).length=hi-lo:=by rw [List.length_take,List.length_drop];omega
 rw [e]
 unfold htB hts hw
 rw [List.map_map]
 refine List.map_congr_left fun j hj=>?_
 have:=List.mem_range.mp hj
 show hgt l lo+hgt ((l.drop lo).take (hi-lo)) (j+1)=_
 rw [mE l lo (hi-lo) (j+1) (by omega)]
 rfl
theorem N3 {l:List Bool}{a b c:Nat}(h1:a<=b)(h2:b<=c):hw l a c=hw l a b++hw l b c:=by
 refine List.ext_getElem? fun i=>?_
 by_cases hi:i<b-a
 ·rw [Pb (by omega),List.getElem?_append_left (by rw [Ga];exact hi),Pb hi]
 ·by_cases hi2:i<c-a
  ·rw [Pb hi2,List.getElem?_append_right (by rw [Ga];omega),Ga,Pb (by omega),show b+(i-(b-a))+1=a+i+1 by omega]
  ·rw [List.getElem?_eq_none (by rw [Ga];omega),List.getElem?_eq_none (by rw [List.length_append,Ga,Ga];omega)]
structure iC (ls:List (List Bool)) (lo hi:Nat) (los his:List Nat):Prop where
 ln:los.length=his.length
 nil:¬ lo<hi->los.length=0
 fst:lo<hi->los[0]?=some lo
 nxt:∀ (i b:Nat),his[i]?=some b->b=los.getD (i+1) hi
 at':∀ (i a b:Nat),los[i]?=some a->his[i]?=some b->a<b/\lo<=a/\b<=hi/\∃ k,k<ls.length/\bgn ls k<=a/\b<=bgn ls (k+1)
def Ik (C CR:Addr)(ts:List Tb):Sp:=fun vs H Q _=>∃ (x:Addr) (ls:List (List Bool)) (lo:Nat) (hi:Int),vs=[.ref x,.int lo,.int hi]/\Bk C CR H x ls/\Tbs ts H/\hi<=(ls.flatten.length:Int) /\
 ∀ p as los his H',SmT ts H H'->H p=none->H' p=some (.lst (as.map V.ref))->pN H H' as (nV los) (nV his)->iC ls lo hi.toNat los his->los.length<=401->Q (.ref p) H'
theorem Q9 {f:Addr}{fd:FuncData}{ts:List Tb}(F:Fun K "parts" "Heights.parts" Ex f fd)(T:Txt K mg)(Z:Qa K aa)(ad:Mth P w K mg base aa "stretch_at" 4 ["self","place"] (Nv ab aa ts))(az:Mth P w K mg base aa "begin_of" 1 ["self","number"] (My ab aa)):A9 P w K mg base CX0 5 f fd ["self","low","high"] (Ik ab aa ts):=by
 refine F.ok Jl (fun vs H Q E h=>?_) (fun cdv A outer s H vs Q E hr h=>?_)
 ·obtain ⟨x,ls,lo,hi,rfl,_⟩:=h
  rfl
 ·obtain ⟨x,ls,lo,hi,rfl,hR,hT,hl,q⟩:=h
  obtain ⟨dx,p,b,k,t,o,hx,hW,hTb⟩:=id hR
  have hfw:=hW.fw
  refine ⟨_,(Ab (B3 (Av O5 (pv 1) (pv 2) (Ax _)) (Ai (At (Br Aa)))
   Ba)
   (Ab (Io (i:=3) rfl Mh Jl.nd rfl rfl (Od rfl T.n_range (Af (Am A7 (A4 ad (hr.mono (by decide:4<=_)) (pv 0) (Af (pv 1) Aa rfl)) Aj) (Af (Am A7 (A4 ad (hr.mono (by decide:4<=_)) (pv 0) (Af (Am Be (pv 2) Aj) Aa rfl)) Aj) Aa rfl) rfl)) (fun _ _ _ _=>Co) (fun _ _ _ _=>(A4 az (hr.mono (by decide:1<=_)) (pv 1) (Af (pv 0) Aa rfl))))
   (Ai (At (lP rfl rfl T.n_list rfl T.n_zip (Af (Am F5 (Br (Af (pv 1) Aa rfl)) (pv 3)) (Af (Am F5 (pv 3) (Br (Af (pv 2) Aa rfl))) Aa rfl) rfl)))))),?_⟩
  k_is
  refine Bz (fun h0=>?_) (fun h0=>?_)
  ·k_is
   refine ⟨Nat.zero_le _,fun p hp=>?_⟩
   exact q p [] [] [] _ (SmT.of hT (Al hp)) hp Ae ⟨rfl,fun i t x y e=>by cases e⟩ ⟨rfl,fun _=>rfl,fun h=>absurd h (by omega),fun i b e=>(by cases e),fun i a b e=>(by cases e)⟩ (Nat.zero_le _)
  ·obtain ⟨hn,rfl⟩:∃ hn:Nat,hi=(hn:Int):=⟨hi.toNat,by omega⟩
   rw [Int.toNat_natCast] at q
   have hlt:lo<hn:=by omega
   k_is
   refine ⟨x,dx,_,rfl,hx,rfl,?_⟩
   k_is
   refine ⟨x,ls,lo,rfl,hR,hT,fun k1 H1 hk1 ha1 hb1 s1=>?_⟩
   k_is
   refine ⟨x,dx,_,rfl,s1.k hx,rfl,?_⟩
   k_is
   refine ⟨x,ls,hn-1,by rw [show ((hn-1:Nat):Int)=(hn:Int)-1 by omega];rfl,hR.kp s1.kp,s1.ok,fun k2 H2 hk2 ha2 hb2 s2=>?_⟩
   have s12:=s1.trans s2
   have hR2:=hR.kp s12.kp
   have hx2:=s12.k hx
   have hk2l:k2<ls.length:=by
    by_cases h:k2<ls.length
    ·exact h
    ·obtain rfl:k2=ls.length:=by omega
     rw [Gi] at ha2
     omega
   have hb2:=hb2 hk2l
   have hk12:k1<=k2:=by
    by_cases h:k1<=k2
    ·exact h
    ·have:=Cc (ls:=ls) (show k2+1<=k1 by omega)
     omega
   k_is
   refine ⟨_,_,rfl,⟨by omega,by omega,by omega,by omega⟩,?_⟩
   rw [show ((k2:Int)+1-((k1:Int)+1)).toNat=k2-k1 by omega]
   refine G7 (fun i=>nV ((List.range i).map fun j=>bgn ls (k1+1+j))) rfl (fun i hi=>?_) (fun i H3 R A hi s3 _ hA=>?_) (fun D1 H3 hD1 s3 h1=>?_)
   ·rw [Cn,List.length_map,List.length_range]
    exact Ak (by omega)
   ·k_is
    refine ⟨x,dx,_,rfl,s3 _ _ hx2,rfl,?_⟩
    k_is
    refine ⟨x,ls,k1+1+i,by rw [show ((k1+1+i:Nat):Int)=(k1:Int)+1+(i:Int) by omega];rfl,hR2.kp (An.kp s3),by omega,?_⟩
    refine hA _ _ ?_ (An.refl _)
    rw [List.range_succ,List.map_append]
    unfold nV
    rw [List.map_append]
    rfl
   have t3:=s12.then s3
   obtain ⟨cs,hcs⟩:∃ cs,cs=(List.range (k2-k1)).map fun j=>bgn ls (k1+1+j):=⟨_,rfl⟩
   have hcl:cs.length=k2-k1:=by rw [hcs,List.length_map,List.length_range]
   rw [<- hcs] at h1
   k_is
   refine ⟨few (by simp),fun a1 hf1=>?_⟩
   have u1:=Al (o:=.lst [V.int (lo:Int)]) hf1
   have e1:upd H3 a1 (.lst [V.int (lo:Int)]) a1=some (.lst [V.int (lo:Int)]):=Ae
   have h12:=u1 _ _ h1
   have t4:=t3.then u1
   generalize upd H3 a1 (.lst [V.int (lo:Int)])=H4 at *
   k_is
   refine ⟨a1,D1,_,_,rfl,rfl,e1,h12,Nat.le_of_lt (Ak (by rw [Cn,hcl,List.length_singleton];omega)),fun a2 hf2=>?_⟩
   have u2:=Al (o:=.lst ([V.int (lo:Int)]++nV cs)) hf2
   have e2:upd H4 a2 (.lst ([V.int (lo:Int)]++nV cs)) a2=some (.lst (nV (lo::cs))):=Ae
   have h13:=u2 _ _ h12
   have t5:=t4.then u2
   generalize upd H4 a2 (.lst ([V.int (lo:Int)]++nV cs))=H5 at *
   k_is
   refine ⟨few (by simp),fun a3 hf3=>?_⟩
   have u3:=Al (o:=.lst [V.int (hn:Int)]) hf3
   have e3:upd H5 a3 (.lst [V.int (hn:Int)]) a3=some (.lst [V.int (hn:Int)]):=Ae
   have h14:=u3 _ _ h13
   have e23:=u3 _ _ e2
   have t6:=t5.then u3
   generalize upd H5 a3 (.lst [V.int (hn:Int)])=H6 at *
   k_is
   refine ⟨D1,a3,_,_,rfl,rfl,h14,e3,Nat.le_of_lt (Ak (by rw [Cn,hcl,List.length_singleton];omega)),fun a4 hf4=>?_⟩
   have u4:=Al (o:=.lst (nV cs++[V.int (hn:Int)])) hf4
   have e4:upd H6 a4 (.lst (nV cs++[V.int (hn:Int)])) a4=some (.lst (nV (cs++[hn]))):=by rw [Ae,<- W7];rfl
   have e24:=u4 _ _ e23
   have t7:=t6.then u4
   generalize upd H6 a4 (.lst (nV cs++[V.int (hn:Int)]))=H7 at *
   k_is
   have hll:(lo::cs).length=(cs++[hn]).length:=by rw [List.length_cons,List.length_append];rfl
   refine ⟨a2,a4,_,_,rfl,SqL.of e24,SqL.of e4,by rw [Cn,Cn,hll],fun p as H8 s8 hp0 hp hN=>?_⟩
   have t8:=t7.then s8
   have cat:∀ i,i<k2-k1->cs[i]?=some (bgn ls (k1+1+i)):=fun i hi=>by rw [hcs,List.getElem?_map,List.getElem?_range hi];rfl
   refine q p as (lo::cs) (cs++[hn]) H8 t8 (t7.sm.free hp0) hp ⟨hN.1,fun i t' x' y' g1 g2 g3=>?_⟩ ⟨hll,fun h=>absurd hlt h,fun _=>rfl,fun i b e=>?_,fun i a b ea eb=>?_⟩ (by rw [List.length_cons,hcl];omega)
   ·obtain ⟨n1,n2⟩:=hN.2 i t' x' y' g1 g2 g3
    exact ⟨t7.sm.free n1,n2⟩
   ·show b=cs.getD i hn
    by_cases hi:i<k2-k1
    ·rw [List.getElem?_append_left (by omega)] at e
     unfold List.getD
     rw [e]
     rfl
    ·have hi2:=Bw e
     rw [List.length_append,hcl] at hi2
     obtain rfl:i=cs.length:=by simp only [List.length_cons,List.length_nil] at hi2;omega
     rw [List.getElem?_append_right (Nat.le_refl _),Nat.sub_self] at e
     unfold List.getD
     rw [List.getElem?_eq_none (Nat.le_refl _)]
     exact (Option.some.inj e).symm
   ·have hi2:=Bw eb
    rw [List.length_append,hcl] at hi2
    have hi3:i<=k2-k1:=by simp only [List.length_cons,List.length_nil] at hi2;omega
    have ga:bgn ls (k1+i)<=a/\lo<=a/\a<bgn ls (k1+i+1)/\a<hn:=by
     cases i with
     | zero =>
      obtain rfl:lo=a:=Option.some.inj ea
      exact ⟨ha1,Nat.le_refl _,hb1 (by omega),hlt⟩
     | succ i =>
      have ea:cs[i]?=some a:=ea
      rw [cat i (by omega)] at ea
      obtain rfl:=Option.some.inj ea
      have m1:=Cc (ls:=ls) (show k1+1<=k1+1+i by omega)
      have m2:=Cc (ls:=ls) (show k1+1+i<=k2 by omega)
      have m3:=Z7 hW.sz (show k1+1+i<k1+(i+1)+1 by omega) (by omega)
      have m4:=hb1 (by omega)
      rw [show k1+(i+1)=k1+1+i by omega] at m3 ⊢
      exact ⟨Nat.le_refl _,by omega,m3,by omega⟩
    have gb:b<=bgn ls (k1+i+1)/\b<=hn/\a<b:=by
     by_cases hi:i<k2-k1
     ·rw [List.getElem?_append_left (by omega),cat i hi] at eb
      obtain rfl:=Option.some.inj eb
      have m2:=Cc (ls:=ls) (show k1+1+i<=k2 by omega)
      rw [show k1+i+1=k1+1+i by omega] at ga ⊢
      exact ⟨Nat.le_refl _,by omega,ga.2.2.1⟩
     ·obtain rfl:i=cs.length:=by omega
      rw [List.getElem?_append_right (Nat.le_refl _),Nat.sub_self] at eb
      obtain rfl:hn=b:=Option.some.inj eb
      rw [show k1+cs.length+1=k2+1 by omega]
      exact ⟨by omega,Nat.le_refl _,ga.2.2.2⟩
    exact ⟨gb.2.2,ga.2.1,gb.2.1,k1+i,by omega,ga.1,gb.1⟩
theorem Up {ls:List (List Bool)}{k i:Nat}{y:List Bool}(hy:ls[k]?=some y)(hi:i<=y.length):hgt ls.flatten (bgn ls k+i)=hB ls k+hgt y i:=by
 have hb:=C6 hy
 have e:=Sh hy (p:=bgn ls k+i) (by omega) (by omega)
 rw [Nat.add_sub_cancel_left] at e
 have e2:=Lq ls.flatten (show bgn ls k<=bgn ls k+i by omega)
 rw [Nat.add_sub_cancel_left,e] at e2
 rw [qZ]
 unfold hgt
 rw [e2]
 omega
theorem dA {y:List Bool}{i:Nat}(h0:0<i)(h:i<=y.length):hgt y i∈hts y y.length:=by
 unfold hts
 exact List.mem_map.mpr ⟨i-1,List.mem_range.mpr (by omega),by rw [show i-1+1=i by omega]⟩
theorem U4 {ls:List (List Bool)}{n k k':Nat}(h1:bgn ls k<=n)(h2:n<bgn ls (k+1))(h3:bgn ls k'<=n)(h4:n<bgn ls (k'+1)):k=k':=by
 rcases Nat.lt_trichotomy k k' with h | h | h
 ·have:=Cc (ls:=ls) (show k+1<=k' by omega);omega
 ·exact h
 ·have:=Cc (ls:=ls) (show k'+1<=k by omega);omega
theorem pR {ls:List (List Bool)}{n k:Nat}(hn:n<ls.flatten.length)(hk:k<=ls.length)(h1:bgn ls k<=n):k<ls.length:=by
 by_cases h:k<ls.length
 ·exact h
 ·obtain rfl:k=ls.length:=by omega
  rw [Gi] at h1
  omega
def Sr (C CR:Addr)(ts:List Tb):Sp:=fun vs H Q _=>∃ (x:Addr) (ls:List (List Bool)) (lo:Nat) (h:Int),vs=[.ref x,.int lo,.int h]/\Bk C CR H x ls/\Tbs ts H/\lo<ls.flatten.length/\∀ (b:Bool) H',(b=false->∀ k,k<ls.length->bgn ls k<=lo->lo<bgn ls (k+1)->∀ i,bgn ls k<i->i<=bgn ls (k+1)->hgt ls.flatten i≠h)->SmT ts H H'->Q (.bl b) H'
theorem Qw {f:Addr}{fd:FuncData}{ts:List Tb}(F:Fun K "may_meet" "Heights.may_meet" E5 f fd)(T:Txt K mg)(Z:Qa K aa)(ad:Mth P w K mg base aa "stretch_at" 4 ["self","place"] (Nv ab aa ts)):A9 P w K mg base CX0 5 f fd ["self","low","height"] (Sr ab aa ts):=by
 refine F.ok Gy (fun vs H Q E h=>?_) (fun cdv A outer s H vs Q E hr h=>?_)
 ·obtain ⟨x,ls,lo,h,rfl,_⟩:=h
  rfl
 ·obtain ⟨x,ls,lo,h,rfl,hR,hT,hl,q⟩:=h
  obtain ⟨dx,p,b,k,t,o,hx,hW,hTb⟩:=id hR
  obtain ⟨ta,rs,rfl,ht,hrl,hrs⟩:=hTb.tb
  refine ⟨_,(Ab (Aq (i:=3) Gy.nd rfl (Or.inl rfl) (Bd A8 (A6 (pv 0) rfl) (A4 ad (hr.mono (by decide:4<=_)) (pv 0) (Af (pv 1) Aa rfl)) (fun _ _=>rfl)))
   (Ai (At (Xw Ko Ko (Bd Wt (pv 3) Aj (fun _ _=>rfl)) (pv 2) (Bd Wt (pv 3) Aj (fun _ _=>rfl)))))),?_⟩
  k_is
  refine ⟨x,aa,dx,_,_,rfl,hx,Z.cl,Z.n_kept_table,rfl,?_⟩
  k_is
  refine ⟨x,dx,_,rfl,hx,rfl,?_⟩
  k_is
  refine ⟨x,ls,lo,rfl,hR,hT,fun k1 H1 hk1 ha1 hb1 s1=>?_⟩
  have hkl:=pR hl hk1 ha1
  have hb1:=hb1 hkl
  have hj:k1<rs.length:=by omega
  have ey:ls[k1]?=some (ls[k1]):=List.getElem?_eq_getElem hkl
  obtain ⟨mn,mx,hr1,hmn,hmx⟩:=hrs _ _ (List.getElem?_eq_getElem hj) _ ey
  have hbs:=C6 ey
  have hin:∀ i,bgn ls k1<i->i<=bgn ls (k1+1)->∃ j,0<j/\j<=(ls[k1]).length/\hgt ls.flatten i=hB ls k1+hgt (ls[k1]) j:=fun i h1 h2=>⟨i-bgn ls k1,by omega,by omega,by rw [<- Up ey (by omega),Nat.add_sub_cancel' (Nat.le_of_lt h1)]⟩
  have hmn:Gh (hts (ls[k1]) (ls[k1]).length) mn:=by
   rcases hmn with ⟨e,_⟩ | h
   ·have:=(hW.sz _ _ ey).1
    rw [e] at this
    exact absurd this (Nat.lt_irrefl _)
   ·exact h
  have hr1:=s1.k hr1
  k_is
  refine Bg (SqL.of (s1.k ht)) (Bc (by rw [List.getElem?_map,List.getElem?_eq_getElem hj];rfl)) ?_
  k_is
  refine X4 (SqT.of hr1) (v:=.int (hB ls k1+mn)) rfl ?_
  k_is
  by_cases h1:hB ls k1+mn<=h
  ·rw [decide_eq_true h1]
   k_is
   refine X4 (SqT.of hr1) (v:=.int (hB ls k1+mx)) rfl ?_
   k_is
   refine q _ H1 (fun hb k' hk' g1 g2 i hi1 hi2 he=>?_) s1
   obtain rfl:=U4 ha1 hb1 g1 g2
   obtain ⟨j,j1,j2,j3⟩:=hin i hi1 hi2
   have:=hmx.2 _ (dA j1 j2)
   rw [decide_eq_true (show h<=hB ls k1+mx by omega)] at hb
   cases hb
  ·rw [decide_eq_false h1]
   k_is
   refine q false H1 (fun _ k' hk' g1 g2 i hi1 hi2 he=>?_) s1
   obtain rfl:=U4 ha1 hb1 g1 g2
   obtain ⟨j,j1,j2,j3⟩:=hin i hi1 hi2
   have:=hmn.2 _ (dA j1 j2)
   omega
def T5 (C CR:Addr)(ts:List Tb):Sp:=fun vs H Q _=>∃ (x:Addr) (ls:List (List Bool)) (lo hi:Nat),vs=[.ref x,.int lo,.int hi]/\Bk C CR H x ls/\Tbs ts H/\lo<=hi/\hi<=ls.flatten.length/\hi-lo<=1000/\∀ p H',SmT ts H H'->H p=none->H' p=some (.lst ((hw ls.flatten lo hi).map V.int))->Q (.ref p) H'
theorem Qd {f:Addr}{fd:FuncData}{ts:List Tb}(F:Fun K "heights_within" "Heights.heights_within" Cw f fd)(T:Txt K mg)(Z:Qa K aa)(aq:Cal P w K mg base "heights_of" 1 ["text","begin"] Hg)(ag:Mth P w K mg base aa "stretch" 5 ["self","low","high"] (C9 ab aa ts))(ah:Mth P w K mg base aa "height" 7 ["self","place"] (Gd ab aa ts)):A9 P w K mg base CX0 8 f fd ["self","low","high"] (T5 ab aa ts):=by
 refine F.ok Hn (fun vs H Q E h=>?_) (fun cdv A outer s H vs Q E hr h=>?_)
 ·obtain ⟨x,ls,lo,hi,rfl,_⟩:=h
  rfl
 ·obtain ⟨x,ls,lo,hi,rfl,hR,hT,h1,h2,h3,q⟩:=h
  obtain ⟨dx,p,b,k,t,o,hx,hW,hTb⟩:=id hR
  refine ⟨_,(Ai (At (Bb aq (hr.mono (by decide:1<=_)) (Af (A4 ag (hr.mono (by decide:5<=_)) (pv 0) (Af (pv 1) (Af (pv 2) Aa rfl) rfl)) (Af (A4 ah (hr.mono (by decide:7<=_)) (pv 0) (Af (pv 1) Aa rfl)) Aa rfl) rfl)))),?_⟩
  k_is
  refine ⟨x,dx,_,rfl,hx,rfl,?_⟩
  k_is
  refine ⟨x,ls,lo,hi,rfl,hR,hT,h1,h2,fun H1 s1=>?_⟩
  k_is
  refine ⟨x,dx,_,rfl,s1.k hx,rfl,?_⟩
  k_is
  refine ⟨x,ls,lo,rfl,hR.kp s1.kp,s1.ok,by omega,fun H2 s2=>?_⟩
  k_is
  refine ⟨(ls.flatten.drop lo).take (hi-lo),hgt ls.flatten lo,rfl,by rw [List.length_take];omega,fun p H3 s3 hp0 hp=>?_⟩
  rw [qM h1 h2] at hp
  have s12:=s1.trans s2
  exact q p H3 (s12.then s3) (s12.sm.free hp0) hp
def Tv (l:List Bool)(lo hi:Nat)(h:Int):Option Nat->Prop
 | some j=>lo<j/\j<=hi/\hgt l j=h/\∀ i,lo<i->i<j->hgt l i≠h
 | none=>∀ i,lo<i->i<=hi->hgt l i≠h
def Ng:Option Nat->V
 | some j=>.int (j:Nat)
 | none=>.non
theorem Rr:∀ {ns:List Int} {x:Int},x∈ns->∃ j:Nat,ns[j]?=some x/\∀ i:Nat,i<j->ns[i]?≠some x
 | y::ns,x,h=>by
  by_cases e:y=x
  ·exact ⟨0,by rw [e];rfl,fun i hi=>absurd hi (Nat.not_lt_zero _)⟩
  ·obtain ⟨j,h1,h2⟩:=Rr (List.mem_of_ne_of_mem (fun z=>e z.symm) h)
   refine ⟨j+1,h1,fun i hi=>?_⟩
   cases i with
   | zero=>exact fun z=>e (Option.some.inj z)
   | succ i=>exact h2 i (by omega)
theorem dF {w:List Int}{e:Int}:inV (.int e) (w.map V.int)=decide (e∈w):=by
 unfold inV
 rw [List.any_map]
 by_cases h:e∈w
 ·rw [decide_eq_true h,List.any_eq_true]
  exact ⟨e,h,by simp [eqV]⟩
 ·rw [decide_eq_false h]
  refine Bool.eq_false_iff.mpr fun hc=>?_
  obtain ⟨x,hx,hxe⟩:=List.any_eq_true.mp hc
  have:x=e:=by simpa [eqV] using hxe
  exact h (this▸hx)
def Ri (C CR:Addr)(ts:List Tb):Sp:=fun vs H Q _=>∃ (x:Addr) (ls:List (List Bool)) (lo hi:Nat) (h:Int),vs=[.ref x,.int lo,.int hi,.int h]/\Bk C CR H x ls/\Tbs ts H/\lo<=hi/\hi<=ls.flatten.length/\hi-lo<=1000/\∀ r H',Tv ls.flatten lo hi h r->SmT ts H H'->Q (Ng r) H'
theorem Qk {f:Addr}{fd:FuncData}{ts:List Tb}(F:Fun K "next_within" "Heights.next_within" Dq f fd)(T:Txt K mg)(Z:Qa K aa)(aj:Mth P w K mg base aa "heights_within" 8 ["self","low","high"] (T5 ab aa ts)):A9 P w K mg base CX0 9 f fd ["self","low","high","height"] (Ri ab aa ts):=by
 refine F.ok Fs (fun vs H Q E h=>?_) (fun cdv A outer s H vs Q E hr h=>?_)
 ·obtain ⟨x,ls,lo,hi,h,rfl,_⟩:=h
  rfl
 ·obtain ⟨x,ls,lo,hi,h,rfl,hR,hT,h1,h2,h3,q⟩:=h
  obtain ⟨dx,p,b,k,t,o,hx,hW,hTb⟩:=id hR
  refine ⟨_,(Ab (Aq (i:=4) Fs.nd rfl (Or.inl rfl) (A4 aj (hr.mono (by decide:8<=_)) (pv 0) (Af (pv 1) (Af (pv 2) Aa rfl) rfl)))
   (Ai (At (C4 (Av T1 (pv 3) (pv 4) rfl) (Am A7 (Am A7 (pv 1) Aj) (Ds PySem.F.plainAttrs_list PySem.F.slot_list_index PySem.F.type_list_index Yi (pv 4) (Af (pv 3) Aa rfl))) Ic)))),?_⟩
  k_is
  refine ⟨x,dx,_,rfl,hx,rfl,?_⟩
  k_is
  refine ⟨x,ls,lo,hi,rfl,hR,hT,h1,h2,h3,fun p H1 s1 hp0 hp=>?_⟩
  k_is
  refine ⟨p,_,rfl,.inl (SqL.of hp),rfl,Dm _,?_⟩
  rw [dF]
  by_cases hm:h∈hw ls.flatten lo hi
  ·rw [decide_eq_true hm,show (if false=true then !true else true)=true by decide]
   obtain ⟨j,hj,hno⟩:=Rr hm
   have hjl:=Bw hj
   rw [Ga] at hjl
   k_is
   refine ⟨.inl ⟨rfl,_,SqL.of hp⟩,?_⟩
   k_is
   refine ⟨p,_,h,j,rfl,rfl,hp,hj,hno,?_⟩
   k_is
   rw [Pb hjl] at hj
   have:=q (some (lo+j+1)) H1 ⟨by omega,by omega,Option.some.inj hj,fun i hi1 hi2 he=>?_⟩ s1
   ·rw [show Ng (some (lo+j+1))=V.int ((lo:Int)+1+(j:Int)) by show V.int _=_;congr 1;omega] at this
    exact this
   ·refine hno (i-lo-1) (by omega) ?_
    rw [Pb (by omega),show lo+(i-lo-1)+1=i by omega,he]
  ·rw [decide_eq_false hm,show (if false=true then !false else false)=false by decide]
   k_is
   exact q none H1 (fun i hi1 hi2 he=>hm (he▸Zj hi1 hi2)) s1
theorem iC.sz {ls:List (List Bool)}(hZ:Dt ls){lo hi:Nat}{los his:List Nat}(h:iC ls lo hi los his){i a b:Nat}(ea:los[i]?=some a)(eb:his[i]?=some b):b-a<=128:=by
 obtain ⟨_,_,_,k,hk,h1,h2⟩:=h.at' i a b ea eb
 have e:=C6 (List.getElem?_eq_getElem hk)
 have:=(hZ k _ (List.getElem?_eq_getElem hk)).2
 omega
def O1 (C CR:Addr)(ts:List Tb):Sp:=fun vs H Q _=>∃ (x:Addr) (ls:List (List Bool)) (p:Nat) (h:Int),vs=[.ref x,.int p,.int h]/\Bk C CR H x ls/\Tbs ts H/\p<=ls.flatten.length/\∀ r H',Tv ls.flatten p ls.flatten.length h r->SmT ts H H'->Q (Ng r) H'
theorem Q2 {f:Addr}{fd:FuncData}{ts:List Tb}(F:Fun K "next_at" "Heights.next_at" Fv f fd)(T:Txt K mg)(Z:Qa K aa)(aF:Cal P w K mg base "check_place" 3 ["place","greatest"] M1)(aG:Cal P w K mg base "check_height" 3 ["height"] W8)
  (ak:Mth P w K mg base aa "parts" 5 ["self","low","high"] (Ik ab aa ts))(au:Mth P w K mg base aa "may_meet" 5 ["self","low","height"] (Sr ab aa ts))(bc:Mth P w K mg base aa "next_within" 9 ["self","low","high","height"] (Ri ab aa ts)):A9 P w K mg base CX0 10 f fd ["self","place","height"] (O1 ab aa ts):=by
 refine F.ok De (fun vs H Q E h=>?_) (fun cdv A outer s H vs Q E hr h=>?_)
 ·obtain ⟨x,ls,p,h,rfl,_⟩:=h
  rfl
 ·obtain ⟨x,ls,p,h,rfl,hR,hT,hp,q⟩:=h
  obtain ⟨dx,pp,b,kk,t,o,hx,hW,hTb⟩:=id hR
  refine ⟨_,(Ab (Bl (Bb aF (hr.mono (by decide:3<=_)) (Af (pv 1) (Af (A6 (pv 0) rfl) Aa rfl) rfl)))
   (Ab (Bl (Bb aG (hr.mono (by decide:3<=_)) (Af (pv 2) Aa rfl)))
   (Ab (Dn PassesOwn.never rfl (B4 (A4 ak (hr.mono (by decide:5<=_)) (pv 0) (Af (pv 1) (Af (A6 (pv 0) rfl) Aa rfl) rfl))) (N7 rfl (Dk (Bt (i:=3) De.nd rfl (Or.inl rfl)) (Dk (Bt (i:=4) De.nd rfl (Or.inl rfl)) Lo)))
   (Ab (Aq (i:=5) De.nd rfl (Or.inl rfl) (C4 (Dr (A4 au (hr.mono (by decide:5<=_)) (pv 0) (Af (pv 3) (Af (pv 2) Aa rfl) rfl))) (A4 bc (hr.mono (by decide:9<=_)) (pv 0) (Af (pv 3) (Af (pv 4) (Af (pv 2) Aa rfl) rfl) rfl)) Ic))
   (Ai (B3 (Vp (dU (pv 5))) (Ai (At (pv 5)))
   Ba))))
   (Ai (At Ic))))),?_⟩
  k_is
  refine ⟨x,aa,dx,_,_,rfl,hx,Z.cl,Z.n_length,rfl,?_⟩
  k_is
  refine ⟨p,_,rfl,by omega,by omega,?_⟩
  k_is
  refine ⟨h,rfl,?_⟩
  k_is
  refine ⟨x,dx,_,rfl,hx,rfl,?_⟩
  k_is
  refine ⟨x,aa,dx,_,_,rfl,hx,Z.cl,Z.n_length,rfl,?_⟩
  k_is
  refine ⟨x,ls,p,(ls.flatten.length:Int),rfl,hR,hT,Int.le_refl _,fun pa as los his H1 s1 hpa0 hpa hN hO hll=>?_⟩
  rw [Int.toNat_natCast] at hO
  have hR1:=hR.kp s1.kp
  have hal:as.length=los.length:=by rw [hN.1,Cn]
  refine ⟨pa,rfl,⟨_,SqL.of hpa⟩,?_⟩
  refine T2 (as:=as) (xs:=nV los) (ys:=nV his) hN.1 (by rw [hal,Cn,hO.ln]) (fun i σ H2=>(∃ v3 v4 v5:Option V,σ=[some (.ref x),some (.int (p:Nat)),some (.int h),v3,v4,v5])/\SmT ts H1 H2/\∀ k,p<k->k<=los.getD i ls.flatten.length->hgt ls.flatten k≠h) ?_ (fun i σ H2 _ h=>SqL.of (h.2.1.k hpa)) (fun i t x y σ H2 e1 e2 e3 h=>h.2.1.k (hN.2 i t x y e1 e2 e3).2) ?_ ?_
  ·refine ⟨⟨_,_,_,rfl⟩,SmT.refl s1.ok,fun k hk1 hk2=>?_⟩
   by_cases hpl:p<ls.flatten.length
   ·unfold List.getD at hk2
    rw [hO.fst hpl] at hk2
    exact absurd hk2 (by show ¬ k<=p;omega)
   ·have:=hO.nil hpl
    unfold List.getD at hk2
    rw [List.getElem?_eq_none (by omega)] at hk2
    exact absurd hk2 (by show ¬ k<=ls.flatten.length;omega)
  ·rintro i y y2 σ H2 hy hy2 ⟨⟨v3,v4,v5,rfl⟩,s2,hno⟩
   obtain ⟨a,ea,rfl⟩:=He hy
   obtain ⟨c,ec,rfl⟩:=He hy2
   obtain ⟨ok1,ok2,ok3,k0,ok4,ok5,ok6⟩:=hO.at' i a c ea ec
   have hsz:=hO.sz hW.sz ea ec
   have cv1:los.getD i ls.flatten.length=a:=by unfold List.getD;rw [ea];rfl
   have cv2:=hO.nxt i c ec
   have hR2:=hR1.kp s2.kp
   have hx2:=s2.k (s1.k hx)
   have go:(∀ k,a<k->k<=c->hgt ls.flatten k≠h)->∀ k,p<k->k<=los.getD (i+1) ls.flatten.length->hgt ls.flatten k≠h:=fun hh k k1 k2=>by
    by_cases k3:k<=a
    ·exact hno k k1 (by rw [cv1];exact k3)
    ·exact hh k (by omega) (by rw [cv2];exact k2)
   k_is
   refine ⟨x,dx,_,rfl,hx2,rfl,?_⟩
   k_is
   refine ⟨x,ls,a,h,rfl,hR2,s2.ok,by omega,fun bb H3 hbb s3=>?_⟩
   have s23:=s2.trans s3
   cases bb with
   | true =>
    k_is
    refine ⟨x,dx,_,rfl,s3.k hx2,rfl,?_⟩
    k_is
    refine ⟨x,ls,a,c,h,rfl,hR2.kp s3.kp,s3.ok,by omega,ok3,by omega,fun r H4 hr3 s4=>?_⟩
    cases r with
    | some j =>
     k_is
     obtain ⟨j1,j2,j3,j4⟩:=hr3
     refine q (some j) H4 ⟨by omega,by omega,j3,fun i' i1 i2 he=>?_⟩ ((s1.trans s23).trans s4)
     by_cases k3:i'<=a
     ·exact hno i' i1 (by rw [cv1];exact k3) he
     ·exact j4 i' (by omega) i2 he
    | none =>
     k_is
     rw [show (!decide (Ng none=V.non))=false from rfl]
     k_is
     exact ⟨⟨_,_,_,rfl⟩,s23.trans s4,go hr3⟩
   | false =>
    k_is
    rw [show (!decide (V.non=V.non))=false from rfl]
    k_is
    exact ⟨⟨_,_,_,rfl⟩,s23,go fun k k1 k2=>hbb rfl k0 ok4 ok5 (by omega) k (by omega) (by omega)⟩
  ·rintro σ H2 ⟨⟨v3,v4,v5,rfl⟩,s2,hno⟩
   rw [hal] at hno
   k_is
   refine q none H2 (fun i i1 i2=>hno i i1 ?_) (s1.trans s2)
   unfold List.getD
   rw [List.getElem?_eq_none (Nat.le_refl _)]
   exact i2
theorem Zn {l:List Bool}{lo hi j:Nat}{h:Int}{r:Option Nat}(h1:Tv l lo hi h (some j))(h2:Tv l lo hi h r):r=some j:=by
 obtain ⟨a1,a2,a3,a4⟩:=h1
 cases r with
 | none=>exact absurd a3 (h2 j a1 a2)
 | some i =>
  obtain ⟨b1,b2,b3,b4⟩:=h2
  rcases Nat.lt_trichotomy i j with h | h | h
  ·exact absurd b3 (a4 i b1 h)
  ·rw [h]
  ·exact absurd a3 (b4 j a1 h)
def Js (C CR:Addr)(ts:List Tb):Sp:=fun vs H Q _=>∃ (x:Addr) (ls:List (List Bool)) (p j:Nat),vs=[.ref x,.int p]/\Bk C CR H x ls/\Tbs ts H/\ls.flatten[p]?=some true/\Tv ls.flatten p ls.flatten.length (hgt ls.flatten p) (some (j+1))/\∀ H',SmT ts H H'->Q (.int (j:Nat)) H'
theorem Q3 {f:Addr}{fd:FuncData}{ts:List Tb}(F:Fun K "partner" "Heights.partner" Fu f fd)(T:Txt K mg)(Z:Qa K aa)(aH:Mth P w K mg base aa "is_opening" 6 ["self","place"] (Pr ab aa ts))(be:Mth P w K mg base aa "next_at" 10 ["self","place","height"] (O1 ab aa ts))(ah:Mth P w K mg base aa "height" 7 ["self","place"] (Gd ab aa ts)):A9 P w K mg base CX0 11 f fd ["self","place"] (Js ab aa ts):=by
 refine F.ok Mj (fun vs H Q E h=>?_) (fun cdv A outer s H vs Q E hr h=>?_)
 ·obtain ⟨x,ls,p,j,rfl,_⟩:=h
  rfl
 ·obtain ⟨x,ls,p,j,rfl,hR,hT,hp,hj,q⟩:=h
  obtain ⟨dx,pp,b,kk,t,o,hx,hW,hTb⟩:=id hR
  have hpl:=Bw hp
  refine ⟨_,(Ab (B3 (Dr (A4 aH (hr.mono (by decide:6<=_)) (pv 0) (Af (pv 1) Aa rfl))) (Ai (At (Am Be (A4 be (hr.mono (by decide:10<=_)) (pv 0) (Af (pv 1) (Af (A4 ah (hr.mono (by decide:7<=_)) (pv 0) (Af (pv 1) Aa rfl)) Aa rfl) rfl)) Aj)))
   Ba)
   (Ai Cv)),?_⟩
  k_is
  refine ⟨x,dx,_,rfl,hx,rfl,?_⟩
  k_is
  refine ⟨x,ls,p,rfl,hR,hT,hpl,fun H1 s1=>?_⟩
  rw [show ls.flatten.getD p false=true by unfold List.getD;rw [hp];rfl]
  k_is
  refine ⟨x,dx,_,rfl,s1.k hx,rfl,?_⟩
  k_is
  refine ⟨x,dx,_,rfl,s1.k hx,rfl,?_⟩
  k_is
  refine ⟨x,ls,p,rfl,hR.kp s1.kp,s1.ok,by omega,fun H2 s2=>?_⟩
  have s12:=s1.trans s2
  k_is
  refine ⟨x,ls,p,_,rfl,hR.kp s12.kp,s12.ok,by omega,fun r H3 hr3 s3=>?_⟩
  rw [Zn hj hr3,show Ng (some (j+1))=V.int ((j:Int)+1) by show V.int _=_;congr 1]
  k_is
  rw [show ((j:Int)+1-1)=(j:Int) by omega]
  exact q H3 (s12.trans s3)
def sV (l:List Bool)(lo hi:Nat)(h:Int):Option Nat->Prop
 | some j=>lo<j/\j<=hi/\hgt l j=h/\∀ i,j<i->i<=hi->hgt l i≠h
 | none=>∀ i,lo<i->i<=hi->hgt l i≠h
def Rw (C CR:Addr)(ts:List Tb):Sp:=fun vs H Q _=>∃ (x:Addr) (ls:List (List Bool)) (lo hi:Nat) (h:Int),vs=[.ref x,.int lo,.int hi,.int h]/\Bk C CR H x ls/\Tbs ts H/\lo<=hi/\hi<=ls.flatten.length/\hi-lo<=1000/\∀ r H',sV ls.flatten lo hi h r->SmT ts H H'->Q (Ng r) H'
theorem Qj {f:Addr}{fd:FuncData}{ts:List Tb}(F:Fun K "last_within" "Heights.last_within" Dp f fd)(T:Txt K mg)(Z:Qa K aa)(aj:Mth P w K mg base aa "heights_within" 8 ["self","low","high"] (T5 ab aa ts)):A9 P w K mg base CX0 9 f fd ["self","low","high","height"] (Rw ab aa ts):=by
 refine F.ok Fi (fun vs H Q E h=>?_) (fun cdv A outer s H vs Q E hr h=>?_)
 ·obtain ⟨x,ls,lo,hi,h,rfl,_⟩:=h
  rfl
 ·obtain ⟨x,ls,lo,hi,h,rfl,hR,hT,h1,h2,h3,q⟩:=h
  obtain ⟨dx,p,b,k,t,o,hx,hW,hTb⟩:=id hR
  obtain ⟨l,hl⟩:∃ l,ls.flatten=l:=⟨_,rfl⟩
  refine ⟨_,(Ab (Aq (i:=4) Fi.nd rfl (Or.inl rfl) (mK (A4 aj (hr.mono (by decide:8<=_)) (pv 0) (Af (pv 1) (Af (pv 2) Aa rfl) rfl))))
   (Ai (At (C4 (Av T1 (pv 3) (pv 4) rfl) (Am Be (pv 2) (Ds PySem.F.plainAttrs_list PySem.F.slot_list_index PySem.F.type_list_index Yi (pv 4) (Af (pv 3) Aa rfl))) Ic)))),?_⟩
  k_is
  refine ⟨x,dx,_,rfl,hx,rfl,?_⟩
  k_is
  refine ⟨x,ls,lo,hi,rfl,hR,hT,h1,h2,h3,fun p H1 s1 hp0 hp=>?_⟩
  rw [hl] at hp q
  k_is
  refine ⟨p,_,rfl,SqL.of hp,fun p2 hp2=>?_⟩
  have t2:=s1.then (Al (o:=.lst ((hw l lo hi).map V.int).reverse) hp2)
  have e2:upd H1 p2 (.lst ((hw l lo hi).map V.int).reverse) p2=some (.lst ((hw l lo hi).reverse.map V.int)):=by rw [Ae,List.map_reverse]
  generalize upd H1 p2 (.lst ((hw l lo hi).map V.int).reverse)=H2 at *
  k_is
  refine ⟨p2,_,rfl,.inl (SqL.of e2),rfl,Dm _,?_⟩
  rw [dF]
  by_cases hm:h∈(hw l lo hi).reverse
  ·rw [decide_eq_true hm,show (if false=true then !true else true)=true by decide]
   obtain ⟨j,hj,hno⟩:=Rr hm
   have hjl:=Bw hj
   rw [List.length_reverse,Ga] at hjl
   have rev:∀ k,k<hi-lo->(hw l lo hi).reverse[k]?=some (hgt l (hi-k)):=fun k hk=>by
    rw [List.getElem?_reverse (by rw [Ga];exact hk),Ga,Pb (by omega),show lo+(hi-lo-1-k)+1=hi-k by omega]
   k_is
   refine ⟨.inl ⟨rfl,_,SqL.of e2⟩,?_⟩
   k_is
   refine ⟨p2,_,h,j,rfl,rfl,e2,hj,hno,?_⟩
   k_is
   rw [rev j hjl] at hj
   have:=q (some (hi-j)) H2 ⟨by omega,by omega,Option.some.inj hj,fun i hi1 hi2 he=>?_⟩ t2
   ·rw [show Ng (some (hi-j))=V.int ((hi:Int)-(j:Int)) by show V.int _=_;congr 1;omega] at this
    exact this
   ·refine hno (hi-i) (by omega) ?_
    rw [rev _ (by omega),show hi-(hi-i)=i by omega,he]
  ·rw [decide_eq_false hm,show (if false=true then !false else false)=false by decide]
   k_is
   exact q none H2 (fun i hi1 hi2 he=>hm (List.mem_reverse.mpr (he▸Zj hi1 hi2))) t2
def Pp (l:List Bool)(p:Nat)(h:Int):Option Nat->Prop
 | some j=>j<p/\hgt l j=h/\∀ i,j<i->i<p->hgt l i≠h
 | none=>∀ i,i<p->hgt l i≠h
def Of (C CR:Addr)(ts:List Tb):Sp:=fun vs H Q _=>∃ (x:Addr) (ls:List (List Bool)) (p:Nat) (h:Int),vs=[.ref x,.int p,.int h]/\Bk C CR H x ls/\Tbs ts H/\p<=ls.flatten.length/\∀ r H',Pp ls.flatten p h r->SmT ts H H'->Q (Ng r) H'
theorem Q1 {f:Addr}{fd:FuncData}{ts:List Tb}(F:Fun K "last_at" "Heights.last_at" Fp f fd)(T:Txt K mg)(Z:Qa K aa)(aF:Cal P w K mg base "check_place" 3 ["place","greatest"] M1)(aG:Cal P w K mg base "check_height" 3 ["height"] W8)
  (ak:Mth P w K mg base aa "parts" 5 ["self","low","high"] (Ik ab aa ts))(au:Mth P w K mg base aa "may_meet" 5 ["self","low","height"] (Sr ab aa ts))(bf:Mth P w K mg base aa "last_within" 9 ["self","low","high","height"] (Rw ab aa ts)):A9 P w K mg base CX0 10 f fd ["self","place","height"] (Of ab aa ts):=by
 refine F.ok Dc (fun vs H Q E h=>?_) (fun cdv A outer s H vs Q E hr h=>?_)
 ·obtain ⟨x,ls,p,h,rfl,_⟩:=h
  rfl
 ·obtain ⟨x,ls,p,h,rfl,hR,hT,hp,q⟩:=h
  obtain ⟨dx,pp,b,kk,t,o,hx,hW,hTb⟩:=id hR
  refine ⟨_,(Ab (Bl (Bb aF (hr.mono (by decide:3<=_)) (Af (pv 1) (Af (A6 (pv 0) rfl) Aa rfl) rfl)))
   (Ab (Bl (Bb aG (hr.mono (by decide:3<=_)) (Af (pv 2) Aa rfl)))
   (Ab (Dn PassesOwn.never rfl (mI rfl T.n_reversed (A4 ak (hr.mono (by decide:5<=_)) (pv 0) (Af Aj (Af (Am Be (pv 1) Aj) Aa rfl) rfl))) (N7 rfl (Dk (Bt (i:=3) Dc.nd rfl (Or.inl rfl)) (Dk (Bt (i:=4) Dc.nd rfl (Or.inl rfl)) Lo)))
   (Ab (Aq (i:=5) Dc.nd rfl (Or.inl rfl) (C4 (Dr (A4 au (hr.mono (by decide:5<=_)) (pv 0) (Af (pv 3) (Af (pv 2) Aa rfl) rfl))) (A4 bf (hr.mono (by decide:9<=_)) (pv 0) (Af (pv 3) (Af (pv 4) (Af (pv 2) Aa rfl) rfl) rfl)) Ic))
   (Ai (B3 (Vp (dU (pv 5))) (Ai (At (pv 5)))
   Ba))))
   (Ai (At (C4 (PW.pt (Sz (Av Mb (pv 1) Aj (Ax _)) (Nk (Av Ew (pv 2) Aj (Ax _))))) Aj Ic)))))),?_⟩
  k_is
  refine ⟨x,aa,dx,_,_,rfl,hx,Z.cl,Z.n_length,rfl,?_⟩
  k_is
  refine ⟨p,_,rfl,by omega,by omega,?_⟩
  k_is
  refine ⟨h,rfl,?_⟩
  k_is
  refine ⟨x,dx,_,rfl,hx,rfl,?_⟩
  k_is
  refine ⟨x,ls,0,(p:Int)-1,rfl,hR,hT,by omega,fun pa as los his H1 s1 hpa0 hpa hN hO hll=>?_⟩
  rw [show ((p:Int)-1).toNat=p-1 by omega] at hO
  have hR1:=hR.kp s1.kp
  have hal:as.length=los.length:=by rw [hN.1,Cn]
  refine ⟨pa,_,rfl,SqL.of hpa,?_⟩
  rw [List.length_map]
  refine cU (as:=as) (xs:=nV los) (ys:=nV his) hN.1 (by rw [hal,Cn,hO.ln]) (fun i σ H2=>(∃ v3 v4 v5:Option V,σ=[some (.ref x),some (.int (p:Nat)),some (.int h),v3,v4,v5])/\SmT ts H1 H2/\∀ k,los.getD (los.length-i) (p-1)<k->k<p->hgt ls.flatten k≠h) ?_ (fun i σ H2 _ h=>SqL.of (h.2.1.k hpa)) (fun i j t x y σ H2 e1 e2 e3 h=>h.2.1.k (hN.2 j t x y e1 e2 e3).2) ?_ ?_
  ·refine ⟨⟨_,_,_,rfl⟩,SmT.refl s1.ok,fun k hk1 hk2=>?_⟩
   rw [show los.getD (los.length-0) (p-1)=p-1 by unfold List.getD;rw [List.getElem?_eq_none (by omega)];rfl] at hk1
   omega
  ·rintro i y y2 σ H2 hlt hy hy2 ⟨⟨v3,v4,v5,rfl⟩,s2,hno⟩
   rw [hal] at hlt hy hy2
   obtain ⟨a,ea,rfl⟩:=He hy
   obtain ⟨c,ec,rfl⟩:=He hy2
   obtain ⟨ok1,ok2,ok3,k0,ok4,ok5,ok6⟩:=hO.at' _ a c ea ec
   have hsz:=hO.sz hW.sz ea ec
   have cv1:los.getD (los.length-i) (p-1)=c:=by
    have:=hO.nxt _ c ec
    rw [show los.length-1-i+1=los.length-i by omega] at this
    exact this.symm
   have cv2:los.getD (los.length-(i+1)) (p-1)=a:=by
    rw [show los.length-(i+1)=los.length-1-i by omega]
    unfold List.getD
    rw [ea]
    rfl
   have hR2:=hR1.kp s2.kp
   have hx2:=s2.k (s1.k hx)
   have go:(∀ k,a<k->k<=c->hgt ls.flatten k≠h)->∀ k,los.getD (los.length-(i+1)) (p-1)<k->k<p->hgt ls.flatten k≠h:=fun hh k k1 k2=>by
    rw [cv2] at k1
    by_cases k3:k<=c
    ·exact hh k k1 k3
    ·exact hno k (by rw [cv1];omega) k2
   k_is
   refine ⟨x,dx,_,rfl,hx2,rfl,?_⟩
   k_is
   refine ⟨x,ls,a,h,rfl,hR2,s2.ok,by omega,fun bb H3 hbb s3=>?_⟩
   have s23:=s2.trans s3
   cases bb with
   | true =>
    k_is
    refine ⟨x,dx,_,rfl,s3.k hx2,rfl,?_⟩
    k_is
    refine ⟨x,ls,a,c,h,rfl,hR2.kp s3.kp,s3.ok,by omega,by omega,by omega,fun r H4 hr3 s4=>?_⟩
    cases r with
    | some m =>
     k_is
     obtain ⟨j1,j2,j3,j4⟩:=hr3
     refine q (some m) H4 ⟨by omega,j3,fun i' i1 i2 he=>?_⟩ ((s1.trans s23).trans s4)
     by_cases k3:i'<=c
     ·exact j4 i' i1 k3 he
     ·exact hno i' (by rw [cv1];omega) i2 he
    | none =>
     k_is
     rw [show (!decide (Ng none=V.non))=false from rfl]
     k_is
     exact ⟨⟨_,_,_,rfl⟩,s23.trans s4,go hr3⟩
   | false =>
    k_is
    rw [show (!decide (V.non=V.non))=false from rfl]
    k_is
    exact ⟨⟨_,_,_,rfl⟩,s23,go fun k k1 k2=>hbb rfl k0 ok4 ok5 (by omega) k (by omega) (by omega)⟩
  ·rintro σ H2 ⟨⟨v3,v4,v5,rfl⟩,s2,hno⟩
   rw [hal,Nat.sub_self] at hno
   have hno:∀ k,0<k->k<p->hgt ls.flatten k≠h:=fun k k1 k2=>by
    refine hno k ?_ k2
    by_cases hp1:0<p-1
    ·unfold List.getD
     rw [hO.fst hp1]
     exact k1
    ·omega
   k_is
   refine Bz (fun h1=>?_) (fun h1=>?_)
   ·k_is
    refine Bz (fun h2=>?_) (fun h2=>?_)
    ·k_is
     have h2:=V.int.inj h2
     exact q (some 0) H2 ⟨by omega,by rw [Y0,h2],hno⟩ (s1.trans s2)
    ·k_is
     refine q none H2 (fun i hi he=>?_) (s1.trans s2)
     by_cases i0:i=0
     ·rw [i0,Y0] at he
      exact h2 (by rw [he])
     ·exact hno i (by omega) hi he
   ·k_is
    exact q none H2 (fun i hi=>absurd hi (by omega)) (s1.trans s2)
def R9 (C CR:Addr)(ts:List Tb):Sp:=fun vs H Q _=>∃ (x:Addr) (ls:List (List Bool)) (lo hi:Nat),vs=[.ref x,.int lo,.int hi]/\Bk C CR H x ls/\Tbs ts H/\lo<ls.flatten.length/\∀ (b:Bool) H',(b=true->∃ k,k<ls.length/\lo=bgn ls k/\hi=bgn ls (k+1))->SmT ts H H'->Q (.bl b) H'
theorem Qn {f:Addr}{fd:FuncData}{ts:List Tb}(F:Fun K "is_stretch" "Heights.is_stretch" Dx f fd)(T:Txt K mg)(Z:Qa K aa)(ad:Mth P w K mg base aa "stretch_at" 4 ["self","place"] (Nv ab aa ts))(az:Mth P w K mg base aa "begin_of" 1 ["self","number"] (My ab aa)):A9 P w K mg base CX0 5 f fd ["self","low","high"] (R9 ab aa ts):=by
 refine F.ok F1 (fun vs H Q E h=>?_) (fun cdv A outer s H vs Q E hr h=>?_)
 ·obtain ⟨x,ls,lo,hi,rfl,_⟩:=h
  rfl
 ·obtain ⟨x,ls,lo,hi,rfl,hR,hT,hl,q⟩:=h
  obtain ⟨dx,p,b,k,t,o,hx,hW,hTb⟩:=id hR
  refine ⟨_,(Ab (Aq (i:=3) F1.nd rfl (Or.inl rfl) (A4 ad (hr.mono (by decide:4<=_)) (pv 0) (Af (pv 1) Aa rfl)))
   (Ai (At (Z5 (C2 Ew (pv 1) (A4 az (hr.mono (by decide:1<=_)) (pv 0) (Af (pv 3) Aa rfl)) (Ax _)) (Y9 (C2 Ew (pv 2) (A4 az (hr.mono (by decide:1<=_)) (pv 0) (Af (Am A7 (pv 3) Aj) Aa rfl)) (Ax _))))))),?_⟩
  k_is
  refine ⟨x,dx,_,rfl,hx,rfl,?_⟩
  k_is
  refine ⟨x,ls,lo,rfl,hR,hT,fun k1 H1 hk1 ha1 hb1 s1=>?_⟩
  have hkl:=pR hl hk1 ha1
  have hR1:=hR.kp s1.kp
  k_is
  refine ⟨x,dx,_,rfl,s1.k hx,rfl,?_⟩
  k_is
  refine ⟨x,ls,k1,rfl,hR1,hk1,?_⟩
  k_is
  refine Bz (fun h1=>?_) (fun _=>q false H1 (fun e=>by cases e) s1)
  have h1:lo=bgn ls k1:=by
   have:=V.int.inj h1
   omega
  k_is
  refine ⟨x,dx,_,rfl,s1.k hx,rfl,?_⟩
  k_is
  refine ⟨x,ls,k1+1,by rw [show ((k1+1:Nat):Int)=(k1:Int)+1 by omega];rfl,hR1,by omega,?_⟩
  k_is
  refine q _ H1 (fun hb=>⟨k1,hkl,h1,?_⟩) s1
  have:=V.int.inj (of_decide_eq_true hb)
  omega
theorem jF {ls:List (List Bool)}{k:Nat}{y:List Bool}(hy:ls[k]?=some y):hw ls.flatten (bgn ls k) (bgn ls (k+1))=(hts y y.length).map (hB ls k + ·):=by
 have hb:=C6 hy
 unfold hw hts
 rw [hb,Nat.add_sub_cancel_left,List.map_map]
 refine List.map_congr_left fun j hj=>?_
 have:=List.mem_range.mp hj
 show _=hB ls k+hgt y (j+1)
 rw [Nat.add_assoc,Up hy (by omega)]
theorem Yq (ns:List Int)(a m:Int):(ns.map (a + ·)).count (a+m)=ns.count m:=by
 induction ns with
 | nil=>rfl
 | cons n r ih =>
  rw [List.map_cons,List.count_cons,List.count_cons,ih]
  by_cases h:n=m
  ·simp [h]
  ·simp [h]
theorem dQ {l:List Bool}{lo hi:Nat}{h:Int}(hn:∀ i,lo<i->i<=hi->hgt l i≠h):(hw l lo hi).count h=0:=List.count_eq_zero.mpr fun hm=>by
 obtain ⟨i,h1,h2,h3⟩:=sX hm
 exact hn i h1 h2 h3
def Mx (C CR:Addr)(ts:List Tb):Sp:=fun vs H Q _=>∃ (x:Addr) (ls:List (List Bool)) (lo hi k:Nat) (h:Int),vs=[.ref x,.int lo,.int hi,.int h]/\Bk C CR H x ls/\Tbs ts H/\lo<hi/\k<ls.length/\bgn ls k<=lo/\hi<=bgn ls (k+1)/\∀ H',SmT ts H H'->Q (.int ((hw ls.flatten lo hi).count h:Nat)) H'
theorem Qf {f:Addr}{fd:FuncData}{ts:List Tb}(F:Fun K "often_within" "Heights.often_within" Dd f fd)(T:Txt K mg)(Z:Qa K aa)(ad:Mth P w K mg base aa "stretch_at" 4 ["self","place"] (Nv ab aa ts))(bh:Mth P w K mg base aa "is_stretch" 5 ["self","low","high"] (R9 ab aa ts))(aj:Mth P w K mg base aa "heights_within" 8 ["self","low","high"] (T5 ab aa ts))(au:Mth P w K mg base aa "may_meet" 5 ["self","low","height"] (Sr ab aa ts)):A9 P w K mg base CX0 9 f fd ["self","low","high","height"] (Mx ab aa ts):=by
 refine F.ok Fc (fun vs H Q E h=>?_) (fun cdv A outer s H vs Q E hr h=>?_)
 ·obtain ⟨x,ls,lo,hi,k,h,rfl,_⟩:=h
  rfl
 ·obtain ⟨x,ls,lo,hi,k0,h,rfl,hR,hT,hlh,hk0,hb0,hb1,q⟩:=h
  obtain ⟨dx,p,b,k,t,o,hx,hW,hTb⟩:=id hR
  obtain ⟨ta,rs,rfl,ht,hrl,hrs⟩:=hTb.tb
  obtain ⟨oa,os,rfl,ho,hol,hos⟩:=hTb.ol
  have hle:=Y8 ls (k0+1)
  have hl:lo<ls.flatten.length:=by omega
  have ey:ls[k0]?=some (ls[k0]):=List.getElem?_eq_getElem hk0
  have hbs:=C6 ey
  have hsz:=hW.sz _ _ ey
  refine ⟨_,(Ab (Aq (i:=4) Fc.nd rfl (Or.inl rfl) (A4 ad (hr.mono (by decide:4<=_)) (pv 0) (Af (pv 1) Aa rfl)))
   (Ab (B3 (PW.pt (Sz (Av Ew (pv 3) (Bd Wt (Bd A8 (A6 (pv 0) rfl) (pv 4) (fun _ _=>rfl)) Aj (fun _ _=>rfl)) (Ax _)) (Nk (Dr (A4 bh (hr.mono (by decide:5<=_)) (pv 0) (Af (pv 1) (Af (pv 2) Aa rfl) rfl)))))) (Ai (At (Bd A8 (A6 (pv 0) rfl) (pv 4) (fun _ _=>rfl))))
   Ba)
   (Ai (At (C4 (Dr (A4 au (hr.mono (by decide:5<=_)) (pv 0) (Af (pv 1) (Af (pv 3) Aa rfl) rfl))) (Ds PySem.F.plainAttrs_list PySem.F.slot_list_count PySem.F.type_list_count Ue (A4 aj (hr.mono (by decide:8<=_)) (pv 0) (Af (pv 1) (Af (pv 2) Aa rfl) rfl)) (Af (pv 3) Aa rfl)) Aj))))),?_⟩
  k_is
  refine ⟨x,dx,_,rfl,hx,rfl,?_⟩
  k_is
  refine ⟨x,ls,lo,rfl,hR,hT,fun k1 H1 hk1 ha1 hc1 s1=>?_⟩
  have hkl:=pR hl hk1 ha1
  obtain rfl:k1=k0:=U4 ha1 (hc1 hkl) hb0 (by omega)
  have hj:k1<rs.length:=by omega
  obtain ⟨mn,mx,hr1,hmn,hmx⟩:=hrs _ _ (List.getElem?_eq_getElem hj) _ ey
  k_is
  refine ⟨x,aa,dx,_,_,rfl,s1.k hx,Z.cl,Z.n_kept_table,rfl,?_⟩
  k_is
  refine Bg (SqL.of (s1.k ht)) (Bc (by rw [List.getElem?_map,List.getElem?_eq_getElem hj];rfl)) ?_
  k_is
  refine X4 (SqT.of (s1.k hr1)) (v:=.int (hB ls k1+mn)) rfl ?_
  k_is
  refine Bz (fun h1=>?_) (fun h1=>?_)
  ·have h1:h=hB ls k1+mn:=V.int.inj h1
   k_is
   refine ⟨x,dx,_,rfl,s1.k hx,rfl,?_⟩
   k_is
   refine ⟨x,ls,lo,hi,rfl,hR.kp s1.kp,s1.ok,hl,fun bb H2 hbb s2=>?_⟩
   have s12:=s1.trans s2
   cases bb with
   | true =>
    obtain ⟨k2,hk2,e1,e2⟩:=hbb rfl
    obtain rfl:k1=k2:=U4 (n:=lo) hb0 (by omega) (by omega) (by omega)
    have hjo:k1<os.length:=by omega
    have hv:=hos k1 _ _ _ (List.getElem?_eq_getElem hjo) ey hmn
    k_is
    refine ⟨x,aa,dx,_,_,rfl,s12.k hx,Z.cl,Z.n_often_least,rfl,?_⟩
    k_is
    refine Bg (SqL.of (s12.k ho)) (v:=os[k1]) (Bc (List.getElem?_eq_getElem hjo)) ?_
    k_is
    have:=q H2 s12
    rw [e1,e2,jF ey,h1,Yq] at this
    rw [hv]
    exact this
   | false =>
    k_is
    refine ⟨x,dx,_,rfl,s12.k hx,rfl,?_⟩
    k_is
    refine ⟨x,ls,lo,h,rfl,hR.kp s12.kp,s12.ok,hl,fun b3 H3 hb3 s3=>?_⟩
    have s13:=s12.trans s3
    cases b3 with
    | true =>
     k_is
     refine ⟨x,dx,_,rfl,s13.k hx,rfl,?_⟩
     k_is
     refine ⟨x,ls,lo,hi,rfl,hR.kp s13.kp,s13.ok,by omega,by omega,by omega,fun p4 H4 s4 hp40 hp4=>?_⟩
     k_is
     refine ⟨.inl ⟨rfl,_,SqL.of hp4⟩,?_⟩
     k_is
     refine ⟨p4,_,_,rfl,rfl,hp4,Dm _,rfl,?_⟩
     rw [Kq]
     exact q H4 (s13.trans s4)
    | false =>
     k_is
     have:=q H3 s13
     rw [dQ fun i h1 h2=>hb3 rfl k1 hkl ha1 (by omega) i (by omega) (by omega)] at this
     exact this
  ·k_is
   refine ⟨x,dx,_,rfl,s1.k hx,rfl,?_⟩
   k_is
   refine ⟨x,ls,lo,h,rfl,hR.kp s1.kp,s1.ok,hl,fun b3 H3 hb3 s3=>?_⟩
   have s13:=s1.trans s3
   cases b3 with
   | true =>
    k_is
    refine ⟨x,dx,_,rfl,s13.k hx,rfl,?_⟩
    k_is
    refine ⟨x,ls,lo,hi,rfl,hR.kp s13.kp,s13.ok,by omega,by omega,by omega,fun p4 H4 s4 hp40 hp4=>?_⟩
    k_is
    refine ⟨.inl ⟨rfl,_,SqL.of hp4⟩,?_⟩
    k_is
    refine ⟨p4,_,_,rfl,rfl,hp4,Dm _,rfl,?_⟩
    rw [Kq]
    exact q H4 (s13.trans s4)
   | false =>
    k_is
    have:=q H3 s13
    rw [dQ fun i h1 h2=>hb3 rfl k1 hkl ha1 (by omega) i (by omega) (by omega)] at this
    exact this
def lvP (l:List Bool)(h:Int)(lo n:Nat):List Nat:=(List.range n).filter fun q=>decide (hgt l (lo+q+1)=h)
theorem M3 (l:List Bool)(h:Int)(lo n:Nat):lvP l h lo (n+1)=lvP l h lo n++if hgt l (lo+n+1)=h then [n] else []:=by
 unfold lvP
 rw [List.range_succ,List.filter_append,dZ]
 simp only [decide_eq_true_eq]
theorem dY (l:List Bool)(h:Int)(lo n:Nat):∀ d,∃ r,lvP l h lo (n+d)=lvP l h lo n++r
 | 0=>⟨[],(List.append_nil _).symm⟩
 | d+1=>by
  obtain ⟨r,e⟩:=dY l h lo n d
  exact ⟨_,by rw [<- Nat.add_assoc,M3,e,List.append_assoc]⟩
theorem eF (l:List Bool)(h:Int)(lo n:Nat):(lvP l h lo n).length=(hw l lo (lo+n)).count h:=by
 unfold lvP hw
 rw [Nat.add_sub_cancel_left,List.count,List.countP_map,<- List.countP_eq_length_filter]
 congr 1
theorem rB {l:List Bool}{h:Int}{lo n j:Nat}(hj:j<n)(hh:hgt l (lo+j+1)=h):(lvP l h lo n)[(lvP l h lo j).length]?=some j:=by
 obtain ⟨r,e⟩:=dY l h lo (j+1) (n-(j+1))
 rw [show j+1+(n-(j+1))=n by omega,M3,if_pos hh] at e
 rw [e,List.append_assoc,List.getElem?_append_right (Nat.le_refl _),Nat.sub_self]
 rfl
def Va (C CR:Addr)(ts:List Tb):Sp:=fun vs H Q _=>∃ (x:Addr) (ls:List (List Bool)) (lo hi nth j:Nat) (h:Int),vs=[.ref x,.int lo,.int hi,.int h,.int nth]/\Bk C CR H x ls/\Tbs ts H/\lo<j/\j<=hi/\hi<=ls.flatten.length/\hi-lo<=1000/\hgt ls.flatten j=h/\(hw ls.flatten lo (j-1)).count h=nth/\∀ H',SmT ts H H'->Q (.int (j:Nat)) H'
theorem Qp {f:Addr}{fd:FuncData}{ts:List Tb}(F:Fun K "nth_within" "Heights.nth_within" Cu f fd)(T:Txt K mg)(Z:Qa K aa)(aj:Mth P w K mg base aa "heights_within" 8 ["self","low","high"] (T5 ab aa ts)):A9 P w K mg base CX0 9 f fd ["self","low","high","height","nth"] (Va ab aa ts):=by
 refine F.ok F0 (fun vs H Q E h=>?_) (fun cdv A outer s H vs Q E hr h=>?_)
 ·obtain ⟨x,ls,lo,hi,nth,j,h,rfl,_⟩:=h
  rfl
 ·obtain ⟨x,ls,lo,hi,nth,j,h,rfl,hR,hT,h1,h2,h3,h4,h5,h6,q⟩:=h
  obtain ⟨dx,p,b,k,t,o,hx,hW,hTb⟩:=id hR
  have hfl:ls.flatten.length<=60000:=by
   have:=U9 hW.sz ls.length (Nat.le_refl _)
   have hfw:=hW.fw
   rw [Gi] at this
   omega
  refine ⟨_,(Ab (Aq (i:=5) F0.nd rfl (Or.inl rfl) (A4 aj (hr.mono (by decide:8<=_)) (pv 0) (Af (pv 1) (Af (pv 2) Aa rfl) rfl)))
   (Ai (At (Bd A8 (bU rfl Je (fR rfl T.n_enumerate (Af (pv 5) Aa rfl) (Wu (Am A7 (pv 1) Aj) cW)) (fun _ _ _ _=>Gf (Av Ew (pv 1) (pv 2) (Ax _))) (fun _ _ _ _=>(pv 0))) (pv 4) (fun _ _=>rfl))))),?_⟩
  k_is
  refine ⟨x,dx,_,rfl,hx,rfl,?_⟩
  k_is
  refine ⟨x,ls,lo,hi,rfl,hR,hT,by omega,h3,h4,fun p1 H1 s1 hp10 hp1=>?_⟩
  k_is
  refine ⟨p1,lo+1,rfl,by rw [show ((lo+1:Nat):Int)=(lo:Int)+1 by omega],by omega,⟨_,SqL.of hp1⟩,?_⟩
  refine gJ hp1 (fun i=>(lvP ls.flatten h lo i).map fun q=>V.int ((lo+1+q:Nat):Int)) rfl (fun i hi=>?_) (fun i v H4 R A hv s4 hR4 hA4=>?_) (fun D H4 hD s4 hD4=>?_)
  ·rw [List.length_map] at hi ⊢
   rw [Ga] at hi
   have e1:(lvP ls.flatten h lo i).length<=i:=by
    unfold lvP
    have:=List.length_filter_le (fun q=>decide (hgt ls.flatten (lo+q+1)=h)) (List.range i)
    rw [List.length_range] at this
    exact this
   exact Ak (by omega)
  ·have hil:=Bw hv
   rw [List.length_map,Ga] at hil
   rw [List.getElem?_map,Pb hil] at hv
   obtain rfl:V.int (hgt ls.flatten (lo+i+1))=v:=Option.some.inj hv
   k_is
   refine Bz (fun e=>?_) (fun e=>?_)
   ·k_is
    refine hA4 _ _ ?_ (An.refl _)
    rw [M3,if_pos (V.int.inj e),List.map_append]
    rfl
   ·refine hR4 ?_ _ (An.refl _)
    rw [M3,if_neg (fun z=>e (congrArg V.int z)),List.append_nil]
  ·rw [List.length_map,Ga] at hD4
   have hn:(lvP ls.flatten h lo (j-1-lo)).length=nth:=by rw [eF,show lo+(j-1-lo)=j-1 by omega,h6]
   have ha:=rB (l:=ls.flatten) (h:=h) (lo:=lo) (n:=hi-lo) (j:=j-1-lo) (by omega) (by rw [show lo+(j-1-lo)+1=j by omega];exact h5)
   rw [hn] at ha
   k_is
   refine Bg (SqL.of hD4) (v:=.int (j:Nat)) (Bc (by rw [List.getElem?_map,ha];show some (V.int ((lo+1+(j-1-lo):Nat):Int))=_;rw [show lo+1+(j-1-lo)=j by omega])) ?_
   k_is
   exact q H4 (s1.then s4)
theorem fS {ts:List Tb}{K:PySem.W.Frag}{a:Addr}{as:List Addr}{xs ys:List V}{H1:Hp}{fr:St}{tc:TT}{te:TE}{Q:VK}(hx:as.length=xs.length)(hy:as.length=ys.length)(ha:H1 a=some (.lst (as.map V.ref)))(ht:∀ (i:Nat) t x y,as[i]?=some t->xs[i]?=some x->ys[i]?=some y->H1 t=some (.tup [x,y]))(hT:Tbs ts H1)(acc:Nat->List V)(h0:acc 0=[])(hz:∀ i,i<as.length->(acc i).length<sizeLine)
  (turn:∀ (i:Nat) x y H (R:Hp->Prop) (A:VK),xs[i]?=some x->ys[i]?=some y->SmT ts H1 H->(∀ v H',acc (i+1)=acc i++[v]->SmT ts H H'->A v H')->tc (some x::some y::fr) H fun b H3=>if b=true then te (some x::some y::fr) H3 A else R H3)
  (fin:∀ D H,H1 D=none->SmT ts H1 H->H D=some (.lst (acc as.length))->Q (.ref D) H):Ki K (Itl K a) H1 fr tc te Q:=by
 intro D hD
 refine ⟨fun i m H=>i+m=as.length/\SmT ts H1 H/\H D=some (.lst (acc i)),⟨as.length,by omega,SmT.of hT (Al hD),by rw [Ae,h0]⟩,?_⟩
 rintro i m H ⟨him,sm,hd⟩
 by_cases hi:i<as.length
 ·refine .inr ⟨⟨_,.ref as[i],SqL.of (sm.k ha),by rw [List.getElem?_map,List.getElem?_eq_getElem hi];rfl⟩,fun v H' h=>?_⟩
  obtain ⟨rfl,hv⟩:=h
  have hv:=hv _ (SqL.of (sm.k ha))
  rw [List.getElem?_map,List.getElem?_eq_getElem hi] at hv
  obtain rfl:=Option.some.inj hv
  have e1:xs[i]?=some (xs[i]'(by omega)):=List.getElem?_eq_getElem _
  have e2:ys[i]?=some (ys[i]'(by omega)):=List.getElem?_eq_getElem _
  refine ⟨as[i],_,_,rfl,SqT.of (sm.k (ht i _ _ _ (List.getElem?_eq_getElem hi) e1 e2)),?_⟩
  exact turn i _ _ _ _ _ e1 e2 sm fun y H'' e s2=>⟨acc i,s2.k hd,hz i hi,m-1,by omega,by omega,(sm.trans s2).push hD (s2.k hd),by rw [Ae,e]⟩
 ·obtain rfl:i=as.length:=by omega
  exact .inl ⟨⟨_,SqL.of (sm.k ha),by rw [List.length_map];exact Nat.le_refl _⟩,fin D H hD sm hd⟩
def lvl (l:List Bool)(lo hi:Nat):Nat:=if lo<hi then 1+(hw l lo (hi-1)).count (hgt l lo) else 0
theorem iC.sums {ls:List (List Bool)}{lo hi:Nat}{los his:List Nat}(h:iC ls lo hi los his)(hh:Int):∀ i,i<=los.length->lo<=los.getD i hi\/hi<=lo->(((List.range i).map fun j=>(((hw ls.flatten (los.getD j 0) (his.getD j 0)).count hh:Nat):Int)).sum=((hw ls.flatten lo (los.getD i hi)).count hh:Nat)):=by
 intro i
 induction i with
 | zero =>
  intro _ _
  by_cases hlt:lo<hi
  ·have:=h.fst hlt
   unfold List.getD
   rw [this]
   show (0:Int)=((hw ls.flatten lo lo).count hh:Nat)
   unfold hw
   rw [Nat.sub_self]
   rfl
  ·have:=h.nil hlt
   unfold List.getD
   rw [List.getElem?_eq_none (by omega)]
   show (0:Int)=((hw ls.flatten lo hi).count hh:Nat)
   unfold hw
   rw [show hi-lo=0 by omega]
   rfl
 | succ i ih =>
  intro hi1 _
  have ea:los[i]?=some (los[i]'(by omega)):=List.getElem?_eq_getElem _
  have eb:his[i]?=some (his[i]'(by have:=h.ln;omega)):=List.getElem?_eq_getElem _
  obtain ⟨g1,g2,g3,_⟩:=h.at' i _ _ ea eb
  have hn:=h.nxt i _ eb
  have ga:los.getD i hi=los[i]'(by omega):=by unfold List.getD;rw [ea];rfl
  have ih:=ih (by omega) (.inl (by rw [ga];exact g2))
  rw [ga] at ih
  rw [List.range_succ,List.map_append,List.sum_append,ih,<- hn,N3 g2 (Nat.le_of_lt g1),List.count_append]
  have ga0:los.getD i 0=los[i]'(by omega):=by unfold List.getD;rw [ea];rfl
  have gb0:his.getD i 0=his[i]'(by have:=h.ln;omega):=by unfold List.getD;rw [eb];rfl
  show _+([(((hw ls.flatten (los.getD i 0) (his.getD i 0)).count hh:Nat):Int)]:List Int).sum=_
  rw [ga0,gb0,List.sum_singleton]
  omega
def Px (C CR:Addr)(ts:List Tb):Sp:=fun vs H Q _=>∃ (x:Addr) (ls:List (List Bool)) (lo hi:Nat),vs=[.ref x,.int lo,.int hi]/\Bk C CR H x ls/\Tbs ts H/\hi<=ls.flatten.length/\∀ H',SmT ts H H'->Q (.int (lvl ls.flatten lo hi:Nat)) H'
theorem Qo {f:Addr}{fd:FuncData}{ts:List Tb}(F:Fun K "many_level" "Heights.many_level" Cs f fd)(T:Txt K mg)(Z:Qa K aa)(ah:Mth P w K mg base aa "height" 7 ["self","place"] (Gd ab aa ts))(aI:Mth P w K mg base aa "often_within" 9 ["self","low","high","height"] (Mx ab aa ts))(ak:Mth P w K mg base aa "parts" 5 ["self","low","high"] (Ik ab aa ts)):A9 P w K mg base CX0 10 f fd ["self","low","high"] (Px ab aa ts):=by
 refine F.ok Fz (fun vs H Q E h=>?_) (fun cdv A outer s H vs Q E hr h=>?_)
 ·obtain ⟨x,ls,lo,hi,rfl,_⟩:=h
  rfl
 ·obtain ⟨x,ls,lo,hi,rfl,hR,hT,h2,q⟩:=h
  obtain ⟨dx,p,b,k,t,o,hx,hW,hTb⟩:=id hR
  refine ⟨_,(Ab (B3 (Av O5 (pv 1) (pv 2) (Ax _)) (Ai (At Aj))
   Ba)
   (Ab (Aq (i:=3) Fz.nd rfl (Or.inr rfl) (A4 ah (hr.mono (by decide:7<=_)) (pv 0) (Af (pv 1) Aa rfl)))
   (Ai (At (Am A7 Aj (As (jP rfl) (by rfl) T.n_sum sJ (Af (bU rfl Iy (B4 (A4 ak (hr.mono (by decide:5<=_)) (pv 0) (Af (pv 1) (Af (Am Be (pv 2) Aj) Aa rfl) rfl))) (fun _ _ _ _=>Co) (fun _ _ _ _=>(A4 aI (hr.mono (by decide:9<=_)) (pv 3) (Af (pv 0) (Af (pv 1) (Af (pv 2) Aa rfl) rfl) rfl)))) Aa rfl))))))),?_⟩
  k_is
  refine Bz (fun h0=>?_) (fun h0=>?_)
  ·k_is
   have:=q H (SmT.refl hT)
   unfold lvl at this
   rw [if_neg (by omega)] at this
   exact this
  ·have hlt:lo<hi:=by omega
   k_is
   refine ⟨x,dx,_,rfl,hx,rfl,?_⟩
   k_is
   refine ⟨x,ls,lo,rfl,hR,hT,by omega,fun H1 s1=>?_⟩
   k_is
   refine ⟨x,dx,_,rfl,s1.k hx,rfl,?_⟩
   k_is
   refine ⟨x,ls,lo,(hi:Int)-1,rfl,hR.kp s1.kp,s1.ok,by omega,fun pa as los his H2 s2 hpa0 hpa hN hO hll=>?_⟩
   rw [show ((hi:Int)-1).toNat=hi-1 by omega] at hO
   have s12:=s1.trans s2
   have hal:as.length=los.length:=by rw [hN.1,Cn]
   refine ⟨pa,rfl,⟨_,SqL.of hpa⟩,?_⟩
   refine fS (xs:=nV los) (ys:=nV his) hN.1 (by rw [hal,Cn,hO.ln]) hpa (fun i t x y e1 e2 e3=>(hN.2 i t x y e1 e2 e3).2) s2.ok (fun i=>((List.range i).map fun j=>(((hw ls.flatten (los.getD j 0) (his.getD j 0)).count (hgt ls.flatten lo):Nat):Int)).map V.int) rfl (fun i hi=>?_) (fun i y y2 H3 R A hy hy2 s3 hA=>?_) (fun D H3 hD s3 h3=>?_)
   ·rw [List.length_map,List.length_map,List.length_range]
    exact Ak (by omega)
   ·obtain ⟨a,ea,rfl⟩:=He hy
    obtain ⟨c,ec,rfl⟩:=He hy2
    obtain ⟨ok1,ok2,ok3,k0,ok4,ok5,ok6⟩:=hO.at' i a c ea ec
    have s13:=s12.trans s3
    k_is
    refine ⟨x,dx,_,rfl,s13.k hx,rfl,?_⟩
    k_is
    refine ⟨x,ls,a,c,k0,_,rfl,hR.kp s13.kp,s13.ok,ok1,ok4,ok5,ok6,fun H4 s4=>?_⟩
    refine hA _ _ ?_ s4
    rw [List.range_succ,List.map_append,List.map_append]
    have ga0:los.getD i 0=a:=by unfold List.getD;rw [ea];rfl
    have gb0:his.getD i 0=c:=by unfold List.getD;rw [ec];rfl
    show _++[V.int (((hw ls.flatten (los.getD i 0) (his.getD i 0)).count (hgt ls.flatten lo):Nat):Int)]=_
    rw [ga0,gb0]
   ·k_is
    refine ⟨D,_,rfl,SqL.of h3,?_⟩
    rw [hal,hO.sums _ _ (Nat.le_refl _) (by unfold List.getD;rw [List.getElem?_eq_none (Nat.le_refl _)];show lo<=hi-1\/_;omega)]
    rw [show los.getD los.length (hi-1)=hi-1 by unfold List.getD;rw [List.getElem?_eq_none (Nat.le_refl _)];rfl]
    k_is
    have:=q H3 (s12.trans s3)
    unfold lvl at this
    rw [if_pos hlt] at this
    rw [show (1:Int)+((hw ls.flatten lo (hi-1)).count (hgt ls.flatten lo):Nat)=((1+(hw ls.flatten lo (hi-1)).count (hgt ls.flatten lo):Nat):Int) by omega]
    exact this
def Zq (C CR:Addr)(ts:List Tb):Sp:=fun vs H Q _=>∃ (x:Addr) (ls:List (List Bool)) (lo nth j:Nat),vs=[.ref x,.int lo,.int nth]/\Bk C CR H x ls/\Tbs ts H/\lo<=j/\j<=ls.flatten.length/\hgt ls.flatten j=hgt ls.flatten lo/\lvl ls.flatten lo j=nth/\∀ H',SmT ts H H'->Q (.int (j:Nat)) H'
theorem Qt {f:Addr}{fd:FuncData}{ts:List Tb}(F:Fun K "nth_level" "Heights.nth_level" Ej f fd)(T:Txt K mg)(Z:Qa K aa)(ah:Mth P w K mg base aa "height" 7 ["self","place"] (Gd ab aa ts))(aI:Mth P w K mg base aa "often_within" 9 ["self","low","high","height"] (Mx ab aa ts))(bi:Mth P w K mg base aa "nth_within" 9 ["self","low","high","height","nth"] (Va ab aa ts))(ak:Mth P w K mg base aa "parts" 5 ["self","low","high"] (Ik ab aa ts)):A9 P w K mg base CX0 10 f fd ["self","low","nth"] (Zq ab aa ts):=by
 refine F.ok B0 (fun vs H Q E h=>?_) (fun cdv A outer s H vs Q E hr h=>?_)
 ·obtain ⟨x,ls,lo,nth,j,rfl,_⟩:=h
  rfl
 ·obtain ⟨x,ls,lo,nth,j,rfl,hR,hT,hj1,hj2,hj3,hj4,q⟩:=h
  obtain ⟨dx,p,b,k,t,o,hx,hW,hTb⟩:=id hR
  refine ⟨_,(Ab (B3 (Av Ew (pv 2) Aj (Ax _)) (Ai (At (pv 1)))
   Ba)
   (Ab (Aq (i:=3) B0.nd rfl (Or.inl rfl) (A4 ah (hr.mono (by decide:7<=_)) (pv 0) (Af (pv 1) Aa rfl)))
   (Ab (Dn PassesOwn.never rfl (B4 (A4 ak (hr.mono (by decide:5<=_)) (pv 0) (Af (pv 1) (Af (A6 (pv 0) rfl) Aa rfl) rfl))) (N7 rfl (Dk (Bt (i:=4) B0.nd rfl (Or.inl rfl)) (Dk (Bt (i:=5) B0.nd rfl (Or.inl rfl)) Lo)))
   (Ab (Aq (i:=6) B0.nd rfl (Or.inl rfl) (A4 aI (hr.mono (by decide:9<=_)) (pv 0) (Af (pv 4) (Af (pv 5) (Af (pv 3) Aa rfl) rfl) rfl)))
   (Ab (B3 (Av Ko (pv 2) (pv 6) (Ax _)) (Ai (At (A4 bi (hr.mono (by decide:9<=_)) (pv 0) (Af (pv 4) (Af (pv 5) (Af (pv 3) (Af (Am Be (pv 2) Aj) Aa rfl) rfl) rfl) rfl))))
   Ba)
   (Ai (Z0 (i:=2) B0.nd rfl (Or.inl rfl) (pv 6) pQ)))))
   (Ai (At Ic))))),?_⟩
  k_is
  refine Bz (fun h0=>?_) (fun h0=>?_)
  ·have h0:nth=0:=by
    have:=V.int.inj h0
    omega
   k_is
   have e:j=lo:=by
    by_cases h:lo<j
    ·unfold lvl at hj4
     rw [if_pos h] at hj4
     omega
    ·omega
   rw [<- e]
   exact q H (SmT.refl hT)
  ·have h0:0<nth:=Nat.pos_of_ne_zero fun z=>h0 (by rw [z];rfl)
   have hlt:lo<j:=by
    by_cases h:lo<j
    ·exact h
    ·unfold lvl at hj4
     rw [if_neg h] at hj4
     omega
   unfold lvl at hj4
   rw [if_pos hlt] at hj4
   k_is
   refine ⟨x,dx,_,rfl,hx,rfl,?_⟩
   k_is
   refine ⟨x,ls,lo,rfl,hR,hT,by omega,fun H1 s1=>?_⟩
   k_is
   refine ⟨x,dx,_,rfl,s1.k hx,rfl,?_⟩
   k_is
   refine ⟨x,aa,dx,_,_,rfl,s1.k hx,Z.cl,Z.n_length,rfl,?_⟩
   k_is
   refine ⟨x,ls,lo,(ls.flatten.length:Int),rfl,hR.kp s1.kp,s1.ok,Int.le_refl _,fun pa as los his H2 s2 hpa0 hpa hN hO hll=>?_⟩
   rw [Int.toNat_natCast] at hO
   have s12:=s1.trans s2
   have hR2:=hR.kp s12.kp
   have hal:as.length=los.length:=by rw [hN.1,Cn]
   refine ⟨pa,rfl,⟨_,SqL.of hpa⟩,?_⟩
   refine T2 (as:=as) (xs:=nV los) (ys:=nV his) hN.1 (by rw [hal,Cn,hO.ln]) (fun i σ H3=>(∃ (m:Nat) (v3 v4 v5:Option V),σ=[some (.ref x),some (.int (lo:Nat)),some (.int (m:Nat)),some (.int (hgt ls.flatten lo)),v3,v4,v5]/\m+(hw ls.flatten lo (los.getD i ls.flatten.length)).count (hgt ls.flatten lo)=nth)/\SmT ts H2 H3/\los.getD i ls.flatten.length<j) ?_ (fun i σ H3 _ h=>SqL.of (h.2.1.k hpa)) (fun i t x y σ H3 e1 e2 e3 h=>h.2.1.k (hN.2 i t x y e1 e2 e3).2) ?_ ?_
   ·have e0:los.getD 0 ls.flatten.length=lo:=by unfold List.getD;rw [hO.fst (by omega)];rfl
    refine ⟨⟨nth,_,_,_,rfl,?_⟩,SmT.refl s2.ok,by rw [e0];exact hlt⟩
    rw [e0]
    unfold hw
    rw [Nat.sub_self]
    rfl
   ·rintro i y y2 σ H3 hy hy2 ⟨⟨m,v3,v4,v5,rfl,hm⟩,s3,hno⟩
    obtain ⟨a,ea,rfl⟩:=He hy
    obtain ⟨c,ec,rfl⟩:=He hy2
    obtain ⟨ok1,ok2,ok3,k0,ok4,ok5,ok6⟩:=hO.at' i a c ea ec
    have hsz:=hO.sz hW.sz ea ec
    have cv1:los.getD i ls.flatten.length=a:=by unfold List.getD;rw [ea];rfl
    have cv2:=hO.nxt i c ec
    rw [cv1] at hm hno
    have s13:=s12.trans s3
    k_is
    refine ⟨x,dx,_,rfl,s13.k hx,rfl,?_⟩
    k_is
    refine ⟨x,ls,a,c,k0,_,rfl,hR.kp s13.kp,s13.ok,ok1,ok4,ok5,ok6,fun H4 s4=>?_⟩
    have s14:=s13.trans s4
    have eac:=N3 (l:=ls.flatten) ok2 (Nat.le_of_lt ok1)
    k_is
    refine Bz (fun g=>?_) (fun g=>?_)
    ·have hjc:j<=c:=by
      by_cases h:j<=c
      ·exact h
      ·exfalso
       have e1:=N3 (l:=ls.flatten) (a:=lo) (b:=c) (c:=j-1) (by omega) (by omega)
       rw [e1,eac,List.count_append,List.count_append] at hj4
       omega
     have e2:=N3 (l:=ls.flatten) (a:=lo) (b:=a) (c:=j-1) (by omega) (by omega)
     rw [e2,List.count_append] at hj4
     k_is
     refine ⟨x,dx,_,rfl,s14.k hx,rfl,?_⟩
     k_is
     refine ⟨x,ls,a,c,m-1,j,_,by rw [show ((m-1:Nat):Int)=(m:Int)-1 by omega];rfl,hR.kp s14.kp,s14.ok,hno,hjc,ok3,by omega,hj3,by omega,fun H5 s5=>?_⟩
     k_is
     exact q H5 (s14.trans s5)
    ·have hcj:c<j:=by
      by_cases h:c<j
      ·exact h
      ·exfalso
       have e1:=N3 (l:=ls.flatten) (a:=lo) (b:=a) (c:=j-1) (by omega) (by omega)
       have e2:=N3 (l:=ls.flatten) (a:=a) (b:=j-1) (c:=c) (by omega) (by omega)
       have e3:0<(hw ls.flatten (j-1) c).count (hgt ls.flatten lo):=List.count_pos_iff.mpr (hj3▸Zj (by omega) (by omega))
       rw [e1,List.count_append] at hj4
       rw [e2,List.count_append] at g
       omega
     k_is
     refine ⟨⟨m-(hw ls.flatten a c).count (hgt ls.flatten lo),_,_,_,by rw [show ((m-(hw ls.flatten a c).count (hgt ls.flatten lo):Nat):Int)=(m:Int)-((hw ls.flatten a c).count (hgt ls.flatten lo):Nat) by omega];rfl,?_⟩,s3.trans s4,by rw [<- cv2];exact hcj⟩
     rw [<- cv2,eac,List.count_append]
     omega
   ·rintro σ H3 ⟨⟨m,v3,v4,v5,rfl,hm⟩,s3,hno⟩
    rw [hal] at hno
    exfalso
    unfold List.getD at hno
    rw [List.getElem?_eq_none (Nat.le_refl _)] at hno
    exact absurd hno (by show ¬ ls.flatten.length<j;omega)
def Z9 (C CR CS:Addr)(ts:List Tb):Sp:=fun vs H Q _=>∃ (x:Addr) (ls:List (List Bool)),vs=[.ref x]/\B6 C CR CS H x ls/\Tbs ts H/\∀ H',SmT ts H H'->Q (.str (Az ls.flatten)) H'
theorem Wh {f:Addr}{fd:FuncData}{ts:List Tb}(F:Fun K "row" "Openings.row" Ha f fd)(T:Txt K mg)(Z:Qb K ac)(bj:Mth P w K mg base aa "text" 6 ["self"] (Vc ab aa ts)):A9 P w K mg base CX0 7 f fd ["self"] (Z9 ab aa ac ts):=by
 refine F.ok Pj (fun vs H Q E h=>?_) (fun cdv A outer s H vs Q E hr h=>?_)
 ·obtain ⟨x,ls,rfl,_⟩:=h
  rfl
 ·obtain ⟨x,ls,rfl,⟨dx,r,e,hx,hR⟩,hT,q⟩:=h
  obtain ⟨dp,p,b,k,t,o,hp,_⟩:=id hR
  refine ⟨_,(Ai (At (Ie bj (hr.mono (by decide:6<=_)) (A6 (pv 0) rfl)))),?_⟩
  k_is
  refine ⟨x,ac,dx,_,_,rfl,hx,Z.cl,Z.n_pairs,rfl,?_⟩
  k_is
  refine ⟨r,dp,_,rfl,hp,rfl,?_⟩
  k_is
  exact ⟨r,ls,rfl,hR,hT,q⟩
def Uc (C CR CS:Addr)(ts:List Tb):Sp:=fun vs H Q _=>∃ (x:Addr) (ls:List (List Bool)),vs=[.ref x]/\B6 C CR CS H x ls/\Tbs ts H/\Vs 0 ls.flatten/\ls.flatten.length<=8000/\∀ p (ds:List Nat) H',SmT ts H H'->H p=none->H' p=some (.lst ((A0 ds).map V.int))->Dok ds->A5 ds=ls.flatten->Q (.ref p) H'
theorem Q4 {f:Addr}{fd:FuncData}{ts:List Tb}(F:Fun K "elders" "Openings.elders" Fx f fd)(T:Txt K mg)(Z:Qb K ac)(aJ:Cal P w K mg base "elders_of" 2 ["text"] J8)(bn:Mth P w K mg base ac "row" 7 ["self"] (Z9 ab aa ac ts)):A9 P w K mg base CX0 8 f fd ["self"] (Uc ab aa ac ts):=by
 refine F.ok Mi (fun vs H Q E h=>?_) (fun cdv A outer s H vs Q E hr h=>?_)
 ·obtain ⟨x,ls,rfl,_⟩:=h
  rfl
 ·obtain ⟨x,ls,rfl,hS,hT,hv,hl,q⟩:=h
  obtain ⟨dx,r,e,hx,hR⟩:=id hS
  refine ⟨_,(Ai (At (Bb aJ (hr.mono (by decide:2<=_)) (Af (Ie bn (hr.mono (by decide:7<=_)) (pv 0)) Aa rfl)))),?_⟩
  k_is
  refine ⟨x,dx,_,rfl,hx,rfl,?_⟩
  k_is
  refine ⟨x,ls,rfl,hS,hT,fun H1 s1=>?_⟩
  k_is
  exact ⟨ls.flatten,rfl,hv,hl,fun p ds H2 s2 h0 h1 hD e=>q p ds H2 (s1.then s2) (s1.sm.free h0) h1 hD e⟩
def G2 (C CR CS:Addr)(ts:List Tb):Sp:=fun vs H Q _=>∃ (x:Addr) (ls:List (List Bool)) (ds:List Nat) (k:Nat),vs=[.ref x,.int k]/\B6 C CR CS H x ls/\Tbs ts H/\Dok ds/\ls.flatten=A5 ds/\k<ds.length/\∀ H',SmT ts H H'->Q (.int ((2*k-dAt ds k:Nat):Int)) H'
theorem Q0 {f:Addr}{fd:FuncData}{ts:List Tb}(F:Fun K "opening" "Openings.opening" E4 f fd)(T:Txt K mg)(Z:Qb K ac)(bo:Cal P w K mg base "check_knot" 3 ["k","many_knots"] Vj)(aK:Mth P w K mg base ac "many_knots" 2 ["self"] (Nj ab aa ac))(bp:Mth P w K mg base aa "opening" 4 ["self","number"] (Mg ab aa ts)):A9 P w K mg base CX0 5 f fd ["self","k"] (G2 ab aa ac ts):=by
 refine F.ok L0 (fun vs H Q E h=>?_) (fun cdv A outer s H vs Q E hr h=>?_)
 ·obtain ⟨x,ls,ds,k,rfl,_⟩:=h
  rfl
 ·obtain ⟨x,ls,ds,k,rfl,hS,hT,hD,hrow,hk,q⟩:=h
  obtain ⟨dx,r,e,hx,hR⟩:=id hS
  obtain ⟨dp,p,b,kk,t,o,hp,_⟩:=id hR
  refine ⟨_,(Ab (Bl (Bb bo (hr.mono (by decide:3<=_)) (Af (pv 1) (Af (Ie aK (hr.mono (by decide:2<=_)) (pv 0)) Aa rfl) rfl)))
   (Ai (At (A4 bp (hr.mono (by decide:4<=_)) (A6 (pv 0) rfl) (Af (pv 1) Aa rfl))))),?_⟩
  k_is
  refine ⟨x,dx,_,rfl,hx,rfl,?_⟩
  k_is
  refine ⟨x,ls,rfl,hS,?_⟩
  rw [hrow,Bp hD,Nat.mul_div_cancel_left _ (by decide:0<2)]
  k_is
  refine ⟨k,_,rfl,by omega,by omega,?_⟩
  k_is
  refine ⟨x,ac,dx,_,_,rfl,hx,Z.cl,Z.n_pairs,rfl,?_⟩
  k_is
  refine ⟨r,dp,_,rfl,hp,rfl,?_⟩
  k_is
  obtain ⟨_,h1,h2⟩:=Fm hD hk
  refine ⟨r,ls,k,2*k-dAt ds k,rfl,hR,hT,by rw [hrow];exact h1,by rw [hrow];exact h2,fun H1 s1=>?_⟩
  exact q H1 s1
theorem Np {ds:List Nat}(h:Dok ds){k:Nat}(hk:k<ds.length):Tv (A5 ds) (2*k-dAt ds k) (A5 ds).length (hgt (A5 ds) (2*k-dAt ds k)) (some (2*k-dAt ds k+2*(Cm ds k).length+1+1)):=by
 obtain ⟨A,B,h1,h2,h3,h4,h5,h6⟩:=M8 h hk
 have hu:=Oj (Hx h hk)
 have hl:=congrArg List.length h2
 have hlu:=Bp (Hx h hk)
 rw [List.length_append,List.length_append,hlu] at hl
 have hg0:hgt (A5 ds) (2*k-dAt ds k)=dAt ds k:=h4
 have hin:∀ i,2*k-dAt ds k<i->i<2*k-dAt ds k+2*(Cm ds k).length+1+1->hgt (A5 ds) i≠dAt ds k:=fun i i1 i2 he=>by
  have e5:=h5 (i-A.length) (by omega)
  rw [show A.length+(i-A.length)=i by omega] at e5
  have e6:=hu.1 (i-A.length) (by omega)
  have he:hg (A5 ds) i=dAt ds k:=he
  omega
 rw [hg0]
 have e6:hgt (A5 ds) (2*k-dAt ds k+2*(Cm ds k).length+1+1)=dAt ds k:=by
  have:=h6
  rw [h1,show 2*k-dAt ds k+1+2*(Cm ds k).length+1=2*k-dAt ds k+2*(Cm ds k).length+1+1 by omega] at this
  exact this
 refine ⟨by omega,?_,e6,hin⟩
 have hB:0<B.length:=by
  cases B with
  | cons b B=>exact Nat.succ_pos _
  | nil =>
   exfalso
   rw [List.append_nil] at h2
   have e7:=(Oj h).2
   rw [show 2*ds.length=A.length+2*(Cm ds k).length by rw [<- Bp h,hl];rfl,h5 _ (Nat.le_refl _),hu.2] at e7
   omega
 omega
def K2 (C CR CS:Addr)(ts:List Tb):Sp:=fun vs H Q _=>∃ (x:Addr) (ls:List (List Bool)) (ds:List Nat) (k:Nat),vs=[.ref x,.int k]/\B6 C CR CS H x ls/\Tbs ts H/\Dok ds/\ls.flatten=A5 ds/\k<ds.length/\∀ H',SmT ts H H'->Q (.int ((2*k-dAt ds k+2*(Cm ds k).length+1:Nat):Int)) H'
theorem Qy {f:Addr}{fd:FuncData}{ts:List Tb}(F:Fun K "closing" "Openings.closing" Ez f fd)(T:Txt K mg)(Z:Qb K ac)(ae:Mth P w K mg base ac "opening" 5 ["self","k"] (G2 ab aa ac ts))(aL:Mth P w K mg base aa "partner" 11 ["self","place"] (Js ab aa ts)):A9 P w K mg base CX0 12 f fd ["self","k"] (K2 ab aa ac ts):=by
 refine F.ok L6 (fun vs H Q E h=>?_) (fun cdv A outer s H vs Q E hr h=>?_)
 ·obtain ⟨x,ls,ds,k,rfl,_⟩:=h
  rfl
 ·obtain ⟨x,ls,ds,k,rfl,hS,hT,hD,hrow,hk,q⟩:=h
  obtain ⟨dx,r,e,hx,hR⟩:=id hS
  obtain ⟨dp,p,b,kk,t,o,hp,_⟩:=id hR
  refine ⟨_,(Ai (At (A4 aL (hr.mono (by decide:11<=_)) (A6 (pv 0) rfl) (Af (A4 ae (hr.mono (by decide:5<=_)) (pv 0) (Af (pv 1) Aa rfl)) Aa rfl)))),?_⟩
  k_is
  refine ⟨x,ac,dx,_,_,rfl,hx,Z.cl,Z.n_pairs,rfl,?_⟩
  k_is
  refine ⟨r,dp,_,rfl,hp,rfl,?_⟩
  k_is
  refine ⟨x,dx,_,rfl,hx,rfl,?_⟩
  k_is
  refine ⟨x,ls,ds,k,rfl,hS,hT,hD,hrow,hk,fun H1 s1=>?_⟩
  k_is
  obtain ⟨_,h1,_⟩:=Fm hD hk
  refine ⟨r,ls,2*k-dAt ds k,2*k-dAt ds k+2*(Cm ds k).length+1,rfl,hR.kp s1.kp,s1.ok,by rw [hrow];exact h1,by rw [hrow];exact Np hD hk,fun H2 s2=>?_⟩
  exact q H2 (s1.trans s2)
theorem Z8 (l:List Bool){lo hi:Nat}(h:lo<=hi):lvl l lo hi=((List.range (hi-lo)).filter fun i=>decide (hgt l (lo+i)=hgt l lo)).length:=by
 unfold lvl
 by_cases hlt:lo<hi
 ·rw [if_pos hlt,show hi-lo=hi-1-lo+1 by omega,List.range_succ_eq_map,List.filter_cons,if_pos (by rw [Nat.add_zero];exact decide_eq_true rfl),List.length_cons,Nat.add_comm]
  congr 1
  have:=eF l (hgt l lo) lo (hi-1-lo)
  rw [show lo+(hi-1-lo)=hi-1 by omega] at this
  rw [<- this,List.filter_map,List.length_map]
  rfl
 ·rw [if_neg hlt,show hi-lo=0 by omega]
  rfl
theorem Sk {A B:List Bool}{U:List Nat}(hU:Dok U){t:Nat}(ht:t<=U.length):lvl (A++(A5 U++B)) A.length (A.length+2*t)=(Bq U t (-1)).length:=by
 have hl:=Bp hU
 rw [Z8 _ (by omega),Nat.add_sub_cancel_left,<- nJ hU ht]
 congr 1
 refine List.filter_congr fun i hi=>?_
 have hi:=List.mem_range.mp hi
 have e:hgt (A++(A5 U++B)) (A.length+i)=hgt (A++(A5 U++B)) A.length+hg (A5 U) i:=by
  have e1:=Ou (P:=A) (X:=A5 U++B) i
  have e2:=Ou (P:=A) (X:=A5 U++B) 0
  rw [Nat.add_zero,show hg (A5 U++B) 0=0 by unfold hg;simp] at e2
  rw [Vt (P:=A5 U) (X:=B) (by omega)] at e1
  show hg _ _=hg _ _+_
  omega
 rw [e]
 exact decide_eq_decide.mpr (by omega)
def U3 (C CR CS:Addr)(ts:List Tb):Sp:=fun vs H Q _=>∃ (x:Addr) (ls:List (List Bool)) (ds:List Nat) (k:Nat),vs=[.ref x,.int k]/\B6 C CR CS H x ls/\Tbs ts H/\Dok ds/\ls.flatten=A5 ds/\k<ds.length/\∀ H',SmT ts H H'->Q (.int ((Bq ds ds.length k).length:Nat)) H'
theorem iS {ds:List Nat}(h:Dok ds){k:Nat}(hk:k<ds.length):(Bq (Cm ds k) (Cm ds k).length (-1)).length=(Bq ds ds.length k).length:=by
 obtain ⟨a,b,_⟩:=Bx (ds:=ds) hk
 have:=R3 h hk (Cm ds k).length (by rw [Du];exact Nat.le_refl _)
 rw [this,Du,show k+1+(Bj ds k-(k+1))=Bj ds k by omega,<- Lk h hk]
theorem Wb {f:Addr}{fd:FuncData}{ts:List Tb}(F:Fun K "many" "Openings.many" Gr f fd)(T:Txt K mg)(Z:Qb K ac)(ae:Mth P w K mg base ac "opening" 5 ["self","k"] (G2 ab aa ac ts))(av:Mth P w K mg base ac "closing" 12 ["self","k"] (K2 ab aa ac ts))(aM:Mth P w K mg base aa "many_level" 10 ["self","low","high"] (Px ab aa ts)):A9 P w K mg base CX0 13 f fd ["self","k"] (U3 ab aa ac ts):=by
 refine F.ok Nz (fun vs H Q E h=>?_) (fun cdv A outer s H vs Q E hr h=>?_)
 ·obtain ⟨x,ls,ds,k,rfl,_⟩:=h
  rfl
 ·obtain ⟨x,ls,ds,k,rfl,hS,hT,hD,hrow,hk,q⟩:=h
  obtain ⟨dx,r,e,hx,hR⟩:=id hS
  obtain ⟨dp,p,b,kk,t,o,hp,_⟩:=id hR
  refine ⟨_,(Ai (At (A4 aM (hr.mono (by decide:10<=_)) (A6 (pv 0) rfl) (Af (Am A7 (A4 ae (hr.mono (by decide:5<=_)) (pv 0) (Af (pv 1) Aa rfl)) Aj) (Af (A4 av (hr.mono (by decide:12<=_)) (pv 0) (Af (pv 1) Aa rfl)) Aa rfl) rfl)))),?_⟩
  k_is
  refine ⟨x,ac,dx,_,_,rfl,hx,Z.cl,Z.n_pairs,rfl,?_⟩
  k_is
  refine ⟨r,dp,_,rfl,hp,rfl,?_⟩
  k_is
  refine ⟨x,dx,_,rfl,hx,rfl,?_⟩
  k_is
  refine ⟨x,ls,ds,k,rfl,hS,hT,hD,hrow,hk,fun H1 s1=>?_⟩
  k_is
  refine ⟨x,dx,_,rfl,s1.k hx,rfl,?_⟩
  k_is
  refine ⟨x,ls,ds,k,rfl,hS.kp s1.kp,s1.ok,hD,hrow,hk,fun H2 s2=>?_⟩
  have s12:=s1.trans s2
  k_is
  obtain ⟨A',B,h1,h2,_⟩:=M8 hD hk
  have hnx:=(Np hD hk).2.1
  refine ⟨r,ls,2*k-dAt ds k+1,2*k-dAt ds k+2*(Cm ds k).length+1,by rw [show ((2*k-dAt ds k+1:Nat):Int)=((2*k-dAt ds k:Nat):Int)+1 by omega];rfl,hR.kp s12.kp,s12.ok,by rw [hrow];omega,fun H3 s3=>?_⟩
  rw [hrow]
  conv at q=>intro H' s;rw [<- iS hD hk,<- Sk (A:=A') (B:=B) (Hx hD hk) (Nat.le_refl _),<- h2]
  rw [h1,show 2*k-dAt ds k+1+2*(Cm ds k).length=2*k-dAt ds k+2*(Cm ds k).length+1 by omega] at q
  exact q H3 (s12.trans s3)
def Wq (C CR CS:Addr)(ts:List Tb):Sp:=fun vs H Q _=>∃ (x:Addr) (ls:List (List Bool)) (ds:List Nat),vs=[.ref x]/\B6 C CR CS H x ls/\Tbs ts H/\Dok ds/\ls.flatten=A5 ds/\∀ H',SmT ts H H'->Q (.int ((Bq ds ds.length (-1)).length:Nat)) H'
theorem fA {U:List Nat}(hU:Dok U){t:Nat}(ht:t<=U.length):lvl (A5 U) 0 (2*t)=(Bq U t (-1)).length:=by
 have:=Sk (A:=[]) (B:=[]) hU ht
 rw [List.append_nil] at this
 rw [show ([]:List Bool).length+2*t=2*t by simp] at this
 exact this
theorem Qq {f:Addr}{fd:FuncData}{ts:List Tb}(F:Fun K "many_tops" "Openings.many_tops" Dy f fd)(T:Txt K mg)(Z:Qb K ac)(aC:Mth P w K mg base aa "size" 1 ["self"] (P2 ab aa))(aM:Mth P w K mg base aa "many_level" 10 ["self","low","high"] (Px ab aa ts)):A9 P w K mg base CX0 11 f fd ["self"] (Wq ab aa ac ts):=by
 refine F.ok Kk (fun vs H Q E h=>?_) (fun cdv A outer s H vs Q E hr h=>?_)
 ·obtain ⟨x,ls,ds,rfl,_⟩:=h
  rfl
 ·obtain ⟨x,ls,ds,rfl,hS,hT,hD,hrow,q⟩:=h
  obtain ⟨dx,r,e,hx,hR⟩:=id hS
  obtain ⟨dp,p,b,kk,t,o,hp,_⟩:=id hR
  refine ⟨_,(Ai (At (A4 aM (hr.mono (by decide:10<=_)) (A6 (pv 0) rfl) (Af Aj (Af (Ie aC (hr.mono (by decide:1<=_)) (A6 (pv 0) rfl)) Aa rfl) rfl)))),?_⟩
  k_is
  refine ⟨x,ac,dx,_,_,rfl,hx,Z.cl,Z.n_pairs,rfl,?_⟩
  k_is
  refine ⟨r,dp,_,rfl,hp,rfl,?_⟩
  k_is
  refine ⟨x,ac,dx,_,_,rfl,hx,Z.cl,Z.n_pairs,rfl,?_⟩
  k_is
  refine ⟨r,dp,_,rfl,hp,rfl,?_⟩
  k_is
  refine ⟨r,ls,rfl,hR,?_⟩
  k_is
  refine ⟨r,ls,0,ls.flatten.length,rfl,hR,hT,Nat.le_refl _,fun H1 s1=>?_⟩
  rw [hrow,Bp hD,fA hD (Nat.le_refl _)]
  exact q H1 s1
def O3 (C CR CS:Addr)(ts:List Tb):Sp:=fun vs H Q _=>∃ (x:Addr) (ls:List (List Bool)) (p j:Nat),vs=[.ref x,.int p]/\B6 C CR CS H x ls/\Tbs ts H/\ls.flatten[p]?=some true/\(ls.flatten.take p).count true=j/\∀ H',SmT ts H H'->Q (.int (j:Nat)) H'
theorem Qz {f:Addr}{fd:FuncData}{ts:List Tb}(F:Fun K "knot_at" "Openings.knot_at" E1 f fd)(T:Txt K mg)(Z:Qb K ac)(aE:Mth P w K mg base aa "opens_ahead" 6 ["self","place"] (M7 ab aa ts))(aH:Mth P w K mg base aa "is_opening" 6 ["self","place"] (Pr ab aa ts))(aL:Mth P w K mg base aa "partner" 11 ["self","place"] (Js ab aa ts)):A9 P w K mg base CX0 12 f fd ["self","place"] (O3 ab aa ac ts):=by
 refine F.ok L3 (fun vs H Q E h=>?_) (fun cdv A outer s H vs Q E hr h=>?_)
 ·obtain ⟨x,ls,p,j,rfl,_⟩:=h
  rfl
 ·obtain ⟨x,ls,p,j,rfl,hS,hT,hp,hj,q⟩:=h
  obtain ⟨dx,r,e,hx,hR⟩:=id hS
  obtain ⟨dp,p0,b,kk,t,o,hp',_⟩:=id hR
  have hpl:=Bw hp
  refine ⟨_,(Ai (At (A4 aE (hr.mono (by decide:6<=_)) (A6 (pv 0) rfl) (Af (C4 (Dr (A4 aH (hr.mono (by decide:6<=_)) (A6 (pv 0) rfl) (Af (pv 1) Aa rfl))) (pv 1) (A4 aL (hr.mono (by decide:11<=_)) (A6 (pv 0) rfl) (Af (pv 1) Aa rfl))) Aa rfl)))),?_⟩
  k_is
  refine ⟨x,ac,dx,_,_,rfl,hx,Z.cl,Z.n_pairs,rfl,?_⟩
  k_is
  refine ⟨r,dp,_,rfl,hp',rfl,?_⟩
  k_is
  refine ⟨x,ac,dx,_,_,rfl,hx,Z.cl,Z.n_pairs,rfl,?_⟩
  k_is
  refine ⟨r,dp,_,rfl,hp',rfl,?_⟩
  k_is
  refine ⟨r,ls,p,rfl,hR,hT,hpl,fun H1 s1=>?_⟩
  rw [show ls.flatten.getD p false=true by unfold List.getD;rw [hp];rfl]
  k_is
  refine ⟨r,ls,p,rfl,hR.kp s1.kp,s1.ok,by omega,fun H2 s2=>?_⟩
  rw [hj]
  exact q H2 (s1.trans s2)
def Nc (C CR CS:Addr)(ts:List Tb):Sp:=fun vs H Q _=>∃ (x:Addr) (ls:List (List Bool)) (ds:List Nat) (k:Nat),vs=[.ref x,.int k]/\B6 C CR CS H x ls/\Tbs ts H/\Dok ds/\ls.flatten=A5 ds/\k<ds.length/\∀ H',SmT ts H H'->Q (.int (dAt ds k:Nat)) H'
theorem Q6 {f:Addr}{fd:FuncData}{ts:List Tb}(F:Fun K "depth" "Openings.depth" F6 f fd)(T:Txt K mg)(Z:Qb K ac)(ae:Mth P w K mg base ac "opening" 5 ["self","k"] (G2 ab aa ac ts))(ah:Mth P w K mg base aa "height" 7 ["self","place"] (Gd ab aa ts)):A9 P w K mg base CX0 8 f fd ["self","k"] (Nc ab aa ac ts):=by
 refine F.ok Mv (fun vs H Q E h=>?_) (fun cdv A outer s H vs Q E hr h=>?_)
 ·obtain ⟨x,ls,ds,k,rfl,_⟩:=h
  rfl
 ·obtain ⟨x,ls,ds,k,rfl,hS,hT,hD,hrow,hk,q⟩:=h
  obtain ⟨dx,r,e,hx,hR⟩:=id hS
  obtain ⟨dp,p,b,kk,t,o,hp,_⟩:=id hR
  refine ⟨_,(Ai (At (A4 ah (hr.mono (by decide:7<=_)) (A6 (pv 0) rfl) (Af (A4 ae (hr.mono (by decide:5<=_)) (pv 0) (Af (pv 1) Aa rfl)) Aa rfl)))),?_⟩
  k_is
  refine ⟨x,ac,dx,_,_,rfl,hx,Z.cl,Z.n_pairs,rfl,?_⟩
  k_is
  refine ⟨r,dp,_,rfl,hp,rfl,?_⟩
  k_is
  refine ⟨x,dx,_,rfl,hx,rfl,?_⟩
  k_is
  refine ⟨x,ls,ds,k,rfl,hS,hT,hD,hrow,hk,fun H1 s1=>?_⟩
  k_is
  have hlt:=Bw (Fm hD hk).2.1
  obtain ⟨_,_,_,_,_,hg4,_⟩:=M8 hD hk
  refine ⟨r,ls,2*k-dAt ds k,rfl,hR.kp s1.kp,s1.ok,by rw [hrow];omega,fun H2 s2=>?_⟩
  rw [hrow,show hgt (A5 ds) (2*k-dAt ds k)=(dAt ds k:Int) from hg4]
  exact q H2 (s1.trans s2)
theorem Xy {l:List Bool}{p j:Nat}{h:Int}{r:Option Nat}(h1:Pp l p h (some j))(h2:Pp l p h r):r=some j:=by
 obtain ⟨a1,a2,a3⟩:=h1
 cases r with
 | none=>exact absurd a2 (h2 j a1)
 | some i =>
  obtain ⟨b1,b2,b3⟩:=h2
  rcases Nat.lt_trichotomy i j with h | h | h
  ·exact absurd a2 (b3 j h a1)
  ·rw [h]
  ·exact absurd b2 (a3 i h b1)
theorem iH {ds:List Nat}(h:Dok ds){k v:Nat}(hk:k<ds.length)(he:eld ds k=(v:Int)):v<ds.length/\dAt ds k=dAt ds v+1/\Pp (A5 ds) (2*k-dAt ds k) (dAt ds v:Int) (some (2*v-dAt ds v)):=by
 have hlt:=dX h hk
 obtain ⟨u,hu,hul,hd⟩:=En h hk (by omega)
 obtain rfl:v=u:=by omega
 have hv:v<ds.length:=by omega
 obtain ⟨i1,i2⟩:=Vb h hv hk he
 obtain ⟨n1,n2,n3,n4⟩:=Np h hv
 have hul2:=Du ds v
 have d1:=(Fm h hk).1
 have d2:=(Fm h hv).1
 obtain ⟨_,_,_,_,_,g4,_⟩:=M8 h hv
 have g4:hgt (A5 ds) (2*v-dAt ds v)=(dAt ds v:Int):=g4
 refine ⟨hv,hd,by omega,g4,fun i h1 h2=>?_⟩
 rw [<- g4]
 exact n4 i h1 (by omega)
def Z6 (C CR CS:Addr)(ts:List Tb):Sp:=fun vs H Q _=>∃ (x:Addr) (ls:List (List Bool)) (ds:List Nat) (k:Nat),vs=[.ref x,.int k,.int 1]/\B6 C CR CS H x ls/\Tbs ts H/\Dok ds/\ls.flatten=A5 ds/\k<ds.length/\∀ H',SmT ts H H'->Q (if eld ds k<0 then .non else .int (eld ds k)) H'
theorem Wk {f:Addr}{fd:FuncData}{ts:List Tb}(F:Fun K "up" "Openings.up" Id f fd)(T:Txt K mg)(Z:Qb K ac)(bq:Cal P w K mg base "check_from_nought" 3 ["number"] Wp)(aN:Mth P w K mg base ac "depth" 8 ["self","k"] (Nc ab aa ac ts))(bu:Mth P w K mg base ac "knot_at" 12 ["self","place"] (O3 ab aa ac ts))(bv:Mth P w K mg base aa "last_at" 10 ["self","place","height"] (Of ab aa ts))(ae:Mth P w K mg base ac "opening" 5 ["self","k"] (G2 ab aa ac ts)):A9 P w K mg base CX0 13 f fd ["self","k","many"] (Z6 ab aa ac ts):=by
 refine F.ok Kr (fun vs H Q E h=>?_) (fun cdv A outer s H vs Q E hr h=>?_)
 ·obtain ⟨x,ls,ds,k,rfl,_⟩:=h
  rfl
 ·obtain ⟨x,ls,ds,k,rfl,hS,hT,hD,hrow,hk,q⟩:=h
  obtain ⟨dx,r,e,hx,hR⟩:=id hS
  obtain ⟨dp,p,b,kk,t,o,hp,_⟩:=id hR
  refine ⟨_,(Ab (Aq (i:=3) Kr.nd rfl (Or.inl rfl) (A4 aN (hr.mono (by decide:8<=_)) (pv 0) (Af (pv 1) Aa rfl)))
   (Ab (Bl (Bb bq (hr.mono (by decide:3<=_)) (Af (pv 2) Aa rfl)))
   (Ab (B3 (Av Ew (pv 2) Aj (Ax _)) (Ai (At (pv 1)))
   Ba)
   (Ab (B3 (Av Mb (pv 2) (pv 3) (Ax _)) (Ai (At Ic))
   Ba)
   (Ai (At (A4 bu (hr.mono (by decide:12<=_)) (pv 0) (Af (A4 bv (hr.mono (by decide:10<=_)) (A6 (pv 0) rfl) (Af (A4 ae (hr.mono (by decide:5<=_)) (pv 0) (Af (pv 1) Aa rfl)) (Af (Am Be (pv 3) (pv 2)) Aa rfl) rfl)) Aa rfl)))))))),?_⟩
  k_is
  refine ⟨x,dx,_,rfl,hx,rfl,?_⟩
  k_is
  refine ⟨x,ls,ds,k,rfl,hS,hT,hD,hrow,hk,fun H1 s1=>?_⟩
  k_is
  refine ⟨1,rfl,by decide,?_⟩
  k_is
  refine Bz (fun hc=>absurd (V.int.inj hc) (by decide)) (fun _=>?_)
  k_is
  refine Bz (fun hc=>?_) (fun hc=>?_)
  ·k_is
   have hd0:dAt ds k=0:=by omega
   have he:eld ds k=-1:=by
    have:=E3 hD hk
    rw [hd0,Ci hD k (by omega)] at this
    exact (Option.some.inj this).symm
   have:=q H1 s1
   rw [he,if_pos (by decide)] at this
   exact this
  ·have hne:eld ds k≠-1:=fun z=>by
    have:=Jr hD hk z
    omega
   obtain ⟨v,hv,_,_⟩:=En hD hk hne
   obtain ⟨hvl,hdk,hlast⟩:=iH hD hk hv
   have hol:=Bw (Fm hD hk).2.1
   obtain ⟨_,hb1,hb2⟩:=Fm hD hvl
   k_is
   refine ⟨x,dx,_,rfl,s1.k hx,rfl,?_⟩
   k_is
   refine ⟨x,ac,dx,_,_,rfl,s1.k hx,Z.cl,Z.n_pairs,rfl,?_⟩
   k_is
   refine ⟨r,dp,_,rfl,s1.k hp,rfl,?_⟩
   k_is
   refine ⟨x,dx,_,rfl,s1.k hx,rfl,?_⟩
   k_is
   refine ⟨x,ls,ds,k,rfl,hS.kp s1.kp,s1.ok,hD,hrow,hk,fun H2 s2=>?_⟩
   have s12:=s1.trans s2
   k_is
   refine ⟨r,ls,2*k-dAt ds k,(dAt ds v:Int),by rw [hdk,show ((dAt ds v+1:Nat):Int)-1=(dAt ds v:Int) by omega];rfl,hR.kp s12.kp,s12.ok,by rw [hrow];omega,fun r3 H3 hr3 s3=>?_⟩
   rw [hrow] at hr3
   rw [Xy hlast hr3]
   have s13:=s12.trans s3
   k_is
   refine ⟨x,ls,2*v-dAt ds v,v,rfl,hS.kp s13.kp,s13.ok,by rw [hrow];exact hb1,by rw [hrow];exact hb2,fun H4 s4=>?_⟩
   have:=q H4 (s13.trans s4)
   rw [hv,if_neg (by omega)] at this
   exact this
def Sj (C CR CS:Addr)(ts:List Tb):Sp:=fun vs H Q _=>∃ (x:Addr) (ls:List (List Bool)) (ds:List Nat) (k:Nat),vs=[.ref x,.int k]/\B6 C CR CS H x ls/\Tbs ts H/\Dok ds/\ls.flatten=A5 ds/\k<ds.length/\∀ H',SmT ts H H'->Q (if eld ds k<0 then .non else .int (eld ds k)) H'
theorem Q7 {f:Addr}{fd:FuncData}{ts:List Tb}(F:Fun K "elder" "Openings.elder" F7 f fd)(T:Txt K mg)(Z:Qb K ac)(bw:Mth P w K mg base ac "up" 13 ["self","k","many"] (Z6 ab aa ac ts)):A9 P w K mg base CX0 14 f fd ["self","k"] (Sj ab aa ac ts):=by
 refine F.ok Nq (fun vs H Q E h=>?_) (fun cdv A outer s H vs Q E hr h=>?_)
 ·obtain ⟨x,ls,ds,k,rfl,_⟩:=h
  rfl
 ·obtain ⟨x,ls,ds,k,rfl,hS,hT,hD,hrow,hk,q⟩:=h
  obtain ⟨dx,r,e,hx,hR⟩:=id hS
  refine ⟨_,(Ai (At (A4 bw (hr.mono (by decide:13<=_)) (pv 0) (Af (pv 1) (Af Aj Aa rfl) rfl)))),?_⟩
  k_is
  refine ⟨x,dx,_,rfl,hx,rfl,?_⟩
  k_is
  exact ⟨x,ls,ds,k,rfl,hS,hT,hD,hrow,hk,q⟩
def Me (C CR CS:Addr)(ts:List Tb):Sp:=fun vs H Q _=>∃ (x:Addr) (ls:List (List Bool)) (ds:List Nat) (k:Nat),vs=[.ref x,.int k]/\B6 C CR CS H x ls/\Tbs ts H/\Dok ds/\ls.flatten=A5 ds/\k<ds.length/\∀ H',SmT ts H H'->Q (.int ((Cm ds k).length:Nat)) H'
theorem Qx {f:Addr}{fd:FuncData}{ts:List Tb}(F:Fun K "beneath" "Openings.beneath" E2 f fd)(T:Txt K mg)(Z:Qb K ac)(av:Mth P w K mg base ac "closing" 12 ["self","k"] (K2 ab aa ac ts))(ae:Mth P w K mg base ac "opening" 5 ["self","k"] (G2 ab aa ac ts)):A9 P w K mg base CX0 13 f fd ["self","k"] (Me ab aa ac ts):=by
 refine F.ok L1 (fun vs H Q E h=>?_) (fun cdv A outer s H vs Q E hr h=>?_)
 ·obtain ⟨x,ls,ds,k,rfl,_⟩:=h
  rfl
 ·obtain ⟨x,ls,ds,k,rfl,hS,hT,hD,hrow,hk,q⟩:=h
  obtain ⟨dx,r,e,hx,hR⟩:=id hS
  refine ⟨_,(Ai (At (Am Dv (Am Be (A4 av (hr.mono (by decide:12<=_)) (pv 0) (Af (pv 1) Aa rfl)) (A4 ae (hr.mono (by decide:5<=_)) (pv 0) (Af (pv 1) Aa rfl))) Aj))),?_⟩
  k_is
  refine ⟨x,dx,_,rfl,hx,rfl,?_⟩
  k_is
  refine ⟨x,ls,ds,k,rfl,hS,hT,hD,hrow,hk,fun H1 s1=>?_⟩
  k_is
  refine ⟨x,dx,_,rfl,s1.k hx,rfl,?_⟩
  k_is
  refine ⟨x,ls,ds,k,rfl,hS.kp s1.kp,s1.ok,hD,hrow,hk,fun H2 s2=>?_⟩
  k_is
  rw [show (((2*k-dAt ds k+2*(Cm ds k).length+1:Nat):Int)-((2*k-dAt ds k:Nat):Int))/2=((Cm ds k).length:Int) by omega]
  exact q H2 (s1.trans s2)
theorem Yv (xs:List V)(m:Nat):La xs none (some (m:Int))=xs.take m:=by
 unfold La
 rw [HT.sIx_nat]
 show (xs.drop 0).take (min m xs.length-0)=_
 rw [List.drop_zero,Nat.sub_zero]
 by_cases h:m<=xs.length
 ·rw [Nat.min_eq_left h]
 ·rw [Nat.min_eq_right (by omega),List.take_of_length_le (Nat.le_refl _),List.take_of_length_le (by omega)]
theorem Ln (xs:List V)(m:Nat):La xs (some (m:Int)) none=xs.drop m:=by
 unfold La
 rw [HT.sIx_nat]
 by_cases h:m<=xs.length
 ·rw [Nat.min_eq_left h]
  exact List.take_of_length_le (by rw [List.length_drop];exact Nat.le_refl _)
 ·rw [Nat.min_eq_right (by omega),List.drop_of_length_le (Nat.le_refl _),List.drop_of_length_le (by omega),List.take_nil]
theorem Dt.app {a b:List (List Bool)}(ha:Dt a)(hb:Dt b):Dt (a++b):=fun k x h=>by
 by_cases hk:k<a.length
 ·rw [List.getElem?_append_left hk] at h
  exact ha k x h
 ·rw [List.getElem?_append_right (by omega)] at h
  exact hb _ x h
theorem Dt.take {a:List (List Bool)}(ha:Dt a)(n:Nat):Dt (a.take n):=fun k x h=>by
 have hk:=Bw h
 rw [List.length_take] at hk
 rw [List.getElem?_take_of_lt (by omega)] at h
 exact ha k x h
theorem Dt.drop {a:List (List Bool)}(ha:Dt a)(n:Nat):Dt (a.drop n):=fun k x h=>by
 rw [List.getElem?_drop] at h
 exact ha _ x h
theorem Pcs.app {C:Addr}{H:Hp}{as bs:List Addr}{ls ms:List (List Bool)}(h1:Pcs C H as ls)(h2:Pcs C H bs ms):Pcs C H (as++bs) (ls++ms):=by
 refine ⟨by rw [List.length_append,List.length_append,h1.1,h2.1],fun k a x e1 e2=>?_⟩
 by_cases hk:k<as.length
 ·rw [List.getElem?_append_left hk] at e1
  rw [List.getElem?_append_left (by rw [<- h1.1];exact hk)] at e2
  exact h1.2 k a x e1 e2
 ·rw [List.getElem?_append_right (by omega)] at e1
  rw [List.getElem?_append_right (by rw [<- h1.1];omega),<- h1.1] at e2
  exact h2.2 _ a x e1 e2
theorem Pcs.take {C:Addr}{H:Hp}{as:List Addr}{ls:List (List Bool)}(h:Pcs C H as ls)(n:Nat):Pcs C H (as.take n) (ls.take n):=by
 refine ⟨by rw [List.length_take,List.length_take,h.1],fun k a x e1 e2=>?_⟩
 have hk:=Bw e1
 rw [List.length_take] at hk
 rw [List.getElem?_take_of_lt (by omega)] at e1 e2
 exact h.2 k a x e1 e2
theorem Pcs.drop {C:Addr}{H:Hp}{as:List Addr}{ls:List (List Bool)}(h:Pcs C H as ls)(n:Nat):Pcs C H (as.drop n) (ls.drop n):=by
 refine ⟨by rw [List.length_drop,List.length_drop,h.1],fun k a x e1 e2=>?_⟩
 rw [List.getElem?_drop] at e1 e2
 exact h.2 _ a x e1 e2
def Ph (ls:List (List Bool))(lo hi n f b:Nat):Prop:=∃ f0 b0,f0<=ls.length/\bgn ls f0<=lo/\(f0<ls.length->lo<bgn ls (f0+1))/\b0<=ls.length/\(0<b0->bgn ls (b0-1)<hi)/\hi<=bgn ls b0 /\
 (f=f0/\b=b0/\64<=lo-bgn ls f0+(bgn ls b0-hi)+n\/f=f0-1/\b=min (b0+1) ls.length/\lo-bgn ls f0+(bgn ls b0-hi)+n<64)
def C8 (ls:List (List Bool))(lo hi:Nat)(t:List Bool)(f b:Nat):List Bool:=(ls.flatten.drop (bgn ls f)).take (lo-bgn ls f)++(t++(ls.flatten.drop hi).take (bgn ls b-hi))
def Bu (ls:List (List Bool))(lo hi:Nat)(t:List Bool)(f b:Nat):List (List Bool):=ls.take f++pcs (C8 ls lo hi t f b)++ls.drop b
theorem Ph.ok {ls:List (List Bool)}{lo hi n f b:Nat}(h:Ph ls lo hi n f b):f<=ls.length/\b<=ls.length/\bgn ls f<=lo/\hi<=bgn ls b:=by
 obtain ⟨f0,b0,h1,h2,h3,h4,h5,h6,h7⟩:=h
 rcases h7 with ⟨rfl,rfl,_⟩ | ⟨rfl,rfl,_⟩
 ·exact ⟨h1,h4,h2,h6⟩
 ·have m1:=Cc (ls:=ls) (show f0-1<=f0 by omega)
  have m2:=Cc (ls:=ls) (show b0<=min (b0+1) ls.length by omega)
  exact ⟨by omega,by omega,by omega,by omega⟩
theorem Xv {ls:List (List Bool)}{lo hi f b:Nat}{t:List Bool}(h1:bgn ls f<=lo)(h2:hi<=bgn ls b):(Bu ls lo hi t f b).flatten=ls.flatten.take lo++(t++ls.flatten.drop hi):=by
 unfold Bu C8
 rw [List.flatten_append,List.flatten_append,Rn,Op,Lr]
 have e1:ls.flatten.take (bgn ls f)++(ls.flatten.drop (bgn ls f)).take (lo-bgn ls f)=ls.flatten.take lo:=by
  rw [<- List.take_add,Nat.add_sub_cancel' h1]
 have e2:(ls.flatten.drop hi).take (bgn ls b-hi)++ls.flatten.drop (bgn ls b)=ls.flatten.drop hi:=by
  have:=List.take_append_drop (bgn ls b-hi) (ls.flatten.drop hi)
  rw [List.drop_drop,Nat.add_sub_cancel' h2] at this
  exact this
 rw [<- e1]
 simp only [List.append_assoc]
 rw [e2]
theorem eC {ls:List (List Bool)}{lo hi f b:Nat}{t:List Bool}:(C8 ls lo hi t f b).length<=lo+t.length+(ls.flatten.length-hi):=by
 unfold C8
 simp only [List.length_append,List.length_take,List.length_drop]
 omega
theorem dH {ls:List (List Bool)}{lo hi f b:Nat}{t:List Bool}(hl:lo<=hi)(hh:hi<=ls.flatten.length)(hn:ls.flatten.length+t.length<=20000)(h2:ls.length<=100):(Bu ls lo hi t f b).length<=400:=by
 unfold Bu
 have:=eC (ls:=ls) (lo:=lo) (hi:=hi) (f:=f) (b:=b) (t:=t)
 simp only [List.length_append,Eg,List.length_take,List.length_drop]
 unfold pcM
 omega
theorem Ts {ls:List (List Bool)}(h:Dt ls){lo hi f b:Nat}{t:List Bool}:Dt (Bu ls lo hi t f b):=((h.take f).app (Ul _)).app (h.drop b)
def W2 (C CR:Addr)(ts:List Tb):Sp:=fun vs H Q _=>∃ (x:Addr) (ls:List (List Bool)) (lo hi:Nat) (t:List Bool),vs=[.ref x,.int lo,.int hi,.str (Az t)]/\Bk C CR H x ls/\Tbs ts H/\lo<=hi/\hi<=ls.flatten.length/\ls.flatten.length+t.length<=20000/\ls.length<=100 /\
 ∀ (r p f b:Nat) H0 H',Ph ls lo hi t.length f b->SmT ts H H0->An H0 H'->H0 r=none->H p=none->H0 p≠none->Bk C CR H' r (Bu ls lo hi t f b)->Fr4 CR H0 H' r p->Q (.ref r) H'
theorem Qs {f:Addr}{fd:FuncData}{ts:List Tb}(F:Fun K "replaced" "PiecedRow.replaced" Dz f fd)(T:Txt K mg)(Z:Qa K aa)(ad:Mth P w K mg base aa "stretch_at" 4 ["self","place"] (Nv ab aa ts))(aD:Mth P w K mg base aa "pieces_to" 4 ["self","place"] (eV ab aa ts))(ag:Mth P w K mg base aa "stretch" 5 ["self","low","high"] (C9 ab aa ts))(aO:Cal P w K mg base "pieces_of" 5 ["text"] (Jt ab))(aP:Mkr P w K mg base "PiecedRow" aa 2 ["self","pieces"] (Mz ab aa)):A9 P w K mg base CX0 6 f fd ["self","low","high","text"] (W2 ab aa ts):=by
 refine F.ok Bn (fun vs H Q E h=>?_) (fun cdv A outer s H vs Q E hr h=>?_)
 ·obtain ⟨x,ls,lo,hi,t,rfl,_⟩:=h
  rfl
 ·obtain ⟨x,ls,lo,hi,t,rfl,hR,hT,hlh,hhi,hsz,hfw,q⟩:=h
  obtain ⟨dx,p,b,k,tt,o,hx,hW,hTb⟩:=id hR
  obtain ⟨as,hp,hP⟩:=id hW.pcs
  have hal:(as.map V.ref).length=ls.length:=by rw [List.length_map,hP.1]
  refine ⟨_,(Ab (Aq (i:=4) Bn.nd rfl (Or.inl rfl) (A4 ad (hr.mono (by decide:4<=_)) (pv 0) (Af (pv 1) Aa rfl)))
   (Ab (Aq (i:=5) Bn.nd rfl (Or.inl rfl) (A4 aD (hr.mono (by decide:4<=_)) (pv 0) (Af (pv 2) Aa rfl)))
   (Ab (Aq (i:=6) Bn.nd rfl (Or.inl rfl) (Am Be (Am A7 (Am Be (pv 1) (Bd A8 (A6 (pv 0) rfl) (pv 4) (fun _ _=>rfl))) (Bd A8 (A6 (pv 0) rfl) (pv 5) (fun _ _=>rfl))) (pv 2)))
   (Ab (kH (Av Fy (Am A7 (pv 6) (As B5 (by rfl) T.n_len Bs (Af (pv 3) Aa rfl))) (G6 rfl T.g_ENOUGH_SIGNS) (Ax _)) (Ab (Aq (i:=4) Bn.nd rfl (Or.inl rfl) (As (Oc rfl) (by rfl) T.n_max eL (Af (Am Be (pv 4) Aj) (Af Aj Aa rfl) rfl)))
   (Ai (Aq (i:=5) Bn.nd rfl (Or.inl rfl) (As (Tq rfl) (by rfl) T.n_min eI (Af (Am A7 (pv 5) Aj) (Af (As Ar (by rfl) T.n_len Bs (Af (A6 (pv 0) rfl) Aa rfl)) Aa rfl) rfl)))))
   Ba)
   (Ab (Aq (i:=7) Bn.nd rfl (Or.inl rfl) (Am Ge (Am Ge (A4 ag (hr.mono (by decide:5<=_)) (pv 0) (Af (Bd A8 (A6 (pv 0) rfl) (pv 4) (fun _ _=>rfl)) (Af (pv 1) Aa rfl) rfl)) (pv 3)) (A4 ag (hr.mono (by decide:5<=_)) (pv 0) (Af (pv 2) (Af (Bd A8 (A6 (pv 0) rfl) (pv 5) (fun _ _=>rfl)) Aa rfl) rfl))))
   (Ai (At (dJ aP (hr.mono (by decide:3<=_)) (Af (Am F5 (Am F5 (Ca Db (A6 (pv 0) rfl) Ed (B8 (pv 4))) (Bb aO (hr.mono (by decide:5<=_)) (Af (pv 7) Aa rfl))) (Ca Db (A6 (pv 0) rfl) (B8 (pv 5)) Ed)) Aa rfl))))))))),?_⟩
  k_is
  refine ⟨x,dx,_,rfl,hx,rfl,?_⟩
  k_is
  refine ⟨x,ls,lo,rfl,hR,hT,fun k1 H1 hk1 ha1 hb1 s1=>?_⟩
  k_is
  refine ⟨x,dx,_,rfl,s1.k hx,rfl,?_⟩
  k_is
  refine ⟨x,ls,hi,rfl,hR.kp s1.kp,s1.ok,fun k2 H2 hk2 ha2 hb2 s2=>?_⟩
  have s12:=s1.trans s2
  have hend:hi<=bgn ls k2:=by
   by_cases h:k2<ls.length
   ·exact hb2 h
   ·rw [show k2=ls.length by omega,Gi];exact hhi
  k_is
  refine ⟨x,aa,dx,_,_,rfl,s12.k hx,Z.cl,Z.n_begins,rfl,?_⟩
  k_is
  refine Bg (SqL.of (s12.k hW.bg)) (v:=.int (bgn ls k1:Nat)) (Bc (j:=k1) (Hb hk1)) ?_
  k_is
  refine ⟨x,aa,dx,_,_,rfl,s12.k hx,Z.cl,Z.n_begins,rfl,?_⟩
  k_is
  refine Bg (SqL.of (s12.k hW.bg)) (v:=.int (bgn ls k2:Nat)) (Bc (j:=k2) (Hb hk2)) ?_
  k_is
  refine oY (fun σ H3=>(∃ (f b:Nat) (v:Option V),σ=[some (.ref x),some (.int (lo:Nat)),some (.int (hi:Nat)),some (.str (Az t)),some (.int (f:Nat)),some (.int (b:Nat)),v,none]/\Ph ls lo hi t.length f b)/\H3=H2) ?_ ?_
  ·k_is
   refine ⟨_,rfl,Nat.le_of_lt (Ak (by rw [Ay];omega)),?_⟩
   rw [Ay]
   k_is
   refine Bz (fun h=>?_) (fun h=>?_)
   ·k_is
    refine ⟨_,_,rfl,?_⟩
    k_is
    refine ⟨x,aa,dx,_,_,rfl,s12.k hx,Z.cl,Z.n_kept_pieces,rfl,?_⟩
    k_is
    refine ⟨p,_,rfl,.inl (SqL.of (s12.k hp)),?_⟩
    rw [hal]
    k_is
    refine ⟨_,_,rfl,?_⟩
    have e1:(if ((k1:Int)-1)<0 then (0:Int) else (k1:Int)-1)=((k1-1:Nat):Int):=by split<;>omega
    have e2:(if (ls.length:Int)<(k2:Int)+1 then (ls.length:Int) else (k2:Int)+1)=((min (k2+1) ls.length:Nat):Int):=by split<;>omega
    rw [e1,e2]
    k_is
    exact ⟨⟨_,_,_,rfl,k1,k2,hk1,ha1,hb1,hk2,ha2,hend,.inr ⟨rfl,rfl,by omega⟩⟩,rfl⟩
   ·k_is
    exact ⟨⟨_,_,_,rfl,k1,k2,hk1,ha1,hb1,hk2,ha2,hend,.inl ⟨rfl,rfl,by omega⟩⟩,rfl⟩
  ·rintro σ H3 ⟨⟨f,b2,v,rfl,hN⟩,rfl⟩
   obtain ⟨n1,n2,n3,n4⟩:=hN.ok
   k_is
   refine ⟨x,dx,_,rfl,s12.k hx,rfl,?_⟩
   k_is
   refine ⟨x,aa,dx,_,_,rfl,s12.k hx,Z.cl,Z.n_begins,rfl,?_⟩
   k_is
   refine Bg (SqL.of (s12.k hW.bg)) (v:=.int (bgn ls f:Nat)) (Bc (j:=f) (Hb n1)) ?_
   k_is
   refine ⟨x,ls,bgn ls f,lo,rfl,hR.kp s12.kp,s12.ok,n3,by omega,fun H4 s4=>?_⟩
   have s14:=s12.trans s4
   have hmid:=eC (ls:=ls) (lo:=lo) (hi:=hi) (f:=f) (b:=b2) (t:=t)
   k_is
   refine ⟨_,_,rfl,rfl,?_,?_⟩
   ·simp only [Ay,List.length_take,List.length_drop]
    exact Nat.le_of_lt (Ak (by omega))
   k_is
   refine ⟨x,dx,_,rfl,s14.k hx,rfl,?_⟩
   k_is
   refine ⟨x,aa,dx,_,_,rfl,s14.k hx,Z.cl,Z.n_begins,rfl,?_⟩
   k_is
   refine Bg (SqL.of (s14.k hW.bg)) (v:=.int (bgn ls b2:Nat)) (Bc (j:=b2) (Hb n2)) ?_
   k_is
   refine ⟨x,ls,hi,bgn ls b2,rfl,hR.kp s14.kp,s14.ok,n4,Y8 _ _,fun H5 s5=>?_⟩
   have s15:=s14.trans s5
   k_is
   rw [Ec]
   refine ⟨_,_,rfl,rfl,?_,?_⟩
   ·simp only [Ay,List.length_append,List.length_take,List.length_drop]
    exact Nat.le_of_lt (Ak (by omega))
   rw [Ec,List.append_assoc]
   k_is
   refine ⟨x,aa,dx,_,_,rfl,s15.k hx,Z.cl,Z.n_kept_pieces,rfl,?_⟩
   k_is
   refine ⟨p,_,rfl,SqL.of (s15.k hp),fun D1 hD1=>?_⟩
   rw [Yv,<- List.map_take] at *
   have u1:=Al (o:=.lst ((as.take f).map V.ref)) hD1
   have e1:upd H5 D1 (.lst ((as.take f).map V.ref)) D1=some (.lst ((as.take f).map V.ref)):=Ae
   have s16:=s15.then u1
   generalize upd H5 D1 (.lst ((as.take f).map V.ref))=H6 at *
   k_is
   refine ⟨C8 ls lo hi t f b2,rfl,by omega,fun p7 bs H7 s7 hp70 hp7 hP7=>?_⟩
   have s17:=s16.then s7
   have e17:=s7 _ _ e1
   k_is
   have hml:bs.length<=200:=by
    rw [hP7.1,Eg]
    unfold pcM
    omega
   refine ⟨D1,p7,_,_,rfl,rfl,e17,hp7,Nat.le_of_lt (Ak (by rw [List.length_map,List.length_map,List.length_take,hP.1];omega)),fun D2 hD2=>?_⟩
   rw [<- List.map_append] at *
   have u2:=Al (o:=.lst ((as.take f++bs).map V.ref)) hD2
   have e2:upd H7 D2 (.lst ((as.take f++bs).map V.ref)) D2=some (.lst ((as.take f++bs).map V.ref)):=Ae
   have hP72:=hP7.kp (An.kp u2)
   have s18:=s17.then u2
   generalize upd H7 D2 (.lst ((as.take f++bs).map V.ref))=H8 at *
   k_is
   refine ⟨x,aa,dx,_,_,rfl,s18.k hx,Z.cl,Z.n_kept_pieces,rfl,?_⟩
   k_is
   refine ⟨p,_,rfl,SqL.of (s18.k hp),fun D3 hD3=>?_⟩
   rw [Ln,<- List.map_drop] at *
   have u3:=Al (o:=.lst ((as.drop b2).map V.ref)) hD3
   have e3:upd H8 D3 (.lst ((as.drop b2).map V.ref)) D3=some (.lst ((as.drop b2).map V.ref)):=Ae
   have e23:=u3 _ _ e2
   have hP73:=hP72.kp (An.kp u3)
   have s19:=s18.then u3
   generalize upd H8 D3 (.lst ((as.drop b2).map V.ref))=H9 at *
   k_is
   refine ⟨D2,D3,_,_,rfl,rfl,e23,e3,Nat.le_of_lt (Ak (by rw [List.length_map,List.length_map,List.length_append,List.length_take,List.length_drop,hP.1];omega)),fun D4 hD4=>?_⟩
   rw [<- List.map_append] at *
   have u4:=Al (o:=.lst ((as.take f++bs++as.drop b2).map V.ref)) hD4
   have e4:upd H9 D4 (.lst ((as.take f++bs++as.drop b2).map V.ref)) D4=some (.lst ((as.take f++bs++as.drop b2).map V.ref)):=Ae
   have hP74:=hP73.kp (An.kp u4)
   have s20:=s19.then u4
   have hD40:=s19.sm.free hD4
   generalize upd H9 D4 (.lst ((as.take f++bs++as.drop b2).map V.ref))=H10 at *
   have hPn:Pcs ab H10 (as.take f++bs++as.drop b2) (Bu ls lo hi t f b2):=((((hP.kp s20.kp).take f).app hP74).app ((hP.kp s20.kp).drop b2))
   k_is
   intro r dr hr0 hdr hrd
   have sN:An H10 (upd (upd H10 dr (.own r)) r (.ins aa dr [])):=Rs hr0 hdr
   refine ⟨r,dr,D4,_,_,rfl,Ae,sN _ _ e4,hPn.kp (An.kp sN),Ts hW.sz,dH hlh hhi hsz hfw,fun H11 s11 hR11 hF11=>⟨rfl,?_⟩⟩
   refine q r D4 f b2 H10 H11 hN s20 (Lp hr0 hdr s11) hr0 hD40 (by rw [e4];intro z;cases z) hR11 ?_
   obtain ⟨dr',b',k',t',o',n',g0,g1,g2,g3,g4⟩:=hF11
   exact ⟨dr',b',k',t',o',n',g0,sN.free g1,sN.free g2,sN.free g3,sN.free g4⟩
theorem Bk.but {C CR CS x dx r:Addr}{H H':Hp}{ls:List (List Bool)}{fs:List (Str×V)}(h:Bk C CR H r ls)(s:SameBut x H H')(hx:H x=some (.ins CS dx fs))(hf:fs.length<4):Bk C CR H' r ls:=by
 obtain ⟨d,p,b,k,t,o,h1,⟨⟨as,hp,hP⟩,hb,hz,hn⟩,hT⟩:=h
 refine ⟨d,p,b,k,t,o,s _ _ (fun e=>?_) h1,⟨⟨as,s _ _ (fun e=>?_) hp,hP.but s hx fun a ha e=>?_⟩,s _ _ (fun e=>?_) hb,hz,hn⟩,hT.keep fun b xs=>⟨fun e=>s _ _ (Lc e hx (by intro z;cases z)) e,fun e=>s _ _ (Lc e hx (by intro z;cases z)) e⟩⟩
 ·rw [e,hx] at h1
  cases h1
  exact absurd hf (by show ¬ 6<4;decide)
 ·rw [e,hx] at hp
  cases hp
 ·obtain ⟨k,hk⟩:=List.getElem?_of_mem ha
  have hk1:=(List.getElem?_eq_some_iff.mp hk).1
  obtain ⟨d,t,m,g,o,h1,_⟩:=hP.2 k a _ hk (List.getElem?_eq_getElem (by rw [<- hP.1];exact hk1))
  rw [e,hx] at h1
  cases h1
  exact absurd hf (by show ¬ 4<4;decide)
 ·rw [e,hx] at hb
  cases hb
def hide (e:Addr)(H:Hp):Hp:=fun b=>if b=e then none else H b
theorem Cd {e b:Addr}{H:Hp}(h:b≠e):hide e H b=H b:=if_neg h
theorem Lv {e:Addr}{H:Hp}:Kp (hide e H) H:=fun b u n h=>by
 unfold hide at h
 split at h
 ·cases h
 ·exact h
theorem gS {e:Addr}{H:Hp}{o:HO}:hide e (upd H e o)=hide e H:=by
 funext b
 unfold hide
 split
 ·rfl
 ·rename_i hb
  exact Aw hb
theorem fC {e:Addr}{H H':Hp}(k:Kp H H')(h:H e=none):Kp H (hide e H'):=fun b u n hb=>by
 rw [Cd (Ap hb h)]
 exact k b u n hb
theorem Hs {e b:Addr}{H:Hp}{u:HO}(h:hide e H b=some u):b≠e/\H b=some u:=by
 unfold hide at h
 split at h
 ·cases h
 ·rename_i hb
  exact ⟨hb,h⟩
theorem Jn {e:Addr}{H H':Hp}(k:Kp H H'):Kp (hide e H) (hide e H'):=fun b u n hb=>by
 obtain ⟨h1,h2⟩:=Hs hb
 rw [Cd h1]
 exact k b u n h2
theorem Er {e x:Addr}{H H':Hp}(s:SameBut x H H'):SameBut x (hide e H) (hide e H'):=fun b u hb h=>by
 obtain ⟨h1,h2⟩:=Hs h
 rw [Cd h1]
 exact s b u hb h2
theorem Bk.hide {C CR x e p:Addr}{H0 H':Hp}{ls:List (List Bool)}{zs:List V}(h:Bk C CR H' x ls)(hF:Fr4 CR H0 H' x p)(he0:H0 e≠none)(hep:p≠e)(he:H' e=some (.lst zs)):Bk C CR (TK.hide e H') x ls:=by
 obtain ⟨dx,p',b',k',t',o',h1,⟨⟨as,hp,hP⟩,hb,hz,hn⟩,hT⟩:=h
 obtain ⟨dr,b,k,t,o,n,g0,g1,g2,g3,g4⟩:=hF
 rw [g0] at h1
 have e1:=Option.some.inj h1
 unfold Zm at e1
 simp only [HO.ins.injEq,List.cons.injEq,Prod.mk.injEq,V.ref.injEq,true_and,and_true] at e1
 obtain ⟨rfl,rfl,rfl,rfl,rfl,rfl,rfl⟩:=e1
 have nb:∀ {c:Addr},H0 c=none->c≠e:=fun {c} hc z=>he0 (z▸hc)
 have kk:∀ {c:Addr} {u:HO},(∀ ys,u≠.lst ys)->H' c=some u->TK.hide e H' c=some u:=fun {c u} nu hc=>by
  rw [Cd (fun z=>by rw [z,he] at hc;exact nu _ (Option.some.inj hc).symm)]
  exact hc
 refine ⟨dr,p,b,_,_,_,kk (by intro ys z;cases z) g0,⟨⟨as,by rw [Cd hep];exact hp,hP.1,fun j a y e1 e2=>?_⟩,by rw [Cd (nb g1)];exact hb,hz,hn⟩,?_,?_,?_⟩
 ·obtain ⟨d,t,m,g,o,y1,y2,y3⟩:=hP.2 j a y e1 e2
  exact ⟨d,t,m,g,o,kk (by intro ys z;cases z) y1,kk (by intro ys z;cases z) y2,y3⟩
 ·obtain ⟨a,e1,e2⟩:=hT.kn
  obtain rfl:=V.ref.inj e1
  exact ⟨k,rfl,by rw [Cd (nb g2)];exact e2⟩
 ·obtain ⟨a,rs,e1,e2,e3,e4⟩:=hT.tb
  obtain rfl:=V.ref.inj e1
  exact ⟨t,rs,rfl,by rw [Cd (nb g3)];exact e2,e3,fun j r er x' ex=>let ⟨m,g,r1,r2⟩:=e4 j r er x' ex;⟨m,g,kk (by intro ys z;cases z) r1,r2⟩⟩
 ·obtain ⟨a,os,e1,e2,e3⟩:=hT.ol
  obtain rfl:=V.ref.inj e1
  exact ⟨o,os,rfl,by rw [Cd (nb g4)];exact e2,e3⟩
def Vy (C:Addr)(H:Hp)(p:Addr)(ls:List (List Bool)):Prop:=(∃ as:List Addr,H p=some (.lst (as.map V.ref))/\Pcs C H as ls)/\Dt ls/\ls.length<=400
theorem Vy.kp {C p:Addr}{H H':Hp}{ls:List (List Bool)}(h:Vy C H p ls)(k:Kp H H'):Vy C H' p ls:=⟨let ⟨as,h1,h2⟩:=h.1;⟨as,k.k h1,h2.kp k⟩,h.2⟩
theorem Vy.but {C CS p x dx:Addr}{H H':Hp}{ls:List (List Bool)}{fs:List (Str×V)}(h:Vy C H p ls)(s:SameBut x H H')(hx:H x=some (.ins CS dx fs))(hf:fs.length<4):Vy C H' p ls:=by
 obtain ⟨⟨as,hp,hP⟩,h2⟩:=h
 refine ⟨⟨as,s _ _ (Lc hp hx (by intro z;cases z)) hp,hP.but s hx fun a ha e=>?_⟩,h2⟩
 obtain ⟨k,hk⟩:=List.getElem?_of_mem ha
 have hk1:=(List.getElem?_eq_some_iff.mp hk).1
 obtain ⟨d,t,m,g,o,h1,_⟩:=hP.2 k a _ hk (List.getElem?_eq_getElem (by rw [<- hP.1];exact hk1))
 rw [e,hx] at h1
 cases h1
 exact absurd hf (by show ¬ 4<4;decide)
def sZ (C:Addr)(H:Hp)(ps:List Addr)(prs:List (List (List Bool))):Prop:=ps.length=prs.length/\∀ (i:Nat) p ls,ps[i]?=some p->prs[i]?=some ls->Vy C H p ls
structure Gx (C CR CS:Addr) (H:Hp) (x e:Addr) (ls:List (List Bool)) (prs:List (List (List Bool))):Prop where
 hx:∃ dx r,H x=some (.ins CS dx (Pg (.ref r) (.ref e)))/\Bk C CR (hide e H) r ls
 he:∃ ps:List Addr,H e=some (.lst (ps.map V.ref))/\sZ C (hide e H) ps prs
theorem Gx.sh {C CR CS x e:Addr}{H:Hp}{ls:List (List Bool)}{prs:List (List (List Bool))}(h:Gx C CR CS H x e ls prs):B6 C CR CS H x ls:=let ⟨dx,r,h1,h2⟩:=h.hx;⟨dx,r,_,h1,h2.kp Lv⟩
theorem Gx.kp {C CR CS x e:Addr}{H H':Hp}{ls:List (List Bool)}{prs:List (List (List Bool))}(h:Gx C CR CS H x e ls prs)(k:Kp H H'):Gx C CR CS H' x e ls prs:=by
 obtain ⟨⟨dx,r,h1,h2⟩,⟨ps,h3,h4⟩⟩:=h
 exact ⟨⟨dx,r,k.k h1,h2.kp (Jn k)⟩,⟨ps,k.k h3,h4.1,fun i p ls e1 e2=>(h4.2 i p ls e1 e2).kp (Jn k)⟩⟩
structure SmE (ts:List Tb) (x e:Addr) (H H':Hp):Prop where
 keep:∀ b u,b≠x->b≠e->(∀ ps,u≠HO.tbl ps)->H b=some u->H' b=some u
 fr:∀ b,H' b=none->H b=none
 ok:Tbs ts H'
theorem SmE.of {ts:List Tb}{x e:Addr}{H H':Hp}(s:SmT ts H H'):SmE ts x e H H':=⟨fun b u _ _ n h=>s.k h n,fun b h=>s.sm.free h,s.ok⟩
theorem SmE.trans {ts:List Tb}{x e:Addr}{H H1 H2:Hp}(a:SmE ts x e H H1)(b:SmE ts x e H1 H2):SmE ts x e H H2:=⟨fun c u n1 n2 n h=>b.keep c u n1 n2 n (a.keep c u n1 n2 n h),fun c h=>a.fr c (b.fr c h),b.ok⟩
theorem SmE.k {ts:List Tb}{x e b:Addr}{H H':Hp}{u:HO}(s:SmE ts x e H H')(h:H b=some u)(n1:b≠x)(n2:b≠e)(n:∀ ps,u≠.tbl ps:=by intro ps e;cases e):H' b=some u:=s.keep b u n1 n2 n h
def Vr (C CR CS:Addr):Sp:=fun vs H Q _=>∃ (x dx a:Addr) (ds:List Nat),vs=[.ref x,.ref a]/\H x=some (.ins CS dx [])/\H a=some (.lst ((A0 ds).map V.int))/\Dok ds/\ds.length<4000/\∀ e H',SameBut x H H'->Gx C CR CS H' x e (pcs (A5 ds)) []->H e=none->Q .non H'
theorem Wl {f:Addr}{fd:FuncData}(F:Fun K "__init__" "Shaped.__init__" Ig f fd)(T:Txt K mg)(Z:Qb K ac)(aQ:Cal P w K mg base "row_of" 3 ["elders"] Pm)(aO:Cal P w K mg base "pieces_of" 5 ["text"] (Jt ab))(aP:Mkr P w K mg base "PiecedRow" aa 2 ["self","pieces"] (Mz ab aa))(Wd:lO P w K mg base "Openings" "__init__" 1 ["self","pairs"] (S1 ac)):A9 P w K mg base CX0 6 f fd ["self","elders"] (Vr ab aa ac):=by
 refine F.ok R0 (fun vs H Q E h=>?_) (fun cdv A outer s H vs Q E hr h=>?_)
 ·obtain ⟨x,dx,a,ds,rfl,_⟩:=h
  rfl
 ·obtain ⟨x,dx,a,ds,rfl,hx,ha,hD,hn,q⟩:=h
  refine ⟨_,(Ab (Bl (oW Wd (hr.mono (by decide:1<=_)) rfl (Af (pv 0) (Af (dJ aP (hr.mono (by decide:3<=_)) (Af (Bb aO (hr.mono (by decide:5<=_)) (Af (Bb aQ (hr.mono (by decide:3<=_)) (Af (pv 1) Aa rfl)) Aa rfl)) Aa rfl)) Aa rfl) rfl)))
   (Ai (F9 (pv 0) (Br Aa) rfl))),?_⟩
  have hrl:=Bp hD
  k_is
  refine ⟨a,ds,rfl,ha,hD,hn,fun H1 s1=>?_⟩
  k_is
  refine ⟨A5 ds,rfl,by omega,fun p as H2 s2 hp0 hp hP=>?_⟩
  have s12:=s1.trans s2
  have hx2:=s12 _ _ hx
  k_is
  intro r dr hr0 hdr hrd
  have sN:An H2 (upd (upd H2 dr (.own r)) r (.ins aa dr [])):=Rs hr0 hdr
  refine ⟨r,dr,p,as,_,rfl,Ae,sN _ _ hp,hP.kp (An.kp sN),Ul _,?_,fun H3 s3 hR3 _=>⟨rfl,?_⟩⟩
  ·rw [Eg]
   unfold pcM
   omega
  have s13:=s12.trans (Lp hr0 hdr s3)
  have hx3:=s13 _ _ hx
  k_is
  refine ⟨x,dx,.ref r,rfl,hx3,?_⟩
  have b4:SameBut x H3 (upd H3 x (.ins ac dx [("pairs",.ref r)])):=Ce
  have hR4:=hR3.but b4 hx3 (by decide)
  have hx4:upd H3 x (.ins ac dx [("pairs",.ref r)]) x=some (.ins ac dx [("pairs",.ref r)]):=Ae
  have but4:=s13.but.trans b4
  generalize upd H3 x (.ins ac dx [("pairs",.ref r)])=H4 at *
  k_is
  refine ⟨Nat.zero_le _,fun e he=>?_⟩
  have s5:=Al (o:=.lst []) he
  have e5:upd H4 e (.lst []) e=some (.lst []):=Ae
  have hR5:=hR4.kp (fC (An.kp s5) he)
  have hx5:=s5 _ _ hx4
  have but5:=but4.trans s5.but
  have hxe:x≠e:=Ap hx4 he
  generalize upd H4 e (.lst [])=H5 at *
  k_is
  refine Ef hx5 Z.cl Z.n_earlier (show 1<1000 by decide) ?_
  rw [show Cl ("earlier":Str) (V.ref e) [("pairs",.ref r)]=Pg (.ref r) (.ref e) from rfl]
  have b6:SameBut x H5 (upd H5 x (.ins ac dx (Pg (.ref r) (.ref e)))):=Ce
  refine q e _ (but5.trans b6) ⟨⟨dx,r,Ae,hR5.but (Er b6) (by rw [Cd hxe];exact hx5) (by show 1<4;decide)⟩,⟨[],b6 _ _ hxe.symm e5,rfl,fun i p ls e1=>by cases e1⟩⟩ (K3 but4 hxe.symm he)
def N4 (C CR CS:Addr):Sp:=fun vs H Q _=>∃ (x:Addr) (ls:List (List Bool)),vs=[.ref x]/\B6 C CR CS H x ls/\∀ p H',An H H'->H p=none->H' p=some (.lst (ls.map fun l=>.str (Az l)))->Q (.ref p) H'
theorem Wc {f:Addr}{fd:FuncData}(F:Fun K "pieces" "Shaped.pieces" Ey f fd)(T:Txt K mg)(Z:Qb K ac)(W:Qa K aa)(Y:Qc K ab):A9 P w K mg base CX0 1 f fd ["self"] (N4 ab aa ac):=by
 refine F.ok Om (fun vs H Q E h=>?_) (fun cdv A outer s H vs Q E hr h=>?_)
 ·obtain ⟨x,ls,rfl,_⟩:=h
  rfl
 ·obtain ⟨x,ls,rfl,⟨dx,r,e,hx,hR⟩,q⟩:=h
  obtain ⟨dp,p,b,k,t,o,hr2,hW,_⟩:=id hR
  obtain ⟨as,hp,hP⟩:=id hW.pcs
  have hfw:=hW.fw
  refine ⟨_,(Ai (At (G5 rfl Mo (B4 (A6 (A6 (pv 0) rfl) rfl)) (fun _ _ _ _=>Co) (fun _ _ _ _=>(Fw K (pv 0)))))),?_⟩
  k_is
  refine ⟨x,ac,dx,_,_,rfl,hx,Z.cl,Z.n_pairs,rfl,?_⟩
  k_is
  refine ⟨r,aa,dp,_,_,rfl,hr2,W.cl,W.n_kept_pieces,rfl,?_⟩
  k_is
  refine ⟨p,rfl,⟨_,SqL.of hp⟩,?_⟩
  refine Fh (SqL.of hp) (fun i=>(ls.take i).map fun l=>V.str (Az l)) rfl (fun i hi=>?_) (fun i v H1 R A hv s1 _ hA=>?_) (fun D H1 hD s1 h1=>?_)
  ·rw [List.length_map,List.length_take]
   exact Ak (by omega)
  ·obtain ⟨a,y,rfl,ea,ey,hy⟩:=hP.get hv
   obtain ⟨d,t,m,g,o,y1,y2,y3⟩:=hy
   k_is
   refine ⟨a,ab,d,_,_,rfl,s1 _ _ y1,Y.cl,Y.n_signs,rfl,?_⟩
   refine hA _ _ ?_ (An.refl _)
   rw [List.take_add_one,ey,List.map_append]
   rfl
  ·rw [List.length_map,hP.1,List.take_length] at h1
   exact q D H1 s1 hD h1
def Kh (H:Hp)(bs:List Addr)(ls:List (List Bool))(n:Nat):Prop:=bs.length=n/\∀ (k:Nat) (b:Addr) (x:List Bool),bs[k]?=some b->ls[k]?=some x->∃ m,H b=some (.tup (O8 x m))/\El x m
theorem Kh.kp {H H':Hp}{bs:List Addr}{ls:List (List Bool)}{n:Nat}(h:Kh H bs ls n)(s:Kp H H'):Kh H' bs ls n:=⟨h.1,fun k b x e1 e2=>let ⟨m,h1,h2⟩:=h.2 k b x e1 e2;⟨m,s.k h1,h2⟩⟩
theorem Kh.upd {H:Hp}{bs:List Addr}{ls:List (List Bool)}{n:Nat}{D:Addr}{zs:List V}{o:HO}(h:Kh H bs ls n)(hD:H D=some (.lst zs)):Kh (upd H D o) bs ls n:=⟨h.1,fun k b x e1 e2=>let ⟨m,h1,h2⟩:=h.2 k b x e1 e2;⟨m,by rw [Aw (fun e=>by rw [e,hD] at h1;cases h1)];exact h1,h2⟩⟩
theorem Kh.push {H:Hp}{bs:List Addr}{ls:List (List Bool)}{n:Nat}{b:Addr}{x:List Bool}{m:Int}(h:Kh H bs ls n)(hx:ls[n]?=some x)(h1:H b=some (.tup (O8 x m)))(h2:El x m):Kh H (bs++[b]) ls (n+1):=by
 refine ⟨by rw [List.length_append,h.1];rfl,fun k c y e1 e2=>?_⟩
 by_cases hk:k<bs.length
 ·rw [List.getElem?_append_left hk] at e1
  exact h.2 k c y e1 e2
 ·have hk2:=Bw e1
  rw [List.length_append] at hk2
  obtain rfl:k=bs.length:=by simp only [List.length_cons,List.length_nil] at hk2;omega
  rw [List.getElem?_append_right (Nat.le_refl _),Nat.sub_self] at e1
  obtain rfl:b=c:=Option.some.inj e1
  rw [h.1,hx] at e2
  obtain rfl:=Option.some.inj e2
  exact ⟨m,h1,h2⟩
def Xa (C CR CS:Addr):Sp:=fun vs H Q _=>∃ (x:Addr) (ls:List (List Bool)),vs=[.ref x]/\B6 C CR CS H x ls/\∀ p (bs:List Addr) H',An H H'->H p=none->H' p=some (.lst (bs.map V.ref))->Kh H' bs ls ls.length->Q (.ref p) H'
theorem Wm {f:Addr}{fd:FuncData}(F:Fun K "sums" "Shaped.sums" Gg f fd)(T:Txt K mg)(Z:Qb K ac)(W:Qa K aa)(Y:Qc K ab):A9 P w K mg base CX0 1 f fd ["self"] (Xa ab aa ac):=by
 refine F.ok Sn (fun vs H Q E h=>?_) (fun cdv A outer s H vs Q E hr h=>?_)
 ·obtain ⟨x,ls,rfl,_⟩:=h
  rfl
 ·obtain ⟨x,ls,rfl,⟨dx,r,e,hx,hR⟩,q⟩:=h
  obtain ⟨dp,p,b,k,t,o,hr2,hW,_⟩:=id hR
  obtain ⟨as,hp,hP⟩:=id hW.pcs
  have hfw:=hW.fw
  refine ⟨_,(Ai (At (G5 rfl N5 (B4 (A6 (A6 (pv 0) rfl) rfl)) (fun _ _ _ _=>Co) (fun _ _ _ _=>(Fw K (pv 0)))))),?_⟩
  k_is
  refine ⟨x,ac,dx,_,_,rfl,hx,Z.cl,Z.n_pairs,rfl,?_⟩
  k_is
  refine ⟨r,aa,dp,_,_,rfl,hr2,W.cl,W.n_kept_pieces,rfl,?_⟩
  k_is
  refine ⟨p,rfl,⟨_,SqL.of hp⟩,?_⟩
  refine P8 (SqL.of hp) (fun i ys H'=>∃ bs:List Addr,ys=bs.map V.ref/\Kh H' bs ls i) (fun _ _=>⟨[],rfl,rfl,fun k b x e=>by cases e⟩) (fun i ys H' D zs o hD ⟨bs,e1,e2⟩=>⟨bs,e1,e2.upd hD⟩) (fun i ys H' hi h=>?_) ?_ ?_
  ·obtain ⟨bs,rfl,h⟩:=h
   rw [List.length_map,hP.1] at hi
   rw [List.length_map,h.1]
   exact Ak (by omega)
  ·intro i ys y H1 A R hy s1 hPv hA
   obtain ⟨bs,rfl,h⟩:=hPv
   obtain ⟨a,c,rfl,ea,ec,hc⟩:=hP.get hy
   obtain ⟨d,t,m,g,o,y1,y2,y3⟩:=hc
   k_is
   refine ⟨a,ab,d,_,_,rfl,s1 _ _ y1,Y.cl,Y.n_kept_sums,rfl,?_⟩
   exact hA _ _ (An.refl _) ⟨bs++[t],by rw [List.map_append];rfl,h.push ec (s1 _ _ y2) y3.1⟩
  ·intro D ys H1 hD s1 hPv h1
   obtain ⟨bs,rfl,h⟩:=hPv
   rw [List.length_map,hP.1] at h
   exact q D bs H1 s1 hD h1 h
def ShA (C CR CS:Addr)(H H':Hp)(x e:Addr)(ls ls':List (List Bool))(prs:List (List (List Bool))):Prop:=∀ c zs,c≠e->H c=some (.lst zs)->Gx C CR CS (hide c H) x e ls prs->Gx C CR CS (hide c H') x e ls' (prs++[ls])
theorem ShA.kp {C CR CS x e:Addr}{H H1 H':Hp}{ls ls':List (List Bool)}{prs:List (List (List Bool))}(k:Kp H H1)(h:ShA C CR CS H1 H' x e ls ls' prs):ShA C CR CS H H' x e ls ls' prs:=fun c zs h1 h2 h3=>h c zs h1 (k.k h2) (h3.kp (Jn k))
theorem N1 {a b:Addr}{H:Hp}:hide a (hide b H)=hide b (hide a H):=by
 funext c
 unfold hide
 by_cases h1:c=a
 ·by_cases h2:c=b
  ·rw [if_pos h1,if_pos h2]
  ·rw [if_pos h1,if_neg h2,if_pos h1]
 ·by_cases h2:c=b
  ·rw [if_neg h1,if_pos h2,if_pos h2]
  ·rw [if_neg h1,if_neg h2,if_neg h2,if_neg h1]
def Ps (C CR CS:Addr)(ts:List Tb):Sp:=fun vs H Q _=>∃ (x e:Addr) (ls:List (List Bool)) (prs:List (List (List Bool))) (lo hi:Nat) (t:List Bool),vs=[.ref x,.int lo,.int hi,.str (Az t)]/\Gx C CR CS H x e ls prs/\Tbs ts H/\lo<=hi/\hi<=ls.flatten.length/\ls.flatten.length+t.length<=20000/\ls.length<=100/\prs.length<=1000 /\
 ∀ f b H',Ph ls lo hi t.length f b->Gx C CR CS H' x e (Bu ls lo hi t f b) (prs++[ls])->SmE ts x e H H'->ShA C CR CS H H' x e ls (Bu ls lo hi t f b) prs->Q .non H'
theorem Qi {f:Addr}{fd:FuncData}{ts:List Tb}(F:Fun K "replace_signs" "Shaped.replace_signs" Dg f fd)(T:Txt K mg)(Z:Qb K ac)(Y:Qa K aa)(bx:Mth P w K mg base aa "replaced" 6 ["self","low","high","text"] (W2 ab aa ts)):A9 P w K mg base CX0 7 f fd ["self","low","high","text"] (Ps ab aa ac ts):=by
 refine F.ok Jh (fun vs H Q E h=>?_) (fun cdv A outer s H vs Q E hr h=>?_)
 ·obtain ⟨x,e,ls,prs,lo,hi,t,rfl,_⟩:=h
  rfl
 ·obtain ⟨x,e,ls,prs,lo,hi,t,rfl,hS,hT,h1,h2,h3,h4,h5,q⟩:=h
  obtain ⟨⟨dx,r,hx,hR⟩,⟨ps,he,hH⟩⟩:=id hS
  obtain ⟨dp,p,b,kk,tt,o,hp,hW,_⟩:=id hR
  obtain ⟨hpe,hp'⟩:=Hs hp
  refine ⟨_,(Ab (Bl (Ds PySem.F.plainAttrs_list PySem.F.slot_list_append PySem.F.type_list_append B7 (A6 (pv 0) rfl) (Af (A6 (A6 (pv 0) rfl) rfl) Aa rfl)))
   (Ai (F9 (pv 0) (A4 bx (hr.mono (by decide:6<=_)) (A6 (pv 0) rfl) (Af (pv 1) (Af (pv 2) (Af (pv 3) Aa rfl) rfl) rfl)) rfl))),?_⟩
  k_is
  refine ⟨x,ac,dx,_,.ref e,rfl,hx,Z.cl,Z.n_earlier,rfl,?_⟩
  k_is
  refine ⟨.inl ⟨rfl,_,SqL.of he⟩,?_⟩
  k_is
  refine ⟨x,ac,dx,_,.ref r,rfl,hx,Z.cl,Z.n_pairs,rfl,?_⟩
  k_is
  refine ⟨r,aa,dp,_,.ref p,rfl,hp',Y.cl,Y.n_kept_pieces,rfl,?_⟩
  k_is
  refine B9 he (Ak (by rw [List.length_map,hH.1];omega)) ?_
  have hxe:x≠e:=Lc hx he (by intro z;cases z)
  have hT1:Tbs ts (upd H e (.lst (ps.map V.ref++[V.ref p]))):=hT.keepN he
  have hid:hide e (upd H e (.lst (ps.map V.ref++[V.ref p])))=hide e H:=gS
  have hx1:upd H e (.lst (ps.map V.ref++[V.ref p])) x=some (.ins ac dx (Pg (.ref r) (.ref e))):=by rw [Aw hxe];exact hx
  have he1:upd H e (.lst (ps.map V.ref++[V.ref p])) e=some (.lst ((ps++[p]).map V.ref)):=by rw [Ae,List.map_append];rfl
  have kp1:∀ b u,b≠e->H b=some u->upd H e (.lst (ps.map V.ref++[V.ref p])) b=some u:=fun b u hb hu=>by rw [Aw hb];exact hu
  have fr1:∀ b,upd H e (.lst (ps.map V.ref++[V.ref p])) b=none->H b=none:=fun b hb=>by
   rw [Aw (fun z=>by rw [z,Ae] at hb;cases hb)] at hb
   exact hb
  generalize upd H e (.lst (ps.map V.ref++[V.ref p]))=H1 at *
  have hR1:Bk ab aa (hide e H1) r ls:=by rw [hid];exact hR
  have hp1:H1 r=some (.ins aa dp _):=(Hs (by rw [hid];exact hp)).2
  k_is
  refine ⟨x,ac,dx,_,.ref r,rfl,hx1,Z.cl,Z.n_pairs,rfl,?_⟩
  k_is
  refine ⟨r,dp,_,rfl,hp1,rfl,?_⟩
  k_is
  refine ⟨r,ls,lo,hi,t,rfl,hR1.kp Lv,hT1,h1,h2,h3,h4,fun r' p' f b H0 H' hN s0 s0' hr0 hp0 hp0' hR' hF'=>?_⟩
  have s2:=s0.then s0'
  have hx2:=s2.k hx1
  have he2:=s2.k he1
  k_is
  refine Ef hx2 Z.cl Z.n_pairs (show 2<1000 by decide) ?_
  rw [show Cl ("pairs":Str) (V.ref r') (Pg (.ref r) (.ref e))=Pg (.ref r') (.ref e) from rfl]
  have b3:SameBut x H' (upd H' x (.ins ac dx (Pg (.ref r') (.ref e)))):=Ce
  have hhx:hide e H' x=some (.ins ac dx (Pg (.ref r) (.ref e))):=by rw [Cd hxe];exact hx2
  have kk':Kp (hide e H) (hide e H'):=by rw [<- hid];exact Jn s2.kp
  have hhist:sZ ab (hide e (upd H' x (.ins ac dx (Pg (.ref r') (.ref e))))) (ps++[p]) (prs++[ls]):=by
   refine ⟨by rw [List.length_append,List.length_append,hH.1];rfl,fun i a ms e1 e2=>?_⟩
   by_cases hi:i<ps.length
   ·rw [List.getElem?_append_left hi] at e1
    rw [List.getElem?_append_left (by rw [<- hH.1];exact hi)] at e2
    exact ((hH.2 i a ms e1 e2).kp kk').but (Er b3) hhx (by show 2<4;decide)
   ·rw [List.getElem?_append_right (by omega)] at e1
    rw [List.getElem?_append_right (by rw [<- hH.1];omega),<- hH.1] at e2
    have hi0:i-ps.length=0:=by
     have:=Bw e1
     simp at this
     omega
    rw [hi0] at e1 e2
    obtain rfl:p=a:=Option.some.inj e1
    obtain rfl:ls=ms:=Option.some.inj e2
    have hl:Vy ab (hide e H) p ls:=⟨hW.pcs,hW.sz,hW.fw⟩
    exact (hl.kp kk').but (Er b3) hhx (by show 2<4;decide)
  have hRh:=hR'.hide hF' (by rw [s0.k he1];intro z;cases z) (Ap he1 hp0).symm he2
  refine q f b _ hN ⟨⟨dx,r',Ae,hRh.but (Er b3) hhx (by show 2<4;decide)⟩,⟨ps++[p],b3 _ _ hxe.symm he2,hhist⟩⟩ ⟨fun c u n1 n2 n hc=>b3 _ _ n1 (s2.k (kp1 c u n2 hc) n),fun c hc=>?_,s2.ok.keepN hx2⟩ fun c zs hce hc hSc=>?_
  ·rw [Aw (fun z=>by rw [z,Ae] at hc;cases hc)] at hc
   exact fr1 c (s2.sm.free hc)
  ·have hc1:=kp1 c _ hce hc
   have hc2:=s2.k hc1
   have hcx:c≠x:=Lc hc hx (by intro z;cases z)
   have hr'e:r'≠e:=(Ap (s0.k he1) hr0).symm
   obtain ⟨dr5,b5,k5,t5,o5,n5,g0,g1,g2,g3,g4⟩:=id hF'
   have hRc:=hRh.hide (e:=c) (zs:=zs) ⟨dr5,b5,k5,t5,o5,n5,by rw [Cd hr'e];exact g0,g1,g2,g3,g4⟩ (by rw [s0.k hc1];intro z;cases z) (Ap hc1 hp0).symm (by rw [Cd hce];exact hc2)
   rw [N1] at hRc
   have hhc:hide e (hide c H') x=some (.ins ac dx (Pg (.ref r) (.ref e))):=by rw [Cd hxe,Cd hcx.symm];exact hx2
   obtain ⟨⟨dx6,r6,hx6,hR6⟩,⟨ps6,he6,hH6⟩⟩:=hSc
   rw [Cd hcx.symm,hx] at hx6
   obtain rfl:r=r6:=by
    have e1:=Option.some.inj hx6
    unfold Pg at e1
    simp only [HO.ins.injEq,List.cons.injEq,Prod.mk.injEq,V.ref.injEq,true_and,and_true] at e1
    exact e1.2
   rw [Cd hce.symm,he] at he6
   obtain rfl:ps=ps6:=List.map_inj_right (fun a b h=>V.ref.inj h) |>.mp (HO.lst.inj (Option.some.inj he6))
   obtain ⟨dp6,p6,b6,kk6,tt6,o6,hp6,hW6,_⟩:=id hR6
   have hp66:=(Hs (Hs hp6 |>.2)).2
   obtain rfl:p=p6:=by
    rw [hp'] at hp66
    have e1:=Option.some.inj hp66
    unfold Zm at e1
    simp only [HO.ins.injEq,List.cons.injEq,Prod.mk.injEq,V.ref.injEq,true_and,and_true] at e1
    exact e1.2.1
   have kc:Kp (hide e (hide c H)) (hide e (hide c H')):=by
    rw [N1,N1 (a:=e) (b:=c)]
    exact Jn kk'
   refine ⟨⟨dx,r',by rw [Cd hcx.symm];exact Ae,hRc.but (Er (Er b3)) hhc (by show 2<4;decide)⟩,⟨ps++[p],by rw [Cd hce.symm];exact b3 _ _ hxe.symm he2,by rw [List.length_append,List.length_append,hH.1];rfl,fun i a ms e1 e2=>?_⟩⟩
   by_cases hi:i<ps.length
   ·rw [List.getElem?_append_left hi] at e1
    rw [List.getElem?_append_left (by rw [<- hH.1];exact hi)] at e2
    exact ((hH6.2 i a ms e1 e2).kp kc).but (Er (Er b3)) hhc (by show 2<4;decide)
   ·rw [List.getElem?_append_right (by omega)] at e1
    rw [List.getElem?_append_right (by rw [<- hH.1];omega),<- hH.1] at e2
    have hi0:i-ps.length=0:=by
     have:=Bw e1
     simp at this
     omega
    rw [hi0] at e1 e2
    obtain rfl:p=a:=Option.some.inj e1
    obtain rfl:ls=ms:=Option.some.inj e2
    have hl:Vy ab (hide e (hide c H)) p ls:=⟨hW6.pcs,hW6.sz,hW6.fw⟩
    exact (hl.kp kc).but (Er (Er b3)) hhc (by show 2<4;decide)
theorem Xf {ds:List Nat}{k:Nat}(hk:k<ds.length):(Gc ds k).length=(Cm ds k).length+1:=by
 have:=(Bx (ds:=ds) hk).1
 rw [Fo,Du]
 omega
def cY (C CR CS:Addr)(ts:List Tb):Sp:=fun vs H Q _=>∃ (x e:Addr) (ls:List (List Bool)) (prs:List (List (List Bool))) (ds:List Nat) (k:Nat),vs=[.ref x,.int k]/\Gx C CR CS H x e ls prs/\Tbs ts H/\Dok ds/\ls.flatten=A5 ds/\k<ds.length/\ds.length<=4000/\ls.length<=100/\prs.length<=1000 /\
 ∀ f b p H',Ph ls (2*k-dAt ds k) (2*k-dAt ds k+2*(Gc ds k).length) 0 f b->(Bu ls (2*k-dAt ds k) (2*k-dAt ds k+2*(Gc ds k).length) [] f b).flatten=A5 (Us ds k)->Gx C CR CS (hide p H') x e (Bu ls (2*k-dAt ds k) (2*k-dAt ds k+2*(Gc ds k).length) [] f b) (prs++[ls])->SmE ts x e H H'->H p=none->H' p=some (.lst ((A0 (Gc ds k)).map V.int))->p≠e->Q (.ref p) H'
theorem Wo {f:Addr}{fd:FuncData}{ts:List Tb}(F:Fun K "cut" "Shaped.cut" Jy f fd)(T:Txt K mg)(Z:Qb K ac)(ae:Mth P w K mg base ac "opening" 5 ["self","k"] (G2 ab aa ac ts))(av:Mth P w K mg base ac "closing" 12 ["self","k"] (K2 ab aa ac ts))(ag:Mth P w K mg base aa "stretch" 5 ["self","low","high"] (C9 ab aa ts))(aR:Mth P w K mg base ac "replace_signs" 7 ["self","low","high","text"] (Ps ab aa ac ts))(aJ:Cal P w K mg base "elders_of" 2 ["text"] J8):A9 P w K mg base CX0 13 f fd ["self","k"] (cY ab aa ac ts):=by
 refine F.ok Gj (fun vs H Q E h=>?_) (fun cdv A outer s H vs Q E hr h=>?_)
 ·obtain ⟨x,e,ls,prs,ds,k,rfl,_⟩:=h
  rfl
 ·obtain ⟨x,e,ls,prs,ds,k,rfl,hS,hT,hD,hrow,hk,hn,hl,hpr,q⟩:=h
  obtain ⟨⟨dx,r,hx,hR⟩,⟨ps,he,hH⟩⟩:=id hS
  obtain ⟨dp,p,b,kk,tt,o,hp,hW,_⟩:=id hR
  obtain ⟨hpe,hp'⟩:=Hs hp
  have hsu:=Xf (ds:=ds) hk
  have hdl:=(Fm hD hk).1
  obtain ⟨hDc,P0,S0,p1,p2,p3,p4⟩:=Wr hD hk
  have hrl:=Bp hD
  have hsl:=Bp (Mr hD hk)
  have hlen:=congrArg List.length p3
  rw [List.length_append,List.length_append,hsl,hrl] at hlen
  have hlo:P0.length=2*k-dAt ds k:=by omega
  refine ⟨_,(Ab (Aq (i:=2) Gj.nd rfl (Or.inl rfl) (A4 ae (hr.mono (by decide:5<=_)) (pv 0) (Af (pv 1) Aa rfl)))
   (Ab (Aq (i:=3) Gj.nd rfl (Or.inl rfl) (Am A7 (A4 av (hr.mono (by decide:12<=_)) (pv 0) (Af (pv 1) Aa rfl)) Aj))
   (Ab (Aq (i:=4) Gj.nd rfl (Or.inl rfl) (A4 ag (hr.mono (by decide:5<=_)) (A6 (pv 0) rfl) (Af (pv 2) (Af (pv 3) Aa rfl) rfl)))
   (Ab (Bl (A4 aR (hr.mono (by decide:7<=_)) (pv 0) (Af (pv 2) (Af (pv 3) (Af Cz Aa rfl) rfl) rfl)))
   (Ai (At (Bb aJ (hr.mono (by decide:2<=_)) (Af (pv 4) Aa rfl)))))))),?_⟩
  k_is
  refine ⟨x,dx,_,rfl,hx,rfl,?_⟩
  k_is
  refine ⟨x,ls,ds,k,rfl,hS.sh,hT,hD,hrow,hk,fun H1 s1=>?_⟩
  k_is
  refine ⟨x,dx,_,rfl,s1.k hx,rfl,?_⟩
  k_is
  refine ⟨x,ls,ds,k,rfl,hS.sh.kp s1.kp,s1.ok,hD,hrow,hk,fun H2 s2=>?_⟩
  have s12:=s1.trans s2
  k_is
  rw [show ((2*k-dAt ds k+2*(Cm ds k).length+1:Nat):Int)+1=((2*k-dAt ds k+2*(Gc ds k).length:Nat):Int) by omega]
  refine ⟨x,ac,dx,_,.ref r,rfl,s12.k hx,Z.cl,Z.n_pairs,rfl,?_⟩
  k_is
  refine ⟨r,dp,_,rfl,s12.k hp',rfl,?_⟩
  k_is
  refine ⟨r,ls,2*k-dAt ds k,2*k-dAt ds k+2*(Gc ds k).length,rfl,(hR.kp Lv).kp s12.kp,s12.ok,by omega,by rw [hrow];omega,fun H3 s3=>?_⟩
  have s13:=s12.trans s3
  have etk:(ls.flatten.drop (2*k-dAt ds k)).take (2*k-dAt ds k+2*(Gc ds k).length-(2*k-dAt ds k))=A5 (Gc ds k):=by
   rw [hrow,p3,<- hlo,List.drop_left,Nat.add_sub_cancel_left,<- hsl,List.take_left]
  rw [etk]
  k_is
  refine ⟨x,dx,_,rfl,s13.k hx,rfl,?_⟩
  k_is
  refine ⟨x,e,ls,prs,2*k-dAt ds k,2*k-dAt ds k+2*(Gc ds k).length,[],rfl,hS.kp s13.kp,s13.ok,by omega,by rw [hrow];omega,by rw [hrow,hrl];show 2*ds.length+0<=_;omega,hl,hpr,fun f b H4 hN hS4 s4 _=>?_⟩
  have s14:SmE ts x e H H4:=(SmE.of s13).trans s4
  k_is
  refine ⟨A5 (Gc ds k),rfl,iO (Mr hD hk),by omega,fun p5 ds5 H5 s5 hp50 hp5 hD5 e5=>?_⟩
  obtain rfl:=iK hD5 (Mr hD hk) e5
  obtain ⟨ps4,he4,_⟩:=hS4.he
  obtain ⟨m1,m2,m3,m4⟩:=hN.ok
  refine q f b p5 H5 hN ?_ (hS4.kp (fC (An.kp s5) hp50)) (s14.trans (SmE.of (SmT.of s14.ok s5))) (s14.fr _ hp50) hp5 (Ap he4 hp50).symm
  rw [Xv m3 m4,p4,hrow,p3,<- hlo,List.take_left,List.nil_append,<- List.append_assoc,List.drop_left' (by rw [List.length_append,hsl])]
theorem nQ {ds:List Nat}(h:Dok ds){k a:Nat}(hk:k<ds.length)(h1:k<a)(h2:a<Bj ds k)(e:eld ds a=(k:Int)):eld (Cm ds k) (a-(k+1))=-1:=by
 have hu:=Hx h hk
 have hat:=Rp (ds:=ds) (k:=k) (i:=a-(k+1)) (by omega)
 rw [show k+1+(a-(k+1))=a by omega,(Pq h hk h1 h2).mp e,Nat.sub_self] at hat
 have:=E3 hu (k:=a-(k+1)) (by rw [Du];omega)
 rw [hat,Ci hu _ (by rw [Du];omega)] at this
 exact (Option.some.inj this).symm
theorem Vi {ds:List Nat}(h:Dok ds){ko:Option Nat}{place a off:Nat}{top:Int}(g:GAt ds ko place a off top):let within:=match ko with | some k=>2*k-dAt ds k+1 | none=>0
  within<=2*a-off/\2*a-off<=(A5 ds).length/\hgt (A5 ds) (2*a-off)=hgt (A5 ds) within/\lvl (A5 ds) within (2*a-off)=place:=by
 cases ko with
 | none =>
  obtain ⟨rfl,rfl,h3,h4,h5⟩:=g
  refine ⟨Nat.zero_le _,by rw [Bp h];omega,?_,?_⟩
  ·show hg (A5 ds) (2*a)=hg (A5 ds) 0
   rw [show hg (A5 ds) 0=0 by unfold hg;simp]
   rcases h5 with rfl | ⟨h5,h6⟩
   ·exact (Oj h).2
   ·exact (Xb h (by omega)).mpr ⟨a,h5,h6,rfl⟩
  ·show lvl (A5 ds) 0 (2*a)=_
   rw [fA h h3,h4]
 | some k =>
  obtain ⟨hk,rfl,rfl,h3,h4,h5,h6⟩:=g
  obtain ⟨e1,e2,_⟩:=Bx (ds:=ds) hk
  obtain ⟨A,B,a1,a2,a3,a4,a5,a6⟩:=M8 h hk
  have hu:=Hx h hk
  have hul:=Du ds k
  have hlen:=congrArg List.length a2
  rw [List.length_append,List.length_append,Bp hu] at hlen
  have ea:2*a-(dAt ds k+1)=A.length+2*(a-(k+1)):=by omega
  refine ⟨?_,?_,?_,?_⟩
  ·show 2*k-dAt ds k+1<=_
   omega
  ·rw [ea,hlen]
   omega
  ·show hg (A5 ds) _=hg (A5 ds) (2*k-dAt ds k+1)
   rw [ea,a5 _ (by omega),<- a1]
   have:=a5 0 (Nat.zero_le _)
   rw [Nat.add_zero,show hg (A5 (Cm ds k)) 0=0 by unfold hg;simp] at this
   rw [this]
   congr 1
   rcases h6 with h6 | ⟨h6,h7⟩
   ·rw [show a-(k+1)=(Cm ds k).length by omega]
    exact (Oj hu).2
   ·exact (Xb hu (by omega)).mpr ⟨_,by omega,nQ h hk h3 h6 h7,rfl⟩
  ·show lvl (A5 ds) (2*k-dAt ds k+1) _=_
   rw [ea,<- a1,a2,Sk hu (by omega),R3 h hk _ (by omega),show k+1+(a-(k+1))=a by omega,h5]
def Ra (C CR CS:Addr)(ts:List Tb):Sp:=fun vs H Q _=>∃ (x e l:Addr) (ls:List (List Bool)) (prs:List (List (List Bool))) (ds es:List Nat) (ko:Option Nat) (place a off:Nat) (top:Int),vs=[.ref x,Ng ko,.int place,.ref l]/\Gx C CR CS H x e ls prs/\Tbs ts H/\Dok ds/\ls.flatten=A5 ds/\H l=some (.lst ((A0 es).map V.int))/\Dok es/\GAt ds ko place a off top/\es.length<4000/\ds.length+es.length<=4000/\ls.length<=100/\prs.length<=1000 /\
 ∀ f b H',Ph ls (2*a-off) (2*a-off) (2*es.length) f b->(Bu ls (2*a-off) (2*a-off) (A5 es) f b).flatten=A5 (Ii ds es a off)->Gx C CR CS H' x e (Bu ls (2*a-off) (2*a-off) (A5 es) f b) (prs++[ls])->SmE ts x e H H'->ShA C CR CS H H' x e ls (Bu ls (2*a-off) (2*a-off) (A5 es) f b) prs->Q .non H'
theorem Wi {f:Addr}{fd:FuncData}{ts:List Tb}(F:Fun K "graft" "Shaped.graft" Hh f fd)(T:Txt K mg)(Z:Qb K ac)(bz:Mth P w K mg base ac "many_tops" 11 ["self"] (Wq ab aa ac ts))(bA:Mth P w K mg base ac "many" 13 ["self","k"] (U3 ab aa ac ts))(ap:Cal P w K mg base "is_within" 2 ["thing","low","high"] Il)(aQ:Cal P w K mg base "row_of" 3 ["elders"] Pm)(aK:Mth P w K mg base ac "many_knots" 2 ["self"] (Nj ab aa ac))(ae:Mth P w K mg base ac "opening" 5 ["self","k"] (G2 ab aa ac ts))(bB:Mth P w K mg base aa "nth_level" 10 ["self","low","nth"] (Zq ab aa ts))(aR:Mth P w K mg base ac "replace_signs" 7 ["self","low","high","text"] (Ps ab aa ac ts)):A9 P w K mg base CX0 14 f fd ["self","k","place","elders"] (Ra ab aa ac ts):=by
 refine F.ok Dj (fun vs H Q E h=>?_) (fun cdv A outer s H vs Q E hr h=>?_)
 ·obtain ⟨x,e,l,ls,prs,ds,es,ko,place,a,off,top,rfl,_⟩:=h
  rfl
 ·obtain ⟨x,e,l,ls,prs,ds,es,ko,place,a,off,top,rfl,hS,hT,hD,hrow,hla,hDe,hG,hes,hde,hl,hpr,q⟩:=h
  obtain ⟨⟨dx,r,hx,hR⟩,⟨ps,he,hH⟩⟩:=id hS
  obtain ⟨dp,p,b,kk,tt,o,hp,hW,_⟩:=id hR
  obtain ⟨hpe,hp'⟩:=Hs hp
  obtain ⟨g1,g2,g3,g4⟩:=Vi hD hG
  obtain ⟨k1,k2,k3,k4⟩:=hG.ok hD
  obtain ⟨hDg,P0,S0,p1,p2,p3⟩:=Ls hD hDe k1 k2 k3
  have hrl:=Bp hD
  have hel:=Bp hDe
  have hlo:P0.length=2*a-off:=by omega
  have fin:∀ f b,Ph ls (2*a-off) (2*a-off) (A5 es).length f b->(Bu ls (2*a-off) (2*a-off) (A5 es) f b).flatten=A5 (Ii ds es a off):=fun f b hN=>by
   obtain ⟨m1,m2,m3,m4⟩:=hN.ok
   rw [Xv m3 m4,p3,hrow,p2,<- hlo,List.take_left,List.drop_left]
  refine ⟨_,(Ab (Aq (i:=4) Dj.nd rfl (Or.inl rfl) (C4 (Vp (jA (pv 1))) (Ie bz (hr.mono (by decide:11<=_)) (pv 0)) (A4 bA (hr.mono (by decide:13<=_)) (pv 0) (Af (pv 1) Aa rfl))))
   (Ab (B3 (Gu (Dr (Bb ap (hr.mono (by decide:2<=_)) (Af (pv 2) (Af Aj (Af (pv 4) Aa rfl) rfl) rfl)))) (Ai Cv)
   Ba)
   (Ab (Aq (i:=5) Dj.nd rfl (Or.inl rfl) (Bb aQ (hr.mono (by decide:3<=_)) (Af (pv 3) Aa rfl)))
   (Ab (B3 (Av Mb (Am A7 (Ie aK (hr.mono (by decide:2<=_)) (pv 0)) (As Ar (by rfl) T.n_len Bs (Af (pv 3) Aa rfl))) (G6 rfl T.g_MOST_KNOTS) (Ax _)) (Ai Cv)
   Ba)
   (Ab (Aq (i:=6) Dj.nd rfl (Or.inl rfl) (C4 (Vp (jA (pv 1))) Aj (Am A7 (A4 ae (hr.mono (by decide:5<=_)) (pv 0) (Af (pv 1) Aa rfl)) Aj)))
   (Ab (Aq (i:=7) Dj.nd rfl (Or.inl rfl) (A4 bB (hr.mono (by decide:10<=_)) (A6 (pv 0) rfl) (Af (pv 6) (Af (pv 2) Aa rfl) rfl)))
   (Ai (Bl (A4 aR (hr.mono (by decide:7<=_)) (pv 0) (Af (pv 7) (Af (pv 7) (Af (pv 5) Aa rfl) rfl) rfl)))))))))),?_⟩
  cases ko with
  | none =>
   have hpl:place<=(Bq ds ds.length (-1)).length:=by
    obtain ⟨_,_,h3,h4,_⟩:=hG
    rw [<- h4]
    exact Rg h3
   dsimp only [Ng]
   k_is
   refine Bz (fun _=>?_) (fun hc=>absurd rfl hc)
   k_is
   refine ⟨x,dx,_,rfl,hx,rfl,?_⟩
   k_is
   refine ⟨x,ls,ds,rfl,hS.sh,hT,hD,hrow,fun H1 s1=>?_⟩
   k_is
   refine ⟨place,0,_,rfl,by omega,by omega,?_⟩
   k_is
   refine ⟨l,es,rfl,s1.k hla,hDe,hes,fun H2 s2=>?_⟩
   have s12:=s1.then s2
   k_is
   refine ⟨x,dx,_,rfl,s12.k hx,rfl,?_⟩
   k_is
   refine ⟨x,ls,rfl,hS.sh.kp s12.kp,?_⟩
   rw [hrow,hrl,Nat.mul_div_cancel_left _ (by decide:0<2)]
   k_is
   refine ⟨l,_,rfl,.inl (SqL.of (s12.k hla)),?_⟩
   rw [List.length_map,Au]
   k_is
   refine Bz (fun hc=>absurd hc (by omega)) (fun _=>?_)
   k_is
   refine Bz (fun _=>?_) (fun hc=>absurd rfl hc)
   k_is
   refine ⟨x,ac,dx,_,.ref r,rfl,s12.k hx,Z.cl,Z.n_pairs,rfl,?_⟩
   k_is
   refine ⟨r,dp,_,rfl,s12.k hp',rfl,?_⟩
   k_is
   refine ⟨r,ls,0,place,2*a-off,rfl,(hR.kp Lv).kp s12.kp,s12.ok,g1,by rw [hrow];exact g2,by rw [hrow];exact g3,by rw [hrow];exact g4,fun H4 s4=>?_⟩
   have s14:=s12.trans s4
   k_is
   refine ⟨x,dx,_,rfl,s14.k hx,rfl,?_⟩
   k_is
   refine ⟨x,e,ls,prs,2*a-off,2*a-off,A5 es,rfl,hS.kp s14.kp,s14.ok,Nat.le_refl _,by rw [hrow];exact g2,by rw [hrow,hrl,hel];omega,hl,hpr,fun f b H5 hN hS5 s5 hA5=>?_⟩
   exact q f b H5 (by rw [<- hel];exact hN) (fin f b hN) hS5 ((SmE.of s14).trans s5) (hA5.kp s14.kp)
  | some k =>
   have hk:k<ds.length:=hG.1
   have hpl:place<=(Bq ds ds.length k).length:=by
    obtain ⟨_,_,_,h3,h4,h5,_⟩:=hG
    rw [<- h5,Lk hD hk]
    exact Rg h4
   dsimp only [Ng]
   k_is
   refine Bz (fun hc=>by cases hc) (fun _=>?_)
   k_is
   refine ⟨x,dx,_,rfl,hx,rfl,?_⟩
   k_is
   refine ⟨x,ls,ds,k,rfl,hS.sh,hT,hD,hrow,hk,fun H1 s1=>?_⟩
   k_is
   refine ⟨place,0,_,rfl,by omega,by omega,?_⟩
   k_is
   refine ⟨l,es,rfl,s1.k hla,hDe,hes,fun H2 s2=>?_⟩
   have s12:=s1.then s2
   k_is
   refine ⟨x,dx,_,rfl,s12.k hx,rfl,?_⟩
   k_is
   refine ⟨x,ls,rfl,hS.sh.kp s12.kp,?_⟩
   rw [hrow,hrl,Nat.mul_div_cancel_left _ (by decide:0<2)]
   k_is
   refine ⟨l,_,rfl,.inl (SqL.of (s12.k hla)),?_⟩
   rw [List.length_map,Au]
   k_is
   refine Bz (fun hc=>absurd hc (by omega)) (fun _=>?_)
   k_is
   refine Bz (fun hc=>by cases hc) (fun _=>?_)
   k_is
   refine ⟨x,dx,_,rfl,s12.k hx,rfl,?_⟩
   k_is
   refine ⟨x,ls,ds,k,rfl,hS.sh.kp s12.kp,s12.ok,hD,hrow,hk,fun H3 s3=>?_⟩
   have s13:=s12.trans s3
   k_is
   refine ⟨x,ac,dx,_,.ref r,rfl,s13.k hx,Z.cl,Z.n_pairs,rfl,?_⟩
   k_is
   refine ⟨r,dp,_,rfl,s13.k hp',rfl,?_⟩
   k_is
   refine ⟨r,ls,2*k-dAt ds k+1,place,2*a-off,by rw [show ((2*k-dAt ds k+1:Nat):Int)=((2*k-dAt ds k:Nat):Int)+1 by omega];rfl,(hR.kp Lv).kp s13.kp,s13.ok,g1,by rw [hrow];exact g2,by rw [hrow];exact g3,by rw [hrow];exact g4,fun H4 s4=>?_⟩
   have s14:=s13.trans s4
   k_is
   refine ⟨x,dx,_,rfl,s14.k hx,rfl,?_⟩
   k_is
   refine ⟨x,e,ls,prs,2*a-off,2*a-off,A5 es,rfl,hS.kp s14.kp,s14.ok,Nat.le_refl _,by rw [hrow];exact g2,by rw [hrow,hrl,hel];omega,hl,hpr,fun f b H5 hN hS5 s5 hA5=>?_⟩
   exact q f b H5 (by rw [<- hel];exact hN) (fin f b hN) hS5 ((SmE.of s14).trans s5) (hA5.kp s14.kp)
def Vz (K:PySem.W.Frag):Sp:=fun vs H Q _=>∃ (a:Addr) (ns:List Int) (k:Nat),vs=[.ref a,.int k]/\SqL K H a (ns.map V.int)/\∀ c:Int,Q (.int c) H
theorem Sv {f:Addr}{fd:FuncData}(F:Fun K "_law_cell_at" "_law_cell_at" Ih f fd)(T:Txt K mg):A9 P w K mg base CX0 1 f fd ["_law_script","_law_k"] (Vz K):=by
 refine F.ok R7 (fun vs H Q E h=>?_) (fun cdv A outer s H vs Q E hr h=>?_)
 ·obtain ⟨a,ns,k,rfl,_⟩:=h
  rfl
 ·obtain ⟨a,ns,k,rfl,hS,q⟩:=h
  refine ⟨_,(Ab (B3 (Av Fy (pv 1) (As Ar (by rfl) T.n_len Bs (Af (pv 0) Aa rfl)) (Ax _)) (Ai (At (Bd A8 (pv 0) (pv 1) (fun _ _=>rfl))))
   Ba)
   (Ai (At Aj))),?_⟩
  k_is
  refine ⟨a,_,rfl,.inl hS,?_⟩
  k_is
  rw [List.length_map]
  refine Bz (fun hb=>?_) (fun hb=>?_)
  ·k_is
   have hk:k<ns.length:=by omega
   refine Bg hS (v:=.int ns[k]) ?_ (q _)
   refine Bc ?_
   rw [List.getElem?_map,List.getElem?_eq_getElem hk]
   rfl
  ·k_is
   exact q 0
def Pu:Sp:=fun vs H Q _=>∃ c k:Int,vs=[.int c,.int k]/\0<=k/\k<=1000/\∀ r:Int,0<=r->r<2147483587->Q (.int r) H
theorem Vm {f:Addr}{fd:FuncData}(F:Fun K "_law_mixed" "_law_mixed" K0 f fd)(T:Txt K mg):A9 P w K mg base CX0 1 f fd ["_law_cell","_law_k"] Pu:=by
 refine F.ok M6 (fun vs H Q E h=>?_) (fun cdv A outer s H vs Q E hr h=>?_)
 ·obtain ⟨c,k,rfl,_⟩:=h
  rfl
 ·obtain ⟨c,k,rfl,h0,h1,q⟩:=h
  refine ⟨_,(Ab (Aq (i:=2) M6.nd rfl (Or.inl rfl) (Am Ea (Am Ei (Am A7 (Am Ea (pv 0) Aj) Aj) (Am A7 Aj (Am Ei (Am Ei Aj (pv 1)) (pv 1)))) Aj))
   (Ai (At (Am Ea (Am Ei (Am A7 (pv 2) (Am Ei Aj (pv 1))) (Am A7 Aj (Am Ei Aj (pv 1)))) Aj)))),?_⟩
  k_is
  refine Sl (by omega) (by omega) ?_
  k_is
  have b1:=Int.emod_nonneg c (show (2147483647:Int)≠0 by decide)
  have b2:=Int.emod_lt_of_pos c (show (0:Int)<2147483647 by decide)
  refine jM (by omega) (by omega) ?_
  k_is
  refine Sl (by omega) (by omega) ?_
  k_is
  exact q _ (Int.emod_nonneg _ (by decide)) (Int.emod_lt_of_pos _ (by decide))
def Rk (K:PySem.W.Frag):Sp:=fun vs H Q _=>∃ (a:Addr) (ns:List Int) (k:Nat) (m:Int),vs=[.ref a,.int k,.int m]/\SqL K H a (ns.map V.int)/\0<=m/\m<=100/\∀ p (ds:List Int) H',An H H'->H p=none->H' p=some (.lst (ds.map V.int))->ds.length=m.toNat->Q (.ref p) H'
theorem Ti {f:Addr}{fd:FuncData}(F:Fun K "_law_digits" "_law_digits" Ka f fd)(T:Txt K mg)(ax:Cal P w K mg base "_law_cell_at" 1 ["_law_script","_law_k"] (Vz K))(ay:Cal P w K mg base "_law_mixed" 1 ["_law_cell","_law_k"] Pu) :
  A9 P w K mg base CX0 2 f fd ["_law_script","_law_at","_law_many"] (Rk K):=by
 refine F.ok Ep (fun vs H Q E h=>?_) (fun cdv A outer s H vs Q E hr h=>?_)
 ·obtain ⟨a,ns,k,m,rfl,_⟩:=h
  rfl
 ·obtain ⟨a,ns,k,m,rfl,hS,h0,h1,q⟩:=h
  refine ⟨_,(Ab (Aq (i:=3) Ep.nd rfl (Or.inl rfl) (Am Ei (As kL (by rfl) T.n_abs sP (Af (Bb ax (hr.mono (by decide:1<=_)) (Af (pv 0) (Af (Am A7 (pv 1) Aj) Aa rfl) rfl)) Aa rfl)) (Am Be Aj (Am Ea (Bb ax (hr.mono (by decide:1<=_)) (Af (pv 0) (Af (pv 1) Aa rfl) rfl)) Aj))))
   (Ab (Aq (i:=4) Ep.nd rfl (Or.inl rfl) (Br Aa))
   (Ab (Dn PassesOwn.never rfl (E9 rfl T.n_range (Af (pv 2) Aa rfl)) (Bt (i:=5) Ep.nd rfl (Or.inl rfl))
   (Ai (B3 (Av Mb (pv 3) Aj (Ax _)) (Ab (Bl (Ds PySem.F.plainAttrs_list PySem.F.slot_list_append PySem.F.type_list_append B7 (pv 4) (Af (Am Ea (pv 3) Aj) Aa rfl)))
   (Ai (Aq (i:=3) Ep.nd rfl (Or.inl rfl) (Am Dv (pv 3) Aj))))
   (Ai (Bl (Ds PySem.F.plainAttrs_list PySem.F.slot_list_append PySem.F.type_list_append B7 (pv 4) (Af (Am Ea (Bb ay (hr.mono (by decide:1<=_)) (Af (Bb ax (hr.mono (by decide:1<=_)) (Af (pv 0) (Af (Am A7 (Am A7 (pv 1) Aj) (Am Ea (pv 5) Aj)) Aa rfl) rfl)) (Af (pv 5) Aa rfl) rfl)) Aj) Aa rfl)))))))
   (Ai (At (pv 4)))))),?_⟩
  k_is
  refine ⟨a,ns,k+1,rfl,hS,fun c1=>?_⟩
  k_is
  refine ⟨_,rfl,?_⟩
  k_is
  refine ⟨a,ns,k,rfl,hS,fun c2=>?_⟩
  k_is
  refine Sl (by omega) (by omega) ?_
  k_is
  refine ⟨Nat.zero_le _,fun p hp=>?_⟩
  k_is
  refine ⟨m,rfl,by omega,by omega,?_⟩
  have s0:An H (upd H p (.lst [])):=Al hp
  have push:∀ {H1:Hp} {o:HO},An H H1->An H (upd H1 p o):=fun s1 b u e=>by rw [Aw (Ap e hp)];exact s1 _ _ e
  have z1:∀ {l:List Int} {i:Nat},l.length=i->i<m.toNat->(l.map V.int).length<sizeLine:=fun e hi=>by
   rw [List.length_map,e]
   exact Lw (by omega)
  refine Lu (fun i σ H1=>∃ (ds:List Int) (x:Int) (v5:Option V),σ=[some (.ref a),some (.int k),some (.int m),some (.int x),some (.ref p),v5]/\ds.length=i/\H1 p=some (.lst (ds.map V.int))/\An H H1) ⟨[],_,_,rfl,rfl,Ae,s0⟩ ?_ ?_
  ·rintro i σ H1 hi ⟨ds,x,v5,rfl,hd,hH,sm⟩
   k_is
   refine Bz (fun hb=>?_) (fun hb=>?_)
   ·k_is
    refine ⟨.inl ⟨rfl,_,SqL.of hH⟩,?_⟩
    k_is
    refine B9 hH (z1 hd hi) ?_
    k_is
    exact ⟨ds++[x%64],_,_,rfl,by rw [List.length_append,hd];rfl,by rw [Ae,List.map_append];rfl,push sm⟩
   ·k_is
    refine ⟨.inl ⟨rfl,_,SqL.of hH⟩,?_⟩
    k_is
    refine ⟨a,ns,k+1+i%9,?_,sm.seq hS,fun c3=>?_⟩
    ·rw [show (k:Int)+1+(0+(i:Int))%9=((k+1+i%9:Nat):Int) by omega]
     rfl
    k_is
    refine ⟨c3,_,rfl,by omega,by omega,fun r _ _=>?_⟩
    k_is
    refine B9 hH (z1 hd hi) ?_
    k_is
    exact ⟨ds++[r%64],_,_,rfl,by rw [List.length_append,hd];rfl,by rw [Ae,List.map_append];rfl,push sm⟩
  ·rintro σ H1 ⟨ds,x,v5,rfl,hd,hH,sm⟩
   k_is
   exact q p ds H1 sm hp hH hd
def bV:Sp:=fun vs H Q _=>∃ (a:Addr) (gs:List Int),vs=[.ref a]/\H a=some (.lst (gs.map V.int))/\gs.length<=1000/\∀ p (ds:List Nat) H',An H H'->H p=none->H' p=some (.lst ((A0 ds).map V.int))->Dok ds->ds.length=gs.length->Q (.ref p) H'
theorem pH (xs:List V)(m:Nat):La xs none (some (m:Int))=xs.take m:=by
 unfold La
 rw [HT.sIx_nat]
 show (xs.drop 0).take (min m xs.length-0)=xs.take m
 rw [List.drop_zero,Nat.sub_zero]
 by_cases h:m<=xs.length
 ·rw [Nat.min_eq_left h]
 ·rw [Nat.min_eq_right (by omega),List.take_of_length_le (Nat.le_refl _),List.take_of_length_le (by omega)]
theorem Ys {f:Addr}{fd:FuncData}(F:Fun K "_law_wood" "_law_wood" Mn f fd)(T:Txt K mg):A9 P w K mg base CX0 1 f fd ["_law_digits_here"] bV:=by
 refine F.ok Fe (fun vs H Q E h=>?_) (fun cdv A outer s H vs Q E hr h=>?_)
 ·obtain ⟨a,gs,rfl,_⟩:=h
  rfl
 ·obtain ⟨a,gs,rfl,ha,hn,q⟩:=h
  refine ⟨_,(Ab (Aq (i:=1) Fe.nd rfl (Or.inl rfl) (Br Aa))
   (Ab (Aq (i:=2) Fe.nd rfl (Or.inl rfl) (Br Aa))
   (Ab (Dn PassesOwn.never rfl (E9 rfl T.n_range (Af (As Ar (by rfl) T.n_len Bs (Af (pv 0) Aa rfl)) Aa rfl)) (Bt (i:=3) Fe.nd rfl (Or.inl rfl))
   (Ab (Aq (i:=2) Fe.nd rfl (Or.inl rfl) (Ca Db (pv 2) Ed (B8 (Am Be (As Ar (by rfl) T.n_len Bs (Af (pv 2) Aa rfl)) (Am Ea (Bd A8 (pv 0) (pv 3) (fun _ _=>rfl)) (Am A7 (As Ar (by rfl) T.n_len Bs (Af (pv 2) Aa rfl)) Aj))))))
   (Ab (Bl (Ds PySem.F.plainAttrs_list PySem.F.slot_list_append PySem.F.type_list_append B7 (pv 1) (Af (Bd A8 (Am F5 (Br (Af (E8 C5 Aj) Aa rfl)) (pv 2)) (E8 C5 Aj) (fun _ _=>rfl)) Aa rfl)))
   (Ai (Aq (i:=2) Fe.nd rfl (Or.inl rfl) (Am F5 (pv 2) (Br (Af (pv 3) Aa rfl))))))))
   (Ai (At (pv 1)))))),?_⟩
  k_is
  refine ⟨Nat.zero_le _,fun p hp=>?_⟩
  k_is
  refine ⟨Nat.zero_le _,fun p0 hp0=>?_⟩
  have t0:=Al (o:=.lst []) hp
  have t1:=Al (o:=.lst []) hp0
  k_is
  refine ⟨a,_,rfl,.inl (SqL.of (t1 _ _ (t0 _ _ ha))),?_⟩
  k_is
  rw [List.length_map]
  refine ⟨_,rfl,by omega,by omega,?_⟩
  rw [Int.toNat_natCast]
  refine Lu (fun k σ H1=>(∃ (q:Addr) (ds:List Nat) (v:Option V),σ=[some (.ref a),some (.ref p),some (.ref q),v]/\Dok ds/\ds.length=k/\H1 p=some (.lst ((A0 ds).map V.int))/\H1 q=some (.lst ((way ds k).tail.map V.int))/\p≠q)/\An H H1)
   ⟨⟨p0,[],_,rfl,(fun k hk=>by cases hk),rfl,t1 _ _ Ae,Ae,Ap Ae hp0⟩,t0.trans t1⟩ ?_ ?_
  ·rintro k σ H1 hk ⟨⟨q1,ds,v,rfl,hD,hl,hp1,hq1,hne⟩,s1⟩
   have hw:=Cj hD k (by omega)
   have hh:=X9 hD (k:=k) (by omega)
   have hok:=Lf hD k (by omega)
   have hwt:(way ds k).tail.length=opn ds k:=by rw [List.length_tail];omega
   k_is
   refine ⟨q1,_,rfl,.inl (SqL.of hq1),?_⟩
   k_is
   rw [List.length_map,hwt]
   obtain ⟨g,hg⟩:∃ g,gs[k]?=some g:=⟨gs[k],List.getElem?_eq_getElem hk⟩
   refine Bg (SqL.of (s1 _ _ ha)) (v:=.int g) ?_ ?_
   ·rw [show (0+(k:Int))=(k:Int) by omega]
    exact Bc (Xr hg)
   k_is
   refine ⟨q1,_,rfl,.inl (SqL.of hq1),?_⟩
   k_is
   rw [List.length_map,hwt]
   refine oM (by omega) ?_
   k_is
   obtain ⟨d,hd,hd1⟩:∃ d:Nat,(opn ds k:Int)-g%((opn ds k:Int)+1)=(d:Int)/\d<=opn ds k:=by
    have e0:=Int.emod_nonneg g (show (opn ds k:Int)+1≠0 by omega)
    have e1:=Int.emod_lt_of_pos g (show 0<(opn ds k:Int)+1 by omega)
    exact ⟨((opn ds k:Int)-g%((opn ds k:Int)+1)).toNat,by omega,by omega⟩
   rw [hd]
   refine ⟨q1,_,rfl,SqL.of hq1,fun q2 h2=>?_⟩
   rw [pH] at *
   rw [<- List.map_take] at *
   have u2:=Al (o:=.lst (((way ds k).tail.take d).map V.int)) h2
   k_is
   refine ⟨.inl ⟨rfl,_,SqL.of (u2 _ _ hp1)⟩,?_⟩
   k_is
   refine ⟨few (by simp),fun q3 h3=>?_⟩
   have u3:=Al (o:=.lst [V.int (-1)]) h3
   k_is
   refine ⟨q3,q2,_,_,rfl,rfl,Ae,u3 _ _ Ae,?_,fun q4 h4=>?_⟩
   ·rw [List.length_map,List.length_take]
    exact few (by simp only [List.length_cons,List.length_nil];omega)
   have ew:[V.int (-1)]++((way ds k).tail.take d).map V.int=((way ds k).take (d+1)).map V.int:=by
    rw [hh]
    rfl
   rw [ew] at *
   have u4:=Al (o:=.lst (((way ds k).take (d+1)).map V.int)) h4
   have hx:(way ds k)[d+1-1]?=some ((way ds k).getD d 0):=by
    rw [Nat.add_sub_cancel]
    unfold List.getD
    rw [List.getElem?_eq_getElem (by omega)]
    rfl
   k_is
   refine Bg (SqL.of Ae) (Ji (by omega) hx) ?_
   k_is
   have u24:=(u2.trans u3).trans u4
   refine B9 (u24 _ _ hp1) ?_ ?_
   ·rw [List.length_map,Au]
    exact Ak (by omega)
   have hpq2:q2≠p:=(Ap hp1 h2).symm
   have hq2':upd (upd (upd (upd H1 q2 (.lst (((way ds k).tail.take d).map V.int))) q3 (.lst [V.int (-1)])) q4 (.lst (((way ds k).take (d+1)).map V.int))) p (.lst ((A0 ds).map V.int++[V.int ((way ds k).getD d 0)])) q2=some (.lst (((way ds k).tail.take d).map V.int)):=by
    rw [Aw hpq2]
    exact u4 _ _ (u3 _ _ Ae)
   have s5:=Cf (o:=.lst ((A0 ds).map V.int++[V.int ((way ds k).getD d 0)])) (s1.trans u24) hp
   have hp5:upd (upd (upd (upd H1 q2 (.lst (((way ds k).tail.take d).map V.int))) q3 (.lst [V.int (-1)])) q4 (.lst (((way ds k).take (d+1)).map V.int))) p (.lst ((A0 ds).map V.int++[V.int ((way ds k).getD d 0)])) p=some (.lst ((A0 ds).map V.int++[V.int ((way ds k).getD d 0)])):=Ae
   generalize upd (upd (upd (upd H1 q2 (.lst (((way ds k).tail.take d).map V.int))) q3 (.lst [V.int (-1)])) q4 (.lst (((way ds k).take (d+1)).map V.int))) p (.lst ((A0 ds).map V.int++[V.int ((way ds k).getD d 0)]))=H5 at *
   k_is
   refine ⟨few (by simp),fun q6 h6=>?_⟩
   have u6:=Al (o:=.lst [V.int (0+(k:Int))]) h6
   refine ⟨q2,q6,_,_,rfl,rfl,u6 _ _ hq2',Ae,?_,fun q7 h7=>?_⟩
   ·rw [List.length_map,List.length_take]
    exact few (by simp only [List.length_cons,List.length_nil];omega)
   have u7:=Al (o:=.lst (((way ds k).tail.take d).map V.int++[V.int (0+(k:Int))])) h7
   k_is
   have hp7:=u7 _ _ (u6 _ _ hp5)
   refine ⟨⟨q7,ds++[d],_,rfl,X6 hD (by rw [hl];exact hd1),by rw [List.length_append,hl];rfl,?_,?_,Ap (u6 _ _ hp5) h7⟩,(s5.trans u6).trans u7⟩
   ·rw [hp7,Ty,List.map_append,hl]
    rfl
   ·have e:=Yg ds d
    rw [hl] at e
    rw [Ae,e,show (0+(k:Int))=(k:Int) by omega]
    have e2:((way ds k).take (d+1)++[(k:Int)]).tail=(way ds k).tail.take d++[(k:Int)]:=by
     rw [hh]
     rfl
    rw [e2,List.map_append]
    rfl
  ·rintro σ H1 ⟨⟨q1,ds,v,rfl,hD,hl,hp1,hq1,hne⟩,s1⟩
   k_is
   exact q p ds H1 s1 hp hp1 hD hl
def Wy:Sp:=fun vs H Q _=>∃ (a:Addr) (ds:List Nat) (t:Nat) (b:Bool),vs=[.ref a,.int t,.bl b]/\H a=some (.lst ((A0 ds).map V.int))/\Dok ds/\t<=12/\0<t/\ds.length<=60/\0<ds.length/\∀ p (es:List Nat) H',An H H'->H' p=some (.lst ((A0 es).map V.int))->Dok es->es.length<=720->0<es.length->Q (.ref p) H'
theorem U0 {f:Addr}{fd:FuncData}(F:Fun K "_law_large" "_law_large" Hw f fd)(T:Txt K mg):A9 P w K mg base CX0 1 f fd ["_law_elders","_law_times","_law_nested"] Wy:=by
 refine F.ok Ee (fun vs H Q E h=>?_) (fun cdv A outer s H vs Q E hr h=>?_)
 ·obtain ⟨a,ds,t,b,rfl,_⟩:=h
  rfl
 ·obtain ⟨a,ds,t,b,rfl,ha,hD,ht,ht0,hdl,hd0,q⟩:=h
  refine ⟨_,(Ab (Aq (i:=3) Ee.nd rfl (Or.inl rfl) (Br Aa))
   (Ab (Dn PassesOwn.never rfl (E9 rfl T.n_range (Af (pv 1) Aa rfl)) (Bt (i:=4) Ee.nd rfl (Or.inl rfl))
   (Ab (Aq (i:=5) Ee.nd rfl (Or.inr rfl) (As Ar (by rfl) T.n_len Bs (Af (pv 3) Aa rfl)))
   (Ab (Aq (i:=6) Ee.nd rfl (Or.inr rfl) (Bd A8 (Br (Af (E8 C5 Aj) (Af (Am Be (pv 5) Aj) Aa rfl) rfl)) (Dl Ff (by rfl) T.n_int Ms (Af (pv 2) Aa rfl)) (fun _ _=>rfl)))
   (Ai (Aq (i:=3) Ee.nd rfl (Or.inl rfl) (Am F5 (pv 3) (G5 rfl Rv (B4 (pv 0)) (fun _ _ _ _=>Co) (fun _ _ _ _=>(Bd (Di K) (Br (Af (Am A7 (pv 0) (pv 1)) (Af (pv 2) Aa rfl) rfl)) (Dl Ff (by rfl) T.n_int Ms (Af (C2 Fy (pv 0) Aj (Ax _)) Aa rfl)) (fun _ _=>rfl))))))))))
   (Ai (At (pv 3))))),?_⟩
  k_is
  refine ⟨Nat.zero_le _,fun p0 hp0=>?_⟩
  have t0:=Al (o:=.lst []) hp0
  k_is
  refine ⟨_,rfl,by omega,by omega,?_⟩
  rw [Int.toNat_natCast]
  refine Lu (fun k σ H1=>(∃ (p:Addr) (A:List Nat) (v4 v5 v6:Option V),σ=[some (.ref a),some (.int t),some (.bl b),some (.ref p),v4,v5,v6]/\Dok A/\A.length=k*ds.length/\H1 p=some (.lst ((A0 A).map V.int)))/\An H H1) ⟨⟨p0,[],_,_,_,rfl,(fun k hk=>by cases hk),by rw [Nat.zero_mul];rfl,Ae⟩,t0⟩ ?_ ?_
  ·rintro k σ H1 hk ⟨⟨p,A,v4,v5,v6,rfl,hA,hAl,hp⟩,s1⟩
   have hAn:A.length<=720:=by
    rw [hAl]
    exact Nat.le_trans (Nat.mul_le_mul (show k<=12 by omega) hdl) (by decide)
   k_is
   refine ⟨p,_,rfl,.inl (SqL.of hp),?_⟩
   k_is
   rw [List.length_map,Au]
   refine ⟨few (by simp),fun q1 h1=>?_⟩
   have u1:=Al (o:=.lst [V.int (-1),V.int ((A.length:Int)-1)]) h1
   k_is
   refine .inr ⟨b,rfl,?_⟩
   obtain ⟨off,top,ho,htop,hix⟩:∃ (off:Nat) (top:Int),off<=opn A A.length/\(way A A.length)[off]?=some top/\atI [V.int (-1),V.int ((A.length:Int)-1)] (if b=true then 1 else 0)=some (V.int top):=by
    cases b with
    | false=>exact ⟨0,-1,Nat.zero_le _,Ci hA _ (Nat.le_refl _),rfl⟩
    | true =>
     by_cases e:A.length=0
     ·refine ⟨0,-1,Nat.zero_le _,Ci hA _ (Nat.le_refl _),?_⟩
      rw [e]
      rfl
     ·exact ⟨opn A A.length,(A.length:Int)-1,Nat.le_refl _,gQ hA (by omega),rfl⟩
   refine Bg (SqL.of Ae) hix ?_
   have hp1:=u1 _ _ hp
   have s2:=s1.trans u1
   generalize upd H1 q1 (.lst [V.int (-1),V.int ((A.length:Int)-1)])=H2 at *
   k_is
   refine ⟨a,rfl,⟨_,SqL.of (s2 _ _ ha)⟩,?_⟩
   refine Fh (SqL.of (s2 _ _ ha)) (fun i=>(((A0 ds).take i).map fun e=>if e<0 then top else e+(A.length:Int)).map V.int) rfl (fun i hi=>?_) (fun i x H3 R A' hx s3 kR kA=>?_) (fun D H3 hDn s3 hl3=>?_)
   ·rw [List.length_map,List.length_map,List.length_take]
    rw [List.length_map,Au] at hi
    exact Lw (by omega)
   ·obtain ⟨e,he,rfl⟩:=Kd hx
    k_is
    refine ⟨few (by simp),fun q3 h3=>?_⟩
    have u3:=Al (o:=.lst [V.int (e+(A.length:Int)),V.int top]) h3
    k_is
    refine .inr ⟨_,rfl,?_⟩
    refine Bg (SqL.of Ae) (v:=.int (if e<0 then top else e+(A.length:Int))) ?_ ?_
    ·by_cases hlt:e<0
     ·rw [decide_eq_true hlt,if_pos hlt]
      rfl
     ·rw [decide_eq_false hlt,if_neg hlt]
      rfl
    k_is
    refine kA _ _ ?_ u3
    rw [List.take_add_one,he,List.map_append,List.map_append]
    rfl
   ·rw [List.length_map,List.take_of_length_le (Nat.le_refl _)] at hl3
    k_is
    refine ⟨p,D,_,_,rfl,rfl,s3 _ _ hp1,hl3,?_,fun q4 h4=>?_⟩
    ·rw [List.length_map,List.length_map,List.length_map,Au,Au]
     exact few (by omega)
    have e4:(A0 A).map V.int++((A0 ds).map fun e=>if e<0 then top else e+(A.length:Int)).map V.int=(A0 (Hm A ds off)).map V.int:=by
     rw [T0 hA hD ho htop,List.map_append]
    rw [e4] at *
    k_is
    refine ⟨⟨q4,Hm A ds off,_,_,_,rfl,eZ hA hD ho,?_,Ae⟩,(s2.trans s3).trans (Al h4)⟩
    rw [Jj,hAl,Nat.succ_mul]
  ·rintro σ H1 ⟨⟨p,A,v4,v5,v6,rfl,hA,hAl,hp⟩,s1⟩
   k_is
   exact q p A H1 s1 hp hA (by rw [hAl];exact Nat.le_trans (Nat.mul_le_mul ht hdl) (by decide)) (by rw [hAl];exact Nat.mul_pos ht0 hd0)
def kB:Sp:=fun vs H Q _=>∃ (a:Addr) (ds:List Nat),vs=[.ref a]/\H a=some (.lst ((A0 ds).map V.int))/\Dok ds/\ds.length<=2000/\∀ H',An H H'->Q (.str (Az (A5 ds))) H'
theorem Zt {f:Addr}{fd:FuncData}(F:Fun K "_law_row" "_law_row" Ob f fd)(T:Txt K mg):A9 P w K mg base CX0 1 f fd ["_law_elders"] kB:=by
 refine F.ok F8 (fun vs H Q E h=>?_) (fun cdv A outer s H vs Q E hr h=>?_)
 ·obtain ⟨a,ds,rfl,_⟩:=h
  rfl
 ·obtain ⟨a,ds,rfl,ha,hD,hn,q⟩:=h
  refine ⟨_,(Ab (Aq (i:=1) F8.nd rfl (Or.inl rfl) Cz)
   (Ab (Aq (i:=2) F8.nd rfl (Or.inl rfl) (Br Aa))
   (Ab (Dn PassesOwn.never rfl (E9 rfl T.n_range (Af (As Ar (by rfl) T.n_len Bs (Af (pv 0) Aa rfl)) Aa rfl)) (Bt (i:=3) F8.nd rfl (Or.inl rfl))
   (Ab (Kw PassesOwn.never (PW.pt (Sz (Av (Ze (Zl hr)) (pv 2) (Br Aa) (Ax _)) (Nk (Av Tu (Bd A8 (pv 2) (E8 C5 Aj) (fun _ _=>rfl)) (Bd A8 (pv 0) (pv 3) (fun _ _=>rfl)) (Ax _)))))
   (Ab (Bl (Z3 PySem.F.plainAttrs_list PySem.F.slot_list_pop PySem.F.type_list_pop cG (pv 2)))
   (Ai (Aq (i:=1) F8.nd rfl (Or.inl rfl) (Am Ge (pv 1) Cz)))))
   (Ab (Bl (Ds PySem.F.plainAttrs_list PySem.F.slot_list_append PySem.F.type_list_append B7 (pv 2) (Af (pv 3) Aa rfl)))
   (Ai (Aq (i:=1) F8.nd rfl (Or.inl rfl) (Am Ge (pv 1) Cz))))))
   (Ai (At (Am Ge (pv 1) (Am U6 Cz (As Ar (by rfl) T.n_len Bs (Af (pv 2) Aa rfl))))))))),?_⟩
  k_is
  refine ⟨Nat.zero_le _,fun p hp=>?_⟩
  have t0:=Al (o:=.lst []) hp
  k_is
  refine ⟨a,_,rfl,.inl (SqL.of (t0 _ _ ha)),?_⟩
  k_is
  rw [List.length_map,Au]
  refine ⟨_,rfl,by omega,by omega,?_⟩
  rw [Int.toNat_natCast]
  refine Lu (fun k σ H1=>(∃ v:Option V,σ=[some (.ref a),some (.str (Az (Km ds k))),some (.ref p),v])/\H1 p=some (.lst ((way ds k).tail.map V.int))/\An H H1) ⟨⟨_,rfl⟩,Ae,t0⟩ ?_ ?_
  ·rintro k σ H1 hk ⟨⟨v,rfl⟩,hp1,s1⟩
   have hw:=Cj hD k (by omega)
   have hh:=X9 hD (k:=k) (by omega)
   have hok:=Lf hD k (by omega)
   have hd:=hD k hk
   have hrl:=Mw hD k (by omega)
   have hea:=E3 hD hk
   have hwt:(way ds k).tail.length=opn ds k:=by rw [List.length_tail];omega
   k_is
   refine Ky (fun σ H2=>∃ m,dAt ds k<=m/\m<=opn ds k/\σ=[some (.ref a),some (.str (Az (Km ds k++List.replicate (opn ds k-m) false))),some (.ref p),some (.int (0+(k:Int)))]/\H2 p=some (.lst (((way ds k).tail.take m).map V.int))/\An H H2) (fun _ H2=>fB H2 p)
    ⟨opn ds k,hd,Nat.le_refl _,by rw [Nat.sub_self,List.replicate_zero,List.append_nil];rfl,by rw [List.take_of_length_le (by omega)];exact hp1,s1⟩ ?_
   rintro z σ H2 ⟨m,hm1,hm2,rfl,hp2,s2⟩ hz
   rw [Mt hp2,List.length_map,List.length_take,hwt,Nat.min_eq_left hm2] at hz
   have out:m=dAt ds k->∀ H3,An H H3->H3 p=some (.lst (((way ds k).tail.take m).map V.int))->Az (Km ds k++List.replicate (opn ds k-m) false)++("1":Str)=Az (Km ds (k+1))/\((way ds k).tail.take m).map V.int++[V.int (0+(k:Int))]=(way ds (k+1)).tail.map V.int:=fun e H3 _ _=>by
    subst e
    constructor
    ·rw [Iu]
     show Az _++Az [true]=_
     rw [Ec,List.append_assoc]
     rfl
    ·show _=((way ds k).take (dAt ds k+1)++[(k:Int)]).tail.map V.int
     have e2:((way ds k).take (dAt ds k+1)++[(k:Int)]).tail=(way ds k).tail.take (dAt ds k)++[(k:Int)]:=by
      rw [hh]
      rfl
     rw [e2,List.map_append,show (0+(k:Int))=(k:Int) by omega]
     rfl
   k_is
   refine ⟨Nat.zero_le _,fun e hE=>?_⟩
   have tE:=Al (o:=.lst []) hE
   have hp3:=tE _ _ hp2
   have s3:=s2.trans tE
   refine gR (ns:=(way ds k).tail.take m) (ms:=[]) (SqL.of hp3) (SqL.of Ae) ?_
   generalize upd H2 e (.lst [])=H3 at *
   k_is
   refine mY (fun hne=>?_) (fun hem=>?_)
   ·have hm0:0<m:=by
     cases m with
     | zero=>exact absurd rfl hne
     | succ m=>omega
    have hx1:(way ds k).tail[m-1]?=some ((way ds k).tail[m-1]'(by omega)):=List.getElem?_eq_getElem _
    generalize (way ds k).tail[m-1]'(by omega)=y at hx1
    have hx2:(way ds k)[m]?=some y:=by
     rw [List.getElem?_tail,show m-1+1=m by omega] at hx1
     exact hx1
    k_is
    refine Bg (SqL.of hp3) (Ji hm0 hx1) ?_
    k_is
    refine Bg (SqL.of (s3 _ _ ha)) (v:=.int (eld ds k)) ?_ ?_
    ·rw [show (0+(k:Int))=(k:Int) by omega]
     exact Bc (Xr (Cp hk))
    k_is
    refine mY (fun h=>?_) (fun h=>?_)
    ·have hmne:m≠dAt ds k:=fun e=>by
      rw [e,hea] at hx2
      exact h (congrArg V.int (Option.some.inj hx2).symm)
     refine Su ?_
     k_is
     refine ⟨.inl ⟨rfl,_,SqL.of hp3⟩,?_⟩
     have hml:m<=(way ds k).tail.length:=by omega
     refine ⟨p,_,.int y,rfl,rfl,hp3,?_,?_⟩
     ·rw [Go hml,Xr (n:=y)]
      rw [List.getElem?_take_of_lt (by omega)]
      exact hx1
     k_is
     rw [On hml]
     refine ⟨_,"0",rfl,rfl,?_,?_⟩
     ·rw [Ay,List.length_append,List.length_replicate]
      exact Nat.le_of_lt (Ak (by rw [show ("0":Str).length=1 by rfl];omega))
     k_is
     refine ⟨⟨m-1,by omega,by omega,?_,Ae,Cf s3 hp⟩,?_⟩
     ·have e:Az (Km ds k++List.replicate (opn ds k-m) false)++("0":Str)=Az (Km ds k++List.replicate (opn ds k-(m-1)) false):=by
       show Az _++Az [false]=_
       rw [Ec,List.append_assoc,show opn ds k-(m-1)=opn ds k-m+1 by omega,List.replicate_succ']
      rw [e]
      rfl
     ·rw [Mt Ae,Go (by omega)]
      omega
    ·have hy:=V.int.inj h
     have hme:m=dAt ds k:=by
      by_cases e:m=dAt ds k
      ·exact e
      ·have:=Ro hD k (dAt ds k) m _ _ (by omega) (by omega) hea hx2
       omega
     k_is
     refine ⟨.inl ⟨rfl,_,SqL.of hp3⟩,?_⟩
     k_is
     refine B9 hp3 ?_ ?_
     ·rw [List.length_map,List.length_take]
      exact Ak (by omega)
     k_is
     refine ⟨_,"1",rfl,rfl,?_,?_⟩
     ·rw [Ay,List.length_append,List.length_replicate]
      exact Nat.le_of_lt (Ak (by rw [show ("1":Str).length=1 by rfl];omega))
     k_is
     obtain ⟨o1,o2⟩:=out hme H3 s3 hp3
     rw [o1,o2]
     exact ⟨⟨_,rfl⟩,Ae,Cf s3 hp⟩
   ·have hme:m=dAt ds k:=by
     have hl0:((way ds k).tail.take m).length=0:=by rw [hem];rfl
     rw [List.length_take,hwt] at hl0
     omega
    k_is
    refine ⟨.inl ⟨rfl,_,SqL.of hp3⟩,?_⟩
    k_is
    refine B9 hp3 ?_ ?_
    ·rw [List.length_map,List.length_take]
     exact Ak (by omega)
    k_is
    refine ⟨_,"1",rfl,rfl,?_,?_⟩
    ·rw [Ay,List.length_append,List.length_replicate]
     exact Nat.le_of_lt (Ak (by rw [show ("1":Str).length=1 by rfl];omega))
    k_is
    obtain ⟨o1,o2⟩:=out hme H3 s3 hp3
    rw [o1,o2]
    exact ⟨⟨_,rfl⟩,Ae,Cf s3 hp⟩
  ·rintro σ H1 ⟨⟨v,rfl⟩,hp1,s1⟩
   have hok:=Lf hD ds.length (Nat.le_refl _)
   have hw:=Cj hD ds.length (Nat.le_refl _)
   have hrl:=Mw hD ds.length (Nat.le_refl _)
   have hwt:(way ds ds.length).tail.length=opn ds ds.length:=by rw [List.length_tail];omega
   k_is
   refine ⟨p,_,rfl,.inl (SqL.of hp1),?_⟩
   k_is
   rw [List.length_map,hwt]
   refine ⟨"0",(opn ds ds.length:Int),rfl,rfl,by omega,by omega,?_,few (by decide),?_⟩
   ·exact Nat.le_of_lt (Ak (by rw [show ("0":Str).length=1 by rfl];omega))
   have e0:Se ("0":Str) ((opn ds ds.length:Int)).toNat=Az (List.replicate (opn ds ds.length) false):=by
    rw [Int.toNat_natCast]
    exact Oq false _
   rw [e0]
   k_is
   refine ⟨_,_,rfl,rfl,?_,?_⟩
   ·rw [Ay,Ay,List.length_replicate]
    exact Nat.le_of_lt (Ak (by omega))
   rw [Ec]
   exact q H1 s1
def Tr:Sp:=fun vs H Q _=>∃ (a:Addr) (ds:List Nat) (k:Nat),vs=[.ref a,.int k]/\H a=some (.lst ((A0 ds).map V.int))/\k<ds.length/\Q (.int (Bj ds k:Nat)) H
theorem bX {f:Addr}{fd:FuncData}(F:Fun K "_law_end" "_law_end" Og f fd)(T:Txt K mg):A9 P w K mg base CX0 1 f fd ["_law_elders","_law_k"] Tr:=by
 refine F.ok Mp (fun vs H Q E h=>?_) (fun cdv A outer s H vs Q E hr h=>?_)
 ·obtain ⟨a,ds,k,rfl,_⟩:=h
  rfl
 ·obtain ⟨a,ds,k,rfl,ha,hk,q⟩:=h
  obtain ⟨e1,e2,e3,e4⟩:=Bx (ds:=ds) hk
  refine ⟨_,(Ab (Aq (i:=2) Mp.nd rfl (Or.inl rfl) (Am A7 (pv 1) Aj))
   (Ab (Kw PassesOwn.never (PW.pt (Sz (Av Fy (pv 2) (As Ar (by rfl) T.n_len Bs (Af (pv 0) Aa rfl)) (Ax _)) (Nk (Av O5 (Bd A8 (pv 0) (pv 2) (fun _ _=>rfl)) (pv 1) (Ax _)))))
   (Ai (Aq (i:=2) Mp.nd rfl (Or.inl rfl) (Am A7 (pv 2) Aj))))
   (Ai (At (pv 2))))),?_⟩
  k_is
  refine Ky (fun σ H'=>H'=H/\∃ j:Nat,σ=[some (.ref a),some (.int k),some (.int (j:Nat))]/\k<j/\j<=Bj ds k) (fun σ _=>match σ with | [_,_,some (.int j)]=>Bj ds k-j.toNat | _=>0) ⟨rfl,k+1,by rw [show ((k+1:Nat):Int)=(k:Int)+1 by omega];rfl,by omega,by omega⟩ ?_
  rintro μ σ H' ⟨rfl,j,rfl,h1,h2⟩ hμ
  have hμ:Bj ds k-j=μ:=by rw [<- hμ];rfl
  k_is
  refine ⟨a,_,rfl,.inl (SqL.of ha),?_⟩
  rw [List.length_map,Au]
  k_is
  refine Bz (fun g=>?_) (fun g=>?_)
  ·have g:j<ds.length:=by omega
   k_is
   refine Bg (SqL.of ha) (v:=.int (eld ds j)) (Bc (by rw [List.getElem?_map,Cp g];rfl)) ?_
   k_is
   by_cases hj:j<Bj ds k
   ·have:=e3 j h1 hj
    refine Bz (fun _=>?_) (fun z=>absurd this z)
    refine Su ?_
    k_is
    refine ⟨⟨rfl,j+1,by rw [show ((j+1:Nat):Int)=(j:Int)+1 by omega];rfl,by omega,by omega⟩,?_⟩
    show Bj ds k-((j:Int)+1).toNat<μ
    omega
   ·obtain rfl:j=Bj ds k:=by omega
    have:=e4 g
    refine Bz (fun z=>absurd z (by omega)) (fun _=>?_)
    k_is
    exact q
  ·obtain rfl:j=Bj ds k:=by omega
   k_is
   exact q
def Os:Sp:=fun vs H Q _=>∃ (a:Addr) (ds:List Nat) (k:Nat),vs=[.ref a,.int k]/\H a=some (.lst ((A0 ds).map V.int))/\Dok ds/\k<ds.length/\ds.length<=2000/\∀ p H',An H H'->H p=none->H' p=some (.lst ((A0 (Us ds k)).map V.int))->Q (.ref p) H'
theorem Sy {f:Addr}{fd:FuncData}(F:Fun K "_law_without" "_law_without" Gk f fd)(T:Txt K mg)(am:Cal P w K mg base "_law_end" 1 ["_law_elders","_law_k"] Tr):A9 P w K mg base CX0 2 f fd ["_law_elders","_law_k"] Os:=by
 refine F.ok Li (fun vs H Q E h=>?_) (fun cdv A outer s H vs Q E hr h=>?_)
 ·obtain ⟨a,ds,k,rfl,_⟩:=h
  rfl
 ·obtain ⟨a,ds,k,rfl,ha,hD,hk,hn,q⟩:=h
  obtain ⟨e1,e2,e3,e4⟩:=Bx (ds:=ds) hk
  refine ⟨_,(Ab (Aq (i:=2) Li.nd rfl (Or.inr rfl) (Bb am (hr.mono (by decide:1<=_)) (Af (pv 0) (Af (pv 1) Aa rfl) rfl)))
   (Ai (At (Am F5 (Ca Db (pv 0) Ed (B8 (pv 1))) (G5 rfl Ny (B4 (Ca Db (pv 0) (B8 (pv 2)) Ed)) (fun _ _ _ _=>Co) (fun _ _ _ _=>(Bd (Di K) (Br (Af (pv 0) (Af (Am A7 (Am Be (pv 0) (pv 1)) (pv 2)) Aa rfl) rfl)) (Dl Ff (by rfl) T.n_int Ms (Af (C2 O5 (pv 0) (pv 2) (Ax _)) Aa rfl)) (fun _ _=>rfl)))))))),?_⟩
  k_is
  refine ⟨a,ds,k,rfl,ha,hk,?_⟩
  k_is
  refine ⟨a,_,rfl,SqL.of ha,fun D1 hD1=>?_⟩
  rw [Yv] at *
  have u1:=Al (o:=.lst (((A0 ds).map V.int).take k)) hD1
  have h1:upd H D1 (.lst (((A0 ds).map V.int).take k)) D1=some (.lst (((A0 ds).map V.int).take k)):=Ae
  have ha1:=u1 _ _ ha
  generalize upd H D1 (.lst (((A0 ds).map V.int).take k))=H1 at *
  k_is
  refine ⟨a,_,rfl,SqL.of ha1,fun D2 hD2=>?_⟩
  rw [Ln] at *
  have u2:=Al (o:=.lst (((A0 ds).map V.int).drop (Bj ds k))) hD2
  have h2:upd H1 D2 (.lst (((A0 ds).map V.int).drop (Bj ds k))) D2=some (.lst (((A0 ds).map V.int).drop (Bj ds k))):=Ae
  have h12:=u2 _ _ h1
  have s2:=u1.trans u2
  generalize upd H1 D2 (.lst (((A0 ds).map V.int).drop (Bj ds k)))=H2 at *
  have hl:(((A0 ds).map V.int).drop (Bj ds k)).length=ds.length-Bj ds k:=by rw [List.length_drop,List.length_map,Au]
  k_is
  refine ⟨D2,rfl,⟨_,SqL.of h2⟩,?_⟩
  refine Fh (SqL.of h2) (fun i=>((((A0 ds).drop (Bj ds k)).take i).map fun x=>if (k:Int)<=x then x-(Bj ds k:Int)+(k:Int) else x).map V.int) rfl (fun i hi=>?_) (fun i v H3 R A hv s3 _ hA=>?_) (fun D3 H3 hD3 s3 h3=>?_)
  ·rw [List.length_map,List.length_map,List.length_take]
   rw [hl] at hi
   exact Ak (by omega)
  ·rw [<- List.map_drop] at hv
   obtain ⟨y,hy,rfl⟩:=Kd hv
   k_is
   refine ⟨few (by simp),fun q3 h3=>?_⟩
   have u3:=Al (o:=.lst [V.int y,V.int (y-(Bj ds k:Int)+(k:Int))]) h3
   k_is
   refine .inr ⟨_,rfl,?_⟩
   refine Bg (SqL.of Ae) (v:=.int (if (k:Int)<=y then y-(Bj ds k:Int)+(k:Int) else y)) ?_ ?_
   ·by_cases hlt:(k:Int)<=y
    ·rw [decide_eq_true hlt,if_pos hlt]
     rfl
    ·rw [decide_eq_false hlt,if_neg hlt]
     rfl
   k_is
   refine hA _ _ ?_ u3
   rw [List.take_add_one,hy,List.map_append,List.map_append]
   rfl
  ·rw [hl,List.take_of_length_le (by rw [List.length_drop,Au];exact Nat.le_refl _)] at h3
   have h13:=s3 _ _ h12
   have s13:=s2.trans s3
   k_is
   refine ⟨D1,D3,_,_,rfl,rfl,h13,h3,?_,fun D4 hD4=>?_⟩
   ·simp only [List.length_map,List.length_take,List.length_drop,Au]
    exact Nat.le_of_lt (Ak (by omega))
   refine q D4 _ (s13.trans (Al hD4)) (s13.free hD4) ?_
   rw [Ae,jX hD hk,List.map_append,List.map_take]
theorem mT {ds:List Nat}{ko:Option Nat}{place a off:Nat}{top:Int}(g:GAt ds ko place a off top):top=kI ko:=by
 cases ko with
 | none=>exact g.2.1
 | some k=>exact g.2.2.1
def W3:Sp:=fun vs H Q _=>∃ (a:Addr) (ds:List Nat) (ko:Option Nat) (place:Nat),vs=[.ref a,.int (kI ko),.int place]/\H a=some (.lst ((A0 ds).map V.int))/\Dok ds/\ds.length<=2000/\(∀ k,ko=some k->k<ds.length)/\place<=(Bq ds ds.length (kI ko)).length/\∀ at' off top H',GAt ds ko place at' off top->An H H'->Q (.int (at':Nat)) H'
theorem X1 {f:Addr}{fd:FuncData}(F:Fun K "_law_spot" "_law_spot" J5 f fd)(T:Txt K mg)(am:Cal P w K mg base "_law_end" 1 ["_law_elders","_law_k"] Tr):A9 P w K mg base CX0 2 f fd ["_law_elders","_law_k","_law_place_here"] W3:=by
 refine F.ok O9 (fun vs H Q E h=>?_) (fun cdv A outer s H vs Q E hr h=>?_)
 ·obtain ⟨a,ds,ko,place,rfl,_⟩:=h
  rfl
 ·obtain ⟨a,ds,ko,place,rfl,ha,hD,hn,hko,hpl,q⟩:=h
  refine ⟨_,(Ab (Io (i:=3) rfl S7 O9.nd rfl rfl (E9 rfl T.n_range (Af (As Ar (by rfl) T.n_len Bs (Af (pv 0) Aa rfl)) Aa rfl)) (fun _ _ _ _=>Gf (Av Ew (Bd (Di K) (pv 1) (pv 0) (fun _ _=>rfl)) (pv 2) (Ax _))) (fun _ _ _ _=>(pv 0)))
   (Ab (B3 (Av Fy (pv 2) (As Ar (by rfl) T.n_len Bs (Af (pv 3) Aa rfl)) (Ax _)) (Ai (At (Bd A8 (pv 3) (pv 2) (fun _ _=>rfl))))
   Ba)
   (Ab (B3 (Av Fy (pv 1) Aj (Ax _)) (Ai (At (As Ar (by rfl) T.n_len Bs (Af (pv 0) Aa rfl))))
   Ba)
   (Ai (At (Bb am (hr.mono (by decide:1<=_)) (Af (pv 0) (Af (pv 1) Aa rfl) rfl))))))),?_⟩
  k_is
  refine ⟨a,_,rfl,.inl (SqL.of ha),?_⟩
  rw [List.length_map,Au]
  k_is
  refine ⟨_,rfl,by omega,by omega,?_⟩
  rw [Int.toNat_natCast]
  refine G7 (fun i=>(Bq ds i (kI ko)).map fun j:Nat=>V.int (j:Nat)) rfl (fun i hi=>?_) (fun i H1 R A hi s1 hR hA=>?_) (fun D1 H1 hD1 s1 h1=>?_)
  ·rw [List.length_map]
   have:=P1 ds i (kI ko)
   exact Ak (by omega)
  ·k_is
   refine Bg (SqL.of (s1 _ _ ha)) (v:=.int (eld ds i)) (by rw [Int.zero_add];exact Bc (by rw [List.getElem?_map,Cp hi];rfl)) ?_
   k_is
   refine Bz (fun e=>?_) (fun e=>?_)
   ·k_is
    refine hA _ _ ?_ (An.refl _)
    rw [Fn (V.int.inj e),List.map_append,Int.zero_add]
    rfl
   ·refine hR ?_ _ (An.refl _)
    rw [G1 (fun z=>e (congrArg V.int z))]
  k_is
  refine ⟨D1,_,rfl,.inl (SqL.of h1),?_⟩
  rw [List.length_map]
  k_is
  refine Bz (fun g=>?_) (fun g=>?_)
  ·have g:place<(Bq ds ds.length (kI ko)).length:=by omega
   have ej:(Bq ds ds.length (kI ko))[place]?=some ((Bq ds ds.length (kI ko))[place]):=List.getElem?_eq_getElem g
   obtain ⟨j1,j2,j3⟩:=P3 ej
   k_is
   refine Bg (SqL.of h1) (v:=.int ((Bq ds ds.length (kI ko))[place]:Nat)) (Bc (by rw [List.getElem?_map,ej];rfl)) ?_
   k_is
   generalize (Bq ds ds.length (kI ko))[place]=j at *
   cases ko with
   | none=>exact q j 0 (-1) H1 ⟨rfl,rfl,by omega,j1,.inr ⟨j2,j3⟩⟩ s1
   | some k =>
    have hk:=hko k rfl
    obtain ⟨i1,i2⟩:=Vb hD hk j2 j3
    exact q j (dAt ds k+1) k H1 ⟨hk,rfl,rfl,i1,by omega,j1,.inr ⟨i2,j3⟩⟩ s1
  ·have g:place=(Bq ds ds.length (kI ko)).length:=by omega
   k_is
   cases ko with
   | none =>
    refine Bz (fun _=>?_) (fun z=>absurd (show (-1:Int)<0 by decide) z)
    k_is
    refine ⟨a,_,rfl,.inl (SqL.of (s1 _ _ ha)),?_⟩
    rw [List.length_map,Au]
    exact q ds.length 0 (-1) H1 ⟨rfl,rfl,Nat.le_refl _,g.symm,.inl rfl⟩ s1
   | some k =>
    have hk:=hko k rfl
    obtain ⟨i1,i2,_⟩:=Bx (ds:=ds) hk
    refine Bz (fun z=>absurd z (by show ¬ (k:Int)<0;omega)) (fun _=>?_)
    k_is
    refine ⟨a,ds,k,rfl,s1 _ _ ha,hk,?_⟩
    exact q (Bj ds k) (dAt ds k+1) k H1 ⟨hk,rfl,rfl,i1,Nat.le_refl _,by rw [<- Lk hD hk];exact g.symm,.inl rfl⟩ s1
def Zd:Sp:=fun vs H Q _=>∃ (a b:Addr) (ds es:List Nat) (ko:Option Nat) (place:Nat),vs=[.ref a,.int (kI ko),.int place,.ref b]/\H a=some (.lst ((A0 ds).map V.int))/\Dok ds/\ds.length<=2000/\(∀ k,ko=some k->k<ds.length)/\place<=(Bq ds ds.length (kI ko)).length/\H b=some (.lst ((A0 es).map V.int))/\Dok es/\es.length<=1000 /\
 ∀ at' off top p H',GAt ds ko place at' off top->An H H'->H p=none->H' p=some (.lst ((A0 (Ii ds es at' off)).map V.int))->Q (.ref p) H'
theorem Xp {f:Addr}{fd:FuncData}(F:Fun K "_law_with" "_law_with" Hf f fd)(T:Txt K mg)(aT:Cal P w K mg base "_law_spot" 2 ["_law_elders","_law_k","_law_place_here"] W3):A9 P w K mg base CX0 3 f fd ["_law_elders","_law_k","_law_place_here","_law_wood_here"] Zd:=by
 refine F.ok Lh (fun vs H Q E h=>?_) (fun cdv A outer s H vs Q E hr h=>?_)
 ·obtain ⟨a,b,ds,es,ko,place,rfl,_⟩:=h
  rfl
 ·obtain ⟨a,b,ds,es,ko,place,rfl,ha,hD,hn,hko,hpl,hb,hDe,hne,q⟩:=h
  refine ⟨_,(Ab (Aq (i:=4) Lh.nd rfl (Or.inr rfl) (Bb aT (hr.mono (by decide:2<=_)) (Af (pv 0) (Af (pv 1) (Af (pv 2) Aa rfl) rfl) rfl)))
   (Ab (Io (i:=5) rfl Tn Lh.nd rfl rfl (B4 (pv 3)) (fun _ _ _ _=>Co) (fun _ _ _ _=>(Bd (Di K) (Br (Af (Am A7 (pv 0) (pv 1)) (Af (pv 2) Aa rfl) rfl)) (Dl Ff (by rfl) T.n_int Ms (Af (C2 Fy (pv 0) Aj (Ax _)) Aa rfl)) (fun _ _=>rfl))))
   (Ai (At (Am F5 (Am F5 (Ca Db (pv 0) Ed (B8 (pv 4))) (pv 5)) (G5 rfl S6 (B4 (Ca Db (pv 0) (B8 (pv 4)) Ed)) (fun _ _ _ _=>Co) (fun _ _ _ _=>(Bd (Di K) (Br (Af (pv 0) (Af (Am A7 (pv 0) (As (cT K) (by rfl) T.n_len Bs (Af (pv 2) Aa rfl))) Aa rfl) rfl)) (Dl Ff (by rfl) T.n_int Ms (Af (C2 O5 (pv 0) (pv 1) (Ax _)) Aa rfl)) (fun _ _=>rfl))))))))),?_⟩
  k_is
  refine ⟨a,ds,ko,place,rfl,ha,hD,hn,hko,hpl,fun at' off top H1 hG s1=>?_⟩
  have htop:=mT hG
  obtain ⟨g1,g2,g3,g4⟩:=hG.ok hD
  have hge:=cB hD hDe g1 g2 g3 g4
  k_is
  refine ⟨b,rfl,⟨_,SqL.of (s1 _ _ hb)⟩,?_⟩
  refine Fh (SqL.of (s1 _ _ hb)) (fun i=>(((A0 es).take i).map fun x=>if x<0 then top else x+(at':Int)).map V.int) rfl (fun i hi=>?_) (fun i v H2 R A hv s2 _ hA=>?_) (fun D2 H2 hD2 s2 h2=>?_)
  ·rw [List.length_map,List.length_map,List.length_take]
   rw [List.length_map,Au] at hi
   exact Ak (by omega)
  ·obtain ⟨y,hy,rfl⟩:=Kd hv
   k_is
   refine ⟨few (by simp),fun q3 h3=>?_⟩
   have u3:=Al (o:=.lst [V.int (y+(at':Int)),V.int (kI ko)]) h3
   k_is
   refine .inr ⟨_,rfl,?_⟩
   refine Bg (SqL.of Ae) (v:=.int (if y<0 then top else y+(at':Int))) ?_ ?_
   ·rw [htop]
    by_cases hlt:y<0
    ·rw [decide_eq_true hlt,if_pos hlt]
     rfl
    ·rw [decide_eq_false hlt,if_neg hlt]
     rfl
   k_is
   refine hA _ _ ?_ u3
   rw [List.take_add_one,hy,List.map_append,List.map_append]
   rfl
  rw [List.length_map,List.take_of_length_le (Nat.le_refl _)] at h2
  have s12:=s1.trans s2
  have ha2:=s12 _ _ ha
  have hb2:=s12 _ _ hb
  k_is
  refine ⟨a,_,rfl,SqL.of ha2,fun D3 hD3=>?_⟩
  rw [Yv] at *
  have u3:=Al (o:=.lst (((A0 ds).map V.int).take at')) hD3
  have h3:upd H2 D3 (.lst (((A0 ds).map V.int).take at')) D3=some (.lst (((A0 ds).map V.int).take at')):=Ae
  have h23:=u3 _ _ h2
  have s13:=s12.trans u3
  generalize upd H2 D3 (.lst (((A0 ds).map V.int).take at'))=H3 at *
  k_is
  refine ⟨D3,D2,_,_,rfl,rfl,h3,h23,?_,fun D4 hD4=>?_⟩
  ·simp only [List.length_map,List.length_take,Au]
   exact Nat.le_of_lt (Ak (by omega))
  have u4:=Al (o:=.lst (((A0 ds).map V.int).take at'++((A0 es).map fun x=>if x<0 then top else x+(at':Int)).map V.int)) hD4
  have h4:upd H3 D4 (.lst (((A0 ds).map V.int).take at'++((A0 es).map fun x=>if x<0 then top else x+(at':Int)).map V.int)) D4=some (.lst (((A0 ds).map V.int).take at'++((A0 es).map fun x=>if x<0 then top else x+(at':Int)).map V.int)):=Ae
  have s14:=s13.trans u4
  generalize upd H3 D4 (.lst (((A0 ds).map V.int).take at'++((A0 es).map fun x=>if x<0 then top else x+(at':Int)).map V.int))=H4 at *
  k_is
  refine ⟨a,_,rfl,SqL.of (s14 _ _ ha),fun D5 hD5=>?_⟩
  rw [Ln] at *
  have u5:=Al (o:=.lst (((A0 ds).map V.int).drop at')) hD5
  have h5:upd H4 D5 (.lst (((A0 ds).map V.int).drop at')) D5=some (.lst (((A0 ds).map V.int).drop at')):=Ae
  have h45:=u5 _ _ h4
  have s15:=s14.trans u5
  generalize upd H4 D5 (.lst (((A0 ds).map V.int).drop at'))=H5 at *
  have hl:(((A0 ds).map V.int).drop at').length=ds.length-at':=by rw [List.length_drop,List.length_map,Au]
  k_is
  refine ⟨D5,rfl,⟨_,SqL.of h5⟩,?_⟩
  refine Fh (SqL.of h5) (fun i=>((((A0 ds).drop at').take i).map fun x=>if (at':Int)<=x then x+(es.length:Int) else x).map V.int) rfl (fun i hi=>?_) (fun i v H6 R A hv s6 _ hA=>?_) (fun D6 H6 hD6 s6 h6=>?_)
  ·rw [List.length_map,List.length_map,List.length_take]
   rw [hl] at hi
   exact Ak (by omega)
  ·rw [<- List.map_drop] at hv
   obtain ⟨y,hy,rfl⟩:=Kd hv
   k_is
   refine ⟨b,_,rfl,.inl (SqL.of (s6 _ _ (s15 _ _ hb))),?_⟩
   rw [List.length_map,Au]
   k_is
   refine ⟨few (by simp),fun q7 h7=>?_⟩
   have u7:=Al (o:=.lst [V.int y,V.int (y+(es.length:Int))]) h7
   k_is
   refine .inr ⟨_,rfl,?_⟩
   refine Bg (SqL.of Ae) (v:=.int (if (at':Int)<=y then y+(es.length:Int) else y)) ?_ ?_
   ·by_cases hlt:(at':Int)<=y
    ·rw [decide_eq_true hlt,if_pos hlt]
     rfl
    ·rw [decide_eq_false hlt,if_neg hlt]
     rfl
   k_is
   refine hA _ _ ?_ u7
   rw [List.take_add_one,hy,List.map_append,List.map_append]
   rfl
  ·rw [hl,List.take_of_length_le (by rw [List.length_drop,Au];exact Nat.le_refl _)] at h6
   have h46:=s6 _ _ h45
   have s16:=s15.trans s6
   k_is
   refine ⟨D4,D6,_,_,rfl,rfl,h46,h6,?_,fun D7 hD7=>?_⟩
   ·simp only [List.length_append,List.length_map,List.length_take,List.length_drop,Au]
    exact Nat.le_of_lt (Ak (by omega))
   refine q at' off top D7 _ hG (s16.trans (Al hD7)) (s16.free hD7) ?_
   rw [Ae,hge,List.map_append,List.map_append,List.map_take,List.append_assoc]
def Uz:Sp:=fun vs H Q _=>∃ l:List Bool,vs=[.str (Az l)]/\0<l.length/\l.length<=1000/\∀ m t H',El l m->An H H'->H t=none->H' t=some (.tup (O8 l m))->Q (.ref t) H'
theorem Xn {f:Addr}{fd:FuncData}(F:Fun K "_law_sums" "_law_sums" Mf f fd)(T:Txt K mg):A9 P w K mg base CX0 1 f fd ["_law_text"] Uz:=by
 refine F.ok Fa (fun vs H Q E h=>?_) (fun cdv A outer s H vs Q E hr h=>?_)
 ·obtain ⟨l,rfl,_⟩:=h
  rfl
 ·obtain ⟨l,rfl,h0,hl,q⟩:=h
  refine ⟨_,(Ab (Aq (i:=1) Fa.nd rfl (Or.inl rfl) Aj)
   (Ab (Aq (i:=2) Fa.nd rfl (Or.inl rfl) (As B5 (by rfl) T.n_len Bs (Af (pv 0) Aa rfl)))
   (Ab (Dn PassesOwn.never rfl (Zi (pv 0)) (Bt (i:=3) Fa.nd rfl (Or.inl rfl))
   (Ab (Aq (i:=1) Fa.nd rfl (Or.inl rfl) (Am A7 (pv 1) (Bd A8 (Br (Af (E8 C5 Aj) (Af Aj Aa rfl) rfl)) (Dl Ff (by rfl) T.n_int Ms (Af (C2 Ew (pv 3) Cz (Ax _)) Aa rfl)) (fun _ _=>rfl))))
   (Ai (Aq (i:=2) Fa.nd rfl (Or.inl rfl) (As (Tq rfl) (by rfl) T.n_min eI (Af (pv 2) (Af (pv 1) Aa rfl) rfl))))))
   (Ai (At (Zh (Af (Ds PySem.F.plainAttrs_str PySem.F.slot_str_count PySem.F.type_str_count Ry (pv 0) (Af Cz Aa rfl)) (Af (pv 1) (Af (pv 2) Aa rfl) rfl) rfl))))))),?_⟩
  k_is
  refine ⟨_,rfl,Nat.le_of_lt (Ak (by rw [Ay];omega)),?_⟩
  rw [Ay]
  k_is
  refine ⟨_,rfl,?_⟩
  refine W0 (fun i σ H1=>∃ (m:Int) (v:Option V),σ=[some (.str (Az l)),some (.int (hgt l i)),some (.int m),v]/\((i=0/\m=(l.length:Int))\/(0<i/\Gh (hts l i) m))/\An H H1)
   ⟨_,_,rfl,.inl ⟨rfl,rfl⟩,An.refl _⟩ ?_ ?_
  ·rintro i c σ H1 hc ⟨m,v,rfl,hm,sm⟩
   obtain ⟨b,hb,rfl⟩:=Nb hc
   have hh:=K1 hb
   k_is
   refine ⟨by decide,fun p2 hp2=>?_⟩
   k_is
   refine .inr ⟨_,rfl,?_⟩
   k_is
   refine Bg (SqL.of Ae) (v:=.int (if b then 1 else -1)) (by cases b<;>rfl) ?_
   k_is
   rw [<- hh]
   have s2:An H1 (upd H1 p2 (.lst [V.int (-1),V.int 1])):=Al hp2
   k_is
   refine ⟨_,_,rfl,?_⟩
   refine ⟨_,_,rfl,.inr ⟨Nat.succ_pos _,?_⟩,sm.trans s2⟩
   rw [Sq]
   rcases hm with ⟨rfl,rfl⟩ | ⟨_,k1,k2⟩
   ·have h1:hgt l (0+1)<=1:=by
     rw [hh]
     have:hgt l 0=0:=rfl
     cases b<;>simp<;>omega
    rw [show hts l 0=[] from rfl,List.nil_append]
    have e:(if hgt l (0+1)<(l.length:Int) then hgt l (0+1) else (l.length:Int))=hgt l (0+1):=by
     by_cases z:hgt l (0+1)<(l.length:Int)
     ·rw [if_pos z]
     ·rw [if_neg z];omega
    rw [e]
    exact ⟨List.mem_singleton.mpr rfl,fun a ha=>by rw [List.mem_singleton.mp ha];exact Int.le_refl _⟩
   ·by_cases z:hgt l (i+1)<m
    ·rw [if_pos z]
     refine ⟨List.mem_append_right _ (List.mem_singleton.mpr rfl),fun a ha=>?_⟩
     rcases List.mem_append.mp ha with y | y
     ·have:=k2 a y
      omega
     ·rw [List.mem_singleton.mp y]
      exact Int.le_refl _
    ·rw [if_neg z]
     refine ⟨List.mem_append_left _ k1,fun a ha=>?_⟩
     rcases List.mem_append.mp ha with y | y
     ·exact k2 a y
     ·rw [List.mem_singleton.mp y]
      omega
  ·rintro σ H1 ⟨m,v,rfl,hm,sm⟩
   rw [show (Az l).cps.size=l.length from Ay l] at *
   k_is
   refine ⟨rfl,?_⟩
   k_is
   refine ⟨Az l,49,rfl,rfl,?_⟩
   k_is
   rw [(Ot l).1]
   refine ⟨few (by simp),fun t ht=>?_⟩
   have s4:=Al (o:=.tup (O8 l m)) ht
   refine q m t _ ?_ (sm.trans s4) (sm.free ht) Ae
   rcases hm with ⟨z,_⟩ | ⟨_,hm⟩
   ·omega
   ·exact .inr hm
def Xu:Sp:=fun vs H Q _=>∃ (a:Addr) (ds:List Nat) (k:Nat),vs=[.ref a,.int k]/\H a=some (.lst ((A0 ds).map V.int))/\Dok ds/\k<ds.length/\Q (.int (dAt ds k:Nat)) H
theorem Vk {f:Addr}{fd:FuncData}(F:Fun K "_law_depth" "_law_depth" Kz f fd)(T:Txt K mg):A9 P w K mg base CX0 1 f fd ["_law_elders","_law_k"] Xu:=by
 refine F.ok G0 (fun vs H Q E h=>?_) (fun cdv A outer s H vs Q E hr h=>?_)
 ·obtain ⟨a,ds,k,rfl,_⟩:=h
  rfl
 ·obtain ⟨a,ds,k,rfl,ha,hD,hk,q⟩:=h
  refine ⟨_,(Ab (Aq (i:=2) G0.nd rfl (Or.inl rfl) Aj)
   (Ab (Kw PassesOwn.never (Av O5 (Bd A8 (pv 0) (pv 1) (fun _ _=>rfl)) Aj (Ax _))
   (Ab (Aq (i:=1) G0.nd rfl (Or.inl rfl) (Bd A8 (pv 0) (pv 1) (fun _ _=>rfl)))
   (Ai (Aq (i:=2) G0.nd rfl (Or.inl rfl) (Am A7 (pv 2) Aj)))))
   (Ai (At (pv 2))))),?_⟩
  k_is
  refine Ky (fun σ H'=>H'=H/\∃ j m:Nat,σ=[some (.ref a),some (.int (j:Nat)),some (.int (m:Nat))]/\j<ds.length/\m+dAt ds j=dAt ds k) (fun σ _=>match σ with | [_,some (.int j),_]=>dAt ds j.toNat | _=>0) ⟨rfl,k,0,rfl,hk,by omega⟩ ?_
  rintro μ σ H' ⟨rfl,j,m,rfl,h1,h2⟩ hμ
  have hμ:dAt ds j=μ:=by rw [<- hμ];rfl
  k_is
  refine Bg (SqL.of ha) (v:=.int (eld ds j)) (Bc (by rw [List.getElem?_map,Cp h1];rfl)) ?_
  k_is
  refine Bz (fun g=>?_) (fun g=>?_)
  ·refine Su ?_
   obtain ⟨v,hv,hvl,hd⟩:=En hD h1 (by omega)
   k_is
   refine Bg (SqL.of ha) (v:=.int (eld ds j)) (Bc (by rw [List.getElem?_map,Cp h1];rfl)) ?_
   rw [hv]
   k_is
   refine ⟨⟨rfl,v,m+1,by rw [show ((m+1:Nat):Int)=(m:Int)+1 by omega];rfl,by omega,by omega⟩,?_⟩
   show dAt ds v<μ
   omega
  ·have he:eld ds j=-1:=by have:=cL hD h1;omega
   have:=Jr hD h1 he
   k_is
   rw [show m=dAt ds k by omega]
   exact q
def kC:Sp:=fun vs H Q _=>∃ (a:Addr) (ds:List Nat) (ko:Option Nat) (place at' off:Nat) (top:Int),vs=[.ref a,.int (kI ko),.int place]/\H a=some (.lst ((A0 ds).map V.int))/\Dok ds/\ds.length<=2000/\(∀ k,ko=some k->k<ds.length)/\place<=(Bq ds ds.length (kI ko)).length/\GAt ds ko place at' off top/\∀ H',An H H'->Q (.int ((2*at'-off:Nat):Int)) H'
theorem pG {ds:List Nat}(h:Dok ds){ko:Option Nat}{place a off:Nat}{top:Int}(g:GAt ds ko place a off top)(hp:place<(Bq ds ds.length (kI ko)).length):a<ds.length/\dAt ds a=off:=by
 cases ko with
 | none =>
  obtain ⟨rfl,_,h3,h4,h5⟩:=g
  rcases h5 with rfl | ⟨h5,h6⟩
  ·have hp:place<(Bq ds ds.length (-1)).length:=hp
   omega
  ·exact ⟨h5,Jr h h5 h6⟩
 | some k =>
  obtain ⟨hk,rfl,_,h3,h4,h5,h6⟩:=g
  have e2:=(Bx (ds:=ds) hk).2.1
  rcases h6 with rfl | ⟨h6,h7⟩
  ·have hp:place<(Bq ds ds.length (k:Int)).length:=hp
   rw [Lk h hk] at hp
   omega
  ·exact ⟨by omega,(Pq h hk h3 h6).mp h7⟩
theorem lY {ds:List Nat}(h:Dok ds){ko:Option Nat}{place a off:Nat}{top:Int}(g:GAt ds ko place a off top)(hp:(Bq ds ds.length (kI ko)).length<=place):match ko with | none=>a=ds.length/\off=0 | some k=>k<ds.length/\off=dAt ds k+1:=by
 cases ko with
 | none =>
  obtain ⟨rfl,_,h3,h4,h5⟩:=g
  rcases h5 with rfl | ⟨h5,h6⟩
  ·exact ⟨rfl,rfl⟩
  ·have hp:(Bq ds ds.length (-1)).length<=place:=hp
   have:=Ja h5 h6
   omega
 | some k=>exact ⟨g.1,g.2.1⟩
theorem lU {ds:List Nat}(h:Dok ds){ko:Option Nat}{place a off:Nat}{top:Int}(g:GAt ds ko place a off top):off<=2*a:=by
 obtain ⟨k1,k2,k3,k4⟩:=g.ok h
 obtain ⟨_,P0,S0,p1,_⟩:=Ls h (show Dok [] from fun k hk=>by cases hk) k1 k2 k3
 omega
theorem Wz {f:Addr}{fd:FuncData}(F:Fun K "_law_place" "_law_place" Hy f fd)(T:Txt K mg)(aT:Cal P w K mg base "_law_spot" 2 ["_law_elders","_law_k","_law_place_here"] W3)(ao:Cal P w K mg base "_law_depth" 1 ["_law_elders","_law_k"] Xu):A9 P w K mg base CX0 3 f fd ["_law_elders","_law_k","_law_place_here"] kC:=by
 refine F.ok Kb (fun vs H Q E h=>?_) (fun cdv A outer s H vs Q E hr h=>?_)
 ·obtain ⟨a,ds,ko,place,at',off,top,rfl,_⟩:=h
  rfl
 ·obtain ⟨a,ds,ko,place,at',off,top,rfl,ha,hD,hn,hko,hpl,hG,q⟩:=h
  have htwo:=lU hD hG
  refine ⟨_,(Ab (Aq (i:=3) Kb.nd rfl (Or.inl rfl) (Bb aT (hr.mono (by decide:2<=_)) (Af (pv 0) (Af (pv 1) (Af (pv 2) Aa rfl) rfl) rfl)))
   (Ab (Io (i:=4) rfl P6 Kb.nd rfl rfl (E9 rfl T.n_range (Af (As Ar (by rfl) T.n_len Bs (Af (pv 0) Aa rfl)) Aa rfl)) (fun _ _ _ _=>Gf (Av Ew (Bd (Di K) (pv 1) (pv 0) (fun _ _=>rfl)) (pv 2) (Ax _))) (fun _ _ _ _=>(pv 0)))
   (Ab (B3 (Av Fy (pv 2) (As Ar (by rfl) T.n_len Bs (Af (pv 4) Aa rfl)) (Ax _)) (Ai (At (Am Be (Am Ei Aj (pv 3)) (Bb ao (hr.mono (by decide:1<=_)) (Af (pv 0) (Af (pv 3) Aa rfl) rfl)))))
   Ba)
   (Ab (B3 (Av Fy (pv 1) Aj (Ax _)) (Ai (At (Am Ei Aj (As Ar (by rfl) T.n_len Bs (Af (pv 0) Aa rfl)))))
   Ba)
   (Ai (At (Am Be (Am Be (Am Ei Aj (pv 3)) (Bb ao (hr.mono (by decide:1<=_)) (Af (pv 0) (Af (pv 1) Aa rfl) rfl))) Aj))))))),?_⟩
  k_is
  refine ⟨a,ds,ko,place,rfl,ha,hD,hn,hko,hpl,fun at2 off2 top2 H0 hG2 s0=>?_⟩
  obtain ⟨rfl,rfl⟩:=Sb hD hG hG2
  k_is
  refine ⟨a,_,rfl,.inl (SqL.of (s0 _ _ ha)),?_⟩
  rw [List.length_map,Au]
  k_is
  refine ⟨_,rfl,by omega,by omega,?_⟩
  rw [Int.toNat_natCast]
  refine G7 (fun i=>(Bq ds i (kI ko)).map fun j:Nat=>V.int (j:Nat)) rfl (fun i hi=>?_) (fun i H1 R A hi s1 hR hA=>?_) (fun D1 H1 hD1 s1 h1=>?_)
  ·rw [List.length_map]
   have:=P1 ds i (kI ko)
   exact Ak (by omega)
  ·k_is
   refine Bg (SqL.of (s1 _ _ (s0 _ _ ha))) (v:=.int (eld ds i)) (by rw [Int.zero_add];exact Bc (by rw [List.getElem?_map,Cp hi];rfl)) ?_
   k_is
   refine Bz (fun e=>?_) (fun e=>?_)
   ·k_is
    refine hA _ _ ?_ (An.refl _)
    rw [Fn (V.int.inj e),List.map_append,Int.zero_add]
    rfl
   ·refine hR ?_ _ (An.refl _)
    rw [G1 (fun z=>e (congrArg V.int z))]
  have s01:=s0.trans s1
  have ha1:=s01 _ _ ha
  k_is
  refine ⟨D1,_,rfl,.inl (SqL.of h1),?_⟩
  rw [List.length_map]
  k_is
  refine Bz (fun g=>?_) (fun g=>?_)
  ·obtain ⟨g1,g2⟩:=pG hD hG (by omega)
   k_is
   refine ⟨a,ds,at',rfl,ha1,hD,g1,?_⟩
   k_is
   rw [show 2*(at':Int)-(dAt ds at':Nat)=((2*at'-off:Nat):Int) by omega]
   exact q H1 s01
  ·have go:=lY hD hG (by omega)
   k_is
   cases ko with
   | none =>
    obtain ⟨g1,g2⟩:=go
    refine Bz (fun _=>?_) (fun z=>absurd (show (-1:Int)<0 by decide) z)
    k_is
    refine ⟨a,_,rfl,.inl (SqL.of ha1),?_⟩
    rw [List.length_map,Au]
    k_is
    rw [show 2*(ds.length:Int)=((2*at'-off:Nat):Int) by omega]
    exact q H1 s01
   | some k =>
    obtain ⟨g1,g2⟩:=go
    refine Bz (fun z=>absurd z (by show ¬ (k:Int)<0;omega)) (fun _=>?_)
    k_is
    refine ⟨a,ds,k,rfl,ha1,hD,g1,?_⟩
    k_is
    rw [show 2*(at':Int)-(dAt ds k:Nat)-1=((2*at'-off:Nat):Int) by omega]
    exact q H1 s01
theorem lV (n m:Nat)(h:m<=n):((List.range n).filter fun j=>decide (j<m)).length=m:=by
 have e:(List.range n).filter (fun j=>decide (j<m))=List.range m:=by
  refine P4 (List.Pairwise.filter _ List.pairwise_lt_range) List.pairwise_lt_range fun x=>?_
  rw [List.mem_filter,List.mem_range,List.mem_range,decide_eq_true_eq]
  omega
 rw [e,List.length_range]
theorem lI (n m:Nat)(h:m<=n):((List.range n).filter fun j=>decide (m<=j)).length=n-m:=by
 have e:(List.range n).filter (fun j=>decide (m<=j))=(List.range (n-m)).map (m + ·):=by
  refine P4 (List.Pairwise.filter _ List.pairwise_lt_range) ?_ fun x=>?_
  ·rw [List.pairwise_map]
   exact List.pairwise_lt_range.imp fun hab=>by omega
  ·rw [List.mem_filter,List.mem_range,List.mem_map,decide_eq_true_eq]
   constructor
   ·rintro ⟨h1,h2⟩
    exact ⟨x-m,List.mem_range.mpr (by omega),by omega⟩
   ·rintro ⟨y,hy,rfl⟩
    have:=List.mem_range.mp hy
    omega
 rw [e,List.length_map,List.length_range]
theorem P5 (g:Nat->Nat)(c:Nat->Bool)(i:Nat):nV (((List.range (i+1)).filter c).map g)=nV (((List.range i).filter c).map g)++if c i then [V.int (g i:Nat)] else []:=by
 rw [List.range_succ,List.filter_append,List.map_append,<- W7,dZ]
 split
 ·rfl
 ·rfl
theorem mM (xs:List V):La xs none (some (-1))=xs.take (xs.length-1):=by
 have e:(if (-1:Int)<0 then ((-1:Int)+(xs.length:Int)).toNat else min (-1:Int).toNat xs.length)=xs.length-1:=by rw [if_pos (by decide)];omega
 show List.take ((if (-1:Int)<0 then ((-1:Int)+(xs.length:Int)).toNat else min (-1:Int).toNat xs.length)-0) (List.drop 0 xs)=_
 rw [e,Nat.sub_zero,List.drop_zero]
theorem iN {ls:List (List Bool)}{lo hi f b A:Nat}{t:List Bool}(hA:A<=f)(hf:f<=ls.length):(Bu ls lo hi t f b).take A=ls.take A:=by
 unfold Bu
 rw [List.append_assoc,List.take_append_of_le_length (by rw [List.length_take];omega),List.take_take,Nat.min_eq_left hA]
theorem iM {ls:List (List Bool)}{lo hi f b B:Nat}{t:List Bool}(hB:B<=ls.length-b)(hb:b<=ls.length):(Bu ls lo hi t f b).drop ((Bu ls lo hi t f b).length-B)=ls.drop (ls.length-B):=by
 unfold Bu
 generalize ls.take f++pcs (C8 ls lo hi t f b)=X
 rw [List.length_append,List.length_drop,List.drop_append,List.drop_of_length_le (by omega),List.nil_append,List.drop_drop]
 congr 1
 omega
theorem jB {ls:List (List Bool)}(hZ:Dt ls){lo hi f b:Nat}{t:List Bool}(hN:Ph ls lo hi t.length f b)(hl:lo<=hi)(hh:hi<=ls.flatten.length):∃ f0 b0,f0<=ls.length/\b0<=ls.length/\(∀ j,j<ls.length->(bgn ls (j+1)<=lo↔j<f0))/\(∀ j,j<ls.length->(hi<=bgn ls j↔b0<=j))/\f0-2<=f/\f<=ls.length/\b<=ls.length/\ls.length-b0-2<=ls.length-b/\(Bu ls lo hi t f b).length<=f0-2+(ls.length-b0-2)+8+t.length/32/\f0-2+(ls.length-b0-2)<=(Bu ls lo hi t f b).length:=by
 obtain ⟨m1,m2,m3,m4⟩:=hN.ok
 obtain ⟨f0,b0,h1,h2,h3,h4,h5,h6,h7⟩:=hN
 have sz:∀ j,j<ls.length->bgn ls (j+1)<=bgn ls j+128:=fun j hj=>by
  have e1:=C6 (List.getElem?_eq_getElem hj)
  have e2:=(hZ j _ (List.getElem?_eq_getElem hj)).2
  omega
 have hlo:lo-bgn ls f0<=128:=by
  by_cases hf:f0<ls.length
  ·have:=h3 hf
   have:=sz f0 hf
   omega
  ·obtain rfl:f0=ls.length:=by omega
   rw [Gi]
   omega
 have hhi:bgn ls b0-hi<=128:=by
  by_cases hb:0<b0
  ·have e1:=h5 hb
   have e2:=sz (b0-1) (by omega)
   rw [show b0-1+1=b0 by omega] at e2
   omega
  ·obtain rfl:b0=0:=by omega
   rw [Mu]
   omega
 have hf1:bgn ls f0-bgn ls (f0-1)<=128:=by
  by_cases hf:0<f0
  ·have e2:=sz (f0-1) (by omega)
   rw [show f0-1+1=f0 by omega] at e2
   omega
  ·obtain rfl:f0=0:=by omega
   show bgn ls 0-bgn ls 0<=128
   omega
 have hb1:bgn ls (min (b0+1) ls.length)-bgn ls b0<=128:=by
  by_cases hb:b0<ls.length
  ·have e2:=sz b0 hb
   rw [show min (b0+1) ls.length=b0+1 by omega]
   omega
  ·rw [show min (b0+1) ls.length=b0 by omega]
   omega
 have hmid:(C8 ls lo hi t f b).length<=(lo-bgn ls f)+t.length+(bgn ls b-hi):=by
  unfold C8
  simp only [List.length_append,List.length_take,List.length_drop]
  omega
 have hlen:(Bu ls lo hi t f b).length=f+pcM (C8 ls lo hi t f b).length+(ls.length-b):=by
  unfold Bu
  simp only [List.length_append,List.length_take,List.length_drop,Eg]
  omega
 have hpc:pcM (C8 ls lo hi t f b).length=((C8 ls lo hi t f b).length+127)/128:=rfl
 have q1:=Cc (ls:=ls) (show f0-1<=f0 by omega)
 have q2:=Cc (ls:=ls) (show b0<=min (b0+1) ls.length by omega)
 refine ⟨f0,b0,h1,h4,fun j hj=>⟨fun hle=>?_,fun hlt=>?_⟩,fun j hj=>⟨fun hle=>?_,fun hge=>?_⟩,?_,m1,m2,?_,?_,?_⟩
 ·by_cases hc:j<f0
  ·exact hc
  ·have e1:=h3 (by omega)
   have e2:=Cc (ls:=ls) (show f0+1<=j+1 by omega)
   omega
 ·have:=Cc (ls:=ls) (show j+1<=f0 by omega)
  omega
 ·by_cases hc:b0<=j
  ·exact hc
  ·have e1:=h5 (by omega)
   have e2:=Cc (ls:=ls) (show j<=b0-1 by omega)
   omega
 ·have:=Cc (ls:=ls) hge
  omega
 ·rcases h7 with ⟨rfl,rfl,_⟩ | ⟨rfl,rfl,_⟩<;>omega
 ·rcases h7 with ⟨rfl,rfl,_⟩ | ⟨rfl,rfl,_⟩<;>omega
 ·rw [hlen,hpc]
  rcases h7 with ⟨rfl,rfl,h8⟩ | ⟨rfl,rfl,h8⟩
  ·omega
  ·omega
 ·rw [hlen]
  rcases h7 with ⟨rfl,rfl,_⟩ | ⟨rfl,rfl,_⟩<;>omega
def Et (ls:List (List Bool)):List V:=ls.map fun l=>V.str (Az l)
theorem Uu {ls:List (List Bool)}{i:Nat}{v:V}(h:(Et ls)[i]?=some v):∃ y,ls[i]?=some y/\v=.str (Az y):=by
 unfold Et at h
 rw [List.getElem?_map] at h
 cases e:ls[i]? with
 | none=>rw [e] at h;cases h
 | some y=>rw [e] at h;exact ⟨y,rfl,(Option.some.inj h).symm⟩
theorem Jk (ls:List (List Bool)):(Et ls).length=ls.length:=List.length_map _
theorem Ud (ls:List (List Bool)):(Et ls).all Eb=true:=by
 unfold Et
 rw [List.all_map]
 exact List.all_eq_true.mpr fun _ _=>rfl
theorem Yy (ls:List (List Bool))(i:Nat):nV ((List.range (i+1+1)).map (bgn ls))=nV ((List.range (i+1)).map (bgn ls))++[V.int (bgn ls (i+1):Nat)]:=by
 rw [List.range_succ,List.map_append,<- W7]
 rfl
def cO:Sp:=fun vs H Q _=>∃ (a b:Addr) (ls:List (List Bool)) (lo hi f c:Nat) (t:List Bool),vs=[.ref a,.ref b,.int lo,.int hi,.int (t.length:Nat)]/\H a=some (.lst (Et ls))/\H b=some (.lst (Et (Bu ls lo hi t f c)))/\Ph ls lo hi t.length f c/\Dt ls/\ls.length<=400/\(Bu ls lo hi t f c).length<=400/\lo<=hi/\hi<=ls.flatten.length/\∀ H',An H H'->Q (.bl true) H'
theorem Yn {f:Addr}{fd:FuncData}(F:Fun K "_law_stay" "_law_stay" Hd f fd)(T:Txt K mg):A9 P w K mg base CX0 1 f fd ["_law_before","_law_after","_law_low","_law_high","_law_put_in"] cO:=by
 refine F.ok Gq (fun vs H Q E h=>?_) (fun cdv A outer s H vs Q E hr h=>?_)
 ·obtain ⟨a,b,ls,lo,hi,f,c,t,rfl,_⟩:=h
  rfl
 ·obtain ⟨a,b,ls,lo,hi,f,c,t,rfl,ha,hb,hN,hZ,hfw,hfn,hlh,hhi,q⟩:=h
  obtain ⟨f0,b0,n1,n2,n3,n4,n5,n6,n7,n8,n9,n10⟩:=jB hZ hN hlh hhi
  refine ⟨_,(Ab (Aq (i:=5) Gq.nd rfl (Or.inl rfl) (Br (Af Aj Aa rfl)))
   (Ab (Dn PassesOwn.never rfl (B4 (pv 0)) (Bt (i:=6) Gq.nd rfl (Or.inl rfl))
   (Ai (Bl (Ds PySem.F.plainAttrs_list PySem.F.slot_list_append PySem.F.type_list_append B7 (pv 5) (Af (Am A7 (Bd A8 (pv 5) (E8 C5 Aj) (fun _ _=>rfl)) (As B5 (by rfl) T.n_len Bs (Af (pv 6) Aa rfl))) Aa rfl)))))
   (Ab (Aq (i:=7) Gq.nd rfl (Or.inl rfl) (As (Oc rfl) (by rfl) T.n_max eL (Af Aj (Af (Am Be (As Ar (by rfl) T.n_len Bs (Af (G5 rfl S9 (B4 (Ca Db (pv 5) (B8 Aj) Ed)) (fun _ _ _ _=>Gf (Av Ko (pv 0) (pv 1) (Ax _))) (fun _ _ _ _=>(pv 0))) Aa rfl)) Aj) Aa rfl) rfl)))
   (Ab (Aq (i:=8) Gq.nd rfl (Or.inl rfl) (As (Oc rfl) (by rfl) T.n_max eL (Af Aj (Af (Am Be (As Ar (by rfl) T.n_len Bs (Af (G5 rfl Ta (B4 (Ca Db (pv 5) Ed (B8 (E8 C5 Aj)))) (fun _ _ _ _=>Gf (Av O5 (pv 0) (pv 1) (Ax _))) (fun _ _ _ _=>(pv 0))) Aa rfl)) Aj) Aa rfl) rfl)))
   (Ab (B3 (PW.pt (Mc (Av (Zg (Zl hr)) (Ca Db (pv 1) Ed (B8 (pv 7))) (Ca Db (pv 0) Ed (B8 (pv 7))) (Ax _)) (K8 (Av Fy (As Ar (by rfl) T.n_len Bs (Af (pv 1) Aa rfl)) (Am A7 (pv 7) (pv 8)) (Ax _))))) (Ai (At Nd))
   Ba)
   (Ab (B3 (Av (Zg (Zl hr)) (Ca Db (pv 1) (B8 (Am Be (As Ar (by rfl) T.n_len Bs (Af (pv 1) Aa rfl)) (pv 8))) Ed) (Ca Db (pv 0) (B8 (Am Be (As Ar (by rfl) T.n_len Bs (Af (pv 0) Aa rfl)) (pv 8))) Ed) (Ax _)) (Ai (At Nd))
   Ba)
   (Ai (At (C2 Ko (Am Be (Am Be (As Ar (by rfl) T.n_len Bs (Af (pv 1) Aa rfl)) (pv 7)) (pv 8)) (Am A7 Aj (Am Dv (pv 4) Aj)) (Ax _)))))))))),?_⟩
  k_is
  refine ⟨few (by simp),fun p hp=>?_⟩
  have u1:=Al (o:=.lst [V.int 0]) hp
  have h1:upd H p (.lst [V.int 0]) p=some (.lst [V.int 0]):=Ae
  generalize upd H p (.lst [V.int 0])=H1 at *
  have hap:a≠p:=Ap ha hp
  have hbp:b≠p:=Ap hb hp
  k_is
  refine ⟨a,rfl,⟨_,SqL.of (u1 _ _ ha)⟩,?_⟩
  refine Ix (xs:=Et ls) (fun i σ H2=>(∃ v:Option V,σ=[some (.ref a),some (.ref b),some (.int (lo:Nat)),some (.int (hi:Nat)),some (.int (t.length:Nat)),some (.ref p),v,none,none])/\An H H2/\H2 p=some (.lst (nV ((List.range (i+1)).map (bgn ls))))) ⟨⟨_,rfl⟩,u1,by rw [h1];rfl⟩ (fun i σ H2 _ h=>SqL.of (h.2.1 _ _ ha)) ?_ ?_
  ·rintro i y σ H2 hy ⟨⟨v,rfl⟩,s2,h2⟩
   obtain ⟨y,ey,rfl⟩:=Uu hy
   have hsz:=hZ i y ey
   have hil:=Bw ey
   k_is
   refine ⟨.inl ⟨rfl,_,SqL.of h2⟩,?_⟩
   k_is
   refine Bg (SqL.of h2) (v:=.int (bgn ls i:Nat)) ?_ ?_
   ·cases i with
    | zero=>rfl
    | succ i =>
     rw [Yy]
     exact K7 _ _
   k_is
   refine ⟨_,rfl,Nat.le_of_lt (Ak (by rw [Ay];omega)),?_⟩
   rw [Ay]
   k_is
   refine B9 h2 (by rw [Cn,List.length_map,List.length_range];exact Ak (by omega)) ?_
   k_is
   refine ⟨⟨_,rfl⟩,fun d u e=>?_,?_⟩
   ·rw [Aw (Ap e hp)]
    exact s2 _ _ e
   ·rw [Ae,Yy,C6 ey]
    rfl
  rintro σ H2 ⟨⟨v,rfl⟩,s2,h2⟩
  rw [Jk] at h2
  have hnl:(nV ((List.range (ls.length+1)).map (bgn ls))).length=ls.length+1:=by rw [Cn,List.length_map,List.length_range]
  k_is
  refine ⟨p,_,rfl,SqL.of h2,fun D3 hD3=>?_⟩
  rw [show (some (1:Int))=some (((1:Nat):Int)) from rfl,Ln] at *
  have u3:=Al (o:=.lst ((nV ((List.range (ls.length+1)).map (bgn ls))).drop 1)) hD3
  have h3:upd H2 D3 (.lst ((nV ((List.range (ls.length+1)).map (bgn ls))).drop 1)) D3=some (.lst ((nV ((List.range (ls.length+1)).map (bgn ls))).drop 1)):=Ae
  have s3:=s2.trans u3
  have h23:=u3 _ _ h2
  generalize upd H2 D3 (.lst ((nV ((List.range (ls.length+1)).map (bgn ls))).drop 1))=H3 at *
  refine ⟨D3,rfl,⟨_,SqL.of h3⟩,?_⟩
  refine Fh (SqL.of h3) (fun i=>nV (((List.range i).filter fun j=>decide (bgn ls (j+1)<=lo)).map fun j=>bgn ls (j+1))) rfl (fun i hil=>?_) (fun i v H4 R A hv s4 hR hA=>?_) (fun D4 H4 hD4 s4 h4=>?_)
  ·rw [List.length_drop,hnl] at hil
   rw [Cn,List.length_map]
   have:=List.length_filter_le (fun j=>decide (bgn ls (j+1)<=lo)) (List.range i)
   rw [List.length_range] at this
   exact Ak (by omega)
  ·have hil:=Bw hv
   rw [List.length_drop,hnl] at hil
   rw [List.getElem?_drop] at hv
   obtain ⟨y,ey,rfl⟩:=He hv
   rw [List.getElem?_map,List.getElem?_range (by omega)] at ey
   obtain rfl:bgn ls (1+i)=y:=Option.some.inj ey
   rw [Nat.add_comm 1 i]
   k_is
   refine Bz (fun hc=>?_) (fun hc=>?_)
   ·k_is
    refine hA _ _ ?_ (An.refl _)
    rw [P5,if_pos (decide_eq_true (show bgn ls (i+1)<=lo by omega))]
   ·refine hR ?_ _ (An.refl _)
    rw [P5,if_neg (by rw [decide_eq_true_eq];omega),List.append_nil]
  rw [List.length_drop,hnl,Nat.add_sub_cancel] at h4
  have c4:(nV (((List.range ls.length).filter fun j=>decide (bgn ls (j+1)<=lo)).map fun j=>bgn ls (j+1))).length=f0:=by
   rw [Cn,List.length_map,<- lV ls.length f0 n1]
   congr 1
   exact List.filter_congr fun j hj=>decide_eq_decide.mpr (n3 j (List.mem_range.mp hj))
  have s4':=s3.trans s4
  k_is
  refine ⟨D4,_,rfl,.inl (SqL.of h4),?_⟩
  rw [c4]
  k_is
  refine ⟨_,_,rfl,?_⟩
  rw [show (if (0:Int)<(f0:Int)-2 then (f0:Int)-2 else 0)=((f0-2:Nat):Int) by split<;>omega]
  k_is
  refine ⟨p,_,rfl,SqL.of (s4 _ _ h23),fun D5 hD5=>?_⟩
  rw [mM,hnl,Nat.add_sub_cancel]
  have u5:=Al (o:=.lst ((nV ((List.range (ls.length+1)).map (bgn ls))).take ls.length)) hD5
  have h5:upd H4 D5 (.lst ((nV ((List.range (ls.length+1)).map (bgn ls))).take ls.length)) D5=some (.lst ((nV ((List.range (ls.length+1)).map (bgn ls))).take ls.length)):=Ae
  have s5:=s4'.trans u5
  generalize upd H4 D5 (.lst ((nV ((List.range (ls.length+1)).map (bgn ls))).take ls.length))=H5 at *
  have h5l:((nV ((List.range (ls.length+1)).map (bgn ls))).take ls.length).length=ls.length:=by rw [List.length_take,hnl];omega
  refine ⟨D5,rfl,⟨_,SqL.of h5⟩,?_⟩
  refine Fh (SqL.of h5) (fun i=>nV (((List.range i).filter fun j=>decide (hi<=bgn ls j)).map fun j=>bgn ls j)) rfl (fun i hil=>?_) (fun i v H6 R A hv s6 hR hA=>?_) (fun D6 H6 hD6 s6 h6=>?_)
  ·rw [h5l] at hil
   rw [Cn,List.length_map]
   have:=List.length_filter_le (fun j=>decide (hi<=bgn ls j)) (List.range i)
   rw [List.length_range] at this
   exact Ak (by omega)
  ·have hil:=Bw hv
   rw [h5l] at hil
   rw [List.getElem?_take_of_lt hil] at hv
   obtain ⟨y,ey,rfl⟩:=He hv
   rw [List.getElem?_map,List.getElem?_range (by omega)] at ey
   obtain rfl:bgn ls i=y:=Option.some.inj ey
   k_is
   refine Bz (fun hc=>?_) (fun hc=>?_)
   ·k_is
    refine hA _ _ ?_ (An.refl _)
    rw [P5,if_pos (decide_eq_true (show hi<=bgn ls i by omega))]
   ·refine hR ?_ _ (An.refl _)
    rw [P5,if_neg (by rw [decide_eq_true_eq];omega),List.append_nil]
  rw [h5l] at h6
  have c6:(nV (((List.range ls.length).filter fun j=>decide (hi<=bgn ls j)).map fun j=>bgn ls j)).length=ls.length-b0:=by
   rw [Cn,List.length_map,<- lI ls.length b0 n2]
   congr 1
   exact List.filter_congr fun j hj=>decide_eq_decide.mpr (n4 j (List.mem_range.mp hj))
  have s6':=s5.trans s6
  k_is
  refine ⟨D6,_,rfl,.inl (SqL.of h6),?_⟩
  rw [c6]
  k_is
  refine ⟨_,_,rfl,?_⟩
  rw [show (if (0:Int)<((ls.length-b0:Nat):Int)-2 then ((ls.length-b0:Nat):Int)-2 else 0)=((ls.length-b0-2:Nat):Int) by split<;>omega]
  generalize hAA:f0-2=AA at *
  generalize hBB:ls.length-b0-2=BB at *
  k_is
  refine ⟨b,_,rfl,SqL.of (s6' _ _ hb),fun D7 hD7=>?_⟩
  rw [Yv] at *
  have u7:=Al (o:=.lst ((Et (Bu ls lo hi t f c)).take AA)) hD7
  have h7:upd H6 D7 (.lst ((Et (Bu ls lo hi t f c)).take AA)) D7=some (.lst (Et (ls.take AA))):=by
   rw [Ae]
   unfold Et
   rw [<- List.map_take,iN n5 n6]
  have s7:=s6'.trans u7
  generalize upd H6 D7 (.lst ((Et (Bu ls lo hi t f c)).take AA))=H7 at *
  k_is
  refine ⟨a,_,rfl,SqL.of (s7 _ _ ha),fun D8 hD8=>?_⟩
  rw [Yv] at *
  have u8:=Al (o:=.lst ((Et ls).take AA)) hD8
  have h8:upd H7 D8 (.lst ((Et ls).take AA)) D8=some (.lst (Et (ls.take AA))):=by
   rw [Ae]
   unfold Et
   rw [<- List.map_take]
  have h78:=u8 _ _ h7
  have s8:=s7.trans u8
  generalize upd H7 D8 (.lst ((Et ls).take AA))=H8 at *
  k_is
  refine Zf (Cg.lsts (SqL.of h78) (SqL.of h8) (Ud _)) ?_
  k_is
  refine ⟨b,_,rfl,.inl (SqL.of (s8 _ _ hb)),?_⟩
  rw [Jk]
  k_is
  refine Bz (fun hc=>absurd hc (by omega)) (fun _=>?_)
  k_is
  refine ⟨b,_,rfl,.inl (SqL.of (s8 _ _ hb)),?_⟩
  rw [Jk]
  k_is
  rw [show ((Bu ls lo hi t f c).length:Int)-(BB:Nat)=(((Bu ls lo hi t f c).length-BB:Nat):Int) by omega]
  refine ⟨b,_,rfl,SqL.of (s8 _ _ hb),fun D9 hD9=>?_⟩
  rw [Ln] at *
  have u9:=Al (o:=.lst ((Et (Bu ls lo hi t f c)).drop ((Bu ls lo hi t f c).length-BB))) hD9
  have h9:upd H8 D9 (.lst ((Et (Bu ls lo hi t f c)).drop ((Bu ls lo hi t f c).length-BB))) D9=some (.lst (Et (ls.drop (ls.length-BB)))):=by
   rw [Ae]
   unfold Et
   rw [<- List.map_drop,iM n8 n7]
  have s9:=s8.trans u9
  generalize upd H8 D9 (.lst ((Et (Bu ls lo hi t f c)).drop ((Bu ls lo hi t f c).length-BB)))=H9 at *
  k_is
  refine ⟨a,_,rfl,.inl (SqL.of (s9 _ _ ha)),?_⟩
  rw [Jk]
  k_is
  rw [show (ls.length:Int)-(BB:Nat)=((ls.length-BB:Nat):Int) by omega]
  refine ⟨a,_,rfl,SqL.of (s9 _ _ ha),fun D10 hD10=>?_⟩
  rw [Ln] at *
  have u10:=Al (o:=.lst ((Et ls).drop (ls.length-BB))) hD10
  have h10:upd H9 D10 (.lst ((Et ls).drop (ls.length-BB))) D10=some (.lst (Et (ls.drop (ls.length-BB)))):=by
   rw [Ae]
   unfold Et
   rw [<- List.map_drop]
  have h910:=u10 _ _ h9
  have s10:=s9.trans u10
  generalize upd H9 D10 (.lst ((Et ls).drop (ls.length-BB)))=H10 at *
  k_is
  refine Zf (Cg.lsts (SqL.of h910) (SqL.of h10) (Ud _)) ?_
  k_is
  refine ⟨b,_,rfl,.inl (SqL.of (s10 _ _ hb)),?_⟩
  rw [Jk]
  k_is
  rw [decide_eq_true (show ((Bu ls lo hi t f c).length:Int)-(AA:Nat)-(BB:Nat)<=8+(t.length:Nat)/32 by omega)]
  exact q H10 s10
theorem gY {ls:List (List Bool)}{i:Nat}{y:List Bool}(h:ls[i]?=some y):(Et ls)[i]?=some (.str (Az y)):=by
 unfold Et
 rw [List.getElem?_map,h]
 rfl
def cX:Sp:=fun vs H Q _=>∃ (a:Addr) (ls:List (List Bool)),vs=[.ref a,.str (Az ls.flatten)]/\H a=some (.lst (Et ls))/\Dt ls/\Fj ls/\ls.length<=400/\ls.flatten.length<=8000/\∀ H',An H H'->Q (.bl true) H'
theorem Sx {f:Addr}{fd:FuncData}(F:Fun K "_law_in_form" "_law_in_form" Ev f fd)(T:Txt K mg):A9 P w K mg base CX0 1 f fd ["_law_parts","_law_row_here"] cX:=by
 refine F.ok Si (fun vs H Q E h=>?_) (fun cdv A outer s H vs Q E hr h=>?_)
 ·obtain ⟨a,ls,rfl,_⟩:=h
  rfl
 ·obtain ⟨a,ls,rfl,ha,hsz,hwd,hfw,hfl,q⟩:=h
  refine ⟨_,(Ab (B3 (PW.pt (Mc (Av Tu (Ds PySem.F.plainAttrs_str PySem.F.slot_str_join PySem.F.type_str_join Ut Cz (Af (pv 0) Aa rfl)) (pv 1) (Ax _)) (K8 (Av (Ze (Zl hr)) (G5 rfl Ol (B4 (pv 0)) (fun _ _ _ _=>Gf (Gu (Yj Ko Ko Aj (As B5 (by rfl) T.n_len Bs (Af (pv 0) Aa rfl)) Aj))) (fun _ _ _ _=>(pv 0))) (Br Aa) (Ax _))))) (Ai (At Nd))
   Ba)
   (Ai (At (C2 (pM (Zl hr)) (G5 rfl Oe (Od rfl T.n_range (Af Aj (Af (As Ar (by rfl) T.n_len Bs (Af (pv 0) Aa rfl)) Aa rfl) rfl)) (fun _ _ _ _=>Gf (Av Ko (Am A7 (As B5 (by rfl) T.n_len Bs (Af (Bd (Di K) (pv 1) (Am Be (pv 0) Aj) (fun _ _=>rfl)) Aa rfl)) (As B5 (by rfl) T.n_len Bs (Af (Bd (Di K) (pv 1) (pv 0) (fun _ _=>rfl)) Aa rfl))) Aj (Ax _))) (fun _ _ _ _=>(pv 0))) (Br Aa) (Ax _))))),?_⟩
  k_is
  refine ⟨rfl,?_⟩
  k_is
  refine Rj ha (by omega) ?_
  k_is
  refine mY (fun hne=>absurd rfl hne) (fun _=>?_)
  k_is
  refine ⟨a,rfl,⟨_,SqL.of ha⟩,?_⟩
  refine Fh (SqL.of ha) (fun i=>[]) rfl (fun i hi=>Ak (Nat.zero_le _)) (fun i v H3 R A hv s3 hR hA=>?_) (fun D3 H3 hD3 s3 h3=>?_)
  ·obtain ⟨y,ey,rfl⟩:=Uu hv
   have hy:=hsz i y ey
   k_is
   refine ⟨_,rfl,Nat.le_of_lt (Ak (by rw [Ay];omega)),?_⟩
   rw [Ay]
   k_is
   refine Bz (fun _=>?_) (fun h=>absurd h (by omega))
   k_is
   rw [decide_eq_true (show ((y.length:Nat):Int)<=128 by omega)]
   k_is
   exact hR rfl _ (An.refl _)
  k_is
  refine ⟨Nat.zero_le _,fun z1 hz1=>?_⟩
  have u1:=Al (o:=.lst []) hz1
  k_is
  refine gR (ns:=[]) (ms:=[]) (SqL.of (u1 _ _ h3)) (SqL.of Ae) ?_
  rw [decide_eq_true rfl]
  have s4:=s3.trans u1
  have h14:=s4 _ _ ha
  generalize upd H3 z1 (.lst [])=H4 at *
  k_is
  refine ⟨a,_,rfl,.inl (SqL.of h14),?_⟩
  rw [Jk]
  k_is
  refine ⟨1,(ls.length:Nat),rfl,⟨by decide,by decide,by omega,by omega⟩,?_⟩
  refine G7 (fun i=>[]) rfl (fun i hi=>Ak (Nat.zero_le _)) (fun i H5 R A hi s5 hR hA=>?_) (fun D5 H5 hD5 s5 h5=>?_)
  ·have h15:=s5 _ _ h14
   have e1:ls[i]?=some (ls[i]'(by omega)):=List.getElem?_eq_getElem _
   have e2:ls[i+1]?=some (ls[i+1]'(by omega)):=List.getElem?_eq_getElem _
   generalize ls[i]'(by omega)=y1 at *
   generalize ls[i+1]'(by omega)=y2 at *
   have hw:=hwd i y1 y2 e1 e2
   have hy1:=hsz i y1 e1
   have hy2:=hsz (i+1) y2 e2
   k_is
   refine Bg (SqL.of h15) (v:=.str (Az y1)) ?_ ?_
   ·rw [show (1+(i:Int)-1)=((i:Nat):Int) by omega]
    exact Bc (gY e1)
   k_is
   refine ⟨_,rfl,Nat.le_of_lt (Ak (by rw [Ay];omega)),?_⟩
   rw [Ay]
   k_is
   refine Bg (SqL.of h15) (v:=.str (Az y2)) ?_ ?_
   ·rw [show (1+(i:Int))=((i+1:Nat):Int) by omega]
    exact Bc (gY e2)
   k_is
   refine ⟨_,rfl,Nat.le_of_lt (Ak (by rw [Ay];omega)),?_⟩
   rw [Ay]
   k_is
   rw [decide_eq_false (show ¬ ((y1.length:Nat):Int)+(y2.length:Nat)<=64 by omega)]
   k_is
   exact hR rfl _ (An.refl _)
  k_is
  refine ⟨Nat.zero_le _,fun z2 hz2=>?_⟩
  have u2:=Al (o:=.lst []) hz2
  k_is
  refine rM (ns:=[]) (ms:=[]) (SqL.of (u2 _ _ h5)) (SqL.of Ae) ?_
  rw [decide_eq_true rfl]
  exact q _ ((s4.trans s5).trans u2)
def Vh (C CR CS:Addr)(ts:List Tb):Sp:=fun vs H Q _=>∃ (x a:Addr) (ls:List (List Bool)) (ds:List Nat) (k:Int),vs=[.ref x,.ref a,.int k]/\B6 C CR CS H x ls/\ls.flatten=A5 ds/\H a=some (.lst ((A0 ds).map V.int))/\Dok ds/\Tbs ts H/\∀ H',SmT ts H H'->Q (.bl true) H'
theorem W5 {f:Addr}{fd:FuncData}{ts:List Tb}(F:Fun K "_law_knots" "_law_knots" Lj f fd)(T:Txt K mg)(Z:Qb K ac)(bC:Mth P w K mg base ac "elder" 14 ["self","k"] (Sj ab aa ac ts))(bE:Mth P w K mg base ac "beneath" 13 ["self","k"] (Me ab aa ac ts))(am:Cal P w K mg base "_law_end" 1 ["_law_elders","_law_k"] Tr)(aN:Mth P w K mg base ac "depth" 8 ["self","k"] (Nc ab aa ac ts))(ao:Cal P w K mg base "_law_depth" 1 ["_law_elders","_law_k"] Xu):A9 P w K mg base CX0 15 f fd ["_law_wood_here","_law_elders","_law_at"] (Vh ab aa ac ts):=by
 refine F.ok Jo (fun vs H Q E h=>?_) (fun cdv A outer s H vs Q E hr h=>?_)
 ·obtain ⟨x,a,ls,ds,k,rfl,_⟩:=h
  rfl
 ·obtain ⟨x,a,ls,ds,k,rfl,hS,hrow,ha,hD,hT,q⟩:=h
  obtain ⟨dx,r,e,hx,hR⟩:=id hS
  refine ⟨_,(Ab (Dn PassesOwn.never rfl (B4 (Br (Af (Am Be (pv 2) Aj) (Af (pv 2) (Af (Am A7 (pv 2) Aj) (Af (Am Be (As Ar (by rfl) T.n_len Bs (Af (pv 1) Aa rfl)) Aj) Aa rfl) rfl) rfl) rfl))) (Bt (i:=3) Jo.nd rfl (Or.inl rfl))
   (Ai (B3 (Yj Ko Fy Aj (pv 3) (As Ar (by rfl) T.n_len Bs (Af (pv 1) Aa rfl))) (Ab (Aq (i:=4) Jo.nd rfl (Or.inl rfl) (Bd A8 (Br (Af (Bd A8 (pv 1) (pv 3) (fun _ _=>rfl)) (Af Ic Aa rfl) rfl)) (Dl Ff (by rfl) T.n_int Ms (Af (C2 Fy (Bd A8 (pv 1) (pv 3) (fun _ _=>rfl)) Aj (Ax _)) Aa rfl)) (fun _ _=>rfl)))
   (Ab (B3 (PW.pt (Mc (Av Tu (A4 bC (hr.mono (by decide:14<=_)) (pv 0) (Af (pv 3) Aa rfl)) (pv 4) (Ax _)) (K8 (Av Tu (A4 bE (hr.mono (by decide:13<=_)) (pv 0) (Af (pv 3) Aa rfl)) (Am Be (Am Be (Bb am (hr.mono (by decide:1<=_)) (Af (pv 1) (Af (pv 3) Aa rfl) rfl)) (pv 3)) Aj) (Ax _))))) (Ai (At Nd))
   Ba)
   (Ai (B3 (Av Tu (A4 aN (hr.mono (by decide:8<=_)) (pv 0) (Af (pv 3) Aa rfl)) (Bb ao (hr.mono (by decide:1<=_)) (Af (pv 1) (Af (pv 3) Aa rfl) rfl)) (Ax _)) (Ai (At Nd))
   Ba))))
   Ba)))
   (Ai (At Nd))),?_⟩
  k_is
  refine ⟨a,_,rfl,.inl (SqL.of ha),?_⟩
  rw [List.length_map,Au]
  k_is
  refine ⟨few (by simp),fun p hp=>?_⟩
  have u1:=Al (o:=.lst [V.int (k-1),V.int k,V.int (k+1),V.int ((ds.length:Int)-1)]) hp
  have h1:upd H p (.lst [V.int (k-1),V.int k,V.int (k+1),V.int ((ds.length:Int)-1)]) p=some (.lst ([k-1,k,k+1,(ds.length:Int)-1].map V.int)):=Ae
  have s1:=SmT.of hT u1
  generalize upd H p (.lst [V.int (k-1),V.int k,V.int (k+1),V.int ((ds.length:Int)-1)])=H1 at *
  generalize [k-1,k,k+1,(ds.length:Int)-1]=ks at *
  refine ⟨p,rfl,⟨_,SqL.of h1⟩,?_⟩
  refine Ix (xs:=ks.map V.int) (fun i σ H2=>(∃ v3 v4:Option V,σ=[some (.ref x),some (.ref a),some (.int k),v3,v4])/\SmT ts H1 H2) ⟨⟨_,_,rfl⟩,SmT.refl s1.ok⟩ (fun i σ H2 _ h=>SqL.of (h.2.k h1)) ?_ ?_
  ·rintro i y σ H2 hy ⟨⟨v3,v4,rfl⟩,t2⟩
   obtain ⟨j,_,rfl⟩:=Kd hy
   have s2:=s1.trans t2
   k_is
   refine Bz (fun j0=>?_) (fun _=>?_)
   ·k_is
    refine ⟨a,_,rfl,.inl (SqL.of (s2.k ha)),?_⟩
    rw [List.length_map,Au]
    k_is
    refine Bz (fun j1=>?_) (fun _=>?_)
    ·obtain ⟨j,rfl⟩:=Int.eq_ofNat_of_zero_le j0
     have hj:j<ds.length:=by omega
     have hat:atI ((A0 ds).map V.int) (j:Int)=some (.int (eld ds j)):=Bc (by rw [List.getElem?_map,Cp hj];rfl)
     obtain ⟨en1,en2,_⟩:=Bx (ds:=ds) hj
     k_is
     refine Bg (SqL.of (s2.k ha)) hat ?_
     k_is
     refine ⟨few (by simp),fun q3 h3=>?_⟩
     have u3:=Al (o:=.lst [V.int (eld ds j),V.non]) h3
     have e3:upd H2 q3 (.lst [V.int (eld ds j),V.non]) q3=some (.lst [V.int (eld ds j),V.non]):=Ae
     have s3:=s2.then u3
     have t3:=t2.then u3
     generalize upd H2 q3 (.lst [V.int (eld ds j),V.non])=H3 at *
     k_is
     refine Bg (SqL.of (s3.k ha)) hat ?_
     k_is
     refine .inr ⟨_,rfl,?_⟩
     refine Bg (SqL.of e3) (v:=if eld ds j<0 then .non else .int (eld ds j)) ?_ ?_
     ·by_cases hlt:eld ds j<0
      ·rw [decide_eq_true hlt,if_pos hlt]
       rfl
      ·rw [decide_eq_false hlt,if_neg hlt]
       rfl
     k_is
     refine ⟨x,dx,_,rfl,s3.k hx,rfl,?_⟩
     k_is
     refine ⟨x,ls,ds,j,rfl,hS.kp s3.kp,s3.ok,hD,hrow,hj,fun H4 u4=>?_⟩
     have s4:=s3.trans u4
     have t4:=t3.trans u4
     k_is
     refine oJ (by split<;>rfl) ?_
     rw [decide_eq_true rfl]
     k_is
     refine ⟨x,dx,_,rfl,s4.k hx,rfl,?_⟩
     k_is
     refine ⟨x,ls,ds,j,rfl,hS.kp s4.kp,s4.ok,hD,hrow,hj,fun H5 u5=>?_⟩
     have s5:=s4.trans u5
     have t5:=t4.trans u5
     k_is
     refine ⟨a,ds,j,rfl,s5.k ha,hj,?_⟩
     k_is
     rw [show ((Cm ds j).length:Int)=(Bj ds j:Int)-(j:Int)-1 by rw [Du];omega,decide_eq_true rfl]
     k_is
     refine ⟨x,dx,_,rfl,s5.k hx,rfl,?_⟩
     k_is
     refine ⟨x,ls,ds,j,rfl,hS.kp s5.kp,s5.ok,hD,hrow,hj,fun H6 u6=>?_⟩
     have s6:=s5.trans u6
     have t6:=t5.trans u6
     k_is
     refine ⟨a,ds,j,rfl,s6.k ha,hD,hj,?_⟩
     k_is
     rw [decide_eq_true rfl]
     k_is
     exact ⟨⟨_,_,rfl⟩,t6⟩
    ·k_is
     exact ⟨⟨_,_,rfl⟩,t2⟩
   ·k_is
    exact ⟨⟨_,_,rfl⟩,t2⟩
  ·rintro σ H2 ⟨⟨v3,v4,rfl⟩,t2⟩
   k_is
   exact q H2 (s1.trans t2)
theorem mV {l:List Bool}{k:Nat}{x:List Bool}(h2:2<=pcM l.length)(hx:(pcs l)[k]?=some x):64<=x.length:=by
 have hk:=Bw hx
 rw [Eg] at hk
 rw [O0 hk] at hx
 obtain rfl:=Option.some.inj hx
 rw [Kv hk]
 have hm:0<pcM l.length:=by omega
 have h3:64*pcM l.length<=l.length:=by unfold pcM at h2 ⊢;omega
 have h4:k*l.length+64*pcM l.length<=(k+1)*l.length:=by rw [Nat.add_mul,Nat.one_mul];omega
 have:=Nat.div_le_div_right (c:=pcM l.length) h4
 rw [Nat.add_mul_div_right _ _ hm] at this
 show 64<=(k+1)*l.length/pcM l.length-k*l.length/pcM l.length
 omega
theorem Fj.app {A B:List (List Bool)}(hA:Fj A)(hB:Fj B)(hj:∀ x y,A[A.length-1]?=some x->B[0]?=some y->64<x.length+y.length):Fj (A++B):=fun k x y h1 h2=>by
 by_cases hk:k+1<A.length
 ·rw [List.getElem?_append_left (by omega)] at h1 h2
  exact hA k x y h1 h2
 ·by_cases hk2:k+1=A.length
  ·rw [List.getElem?_append_left (by omega),show k=A.length-1 by omega] at h1
   rw [List.getElem?_append_right (by omega),show k+1-A.length=0 by omega] at h2
   exact hj x y h1 h2
  ·rw [List.getElem?_append_right (by omega)] at h1 h2
   rw [show k+1-A.length=k-A.length+1 by omega] at h2
   exact hB _ x y h1 h2
theorem Fj.take {A:List (List Bool)}(hA:Fj A)(n:Nat):Fj (A.take n):=fun k x y h1 h2=>by
 have hk:=Bw h2
 rw [List.length_take] at hk
 rw [List.getElem?_take_of_lt (by omega)] at h1 h2
 exact hA k x y h1 h2
theorem Fj.drop {A:List (List Bool)}(hA:Fj A)(n:Nat):Fj (A.drop n):=fun k x y h1 h2=>by
 rw [List.getElem?_drop] at h1 h2
 exact hA _ x y h1 h2
theorem Xz:∀ (n:Nat) (ls:List (List Bool)),ls.length<=n->Fj ls->65*(ls.length/2)<=ls.flatten.length
 | _,[],_,_=>by simp
 | _,[x],_,_=>by simp
 | 0,x::y::r,h,_=>by simp at h
 | n+1,x::y::r,h,hw=>by
  have ih:=Xz n r (by simp at h;omega) fun k a b h1 h2=>hw (k+2) a b h1 h2
  have h0:=hw 0 x y rfl rfl
  rw [List.flatten_cons,List.flatten_cons,List.length_append,List.length_append,List.length_cons,List.length_cons]
  omega
theorem iQ {ls:List (List Bool)}{lo hi f b:Nat}{t:List Bool}(hl:lo<=hi)(hh:hi<=ls.flatten.length)(h3:bgn ls f<=lo)(h4:hi<=bgn ls b):(C8 ls lo hi t f b).length=(lo-bgn ls f)+t.length+(bgn ls b-hi):=by
 have:=Y8 ls b
 unfold C8
 simp only [List.length_append,List.length_take,List.length_drop]
 omega
theorem jG {ls:List (List Bool)}(hZ:Dt ls)(hW:Fj ls){lo hi f b:Nat}{t:List Bool}(hN:Ph ls lo hi t.length f b)(hl:lo<=hi)(hh:hi<=ls.flatten.length):Fj (Bu ls lo hi t f b):=by
 obtain ⟨m1,m2,m3,m4⟩:=hN.ok
 have hms:=iQ (t:=t) hl hh m3 m4
 obtain ⟨f0,b0,h1,h2,h3,h4,h5,h6,h7⟩:=hN
 have one:∀ (k:Nat) (y:List Bool),(pcs (C8 ls lo hi t f b))[k]?=some y->64<=y.length\/y.length=(C8 ls lo hi t f b).length:=fun k y hy=>by
  have hk:=Bw hy
  rw [Eg] at hk
  by_cases hp:2<=pcM (C8 ls lo hi t f b).length
  ·exact .inl (mV hp hy)
  ·refine .inr ?_
   have e1:pcM (C8 ls lo hi t f b).length=1:=by omega
   have e2:=Eg (C8 ls lo hi t f b)
   rw [e1] at e2
   obtain rfl:k=0:=by omega
   have e3:=Rn (C8 ls lo hi t f b)
   generalize pcs (C8 ls lo hi t f b)=M at *
   match M,e2 with
   | [z],_ =>
    obtain rfl:z=y:=Option.some.inj hy
    rw [<- e3]
    simp
 have pc1:∀ (j:Nat) (y:List Bool),ls[j]?=some y->0<y.length:=fun j y hy=>(hZ j y hy).1
 have hM0:(C8 ls lo hi t f b).length=0->f=0:=fun hz=>by
  rcases h7 with ⟨rfl,rfl,h8⟩ | ⟨rfl,rfl,h8⟩
  ·omega
  ·by_cases hf:f0-1=0
   ·exact hf
   ·exfalso
    have:=Z7 hZ (show f0-1<f0 by omega) h1
    omega
 unfold Bu
 refine Fj.app (Fj.app (hW.take f) (Xl _) fun x y hx hy=>?_) (hW.drop b) fun x y hx hy=>?_
 ·have hf:0<f:=by
   have:=Bw hx
   rw [List.length_take] at this
   omega
  rw [List.length_take,Nat.min_eq_left m1,List.getElem?_take_of_lt (by omega)] at hx
  have hx1:=pc1 _ _ hx
  rcases one 0 y hy with h8 | h8
  ·omega
  ·rcases h7 with ⟨rfl,rfl,h9⟩ | ⟨rfl,rfl,h9⟩
   ·omega
   ·have e1:ls[f0-1]?=some (ls[f0-1]'(by omega)):=List.getElem?_eq_getElem _
    have e2:=C6 e1
    rw [show f0-1+1=f0 by omega] at e2
    have:=hW (f0-1-1) x _ hx (by rw [show f0-1-1+1=f0-1 by omega];exact e1)
    omega
 ·rw [List.getElem?_drop,Nat.add_zero] at hy
  have hbl:=Bw hy
  have hy1:=pc1 _ _ hy
  by_cases hM:(C8 ls lo hi t f b).length=0
  ·have hf:=hM0 hM
   have e0:pcs (C8 ls lo hi t f b)=[]:=List.eq_nil_of_length_eq_zero (by rw [Eg];unfold pcM;omega)
   rw [e0,hf] at hx
   cases hx
  ·have hp:0<(pcs (C8 ls lo hi t f b)).length:=by rw [Eg];unfold pcM;omega
   rw [List.length_append,List.getElem?_append_right (by omega),show (ls.take f).length+(pcs (C8 ls lo hi t f b)).length-1-(ls.take f).length=(pcs (C8 ls lo hi t f b)).length-1 by omega] at hx
   rcases one _ x hx with h8 | h8
   ·omega
   ·rcases h7 with ⟨rfl,rfl,h9⟩ | ⟨rfl,rfl,h9⟩
    ·omega
    ·have eb:min (b0+1) ls.length=b0+1:=by omega
     rw [eb] at hy hms h8
     have e1:ls[b0]?=some (ls[b0]'(by omega)):=List.getElem?_eq_getElem _
     have e2:=C6 e1
     have:=hW b0 _ y e1 hy
     omega
theorem mS {ds:List Nat}{k:Nat}(hk:k<ds.length):(Us ds k).length<=ds.length:=by
 have:=Bx (ds:=ds) hk
 unfold Us
 rw [List.length_append,List.length_take,List.length_drop]
 omega
theorem Rf {ds es:List Nat}(a off:Nat):(Ii ds es a off).length=ds.length+es.length:=by
 unfold Ii
 rw [List.length_append,List.length_append,List.length_map,List.length_take,List.length_drop]
 omega
theorem fO {lo:Int}{n:Nat}{H1:Hp}{fr:St}{tc:TT}{te:TE}{Q:VK}(Pv:Nat->List V->Hp->Prop)(h0:∀ H,An H1 H->Pv 0 [] H)
  (stab:∀ i ys H D xs o,H D=some (.lst xs)->Pv i ys H->Pv i ys (upd H D o))(hz:∀ i ys H,i<n->Pv i ys H->ys.length<sizeLine)
  (turn:∀ (i:Nat) ys H (A:VK) (R:Hp->Prop),i<n->An H1 H->Pv i ys H->(∀ y H',An H H'->Pv (i+1) (ys++[y]) H'->A y H')->tc (some (.int (lo+i))::fr) H fun b H3=>if b=true then te (some (.int (lo+i))::fr) H3 A else R H3)
  (fin:∀ D ys H,H1 D=none->An H1 H->Pv n ys H->H D=some (.lst ys)->Q (.ref D) H):Vn (Itr lo n) H1 fr tc te Q :=
 kF n (fun i=>.int (lo+i)) Pv h0 stab hz (fun i H hi _=>hi) (fun i H x H' _ _ h=>⟨h.2,h.1⟩) (fun H _=>Nat.le_refl n) turn fin
theorem Z4 {l:List Bool}{m n:Int}(h1:El l m)(h2:El l n):m=n:=h1.uniq h2
theorem pP {f:Addr}{fd:FuncData}{ts:List Tb}(F:Fun K "law" "law" Mq f fd)(T:Txt K mg)(Z:Qb K ac)(ax:Cal P w K mg base "_law_cell_at" 1 ["_law_script","_law_k"] (Vz K))(ay:Cal P w K mg base "_law_mixed" 1 ["_law_cell","_law_k"] Pu)(bF:Cal P w K mg base "_law_digits" 2 ["_law_script","_law_at","_law_many"] (Rk K))(aV:Cal P w K mg base "_law_wood" 1 ["_law_digits_here"] bV)(bG:Cal P w K mg base "_law_large" 1 ["_law_elders","_law_times","_law_nested"] Wy)(ao:Cal P w K mg base "_law_depth" 1 ["_law_elders","_law_k"] Xu)(am:Cal P w K mg base "_law_end" 1 ["_law_elders","_law_k"] Tr)(bH:Mth P w K mg base ac "cut" 13 ["self","k"] (cY ab aa ac ts))(bI:Cal P w K mg base "_law_without" 2 ["_law_elders","_law_k"] Os)(bJ:Cal P w K mg base "_law_place" 3 ["_law_elders","_law_k","_law_place_here"] kC)(bK:Mth P w K mg base ac "graft" 14 ["self","k","place","elders"] (Ra ab aa ac ts))(bL:Cal P w K mg base "_law_with" 3 ["_law_elders","_law_k","_law_place_here","_law_wood_here"] Zd)(aW:Mth P w K mg base ac "pieces" 1 ["self"] (N4 ab aa ac))(bM:Cal P w K mg base "_law_stay" 1 ["_law_before","_law_after","_law_low","_law_high","_law_put_in"] cO)(bN:Cal P w K mg base "_law_in_form" 1 ["_law_parts","_law_row_here"] cX)(bO:Cal P w K mg base "_law_row" 1 ["_law_elders"] kB)(bP:Mth P w K mg base ac "sums" 1 ["self"] (Xa ab aa ac))(bQ:Cal P w K mg base "_law_sums" 1 ["_law_text"] Uz)(bR:Cal P w K mg base "_law_knots" 15 ["_law_wood_here","_law_elders","_law_at"] (Vh ab aa ac ts))(bS:Mkr P w K mg base "Shaped" ac 6 ["self","elders"] (Vr ab aa ac)):A9 P w K mg base CX0 16 f fd ["_law_script"] (dB K ts):=by
 refine F.ok Cy (fun vs H Q E h=>?_) (fun cdv A outer s H vs Q E hr h=>?_)
 ·obtain ⟨a,ns,rfl,_⟩:=h
  rfl
 ·obtain ⟨a,ns,rfl,hS,hlen,hT,q⟩:=h
  refine ⟨_,(Ab (Aq (i:=1) Cy.nd rfl (Or.inl rfl) (Bb ay (hr.mono (by decide:1<=_)) (Af (Bb ax (hr.mono (by decide:1<=_)) (Af (pv 0) (Af Aj Aa rfl) rfl)) (Af Aj Aa rfl) rfl)))
   (Ab (Aq (i:=2) Cy.nd rfl (Or.inr rfl) (Bb aV (hr.mono (by decide:1<=_)) (Af (Bb bF (hr.mono (by decide:2<=_)) (Af (pv 0) (Af Aj (Af (Am A7 Aj (Am Ea (pv 1) Aj)) Aa rfl) rfl) rfl)) Aa rfl)))
   (Ab (Aq (i:=2) Cy.nd rfl (Or.inr rfl) (Bb bG (hr.mono (by decide:1<=_)) (Af (pv 2) (Af (Am A7 Aj (Am Ea (Am Dv (pv 1) Aj) Aj)) (Af (C2 Ew (Am Ea (Am Dv (pv 1) Aj) Aj) Aj (Ax _)) Aa rfl) rfl) rfl)))
   (Ab (Aq (i:=3) Cy.nd rfl (Or.inl rfl) (dJ bS (hr.mono (by decide:7<=_)) (Af (Dl Nm (by rfl) T.n_list Vq (Af (pv 2) Aa rfl)) Aa rfl)))
   (Ab (Dn PassesOwn.never rfl (B4 (Am F5 (Ca Db (pv 0) (B8 Aj) (B8 Aj)) (Br (Af (As Ar (by rfl) T.n_len Bs (Af (pv 0) Aa rfl)) Aa rfl)))) (Bt (i:=4) Cy.nd rfl (Or.inl rfl))
   (Ab (Aq (i:=5) Cy.nd rfl (Or.inr rfl) (Bb ay (hr.mono (by decide:1<=_)) (Af (pv 4) (Af Aj Aa rfl) rfl)))
   (Ab (Aq (i:=6) Cy.nd rfl (Or.inl rfl) (Ie aW (hr.mono (by decide:1<=_)) (pv 3)))
   (Ab (Aq (i:=8) Cy.nd rfl (Or.inl rfl) (Bb aV (hr.mono (by decide:1<=_)) (Af (G5 rfl kY (E9 rfl T.n_range (Af (Am Ea (Am Dv (pv 5) Aj) Aj) Aa rfl)) (fun _ _ _ _=>Co) (fun _ _ _ _=>(Am Ea (Bb ay (hr.mono (by decide:1<=_)) (Af (pv 1) (Af (pv 0) Aa rfl) rfl)) Aj))) Aa rfl)))
   (Ab (kH (PW.pt (Sz (Av Ew (Am Ea (pv 5) Aj) Aj (Ax _)) (Nk (Av (Ze (Zl hr)) (pv 2) (Br Aa) (Ax _))))) (Ab (Aq (i:=7) Cy.nd rfl (Or.inr rfl) (Am Ea (Am Dv (pv 5) Aj) (As Ar (by rfl) T.n_len Bs (Af (pv 2) Aa rfl))))
   (Ab (Aq (i:=9) Cy.nd rfl (Or.inl rfl) (Am Be (Am Ei Aj (pv 7)) (Bb ao (hr.mono (by decide:1<=_)) (Af (pv 2) (Af (pv 7) Aa rfl) rfl))))
   (Ab (Aq (i:=10) Cy.nd rfl (Or.inl rfl) (Am A7 (pv 9) (Am Ei Aj (Am Be (Bb am (hr.mono (by decide:1<=_)) (Af (pv 2) (Af (pv 7) Aa rfl) rfl)) (pv 7)))))
   (Ab (Bl (A4 bH (hr.mono (by decide:13<=_)) (pv 3) (Af (pv 7) Aa rfl)))
   (Ab (Aq (i:=2) Cy.nd rfl (Or.inr rfl) (Bb bI (hr.mono (by decide:2<=_)) (Af (pv 2) (Af (pv 7) Aa rfl) rfl)))
   (Ai (Aq (i:=8) Cy.nd rfl (Or.inl rfl) (Br Aa))))))))
   (Ab (Aq (i:=7) Cy.nd rfl (Or.inr rfl) (Am Be (Am Ea (Am Dv (pv 5) Aj) (Am A7 (As Ar (by rfl) T.n_len Bs (Af (pv 2) Aa rfl)) Aj)) Aj))
   (Ab (Io (i:=11) rfl lD Cy.nd rfl rfl (E9 rfl T.n_range (Af (As Ar (by rfl) T.n_len Bs (Af (pv 2) Aa rfl)) Aa rfl)) (fun _ _ _ _=>Gf (Av Ew (Bd (Di K) (pv 1) (pv 0) (fun _ _=>rfl)) (pv 2) (Ax _))) (fun _ _ _ _=>(pv 0)))
   (Ab (Aq (i:=12) Cy.nd rfl (Or.inl rfl) (Am Ea (Am Dv (pv 5) Aj) (Am A7 (As Ar (by rfl) T.n_len Bs (Af (pv 11) Aa rfl)) Aj)))
   (Ab (Aq (i:=9) Cy.nd rfl (Or.inl rfl) (Bb bJ (hr.mono (by decide:3<=_)) (Af (pv 2) (Af (pv 7) (Af (pv 12) Aa rfl) rfl) rfl)))
   (Ab (Aq (i:=10) Cy.nd rfl (Or.inl rfl) (pv 9))
   (Ab (Bl (A4 bK (hr.mono (by decide:14<=_)) (pv 3) (Af (Bd A8 (Br (Af (pv 7) (Af Ic Aa rfl) rfl)) (Dl Ff (by rfl) T.n_int Ms (Af (C2 Fy (pv 7) Aj (Ax _)) Aa rfl)) (fun _ _=>rfl)) (Af (pv 12) (Af (pv 8) Aa rfl) rfl) rfl)))
   (Ai (Aq (i:=2) Cy.nd rfl (Or.inr rfl) (Bb bL (hr.mono (by decide:3<=_)) (Af (pv 2) (Af (pv 7) (Af (pv 12) (Af (pv 8) Aa rfl) rfl) rfl) rfl)))))))))))
   (Ab (Aq (i:=13) Cy.nd rfl (Or.inl rfl) (Ie aW (hr.mono (by decide:1<=_)) (pv 3)))
   (Ab (B3 (PW.pt (Mc (Gu (Dr (Bb bM (hr.mono (by decide:1<=_)) (Af (pv 6) (Af (pv 13) (Af (pv 9) (Af (pv 10) (Af (Am Ei Aj (As Ar (by rfl) T.n_len Bs (Af (pv 8) Aa rfl))) Aa rfl) rfl) rfl) rfl) rfl)))) (K8 (Gu (Dr (Bb bN (hr.mono (by decide:1<=_)) (Af (pv 13) (Af (Bb bO (hr.mono (by decide:1<=_)) (Af (pv 2) Aa rfl)) Aa rfl) rfl))))))) (Ai (At Nd))
   Ba)
   (Ai (B3 (PW.pt (Mc (Av (Zg (Zl hr)) (Ie bP (hr.mono (by decide:1<=_)) (pv 3)) (G5 rfl gZ (B4 (pv 13)) (fun _ _ _ _=>Co) (fun _ _ _ _=>(Bb bQ (hr.mono (by decide:1<=_)) (Af (pv 0) Aa rfl)))) (Ax _)) (K8 (Gu (Dr (Bb bR (hr.mono (by decide:15<=_)) (Af (pv 3) (Af (pv 2) (Af (Am Dv (pv 9) Aj) Aa rfl) rfl) rfl))))))) (Ai (At Nd))
   Ba)))))))))
   (Ai (At Nd))))))),?_⟩
  k_is
  refine ⟨a,ns,0,rfl,hS,fun c0=>?_⟩
  k_is
  refine ⟨c0,1,rfl,by omega,by omega,fun r r0 r1=>?_⟩
  k_is
  refine ⟨a,ns,2,1+r%60,rfl,hS,by omega,by omega,fun p1 gs H1 s1 _ hg hgl=>?_⟩
  k_is
  refine ⟨p1,gs,rfl,hg,by omega,fun p2 ds0 H2 s2 _ hp2 hD0 hdl=>?_⟩
  k_is
  have s12:=s1.trans s2
  obtain ⟨t,ht,hb,hb2⟩:∃ t:Nat,1+r/60%12=(t:Int)/\t<=12/\0<t:=⟨(1+r/60%12).toNat,by omega,by omega,by omega⟩
  rw [ht]
  refine ⟨p2,ds0,t,_,rfl,hp2,hD0,hb,hb2,by omega,by omega,fun p es H3 u3 hp hDe hel he0=>?_⟩
  have s3:=s12.trans u3
  k_is
  refine ⟨p,_,rfl,.inl (SqL.of hp),fun p4 h4=>?_⟩
  have t4:=Al (o:=.lst ((A0 es).map V.int)) h4
  have hp44:upd H3 p4 (.lst ((A0 es).map V.int)) p4=some (.lst ((A0 es).map V.int)):=Ae
  have hpp4:=t4 _ _ hp
  have s4:=s3.trans t4
  generalize upd H3 p4 (.lst ((A0 es).map V.int))=H4 at *
  k_is
  intro x dx hx hdx hxd
  have sN:An H4 (upd (upd H4 dx (.own x)) x (.ins ac dx [])):=Rs hx hdx
  refine ⟨x,dx,p4,es,rfl,Ae,sN _ _ hp44,hDe,by omega,fun e H5 b5 hS5 he5=>⟨rfl,?_⟩⟩
  have s5:An H4 H5:=Lp hx hdx b5
  have s05:=s4.trans s5
  have hp5:=s5 _ _ hpp4
  have hpe:p≠e:=Ap (sN _ _ hpp4) he5
  have hS05:SqL K H5 a (ns.map V.int):=s05.seq hS
  k_is
  refine ⟨a,_,rfl,hS05,fun D6 hD6=>?_⟩
  obtain ⟨ms,hms,hml⟩:∃ ms:List Int,La (ns.map V.int) (some 12) (some 20)=ms.map V.int/\ms.length<=8:=⟨(ns.drop 12).take 8,by rw [show La (ns.map V.int) (some 12) (some 20)=((ns.map V.int).drop 12).take (20-12) from iD _ 12 20,List.map_take,List.map_drop],by rw [List.length_take];omega⟩
  rw [hms] at *
  have u6:=Al (o:=.lst (ms.map V.int)) hD6
  have h6:upd H5 D6 (.lst (ms.map V.int)) D6=some (.lst (ms.map V.int)):=Ae
  have s06:=s05.trans u6
  have hS6:=hS5.kp (An.kp u6)
  have hp6:=u6 _ _ hp5
  generalize upd H5 D6 (.lst (ms.map V.int))=H6 at *
  k_is
  refine ⟨a,_,rfl,.inl (s06.seq hS),?_⟩
  rw [List.length_map]
  k_is
  refine ⟨few (by simp),fun D7 hD7=>?_⟩
  have u7:=Al (o:=.lst [V.int (ns.length:Nat)]) hD7
  have h7:upd H6 D7 (.lst [V.int (ns.length:Nat)]) D7=some (.lst [V.int (ns.length:Nat)]):=Ae
  have h67:=u7 _ _ h6
  have s07:=s06.trans u7
  have hS7:=hS6.kp (An.kp u7)
  have hp7:=u7 _ _ hp6
  generalize upd H6 D7 (.lst [V.int (ns.length:Nat)])=H7 at *
  k_is
  refine ⟨D6,D7,_,_,rfl,rfl,h67,h7,by rw [List.length_map];exact Nat.le_of_lt (Ak (by rw [List.length_singleton];omega)),fun D8 hD8=>?_⟩
  have e8:ms.map V.int++[V.int (ns.length:Nat)]=(ms++[(ns.length:Int)]).map V.int:=by rw [List.map_append];rfl
  rw [e8] at *
  have hcl:(ms++[(ns.length:Int)]).length<=9:=by rw [List.length_append,List.length_singleton];omega
  have u8:=Al (o:=.lst ((ms++[(ns.length:Int)]).map V.int)) hD8
  have h8:upd H7 D8 (.lst ((ms++[(ns.length:Int)]).map V.int)) D8=some (.lst ((ms++[(ns.length:Int)]).map V.int)):=Ae
  have s08:=s07.trans u8
  have hS8:=hS7.kp (An.kp u8)
  have hp8:=u8 _ _ hp7
  have hT8:=hT.same s08
  obtain ⟨ps7,he7,_⟩:=id hS7.he
  have hDe8:D8≠e:=(Ap he7 hD8).symm
  generalize upd H7 D8 (.lst ((ms++[(ns.length:Int)]).map V.int))=H8 at *
  generalize ms++[(ns.length:Int)]=cs at *
  obtain ⟨dx8,r8,hx8,_⟩:=id hS8.hx
  have hDx8:D8≠x:=Lc h8 hx8 (by intro z;cases z)
  refine ⟨D8,rfl,⟨_,SqL.of h8⟩,?_⟩
  refine Ix (xs:=cs.map V.int) (fun i σ Hc=>∃ (p:Addr) (ds:List Nat) (ls:List (List Bool)) (prs:List (List (List Bool))) (v4 v5 v6 v7 v8 v9 v10 v11 v12 v13:Option V),σ=[some (.ref a),some (.int r),some (.ref p),some (.ref x),v4,v5,v6,v7,v8,v9,v10,v11,v12,v13]/\Gx ab aa ac Hc x e ls prs/\ls.flatten=A5 ds/\Dok ds/\Fj ls/\Hc p=some (.lst ((A0 ds).map V.int))/\p≠e/\ds.length<=720+60*i/\prs.length=i/\SmE ts x e H8 Hc) ⟨p,es,_,[],_,_,_,_,_,_,_,_,_,_,rfl,hS8,Rn _,hDe,Xl _,hp8,hpe,by omega,rfl,SmE.of (SmT.refl hT8)⟩ (fun i σ Hc _ h=>?_) ?_ ?_
  ·obtain ⟨p,ds,ls,prs,_,_,_,_,_,_,_,_,_,_,_,_,_,_,_,_,_,_,_,m9⟩:=h
   exact SqL.of (m9.k h8 hDx8 hDe8)
  ·rintro i y σ H9 hy ⟨p,ds,ls,prs,v4,v5,v6,v7,v8,v9,v10,v11,v12,v13,rfl,hS9,hfl,hD,hWd,hp9,hpe,hn,hpr,m9⟩
   have hi9:=Bw hy
   rw [List.length_map] at hi9
   obtain ⟨c,hc,rfl⟩:=Kd hy
   obtain ⟨dx9,r9,hx9,hR9⟩:=id hS9.hx
   obtain ⟨ps9,he9,_⟩:=id hS9.he
   obtain ⟨_,_,_,_,_,_,_,hW9,_⟩:=id hR9
   have hsz:=hW9.sz
   have hfw:=hW9.fw
   have hpx:p≠x:=Lc hp9 hx9 (by intro z;cases z)
   have hrl:=Bp hD
   have hfl2:ls.flatten.length=2*ds.length:=by rw [hfl,hrl]
   have hlen:=Xz _ ls (Nat.le_refl _) hWd
   have hl100:ls.length<=100:=by omega
   k_is
   refine ⟨c,3,rfl,by decide,by decide,fun m m0 m1=>?_⟩
   k_is
   refine ⟨x,dx9,_,rfl,hx9,rfl,?_⟩
   k_is
   refine ⟨x,_,rfl,hS9.sh,fun pp H10 u10 hpp0 hpp=>?_⟩
   have hppx:pp≠x:=(Ap hx9 hpp0).symm
   have hppe:pp≠e:=(Ap he9 hpp0).symm
   k_is
   refine ⟨_,rfl,by omega,by omega,?_⟩
   refine fO (fun i ys H'=>∃ gs:List Int,ys=gs.map V.int/\gs.length=i) (fun _ _=>⟨[],rfl,rfl⟩) (fun i ys H' D zs o _ h=>h) (fun i ys H' hi h=>?_) (fun i ys H' A R hi u hP hA=>?_) (fun D11 ys H11 hD11 u11 hP h11=>?_)
   ·obtain ⟨gs,rfl,h⟩:=h
    rw [List.length_map]
    exact Ak (by omega)
   ·obtain ⟨gs,rfl,hgs⟩:=hP
    k_is
    refine ⟨m,_,rfl,by omega,by omega,fun w w0 w1=>?_⟩
    k_is
    exact hA _ _ (An.refl _) ⟨gs++[w%64],by rw [List.map_append];rfl,by rw [List.length_append,hgs];rfl⟩
   obtain ⟨gs2,rfl,hgs2⟩:=hP
   k_is
   refine ⟨D11,gs2,rfl,h11,by omega,fun po os H12 u12 hpo0 hpo hDo hol=>?_⟩
   have u10':=(u10.trans u11).trans u12
   have hS12:=hS9.kp (An.kp u10')
   have m12:=m9.trans (SmE.of (SmT.of m9.ok u10'))
   have hp12:=u10' _ _ hp9
   have hpp12:=u12 _ _ (u11 _ _ hpp)
   have hT12:=m12.ok
   have hpo9:H9 po=none:=(u10.trans u11).free hpo0
   have hpox:po≠x:=(Ap hx9 hpo9).symm
   have hpoe:po≠e:=(Ap he9 hpo9).symm
   have hol60:os.length<=60:=by omega
   obtain ⟨dx12,r12,hx12,_⟩:=id hS12.hx
   k_is
   refine oY (fun σ H'=>∃ (p' o':Addr) (ds':List Nat) (lo hi f b:Nat) (t:List Bool) (zs:List V) (v7 v11 v12:Option V),σ=[some (.ref a),some (.int r),some (.ref p'),some (.ref x),some (.int c),some (.int m),some (.ref pp),v7,some (.ref o'),some (.int (lo:Nat)),some (.int (hi:Nat)),v11,v12,v13]/\Gx ab aa ac H' x e (Bu ls lo hi t f b) (prs++[ls])/\(Bu ls lo hi t f b).flatten=A5 ds'/\Dok ds'/\Ph ls lo hi t.length f b/\lo<=hi/\hi<=ls.flatten.length/\H' p'=some (.lst ((A0 ds').map V.int))/\p'≠e/\H' o'=some (.lst zs)/\t.length=2*zs.length/\zs.length<=60/\ds'.length<=ds.length+60/\H' pp=some (.lst (Et ls))/\SmE ts x e H8 H') ?_ ?_
   ·k_is
    refine Bz (fun _=>?_) (fun _=>?_)
    ·k_is
     refine ⟨Nat.zero_le _,fun z1 hz1=>?_⟩
     have u13:=Al (o:=.lst []) hz1
     k_is
     refine gR (ns:=A0 ds) (ms:=[]) (SqL.of (u13 _ _ hp12)) (SqL.of Ae) ?_
     generalize upd H12 z1 (.lst [])=H13 at *
     by_cases hd0:ds.length=0
     ·have e0:A0 ds=[]:=List.eq_nil_of_length_eq_zero (by rw [Au];exact hd0)
      rw [decide_eq_true e0]
      k_is
      refine ⟨p,_,rfl,.inl (SqL.of (u13 _ _ hp12)),?_⟩
      rw [List.length_map,Au]
      k_is
      refine ⟨_,_,rfl,rfl,by omega,?_⟩
      obtain ⟨ko,hko,hkol⟩:∃ ko:Option Nat,m/512%((ds.length:Int)+1)-1=kI ko/\∀ k,ko=some k->k<ds.length:=by
       have h1:=Int.emod_nonneg (m/512) (show (ds.length:Int)+1≠0 by omega)
       have h2:=Int.emod_lt_of_pos (m/512) (show (0:Int)<(ds.length:Int)+1 by omega)
       generalize m/512%((ds.length:Int)+1)=z at *
       by_cases hz:z=0
       ·exact ⟨none,by rw [hz];rfl,fun k hk=>by cases hk⟩
       ·exact ⟨some (z-1).toNat,by show z-1=(((z-1).toNat:Nat):Int);omega,fun k hk=>by have:=Option.some.inj hk;omega⟩
      k_is
      rw [hko]
      refine ⟨p,_,rfl,.inl (SqL.of (u13 _ _ hp12)),?_⟩
      rw [List.length_map,Au]
      k_is
      refine ⟨_,rfl,by omega,by omega,?_⟩
      rw [Int.toNat_natCast]
      refine G7 (fun i=>(Bq ds i (kI ko)).map fun j:Nat=>V.int (j:Nat)) rfl (fun i hi=>?_) (fun i H15 R A hi u15 hR hA=>?_) (fun D15 H15 hD15 u15 h15=>?_)
      ·rw [List.length_map]
       have:=P1 ds i (kI ko)
       exact Ak (by omega)
      ·k_is
       refine Bg (SqL.of (u15 _ _ (u13 _ _ hp12))) (v:=.int (eld ds i)) (by rw [Int.zero_add];exact Bc (by rw [List.getElem?_map,Cp hi];rfl)) ?_
       k_is
       refine Bz (fun e=>?_) (fun e=>?_)
       ·k_is
        refine hA _ _ ?_ (An.refl _)
        rw [Fn (V.int.inj e),List.map_append,Int.zero_add]
        rfl
       ·refine hR ?_ _ (An.refl _)
        rw [G1 (fun z=>e (congrArg V.int z))]
      have w15:=u13.trans u15
      k_is
      refine ⟨D15,_,rfl,.inl (SqL.of h15),?_⟩
      rw [List.length_map]
      k_is
      refine ⟨_,_,rfl,rfl,by omega,?_⟩
      obtain ⟨place,hplc,hpll⟩:∃ place:Nat,m/64%(((Bq ds ds.length (kI ko)).length:Int)+1)=(place:Int)/\place<=(Bq ds ds.length (kI ko)).length:=by
       have h1:=Int.emod_nonneg (m/64) (show ((Bq ds ds.length (kI ko)).length:Int)+1≠0 by omega)
       have h2:=Int.emod_lt_of_pos (m/64) (show (0:Int)<((Bq ds ds.length (kI ko)).length:Int)+1 by omega)
       exact ⟨(m/64%(((Bq ds ds.length (kI ko)).length:Int)+1)).toNat,by omega,by omega⟩
      obtain ⟨at',off,top,hG⟩:=jO hD hkol hpll
      obtain ⟨g1,g2,g3,g4⟩:=Vi hD hG
      obtain ⟨k1,k2,k3,k4⟩:=hG.ok hD
      k_is
      rw [hplc]
      refine ⟨p,ds,ko,place,at',off,top,rfl,w15 _ _ hp12,hD,by omega,hkol,hpll,hG,fun H16 u16=>?_⟩
      have w16:=w15.trans u16
      k_is
      refine ⟨x,dx12,_,rfl,w16 _ _ hx12,rfl,?_⟩
      k_is
      refine ⟨few (by simp),fun p17 hp17=>?_⟩
      have u17:=Al (o:=.lst [V.int (kI ko),V.non]) hp17
      k_is
      refine .inr ⟨_,rfl,?_⟩
      refine Bg (SqL.of Ae) (v:=Ng ko) ?_ ?_
      ·cases ko with
       | none =>
        rw [show decide (kI none<0)=true from rfl]
        rfl
       | some k =>
        rw [show decide (kI (some k)<0)=false from decide_eq_false (show ¬ (k:Int)<0 by omega)]
        rfl
      have w17:=w16.trans u17
      generalize upd H16 p17 (.lst [V.int (kI ko),V.non])=H17 at *
      have hS17:=hS12.kp (An.kp w17)
      k_is
      refine ⟨x,e,po,ls,prs,ds,os,ko,place,at',off,top,rfl,hS17,hT12.same w17,hD,hfl,w17 _ _ hpo,hDo,hG,by omega,by omega,hl100,by omega,fun f b H18 hN hflN hS18 s18 _=>?_⟩
      have m18:=(m12.trans (SmE.of (SmT.of m12.ok w17))).trans s18
      obtain ⟨ps18,he18,_⟩:=id hS18.he
      k_is
      refine ⟨p,po,ds,os,ko,place,rfl,s18.k (w17 _ _ hp12) hpx hpe,hD,by omega,hkol,hpll,s18.k (w17 _ _ hpo) hpox hpoe,hDo,by omega,fun at2 off2 top2 p19 H19 hG2 u19 hp190 hp19=>?_⟩
      obtain ⟨rfl,rfl⟩:=Sb hD hG hG2
      k_is
      refine ⟨p19,po,Ii ds os at' off,2*at'-off,2*at'-off,f,b,A5 os,(A0 os).map V.int,_,_,_,rfl,hS18.kp (An.kp u19),hflN,(Ls hD hDo k1 k2 k3).1,by rw [Bp hDo];exact hN,Nat.le_refl _,by rw [hfl];exact g2,hp19,(Ap he18 hp190).symm,u19 _ _ (s18.k (w17 _ _ hpo) hpox hpoe),by rw [Bp hDo,List.length_map,Au],by rw [List.length_map,Au];exact hol60,by rw [Rf];omega,u19 _ _ (s18.k (w17 _ _ hpp12) hppx hppe),m18.trans (SmE.of (SmT.of m18.ok u19))⟩
     ·rw [decide_eq_false (fun z=>hd0 (by rw [<- Au,z];rfl))]
      k_is
      refine ⟨p,_,rfl,.inl (SqL.of (u13 _ _ hp12)),?_⟩
      rw [List.length_map,Au]
      k_is
      refine ⟨_,_,rfl,rfl,by omega,?_⟩
      obtain ⟨k,hk,hkl⟩:∃ k:Nat,m/512%(ds.length:Int)=(k:Int)/\k<ds.length:=by
       have h1:=Int.emod_nonneg (m/512) (show (ds.length:Int)≠0 by omega)
       have h2:=Int.emod_lt_of_pos (m/512) (show (0:Int)<ds.length by omega)
       exact ⟨(m/512%(ds.length:Int)).toNat,by omega,by omega⟩
      have hdk:=(Fm hD hkl).1
      have hsu:=Xf (ds:=ds) hkl
      have hnx:=(Np hD hkl).2.1
      have hsl:=Fo ds k
      obtain ⟨ek1,ek2,_⟩:=Bx (ds:=ds) hkl
      k_is
      rw [hk]
      refine ⟨p,ds,k,rfl,u13 _ _ hp12,hD,hkl,?_⟩
      k_is
      rw [show 2*(k:Int)-(dAt ds k:Nat)=((2*k-dAt ds k:Nat):Int) by omega]
      refine ⟨p,ds,k,rfl,u13 _ _ hp12,hkl,?_⟩
      k_is
      rw [show ((2*k-dAt ds k:Nat):Int)+2*((Bj ds k:Nat)-(k:Int))=((2*k-dAt ds k+2*(Gc ds k).length:Nat):Int) by omega]
      refine ⟨x,dx12,_,rfl,u13 _ _ hx12,rfl,?_⟩
      k_is
      refine ⟨x,e,ls,prs,ds,k,rfl,hS12.kp (An.kp u13),hT12.same u13,hD,hfl,hkl,by omega,hl100,by omega,fun f b pc H14 hN hflN hS14 s14 _ _ _=>?_⟩
      have hS14:=hS14.kp Lv
      have m14:=(m12.trans (SmE.of (SmT.of m12.ok u13))).trans s14
      obtain ⟨ps14,he14,_⟩:=id hS14.he
      k_is
      refine ⟨p,ds,k,rfl,s14.k (u13 _ _ hp12) hpx hpe,hD,hkl,by omega,fun p15 H15 u15 hp150 hp15=>?_⟩
      k_is
      refine ⟨Nat.zero_le _,fun z2 hz2=>?_⟩
      have u16:=Al (o:=.lst []) hz2
      have e16:upd H15 z2 (.lst []) z2=some (.lst []):=Ae
      generalize upd H15 z2 (.lst [])=H16 at *
      have w16:=u15.trans u16
      k_is
      exact ⟨p15,z2,Us ds k,2*k-dAt ds k,2*k-dAt ds k+2*(Gc ds k).length,f,b,[],[],_,_,_,rfl,hS14.kp (An.kp w16),hflN,(Wr hD hkl).1,hN,by omega,by rw [hfl];omega,u16 _ _ hp15,(Ap he14 hp150).symm,e16,rfl,by decide,by have:=mS hkl;omega,w16 _ _ (s14.k (u13 _ _ hpp12) hppx hppe),m14.trans (SmE.of (SmT.of m14.ok w16))⟩
    ·have u0:=An.refl H12
     k_is
     refine ⟨p,_,rfl,.inl (SqL.of (u0 _ _ hp12)),?_⟩
     rw [List.length_map,Au]
     k_is
     refine ⟨_,_,rfl,rfl,by omega,?_⟩
     obtain ⟨ko,hko,hkol⟩:∃ ko:Option Nat,m/512%((ds.length:Int)+1)-1=kI ko/\∀ k,ko=some k->k<ds.length:=by
      have h1:=Int.emod_nonneg (m/512) (show (ds.length:Int)+1≠0 by omega)
      have h2:=Int.emod_lt_of_pos (m/512) (show (0:Int)<(ds.length:Int)+1 by omega)
      generalize m/512%((ds.length:Int)+1)=z at *
      by_cases hz:z=0
      ·exact ⟨none,by rw [hz];rfl,fun k hk=>by cases hk⟩
      ·exact ⟨some (z-1).toNat,by show z-1=(((z-1).toNat:Nat):Int);omega,fun k hk=>by have:=Option.some.inj hk;omega⟩
     k_is
     rw [hko]
     refine ⟨p,_,rfl,.inl (SqL.of (u0 _ _ hp12)),?_⟩
     rw [List.length_map,Au]
     k_is
     refine ⟨_,rfl,by omega,by omega,?_⟩
     rw [Int.toNat_natCast]
     refine G7 (fun i=>(Bq ds i (kI ko)).map fun j:Nat=>V.int (j:Nat)) rfl (fun i hi=>?_) (fun i H15 R A hi u15 hR hA=>?_) (fun D15 H15 hD15 u15 h15=>?_)
     ·rw [List.length_map]
      have:=P1 ds i (kI ko)
      exact Ak (by omega)
     ·k_is
      refine Bg (SqL.of (u15 _ _ (u0 _ _ hp12))) (v:=.int (eld ds i)) (by rw [Int.zero_add];exact Bc (by rw [List.getElem?_map,Cp hi];rfl)) ?_
      k_is
      refine Bz (fun e=>?_) (fun e=>?_)
      ·k_is
       refine hA _ _ ?_ (An.refl _)
       rw [Fn (V.int.inj e),List.map_append,Int.zero_add]
       rfl
      ·refine hR ?_ _ (An.refl _)
       rw [G1 (fun z=>e (congrArg V.int z))]
     have w15:=u0.trans u15
     k_is
     refine ⟨D15,_,rfl,.inl (SqL.of h15),?_⟩
     rw [List.length_map]
     k_is
     refine ⟨_,_,rfl,rfl,by omega,?_⟩
     obtain ⟨place,hplc,hpll⟩:∃ place:Nat,m/64%(((Bq ds ds.length (kI ko)).length:Int)+1)=(place:Int)/\place<=(Bq ds ds.length (kI ko)).length:=by
      have h1:=Int.emod_nonneg (m/64) (show ((Bq ds ds.length (kI ko)).length:Int)+1≠0 by omega)
      have h2:=Int.emod_lt_of_pos (m/64) (show (0:Int)<((Bq ds ds.length (kI ko)).length:Int)+1 by omega)
      exact ⟨(m/64%(((Bq ds ds.length (kI ko)).length:Int)+1)).toNat,by omega,by omega⟩
     obtain ⟨at',off,top,hG⟩:=jO hD hkol hpll
     obtain ⟨g1,g2,g3,g4⟩:=Vi hD hG
     obtain ⟨k1,k2,k3,k4⟩:=hG.ok hD
     k_is
     rw [hplc]
     refine ⟨p,ds,ko,place,at',off,top,rfl,w15 _ _ hp12,hD,by omega,hkol,hpll,hG,fun H16 u16=>?_⟩
     have w16:=w15.trans u16
     k_is
     refine ⟨x,dx12,_,rfl,w16 _ _ hx12,rfl,?_⟩
     k_is
     refine ⟨few (by simp),fun p17 hp17=>?_⟩
     have u17:=Al (o:=.lst [V.int (kI ko),V.non]) hp17
     k_is
     refine .inr ⟨_,rfl,?_⟩
     refine Bg (SqL.of Ae) (v:=Ng ko) ?_ ?_
     ·cases ko with
      | none =>
       rw [show decide (kI none<0)=true from rfl]
       rfl
      | some k =>
       rw [show decide (kI (some k)<0)=false from decide_eq_false (show ¬ (k:Int)<0 by omega)]
       rfl
     have w17:=w16.trans u17
     generalize upd H16 p17 (.lst [V.int (kI ko),V.non])=H17 at *
     have hS17:=hS12.kp (An.kp w17)
     k_is
     refine ⟨x,e,po,ls,prs,ds,os,ko,place,at',off,top,rfl,hS17,hT12.same w17,hD,hfl,w17 _ _ hpo,hDo,hG,by omega,by omega,hl100,by omega,fun f b H18 hN hflN hS18 s18 _=>?_⟩
     have m18:=(m12.trans (SmE.of (SmT.of m12.ok w17))).trans s18
     obtain ⟨ps18,he18,_⟩:=id hS18.he
     k_is
     refine ⟨p,po,ds,os,ko,place,rfl,s18.k (w17 _ _ hp12) hpx hpe,hD,by omega,hkol,hpll,s18.k (w17 _ _ hpo) hpox hpoe,hDo,by omega,fun at2 off2 top2 p19 H19 hG2 u19 hp190 hp19=>?_⟩
     obtain ⟨rfl,rfl⟩:=Sb hD hG hG2
     k_is
     refine ⟨p19,po,Ii ds os at' off,2*at'-off,2*at'-off,f,b,A5 os,(A0 os).map V.int,_,_,_,rfl,hS18.kp (An.kp u19),hflN,(Ls hD hDo k1 k2 k3).1,by rw [Bp hDo];exact hN,Nat.le_refl _,by rw [hfl];exact g2,hp19,(Ap he18 hp190).symm,u19 _ _ (s18.k (w17 _ _ hpo) hpox hpoe),by rw [Bp hDo,List.length_map,Au],by rw [List.length_map,Au];exact hol60,by rw [Rf];omega,u19 _ _ (s18.k (w17 _ _ hpp12) hppx hppe),m18.trans (SmE.of (SmT.of m18.ok u19))⟩
   ·rintro σ H13 ⟨p',o',ds',lo,hi,f,b,t,zs,v7,v11,v12,rfl,hSn,hfn,hDn,hN,hlh,hhi,hpn,hpne,hon,htl,hzl,hdl',hppn,mn⟩
    obtain ⟨dxn,rn,hxn,_⟩:=id hSn.hx
    have hpnx:p'≠x:=Lc hpn hxn (by intro z;cases z)
    have hnl:(Bu ls lo hi t f b).length<=400:=dH hlh hhi (by omega) hl100
    have hnz:Dt (Bu ls lo hi t f b):=Ts hsz
    have hnw:Fj (Bu ls lo hi t f b):=jG hsz hWd hN hlh hhi
    have hnrl:=Bp hDn
    k_is
    refine ⟨x,dxn,_,rfl,hxn,rfl,?_⟩
    k_is
    refine ⟨x,_,rfl,hSn.sh,fun pa H14 u14 hpa0 hpa=>?_⟩
    k_is
    refine ⟨o',_,rfl,.inl (SqL.of (u14 _ _ hon)),?_⟩
    k_is
    rw [show 2*(zs.length:Int)=((t.length:Nat):Int) by omega]
    refine ⟨pp,pa,ls,lo,hi,f,b,t,rfl,u14 _ _ hppn,hpa,hN,hsz,hfw,hnl,hlh,hhi,fun H15 u15=>?_⟩
    have w15:=u14.trans u15
    k_is
    refine ⟨p',ds',rfl,w15 _ _ hpn,hDn,by omega,fun H16 u16=>?_⟩
    have w16:=w15.trans u16
    k_is
    refine ⟨pa,Bu ls lo hi t f b,by rw [hfn];rfl,u16 _ _ (u15 _ _ hpa),hnz,hnw,hnl,by rw [hfn];omega,fun H17 u17=>?_⟩
    have w17:=w16.trans u17
    have hS17:=hSn.kp (An.kp w17)
    k_is
    refine ⟨x,dxn,_,rfl,w17 _ _ hxn,rfl,?_⟩
    k_is
    refine ⟨x,_,rfl,hS17.sh,fun p18 bs H18 u18 hp18 h18 hb18=>?_⟩
    have w18:=w17.trans u18
    have hpa18:=u18 _ _ (u17 _ _ (u16 _ _ (u15 _ _ hpa)))
    k_is
    refine ⟨pa,rfl,⟨_,SqL.of hpa18⟩,?_⟩
    generalize Bu ls lo hi t f b=ln at *
    refine P8 (SqL.of hpa18) (fun i ys H'=>∃ cs:List Addr,ys=cs.map V.ref/\Kh H' cs ln i) (fun _ _=>⟨[],rfl,rfl,fun k b x e=>by cases e⟩) (fun i ys H' D zs o hD ⟨bs,e1,e2⟩=>⟨bs,e1,e2.upd hD⟩) (fun i ys H' hi h=>?_) ?_ ?_
    ·obtain ⟨bs,rfl,h⟩:=h
     rw [List.length_map] at hi
     rw [List.length_map,h.1]
     exact Ak (by omega)
    ·intro i ys v H19 A R hv s19 hPv hA
     obtain ⟨cs,rfl,h⟩:=hPv
     obtain ⟨y,ey,rfl⟩:=Uu hv
     have hy:=hnz i y ey
     k_is
     refine ⟨y,rfl,hy.1,by omega,fun m t H20 hm s20 ht0 ht=>?_⟩
     exact hA _ _ s20 ⟨cs++[t],by rw [List.map_append];rfl,(h.kp (An.kp s20)).push ey ht hm⟩
    intro D19 ys H19 hD19 u19 hPv h19
    obtain ⟨qs,rfl,hc19⟩:=hPv
    rw [List.length_map] at hc19
    have w19:=w18.trans u19
    have h189:=u19 _ _ h18
    have hb19:=hb18.kp (An.kp u19)
    k_is
    have hsame:∀ (j:Nat) (y z:V),(bs.map V.ref)[j]?=some y->(qs.map V.ref)[j]?=some z->Cg K H19 59 y z:=fun j y z e1 e2=>by
     rw [List.getElem?_map] at e1 e2
     cases f1:bs[j]? with
     | none=>rw [f1] at e1;cases e1
     | some b1 =>
      cases f2:qs[j]? with
      | none=>rw [f2] at e2;cases e2
      | some c1 =>
       rw [f1] at e1
       rw [f2] at e2
       obtain rfl:=Option.some.inj e1
       obtain rfl:=Option.some.inj e2
       have hj:=Bw f1
       rw [hb19.1] at hj
       have hl:ln[j]?=some (ln[j]'hj):=List.getElem?_eq_getElem _
       obtain ⟨m1,k1,k2⟩:=hb19.2 j b1 _ f1 hl
       obtain ⟨m2,k3,k4⟩:=hc19.2 j c1 _ f2 hl
       obtain rfl:m1=m2:=Z4 k2 k4
       exact Cg.tups (SqT.of k1) (SqT.of k3) rfl
    refine Zf (Cg.lst (SqL.of h189) (SqL.of h19) (by rw [List.length_map,List.length_map,hb19.1,hc19.1]) hsame) ?_
    have hS19:=hSn.kp (An.kp w19)
    have m19:=mn.trans (SmE.of (SmT.of mn.ok w19))
    k_is
    refine ⟨x,p',_,ds',_,rfl,hS19.sh,hfn,w19 _ _ hpn,hDn,m19.ok,fun H20 u20=>?_⟩
    k_is
    exact ⟨p',ds',_,prs++[ls],_,_,_,_,_,_,_,_,_,_,rfl,hS19.kp u20.kp,hfn,hDn,hnw,u20.k (w19 _ _ hpn),hpne,by omega,by rw [List.length_append,hpr];rfl,m19.trans (SmE.of u20)⟩
  ·rintro σ H9 _
   k_is
   exact q H9
end
set_option maxHeartbeats 8000000 in
theorem all_mk:AllMk:=by
 intro l w K h mg fa X G hfa ab aa ac aA aB f22 od22 an22 sl22 oc22 kV22 dc22 pm22 ct22 oo22 f23 od23 an23 sl23 oc23 kV23 dc23 pm23 ct23 oo23 f30 od30 an30 sl30 oc30 kV30 dc30 pm30 ct30 oo30 t_MOST_KNOTS t_MOST_SIGNS_pairs t_MOST_SIGNS_woods t_PIECE_SIGNS t_ENOUGH_SIGNS cd_Piece fd_Piece cd_PiecedRow fd_PiecedRow cd_Shaped fd_Shaped bc_Heights bc_Openings g0 g1 g2 g3 g4 g5 g6 g7 g8 g9 g10 g11 g12 g13 g14 g15 g16 g17 g18 g19 g20 g21 i22 a22 l22 c22 k22 lc22 hc22 i23 a23 l23 c23 k23 lc23 hc23 g24 g25 g26 g27 g28 g29 i30 a30 l30 c30 k30 lc30 hc30 g31 g32 g33 g34 g35 g36 g37 g38 g39 g40 g41 g42 g43 g44 g45 g46 g47 g48 g49 g50 g51 g52 g53 g54 g55 g56 g57 g58 g59 g60 g61 g62 g63 g64 g65 g66 g67 g68 g69 g70 g71 g72 g73 g74 g75 g76 g77 g78 g_MOST_KNOTS g_MOST_SIGNS_pairs g_MOST_SIGNS_woods g_PIECE_SIGNS g_ENOUGH_SIGNS z_range z_len z_int z_bool z_str z_isinstance z_list z_tuple z_zip z_enumerate z_abs z_max z_min z_sum z_reversed
 obtain ⟨f78,d78,F78,a78⟩:=g78
 obtain ⟨_,_,kV78,dc78,pm78,an78,cd78,ct78,_,rfl,_,_⟩:=F78.ex
 have e:=hfa.symm.trans (PySem.W.mg_of X G a78)
 cases e
 have T:Txt K mg:=⟨⟨_,PySem.W.mg_of X G g_MOST_KNOTS⟩,⟨_,PySem.W.mg_of X G g_MOST_SIGNS_pairs⟩,⟨_,PySem.W.mg_of X G g_MOST_SIGNS_woods⟩,⟨_,PySem.W.mg_of X G g_PIECE_SIGNS⟩,⟨_,PySem.W.mg_of X G g_ENOUGH_SIGNS⟩,mg_none_of X G z_range,mg_none_of X G z_len,mg_none_of X G z_int,mg_none_of X G z_bool,mg_none_of X G z_str,mg_none_of X G z_isinstance,mg_none_of X G z_list,mg_none_of X G z_tuple,mg_none_of X G z_zip,mg_none_of X G z_enumerate,mg_none_of X G z_abs,mg_none_of X G z_max,mg_none_of X G z_min,mg_none_of X G z_sum,mg_none_of X G z_reversed⟩
 have Qc:Qc K ab:=⟨fd_Piece.cl,fd_Piece.no 0,fd_Piece.no 1,fd_Piece.no 2,fd_Piece.no 3⟩
 have Qa:Qa K aa:=⟨fd_PiecedRow.cl,fd_PiecedRow.no 0,fd_PiecedRow.no 1,fd_PiecedRow.no 2,fd_PiecedRow.no 3,fd_PiecedRow.no 4,fd_PiecedRow.no 5⟩
 have Qb:Qb K ac:=⟨fd_Shaped.cl,fd_Shaped.no 0,fd_Shaped.no 1⟩
 have F22:=Vf (st:=Bh) l22 c22 k22 lc22 hc22
 have b22:=F22.binds (ps:=["self","place"]) fun _ _ _ _ _ _=>us2 fun _ _=>rfl
 have F23:=Vf (st:=Bo) l23 c23 k23 lc23 hc23
 have b23:=F23.binds (ps:=["self","place"]) fun _ _ _ _ _ _=>us2 fun _ _=>rfl
 have F30:=Vf (st:=Bm) l30 c30 k30 lc30 hc30
 have b30:=F30.binds (ps:=["self","number"]) fun _ _ _ _ _ _=>us2 fun _ _=>rfl
 refine ⟨PySem.W.fnOf "law" "law" (C1 Mq) (Ck Mq) (Ah Mq) .none kV78 dc78 pm78 an78 cd78 ct78,fun s v=>.of_eq rfl,fun base hK _ hB=>?_⟩
 have V0:=GD.cal (P:=l.prog) (w:=w) (base:=base) (sp:=Iw) X G g0 fun F=>Yx F T
 have V1:=GD.cal (P:=l.prog) (w:=w) (base:=base) (sp:=Il) X G g1 fun F=>Wv F T V0
 have V2:=GD.cal (P:=l.prog) (w:=w) (base:=base) (sp:=M1) X G g2 fun F=>Rb F T V1
 have V3:=GD.cal (P:=l.prog) (w:=w) (base:=base) (sp:=Vj) X G g3 fun F=>Td F T V1
 have V4:=GD.cal (P:=l.prog) (w:=w) (base:=base) (sp:=W8) X G g4 fun F=>Pl F T V0
 have V5:=GD.cal (P:=l.prog) (w:=w) (base:=base) (sp:=Wp) X G g5 fun F=>K6 F T V0
 have V6:=GD.cal (P:=l.prog) (w:=w) (base:=base) (sp:=(Jx l.prog w K mg base 2)) X G g6 fun F=>S5 F T
 have V7:=GD.cal (P:=l.prog) (w:=w) (base:=base) (sp:=kX) X G g7 fun F=>Pk F T
 have V8:=GD.cal (P:=l.prog) (w:=w) (base:=base) (sp:=Hg) X G g8 fun F=>Tj F T
 have V9:=GD.cal (P:=l.prog) (w:=w) (base:=base) (sp:=(Y6 K)) X G g9 fun F=>bW F T V8
 have V10:=BD.calC (P:=l.prog) (w:=w) (base:=base) (sp:=(R1 aa)) X G bc_Heights g10 fun F=>We F T Qa
 have V11:=MD.mth (P:=l.prog) (w:=w) (base:=base) (sp:=(P2 ab aa)) Qa.cl g11 fun F=>Wf F T Qa
 have V12:=GD.cal (P:=l.prog) (w:=w) (base:=base) (sp:=Vv) X G g12 fun F=>W4 F T
 have V13:=GD.cal (P:=l.prog) (w:=w) (base:=base) (sp:=bZ) X G g13 fun F=>cS F T V0
 have V14:=GD.cal (P:=l.prog) (w:=w) (base:=base) (sp:=Rx) X G g14 fun F=>Vx F T
 have V15:=GD.cal (P:=l.prog) (w:=w) (base:=base) (sp:=Pm) X G g15 fun F=>fT F T V14 V13
 have V16:=GD.cal (P:=l.prog) (w:=w) (base:=base) (sp:=J8) X G g16 fun F=>Uw F T V12
 have V17:=BD.calC (P:=l.prog) (w:=w) (base:=base) (sp:=(S1 ac)) X G bc_Openings g17 fun F=>Wa F T Qb
 have V18:=MD.mth (P:=l.prog) (w:=w) (base:=base) (sp:=(Nj ab aa ac)) Qb.cl g18 fun F=>Ql F T Qb V11
 have V19:=MD.mkr (P:=l.prog) (w:=w) (base:=base) (sp:=(P9 ab)) X G cd_Piece g19 fun F=>Wn F T Qc V8 V9
 have V20:=GD.cal (P:=l.prog) (w:=w) (base:=base) (sp:=(Jt ab)) X G g20 fun F=>Ve F T V19
 have V21:=MD.mkr (P:=l.prog) (w:=w) (base:=base) (sp:=(Mz ab aa)) X G cd_PiecedRow g21 fun F=>Q8 F T Qa Qc V7 V10
 have V22:Mth l.prog w K mg base aa "stretch_at" 4 ["self","place"] (Nv ab aa [⟨759,Ag,"PiecedRow.opening.<locals>.<lambda>"⟩,⟨764,Ac,"PiecedRow.stretch_at.<locals>.<lambda>"⟩,⟨778,Ad,"PiecedRow.pieces_to.<locals>.<lambda>"⟩]):=⟨⟨f22,_,Qh F22 T hK (hB (768,764) (by simp)) (List.mem_cons_of_mem _ List.mem_cons_self) Qa V6,b22,⟨a22,i22,k22⟩⟩,Qa.cl⟩
 have V23:Mth l.prog w K mg base aa "pieces_to" 4 ["self","place"] (eV ab aa [⟨759,Ag,"PiecedRow.opening.<locals>.<lambda>"⟩,⟨764,Ac,"PiecedRow.stretch_at.<locals>.<lambda>"⟩,⟨778,Ad,"PiecedRow.pieces_to.<locals>.<lambda>"⟩]):=⟨⟨f23,_,Qm F23 T hK (hB (782,778) (by simp)) (List.mem_cons_of_mem _ (List.mem_cons_of_mem _ List.mem_cons_self)) Qa V6,b23,⟨a23,i23,k23⟩⟩,Qa.cl⟩
 have V24:=MD.mth (P:=l.prog) (w:=w) (base:=base) (sp:=(C9 ab aa [⟨759,Ag,"PiecedRow.opening.<locals>.<lambda>"⟩,⟨764,Ac,"PiecedRow.stretch_at.<locals>.<lambda>"⟩,⟨778,Ad,"PiecedRow.pieces_to.<locals>.<lambda>"⟩])) Qa.cl g24 fun F=>Qv F T Qa Qc V22 V23
 have V25:=MD.mth (P:=l.prog) (w:=w) (base:=base) (sp:=(Vc ab aa [⟨759,Ag,"PiecedRow.opening.<locals>.<lambda>"⟩,⟨764,Ac,"PiecedRow.stretch_at.<locals>.<lambda>"⟩,⟨778,Ad,"PiecedRow.pieces_to.<locals>.<lambda>"⟩])) Qa.cl g25 fun F=>Wg F T Qa V24
 have V26:=MD.mth (P:=l.prog) (w:=w) (base:=base) (sp:=(M7 ab aa [⟨759,Ag,"PiecedRow.opening.<locals>.<lambda>"⟩,⟨764,Ac,"PiecedRow.stretch_at.<locals>.<lambda>"⟩,⟨778,Ad,"PiecedRow.pieces_to.<locals>.<lambda>"⟩])) Qa.cl g26 fun F=>Qe F T Qa V22 V24
 have V27:=MD.mth (P:=l.prog) (w:=w) (base:=base) (sp:=(Gd ab aa [⟨759,Ag,"PiecedRow.opening.<locals>.<lambda>"⟩,⟨764,Ac,"PiecedRow.stretch_at.<locals>.<lambda>"⟩,⟨778,Ad,"PiecedRow.pieces_to.<locals>.<lambda>"⟩])) Qa.cl g27 fun F=>Q5 F T Qa V26
 have V28:=MD.mth (P:=l.prog) (w:=w) (base:=base) (sp:=(Pr ab aa [⟨759,Ag,"PiecedRow.opening.<locals>.<lambda>"⟩,⟨764,Ac,"PiecedRow.stretch_at.<locals>.<lambda>"⟩,⟨778,Ad,"PiecedRow.pieces_to.<locals>.<lambda>"⟩])) Qa.cl g28 fun F=>Qg F T Qa V24
 have V29:=MD.mth (P:=l.prog) (w:=w) (base:=base) (sp:=(My ab aa)) Qa.cl g29 fun F=>Qr F T Qa
 have V30:Mth l.prog w K mg base aa "opening" 4 ["self","number"] (Mg ab aa [⟨759,Ag,"PiecedRow.opening.<locals>.<lambda>"⟩,⟨764,Ac,"PiecedRow.stretch_at.<locals>.<lambda>"⟩,⟨778,Ad,"PiecedRow.pieces_to.<locals>.<lambda>"⟩]):=⟨⟨f30,_,Qu F30 T hK (hB (761,759) (by simp)) List.mem_cons_self Qa Qc V6,b30,⟨a30,i30,k30⟩⟩,Qa.cl⟩
 have V31:=MD.mth (P:=l.prog) (w:=w) (base:=base) (sp:=(Ik ab aa [⟨759,Ag,"PiecedRow.opening.<locals>.<lambda>"⟩,⟨764,Ac,"PiecedRow.stretch_at.<locals>.<lambda>"⟩,⟨778,Ad,"PiecedRow.pieces_to.<locals>.<lambda>"⟩])) Qa.cl g31 fun F=>Q9 F T Qa V22 V29
 have V32:=MD.mth (P:=l.prog) (w:=w) (base:=base) (sp:=(Sr ab aa [⟨759,Ag,"PiecedRow.opening.<locals>.<lambda>"⟩,⟨764,Ac,"PiecedRow.stretch_at.<locals>.<lambda>"⟩,⟨778,Ad,"PiecedRow.pieces_to.<locals>.<lambda>"⟩])) Qa.cl g32 fun F=>Qw F T Qa V22
 have V33:=MD.mth (P:=l.prog) (w:=w) (base:=base) (sp:=(T5 ab aa [⟨759,Ag,"PiecedRow.opening.<locals>.<lambda>"⟩,⟨764,Ac,"PiecedRow.stretch_at.<locals>.<lambda>"⟩,⟨778,Ad,"PiecedRow.pieces_to.<locals>.<lambda>"⟩])) Qa.cl g33 fun F=>Qd F T Qa V8 V24 V27
 have V34:=MD.mth (P:=l.prog) (w:=w) (base:=base) (sp:=(Ri ab aa [⟨759,Ag,"PiecedRow.opening.<locals>.<lambda>"⟩,⟨764,Ac,"PiecedRow.stretch_at.<locals>.<lambda>"⟩,⟨778,Ad,"PiecedRow.pieces_to.<locals>.<lambda>"⟩])) Qa.cl g34 fun F=>Qk F T Qa V33
 have V35:=MD.mth (P:=l.prog) (w:=w) (base:=base) (sp:=(O1 ab aa [⟨759,Ag,"PiecedRow.opening.<locals>.<lambda>"⟩,⟨764,Ac,"PiecedRow.stretch_at.<locals>.<lambda>"⟩,⟨778,Ad,"PiecedRow.pieces_to.<locals>.<lambda>"⟩])) Qa.cl g35 fun F=>Q2 F T Qa V2 V4 V31 V32 V34
 have V36:=MD.mth (P:=l.prog) (w:=w) (base:=base) (sp:=(Js ab aa [⟨759,Ag,"PiecedRow.opening.<locals>.<lambda>"⟩,⟨764,Ac,"PiecedRow.stretch_at.<locals>.<lambda>"⟩,⟨778,Ad,"PiecedRow.pieces_to.<locals>.<lambda>"⟩])) Qa.cl g36 fun F=>Q3 F T Qa V28 V35 V27
 have V37:=MD.mth (P:=l.prog) (w:=w) (base:=base) (sp:=(Rw ab aa [⟨759,Ag,"PiecedRow.opening.<locals>.<lambda>"⟩,⟨764,Ac,"PiecedRow.stretch_at.<locals>.<lambda>"⟩,⟨778,Ad,"PiecedRow.pieces_to.<locals>.<lambda>"⟩])) Qa.cl g37 fun F=>Qj F T Qa V33
 have V38:=MD.mth (P:=l.prog) (w:=w) (base:=base) (sp:=(Of ab aa [⟨759,Ag,"PiecedRow.opening.<locals>.<lambda>"⟩,⟨764,Ac,"PiecedRow.stretch_at.<locals>.<lambda>"⟩,⟨778,Ad,"PiecedRow.pieces_to.<locals>.<lambda>"⟩])) Qa.cl g38 fun F=>Q1 F T Qa V2 V4 V31 V32 V37
 have V39:=MD.mth (P:=l.prog) (w:=w) (base:=base) (sp:=(R9 ab aa [⟨759,Ag,"PiecedRow.opening.<locals>.<lambda>"⟩,⟨764,Ac,"PiecedRow.stretch_at.<locals>.<lambda>"⟩,⟨778,Ad,"PiecedRow.pieces_to.<locals>.<lambda>"⟩])) Qa.cl g39 fun F=>Qn F T Qa V22 V29
 have V40:=MD.mth (P:=l.prog) (w:=w) (base:=base) (sp:=(Mx ab aa [⟨759,Ag,"PiecedRow.opening.<locals>.<lambda>"⟩,⟨764,Ac,"PiecedRow.stretch_at.<locals>.<lambda>"⟩,⟨778,Ad,"PiecedRow.pieces_to.<locals>.<lambda>"⟩])) Qa.cl g40 fun F=>Qf F T Qa V22 V39 V33 V32
 have V41:=MD.mth (P:=l.prog) (w:=w) (base:=base) (sp:=(Va ab aa [⟨759,Ag,"PiecedRow.opening.<locals>.<lambda>"⟩,⟨764,Ac,"PiecedRow.stretch_at.<locals>.<lambda>"⟩,⟨778,Ad,"PiecedRow.pieces_to.<locals>.<lambda>"⟩])) Qa.cl g41 fun F=>Qp F T Qa V33
 have V42:=MD.mth (P:=l.prog) (w:=w) (base:=base) (sp:=(Px ab aa [⟨759,Ag,"PiecedRow.opening.<locals>.<lambda>"⟩,⟨764,Ac,"PiecedRow.stretch_at.<locals>.<lambda>"⟩,⟨778,Ad,"PiecedRow.pieces_to.<locals>.<lambda>"⟩])) Qa.cl g42 fun F=>Qo F T Qa V27 V40 V31
 have V43:=MD.mth (P:=l.prog) (w:=w) (base:=base) (sp:=(Zq ab aa [⟨759,Ag,"PiecedRow.opening.<locals>.<lambda>"⟩,⟨764,Ac,"PiecedRow.stretch_at.<locals>.<lambda>"⟩,⟨778,Ad,"PiecedRow.pieces_to.<locals>.<lambda>"⟩])) Qa.cl g43 fun F=>Qt F T Qa V27 V40 V41 V31
 have V44:=MD.mth (P:=l.prog) (w:=w) (base:=base) (sp:=(Z9 ab aa ac [⟨759,Ag,"PiecedRow.opening.<locals>.<lambda>"⟩,⟨764,Ac,"PiecedRow.stretch_at.<locals>.<lambda>"⟩,⟨778,Ad,"PiecedRow.pieces_to.<locals>.<lambda>"⟩])) Qb.cl g44 fun F=>Wh F T Qb V25
 have V45:=MD.mth (P:=l.prog) (w:=w) (base:=base) (sp:=(Uc ab aa ac [⟨759,Ag,"PiecedRow.opening.<locals>.<lambda>"⟩,⟨764,Ac,"PiecedRow.stretch_at.<locals>.<lambda>"⟩,⟨778,Ad,"PiecedRow.pieces_to.<locals>.<lambda>"⟩])) Qb.cl g45 fun F=>Q4 F T Qb V16 V44
 have V46:=MD.mth (P:=l.prog) (w:=w) (base:=base) (sp:=(G2 ab aa ac [⟨759,Ag,"PiecedRow.opening.<locals>.<lambda>"⟩,⟨764,Ac,"PiecedRow.stretch_at.<locals>.<lambda>"⟩,⟨778,Ad,"PiecedRow.pieces_to.<locals>.<lambda>"⟩])) Qb.cl g46 fun F=>Q0 F T Qb V3 V18 V30
 have V47:=MD.mth (P:=l.prog) (w:=w) (base:=base) (sp:=(K2 ab aa ac [⟨759,Ag,"PiecedRow.opening.<locals>.<lambda>"⟩,⟨764,Ac,"PiecedRow.stretch_at.<locals>.<lambda>"⟩,⟨778,Ad,"PiecedRow.pieces_to.<locals>.<lambda>"⟩])) Qb.cl g47 fun F=>Qy F T Qb V46 V36
 have V48:=MD.mth (P:=l.prog) (w:=w) (base:=base) (sp:=(U3 ab aa ac [⟨759,Ag,"PiecedRow.opening.<locals>.<lambda>"⟩,⟨764,Ac,"PiecedRow.stretch_at.<locals>.<lambda>"⟩,⟨778,Ad,"PiecedRow.pieces_to.<locals>.<lambda>"⟩])) Qb.cl g48 fun F=>Wb F T Qb V46 V47 V42
 have V49:=MD.mth (P:=l.prog) (w:=w) (base:=base) (sp:=(Wq ab aa ac [⟨759,Ag,"PiecedRow.opening.<locals>.<lambda>"⟩,⟨764,Ac,"PiecedRow.stretch_at.<locals>.<lambda>"⟩,⟨778,Ad,"PiecedRow.pieces_to.<locals>.<lambda>"⟩])) Qb.cl g49 fun F=>Qq F T Qb V11 V42
 have V50:=MD.mth (P:=l.prog) (w:=w) (base:=base) (sp:=(O3 ab aa ac [⟨759,Ag,"PiecedRow.opening.<locals>.<lambda>"⟩,⟨764,Ac,"PiecedRow.stretch_at.<locals>.<lambda>"⟩,⟨778,Ad,"PiecedRow.pieces_to.<locals>.<lambda>"⟩])) Qb.cl g50 fun F=>Qz F T Qb V26 V28 V36
 have V51:=MD.mth (P:=l.prog) (w:=w) (base:=base) (sp:=(Nc ab aa ac [⟨759,Ag,"PiecedRow.opening.<locals>.<lambda>"⟩,⟨764,Ac,"PiecedRow.stretch_at.<locals>.<lambda>"⟩,⟨778,Ad,"PiecedRow.pieces_to.<locals>.<lambda>"⟩])) Qb.cl g51 fun F=>Q6 F T Qb V46 V27
 have V52:=MD.mth (P:=l.prog) (w:=w) (base:=base) (sp:=(Z6 ab aa ac [⟨759,Ag,"PiecedRow.opening.<locals>.<lambda>"⟩,⟨764,Ac,"PiecedRow.stretch_at.<locals>.<lambda>"⟩,⟨778,Ad,"PiecedRow.pieces_to.<locals>.<lambda>"⟩])) Qb.cl g52 fun F=>Wk F T Qb V5 V51 V50 V38 V46
 have V53:=MD.mth (P:=l.prog) (w:=w) (base:=base) (sp:=(Sj ab aa ac [⟨759,Ag,"PiecedRow.opening.<locals>.<lambda>"⟩,⟨764,Ac,"PiecedRow.stretch_at.<locals>.<lambda>"⟩,⟨778,Ad,"PiecedRow.pieces_to.<locals>.<lambda>"⟩])) Qb.cl g53 fun F=>Q7 F T Qb V52
 have V54:=MD.mth (P:=l.prog) (w:=w) (base:=base) (sp:=(Me ab aa ac [⟨759,Ag,"PiecedRow.opening.<locals>.<lambda>"⟩,⟨764,Ac,"PiecedRow.stretch_at.<locals>.<lambda>"⟩,⟨778,Ad,"PiecedRow.pieces_to.<locals>.<lambda>"⟩])) Qb.cl g54 fun F=>Qx F T Qb V47 V46
 have V55:=MD.mth (P:=l.prog) (w:=w) (base:=base) (sp:=(W2 ab aa [⟨759,Ag,"PiecedRow.opening.<locals>.<lambda>"⟩,⟨764,Ac,"PiecedRow.stretch_at.<locals>.<lambda>"⟩,⟨778,Ad,"PiecedRow.pieces_to.<locals>.<lambda>"⟩])) Qa.cl g55 fun F=>Qs F T Qa V22 V23 V24 V20 V21
 have V56:=MD.mkr (P:=l.prog) (w:=w) (base:=base) (sp:=(Vr ab aa ac)) X G cd_Shaped g56 fun F=>Wl F T Qb V15 V20 V21 V17
 have V57:=MD.mth (P:=l.prog) (w:=w) (base:=base) (sp:=(N4 ab aa ac)) Qb.cl g57 fun F=>Wc F T Qb Qa Qc
 have V58:=MD.mth (P:=l.prog) (w:=w) (base:=base) (sp:=(Xa ab aa ac)) Qb.cl g58 fun F=>Wm F T Qb Qa Qc
 have V59:=MD.mth (P:=l.prog) (w:=w) (base:=base) (sp:=(Ps ab aa ac [⟨759,Ag,"PiecedRow.opening.<locals>.<lambda>"⟩,⟨764,Ac,"PiecedRow.stretch_at.<locals>.<lambda>"⟩,⟨778,Ad,"PiecedRow.pieces_to.<locals>.<lambda>"⟩])) Qb.cl g59 fun F=>Qi F T Qb Qa V55
 have V60:=MD.mth (P:=l.prog) (w:=w) (base:=base) (sp:=(cY ab aa ac [⟨759,Ag,"PiecedRow.opening.<locals>.<lambda>"⟩,⟨764,Ac,"PiecedRow.stretch_at.<locals>.<lambda>"⟩,⟨778,Ad,"PiecedRow.pieces_to.<locals>.<lambda>"⟩])) Qb.cl g60 fun F=>Wo F T Qb V46 V47 V24 V59 V16
 have V61:=MD.mth (P:=l.prog) (w:=w) (base:=base) (sp:=(Ra ab aa ac [⟨759,Ag,"PiecedRow.opening.<locals>.<lambda>"⟩,⟨764,Ac,"PiecedRow.stretch_at.<locals>.<lambda>"⟩,⟨778,Ad,"PiecedRow.pieces_to.<locals>.<lambda>"⟩])) Qb.cl g61 fun F=>Wi F T Qb V49 V48 V1 V15 V18 V46 V43 V59
 have V62:=GD.cal (P:=l.prog) (w:=w) (base:=base) (sp:=(Vz K)) X G g62 fun F=>Sv F T
 have V63:=GD.cal (P:=l.prog) (w:=w) (base:=base) (sp:=Pu) X G g63 fun F=>Vm F T
 have V64:=GD.cal (P:=l.prog) (w:=w) (base:=base) (sp:=(Rk K)) X G g64 fun F=>Ti F T V62 V63
 have V65:=GD.cal (P:=l.prog) (w:=w) (base:=base) (sp:=bV) X G g65 fun F=>Ys F T
 have V66:=GD.cal (P:=l.prog) (w:=w) (base:=base) (sp:=Wy) X G g66 fun F=>U0 F T
 have V67:=GD.cal (P:=l.prog) (w:=w) (base:=base) (sp:=kB) X G g67 fun F=>Zt F T
 have V68:=GD.cal (P:=l.prog) (w:=w) (base:=base) (sp:=Tr) X G g68 fun F=>bX F T
 have V69:=GD.cal (P:=l.prog) (w:=w) (base:=base) (sp:=Os) X G g69 fun F=>Sy F T V68
 have V70:=GD.cal (P:=l.prog) (w:=w) (base:=base) (sp:=W3) X G g70 fun F=>X1 F T V68
 have V71:=GD.cal (P:=l.prog) (w:=w) (base:=base) (sp:=Zd) X G g71 fun F=>Xp F T V70
 have V72:=GD.cal (P:=l.prog) (w:=w) (base:=base) (sp:=Uz) X G g72 fun F=>Xn F T
 have V73:=GD.cal (P:=l.prog) (w:=w) (base:=base) (sp:=Xu) X G g73 fun F=>Vk F T
 have V74:=GD.cal (P:=l.prog) (w:=w) (base:=base) (sp:=kC) X G g74 fun F=>Wz F T V70 V73
 have V75:=GD.cal (P:=l.prog) (w:=w) (base:=base) (sp:=cO) X G g75 fun F=>Yn F T
 have V76:=GD.cal (P:=l.prog) (w:=w) (base:=base) (sp:=cX) X G g76 fun F=>Sx F T
 have V77:=GD.cal (P:=l.prog) (w:=w) (base:=base) (sp:=(Vh ab aa ac [⟨759,Ag,"PiecedRow.opening.<locals>.<lambda>"⟩,⟨764,Ac,"PiecedRow.stretch_at.<locals>.<lambda>"⟩,⟨778,Ad,"PiecedRow.pieces_to.<locals>.<lambda>"⟩])) X G g77 fun F=>W5 F T Qb V53 V54 V68 V51 V73
 exact pP F78 T Qb V62 V63 V64 V65 V66 V73 V68 V60 V69 V74 V61 V71 V57 V75 V76 V67 V58 V72 V77 V56
end TK
theorem PySem.Challenge.cw_tightwood_k76_pieces_that_stay_holds : PySem.Challenge.rw_tightwood_k76_pieces_that_stay.Holds :=
 TK.HEAD @TK.all_mk
#print axioms PySem.Challenge.cw_tightwood_k76_pieces_that_stay_holds
