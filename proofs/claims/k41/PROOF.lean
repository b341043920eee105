import PyProof.Rows.All
import Wide.All
import OpenK.AllK
import Wide.FinOn
import Lean
import PyProof.EqAt
import PyProof.EqKinds
import PyProof.TupleCall
import KE.KDictOf
import KE.KItemsList
import KE.KLam
import KE.KNest
import KE.KNestM
import KE.KRevIter
import KE.KSortKey
import KE.KSortTup
import KE.KTryMore
import OpenK.KCls
import PyProof.AttrMissHeap
import PyProof.Draws
import PyProof.EnumMake
import PyProof.EnumStmt
import PyProof.FactsAll.list
import PyProof.InstStoreFacts
import PyProof.IsiH_list
import PyProof.ListNew
import PyProof.ListRange
import PyProof.ObjNew
import PyProof.Rows.SortShell
import PyProof.Rows.SortStr
import PyProof.SliceList
import PyProof.StrBlockL
import PyProof.StrLawsChain
import PyProof.StrLawsIn
import PyProof.WalksEnum
import PyProof.ZipIter
import PySem.Challenge.RW_tightwood_k41_rows_by_levels
set_option Elab.async false
set_option linter.all false
set_option maxRecDepth 100000
set_option maxHeartbeats 4000000
local macro_rules | `(tactic| omega) => `(tactic| first | assumption | exact rfl | exact Nat.zero_le _ | exact Nat.le_refl _ | exact Nat.le_of_lt (by assumption) | lia | omega (splitDisjunctions := true))
open PySem.W (instObj lookIn emptyDict kitOne kia_one callWith_K CodeHd kla_obj kla_fn km_in_of mg_none_of)
namespace L2
open PySem PySem.Spec PyProof.Rows
abbrev Key:=Sum Int Str
def Sm:Key->Value->Bool
 | .inl k,v=>Value.isInt k v
 | .inr x,v=>Value.isStrOf x v
def xN (w:World):Key->Int
 | .inl k=>hashInt k
 | .inr x=>hashStr w x
theorem Ch:∀ {k:Key} {v:Value},Sm k v=true->(∃ i t,k=Sum.inl i/\v=Value.int i t)\/(∃ x t,k=Sum.inr x/\v=Value.str x t)
 | .inl i,v,h=>by
  obtain ⟨t,e⟩:=Value.isInt_shape (k:=i) (v:=v) h;exact .inl ⟨i,t,rfl,e⟩
 | .inr x,v,h=>by
  obtain ⟨t,e⟩:=Value.isStrOf_shape (x:=x) (v:=v) h;exact .inr ⟨x,t,rfl,e⟩
theorem eE (i:Int)(t:Tok):Sm (.inl i) (.int i t)=true:=by simp [Sm,Value.isInt]
theorem fN (x:Str)(t:Tok):Sm (.inr x) (.str x t)=true:=by simp [Sm,Value.isStrOf]
theorem qO (a b:Int):decide ((Sum.inl a:Key)=Sum.inl b)=(a==b):=by
 by_cases e:a=b
 ·subst e;simp
 ·have h:¬ (Sum.inl a:Key)=Sum.inl b:=fun q=>e (Sum.inl.inj q)
  rw [decide_eq_false h];exact (beq_eq_false_iff_ne.mpr e).symm
theorem tP (a b:Str):decide ((Sum.inr a:Key)=Sum.inr b)=decide (a=b):=by
 by_cases e:a=b
 ·subst e;simp
 ·have h:¬ (Sum.inr a:Key)=Sum.inr b:=fun q=>e (Sum.inr.inj q)
  rw [decide_eq_false h,decide_eq_false e]
theorem tF (a:Int)(b:Str):decide ((Sum.inl a:Key)=Sum.inr b)=false:=decide_eq_false (fun q=>nomatch q)
theorem rM (a:Str)(b:Int):decide ((Sum.inr a:Key)=Sum.inl b)=false:=decide_eq_false (fun q=>nomatch q)
def B5 (prog:Program)(w:World):PySem.KeyKind prog w Key where
 is:=Sm
 hash:=xN w
 inj:=fun v a b ha hb=>by
  rcases Ch ha with ⟨i,t,rfl,rfl⟩ | ⟨x,t,rfl,rfl⟩
  ·rcases Ch hb with ⟨j,u,rfl,e⟩ | ⟨y,u,rfl,e⟩
   ·injection e with e1 _;rw [e1]
   ·exact nomatch e
  ·rcases Ch hb with ⟨j,u,rfl,e⟩ | ⟨y,u,rfl,e⟩
   ·exact nomatch e
   ·injection e with e1 _;rw [e1]
 byValue:=fun k v h=>by
  rcases Ch h with ⟨i,t,rfl,rfl⟩ | ⟨x,t,rfl,rfl⟩<;>rfl
 pyHash:=fun hv h=>by
  rcases Ch hv with ⟨i,t,rfl,rfl⟩ | ⟨x,t,rfl,rfl⟩
  ·exact wpAny_pyHash_int h
  ·exact wpAny_pyHash_str h
 eqBool:=fun hu hv h=>by
  rcases Ch hu with ⟨i,t,rfl,rfl⟩ | ⟨x,t,rfl,rfl⟩
  ·rcases Ch hv with ⟨j,u,rfl,rfl⟩ | ⟨y,u,rfl,rfl⟩
   ·rw [qO] at h;exact wpAny_eqBool_int h
   ·rw [tF] at h;exact SeqAt.EqAt.int_str i t y u _ _ _ _ h
  ·rcases Ch hv with ⟨j,u,rfl,rfl⟩ | ⟨y,u,rfl,rfl⟩
   ·rw [rM] at h;exact SeqAt.EqAt.str_int x t j u _ _ _ _ h
   ·rw [tP] at h;exact wpAny_eqBool_str h
 «strs»:=fun k x t v h=>by
  rcases Ch h with ⟨i,u,rfl,e⟩ | ⟨y,u,rfl,e⟩
  ·exact nomatch e
  ·injection e with e1 _
   subst e1;cases v<;>rfl
theorem J6 (prog:Program)(w:World)(i:Int)(t:Tok):(B5 prog w).is (.inl i) (.int i t)=true:=eE i t
theorem Xx (prog:Program)(w:World)(x:Str)(t:Tok):(B5 prog w).is (.inr x) (.str x t)=true:=fN x t
inductive V where
 | non | bl (b:Bool) | int (i:Int) | str (x:Str) | byt (b:Array UInt8) | flt (b:UInt64) | ref (a:Addr) | ty (n:String)
 deriving DecidableEq
def Ba:V->Value->Prop
 | .non,u=>u=Value.none
 | .bl b,u=>u=Value.bool b
 | .int i,u=>∃ t,u=Value.int i t
 | .str x,u=>∃ t,u=Value.str x t
 | .byt b,u=>∃ t,u=Value.bytes b t
 | .flt b,u=>∃ t,u=Value.float b t
 | .ref a,u=>u=Value.ref a
 | .ty n,u=>u=Value.type n
abbrev Az:List V->List Value->Prop:=Paired Ba
theorem Az.length {xs:List V}{us:List Value}(r:Az xs us):xs.length=us.length:=Paired.length r
theorem Az.get:∀ {xs:List V} {us:List Value} {i:Nat} {x:V},Az xs us->xs[i]?=some x->∃ u,us[i]?=some u/\Ba x u
 | _,_,_,_,.nil,e=>by simp at e
 | _,_,0,_,.cons r _,e=>by simp at e;subst e;exact ⟨_,rfl,r⟩
 | _,_,i+1,x,.cons _ t,e=>by
  obtain ⟨u,h1,h2⟩:=Az.get (i:=i) (x:=x) t (by simpa using e);exact ⟨u,by simpa using h1,h2⟩
theorem Az.set {x:V}{u:Value}(r:Ba x u):∀ {xs:List V} {us:List Value} (i:Nat),Az xs us->Az (xs.set i x) (us.set i u)
 | _,_,_,.nil=>.nil
 | _,_,0,.cons _ t=>.cons r t
 | _,_,i+1,.cons q t=>.cons q (Az.set r i t)
theorem Az.append:∀ {xs ys:List V} {us ws:List Value},Az xs us->Az ys ws->Az (xs++ys) (us++ws)
 | _,_,_,_,.nil,s=>s
 | _,_,_,_,.cons r t,s=>.cons r (Az.append t s)
theorem Az.take:∀ {xs:List V} {us:List Value} (n:Nat),Az xs us->Az (xs.take n) (us.take n)
 | _,_,0,_=>.nil
 | _,_,_+1,.nil=>.nil
 | _,_,n+1,.cons r t=>.cons r (Az.take n t)
theorem Az.drop:∀ {xs:List V} {us:List Value} (n:Nat),Az xs us->Az (xs.drop n) (us.drop n)
 | _,_,0,r=>r
 | _,_,_+1,.nil=>.nil
 | _,_,n+1,.cons _ t=>Az.drop n t
def Mg:Option V->Option Value->Prop
 | some v,some u=>Ba v u
 | none,none=>True
 | _,_=>False
def KV {κ:Type}:List (κ×V)->List (κ×Value)->Prop:=Paired fun (p:κ×V) (q:κ×Value)=>p.1=q.1/\Ba p.2 q.2
def kV:Key->V
 | .inl i=>.int i
 | .inr x=>.str x
inductive HO where
  | lst (xs:List V)
  | tup (xs:List V)
  | dK (kvs:List (Key×V)) | dT (kvs:List (List Key×V))
  | set (S:Int->Bool) (n:Nat)
  | ins (C dx:Addr) (fs:List (Str×V))
  | own (x:Addr)
  | xd (fs:List (Str×V))
  | met (f x:Addr)
  | rng (lo hi:Int)
  | frz (o:Obj) (u:HO)
  | tbl (ps:Array Value)
  | ext (φ:Heap->Prop)
abbrev Hp:=Addr->Option HO
def upd (H:Hp)(a:Addr)(o:HO):Hp:=fun b=>if b=a then some o else H b
theorem Ab {H:Hp}{a:Addr}{o:HO}:upd H a o a=some o:=by unfold upd;rw [if_pos rfl]
theorem Ai {H:Hp}{a b:Addr}{o:HO}(h:b≠a):upd H a o b=H b:=by unfold upd;rw [if_neg h]
theorem cI {H:Hp}{a:Addr}{o u:HO}:upd (upd H a o) a u=upd H a u:=by
 funext b;unfold upd;split<;>rfl
theorem D8 {H:Hp}{a b:Addr}{o u:HO}(h:H a=some o)(h':H b=some u)(d:o≠u):a≠b:=by
 intro e;subst e;rw [h] at h';exact d (Option.some.inj h')
theorem Ak {H:Hp}{a b:Addr}{o:HO}(h:H a=some o)(h':H b=none):a≠b:=by
 intro e;subst e;rw [h] at h';cases h'
section
variable (P:Program) (w:World)
def Cp (H:Hp)(h:Heap)(a:Addr):HO->Prop
 | .lst xs=>xs.length<=sizeLine/\∃ (its:List Value) (n:Nat),Az xs its/\h.get? a=some { cls:=.type "list",data:=.seq its.toArray n }
 | .tup xs=>xs.length<=sizeLine/\∃ its:List Value,Az xs its/\IsTup h a its.toArray
 | .dK kvs=>kvs.length<=sizeLine/\(a==sysModules)=false/\∃ vs,KV kvs vs/\h.DictOf (B5 P w) a vs
 | .dT kvs=>kvs.length<=sizeLine/\(a==sysModules)=false/\∃ xs:List (List Key×Addr×Value),
   Paired (fun (p:List Key×V) (q:List Key×Addr×Value)=>p.1=q.1/\H q.2.1=some (.tup (p.1.map kV))/\Ba p.2 q.2.2) kvs xs /\
   ∃ o es ep,h.get? a=some o/\o.ExactDict/\o.data=.dict es ep/\es.toList=xs.map (entryOfKey (tupleKind (B5 P w)))/\(xs.map (·.1)).Nodup
 | .set S n=>h.SetOf (intKind P w) a S n
 | .ins C dx fs=>H dx=some (.own a)/\fs.length<=1000/\dx≠a/\h.get? a=some (instObj C dx) /\
   ∃ mA,h.Ns1 dx mA/\(∀ f,Mg (fs.lookup f) (mA f))/\PySem.Within mA (fs.map (·.1))
 | .own _=>∃ o,h.get? a=some o
 | .xd fs=>∃ mA,h.Ns1 a mA/\∀ f,Mg (fs.lookup f) (mA f)
 | .rng lo hi=>∃ t u v,h.get? a=some { cls:=.type "range",data:=.fields #[.int lo t,.int hi u,.int 1 v] }
 | .frz o u=>h.get? a=some o/\Cp H h a u
 | .tbl ps=>h.get? a=some { cls:=.none,data:=.fields ps }
 | .met f x=>h.get? a=some (PySem.W.methodObj (.ref f) (.ref x))
 | .ext φ=>φ h/\(∃ o,h.get? a=some o)/\∀ h1 h2:Heap,φ h1->(∀ o,h1.get? a=some o->h2.get? a=some o)->φ h2
def HOk (H:Hp)(h:Heap):Prop:=∀ a o,H a=some o->Cp P w H h a o
end
section
variable {P:Program} {w:World} {H H':Hp} {h h':Heap} {a:Addr} {o:HO}
theorem Cp.lt (x:Cp P w H h a o):a<h.objs.size:=by
 cases o with
 | lst xs=>obtain ⟨_,_,_,_,e⟩:=x;exact Heap.lt_size e
 | tup xs=>obtain ⟨_,_,_,p⟩:=x;exact p.lt
 | dK kvs=>obtain ⟨_,_,_,_,o,_,_,e,_⟩:=x;exact Heap.lt_size e
 | dT kvs=>obtain ⟨_,_,_,_,o,_,_,e,_⟩:=x;exact Heap.lt_size e
 | set S n=>obtain ⟨o,_,_,_,e,_⟩:=x;exact Heap.lt_size e
 | ins C dx fs=>obtain ⟨_,_,_,e,_⟩:=x;exact Heap.lt_size e
 | own y=>obtain ⟨_,e⟩:=x;exact Heap.lt_size e
 | xd fs=>obtain ⟨_,⟨_,_,_,e,_⟩,_⟩:=x;exact Heap.lt_size e
 | rng lo hi=>obtain ⟨_,_,_,e⟩:=x;exact Heap.lt_size e
 | frz ob u=>obtain ⟨e,_⟩:=x;exact Heap.lt_size e
 | tbl ps=>exact Heap.lt_size (show h.get? a=some _ from x)
 | met f y=>exact Heap.lt_size (show h.get? a=some _ from x)
 | ext φ=>obtain ⟨_,⟨_,e⟩,_⟩:=x;exact Heap.lt_size e
theorem Paired.mapP {α β:Type}{F G:α->β->Prop}:∀ {l₁:List α} {l₂:List β},Paired F l₁ l₂->(∀ a b,F a b->G a b)->Paired G l₁ l₂
 | _,_,.nil,_=>.nil
 | _,_,.cons r t,f=>.cons (f _ _ r) (Paired.mapP t f)
theorem Cp.stay (x:Cp P w H h a o)(k:∀ b u,(b=a\/H b=some (.own a))->h.get? b=some u->h'.get? b=some u)
  (ho:∀ b,H b=some (.own a)->H' b=some (.own a))(ht:∀ b xs,H b=some (.tup xs)->H' b=some (.tup xs)):Cp P w H' h' a o:=by
 induction o with
 | lst xs=>obtain ⟨z,its,n,r,e⟩:=x;exact ⟨z,its,n,r,k _ _ (.inl rfl) e⟩
 | tup xs=>obtain ⟨z,its,r,ob,e,c⟩:=x;exact ⟨z,its,r,ob,k _ _ (.inl rfl) e,c⟩
 | dK kvs=>obtain ⟨z,y,vs,r,ob,es,ep,e,c⟩:=x;exact ⟨z,y,vs,r,ob,es,ep,k _ _ (.inl rfl) e,c⟩
 | dT kvs =>
  obtain ⟨z,y,xs,r,ob,es,ep,e,c⟩:=x;exact ⟨z,y,xs,Paired.mapP r fun p q z=>⟨z.1,ht _ _ z.2.1,z.2.2⟩,ob,es,ep,k _ _ (.inl rfl) e,c⟩
 | set S n=>obtain ⟨ob,es,ep,t,e,c⟩:=x;exact ⟨ob,es,ep,t,k _ _ (.inl rfl) e,c⟩
 | ins C dx fs =>
  obtain ⟨d,z,ne,e,mA,⟨od,es,ep,e2,c⟩,r⟩:=x;exact ⟨ho _ d,z,ne,k _ _ (.inl rfl) e,mA,⟨od,es,ep,k _ _ (.inr d) e2,c⟩,r⟩
 | own y=>obtain ⟨ob,e⟩:=x;exact ⟨ob,k _ _ (.inl rfl) e⟩
 | xd fs=>obtain ⟨mA,⟨od,es,ep,e,c⟩,r⟩:=x;exact ⟨mA,⟨od,es,ep,k _ _ (.inl rfl) e,c⟩,r⟩
 | rng lo hi=>obtain ⟨t,u,v,e⟩:=x;exact ⟨t,u,v,k _ _ (.inl rfl) e⟩
 | frz ob u ih=>obtain ⟨e,q⟩:=x;exact ⟨k _ _ (.inl rfl) e,ih q⟩
 | tbl ps =>
  have e:h.get? a=some { cls:=.none,data:=.fields ps }:=x;show h'.get? a=some { cls:=.none,data:=.fields ps };exact k a _ (.inl rfl) e
 | met f y =>
  have e:h.get? a=some (PySem.W.methodObj (.ref f) (.ref y)):=x;show h'.get? a=some (PySem.W.methodObj (.ref f) (.ref y));exact k a _ (.inl rfl) e
 | ext φ=>obtain ⟨p,⟨o,e⟩,st⟩:=x;exact ⟨st _ _ p fun o q=>k _ _ (.inl rfl) q,⟨o,k _ _ (.inl rfl) e⟩,st⟩
theorem HOk.lt (x:HOk P w H h)(e:H a=some o):a<h.objs.size:=(x a o e).lt
theorem HOk.fresh (x:HOk P w H h)(e:h.objs.size<=a):H a=none:=by
 cases q:H a with
 | none=>rfl
 | some u=>exact absurd (Nat.lt_of_lt_of_le (x.lt q) e) (Nat.lt_irrefl _)
theorem HOk.kept (x:HOk P w H h)(k:∀ b u,h.get? b=some u->h'.get? b=some u):HOk P w H h':=fun a o e =>
 (x a o e).stay (fun b u _ q=>k b u q) (fun _ q=>q) fun _ _ q=>q
theorem HOk.laid (x:HOk P w H h)(k:∀ b u,h.get? b=some u->h'.get? b=some u)(hp:h.objs.size<=a)(new:Cp P w (upd H a o) h' a o):HOk P w (upd H a o) h':=fun b u e=>by
 have hn:=x.fresh hp
 by_cases hb:b=a
 ·subst hb;rw [Ab] at e;cases e;exact new
 ·rw [Ai hb] at e
  exact (x b u e).stay (fun c v _ q=>k c v q) (fun c q=>by rw [Ai (Ak q hn)];exact q) fun c xs q=>by rw [Ai (Ak q hn)];exact q
end
def Rd (H:Hp)(a:Addr)(u:HO):Prop:=H a=some u\/∃ o,H a=some (.frz o u)
theorem Rd.ok {P:Program}{w:World}{H:Hp}{h:Heap}{a:Addr}{u:HO}(r:Rd H a u)(x:HOk P w H h):Cp P w H h a u:=by
 rcases r with r | ⟨o,r⟩
 ·exact x a u r
 ·obtain ⟨_,q⟩:=x a _ r
  exact q
def Mut:Option HO->Prop
 | some (.lst _)=>True
 | some (.dK _)=>True
 | some (.dT _)=>True
 | some (.set _ _)=>True
 | some (.ins _ _ _)=>True
 | some (.ext _)=>True
 | _=>False
section
variable {P:Program} {w:World} {H:Hp} {h h':Heap} {x e:Addr} {o':HO}
theorem HOk.write (ok:HOk P w H h)(mu:Mut (H x))(he:e=x\/H e=some (.own x))(k:∀ b u,b≠e->h.get? b=some u->h'.get? b=some u)(heo:∃ u,h'.get? e=some u)
  (new:Cp P w (upd H x o') h' x o'):HOk P w (upd H x o') h':=fun b u q=>by
 have nown:∀ c y,H c=some (.own y)->c≠x:=fun c y r z=>by subst z;rw [r] at mu;exact mu
 have ntup:∀ c xs,H c=some (.tup xs)->c≠x:=fun c xs r z=>by subst z;rw [r] at mu;exact mu
 by_cases hb:b=x
 ·subst hb;rw [Ab] at q;cases q;exact new
 ·rw [Ai hb] at q
  by_cases hbe:b=e
  ·have q':H b=some (.own x):=by
    rcases he with z | z
    ·exact absurd (hbe.trans z) hb
    ·rw [hbe];exact z
   rw [q] at q';cases q';obtain ⟨v,hv⟩:=heo;exact ⟨v,by rw [hbe];exact hv⟩
  ·refine (ok b u q).stay (fun c v hc r=>k c v ?_ r) (fun c r=>by rw [Ai (nown c b r)];exact r) fun c xs r=>by rw [Ai (ntup c xs r)];exact r
   rcases hc with rfl | hc
   ·exact hbe
   ·rintro rfl
    rcases he with z | z
    ·exact nown c b hc z
    ·rw [hc] at z;cases z;exact hb rfl
end
structure Un (fs ex:List Addr) (H H':Hp) (h h':Heap):Prop where
 keep:∀ b o,h.get? b=some o->H b=none->b∉fs->b∉ex->h'.get? b=some o
 slot:∀ b o,h.get? b=some o->H b=none->b∈fs->b∉ex->∃ sl,h'.get? b=some { o with slots:=sl }
 free:∀ b o,h.get? b=some o->H b=none->b∉ex->H' b=none
 there:∀ b o,h.get? b=some o->b∉ex->∃ o',h'.get? b=some o'
 tups:∀ b xs,H b=some (.tup xs)->H' b=some (.tup xs)
 frzs:∀ b o u,H b=some (.frz o u)->H' b=some (.frz o u)
 tbls:∀ b ps,H b=some (.tbl ps)->∃ more,H' b=some (.tbl (ps++more))
section
variable {fs fs' ex ex':List Addr} {H H1 H2:Hp} {h h1 h2 h':Heap} {a x e:Addr} {o:HO}
theorem Un.any (u:Un fs ex H H1 h h1){b:Addr}{ob:Obj}(q:h.get? b=some ob)(n:H b=none)(hx:b∉ex):∃ sl,h1.get? b=some { ob with slots:=sl }:=by
 by_cases hb:b∈fs
 ·exact u.slot b ob q n hb hx
 ·exact ⟨ob.slots,u.keep b ob q n hb hx⟩
theorem Un.trans (a:Un fs ex H H1 h h1)(b:Un fs ex H1 H2 h1 h2):Un fs ex H H2 h h2 where
 keep:=fun c ob q n hc hx=>b.keep c ob (a.keep c ob q n hc hx) (a.free c ob q n hx) hc hx
 slot:=fun c ob q n hc hx=>by
  obtain ⟨sl,e1⟩:=a.slot c ob q n hc hx;obtain ⟨sl',e2⟩:=b.slot c _ e1 (a.free c ob q n hx) hc hx;exact ⟨sl',e2⟩
 free:=fun c ob q n hx=>by
  obtain ⟨o',e1⟩:=a.there c ob q hx;exact b.free c o' e1 (a.free c ob q n hx) hx
 there:=fun c ob q hx=>by
  obtain ⟨o',e1⟩:=a.there c ob q hx;exact b.there c o' e1 hx
 tups:=fun c xs q=>b.tups c xs (a.tups c xs q)
 frzs:=fun c ob xs q=>b.frzs c ob xs (a.frzs c ob xs q)
 tbls:=fun c ps q=>by
  obtain ⟨m1,e1⟩:=a.tbls c ps q;obtain ⟨m2,e2⟩:=b.tbls c _ e1;exact ⟨m1++m2,by rw [e2,Array.append_assoc]⟩
theorem Un.kept (k:∀ b u,h.get? b=some u->h'.get? b=some u):Un fs ex H H h h' :=
 ⟨fun b ob q _ _ _=>k b ob q,fun b ob q _ _ _=>⟨ob.slots,k b ob q⟩,fun _ _ _ n _=>n,fun b ob q _=>⟨ob,k b ob q⟩,fun _ _ q=>q,fun _ _ _ q=>q,fun _ ps q=>⟨#[],by rw [q];simp⟩⟩
theorem Un.refl:Un fs ex H H h h:=Un.kept fun _ _ q=>q
theorem Un.laid (k:∀ b u,h.get? b=some u->h'.get? b=some u)(hp:h.objs.size<=a)(hn:H a=none):Un fs ex H (upd H a o) h h' where
 keep:=fun b u q _ _ _=>k b u q
 slot:=fun b u q _ _ _=>⟨u.slots,k b u q⟩
 free:=fun b u q n _=>by rw [Ai (Nat.ne_of_lt (Nat.lt_of_lt_of_le (Heap.lt_size q) hp))];exact n
 there:=fun b u q _=>⟨u,k b u q⟩
 tups:=fun b xs q=>by rw [Ai (Ak q hn)];exact q
 frzs:=fun b u xs q=>by rw [Ai (Ak q hn)];exact q
 tbls:=fun b ps q=>⟨#[],by rw [Ai (Ak q hn),q];simp⟩
theorem Un.write (mu:Mut (H x))(he:e=x\/H e=some (.own x))(k:∀ b u,b≠e->h.get? b=some u->h'.get? b=some u)(heo:∃ u,h'.get? e=some u):Un fs ex H (upd H x o) h h':=by
 have hx:∀ b,H b=none->b≠x:=fun b n z=>by subst z;rw [n] at mu;exact mu
 have hb:∀ b,H b=none->b≠e:=fun b n z=>by
  subst z;rcases he with r | r
  ·exact hx b n r
  ·rw [n] at r;cases r
 have hm:∀ b u,H b=some u->¬ Mut (some u)->b≠x:=fun b u q nm z=>by subst z;rw [q] at mu;exact nm mu
 refine ⟨fun b u q n _ _=>k b u (hb b n) q,fun b u q n _ _=>⟨u.slots,k b u (hb b n) q⟩,fun b u q n _=>by rw [Ai (hx b n)];exact n,fun b u q _=>?_,
  fun b xs q=>by rw [Ai (hm b _ q fun z=>z)];exact q,fun b u xs q=>by rw [Ai (hm b _ q fun z=>z)];exact q,fun b ps q=>⟨#[],by rw [Ai (hm b _ q fun z=>z),q];simp⟩⟩
 by_cases hbe:b=e
 ·subst hbe;exact heo
 ·exact ⟨u,k b u hbe q⟩
end
def trk (h:Heap)(H:Hp):List Addr:=(List.range h.objs.size).filter fun a=>(H a).isSome
def Vj (h:Heap)(H:Hp):Heap:=PySem.W.hideAll h (trk h H)
theorem dX (h:Heap)(H:Hp):(Vj h H).objs.size=h.objs.size:=PySem.W.hideAll_size _ _
theorem Rb {h:Heap}{H:Hp}{b:Addr}{o:Obj}(e:h.get? b=some o)(n:H b=none):(Vj h H).get? b=some o :=
 PySem.W.hideAll_get _ e fun hm=>by
  have q:(H b).isSome=true:=(List.mem_filter.mp hm).2;rw [n] at q;simp at q
theorem mT {h:Heap}{H:Hp}{b:Addr}{o:Obj}(e:(Vj h H).get? b=some o):h.get? b=some o/\H b=none:=by
 have e':h.get? b=some o:=PySem.W.of_hideAll (trk h H) e;refine ⟨e',?_⟩
 cases q:H b with
 | none=>rfl
 | some x =>
  have hm:b∈trk h H:=List.mem_filter.mpr ⟨List.mem_range.mpr (Heap.lt_size e'),by simp [q]⟩;have z:(Vj h H).get? b=none:=PySem.W.hideAll_none (trk h H) hm;rw [z] at e;cases e
structure Mod (K:PySem.W.Frag) (mg:Str->Option Value) (base:Heap):Prop where
 kin:K.In base
 glob:base.Ns mainGlobals mg
 blt:∃ mb,base.Ns builtinsNs mb/\∀ x:Str,x≠"__name__"->mb x=bootBuiltins x
 nolimit:base.NoLimit
structure Cx where
 prog:Program
 w:World
 K:PySem.W.Frag
 mg:Str->Option Value
 base:Heap
 A:Around
 N:List Str
 s₀:Shared
 H₀:Hp
 env:Env
 outer:List Env
 stack:List Env
 ex:List Addr
 fn:Str->Bool
 calm:Bool
 pn:List (Addr×Obj)
 xe:Value->Shared->Prop
def frs (l:List Env):List Addr:=l.filterMap (·.frame)
abbrev Cx.fs (X:Cx):List Addr:=frs X.outer
def Vis (sc:Scope)(x:Str):Prop:=sc.names.lookup x=some .local\/sc.names.lookup x=some .cell\/sc.names.lookup x=some .free
def Loc (sc:Scope)(x:Str):Prop:=sc.names.lookup x=some .local\/sc.names.lookup x=some .cell
def wU (env:Env)(h:Heap)(m:Str->Option Value)(x:Str)(u:Value):Prop :=
 (env.kindOf x=some .local/\m x=some u)\/((env.kindOf x=some .cell\/env.kindOf x=some .free)/\∃ c,env.cells.lookup x=some c/\h.IsCell c (some u))
structure Cx.Ok (X:Cx):Prop where
 mod:Mod X.K X.mg X.base
 kind:X.env.scope.kind=.function
 glob:X.env.globals=mainGlobals
 blt:X.env.builtins=builtinsNs
 above:X.s₀.heap.objs.size<=X.env.locals
 inj:∀ x y c,X.env.cells.lookup x=some c->X.env.cells.lookup y=some c->x=y
 has:∀ x,(X.env.kindOf x=some .cell\/X.env.kindOf x=some .free)->∃ c,X.env.cells.lookup x=some c
 cab:∀ x c,X.fn x=true->X.env.cells.lookup x=some c->X.s₀.heap.objs.size<=c
 hd:X.calm=true->X.A.handled=none
 frames:X.A.frames=some X.stack
 stk:X.stack=X.outer\/(X.stack=X.env::X.outer/\X.env.frame=some X.env.locals)
 exf:∀ b∈X.ex,b≠X.env.locals/\∀ x c,X.env.cells.lookup x=some c->c≠b
 bs:∀ b o,X.base.get? b=some o->X.s₀.heap.get? b=some o/\X.H₀ b=none
 bsz:X.base.objs.size<=X.s₀.heap.objs.size
 noex:∀ b o,X.base.get? b=some o->b∉X.ex
 exfs:∀ b∈X.ex,b∉X.fs
 funs:X.s₀.heap.FunFrames X.base X.outer
 frf:∀ b∈X.fs,X.H₀ b=none
structure Inv (X:Cx) (pins:List (Addr×Obj)) (σ:List (Option V)) (H:Hp) (s:Shared):Prop where
 ok:X.Ok
 os:s.os=X.s₀.os
 bare:AllBare s.gens
 base:Un X.fs X.ex X.H₀ H X.s₀.heap s.heap
 loc:∃ m,s.heap.Ns X.env.locals m/\∀ (i:Nat) (x:Str) (v:V),X.N[i]?=some x->σ[i]?=some (some v)->Vis X.env.scope x->∃ u,Ba v u/\wU X.env s.heap m x u
 cell:∀ x c,X.env.cells.lookup x=some c->∃ v,s.heap.IsCell c v
 free:H X.env.locals=none
 freeC:∀ x c,X.env.cells.lookup x=some c->H c=none
 pin:∀ p∈X.pn++pins,s.heap.get? p.1=some p.2/\H p.1=none/\p.1≠X.env.locals/\p.1∉X.fs/\∀ v,p.2.data≠.cell v
 hok:HOk X.prog X.w H s.heap
 len:σ.length=X.N.length
section
variable {X:Cx} {pins:List (Addr×Obj)} {σ:List (Option V)} {H H':Hp} {s:Shared} {h':Heap}
theorem Cx.Ok.nofr (ok:X.Ok){b:Addr}{o:Obj}(e:X.base.get? b=some o):b∉X.fs:=fun hb=>by
 have:=(ok.funs.mem hb).1;rw [e] at this;cases this
theorem Inv.bs (I:Inv X pins σ H s):∀ b o,X.base.get? b=some o->s.heap.get? b=some o/\H b=none:=fun b o e =>
 ⟨I.base.keep b o (I.ok.bs b o e).1 (I.ok.bs b o e).2 (I.ok.nofr e) (I.ok.noex b o e),I.base.free b o (I.ok.bs b o e).1 (I.ok.bs b o e).2 (I.ok.noex b o e)⟩
theorem Inv.bk (I:Inv X pins σ H s):∀ b o,X.base.get? b=some o->s.heap.get? b=some o:=fun b o e=>(I.bs b o e).1
theorem Inv.mod (I:Inv X pins σ H s):Mod X.K X.mg X.base:=I.ok.mod
theorem Inv.kIn (I:Inv X pins σ H s):X.K.In s.heap:=I.ok.mod.kin.keeps I.bk
theorem Inv.fr (I:Inv X pins σ H s):∃ m,Fr X.base X.env.locals s.heap m :=
 let ⟨m,hn,_⟩:=I.loc
 ⟨m,hn,I.bk,Nat.le_trans I.ok.bsz I.ok.above⟩
theorem Inv.lt (I:Inv X pins σ H s):X.env.locals<s.heap.objs.size:=let ⟨_,hn,_⟩:=I.loc;hn.lt
theorem Inv.sz (I:Inv X pins σ H s):X.s₀.heap.objs.size<=s.heap.objs.size:=Nat.le_trans I.ok.above (Nat.le_of_lt I.lt)
theorem Inv.nofs (I:Inv X pins σ H s){a:Addr}(h:s.heap.objs.size<=a):a∉X.fs:=fun hb=>by
 obtain ⟨_,o,ho,_⟩:=I.ok.funs.mem hb;exact absurd (Nat.lt_of_lt_of_le (Heap.lt_size ho) (Nat.le_trans I.sz h)) (Nat.lt_irrefl _)
theorem Inv.cne (I:Inv X pins σ H s):∀ x c,X.env.cells.lookup x=some c->c≠X.env.locals:=fun x c e z=>by
 obtain ⟨v,o,ho,hd⟩:=I.cell x c e;obtain ⟨m,⟨o',es,ep,ho',hd',_⟩,_⟩:=I.loc;rw [z,ho'] at ho;cases ho;rw [hd'] at hd;cases hd
theorem Inv.funs (I:Inv X pins σ H s):s.heap.FunFrames X.base X.outer:=by
 have all:∀ (l:List Env),(∀ b∈frs l,b∈X.fs)->X.s₀.heap.FunFrames X.base l->s.heap.FunFrames X.base l:=by
  intro l
  induction l with
  | nil=>intro _ _;trivial
  | cons env r ih =>
   intro hs hl;obtain ⟨hk,⟨L,o,hf,hn,ho,hd⟩,hr⟩:=hl;have hL:L∈X.fs:=hs L (by unfold frs;rw [List.filterMap_cons,hf];exact List.mem_cons_self);obtain ⟨sl,e⟩:=I.base.slot L o ho (I.ok.frf L hL) hL fun z=>I.ok.exfs L z hL;exact ⟨hk,⟨L,_,hf,hn,e,hd⟩,ih (fun b hb=>hs b (by unfold frs;rw [List.filterMap_cons,hf];exact List.mem_cons_of_mem _ hb)) hr⟩
 exact all X.outer (fun _ hb=>hb) I.ok.funs
theorem Inv.stack (I:Inv X pins σ H s):s.heap.FunFrames X.base X.stack:=by
 rcases I.ok.stk with e | ⟨e,hf⟩
 ·rw [e];exact I.funs
 ·rw [e]
  obtain ⟨m,hn,_⟩:=I.loc;refine .cons (by rw [I.ok.kind];decide) hf hn ?_ I.funs;exact Heap.get?_none_of_le (Nat.le_trans I.ok.bsz I.ok.above)
theorem Inv.stkSub (I:Inv X pins σ H s):∀ b∈frs X.stack,b∈X.env.locals::X.fs:=fun b hb=>by
 rcases I.ok.stk with e | ⟨e,hf⟩
 ·rw [e] at hb;exact List.mem_cons_of_mem _ hb
 ·rw [e] at hb
  unfold frs at hb;rw [List.filterMap_cons,hf] at hb;exact hb
theorem Inv.stkFree (I:Inv X pins σ H s):∀ b∈frs X.stack,H b=none:=fun b hb=>by
 rcases List.mem_cons.mp (I.stkSub b hb) with e | hb
 ·rw [e];exact I.free
 ·obtain ⟨_,o,ho,_⟩:=I.ok.funs.mem hb
  exact I.base.free b o ho (I.ok.frf b hb) fun z=>I.ok.exfs b z hb
theorem Inv.step {g':Array GenState}{t':Nat}{d':Drawn}{ch:List Addr}(I:Inv X pins σ H s)
  (hch:∀ b∈ch,(b∈X.ex\/X.s₀.heap.objs.size<=b)/\b≠X.env.locals/\(∀ x c,X.env.cells.lookup x=some c->c≠b)/\∀ p∈X.pn++pins,p.1≠b)
  (keep:∀ b o,b≠X.env.locals->b∉X.fs->b∉ch->s.heap.get? b=some o->H b=none->h'.get? b=some o)
  (slot:∀ b o,b≠X.env.locals->b∈X.fs->b∉ch->s.heap.get? b=some o->H b=none->∃ sl,h'.get? b=some { o with slots:=sl })(free:∀ b o,b∉ch->s.heap.get? b=some o->H b=none->H' b=none)
  (there:∀ b o,b∉ch->s.heap.get? b=some o->∃ o',h'.get? b=some o')
  (tups:∀ b xs,H b=some (.tup xs)->H' b=some (.tup xs))(frzs:∀ b o u,H b=some (.frz o u)->H' b=some (.frz o u))(tbls:∀ b ps,H b=some (.tbl ps)->∃ more,H' b=some (.tbl (ps++more)))
  (ns:∀ m,s.heap.Ns X.env.locals m->h'.Ns X.env.locals m)(hok:HOk X.prog X.w H' h')(hg:AllBare g') :
  Inv X pins σ H' { s with heap:=h',gens:=g',drawn:=d',toks:=t' }:=by
 have neL:∀ b o,X.s₀.heap.get? b=some o->b≠X.env.locals:=fun b o e=>Nat.ne_of_lt (Nat.lt_of_lt_of_le (Heap.lt_size e) I.ok.above);have neC:∀ b o,X.s₀.heap.get? b=some o->b∉X.ex->b∉ch:=fun b o e hx hb=>by
  rcases (hch b hb).1 with z | z
  ·exact hx z
  ·exact absurd (Nat.lt_of_lt_of_le (Heap.lt_size e) z) (Nat.lt_irrefl _)
 have cellK:∀ x c,X.env.cells.lookup x=some c->∀ v,s.heap.IsCell c v->h'.IsCell c v:=fun x c e v ⟨o,ho,hd⟩=>by
  have nch:c∉ch:=fun z=>(hch c z).2.2.1 x c e rfl
  by_cases hc:c∈X.fs
  ·obtain ⟨sl,q⟩:=slot c o (I.cne x c e) hc nch ho (I.freeC x c e)
   exact ⟨_,q,hd⟩
  ·exact ⟨o,keep c o (I.cne x c e) hc nch ho (I.freeC x c e),hd⟩
 refine ⟨I.ok,I.os,hg,⟨fun b o e n hb hx=>?_,fun b o e n hb hx=>?_,fun b o e n hx=>?_,fun b o e hx=>?_,fun b xs e=>tups b xs (I.base.tups b xs e),fun b o xs e=>frzs b o xs (I.base.frzs b o xs e),fun b ps e=>?_⟩,?_,fun x c e=>?_,?_,fun x c e=>?_,fun p hp=>?_,hok,I.len⟩
 ·exact keep b o (neL b o e) hb (neC b o e hx) (I.base.keep b o e n hb hx) (I.base.free b o e n hx)
 ·obtain ⟨sl,e1⟩:=I.base.slot b o e n hb hx
  obtain ⟨sl',e2⟩:=slot b _ (neL b o e) hb (neC b o e hx) e1 (I.base.free b o e n hx);exact ⟨sl',e2⟩
 ·obtain ⟨o',e1⟩:=I.base.there b o e hx
  exact free b o' (neC b o e hx) e1 (I.base.free b o e n hx)
 ·obtain ⟨o',e1⟩:=I.base.there b o e hx
  exact there b o' (neC b o e hx) e1
 ·obtain ⟨m1,e1⟩:=I.base.tbls b ps e
  obtain ⟨m2,e2⟩:=tbls b _ e1;exact ⟨m1++m2,by rw [e2,Array.append_assoc]⟩
 ·obtain ⟨m,hn,hl⟩:=I.loc
  refine ⟨m,ns m hn,fun i x v e1 e2 e3=>?_⟩;obtain ⟨u,r,l⟩:=hl i x v e1 e2 e3;refine ⟨u,r,?_⟩;rcases l with l | ⟨k,c,e,z⟩
  ·exact .inl l
  ·exact .inr ⟨k,c,e,cellK x c e _ z⟩
 ·obtain ⟨v,z⟩:=I.cell x c e
  exact ⟨v,cellK x c e v z⟩
 ·obtain ⟨m,⟨o,_,_,ho,_⟩,_⟩:=I.loc
  exact free _ o (fun z=>(hch _ z).2.1 rfl) ho I.free
 ·obtain ⟨v,o,ho,hd⟩:=I.cell x c e
  exact free c o (fun z=>(hch c z).2.2.1 x c e rfl) ho (I.freeC x c e)
 ·obtain ⟨e,n,ne,nf,d⟩:=I.pin p hp
  have nch:p.1∉ch:=fun z=>(hch p.1 z).2.2.2 p hp rfl;exact ⟨keep p.1 p.2 ne nf nch e n,free p.1 p.2 nch e n,ne,nf,d⟩
theorem Inv.un {t':Nat}(I:Inv X pins σ H s)(u:Un X.fs [] H H' s.heap h')(hok:HOk X.prog X.w H' h'):Inv X pins σ H' { s with heap:=h',toks:=t' }:=by
 obtain ⟨m,⟨o,es,ep,ho,r⟩,_⟩:=id I.loc;obtain ⟨sl,hL⟩:=u.any ho I.free (by simp);exact I.step (g':=s.gens) (d':=s.drawn) (ch:=[]) (fun _ z=>nomatch z) (fun b o _ hb _ e n=>u.keep b o e n hb (by simp)) (fun b o _ hb _ e n=>u.slot b o e n hb (by simp)) (fun b o _ e n=>u.free b o e n (by simp)) (fun b o _ e=>u.there b o e (by simp)) u.tups u.frzs u.tbls (fun m' hm=>by
  obtain ⟨o',es',ep',ho',r'⟩:=hm;rw [ho] at ho';cases ho';exact ⟨_,es',ep',hL,r'⟩) hok I.bare
theorem Inv.call {g':Array GenState}{t':Nat}{d':Drawn}{ch:List Addr}(I:Inv X pins σ H s)(u:Un (frs X.stack) ch H H' s.heap h')(hok:HOk X.prog X.w H' h')(hg:AllBare g')
  (hch:∀ b∈ch,(b∈X.ex\/X.s₀.heap.objs.size<=b)/\b≠X.env.locals/\(∀ x c,X.env.cells.lookup x=some c->c≠b)/\∀ p∈X.pn++pins,p.1≠b) :
  Inv X pins σ H' { s with heap:=h',gens:=g',drawn:=d',toks:=t' }:=by
 obtain ⟨m,⟨o,es,ep,ho,r⟩,_⟩:=id I.loc;obtain ⟨sl,hL⟩:=u.any ho I.free fun z=>(hch _ z).2.1 rfl;exact I.step (ch:=ch) hch (fun b o hL hb hc e n=>u.keep b o e n (fun z=>(List.mem_cons.mp (I.stkSub b z)).elim hL hb) hc) (fun b o _ _ hc e n=>u.any e n hc) (fun b o hc e n=>u.free b o e n hc) (fun b o hc e=>u.there b o e hc) u.tups u.frzs u.tbls (fun m' hm=>by
  obtain ⟨o',es',ep',ho',r'⟩:=hm;rw [ho] at ho';cases ho';exact ⟨_,es',ep',hL,r'⟩) hok hg
theorem Inv.turned {t':Nat}{it:Addr}(I:Inv X pins σ H s)(k:∀ b o,b≠it->s.heap.get? b=some o->h'.get? b=some o)(hn:H it=none)(hL:it≠X.env.locals)
  (h1:it∈X.ex\/X.s₀.heap.objs.size<=it)(h2:∀ x c,X.env.cells.lookup x=some c->c≠it)(h3:∀ p∈X.pn++pins,p.1≠it):Inv X pins σ H { s with heap:=h',toks:=t' }:=by
 have nit:∀ b u,H b=some u->b≠it:=fun b u e z=>by rw [z,hn] at e;cases e
 refine I.step (g':=s.gens) (d':=s.drawn) (ch:=[it]) (fun b hb=>?_) (fun b o _ _ hc e _=>k b o (fun z=>hc (by simp [z])) e) (fun b o _ _ hc e _=>⟨o.slots,k b o (fun z=>hc (by simp [z])) e⟩) (fun _ _ _ _ n=>n)
  (fun b o hc e=>⟨o,k b o (fun z=>hc (by simp [z])) e⟩) (fun _ _ e=>e) (fun _ _ _ e=>e) (fun b ps e=>⟨#[],by rw [e];simp⟩) (fun m hm=>?_) (fun b u e=>?_) I.bare
 ·have e:b=it:=by simpa using hb
  subst e;exact ⟨h1,hL,h2,h3⟩
 ·obtain ⟨o,es,ep,ho,r⟩:=hm
  exact ⟨o,es,ep,k _ o (Ne.symm hL) ho,r⟩
 ·refine (I.hok b u e).stay (fun c v hc q=>k c v ?_ q) (fun _ q=>q) fun _ _ q=>q
  rcases hc with z | z
  ·rw [z];exact nit b u e
  ·exact nit c _ z
theorem Inv.tok (I:Inv X pins σ H s)(t:Nat):Inv X pins σ H { s with toks:=t }:=I.un (h':=s.heap) (t':=t) Un.refl I.hok
theorem Inv.kept {t':Nat}(I:Inv X pins σ H s)(k:∀ b u,s.heap.get? b=some u->h'.get? b=some u):Inv X pins σ H { s with heap:=h',toks:=t' }:=I.un (Un.kept k) (I.hok.kept k)
theorem Inv.laid {a:Addr}{o:HO}{t':Nat}(I:Inv X pins σ H s)(k:∀ b u,s.heap.get? b=some u->h'.get? b=some u)(hp:s.heap.objs.size<=a)(new:Cp X.prog X.w (upd H a o) h' a o) :
  Inv X pins σ (upd H a o) { s with heap:=h',toks:=t' }:=I.un (Un.laid k hp (I.hok.fresh hp)) (I.hok.laid k hp new)
theorem Inv.write {x e:Addr}{o:HO}{t':Nat}(I:Inv X pins σ H s)(mu:Mut (H x))(he:e=x\/H e=some (.own x))(k:∀ b u,b≠e->s.heap.get? b=some u->h'.get? b=some u)(heo:∃ u,h'.get? e=some u)
  (new:Cp X.prog X.w (upd H x o) h' x o):Inv X pins σ (upd H x o) { s with heap:=h',toks:=t' }:=I.un (Un.write mu he k heo) (I.hok.write mu he k heo new)
theorem Inv.weak {σ':List (Option V)}(I:Inv X pins σ H s)(hl:σ'.length=σ.length)(w:∀ (i:Nat) v,σ'[i]?=some (some v)->σ[i]?=some (some v)):Inv X pins σ' H s :=
 ⟨I.ok,I.os,I.bare,I.base,let ⟨m,hn,hl'⟩:=I.loc;⟨m,hn,fun i x v e1 e2 e3=>hl' i x v e1 (w i v e2) e3⟩,I.cell,I.free,I.freeC,I.pin,I.hok,hl.trans I.len⟩
theorem Inv.pins_of {pins':List (Addr×Obj)}(I:Inv X pins σ H s)(h:∀ p∈pins',s.heap.get? p.1=some p.2/\H p.1=none/\p.1≠X.env.locals/\p.1∉X.fs/\∀ v,p.2.data≠.cell v):Inv X pins' σ H s :=
 ⟨I.ok,I.os,I.bare,I.base,I.loc,I.cell,I.free,I.freeC,fun p hp=>(List.mem_append.mp hp).elim (fun z=>I.pin p (List.mem_append_left _ z)) (h p),I.hok,I.len⟩
theorem Yj {N:List Str}(hN:N.Nodup){i j:Nat}{x:Str}(a:N[i]?=some x)(b:N[j]?=some x):i=j:=by
 obtain ⟨h1,e1⟩:=List.getElem?_eq_some_iff.mp a;obtain ⟨h2,e2⟩:=List.getElem?_eq_some_iff.mp b;exact (List.getElem_inj hN).mp (e1.trans e2.symm)
theorem eN {M:Model}{A:Around}{E:Value->Shared->Prop}{i:Nat}{x:Str}{v:V}{u:Value}{Q:Unit->Shared->Prop}(I:Inv X pins σ H s)(hN:X.N.Nodup)(hi:X.N[i]?=some x)(hx:Loc X.env.scope x)(r:Ba v u)
  (h:∀ s',Inv X pins (σ.set i (some v)) H s'->(∃ a,Heap.SameBut a s.heap s'.heap/\(a=X.env.locals\/X.env.cells.lookup x=some a))->Q () s')(hf:X.fn x=true\/X.env.scope.names.lookup x=some .local:=by first | exact .inl rfl | exact .inr rfl | assumption):wpAny M A (storeName X.env x u) Q E s:=by
 obtain ⟨m,hn,hl⟩:=id I.loc;have hcls:(X.env.scope.kind==.class||(X.env.scope.kind==.module&&X.env.locals != X.env.globals))=false:=by rw [I.ok.kind];rfl
 have hiσ:i<σ.length:=by rw [I.len];exact (List.getElem?_eq_some_iff.mp hi).1
 have cne:=I.cne;have tracked:∀ {a:Addr} {h':Heap},(∃ o,s.heap.get? a=some o/\H a=none)->Heap.SameBut a s.heap h'->HOk X.prog X.w H h':=fun {a h'} ha hs b ob e=>by
  obtain ⟨_,_,hfree⟩:=ha;refine (I.hok b ob e).stay (fun c w' hc q=>(hs.2 c ?_).trans q) (fun _ q=>q) fun _ _ q=>q;rintro rfl;rcases hc with rfl | hc
  ·rw [hfree] at e;cases e
  ·rw [hfree] at hc;cases hc
 rcases hx with hk | hk
 ·refine wpAny_storeName_local hk hn (fun h' hn' hs=>?_) hcls
  obtain ⟨oL,_,_,hoL,_⟩:=id hn;refine h _ ⟨I.ok,I.os,I.bare,⟨fun b o e n hb hx=>?_,fun b o e n hb hx=>?_,I.base.free,fun b o e hx=>?_,I.base.tups,I.base.frzs,I.base.tbls⟩,⟨_,hn',fun j y v' e1 e2 e3=>?_⟩,fun y c e=>?_,I.free,I.freeC,fun p hp=>?_,tracked ⟨oL,hoL,I.free⟩ hs,by simpa using I.len⟩ ⟨_,hs,.inl rfl⟩
  ·exact (hs.2 b (Nat.ne_of_lt (Nat.lt_of_lt_of_le (Heap.lt_size e) I.ok.above))).trans (I.base.keep b o e n hb hx)
  ·obtain ⟨sl,e1⟩:=I.base.slot b o e n hb hx
   exact ⟨sl,(hs.2 b (Nat.ne_of_lt (Nat.lt_of_lt_of_le (Heap.lt_size e) I.ok.above))).trans e1⟩
  ·obtain ⟨o',e1⟩:=I.base.there b o e hx
   exact ⟨o',(hs.2 b (Nat.ne_of_lt (Nat.lt_of_lt_of_le (Heap.lt_size e) I.ok.above))).trans e1⟩
  ·by_cases hj:j=i
   ·subst hj
    rw [hi] at e1;cases e1;rw [List.getElem?_set_self hiσ] at e2;cases e2;exact ⟨u,r,.inl ⟨hk,by simp⟩⟩
   ·rw [List.getElem?_set_ne (Ne.symm hj)] at e2
    obtain ⟨u',r',q⟩:=hl j y v' e1 e2 e3;refine ⟨u',r',?_⟩;rcases q with ⟨k,e⟩ | ⟨k,c,e,z⟩
    ·refine .inl ⟨k,?_⟩
     have:y≠x:=fun e=>hj (Yj hN e1 (e▸hi));simp [this,e]
    ·exact .inr ⟨k,c,e,z.sameBut hs (cne y c e)⟩
  ·obtain ⟨w',z⟩:=I.cell y c e
   exact ⟨w',z.sameBut hs (cne y c e)⟩
  ·obtain ⟨e,n,ne,nf,d⟩:=I.pin p hp
   exact ⟨(hs.2 p.1 ne).trans e,n,ne,nf,d⟩
 ·have hfn:X.fn x=true:=by
   rcases hf with z | z
   ·exact z
   ·rw [z] at hk;cases hk
  obtain ⟨c,hc⟩:=I.ok.has x (.inl hk);obtain ⟨w',z⟩:=I.cell x c hc;refine wpAny_storeName_cell I.ok.kind hk hc z (fun h' hc' hs=>?_);obtain ⟨oc,hoc,hocd⟩:=id z;refine h { s with heap:=h' } ⟨I.ok,I.os,I.bare,⟨fun b o e n hb hx=>?_,fun b o e n hb hx=>?_,I.base.free,fun b o e hx=>?_,I.base.tups,I.base.frzs,I.base.tbls⟩,⟨m,hn.sameBut hs (Ne.symm (cne x c hc)),fun j y v' e1 e2 e3=>?_⟩,fun y c' e=>?_,I.free,I.freeC,fun p hp=>?_,tracked ⟨oc,hoc,I.freeC x c hc⟩ hs,by simpa using I.len⟩ ⟨c,hs,.inr hc⟩
  ·exact (hs.2 b (Nat.ne_of_lt (Nat.lt_of_lt_of_le (Heap.lt_size e) (I.ok.cab x c hfn hc)))).trans (I.base.keep b o e n hb hx)
  ·obtain ⟨sl,e1⟩:=I.base.slot b o e n hb hx
   exact ⟨sl,(hs.2 b (Nat.ne_of_lt (Nat.lt_of_lt_of_le (Heap.lt_size e) (I.ok.cab x c hfn hc)))).trans e1⟩
  ·obtain ⟨o',e1⟩:=I.base.there b o e hx
   exact ⟨o',(hs.2 b (Nat.ne_of_lt (Nat.lt_of_lt_of_le (Heap.lt_size e) (I.ok.cab x c hfn hc)))).trans e1⟩
  ·by_cases hj:j=i
   ·subst hj
    rw [hi] at e1;cases e1;rw [List.getElem?_set_self hiσ] at e2;cases e2;exact ⟨u,r,.inr ⟨.inl hk,c,hc,hc'⟩⟩
   ·rw [List.getElem?_set_ne (Ne.symm hj)] at e2
    obtain ⟨u',r',q⟩:=hl j y v' e1 e2 e3;refine ⟨u',r',?_⟩;rcases q with q | ⟨k,c',e,z'⟩
    ·exact .inl q
    ·refine .inr ⟨k,c',e,z'.sameBut hs ?_⟩
     rintro rfl;exact hj (Yj hN e1 (I.ok.inj _ _ _ e hc▸hi))
  ·by_cases hcc:c'=c
   ·subst hcc;exact ⟨_,hc'⟩
   ·obtain ⟨w2,z2⟩:=I.cell y c' e
    exact ⟨w2,z2.sameBut hs hcc⟩
  ·obtain ⟨e,n,ne,nf,d⟩:=I.pin p hp
   refine ⟨(hs.2 p.1 ?_).trans e,n,ne,nf,d⟩;intro q;rw [q,hoc] at e;have q':oc=p.2:=Option.some.inj e;exact d w' (by rw [<- q'];exact hocd)
theorem Pl {M:Model}{A:Around}{E:Value->Shared->Prop}{i:Nat}{x:Str}{v:V}{u:Value}{Q:Unit->Shared->Prop}(I:Inv X pins σ H s)(hN:X.N.Nodup)(hi:X.N[i]?=some x)(hx:Loc X.env.scope x)(r:Ba v u)
  (h:∀ s',Inv X pins (σ.set i (some v)) H s'->Q () s')(hf:X.fn x=true\/X.env.scope.names.lookup x=some .local:=by first | exact .inl rfl | exact .inr rfl | assumption):wpAny M A (storeName X.env x u) Q E s :=
 eN I hN hi hx r (fun s' I' _=>h s' I') hf
theorem Inv.call' {s':Shared}{ch:List Addr}(I:Inv X pins σ H s)(ho:s'.os=s.os)(u:Un (frs X.stack) ch H H' s.heap s'.heap)(hok:HOk X.prog X.w H' s'.heap)(hg:AllBare s'.gens)
  (hch:∀ b∈ch,(b∈X.ex\/X.s₀.heap.objs.size<=b)/\b≠X.env.locals/\(∀ x c,X.env.cells.lookup x=some c->c≠b)/\∀ p∈X.pn++pins,p.1≠b):Inv X pins σ H' s':=by
 obtain ⟨h',g',d',t',o'⟩:=s';have e:o'=s.os:=ho;subst e;exact I.call (g':=g') (t':=t') (d':=d') u hok hg hch
end
abbrev XK:=Value->Option Addr->Hp->Prop
abbrev St:=List (Option V)
abbrev VK:=V->Hp->Prop
abbrev TE:=St->Hp->VK->Prop
abbrev TT:=St->Hp->(Bool->Hp->Prop)->Prop
abbrev TA:=St->Hp->(List V->Hp->Prop)->Prop
structure K4 where
 nx:St->Hp->Prop
 rt:VK
 bk:St->Hp->Prop:=fun _ _=>False
 ct:St->Hp->Prop:=fun _ _=>False
abbrev TS:=K4->St->Hp->Prop
def EP (X:Cx)(pins:List (Addr×Obj))(σ:St)(Q:VK)(u:Value)(s':Shared):Prop:=∃ v H',Inv X pins σ H' s'/\Ba v u/\Q v H'
def TP (X:Cx)(pins:List (Addr×Obj))(σ:St)(Q:Bool->Hp->Prop)(b:Bool)(s':Shared):Prop:=∃ H',Inv X pins σ H' s'/\Q b H'
def AP (X:Cx)(pins:List (Addr×Obj))(σ:St)(Q:List V->Hp->Prop)(us:List Value)(s':Shared):Prop:=∃ vs H',Inv X pins σ H' s'/\Az vs us/\Q vs H'
def SP (X:Cx)(pins:List (Addr×Obj))(D:K4)(f:Flow)(s':Shared):Prop :=
 match f with
 | .next=>∃ σ' H',Inv X pins σ' H' s'/\D.nx σ' H'
 | .brk=>∃ σ' H',Inv X pins σ' H' s'/\D.bk σ' H'
 | .cont=>∃ σ' H',Inv X pins σ' H' s'/\D.ct σ' H'
 | .ret u=>∃ v σ' H',Inv X pins σ' H' s'/\Ba v u/\D.rt v H'
def PE (X:Cx)(e:Expr)(t:TE):Prop :=
 ∀ (pins:List (Addr×Obj)) (s:Shared) (σ:St) (H:Hp) (Q:VK),Inv X pins σ H s->t σ H Q->wpAny (model X.prog X.w) X.A (eval e X.env) (EP X pins σ Q) X.xe s
def PT (X:Cx)(e:Expr)(t:TT):Prop :=
 ∀ (pins:List (Addr×Obj)) (s:Shared) (σ:St) (H:Hp) (Q:Bool->Hp->Prop),Inv X pins σ H s->t σ H Q->wpAny (model X.prog X.w) X.A (isTrue e X.env (eval e X.env)) (TP X pins σ Q) X.xe s
def PW (X:Cx)(e:Expr)(t:TT):Prop :=
 ∀ (whole:Sem Value) (pins:List (Addr×Obj)) (s:Shared) (σ:St) (H:Hp) (Q:Bool->Hp->Prop),Inv X pins σ H s->t σ H Q->wpAny (model X.prog X.w) X.A (isTrue e X.env whole) (TP X pins σ Q) X.xe s
theorem PW.pt {X:Cx}{e:Expr}{t:TT}(h:PW X e t):PT X e t:=h _
def PA (X:Cx)(es:List Expr)(t:TA):Prop :=
 ∀ (pos:Pos) (pins:List (Addr×Obj)) (s:Shared) (σ:St) (H:Hp) (Q:List V->Hp->Prop),Inv X pins σ H s->t σ H Q->wpAny (model X.prog X.w) X.A (spliced (backTo pos (starEach es X.env))) (AP X pins σ Q) X.xe s
def PS (X:Cx)(st:Stmt)(t:TS):Prop :=
 ∀ (pins:List (Addr×Obj)) (s:Shared) (σ:St) (H:Hp) (D:K4),Inv X pins σ H s->t D σ H->wpAny (model X.prog X.w) X.A (exec st X.env) (SP X pins D) X.xe s
def PSs (X:Cx)(st:List Stmt)(t:TS):Prop :=
 ∀ (pins:List (Addr×Obj)) (s:Shared) (σ:St) (H:Hp) (D:K4),Inv X pins σ H s->t D σ H->wpAny (model X.prog X.w) X.A (execs st X.env) (SP X pins D) X.xe s
theorem thn {α:Type}{t:Sem α}{Q Q':α->Shared->Prop}{M:Model}{A:Around}{E:Value->Shared->Prop}{s:Shared}(h:wpAny M A t Q E s)(hQ:∀ a s,Q a s->Q' a s):wpAny M A t Q' E s:=wpAny_mono h hQ fun _ _ x=>x
section
variable {X:Cx}
def nZ (i:Nat):TE:=fun σ H Q=>∃ v,σ[i]?=some (some v)/\Q v H
def tC (v:V):TE:=fun _ H Q=>Q v H
theorem kK {i:Nat}{x:Str}{pos:Pos}(hN:X.N[i]?=some x)(hv:Vis X.env.scope x)(hd:(x==("__debug__":Str))=false:=by decide)(hcd:(x==("__classdict__":Str))=false:=by decide):PE X (.Name x pos) (nZ i):=by
 intro pins s σ H Q I h;obtain ⟨v,e,h⟩:=h;obtain ⟨m,hn,hl⟩:=I.loc;obtain ⟨u,r,l⟩:=hl i x v hN e hv;have fin:EP X pins σ Q u s:=⟨v,H,I,r,h⟩;rcases l with ⟨hk,hm⟩ | ⟨hk,c,hc,hcell⟩
 ·exact wpAny_Name (wpAny_loadName_local I.ok.kind hk hn hm fin) hd
 ·rcases hk with hk | hk
  ·exact wpAny_Name (wpAny_loadName_cell I.ok.kind hk hc hcell fin) hd
  ·exact wpAny_Name (wpAny_loadName_free I.ok.kind hk hc hcell fin hcd) hd
theorem Ae {i j pos}:PE X (.Constant (.int i) j pos) (tC (.int i)):=fun _ _ _ H _ I h=>wpAny_Constant_int ⟨.int i,H,I.tok _,⟨_,rfl⟩,h⟩
theorem L1 {b j pos}:PE X (.Constant (.bool b) j pos) (tC (.bl b)):=fun _ _ _ H _ I h=>Constant_bool ⟨.bl b,H,I,rfl,h⟩
theorem Vv {j pos}:PE X (.Constant .none j pos) (tC .non):=fun _ _ _ H _ I h=>Constant_none ⟨.non,H,I,rfl,h⟩
theorem Ez {x j pos}:PE X (.Constant (.str x) j pos) (tC (.str x)):=fun _ _ _ H _ I h=>Calls.Constant_str ⟨.str x,H,I.tok _,⟨_,rfl⟩,h⟩
def Gl (X:Cx)(x:Str):Prop:=X.env.kindOf x=some .globalImplicit
theorem Oy {E:Value->Shared->Prop}{pins:List (Addr×Obj)}{s:Shared}{σ:St}{H:Hp}{x:Str}{u:Value}{pos:Pos}{Q:Value->Shared->Prop}(I:Inv X pins σ H s)(hg:Gl X x)(hm:X.mg x=some u)(h:Q u s)
  (hd:(x==("__debug__":Str))=false:=by decide):wpAny (model X.prog X.w) X.A (eval (.Name x pos) X.env) Q E s :=
 Calls.Name_function_global I.ok.kind hg (Calls.loadGlobal_global (by rw [I.ok.glob];exact I.mod.glob.keeps I.bk) hm h) hd
theorem Dq {E:Value->Shared->Prop}{pins:List (Addr×Obj)}{s:Shared}{σ:St}{H:Hp}{x:Str}{u:Value}{pos:Pos}{Q:Value->Shared->Prop}(I:Inv X pins σ H s)(hg:Gl X x)(hm:X.mg x=none)(hv:bootBuiltins x=some u)(h:Q u s)
  (hn:x≠"__name__":=by decide)(hd:(x==("__debug__":Str))=false:=by decide):wpAny (model X.prog X.w) X.A (eval (.Name x pos) X.env) Q E s:=by
 obtain ⟨mb,h1,h2⟩:=I.mod.blt;exact Calls.Name_function_global I.ok.kind hg (Calls.loadGlobal_builtin (by rw [I.ok.glob];exact I.mod.glob.keeps I.bk) hm (by rw [I.ok.blt];exact h1.keeps I.bk) ((h2 x hn).trans hv) h) hd
theorem Ms {x:Str}{v:V}{u:Value}{pos:Pos}(hg:Gl X x)(hm:X.mg x=some u)(r:Ba v u)(hd:(x==("__debug__":Str))=false:=by decide):PE X (.Name x pos) (tC v) :=
 fun _ _ _ H _ I h=>Oy I hg hm ⟨v,H,I,r,h⟩ hd
theorem Fj {x:Str}{v:V}{u:Value}{pos:Pos}(hg:Gl X x)(hm:X.mg x=none)(hv:bootBuiltins x=some u)(r:Ba v u)(hn:x≠"__name__":=by decide)(hd:(x==("__debug__":Str))=false:=by decide):PE X (.Name x pos) (tC v) :=
 fun _ _ _ H _ I h=>Dq I hg hm hv ⟨v,H,I,r,h⟩ hn hd
variable {a b:Expr} {ta tb:TE} {pos:Pos}
def PC (X:Cx)(op:CmpOp)(a b:Expr)(t:TE):Prop :=
 ∀ (pins:List (Addr×Obj)) (s:Shared) (σ:St) (H:Hp) (Q:VK),Inv X pins σ H s->t σ H Q ->
  wpAny (model X.prog X.w) X.A (eval a X.env) (fun v s₁=>wpAny (model X.prog X.w) X.A (eval b X.env) (fun u s₂=>wpAny (model X.prog X.w) X.A (compareOp op v u) (EP X pins σ Q) X.xe s₂) X.xe s₁) X.xe s
theorem iB (b:Expr){op:CmpOp}(h:op≠.In)(h2:op≠.NotIn):behindInMarks op b=false:=by
 have e1:(op==CmpOp.In)=false:=by cases op<;>first | rfl | exact absurd rfl h
 have e2:(op==CmpOp.NotIn)=false:=by cases op<;>first | rfl | exact absurd rfl h2
 cases b<;>simp [behindInMarks,e1,e2]
def uN (ta:TE):TE:=fun σ H Q=>ta σ H fun x H1=>Q (.bl (decide (x=.non))) H1
theorem Ba.none_iff {x:V}{v:Value}(r:Ba x v):(v==Value.none)=decide (x=.non):=by
 cases x with
 | non=>cases r;rfl
 | bl _=>cases r;rfl
 | int _=>obtain ⟨t,rfl⟩:=r;rfl
 | str _=>obtain ⟨t,rfl⟩:=r;rfl
 | byt _=>obtain ⟨t,rfl⟩:=r;rfl
 | flt _=>obtain ⟨t,rfl⟩:=r;rfl
 | ref _=>cases r;rfl
 | ty _=>cases r;rfl
theorem sN {j pos'}(ha:PE X a ta):PC X .Is a (.Constant .none j pos') (uN ta):=by
 intro pins s σ H Q I h;refine thn (ha pins s σ H _ I h) fun v s1 ⟨x,H1,I1,r1,q1⟩=>?_;exact Constant_none (is_none_gen ⟨.bl _,H1,I1,by rw [r1.none_iff];rfl,q1⟩)
def tB (t:TE):TT:=fun σ H Q=>t σ H fun x H1=>∃ c,x=.bl c/\Q c H1
theorem rR {op:CmpOp}{t:TE}(h:PC X op a b t)(h1:behindInMarks op b=false:=by first | exact iB _ (by decide) (by decide) | rfl):PT X (.Compare a [op] [b] pos) (tB t):=by
 intro pins s σ H Q I hw;refine wpAny_isTrue_Compare1 (thn (h pins s σ H _ I hw) fun v s1 h1=>thn h1 fun u s2 h2=>thn h2 fun c s3 ⟨x,H1,I1,r1,q1⟩=>?_) h1;obtain ⟨d,rfl,q⟩:=q1;cases r1;exact wpAny_truthy_bool ⟨H1,I1,q⟩
theorem C8 {e:Expr}{t:TE}(h:PE X e t)(he:∀ whole,isTrue e X.env whole=(do let v <- whole;standAt e.pos;holding [v] (truthy v)):=by intro _;rfl):PT X e (tB t):=by
 intro pins s σ H Q I hw;refine isTrue_plain (thn (h pins s σ H _ I hw) fun v s1 ⟨x,H1,I1,r1,q1⟩=>?_) (he _);obtain ⟨d,rfl,q⟩:=q1;cases r1;exact wpAny_truthy_bool ⟨H1,I1,q⟩
variable {tA tB':TT} {Nw:List Expr}
def uW (t u:TT):TT:=fun σ H Q=>t σ H fun c H1=>if c=true then u σ H1 Q else Q false H1
def tOr (t u:TT):TT:=fun σ H Q=>t σ H fun c H1=>if c=true then Q true H1 else u σ H1 Q
def uS (t:TT):TT:=fun σ H Q=>t σ H fun c H1=>Q (!c) H1
theorem U6 (ha:PT X a tA):PW X (.BoolOp .And [a] pos) tA:=by
 intro wh pins s σ H Q I h;refine isTrue_and (thn (ha pins s σ H Q I h) fun c s1 e=>?_)
 cases c with
 | true=>exact isTrue_and_nil e
 | false=>exact e
theorem Kd (ha:PT X a tA):PW X (.BoolOp .Or [a] pos) tA:=by
 intro wh pins s σ H Q I h;refine isTrue_or (thn (ha pins s σ H Q I h) fun c s1 e=>?_)
 cases c with
 | false=>exact isTrue_or_nil e
 | true=>exact e
theorem Y6 (ha:PT X a tA)(hb:PW X (.BoolOp .And (b::Nw) pos) tB'):PW X (.BoolOp .And (a::b::Nw) pos) (uW tA tB'):=by
 intro wh pins s σ H Q I h;refine isTrue_and (thn (ha pins s σ H _ I h) fun c s1 ⟨H1,I1,q1⟩=>?_)
 cases c with
 | true=>exact hb wh pins s1 σ H1 Q I1 q1
 | false=>exact ⟨H1,I1,q1⟩
theorem Jy (ha:PT X a tA)(hb:PW X (.BoolOp .Or (b::Nw) pos) tB'):PW X (.BoolOp .Or (a::b::Nw) pos) (tOr tA tB'):=by
 intro wh pins s σ H Q I h;refine isTrue_or (thn (ha pins s σ H _ I h) fun c s1 ⟨H1,I1,q1⟩=>?_)
 cases c with
 | true=>exact ⟨H1,I1,q1⟩
 | false=>exact hb wh pins s1 σ H1 Q I1 q1
theorem Eu (ha:PT X a tA):PT X (.UnaryOp .Not a pos) (uS tA):=by
 intro pins s σ H Q I h;exact isTrue_not (ha pins s σ H (fun c H1=>Q (!c) H1) I h)
def pN (ta tb:TE):TE:=fun σ H Q=>ta σ H fun x H1=>∃ c,x=.bl c/\if c=true then tb σ H1 Q else Q (.bl false) H1
def qM (ta:TE):TE:=fun σ H Q=>ta σ H fun x H1=>∃ c,x=.bl c/\Q (.bl (!c)) H1
theorem Zq {op}{t:TE}(h:PE X a t):PE X (.BoolOp op [a] pos) t:=fun pins s σ H Q I hw=>BoolOp_one (h pins s σ H Q I hw)
theorem Ym (ha:PE X a ta)(hb:PE X (.BoolOp .And (b::Nw) pos) tb):PE X (.BoolOp .And (a::b::Nw) pos) (pN ta tb):=by
 intro pins s σ H Q I h;refine BoolOp_and (thn (ha pins s σ H _ I h) fun v s1 ⟨x,H1,I1,r1,q1⟩=>?_);obtain ⟨c,rfl,q1⟩:=q1;cases r1;refine wpAny_truthy_bool ?_
 cases c with
 | true=>exact hb pins s1 σ H1 Q I1 q1
 | false=>exact ⟨.bl false,H1,I1,rfl,q1⟩
theorem rX (ha:PE X a ta):PE X (.UnaryOp .Not a pos) (qM ta):=by
 intro pins s σ H Q I h;refine UnaryOp_ (thn (ha pins s σ H _ I h) fun v s1 ⟨x,H1,I1,r1,q1⟩=>?_);obtain ⟨c,rfl,q1⟩:=q1;cases r1;exact not_of (wpAny_truthy_bool ⟨.bl (!c),H1,I1,rfl,q1⟩)
def tIf (t:TT)(ta tb:TE):TE:=fun σ H Q=>t σ H fun c H1=>if c=true then ta σ H1 Q else tb σ H1 Q
theorem Kh {c:Expr}(hc:PT X c tA)(ha:PE X a ta)(hb:PE X b tb):PE X (.IfExp c a b pos) (tIf tA ta tb):=by
 intro pins s σ H Q I h;refine wpAny_IfExp (thn (hc pins s σ H _ I h) fun d s1 ⟨H1,I1,q1⟩=>?_)
 cases d with
 | true=>exact ha pins s1 σ H1 Q I1 q1
 | false=>exact hb pins s1 σ H1 Q I1 q1
end
def SqL (K:PySem.W.Frag)(H:Hp)(a:Addr)(xs:List V):Prop :=
 Rd H a (.lst xs) \/
  ∃ (o:Obj) (its:Array Value) (n:Nat),K.lookup a=some o/\o.cls=.type "list"/\o.dict=none/\o.data=.seq its n/\its.size<=sizeLine/\Az xs its.toList
def SqT (K:PySem.W.Frag)(H:Hp)(a:Addr)(xs:List V):Prop :=
 Rd H a (.tup xs) \/
  ∃ (o:Obj) (its:Array Value) (n:Nat),K.lookup a=some o/\o.cls=.type "tuple"/\o.data=.seq its n/\its.size<=sizeLine/\Az xs its.toList
def xP:Value->Option V
 | .none=>some .non
 | .bool b=>some (.bl b)
 | .int i _=>some (.int i)
 | .str x _=>some (.str x)
 | .bytes b _=>some (.byt b)
 | .float b _=>some (.flt b)
 | .ref a=>some (.ref a)
 | .type n=>some (.ty n)
 | _=>none
theorem Ba.abs {x:V}{u:Value}(r:Ba x u):xP u=some x:=by
 cases x with
 | non=>cases r;rfl
 | bl _=>cases r;rfl
 | int _=>obtain ⟨t,rfl⟩:=r;rfl
 | str _=>obtain ⟨t,rfl⟩:=r;rfl
 | byt _=>obtain ⟨t,rfl⟩:=r;rfl
 | flt _=>obtain ⟨t,rfl⟩:=r;rfl
 | ref _=>cases r;rfl
 | ty _=>cases r;rfl
theorem Ba.inj {x y:V}{u:Value}(r:Ba x u)(q:Ba y u):x=y:=Option.some.inj (r.abs.symm.trans q.abs)
theorem Az.inj:∀ {xs ys:List V} {us:List Value},Az xs us->Az ys us->xs=ys
 | _,_,_,.nil,.nil=>rfl
 | _,_,_,.cons r t,.cons r' t'=>by rw [r.inj r',Az.inj t t']
section
variable {X:Cx} {pins:List (Addr×Obj)} {σ:St} {H:Hp} {s:Shared} {a:Addr} {xs ys:List V}
theorem SqL.of {K:PySem.W.Frag}(h:H a=some (.lst xs)):SqL K H a xs:=.inl (.inl h)
theorem SqT.of {K:PySem.W.Frag}(h:H a=some (.tup xs)):SqT K H a xs:=.inl (.inl h)
theorem Inv.list (I:Inv X pins σ H s)(h:SqL X.K H a xs):∃ its:List Value,Az xs its/\PlainL s.heap a its.toArray/\xs.length<=sizeLine:=by
 rcases h with h | ⟨o,its,n,hk,hc,hd,hs,hz,r⟩
 ·obtain ⟨z,its,n,r,e⟩:=h.ok I.hok
  exact ⟨its,r,⟨_,n,e,rfl,rfl,rfl⟩,z⟩
 ·refine ⟨its.toList,r,⟨o,n,I.kIn a o hk,hc,hd,by simpa using hs⟩,?_⟩
  have e:=r.length;simp only [Array.length_toList] at e;omega
theorem Inv.tuple (I:Inv X pins σ H s)(h:SqT X.K H a xs):∃ its:List Value,Az xs its/\IsTup s.heap a its.toArray/\xs.length<=sizeLine:=by
 rcases h with h | ⟨o,its,n,hk,hc,hs,hz,r⟩
 ·obtain ⟨z,its,r,p⟩:=h.ok I.hok
  exact ⟨its,r,p,z⟩
 ·refine ⟨its.toList,r,⟨o,I.kIn a o hk,hc,n,by simpa using hs⟩,?_⟩
  have e:=r.length;simp only [Array.length_toList] at e;omega
theorem Inv.list_inj (I:Inv X pins σ H s)(h:SqL X.K H a xs)(h':SqL X.K H a ys):xs=ys:=by
 obtain ⟨its,r,⟨o,n,e,_,_,d⟩,_⟩:=I.list h;obtain ⟨its',r',⟨o',n',e',_,_,d'⟩,_⟩:=I.list h';rw [e] at e';cases e';rw [d] at d'
 injection d' with d1 _
 have:its=its':=by simpa using congrArg Array.toList d1
 subst this;exact r.inj r'
theorem Inv.tuple_inj (I:Inv X pins σ H s)(h:SqT X.K H a xs)(h':SqT X.K H a ys):xs=ys:=by
 obtain ⟨its,r,⟨o,e,_,n,d⟩,_⟩:=I.tuple h;obtain ⟨its',r',⟨o',e',_,n',d'⟩,_⟩:=I.tuple h';rw [e] at e';cases e';rw [d] at d'
 injection d' with d1 _
 have:its=its':=by simpa using congrArg Array.toList d1
 subst this;exact r.inj r'
end
abbrev Cx.wish (X:Cx)(E:Value->Shared->Prop):Cx:={ X with xe:=E }
abbrev Cx.nox (X:Cx):Cx:=X.wish fun _ _=>False
theorem Cx.Ok.wish {X:Cx}(ok:X.Ok)(E:Value->Shared->Prop):(X.wish E).Ok :=
 ⟨ok.mod,ok.kind,ok.glob,ok.blt,ok.above,ok.inj,ok.has,ok.cab,ok.hd,ok.frames,ok.stk,ok.exf,ok.bs,ok.bsz,ok.noex,ok.exfs,ok.funs,ok.frf⟩
theorem Cx.Ok.unwish {X:Cx}{E:Value->Shared->Prop}(ok:(X.wish E).Ok):X.Ok :=
 ⟨ok.mod,ok.kind,ok.glob,ok.blt,ok.above,ok.inj,ok.has,ok.cab,ok.hd,ok.frames,ok.stk,ok.exf,ok.bs,ok.bsz,ok.noex,ok.exfs,ok.funs,ok.frf⟩
section
variable {X:Cx} {pins:List (Addr×Obj)} {σ:St} {H:Hp} {s:Shared} {E:Value->Shared->Prop}
theorem Inv.wish (I:Inv X pins σ H s)(E:Value->Shared->Prop):Inv (X.wish E) pins σ H s:=⟨I.ok.wish E,I.os,I.bare,I.base,I.loc,I.cell,I.free,I.freeC,I.pin,I.hok,I.len⟩
theorem Inv.unwish (I:Inv (X.wish E) pins σ H s):Inv X pins σ H s:=⟨I.ok.unwish,I.os,I.bare,I.base,I.loc,I.cell,I.free,I.freeC,I.pin,I.hok,I.len⟩
theorem SP.unwish {D:K4}{f:Flow}{s':Shared}(h:SP (X.wish E) pins D f s'):SP X pins D f s':=by
 cases f with
 | next=>obtain ⟨σ',H',I,q⟩:=h;exact ⟨σ',H',I.unwish,q⟩
 | brk=>obtain ⟨σ',H',I,q⟩:=h;exact ⟨σ',H',I.unwish,q⟩
 | cont=>obtain ⟨σ',H',I,q⟩:=h;exact ⟨σ',H',I.unwish,q⟩
 | ret u=>obtain ⟨v,σ',H',I,r,q⟩:=h;exact ⟨v,σ',H',I.unwish,r,q⟩
theorem PSs.nox {st:List Stmt}{t:TS}(h:PSs X.nox st t):PSs X st t:=fun pins s σ H D I hw =>
 wpAny_mono (h pins s σ H D (I.wish _) hw) (fun _ _ q=>q.unwish) fun _ _ z=>False.elim z
end
section
variable {X:Cx} {st:Stmt} {Nw:List Stmt} {t u:TS} {e:Expr} {te:TE} {pos:Pos}
def qB:TS:=fun D σ H=>D.nx σ H
def uM (t u:TS):TS:=fun D σ H=>t { D with nx:=u D } σ H
theorem Bb:PSs X [] qB:=fun _ _ σ H _ I h=>wpAny_execs_nil ⟨σ,H,I,h⟩
theorem Aa (h1:PS X st t)(h2:PSs X Nw u):PSs X (st::Nw) (uM t u):=by
 intro pins s σ H D I h;refine wpAny_execs_cons (thn (h1 pins s σ H { D with nx:=u D } I h) fun f s1 q=>?_)
 cases f with
 | next =>
  obtain ⟨σ',H',I',q⟩:=q;exact h2 pins s1 σ' H' D I' q
 | ret v=>exact q
 | brk=>exact q
 | cont=>exact q
theorem Af (h1:PS X st t):PSs X [st] t:=by
 intro pins s σ H D I h;refine wpAny_execs_cons (thn (h1 pins s σ H D I h) fun f s1 q=>?_)
 cases f with
 | next=>exact wpAny_execs_nil q
 | ret v=>exact q
 | brk=>exact q
 | cont=>exact q
theorem Inv.quiet {pins:List (Addr×Obj)}{σ:St}{H:Hp}{s:Shared}(I:Inv X pins σ H s):interactive X.env=false:=by simp [interactive,I.ok.kind]
def pL (te:TE):TS:=fun D σ H=>te σ H fun _ H1=>D.nx σ H1
theorem Bk (he:PE X e te)(hs:swapsWith e none pos.line X.env=pure false:=by rfl):PS X (.Expr e pos) (pL te):=by
 intro pins s σ H D I h;exact wpAny_Expr_any (thn (he pins s σ H _ I h) fun v s1 ⟨x,H1,I1,r1,q1⟩=>⟨σ,H1,I1,q1⟩) I.quiet hs
def uB (te:TE):TS:=fun D σ H=>te σ H D.rt
theorem At (he:PE X e te):PS X (.Return (some e) pos) (uB te):=by
 intro pins s σ H D I h;exact wpAny_Return_some (thn (he pins s σ H _ I h) fun v s1 ⟨x,H1,I1,r1,q1⟩=>⟨x,σ,H1,I1,r1,q1⟩)
def tX (c:TT)(t u:TS):TS:=fun D σ H=>c σ H fun b H1=>if b=true then t D σ H1 else u D σ H1
theorem Cq {c:Expr}{a b:List Stmt}{tc:TT}(hc:PT X c tc)(ha:PSs X a t)(hb:PSs X b u):PS X (.If c a b pos) (tX tc t u):=by
 intro pins s σ H D I h;refine wpAny_If (thn (hc pins s σ H _ I h) fun d s1 ⟨H1,I1,q1⟩=>?_)
 cases d with
 | true=>exact ha pins s1 σ H1 D I1 q1
 | false=>exact hb pins s1 σ H1 D I1 q1
def qP:TS:=fun _ _ _=>False
theorem Fl:PS X st qP:=fun _ _ _ _ _ _ h=>h.elim
end
abbrev TG:=V->St->Hp->(St->Hp->Prop)->Prop
abbrev TGs:=List V->St->Hp->(St->Hp->Prop)->Prop
def PG (X:Cx)(target:Expr)(t:TG):Prop :=
 ∀ (pins:List (Addr×Obj)) (s:Shared) (σ:St) (H:Hp) (v:V) (u:Value) (Q:St->Hp->Prop),Inv X pins σ H s->Ba v u->t v σ H Q ->
  wpAny (model X.prog X.w) X.A (assign target X.env u) (fun _ s'=>∃ σ' H',Inv X pins σ' H' s'/\Q σ' H') X.xe s
def PGs (X:Cx)(ts:List Expr)(t:TGs):Prop :=
 ∀ (pins:List (Addr×Obj)) (s:Shared) (σ:St) (H:Hp) (vs:List V) (us:List Value) (Q:St->Hp->Prop),Inv X pins σ H s->Az vs us->t vs σ H Q ->
  wpAny (model X.prog X.w) X.A (assignInOrder ((assignEach ts X.env).map (·.2)) us) (fun _ s'=>∃ σ' H',Inv X pins σ' H' s'/\Q σ' H') X.xe s
abbrev Xg:=V->V->V->Hp->(Hp->Prop)->Prop
def oF (X:Cx)(t:Xg):Prop :=
 ∀ (pins:List (Addr×Obj)) (s:Shared) (σ:St) (H:Hp) (o i v:V) (ov iv u:Value) (Q:Hp->Prop),Inv X pins σ H s->Ba o ov->Ba i iv->Ba v u->t o i v H Q ->
  wpAny (model X.prog X.w) X.A (setItem ov iv u) (fun _ s'=>∃ H',Inv X pins σ H' s'/\Q H') X.xe s
abbrev TIp:=V->V->Hp->VK->Prop
def PIp (X:Cx)(op:Operator)(t:TIp):Prop :=
 ∀ (pins:List (Addr×Obj)) (s:Shared) (σ:St) (H:Hp) (x y:V) (v u:Value) (Q:VK),Inv X pins σ H s->Ba x v->Ba y u->t x y H Q ->
  wpAny (model X.prog X.w) X.A (inplaceOp op v u) (EP X pins σ Q) X.xe s
section
variable {X:Cx} {pos:Pos}
def E8 (i:Nat):TG:=fun v σ H Q=>Q (σ.set i (some v)) H
theorem Bc {i:Nat}{x:Str}(hN:X.N.Nodup)(hi:X.N[i]?=some x)(hx:Loc X.env.scope x)(hf:X.fn x=true\/X.env.scope.names.lookup x=some .local:=by first | exact .inl rfl | exact .inr rfl | assumption):PG X (.Name x pos) (E8 i):=by
 intro pins s σ H v u Q I r h;exact wpAny_assign_Name (Pl I hN hi hx r (fun s' I'=>⟨_,H,I',h⟩) hf)
def gE:TGs:=fun vs σ H Q=>vs=[]/\Q σ H
def J5 (t:TG)(u:TGs):TGs:=fun vs σ H Q=>∃ v r,vs=v::r/\t v σ H fun σ' H'=>u r σ' H' Q
theorem M7:PGs X [] gE:=by
 intro pins s σ H vs us Q I r h;obtain ⟨e,h⟩:=h;subst e;cases r;exact assignInOrder_nil ⟨σ,H,I,h⟩
theorem Dc {e:Expr}{es:List Expr}{t:TG}{u:TGs}(h1:PG X e t)(h2:PGs X es u)
  (hs:(assignEach (e::es) X.env).map (·.2)=assign e X.env::(assignEach es X.env).map (·.2):=by rfl):PGs X (e::es) (J5 t u):=by
 intro pins s σ H vs us Q I r h;obtain ⟨v,vr,e1,h⟩:=h;subst e1
 cases r with
 | cons r rr =>
  rw [hs];refine assignInOrder_cons (thn (h1 pins s σ H _ _ _ I r h) fun _ s1 ⟨σ1,H1,I1,q1⟩=>?_);exact h2 pins s1 σ1 H1 _ _ Q I1 rr q1
def lG (K:PySem.W.Frag)(n:Nat)(t:TGs):TG:=fun v σ H Q=>∃ a xs,v=.ref a/\SqT K H a xs/\xs.length=n/\t xs σ H Q
theorem Qy {es:List Expr}{k:Nat}{t:TGs}{n:Nat}(hc:X.calm=true)(h:PGs X es t)
  (hn:(assignEach es X.env).length=n:=by rfl)(hst:(assignEach es X.env).findIdx? (·.1)=none:=by rfl):PG X (.Tuple es k pos) (lG X.K n t):=by
 intro pins s σ H v u Q I r hw;obtain ⟨a,xs,e1,hq,hl,hw⟩:=hw;subst e1;cases r;obtain ⟨its,rv,ht,hz⟩:=I.tuple hq;refine assign_Tuple_tuple (I.ok.hd hc) ht (by simp [hn,<- hl,rv.length]) hst fun h' hx=>?_;have I1:Inv X pins σ H { s with heap:=h' }:=I.kept (t':=s.toks) fun b o e=>hx b o (Nat.ne_of_lt (Heap.lt_size e)) e;exact h pins _ σ H xs _ Q I1 (by simpa using rv) hw
def wF (to ti:TE)(t:Xg):TG:=fun v σ H Q=>to σ H fun o H1=>ti σ H1 fun i H2=>t o i v H2 fun H3=>Q σ H3
theorem Uy {o i:Expr}{to ti:TE}{t:Xg}(ho:PE X o to)(hi:PE X i ti)(hs:oF X t)
  (ha:∀ v,assign (.Subscript o i pos) X.env v=(do
   let ov <- holding [v] (eval o X.env)
   let iv <- holding [v,ov] (eval i X.env)
   standAt pos
   holding [v,ov,iv] (setItem ov iv v)
   release [v,ov,iv] []):=by intro _;rfl):PG X (.Subscript o i pos) (wF to ti t):=by
 intro pins s σ H v u Q I r h;rw [ha];refine wpAny_bind (wpAny_holding (thn (ho pins s σ H _ I h) fun ov s1 ⟨x,H1,I1,r1,q1⟩=>?_));refine wpAny_bind (wpAny_holding (thn (hi pins s1 σ H1 _ I1 q1) fun iv s2 ⟨y,H2,I2,r2,q2⟩=>?_));refine wpAny_bind (wpAny_standAt (wpAny_bind (wpAny_holding (thn (hs pins s2 σ H2 x y v ov iv u _ I2 r1 r2 r q2) fun _ s3 ⟨H3,I3,q3⟩=>?_))));exact wpAny_release ⟨σ,H3,I3,q3⟩
def jI (te:TE)(g:TG):TS:=fun D σ H=>te σ H fun x H1=>g x σ H1 D.nx
theorem Rm {tg e:Expr}{te:TE}{g:TG}(he:PE X e te)(hg:PG X tg g)(hs:swapsWithSole [tg] e pos.line X.env=pure false:=by rfl)(hw:swappedStores [tg] e X.env=pure none:=by rfl)
  (h1:(assignEach [tg] X.env).map (·.2)=[assign tg X.env]:=by rfl):PS X (.Assign [tg] e pos) (jI te g):=by
 intro pins s σ H D I h;refine wpAny_Assign_stores (thn (he pins s σ H _ I h) fun v s1 ⟨x,H1,I1,r1,q1⟩=>?_) hs hw;rw [h1];exact thn (hg pins s1 σ H1 x v _ I1 r1 q1) fun _ s2 q=>q
theorem Ao {i:Nat}{x:Str}{e:Expr}{te:TE}{pos':Pos}(hN:X.N.Nodup)(hi:X.N[i]?=some x)(hx:Loc X.env.scope x)(he:PE X e te)(hs:swapsWith e (some (.Name x pos')) pos.line X.env=pure false:=by rfl)(hf:X.fn x=true\/X.env.scope.names.lookup x=some .local:=by first | exact .inl rfl | exact .inr rfl | assumption) :
  PS X (.Assign [.Name x pos'] e pos) (jI te (E8 i)):=by
 intro pins s σ H D I h;refine wpAny_Assign_Name (thn (he pins s σ H _ I h) fun v s1 ⟨y,H1,I1,r1,q1⟩=>?_) hs;exact Pl I1 hN hi hx r1 (fun s2 I2=>⟨_,H1,I2,q1⟩) hf
def uT (i:Nat)(te:TE)(ti:TIp):TS:=fun D σ H=>∃ x,σ[i]?=some (some x)/\te σ H fun y H1=>ti x y H1 fun z H2=>D.nx (σ.set i (some z)) H2
theorem Gx {i:Nat}{x:Str}{e:Expr}{te:TE}{op:Operator}{ti:TIp}{pos':Pos}(hN:X.N.Nodup)(hi:X.N[i]?=some x)(hx:Loc X.env.scope x)(he:PE X e te)(ho:PIp X op ti)(hf:X.fn x=true\/X.env.scope.names.lookup x=some .local:=by first | exact .inl rfl | exact .inr rfl | assumption) :
  PS X (.AugAssign (.Name x pos') op e pos) (uT i te ti):=by
 intro pins s σ H D I h;obtain ⟨v,e1,h⟩:=h;obtain ⟨m,hn,hl⟩:=I.loc;have vis:Vis X.env.scope x:=by rcases hx with k | k;exact .inl k;exact .inr (.inl k)
 obtain ⟨u,r,l⟩:=hl i x v hi e1 vis;refine wpAny_AugAssign_Name ?_;have go:wpAny (model X.prog X.w) X.A (eval e X.env) (fun w s₂=>wpAny (model X.prog X.w) X.A (inplaceOp op u w) (fun r s₃=>wpAny (model X.prog X.w) X.A (storeName X.env x r) (fun _=>SP X pins D .next) X.xe s₃) X.xe s₂) X.xe s:=by
  refine thn (he pins s σ H _ I h) fun w s1 ⟨y,H1,I1,r1,q1⟩=>?_;refine thn (ho pins s1 σ H1 v y u w _ I1 r r1 q1) fun z s2 ⟨zv,H2,I2,r2,q2⟩=>?_;exact Pl I2 hN hi hx r2 (fun s3 I3=>⟨_,H2,I3,q2⟩) hf
 rcases l with ⟨hk,hm⟩ | ⟨hk,c,hc,hcell⟩
 ·exact wpAny_loadName_local I.ok.kind hk hn hm go
 ·rcases hk with hk | hk
  ·exact wpAny_loadName_cell I.ok.kind hk hc hcell go
  ·rcases hx with k | k
   ·have:X.env.scope.names.lookup x=some .free:=hk
    rw [k] at this;cases this
   ·have:X.env.scope.names.lookup x=some .free:=hk
    rw [k] at this;cases this
def pQ (to ti te:TE)(tget:V->V->Hp->VK->Prop)(tip:TIp)(tset:Xg):TS:=fun D σ H=>to σ H fun o H1=>ti σ H1 fun i H2=>tget o i H2 fun x H3=>te σ H3 fun y H4=>tip x y H4 fun z H5=>tset o i z H5 fun H6=>D.nx σ H6
def wC (X:Cx)(t:V->V->Hp->VK->Prop):Prop :=
 ∀ (pins:List (Addr×Obj)) (s:Shared) (σ:St) (H:Hp) (o i:V) (ov iv:Value) (Q:VK),Inv X pins σ H s->Ba o ov->Ba i iv->t o i H Q ->
  wpAny (model X.prog X.w) X.A (getItem ov iv) (EP X pins σ Q) X.xe s
theorem Uu {o i e:Expr}{to ti te:TE}{tget:V->V->Hp->VK->Prop}{tip:TIp}{tset:Xg}{op:Operator}{tpos:Pos}(ho:PE X o to)(hi:PE X i ti)(hg:wC X tget)(he:PE X e te)(hp:PIp X op tip)(hs:oF X tset)
  (ha:∀ ov iv new,augStore i ov iv new=(do holding [new,ov,iv] (setItem ov iv new);release [new,ov,iv] [];pure .next):=by intros;rfl):PS X (.AugAssign (.Subscript o i tpos) op e pos) (pQ to ti te tget tip tset):=by
 intro pins s σ H D I h;refine wpAny_AugAssign_SubscriptAny (thn (ho pins s σ H _ I h) fun ov s1 ⟨x1,H1,I1,r1,q1⟩=>?_) ha;refine thn (hi pins s1 σ H1 _ I1 q1) fun iv s2 ⟨x2,H2,I2,r2,q2⟩=>?_;refine thn (hg pins s2 σ H2 x1 x2 ov iv _ I2 r1 r2 q2) fun old s3 ⟨x3,H3,I3,r3,q3⟩=>?_;refine thn (he pins s3 σ H3 _ I3 q3) fun v s4 ⟨x4,H4,I4,r4,q4⟩=>?_;refine thn (hp pins s4 σ H4 x3 x4 old v _ I4 r3 r4 q4) fun new s5 ⟨x5,H5,I5,r5,q5⟩=>?_;exact thn (hs pins s5 σ H5 x1 x2 x5 ov iv new _ I5 r1 r2 r5 q5) fun _ s6 ⟨H6,I6,q6⟩=>⟨σ,H6,I6,q6⟩
def ipI (f:Int->Int->Int):TIp:=fun x y H Q=>∃ i j,x=.int i/\y=.int j/\Q (.int (f i j)) H
theorem Lk:PIp X .Add (ipI fun i j=>i+j):=by
 intro pins s σ H x y v u Q I r1 r2 h;obtain ⟨i,j,e1,e2,q⟩:=h;subst e1;subst e2;obtain ⟨t,rfl⟩:=r1;obtain ⟨t',rfl⟩:=r2;exact iadd_int ⟨.int _,H,I.tok _,⟨_,rfl⟩,q⟩
theorem Vw:PIp X .Sub (ipI fun i j=>i-j):=by
 intro pins s σ H x y v u Q I r1 r2 h;obtain ⟨i,j,e1,e2,q⟩:=h;subst e1;subst e2;obtain ⟨t,rfl⟩:=r1;obtain ⟨t',rfl⟩:=r2;exact isub_int ⟨.int _,H,I.tok _,⟨_,rfl⟩,q⟩
end
section
variable {X:Cx} {pos:Pos}
def kB (c:TT)(tb:TS):TS:=fun D σ H=>∃ W:Nat->St->Hp->Prop,(∃ m,W m σ H)/\∀ m σ H,W m σ H ->
 c σ H fun b H1=>if b=true then ∃ N:St->Hp->Prop,(∀ σ' H',N σ' H'->∃ m',m'<m/\W m' σ' H')/\tb { D with nx:=N,ct:=N,bk:=D.nx } σ H1 else D.nx σ H1
theorem E4 {c:Expr}{body:List Stmt}{tc:TT}{tb:TS}(hp:PassesOwn (model X.prog X.w) X.A X.env X.xe)(hc:PT X c tc)(hb:PSs X body tb):PS X (.While c body [] pos) (kB tc tb):=by
 intro pins s σ H D I h;obtain ⟨W,⟨m0,w0⟩,turn⟩:=h;refine wpAny_While (codeAny_whileLoop (fun n s'=>∃ σ' H',Inv X pins σ' H' s'/\W n σ' H') ?_ m0 ⟨σ,H,I,w0⟩);rintro n s1 ⟨σ1,H1,I1,w1⟩;refine wpAny_passesOwn hp (thn (hc pins s1 σ1 H1 _ I1 (turn n σ1 H1 w1)) fun b s2 ⟨H2,I2,q2⟩=>?_)
 cases b with
 | true =>
  obtain ⟨N,hN,q2⟩:=q2;rw [if_pos rfl];refine wpAny_passesOwn hp (thn (hb pins s2 σ1 H2 _ I2 q2) fun f s3 q3=>?_)
  cases f with
  | next =>
   obtain ⟨σ3,H3,I3,n3⟩:=q3;obtain ⟨m',hm,w3⟩:=hN σ3 H3 n3;exact ⟨m',hm,σ3,H3,I3,w3⟩
  | cont =>
   obtain ⟨σ3,H3,I3,n3⟩:=q3;obtain ⟨m',hm,w3⟩:=hN σ3 H3 n3;exact ⟨m',hm,σ3,H3,I3,w3⟩
  | brk=>exact q3
  | ret v=>exact q3
 | false =>
  rw [if_neg Bool.false_ne_true];exact wpAny_execs_nil ⟨σ1,H2,I2,q2⟩
end
structure It where
 go:Nat->Hp->Prop
 yld:Nat->Hp->V->Hp->Prop
 stop:Nat->Hp->Prop
def Mc (X:Cx)(pins:List (Addr×Obj))(H:Hp)(b:Addr):Prop :=
 H b=none/\b≠X.env.locals/\b∉X.fs/\(b∈X.ex\/X.s₀.heap.objs.size<=b)/\(∀ x c,X.env.cells.lookup x=some c->c≠b)/\∀ p∈X.pn++pins,p.1≠b
theorem Inv.fpOk {X:Cx}{pins:List (Addr×Obj)}{σ:St}{H H':Hp}{s:Shared}{b:Addr}(I:Inv X pins σ H s)(hb:s.heap.objs.size<=b)(hn:H' b=none):Mc X pins H' b:=by
 refine ⟨hn,Nat.ne_of_gt (Nat.lt_of_lt_of_le I.lt hb),I.nofs hb,.inr (Nat.le_trans I.sz hb),fun x c e z=>?_,fun p hp z=>?_⟩
 ·obtain ⟨v,q⟩:=I.cell x c e
  exact absurd (Nat.lt_of_lt_of_le q.lt (by rw [z];exact hb)) (Nat.lt_irrefl _)
 ·exact absurd (Nat.lt_of_lt_of_le (Heap.lt_size (I.pin p hp).1) (by rw [z];exact hb)) (Nat.lt_irrefl _)
structure Ps (P:Program) (w:World) (K:PySem.W.Frag) (tg:Expr) (J:It) (fp:List Addr) (it:Addr) (tn:Nat->Heap->Prop):Prop where
 mem:it∈fp
 obj:∀ i h,tn i h->∀ b∈fp,∃ o,h.get? b=some o/\∀ v,o.data≠.cell v
 keep:∀ i h h',tn i h->(∀ b∈fp,∀ o,h.get? b=some o->h'.get? b=some o)->tn i h'
 item:∀ (X:Cx),X.prog=P->X.w=w->X.K=K->X.calm=true->∀ (i:Nat) (pins:List (Addr×Obj)) (s:Shared) (σ:St) (H:Hp) (E:Value->Shared->Prop),Inv X pins σ H s->(∀ b∈fp,Mc X pins H b)->tn i s.heap->J.go i H ->
  wpAny (model P w) X.A (pyNext (.ref it)) (fun r s1=>∃ u,r=some u /\
   wpAny (model P w) X.A (letOwnedTupleGo tg (.ref it) u) (fun _ s2=>∃ x H',Inv X pins σ H' s2/\Ba x u/\J.yld i H x H'/\tn (i+1) s2.heap/\∀ b∈fp,H' b=none) E s1) E s
 done:∀ (X:Cx),X.prog=P->X.w=w->X.K=K->X.calm=true->∀ (i:Nat) (pins:List (Addr×Obj)) (s:Shared) (σ:St) (H:Hp) (E:Value->Shared->Prop),Inv X pins σ H s->(∀ b∈fp,Mc X pins H b)->tn i s.heap->J.stop i H ->
  wpAny (model P w) X.A (pyNext (.ref it)) (fun r s1=>r=none/\Inv X pins σ H s1) E s
 self:∀ (A:Around) (i:Nat) (s:Shared) (Q:Value->Shared->Prop) (E:Value->Shared->Prop),tn i s.heap->Q (.ref it) s->wpAny (model P w) A (pyIter (.ref it)) Q E s
abbrev TI:=St->Hp->(It->Hp->Prop)->Prop
def PIE (X:Cx)(pins:List (Addr×Obj))(σ:St)(tg:Expr)(R:It->Hp->Prop)(itv:Value)(s2:Shared):Prop :=
 ∃ (it:Addr) (fp:List Addr) (tn:Nat->Heap->Prop) (J:It) (H':Hp),itv=.ref it/\Inv X pins σ H' s2/\Ps X.prog X.w X.K tg J fp it tn/\tn 0 s2.heap/\(∀ b∈fp,Mc X pins H' b)/\R J H'
def PI (X:Cx)(tg iter:Expr)(wi:TI):Prop :=
 ∀ (pins:List (Addr×Obj)) (s:Shared) (σ:St) (H:Hp) (R:It->Hp->Prop),Inv X pins σ H s->wi σ H R ->
  wpAny (model X.prog X.w) X.A (eval iter X.env) (fun v s1=>wpAny (model X.prog X.w) X.A (pyIter v) (PIE X pins σ tg R) X.xe s1) X.xe s
theorem bS {M:Model}{A:Around}{E:Value->Shared->Prop}{s:Shared}{tg:Expr}{it:Addr}{u:Value}{o:Obj}{n:String}{vs:Array Value}{Q:Unit->Shared->Prop}(ho:s.heap.get? it=some o)(hc:o.cls=.type n)(hd:o.data=.fields vs)
    (hn : ["enumerate", "zip", "dict_itemiterator", "dict_reverseitemiterator", "odict_iterator", "itertools.zip_longest", "itertools.pairwise"].contains n = false)(hQ : Q () s) : wpAny M A (letOwnedTupleGo tg (.ref it) u) Q E s := by
  unfold letOwnedTupleGo;cases tg <;> first
    | exact wpAny_pure hQ
    | (cases u <;> first
        | exact wpAny_pure hQ
        | (refine wpAny_bind (wpAny_load ho ?_)
           rw [hc, hd];show wpAny M A (if (["enumerate", "zip", "dict_itemiterator", "dict_reverseitemiterator", "odict_iterator", "itertools.zip_longest", "itertools.pairwise"].contains n && vs[0]? == some (rawInt _)) = true then _ else _) Q E s;rw [if_neg (by intro h; rw [hn, Bool.false_and] at h; cases h)];exact wpAny_pure hQ))
def Itl (K:PySem.W.Frag)(a:Addr):It :=
 ⟨fun i H=>∃ xs x,SqL K H a xs/\xs[i]?=some x,fun i H x H'=>H'=H/\∀ xs,SqL K H a xs->xs[i]?=some x,fun i H=>∃ xs,SqL K H a xs/\xs.length<=i⟩
def Itt (K:PySem.W.Frag)(a:Addr):It :=
 ⟨fun i H=>∃ xs x,SqT K H a xs/\xs[i]?=some x,fun i H x H'=>H'=H/\∀ xs,SqT K H a xs->xs[i]?=some x,fun i H=>∃ xs,SqT K H a xs/\xs.length<=i⟩
def Itr (lo:Int)(n:Nat):It:=⟨fun i _=>i<n,fun i H x H'=>H'=H/\x=.int (lo+i),fun i _=>n<=i⟩
theorem fJ {P:Program}{w:World}{K:PySem.W.Frag}{tg:Expr}(a it:Addr):Ps P w K tg (Itl K a) [it] it (fun i h=>h.IsListIter it a i) where
 mem:=by simp
 obj:=fun i h st b hb=>by
  have e:b=it:=by simpa using hb
  subst e;obtain ⟨o,e,c,d⟩:=st;exact ⟨o,e,fun v z=>by rw [d] at z;cases z⟩
 keep:=fun i h h' st k=>st.at fun o e=>k it (by simp) o e
 item:=by
  intro X hP hw hK hc i pins s σ H E I hf st hg;subst hP hw hK;obtain ⟨xs,x,hq,hx⟩:=hg;obtain ⟨its,rv,p,hz⟩:=I.list hq;obtain ⟨u,hu,ru⟩:=rv.get hx;obtain ⟨f0,f1,f2,f3,f4,f5⟩:=hf it (by simp);refine wpAny_pyNext_list_item st p.isList (x:=u) (by simpa using hu) fun h' st' sb=>?_;have I1:Inv X pins σ H { s with heap:=h' }:=I.turned (t':=s.toks) (fun b o hb e=>(sb.2 b hb).trans e) f0 f1 f3 f4 f5;obtain ⟨o,e,c,d⟩:=id st';exact ⟨u,rfl,bS (s:={ s with heap:=h' }) e c d (by decide) ⟨x,H,I1,ru,⟨rfl,fun ys hy=>by rw [I.list_inj hy hq];exact hx⟩,st',fun b hb=>(hf b hb).1⟩⟩
 done:=by
  intro X hP hw hK hc i pins s σ H E I hf st hg;subst hP hw hK;obtain ⟨xs,hq,hx⟩:=hg;obtain ⟨its,rv,p,hz⟩:=I.list hq;obtain ⟨f0,f1,f2,f3,f4,f5⟩:=hf it (by simp);have hl:=rv.length;exact wpAny_pyNext_list_end (I.ok.hd hc) st p.isList (by simp;omega) fun h' eb=>⟨rfl,I.turned (t':=s.toks) (fun b o hb e=>eb b o hb e) f0 f1 f3 f4 f5⟩
 self:=fun _ _ _ _ _ st h=>wpAny_pyIter_listiter st h
theorem Z5 {P:Program}{w:World}{K:PySem.W.Frag}{tg:Expr}(a it:Addr):Ps P w K tg (Itt K a) [it] it (fun i h=>h.IsTupleIter it a i) where
 mem:=by simp
 obj:=fun i h st b hb=>by
  have e:b=it:=by simpa using hb
  subst e;obtain ⟨o,e,c,d⟩:=st;exact ⟨o,e,fun v z=>by rw [d] at z;cases z⟩
 keep:=fun i h h' st k=>st.at fun o e=>k it (by simp) o e
 item:=by
  intro X hP hw hK hc i pins s σ H E I hf st hg;subst hP hw hK;obtain ⟨xs,x,hq,hx⟩:=hg;obtain ⟨its,rv,p,hz⟩:=I.tuple hq;obtain ⟨u,hu,ru⟩:=rv.get hx;obtain ⟨f0,f1,f2,f3,f4,f5⟩:=hf it (by simp);refine wpAny_pyNext_tuple_item st (show s.heap.IsTuple a its.toArray from p) (x:=u) (by simpa using hu) fun h' st' sb=>?_;have I1:Inv X pins σ H { s with heap:=h' }:=I.turned (t':=s.toks) (fun b o hb e=>(sb.2 b hb).trans e) f0 f1 f3 f4 f5;obtain ⟨o,e,c,d⟩:=id st';exact ⟨u,rfl,bS (s:={ s with heap:=h' }) e c d (by decide) ⟨x,H,I1,ru,⟨rfl,fun ys hy=>by rw [I.tuple_inj hy hq];exact hx⟩,st',fun b hb=>(hf b hb).1⟩⟩
 done:=by
  intro X hP hw hK hc i pins s σ H E I hf st hg;subst hP hw hK;obtain ⟨xs,hq,hx⟩:=hg;obtain ⟨its,rv,p,hz⟩:=I.tuple hq;obtain ⟨f0,f1,f2,f3,f4,f5⟩:=hf it (by simp);have hl:=rv.length;exact wpAny_pyNext_tuple_end (I.ok.hd hc) st (show s.heap.IsTuple a its.toArray from p) (by simp;omega) fun h' eb=>⟨rfl,I.turned (t':=s.toks) (fun b o hb e=>eb b o hb e) f0 f1 f3 f4 f5⟩
 self:=fun _ _ _ _ _ st h=>wpAny_pyIter_tupleiter st h
theorem Z2 {P:Program}{w:World}{K:PySem.W.Frag}{tg:Expr}(it:Addr)(lo:Int)(n:Nat):Ps P w K tg (Itr lo n) [it] it (fun i h=>IsRangeIter h it (lo+(i:Nat)*1) ((n:Int)-(i:Nat)) 1) where
 mem:=by simp
 obj:=fun i h st b hb=>by
  have e:b=it:=by simpa using hb
  subst e;exact ⟨_,st,fun v z=>by
   have z':Data.fields _=Data.cell v:=z;cases z'⟩
 keep:=fun i h h' st k=>k it (by simp) _ st
 item:=by
  intro X hP hw hK hc i pins s σ H E I hf st hg;subst hP hw hK;obtain ⟨f0,f1,f2,f3,f4,f5⟩:=hf it (by simp);have W:=Walks.range (prog:=X.prog) (w:=X.w) (I.ok.hd hc) it lo 1 n;refine W.item i s _ _ hg st fun v h' tk hv st' kk=>?_;obtain ⟨t,rfl⟩:=hv;have I1:Inv X pins σ H { s with heap:=h',toks:=tk }:=I.turned (fun b o hb e=>kk b o (by simpa using hb) e) f0 f1 f3 f4 f5;refine ⟨_,rfl,bS (s:={ s with heap:=h',toks:=tk }) (n:="range_iterator") st' rfl rfl (by decide) ⟨.int (lo+i),H,I1,⟨t,?_⟩,⟨rfl,rfl⟩,st',fun b hb=>(hf b hb).1⟩⟩;rw [Int.mul_one]
 done:=by
  intro X hP hw hK hc i pins s σ H E I hf st hg;subst hP hw hK;obtain ⟨f0,f1,f2,f3,f4,f5⟩:=hf it (by simp);exact wpAny_pyNext_range_end (I.ok.hd hc) st (by have:n<=i:=hg;omega) fun h' eb=>⟨rfl,I.turned (t':=s.toks) (fun b o hb e=>eb b o hb e) f0 f1 f3 f4 f5⟩
 self:=fun _ _ _ _ _ st h=>wpAny_pyIter_rangeiter st h
section
variable {X:Cx} {tg:Expr}
def pT (K:PySem.W.Frag)(tl:TE):TI:=fun σ H R=>tl σ H fun x H1=>∃ a,x=.ref a/\(∃ xs,SqL K H1 a xs)/\R (Itl K a) H1
def rN (K:PySem.W.Frag)(tl:TE):TI:=fun σ H R=>tl σ H fun x H1=>∃ a,x=.ref a/\(∃ xs,SqT K H1 a xs)/\R (Itt K a) H1
theorem Dl {l:Expr}{tl:TE}(hl:PE X l tl):PI X tg l (pT X.K tl):=by
 intro pins s σ H R I h;refine thn (hl pins s σ H _ I h) fun v s1 ⟨x,H1,I1,r1,q1⟩=>?_;obtain ⟨a,e,⟨xs,hq⟩,q⟩:=q1;subst e;cases r1;obtain ⟨its,rv,p,hz⟩:=I1.list hq;refine wpAny_pyIter_list p.isList ?_;refine ⟨s1.heap.objs.size,[s1.heap.objs.size],_,_,H1,rfl,I1.kept (t':=s1.toks) fun b o e=>Heap.get?_push_of_some _ e,fJ a _,⟨_,Heap.get?_push_size _ rfl,rfl,rfl⟩,fun b hb=>?_,q⟩;have e:b=s1.heap.objs.size:=by simpa using hb
 subst e;exact I1.fpOk (Nat.le_refl _) (I1.hok.fresh (Nat.le_refl _))
theorem lE {l:Expr}{tl:TE}(hl:PE X l tl):PI X tg l (rN X.K tl):=by
 intro pins s σ H R I h;refine thn (hl pins s σ H _ I h) fun v s1 ⟨x,H1,I1,r1,q1⟩=>?_;obtain ⟨a,e,⟨xs,hq⟩,q⟩:=q1;subst e;cases r1;obtain ⟨its,rv,p,hz⟩:=I1.tuple hq;refine wpAny_pyIter_tuple (show s1.heap.IsTuple a its.toArray from p) ?_;refine ⟨s1.heap.objs.size,[s1.heap.objs.size],_,_,H1,rfl,I1.kept (t':=s1.toks) fun b o e=>Heap.get?_push_of_some _ e,Z5 a _,⟨_,Heap.get?_push_size _ rfl,rfl,rfl⟩,fun b hb=>?_,q⟩;have e:b=s1.heap.objs.size:=by simpa using hb
 subst e;exact I1.fpOk (Nat.le_refl _) (I1.hok.fresh (Nat.le_refl _))
theorem gC {pins:List (Addr×Obj)}{σ:St}{H:Hp}{s:Shared}{R:It->Hp->Prop}{E:Value->Shared->Prop}{lo hi:Int}{t u v:Tok}{tk:Nat}(I:Inv X pins σ H s)(h1:-(2 ^ 62)<=lo)(h2:lo<2 ^ 62)(h3:-(2 ^ 62)<=hi)(h4:hi<2 ^ 62)
  (q:R (Itr lo (hi-lo).toNat) H):wpAny (model X.prog X.w) X.A (pyIter (.ref s.heap.objs.size)) (PIE X pins σ tg R) E { s with heap:=s.heap.push { cls:=.type "range",data:=.fields #[.int lo t,.int hi u,.int 1 v] },toks:=tk }:=by
 refine wpAny_pyIter_range (IsRange.new ..) (small_one h1 h2 h3 h4) ?_;have I1:Inv X pins σ H { s with heap:=s.heap.push { cls:=.type "range",data:=.fields #[.int lo t,.int hi u,.int 1 v] },toks:=tk }:=I.kept fun b o e=>Heap.get?_push_of_some _ e;refine ⟨(s.heap.push { cls:=.type "range",data:=.fields #[.int lo t,.int hi u,.int 1 v] }).objs.size,[(s.heap.push { cls:=.type "range",data:=.fields #[.int lo t,.int hi u,.int 1 v] }).objs.size],_,_,H,rfl,
  I1.kept (t':=tk) fun b o e=>Heap.get?_push_of_some _ e,Z2 _ lo (hi-lo).toNat,?_,fun b hb=>?_,q⟩
 ·have e1:lo+((0:Nat):Int)*1=lo:=by simp
  have e2:(((hi-lo).toNat:Nat):Int)-((0:Nat):Int)=Builtin.Range.rangeSize lo hi 1:=by rw [rangeSize_one];split<;>omega
  show IsRangeIter _ _ (lo+((0:Nat):Int)*1) ((((hi-lo).toNat:Nat):Int)-((0:Nat):Int)) 1;rw [e1,e2];exact Heap.get?_push_size _ rfl
 ·have e:b=(s.heap.push { cls:=.type "range",data:=.fields #[.int lo t,.int hi u,.int 1 v] }).objs.size:=by simpa using hb
  subst e;exact I1.fpOk (Nat.le_refl _) (I1.hok.fresh (Nat.le_refl _))
def pG (ta:TA):TI:=fun σ H R=>ta σ H fun vs H1=>∃ j:Int,vs=[.int j]/\-(2 ^ 62)<=j/\j<2 ^ 62/\R (Itr 0 j.toNat) H1
theorem Fa {a:Expr}{ta:TA}{p pos:Pos}(hg:Gl X "range")(hm:X.mg "range"=none)(ha:PA X [a] ta)(hs:starEach [a] X.env=[(false,eval a X.env)]:=by rfl):PI X tg (.Call (.Name "range" p) [a] [] pos) (pG ta):=by
 intro pins s σ H R I h;refine Call_ (Dq I hg hm boot_range (PyProof.Rows.callWith_type1 (thn (ha pos pins s σ H _ I h) fun us s1 ⟨vs,H1,I1,r1,q1⟩=>?_) hs rfl));obtain ⟨j,e,q1,q2,q⟩:=q1;subst e
 cases r1 with
 | cons r rr =>
  cases rr;obtain ⟨t,rfl⟩:=r;exact call_range_1 (gC I1 (by omega) (by omega) q1 q2 (by simpa using q))
def wQ (wi:TI)(g:TG)(tb:TS):TS:=fun D σ H=>wi σ H fun J H1=>∃ W:Nat->Nat->St->Hp->Prop,(∃ m,W 0 m σ H1)/\∀ i m σ H,W i m σ H ->
 (J.stop i H/\D.nx σ H)\/(J.go i H/\∃ N:St->Hp->Prop,(∀ σ' H',N σ' H'->∃ m',m'<m/\W (i+1) m' σ' H')/\∀ x H',J.yld i H x H'->g x σ H' fun σ2 H2=>tb { D with nx:=N,ct:=N,bk:=D.nx } σ2 H2)
def Ng (fp:List Addr)(h:Heap):List (Addr×Obj):=fp.filterMap fun b=>(h.get? b).map fun o=>(b,o)
theorem Fd {fp:List Addr}{h:Heap}{b:Addr}{o:Obj}(hb:b∈fp)(e:h.get? b=some o):(b,o)∈Ng fp h:=List.mem_filterMap.mpr ⟨b,hb,by rw [e];rfl⟩
theorem fS {fp:List Addr}{h:Heap}{p:Addr×Obj}(hp:p∈Ng fp h):p.1∈fp/\h.get? p.1=some p.2:=by
 obtain ⟨b,hb,e⟩:=List.mem_filterMap.mp hp
 cases q:h.get? b with
 | none=>rw [q] at e;cases e
 | some o =>
  rw [q] at e;have e':(b,o)=p:=Option.some.inj e;subst e';exact ⟨hb,q⟩
theorem Inv.pinned {pins:List (Addr×Obj)}{σ:St}{H:Hp}{s:Shared}{fp:List Addr}(I:Inv X pins σ H s)(hf:∀ b∈fp,Mc X pins H b)(ho:∀ b∈fp,∃ o,s.heap.get? b=some o/\∀ v,o.data≠.cell v):Inv X (pins++Ng fp s.heap) σ H s :=
 I.pins_of fun p hp=>(List.mem_append.mp hp).elim (fun z=>I.pin p (List.mem_append_right _ z)) fun z=>by
  obtain ⟨hb,e⟩:=fS z;obtain ⟨f0,f1,f2,_⟩:=hf p.1 hb;obtain ⟨o,e',d⟩:=ho p.1 hb;rw [e] at e';cases e';exact ⟨e,f0,f1,f2,d⟩
theorem Inv.unpinned {pins pl:List (Addr×Obj)}{σ:St}{H:Hp}{s:Shared}(I:Inv X (pins++pl) σ H s):Inv X pins σ H s:=I.pins_of fun p hp=>I.pin p (List.mem_append_right _ (List.mem_append_left _ hp))
theorem Dy {iter:Expr}{body:List Stmt}{wi:TI}{g:TG}{tb:TS}{pos:Pos}(hp:PassesOwn (model X.prog X.w) X.A X.env X.xe)(hc:X.calm=true)(hi:PI X tg iter wi)(hg:PG X tg g)(hb:PSs X body tb)
  (hs:∀ x,foldedSetIterable iter X.env x=pure x:=by intro _;rfl):PS X (.For tg iter body [] pos) (wQ wi g tb):=by
 intro pins s σ H D I h;refine wpAny_For (thn (hi pins s σ H _ I h) fun v s1 h1=>thn h1 fun itv s2 h2=>?_) hs;obtain ⟨it,fp,tn,J,H2,e,I2,T,st2,f2,W,⟨m0,w0⟩,turn⟩:=h2;subst e
 -- what stays true of the iterator's objects through the loop
 have stat:∀ {H':Hp},(∀ b∈fp,H' b=none)->∀ b∈fp,Mc X pins H' b:=fun hn b hb=>⟨hn b hb,(f2 b hb).2⟩;refine codeAny_forLoop_any (fun n s'=>∃ i σ' H',Inv X pins σ' H' s'/\tn i s'.heap/\(∀ b∈fp,H' b=none)/\W i n σ' H') ?_ m0 ⟨0,σ,H2,I2,st2,fun b hb=>(f2 b hb).1,w0⟩;rintro n s3 ⟨i,σ3,H3,I3,st3,fr3,w3⟩;rcases turn i n σ3 H3 w3 with ⟨stop,qn⟩ | ⟨go,N,hN,step⟩
 ·refine wpAny_passesOwn hp (thn (T.done X rfl rfl rfl hc i pins s3 σ3 H3 X.xe I3 (stat fr3) st3 stop) fun r s4 ⟨hr,I4⟩=>?_)
  subst hr;exact wpAny_execs_nil ⟨σ3,H3,I4,qn⟩
 ·refine wpAny_passesOwn hp (thn (T.item X rfl rfl rfl hc i pins s3 σ3 H3 X.xe I3 (stat fr3) st3 go) fun r s4 ⟨u,hr,h4⟩=>?_)
  subst hr;refine wpAny_passesOwn hp (thn h4 fun _ s5 ⟨x,H5,I5,r5,y5,st5,fr5⟩=>?_);have I5':=I5.pinned (stat fr5) (T.obj _ _ st5);refine wpAny_passesOwn hp (thn (hg _ s5 σ3 H5 x u _ I5' r5 (step x H5 y5)) fun _ s6 ⟨σ6,H6,I6,q6⟩=>?_);refine wpAny_passesOwn hp (thn (hb _ s6 σ6 H6 _ I6 q6) fun f s7 q7=>?_);have again:∀ {σ7:St} {H7:Hp},Inv X (pins++Ng fp s5.heap) σ7 H7 s7->N σ7 H7->∃ m,m<n/\∃ i σ' H',Inv X pins σ' H' s7/\tn i s7.heap/\(∀ b∈fp,H' b=none)/\W i m σ' H':=fun {σ7 H7} I7 n7=>by
   obtain ⟨m',hm,w7⟩:=hN σ7 H7 n7;refine ⟨m',hm,i+1,σ7,H7,I7.unpinned,T.keep _ _ _ st5 fun b hb o e=>(I7.pin (b,o) (List.mem_append_right _ (List.mem_append_right _ (Fd hb e)))).1,fun b hb=>?_,w7⟩;obtain ⟨o,e,d⟩:=T.obj _ _ st5 b hb;exact (I7.pin (b,o) (List.mem_append_right _ (List.mem_append_right _ (Fd hb e)))).2.1
  cases f with
  | next=>obtain ⟨σ7,H7,I7,n7⟩:=q7;exact again I7 n7
  | cont=>obtain ⟨σ7,H7,I7,n7⟩:=q7;exact again I7 n7
  | brk=>obtain ⟨σ7,H7,I7,q7⟩:=q7;exact ⟨σ7,H7,I7.unpinned,q7⟩
  | ret v=>obtain ⟨x7,σ7,H7,I7,r7,q7⟩:=q7;exact ⟨x7,σ7,H7,I7.unpinned,r7,q7⟩
end
theorem G3 {K:PySem.W.Frag}{a:Addr}{xs:List V}{g:TG}{tb:TS}{D:K4}{σ:St}{H:Hp}(Pv:Nat->St->Hp->Prop)(h0:Pv 0 σ H)(hl:∀ i σ H,i<=xs.length->Pv i σ H->SqL K H a xs)
  (hs:∀ i x σ H,xs[i]?=some x->Pv i σ H->g x σ H fun σ2 H2=>tb { D with nx:=Pv (i+1),ct:=Pv (i+1),bk:=D.nx } σ2 H2)(hd:∀ σ H,Pv xs.length σ H->D.nx σ H) :
  ∃ W:Nat->Nat->St->Hp->Prop,(∃ m,W 0 m σ H)/\∀ i m σ H,W i m σ H ->
   ((Itl K a).stop i H/\D.nx σ H)\/((Itl K a).go i H/\∃ N:St->Hp->Prop,(∀ σ' H',N σ' H'->∃ m',m'<m/\W (i+1) m' σ' H')/\∀ x H',(Itl K a).yld i H x H'->g x σ H' fun σ2 H2=>tb { D with nx:=N,ct:=N,bk:=D.nx } σ2 H2):=by
 refine ⟨fun i m σ H=>m=xs.length-i/\i<=xs.length/\Pv i σ H,⟨xs.length,by simp,Nat.zero_le _,h0⟩,?_⟩;rintro i m σ H ⟨rfl,hi,p⟩;have q:=hl i σ H hi p
 by_cases hlt:i<xs.length
 ·refine .inr ⟨⟨xs,xs[i],q,by simp [hlt]⟩,Pv (i+1),fun σ' H' p'=>⟨xs.length-(i+1),by omega,rfl,hlt,p'⟩,fun x H' y=>?_⟩
  obtain ⟨e,y⟩:=y;subst e;exact hs i x σ _ (y xs q) p
 ·have e:i=xs.length:=by omega
  subst e;exact .inl ⟨⟨xs,q,Nat.le_refl _⟩,hd σ H p⟩
theorem Hg {lo:Int}{n:Nat}{g:TG}{tb:TS}{D:K4}{σ:St}{H:Hp}(Pv:Nat->St->Hp->Prop)(h0:Pv 0 σ H)
  (hs:∀ i σ H,i<n->Pv i σ H->g (.int (lo+i)) σ H fun σ2 H2=>tb { D with nx:=Pv (i+1),ct:=Pv (i+1),bk:=D.nx } σ2 H2)(hd:∀ σ H,Pv n σ H->D.nx σ H) :
  ∃ W:Nat->Nat->St->Hp->Prop,(∃ m,W 0 m σ H)/\∀ i m σ H,W i m σ H ->
   ((Itr lo n).stop i H/\D.nx σ H)\/((Itr lo n).go i H/\∃ N:St->Hp->Prop,(∀ σ' H',N σ' H'->∃ m',m'<m/\W (i+1) m' σ' H')/\∀ x H',(Itr lo n).yld i H x H'->g x σ H' fun σ2 H2=>tb { D with nx:=N,ct:=N,bk:=D.nx } σ2 H2):=by
 refine ⟨fun i m σ H=>m=n-i/\i<=n/\Pv i σ H,⟨n,by simp,Nat.zero_le _,h0⟩,?_⟩;rintro i m σ H ⟨rfl,hi,p⟩
 by_cases hlt:i<n
 ·refine .inr ⟨hlt,Pv (i+1),fun σ' H' p'=>⟨n-(i+1),by omega,rfl,hlt,p'⟩,fun x H' y=>?_⟩
  obtain ⟨e,y⟩:=y;subst e y;exact hs i σ _ hlt p
 ·have e:i=n:=by omega
  subst e;exact .inl ⟨Nat.le_refl _,hd σ H p⟩
abbrev R2:=V->V->Hp->VK->Prop
def OpR (X:Cx)(f:Value->Value->Sem Value)(r:R2):Prop :=
 ∀ (pins:List (Addr×Obj)) (s:Shared) (σ:St) (H:Hp) (x y:V) (v u:Value) (Q:VK),Inv X pins σ H s->Ba x v->Ba y u->r x y H Q ->
  wpAny (model X.prog X.w) X.A (f v u) (EP X pins σ Q) X.xe s
def UnR (X:Cx)(f:Value->Sem Value)(r:V->Hp->VK->Prop):Prop :=
 ∀ (pins:List (Addr×Obj)) (s:Shared) (σ:St) (H:Hp) (x:V) (v:Value) (Q:VK),Inv X pins σ H s->Ba x v->r x H Q ->
  wpAny (model X.prog X.w) X.A (f v) (EP X pins σ Q) X.xe s
def Ep (X:Cx)(f:Value)(r:List V->Hp->VK->Prop):Prop :=
 ∀ (pins:List (Addr×Obj)) (s:Shared) (σ:St) (H:Hp) (xs:List V) (us:List Value) (Q:VK),Inv X pins σ H s->Az xs us->r xs H Q ->
  wpAny (model X.prog X.w) X.A (call f us) (EP X pins σ Q) X.xe s
def tOp (r:R2)(ta tb:TE):TE:=fun σ H Q=>ta σ H fun x H1=>tb σ H1 fun y H2=>r x y H2 Q
def tUn (r:V->Hp->VK->Prop)(ta:TE):TE:=fun σ H Q=>ta σ H fun x H1=>r x H1 Q
def rI (C:Int->Int->Prop)(g:Int->Int->V):R2:=fun x y H Q=>∃ i j,x=.int i/\y=.int j/\C i j/\Q (g i j) H
def rI0 (g:Int->Int->V):R2:=fun x y H Q=>∃ i j,x=.int i/\y=.int j/\Q (g i j) H
def rU (g:Int->V):V->Hp->VK->Prop:=fun x H Q=>∃ i,x=.int i/\Q (g i) H
section
variable {X:Cx} {a b c:Expr} {ta tb tc:TE} {pos:Pos}
theorem tQ (ha:PE X a ta)(hb:PE X b tb){pins:List (Addr×Obj)}{s:Shared}{σ:St}{H:Hp}{R:V->V->Hp->Prop}(I:Inv X pins σ H s)
  (h:ta σ H fun x H1=>tb σ H1 fun y H2=>R x y H2){Q:Value->Shared->Prop}{f:Value->Value->Sem Value}
  (hf:∀ v u s2 x y H2,Inv X pins σ H2 s2->Ba x v->Ba y u->R x y H2->wpAny (model X.prog X.w) X.A (f v u) Q X.xe s2) :
  wpAny (model X.prog X.w) X.A (eval a X.env) (fun v s₁=>wpAny (model X.prog X.w) X.A (eval b X.env) (fun u s₂=>wpAny (model X.prog X.w) X.A (f v u) Q X.xe s₂) X.xe s₁) X.xe s:=by
 refine thn (ha pins s σ H _ I h) fun v s1 ⟨x,H1,I1,r1,q1⟩=>?_;refine thn (hb pins s1 σ H1 _ I1 q1) fun u s2 ⟨y,H2,I2,r2,q2⟩=>?_;exact hf v u s2 x y H2 I2 r1 r2 q2
theorem Aj {op:Operator}{r:R2}(ho:OpR X (binaryOp op) r)(ha:PE X a ta)(hb:PE X b tb):PE X (.BinOp a op b pos) (tOp r ta tb):=by
 intro pins s σ H Q I h;exact wpAny_BinOp (tQ ha hb I h fun v u s2 x y H2 I2 rx ry q=>ho pins s2 σ H2 x y v u Q I2 rx ry q)
theorem Dw {op:UnaryOp}{r:V->Hp->VK->Prop}(ho:UnR X (unaryOp op) r)(ha:PE X a ta):PE X (.UnaryOp op a pos) (tUn r ta):=by
 intro pins s σ H Q I h;exact UnaryOp_ (thn (ha pins s σ H _ I h) fun v s1 ⟨x,H1,I1,r1,q1⟩=>ho pins s1 σ H1 x v Q I1 r1 q1)
theorem opI {f:Value->Value->Sem Value}{C:Int->Int->Prop}{g:Int->Int->Int}
  (rule:∀ (i j:Int) (t u:Tok) (s:Shared) (Q:Value->Shared->Prop) (E:Value->Shared->Prop),C i j->Q (.int (g i j) s.toks) { s with toks:=s.toks+1 }->wpAny (model X.prog X.w) X.A (f (.int i t) (.int j u)) Q E s) :
  OpR X f (rI C fun i j=>.int (g i j)):=by
 intro pins s σ H x y v u Q I rx ry h;obtain ⟨i,j,rfl,rfl,hc,q⟩:=h;obtain ⟨t,rfl⟩:=rx;obtain ⟨t',rfl⟩:=ry;exact rule i j t t' s _ _ hc ⟨.int (g i j),H,I.tok _,⟨_,rfl⟩,q⟩
theorem oW {f:Value->Value->Sem Value}{g:Int->Int->Int}
  (rule:∀ (i j:Int) (t u:Tok) (s:Shared) (Q:Value->Shared->Prop) (E:Value->Shared->Prop),Q (.int (g i j) s.toks) { s with toks:=s.toks+1 }->wpAny (model X.prog X.w) X.A (f (.int i t) (.int j u)) Q E s) :
  OpR X f (rI0 fun i j=>.int (g i j)):=by
 intro pins s σ H x y v u Q I rx ry h;obtain ⟨i,j,rfl,rfl,q⟩:=h;obtain ⟨t,rfl⟩:=rx;obtain ⟨t',rfl⟩:=ry;exact rule i j t t' s _ _ ⟨.int (g i j),H,I.tok _,⟨_,rfl⟩,q⟩
theorem oQ {f:Value->Value->Sem Value}{g:Int->Int->Bool}
  (rule:∀ (i j:Int) (t u:Tok) (s:Shared) (Q:Value->Shared->Prop) (E:Value->Shared->Prop),Q (.bool (g i j)) s->wpAny (model X.prog X.w) X.A (f (.int i t) (.int j u)) Q E s) :
  OpR X f (rI0 fun i j=>.bl (g i j)):=by
 intro pins s σ H x y v u Q I rx ry h;obtain ⟨i,j,rfl,rfl,q⟩:=h;obtain ⟨t,rfl⟩:=rx;obtain ⟨t',rfl⟩:=ry;exact rule i j t t' s _ _ ⟨.bl (g i j),H,I,rfl,q⟩
def wJ (i j:Int):Prop:=0<j/\j<1073741824
def xT (i j:Int):Prop:=0<=j/\j<=1000000/\i.natAbs<2 ^ 64
def gH (i j:Int):Prop:=(-(2 ^ 64)<i/\i<2 ^ 64)\/(-(2 ^ 64)<j/\j<2 ^ 64)
theorem gH.ok {i j:Int}(h:gH i j):IntMulOk i j:=by
 rcases h with ⟨h1,h2⟩ | ⟨h1,h2⟩
 ·exact .of_left (intBits_le_64 h1 h2)
 ·exact .of_right (intBits_le_64 h1 h2)
theorem Rf (k:Nat):(0:Int)<=2 ^ k:=by
 rw [two_pow_cast];exact Int.natCast_nonneg _
theorem Bd:OpR X (binaryOp .Add) (rI0 fun i j=>.int (i+j)):=oW fun _ _ _ _ _ _ _ q=>add_int q
theorem C7:OpR X (binaryOp .Sub) (rI0 fun i j=>.int (i-j)):=oW fun _ _ _ _ _ _ _ q=>sub_int q
theorem Ki:OpR X (binaryOp .Mult) (rI gH fun i j=>.int (i*j)):=opI fun _ _ _ _ _ _ _ hc q=>mul_int q hc.ok
theorem Ce:OpR X (binaryOp .FloorDiv) (rI wJ fun i j=>.int (i/j)):=opI fun i j _ _ _ _ _ hc q=>by
 have h1:(0:Int)<j:=hc.1;have h2:j<1073741824:=hc.2;exact floordiv_int (by omega) (by rw [Int.fdiv_eq_ediv_of_nonneg i (by omega)];exact q) (.inl (PyProof.noPylong_small (by omega)))
theorem Cu:OpR X (binaryOp .Mod) (rI (fun _ j=>0<j) fun i j=>.int (i%j)):=opI fun i j _ _ _ _ _ hc q=>by
 have h1:(0:Int)<j:=hc;exact mod_int' (by omega) (by rw [Int.fmod_eq_emod_of_nonneg i (by omega)];exact q)
theorem qQ:OpR X (binaryOp .Pow) (rI xT fun i j=>.int (i ^ j.toNat)):=opI fun _ _ _ _ _ _ _ hc q=>pow_int_small hc.1 hc.2.1 hc.2.2 q
theorem lH:OpR X (binaryOp .RShift) (rI (fun _ j=>0<=j) fun i j=>.int (i/2 ^ j.toNat)):=opI fun i j _ _ _ _ _ hc q =>
 rshift_int hc (by rw [Int.fdiv_eq_ediv_of_nonneg i (Rf _)];exact q)
theorem Q5:OpR X (binaryOp .BitAnd) (rI0 fun i j=>.int (Builtin.bitAnd i j)):=oW fun _ _ _ _ _ _ _ q=>and_int q
theorem Zk:OpR X (binaryOp .BitXor) (rI0 fun i j=>.int (Builtin.bitXor i j)):=oW fun _ _ _ _ _ _ _ q=>xor_int q
theorem bQ:OpR X (inplaceOp .RShift) (rI (fun _ j=>0<=j) fun i j=>.int (i/2 ^ j.toNat)):=opI fun i j _ _ _ _ _ hc q =>
 irshift_int hc (by rw [Int.fdiv_eq_ediv_of_nonneg i (Rf _)];exact q)
theorem unI {f:Value->Sem Value}{g:Int->Int}
  (rule:∀ (i:Int) (t:Tok) (s:Shared) (Q:Value->Shared->Prop) (E:Value->Shared->Prop),Q (.int (g i) s.toks) { s with toks:=s.toks+1 }->wpAny (model X.prog X.w) X.A (f (.int i t)) Q E s) :
  UnR X f (rU fun i=>.int (g i)):=by
 intro pins s σ H x v Q I rx h;obtain ⟨i,rfl,q⟩:=h;obtain ⟨t,rfl⟩:=rx;exact rule i t s _ _ ⟨.int (g i),H,I.tok _,⟨_,rfl⟩,q⟩
theorem Cg:UnR X (unaryOp .USub) (rU fun i=>.int (-i)):=unI fun _ _ _ _ _ q=>neg_int q
end
def kY:V->V->Bool
 | .non,.non=>true | .non,.int _=>true | .int _,.non=>true | .non,.bl _=>true | .bl _,.non=>true | .non,.str _=>true | .str _,.non=>true
 | .int _,.int _=>true | .bl _,.bl _=>true | .str _,.str _=>true | .byt _,.byt _=>true
 | .int _,.str _=>true | .str _,.int _=>true | .bl _,.str _=>true | .str _,.bl _=>true
 | _,_=>false
def rEq:R2:=fun x y H Q=>kY x y=true/\Q (.bl (decide (x=y))) H
def rNe:R2:=fun x y H Q=>kY x y=true/\Q (.bl (!decide (x=y))) H
theorem cT {i j:Int}:decide (V.int i=V.int j)=(i==j):=by
 rw [Bool.eq_iff_iff];simp
theorem kZ {i j:Bool}:decide (V.bl i=V.bl j)=(i==j):=by
 rw [Bool.eq_iff_iff];simp
theorem cF {i j:Str}:decide (V.str i=V.str j)=(i==j):=by
 rw [Bool.eq_iff_iff];simp
theorem bX {i j:Array UInt8}:decide (V.byt i=V.byt j)=(i.toList==j.toList):=by
 rw [Bool.eq_iff_iff];cases i;cases j;simp
section
variable {X:Cx} {a b c:Expr} {ta tb tc:TE} {pos:Pos}
theorem Bq {pins:List (Addr×Obj)}{σ:St}{H:Hp}{s:Shared}{Q:VK}{k k':Bool}(I:Inv X pins σ H s)(q:Q (.bl k) H)(e:k=k'):EP X pins σ Q (.bool k') s:=by
 subst e;exact ⟨.bl k,H,I,rfl,q⟩
theorem G6:OpR X (compareOp .Eq) rEq:=by
 intro pins s σ H x y v u Q I rx ry h;obtain ⟨hs,q⟩:=h
 cases x with
 | non =>
  cases rx
  cases y with
  | non=>cases ry;exact PySem.EqNone.eq_none_none (Bq I q (by simp))
  | bl j=>cases ry;exact PySem.EqNone.eq_none_bool (Bq I q (by simp))
  | int j=>obtain ⟨t',rfl⟩:=ry;exact PySem.EqNone.eq_none_int (Bq I q (by simp))
  | str j=>obtain ⟨t',rfl⟩:=ry;exact PySem.EqNone.eq_none_str (Bq I q (by simp))
  | _=>exact absurd (show false=true from hs) Bool.false_ne_true
 | bl i =>
  cases rx
  cases y with
  | non=>cases ry;exact PySem.EqNone.eq_bool_none (Bq I q (by simp))
  | bl j=>cases ry;exact eq_bool (Bq I q kZ)
  | str j=>obtain ⟨t',rfl⟩:=ry;exact PySem.EqMixed.eq_bool_str (Bq I q (by simp))
  | _=>exact absurd (show false=true from hs) Bool.false_ne_true
 | int i =>
  obtain ⟨t,rfl⟩:=rx
  cases y with
  | non=>cases ry;exact PySem.EqNone.eq_int_none (Bq I q (by simp))
  | int j=>obtain ⟨t',rfl⟩:=ry;exact eq_int (Bq I q cT)
  | str j=>obtain ⟨t',rfl⟩:=ry;exact PySem.EqMixed.eq_int_str (Bq I q (by simp))
  | _=>exact absurd (show false=true from hs) Bool.false_ne_true
 | str i =>
  obtain ⟨t,rfl⟩:=rx
  cases y with
  | non=>cases ry;exact PySem.EqNone.eq_str_none (Bq I q (by simp))
  | bl j=>cases ry;exact PySem.EqMixed.eq_str_bool (Bq I q (by simp))
  | int j=>obtain ⟨t',rfl⟩:=ry;exact PySem.EqMixed.eq_str_int (Bq I q (by simp))
  | str j=>obtain ⟨t',rfl⟩:=ry;exact eq_str (Bq I q cF)
  | _=>exact absurd (show false=true from hs) Bool.false_ne_true
 | byt i =>
  obtain ⟨t,rfl⟩:=rx
  cases y with
  | byt j=>obtain ⟨t',rfl⟩:=ry;exact PySem.W.eq_bytes (Bq I q bX)
  | _=>exact absurd (show false=true from hs) Bool.false_ne_true
 | _=>cases y<;>exact absurd (show false=true from hs) Bool.false_ne_true
theorem Xj:OpR X (compareOp .NotEq) rNe:=by
 intro pins s σ H x y v u Q I rx ry h;obtain ⟨hs,q⟩:=h
 cases x with
 | non =>
  cases rx
  cases y with
  | non=>cases ry;exact PySem.EqNone.ne_none_none (Bq I q (by simp))
  | bl j=>cases ry;exact PySem.EqNone.ne_none_bool (Bq I q (by simp))
  | int j=>obtain ⟨t',rfl⟩:=ry;exact PySem.EqNone.ne_none_int (Bq I q (by simp))
  | str j=>obtain ⟨t',rfl⟩:=ry;exact PySem.EqNone.ne_none_str (Bq I q (by simp))
  | _=>exact absurd (show false=true from hs) Bool.false_ne_true
 | bl i =>
  cases rx
  cases y with
  | non=>cases ry;exact PySem.EqNone.ne_bool_none (Bq I q (by simp))
  | bl j=>cases ry;exact ne_bool (Bq I q (congrArg not kZ))
  | str j=>obtain ⟨t',rfl⟩:=ry;exact PySem.EqMixed.ne_bool_str (Bq I q (by simp))
  | _=>exact absurd (show false=true from hs) Bool.false_ne_true
 | int i =>
  obtain ⟨t,rfl⟩:=rx
  cases y with
  | non=>cases ry;exact PySem.EqNone.ne_int_none (Bq I q (by simp))
  | int j=>obtain ⟨t',rfl⟩:=ry;exact ne_int (Bq I q (congrArg not cT))
  | str j=>obtain ⟨t',rfl⟩:=ry;exact PySem.EqMixed.ne_int_str (Bq I q (by simp))
  | _=>exact absurd (show false=true from hs) Bool.false_ne_true
 | str i =>
  obtain ⟨t,rfl⟩:=rx
  cases y with
  | non=>cases ry;exact PySem.EqNone.ne_str_none (Bq I q (by simp))
  | bl j=>cases ry;exact PySem.EqMixed.ne_str_bool (Bq I q (by simp))
  | int j=>obtain ⟨t',rfl⟩:=ry;exact PySem.EqMixed.ne_str_int (Bq I q (by simp))
  | str j=>obtain ⟨t',rfl⟩:=ry;exact ne_str (Bq I q (congrArg not cF))
  | _=>exact absurd (show false=true from hs) Bool.false_ne_true
 | byt i =>
  obtain ⟨t,rfl⟩:=rx
  cases y with
  | byt j=>obtain ⟨t',rfl⟩:=ry;exact PySem.W.ne_bytes (Bq I q (congrArg not bX))
  | _=>exact absurd (show false=true from hs) Bool.false_ne_true
 | _=>cases y<;>exact absurd (show false=true from hs) Bool.false_ne_true
theorem Oa:OpR X (compareOp .Lt) (rI0 fun i j=>.bl (decide (i<j))):=oQ fun _ _ _ _ _ _ _ q=>lt_int q
theorem qE:OpR X (compareOp .LtE) (rI0 fun i j=>.bl (decide (i<=j))):=oQ fun _ _ _ _ _ _ _ q=>le_int q
theorem Ja:OpR X (compareOp .Gt) (rI0 fun i j=>.bl (decide (j<i))):=oQ fun _ _ _ _ _ _ _ q=>gt_int q
theorem kP:OpR X (compareOp .GtE) (rI0 fun i j=>.bl (decide (j<=i))):=oQ fun _ _ _ _ _ _ _ q=>ge_int q
theorem Ay (b:Expr){op:CmpOp}(h:op≠.In:=by decide)(h2:op≠.NotIn:=by decide):behindInMarks op b=false:=by
 have e1:(op==CmpOp.In)=false:=by cases op<;>first | rfl | exact absurd rfl h
 have e2:(op==CmpOp.NotIn)=false:=by cases op<;>first | rfl | exact absurd rfl h2
 cases b<;>simp [behindInMarks,e1,e2]
theorem Ou {op:CmpOp}{r:R2}(ho:OpR X (compareOp op) r)(ha:PE X a ta)(hb:PE X b tb)(hm:behindInMarks op b=false):PE X (.Compare a [op] [b] pos) (tOp r ta tb):=by
 intro pins s σ H Q I h;exact wpAny_Compare1 (tQ ha hb I h fun v u s2 x y H2 I2 rx ry q=>ho pins s2 σ H2 x y v u Q I2 rx ry q) hm
def qH (t:TE):TT:=fun σ H Q=>t σ H fun x H'=>∃ k,x=.bl k/\Q k H'
theorem Av {op:CmpOp}{r:R2}(ho:OpR X (compareOp op) r)(ha:PE X a ta)(hb:PE X b tb)(hm:behindInMarks op b=false):PT X (.Compare a [op] [b] pos) (qH (tOp r ta tb)):=by
 intro pins s σ H Q I h;refine wpAny_isTrue_Compare1 (thn (ha pins s σ H _ I h) fun v s1 ⟨x,H1,I1,r1,q1⟩=>thn (hb pins s1 σ H1 _ I1 q1) fun u s2 ⟨y,H2,I2,r2,q2⟩ =>
  thn (ho pins s2 σ H2 x y v u _ I2 r1 r2 q2) fun c s3 ⟨z,H3,I3,r3,k,e,q3⟩=>?_) hm
 subst e;cases r3;exact wpAny_truthy_bool ⟨H3,I3,q3⟩
def kQ (r r':R2)(ta tb tc:TE):TE:=fun σ H Q=>ta σ H fun x H1=>tb σ H1 fun y H2=>r x y H2 fun z H3=>∃ k,z=.bl k /\
 (if k=true then tc σ H3 fun w' H4=>r' y w' H4 Q else Q (.bl false) H3)
theorem kU {op op':CmpOp}{r r':R2}(ho:OpR X (compareOp op) r)(ho':OpR X (compareOp op') r')(ha:PE X a ta)(hb:PE X b tb)(hc:PE X c tc)
  (hm:lastMarks [op,op'] [b,c]=false:=by with_unfolding_all rfl):PE X (.Compare a [op,op'] [b,c] pos) (kQ r r' ta tb tc):=by
 intro pins s σ H Q I h;refine Compare_chain (thn (ha pins s σ H _ I h) fun v s1 ⟨x,H1,I1,r1,q1⟩=>chain_link (thn (hb pins s1 σ H1 _ I1 q1) fun u s2 ⟨y,H2,I2,r2,q2⟩ =>
  thn (ho pins s2 σ H2 x y v u _ I2 r1 r2 q2) fun d s3 ⟨z,H3,I3,r3,k,e,q3⟩=>?_)) hm
 subst e;cases r3;refine wpAny_truthy_bool ?_
 cases k with
 | false=>exact ite_ff ⟨.bl false,H3,I3,rfl,q3⟩
 | true=>exact ite_tt (chain_last (thn (hc pins s3 σ H3 _ I3 q3) fun w' s4 ⟨z',H4,I4,r4,q4⟩=>ho' pins s4 σ H4 y z' u w' Q I4 r2 r4 q4))
theorem Jm:(sizeLine:Nat)<2 ^ 63:=by rw [sizeLine_eq];decide
theorem O6:OpR X (binaryOp .Add) (fun x y H Q=>∃ i j,x=.str i/\y=.str j/\i.length+j.length<=sizeLine/\Q (.str (i++j)) H):=by
 intro pins s σ H x y v u Q I rx ry h;obtain ⟨i,j,rfl,rfl,hz,q⟩:=h;obtain ⟨t,rfl⟩:=rx;obtain ⟨t',rfl⟩:=ry;exact add_str (fun t' tk=>⟨.str (i++j),H,I.tok _,⟨_,rfl⟩,q⟩) hz
theorem E7 {x:V}{us:List Value}(r:Az [x] us):∃ u,us=[u]/\Ba x u:=by
 cases r with
 | cons r1 r2=>cases r2;exact ⟨_,rfl,r1⟩
theorem R1 {x y:V}{us:List Value}(r:Az [x,y] us):∃ u w',us=[u,w']/\Ba x u/\Ba y w':=by
 cases r with
 | cons r1 r2 =>
  cases r2 with
  | cons r3 r4=>cases r4;exact ⟨_,_,rfl,r1,r3⟩
theorem jD:Ep X (.builtin "abs") (fun xs H Q=>∃ i,xs=[.int i]/\Q (.int (if i<0 then -i else i)) H):=by
 intro pins s σ H xs us Q I r h;obtain ⟨i,rfl,q⟩:=h;obtain ⟨u,rfl,t,rfl⟩:=E7 r;exact call_abs_int fun u tk=>⟨.int (if i<0 then -i else i),H,I.tok _,⟨_,rfl⟩,q⟩
theorem dP (hc:X.calm=true):Ep X (.builtin "max") (fun xs H Q=>∃ i j,xs=[.int i,.int j]/\Q (.int (if j>i then j else i)) H):=by
 intro pins s σ H xs us Q I r h;obtain ⟨i,j,rfl,q⟩:=h;obtain ⟨u,w',rfl,⟨t,rfl⟩,⟨t',rfl⟩⟩:=R1 r;refine max_two_ints (I.ok.hd hc) fun h' tk k=>⟨_,H,I.kept k,?_,q⟩
 by_cases hj:j>i
 ·rw [if_pos hj,if_pos hj];exact ⟨_,rfl⟩
 ·rw [if_neg hj,if_neg hj];exact ⟨_,rfl⟩
theorem Ti (hc:X.calm=true):Ep X (.builtin "min") (fun xs H Q=>∃ i j,xs=[.int i,.int j]/\Q (.int (if j<i then j else i)) H):=by
 intro pins s σ H xs us Q I r h;obtain ⟨i,j,rfl,q⟩:=h;obtain ⟨u,w',rfl,⟨t,rfl⟩,⟨t',rfl⟩⟩:=R1 r;refine min_two_ints (I.ok.hd hc) fun h' tk k=>⟨_,H,I.kept k,?_,q⟩
 by_cases hj:j<i
 ·rw [if_pos hj,if_pos hj];exact ⟨_,rfl⟩
 ·rw [if_neg hj,if_neg hj];exact ⟨_,rfl⟩
end
structure Zs (h:Heap) (x dx C:Addr) (mA:Str->Option Value):Prop where
 obj:h.get? x=some (instObj C dx)
 ns:h.Ns1 dx mA
 ne:dx≠x
theorem fO {h:Heap}{dx:Addr}{mA:Str->Option Value}(n:h.Ns1 dx mA):∃ od,h.get? dx=some od/\∀ name,lookIn name od=some (mA name):=by
 obtain ⟨o,es,ep,ho,hd,hk,_,hm⟩:=n;refine ⟨o,ho,fun name=>?_⟩;have e:=hm name;unfold nsFind findBy at e;rw [<- Array.find?_toList] at e;unfold lookIn;rw [hd];dsimp only;split
 ·rename_i y q
  rw [q] at e;exact congrArg some e
 ·rename_i q
  rw [q] at e;have a:es.toList.any (·.refKey)=false:=by
   rw [List.any_eq_false];intro y hy;obtain ⟨z,t,hkey⟩:=hk y (Array.mem_toList_iff.mp hy);simp [DictEntry.refKey,hkey]
  have a':¬ es.toList.any (·.refKey)=true:=by rw [a];exact Bool.false_ne_true
  rw [if_neg a'];exact congrArg some e
theorem Zs.look {h:Heap}{x dx C:Addr}{mA:Str->Option Value}(I:Zs h x dx C mA):∃ od,PySem.W.InstAt h x (instObj C dx) C (some od)/\∀ name,lookIn name od=some (mA name) :=
 let ⟨od,ho,hl⟩:=fO I.ns
 ⟨od,⟨I.obj,rfl,rfl,ho⟩,hl⟩
section
variable {prog:Program} {w:World} {A:Around} {E:Value->Shared->Prop} {s:Shared} {K:PySem.W.Frag} {x dx C f:Addr} {mA:Str->Option Value} {name:Str} {v:Value}
theorem nI {expr:Bool}{Q:Value->Shared->Prop}(X:K.In s.heap)(I:Zs s.heap x dx C mA)(hg:PySem.W.plainGet K C name=true)(hh:PySem.W.hasDictIn K C=true)
  (ha:PySem.W.findIn K (.ref C) name=some none)(hv:mA name=some v)(hv':PySem.W.handedIn v=true)(h:Q v { s with toks:=s.toks+1 }) :
  wpAny (model prog w) A (getAttr (.ref x) name expr) Q E s:=by
 obtain ⟨od,J,hl⟩:=I.look;exact PySem.W.get_value X J (PySem.W.plainGet_of hg).1 (PySem.W.findObj_own hh ha rfl (by rw [hl,hv])) hv' h
theorem lM {pl:Sem Bool}{Q:Value×List Value->Shared->Prop}(X:K.In s.heap)(I:Zs s.heap x dx C mA)(hg:PySem.W.plainGet K C name=true)
  (hf:PySem.W.findIn K (.ref C) name=some (some (.ref f)))(ht:PySem.W.isFn K (.ref f)=true)(hv:mA name=none)(h:Q (.ref f,[.ref x]) s) :
  wpAny (model prog w) A (getMethod (.ref x) name pl) Q E s:=by
 obtain ⟨od,J,hl⟩:=I.look;exact PySem.W.method_fn X J (PySem.W.plainGet_of hg).1 (PySem.W.plainGet_of hg).2 hf (beq_iff_eq.mp ht) (by show (lookIn name od).map (·.isSome)=some false;rw [hl,hv];rfl) h
theorem oG {ns:List Str}{Q:Unit->Shared->Prop}(X:K.In s.heap)(I:Zs s.heap x dx C mA)
  (hs:PySem.W.findIn K (.ref C) "__setattr__"=some (some (.builtin "object.__setattr__")))(hp:PySem.W.plainOver K C=true)(ht:PySem.W.takerIn K C name=some none)(hh:PySem.W.hasDictIn K C=true)
  (hw:PySem.Within mA ns)(hsz:ns.length<=sizeLine)
  (h:∀ h',Zs h' x dx C (fun y=>if y=name then some v else mA y)->Heap.SameBut dx s.heap h'->Q () { s with heap:=h',toks:=s.toks+2 }) :
  wpAny (model prog w) A (setAttr (.ref x) name v) Q E s:=by
 obtain ⟨od,J,hl⟩:=I.look;refine PySem.W.set_plain X J hs (PySem.W.osa_open (s:={ s with toks:=s.toks+1 }) (r:=none) X J hp ht fun b=>?_);obtain ⟨cd,hc,hd'⟩:=PySem.W.any_some hh;have hx:s.heap.get? x=some ⟨.ref C,some dx,.plain,#[]⟩:=I.obj;refine wpAny_bind (wpAny_pure (wpAny_bind (wpAny_bind (wpAny_loadPart hx (wpAny_bind (PySem.W.Looks.here (s:={ s with toks:=s.toks+1 }) (PySem.W.looks_clsIn X hc) ?_))))));rw [hd'];refine wpAny_pure (a:=some dx) (wpAny_bind (wpAny_pure (wpAny_bind ?_)));refine wpAny_nsSet1 (s:={ s with toks:=s.toks+1 }) I.ns fun h' hn2 hs2=>?_;obtain ⟨oD,esD,epD,hoD,hdD,hcD⟩:=hn2.count (PySem.Within.cons name v hw);refine wpAny_bind (wpAny_lookBehind hoD (by rw [hdD];exact pastItsLine_dict (Nat.le_trans hcD (by rw [List.length_cons];omega))) ?_);exact wpAny_pure (h _ ⟨(hs2.2 _ (Ne.symm I.ne)).trans I.obj,hn2,I.ne⟩ hs2)
theorem kH {R:Result->Shared->Prop}{vs:List Value}{kw:List (Str×Value)}(X:K.In s.heap)(hm:PySem.W.makesIn K C=true)
  (hi:PySem.W.findIn K (.ref C) "__init__"=some (some (.ref f)))(hf:PySem.W.typeIn K (.ref f)=some (.type "function"))
  (h:codeAny (model prog w) (A.under (.builtin "type.__call__" ⟨.ref C::vs,kw⟩)) (.call (.ref f) ⟨.ref (s.heap.objs.size+1)::vs,kw⟩) (PySem.W.InitBack (s.heap.objs.size+1) R)
   { s with heap:=(s.heap.push emptyDict).push (instObj C s.heap.objs.size) }) :
  codeAny (model prog w) A (.call (.ref C) ⟨vs,kw⟩) R s:=by
 obtain ⟨hh,g,d,t,os⟩:=s;exact PySem.W.make_core (PySem.W.makes_of X hm) (PySem.W.looks_findIn X hi) (fun self=>PySem.W.bind_fn X self hf) (.inl rfl) h
end
def D0 (f : Str)(v : V) : List (Str × V)->List (Str × V)
  | [] => [(f, v)]
  | (g, x) :: r => if g = f then (g, v) :: r else (g, x) :: D0 f v r
theorem N8 (f g:Str)(v:V):∀ fs:List (Str×V),(D0 f v fs).lookup g=if g=f then some v else fs.lookup g
  | [] => by
    show List.lookup g [(f, v)] = _
    by_cases h : g = f
    · have hb : (g == f) = true := beq_iff_eq.mpr h
      simp only [List.lookup, hb, if_pos h]
    · have hb : (g == f) = false := beq_eq_false_iff_ne.mpr h
      simp only [List.lookup, hb, if_neg h]
  | (k, x) :: r => by
    have ih := N8 f g v r;rw [show D0 f v ((k, x) :: r) = (if k = f then (k, v) :: r else (k, x) :: D0 f v r) from rfl]
    by_cases hk : k = f
    · rw [if_pos hk]
      by_cases h : g = k
      · have hb : (g == k) = true := beq_iff_eq.mpr h
        simp only [List.lookup, hb, if_pos (h.trans hk)]
      · have hb : (g == k) = false := beq_eq_false_iff_ne.mpr h
        simp only [List.lookup, hb, if_neg (fun e : g = f => h (e.trans hk.symm))]
    · rw [if_neg hk]
      by_cases h : g = k
      · have hb : (g == k) = true := beq_iff_eq.mpr h
        simp only [List.lookup, hb, if_neg (fun e : g = f => hk (h.symm.trans e))]
      · have hb : (g == k) = false := beq_eq_false_iff_ne.mpr h
        simp only [List.lookup, hb];exact ih
theorem Nu (f:Str)(v:V):∀ fs:List (Str×V),f∈(D0 f v fs).map (·.1)/\∀ g,g∈fs.map (·.1)->g∈(D0 f v fs).map (·.1)
  | [] => ⟨by simp [D0], fun g h => by simp at h⟩
  | (k, x) :: r => by
    obtain ⟨i1, i2⟩ := Nu f v r;rw [show D0 f v ((k, x) :: r) = (if k = f then (k, v) :: r else (k, x) :: D0 f v r) from rfl]
    by_cases hk : k = f
    · rw [if_pos hk]
      subst hk;exact ⟨by simp, fun g h => by simpa using h⟩
    · rw [if_neg hk]
      refine ⟨?_, fun g h => ?_⟩
      · rw [List.map_cons]
        exact List.mem_cons_of_mem _ i1
      · rw [List.map_cons] at h ⊢
        rcases List.mem_cons.mp h with e | e
        · exact List.mem_cons.mpr (.inl e)
        · exact List.mem_cons_of_mem _ (i2 g e)
theorem N9 (f:Str)(v:V):∀ fs:List (Str×V),(D0 f v fs).length<=fs.length+1
  | [] => by simp [D0]
  | (k, x) :: r => by
    have ih := N9 f v r;rw [show D0 f v ((k, x) :: r) = (if k = f then (k, v) :: r else (k, x) :: D0 f v r) from rfl]
    by_cases hk : k = f
    · rw [if_pos hk, List.length_cons, List.length_cons]; omega
    · rw [if_neg hk, List.length_cons, List.length_cons]; omega
theorem Mg.some_of {v:V}{o:Option Value}(r:Mg (some v) o):∃ u,o=some u/\Ba v u:=by
 cases o with
 | none=>exact (show False from r).elim
 | some u=>exact ⟨u,rfl,r⟩
theorem Mg.none_of {o:Option Value}(r:Mg none o):o=none:=by
 cases o with
 | none=>rfl
 | some u=>exact (show False from r).elim
theorem fQ {v:V}{u:Value}(r:Ba v u):PySem.W.handedIn u=true:=by
 cases v with
 | non=>cases (show u=Value.none from r);rfl
 | bl b=>cases (show u=Value.bool b from r);rfl
 | int i=>obtain ⟨t,e⟩:=(show ∃ t,u=Value.int i t from r);cases e;rfl
 | str x=>obtain ⟨t,e⟩:=(show ∃ t,u=Value.str x t from r);cases e;rfl
 | byt b=>obtain ⟨t,e⟩:=(show ∃ t,u=Value.bytes b t from r);cases e;rfl
 | flt b=>obtain ⟨t,e⟩:=(show ∃ t,u=Value.float b t from r);cases e;rfl
 | ref a=>cases (show u=Value.ref a from r);rfl
 | ty n=>cases (show u=Value.type n from r);rfl
section
variable {P:Program} {w:World} {H H':Hp} {h h':Heap} {a C dx:Addr} {fs fs':List (Str×V)}
theorem Ov (hok:HOk P w H h)(e:H a=some (.ins C dx fs)):∃ mA,Zs h a dx C mA/\(∀ f,Mg (fs.lookup f) (mA f))/\PySem.Within mA (fs.map (·.1))/\fs.length<=1000/\H dx=some (.own a):=by
 obtain ⟨d,z,ne,ob,mA,n,r,q⟩:=(show Cp P w H h a (.ins C dx fs) from hok a _ e);exact ⟨mA,⟨ob,n,ne⟩,r,q,z,d⟩
end
structure Cls (K:PySem.W.Frag) (C:Addr):Prop where
 pg:PySem.W.plainGet K C Str.empty=true
 hd:PySem.W.hasDictIn K C=true
 po:PySem.W.plainOver K C=true
 sa:PySem.W.findIn K (.ref C) "__setattr__"=some (some (.builtin "object.__setattr__"))
theorem Cls.get {K:PySem.W.Frag}{C:Addr}(c:Cls K C)(f:Str):PySem.W.plainGet K C f=true:=c.pg
def Bu (K:PySem.W.Frag)(C:Addr)(f:Str):Prop:=PySem.W.findIn K (.ref C) f=some none
theorem Bu.taker {K:PySem.W.Frag}{C:Addr}{f:Str}(n:Bu K C f):PySem.W.takerIn K C f=some none:=by
 unfold PySem.W.takerIn;rw [show PySem.W.findIn K (.ref C) f=some none from n];rfl
structure oI (K:PySem.W.Frag) (C:Addr) (m:Str) (f:Addr):Prop where
 at_:PySem.W.findIn K (.ref C) m=some (some (.ref f))
 fn:PySem.W.isFn K (.ref f)=true
 kp:PySem.W.keepIn K (.ref f)=true
section
variable {X:Cx} {pins:List (Addr×Obj)} {σ:St} {H:Hp} {s:Shared} {a C dx:Addr} {fs:List (Str×V)} {f:Str} {v:V} {A:Around} {E:Value->Shared->Prop}
theorem Zc {b:Bool}{Q:Value->Shared->Prop}(I:Inv X pins σ H s)(e:H a=some (.ins C dx fs))(c:Cls X.K C)(n:Bu X.K C f)(l:fs.lookup f=some v)
  (h:∀ u s',Inv X pins σ H s'->Ba v u->Q u s'):wpAny (model X.prog X.w) A (getAttr (.ref a) f b) Q E s:=by
 obtain ⟨mA,O,r,_,_,_⟩:=Ov I.hok e;obtain ⟨u,hu,ru⟩:=Mg.some_of (v:=v) (o:=mA f) (by rw [<- l];exact r f);exact nI I.kIn O (c.get f) c.hd n hu (fQ ru) (h u _ (I.tok _) ru)
theorem Q8 {m:Str}{g:Addr}{pl:Sem Bool}{Q:Value×List Value->Shared->Prop}(I:Inv X pins σ H s)(e:H a=some (.ins C dx fs))(c:Cls X.K C)(k:oI X.K C m g)(l:fs.lookup m=none)
  (h:Q (.ref g,[.ref a]) s):wpAny (model X.prog X.w) A (getMethod (.ref a) m pl) Q E s:=by
 obtain ⟨mA,O,r,_,_,_⟩:=Ov I.hok e;have hn:mA m=none:=Mg.none_of (by rw [<- l];exact r m);exact lM I.kIn O (c.get m) k.at_ k.fn hn h
theorem Z9 {y:V}{u:Value}{Q:Unit->Shared->Prop}(I:Inv X pins σ H s)(e:H a=some (.ins C dx fs))(c:Cls X.K C)(n:Bu X.K C f)(hl:fs.length<1000)(ry:Ba y u)
  (h:∀ s',Inv X pins σ (upd H a (.ins C dx (D0 f y fs))) s'->Q () s'):wpAny (model X.prog X.w) A (setAttr (.ref a) f u) Q E s:=by
 obtain ⟨mA,O,r,wi,_,ho⟩:=Ov I.hok e;have hz:(fs.map (·.1)).length<=sizeLine:=by rw [List.length_map,sizeLine_eq];omega
 refine oG I.kIn O c.sa c.po n.taker c.hd wi hz fun h' O' sb=>h _ ?_;have hd:∃ o,h'.get? dx=some o:=let ⟨o,_,_,e',_⟩:=O'.ns;⟨o,e'⟩;refine I.write (x:=a) (e:=dx) (by rw [e];exact True.intro) (.inr ho) (fun b q hb z=>(sb.2 b hb).trans z) hd ?_;refine ⟨by rw [Ai O.ne];exact ho,?_,O.ne,O'.obj,_,O'.ns,fun g=>?_,fun g hg=>?_⟩
 ·have:=N9 f y fs;omega
 ·show Mg ((D0 f y fs).lookup g) (if g=f then some u else mA g)
  rw [N8]
  by_cases q:g=f
  ·rw [if_pos q,if_pos q];exact ry
  ·rw [if_neg q,if_neg q];exact r g
 ·by_cases q:g=f
  ·rw [q];exact (Nu f y fs).1
  ·refine (Nu f y fs).2 g (wi g fun z=>hg ?_)
   show (if g=f then some u else mA g)=none;rw [if_neg q];exact z
theorem Inv.made (I:Inv X pins σ H s):Inv X pins σ (upd (upd H s.heap.objs.size (.own (s.heap.objs.size+1))) (s.heap.objs.size+1) (.ins C s.heap.objs.size []))
  { s with heap:=(s.heap.push emptyDict).push (instObj C s.heap.objs.size) }:=by
 have e1:(s.heap.push emptyDict).get? s.heap.objs.size=some emptyDict:=Heap.get?_push_size s.heap rfl;have e2:((s.heap.push emptyDict).push (instObj C s.heap.objs.size)).get? (s.heap.objs.size+1)=some (instObj C s.heap.objs.size):=by
  have:=Heap.get?_push_size (s.heap.push emptyDict) (o:=instObj C s.heap.objs.size) rfl
  rwa [Heap.size_push] at this
 have e3:(s.heap.push emptyDict).Ns s.heap.objs.size (fun _=>none):=⟨emptyDict,#[],_,e1,rfl,(fun e he=>absurd he (by simp)),fun _=>rfl⟩;have I1:=I.laid (a:=s.heap.objs.size) (o:=.own (s.heap.objs.size+1)) (h':=s.heap.push emptyDict) (t':=s.toks) (fun b u q=>Heap.get?_push_of_some _ q) (Nat.le_refl _) ⟨_,e1⟩;refine I1.laid (a:=s.heap.objs.size+1) (o:=.ins C s.heap.objs.size []) (t':=s.toks) (fun b u q=>Heap.get?_push_of_some _ q) (Nat.le_of_eq (Heap.size_push _ _)) ?_;have ne:s.heap.objs.size≠s.heap.objs.size+1:=Nat.ne_of_lt (Nat.lt_succ_self _);refine ⟨by rw [Ai ne,Ab],Nat.zero_le _,ne,e2,fun _=>none,(Heap.Ns1.of_empty e3).at fun o q=>Heap.get?_push_of_some _ q,fun _=>True.intro,fun y hy=>absurd rfl hy⟩
theorem oA {prog:Program}{w:World}{env:Env}{e:Expr}{f:Str}{pos:Pos}{s:Shared}{Q:Value->Shared->Prop}(hb:attributeBase e f env (eval e env)=eval e env)
  (h:wpAny (model prog w) A (eval e env) (fun o s₁=>wpAny (model prog w) A (getAttr o f true) Q E s₁) E s):wpAny (model prog w) A (eval (.Attribute e f pos) env) Q E s :=
 Attribute_any_ h (by rw [arm_eval_Attribute,hb])
end
def uH (K:PySem.W.Frag)(ta:TE)(f:Str):TE:=fun σ H Q=>ta σ H fun x H1=>∃ a C dx fs v,x=.ref a/\H1 a=some (.ins C dx fs)/\Cls K C/\Bu K C f/\fs.lookup f=some v/\Q v H1
def uJ (K:PySem.W.Frag)(ta tv:TE)(f:Str):TS:=fun D σ H=>tv σ H fun y H1=>ta σ H1 fun x H2=>∃ a C dx fs,x=.ref a/\H2 a=some (.ins C dx fs)/\Cls K C/\Bu K C f/\fs.length<1000 /\
 D.nx σ (upd H2 a (.ins C dx (D0 f y fs)))
section
variable {X:Cx} {o e value:Expr} {f:Str} {pos pos' tpos:Pos} {ta tv:TE}
theorem B0 (he:PE X e ta)(hb:attributeBase e f X.env (eval e X.env)=eval e X.env):PE X (.Attribute e f pos) (uH X.K ta f):=by
 intro pins s σ H Q I h;refine oA hb (thn (he pins s σ H _ I h) fun u s1 ⟨x,H1,I1,rx,a,C,dx,fs,v,ex,ea,c,n,l,q⟩=>?_);subst ex;obtain rfl:u=Value.ref a:=rx;exact Zc I1 ea c n l fun u' s2 I2 ru=>⟨v,H1,I2,ru,q⟩
theorem D7 (ha:PE X o ta)(hv:PE X value tv)(hs:swapsWith value (some (.Attribute o f pos')) pos.line X.env=pure false):PS X (.Assign [.Attribute o f pos'] value pos) (uJ X.K ta tv f):=by
 intro pins s σ H D I h;refine plainObj_wpAny_Assign_Attribute (thn (hv pins s σ H _ I h) fun u s1 ⟨y,H1,I1,ry,q⟩=>thn (ha pins s1 σ H1 _ I1 q) fun ov s2 ⟨x,H2,I2,rx,a,C,dx,fs,ex,ea,c,n,l,q2⟩=>?_) hs;subst ex;obtain rfl:ov=Value.ref a:=rx;exact Z9 I2 ea c n l ry fun s3 I3=>⟨σ,_,I3,q2⟩
end
section
variable {X:Cx} {pins:List (Addr×Obj)} {σ:St} {H:Hp} {s:Shared} {A:Around} {E:Value->Shared->Prop} {Q:Value->Shared->Prop} {c:Value} {b:Bool}
inductive L5 (K:PySem.W.Frag) (H:Hp):V->Value->Prop where
 | non:L5 K H .non (.type "NoneType")
 | bl (x:Bool):L5 K H (.bl x) (.type "bool")
 | int (i:Int):L5 K H (.int i) (.type "int")
 | str (x:Str):L5 K H (.str x) (.type "str")
 | flt (x:UInt64):L5 K H (.flt x) (.type "float")
 | lst {a:Addr} {xs:List V} (e:H a=some (.lst xs)):L5 K H (.ref a) (.type "list")
 | frz {a:Addr} {o:Obj} {xs:List V} (e:H a=some (.frz o (.lst xs))):L5 K H (.ref a) (.type "list")
 | tup {a:Addr} {xs:List V} (e:H a=some (.tup xs)):L5 K H (.ref a) (.type "tuple")
 | dK {a:Addr} {kvs:List (Key×V)} (e:H a=some (.dK kvs)):L5 K H (.ref a) (.type "dict")
 | dT {a:Addr} {kvs:List (List Key×V)} (e:H a=some (.dT kvs)):L5 K H (.ref a) (.type "dict")
 | ins {a C dx:Addr} {fs:List (Str×V)} (e:H a=some (.ins C dx fs)) (cl:Cls K C) (ha:PySem.W.findIn K (.ref C) "__class__"=some (some (.builtin "object.__class__")))
   (hn:PySem.W.specialIn K (.builtin "object.__class__") "__get__"=some (some (.builtin "getset_descriptor.__get__"))) (htk:PySem.W.takesIn K (.builtin "object.__class__")=some true)
   (hm:PySem.W.mroIn K C (.type "object")=some true):L5 K H (.ref a) (.ref C)
theorem Sz {x:V}{u t:Value}(I:Inv X pins σ H s)(rx:Ba x u)(ty:L5 X.K H x t)(e:kitOne X.K t c=some b)(h:∀ tk,Q (.bool b) { s with toks:=tk }) :
  wpAny (model X.prog X.w) A (call (.builtin "isinstance") [u,c]) Q E s:=by
 cases ty with
 | non=>cases (show u=Value.none from rx);exact kia_one PySem.W.kitx_none I.kIn True.intro e (fun z=>nomatch z) h
 | bl y=>cases (show u=Value.bool y from rx);exact kia_one PySem.W.kitx_bool I.kIn True.intro e (fun z=>nomatch z) h
 | int i=>obtain ⟨t,q⟩:=(show ∃ t,u=Value.int i t from rx);cases q;exact kia_one PySem.W.kitx_int I.kIn True.intro e (fun z=>nomatch z) h
 | str y=>obtain ⟨t,q⟩:=(show ∃ t,u=Value.str y t from rx);cases q;exact kia_one PySem.W.kitx_str I.kIn True.intro e (fun z=>nomatch z) h
 | flt y=>obtain ⟨t,q⟩:=(show ∃ t,u=Value.float y t from rx);cases q;exact kia_one PySem.W.kitx_float I.kIn True.intro e (fun z=>nomatch z) h
 | @lst a xs ea =>
  cases (show u=Value.ref a from rx);obtain ⟨_,_,n,_,h1⟩:=(show Cp X.prog X.w H s.heap a (.lst xs) from I.hok a _ ea);exact kia_one PySem.W.kitx_list I.kIn ⟨_,h1,rfl⟩ e (fun z=>nomatch z) h
 | @frz a ob xs ea =>
  cases (show u=Value.ref a from rx);obtain ⟨_,_,_,n,_,h1⟩:=(show Cp X.prog X.w H s.heap a (.frz ob (.lst xs)) from I.hok a _ ea);exact kia_one PySem.W.kitx_list I.kIn ⟨_,h1,rfl⟩ e (fun z=>nomatch z) h
 | @tup a xs ea =>
  cases (show u=Value.ref a from rx);obtain ⟨_,_,_,p⟩:=(show Cp X.prog X.w H s.heap a (.tup xs) from I.hok a _ ea);obtain ⟨o,h1,h2,_⟩:=p;exact kia_one PySem.W.kitx_tuple I.kIn ⟨o,h1,h2⟩ e (fun z=>nomatch z) h
 | @dK a kvs ea =>
  cases (show u=Value.ref a from rx);obtain ⟨_,_,vs,_,p⟩:=(show Cp X.prog X.w H s.heap a (.dK kvs) from I.hok a _ ea);obtain ⟨o,es,ep,h1,h2,_⟩:=p;exact kia_one PySem.W.kitx_dict I.kIn ⟨o,h1,h2.1⟩ e (fun z=>nomatch z) h
 | @dT a kvs ea =>
  cases (show u=Value.ref a from rx);obtain ⟨_,_,xs,_,o,es,ep,h1,h2,_⟩:=(show Cp X.prog X.w H s.heap a (.dT kvs) from I.hok a _ ea);exact kia_one PySem.W.kitx_dict I.kIn ⟨o,h1,h2.1⟩ e (fun z=>nomatch z) h
 | @ins a C dx fs ea cl ha hn htk hm =>
  cases (show u=Value.ref a from rx);obtain ⟨mA,O,_⟩:=Ov I.hok ea;obtain ⟨od,J,_⟩:=O.look;exact kia_one (PySem.W.kitx_own (cl.get _) cl.hd ha hn htk hm) I.kIn J e (fun z=>nomatch z) h
end
structure Cr (k:Nat) (A:Around):Prop where
 hd:A.handled=none
 dp:A.depth+3*k+5<recursionLimit
 un:A.units+16*k+200<cLine
theorem Cr.mono {j k:Nat}{A:Around}(r:Cr k A)(h:j<=k):Cr j A:=⟨r.hd,by have:=r.dp;omega,by have:=r.un;omega⟩
theorem Cr.deeper {k:Nat}{A:Around}(r:Cr (k+1) A)(env:Env):Cr k (A.deeper env) :=
 ⟨r.hd,by have:=r.dp;show A.depth+1+3*k+5<_;omega,by have:=r.un;show A.units+3+16*k+200<_;omega⟩
theorem Zx {A:Around}{C:Addr}{us:List Value}{kw:List (Str×Value)}:(A.under (.builtin "type.__call__" ⟨.ref C::us,kw⟩)).depth=A.depth+1:=by
 first | rfl | simp [Around.under,Code.weight,Code.isCreation,Code.isGuard,Code.isCaller,Code.frames,Code.isFrame,guardIds]
theorem Zi {A:Around}{C:Addr}{us:List Value}{kw:List (Str×Value)}:(A.under (.builtin "type.__call__" ⟨.ref C::us,kw⟩)).units=A.units+1:=by
 first | rfl | simp [Around.under,Code.cUnits,Code.frames,Code.isFrame]
theorem Cr.make {k:Nat}{A:Around}(r:Cr (k+1) A)(C:Addr)(us:List Value)(kw:List (Str×Value)):Cr k (A.under (.builtin "type.__call__" ⟨.ref C::us,kw⟩)) :=
 ⟨r.hd,by have:=r.dp;rw [Zx];omega,by have:=r.un;rw [Zi];omega⟩
theorem Cr.depth {k:Nat}{A:Around}(r:Cr k A):A.depth<recursionLimit:=by have:=r.dp;omega
theorem Cr.units {k:Nat}{A:Around}(r:Cr k A):A.units+64<cLine:=by have:=r.un;omega
def T8:TA:=fun _ H Q=>Q [] H
def Xn (ta:TE)(tr:TA):TA:=fun σ H Q=>ta σ H fun x H1=>tr σ H1 fun xs H2=>Q (x::xs) H2
section
variable {X:Cx} {e:Expr} {es:List Expr} {te:TE} {t:TA} {pos:Pos}
theorem Ac:PA X [] T8:=fun _ _ _ _ H Q I h=>Calls.spliced_nil ⟨[],H,I,.nil,h⟩
theorem bN (ha:PE X e te)(hr:PA X es t)(hs:starEach (e::es) X.env=(false,eval e X.env)::starEach es X.env:=by rfl):PA X (e::es) (Xn te t):=by
 intro pos pins s σ H Q I h;rw [hs];show wpAny _ _ (spliced ((false,eval e X.env)::backTo pos (starEach es X.env))) _ _ s;refine Calls.spliced_cons (thn (ha pins s σ H _ I h) fun u s1 ⟨x,H1,I1,r1,q1⟩=>?_);exact thn (hr pos pins s1 σ H1 _ I1 q1) fun us s2 ⟨xs,H2,I2,r2,q2⟩=>⟨x::xs,H2,I2,.cons r1 r2,q2⟩
def vH (t:TA):TE:=fun σ H Q=>t σ H fun xs H1=>xs.length<=sizeLine/\∀ p,H1 p=none->Q (.ref p) (upd H1 p (.tup xs))
def sV (t:TA):TE:=fun σ H Q=>t σ H fun xs H1=>xs.length<=sizeLine/\∀ p,H1 p=none->Q (.ref p) (upd H1 p (.lst xs))
theorem Vi {x1}(h:PA X es t):PE X (.Tuple es x1 pos) (vH t):=by
 intro pins s σ H Q I hq;refine wpAny_Tuple_spliced (thn (h pos pins s σ H _ I hq) fun us s1 ⟨xs,H1,I1,r,z,q⟩=>⟨by rw [<- r.length];exact z,?_⟩);have hf:H1 s1.heap.objs.size=none:=I1.hok.fresh (Nat.le_refl _);refine ⟨.ref s1.heap.objs.size,upd H1 s1.heap.objs.size (.tup xs),I1.laid (t':=s1.toks) (fun b u e=>Heap.get?_push_of_some _ e) (Nat.le_refl _) ?_,rfl,q _ hf⟩;exact ⟨z,us,r,⟨_,Heap.get?_push_size _ rfl,rfl,_,rfl⟩⟩
theorem Bp (h:PA X es t):PE X (.List es pos) (sV t):=by
 intro pins s σ H Q I hq;refine wpAny_List_spliced (thn (h pos pins s σ H _ I hq) fun us s1 ⟨xs,H1,I1,r,z,q⟩=>⟨by rw [<- r.length];exact z,?_⟩);have hf:H1 s1.heap.objs.size=none:=I1.hok.fresh (Nat.le_refl _);refine ⟨.ref s1.heap.objs.size,upd H1 s1.heap.objs.size (.lst xs),I1.laid (t':=s1.toks) (fun b u e=>Heap.get?_push_of_some _ e) (Nat.le_refl _) ?_,rfl,q _ hf⟩;exact ⟨z,us,0,r,Heap.get?_push_size _ rfl⟩
end
abbrev Sp:=List V->Hp->VK->XK->Prop
abbrev CXT:=List Env->Hp->Shared->XK->Value->Shared->Prop
structure Sa (P:Program) (w:World) (K:PySem.W.Frag) (mg:Str->Option Value) (base:Heap) (A:Around) (outer:List Env) (s:Shared) (H:Hp):Prop where
 frames:A.frames=some outer
 mod:Mod K mg base
 bs:∀ b o,base.get? b=some o->s.heap.get? b=some o/\H b=none
 bsz:base.objs.size<=s.heap.objs.size
 funs:s.heap.FunFrames base outer
 frf:∀ b∈frs outer,H b=none
 hok:HOk P w H s.heap
 bare:AllBare s.gens
def CE (outer:List Env)(P:Program)(w:World)(H:Hp)(s:Shared)(Q:VK)(u:Value)(s':Shared):Prop :=
 ∃ v H',s'.os=s.os/\AllBare s'.gens/\Un (frs outer) [] H H' s.heap s'.heap/\HOk P w H' s'.heap/\Ba v u/\Q v H'
def CR (CX:CXT)(outer:List Env)(P:Program)(w:World)(H:Hp)(s:Shared)(Q:VK)(E:XK)(r:Result)(s':Shared):Prop :=
 match r with
 | .ok (.ret u)=>CE outer P w H s Q u s'
 | .ok _=>False
 | .error e=>CX outer H s E e s'
structure A4 (P:Program) (w:World) (K:PySem.W.Frag) (mg:Str->Option Value) (base:Heap) (CX:CXT) (k:Nat) (f:Addr) (fd:FuncData) (ps:List Str) (sp:Sp):Prop where
 len:∀ vs H Q E,sp vs H Q E->vs.length=ps.length
 run:∀ (A:Around) (outer:List Env) (s:Shared) (H:Hp) (args:Args) (us:List Value) (vs:List V) (Q:VK) (E:XK),Cr k A->Sa P w K mg base A outer s H->BindsTo s fd args (ps.zip us)->Az vs us->sp vs H Q E ->
  codeAny (model P w) A (.call (.ref f) args) (CR CX outer P w H s Q E) s
theorem Sa.make {P:Program}{w:World}{K:PySem.W.Frag}{mg:Str->Option Value}{base:Heap}{A:Around}{outer:List Env}{s:Shared}{H:Hp}(e:Sa P w K mg base A outer s H)(C:Addr)(us:List Value)(kw:List (Str×Value)) :
  Sa P w K mg base (A.under (.builtin "type.__call__" ⟨.ref C::us,kw⟩)) outer s H:=⟨by first | exact e.frames | (simpa [Around.under,Code.envs,Code.isFrame,pushEnvs] using e.frames),e.mod,e.bs,e.bsz,e.funs,e.frf,e.hok,e.bare⟩
section
variable {X:Cx} {pins:List (Addr×Obj)} {σ:St} {H:Hp} {s s':Shared}
theorem Inv.env0 (I:Inv X pins σ H s):Sa X.prog X.w X.K X.mg X.base X.A X.stack s H :=
 ⟨I.ok.frames,I.ok.mod,I.bs,Nat.le_trans I.ok.bsz I.sz,I.stack,I.stkFree,I.hok,I.bare⟩
theorem Inv.after {Q:VK}{u:Value}(I:Inv X pins σ H s)(h:CE X.stack X.prog X.w H s Q u s'):EP X pins σ Q u s':=by
 obtain ⟨v,H',os,bare,un,hok,r,q⟩:=h;obtain ⟨hh,g,d,t,os'⟩:=s';obtain rfl:os'=s.os:=os;exact ⟨v,H',I.call (h':=hh) (g':=g) (d':=d) (t':=t) (ch:=[]) un hok bare (fun b z=>absurd z (by simp)),r,q⟩
end
def lO (sp:Sp)(dvs:List V)(E:XK)(t:TA):TE:=fun σ H Q=>t σ H fun vs H1=>sp (vs++dvs) H1 Q E
def Xb (C:Addr)(m:Str)(sp:Sp)(dvs:List V)(E:XK)(ta:TE)(t:TA):TE:=fun σ H Q=>ta σ H fun x H1=>∃ a dx fs,x=.ref a/\H1 a=some (.ins C dx fs)/\fs.lookup m=none /\
 t σ H1 fun vs H2=>sp (x::(vs++dvs)) H2 Q E
def cK (C:Addr)(sp:Sp)(dvs:List V)(E:XK)(t:TA):TE:=fun σ H Q=>t σ H fun vs H1=>∀ x dx,H1 x=none->H1 dx=none->dx≠x ->
 sp (.ref x::(vs++dvs)) (upd (upd H1 dx (.own x)) x (.ins C dx [])) (fun v H2=>v=.non/\Q (.ref x) H2) E
def E1 (K:PySem.W.Frag)(fd:FuncData)(ps:List Str)(ds:List Value):Prop :=
 ∀ (s:Shared) (us:List Value),K.In s.heap->(us++ds).length=ps.length->BindsTo s fd ⟨us,[]⟩ (ps.zip (us++ds))
theorem E1.all {K:PySem.W.Frag}{fd:FuncData}{ps:List Str}(h:∀ us:List Value,us.length=ps.length->bindArgs fd ⟨us,[]⟩=pure (ps.zip us)):E1 K fd ps []:=fun s us _ hl=>by
 rw [List.append_nil] at hl ⊢;exact .of_eq (h us hl)
def Id (CX:CXT)(X:Cx)(E:XK):Prop:=∀ (pins:List (Addr×Obj)) (σ:St) (H:Hp) (s:Shared) (e:Value) (s':Shared),Inv X pins σ H s->CX X.stack H s E e s'->X.xe e s'
section
variable {X:Cx} {CX:CXT} {k:Nat} {f C:Addr} {fd:FuncData} {ps:List Str} {sp:Sp} {dvs:List V} {ds:List Value} {E:XK} {x m:Str} {p pos apos:Pos} {e o:Expr} {es:List Expr} {ta:TE} {t:TA}
theorem Zf {pins:List (Addr×Obj)}{σ:St}{H:Hp}{s:Shared}{Q:VK}{us:List Value}{vs:List V}(F:A4 X.prog X.w X.K X.mg X.base CX k f fd ps sp)(hr:Cr k X.A)(hb:E1 X.K fd ps ds)(hd:Az dvs ds)(hx:Id CX X E)
  (I:Inv X pins σ H s)(r:Az vs us)(h:sp (vs++dvs) H Q E):wpAny (model X.prog X.w) X.A (call (.ref f) us) (EP X pins σ Q) X.xe s:=by
 have r2:Az (vs++dvs) (us++ds):=r.append hd;have hl:(us++ds).length=ps.length:=by rw [<- r2.length];exact F.len _ _ _ _ h
 refine wpAny_call (codeAny_mono (F.run X.A X.stack s H ⟨us,[]⟩ (us++ds) (vs++dvs) Q E hr I.env0 (hb s us I.kIn hl) r2 h) fun r s' hq=>?_)
 cases r with
 | error e=>exact hx pins σ H s e s' I hq
 | ok fl =>
  cases fl with
  | ret u=>exact I.after hq
  | next=>exact False.elim hq
  | brk=>exact False.elim hq
  | cont=>exact False.elim hq
theorem oN (F:A4 X.prog X.w X.K X.mg X.base CX k f fd ps sp)(hr:Cr k X.A)(hg:Gl X x)(hm:X.mg x=some (.ref f))(hk:PySem.W.keepIn X.K (.ref f)=true)(hb:E1 X.K fd ps ds)(hd:Az dvs ds)(hx:Id CX X E)
  (ha:PA X (e::es) t)(hdb:(x==("__debug__":Str))=false:=by decide)(he:starEach (e::es) X.env=(false,eval e X.env)::starEach es X.env:=by rfl)(hpl:(backTo pos (starEach es X.env)).any (·.1)=false:=by rfl) :
  PE X (.Call (.Name x p) (e::es) [] pos) (lO sp dvs E t):=by
 intro pins s σ H Q I h;refine wpAny_Call_Name_kw (Oy I hg hm ?_ hdb);refine callWith_K (h₀:=X.base) I.ok.mod.kin hk (thn (ha pos pins s σ H _ I h) fun us s1 ⟨vs,H1,I1,r,q⟩=>⟨I1.kIn,?_⟩) he hpl;exact Zf F hr hb hd hx I1 r q
theorem mY {pl:Sem Bool}(he:PE X o ta)(c:Cls X.K C)(hm:oI X.K C m f)(F:A4 X.prog X.w X.K X.mg X.base CX k f fd ps sp)(hr:Cr k X.A)(hb:E1 X.K fd ps ds)(hd:Az dvs ds)(hx:Id CX X E)(ha:PA X (e::es) t)
  (hst:starEach (e::es) X.env=(false,eval e X.env)::starEach es X.env:=by rfl)(hpl:(backTo pos (starEach es X.env)).any (·.1)=false:=by rfl)
  (ht:eval (.Call (.Attribute o m apos) (e::es) [] pos) X.env=(do
   let ov <- eval o X.env
   standAt apos.atName
   let (f,first) <- holding [ov] (getMethod ov m pl)
   callWith pos f first (backTo pos (starEach (e::es) X.env)) (backToKw pos (keywordEach [] X.env))):=by rfl) :
  PE X (.Call (.Attribute o m apos) (e::es) [] pos) (Xb C m sp dvs E ta t):=by
 intro pins s σ H Q I h;refine PySem.W.methodCall_KW (pl:=pl) (thn (he pins s σ H _ I h) fun u s1 ⟨x,H1,I1,rx,a,dx,fs,ex,ea,l,q⟩=>?_) ht;subst ex;obtain rfl:u=Value.ref a:=rx;refine Q8 I1 ea c hm l ?_;refine callWith_K (first:=[.ref a]) (h₀:=X.base) I.ok.mod.kin hm.kp (thn (ha pos pins s1 σ H1 _ I1 q) fun us s2 ⟨vs,H2,I2,r,q2⟩=>⟨I2.kIn,?_⟩) hst hpl;exact Zf (us:=.ref a::us) (vs:=.ref a::vs) F hr hb hd hx I2 (.cons rfl r) q2
theorem iM {pl:Sem Bool}(he:PE X o ta)(c:Cls X.K C)(hm:oI X.K C m f)(F:A4 X.prog X.w X.K X.mg X.base CX k f fd ps sp)(hr:Cr k X.A)(hb:E1 X.K fd ps ds)(hd:Az dvs ds)(hx:Id CX X E)
  (ht:eval (.Call (.Attribute o m apos) [] [] pos) X.env=(do
   let ov <- eval o X.env
   standAt apos.atName
   let (f,first) <- holding [ov] (getMethod ov m pl)
   callWith pos f first (backTo pos (starEach [] X.env)) (backToKw pos (keywordEach [] X.env))):=by rfl) :
  PE X (.Call (.Attribute o m apos) [] [] pos) (Xb C m sp dvs E ta T8):=by
 intro pins s σ H Q I h;refine PySem.W.methodCall_KW (pl:=pl) (thn (he pins s σ H _ I h) fun u s1 ⟨x,H1,I1,rx,a,dx,fs,ex,ea,l,q⟩=>?_) ht;subst ex;obtain rfl:u=Value.ref a:=rx;refine Q8 I1 ea c hm l ?_;exact PySem.W.callWith_K0 (first:=[.ref a]) I1.kIn hm.kp (Zf (us:=[.ref a]) (vs:=[.ref a]) F hr hb hd hx I1 (.cons rfl .nil) q)
structure Mk (K:PySem.W.Frag) (C f:Addr):Prop where
 makes:PySem.W.makesIn K C=true
 init:PySem.W.findIn K (.ref C) "__init__"=some (some (.ref f))
 fn:PySem.W.isFn K (.ref f)=true
 kp:PySem.W.keepIn K (.ref C)=true
theorem iK {pins:List (Addr×Obj)}{σ:St}{H:Hp}{s:Shared}{Q:VK}{us:List Value}{vs:List V}(M:Mk X.K C f)(F:A4 X.prog X.w X.K X.mg X.base CX k f fd ps sp)(hr:Cr (k+1) X.A)(hb:E1 X.K fd ps ds)(hd:Az dvs ds)
  (hx:Id CX X E)(I:Inv X pins σ H s)(r:Az vs us)
  (h:∀ x dx,H x=none->H dx=none->dx≠x->sp (.ref x::(vs++dvs)) (upd (upd H dx (.own x)) x (.ins C dx [])) (fun v H2=>v=.non/\Q (.ref x) H2) E) :
  wpAny (model X.prog X.w) X.A (call (.ref C) us) (EP X pins σ Q) X.xe s:=by
 have hq:=h (s.heap.objs.size+1) s.heap.objs.size (I.hok.fresh (Nat.le_succ _)) (I.hok.fresh (Nat.le_refl _)) (Nat.ne_of_lt (Nat.lt_succ_self _));have I2:=Inv.made (C:=C) I;have r2:Az (V.ref (s.heap.objs.size+1)::(vs++dvs)) (Value.ref (s.heap.objs.size+1)::(us++ds)):=.cons rfl (r.append hd);have hl:(Value.ref (s.heap.objs.size+1)::us++ds).length=ps.length:=by
  have e:=r2.length;rw [F.len _ _ _ _ hq] at e;exact e.symm
 refine wpAny_call (kH (f:=f) I.kIn M.makes M.init (beq_iff_eq.mp M.fn) (codeAny_mono (F.run _ X.stack _ _ ⟨Value.ref (s.heap.objs.size+1)::us,[]⟩ (Value.ref (s.heap.objs.size+1)::(us++ds)) _ _ E (hr.make C us [])
  (I2.env0.make C us []) (hb _ (Value.ref (s.heap.objs.size+1)::us) I2.kIn hl) r2 hq) fun r s' hq'=>?_))
 cases r with
 | error e=>exact hx pins σ _ _ e s' I2 hq'
 | ok fl =>
  cases fl with
  | ret u =>
   obtain ⟨v,H',I3,rv,ev,q3⟩:=I2.after hq';subst ev;exact ⟨rv,⟨V.ref (s.heap.objs.size+1),H',I3,rfl,q3⟩⟩
  | next=>exact False.elim hq'
  | brk=>exact False.elim hq'
  | cont=>exact False.elim hq'
theorem dG (M:Mk X.K C f)(F:A4 X.prog X.w X.K X.mg X.base CX k f fd ps sp)(hr:Cr (k+1) X.A)(hg:Gl X x)(hm:X.mg x=some (.ref C))(hb:E1 X.K fd ps ds)(hd:Az dvs ds)(hx:Id CX X E)
  (ha:PA X (e::es) t)(hdb:(x==("__debug__":Str))=false:=by decide)(he:starEach (e::es) X.env=(false,eval e X.env)::starEach es X.env:=by rfl)(hpl:(backTo pos (starEach es X.env)).any (·.1)=false:=by rfl) :
  PE X (.Call (.Name x p) (e::es) [] pos) (cK C sp dvs E t):=by
 intro pins s σ H Q I h;refine wpAny_Call_Name_kw (Oy I hg hm ?_ hdb);refine callWith_K (h₀:=X.base) I.ok.mod.kin M.kp (thn (ha pos pins s σ H _ I h) fun us s1 ⟨vs,H1,I1,r,q⟩=>⟨I1.kIn,?_⟩) he hpl;exact iK M F hr hb hd hx I1 r q
end
def PK (X:Cx)(kws:List Keyword)(t:TA):Prop :=
 ∀ (pos:Pos) (pins:List (Addr×Obj)) (s:Shared) (σ:St) (H:Hp) (Q:List V->Hp->Prop),Inv X pins σ H s->t σ H Q->wpAny (model X.prog X.w) X.A (evalAll ((backToKw pos (keywordEach kws X.env)).map (·.2))) (AP X pins σ Q) X.xe s
section
variable {X:Cx} {CX:CXT} {k:Nat} {f C:Addr} {fd:FuncData} {ps ks:List Str} {sp:Sp} {E:XK} {x m:Str} {p pos apos kpos:Pos} {e o:Expr} {es:List Expr} {kws:List Keyword} {te ta:TE} {t tk:TA} {nm:Option Str}
theorem sT:PK X [] T8:=fun _ _ _ _ H Q I h=>wpAny_evalAll_nil ⟨[],H,I,.nil,h⟩
theorem oH (ha:PE X e te)(hr:PK X kws t):PK X (⟨nm,e,kpos⟩::kws) (Xn te t):=by
 intro pos pins s σ H Q I h;show wpAny _ _ (evalAll ((do let v <- eval e X.env;standAt pos;pure v)::(backToKw pos (keywordEach kws X.env)).map (·.2))) _ _ s;refine wpAny_evalAll_cons (wpAny_bind (thn (ha pins s σ H _ I h) fun u s1 ⟨x,H1,I1,r1,q1⟩=>wpAny_bind (wpAny_standAt (wpAny_pure ?_))));exact thn (hr pos pins s1 σ H1 _ I1 q1) fun us s2 ⟨xs,H2,I2,r2,q2⟩=>⟨x::xs,H2,I2,.cons r1 r2,q2⟩
variable {g:List Value->List Value->List Value} {gV:List V->List V->List V}
end
structure An (N P:List Str) (sc:Scope):Prop where
 kind:sc.kind=.function
 co:sc.isCoroutine=false
 gen:sc.isGenerator=false
 nd:N.Nodup
 pre:N.take P.length=P
 par:∀ x∈P,sc.names.lookup x=some .local\/sc.names.lookup x=some .cell
 nofree:∀ y∈sc.names,y.2≠.free
theorem Tw {kindOf:Str->Option NameKind}{x:Str}:∀ {binds:List (Str×Value)} {m:Str->Option Value},(∀ v,(x,v)∉binds)->bindL kindOf binds m x=m x
  | [], _, _ => rfl
  | (n, v) :: r, m, h => by
    unfold bindL;rw [Tw fun w hw => h w (List.mem_cons_of_mem _ hw)];split
    · have : x ≠ n := by rintro rfl; exact h v List.mem_cons_self
      simp [this]
    · rfl
theorem Tx {kindOf:Str->Option NameKind}{x:Str}:∀ {binds:List (Str×Value)} {m:Str->Option Value},(∀ v,(x,v)∉binds)->bindC kindOf binds m x=m x
  | [], _, _ => rfl
  | (n, v) :: r, m, h => by
    unfold bindC;rw [Tx fun w hw => h w (List.mem_cons_of_mem _ hw)];split
    · rfl
    · have : x ≠ n := by rintro rfl; exact h v List.mem_cons_self
      simp [this]
theorem Tc {kindOf:Str->Option NameKind}{x:Str}{v:Value}:∀ {P:List Str} {vs:List Value} {i:Nat} {m:Str->Option Value},P.Nodup->P[i]?=some x->vs[i]?=some v->kindOf x=some .local ->
  bindL kindOf (P.zip vs) m x=some v
 | [],_,_,_,_,h,_,_=>by simp at h
 | _::_,[],_,_,_,_,h,_=>by simp at h
 | p::P,w::vs,0,m,nd,h1,h2,hk=>by
  simp at h1 h2;subst h1;subst h2;show bindL kindOf ((p,w)::P.zip vs) m p=_;unfold bindL;rw [Tw fun v hv=>(List.nodup_cons.mp nd).1 (List.of_mem_zip hv).1,if_pos hk];simp
 | p::P,w::vs,i+1,m,nd,h1,h2,hk=>by
  show bindL kindOf ((p,w)::P.zip vs) m x=_;unfold bindL;exact Tc (i:=i) (List.nodup_cons.mp nd).2 (by simpa using h1) (by simpa using h2) hk
theorem Tg {kindOf:Str->Option NameKind}{x:Str}{v:Value}:∀ {P:List Str} {vs:List Value} {i:Nat} {m:Str->Option Value},P.Nodup->P[i]?=some x->vs[i]?=some v->kindOf x≠some .local ->
  bindC kindOf (P.zip vs) m x=some v
 | [],_,_,_,_,h,_,_=>by simp at h
 | _::_,[],_,_,_,_,h,_=>by simp at h
 | p::P,w::vs,0,m,nd,h1,h2,hk=>by
  simp at h1 h2;subst h1;subst h2;show bindC kindOf ((p,w)::P.zip vs) m p=_;unfold bindC;rw [Tx fun v hv=>(List.nodup_cons.mp nd).1 (List.of_mem_zip hv).1,if_neg hk];simp
 | p::P,w::vs,i+1,m,nd,h1,h2,hk=>by
  show bindC kindOf ((p,w)::P.zip vs) m x=_;unfold bindC;exact Tg (i:=i) (List.nodup_cons.mp nd).2 (by simpa using h1) (by simpa using h2) hk
def Lc (N:List Str)(vs:List V):St:=vs.map some++List.replicate (N.length-vs.length) none
def X9 (CX:CXT)(P:Program)(w:World)(K:PySem.W.Frag)(mg:Str->Option Value)(base:Heap)(N:List Str)(qual:Str)(scope:Scope)(f:Addr)(cd:Value)(A:Around)(outer:List Env)(s:Shared)(H:Hp)(E:XK):Cx where
 prog:=P
 w:=w
 K:=K
 mg:=mg
 base:=base
 A:=A.deeper (envOfC qual scope s.heap.objs.size f cd)
 N:=N
 s₀:=s
 H₀:=H
 env:=envOfC qual scope s.heap.objs.size f cd
 outer:=outer
 stack:=envOfC qual scope s.heap.objs.size f cd::outer
 ex:=[]
 calm:=true
 fn:=fun _=>true
 pn:=[]
 xe:=fun e s'=>wpAny (model P w) (A.deeper (envOfC qual scope s.heap.objs.size f cd)) (leaving (envOfC qual scope s.heap.objs.size f cd) e) (fun _ s''=>CX outer H s E e s'') (fun e' s''=>CX outer H s E e' s'') s'
theorem Wn {sc:Scope}{n:Nat}{x:Str}(h:sc.names.lookup x=some .cell):∃ c,(cellsFrom n sc.names []).lookup x=some c:=by
 have q:=PySem.W.cellsFrom_some sc.names n [] (.inl h);exact Option.isSome_iff_exists.mp q
theorem fC {CX:CXT}{P:Program}{w:World}{K:PySem.W.Frag}{mg:Str->Option Value}{base:Heap}{N ps:List Str}{qual:Str}{scope:Scope}{f:Addr}{cd:Value}{A:Around}{outer:List Env}{s s1:Shared}{H:Hp}{E:XK}{us:List Value}{vs:List V}
  (S:An N ps scope)(hd:A.handled=none)(e0:Sa P w K mg base A outer s H)(hl:vs.length=ps.length)(r:Az vs us)
  (x:InCallC s s.heap.objs.size (bindL (envOfC qual scope s.heap.objs.size f cd).kindOf (ps.zip us) fun _=>none) (cellsFrom (s.heap.objs.size+1) scope.names []) (bindC (envOfC qual scope s.heap.objs.size f cd).kindOf (ps.zip us) fun _=>none) s1) :
  Inv (X9 CX P w K mg base N qual scope f cd A outer s H E) [] (Lc N vs) H s1:=by
 have hpl:ps.length<=N.length:=by have:=congrArg List.length S.pre;rw [List.length_take] at this;omega
 obtain ⟨h1,tk,rfl,hk⟩:=x.done;have noA:∀ b:Addr,b∉(X9 CX P w K mg base N qual scope f cd A outer s H E).ex:=fun b z=>absurd (show b∈([]:List Addr) from z) (by simp);refine ⟨⟨e0.mod,S.kind,rfl,rfl,Nat.le_refl _,fun y z c h1 h2=>?_,fun y hy=>?_,fun y c _ h=>?_,fun _=>hd,Around.frames_deeper e0.frames,.inr ⟨rfl,rfl⟩,fun b z=>absurd z (noA b),e0.bs,e0.bsz,fun b _ _=>noA b,fun b z=>absurd z (noA b),e0.funs,e0.frf⟩,
  rfl,e0.bare,Un.kept hk,⟨_,x.toInCall.ns,fun i y v h1 h2 h3=>?_⟩,fun y c h=>⟨_,x.cell y c h⟩,e0.hok.fresh (Nat.le_refl _),fun y c h=>?_,fun p hp=>absurd (show p∈([]:List (Addr×Obj)) from hp) (by simp),e0.hok.kept hk,?_⟩
 ·exact name_of_addr x.apart (PySem.mem_of_lookup h1) (PySem.mem_of_lookup h2)
 ·have hy:scope.names.lookup y=some .cell\/scope.names.lookup y=some .free:=hy
  rcases hy with hy | hy
  ·exact Wn hy
  ·exact absurd rfl (S.nofree _ (PySem.mem_of_lookup hy))
 ·exact Nat.le_of_lt (x.above y c (PySem.mem_of_lookup h))
 ·have hi:i<vs.length:=by
   unfold Lc at h2
   by_cases hi:i<vs.length
   ·exact hi
   ·rw [List.getElem?_append_right (by simpa using hi)] at h2
    rw [List.getElem?_replicate] at h2;split at h2<;>cases h2
  have ha:vs[i]?=some v:=by
   unfold Lc at h2;rw [List.getElem?_append_left (by simpa using hi),List.getElem?_map] at h2
   cases e:vs[i]? with
   | none=>rw [e] at h2;cases h2
   | some a=>rw [e] at h2;cases h2;rfl
  obtain ⟨u,hu,rv⟩:=r.get ha;have hp:ps[i]?=some y:=by
   rw [<- S.pre,List.getElem?_take_of_lt (by omega)];exact h1
  have ndP:ps.Nodup:=by rw [<- S.pre];exact S.nd.sublist (List.take_sublist _ _)
  refine ⟨u,rv,?_⟩;rcases S.par y (List.mem_of_getElem? hp) with k | k
  ·exact .inl ⟨k,Tc ndP hp hu k⟩
  ·obtain ⟨c,e⟩:=Wn (n:=s.heap.objs.size+1) k
   refine .inr ⟨.inl k,c,e,?_⟩;have q:=x.cell y c e;rw [Tg ndP hp hu (by show scope.names.lookup y≠_;rw [k];decide)] at q;exact q
 ·exact e0.hok.fresh (Nat.le_of_lt (x.above y c (PySem.mem_of_lookup h)))
 ·unfold Lc
  show _=N.length;rw [List.length_append,List.length_map,List.length_replicate];omega
theorem jY {CX:CXT}{P:Program}{w:World}{K:PySem.W.Frag}{mg:Str->Option Value}{base:Heap}{k:Nat}{f:Addr}{name qual:Str}{params:Arguments}{body:List Stmt}{scope:Scope}{dV kV doc pm cdv ct oc:Value}{an od:Option Addr}
  {osl:Array (Option Value)}{N ps:List Str}{sp:Sp}(lk:K.lookup f=some ⟨oc,od,.func (PySem.W.fnOf name qual params body scope dV kV doc pm an cdv ct),osl⟩)(hcd:PySem.W.codeIn K cdv qual=true)(S:An N ps scope)
  (len:∀ vs H Q E,sp vs H Q E->vs.length=ps.length)
  (hbody:∀ (A:Around) (outer:List Env) (s:Shared) (H:Hp) (vs:List V) (Q:VK) (E:XK),Cr k (A.deeper (envOfC qual scope s.heap.objs.size f cdv))->sp vs H Q E ->
   ∃ t,PSs (X9 CX P w K mg base N qual scope f cdv A outer s H E) body t/\t { nx:=fun _ H'=>Q .non H',rt:=Q } (Lc N vs) H) :
  A4 P w K mg base CX (k+1) f (PySem.W.fnOf name qual params body scope dV kV doc pm an cdv ct) ps sp:=by
 refine ⟨len,fun A outer s H args us vs Q E hr e0 hb r hsp=>?_⟩;have hl:=len _ _ _ _ hsp;have KX:K.In s.heap:=e0.mod.kin.keeps fun b o e=>(e0.bs b o e).1;have lim:s.heap.NoLimit:=e0.mod.nolimit.keeps fun b o e=>(e0.bs b o e).1;have hkind:∀ y∈ps.zip us,scope.names.lookup y.1=some .local\/(scope.names.lookup y.1=some .cell/\((cellsFrom (s.heap.objs.size+1) scope.names []).lookup y.1).isSome=true):=fun ⟨n,v⟩ hy=>by
  rcases S.par n (List.of_mem_zip hy).1 with q | q
  ·exact .inl q
  ·exact .inr ⟨q,PySem.W.cellsFrom_some _ _ _ (.inl q)⟩
 refine codeAny_call_function hr.depth (KX _ _ lk) rfl S.co S.gen rfl (PySem.W.codeRec_of KX hcd) (hb _ _ _ _ ?_);refine wpAny_newFunctionEnv_cells S.kind hkind fun env he s1 x=>?_;subst he;refine ⟨lim.keeps x.toInCall.keep,codeAny_func ?_⟩;obtain ⟨t,ht,hq⟩:=hbody A outer s H vs Q E (hr.deeper _) hsp;have I:Inv (X9 CX P w K mg base N qual scope f cdv A outer s H E) [] (Lc N vs) H s1:=fC S hr.hd e0 hl r x;refine wpAny_mono (ht [] s1 (Lc N vs) H _ I hq) (fun fl s' hs=>?_) fun e s' hs=>hs;have fin:∀ {σ':St} {H':Hp} {v:V} {u:Value},Inv (X9 CX P w K mg base N qual scope f cdv A outer s H E) [] σ' H' s'->Ba v u->Q v H'->CE outer P w H s Q u s' :=
  fun {σ' H' v u} J rv q=>⟨v,H',J.os,J.bare,J.base,J.hok,rv,q⟩
 cases fl with
 | ret u =>
  obtain ⟨v,σ',H',J,rv,q⟩:=hs;exact fin J rv q
 | next =>
  obtain ⟨σ',H',J,q⟩:=hs;exact fin (v:=V.non) (u:=Value.none) J rfl q
 | brk =>
  obtain ⟨_,_,_,q⟩:=hs;exact False.elim q
 | cont =>
  obtain ⟨_,_,_,q⟩:=hs;exact False.elim q
section
variable {X:Cx} {x:Str} {p pos:Pos} {e:Expr} {es:List Expr} {t:TA} {id T:String} {r:List V->Hp->VK->Prop}
def tCB (r:List V->Hp->VK->Prop)(t:TA):TE:=fun σ H Q=>t σ H fun vs H1=>r vs H1 Q
theorem Ap (hc:Ep X (.builtin id) r)(hg:Gl X x)(hm:X.mg x=none)(hv:bootBuiltins x=some (.builtin id))(ha:PA X (e::es) t)(hn:x≠"__name__":=by decide)(hdb:(x==("__debug__":Str))=false:=by decide)
  (he:starEach (e::es) X.env=(false,eval e X.env)::starEach es X.env:=by rfl)(hpl:(backTo pos (starEach es X.env)).any (·.1)=false:=by rfl):PE X (.Call (.Name x p) (e::es) [] pos) (tCB r t):=by
 intro pins s σ H Q I h;refine wpAny_Call_Name_kw (Dq I hg hm hv ?_ hn hdb);exact PyProof.Rows.callWith_builtin1 (thn (ha pos pins s σ H _ I h) fun us s1 ⟨vs,H1,I1,r1,q1⟩=>hc pins s1 σ H1 vs us Q I1 r1 q1) he hpl
theorem Ei (hc:Ep X (.type T) r)(hg:Gl X x)(hm:X.mg x=none)(hv:bootBuiltins x=some (.type T))(ha:PA X (e::es) t)(hn:x≠"__name__":=by decide)(hdb:(x==("__debug__":Str))=false:=by decide)
  (he:starEach (e::es) X.env=(false,eval e X.env)::starEach es X.env:=by rfl)(hpl:(backTo pos (starEach es X.env)).any (·.1)=false:=by rfl):PE X (.Call (.Name x p) (e::es) [] pos) (tCB r t):=by
 intro pins s σ H Q I h;refine wpAny_Call_Name_kw (Dq I hg hm hv ?_ hn hdb);exact PyProof.Rows.callWith_type1 (thn (ha pos pins s σ H _ I h) fun us s1 ⟨vs,H1,I1,r1,q1⟩=>hc pins s1 σ H1 vs us Q I1 r1 q1) he hpl
end
end L2
namespace HT
open PySem PyProof.Rows
section
open PySem.SeqAt
open PySem.AutoSeq1 (wpAny_loadPart')
open PySem.MeetsSeq PySem.MeetsSeq2 PySem.MeetsSeq3
end
section
variable {prog:Program} {w:World} {A:Around} {E:Value->Shared->Prop} {s:Shared}
def sIx (n d:Nat):Option Int->Nat
 | none=>d
 | some v=>if v<0 then (v+(n:Int)).toNat else min v.toNat n
theorem sIx_nat (n d k:Nat):sIx n d (some (k:Int))=min k n:=by
 show (if (k:Int)<0 then ((k:Int)+(n:Int)).toNat else min (k:Int).toNat n)=min k n;rw [if_neg (by omega),Int.toNat_natCast]
theorem sIx_le (n d:Nat)(hd:d<=n)(o:Option Int):sIx n d o<=n:=by
 cases o with
 | none=>exact hd
 | some v =>
  show (if v<0 then (v+(n:Int)).toNat else min v.toNat n)<=n
  by_cases hv:v<0
  ·rw [if_pos hv];omega
  ·rw [if_neg hv];exact Nat.min_le_right _ _
theorem cW (v:Int)(n d:Nat):(if v<0 then max (v+(n:Int)) 0 else min v (n:Int))=((sIx n d (some v):Nat):Int):=by
 show (if v<0 then max (v+(n:Int)) 0 else min v (n:Int))=(((if v<0 then (v+(n:Int)).toNat else min v.toNat n):Nat):Int)
 by_cases hv:v<0
 ·simp only [if_pos hv];omega
 ·simp only [if_neg hv];omega
theorem Zj (lo hi:Option Int)(n:Nat):Builtin.Slice.sliceAdjust lo hi 1 (n:Int)=(((sIx n 0 lo:Nat):Int),((sIx n n hi:Nat):Int)):=by
 have h1:¬ ((1:Int)<0):=by omega
 unfold Builtin.Slice.sliceAdjust;simp only [h1,if_false];refine Prod.ext ?_ ?_
 ·cases lo with
  | none=>rfl
  | some v=>exact cW v n 0
 ·cases hi with
  | none=>rfl
  | some v=>exact cW v n n
theorem Z0 (i j:Nat):Builtin.Slice.slicePlaces (i:Int) (j:Int) 1=j-i:=by
 unfold Builtin.Slice.slicePlaces;have h1:(1:Int)>0:=by omega
 simp only [h1,if_true,Int.ediv_one];split<;>omega
theorem Rx {v:Value}{o:Option Int}{Q:Option Int->Shared->Prop}(p:IsPart v o)(h:Q o s):wpAny (model prog w) A (Builtin.Slice.slicePartIndex v) Q E s:=by
 cases p with
 | none=>exact slicePart_none h
 | int i t=>exact slicePart_int h
theorem sliceApplied_gen {sl:Addr}{vl vu:Value}{lo hi:Option Int}{n:Nat}{Q:Int×Int×Nat->Shared->Prop}(hs:s.heap.IsSliceOf sl vl vu .none)(pl:IsPart vl lo)(pu:IsPart vu hi)
  (h:Q (((sIx n 0 lo:Nat):Int),1,sIx n n hi-sIx n 0 lo) s):wpAny (model prog w) A (Builtin.Slice.sliceApplied (.ref sl) (pure (n:Int))) Q E s:=by
 obtain ⟨os,hos,hcs,hds⟩:=id hs;unfold Builtin.Slice.sliceApplied Builtin.Slice.sliceFields;refine wpAny_bind (wpAny_bind (wpAny_field hos hds (x:=vl) rfl (wpAny_bind (wpAny_field hos hds (x:=vu) rfl (wpAny_bind (wpAny_field hos hds (x:=.none) rfl (wpAny_pure ?_)))))));refine wpAny_bind (slicePart_none ?_);show wpAny _ _ (if ((1:Int)==0)=true then _ else _) _ _ s;rw [if_neg (by decide)];refine wpAny_bind (Rx pl (wpAny_bind (Rx pu (wpAny_bind (wpAny_pure ?_)))));show wpAny _ _ (match Builtin.Slice.sliceAdjust lo hi 1 (n:Int) with | (lo,hi)=>pure (lo,(1:Int),Builtin.Slice.slicePlaces lo hi 1)) _ _ s;rw [Zj lo hi n];show wpAny _ _ (pure (((sIx n 0 lo:Nat):Int),(1:Int),Builtin.Slice.slicePlaces ((sIx n 0 lo:Nat):Int) ((sIx n n hi:Nat):Int) 1)) _ _ s;rw [Z0];exact wpAny_pure h
theorem gL (xs:Array Value)(i k:Nat):((List.range k).filterMap fun (m:Nat)=>xs[((i:Int)+(m:Int)*1).toNat]?).toArray=((xs.toList.drop i).take k).toArray:=by
 have e:(fun (m:Nat)=>xs[((i:Int)+(m:Int)*1).toNat]?)=fun m=>xs[i+m]?:=by
  funext m
  have:((i:Int)+(m:Int)*1).toNat=i+m:=by omega
  rw [this]
 rw [e];have:=pick_run xs i k;rw [List.filterMap_map] at this;have e2:((fun x=>xs[x]?) ∘ fun x=>i+x)=fun m=>xs[i+m]?:=rfl;rw [e2] at this;rw [this]
theorem getItem_tuple_cut {t sl:Addr}{items:Array Value}{vl vu:Value}{lo hi:Option Int}{Q:Value->Shared->Prop}(ht:IsTup s.heap t items)(hs:s.heap.IsSliceOf sl vl vu .none)(pl:IsPart vl lo)(pu:IsPart vu hi)
  (hw:¬ (sIx items.size 0 lo=0/\sIx items.size items.size hi=items.size))
  (h:Q (.ref s.heap.objs.size) { s with heap:=s.heap.push { cls:=.type "tuple",data:=.seq ((items.toList.drop (sIx items.size 0 lo)).take (sIx items.size items.size hi-sIx items.size 0 lo)).toArray } })
  (hsz:items.size<=sizeLine):wpAny (model prog w) A (getItem (.ref t) (.ref sl)) Q E s:=by
 have htake:sizeOk (.seq ((items.toList.drop (sIx items.size 0 lo)).take (sIx items.size items.size hi-sIx items.size 0 lo)).toArray):=by
  show ((items.toList.drop (sIx items.size 0 lo)).take (sIx items.size items.size hi-sIx items.size 0 lo)).toArray.size<=sizeLine;rw [List.size_toArray,List.length_take,List.length_drop,Array.length_toList];omega
 have hj:sIx items.size items.size hi<=items.size:=sIx_le _ _ (Nat.le_refl _) hi;obtain ⟨os,hos,hcs,hds⟩:=id hs;have hTs:s.TypeIs (.ref sl) "slice":=⟨os,hos,hcs⟩;unfold getItem
 try with_reducible refine wpAny_holding ?_
 first | refine wpAny_bind (wpAny_pure ?_) | skip
 refine wpAny_bind (wpAny_sequenceKey ht.typeIs (by decide) ?_);refine wpAny_bind (wpAny_callSpecial?_slot (name:=Str.ofString "__getitem__") ht.typeIs PyProof.Rows.slot_tuple_getitem
  (wpAny_call_entry PyProof.Rows.slot_tuple_getitem ht.typeIs entry_tuple_getitem ?_ (args_tuple_getitem _ _)))
 show wpAny _ _ (Builtin.Tuple.tupleItemsOf (.ref t) >>= _) _ _ s;refine wpAny_bind (tupleItemsOf_ ht ?_);refine wpAny_bind (wpAny_typeOf hTs ?_);rw [if_pos (by decide)];refine wpAny_bind (sliceApplied_gen hs pl pu ?_);have hno:¬ ((((sIx items.size 0 lo:Nat):Int)==0&&(1:Int)==1&&(sIx items.size items.size hi-sIx items.size 0 lo)==items.size)=true):=by
  intro q;rw [Bool.and_eq_true,Bool.and_eq_true] at q;have q1:((sIx items.size 0 lo:Nat):Int)=0:=eq_of_beq q.1.1;have q2:sIx items.size items.size hi-sIx items.size 0 lo=items.size:=eq_of_beq q.2;exact hw ⟨by omega,by omega⟩
 show wpAny _ _ (if (((sIx items.size 0 lo:Nat):Int)==0&&(1:Int)==1&&(sIx items.size items.size hi-sIx items.size 0 lo)==items.size)=true then _ else _) _ _ s;rw [if_neg hno,gL]
 first
  | exact wpAny_bind (m:=Builtin.Tuple.tupleExact _) (wpAny_newObj_type (wpAny_pure ⟨_,rfl,wpAny_pure h⟩) htake)
  | exact wpAny_bind (m:=Builtin.Tuple.tupleExact _) (wpAny_newObj_type (wpAny_bind (wpAny_pure (wpAny_pure ⟨_,rfl,wpAny_pure h⟩))) htake)
  | exact wpAny_bind (wpAny_bind (m:=Builtin.Tuple.tupleExact _) (wpAny_newObj_type (wpAny_pure (wpAny_pure ⟨_,rfl,wpAny_pure h⟩)) htake))
  | exact wpAny_bind (wpAny_bind (m:=Builtin.Tuple.tupleExact _) (wpAny_newObj_type (wpAny_pure ⟨_,rfl,wpAny_pure h⟩) htake))
end
end HT
namespace L2
open PySem PySem.Spec PyProof.Rows
abbrev TO:=St->Hp->(Option Int->Hp->Prop)->Prop
def PO (X:Cx)(e:Option Expr)(t:TO):Prop :=
 ∀ (pins:List (Addr×Obj)) (s:Shared) (σ:St) (H:Hp) (Q:Option Int->Hp->Prop),Inv X pins σ H s->t σ H Q ->
  wpAny (model X.prog X.w) X.A (evalPart e X.env) (fun u s'=>∃ o H',Inv X pins σ H' s'/\IsPart u o/\Q o H') X.xe s
def dH:TO:=fun _ H Q=>Q none H
def pP (t:TE):TO:=fun σ H Q=>t σ H fun x H1=>∃ i,x=.int i/\Q (some i) H1
theorem Rn {ns:List Int}:∀ {us:List Value},Az (ns.map V.int) us->IntsAre us ns:=by
 induction ns with
 | nil=>intro us r;rw [List.map_nil] at r;cases r;exact .nil
 | cons n ns ih =>
  intro us r;rw [List.map_cons] at r
  cases r with
  | cons r1 r2 =>
   obtain ⟨t,e⟩:=r1;subst e;exact .cons n t (ih r2)
section
variable {X:Cx} {e:Expr} {te:TE} {lo hi:Option Expr} {tl th:TO} {pos p2:Pos}
theorem Ib:PO X none dH:=by
 intro pins s σ H Q I h;rw [evalPart_none];exact wpAny_pure ⟨none,H,I,.none,h⟩
theorem C5 (h:PE X e te):PO X (some e) (pP te):=by
 intro pins s σ H Q I hw;rw [evalPart_some];refine thn (h pins s σ H _ I hw) fun u s1 ⟨x,H1,I1,r1,q1⟩=>?_;obtain ⟨i,rfl,q⟩:=q1;obtain ⟨t,rfl⟩:=r1;exact ⟨some i,H1,I1,.int i t,q⟩
def SlR (X:Cx)(r:V->Option Int->Option Int->Hp->VK->Prop):Prop :=
 ∀ (pins:List (Addr×Obj)) (s:Shared) (σ:St) (H:Hp) (x:V) (v vl vu:Value) (lo hi:Option Int) (sl:Addr) (Q:VK),Inv X pins σ H s->Ba x v->s.heap.IsSliceOf sl vl vu .none->IsPart vl lo->IsPart vu hi->r x lo hi H Q ->
  ∃ T id,typeLookup (.type T) "__getitem__"=pure (some (.builtin id))/\s.TypeIs v T/\wpAny (model X.prog X.w) X.A (getItem v (.ref sl)) (EP X pins σ Q) X.xe s
def tSl (r:V->Option Int->Option Int->Hp->VK->Prop)(te:TE)(tl th:TO):TE:=fun σ H Q=>te σ H fun x H1=>tl σ H1 fun l H2=>th σ H2 fun u H3=>r x l u H3 Q
theorem Dp {r:V->Option Int->Option Int->Hp->VK->Prop}(hr:SlR X r)(he:PE X e te)(hl:PO X lo tl)(hu:PO X hi th):PE X (.Subscript e (.Slice lo hi none p2) pos) (tSl r te tl th):=by
 intro pins s σ H Q I h;refine Subscript_ (thn (he pins s σ H _ I h) fun v s1 ⟨x,H1,I1,r1,q1⟩=>?_);refine wpAny_Slice (thn (hl pins s1 σ H1 _ I1 q1) fun vl s2 ⟨l,H2,I2,pl,q2⟩=>thn (hu pins s2 σ H2 _ I2 q2) fun vu s3 ⟨u,H3,I3,pu,q3⟩=>?_);rw [evalPart_none];refine wpAny_pure ?_;have I4:Inv X pins σ H3 { s3 with heap:=s3.heap.push { cls:=.type "slice",data:=.fields #[vl,vu,.none] } }:=I3.kept (t':=s3.toks) fun b ob q=>Heap.get?_push_of_some _ q;obtain ⟨T,id,hT,ht,hg⟩:=hr pins { s3 with heap:=s3.heap.push { cls:=.type "slice",data:=.fields #[vl,vu,.none] } } σ H3 x v vl vu l u s3.heap.objs.size Q I4 r1 (Heap.IsSliceOf.new ..) pl pu q3;show wpAny (model X.prog X.w) X.A (subscriptTail e (.Slice lo hi none p2) v (.ref s3.heap.objs.size)) (EP X pins σ Q) X.xe { s3 with heap:=s3.heap.push { cls:=.type "slice",data:=.fields #[vl,vu,.none] } };exact tail_any (ops:=[.ref s3.heap.objs.size,v]) ht hT hg (by with_unfolding_all rfl)
def Dz (xs:List V)(lo hi:Option Int):List V:=(xs.drop (HT.sIx xs.length 0 lo)).take (HT.sIx xs.length xs.length hi-HT.sIx xs.length 0 lo)
theorem Of (xs:List V)(lo hi:Option Int):(Dz xs lo hi).length<=xs.length:=by
 unfold Dz;rw [List.length_take,List.length_drop];omega
def wT (K:PySem.W.Frag):V->Option Int->Option Int->Hp->VK->Prop:=fun x lo hi H Q=>∃ a xs,x=.ref a/\SqT K H a xs /\
 ¬ (HT.sIx xs.length 0 lo=0/\HT.sIx xs.length xs.length hi=xs.length)/\∀ p,H p=none->Q (.ref p) (upd H p (.tup (Dz xs lo hi)))
theorem tD:SlR X (wT X.K):=by
 intro pins s σ H x v vl vu lo hi sl Q I rx hs pl pu h;obtain ⟨a,xs,rfl,hx,hw,q⟩:=h;cases rx;obtain ⟨its,r,ht,hz⟩:=I.tuple hx;have hlen:its.toArray.size=xs.length:=by rw [List.size_toArray];exact r.length.symm
 refine ⟨"tuple",_,PyProof.Rows.slot_tuple_getitem.lookup,ht.typeIs,?_⟩;refine HT.getItem_tuple_cut ht hs pl pu (by rw [hlen];exact hw) ?_ (by rw [hlen];exact hz);rw [hlen];refine ⟨.ref s.heap.objs.size,_,I.laid (t':=s.toks) (o:=.tup (Dz xs lo hi)) (fun b ob q=>Heap.get?_push_of_some _ q) (Nat.le_refl _) ?_,rfl,q _ (I.hok.fresh (Nat.le_refl _))⟩;exact ⟨Nat.le_trans (Of xs lo hi) hz,_,(r.drop (HT.sIx xs.length 0 lo)).take (HT.sIx xs.length xs.length hi-HT.sIx xs.length 0 lo),IsTup.new _ _⟩
end
def ixN (n:Nat)(i:Int):Option Nat:=if 0<=i then (if i<n then some i.toNat else none) else if -(n:Int)<=i then some (i+n).toNat else none
def atI {α:Type}(xs:List α)(i:Int):Option α:=(ixN xs.length i).bind fun j=>xs[j]?
theorem cN {n:Nat}{i:Int}{j:Nat}(h:ixN n i=some j):seqIndex? i n=some j/\j<n/\-(n:Int)<=i/\i<n:=by
 unfold ixN at h
 by_cases h0:0<=i
 ·rw [if_pos h0] at h
  by_cases h1:i<n
  ·rw [if_pos h1] at h
   have e:i.toNat=j:=Option.some.inj h;exact ⟨by rw [seqIndex_of h0 h1,e],by omega,by omega,h1⟩
  ·rw [if_neg h1] at h;cases h
 ·rw [if_neg h0] at h
  by_cases h1:-(n:Int)<=i
  ·rw [if_pos h1] at h
   have e:(i+n).toNat=j:=Option.some.inj h;exact ⟨by rw [seqIndex_neg (by omega) h1,e],by omega,h1,by omega⟩
  ·rw [if_neg h1] at h;cases h
theorem Uo {α:Type}{xs:List α}{i:Int}{v:α}(h:atI xs i=some v):∃ j,seqIndex? i xs.length=some j/\xs[j]?=some v/\j<xs.length/\-(xs.length:Int)<=i/\i<xs.length:=by
 unfold atI at h
 cases e:ixN xs.length i with
 | none=>rw [e] at h;cases h
 | some j =>
  rw [e] at h;obtain ⟨h1,h2,h3,h4⟩:=cN e;exact ⟨j,h1,h,h2,h3,h4⟩
theorem Bh {α:Type}{xs:List α}{j:Nat}{v:α}(h:xs[j]?=some v):atI xs (j:Int)=some v:=by
 have hj:j<xs.length:=(List.getElem?_eq_some_iff.mp h).1;have e:ixN xs.length (j:Int)=some j:=by
  unfold ixN;rw [if_pos (by omega),if_pos (by omega)];simp
 unfold atI;rw [e];exact h
theorem Xq {α:Type}(xs:List α)(v:α):atI (xs++[v]) (-1)=some v:=by
 have hl:(xs++[v]).length=xs.length+1:=by simp
 have e:ixN (xs++[v]).length (-1)=some xs.length:=by
  unfold ixN;rw [hl,if_neg (by decide),if_pos (by omega)];congr 1;omega
 unfold atI;rw [e];show (xs++[v])[xs.length]?=some v;simp
def mS (b:Expr):Prop:=∀ o i,subscripted b false o i=operate [o,i] (getItem o i)
def IxR (X:Cx)(r:R2):Prop :=
 ∀ (value Mv:Expr) (pins:List (Addr×Obj)) (s:Shared) (σ:St) (H:Hp) (x y:V) (v u:Value) (Q:VK),Inv X pins σ H s->Ba x v->Ba y u->r x y H Q ->
  subscripted Mv false v u=operate [v,u] (getItem v u)->wpAny (model X.prog X.w) X.A (subscriptTail value Mv v u) (EP X pins σ Q) X.xe s
def MtR (X:Cx)(id:String)(r:V->List V->Hp->VK->Prop):Prop :=
 ∀ (pins:List (Addr×Obj)) (s:Shared) (σ:St) (H:Hp) (x:V) (xs:List V) (v:Value) (us:List Value) (Q:VK),Inv X pins σ H s->Ba x v->Az xs us->r x xs H Q ->
  wpAny (model X.prog X.w) X.A (call (.builtin id) (v::us)) (EP X pins σ Q) X.xe s
section
variable {X:Cx} {a b:Expr} {ta tb:TE} {pos:Pos}
theorem Bs {r:R2}(hr:IxR X r)(ha:PE X a ta)(hb:PE X b tb)(hs:mS b):PE X (.Subscript a b pos) (tOp r ta tb):=by
 intro pins s σ H Q I h;exact Subscript_ (tQ ha hb I h fun v u s2 x y H2 I2 rx ry q=>hr a b pins s2 σ H2 x y v u Q I2 rx ry q (hs _ _))
def oO (K:PySem.W.Frag):R2:=fun x y H Q=>∃ p xs i v,x=.ref p/\y=.int i/\SqL K H p xs/\atI xs i=some v/\Q v H
def sK (K:PySem.W.Frag):R2:=fun x y H Q=>∃ p xs i v,x=.ref p/\y=.int i/\SqT K H p xs/\atI xs i=some v/\Q v H
theorem Bt:IxR X (oO X.K):=by
 intro value Mv pins s σ H x y v u Q I rx ry h hs;obtain ⟨p,xs,i,z,rfl,rfl,hq,he,q⟩:=h;cases rx;obtain ⟨t,rfl⟩:=ry;obtain ⟨its,r,pl,hz⟩:=I.list hq;obtain ⟨j,h1,h2,h3,h4,h5⟩:=Uo he;obtain ⟨w,ew,rw'⟩:=r.get h2;have hl:=r.length;have hn:=Jm;have fin:EP X pins σ Q w s:=⟨z,H,I,rw',q⟩
 by_cases h0:0<=i
 ·have hj:i.toNat=j:=by
   rw [seqIndex_of h0 h5] at h1;exact Option.some.inj h1
  exact item_listR pl.isList h0 (by omega) (by rw [hj];simpa using ew) fin hs
 ·have hj:(i+(its.toArray.size:Int)).toNat=j:=by
   rw [seqIndex_neg (by omega) h4] at h1;rw [List.size_toArray,<- hl];exact Option.some.inj h1
  exact subscriptTail_builtinR (x:=w) pl.isList.typeIs slot_list_getitem.lookup
   (wpAny_getItem_list_neg (Q:=fun r s'=>r=w/\EP X pins σ Q r s') pl.isList (by omega) (by rw [List.size_toArray]<;>omega) (by omega) (by rw [hj];simpa using ew) ⟨rfl,fin⟩) hs
theorem Fc:IxR X (sK X.K):=by
 intro value Mv pins s σ H x y v u Q I rx ry h hs;obtain ⟨p,xs,i,z,rfl,rfl,hq,he,q⟩:=h;cases rx;obtain ⟨t,rfl⟩:=ry;obtain ⟨its,r,pl,hz⟩:=I.tuple hq;obtain ⟨j,h1,h2,h3,h4,h5⟩:=Uo he;obtain ⟨w,ew,rw'⟩:=r.get h2;have hl:=r.length;have hn:=Jm;have fin:EP X pins σ Q w s:=⟨z,H,I,rw',q⟩;exact subscriptTail_builtinR (x:=w) pl.typeIs slot_tuple_getitem.lookup
  (getItem_tuple (j:=j) (Q:=fun r s'=>r=w/\EP X pins σ Q r s') pl (by omega) (by omega) (by rw [List.size_toArray,<- hl];exact h1) (by simpa using ew) ⟨rfl,fin⟩) hs
theorem Zw (its:List Value)(n j:Nat)(u:Value):Obj.mapSeq (·.setIfInBounds j u) { cls:=.type "list",data:=.seq its.toArray n }={ cls:=.type "list",data:=.seq (its.set j u).toArray n }:=by
 simp [Obj.mapSeq]
theorem Inv.lst {pins:List (Addr×Obj)}{σ:St}{H:Hp}{s:Shared}{p:Addr}{xs:List V}(I:Inv X pins σ H s)(h:H p=some (.lst xs)) :
  ∃ (its:List Value) (n:Nat),Az xs its/\s.heap.get? p=some { cls:=.type "list",data:=.seq its.toArray n }/\xs.length<=sizeLine:=by
 obtain ⟨z,its,n,r,e⟩:=I.hok p _ h;exact ⟨its,n,r,e,z⟩
theorem Inv.lstUpd {pins:List (Addr×Obj)}{σ:St}{H:Hp}{s:Shared}{p:Addr}{xs ys:List V}{its its':List Value}{n n':Nat}{f:Obj->Obj}(I:Inv X pins σ H s)(h:H p=some (.lst xs))
  (ho:s.heap.get? p=some { cls:=.type "list",data:=.seq its.toArray n })(hf:f { cls:=.type "list",data:=.seq its.toArray n }={ cls:=.type "list",data:=.seq its'.toArray n' })(r:Az ys its')(hz:ys.length<=sizeLine)(t:Nat) :
  Inv X pins σ (upd H p (.lst ys)) { s with heap:=s.heap.update p f,toks:=t }:=by
 have e:(s.heap.update p f).get? p=some { cls:=.type "list",data:=.seq its'.toArray n' }:=by
  rw [Heap.get?_update_self f ho (by rw [hf]<;>rfl),hf]
 refine I.write (x:=p) (e:=p) (by rw [h];trivial) (.inl rfl) (fun b u hb q=>(Heap.get?_update_other _ _ (Ne.symm hb)).trans q) ⟨_,e⟩ ?_;exact ⟨hz,its',n',r,e⟩
def pK:V->V->V->Hp->(Hp->Prop)->Prop:=fun o i v H Q=>∃ p xs k j,o=.ref p/\i=.int k/\H p=some (.lst xs)/\ixN xs.length k=some j/\Q (upd H p (.lst (xs.set j v)))
theorem Hj:oF X pK:=by
 intro pins s σ H o i v ov iv u Q I ro ri rv h;obtain ⟨p,xs,k,j,rfl,rfl,hp,hj,q⟩:=h;cases ro;obtain ⟨t,rfl⟩:=ri;obtain ⟨its,n,r,ho,hz⟩:=I.lst hp;obtain ⟨h1,h2,h3,h4⟩:=cN hj;have hl:=r.length;have hn:=Jm;have I':Inv X pins σ (upd H p (.lst (xs.set j v))) { s with heap:=s.heap.update p (Obj.mapSeq (·.setIfInBounds j u)) } :=
  I.lstUpd hp ho (Zw its n j u) (r.set rv j) (by rw [List.length_set];exact hz) s.toks
 by_cases h0:0<=k
 ·have hk:k.toNat=j:=by
   rw [seqIndex_of h0 h4] at h1;exact Option.some.inj h1
  exact PySem.W.ki_setAt ho h0 (by omega) (by rw [List.size_toArray,<- hl];exact h4) (by rw [hk];exact ⟨_,I',q⟩)
 ·have hk:(k+(its.toArray.size:Int)).toNat=j:=by
   rw [seqIndex_neg (by omega) h3] at h1;rw [List.size_toArray,<- hl];exact Option.some.inj h1
  exact PySem.W.ki_setBack ho (by omega) (by rw [List.size_toArray,<- hl];exact h3) (by omega) (by rw [hk];exact ⟨_,I',q⟩)
theorem Ug (lo hi:Option Int)(n:Nat):(sliceBounds lo hi none n).1=((HT.sIx n 0 lo:Nat):Int)/\(sliceBounds lo hi none n).2.1=((HT.sIx n n hi:Nat):Int)/\(sliceBounds lo hi none n).2.2=1:=by
 refine ⟨?_,?_,rfl⟩
 ·cases lo with
  | none=>simp [sliceBounds,HT.sIx]
  | some i =>
   simp only [sliceBounds,HT.sIx,Option.getD_none,show (1:Int)>0 by decide,if_true]
   by_cases h:i<0
   ·simp only [h,if_true]<;>omega
   ·simp only [h,if_false]<;>omega
 ·cases hi with
  | none=>simp [sliceBounds,HT.sIx]
  | some i =>
   simp only [sliceBounds,HT.sIx,Option.getD_none,show (1:Int)>0 by decide,if_true]
   by_cases h:i<0
   ·simp only [h,if_true]<;>omega
   ·simp only [h,if_false]<;>omega
theorem R4 (its:List Value)(lo hi:Option Int):slicePick its.toArray lo hi none=((its.drop (HT.sIx its.length 0 lo)).take (HT.sIx its.length its.length hi-HT.sIx its.length 0 lo)).toArray:=by
 obtain ⟨h1,h2,h3⟩:=Ug lo hi its.toArray.size;unfold slicePick;rw [h1,h2,h3];simp only [sliceRange_one,pick_run,List.size_toArray]<;>rfl
def wV (K:PySem.W.Frag):V->Option Int->Option Int->Hp->VK->Prop:=fun x lo hi H Q=>∃ a xs,x=.ref a/\SqL K H a xs/\∀ p,H p=none->Q (.ref p) (upd H p (.lst (Dz xs lo hi)))
theorem Ik:SlR X (wV X.K):=by
 intro pins s σ H x v vl vu lo hi sl Q I rx hs pl pu h;obtain ⟨a,xs,rfl,hx,q⟩:=h;cases rx;obtain ⟨its,r,ht,hz⟩:=I.list hx;have hlen:=r.length;refine ⟨"list",_,slot_list_getitem.lookup,ht.isList.typeIs,?_⟩;refine wpAny_getItem_list_slice ht.isList hs pl pu .none (by simp) ?_ (by rw [List.size_toArray]<;>omega)
 rw [R4,<- hlen];refine ⟨.ref s.heap.objs.size,_,I.laid (t':=s.toks) (o:=.lst (Dz xs lo hi)) (fun b ob q=>Heap.get?_push_of_some _ q) (Nat.le_refl _) ?_,rfl,q _ (I.hok.fresh (Nat.le_refl _))⟩;exact ⟨Nat.le_trans (Of xs lo hi) hz,_,0,(r.drop (HT.sIx xs.length 0 lo)).take (HT.sIx xs.length xs.length hi-HT.sIx xs.length 0 lo),Heap.get?_push_size _ rfl⟩
def Jq:V->Bool
 | .non=>true
 | .bl _=>true
 | .int _=>true
 | .str _=>true
 | _=>false
def eqV:V->V->Bool
 | .non,.non=>true
 | .bl a,.bl b=>a==b
 | .bl a,.int b=>(if a then 1 else 0)==b
 | .int a,.bl b=>a==(if b then 1 else 0)
 | .int a,.int b=>a==b
 | .str a,.str b=>a==b
 | _,_=>false
theorem kN {A:Around}{s:Shared}{y x:V}{u v:Value}(ry:Ba y u)(rx:Ba x v)(fy:Jq y=true)(fx:Jq x=true):SeqAt.EqAt A s u v (eqV y x):=by
 cases y with
 | non =>
  cases ry
  cases x with
  | non=>cases rx;exact SeqAt.EqAt.same _
  | bl b=>cases rx;exact SeqAt.EqAt.none_bool b
  | int b=>obtain ⟨t,rfl⟩:=rx;exact SeqAt.EqAt.none_int b t
  | str b=>obtain ⟨t,rfl⟩:=rx;exact SeqAt.EqAt.none_str b t
  | _=>exact absurd (show false=true from fx) Bool.false_ne_true
 | bl a =>
  cases ry
  cases x with
  | non=>cases rx;exact SeqAt.EqAt.bool_none a
  | bl b=>cases rx;exact SeqAt.EqAt.bool_bool a b
  | int b=>obtain ⟨t,rfl⟩:=rx;exact SeqAt.EqAt.bool_int a b t
  | str b=>obtain ⟨t,rfl⟩:=rx;exact SeqAt.EqAt.bool_str a b t
  | _=>exact absurd (show false=true from fx) Bool.false_ne_true
 | int a =>
  obtain ⟨t',rfl⟩:=ry
  cases x with
  | non=>cases rx;exact SeqAt.EqAt.int_none a t'
  | bl b=>cases rx;exact SeqAt.EqAt.int_bool a t' b
  | int b=>obtain ⟨t,rfl⟩:=rx;exact SeqAt.EqAt.int_int a t' b t
  | str b=>obtain ⟨t,rfl⟩:=rx;exact SeqAt.EqAt.int_str a t' b t
  | _=>exact absurd (show false=true from fx) Bool.false_ne_true
 | str a =>
  obtain ⟨t',rfl⟩:=ry
  cases x with
  | non=>cases rx;exact SeqAt.EqAt.str_none a t'
  | bl b=>cases rx;exact SeqAt.EqAt.str_bool a t' b
  | int b=>obtain ⟨t,rfl⟩:=rx;exact SeqAt.EqAt.str_int a t' b t
  | str b=>obtain ⟨t,rfl⟩:=rx;exact SeqAt.EqAt.str_str a t' b t
  | _=>exact absurd (show false=true from fx) Bool.false_ne_true
 | _=>exact absurd (show false=true from fy) Bool.false_ne_true
def eqU (x:V)(u:Value):Bool:=match u with
 | .none=>eqV .non x
 | .bool b=>eqV (.bl b) x
 | .int i _=>eqV (.int i) x
 | .str z _=>eqV (.str z) x
 | _=>false
theorem iV {x y:V}{u:Value}(r:Ba y u)(f:Jq y=true):eqU x u=eqV y x:=by
 cases y with
 | non=>cases r;rfl
 | bl b=>cases r;rfl
 | int i=>obtain ⟨t,rfl⟩:=r;rfl
 | str z=>obtain ⟨t,rfl⟩:=r;rfl
 | _=>exact absurd (show false=true from f) Bool.false_ne_true
theorem X7 {A:Around}{s:Shared}{x:V}{v:Value}(rx:Ba x v)(fx:Jq x=true):∀ {xs:List V} {us:List Value},Az xs us->xs.all Jq=true->∀ u∈us,SeqAt.EqAt A s u v (eqU x u)
 | _,_,.nil,_=>fun u hu=>by cases hu
 | y::xs,u::us,.cons r t,f=>fun u' hu=>by
  rw [List.all_cons,Bool.and_eq_true] at f;rcases List.mem_cons.mp hu with rfl | hu
  ·rw [iV r f.1];exact kN r rx f.1 fx
  ·exact X7 rx fx t f.2 u' hu
theorem Ar:Ep X (.builtin "len") (fun xs H Q=>∃ p ys,xs=[.ref p]/\(SqL X.K H p ys\/SqT X.K H p ys)/\Q (.int ys.length) H):=by
 intro pins s σ H xs us Q I r h;obtain ⟨p,ys,rfl,hq,q⟩:=h;obtain ⟨u,rfl,rx⟩:=E7 r;cases rx;have hn:=Jm;rcases hq with hq | hq
 ·obtain ⟨its,r',pl,hz⟩:=I.list hq
  have hlen:=r'.length;exact Calls.call_len_list pl.isList (by simp only [List.size_toArray]<;>omega) ⟨.int ys.length,H,I.tok _,⟨s.toks+1,by rw [List.size_toArray,hlen]⟩,q⟩
 ·obtain ⟨its,r',pl,hz⟩:=I.tuple hq
  have hlen:=r'.length;exact len_tuple pl (by simp only [List.size_toArray]<;>omega) ⟨.int ys.length,H,I.tok _,⟨s.toks+1,by rw [List.size_toArray,hlen]⟩,q⟩
theorem F3:Ep X (.builtin "len") (fun xs H Q=>∃ z,xs=[.str z]/\z.length<=sizeLine/\Q (.int z.length) H):=by
 intro pins s σ H xs us Q I r h;obtain ⟨z,rfl,hz,q⟩:=h;obtain ⟨u,rfl,t,rfl⟩:=E7 r;have hn:=Jm;exact len_str (by omega) ⟨.int z.length,H,I.tok _,⟨_,rfl⟩,q⟩
theorem F0:Ep X (.type "list") (fun xs H Q=>∃ p ys,xs=[.ref p]/\(SqL X.K H p ys\/SqT X.K H p ys)/\∀ l,H l=none->Q (.ref l) (upd H l (.lst ys))):=by
 intro pins s σ H xs us Q I r h;obtain ⟨p,ys,rfl,hq,q⟩:=h;obtain ⟨u,rfl,rx⟩:=E7 r;cases rx;have fin:∀ (its:List Value),Az ys its->ys.length<=sizeLine->∀ (h':Heap) (c':Nat),(∀ b o',s.heap.get? b=some o'->h'.get? b=some o') ->
   h'.get? s.heap.objs.size=some { cls:=.type "list",dict:=none,data:=.seq its.toArray c',slots:=#[] }->EP X pins σ Q (.ref s.heap.objs.size) { s with heap:=h' }:=fun its r' hz h' c' kp e =>
  ⟨.ref s.heap.objs.size,_,I.laid (t':=s.toks) kp (Nat.le_refl _) (show Cp X.prog X.w _ h' _ (.lst ys) from ⟨hz,its,c',r',e⟩),rfl,q _ (I.hok.fresh (Nat.le_refl _))⟩
 rcases hq with hq | hq
 ·obtain ⟨its,r',pl,hz⟩:=I.list hq
  have hlen:=r'.length;obtain ⟨o,ho,hc,n,hd⟩:=pl.isList;exact call_list_seq p (.inl rfl) ho hc hd (fun h' c' kp e=>fin its r' hz h' c' kp e) (by simp only [List.size_toArray]<;>omega)
 ·obtain ⟨its,r',pl,hz⟩:=I.tuple hq
  have hlen:=r'.length;obtain ⟨o,ho,hc,n,hd⟩:=pl;exact call_list_seq p (.inr rfl) ho hc hd (fun h' c' kp e=>fin its r' hz h' c' kp e) (by simp only [List.size_toArray]<;>omega)
theorem G1:Ep X (.type "tuple") (fun xs H Q=>∃ p ys,xs=[.ref p]/\((SqL X.K H p ys/\∀ l,H l=none->Q (.ref l) (upd H l (.tup ys)))\/(SqT X.K H p ys/\Q (.ref p) H))):=by
 intro pins s σ H xs us Q I r h;obtain ⟨p,ys,rfl,h⟩:=h;obtain ⟨u,rfl,rx⟩:=E7 r;cases rx;rcases h with ⟨hq,q⟩ | ⟨hq,q⟩
 ·obtain ⟨its,r',pl,hz⟩:=I.list hq
  have hlen:=r'.length;refine call_tuple_list pl.isList (fun h' kp=>?_) (by simp only [List.size_toArray]<;>omega)
  have I1:Inv X pins σ H { s with heap:=h' }:=I.kept (t':=s.toks) kp;have I2:Inv X pins σ (upd H h'.objs.size (.tup ys)) { s with heap:=h'.push { cls:=.type "tuple",data:=.seq its.toArray } } :=
   I1.laid (t':=s.toks) (fun b o e=>Heap.get?_push_of_some _ e) (Nat.le_refl _) (show Cp X.prog X.w _ _ _ (.tup ys) from ⟨hz,its,r',IsTup.new _ _⟩)
  exact ⟨.ref h'.objs.size,_,I2,rfl,q _ (I1.hok.fresh (Nat.le_refl _))⟩
 ·obtain ⟨its,r',pl,hz⟩:=I.tuple hq
  exact call_tuple_same pl ⟨.ref p,H,I,rfl,q⟩
def tyV (K:PySem.W.Frag)(T:String)(x:V)(H:Hp):Prop:=match x with
 | .str _=>T="str"
 | .int _=>T="int"
 | .ref p=>(T="list"/\∃ xs,SqL K H p xs)\/(T="tuple"/\∃ o,K.lookup p=some o/\o.cls=.type "tuple"/\o.dict=none) \/
   (T="dict"/\((∃ kvs,H p=some (.dK kvs))\/∃ kvs,H p=some (.dT kvs)))\/(T="set"/\∃ S n,H p=some (.set S n))
 | _=>False
theorem iT {pins:List (Addr×Obj)}{σ:St}{H:Hp}{s:Shared}{T:String}{x:V}{v:Value}(I:Inv X pins σ H s)(r:Ba x v)(ty:tyV X.K T x H) :
  s.TypeIs v T/\∀ a,v=.ref a->∃ ob,s.heap.get? a=some ob/\ob.dict=none:=by
 cases x with
 | str z =>
  obtain ⟨t,rfl⟩:=r;cases (show T="str" from ty);exact ⟨typeIs_str s z t,fun _ e=>nomatch e⟩
 | int i =>
  obtain ⟨t,rfl⟩:=r;cases (show T="int" from ty);exact ⟨typeIs_int s i t,fun _ e=>nomatch e⟩
 | ref p =>
  cases r;rcases ty with ⟨rfl,xs,hq⟩ | ⟨rfl,o,hk,hc,hd⟩ | ⟨rfl,hk⟩ | ⟨rfl,S,n,hk⟩
  ·obtain ⟨its,_,pl,_⟩:=I.list hq
   refine ⟨pl.isList.typeIs,fun a e=>?_⟩;cases e;obtain ⟨o,n,e,c,hd,_⟩:=pl;exact ⟨o,e,hd⟩
  ·refine ⟨⟨o,I.kIn p o hk,hc⟩,fun a e=>?_⟩
   cases e;exact ⟨o,I.kIn _ o hk,hd⟩
  ·have z:∃ o,s.heap.get? p=some o/\o.ExactDict:=by
    rcases hk with ⟨kvs,hk⟩ | ⟨kvs,hk⟩
    ·obtain ⟨_,_,_,_,o,_,_,e,ex,_⟩:=I.hok p _ hk
     exact ⟨o,e,ex⟩
    ·obtain ⟨_,_,_,_,o,_,_,e,ex,_⟩:=I.hok p _ hk
     exact ⟨o,e,ex⟩
   obtain ⟨o,e,ex⟩:=z;refine ⟨⟨o,e,ex.1⟩,fun a e2=>?_⟩;cases e2;exact ⟨o,e,ex.2.1⟩
  ·obtain ⟨o,_,_,_,e,ex,_⟩:=I.hok p _ hk
   refine ⟨⟨o,e,ex.1⟩,fun a e2=>?_⟩;cases e2;exact ⟨o,e,ex.2.1⟩
 | _=>exact False.elim ty
def wN (K:PySem.W.Frag)(T:String)(r:V->List V->Hp->VK->Prop)(to:TE):TE:=fun σ H Q=>to σ H fun x H1=>tyV K T x H1/\r x [] H1 Q
def tBM (K:PySem.W.Frag)(T:String)(r:V->List V->Hp->VK->Prop)(to:TE)(t:TA):TE:=fun σ H Q=>to σ H fun x H1=>tyV K T x H1/\t σ H1 fun xs H2=>r x xs H2 Q
variable {o e:Expr} {es:List Expr} {to:TE} {t:TA} {name:Str} {apos cpos:Pos} {T id:String} {r:V->List V->Hp->VK->Prop}
theorem Y1 (pa:PlainAttrs T)(slot:Slot T name id)(hty:typeOf (.builtin id)=pure (.type "method_descriptor"))(hm:MtR X id r)(ho:PE X o to)
  (hbase:attributeBase o name X.env (eval o X.env)=eval o X.env:=by rfl)(hline:(apos.endLine==cpos.line)=true:=by rfl):PE X (.Call (.Attribute o name apos) [] [] cpos) (wN X.K T r to):=by
 intro pins s σ H Q I h;refine wpAny_Call_method0_late hbase hline (thn (ho pins s σ H _ I h) fun v s1 ⟨x,H1,I1,r1,ty,q1⟩=>?_);obtain ⟨h1,h2⟩:=iT I1 r1 ty;exact ⟨T,id,pa,slot,hty,h1,h2,Calls.callWith_builtin rfl (PySem.evalArgs_none (hm pins s1 σ H1 x [] v [] Q I1 r1 .nil q1))⟩
theorem C3 (pa:PlainAttrs T)(slot:Slot T name id)(hty:typeOf (.builtin id)=pure (.type "method_descriptor"))(hm:MtR X id r)(ho:PE X o to)(ha:PA X (e::es) t)
  (hbase:attributeBase o name X.env (eval o X.env)=eval o X.env:=by rfl)
  (hfew:((backTo cpos (starEach (e::es) X.env)).all (fun x=>!x.1)&&(backToKw cpos (keywordEach [] X.env)).all (fun x=>x.1.isSome)
   && decide ((e::es).length+([]:List Keyword).length+(if ([]:List Keyword).isEmpty then 0 else 1)<30))=true:=by rfl)
  (hline:(apos.endLine==cpos.line)=true:=by rfl)(hs:starEach (e::es) X.env=(false,eval e X.env)::starEach es X.env:=by rfl)(hplain:(backTo cpos (starEach es X.env)).any (·.1)=false:=by rfl) :
  PE X (.Call (.Attribute o name apos) (e::es) [] cpos) (tBM X.K T r to t):=by
 intro pins s σ H Q I h;refine wpAny_Call_method_late hbase hfew hline rfl (thn (ho pins s σ H _ I h) fun v s1 ⟨x,H1,I1,r1,ty,q1⟩=>?_);obtain ⟨h1,h2⟩:=iT I1 r1 ty;refine ⟨T,id,pa,slot,hty,h1,h2,?_⟩;have hA:=ha cpos pins s1 σ H1 _ I1 q1;rw [hs] at hA ⊢;refine Calls.callWith_builtin (by show (false||(backTo cpos (starEach es X.env)).any (·.1))=false;rw [hplain]<;>rfl) (Calls.evalArgs_plain ?_)
 exact thn hA fun us s2 ⟨vs,H2,I2,r2,q2⟩=>hm pins s2 σ H2 x vs v us Q I2 r1 r2 q2
/- xs.append(e),list.index on a module's tuple .. are MtR facts of 06m -/
end
def MtM (X:Cx)(id:String)(r:V->List V->Hp->VK->Prop):Prop :=
 ∀ (pins:List (Addr×Obj)) (s:Shared) (σ:St) (H:Hp) (x:V) (xs:List V) (v:Value) (us:List Value) (Q:VK),Inv X pins σ H s->Ba x v->Az xs us->r x xs H Q ->
  wpAny (model X.prog X.w) X.A (call (.builtin id) (v::us)) (EP X pins σ Q) X.xe s
theorem Az.one:∀ {x:V} {us:List Value},Az [x] us->∃ u,us=[u]/\Ba x u
 | _,_,.cons r .nil=>⟨_,rfl,r⟩
theorem Az.zero:∀ {us:List Value},Az [] us->us=[]
 | _,.nil=>rfl
theorem Az.dropLast {xs:List V}{us:List Value}(h:Az xs us):Az xs.dropLast us.dropLast:=by
 induction h with
 | nil=>exact .nil
 | cons r t ih =>
  cases t with
  | nil=>exact .nil
  | cons q t'=>exact .cons r ih
theorem Az.rep {xs:List V}{us:List Value}(h:Az xs us):∀ k:Nat,Az (List.replicate k xs).flatten (List.replicate k us).flatten
 | 0=>.nil
 | k+1=>by
  rw [List.replicate_succ,List.replicate_succ,List.flatten_cons,List.flatten_cons];exact Az.append h (Az.rep h k)
theorem Zb {α:Type}(l:List α):l.eraseIdx (l.length-1)=l.dropLast:=by
 induction l with
 | nil=>rfl
 | cons a r ih =>
  cases r with
  | nil=>rfl
  | cons b r =>
   have e:(a::b::r).length-1=((b::r).length-1)+1:=by
    have h1:(a::b::r).length=r.length+2:=rfl;have h2:(b::r).length=r.length+1:=rfl;omega
   rw [e,List.eraseIdx_cons_succ,ih]
   all_goals rfl
theorem Th (its:List Value):∀ (k:Nat) (acc:List Value),
  List.foldl (fun x1 x2=>x1++x2) acc.toArray (List.replicate k its.toArray)=(acc++(List.replicate k its).flatten).toArray
 | 0,acc=>by simp
 | k+1,acc=>by
  have e:acc.toArray++its.toArray=(acc++its).toArray:=by simp
  have e2:(acc++its)++(List.replicate k its).flatten=acc++(List.replicate (k+1) its).flatten:=by
   rw [List.replicate_succ,List.flatten_cons,List.append_assoc]
  rw [<- e2,<- Th its k (acc++its),<- e,List.replicate_succ,List.foldl_cons]
section
variable {X:Cx} {pins:List (Addr×Obj)} {σ:St} {H:Hp} {s:Shared} {l b:Addr} {xs ys zs:List V}
theorem Inv.lset {its its':List Value}{n:Nat}{f:Array Value->Array Value}{t':Nat}(I:Inv X pins σ H s)(hH:H l=some (.lst xs))
  (e:s.heap.get? l=some { cls:=.type "list",data:=.seq its.toArray n })(hf:f its.toArray=its'.toArray)(hv:Az ys its')(hz:ys.length<=sizeLine) :
  Inv X pins σ (upd H l (.lst ys)) { s with heap:=s.heap.update l (Obj.mapSeq f),toks:=t' }:=by
 have q:=PySem.IsL.update e f;rw [hf] at q;refine I.write (x:=l) (e:=l) (by rw [hH];exact trivial) (.inl rfl) (fun b' u hb hu=>(Heap.get?_update_other s.heap (Obj.mapSeq f) (Ne.symm hb)).trans hu) ⟨_,q⟩ ?_;exact ⟨hz,its',_,hv,q⟩
theorem Inv.lnew {its:List Value}{t':Nat}(I:Inv X pins σ H s)(hv:Az ys its)(hz:ys.length<=sizeLine) :
  Inv X pins σ (upd H s.heap.objs.size (.lst ys)) { s with heap:=s.heap.push { cls:=.type "list",data:=.seq its.toArray },toks:=t' } :=
 I.laid (fun _ _ q=>Heap.get?_push_of_some _ q) (Nat.le_refl _) ⟨hz,its,0,hv,Heap.get?_push_size _ rfl⟩
theorem Inv.fresh (I:Inv X pins σ H s):H s.heap.objs.size=none:=I.hok.fresh (Nat.le_refl _)
theorem Inv.lstM (I:Inv X pins σ H s)(hH:H l=some (.lst xs)):xs.length<=sizeLine/\∃ (its:List Value) (n:Nat),Az xs its/\xs.length=its.length/\s.heap.get? l=some { cls:=.type "list",data:=.seq its.toArray n }:=by
 obtain ⟨z,its,n,r,e⟩:=I.hok l _ hH;exact ⟨z,its,n,r,r.length,e⟩
theorem X6 {n:Nat}(h:n<=sizeLine):Builtin.List.listTooLong n=false:=by
 unfold Builtin.List.listTooLong;exact decide_eq_false (by omega)
end
section
variable {X:Cx}
def cE:V->List V->Hp->VK->Prop:=fun x vs H Q=>∃ l xs y,x=.ref l/\vs=[y]/\H l=some (.lst xs)/\xs.length<sizeLine/\Q .non (upd H l (.lst (xs++[y])))
theorem Bv:MtM X "list.append" cE:=by
 intro pins s σ H x vs v us Q I rx rv h;obtain ⟨l,xs,y,rfl,rfl,hH,hz,q⟩:=h;cases rx;obtain ⟨u,rfl,ru⟩:=rv.one;obtain ⟨z,its,n,r,hl,e⟩:=I.lstM hH;refine call_meets F.slot_list_append ⟨_,e,rfl⟩ F.entry_list_append (F.args_list_append_2 _ _) (PySem.list_append l its.toArray n u (by rw [List.size_toArray];omega)) ⟨e,?_⟩;refine ⟨.non,_,I.lset (its':=its++[u]) hH e (by simp) (r.append (.cons ru .nil)) ?_,rfl,q⟩;rw [List.length_append,List.length_singleton];omega
def nK:V->List V->Hp->VK->Prop:=fun x vs H Q=>∃ l b xs zs,x=.ref l/\vs=[.ref b]/\H l=some (.lst xs)/\H b=some (.lst zs)/\xs.length+zs.length<=sizeLine/\Q .non (upd H l (.lst (xs++zs)))
theorem dR:MtM X "list.extend" nK:=by
 intro pins s σ H x vs v us Q I rx rv h;obtain ⟨l,b,xs,zs,rfl,rfl,hH,hB,hz,q⟩:=h;cases rx;obtain ⟨u,rfl,ru⟩:=rv.one;cases ru;obtain ⟨z,its,n,r,hl,e⟩:=I.lstM hH;obtain ⟨z2,its2,n2,r2,hl2,e2⟩:=I.lstM hB;have hsz:its.toArray.size+its2.toArray.size<=sizeLine:=by rw [List.size_toArray,List.size_toArray];omega
 have hlong:¬ (!its.toArray.isEmpty&&Builtin.List.listTooLong (its.toArray.size+its2.toArray.size))=true:=by
  rw [X6 hsz,Bool.and_false];exact Bool.false_ne_true
 refine call_meets F.slot_list_extend ⟨_,e,rfl⟩ F.entry_list_extend (F.args_list_extend_2 _ _)
  (AutoSeq1.list_extend_list_list_0 l its.toArray n b its2.toArray n2 hlong (by rw [List.size_toArray];omega) (by omega)) ⟨e,e2,?_⟩
 refine ⟨.non,_,I.lset (its':=its++its2) hH e (by simp) (r.append r2) ?_,rfl,q⟩;rw [List.length_append];omega
def xD:V->List V->Hp->VK->Prop:=fun x vs H Q=>∃ l xs y,x=.ref l/\vs=[]/\H l=some (.lst xs)/\xs[xs.length-1]?=some y/\Q y (upd H l (.lst xs.dropLast))
theorem iX:MtM X "list.pop" xD:=by
 intro pins s σ H x vs v us Q I rx rv h;obtain ⟨l,xs,y,rfl,rfl,hH,hy,q⟩:=h;cases rx;have hus:=rv.zero;subst hus;obtain ⟨z,its,n,r,hl,e⟩:=I.lstM hH;obtain ⟨u,hu,ru⟩:=r.get hy;have hy':its.toArray[its.toArray.size-1]?=some u:=by
  show its.toArray[its.length-1]?=some u;rw [<- Array.getElem?_toList,<- hl];exact hu
 refine call_meets F.slot_list_pop ⟨_,e,rfl⟩ F.entry_list_pop (F.args_list_pop_1 _) (MeetsSeq.list_pop_last l its.toArray n u hy' (by rw [List.size_toArray];omega)) ⟨e,?_⟩;refine ⟨y,_,I.lset (its':=its.dropLast) hH e ?_ r.dropLast ?_,ru,q⟩
 ·show its.toArray.eraseIdxIfInBounds (its.toArray.size-1)=its.dropLast.toArray
  rw [List.size_toArray,List.eraseIdxIfInBounds_toArray,Zb]
 ·rw [List.length_dropLast]
  omega
def qX:V->List V->Hp->VK->Prop:=fun x vs H Q=>∃ l xs,x=.ref l/\vs=[]/\H l=some (.lst xs)/\Q .non (upd H l (.lst []))
theorem gR:MtM X "list.clear" qX:=by
 intro pins s σ H x vs v us Q I rx rv h;obtain ⟨l,xs,rfl,rfl,hH,q⟩:=h;cases rx;have hus:=rv.zero;subst hus;obtain ⟨z,its,n,r,hl,e⟩:=I.lstM hH;refine call_meets F.slot_list_clear ⟨_,e,rfl⟩ F.entry_list_clear (F.args_list_clear_1 _) (AutoSeq1.list_clear_list_0 l its.toArray n (by rw [List.size_toArray];omega)) ⟨e,?_⟩;exact ⟨.non,_,I.lset (its':=[]) (ys:=[]) hH e rfl .nil (Nat.zero_le _),rfl,q⟩
def xJ:R2:=fun x y H Q=>∃ l b xs zs,x=.ref l/\y=.ref b/\H l=some (.lst xs)/\H b=some (.lst zs)/\xs.length+zs.length<=sizeLine/\∀ p,H p=none->Q (.ref p) (upd H p (.lst (xs++zs)))
theorem Gz:OpR X (binaryOp .Add) xJ:=by
 intro pins s σ H x y v u Q I rx ry h;obtain ⟨l,b,xs,zs,rfl,rfl,hH,hB,hz,q⟩:=h;cases rx;cases ry;obtain ⟨z,its,n,r,hl,e⟩:=I.lstM hH;obtain ⟨z2,its2,n2,r2,hl2,e2⟩:=I.lstM hB;refine PySem.P.add_list e e2 ?_ (by rw [List.size_toArray,List.size_toArray];omega);have ea:its.toArray++its2.toArray=(its++its2).toArray:=by simp
 rw [ea];exact ⟨.ref _,_,I.lnew (t':=s.toks) (r.append r2) (by rw [List.length_append];omega),rfl,q _ I.fresh⟩
def xM:R2:=fun x y H Q=>∃ l k xs,x=.ref l/\y=.int k/\H l=some (.lst xs)/\-(2 ^ 63)<=k/\k<2 ^ 63/\xs.length*k.toNat<=sizeLine /\
 ∀ p,H p=none->Q (.ref p) (upd H p (.lst (List.replicate k.toNat xs).flatten))
theorem cV {α:Type}(xs:List α)(k:Nat):(List.replicate k xs).flatten.length=k*xs.length:=by
 induction k with
 | zero=>simp
 | succ k ih=>rw [List.replicate_succ,List.flatten_cons,List.length_append,ih,Nat.succ_mul,Nat.add_comm]
theorem J2:OpR X (binaryOp .Mult) xM:=by
 intro pins s σ H x y v u Q I rx ry h;obtain ⟨l,k,xs,rfl,rfl,hH,h1,h2,hz,q⟩:=h;cases rx;obtain ⟨t,rfl⟩:=ry;obtain ⟨z,its,n,r,hl,e⟩:=I.lstM hH;have hlen:its.toArray.size*k.toNat<=sizeLine:=by rw [List.size_toArray,<- hl];exact hz
 have hcap:¬ its.toArray.size*k.toNat>(2 ^ 63-1)/8:=by
  have:(sizeLine:Nat)<=(2 ^ 63-1)/8:=by decide
  omega
 have hfit:¬ (!Builtin.List.listFitsIndex k)=true:=by
  rw [fitsIndex_both h1 h2];exact Bool.false_ne_true
 have hlong:¬ Builtin.List.listTooLong (its.toArray.size*k.toNat)=true:=by
  rw [X6 hlen];exact Bool.false_ne_true
 have hnew:List.foldl (fun x1 x2=>x1++x2) #[] (List.replicate (if its.toArray.isEmpty=true then 0 else k.toNat) its.toArray)=(List.replicate k.toNat its).flatten.toArray:=by
  have f0:∀ m:Nat,List.foldl (fun x1 x2=>x1++x2) #[] (List.replicate m its.toArray)=(List.replicate m its).flatten.toArray:=fun m=>by
   have:=Th its m [];rw [List.nil_append] at this;exact this
  rw [f0]
  cases its with
  | nil=>simp
  | cons a r'=>rw [if_neg (by simp)]
 refine wpAny_binaryOp_repeat_ref (T:="list") (U:="int") (by decide) ⟨_,e,rfl⟩ (fun s'=>typeIs_int s' k t) noFill_list_mul F.fills_int_mul F.slot_int_rmul repeat_list F.slot_int_index.lookup
  (call_meets F.slot_int_rmul (typeIs_int s k t) F.entry_int_rmul (F.args_int_rmul_2 _ _) (int___rmul___int_list k t l its.toArray n)
   ⟨e,rfl,⟨_,e,rfl⟩,call_meets F.slot_list_mul ⟨_,e,rfl⟩ F.entry_list_mul (F.args_list_mul_2 _ _) (AutoListH.list___mul___list_int_3 l its.toArray n k t hfit hcap hlong) ⟨e,?_⟩⟩)
 rw [hnew];exact ⟨.ref _,_,I.lnew (t':=s.toks) (r.rep k.toNat) (by rw [cV,Nat.mul_comm];exact hz),rfl,q _ I.fresh⟩
end
end L2
namespace Att
open PySem PySem.W PySem.Calls PyProof.Rows
theorem Op {P:Params}{h:Heap}:∀ (ns:List Int) (vs:List Value),WellAll P h vs (ns.map WData.int)->IntsAre vs ns:=by
 intro ns
 induction ns with
 | nil =>
  intro vs w;rw [List.map_nil] at w;cases w;exact .nil
 | cons n ns ih =>
  intro vs w;rw [List.map_cons] at w
  cases w with
  | cons a b =>
   cases a;exact .cons _ _ (ih _ b)
theorem eY {l:OpenLaw}{n:Nat}(hn:l.most=some n){P:Params}{h:Heap}{args:List WData}{vals:List Value}
    (hpre : l.row.toRowW.claim.pre args = true)(hwl : WellAll P h vals args) :
    ∃ a vs ns, vals = [Value.ref a]/\args = [WData.list (ns.map WData.int)]/\h.get? a = some { cls := .type "list", data := .seq vs.toArray }/\IntsAre vs ns/\ns.length <= n := by
  have hsh : WShape.hasAll [] args [.list .int] = true := (pre_splitW hpre).1;have hc : l.pre.holds [] { args := args } = true := (pre_splitW hpre).2;obtain ⟨d, r, rfl, h1, h2⟩ := hasAllW_cons hsh;obtain rfl := hasAllW_nil h2;obtain ⟨xs, rfl, h3⟩ := hasW_list h1;obtain ⟨ns, rfl⟩ := items_int h3;have hlen : ns.length <= n := by
    unfold OpenLaw.pre at hc;have h4 : (WTm.not (.lt (.lit (.int (n : Int))) (.len (.arg 0)))).holds [] { args := [.list (ns.map .int)] } = true := by
      have h4 := (holds_andW hc).1;rw [hn] at h4;exact h4
    have h5 := condW_of h4 (w_not (w_lt w_lit (w_len_list (w_arg rfl))));rw [List.length_map] at h5;refine Nat.le_of_not_lt fun q => ?_;have q' : (n : Int) < ((ns.length : Nat) : Int) := by omega
    first
      | (rw [decide_eq_true q'] at h5; exact absurd h5 (by decide))
      | (simp at h5; omega)
  cases hwl with
  | cons w1 w2 =>
    cases w2
    cases w1 with
    | list ho hall => exact ⟨_, _, ns, rfl, rfl, ho, Op ns _ hall, hlen⟩
theorem fI (l:OpenLaw)(args:List WData):l.row.toRowW.claim.post args (.bool true) args=true :=
 postW_of (r:=l.row.toRowW) (X:=(true==true))
  (show WShape.has [] (.bool true) .bool=true by first | rfl | decide | simp [WShape.has,WShape.arms,WShape.armsAll])
  (show (WTm.eq .res (.lit (.bool true))).value [] { args:=args,res:=some (.bool true),after:=args }=some (.bool (true==true)) from w_eq_bool (w_res rfl) w_lit) rfl
theorem attach_call {l:OpenLaw}{n:Nat}{q:Program}{loose:List Str}{XP:(Str->Option Value)->Heap->Prop}{YP:World->Heap->Prop}{d:DefRec}
  (hn:l.most=some n)(hdf:d.params.defaults=[])
  (call:∀ (w:World) (s₀ s₁:Shared) (mg mb:Str->Option Value) (fa:Addr) (o:Obj) (pm cd doc:Value) (a:Addr) (vs:List Value) (ns:List Int),
   Ground q loose [] XP w s₀ mg mb s₁.heap->YP w s₁.heap ->
   s₁.heap.get? fa=some o->o.data=.func (docDef d.name d.params d.body d.scope pm cd doc)->s₁.heap.CodeRec cd d.name->mg d.name=some (.ref fa) ->
   s₁.heap.get? a=some { cls:=.type "list",data:=.seq vs.toArray }->IntsAre vs ns->ns.length<=n->s₁.gens=#[] ->
   codeAny (model l.prog w) callerA (.call (.ref fa) ⟨[.ref a],[]⟩) (fun r s'=>r=.ok (.ret (.bool true))/\OldK s₁.heap s'.heap/\s'.os=s₁.os/\AllBare s'.gens) s₁) :
  WalkO q loose XP YP l.row.toRowW d [] (fun f vs=>PySem.call f vs):=by
 intro w s₀ s₁ mg mb G Y fa o pm cd doc dV kV ho hd hcd hD hmg hg args vals as hpre hlay hrd hwl hlo;obtain rfl:dV=.none:=Dflts.none hD hdf;obtain rfl:kV=.none:=Dflts.noKw hD;obtain ⟨a,vs,ns,rfl,rfl,hobj,hints,hlen⟩:=eY hn hpre hwl;refine enter_call (codeAny_mono (call w s₀ s₁ mg mb fa o pm cd doc a vs ns G Y ho (fd_plain hd) hcd hmg hobj hints hlen hg) fun r s' hq=>?_);obtain ⟨rfl,h2,h3,h4⟩:=hq;exact ⟨.inl ⟨.bool true,.bool true,[],rfl,fun _=>rfl,.bool true,fI l _,fun _=>⟨List.Pairwise.nil,fun _ hm=>(nomatch hm)⟩⟩,h2,h3,h4⟩
section
variable {prog:Program} {w:World} {A:Around} {E:Value->Shared->Prop} {s:Shared} {K:Frag}
end
end Att
namespace L2
open PySem PySem.Spec PyProof.Rows
theorem Kl:∀ {vs:List Value} {ns:List Int},IntsAre vs ns->Az (ns.map V.int) vs
 | _,_,.nil=>.nil
 | _,_,.cons n t h=>.cons ⟨t,rfl⟩ (Kl h)
def B7 (s:Stmt)(j:Nat):Stmt:=match s with
 | .ClassDef _ _ _ body _ _ _ _ _ _ _=>body.getD j (.Pass ⟨0,0,0,0⟩)
 | _=>.Pass ⟨0,0,0,0⟩
def Bw (s:Stmt):Arguments:=match s with
 | .FunctionDef _ a _ _ _ _ _ _ _ _=>a
 | _=>{ posonlyargs:=[],args:=[],vararg:=none,kwonlyargs:=[],kw_defaults:=[],kwarg:=none,defaults:=[] }
def Bl (s:Stmt):List Stmt:=match s with
 | .FunctionDef _ _ b _ _ _ _ _ _ _=>b
 | _=>[]
def Ad (s:Stmt):Scope:=match s with
 | .FunctionDef _ _ _ _ _ _ sc _ _ _=>sc
 | _=>{ kind:=.function,names:=[],isGenerator:=false,isCoroutine:=false }
abbrev CX0:CXT:=fun _ _ _ _ _ _=>False
abbrev E0:XK:=fun _ _ _=>False
theorem dC {X:Cx}:Id CX0 X E0:=fun _ _ _ _ _ _ _ h=>h.elim
structure Fun (K:PySem.W.Frag) (x qual:Str) (st:Stmt) (f:Addr) (fd:FuncData):Prop where
 ex:∃ (oc:Value) (od:Option Addr) (kV doc pm:Value) (an:Option Addr) (cdv ct:Value) (osl:Array (Option Value)),
  fd=PySem.W.fnOf x qual (Bw st) (Bl st) (Ad st) .none kV doc pm an cdv ct/\K.lookup f=some ⟨oc,od,.func fd,osl⟩/\PySem.W.codeIn K cdv qual=true
 kp:PySem.W.keepIn K (.ref f)=true
section
variable {P:Program} {w:World} {K:PySem.W.Frag} {mg:Str->Option Value} {base:Heap}
theorem Fun.ok {x qual:Str}{st:Stmt}{f:Addr}{fd:FuncData}{N ps:List Str}{k:Nat}{sp:Sp}(F:Fun K x qual st f fd)(S:An N ps (Ad st))(len:∀ vs H Q E,sp vs H Q E->vs.length=ps.length)
  (hbody:∀ (cdv:Value) (A:Around) (outer:List Env) (s:Shared) (H:Hp) (vs:List V) (Q:VK) (E:XK),Cr k (A.deeper (envOfC qual (Ad st) s.heap.objs.size f cdv))->sp vs H Q E ->
   ∃ t,PSs (X9 CX0 P w K mg base N qual (Ad st) f cdv A outer s H E).nox (Bl st) t/\t { nx:=fun _ H'=>Q .non H',rt:=Q } (Lc N vs) H):A4 P w K mg base CX0 (k+1) f fd ps sp:=by
 obtain ⟨oc,od,kV,doc,pm,an,cdv,ct,osl,rfl,lk,hcd⟩:=F.ex;refine jY lk hcd S len fun A outer s H vs Q E hr hsp=>?_;obtain ⟨t,h,q⟩:=hbody cdv A outer s H vs Q E hr hsp;exact ⟨t,h.nox,q⟩
theorem Fun.binds {x qual:Str}{st:Stmt}{f:Addr}{fd:FuncData}{ps:List Str}(F:Fun K x qual st f fd)
  (h:∀ (kV doc pm:Value) (an:Option Addr) (cdv ct:Value) (us:List Value),us.length=ps.length->bindArgs (PySem.W.fnOf x qual (Bw st) (Bl st) (Ad st) .none kV doc pm an cdv ct) ⟨us,[]⟩=pure (ps.zip us)):E1 K fd ps []:=by
 obtain ⟨oc,od,kV,doc,pm,an,cdv,ct,osl,rfl,lk,hcd⟩:=F.ex;exact .all (h kV doc pm an cdv ct)
theorem fZ {x qual:Str}{st:Stmt}{f:Addr}{oc:Value}{od an:Option Addr}{osl:Array (Option Value)}{kV doc pm cdv ct:Value}(l:K.lookup f=some ⟨oc,od,.func (PySem.W.fnOf x qual (Bw st) (Bl st) (Ad st) .none kV doc pm an cdv ct),osl⟩)
  (c:PySem.W.codeIn K cdv qual=true)(k:PySem.W.keepIn K (.ref f)=true):Fun K x qual st f (PySem.W.fnOf x qual (Bw st) (Bl st) (Ad st) .none kV doc pm an cdv ct):=⟨⟨oc,od,kV,doc,pm,an,cdv,ct,osl,rfl,l,c⟩,k⟩
end
theorem Ek {n:Nat}(h:n<=1000):n<sizeLine:=Nat.lt_of_le_of_lt h (by decide)
section
variable {X:Cx}
theorem pv (i:Nat){x:Str}{pos:Pos}(hN:X.N[i]?=some x:=by rfl)(hv:Vis X.env.scope x:=by first | exact Or.inl rfl | exact Or.inr (Or.inl rfl) | exact Or.inr (Or.inr rfl))(hd:(x==("__debug__":Str))=false:=by decide)
  (hcd:(x==("__classdict__":Str))=false:=by decide):PE X (.Name x pos) (nZ i):=kK hN hv hd hcd
end
theorem xI {A B:Prop}(h:B):if false=true then A else B:=by
 rw [if_neg Bool.false_ne_true];exact h
theorem xC {A B:Prop}(h:A):if true=true then A else B:=by
 rw [if_pos rfl];exact h
def Am (H H':Hp):Prop:=∀ b o,H b=some o->H' b=some o
theorem Am.refl (H:Hp):Am H H:=fun _ _ h=>h
theorem Am.trans {H H1 H2:Hp}(a:Am H H1)(b:Am H1 H2):Am H H2:=fun c o h=>b c o (a c o h)
theorem Am.free {H H':Hp}(e:Am H H'){l:Addr}(h:H' l=Option.none):H l=Option.none:=by
 cases q:H l with
 | none=>rfl
 | some o =>
  rw [e l o q] at h;cases h
theorem Am.seq {K:PySem.W.Frag}{H H':Hp}{a:Addr}{xs:List V}(e:Am H H')(h:SqL K H a xs):SqL K H' a xs:=by
 rcases h with (h | ⟨o,h⟩) | h
 ·exact .inl (.inl (e _ _ h))
 ·exact .inl (.inr ⟨o,e _ _ h⟩)
 ·exact .inr h
end L2
section
namespace L2
open PySem PySem.Spec PyProof.Rows
section
variable {prog:Program} {w:World} {A:Around} {R:Result->Shared->Prop} {s:Shared}
def bT (ifs:List Expr)(env:Env):Sem Bool :=
 forIn ifs true fun c r=>if r=true then do let ok <- isTrue c env (eval c env);pure (ForInStep.yield ok) else pure (ForInStep.yield r)
theorem bU {elt tg iter:Expr}{ifs:List Expr}{scope:Scope}{pos:Pos}{it acc:Value}{env:Env}(J:Nat->Shared->Prop)
  (turn:∀ n s,J n s->wpAny (model prog w) A (pyNext it) (fun r s1=>match r with
   | none=>R (.ok .next) s1
   | some v=>wpAny (model prog w) A (letOwnedTupleGo tg it v) (fun _ s2=>wpAny (model prog w) A (assign tg env v) (fun _ s3=>wpAny (model prog w) A (bT ifs env) (fun ok s4 =>
     if ok=true then wpAny (model prog w) A (eval elt env) (fun x s5=>wpAny (model prog w) A (call (.builtin "list.append") [acc,x]) (fun _ s6=>∃ m,m<n/\J m s6) (fun _ _=>False) s5) (fun _ _=>False) s4
     else ∃ m,m<n/\J m s4) (fun _ _=>False) s3) (fun _ _=>False) s2) (fun _ _=>False) s1) (fun _ _=>False) s)
  (n:Nat)(h:J n s):codeAny (model prog w) A (.compLoop (.ListComp elt [⟨tg,iter,ifs,0⟩] scope pos) 0 it acc env) R s:=by
 refine codeAny_loop rfl J (fun n s hJ=>?_) n h;show wpAny _ A (Sem.onRaise (compTurn (.ListComp elt [⟨tg,iter,ifs,0⟩] scope pos) 0 it acc env) _) _ _ s;refine wpAny_noted ?_;rw [compTurn_list];refine wpAny_bind (wpAny_standAt (wpAny_bind (wpAny_mono (turn n s hJ) (fun r s1 h1=>?_) (fun _ _ z=>z.elim))))
 cases r with
 | none=>exact wpAny_pure h1
 | some v =>
  refine wpAny_bind (wpAny_mono h1 (fun _ s2 h2=>wpAny_bind (wpAny_mono h2 (fun _ s3 h3=>wpAny_bind (wpAny_mono h3 (fun ok s4 h4=>?_) (fun _ _ z=>z.elim))) (fun _ _ z=>z.elim))) (fun _ _ z=>z.elim))
  cases ok with
  | false=>exact wpAny_pure ⟨rfl,h4⟩
  | true=>exact wpAny_bind (wpAny_bind (wpAny_mono h4 (fun x s5 h5=>wpAny_bind (wpAny_mono h5 (fun _ s6 h6=>wpAny_pure (wpAny_pure ⟨rfl,h6⟩)) (fun _ _ z=>z.elim))) (fun _ _ z=>z.elim)))
end
def Do (env:Env):List (Str×NameKind)->List (Str×Addr)->List (Str×Addr)
 | [],cs=>cs
 | y::r,cs=>if y.2=.free then Do env r ((y.1,(env.cells.lookup y.1).getD 0)::cs) else Do env r cs
theorem Vr {env:Env}(f:Str×NameKind->List (Str×Addr)->Sem (ForInStep (List (Str×Addr))))
  (h1:∀ y cs c,y.2=.free->env.cells.lookup y.1=some c->f y cs=pure (.yield ((y.1,c)::cs)))(h2:∀ y cs,y.2≠.free->f y cs=pure (.yield cs)) :
  ∀ (ns:List (Str×NameKind)) (cs:List (Str×Addr)),(∀ y∈ns,y.2=.free->∃ c,env.cells.lookup y.1=some c)->forIn ns cs f=(pure (Do env ns cs):Sem (List (Str×Addr)))
 | [],cs,_=>by simp [Do]
 | y::r,cs,h=>by
  have hr:∀ z∈r,z.2=.free->∃ c,env.cells.lookup z.1=some c:=fun z hz=>h z (List.mem_cons_of_mem _ hz);rw [List.forIn_cons]
  by_cases hy:y.2=.free
  ·obtain ⟨c,hc⟩:=h y List.mem_cons_self hy
   rw [h1 y cs c hy hc];simp only [Do,if_pos hy,hc,Option.getD_some];exact Vr f h1 h2 r _ hr
  ·rw [h2 y cs hy]
   simp only [Do,if_neg hy];exact Vr f h1 h2 r _ hr
theorem Ij {scope:Scope}{env:Env}(h:∀ y∈scope.names,y.2=.free->∃ c,env.cells.lookup y.1=some c):closureFor scope env=pure (Do env scope.names []):=by
 unfold closureFor;dsimp only;rw [Vr (env:=env) _ (fun y cs c hy hc=>?_) (fun y cs hy=>?_) scope.names [] h]
 ·rfl
 ·obtain ⟨n,k⟩:=y
  dsimp only at hy hc ⊢;subst hy;simp only [cellOf,hc,beq_self_eq_true,if_true];rfl
 ·obtain ⟨n,k⟩:=y
  have e:(k==NameKind.free)=false:=by simpa using hy
  simp only [e,Bool.false_eq_true,if_false]
theorem Hk {env:Env}:∀ (ns:List (Str×NameKind)) (cs:List (Str×Addr)) (x:Str) (c:Addr),(∀ y∈ns,y.2=.free->∃ c,env.cells.lookup y.1=some c) ->
  (∀ z d,cs.lookup z=some d->env.cells.lookup z=some d)->(Do env ns cs).lookup x=some c->env.cells.lookup x=some c
 | [],cs,x,c,_,hc,h=>hc x c h
 | y::r,cs,x,c,hy,hc,h=>by
  have hr:∀ z∈r,z.2=.free->∃ c,env.cells.lookup z.1=some c:=fun z hz=>hy z (List.mem_cons_of_mem _ hz);unfold Do at h;split at h
  ·rename_i hk
   obtain ⟨d,hd⟩:=hy y List.mem_cons_self hk;rw [hd] at h;refine Hk r _ x c hr (fun z e hz=>?_) h;rw [List.lookup_cons] at hz;split at hz
   ·rename_i hzy
    cases hz;rw [eq_of_beq hzy];exact hd
   ·exact hc z e hz
  ·exact Hk r _ x c hr hc h
theorem Lq {env:Env}:∀ (ns:List (Str×NameKind)) (cs:List (Str×Addr)) (x:Str),(cs.lookup x).isSome=true->((Do env ns cs).lookup x).isSome=true
 | [],_,_,h=>h
 | y::r,cs,x,h=>by
  unfold Do;split
  ·refine Lq r _ x ?_
   rw [List.lookup_cons];split
   ·rfl
   ·exact h
  ·exact Lq r _ x h
theorem Eo {env:Env}:∀ (ns:List (Str×NameKind)) (cs:List (Str×Addr)) (x:Str),(x,NameKind.free)∈ns->((Do env ns cs).lookup x).isSome=true
 | [],_,_,h=>by simp at h
 | y::r,cs,x,h=>by
  rcases List.mem_cons.mp h with e | e
  ·subst e
   unfold Do;rw [if_pos rfl];exact Lq r _ x (by simp)
  ·unfold Do
   split
   ·exact Eo r _ x e
   ·exact Eo r _ x e
theorem Io {scope:Scope}{env:Env}{x:Str}{k:NameKind}(h:(relabel scope env).names.lookup x=some k):(x,k)∈scope.names\/((x,NameKind.free)∈scope.names/\k=NameKind.cell):=by
 have m:=PySem.mem_of_lookup h;obtain ⟨⟨n,k'⟩,hm,e⟩:=List.mem_map.mp m;dsimp only at e;split at e
 ·rename_i hk
  cases e;simp only [Bool.and_eq_true,beq_iff_eq] at hk;rw [hk.1.1] at hm;exact .inr ⟨hm,rfl⟩
 ·cases e
  exact .inl hm
theorem Lw {scope:Scope}{env:Env}(hk:env.scope.kind=.function){x:Str}(hx:env.kindOf x=some .cell)(h:scope.names.lookup x=some .free):(relabel scope env).names.lookup x=some .cell:=by
 unfold relabel;show (scope.names.map _).lookup x=some NameKind.cell;generalize scope.names=ns at h
 induction ns with
 | nil=>simp at h
 | cons y r ih =>
  obtain ⟨n,k⟩:=y;rw [List.lookup_cons] at h;rw [List.map_cons];split at h
  ·rename_i hn
   cases h;rw [<- eq_of_beq hn];simp [hk,hx]
  ·rename_i hn
   dsimp only;split
   ·rw [List.lookup_cons,hn];exact ih h
   ·rw [List.lookup_cons,hn];exact ih h
def Dm (X:Cx)(scope:Scope)(N:List Str)(C:Addr)(s:Shared)(H:Hp)(fp:List Addr):Cx :=
 { X with N:=N,s₀:=s,H₀:=H,env:=compEnvC scope (Do X.env scope.names []) C X.env,outer:=X.stack,ex:=fp,fn:=fun _=>false,pn:=[],xe:=fun _ _=>False }
structure Bg (N₀:List Str) (sc₀ sc:Scope) (x:Str) (N:List Str) (ix:List Nat):Prop where
 kind:sc.kind=.function
 nocell:∀ y∈sc.names,y.2≠.cell
 names:∀ y∈sc.names,y.2=.local->sc.names.lookup y.1=some .local
 free:∀ y∈sc.names,y.2=.free->sc₀.names.lookup y.1=some .cell
 nd:N.Nodup
 hd:N.head?=some x
 loc:sc.names.lookup x=some .local
 len:N.length=ix.length+1
 at_:∀ p∈N.tail.zip ix,N₀[p.2]?=some p.1/\sc.names.lookup p.1=some .free
def frV (σ:St)(ix:List Nat):St:=ix.map fun j=>(σ[j]?).getD none
def PIf (X:Cx)(ifs:List Expr)(t:TT):Prop :=
 ∀ (pins:List (Addr×Obj)) (s:Shared) (σ:St) (H:Hp) (Q:Bool->Hp->Prop),Inv X pins σ H s->t σ H Q->wpAny (model X.prog X.w) X.A (bT ifs X.env) (TP X pins σ Q) X.xe s
def rY:TT:=fun _ H Q=>Q true H
theorem Ct {X:Cx}:PIf X [] rY:=fun pins s σ H Q I h=>wpAny_tests_nil ⟨H,I,h⟩
theorem cS {X:Cx}{c:Expr}{t:TT}(h:PT X c t):PIf X [c] t:=fun pins s σ H Q I hw=>wpAny_tests_one (h pins s σ H Q I hw)
def N4 (J:It)(H1:Hp)(fr:St)(tc:TT)(te:TE)(Q:VK):Prop:=∀ D,H1 D=none->∃ W:Nat->Nat->Hp->Prop,(∃ m,W 0 m (upd H1 D (.lst [])))/\∀ i m H,W i m H ->
 (J.stop i H/\Q (.ref D) H)\/(J.go i H/\∀ x H',J.yld i H x H'->tc (some x::fr) H' fun b H3 =>
  if b=true then te (some x::fr) H3 fun y H4=>∃ ys,H4 D=some (.lst ys)/\ys.length<sizeLine/\∃ m',m'<m/\W (i+1) m' (upd H4 D (.lst (ys++[y]))) else ∃ m',m'<m/\W (i+1) m' H3)
def tLc (wi:TI)(ix:List Nat)(tc:TT)(te:TE):TE:=fun σ H Q=>wi σ H fun J H1=>N4 J H1 (frV σ ix) tc te Q
section
variable {X:Cx} {scope:Scope} {N:List Str} {ix:List Nat} {x:Str} {px:Pos} {elt iter:Expr} {ifs:List Expr} {tc:TT} {te:TE} {pos:Pos}
theorem uQ {pins:List (Addr×Obj)}{σ:St}{H2:Hp}{s2:Shared}{J:It}{fp:List Addr}{it:Addr}{tn:Nat->Heap->Prop}{tg:Expr}(L:Bg X.N X.env.scope scope x N ix)(I2:Inv X pins σ H2 s2)
  (T:Ps X.prog X.w X.K tg J fp it tn)(st2:tn 0 s2.heap)(f2:∀ b∈fp,Mc X pins H2 b){C:Addr}{s3 s4:Shared}{H3:Hp}(I3:Inv X pins σ H3 s3)(I4:Inv X pins σ H3 s4)(hle:s2.heap.objs.size<=s3.heap.objs.size)
  (hC:C=s3.heap.objs.size)(ho:s4.os=s3.os)(kp:∀ b u,s3.heap.get? b=some u->s4.heap.get? b=some u){m:Str->Option Value}(hns:s4.heap.Ns C m):Inv (Dm X scope N C s3 H3 fp) [] (none::frV σ ix) H3 s4:=by
 have hfree:∀ y∈scope.names,y.2=.free->∃ c,X.env.cells.lookup y.1=some c:=fun y hy hf=>I2.ok.has y.1 (.inl (L.free y hy hf));have sub:∀ y c,(Do X.env scope.names []).lookup y=some c->X.env.cells.lookup y=some c:=fun y c h=>Hk _ _ y c hfree (fun _ _ z=>by simp at z) h;have lt2:∀ b∈fp,b<s2.heap.objs.size:=fun b hb=>by obtain ⟨o,e,_⟩:=T.obj _ _ st2 b hb;exact Heap.lt_size e
 have okY:(Dm X scope N C s3 H3 fp).Ok:=by
  refine ⟨I2.ok.mod,L.kind,I2.ok.glob,I2.ok.blt,Nat.le_of_eq hC.symm,fun y z c h1 h2=>I2.ok.inj y z c (sub y c h1) (sub z c h2),fun y hy=>?_,fun y c z _=>?_,I2.ok.hd,I2.ok.frames,.inl rfl,fun b hb=>⟨?_,fun y c h=>(f2 b hb).2.2.2.2.1 y c (sub y c h)⟩,
   I3.bs,Nat.le_trans I3.ok.bsz I3.sz,fun b o e hb=>?_,fun b hb z=>?_,I3.stack,I3.stkFree⟩
  ·have hk:(y,NameKind.free)∈scope.names:=by
    rcases hy with hy | hy
    ·rcases Io hy with q | q
     ·exact absurd rfl (L.nocell _ q)
     ·exact q.1
    ·rcases Io hy with q | q
     ·exact q
     ·exact absurd q.2 (by decide)
   exact Option.isSome_iff_exists.mp (Eo _ _ y hk)
  ·cases (show false=true from z)
  ·have l:=lt2 b hb
   show b≠C;rw [hC];exact Nat.ne_of_lt (Nat.lt_of_lt_of_le l hle)
  ·rcases (f2 b hb).2.2.2.1 with q | q
   ·exact I2.ok.noex b o e q
   ·exact absurd (Nat.lt_of_lt_of_le (Heap.lt_size e) (Nat.le_trans I2.ok.bsz q)) (Nat.lt_irrefl _)
  ·rcases List.mem_cons.mp (I2.stkSub b z) with q | q
   ·exact (f2 b hb).2.1 q
   ·exact (f2 b hb).2.2.1 q
 refine ⟨okY,ho,I4.bare,Un.kept kp,⟨m,hns,fun i y v h1 h2 h3=>?_⟩,fun y c e=>I4.cell y c (sub y c e),?_,fun y c e=>I4.freeC y c (sub y c e),fun p hp=>absurd (show p∈([]:List (Addr×Obj)) from hp) (by simp),I4.hok,?_⟩
 ·cases i with
  | zero=>cases (show some none=some (some v) from h2)
  | succ k =>
   have h2:(frV σ ix)[k]?=some (some v):=h2;have h1:N[k+1]?=some y:=h1;unfold frV at h2;rw [List.getElem?_map] at h2
   cases hj:ix[k]? with
   | none=>rw [hj] at h2;cases h2
   | some j =>
    rw [hj] at h2;have h2:(σ[j]?).getD none=some v:=Option.some.inj h2;have h2':σ[j]?=some (some v):=by
     cases e:σ[j]? with
     | none=>rw [e] at h2;cases h2
     | some z=>rw [e] at h2;exact congrArg some h2
    have ht:N.tail[k]?=some y:=by rw [List.getElem?_tail];exact h1
    have hz:(y,j)∈N.tail.zip ix:=List.mem_of_getElem? (i:=k) (by rw [List.getElem?_zip_eq_some];exact ⟨ht,hj⟩);obtain ⟨q1,q2⟩:=L.at_ _ hz;have hm:=PySem.mem_of_lookup q2;have hcell:=L.free _ hm rfl;obtain ⟨m',hn',hl'⟩:=I4.loc;obtain ⟨u,r,lk⟩:=hl' j y v q1 h2' (.inr (.inl hcell));refine ⟨u,r,.inr ⟨.inl (Lw I2.ok.kind hcell q2),?_⟩⟩;rcases lk with lk | ⟨_,c,e,z⟩
    ·rw [show X.env.kindOf y=some .cell from hcell] at lk
     cases lk.1
    ·obtain ⟨c',e'⟩:=Option.isSome_iff_exists.mp (Eo (env:=X.env) scope.names [] y hm)
     have e2:=sub y c' e';rw [e] at e2;cases e2;exact ⟨c,e',z⟩
 ·show H3 C=none
  exact I3.hok.fresh (Nat.le_of_eq hC.symm)
 ·show (none::frV σ ix).length=N.length
  rw [L.len];simp [frV]
theorem jV {tgt:Expr}(htg:tgt=.Name x px){pins:List (Addr×Obj)}{σ:St}{H2:Hp}{s2:Shared}{J:It}{fp:List Addr}{it:Addr}{tn:Nat->Heap->Prop}(hc:X.calm=true)(L:Bg X.N X.env.scope scope x N ix)(I2:Inv X pins σ H2 s2)
  (T:Ps X.prog X.w X.K tgt J fp it tn)(st2:tn 0 s2.heap)(f2:∀ b∈fp,Mc X pins H2 b)
  (hif:∀ C s H,PIf (Dm X scope N C s H fp) ifs tc)(he:∀ C s H,PE (Dm X scope N C s H fp) elt te){Q:VK}(rd:N4 J H2 (frV σ ix) tc te Q){RR:Value->Addr->Result->Shared->Prop}{E:Value->Shared->Prop}
  (fin:∀ D C H' s' m,Inv X pins σ H' s'->s2.heap.objs.size<=C->H' C=none->s'.heap.Ns C m->Q (.ref D) H'->RR (.ref D) C (.ok .next) s') :
  wpAny (model X.prog X.w) X.A (newList []) (fun acc s3=>wpAny (model X.prog X.w) X.A (newFunctionEnv scope X.env.globals (Do X.env scope.names []) [] X.env.qual none .none (some X.env)) (fun cenv s4 =>
   codeAny (model X.prog X.w) X.A (.compStart (.ListComp elt [⟨tgt,iter,ifs,0⟩] scope pos) 0 (.ref it) acc { cenv with scope:=relabel scope X.env }) (RR acc cenv.locals) s4) E s3) E s2:=by
 refine wpAny_newObj_type (wpAny_newFunctionEnv L.nocell (by intro y hy;simp at hy) (fun h1 hns hsb=>?_) L.kind);dsimp only at hns hsb ⊢;have I3:Inv X pins σ (upd H2 s2.heap.objs.size (.lst [])) { s2 with heap:=s2.heap.push { cls:=.type "list",dict:=none,data:=.seq ([]:List Value).toArray } }:=I2.lnew (its:=[]) (t':=s2.toks) .nil (Nat.zero_le _);generalize hH3:s2.heap.push { cls:=.type "list",dict:=none,data:=.seq ([]:List Value).toArray }=h3 at hns hsb I3 ⊢;have hsz:h3.objs.size=s2.heap.objs.size+1:=by rw [<- hH3,Heap.size_push]
 have kp34:∀ b u,h3.get? b=some u->h1.get? b=some u:=fun b u e=>hsb.extBut b u (Nat.ne_of_lt (Heap.lt_size e)) (Heap.get?_push_of_some _ e);have I4:Inv X pins σ (upd H2 s2.heap.objs.size (.lst [])) { s2 with heap:=h1,toks:=s2.toks+([]:List (Str×Value)).length }:=I3.kept (t':=s2.toks+([]:List (Str×Value)).length) kp34;have kp24:∀ b u,s2.heap.get? b=some u->h1.get? b=some u:=fun b u e=>kp34 b u (by rw [<- hH3];exact Heap.get?_push_of_some _ e);have IY:=uQ (C:=h3.objs.size) (s3:={ s2 with heap:=h3 }) L I2 T st2 f2 I3 I4 (by show s2.heap.objs.size<=h3.objs.size;omega) rfl rfl kp34 hns;have fD:H2 s2.heap.objs.size=none:=I2.hok.fresh (Nat.le_refl _);have lt2:∀ b∈fp,b<s2.heap.objs.size:=fun b hb=>by obtain ⟨o,e,_⟩:=T.obj _ _ st2 b hb;exact Heap.lt_size e
 have st4:tn 0 h1:=T.keep _ _ _ st2 fun b _ o e=>kp24 b o e;have stat:∀ {pn:List (Addr×Obj)} {H':Hp},pn=[]->(∀ b∈fp,H' b=none)->∀ b∈fp,Mc (Dm X scope N h3.objs.size { s2 with heap:=h3 } (upd H2 s2.heap.objs.size (.lst [])) fp) pn H' b:=fun hp hn b hb=>by
  subst hp;exact ⟨hn b hb,(IY.ok.exf b hb).1,IY.ok.exfs b hb,.inl hb,(IY.ok.exf b hb).2,fun p hp=>absurd (show p∈([]:List (Addr×Obj)) from hp) (by simp)⟩
 obtain ⟨W,⟨m0,w0⟩,turn⟩:=rd _ fD;have loop:codeAny (model X.prog X.w) X.A (.compLoop (.ListComp elt [⟨tgt,iter,ifs,0⟩] scope pos) 0 (.ref it) (.ref s2.heap.objs.size) (compEnvC scope (Do X.env scope.names []) h3.objs.size X.env)) (RR (.ref s2.heap.objs.size) h3.objs.size)
   { s2 with heap:=h1,toks:=s2.toks+([]:List (Str×Value)).length }:=by
  refine bU (fun n s'=>∃ i H',Inv (Dm X scope N h3.objs.size { s2 with heap:=h3 } (upd H2 s2.heap.objs.size (.lst [])) fp) [] (none::frV σ ix) H' s'/\tn i s'.heap/\(∀ b∈fp,H' b=none)/\W i n H') ?_ m0
   ⟨0,_,IY,st4,fun b hb=>by rw [Ai (Nat.ne_of_lt (lt2 b hb))];exact (f2 b hb).1,w0⟩
  rintro n s5 ⟨i,H5,I5,st5,fr5,w5⟩;rcases turn i n H5 w5 with ⟨stop,q⟩ | ⟨go,step⟩
  ·refine thn (T.done (Dm X scope N h3.objs.size { s2 with heap:=h3 } (upd H2 s2.heap.objs.size (.lst [])) fp) rfl rfl rfl hc i [] s5 _ H5 (fun _ _=>False) I5 (stat rfl fr5) st5 stop) fun r s6 ⟨hr,I6⟩=>?_
   subst hr;obtain ⟨m6,hn6,_⟩:=I6.loc;have u1:Un (frs X.stack) fp H2 (upd H2 s2.heap.objs.size (.lst [])) s2.heap h3:=Un.laid (fun b u e=>by rw [<- hH3];exact Heap.get?_push_of_some _ e) (Nat.le_refl _) fD;have back:Inv X pins σ H5 s6:=I2.call' (ch:=fp) (I6.os.trans rfl) (u1.trans I6.base) I6.hok I6.bare fun b hb=>⟨(f2 b hb).2.2.2.1,(f2 b hb).2.1,(f2 b hb).2.2.2.2.1,(f2 b hb).2.2.2.2.2⟩;exact fin _ _ H5 s6 m6 back (by omega) I6.free hn6 q
  ·refine thn (T.item (Dm X scope N h3.objs.size { s2 with heap:=h3 } (upd H2 s2.heap.objs.size (.lst [])) fp) rfl rfl rfl hc i [] s5 _ H5 (fun _ _=>False) I5 (stat rfl fr5) st5 go) fun r s6 ⟨u,hr,h6⟩=>?_
   subst hr;refine thn h6 fun _ s7 ⟨y,H7,I7,r7,y7,st7,fr7⟩=>?_;have I7':=I7.pinned (stat rfl fr7) (T.obj _ _ st7);have hg:PG (Dm X scope N h3.objs.size { s2 with heap:=h3 } (upd H2 s2.heap.objs.size (.lst [])) fp) tgt (E8 0):=by
    rw [htg];have hi:N[0]?=some x:=by have:=L.hd;rwa [List.head?_eq_getElem?] at this
    exact Bc L.nd hi (.inl (lookup_relabel_local L.loc)) (.inr (lookup_relabel_local L.loc))
   refine thn (hg _ s7 _ H7 y u (fun σ' H'=>σ'=some y::frV σ ix/\H'=H7) I7' r7 ⟨rfl,rfl⟩) fun _ s8 ⟨σ8,H8,I8,e8,e8'⟩=>?_;subst e8 e8';refine thn (hif _ _ _ _ s8 _ _ _ I8 (step y _ y7)) fun ok s9 ⟨H9,I9,q9⟩=>?_;have again:∀ {sz:Shared} {Hz:Hp} {m':Nat},Inv (Dm X scope N h3.objs.size { s2 with heap:=h3 } (upd H2 s2.heap.objs.size (.lst [])) fp) ([]++Ng fp s7.heap) (some y::frV σ ix) Hz sz->m'<n->W (i+1) m' Hz ->
     ∃ m,m<n/\∃ i H',Inv (Dm X scope N h3.objs.size { s2 with heap:=h3 } (upd H2 s2.heap.objs.size (.lst [])) fp) [] (none::frV σ ix) H' sz/\tn i sz.heap/\(∀ b∈fp,H' b=none)/\W i m H':=fun {sz Hz m'} Iz hm wz=>by
    refine ⟨m',hm,i+1,Hz,Iz.unpinned.weak (by simp) (fun j v e=>?_),T.keep _ _ _ st7 fun b hb o e=>(Iz.pin (b,o) (List.mem_append_right _ (List.mem_append_right _ (Fd hb e)))).1,fun b hb=>?_,wz⟩
    ·cases j with
     | zero=>cases e
     | succ j=>exact e
    ·obtain ⟨o,e,d⟩:=T.obj _ _ st7 b hb
     exact (Iz.pin (b,o) (List.mem_append_right _ (List.mem_append_right _ (Fd hb e)))).2.1
   cases ok with
   | false =>
    obtain ⟨m',hm,wz⟩:=q9;exact again I9 hm wz
   | true =>
    refine thn (he _ _ _ _ s9 _ _ _ I9 q9) fun xv s10 ⟨z,H10,I10,r10,ys,hD,hl,m',hm,wz⟩=>?_;refine thn (Bv _ s10 _ H10 (.ref s2.heap.objs.size) [z] (.ref s2.heap.objs.size) [xv] (fun _ Hz=>Hz=upd H10 s2.heap.objs.size (.lst (ys++[z]))) I10 rfl (.cons r10 .nil) ⟨_,ys,z,rfl,rfl,hD,hl,rfl⟩) fun _ s11 ⟨_,H11,I11,_,q11⟩=>?_;subst q11;exact again I11 hm wz
 exact codeAny_compStart_list loop (T.self X.A 0 _ _ _ st4 loop)
theorem Iq {wi:TI}(hc:X.calm=true)(L:Bg X.N X.env.scope scope x N ix)(hi:PI X (.Name x px) iter wi)(hif:∀ C s H fp,PIf (Dm X scope N C s H fp) ifs tc)(he:∀ C s H fp,PE (Dm X scope N C s H fp) elt te)
  (hs:∀ z,foldedSetIterable iter X.env z=pure z:=by intro _;rfl):PE X (.ListComp elt [⟨.Name x px,iter,ifs,0⟩] scope pos) (tLc wi ix tc te):=by
 intro pins s σ H Q I h;have hfree:∀ y∈scope.names,y.2=.free->∃ c,X.env.cells.lookup y.1=some c:=fun y hy hf=>I.ok.has y.1 (.inl (L.free y hy hf));rw [eval_ListComp];refine wpAny_comprehension_free (use:=none) rfl hs (Ij hfree) L.kind L.names (thn (hi pins s σ H _ I h) fun v s1 h1=>thn h1 fun itv s2 h2=>?_);obtain ⟨it,fp,tn,J,H2,e,I2,T,st2,f2,rd⟩:=h2;subst e;refine jV (RR:=fun acc C=>compPost (model X.prog X.w) X.A X.xe none _ acc C) rfl hc L I2 T st2 f2 (fun C s H=>hif C s H fp) (fun C s H=>he C s H fp) rd fun D C H' s' m I' hC hf hn q=>?_;refine ⟨m,hn,fun h' hsb=>⟨.ref D,H',?_,rfl,q⟩⟩;have l2:=I2.lt;refine I'.turned (t':=s'.toks) (it:=C) (fun b o hb e=>hsb.extBut b o hb e) hf (Nat.ne_of_gt (Nat.lt_of_lt_of_le l2 hC)) (.inr (Nat.le_trans I2.sz hC)) (fun y c e=>?_) fun p hp=>?_
 ·obtain ⟨v,hv⟩:=I2.cell y c e
  exact Nat.ne_of_lt (Nat.lt_of_lt_of_le hv.lt hC)
 ·exact Nat.ne_of_lt (Nat.lt_of_lt_of_le (Heap.lt_size (I2.pin p hp).1) hC)
theorem Ji {wi:TI}{i:Nat}{y:Str}{py spos:Pos}(hc:X.calm=true)(L:Bg X.N X.env.scope scope x N ix)(hN:X.N.Nodup)(hy:X.N[i]?=some y)(hl:X.env.scope.names.lookup y=some .local)
  (hi:PI X (.Name x px) iter wi)(hif:∀ C s H fp,PIf (Dm X scope N C s H fp) ifs tc)(he:∀ C s H fp,PE (Dm X scope N C s H fp) elt te)
  (hsw:swapsWith (.ListComp elt [⟨.Name x px,iter,ifs,0⟩] scope pos) (some (.Name y py)) spos.line X.env=pure true:=by rfl)
  (hs:∀ z,foldedSetIterable iter X.env z=pure z:=by intro _;rfl):PS X (.Assign [.Name y py] (.ListComp elt [⟨.Name x px,iter,ifs,0⟩] scope pos) spos) (jI (tLc wi ix tc te) (E8 i)):=by
 intro pins s σ H D I h;have hfree:∀ y∈scope.names,y.2=.free->∃ c,X.env.cells.lookup y.1=some c:=fun y hy hf=>I.ok.has y.1 (.inl (L.free y hy hf));rw [exec_Assign_Name_used _ _ _ _ hsw];refine wpAny_bind (wpAny_standAt (wpAny_bind ?_));show wpAny _ X.A (do let _ <- comprehension (.ListComp elt [⟨.Name x px,iter,ifs,0⟩] scope pos) scope X.env _ (newList []) false (eval iter X.env) (some (assign (.Name y py) X.env))) _ _ s;refine wpAny_bind (thn (Q:=fun _ s'=>SP X pins D .next s') (wpAny_comprehension_free (use:=some (assign (.Name y py) X.env)) rfl hs (Ij hfree) L.kind L.names (thn (hi pins s σ H _ I h) fun v s1 h1=>thn h1 fun itv s2 h2=>?_)) fun _ s' hq=>wpAny_pure (wpAny_pure hq));obtain ⟨it,fp,tn,J,H2,e,I2,T,st2,f2,rd⟩:=h2;subst e;refine jV (RR:=fun acc C=>compPost (model X.prog X.w) X.A X.xe (some (assign (.Name y py) X.env)) _ acc C) rfl hc L I2 T st2 f2 (fun C s H=>hif C s H fp) (fun C s H=>he C s H fp) rd fun Da C H' s' m I' hC hf hn q=>?_;have l2:=I2.lt;have nC:C≠X.env.locals:=Nat.ne_of_gt (Nat.lt_of_lt_of_le l2 hC);have nF:C∉X.fs:=I2.nofs hC;obtain ⟨oC,es,ep,hget,hdat,hrest⟩:=id hn;have Ip:Inv X (pins++[(C,oC)]) σ H' s':=I'.pins_of fun p hp=>(List.mem_append.mp hp).elim (fun z=>I'.pin p (List.mem_append_right _ z)) fun z=>by
  have e:p=(C,oC):=by simpa using z
  subst e;exact ⟨hget,hf,nC,nF,fun v z=>by rw [hdat] at z;cases z⟩
 have hg:PG X (.Name y py) (E8 i):=Bc hN hy (.inl hl) (.inr hl);show wpAny _ X.A (assign (.Name y py) X.env (.ref Da)) _ _ s';refine thn (hg _ s' σ H' (.ref Da) (.ref Da) D.nx Ip rfl q) fun _ s'' ⟨σ'',H'',I'',q''⟩=>?_;obtain ⟨g1,g2,_⟩:=I''.pin (C,oC) (List.mem_append_right _ (List.mem_append_right _ (by simp)));refine ⟨m,⟨oC,es,ep,g1,hdat,hrest⟩,fun h' hsb=>⟨σ'',H'',?_,q''⟩⟩;refine I''.unpinned.turned (t':=s''.toks) (it:=C) (fun b o hb e=>hsb.extBut b o hb e) g2 nC (.inr (Nat.le_trans I2.sz hC)) (fun y c e=>?_) fun p hp=>?_
 ·obtain ⟨v,hv⟩:=I2.cell y c e
  exact Nat.ne_of_lt (Nat.lt_of_lt_of_le hv.lt hC)
 ·exact Nat.ne_of_lt (Nat.lt_of_lt_of_le (Heap.lt_size (I2.pin p hp).1) hC)
end
theorem Ah {H:Hp}{D:Addr}{o:HO}(h:H D=none):Am H (upd H D o):=fun b u e=>by rw [Ai (Ak e h)];exact e
theorem Oz {J:It}{H1:Hp}{fr:St}{tc:TT}{te:TE}{Q:VK}(n:Nat)(item:Nat->V)(acc:Nat->List V)(h0:acc 0=[])(hz:∀ i,i<n->(acc i).length<sizeLine)
  (hgo:∀ i H,i<n->Am H1 H->J.go i H)(hy:∀ i H x H',i<n->Am H1 H->J.yld i H x H'->x=item i/\H'=H)(hst:∀ H,Am H1 H->J.stop n H)
  (turn:∀ i H (R:Hp->Prop) (A:VK),i<n->Am H1 H->(acc (i+1)=acc i->∀ H',Am H H'->R H')->(∀ y H',acc (i+1)=acc i++[y]->Am H H'->A y H') ->
   tc (some (item i)::fr) H fun b H3=>if b=true then te (some (item i)::fr) H3 A else R H3)
  (fin:∀ D H,H1 D=none->Am H1 H->H D=some (.lst (acc n))->Q (.ref D) H):N4 J H1 fr tc te Q:=by
 intro D hD;refine ⟨fun i m H=>i<=n/\m=n-i/\Am H1 H/\H D=some (.lst (acc i)),⟨n,Nat.zero_le _,rfl,Ah hD,by rw [Ab,h0]⟩,?_⟩;rintro i m H ⟨hi,rfl,sm,hl⟩
 by_cases h:i=n
 ·subst h
  exact .inl ⟨hst H sm,fin D H hD sm hl⟩
 ·have hlt:i<n:=Nat.lt_of_le_of_ne hi h
  refine .inr ⟨hgo i H hlt sm,fun x H' hyl=>?_⟩;obtain ⟨rfl,rfl⟩:=hy i H x H' hlt sm hyl;refine turn i H' _ _ hlt sm (fun ea H3 s3=>?_) (fun y H4 ea s4=>?_)
  ·exact ⟨n-(i+1),by omega,by omega,rfl,sm.trans s3,by rw [ea];exact s3 _ _ hl⟩
  ·refine ⟨acc i,s4 _ _ hl,hz i hlt,n-(i+1),by omega,by omega,rfl,fun b u e=>?_,by rw [Ab,ea]⟩
   rw [Ai (Ak e hD)];exact s4 _ _ (sm _ _ e)
theorem jX {lo:Int}{n:Nat}{H1:Hp}{fr:St}{tc:TT}{te:TE}{Q:VK}(acc:Nat->List V)(h0:acc 0=[])(hz:∀ i,i<n->(acc i).length<sizeLine)
  (turn:∀ (i:Nat) H (R:Hp->Prop) (A:VK),i<n->Am H1 H->(acc (i+1)=acc i->∀ H',Am H H'->R H')->(∀ y H',acc (i+1)=acc i++[y]->Am H H'->A y H') ->
   tc (some (.int (lo+i))::fr) H fun b H3=>if b=true then te (some (.int (lo+i))::fr) H3 A else R H3)
  (fin:∀ D H,H1 D=none->Am H1 H->H D=some (.lst (acc n))->Q (.ref D) H):N4 (Itr lo n) H1 fr tc te Q :=
 Oz n (fun i=>.int (lo+i)) acc h0 hz (fun i H hi _=>hi) (fun i H x H' _ _ h=>⟨h.2,h.1⟩) (fun H _=>Nat.le_refl n) turn fin
theorem Hy {K:PySem.W.Frag}{a:Addr}{xs:List V}{H1:Hp}{fr:St}{tc:TT}{te:TE}{Q:VK}(hl:SqL K H1 a xs)(acc:Nat->List V)(h0:acc 0=[])(hz:∀ i,i<xs.length->(acc i).length<sizeLine)
  (turn:∀ (i:Nat) x H (R:Hp->Prop) (A:VK),xs[i]?=some x->Am H1 H->(acc (i+1)=acc i->∀ H',Am H H'->R H')->(∀ y H',acc (i+1)=acc i++[y]->Am H H'->A y H') ->
   tc (some x::fr) H fun b H3=>if b=true then te (some x::fr) H3 A else R H3)
  (fin:∀ D H,H1 D=none->Am H1 H->H D=some (.lst (acc xs.length))->Q (.ref D) H):N4 (Itl K a) H1 fr tc te Q:=by
 refine Oz xs.length (fun i=>xs.getD i .non) acc h0 hz (fun i H hi sm=>⟨xs,xs[i],sm.seq hl,by simp [hi]⟩) (fun i H x H' hi sm h=>⟨?_,h.1⟩) (fun H sm=>⟨xs,sm.seq hl,Nat.le_refl _⟩) (fun i H R A hi sm=>turn i _ H R A (by simp [hi]) sm) fin;have:=h.2 xs (sm.seq hl);simp [List.getD,this]
theorem Am.seqT {K:PySem.W.Frag}{H H':Hp}{a:Addr}{xs:List V}(e:Am H H')(h:SqT K H a xs):SqT K H' a xs:=by
 rcases h with (h | ⟨o,h⟩) | h
 ·exact .inl (.inl (e _ _ h))
 ·exact .inl (.inr ⟨o,e _ _ h⟩)
 ·exact .inr h
theorem gY {K:PySem.W.Frag}{a:Addr}{xs:List V}{H1:Hp}{fr:St}{tc:TT}{te:TE}{Q:VK}(hl:SqT K H1 a xs)(acc:Nat->List V)(h0:acc 0=[])(hz:∀ i,i<xs.length->(acc i).length<sizeLine)
  (turn:∀ (i:Nat) x H (R:Hp->Prop) (A:VK),xs[i]?=some x->Am H1 H->(acc (i+1)=acc i->∀ H',Am H H'->R H')->(∀ y H',acc (i+1)=acc i++[y]->Am H H'->A y H') ->
   tc (some x::fr) H fun b H3=>if b=true then te (some x::fr) H3 A else R H3)
  (fin:∀ D H,H1 D=none->Am H1 H->H D=some (.lst (acc xs.length))->Q (.ref D) H):N4 (Itt K a) H1 fr tc te Q:=by
 refine Oz xs.length (fun i=>xs.getD i .non) acc h0 hz (fun i H hi sm=>⟨xs,xs[i],sm.seqT hl,by simp [hi]⟩) (fun i H x H' hi sm h=>⟨?_,h.1⟩) (fun H sm=>⟨xs,sm.seqT hl,Nat.le_refl _⟩) (fun i H R A hi sm=>turn i _ H R A (by simp [hi]) sm) fin;have:=h.2 xs (sm.seqT hl);simp [List.getD,this]
theorem cG:bootBuiltins "int"=some (.type "int"):=by decide +kernel
theorem pO:bootBuiltins "str"=some (.type "str"):=by decide +kernel
theorem bI:bootBuiltins "bool"=some (.type "bool"):=by decide +kernel
theorem Li:bootBuiltins "list"=some (.type "list"):=by decide +kernel
theorem Vs:bootBuiltins "tuple"=some (.type "tuple"):=by decide +kernel
theorem tI:bootBuiltins "dict"=some (.type "dict"):=by decide +kernel
theorem Cc:bootBuiltins "len"=some (.builtin "len"):=by decide +kernel
theorem Br:bootBuiltins "isinstance"=some (.builtin "isinstance"):=by decide +kernel
theorem vJ:bootBuiltins "sum"=some (.builtin "sum"):=by decide +kernel
theorem jL:bootBuiltins "min"=some (.builtin "min"):=by decide +kernel
theorem cO:bootBuiltins "max"=some (.builtin "max"):=by decide +kernel
theorem Pp:bootBuiltins "sorted"=some (.builtin "sorted"):=by decide +kernel
structure Cal (P:Program) (w:World) (K:PySem.W.Frag) (mg:Str->Option Value) (base:Heap) (name:Str) (k:Nat) (ps:List Str) (sp:Sp):Prop where
 ex:∃ (f:Addr) (fd:FuncData),A4 P w K mg base CX0 k f fd ps sp/\E1 K fd ps []/\mg name=some (.ref f)/\PySem.W.keepIn K (.ref f)=true
section
variable {X:Cx} {k:Nat} {ps:List Str} {sp:Sp} {name m:Str} {p pos apos:Pos} {e o:Expr} {es:List Expr} {ta:TE} {t:TA}
theorem A6 (C:Cal X.prog X.w X.K X.mg X.base name k ps sp)(hr:Cr k X.A)(ha:PA X (e::es) t)(hg:Gl X name:=by rfl)(hdb:(name==("__debug__":Str))=false:=by decide)
  (he:starEach (e::es) X.env=(false,eval e X.env)::starEach es X.env:=by rfl)(hpl:(backTo pos (starEach es X.env)).any (·.1)=false:=by rfl):PE X (.Call (.Name name p) (e::es) [] pos) (lO sp [] E0 t):=by
 obtain ⟨f,fd,F,b,hm,hk⟩:=C.ex;exact oN F hr hg hm hk b .nil dC ha hdb he hpl
end
section
variable {X:Cx}
def uO (K:PySem.W.Frag):List V->Hp->VK->Prop:=fun xs H Q=>∃ x n t b,xs=[x,.ty n]/\L5 K H x t/\kitOne K t (.type n)=some b/\Q (.bl b) H
theorem Ci:Ep X (.builtin "isinstance") (uO X.K):=by
 intro pins s σ H xs us Q I r h;obtain ⟨x,n,t,b,rfl,ty,e,q⟩:=h;obtain ⟨u,w',rfl,ru,rw'⟩:=R1 r;cases (show w'=Value.type n from rw');exact Sz I ru ty e fun tk=>⟨.bl b,H,I.tok tk,rfl,q⟩
theorem M0 {K:PySem.W.Frag}:kitOne K (.type "int") (.type "bool")=some false:=by rfl
theorem Oh {K:PySem.W.Frag}:kitOne K (.type "int") (.type "int")=some true:=by rfl
theorem Ws {K:PySem.W.Frag}:kitOne K (.type "str") (.type "str")=some true:=by rfl
end
theorem Gp {x y:Str}(h:x.cps.toList=y.cps.toList):x=y:=by
 obtain ⟨a⟩:=x;obtain ⟨b⟩:=y;have:a=b:=Array.toList_inj.mp h;rw [this]
def sgn (c:Nat):Str:=⟨#[c]⟩
def Sg (x:Str)(k:Nat):Str:=⟨(List.replicate k x.cps.toList).flatten.toArray⟩
theorem Wh (x:Str)(k:Nat):(Sg x k).length=k*x.length:=by
 show (List.replicate k x.cps.toList).flatten.toArray.size=k*x.cps.size;rw [List.size_toArray,cV];simp
theorem Tv (a:Array Nat):∀ (k:Nat) (acc:Array Nat),((List.replicate k a).foldl (·++·) acc).toList=acc.toList++(List.replicate k a.toList).flatten
 | 0,acc=>by simp
 | k+1,acc=>by
  rw [List.replicate_succ,List.foldl_cons,Tv a k,List.replicate_succ];simp [List.append_assoc]
section
variable {X:Cx}
def uE:R2:=fun x y H Q=>∃ z k,x=.str z/\y=.int k/\-(2 ^ 40)<k/\k<2 ^ 40/\z.length*k.toNat<=sizeLine/\z.length<=sizeLine/\Q (.str (Sg z k.toNat)) H
theorem dB:OpR X (binaryOp .Mult) uE:=by
 intro pins s σ H x y v u Q I rx ry h;obtain ⟨z,k,rfl,rfl,k1,k2,hz,hz2,q⟩:=h;obtain ⟨t,rfl⟩:=rx;obtain ⟨t',rfl⟩:=ry;have hs:=Jm;have hs':=sizeLine_eq;refine PySem.P.mul_str ?_ ?_ ?_ ?_
 ·rw [decide_eq_false (by omega),decide_eq_false (by omega)];rfl
 ·intro h1 _ hgt
  have hk:k<=2 ^ 40:=by omega
  have:(z.length:Int)<=(2 ^ 63-1)/k:=by
   rw [Int.le_ediv_iff_mul_le (by omega)];have e:(z.length:Int)*k=((z.length*k.toNat:Nat):Int):=by
    rw [Int.natCast_mul,Int.toNat_of_nonneg (by omega)]
   rw [e];omega
  omega
 ·intro _ _
  unfold Builtin.Str.tooLong
  simpa using hz
 ·split
  ·rename_i h1
   have e:Sg z k.toNat=Str.empty:=by
    rw [show k.toNat=0 by omega];rfl
   rw [e] at q;exact ⟨by decide,.str Str.empty,H,I.tok _,⟨_,rfl⟩,q⟩
  ·rename_i h1
   split
   ·rename_i h2
    have e:Sg z k.toNat=z:=by
     refine Gp ?_;show (List.replicate k.toNat z.cps.toList).flatten.toArray.toList=_;rcases Bool.or_eq_true_iff.mp h2 with h2 | h2
     ·have:k=1:=by simpa using h2
      subst this;simp
     ·have:z.length=0:=by simpa using h2
      have e0:z.cps.toList=[]:=by
       have:z.cps.size=0:=this
       simpa using this
      rw [e0];simp
    rw [e] at q;exact ⟨.str z,H,I,⟨_,rfl⟩,q⟩
   ·have e:(⟨(List.replicate k.toNat z.cps).foldl (·++·) #[]⟩:Str)=Sg z k.toNat:=by
     refine Gp ?_;show ((List.replicate k.toNat z.cps).foldl (·++·) #[]).toList=_;rw [Tv];simp [Sg]
    refine ⟨?_,.str (Sg z k.toNat),H,I.tok _,⟨s.toks,by rw [e]⟩,q⟩;rw [e,Wh,Nat.mul_comm];exact hz
theorem Zr {ys:List Str}:∀ {us:List Value},Az (ys.map V.str) us->StrsAre us ys:=by
 induction ys with
 | nil=>intro us r;rw [List.map_nil] at r;cases r;exact .nil
 | cons y ys ih =>
  intro us r;rw [List.map_cons] at r
  cases r with
  | cons r1 r2 =>
   obtain ⟨t,e⟩:=r1;subst e;exact .cons y t (ih r2)
def lL (K:PySem.W.Frag):V->List V->Hp->VK->Prop:=fun x vs H Q=>∃ sep p ys,x=.str sep/\vs=[.ref p]/\SqL K H p (ys.map V.str)/\(ys.map (·.length)).sum+ys.length*sep.length<=16777216/\Q (.str (Txt.join sep ys)) H
theorem Mn:MtM X "str.join" (lL X.K):=by
 intro pins s σ H x vs v us Q I rx rv h;obtain ⟨sep,p,ys,rfl,rfl,hp,hz,q⟩:=h;obtain ⟨t,rfl⟩:=rx;obtain ⟨u,rfl,ru⟩:=rv.one;cases ru;obtain ⟨its,r,pl,_⟩:=I.list hp;exact join_list pl.isList (by simpa using Zr r) hz fun t' k=>⟨.str (Txt.join sep ys),H,I.tok k,⟨t',rfl⟩,q⟩
theorem Tq:∀ (ys:List Str) (a:Array Nat),(ys.foldl (fun acc p=>acc++("":Str).cps++p.cps) a).toList=a.toList++(ys.map fun y=>y.cps.toList).flatten
 | [],a=>by simp
 | y::r,a=>by
  rw [List.foldl_cons,Tq r];have e:("":Str).cps=#[]:=rfl;rw [e];simp [List.append_assoc]
theorem P8 (ys:List Str):(Txt.join ("":Str) ys).cps.toList=(ys.map fun y=>y.cps.toList).flatten:=by
 show ((ys.drop 1).foldl (fun acc p=>acc++("":Str).cps++p.cps) (ys.headD Str.empty).cps).toList=_;rw [Tq]
 cases ys with
 | nil=>rfl
 | cons y r=>simp
end
def fY:Expr->Bool
 | .Starred ..=>false
 | _=>true
theorem Xk {e:Expr}{es:List Expr}{env:Env}(h:fY e=true):starEach (e::es) env=(false,eval e env)::starEach es env:=by
 cases e<;>first | rfl | cases h
section
variable {X:Cx} {e:Expr} {es:List Expr} {te:TE} {t:TA}
theorem Ag (ha:PE X e te)(hr:PA X es t)(hs:fY e=true):PA X (e::es) (Xn te t):=bN ha hr (Xk hs)
end
theorem us1 {P:List Value->Prop}(h:∀ a,P [a]):∀ us:List Value,us.length=1->P us
 | [_],_=>h _
theorem us2 {P:List Value->Prop}(h:∀ a b,P [a,b]):∀ us:List Value,us.length=2->P us
 | [_,_],_=>h _ _
theorem us3 {P:List Value->Prop}(h:∀ a b c,P [a,b,c]):∀ us:List Value,us.length=3->P us
 | [_,_,_],_=>h _ _ _
section
variable {σ:St} {H:Hp} {D:K4} {Q:VK} {t u:TS} {te ta tb:TE} {QB:Bool->Hp->Prop}
theorem uX (h:t { D with nx:=u D } σ H):uM t u D σ H:=h
theorem rG (h:D.nx σ H):qB D σ H:=h
theorem uV {g:TG}(h:te σ H fun x H1=>g x σ H1 D.nx):jI te g D σ H:=h
theorem mJ {i:Nat}{v:V}{R:St->Hp->Prop}(h:R (σ.set i (some v)) H):E8 i v σ H R:=h
theorem wA (h:te σ H D.rt):uB te D σ H:=h
theorem sH (h:te σ H fun _ H1=>D.nx σ H1):pL te D σ H:=h
theorem tY {c:TT}(h:c σ H fun b H1=>if b=true then t D σ H1 else u D σ H1):tX c t u D σ H:=h
theorem tZ {i:Nat}{ti:TIp}{x:V}(e:σ[i]?=some (some x))(h:te σ H fun y H1=>ti x y H1 fun z H2=>D.nx (σ.set i (some z)) H2):uT i te ti D σ H:=⟨x,e,h⟩
theorem vP {i:Nat}{v:V}(e:σ[i]?=some (some v))(h:Q v H):nZ i σ H Q:=⟨v,e,h⟩
theorem r_c {v:V}(h:Q v H):tC v σ H Q:=h
theorem xK {r:R2}(h:ta σ H fun x H1=>tb σ H1 fun y H2=>r x y H2 Q):tOp r ta tb σ H Q:=h
theorem wY {r:V->Hp->VK->Prop}(h:ta σ H fun x H1=>r x H1 Q):tUn r ta σ H Q:=h
theorem xA {g:Int->V}{i:Int}(h:Q (g i) H):rU g (.int i) H Q:=⟨i,rfl,h⟩
theorem qA {g:Int->Int->V}{i j:Int}(h:Q (g i j) H):rI0 g (.int i) (.int j) H Q:=⟨i,j,rfl,rfl,h⟩
theorem vV {f:Int->Int->Int}{i j:Int}(h:Q (.int (f i j)) H):ipI f (.int i) (.int j) H Q:=⟨i,j,rfl,rfl,h⟩
theorem vC {x y:V}(e:kY x y=true)(h:Q (.bl (decide (x=y))) H):rEq x y H Q:=⟨e,h⟩
theorem vB {x y:V}(e:kY x y=true)(h:Q (.bl (!decide (x=y))) H):rNe x y H Q:=⟨e,h⟩
theorem sA (h:te σ H fun x H'=>∃ k,x=.bl k/\QB k H'):qH te σ H QB:=h
theorem xB (h:te σ H fun x H'=>∃ k,x=.bl k/\QB k H'):tB te σ H QB:=h
theorem xE {k:Bool}{P:Bool->Prop}(h:P k):∃ k',V.bl k=.bl k'/\P k':=⟨k,rfl,h⟩
theorem uG {c:TT}(h:c σ H fun b H1=>QB (!b) H1):uS c σ H QB:=h
theorem uU {c d:TT}(h:c σ H fun b H1=>if b=true then d σ H1 QB else QB false H1):uW c d σ H QB:=h
theorem wW {c d:TT}(h:c σ H fun b H1=>if b=true then QB true H1 else d σ H1 QB):tOr c d σ H QB:=h
theorem sJ (h:ta σ H fun x H1=>∃ c,x=.bl c/\if c=true then tb σ H1 Q else Q (.bl false) H1):pN ta tb σ H Q:=h
theorem sF (h:ta σ H fun x H1=>∃ c,x=.bl c/\Q (.bl (!c)) H1):qM ta σ H Q:=h
theorem vN {c:TT}(h:c σ H fun b H1=>if b=true then ta σ H1 Q else tb σ H1 Q):tIf c ta tb σ H Q:=h
theorem vZ (h:ta σ H fun x H1=>Q (.bl (decide (x=.non))) H1):uN ta σ H Q:=h
theorem oM {r r':R2}{tc:TE}(h:ta σ H fun x H1=>tb σ H1 fun y H2=>r x y H2 fun z H3=>∃ k,z=.bl k/\(if k=true then tc σ H3 fun w' H4=>r' y w' H4 Q else Q (.bl false) H3)):kQ r r' ta tb tc σ H Q:=h
theorem vS (h:QB true H):rY σ H QB:=h
variable {tA tR:TA} {QA:List V->Hp->Prop}
theorem wD (h:QA [] H):T8 σ H QA:=h
theorem tH (h:te σ H fun x H1=>tR σ H1 fun xs H2=>QA (x::xs) H2):Xn te tR σ H QA:=h
theorem tL {sp:Sp}{E:XK}(h:tA σ H fun vs H1=>sp (vs++[]) H1 Q E):lO sp [] E tA σ H Q:=h
theorem xG {r:List V->Hp->VK->Prop}(h:tA σ H fun vs H1=>r vs H1 Q):tCB r tA σ H Q:=h
theorem tV (h:tA σ H fun xs H1=>xs.length<=sizeLine/\∀ p,H1 p=none->Q (.ref p) (upd H1 p (.lst xs))):sV tA σ H Q:=h
theorem uI (h:tA σ H fun xs H1=>xs.length<=sizeLine/\∀ p,H1 p=none->Q (.ref p) (upd H1 p (.tup xs))):vH tA σ H Q:=h
theorem xR {K:PySem.W.Frag}{T:String}{r:V->List V->Hp->VK->Prop}(h:te σ H fun x H1=>tyV K T x H1/\tA σ H1 fun xs H2=>r x xs H2 Q):tBM K T r te tA σ H Q:=h
theorem xO {r:V->Option Int->Option Int->Hp->VK->Prop}{tl th:TO}(h:te σ H fun x H1=>tl σ H1 fun l H2=>th σ H2 fun u H3=>r x l u H3 Q):tSl r te tl th σ H Q:=h
theorem gJ {QO:Option Int->Hp->Prop}(h:QO none H):dH σ H QO:=h
theorem sZ {QO:Option Int->Hp->Prop}(h:te σ H fun x H1=>∃ i,x=.int i/\QO (some i) H1):pP te σ H QO:=h
theorem vO {P:Int->Prop}{i:Int}(h:P i):∃ j,V.int i=.int j/\P j:=⟨i,rfl,h⟩
def rW (J:It)(g:TG)(tb:TS)(D:K4)(σ:St)(H1:Hp):Prop:=∃ W:Nat->Nat->St->Hp->Prop,(∃ m,W 0 m σ H1)/\∀ i m σ H,W i m σ H ->
 (J.stop i H/\D.nx σ H)\/(J.go i H/\∃ N:St->Hp->Prop,(∀ σ' H',N σ' H'->∃ m',m'<m/\W (i+1) m' σ' H')/\∀ x H',J.yld i H x H'->g x σ H' fun σ2 H2=>tb { D with nx:=N,ct:=N,bk:=D.nx } σ2 H2)
theorem vE {wi:TI}{g:TG}(h:wi σ H fun J H1=>rW J g t D σ H1):wQ wi g t D σ H:=h
theorem tT {R:It->Hp->Prop}(h:tA σ H fun vs H1=>∃ j:Int,vs=[.int j]/\-(2 ^ 62)<=j/\j<2 ^ 62/\R (Itr 0 j.toNat) H1):pG tA σ H R:=h
theorem oK {K:PySem.W.Frag}{R:It->Hp->Prop}(h:te σ H fun x H1=>∃ a,x=.ref a/\(∃ xs,SqL K H1 a xs)/\R (Itl K a) H1):pT K te σ H R:=h
theorem sM {K:PySem.W.Frag}{R:It->Hp->Prop}(h:te σ H fun x H1=>∃ a,x=.ref a/\(∃ xs,SqT K H1 a xs)/\R (Itt K a) H1):rN K te σ H R:=h
theorem wZ {wi:TI}{ix:List Nat}{tc:TT}(h:wi σ H fun J H1=>N4 J H1 (frV σ ix) tc te Q):tLc wi ix tc te σ H Q:=h
theorem Cw {K:PySem.W.Frag}{p:Addr}{xs:List V}{i:Int}{v:V}(hs:SqL K H p xs)(e:atI xs i=some v)(h:Q v H):oO K (.ref p) (.int i) H Q:=⟨p,xs,i,v,rfl,rfl,hs,e,h⟩
theorem Ho {K:PySem.W.Frag}{p:Addr}{xs:List V}{i:Int}{v:V}(hs:SqT K H p xs)(e:atI xs i=some v)(h:Q v H):sK K (.ref p) (.int i) H Q:=⟨p,xs,i,v,rfl,rfl,hs,e,h⟩
theorem Cd {l:Addr}{xs:List V}{y:V}(hl:H l=some (.lst xs))(hz:xs.length<sizeLine)(h:Q .non (upd H l (.lst (xs++[y])))):cE (.ref l) [y] H Q:=⟨l,xs,y,rfl,rfl,hl,hz,h⟩
end
theorem Et {c:TT}{tb:TS}{D:K4}{σ:St}{H:Hp}(Pv:St->Hp->Prop)(μ:St->Hp->Nat)(h0:Pv σ H)
  (hs:∀ m σ H,Pv σ H->μ σ H=m->c σ H fun b H1=>if b=true then ∃ N:St->Hp->Prop,(∀ σ' H',N σ' H'->∃ m',m'<m/\(Pv σ' H'/\μ σ' H'=m'))/\tb { D with nx:=N,ct:=N,bk:=D.nx } σ H1 else D.nx σ H1):kB c tb D σ H :=
 ⟨fun m σ H=>Pv σ H/\μ σ H=m,⟨_,h0,rfl⟩,fun m σ H h=>hs m σ H h.1 h.2⟩
theorem Ht {tb:TS}{rt:VK}{bk:St->Hp->Prop}{σ:St}{H1:Hp}{Pv:St->Hp->Prop}{μ:St->Hp->Nat}{m:Nat}
  (h:tb { nx:=fun σ' H'=>Pv σ' H'/\μ σ' H'<m,rt:=rt,bk:=bk,ct:=fun σ' H'=>Pv σ' H'/\μ σ' H'<m } σ H1) :
  ∃ N:St->Hp->Prop,(∀ σ' H',N σ' H'->∃ m',m'<m/\(Pv σ' H'/\μ σ' H'=m'))/\tb { nx:=N,rt:=rt,bk:=bk,ct:=N } σ H1:=⟨_,fun σ' H' z=>⟨_,z.2,z.1,rfl⟩,h⟩
section
variable {H:Hp} {Q:VK} {g:Int->Int->V} {i j:Int}
theorem bZ (c:0<j)(h:Q (g i j) H):rI (fun _ j=>0<j) g (.int i) (.int j) H Q:=⟨i,j,rfl,rfl,c,h⟩
theorem iU (c:0<=j)(h:Q (g i j) H):rI (fun _ j=>0<=j) g (.int i) (.int j) H Q:=⟨i,j,rfl,rfl,c,h⟩
theorem iI (c1:0<j)(c2:j<1073741824)(h:Q (g i j) H):rI wJ g (.int i) (.int j) H Q:=⟨i,j,rfl,rfl,⟨c1,c2⟩,h⟩
theorem jC (c1:-(2 ^ 64)<j)(c2:j<2 ^ 64)(h:Q (g i j) H):rI gH g (.int i) (.int j) H Q:=⟨i,j,rfl,rfl,.inr ⟨c1,c2⟩,h⟩
theorem qN (c1:-(2 ^ 64)<i)(c2:i<2 ^ 64)(h:Q (g i j) H):rI gH g (.int i) (.int j) H Q:=⟨i,j,rfl,rfl,.inl ⟨c1,c2⟩,h⟩
end
theorem Db {c A B:Prop}[Decidable c](h1:c->A)(h2:¬ c->B):if decide c=true then A else B:=by
 by_cases h:c
 ·rw [decide_eq_true h,if_pos rfl]
  exact h1 h
 ·rw [decide_eq_false h,if_neg Bool.false_ne_true]
  exact h2 h
theorem mK {c A B:Prop}[Decidable c](h1:¬ c->A)(h2:c->B):if (!decide c)=true then A else B:=by
 by_cases h:c
 ·rw [decide_eq_true h,if_neg (by decide)]
  exact h2 h
 ·rw [decide_eq_false h,if_pos (by decide)]
  exact h1 h
def wB (c:TT)(t u:TS):TS:=fun D σ H=>∃ J:St->Hp->Prop,(∀ σ H,J σ H->D.nx σ H)/\c σ H fun b H1=>if b=true then t { D with nx:=J } σ H1 else u { D with nx:=J } σ H1
theorem Vl {X:Cx}{c:Expr}{a b:List Stmt}{tc:TT}{t u:TS}{pos:Pos}(hc:PT X c tc)(ha:PSs X a t)(hb:PSs X b u):PS X (.If c a b pos) (wB tc t u):=by
 intro pins s σ H D I h;obtain ⟨J,hJ,h⟩:=h;refine thn (Cq hc ha hb pins s σ H { D with nx:=J } I h) fun f s' q=>?_
 cases f with
 | next =>
  obtain ⟨σ',H',I',q'⟩:=q;exact ⟨σ',H',I',hJ _ _ q'⟩
 | brk=>exact q
 | cont=>exact q
 | ret u=>exact q
theorem dF {c:TT}{t u:TS}{D:K4}{σ:St}{H:Hp}(J:St->Hp->Prop)(h:c σ H fun b H1=>if b=true then t { D with nx:=J } σ H1 else u { D with nx:=J } σ H1)(hJ:∀ σ H,J σ H->D.nx σ H):wB c t u D σ H:=⟨J,hJ,h⟩
def Pr (lo st:Int)(n:Nat):It:=⟨fun i _=>i<n,fun i H x H'=>H'=H/\x=.int (lo+i*st),fun i _=>n<=i⟩
def Cf (lo hi st:Int):Nat:=((hi-lo+st-1)/st).toNat
theorem Jz {P:Program}{w:World}{K:PySem.W.Frag}{tg:Expr}(it:Addr)(lo dt:Int)(n:Nat):Ps P w K tg (Pr lo dt n) [it] it (fun i h=>IsRangeIter h it (lo+(i:Nat)*dt) ((n:Int)-(i:Nat)) dt) where
 mem:=by simp
 obj:=fun i h st b hb=>by
  have e:b=it:=by simpa using hb
  subst e;exact ⟨_,st,fun v z=>by
   have z':Data.fields _=Data.cell v:=z;cases z'⟩
 keep:=fun i h h' st k=>k it (by simp) _ st
 item:=by
  intro X hP hw hK hc i pins s σ H E I hf st hg;subst hP hw hK;obtain ⟨f0,f1,f2,f3,f4,f5⟩:=hf it (by simp);have W:=Walks.range (prog:=X.prog) (w:=X.w) (I.ok.hd hc) it lo dt n;refine W.item i s _ _ hg st fun v h' tk hv st' kk=>?_;obtain ⟨t,rfl⟩:=hv;have I1:Inv X pins σ H { s with heap:=h',toks:=tk }:=I.turned (fun b o hb e=>kk b o (by simpa using hb) e) f0 f1 f3 f4 f5;exact ⟨_,rfl,bS (s:={ s with heap:=h',toks:=tk }) (n:="range_iterator") st' rfl rfl (by decide) ⟨.int _,H,I1,⟨t,rfl⟩,⟨rfl,rfl⟩,st',fun b hb=>(hf b hb).1⟩⟩
 done:=by
  intro X hP hw hK hc i pins s σ H E I hf st hg;subst hP hw hK;obtain ⟨f0,f1,f2,f3,f4,f5⟩:=hf it (by simp);exact wpAny_pyNext_range_end (I.ok.hd hc) st (by have:n<=i:=hg;omega) fun h' eb=>⟨rfl,I.turned (t':=s.toks) (fun b o hb e=>eb b o hb e) f0 f1 f3 f4 f5⟩
 self:=fun _ _ _ _ _ st h=>wpAny_pyIter_rangeiter st h
theorem Po {lo hi st:Int}(h:0<st):Builtin.Range.rangeSize lo hi st=(Cf lo hi st:Int):=by
 unfold Builtin.Range.rangeSize Cf;rw [if_pos h]
 by_cases hl:lo<hi
 ·rw [if_pos hl]
  have e:(hi-lo+st-1)/st=(hi-lo-1)/st+1:=by
   rw [show hi-lo+st-1=(hi-lo-1)+st*1 by omega,Int.add_mul_ediv_left _ _ (by omega)]
  rw [e];have:0<=(hi-lo-1)/st:=Int.ediv_nonneg (by omega) (by omega);omega
 ·rw [if_neg hl]
  have:(hi-lo+st-1)/st<=0:=by
   have:=Int.ediv_le_ediv h (show hi-lo+st-1<=st-1 by omega);rw [Int.ediv_eq_zero_of_lt (show 0<=st-1 by omega) (by omega)] at this;exact this
  omega
theorem Yc {lo hi st:Int}(h:0<st)(h1:-(2 ^ 61)<=lo)(h2:lo<2 ^ 61)(h3:-(2 ^ 61)<=hi)(h4:hi<2 ^ 61)(h5:st<2 ^ 61):Builtin.Range.small lo hi st=true:=by
 unfold Builtin.Range.small;rw [Po h];have hb:(Cf lo hi st:Int)*st<=hi-lo+st-1\/(Cf lo hi st:Int)=0:=by
  unfold Cf
  by_cases hz:0<=(hi-lo+st-1)/st
  ·left
   rw [Int.toNat_of_nonneg hz];exact Int.ediv_mul_le _ (by omega)
  ·right
   omega
 have hn:(Cf lo hi st:Int)<=(Cf lo hi st:Int)*st:=by
  have:=Int.mul_le_mul_of_nonneg_left (show (1:Int)<=st by omega) (Int.natCast_nonneg (Cf lo hi st));omega
 have hmul:lo+(Cf lo hi st:Int)*st<2 ^ 63/\-(2 ^ 63)<=lo+(Cf lo hi st:Int)*st:=by
  have h0:0<=(Cf lo hi st:Int)*st:=Int.mul_nonneg (Int.natCast_nonneg _) (by omega);rcases hb with hb | hb
  ·omega
  ·rw [hb] at h0 ⊢
   omega
 have h0:0<=(Cf lo hi st:Int):=Int.natCast_nonneg _;have hs:(Cf lo hi st:Int)<2 ^ 63:=by
  rcases hb with hb | hb
  ·omega (splitDisjunctions := true)
  ·omega (splitDisjunctions := true)
 rw [if_pos h];simp only [Builtin.Range.rangeFitsLong,Bool.and_eq_true,Bool.or_eq_true,decide_eq_true_eq,beq_iff_eq];refine ⟨⟨⟨⟨?_,?_⟩,?_⟩,?_⟩,.inr ?_⟩<;>omega
section
variable {X:Cx} {tg:Expr}
def qC (ta:TA):TI:=fun σ H R=>ta σ H fun vs H1=>∃ i j k:Int,vs=[.int i,.int j,.int k]/\(-(2 ^ 40)<=i/\i<2 ^ 40/\-(2 ^ 40)<=j/\j<2 ^ 40/\0<k/\k<2 ^ 29)/\R (Pr i k (Cf i j k)) H1
theorem Nr {a b c:Expr}{ta:TA}{p pos:Pos}(hg:Gl X "range")(hm:X.mg "range"=none)(ha:PA X [a,b,c] ta)(hs:starEach [a,b,c] X.env=[(false,eval a X.env),(false,eval b X.env),(false,eval c X.env)]:=by rfl)
  (hs2:starEach [b,c] X.env=[(false,eval b X.env),(false,eval c X.env)]:=by rfl):PI X tg (.Call (.Name "range" p) [a,b,c] [] pos) (qC ta):=by
 intro pins s σ H R I h;refine Call_ (Dq I hg hm boot_range (PyProof.Rows.callWith_type1 (thn (ha pos pins s σ H _ I h) fun us s1 ⟨vs,H1,I1,r1,q1⟩=>?_) (by rw [hs,hs2]) (by rw [hs2];rfl)));obtain ⟨i,j,k,e,⟨q1,q2,q3,q4,q5,q6⟩,q⟩:=q1;subst e
 cases r1 with
 | cons r rr =>
  cases rr with
  | cons r' rr =>
   cases rr with
   | cons r'' rr =>
    cases rr;obtain ⟨t,rfl⟩:=r;obtain ⟨t',rfl⟩:=r';obtain ⟨t'',rfl⟩:=r'';refine call_range_3 (by omega) ?_ (.inl (PyProof.noPylong_small (by omega)));refine wpAny_pyIter_range (IsRange.new ..) (Yc q5 (by omega) (by omega) (by omega) (by omega) (by omega)) ?_;have I2:Inv X pins σ H1 { s1 with heap:=s1.heap.push { cls:=.type "range",data:=.fields #[.int i t,.int j t',.int k t''] },toks:=s1.toks }:=I1.kept fun b o e=>Heap.get?_push_of_some _ e;refine ⟨_,[_],_,_,H1,rfl,I2.kept (t':=s1.toks) fun b o e=>Heap.get?_push_of_some _ e,Jz _ i k (Cf i j k),?_,fun b hb=>?_,q⟩
    ·have e1:i+((0:Nat):Int)*k=i:=by simp
     have e2:((Cf i j k:Nat):Int)-((0:Nat):Int)=Builtin.Range.rangeSize i j k:=by rw [Po q5];simp
     show IsRangeIter _ _ (i+((0:Nat):Int)*k) (((Cf i j k:Nat):Int)-((0:Nat):Int)) k;rw [e1,e2];exact Heap.get?_push_size _ rfl
    ·have e:=List.mem_singleton.mp hb
     subst e;exact I2.fpOk (Nat.le_refl _) (I2.hok.fresh (Nat.le_refl _))
end
theorem Tk {lo st:Int}{n:Nat}{g:TG}{tb:TS}{D:K4}{σ:St}{H:Hp}(Pv:Nat->St->Hp->Prop)(h0:Pv 0 σ H)
  (hs:∀ (i:Nat) σ H,i<n->Pv i σ H->g (.int (lo+i*st)) σ H fun σ2 H2=>tb { D with nx:=Pv (i+1),ct:=Pv (i+1),bk:=D.nx } σ2 H2)(hd:∀ σ H,Pv n σ H->D.nx σ H):rW (Pr lo st n) g tb D σ H:=by
 refine ⟨fun i m σ H=>i<=n/\m=n-i/\Pv i σ H,⟨n,Nat.zero_le _,rfl,h0⟩,?_⟩;rintro i m σ H ⟨hi,rfl,hP⟩
 by_cases h:i=n
 ·subst h
  exact .inl ⟨Nat.le_refl _,hd σ H hP⟩
 ·have hlt:i<n:=Nat.lt_of_le_of_ne hi h
  refine .inr ⟨hlt,Pv (i+1),fun σ' H' hN=>⟨n-(i+1),by omega,hlt,rfl,hN⟩,fun x H' hy=>?_⟩;obtain ⟨rfl,rfl⟩:=hy;exact hs i σ _ hlt hP
theorem W7 {lo st:Int}{n:Nat}{H1:Hp}{fr:St}{tc:TT}{te:TE}{Q:VK}(acc:Nat->List V)(h0:acc 0=[])(hz:∀ i,i<n->(acc i).length<sizeLine)
  (turn:∀ (i:Nat) H (R:Hp->Prop) (A:VK),i<n->Am H1 H->(acc (i+1)=acc i->∀ H',Am H H'->R H')->(∀ y H',acc (i+1)=acc i++[y]->Am H H'->A y H') ->
   tc (some (.int (lo+i*st))::fr) H fun b H3=>if b=true then te (some (.int (lo+i*st))::fr) H3 A else R H3)
  (fin:∀ D H,H1 D=none->Am H1 H->H D=some (.lst (acc n))->Q (.ref D) H):N4 (Pr lo st n) H1 fr tc te Q :=
 Oz n (fun i=>.int (lo+i*st)) acc h0 hz (fun i H hi _=>hi) (fun i H x H' _ _ h=>⟨h.2,h.1⟩) (fun H _=>Nat.le_refl n) turn fin
theorem rS {tA:TA}{σ:St}{H:Hp}{R:It->Hp->Prop}(h:tA σ H fun vs H1=>∃ i j k:Int,vs=[.int i,.int j,.int k]/\(-(2 ^ 40)<=i/\i<2 ^ 40/\-(2 ^ 40)<=j/\j<2 ^ 40/\0<k/\k<2 ^ 29)/\R (Pr i k (Cf i j k)) H1):qC tA σ H R:=h
def fH (z:Str)(lo hi:Option Int):Str:=⟨((z.cps.toList.drop (HT.sIx z.cps.size 0 lo)).take (HT.sIx z.cps.size z.cps.size hi-HT.sIx z.cps.size 0 lo)).toArray⟩
def wE:V->Option Int->Option Int->Hp->VK->Prop:=fun x lo hi H Q=>∃ z,x=.str z/\z.length<=sizeLine/\Q (.str (fH z lo hi)) H
theorem tW (lo hi:Option Int)(n:Nat):Builtin.Str.strSliceIndices lo hi 1 n=(List.range (HT.sIx n n hi-HT.sIx n 0 lo)).map (HT.sIx n 0 lo + ·):=by
 have e:Builtin.Str.strSliceIndices lo hi 1 n=sliceRange ((HT.sIx n 0 lo:Nat):Int) ((HT.sIx n n hi:Nat):Int) 1:=by
  unfold Builtin.Str.strSliceIndices;dsimp only;congr 1
  ·cases lo with
   | none=>simp [HT.sIx]
   | some i =>
    simp only [HT.sIx,show (1:Int)>0 by decide,if_true]
    by_cases h:i<0
    ·simp only [h,if_true]
     omega
    ·simp only [h,if_false]
     omega
  ·cases hi with
   | none=>simp [HT.sIx]
   | some i =>
    simp only [HT.sIx,show (1:Int)>0 by decide,if_true]
    by_cases h:i<0
    ·simp only [h,if_true]
     omega
    ·simp only [h,if_false]
     omega
 rw [e,sliceRange_one]
theorem jM (z:Str)(t:Tok)(l u:Option (Int×Tok)):(sliceMade z t l u none=.val (.str z t)/\fH z (l.map (·.1)) (u.map (·.1))=z)\/sliceMade z t l u none=.str (fH z (l.map (·.1)) (u.map (·.1))):=by
 have hp:slicePicked z l u none=(List.range (HT.sIx z.length z.length (u.map (·.1))-HT.sIx z.length 0 (l.map (·.1)))).map (HT.sIx z.length 0 (l.map (·.1)) + ·):=tW _ _ _;have hc:(slicePicked z l u none).filterMap (z.cps[·]?)=(fH z (l.map (·.1)) (u.map (·.1))).cps.toList:=by
  rw [hp,pick_run];rfl
 unfold sliceMade;split
 ·rename_i hw
  left
  refine ⟨rfl,Gp ?_⟩;have hlen:(slicePicked z l u none).length=z.length:=by simpa using hw
  rw [hp,List.length_map,List.length_range] at hlen;have h1:=HT.sIx_le z.length 0 (Nat.zero_le _) (l.map (·.1));have h2:=HT.sIx_le z.length z.length (Nat.le_refl _) (u.map (·.1));have e1:HT.sIx z.length 0 (l.map (·.1))=0\/z.length=0:=by omega
  show ((z.cps.toList.drop (HT.sIx z.cps.size 0 (l.map (·.1)))).take _).toArray.toList=_;rw [show z.cps.size=z.length from rfl] at *;rcases e1 with e1 | e1
  ·rw [e1,Nat.sub_zero] at hlen
   rw [e1,hlen,Nat.sub_zero,List.drop_zero,List.toList_toArray];exact List.take_of_length_le (by simp [Str.length])
  ·have:z.cps.toList=[]:=by
    have:z.cps.size=0:=e1
    simpa using this
   rw [this];simp
 ·right
  rw [hc]
section
variable {X:Cx}
theorem iJ:SlR X wE:=by
 intro pins s σ H x v vl vu lo hi sl Q I rx hs pl pu h;obtain ⟨z,rfl,hz,q⟩:=h;obtain ⟨t,rfl⟩:=rx;refine ⟨"str",_,PySem.F.slot_str_getitem.lookup,typeIs_str _ _ _,?_⟩;obtain ⟨l,el,el'⟩:∃ l:Option (Int×Tok),vl=partValue l/\lo=l.map (·.1):=by
  cases pl with
  | none=>exact ⟨none,rfl,rfl⟩
  | int i t=>exact ⟨some (i,t),rfl,rfl⟩
 obtain ⟨u,eu,eu'⟩:∃ u:Option (Int×Tok),vu=partValue u/\hi=u.map (·.1):=by
  cases pu with
  | none=>exact ⟨none,rfl,rfl⟩
  | int i t=>exact ⟨some (i,t),rfl,rfl⟩
 subst el el' eu eu';refine wpAny_getItem_str_slice (l:=l) (u:=u) (st:=none) hs rfl ?_;rcases jM z t l u with ⟨e,e2⟩ | e
 ·rw [e]
  rw [e2] at q;exact ⟨.str z,H,I,⟨t,rfl⟩,q⟩
 ·rw [e]
  refine ⟨?_,.str _,H,I.tok _,⟨_,rfl⟩,q⟩;refine Nat.le_trans ?_ hz;show (List.take _ (List.drop _ z.cps.toList)).toArray.size<=z.cps.size;rw [List.size_toArray,List.length_take,List.length_drop];simp;omega
def Sf (z:Str):Str:=⟨z.cps.toList.reverse.toArray⟩
def vM (te:TE):TE:=fun σ H Q=>te σ H fun x H1=>∃ z,x=.str z/\z.length<=sizeLine/\Q (.str (Sf z)) H1
end
theorem qD:bootBuiltins "zip"=some (.type "zip"):=by decide +kernel
theorem Yi:bootBuiltins "enumerate"=some (.type "enumerate"):=by decide +kernel
theorem Inv.turnT {X:Cx}{pins:List (Addr×Obj)}{σ:List (Option V)}{H:Hp}{s:Shared}{h':Heap}{t':Nat}{wr:List Addr}{T:Addr}{xs:List V}{us:List Value}(I:Inv X pins σ H s)
  (k:∀ b o,b∉wr->s.heap.get? b=some o->h'.get? b=some o)(hf:∀ b∈wr,Mc X pins H b)(hT:s.heap.objs.size<=T)(hI:h'.IsTuple T us.toArray)(rv:Az xs us)(hz:xs.length<=sizeLine) :
  Inv X pins σ (upd H T (.tup xs)) { s with heap:=h',toks:=t' }:=by
 have hn:H T=none:=I.hok.fresh hT;have nT:∀ b u,H b=some u->b≠T:=fun b u e=>Ak e hn;have nW:∀ b u,H b=some u->b∉wr:=fun b u e z=>by rw [(hf b z).1] at e;cases e
 refine I.step (g':=s.gens) (d':=s.drawn) (ch:=wr) (fun b hb=>?_) (fun b o _ _ hc e _=>k b o hc e) (fun b o _ _ hc e _=>⟨o.slots,k b o hc e⟩) (fun b o hc e n=>?_)
  (fun b o hc e=>⟨o,k b o hc e⟩) (fun b xs e=>by rw [Ai (nT _ _ e)];exact e) (fun b o u e=>by rw [Ai (nT _ _ e)];exact e) (fun b ps e=>⟨#[],by rw [Ai (nT _ _ e),e];simp⟩) (fun m hm=>?_) (fun b u e=>?_) I.bare
 ·obtain ⟨_,f1,_,f3,f4,f5⟩:=hf b hb
  exact ⟨f3,f1,f4,f5⟩
 ·rw [Ai (Nat.ne_of_lt (Nat.lt_of_lt_of_le (Heap.lt_size e) hT))]
  exact n
 ·obtain ⟨o,es,ep,ho,r⟩:=hm
  exact ⟨o,es,ep,k _ o (fun z=>(hf _ z).2.1 rfl) ho,r⟩
 ·by_cases hb:b=T
  ·subst hb
   rw [Ab] at e;cases e;exact ⟨hz,us,rv,hI⟩
  ·rw [Ai hb] at e
   refine (I.hok b u e).stay (fun c v hc q=>k c v ?_ q) (fun c q=>by rw [Ai (nT _ _ q)];exact q) fun c ys q=>by rw [Ai (nT _ _ q)];exact q
   rcases hc with z | z
   ·rw [z];exact nW b u e
   ·exact nW c _ z
theorem Inv.turnW {X:Cx}{pins:List (Addr×Obj)}{σ:List (Option V)}{H:Hp}{s:Shared}{h':Heap}{t':Nat}{wr:List Addr}(I:Inv X pins σ H s)
  (k:∀ b o,b∉wr->s.heap.get? b=some o->h'.get? b=some o)(hf:∀ b∈wr,Mc X pins H b):Inv X pins σ H { s with heap:=h',toks:=t' }:=by
 have nW:∀ b u,H b=some u->b∉wr:=fun b u e z=>by rw [(hf b z).1] at e;cases e
 refine I.step (g':=s.gens) (d':=s.drawn) (ch:=wr) (fun b hb=>?_) (fun b o _ _ hc e _=>k b o hc e) (fun b o _ _ hc e _=>⟨o.slots,k b o hc e⟩) (fun b o hc e n=>n)
  (fun b o hc e=>⟨o,k b o hc e⟩) (fun _ _ e=>e) (fun _ _ _ e=>e) (fun b ps e=>⟨#[],by rw [e];simp⟩) (fun m hm=>?_) (fun b u e=>?_) I.bare
 ·obtain ⟨_,f1,_,f3,f4,f5⟩:=hf b hb
  exact ⟨f3,f1,f4,f5⟩
 ·obtain ⟨o,es,ep,ho,r⟩:=hm
  exact ⟨o,es,ep,k _ o (fun z=>(hf _ z).2.1 rfl) ho,r⟩
 ·refine (I.hok b u e).stay (fun c v hc q=>k c v ?_ q) (fun _ q=>q) fun _ _ q=>q
  rcases hc with z | z
  ·rw [z];exact nW b u e
  ·exact nW c _ z
theorem Fs {h:Heap}{a b:Addr}{o u:Obj}(h1:h.get? a=some o)(h2:h.get? b=some u)(d:o.cls≠u.cls):a≠b:=fun e=>by
 subst e;rw [h1] at h2;cases h2;exact d rfl
def Itz (K:PySem.W.Frag)(a b:Addr):It :=
 ⟨fun i H=>∃ xs ys x y,SqL K H a xs/\SqL K H b ys/\xs[i]?=some x/\ys[i]?=some y,
  fun i H v H'=>∃ t x y,H t=none/\v=.ref t/\(∀ xs,SqL K H a xs->xs[i]?=some x)/\(∀ ys,SqL K H b ys->ys[i]?=some y)/\H'=upd H t (.tup [x,y]),
  fun i H=>∃ xs ys,SqL K H a xs/\SqL K H b ys/\i=min xs.length ys.length⟩
def StZ (z TI TO i1 i2 l1 l2:Addr)(i:Nat)(h:Heap):Prop:=IsZip h z TI TO .none/\IsPair h TI (.ref i1) (.ref i2)/\(∃ a b,IsPair h TO a b)/\h.IsListIter i1 l1 i/\h.IsListIter i2 l2 i
structure Zh (z TI TO i1 i2:Addr):Prop where
 TIz:TI≠z
 TOz:TO≠z
 i1z:i1≠z
 i2z:i2≠z
 TITO:TI≠TO
 TIi1:TI≠i1
 TIi2:TI≠i2
 TOi1:TO≠i1
 TOi2:TO≠i2
 i12:i1≠i2
theorem Zy {h:Heap}{z TI TO i1 i2 a b:Addr}{i:Nat}{xs ys:Array Value}(D:Zh z TI TO i1 i2)(st:StZ z TI TO i1 i2 a b i h)(ha:h.IsList a xs)(hb:h.IsList b ys):ZipApart z TI TO i1 i2 a b:=by
 obtain ⟨hz,hTI,⟨u,v,hTO⟩,⟨o1,e1,c1,_⟩,⟨o2,e2,c2,_⟩⟩:=st;obtain ⟨oa,ea,ca,_⟩:=ha;obtain ⟨ob,eb,cb,_⟩:=hb;refine ⟨D.TIz,D.TOz,D.i1z,D.i2z,D.TITO,D.TIi1,D.TIi2,D.TOi1,D.TOi2,D.i12,Fs ea hz ?_,Fs ea hTO ?_,Fs ea e1 ?_,Fs ea e2 ?_,Fs eb hz ?_,Fs eb hTO ?_,Fs eb e1 ?_,Fs eb e2 ?_⟩
 ·rw [ca];exact show Value.type "list"≠Value.type "zip" by decide
 ·rw [ca];exact show Value.type "list"≠Value.type "tuple" by decide
 ·rw [ca,c1];decide
 ·rw [ca,c2];decide
 ·rw [cb];exact show Value.type "list"≠Value.type "zip" by decide
 ·rw [cb];exact show Value.type "list"≠Value.type "tuple" by decide
 ·rw [cb,c1];decide
 ·rw [cb,c2];decide
theorem Pq (n:Nat):Zh (n+4) (n+2) (n+3) n (n+1):=by
 constructor<;>(intro h;have h:(_:Nat)=_:=h;omega)
theorem vA {n c:Nat}(h:c=n+4\/c=n+2\/c=n+3\/c=n\/c=n+1):n<=c:=by omega
theorem vF {n c:Nat}(h:c=n+1\/c=n):n<=c:=by omega
theorem vL (n:Nat):n+1≠n:=by omega
theorem fV {P:Program}{w:World}{K:PySem.W.Frag}{elts:List Expr}{k:Nat}{pos:Pos}(z TI TO i1 i2 a b:Addr)(D:Zh z TI TO i1 i2) :
  Ps P w K (.Tuple elts k pos) (Itz K a b) [z,TI,TO,i1,i2] z (StZ z TI TO i1 i2 a b) where
 mem:=by simp
 obj:=fun i h st c hc=>by
  obtain ⟨hz,hTI,⟨u,v,hTO⟩,⟨o1,e1,c1,d1⟩,⟨o2,e2,c2,d2⟩⟩:=st;simp only [List.mem_cons,List.not_mem_nil,or_false] at hc;rcases hc with rfl | rfl | rfl | rfl | rfl
  ·exact ⟨_,hz,fun v z=>by cases z⟩
  ·exact ⟨_,hTI,fun v z=>by cases z⟩
  ·exact ⟨_,hTO,fun v z=>by cases z⟩
  ·exact ⟨_,e1,fun v z=>by rw [d1] at z;cases z⟩
  ·exact ⟨_,e2,fun v z=>by rw [d2] at z;cases z⟩
 keep:=fun i h h' st kk=>by
  obtain ⟨hz,hTI,⟨u,v,hTO⟩,h1,h2⟩:=st;exact ⟨kk _ (by simp) _ hz,kk _ (by simp) _ hTI,⟨u,v,kk _ (by simp) _ hTO⟩,h1.at fun o e=>kk _ (by simp) o e,h2.at fun o e=>kk _ (by simp) o e⟩
 item:=by
  intro X hP hw hK hc i pins s σ H E I hf st hg;subst hP hw hK;obtain ⟨xs,ys,x,y,ha,hb,hx,hy⟩:=hg;obtain ⟨its,rv,p,hz⟩:=I.list ha;obtain ⟨its2,rv2,p2,hz2⟩:=I.list hb;have W:=WalksT.zip2 (prog:=X.prog) (w:=X.w) (A:=X.A) (I.ok.hd hc) z TI TO i1 i2 a b (Zy D st p.isList p2.isList) its.toArray its2.toArray;obtain ⟨u1,hu1,ru1⟩:=rv.get hx;obtain ⟨u2,hu2,ru2⟩:=rv2.get hy;have l1:=(List.getElem?_eq_some_iff.mp hu1).1;have l2:=(List.getElem?_eq_some_iff.mp hu2).1;obtain ⟨s1,s2,s3,s4,s5⟩:=id st;refine W.item i s _ _ (by simp;omega) ⟨s1,s2,s3,s4,s5,p.isList,p2.isList⟩ fun T vals h' tk hv hT hTu mid kk=>?_;obtain ⟨v1,v2,e1,e2,rfl⟩:=hv;have e1:v1=u1:=by have:=e1;simp only [List.getElem?_toArray] at this;rw [hu1] at this;exact (Option.some.inj this).symm
  have e2:v2=u2:=by have:=e2;simp only [List.getElem?_toArray] at this;rw [hu2] at this;exact (Option.some.inj this).symm
  subst e1 e2;have nT:=W.apart i T h' mid;refine ⟨.ref T,rfl,W.go elts k pos i T { s with heap:=h',toks:=tk } _ _ mid fun h'' st'' kk2=>?_⟩;have hTu2:h''.IsTuple T ([v1,v2]:List Value).toArray:=by
   obtain ⟨o,e,r⟩:=hTu;exact ⟨o,kk2 T o nT e,r⟩
  have I2:Inv X pins σ (upd H T (.tup [x,y])) { s with heap:=h'',toks:=tk }:=I.turnT (t':=tk) (fun b o hb e=>kk2 b o hb (kk b o hb e)) (fun b hb=>hf b (by simp at hb ⊢;rcases hb with rfl | rfl | rfl | rfl<;>simp)) hT hTu2 (.cons ru1 (.cons ru2 .nil)) (show 2<=sizeLine by decide)
  refine ⟨.ref T,_,I2,rfl,⟨T,x,y,I.hok.fresh hT,rfl,fun xs' h=>by rw [I.list_inj h ha];exact hx,fun ys' h=>by rw [I.list_inj h hb];exact hy,rfl⟩,⟨st''.1,st''.2.1,st''.2.2.1,st''.2.2.2.1,st''.2.2.2.2.1⟩,fun c hc'=>?_⟩;have hlt:c<s.heap.objs.size:=by
   obtain ⟨q,⟨t1,t2,t3⟩⟩:c∈[z,TI,TO,i1,i2]/\(IsZip s.heap z TI TO .none/\IsPair s.heap TI (.ref i1) (.ref i2)/\True):=⟨hc',s1,s2,trivial⟩;obtain ⟨u,v,s3⟩:=s3;obtain ⟨o4,s4,_⟩:=s4;obtain ⟨o5,s5,_⟩:=s5;simp only [List.mem_cons,List.not_mem_nil,or_false] at hc';rcases hc' with rfl | rfl | rfl | rfl | rfl
   ·exact Heap.lt_size s1
   ·exact Heap.lt_size s2
   ·exact Heap.lt_size s3
   ·exact Heap.lt_size s4
   ·exact Heap.lt_size s5
  rw [Ai (Nat.ne_of_lt (Nat.lt_of_lt_of_le hlt hT))];exact (hf c hc').1
 done:=by
  intro X hP hw hK hc i pins s σ H E I hf st hg;subst hP hw hK;obtain ⟨xs,ys,ha,hb,hi⟩:=hg;obtain ⟨its,rv,p,hz⟩:=I.list ha;obtain ⟨its2,rv2,p2,hz2⟩:=I.list hb;have W:=WalksT.zip2 (prog:=X.prog) (w:=X.w) (A:=X.A) (I.ok.hd hc) z TI TO i1 i2 a b (Zy D st p.isList p2.isList) its.toArray its2.toArray;have hl:=rv.length;have hl2:=rv2.length;have hi2:i=min its.toArray.size its2.toArray.size:=by rw [hi,hl,hl2];simp
  obtain ⟨s1,s2,s3,s4,s5⟩:=id st;refine W.done s _ _ (by rw [<- hi2];exact ⟨s1,s2,s3,s4,s5,p.isList,p2.isList⟩) fun h' tk kk=>⟨rfl,?_⟩;exact I.turnW (t':=tk) kk fun b hb=>hf b (by simp at hb ⊢;rcases hb with rfl | rfl | rfl | rfl<;>simp)
 self:=fun _ _ _ _ _ st h=>wpAny_pyIter_zip st.1 h
section
variable {X:Cx} {elts:List Expr} {k:Nat} {tpos:Pos}
def vU (K:PySem.W.Frag)(ta:TA):TI:=fun σ H R=>ta σ H fun vs H1=>∃ a b,vs=[.ref a,.ref b]/\(∃ xs,SqL K H1 a xs)/\(∃ ys,SqL K H1 b ys)/\R (Itz K a b) H1
theorem rO {a b:Expr}{ta:TA}{p pos:Pos}(hg:Gl X "zip")(hm:X.mg "zip"=none)(ha:PA X [a,b] ta)(hs:starEach [a,b] X.env=[(false,eval a X.env),(false,eval b X.env)]:=by rfl)(hs2:starEach [b] X.env=[(false,eval b X.env)]:=by rfl) :
  PI X (.Tuple elts k tpos) (.Call (.Name "zip" p) [a,b] [] pos) (vU X.K ta):=by
 intro pins s σ H R I h;refine Call_ (Dq I hg hm qD (PyProof.Rows.callWith_type1 (thn (ha pos pins s σ H _ I h) fun us s1 ⟨vs,H1,I1,r1,q1⟩=>?_) (by rw [hs,hs2]) (by rw [hs2];rfl)));obtain ⟨a,b,e,⟨xs,hx⟩,⟨ys,hy⟩,q⟩:=q1;subst e;obtain ⟨u,v,rfl,ru,rv⟩:=R1 r1;cases ru;cases rv;obtain ⟨its,rv,p,hz⟩:=I1.list hx;obtain ⟨its2,rv2,p2,hz2⟩:=I1.list hy;refine call_zip_2 p.isList p2.isList fun h' g1 g2 g3 g4 g5 hsz kk=>?_;refine wpAny_pyIter_zip (s:={ s1 with heap:=h' }) g1 ?_;refine ⟨s1.heap.objs.size+4,[s1.heap.objs.size+4,s1.heap.objs.size+2,s1.heap.objs.size+3,s1.heap.objs.size,s1.heap.objs.size+1],_,_,H1,rfl,I1.kept (t':=s1.toks) kk,
  fV _ _ _ _ _ a b (Pq _),⟨g1,g2,⟨_,_,g3⟩,g4,g5⟩,fun c hc=>?_,q⟩
 have hle:s1.heap.objs.size<=c:=by
  simp only [List.mem_cons,List.not_mem_nil,or_false] at hc;exact vA hc
 exact I1.fpOk hle (I1.hok.fresh hle)
end
def Ite (K:PySem.W.Frag)(a:Addr):It :=
 ⟨fun i H=>∃ xs x,SqL K H a xs/\xs[i]?=some x,
  fun i H v H'=>∃ t x,H t=none/\v=.ref t/\(∀ xs,SqL K H a xs->xs[i]?=some x)/\H'=upd H t (.tup [.int i,x]),
  fun i H=>∃ xs,SqL K H a xs/\i=xs.length⟩
def StE (e it l:Addr)(i:Nat)(h:Heap):Prop:=(∃ old,IsEnum h e it i old)/\h.IsListIter it l i
theorem eM {P:Program}{w:World}{K:PySem.W.Frag}{elts:List Expr}{k:Nat}{pos:Pos}(e it a:Addr)(D:e≠it) :
  Ps P w K (.Tuple elts k pos) (Ite K a) [e,it] e (StE e it a) where
 mem:=by simp
 obj:=fun i h st c hc=>by
  obtain ⟨⟨old,he⟩,⟨o1,e1,c1,d1⟩⟩:=st;simp only [List.mem_cons,List.not_mem_nil,or_false] at hc;rcases hc with rfl | rfl
  ·exact ⟨_,he,fun v z=>by cases z⟩
  ·exact ⟨_,e1,fun v z=>by rw [d1] at z;cases z⟩
 keep:=fun i h h' st kk=>by
  obtain ⟨⟨old,he⟩,h1⟩:=st;exact ⟨⟨old,kk _ (by simp) _ he⟩,h1.at fun o e=>kk _ (by simp) o e⟩
 item:=by
  intro X hP hw hK hc i pins s σ H E I hf st hg;subst hP hw hK;obtain ⟨xs,x,ha,hx⟩:=hg;obtain ⟨its,rv,p,hz⟩:=I.list ha;obtain ⟨⟨old,s1⟩,s2⟩:=id st;have n1:a≠e:=by obtain ⟨oa,ea,ca,_⟩:=p.isList;exact Fs ea s1 (by rw [ca];exact show Value.type "list"≠Value.type "enumerate" by decide)
  have n2:a≠it:=by obtain ⟨oa,ea,ca,_⟩:=p.isList;obtain ⟨o1,e1,c1,_⟩:=s2;exact Fs ea e1 (by rw [ca,c1];decide)
  have W:=WalksT.enumerate (prog:=X.prog) (w:=X.w) (A:=X.A) (I.ok.hd hc) e it a D n1 n2 its.toArray;obtain ⟨u1,hu1,ru1⟩:=rv.get hx;have l1:=(List.getElem?_eq_some_iff.mp hu1).1;refine W.item i s _ _ (by simpa using l1) ⟨⟨old,s1⟩,s2,p.isList⟩ fun T vals h' tk hv hT hTu mid kk=>?_;obtain ⟨t,v1,e1,rfl⟩:=hv;have e1:v1=u1:=by have:=e1;simp only [List.getElem?_toArray] at this;rw [hu1] at this;exact (Option.some.inj this).symm
  subst e1;have nT:=W.apart i T h' mid;refine ⟨.ref T,rfl,W.go elts k pos i T { s with heap:=h',toks:=tk } _ _ mid fun h'' st'' kk2=>?_⟩;have hTu2:h''.IsTuple T ([Value.int (i:Int) t,v1]:List Value).toArray:=by
   obtain ⟨o,e,r⟩:=hTu;exact ⟨o,kk2 T o nT e,r⟩
  have I2:Inv X pins σ (upd H T (.tup [.int i,x])) { s with heap:=h'',toks:=tk }:=I.turnT (t':=tk) (fun b o hb e=>kk2 b o hb (kk b o hb e)) (fun b hb=>hf b hb) hT hTu2 (.cons ⟨t,rfl⟩ (.cons ru1 .nil)) (show 2<=sizeLine by decide);refine ⟨.ref T,_,I2,rfl,⟨T,x,I.hok.fresh hT,rfl,fun xs' h=>by rw [I.list_inj h ha];exact hx,rfl⟩,⟨?_,st''.2.1⟩,fun c hc'=>?_⟩
  ·exact st''.1
  have hlt:c<s.heap.objs.size:=by
   obtain ⟨o5,s5,_⟩:=s2;simp only [List.mem_cons,List.not_mem_nil,or_false] at hc';rcases hc' with rfl | rfl
   ·exact Heap.lt_size s1
   ·exact Heap.lt_size s5
  rw [Ai (Nat.ne_of_lt (Nat.lt_of_lt_of_le hlt hT))];exact (hf c hc').1
 done:=by
  intro X hP hw hK hc i pins s σ H E I hf st hg;subst hP hw hK;obtain ⟨xs,ha,hi⟩:=hg;obtain ⟨its,rv,p,hz⟩:=I.list ha;obtain ⟨⟨old,s1⟩,s2⟩:=id st;have n1:a≠e:=by obtain ⟨oa,ea,ca,_⟩:=p.isList;exact Fs ea s1 (by rw [ca];exact show Value.type "list"≠Value.type "enumerate" by decide)
  have n2:a≠it:=by obtain ⟨oa,ea,ca,_⟩:=p.isList;obtain ⟨o1,e1,c1,_⟩:=s2;exact Fs ea e1 (by rw [ca,c1];decide)
  have W:=WalksT.enumerate (prog:=X.prog) (w:=X.w) (A:=X.A) (I.ok.hd hc) e it a D n1 n2 its.toArray;have hl:=rv.length;have hi2:i=its.toArray.size:=by rw [hi,hl];simp
  refine W.done s _ _ (by rw [<- hi2];exact ⟨⟨old,s1⟩,s2,p.isList⟩) fun h' tk kk=>⟨rfl,?_⟩;exact I.turnW (t':=tk) kk fun b hb=>hf b hb
 self:=fun _ _ _ _ _ st h=>wpAny_pyIter_enum (Classical.choose_spec st.1) h
section
variable {X:Cx} {elts:List Expr} {k:Nat} {tpos:Pos}
def pV (K:PySem.W.Frag)(ta:TA):TI:=fun σ H R=>ta σ H fun vs H1=>∃ a,vs=[.ref a]/\(∃ xs,SqL K H1 a xs)/\R (Ite K a) H1
theorem T6 {a:Expr}{ta:TA}{p pos:Pos}(hg:Gl X "enumerate")(hm:X.mg "enumerate"=none)(ha:PA X [a] ta)(hs:starEach [a] X.env=[(false,eval a X.env)]:=by rfl) :
  PI X (.Tuple elts k tpos) (.Call (.Name "enumerate" p) [a] [] pos) (pV X.K ta):=by
 intro pins s σ H R I h;refine Call_ (Dq I hg hm Yi (PyProof.Rows.callWith_type1 (thn (ha pos pins s σ H _ I h) fun us s1 ⟨vs,H1,I1,r1,q1⟩=>?_) hs rfl));obtain ⟨a,e,⟨xs,hx⟩,q⟩:=q1;subst e;obtain ⟨u,rfl,ru⟩:=E7 r1;cases ru;obtain ⟨its,rv,p,hz⟩:=I1.list hx;refine call_enumerate_list p.isList fun h' g1 g2 hsz kk=>?_;refine wpAny_pyIter_enum (s:={ s1 with heap:=h' }) g1 ?_;refine ⟨s1.heap.objs.size+1,[s1.heap.objs.size+1,s1.heap.objs.size],_,_,H1,rfl,I1.kept (t':=s1.toks) kk,
  eM _ _ a (vL _),⟨⟨_,g1⟩,g2⟩,fun c hc=>?_,q⟩
 have hle:s1.heap.objs.size<=c:=by
  simp only [List.mem_cons,List.not_mem_nil,or_false] at hc;exact vF hc
 exact I1.fpOk hle (I1.hok.fresh hle)
end
structure Ma (N₀:List Str) (sc₀ sc:Scope) (x1 x2:Str) (N:List Str) (ix:List Nat):Prop where
 kind:sc.kind=.function
 nocell:∀ y∈sc.names,y.2≠.cell
 names:∀ y∈sc.names,y.2=.local->sc.names.lookup y.1=some .local
 free:∀ y∈sc.names,y.2=.free->sc₀.names.lookup y.1=some .cell
 nd:N.Nodup
 hd:N[0]?=some x1
 hd2:N[1]?=some x2
 loc:sc.names.lookup x1=some .local
 loc2:sc.names.lookup x2=some .local
 len:N.length=ix.length+2
 at_:∀ p∈N.tail.tail.zip ix,N₀[p.2]?=some p.1/\sc.names.lookup p.1=some .free
def Xi (K:PySem.W.Frag)(J:It)(H1:Hp)(fr:St)(tc:TT)(te:TE)(Q:VK):Prop:=∀ D,H1 D=none->∃ W:Nat->Nat->Hp->Prop,(∃ m,W 0 m (upd H1 D (.lst [])))/\∀ i m H,W i m H ->
 (J.stop i H/\Q (.ref D) H)\/(J.go i H/\∀ v H',J.yld i H v H'->∃ a x y,v=.ref a/\SqT K H' a [x,y]/\tc (some x::some y::fr) H' fun b H3 =>
  if b=true then te (some x::some y::fr) H3 fun y H4=>∃ ys,H4 D=some (.lst ys)/\ys.length<sizeLine/\∃ m',m'<m/\W (i+1) m' (upd H4 D (.lst (ys++[y]))) else ∃ m',m'<m/\W (i+1) m' H3)
def vT (K:PySem.W.Frag)(wi:TI)(ix:List Nat)(tc:TT)(te:TE):TE:=fun σ H Q=>wi σ H fun J H1=>Xi K J H1 (frV σ ix) tc te Q
section
variable {X:Cx} {scope:Scope} {N:List Str} {ix:List Nat} {x1 x2:Str} {px px2 ppos:Pos} {kk:Nat} {elt iter:Expr} {ifs:List Expr} {tc:TT} {te:TE} {pos:Pos}
theorem qS {pins:List (Addr×Obj)}{σ:St}{H2:Hp}{s2:Shared}{J:It}{fp:List Addr}{it:Addr}{tn:Nat->Heap->Prop}{tg:Expr}(L:Ma X.N X.env.scope scope x1 x2 N ix)(I2:Inv X pins σ H2 s2)
  (T:Ps X.prog X.w X.K tg J fp it tn)(st2:tn 0 s2.heap)(f2:∀ b∈fp,Mc X pins H2 b){C:Addr}{s3 s4:Shared}{H3:Hp}(I3:Inv X pins σ H3 s3)(I4:Inv X pins σ H3 s4)(hle:s2.heap.objs.size<=s3.heap.objs.size)
  (hC:C=s3.heap.objs.size)(ho:s4.os=s3.os)(kp:∀ b u,s3.heap.get? b=some u->s4.heap.get? b=some u){m:Str->Option Value}(hns:s4.heap.Ns C m):Inv (Dm X scope N C s3 H3 fp) [] (none::none::frV σ ix) H3 s4:=by
 have hfree:∀ y∈scope.names,y.2=.free->∃ c,X.env.cells.lookup y.1=some c:=fun y hy hf=>I2.ok.has y.1 (.inl (L.free y hy hf));have sub:∀ y c,(Do X.env scope.names []).lookup y=some c->X.env.cells.lookup y=some c:=fun y c h=>Hk _ _ y c hfree (fun _ _ z=>by simp at z) h;have lt2:∀ b∈fp,b<s2.heap.objs.size:=fun b hb=>by obtain ⟨o,e,_⟩:=T.obj _ _ st2 b hb;exact Heap.lt_size e
 have okY:(Dm X scope N C s3 H3 fp).Ok:=by
  refine ⟨I2.ok.mod,L.kind,I2.ok.glob,I2.ok.blt,Nat.le_of_eq hC.symm,fun y z c h1 h2=>I2.ok.inj y z c (sub y c h1) (sub z c h2),fun y hy=>?_,fun y c z _=>?_,I2.ok.hd,I2.ok.frames,.inl rfl,fun b hb=>⟨?_,fun y c h=>(f2 b hb).2.2.2.2.1 y c (sub y c h)⟩,
   I3.bs,Nat.le_trans I3.ok.bsz I3.sz,fun b o e hb=>?_,fun b hb z=>?_,I3.stack,I3.stkFree⟩
  ·have hk:(y,NameKind.free)∈scope.names:=by
    rcases hy with hy | hy
    ·rcases Io hy with q | q
     ·exact absurd rfl (L.nocell _ q)
     ·exact q.1
    ·rcases Io hy with q | q
     ·exact q
     ·exact absurd q.2 (by decide)
   exact Option.isSome_iff_exists.mp (Eo _ _ y hk)
  ·cases (show false=true from z)
  ·have l:=lt2 b hb
   show b≠C;rw [hC];exact Nat.ne_of_lt (Nat.lt_of_lt_of_le l hle)
  ·rcases (f2 b hb).2.2.2.1 with q | q
   ·exact I2.ok.noex b o e q
   ·exact absurd (Nat.lt_of_lt_of_le (Heap.lt_size e) (Nat.le_trans I2.ok.bsz q)) (Nat.lt_irrefl _)
  ·rcases List.mem_cons.mp (I2.stkSub b z) with q | q
   ·exact (f2 b hb).2.1 q
   ·exact (f2 b hb).2.2.1 q
 refine ⟨okY,ho,I4.bare,Un.kept kp,⟨m,hns,fun i y v h1 h2 h3=>?_⟩,fun y c e=>I4.cell y c (sub y c e),?_,fun y c e=>I4.freeC y c (sub y c e),fun p hp=>absurd (show p∈([]:List (Addr×Obj)) from hp) (by simp),I4.hok,?_⟩
 ·cases i with
  | zero=>cases (show some none=some (some v) from h2)
  | succ k =>
   cases k with
   | zero=>cases (show some none=some (some v) from h2)
   | succ k =>
   have h2:(frV σ ix)[k]?=some (some v):=h2;have h1:N[k+1+1]?=some y:=h1;unfold frV at h2;rw [List.getElem?_map] at h2
   cases hj:ix[k]? with
   | none=>rw [hj] at h2;cases h2
   | some j =>
    rw [hj] at h2;have h2:(σ[j]?).getD none=some v:=Option.some.inj h2;have h2':σ[j]?=some (some v):=by
     cases e:σ[j]? with
     | none=>rw [e] at h2;cases h2
     | some z=>rw [e] at h2;exact congrArg some h2
    have ht:N.tail.tail[k]?=some y:=by rw [List.getElem?_tail,List.getElem?_tail];exact h1
    have hz:(y,j)∈N.tail.tail.zip ix:=List.mem_of_getElem? (i:=k) (by rw [List.getElem?_zip_eq_some];exact ⟨ht,hj⟩);obtain ⟨q1,q2⟩:=L.at_ _ hz;have hm:=PySem.mem_of_lookup q2;have hcell:=L.free _ hm rfl;obtain ⟨m',hn',hl'⟩:=I4.loc;obtain ⟨u,r,lk⟩:=hl' j y v q1 h2' (.inr (.inl hcell));refine ⟨u,r,.inr ⟨.inl (Lw I2.ok.kind hcell q2),?_⟩⟩;rcases lk with lk | ⟨_,c,e,z⟩
    ·rw [show X.env.kindOf y=some .cell from hcell] at lk
     cases lk.1
    ·obtain ⟨c',e'⟩:=Option.isSome_iff_exists.mp (Eo (env:=X.env) scope.names [] y hm)
     have e2:=sub y c' e';rw [e] at e2;cases e2;exact ⟨c,e',z⟩
 ·show H3 C=none
  exact I3.hok.fresh (Nat.le_of_eq hC.symm)
 ·show (none::none::frV σ ix).length=N.length
  rw [L.len];simp [frV]
theorem nQ {tgt:Expr}(htg:tgt=.Tuple [.Name x1 px,.Name x2 px2] kk ppos){pins:List (Addr×Obj)}{σ:St}{H2:Hp}{s2:Shared}{J:It}{fp:List Addr}{it:Addr}{tn:Nat->Heap->Prop}(hc:X.calm=true)(L:Ma X.N X.env.scope scope x1 x2 N ix)(I2:Inv X pins σ H2 s2)
  (T:Ps X.prog X.w X.K tgt J fp it tn)(st2:tn 0 s2.heap)(f2:∀ b∈fp,Mc X pins H2 b)
  (hif:∀ C s H,PIf (Dm X scope N C s H fp) ifs tc)(he:∀ C s H,PE (Dm X scope N C s H fp) elt te){Q:VK}(rd:Xi X.K J H2 (frV σ ix) tc te Q){RR:Value->Addr->Result->Shared->Prop}{E:Value->Shared->Prop}
  (fin:∀ D C H' s' m,Inv X pins σ H' s'->s2.heap.objs.size<=C->H' C=none->s'.heap.Ns C m->Q (.ref D) H'->RR (.ref D) C (.ok .next) s') :
  wpAny (model X.prog X.w) X.A (newList []) (fun acc s3=>wpAny (model X.prog X.w) X.A (newFunctionEnv scope X.env.globals (Do X.env scope.names []) [] X.env.qual none .none (some X.env)) (fun cenv s4 =>
   codeAny (model X.prog X.w) X.A (.compStart (.ListComp elt [⟨tgt,iter,ifs,0⟩] scope pos) 0 (.ref it) acc { cenv with scope:=relabel scope X.env }) (RR acc cenv.locals) s4) E s3) E s2:=by
 refine wpAny_newObj_type (wpAny_newFunctionEnv L.nocell (by intro y hy;simp at hy) (fun h1 hns hsb=>?_) L.kind);dsimp only at hns hsb ⊢;have I3:Inv X pins σ (upd H2 s2.heap.objs.size (.lst [])) { s2 with heap:=s2.heap.push { cls:=.type "list",dict:=none,data:=.seq ([]:List Value).toArray } }:=I2.lnew (its:=[]) (t':=s2.toks) .nil (Nat.zero_le _);generalize hH3:s2.heap.push { cls:=.type "list",dict:=none,data:=.seq ([]:List Value).toArray }=h3 at hns hsb I3 ⊢;have hsz:h3.objs.size=s2.heap.objs.size+1:=by rw [<- hH3,Heap.size_push]
 have kp34:∀ b u,h3.get? b=some u->h1.get? b=some u:=fun b u e=>hsb.extBut b u (Nat.ne_of_lt (Heap.lt_size e)) (Heap.get?_push_of_some _ e);have I4:Inv X pins σ (upd H2 s2.heap.objs.size (.lst [])) { s2 with heap:=h1,toks:=s2.toks+([]:List (Str×Value)).length }:=I3.kept (t':=s2.toks+([]:List (Str×Value)).length) kp34;have kp24:∀ b u,s2.heap.get? b=some u->h1.get? b=some u:=fun b u e=>kp34 b u (by rw [<- hH3];exact Heap.get?_push_of_some _ e);have IY:=qS (C:=h3.objs.size) (s3:={ s2 with heap:=h3 }) L I2 T st2 f2 I3 I4 (by show s2.heap.objs.size<=h3.objs.size;omega) rfl rfl kp34 hns;have fD:H2 s2.heap.objs.size=none:=I2.hok.fresh (Nat.le_refl _);have lt2:∀ b∈fp,b<s2.heap.objs.size:=fun b hb=>by obtain ⟨o,e,_⟩:=T.obj _ _ st2 b hb;exact Heap.lt_size e
 have st4:tn 0 h1:=T.keep _ _ _ st2 fun b _ o e=>kp24 b o e;have stat:∀ {pn:List (Addr×Obj)} {H':Hp},pn=[]->(∀ b∈fp,H' b=none)->∀ b∈fp,Mc (Dm X scope N h3.objs.size { s2 with heap:=h3 } (upd H2 s2.heap.objs.size (.lst [])) fp) pn H' b:=fun hp hn b hb=>by
  subst hp;exact ⟨hn b hb,(IY.ok.exf b hb).1,IY.ok.exfs b hb,.inl hb,(IY.ok.exf b hb).2,fun p hp=>absurd (show p∈([]:List (Addr×Obj)) from hp) (by simp)⟩
 obtain ⟨W,⟨m0,w0⟩,turn⟩:=rd _ fD;have loop:codeAny (model X.prog X.w) X.A (.compLoop (.ListComp elt [⟨tgt,iter,ifs,0⟩] scope pos) 0 (.ref it) (.ref s2.heap.objs.size) (compEnvC scope (Do X.env scope.names []) h3.objs.size X.env)) (RR (.ref s2.heap.objs.size) h3.objs.size)
   { s2 with heap:=h1,toks:=s2.toks+([]:List (Str×Value)).length }:=by
  refine bU (fun n s'=>∃ i H',Inv (Dm X scope N h3.objs.size { s2 with heap:=h3 } (upd H2 s2.heap.objs.size (.lst [])) fp) [] (none::none::frV σ ix) H' s'/\tn i s'.heap/\(∀ b∈fp,H' b=none)/\W i n H') ?_ m0
   ⟨0,_,IY,st4,fun b hb=>by rw [Ai (Nat.ne_of_lt (lt2 b hb))];exact (f2 b hb).1,w0⟩
  rintro n s5 ⟨i,H5,I5,st5,fr5,w5⟩;rcases turn i n H5 w5 with ⟨stop,q⟩ | ⟨go,step⟩
  ·refine thn (T.done (Dm X scope N h3.objs.size { s2 with heap:=h3 } (upd H2 s2.heap.objs.size (.lst [])) fp) rfl rfl rfl hc i [] s5 _ H5 (fun _ _=>False) I5 (stat rfl fr5) st5 stop) fun r s6 ⟨hr,I6⟩=>?_
   subst hr;obtain ⟨m6,hn6,_⟩:=I6.loc;have u1:Un (frs X.stack) fp H2 (upd H2 s2.heap.objs.size (.lst [])) s2.heap h3:=Un.laid (fun b u e=>by rw [<- hH3];exact Heap.get?_push_of_some _ e) (Nat.le_refl _) fD;have back:Inv X pins σ H5 s6:=I2.call' (ch:=fp) (I6.os.trans rfl) (u1.trans I6.base) I6.hok I6.bare fun b hb=>⟨(f2 b hb).2.2.2.1,(f2 b hb).2.1,(f2 b hb).2.2.2.2.1,(f2 b hb).2.2.2.2.2⟩;exact fin _ _ H5 s6 m6 back (by omega) I6.free hn6 q
  ·refine thn (T.item (Dm X scope N h3.objs.size { s2 with heap:=h3 } (upd H2 s2.heap.objs.size (.lst [])) fp) rfl rfl rfl hc i [] s5 _ H5 (fun _ _=>False) I5 (stat rfl fr5) st5 go) fun r s6 ⟨u,hr,h6⟩=>?_
   subst hr;refine thn h6 fun _ s7 ⟨y,H7,I7,r7,y7,st7,fr7⟩=>?_;have I7':=I7.pinned (stat rfl fr7) (T.obj _ _ st7);have hg:PG (Dm X scope N h3.objs.size { s2 with heap:=h3 } (upd H2 s2.heap.objs.size (.lst [])) fp) tgt (lG X.K 2 (J5 (E8 0) (J5 (E8 1) gE))):=by
    rw [htg];exact Qy hc (Dc (Bc L.nd L.hd (.inl (lookup_relabel_local L.loc)) (.inr (lookup_relabel_local L.loc))) (Dc (Bc L.nd L.hd2 (.inl (lookup_relabel_local L.loc2)) (.inr (lookup_relabel_local L.loc2))) M7))
   obtain ⟨ta,y1,y2,ey,hTu,hst⟩:=step y _ y7;refine thn (hg _ s7 _ H7 y u (fun σ' H'=>σ'=some y1::some y2::frV σ ix/\H'=H7) I7' r7 ⟨ta,[y1,y2],ey,hTu,rfl,y1,[y2],rfl,y2,[],rfl,rfl,rfl,rfl⟩) fun _ s8 ⟨σ8,H8,I8,e8,e8'⟩=>?_;subst e8 e8';refine thn (hif _ _ _ _ s8 _ _ _ I8 hst) fun ok s9 ⟨H9,I9,q9⟩=>?_;have again:∀ {sz:Shared} {Hz:Hp} {m':Nat},Inv (Dm X scope N h3.objs.size { s2 with heap:=h3 } (upd H2 s2.heap.objs.size (.lst [])) fp) ([]++Ng fp s7.heap) (some y1::some y2::frV σ ix) Hz sz->m'<n->W (i+1) m' Hz ->
     ∃ m,m<n/\∃ i H',Inv (Dm X scope N h3.objs.size { s2 with heap:=h3 } (upd H2 s2.heap.objs.size (.lst [])) fp) [] (none::none::frV σ ix) H' sz/\tn i sz.heap/\(∀ b∈fp,H' b=none)/\W i m H':=fun {sz Hz m'} Iz hm wz=>by
    refine ⟨m',hm,i+1,Hz,Iz.unpinned.weak (by simp) (fun j v e=>?_),T.keep _ _ _ st7 fun b hb o e=>(Iz.pin (b,o) (List.mem_append_right _ (List.mem_append_right _ (Fd hb e)))).1,fun b hb=>?_,wz⟩
    ·cases j with
     | zero=>cases e
     | succ j =>
      cases j with
      | zero=>cases e
      | succ j=>exact e
    ·obtain ⟨o,e,d⟩:=T.obj _ _ st7 b hb
     exact (Iz.pin (b,o) (List.mem_append_right _ (List.mem_append_right _ (Fd hb e)))).2.1
   cases ok with
   | false =>
    obtain ⟨m',hm,wz⟩:=q9;exact again I9 hm wz
   | true =>
    refine thn (he _ _ _ _ s9 _ _ _ I9 q9) fun xv s10 ⟨z,H10,I10,r10,ys,hD,hl,m',hm,wz⟩=>?_;refine thn (Bv _ s10 _ H10 (.ref s2.heap.objs.size) [z] (.ref s2.heap.objs.size) [xv] (fun _ Hz=>Hz=upd H10 s2.heap.objs.size (.lst (ys++[z]))) I10 rfl (.cons r10 .nil) ⟨_,ys,z,rfl,rfl,hD,hl,rfl⟩) fun _ s11 ⟨_,H11,I11,_,q11⟩=>?_;subst q11;exact again I11 hm wz
 exact codeAny_compStart_list loop (T.self X.A 0 _ _ _ st4 loop)
theorem dZ {wi:TI}{i:Nat}{y:Str}{py spos:Pos}(hc:X.calm=true)(L:Ma X.N X.env.scope scope x1 x2 N ix)(hN:X.N.Nodup)(hy:X.N[i]?=some y)(hl:X.env.scope.names.lookup y=some .local)
  (hi:PI X (.Tuple [.Name x1 px,.Name x2 px2] kk ppos) iter wi)(hif:∀ C s H fp,PIf (Dm X scope N C s H fp) ifs tc)(he:∀ C s H fp,PE (Dm X scope N C s H fp) elt te)
  (hsw:swapsWith (.ListComp elt [⟨.Tuple [.Name x1 px,.Name x2 px2] kk ppos,iter,ifs,0⟩] scope pos) (some (.Name y py)) spos.line X.env=pure true:=by rfl)
  (hs:∀ z,foldedSetIterable iter X.env z=pure z:=by intro _;rfl):PS X (.Assign [.Name y py] (.ListComp elt [⟨.Tuple [.Name x1 px,.Name x2 px2] kk ppos,iter,ifs,0⟩] scope pos) spos) (jI (vT X.K wi ix tc te) (E8 i)):=by
 intro pins s σ H D I h;have hfree:∀ y∈scope.names,y.2=.free->∃ c,X.env.cells.lookup y.1=some c:=fun y hy hf=>I.ok.has y.1 (.inl (L.free y hy hf));rw [exec_Assign_Name_used _ _ _ _ hsw];refine wpAny_bind (wpAny_standAt (wpAny_bind ?_));show wpAny _ X.A (do let _ <- comprehension (.ListComp elt [⟨.Tuple [.Name x1 px,.Name x2 px2] kk ppos,iter,ifs,0⟩] scope pos) scope X.env _ (newList []) false (eval iter X.env) (some (assign (.Name y py) X.env))) _ _ s;refine wpAny_bind (thn (Q:=fun _ s'=>SP X pins D .next s') (wpAny_comprehension_free (use:=some (assign (.Name y py) X.env)) rfl hs (Ij hfree) L.kind L.names (thn (hi pins s σ H _ I h) fun v s1 h1=>thn h1 fun itv s2 h2=>?_)) fun _ s' hq=>wpAny_pure (wpAny_pure hq));obtain ⟨it,fp,tn,J,H2,e,I2,T,st2,f2,rd⟩:=h2;subst e;refine nQ (RR:=fun acc C=>compPost (model X.prog X.w) X.A X.xe (some (assign (.Name y py) X.env)) _ acc C) rfl hc L I2 T st2 f2 (fun C s H=>hif C s H fp) (fun C s H=>he C s H fp) rd fun Da C H' s' m I' hC hf hn q=>?_;have l2:=I2.lt;have nC:C≠X.env.locals:=Nat.ne_of_gt (Nat.lt_of_lt_of_le l2 hC);have nF:C∉X.fs:=I2.nofs hC;obtain ⟨oC,es,ep,hget,hdat,hrest⟩:=id hn;have Ip:Inv X (pins++[(C,oC)]) σ H' s':=I'.pins_of fun p hp=>(List.mem_append.mp hp).elim (fun z=>I'.pin p (List.mem_append_right _ z)) fun z=>by
  have e:p=(C,oC):=by simpa using z
  subst e;exact ⟨hget,hf,nC,nF,fun v z=>by rw [hdat] at z;cases z⟩
 have hg:PG X (.Name y py) (E8 i):=Bc hN hy (.inl hl) (.inr hl);show wpAny _ X.A (assign (.Name y py) X.env (.ref Da)) _ _ s';refine thn (hg _ s' σ H' (.ref Da) (.ref Da) D.nx Ip rfl q) fun _ s'' ⟨σ'',H'',I'',q''⟩=>?_;obtain ⟨g1,g2,_⟩:=I''.pin (C,oC) (List.mem_append_right _ (List.mem_append_right _ (by simp)));refine ⟨m,⟨oC,es,ep,g1,hdat,hrest⟩,fun h' hsb=>⟨σ'',H'',?_,q''⟩⟩;refine I''.unpinned.turned (t':=s''.toks) (it:=C) (fun b o hb e=>hsb.extBut b o hb e) g2 nC (.inr (Nat.le_trans I2.sz hC)) (fun y c e=>?_) fun p hp=>?_
 ·obtain ⟨v,hv⟩:=I2.cell y c e
  exact Nat.ne_of_lt (Nat.lt_of_lt_of_le hv.lt hC)
 ·exact Nat.ne_of_lt (Nat.lt_of_lt_of_le (Heap.lt_size (I2.pin p hp).1) hC)
end
theorem sQ {K:PySem.W.Frag}{tA:TA}{σ:St}{H:Hp}{R:It->Hp->Prop}(h:tA σ H fun vs H1=>∃ a b,vs=[.ref a,.ref b]/\(∃ xs,SqL K H1 a xs)/\(∃ ys,SqL K H1 b ys)/\R (Itz K a b) H1):vU K tA σ H R:=h
theorem mZ {K:PySem.W.Frag}{tA:TA}{σ:St}{H:Hp}{R:It->Hp->Prop}(h:tA σ H fun vs H1=>∃ a,vs=[.ref a]/\(∃ xs,SqL K H1 a xs)/\R (Ite K a) H1):pV K tA σ H R:=h
theorem vQ {K:PySem.W.Frag}{σ:St}{H:Hp}{Q:VK}{wi:TI}{ix:List Nat}{tc:TT}{te:TE}(h:wi σ H fun J H1=>Xi K J H1 (frV σ ix) tc te Q):vT K wi ix tc te σ H Q:=h
theorem mI {K:PySem.W.Frag}{σ:St}{H:Hp}{R:St->Hp->Prop}{a:Addr}{x y:V}{i j:Nat}(hs:SqT K H a [x,y])(h:R ((σ.set i (some x)).set j (some y)) H):lG K 2 (J5 (E8 i) (J5 (E8 j) gE)) (.ref a) σ H R :=
 ⟨a,[x,y],rfl,hs,rfl,x,[y],rfl,y,[],rfl,rfl,h⟩
theorem gM {K:PySem.W.Frag}{J:It}{H1:Hp}{fr:St}{tc:TT}{te:TE}{Q:VK}(n:Nat)(f1 f2:Nat->V)(acc:Nat->List V)(h0:acc 0=[])(hz:∀ i,i<n->(acc i).length<sizeLine)
  (hgo:∀ i H,i<n->Am H1 H->J.go i H)(hy:∀ i H v H',i<n->Am H1 H->J.yld i H v H'->∃ a,v=.ref a/\SqT K H' a [f1 i,f2 i]/\Am H H')(hst:∀ H,Am H1 H->J.stop n H)
  (turn:∀ i H (R:Hp->Prop) (A:VK),i<n->Am H1 H->(acc (i+1)=acc i->∀ H',Am H H'->R H')->(∀ y H',acc (i+1)=acc i++[y]->Am H H'->A y H') ->
   tc (some (f1 i)::some (f2 i)::fr) H fun b H3=>if b=true then te (some (f1 i)::some (f2 i)::fr) H3 A else R H3)
  (fin:∀ D H,H1 D=none->Am H1 H->H D=some (.lst (acc n))->Q (.ref D) H):Xi K J H1 fr tc te Q:=by
 intro D hD;refine ⟨fun i m H=>i<=n/\m=n-i/\Am H1 H/\H D=some (.lst (acc i)),⟨n,Nat.zero_le _,rfl,Ah hD,by rw [Ab,h0]⟩,?_⟩;rintro i m H ⟨hi,rfl,sm,hl⟩
 by_cases h:i=n
 ·subst h
  exact .inl ⟨hst H sm,fin D H hD sm hl⟩
 ·have hlt:i<n:=Nat.lt_of_le_of_ne hi h
  refine .inr ⟨hgo i H hlt sm,fun v H' hyl=>?_⟩;obtain ⟨a,rfl,ht,s2⟩:=hy i H v H' hlt sm hyl;refine ⟨a,_,_,rfl,ht,turn i H' _ _ hlt (sm.trans s2) (fun ea H3 s3=>?_) (fun y H4 ea s4=>?_)⟩
  ·exact ⟨n-(i+1),by omega,by omega,rfl,(sm.trans s2).trans s3,by rw [ea];exact s3 _ _ (s2 _ _ hl)⟩
  ·refine ⟨acc i,s4 _ _ (s2 _ _ hl),hz i hlt,n-(i+1),by omega,by omega,rfl,fun b u e=>?_,by rw [Ab,ea]⟩
   rw [Ai (Ak e hD)];exact s4 _ _ (s2 _ _ (sm _ _ e))
theorem tS {K:PySem.W.Frag}{a b:Addr}{xs ys:List V}{H1:Hp}{fr:St}{tc:TT}{te:TE}{Q:VK}(ha:SqL K H1 a xs)(hb:SqL K H1 b ys)(acc:Nat->List V)(h0:acc 0=[])(hz:∀ i,i<min xs.length ys.length->(acc i).length<sizeLine)
  (turn:∀ (i:Nat) x y H (R:Hp->Prop) (A:VK),xs[i]?=some x->ys[i]?=some y->Am H1 H->(acc (i+1)=acc i->∀ H',Am H H'->R H')->(∀ y H',acc (i+1)=acc i++[y]->Am H H'->A y H') ->
   tc (some x::some y::fr) H fun b H3=>if b=true then te (some x::some y::fr) H3 A else R H3)
  (fin:∀ D H,H1 D=none->Am H1 H->H D=some (.lst (acc (min xs.length ys.length)))->Q (.ref D) H):Xi K (Itz K a b) H1 fr tc te Q:=by
 refine gM (min xs.length ys.length) (fun i=>xs.getD i .non) (fun i=>ys.getD i .non) acc h0 hz (fun i H hi sm=>⟨xs,ys,xs[i]'(by omega),ys[i]'(by omega),sm.seq ha,sm.seq hb,by simp,by simp⟩) (fun i H v H' hi sm h=>?_)
  (fun H sm=>⟨xs,ys,sm.seq ha,sm.seq hb,rfl⟩) (fun i H R A hi sm=>turn i _ _ H R A (by simp [show i<xs.length by omega]) (by simp [show i<ys.length by omega]) sm) fin
 obtain ⟨t,x,y,hn,rfl,h1,h2,rfl⟩:=h;have e1:=h1 xs (sm.seq ha);have e2:=h2 ys (sm.seq hb);refine ⟨t,rfl,?_,Ah hn⟩;simp only [List.getD,e1,e2,Option.getD_some];exact SqT.of Ab
theorem Ph {K:PySem.W.Frag}{a:Addr}{xs:List V}{i1 i2:Nat}{tb:TS}{D:K4}{σ:St}{H:Hp}(Pv:Nat->St->Hp->Prop)(h0:Pv 0 σ H)(hl:∀ i σ H,i<=xs.length->Pv i σ H->SqL K H a xs)
  (step:∀ i x σ H t,xs[i]?=some x->Pv i σ H->H t=none->tb { D with nx:=Pv (i+1),ct:=Pv (i+1),bk:=D.nx } ((σ.set i1 (some (.int i))).set i2 (some x)) (upd H t (.tup [.int i,x])))
  (fin:∀ σ H,Pv xs.length σ H->D.nx σ H):rW (Ite K a) (lG K 2 (J5 (E8 i1) (J5 (E8 i2) gE))) tb D σ H:=by
 refine ⟨fun i m σ H=>i<=xs.length/\m=xs.length-i/\Pv i σ H,⟨_,Nat.zero_le _,rfl,h0⟩,?_⟩;rintro i m σ H ⟨hi,rfl,hp⟩
 by_cases h:i=xs.length
 ·exact .inl ⟨⟨xs,hl i σ H hi hp,h⟩,fin σ H (h▸hp)⟩
 ·have hlt:i<xs.length:=Nat.lt_of_le_of_ne hi h
  refine .inr ⟨⟨xs,xs[i],hl i σ H hi hp,by simp⟩,Pv (i+1),fun σ' H' q=>⟨xs.length-(i+1),by omega,hlt,rfl,q⟩,fun v H' hy=>?_⟩;obtain ⟨t,x,hn,rfl,hx,rfl⟩:=hy;exact mI (SqT.of Ab) (step i x σ H t (hx xs (hl i σ H hi hp)) hp hn)
structure Mth (P:Program) (w:World) (K:PySem.W.Frag) (mg:Str->Option Value) (base:Heap) (C:Addr) (m:Str) (k:Nat) (ps:List Str) (sp:Sp):Prop where
 ex:∃ (f:Addr) (fd:FuncData),A4 P w K mg base CX0 k f fd ps sp/\E1 K fd ps []/\oI K C m f
 cl:Cls K C
structure Mkr (P:Program) (w:World) (K:PySem.W.Frag) (mg:Str->Option Value) (base:Heap) (name:Str) (C:Addr) (k:Nat) (ps:List Str) (sp:Sp):Prop where
 ex:∃ (f:Addr) (fd:FuncData),A4 P w K mg base CX0 k f fd ps sp/\E1 K fd ps []/\Mk K C f/\mg name=some (.ref C)
section
variable {X:Cx} {k:Nat} {C:Addr} {ps:List Str} {sp:Sp} {name m:Str} {p pos apos:Pos} {e o:Expr} {es:List Expr} {ta:TE} {t:TA} {pl:Sem Bool}
theorem Pn (M:Mkr X.prog X.w X.K X.mg X.base name C k ps sp)(hr:Cr (k+1) X.A)(ha:PA X (e::es) t)(hg:Gl X name:=by rfl)(hdb:(name==("__debug__":Str))=false:=by decide)
  (he:starEach (e::es) X.env=(false,eval e X.env)::starEach es X.env:=by rfl)(hpl:(backTo pos (starEach es X.env)).any (·.1)=false:=by rfl):PE X (.Call (.Name name p) (e::es) [] pos) (cK C sp [] E0 t):=by
 obtain ⟨f,fd,F,b,M,hm⟩:=M.ex;exact dG M F hr hg hm b .nil dC ha hdb he hpl
theorem Gm (M:Mth X.prog X.w X.K X.mg X.base C m k ps sp)(hr:Cr k X.A)(ho:PE X o ta)(ha:PA X (e::es) t)
  (hst:starEach (e::es) X.env=(false,eval e X.env)::starEach es X.env:=by rfl)(hpl:(backTo pos (starEach es X.env)).any (·.1)=false:=by rfl)
  (ht:eval (.Call (.Attribute o m apos) (e::es) [] pos) X.env=(do
   let ov <- eval o X.env
   standAt apos.atName
   let (f,first) <- holding [ov] (getMethod ov m pl)
   callWith pos f first (backTo pos (starEach (e::es) X.env)) (backToKw pos (keywordEach [] X.env))):=by rfl) :
  PE X (.Call (.Attribute o m apos) (e::es) [] pos) (Xb C m sp [] E0 ta t):=by
 obtain ⟨f,fd,F,b,hm⟩:=M.ex;exact mY ho M.cl hm F hr b .nil dC ha hst hpl ht
theorem J1 (M:Mth X.prog X.w X.K X.mg X.base C m k ps sp)(hr:Cr k X.A)(ho:PE X o ta)
  (ht:eval (.Call (.Attribute o m apos) [] [] pos) X.env=(do
   let ov <- eval o X.env
   standAt apos.atName
   let (f,first) <- holding [ov] (getMethod ov m pl)
   callWith pos f first (backTo pos (starEach [] X.env)) (backToKw pos (keywordEach [] X.env))):=by rfl) :
  PE X (.Call (.Attribute o m apos) [] [] pos) (Xb C m sp [] E0 ta T8):=by
 obtain ⟨f,fd,F,b,hm⟩:=M.ex;exact iM ho M.cl hm F hr b .nil dC ht
end
section
variable {σ:St} {H:Hp} {D:K4} {Q:VK} {te ta tv:TE} {tA:TA} {K:PySem.W.Frag}
theorem vG {f:Str}(h:te σ H fun x H1=>∃ a C dx fs v,x=.ref a/\H1 a=some (.ins C dx fs)/\Cls K C/\Bu K C f/\fs.lookup f=some v/\Q v H1):uH K te f σ H Q:=h
theorem jS {a C dx:Addr}{fs:List (Str×V)}{f:Str}{v:V}(h:H a=some (.ins C dx fs))(c:Cls K C)(n:Bu K C f)(l:fs.lookup f=some v)(q:Q v H) :
  ∃ a' C' dx' fs' v',V.ref a=.ref a'/\H a'=some (.ins C' dx' fs')/\Cls K C'/\Bu K C' f/\fs'.lookup f=some v'/\Q v' H:=⟨a,C,dx,fs,v,rfl,h,c,n,l,q⟩
theorem qT {f:Str}(h:tv σ H fun y H1=>ta σ H1 fun x H2=>∃ a C dx fs,x=.ref a/\H2 a=some (.ins C dx fs)/\Cls K C/\Bu K C f/\fs.length<1000/\D.nx σ (upd H2 a (.ins C dx (D0 f y fs)))):uJ K ta tv f D σ H:=h
theorem Cs {a C dx:Addr}{fs:List (Str×V)}{f:Str}{R:Hp->Prop}{y:V}(h:H a=some (.ins C dx fs))(c:Cls K C)(n:Bu K C f)(l:fs.length<1000)(q:R (upd H a (.ins C dx (D0 f y fs)))) :
  ∃ a' C' dx' fs',V.ref a=.ref a'/\H a'=some (.ins C' dx' fs')/\Cls K C'/\Bu K C' f/\fs'.length<1000/\R (upd H a' (.ins C' dx' (D0 f y fs'))):=⟨a,C,dx,fs,rfl,h,c,n,l,q⟩
theorem sR {C:Addr}{sp:Sp}{E:XK}(h:tA σ H fun vs H1=>∀ x dx,H1 x=none->H1 dx=none->dx≠x->sp (.ref x::(vs++[])) (upd (upd H1 dx (.own x)) x (.ins C dx [])) (fun v H2=>v=.non/\Q (.ref x) H2) E):cK C sp [] E tA σ H Q:=h
theorem qW {C:Addr}{m:Str}{sp:Sp}{E:XK}(h:ta σ H fun x H1=>∃ a dx fs,x=.ref a/\H1 a=some (.ins C dx fs)/\fs.lookup m=none/\tA σ H1 fun vs H2=>sp (x::(vs++[])) H2 Q E):Xb C m sp [] E ta tA σ H Q:=h
end
section
variable {X:Cx}
def Nt (z:Str)(c:Nat):Nat:=z.cps.toList.count c
theorem Ty (c:Nat):∀ l:List Nat,PyProof.Rows.cnt c l=(l.count c:Nat)
 | []=>rfl
 | n::r=>by
  rw [PyProof.Rows.cnt_cons,Ty c r,List.count_cons]
  by_cases h:n=c
  ·subst h;simp;omega
  ·simp [h]
def rE:V->List V->Hp->VK->Prop:=fun x vs H Q=>∃ z c,x=.str z/\vs=[.str (sgn c)]/\Q (.int (Nt z c:Nat)) H
theorem Ry:MtM X "str.count" rE:=by
 intro pins s σ H x vs v us Q I rx rv h;obtain ⟨z,c,rfl,rfl,q⟩:=h;obtain ⟨t,rfl⟩:=rx;obtain ⟨u,rfl,ru⟩:=rv.one;obtain ⟨t',rfl⟩:=ru;have e:Txt.count z (sgn c)=(Nt z c:Nat):=(PyProof.Rows.count_cnt z c).trans (Ty c _);refine SC.count ?_;rw [e];exact ⟨.int (Nt z c:Nat),H,I.tok _,⟨_,rfl⟩,q⟩
def wI (K:PySem.W.Frag):List V->Hp->VK->Prop:=fun xs H Q=>∃ (p:Addr) (ns:List Int),xs=[.ref p]/\SqL K H p (ns.map V.int)/\Q (.int ns.sum) H
theorem gF (hc:X.calm=true):Ep X (.builtin "sum") (wI X.K):=by
 intro pins s σ H xs us Q I r h;obtain ⟨p,ns,rfl,hp,q⟩:=h;obtain ⟨u,rfl,ru⟩:=E7 r;cases ru;obtain ⟨its,r,pl,_⟩:=I.list hp;have hi:=Rn r;obtain ⟨ys,e⟩:=hi.allInts.items;have hl:=pl.isList;have hs:(numsOf its).sum=ns.sum:=by rw [hi.numsOf]
 rw [e] at hl;refine sum_intListG (I.ok.hd hc) hl fun h' tk t' hk=>?_;refine ⟨.int ns.sum,H,I.kept hk,⟨t',?_⟩,q⟩;rw [preSum_eq,List.take_of_length_le (by simp),<- hs];have e2:=nums_intItems ys;rw [<- e] at e2;rw [show its=its.toArray.toList from rfl,e2]
end
namespace IB
open PySem.NumText PySem.Calls
def bits (cs:List Nat):Prop:=∀ c∈cs,c=48\/c=49
def v2 (cs:List Nat):Nat:=cs.foldl (fun a c=>a*2+(c-48)) 0
theorem Yb {c:Nat}(ds:Array Nat)(b:Bool)(h:c=48\/c=49):step 2 (ds,b) c=some (ds.push (c-48),true):=by rcases h with rfl | rfl<;>rfl
theorem Rk:∀ (cs:List Nat) (ds:Array Nat),bits cs->cs.foldlM (step 2) (ds,true)=some (cs.foldl (fun acc c=>acc.push (c-48)) ds,true)
 | [],ds,_=>rfl
 | c::cs,ds,h=>by
  rw [List.foldlM_cons,Yb ds true (h c List.mem_cons_self)];exact Rk cs _ fun d hd=>h d (List.mem_cons_of_mem _ hd)
theorem W2 {cs:List Nat}(h:bits cs)(hne:cs≠[]):digits? 2 cs=some (cs.foldl (fun acc c=>acc.push (c-48)) #[]):=by
 cases cs with
 | nil=>exact absurd rfl hne
 | cons c cs =>
  unfold digits?;rw [List.foldlM_cons,Yb #[] false (h c List.mem_cons_self)];show ((cs.foldlM (step 2) (#[].push (c-48),true)).bind _)=_;rw [Rk cs _ fun d hd=>h d (List.mem_cons_of_mem _ hd)];rfl
theorem O5:∀ (cs:List Nat) (ds:Array Nat),(cs.foldl (fun acc c=>acc.push (c-48)) ds).foldl (fun acc d=>acc*2+d) 0=cs.foldl (fun acc c=>acc*2+(c-48)) (ds.foldl (fun acc d=>acc*2+d) 0)
 | [],ds=>rfl
 | c::cs,ds=>by
  rw [List.foldl_cons,O5 cs,List.foldl_cons,Array.foldl_push]
theorem Tr {cs:List Nat}(h:bits cs):cs.dropWhile blank=cs:=by
 cases cs with
 | nil=>rfl
 | cons c cs =>
  rw [List.dropWhile_cons,if_neg];rcases h c List.mem_cons_self with rfl | rfl<;>decide
theorem fL {cs:List Nat}(h:bits cs):sign cs=(false,cs):=by
 cases cs with
 | nil=>rfl
 | cons c cs=>rcases h c List.mem_cons_self with rfl | rfl<;>rfl
theorem Y2 {cs:List Nat}(h:bits cs):based 2 cs=(2,false,cs):=by
 have hp:prefix? cs=none:=by
  match cs,h with
  | [],_=>rfl
  | [c],h=>rcases h c List.mem_cons_self with rfl | rfl<;>rfl
  | c::d::r,h =>
   rcases h c List.mem_cons_self with rfl | rfl
   ·rcases h d (List.mem_cons_of_mem _ List.mem_cons_self) with rfl | rfl<;>rfl
   ·rfl
 unfold based;rw [hp];rfl
theorem eF {cs:List Nat}(h:bits cs)(hne:cs≠[]):(int_private% "readNumeral") 0 2 cs=(int_private% "Numeral.value") (v2 cs:Nat):=by
 refine (readNumeral_eq 0 2 cs).trans ?_;have hr:bits cs.reverse:=fun c hc=>h c (List.mem_reverse.mp hc);rw [Tr h,fL h];dsimp only;rw [Y2 h];dsimp only;rw [Tr hr,List.reverse_reverse,W2 h hne];have e:(cs.foldl (fun acc c=>acc.push (c-48)) #[]).foldl (fun acc d=>acc*2+d) 0=v2 cs:=O5 cs #[];unfold judge;dsimp only;rw [e];rfl
theorem nB {M:Model}{A:Around}{E:Value->Shared->Prop}{s:Shared}{Q:Value->Shared->Prop}{v:Value}{text:List Nat}{n:Int}
    (hs : (text.takeWhile (· != 0)).length <= 640)(hr : (int_private% "readNumeral") 0 2 (text.takeWhile (· != 0)) = (int_private% "Numeral.value") n)
    (ha : ((text.takeWhile (· != 0)).length == text.length) = true)(h : Q (.int n s.toks) { s with toks := s.toks + 1 }) :
    wpAny M A ((int_private% "intFromText") v text 2) Q E s := by
  obtain ⟨hp, g, d, tk, os⟩ := s
  repeat (any_goals (first
    | assumption
    | (with_reducible refine wpAny_ite_true (decide_eq_true hs) ?_)
    | (with_reducible refine wpAny_ite_true (decide_eq_true ha) ?_)
    | wp_step))
  all_goals (try rw [hr])
  all_goals (try dsimp only)
  repeat (any_goals (first
    | assumption
    | (with_reducible refine wpAny_ite_true (decide_eq_true hs) ?_)
    | (with_reducible refine wpAny_ite_true (decide_eq_true ha) ?_)
    | wp_step))
theorem typeCall_int_2 (a b:Value):checkTypeCall "int" ⟨[a,b],[]⟩=pure ():=by kernel_rfl
theorem newCall_int_2 (a b:Value):checkBuiltinCall "int.__new__" ⟨[.type "int",a,b],[]⟩=pure ():=by kernel_rfl
structure Hid (p:Prop):Prop where
 out:p
theorem Ul {x:Str}(h:bits x.cps.toList):(if x.cps.all (· < 128) then x.cps.toList else Unicode.numberText x.cps.toList)=x.cps.toList:=by
 rw [if_pos];rw [Array.all_eq_true'];intro c hc;have:=h c (by simpa using hc);rcases this with rfl | rfl<;>decide
theorem Hl {cs:List Nat}(h:bits cs):cs.takeWhile (· != 0)=cs:=takeWhile_all fun c hc=>by rcases h c hc with rfl | rfl<;>decide
set_option maxHeartbeats 4000000 in
theorem gives_bits {x:Str}{u v:Tok}(hl:x.length<=640)(hb:bits x.cps.toList)(hne:x.cps.toList≠[]):Gives (Builtin.«int.__new__» ⟨[.type "int",.str x u,.int 2 v],[]⟩) (.int (v2 x.cps.toList:Nat)) :=
  .of_wp fun M A E s Q h => by
    obtain ⟨hp, g, d, tk, os⟩ := s;have f1 := F.conv_sub_int;have f2 := F.madeHere_int;have f6 : typeOf (.str x u) = pure (.type "str") := rfl;have hs : ((x.cps.toList).takeWhile (· != 0)).length <= 640 := by rw [Hl hb]; simpa [Str.length] using hl
    have hr := eF hb hne;rw [<- Hl hb] at hr;rw [Hl hb] at hr;have hr : (int_private% "readNumeral") 0 2 ((x.cps.toList).takeWhile (· != 0)) = (int_private% "Numeral.value") (v2 x.cps.toList : Nat) := by rw [Hl hb]; exact hr
    have ha : (((x.cps.toList).takeWhile (· != 0)).length == (x.cps.toList).length) = true := by rw [Hl hb]; simp
    have ht := Ul hb;have hk := Hid.mk (And.intro hs (And.intro hr (And.intro ha ht)));clear hs hr hl ha ht hne
    repeat (any_goals (first
      | assumption
      | ((with_reducible show wpAny _ _ ((int_private% "intFromText") _ _ _) _ _ _); rw [hk.out.2.2.2]; refine nB hk.out.1 hk.out.2.1 hk.out.2.2.1 ?_)
      | wp_step))
    all_goals first | exact ⟨_, rfl, h⟩ | skip
end IB
section
variable {X:Cx}
def vI:List V->Hp->VK->Prop:=fun xs H Q=>∃ z,xs=[.str z,.int 2]/\z.length<=640/\IB.bits z.cps.toList/\z.cps.toList≠[]/\Q (.int (IB.v2 z.cps.toList:Nat)) H
theorem Sh:Ep X (.type "int") vI:=by
 intro pins s σ H xs us Q I r h;obtain ⟨z,rfl,hl,hb,hne,q⟩:=h;obtain ⟨u,w',rfl,ru,rw'⟩:=R1 r;obtain ⟨t,rfl⟩:=ru;obtain ⟨t',rfl⟩:=rw';exact callType_new F.called_int F.newNe_int (IB.typeCall_int_2 _ _) (IB.newCall_int_2 _ _) (fun obj=>F.args_object_init_3 obj _ _) F.entry_int_new (IB.gives_bits hl hb hne).meets (show (Made.int _).post _ s from ⟨rfl,.int (IB.v2 z.cps.toList:Nat),H,I.tok _,⟨_,rfl⟩,q⟩)
end
theorem Zl (n:Nat):Builtin.Str.strSliceIndices none none (-1) n=(List.range n).map fun k=>n-1-k:=by
 unfold Builtin.Str.strSliceIndices;dsimp only;rw [if_neg (by decide),if_neg (by decide)];unfold sliceRange;dsimp only;rw [if_neg (by decide)];have e:(if ((n:Int)-1 > -1) then ((n:Int)-1 - -1 - -1-1)/(- -1) else 0).toNat=n:=by
  split
  ·simp
  ·omega
 rw [e];refine List.map_congr_left fun k hk=>?_;have:=List.mem_range.mp hk;omega
theorem Tl (l:List Nat):∀ n,n<=l.length->((List.range n).map fun k=>n-1-k).filterMap (l[·]?)=(l.take n).reverse
 | 0,_=>by simp
 | n+1,h=>by
  have hl:n<l.length:=h;rw [List.range_succ_eq_map,List.map_cons,List.map_map,List.filterMap_cons];have e:((fun k=>n+1-1-k) ∘ Nat.succ)=fun k=>n-1-k:=by
   funext k
   show n+1-1-(k+1)=n-1-k;omega
  rw [e,show n+1-1-0=n by omega,List.getElem?_eq_getElem hl];dsimp only;rw [Tl l n (by omega),List.take_add_one,List.getElem?_eq_getElem hl,Option.toList_some,List.reverse_append];rfl
section
variable {X:Cx} {e:Expr} {te:TE} {p1 p2 p3 pos:Pos} {j:Nat}
theorem Kc (z:Str):(Sf z).length=z.length:=by
 show z.cps.toList.reverse.toArray.size=z.cps.size;simp
theorem oU {x1}(he:PE X e te):PE X (.Subscript e (.Slice none none (some (.UnaryOp .USub (.Constant (.int 1) x1 p1) p2)) p3) pos) (vM te):=by
 intro pins s σ H Q I h;refine Subscript_ (thn (he pins s σ H _ I h) fun v s1 ⟨x,H1,I1,r1,q1⟩=>?_);obtain ⟨z,rfl,hz,q⟩:=q1;obtain ⟨t,rfl⟩:=r1;refine wpAny_Slice ?_;rw [evalPart_none];refine wpAny_pure (wpAny_pure ?_);rw [evalPart_some];have hm:PE X (.UnaryOp .USub (.Constant (.int 1) x1 p1) p2) (tUn (rU fun i=>.int (-i)) (tC (.int 1))):=Dw Cg Ae;refine thn (hm pins s1 σ H1 (fun y H2=>y=.int (-1)/\H2=H1) I1 ⟨1,rfl,rfl,rfl⟩) fun w s2 ⟨y,H2,I2,r2,e2,e3⟩=>?_;subst e2 e3;obtain ⟨t2,rfl⟩:=r2;have I4:Inv X pins σ H2 { s2 with heap:=s2.heap.push { cls:=.type "slice",data:=.fields #[.none,.none,.int (-1) t2] } }:=I2.kept (t':=s2.toks) fun b ob q=>Heap.get?_push_of_some _ q;have hs:(s2.heap.push { cls:=.type "slice",data:=.fields #[.none,.none,.int (-1) t2] }).IsSlice s2.heap.objs.size none none (some (-1,t2)):=⟨_,Heap.get?_push_size _ rfl,rfl,rfl⟩;refine tail_any (ops:=[.ref s2.heap.objs.size,.str z t]) (typeIs_str _ _ _) PySem.F.slot_str_getitem.lookup ?_ (by with_unfolding_all rfl);refine wpAny_getItem_str_slice hs rfl ?_;have em:sliceMade z t none none (some (-1,t2))=.str (Sf z):=by
  unfold sliceMade;rw [if_neg (by simp)];show Made.str ⟨((Builtin.Str.strSliceIndices none none (-1) z.length).filterMap (z.cps[·]?)).toArray⟩=_;rw [Zl];have:=Tl z.cps.toList z.cps.toList.length (Nat.le_refl _);have e1:z.cps.toList.length=z.length:=by simp [Str.length]
  rw [e1] at this;have e2:(fun i:Nat=>z.cps[i]?)=fun i:Nat=>z.cps.toList[i]?:=by funext i;simp
  rw [e2,this,List.take_of_length_le (by simp [Str.length])];rfl
 rw [em];refine ⟨?_,.str (Sf z),H2,I4.tok _,⟨_,rfl⟩,q⟩;show (Sf z).length<=_;rw [Kc];exact hz
end
theorem uD {te:TE}{σ:St}{H:Hp}{Q:VK}(h:te σ H fun x H1=>∃ z,x=.str z/\z.length<=sizeLine/\Q (.str (Sf z)) H1):vM te σ H Q:=h
theorem G8 (ns:List Int):(ns.map V.int).all Jq=true:=by simp [List.all_eq_true,Jq]
theorem sL {A:Around}{k:Nat}(hr:Cr k A):A.units+60<cLine:=by have:=hr.units;omega
def eqL (xs ys:List V):Bool:=decide (xs.length=ys.length)&&(List.range xs.length).all fun j=>eqV (xs.getD j .non) (ys.getD j .non)
def nN (K:PySem.W.Frag)(n:Bool):R2:=fun x y H Q=>∃ a b xs ys,x=.ref a/\y=.ref b/\SqL K H a xs/\SqL K H b ys/\xs.all Jq=true/\ys.all Jq=true/\Q (.bl (n != eqL xs ys)) H
section
variable {X:Cx} {pins:List (Addr×Obj)} {σ:St} {H:Hp} {s:Shared}
theorem S7 {A:Around}{xs ys:List V}{us vs:List Value}(f1:xs.all Jq=true)(f2:ys.all Jq=true)(r1:Az xs us)(r2:Az ys vs)(j:Nat)(h1:j<us.length)(h2:j<vs.length) :
  SeqAt.EqAt A s us[j] vs[j] (eqV (xs.getD j .non) (ys.getD j .non)):=by
 have l1:=r1.length;have l2:=r2.length;have e1:xs[j]?=some (xs[j]'(by omega)):=List.getElem?_eq_getElem _;have e2:ys[j]?=some (ys[j]'(by omega)):=List.getElem?_eq_getElem _;obtain ⟨u,eu,ru⟩:=r1.get e1;obtain ⟨v,ev,rv⟩:=r2.get e2;rw [List.getElem?_eq_getElem h1] at eu;rw [List.getElem?_eq_getElem h2] at ev;cases eu;cases ev;simp only [List.getD,e1,e2,Option.getD_some];exact kN ru rv (List.all_eq_true.mp f1 _ (List.mem_of_getElem? e1)) (List.all_eq_true.mp f2 _ (List.mem_of_getElem? e2))
end
section
variable {X:Cx}
theorem rK (hu:X.A.units+60<cLine):OpR X (compareOp .Eq) (nN X.K false):=by
 intro pins s σ H x y v u Q I rx ry h;obtain ⟨a,b,xs,ys,rfl,rfl,h1,h2,f1,f2,q⟩:=h;cases rx;cases ry;obtain ⟨is,r1,p1,_⟩:=I.list h1;obtain ⟨js,r2,p2,_⟩:=I.list h2;have l1:=r1.length;have l2:=r2.length
 by_cases hl:xs.length=ys.length
 ·have:=SeqAt.RcAt.lists (A:=X.A) (e:=fun j=>eqV (xs.getD j .non) (ys.getD j .non)) p1.isList p2.isList (by simp;omega) (by omega) fun j a1 a2=>S7 (s:=s) f1 f2 r1 r2 j (by simpa using a1) (by simpa using a2)
  refine this _ _ _ _ ⟨.bl (false != eqL xs ys),H,I,?_,q⟩;unfold eqL;rw [decide_eq_true hl];simp [Ba,<- l1]
 ·have:=SeqAt.RcAt.lists_lengths (A:=X.A) p1.isList p2.isList (by simp;omega) (by omega)
  refine this _ _ _ _ ⟨.bl (false != eqL xs ys),H,I,?_,q⟩;unfold eqL;rw [decide_eq_false hl];simp [Ba]
theorem gW (hu:X.A.units+60<cLine):OpR X (compareOp .NotEq) (nN X.K true):=by
 intro pins s σ H x y v u Q I rx ry h;obtain ⟨a,b,xs,ys,rfl,rfl,h1,h2,f1,f2,q⟩:=h;cases rx;cases ry;obtain ⟨is,r1,p1,_⟩:=I.list h1;obtain ⟨js,r2,p2,_⟩:=I.list h2;have l1:=r1.length;have l2:=r2.length
 by_cases hl:xs.length=ys.length
 ·have:=SeqAt.RcNeAt.lists (A:=X.A) (e:=fun j=>eqV (xs.getD j .non) (ys.getD j .non)) p1.isList p2.isList (by simp;omega) (by omega) fun j a1 a2=>S7 (s:=s) f1 f2 r1 r2 j (by simpa using a1) (by simpa using a2)
  refine this _ _ _ _ ⟨.bl (true != eqL xs ys),H,I,?_,q⟩;unfold eqL;rw [decide_eq_true hl];simp [Ba,<- l1]
 ·have:=SeqAt.RcNeAt.lists_lengths (A:=X.A) p1.isList p2.isList (by simp;omega) (by omega)
  refine this _ _ _ _ ⟨.bl (true != eqL xs ys),H,I,?_,q⟩;unfold eqL;rw [decide_eq_false hl];simp [Ba]
end
theorem Wp (ns ms:List Int):eqL (ns.map V.int) (ms.map V.int)=decide (ns=ms):=by
 unfold eqL;rw [List.length_map,List.length_map]
 by_cases hl:ns.length=ms.length
 ·rw [decide_eq_true hl,Bool.true_and]
  by_cases h:ns=ms
  ·subst h
   rw [decide_eq_true rfl,List.all_eq_true];intro j hj;have hj:j<ns.length:=List.mem_range.mp hj;simp [List.getD,hj,eqV]
  ·rw [decide_eq_false h]
   refine Bool.eq_false_iff.mpr fun hc=>h (List.ext_getElem hl fun j h1 h2=>?_);have:=List.all_eq_true.mp hc j (List.mem_range.mpr h1);simp [List.getD,h1,h2,eqV] at this;exact this
 ·rw [decide_eq_false hl,Bool.false_and,decide_eq_false]
  intro e;exact hl (by rw [e])
theorem vY {K:PySem.W.Frag}{H:Hp}{Q:VK}{a b:Addr}{ns ms:List Int}(h1:SqL K H a (ns.map V.int))(h2:SqL K H b (ms.map V.int))(q:Q (.bl (decide (ns=ms))) H):nN K false (.ref a) (.ref b) H Q:=by
 refine ⟨a,b,_,_,rfl,rfl,h1,h2,G8 _,G8 _,?_⟩;rw [Wp];cases hd:decide (ns=ms)<;>(rw [hd] at q;exact q)
theorem pW {K:PySem.W.Frag}{H:Hp}{Q:VK}{a b:Addr}{ns ms:List Int}(h1:SqL K H a (ns.map V.int))(h2:SqL K H b (ms.map V.int))(q:Q (.bl (!decide (ns=ms))) H):nN K true (.ref a) (.ref b) H Q:=by
 refine ⟨a,b,_,_,rfl,rfl,h1,h2,G8 _,G8 _,?_⟩;rw [Wp];cases hd:decide (ns=ms)<;>(rw [hd] at q;exact q)
theorem Ts (lo hi:Int):Builtin.Range.rangeSize lo hi (-1)=((lo-hi).toNat:Int):=by
 unfold Builtin.Range.rangeSize;rw [if_neg (by omega)]
 by_cases h:lo>hi
 ·rw [if_pos h]
  rw [show (-(-1):Int)=1 by decide,Int.ediv_one];omega
 ·rw [if_neg h]
  omega
theorem Zm {lo hi:Int}(h1:-(2 ^ 40)<=lo)(h2:lo<2 ^ 40)(h3:-(2 ^ 40)<=hi)(h4:hi<2 ^ 40):Builtin.Range.small lo hi (-1)=true:=by
 unfold Builtin.Range.small;rw [Ts,if_neg (by omega)];simp only [Builtin.Range.rangeFitsLong,Bool.and_eq_true,Bool.or_eq_true,decide_eq_true_eq,beq_iff_eq];refine ⟨⟨⟨⟨?_,?_⟩,?_⟩,?_⟩,.inr ?_⟩<;>omega
section
variable {X:Cx} {tg:Expr}
def pZ (ta:TA):TI:=fun σ H R=>ta σ H fun vs H1=>∃ i j:Int,vs=[.int i,.int j,.int (-1)]/\(-(2 ^ 40)<=i/\i<2 ^ 40/\-(2 ^ 40)<=j/\j<2 ^ 40)/\R (Pr i (-1) (i-j).toNat) H1
theorem Ny {a b c:Expr}{ta:TA}{p pos:Pos}(hg:Gl X "range")(hm:X.mg "range"=none)(ha:PA X [a,b,c] ta)(hs:starEach [a,b,c] X.env=[(false,eval a X.env),(false,eval b X.env),(false,eval c X.env)]:=by rfl)
  (hs2:starEach [b,c] X.env=[(false,eval b X.env),(false,eval c X.env)]:=by rfl):PI X tg (.Call (.Name "range" p) [a,b,c] [] pos) (pZ ta):=by
 intro pins s σ H R I h;refine Call_ (Dq I hg hm boot_range (PyProof.Rows.callWith_type1 (thn (ha pos pins s σ H _ I h) fun us s1 ⟨vs,H1,I1,r1,q1⟩=>?_) (by rw [hs,hs2]) (by rw [hs2];rfl)));obtain ⟨i,j,e,⟨q1,q2,q3,q4⟩,q⟩:=q1;subst e
 cases r1 with
 | cons r rr =>
  cases rr with
  | cons r' rr =>
   cases rr with
   | cons r'' rr =>
    cases rr;obtain ⟨t,rfl⟩:=r;obtain ⟨t',rfl⟩:=r';obtain ⟨t'',rfl⟩:=r'';refine call_range_3 (by omega) ?_ (.inl (PyProof.noPylong_small (by omega)));refine wpAny_pyIter_range (IsRange.new ..) (Zm (by omega) (by omega) (by omega) (by omega)) ?_;have I2:Inv X pins σ H1 { s1 with heap:=s1.heap.push { cls:=.type "range",data:=.fields #[.int i t,.int j t',.int (-1) t''] },toks:=s1.toks }:=I1.kept fun b o e=>Heap.get?_push_of_some _ e;refine ⟨_,[_],_,_,H1,rfl,I2.kept (t':=s1.toks) fun b o e=>Heap.get?_push_of_some _ e,Jz _ i (-1) (i-j).toNat,?_,fun b hb=>?_,q⟩
    ·have e1:i+((0:Nat):Int)*(-1)=i:=by simp
     have e2:(((i-j).toNat:Nat):Int)-((0:Nat):Int)=Builtin.Range.rangeSize i j (-1):=by rw [Ts];simp
     show IsRangeIter _ _ (i+((0:Nat):Int)*(-1)) ((((i-j).toNat:Nat):Int)-((0:Nat):Int)) (-1);rw [e1,e2];exact Heap.get?_push_size _ rfl
    ·have e:=List.mem_singleton.mp hb
     subst e;exact I2.fpOk (Nat.le_refl _) (I2.hok.fresh (Nat.le_refl _))
theorem sD {tA:TA}{σ:St}{H:Hp}{R:It->Hp->Prop}(h:tA σ H fun vs H1=>∃ i j:Int,vs=[.int i,.int j,.int (-1)]/\(-(2 ^ 40)<=i/\i<2 ^ 40/\-(2 ^ 40)<=j/\j<2 ^ 40)/\R (Pr i (-1) (i-j).toNat) H1):pZ tA σ H R:=h
def rQ:V->List V->Hp->VK->Prop:=fun x vs H Q=>∃ (l:Addr) (ns:List Int) (k:Int) (j:Nat),x=.ref l/\vs=[.int k]/\H l=some (.lst (ns.map V.int))/\ns[j]?=some k/\(∀ i:Nat,i<j->ns[i]?≠some k)/\Q (.int (j:Nat)) H
theorem W0:MtM X "list.index" rQ:=by
 intro pins s σ H x vs v us Q I rx rv h;obtain ⟨l,ns,k,j,rfl,rfl,hH,hj,hno,q⟩:=h;cases rx;obtain ⟨u,rfl,t,rfl⟩:=E7 rv;obtain ⟨z,its,n,r,hl,e⟩:=I.lstM hH;have fl:=G8 ns;have hjl:=(List.getElem?_eq_some_iff.mp hj).1;have hln:ns.length=its.length:=by rw [<- hl,List.length_map]
 have at':∀ i (hi:i<its.length),eqU (.int k) its[i]=decide (ns[i]?=some k):=fun i hi=>by
  have e1:(ns.map V.int)[i]?=some (.int (ns[i]'(by omega))):=by rw [List.getElem?_map,List.getElem?_eq_getElem (by omega)];rfl
  obtain ⟨u,eu,ru⟩:=r.get e1;rw [List.getElem?_eq_getElem hi] at eu;cases eu;rw [iV ru rfl,List.getElem?_eq_getElem (by omega)];show (ns[i]==k)=decide (some ns[i]=some k)
  by_cases h:ns[i]=k
  ·rw [decide_eq_true (congrArg some h)]
   simpa using h
  ·rw [decide_eq_false fun z=>h (Option.some.inj z)]
   simpa using h
 have sl:=Jm;refine call_meets F.slot_list_index ⟨_,e,rfl⟩ F.entry_list_index (F.args_list_index_2 _ _)
  (SeqAt.list_indexAt l its.toArray n none #[] (.int k t) (eqU (.int k)) j (by simp;omega) (by rw [List.length_map] at z;omega) ?_ ?_) ⟨e,fun y hy=>X7 (x:=.int k) (v:=.int k t) ⟨t,rfl⟩ rfl r fl y (by simpa using hy),?_⟩
 ·show eqU (.int k) its[j]=true
  rw [at' j (by omega),decide_eq_true hj]
 ·intro i hi hlt
  show eqU (.int k) its[i]=false;rw [at' i (by simpa using hi),decide_eq_false (hno i hlt)]
 ·exact ⟨.int j,H,I.tok _,⟨_,rfl⟩,q⟩
end
section
variable {prog:Program} {w:World} {A:Around} {E:Value->Shared->Prop} {s:Shared}
theorem Ky {t sl:Addr}{items:Array Value}{vl vu:Value}{lo hi:Option Int}{Q:Value->Shared->Prop}(ht:IsTup s.heap t items)(hs:s.heap.IsSliceOf sl vl vu .none)(pl:IsPart vl lo)(pu:IsPart vu hi)
  (h1:HT.sIx items.size 0 lo=0)(h2:HT.sIx items.size items.size hi=items.size)(h:Q (.ref t) s):wpAny (model prog w) A (getItem (.ref t) (.ref sl)) Q E s:=by
 obtain ⟨os,hos,hcs,hds⟩:=id hs;have hTs:s.TypeIs (.ref sl) "slice":=⟨os,hos,hcs⟩;unfold getItem
 try with_reducible refine wpAny_holding ?_
 first | refine wpAny_bind (wpAny_pure ?_) | skip
 refine wpAny_bind (wpAny_sequenceKey ht.typeIs (by decide) ?_);refine wpAny_bind (wpAny_callSpecial?_slot (name:=Str.ofString "__getitem__") ht.typeIs PyProof.Rows.slot_tuple_getitem
  (wpAny_call_entry PyProof.Rows.slot_tuple_getitem ht.typeIs entry_tuple_getitem ?_ (args_tuple_getitem _ _)))
 show wpAny _ _ (Builtin.Tuple.tupleItemsOf (.ref t) >>= _) _ _ s;refine wpAny_bind (tupleItemsOf_ ht ?_);refine wpAny_bind (wpAny_typeOf hTs ?_);rw [if_pos (by decide)];refine wpAny_bind (HT.sliceApplied_gen hs pl pu ?_);show wpAny _ _ (if (((HT.sIx items.size 0 lo:Nat):Int)==0&&(1:Int)==1&&(HT.sIx items.size items.size hi-HT.sIx items.size 0 lo)==items.size)=true then _ else _) _ _ s;rw [if_pos (by rw [h1,h2];simp)];refine wpAny_bind (wpAny_bind (wpAny_typeOf ht.typeIs (wpAny_pure ?_)));rw [if_pos (by decide)];refine wpAny_bind (wpAny_rule ?_);exact wpAny_bind (wpAny_pure (wpAny_pure ⟨_,rfl,wpAny_pure h⟩))
end
section
variable {X:Cx}
def wG (K:PySem.W.Frag):V->Option Int->Option Int->Hp->VK->Prop:=fun x lo hi H Q=>∃ a xs,x=.ref a/\SqT K H a xs/\∀ p H',Am H H'->SqT K H' p (Dz xs lo hi)->Q (.ref p) H'
theorem cA:SlR X (wG X.K):=by
 intro pins s σ H x v vl vu lo hi sl Q I rx hs pl pu h;obtain ⟨a,xs,rfl,hx,q⟩:=h
 by_cases hw:HT.sIx xs.length 0 lo=0/\HT.sIx xs.length xs.length hi=xs.length
 ·cases rx
  obtain ⟨its,r,ht,hz⟩:=I.tuple hx;have hlen:its.toArray.size=xs.length:=by rw [List.size_toArray];exact r.length.symm
  refine ⟨"tuple",_,PyProof.Rows.slot_tuple_getitem.lookup,ht.typeIs,?_⟩;refine Ky ht hs pl pu (by rw [hlen];exact hw.1) (by rw [hlen];exact hw.2) ⟨.ref a,H,I,rfl,q a H (Am.refl _) ?_⟩;have:Dz xs lo hi=xs:=by
   unfold Dz;rw [hw.1,hw.2];simp
  rw [this];exact hx
 ·exact tD pins s σ H _ v vl vu lo hi sl Q I rx hs pl pu ⟨a,xs,rfl,hx,hw,fun p hp=>q p _ (Ah hp) (SqT.of Ab)⟩
theorem Bj {x:Str}{i:Int}{pos:Pos}(hg:Gl X x)(hm:∃ t,X.mg x=some (.int i t))(hd:(x==("__debug__":Str))=false:=by decide):PE X (.Name x pos) (tC (.int i)):=by
 obtain ⟨t,h⟩:=hm;exact Ms hg h ⟨t,rfl⟩ hd
end
section
variable {σ:St} {H:Hp} {D:K4} {Q:VK} {te:TE} {QB:Bool->Hp->Prop} {tA:TA}
theorem vW {K:PySem.W.Frag}{T:String}{r:V->List V->Hp->VK->Prop}(h:te σ H fun x H1=>tyV K T x H1/\r x [] H1 Q):wN K T r te σ H Q:=h
theorem pH {z:Str}{lo hi:Option Int}(h1:z.length<=sizeLine)(h:Q (.str (fH z lo hi)) H):wE (.str z) lo hi H Q:=⟨z,rfl,h1,h⟩
end
theorem uZ {A B:Prop}(h:B):if (!true)=true then A else B:=by
 rw [if_neg (by decide)];exact h
theorem uP {A B:Prop}(h:A):if (!false)=true then A else B:=by
 rw [if_pos (by decide)];exact h
def SameBut (x:Addr)(H H':Hp):Prop:=∀ b o,b≠x->H b=some o->H' b=some o
theorem Am.but {H H':Hp}{x:Addr}(h:Am H H'):SameBut x H H':=fun b o _ e=>h b o e
theorem SameBut.trans {H H1 H2:Hp}{x:Addr}(a:SameBut x H H1)(b:SameBut x H1 H2):SameBut x H H2:=fun c o n h=>b c o n (a c o n h)
def pF (H:Hp)(x:Addr):Prop:=∀ u,¬ Rd H x (.tup u)/\¬ Rd H x (.lst u)
theorem dM {H:Hp}{x C dx:Addr}{fs:List (Str×V)}(h:H x=some (.ins C dx fs)):pF H x:=fun u=>by
 constructor<;>(rintro (e | ⟨o,e⟩)<;>(rw [h] at e;cases e))
theorem Dr {H:Hp}{x:Addr}{o:HO}:SameBut x H (upd H x o):=fun b u n e=>by rw [Ai n];exact e
theorem rJ {J:It}{H1:Hp}{fr:St}{tc:TT}{te:TE}{Q:VK}(n:Nat)(item:Nat->V)(Pv:Nat->List V->Hp->Prop)(h0:∀ H,Am H1 H->Pv 0 [] H)
  (stab:∀ i ys H D xs o,H D=some (.lst xs)->Pv i ys H->Pv i ys (upd H D o))(hz:∀ i ys H,i<n->Pv i ys H->ys.length<sizeLine)
  (hgo:∀ i H,i<n->Am H1 H->J.go i H)(hy:∀ i H x H',i<n->Am H1 H->J.yld i H x H'->x=item i/\H'=H)(hst:∀ H,Am H1 H->J.stop n H)
  (turn:∀ i ys H (A:VK) (R:Hp->Prop),i<n->Am H1 H->Pv i ys H->(∀ y H',Am H H'->Pv (i+1) (ys++[y]) H'->A y H')->tc (some (item i)::fr) H fun b H3=>if b=true then te (some (item i)::fr) H3 A else R H3)
  (fin:∀ D ys H,H1 D=none->Am H1 H->Pv n ys H->H D=some (.lst ys)->Q (.ref D) H):N4 J H1 fr tc te Q:=by
 intro D hD;refine ⟨fun i m H=>i<=n/\m=n-i/\Am H1 H/\∃ ys,H D=some (.lst ys)/\Pv i ys H,⟨n,Nat.zero_le _,rfl,Ah hD,[],Ab,h0 _ (Ah hD)⟩,?_⟩;rintro i m H ⟨hi,rfl,sm,ys,hl,hp⟩
 by_cases h:i=n
 ·subst h
  exact .inl ⟨hst H sm,fin D ys H hD sm hp hl⟩
 ·have hlt:i<n:=Nat.lt_of_le_of_ne hi h
  refine .inr ⟨hgo i H hlt sm,fun x H' hyl=>?_⟩;obtain ⟨rfl,rfl⟩:=hy i H x H' hlt sm hyl;refine turn i ys H' _ _ hlt sm hp (fun y H4 s4 hp4=>?_);refine ⟨ys,s4 _ _ hl,hz i ys _ hlt hp,n-(i+1),by omega,by omega,rfl,fun b u e=>?_,ys++[y],Ab,stab _ _ _ _ _ _ (s4 _ _ hl) hp4⟩;rw [Ai (Ak e hD)];exact s4 _ _ (sm _ _ e)
theorem Te {lo st:Int}{n:Nat}{H1:Hp}{fr:St}{tc:TT}{te:TE}{Q:VK}(Pv:Nat->List V->Hp->Prop)(h0:∀ H,Am H1 H->Pv 0 [] H)
  (stab:∀ i ys H D xs o,H D=some (.lst xs)->Pv i ys H->Pv i ys (upd H D o))(hz:∀ i ys H,i<n->Pv i ys H->ys.length<sizeLine)
  (turn:∀ (i:Nat) ys H (A:VK) (R:Hp->Prop),i<n->Am H1 H->Pv i ys H->(∀ y H',Am H H'->Pv (i+1) (ys++[y]) H'->A y H')->tc (some (.int (lo+i*st))::fr) H fun b H3=>if b=true then te (some (.int (lo+i*st))::fr) H3 A else R H3)
  (fin:∀ D ys H,H1 D=none->Am H1 H->Pv n ys H->H D=some (.lst ys)->Q (.ref D) H):N4 (Pr lo st n) H1 fr tc te Q :=
 rJ n (fun i=>.int (lo+i*st)) Pv h0 stab hz (fun i H hi _=>hi) (fun i H x H' _ _ h=>⟨h.2,h.1⟩) (fun H _=>Nat.le_refl n) turn fin
theorem oX {X:Cx}{sc:Scope}{N:List Str}{C:Addr}{s0:Shared}{H0:Hp}{fp:List Addr}{scope:Scope}{x:Str}{N2:List Str}{ix:List Nat}{px pos:Pos}{elt iter:Expr}{ifs:List Expr}{tc:TT}{te:TE}{wi:TI}
  (hc:X.calm=true)(L:∀ sc₀,Bg N sc₀ scope x N2 ix)(hi:PI (Dm X sc N C s0 H0 fp) (.Name x px) iter wi)
  (hif:∀ C' s' H' fp',PIf (Dm (Dm X sc N C s0 H0 fp) scope N2 C' s' H' fp') ifs tc)(he:∀ C' s' H' fp',PE (Dm (Dm X sc N C s0 H0 fp) scope N2 C' s' H' fp') elt te)
  (hs:∀ z,foldedSetIterable iter (Dm X sc N C s0 H0 fp).env z=pure z:=by intro _;rfl):PE (Dm X sc N C s0 H0 fp) (.ListComp elt [⟨.Name x px,iter,ifs,0⟩] scope pos) (tLc wi ix tc te) :=
 Iq (X:=Dm X sc N C s0 H0 fp) hc (L _) hi hif he hs
theorem mH (K:PySem.W.Frag){X:Cx}{tg l:Expr}{tl:TE}(hl:PE X l tl)(h:X.K=K:=by rfl):PI X tg l (rN K tl):=by
 subst h;exact lE hl
theorem dQ (K:PySem.W.Frag){X:Cx}(hc:X.calm=true)(h:X.K=K:=by rfl):Ep X (.builtin "sum") (wI K):=by
 subst h;exact gF hc
theorem iO (K:PySem.W.Frag){X:Cx}(h:X.K=K:=by rfl):SlR X (wG K):=by
 subst h;exact cA
theorem uL:bootBuiltins "abs"=some (.builtin "abs"):=by decide +kernel
def dL (ns:List Int)(m:Int):Prop:=m∈ns/\∀ a∈ns,m<=a
def Vz (ns:List Int)(m:Int):Prop:=m∈ns/\∀ a∈ns,a<=m
section
variable {X:Cx}
def uF (K:PySem.W.Frag):List V->Hp->VK->Prop:=fun xs H Q=>∃ (p:Addr) (ns:List Int),xs=[.ref p]/\SqL K H p (ns.map V.int)/\ns≠[]/\∀ m,dL ns m->Q (.int m) H
def wR (K:PySem.W.Frag):List V->Hp->VK->Prop:=fun xs H Q=>∃ (p:Addr) (ns:List Int),xs=[.ref p]/\SqL K H p (ns.map V.int)/\ns≠[]/\∀ m,Vz ns m->Q (.int m) H
theorem L8 {pins:List (Addr×Obj)}{s:Shared}{σ:St}{H:Hp}{p:Addr}{ns:List Int}(I:Inv X pins σ H s)(hp:SqL X.K H p (ns.map V.int)):∃ ys:Array (Int×Tok),s.heap.IsList p (intItems ys)/\ns=ys.toList.map (·.1):=by
 obtain ⟨its,r,pl,_⟩:=I.list hp;have hi:=Rn r;obtain ⟨ys,e⟩:=hi.allInts.items;have hl:=pl.isList;rw [e] at hl;exact ⟨ys,hl,by rw [<- hi.numsOf,<- nums_intItems,<- e]⟩
theorem kT {ys:Array (Int×Tok)}{v:Value}(hz:0<ys.size)(hv:(intItems ys)[argBest (fun i j=>decide (numAt ys i<numAt ys j)) (ys.size-1)]?=some v):∃ m t,v=.int m t/\dL (ys.toList.map (·.1)) m:=by
 obtain ⟨t,rfl⟩:=intItems_at hv;obtain ⟨h1,h2⟩:=argBest_lt (numAt ys) (ys.size-1);refine ⟨_,t,rfl,?_,fun a ha=>?_⟩
 ·rw [numAt_eq]
  exact getD_mem (by rw [List.length_map,Array.length_toList];omega)
 ·obtain ⟨j,hj,rfl⟩:=mem_getD ha
  rw [List.length_map,Array.length_toList] at hj;rw [<- numAt_eq];exact h2 j (by omega)
theorem dJ {ys:Array (Int×Tok)}{v:Value}(hz:0<ys.size)(hv:(intItems ys)[argBest (fun i j=>decide (numAt ys i>numAt ys j)) (ys.size-1)]?=some v):∃ m t,v=.int m t/\Vz (ys.toList.map (·.1)) m:=by
 obtain ⟨t,rfl⟩:=intItems_at hv;obtain ⟨h1,h2⟩:=argBest_gt (numAt ys) (ys.size-1);refine ⟨_,t,rfl,?_,fun a ha=>?_⟩
 ·rw [numAt_eq]
  exact getD_mem (by rw [List.length_map,Array.length_toList];omega)
 ·obtain ⟨j,hj,rfl⟩:=mem_getD ha
  rw [List.length_map,Array.length_toList] at hj;rw [<- numAt_eq];exact h2 j (by omega)
theorem Pf {ns:List Int}{ys:Array (Int×Tok)}(e:ns=ys.toList.map (·.1))(h:ns≠[]):0<ys.size:=by
 rcases Nat.eq_zero_or_pos ys.size with z | z
 ·exfalso
  apply h;rw [e,List.eq_nil_of_length_eq_zero (l:=ys.toList) (by rw [Array.length_toList];exact z)];rfl
 ·exact z
theorem eC (hc:X.calm=true):Ep X (.builtin "min") (uF X.K):=by
 intro pins s σ H xs us Q I r h;obtain ⟨p,ns,rfl,hp,hne,q⟩:=h;obtain ⟨u,rfl,ru⟩:=E7 r;cases ru;obtain ⟨ys,hl,e⟩:=L8 I hp;have hz:=Pf e hne;refine min_intList (I.ok.hd hc) hl hz fun v h' tk hv hk=>?_;obtain ⟨m,t,rfl,hm⟩:=kT hz hv;exact ⟨.int m,H,I.kept hk,⟨t,rfl⟩,q m (e▸hm)⟩
theorem S9 (hc:X.calm=true):Ep X (.builtin "max") (wR X.K):=by
 intro pins s σ H xs us Q I r h;obtain ⟨p,ns,rfl,hp,hne,q⟩:=h;obtain ⟨u,rfl,ru⟩:=E7 r;cases ru;obtain ⟨ys,hl,e⟩:=L8 I hp;have hz:=Pf e hne;refine max_intList (I.ok.hd hc) hl hz fun v h' tk hv hk=>?_;obtain ⟨m,t,rfl,hm⟩:=dJ hz hv;exact ⟨.int m,H,I.kept hk,⟨t,rfl⟩,q m (e▸hm)⟩
end
section
variable {prog:Program} {w:World} {A:Around} {R:Result->Shared->Prop} {I S:Addr} {fp wr:List Addr} {n:Nat} {P:Nat->Value->Prop} {St:Nat->Heap->Prop} {d:Value}
abbrev lR (I S:Addr)(d:Value):Args:=⟨[.ref I,.none,.ref S],[(Str.ofString "default",d)]⟩
end
section
variable {X:Cx} {x:Str} {p pos:Pos} {e:Expr} {es:List Expr} {kws:List Keyword} {t tk:TA} {id:String} {ks:List Str}
def iQ (X:Cx)(f:Value)(ks:List Str)(r:List V->List V->Hp->VK->Prop):Prop :=
 ∀ (pins:List (Addr×Obj)) (s:Shared) (σ:St) (H:Hp) (xs zs:List V) (us ws:List Value) (Q:VK),Inv X pins σ H s->Az xs us->Az zs ws->r xs zs H Q->wpAny (model X.prog X.w) X.A (call f us (ks.zip ws)) (EP X pins σ Q) X.xe s
def vK (r:List V->List V->Hp->VK->Prop)(t tk:TA):TE:=fun σ H Q=>t σ H fun vs H1=>tk σ H1 fun zs H2=>r vs zs H2 Q
theorem eX {r:List V->List V->Hp->VK->Prop}(hc:iQ X (.builtin id) ks r)(hg:Gl X x)(hm:X.mg x=none)(hv:bootBuiltins x=some (.builtin id))(ha:PA X (e::es) t)(hkw:PK X kws tk)(hks:(backToKw pos (keywordEach kws X.env)).filterMap (·.1)=ks:=by rfl)
  (hn:x≠"__name__":=by decide)(hdb:(x==("__debug__":Str))=false:=by decide)(he:backTo pos (starEach (e::es) X.env)=(false,eval e X.env)::backTo pos (starEach es X.env):=by rfl)(hpl:(backTo pos (starEach (e::es) X.env)).any (·.1)=false:=by rfl)
  (hall:(backToKw pos (keywordEach kws X.env)).all (·.1.isSome)=true:=by rfl)(hnone:(backToKw pos (keywordEach kws X.env)).any (·.1.isNone)=false:=by rfl):PE X (.Call (.Name x p) (e::es) kws pos) (vK r t tk):=by
 intro pins s σ H Q I h;refine wpAny_Call_Name_kw (Dq I hg hm hv ?_ hn hdb);refine callWith_kw (thn (ha pos pins s σ H _ I h) fun us s1 ⟨vs,H1,I1,r1,q1⟩=>?_) he hpl hall hnone;refine thn (hkw pos pins s1 σ H1 _ I1 q1) fun ws s2 ⟨zs,H2,I2,r2,q2⟩=>?_;rw [hks];exact hc pins s2 σ H2 vs zs us ws Q I2 r1 r2 q2
theorem uA {r:List V->List V->Hp->VK->Prop}{σ:St}{H:Hp}{Q:VK}(h:t σ H fun vs H1=>tk σ H1 fun zs H2=>r vs zs H2 Q):vK r t tk σ H Q:=h
end
section
variable {prog:Program} {w:World} {A:Around} {R:Result->Shared->Prop} {I S:Addr} {fp wr:List Addr} {n:Nat} {P:Nat->Value->Prop} {St:Nat->Heap->Prop} {d:Value}
theorem Km:(toString "max"++toString ".loop":String)="max.loop":=by decide
theorem mG (W:Walks prog w A.in1 I fp wr n P St)(bt:Nat->Nat->Bool)(hc:CmpOf prog w A.in1 .Gt P bt)(nS:S∉fp):∀ (k j:Nat) (s:Shared) (b:Value) (c:Nat),n-(j+1)=k->j+1<=n->St (j+1) s.heap->P (argBest bt j) b ->
  s.heap.get? S=some { cls:=.type "list",dict:=none,data:=.seq #[b,b] c,slots:=#[] } ->
  (∀ v h' tk,P (argBest bt (n-1)) v->(∀ a o,a∉wr->a≠S->s.heap.get? a=some o->h'.get? a=some o)->R (.ok (.ret v)) { s with heap:=h',toks:=tk })->codeAny (model prog w) A (.builtin "max.loop" (lR I S d)) R s:=by
 have nw:S∉wr:=fun h=>nS (W.sub _ h);intro k
 induction k with
 | zero =>
  intro j s b c hk hj st hb eS hR;have hn:j+1=n:=by omega
  refine codeAny_builtin F.entry_max_loop ?_;rw [Around.under_plainId F.plain_max_loop _];show wpAny _ A.in1 (seqItems? (.ref S) >>= _) _ _ s;refine wpAny_bind (wpAny_seqItems eS rfl ?_);show wpAny _ A.in1 (tryCatch (pyNext (.ref I)) _ >>= _) _ _ s;refine wpAny_bind (wpAny_tryCatch (W.done s _ _ (hn▸st) fun h' tk kp=>?_));have eS':=kp S _ nw eS;show wpAny _ A.in1 (updateSeq S (fun _=>#[]) >>= _) _ _ _;refine wpAny_bind ?_;refine wpAny_updateSeq eS' rfl (wpAny_bind (wpAny_letGo (wpAny_pure ?_)));exact hR b _ tk (by rw [<- hn];exact hb) fun a o aw aS e=>(Heap.get?_update_other _ _ (Ne.symm aS)).trans (kp a o aw e)
 | succ k ih =>
  intro j s b c hk hj st hb eS hR;have hn:j+1<n:=by omega
  refine codeAny_builtin F.entry_max_loop ?_;rw [Around.under_plainId F.plain_max_loop _];show wpAny _ A.in1 (seqItems? (.ref S) >>= _) _ _ s;refine wpAny_bind (wpAny_seqItems eS rfl ?_);show wpAny _ A.in1 (tryCatch (pyNext (.ref I)) _ >>= _) _ _ s;refine wpAny_bind (wpAny_tryCatch (W.item (j+1) s _ _ hn st fun v h' tk hv st' kp=>?_));have eS':=kp S _ nw eS;show wpAny _ A.in1 (tryCatch (holding [v,v] (richCompare .Gt v b >>= _)) _ >>= _) _ _ _;refine wpAny_bind (wpAny_tryCatch (wpAny_holding (wpAny_bind (hc (j+1) (argBest bt j) v b _ _ _ hv hb ?_))));refine wpAny_bind (wpAny_holding (wpAny_truthy_bool ?_));refine wpAny_bind (wpAny_letGo (wpAny_pure ?_))
  cases t:bt (j+1) (argBest bt j) with
  | true =>
   simp only [if_true];refine wpAny_bind ?_;refine wpAny_updateSeq eS' rfl (wpAny_bind (wpAny_letGo ?_));rw [Km];refine wpAny_pure ⟨plainId_quiet F.plain_max_loop _,ih (j+1) _ v _ (by omega) hn (W.frame _ _ _ st' fun a af o e=>?_) (by simp only [argBest,t,if_true];exact hv) (Heap.get?_update_self _ eS' rfl) fun v' h2 tk2 hv' kp2=>?_⟩
   ·exact (Heap.get?_update_other _ _ (fun z:S=a=>nS (by rw [z];exact af))).trans e
   ·exact hR v' h2 tk2 hv' fun a o aw aS e=>kp2 a o aw aS ((Heap.get?_update_other _ _ (Ne.symm aS)).trans (kp a o aw e))
  | false =>
   simp only [Bool.false_eq_true,if_false];refine wpAny_bind (wpAny_letGo ?_);rw [Km];refine wpAny_pure ⟨plainId_quiet F.plain_max_loop _,ih (j+1) _ b c (by omega) hn st' (by simp only [argBest,t,Bool.false_eq_true,if_false];exact hb) eS' fun v' h2 tk2 hv' kp2=>?_⟩;exact hR v' h2 tk2 hv' fun a o aw aS e=>kp2 a o aw aS (kp a o aw e)
theorem Ys (W:Walks prog w A.in1 I fp wr n P St)(bt:Nat->Nat->Bool)(hc:CmpOf prog w A.in1 .Gt P bt)(nS:S∉fp){s:Shared}{c:Nat}(st:St 0 s.heap)(eS:s.heap.get? S=some { cls:=.type "list",dict:=none,data:=.seq #[] c,slots:=#[] })
  (h0:n=0->∀ h' tk,(∀ a o,a∉wr->a≠S->s.heap.get? a=some o->h'.get? a=some o)->R (.ok (.ret d)) { s with heap:=h',toks:=tk })
  (hR:0<n->∀ v h' tk,P (argBest bt (n-1)) v->(∀ a o,a∉wr->a≠S->s.heap.get? a=some o->h'.get? a=some o)->R (.ok (.ret v)) { s with heap:=h',toks:=tk }):codeAny (model prog w) A (.builtin "max.loop" (lR I S d)) R s:=by
 have nw:S∉wr:=fun h=>nS (W.sub _ h);refine codeAny_builtin F.entry_max_loop ?_;rw [Around.under_plainId F.plain_max_loop _];show wpAny _ A.in1 (seqItems? (.ref S) >>= _) _ _ s;refine wpAny_bind (wpAny_seqItems eS rfl ?_);show wpAny _ A.in1 (tryCatch (pyNext (.ref I)) _ >>= _) _ _ s;rcases Nat.eq_zero_or_pos n with hn | hn
 ·refine wpAny_bind (wpAny_tryCatch (W.done s _ _ (hn▸st) fun h' tk kp=>?_))
  exact wpAny_bind (wpAny_rule (wpAny_pure (h0 hn h' tk fun a o aw _ e=>kp a o aw e)))
 ·refine wpAny_bind (wpAny_tryCatch (W.item 0 s _ _ hn st fun v h' tk hv st' kp=>?_))
  have eS':=kp S _ nw eS;show wpAny _ A.in1 (updateSeq S (fun _=>#[v,v]) >>= _) _ _ _;refine wpAny_bind ?_;refine wpAny_updateSeq eS' rfl ?_;rw [Km];refine wpAny_pure ⟨plainId_quiet F.plain_max_loop _,mG W bt hc nS _ 0 _ v _ rfl hn (W.frame _ _ _ st' fun a af o e=>?_) hv (Heap.get?_update_self _ eS' rfl) fun v' h2 tk2 hv' kp2=>?_⟩
  ·exact (Heap.get?_update_other _ _ (fun z:S=a=>nS (by rw [z];exact af))).trans e
  ·exact hR hn v' h2 tk2 hv' fun a o aw aS e=>kp2 a o aw aS ((Heap.get?_update_other _ _ (Ne.symm aS)).trans (kp a o aw e))
end
section
variable {prog:Program} {w:World} {A:Around} {E:Value->Shared->Prop} {s:Shared}
theorem eP (a v:Value):argsOk "max" ⟨[a],[(Str.ofString "default",v)]⟩:=by unfold argsOk;kernel_rfl
theorem eL (d:Value):Builtin.Builtins.bindParams "max" ["key","default"] 0 ⟨[],[(Str.ofString "default",d)]⟩=pure [none,some d]:=by kernel_rfl
theorem eO {l:Addr}{ys:Array (Int×Tok)}{d:Value}{Q:Value->Shared->Prop}(hh:A.handled=none)(hl:s.heap.IsList l (intItems ys))(h0:ys.size=0->∀ h' tk,(∀ b o,s.heap.get? b=some o->h'.get? b=some o)->Q d { s with heap:=h',toks:=tk })
  (h1:0<ys.size->∀ v h' tk,(intItems ys)[argBest (fun i j=>decide (numAt ys i>numAt ys j)) (ys.size-1)]?=some v->(∀ b o,s.heap.get? b=some o->h'.get? b=some o)->Q v { s with heap:=h',toks:=tk }) :
  wpAny (model prog w) A (call (.builtin "max") [.ref l] [(Str.ofString "default",d)]) Q E s:=by
 refine kmb_tree F.kind_max F.plain_max F.entry_max (eP _ _) ?_;show wpAny _ A.in1 (Builtin.Builtins.bindParams "max" ["key","default"] 0 ⟨[],[(Str.ofString "default",d)]⟩ >>= _) _ _ s;refine wpAny_bind (wpAny_of_eq (eL d) ?_);refine wpAny_bind (wpAny_pure ?_);refine wpAny_bind (iter_intList hl fun s₂ e st hfp hlI=>?_);subst e;have hsz:(intItems ys).size=ys.size:=by simp [intItems]
 refine wpAny_bind (wpAny_newObj_type ?_);rw [Km];refine wpAny_pure ⟨plainId_quiet F.plain_max_loop _,?_⟩;refine Ys (Walks.list (A:=A.in1) hh _ l hlI (intItems ys)) _ (CmpOf.ints_gt (numAt ys) (fun _ _=>intItems_at)) (fun hm=>Nat.lt_irrefl _ (hfp _ hm)) ⟨st.1.at fun o e=>Heap.get?_push_of_some _ e,st.2.push _⟩ (Heap.get?_push_size _ rfl) (fun hz h' tk kp=>?_) (fun hz v h' tk hv kp=>?_)
 ·refine h0 (by rw [<- hsz];exact hz) h' tk (old_kept fun b o hb e=>kp b o hb (Nat.ne_of_lt (Heap.lt_size e)) (Heap.get?_push_of_some _ e))
 ·rw [hsz] at hz
  refine h1 hz v h' tk (by simpa [intItems] using hv) (old_kept fun b o hb e=>kp b o hb (Nat.ne_of_lt (Heap.lt_size e)) (Heap.get?_push_of_some _ e))
end
section
variable {X:Cx}
def qF (K:PySem.W.Frag):List V->List V->Hp->VK->Prop:=fun xs zs H Q=>∃ (p:Addr) (ns:List Int) (d:V),xs=[.ref p]/\zs=[d]/\SqL K H p (ns.map V.int)/\(ns=[]->Q d H)/\∀ m,Vz ns m->Q (.int m) H
theorem eT (hc:X.calm=true):iQ X (.builtin "max") ["default"] (qF X.K):=by
 intro pins s σ H xs zs us ws Q I r r2 h;obtain ⟨p,ns,d,rfl,rfl,hp,q0,q1⟩:=h;obtain ⟨u,rfl,ru⟩:=E7 r;obtain ⟨u2,rfl,ru2⟩:=E7 r2;cases ru;obtain ⟨ys,hl,e⟩:=L8 I hp;refine eO (I.ok.hd hc) hl (fun hz h' tk hk=>?_) (fun hz v h' tk hv hk=>?_)
 ·refine ⟨d,H,I.kept hk,ru2,q0 ?_⟩
  rw [e,List.eq_nil_of_length_eq_zero (l:=ys.toList) (by rw [Array.length_toList];exact hz)];rfl
 ·obtain ⟨m,t,rfl,hm⟩:=dJ hz hv
  exact ⟨.int m,H,I.kept hk,⟨t,rfl⟩,q1 m (e▸hm)⟩
end
end L2
end
section
namespace TW
def val:List Bool->Nat
 | []=>0
 | b::r=>b.toNat+2*val r
def plc:Nat->List Bool->List Nat
 | _,[]=>[]
 | k,b::r=>if b then k::plc (k+1) r else plc (k+1) r
theorem jE:∀ l:List Bool,val l<2 ^ l.length
 | []=>by simp [val]
 | b::r=>by
  have:=jE r;simp only [val,List.length_cons,Nat.pow_succ];have hb:b.toNat<=1:=Bool.toNat_le b;omega
theorem Xu (b:Bool):∀ (l:List Bool) (k:Nat),plc k (l++[b])=plc k l++(if b then [k+l.length] else [])
 | [],k=>by cases b<;>simp [plc]
 | a::r,k=>by
  cases a<;>simp [plc,Xu b r,Nat.add_assoc,Nat.add_comm 1]
theorem Rj:∀ (l:List Bool) (k:Nat),plc (k+1) l=(plc k l).map (·+1)
 | [],k=>rfl
 | a::r,k=>by cases a<;>simp [plc,Rj r]
theorem O3:∀ (l:List Bool) (k:Nat),(plc k l).length=l.count true
 | [],k=>rfl
 | a::r,k=>by cases a<;>simp [plc,O3 r]
def pc (n:Nat):Nat:=if n=0 then 0 else n%2+pc (n/2)
termination_by n
decreasing_by omega
theorem Ox:pc 0=0:=by rw [pc];rfl
theorem Fy (n:Nat):pc n=n%2+pc (n/2):=by
 by_cases h:n=0
 ·subst h;simp [Ox]
 ·rw [pc,if_neg h]
theorem N5:∀ l:List Bool,pc (val l)=l.count true
 | []=>by simp [val,Ox]
 | b::r=>by
  rw [Fy];have e1:val (b::r)%2=b.toNat:=by simp only [val];have:=Bool.toNat_le b;omega
  have e2:val (b::r)/2=val r:=by simp only [val];have:=Bool.toNat_le b;omega
  rw [e1,e2,N5 r];cases b<;>simp [List.count_cons,Nat.add_comm]
theorem wX (n:Nat):pc n=pc (n%16)+pc (n/16):=by
 have a:pc n=n%2+(n/2%2+(n/4%2+(n/8%2+pc (n/16)))):=by
  rw [Fy n,Fy (n/2),Fy (n/2/2),Fy (n/2/2/2)];simp only [Nat.div_div_eq_div_mul]
 have b:pc (n%16)=n%16%2+(n%16/2%2+(n%16/4%2+(n%16/8%2+pc (n%16/16)))):=by
  rw [Fy (n%16),Fy (n%16/2),Fy (n%16/2/2),Fy (n%16/2/2/2)];simp only [Nat.div_div_eq_div_mul]
 have c:pc (n%16/16)=0:=by
  rw [show n%16/16=0 by omega,Ox]
 have d1:n%16%2=n%2:=by omega
 have d2:n%16/2%2=n/2%2:=by omega
 have d3:n%16/4%2=n/4%2:=by omega
 have d4:n%16/8%2=n/8%2:=by omega
 rw [a,b,c,d1,d2,d3,d4];omega
def Sx:List Nat:=[0,1,1,2,1,2,2,3,1,2,2,3,2,3,3,4]
theorem gZ:∀ r:Nat,r<16->Sx[r]?=some (pc r):=by
 have h:∀ b0 b1 b2 b3:Bool,Sx[val [b0,b1,b2,b3]]?=some ([b0,b1,b2,b3].count true):=by decide
 intro r hr;have e:r=val [r.testBit 0,r.testBit 1,r.testBit 2,r.testBit 3]:=by
  have:∀ r:Fin 16,r.val=val [r.val.testBit 0,r.val.testBit 1,r.val.testBit 2,r.val.testBit 3]:=by decide
  exact this ⟨r,hr⟩
 rw [e,h,N5]
def nth (n k:Nat):Option Nat :=
 if n=0 then none else if n%2=1 then (if k=0 then some 0 else (nth (n/2) (k-1)).map (·+1)) else (nth (n/2) k).map (·+1)
termination_by n
decreasing_by all_goals omega
theorem Pk (k:Nat):nth 0 k=none:=by rw [nth];rfl
theorem Wu (b:Bool)(m k:Nat):nth (b.toNat+2*m) k=if b then (if k=0 then some 0 else (nth m (k-1)).map (·+1)) else (nth m k).map (·+1):=by
 cases b with
 | false =>
  by_cases h:m=0
  ·subst h;simp [Pk]
  ·rw [nth,if_neg (by simp only [Bool.toNat_false];omega),if_neg (by simp only [Bool.toNat_false];omega)]
   simp only [Bool.toNat_false,Nat.zero_add,Bool.false_eq_true,if_false];rw [show 2*m/2=m by omega]
 | true =>
  rw [nth,if_neg (by simp only [Bool.toNat_true];omega),if_pos (by simp only [Bool.toNat_true];omega)];have e:(true.toNat+2*m)/2=m:=by simp only [Bool.toNat_true];omega
  rw [e];simp
theorem Vb:∀ (l:List Bool) (k:Nat),nth (val l) k=(plc 0 l)[k]?
 | [],k=>by simp [val,plc,Pk]
 | b::r,k=>by
  simp only [val,Wu]
  cases b with
  | false=>simp [plc,Rj,Vb r]
  | true =>
   cases k with
   | zero=>simp [plc]
   | succ k=>simp [plc,Rj,Vb r]
def X0 (r:Nat):List Nat:=(List.range 4).filter fun p=>decide (r/2 ^ p%2=1)
theorem nY:∀ r:Nat,r<16->(X0 r).length=pc r:=by
 have h:∀ b0 b1 b2 b3:Bool,(X0 (val [b0,b1,b2,b3])).length=([b0,b1,b2,b3].count true):=by decide
 intro r hr;have e:r=val [r.testBit 0,r.testBit 1,r.testBit 2,r.testBit 3]:=by
  have:∀ r:Fin 16,r.val=val [r.val.testBit 0,r.val.testBit 1,r.val.testBit 2,r.val.testBit 3]:=by decide
  exact this ⟨r,hr⟩
 rw [e,h,N5]
theorem wO (n k:Nat):nth n k=if k<pc (n%16) then (X0 (n%16))[k]? else (nth (n/16) (k-pc (n%16))).map (·+4):=by
 obtain ⟨b0,b1,b2,b3,q,e⟩:∃ (b0 b1 b2 b3:Bool) (q:Nat),n=b0.toNat+2*(b1.toNat+2*(b2.toNat+2*(b3.toNat+2*q))):=by
  refine ⟨decide (n%2=1),decide (n/2%2=1),decide (n/4%2=1),decide (n/8%2=1),n/16,?_⟩;have f:∀ m:Nat,(decide (m%2=1)).toNat=m%2:=fun m=>by
   by_cases h:m%2=1
   ·rw [decide_eq_true h,h];rfl
   ·rw [decide_eq_false h];show 0=m%2;omega
  rw [f,f,f,f];omega
 have e1:n%16=val [b0,b1,b2,b3]:=by
  simp only [val];have:=Bool.toNat_le b0;have:=Bool.toNat_le b1;have:=Bool.toNat_le b2;have:=Bool.toNat_le b3;omega
 have e2:n/16=q:=by
  have:=Bool.toNat_le b0;have:=Bool.toNat_le b1;have:=Bool.toNat_le b2;have:=Bool.toNat_le b3;omega
 rw [e1,e2,N5,e];simp only [Wu];cases b0<;>cases b1<;>cases b2<;>cases b3 <;>
  (rcases k with _ | _ | _ | _ | k<;>simp [X0,val,List.range,List.range.loop,List.filter,Option.map_map,Function.comp_def]<;>try omega)
end TW
end
section
namespace TW
def A5 (l:List Bool)(j:Nat):List Bool:=(l.drop (32*j)).take 32
def B2 (n:Nat):Nat:=(n+31)/32
def wordsOf (l:List Bool):List Nat:=(List.range (B2 l.length)).map fun j=>val (A5 l j)
def cnt (l:List Bool)(k:Nat):Nat:=(l.take k).count true
theorem mX (l:List Bool)(a b:Nat):cnt l (a+b)=cnt l a+((l.drop a).take b).count true:=by
 unfold cnt;rw [List.take_add,List.count_append]
theorem Ow (l:List Bool){k:Nat}(h:l.length<=k):cnt l k=l.count true:=by
 unfold cnt;rw [List.take_of_length_le h]
theorem jT (l:List Bool)(j:Nat):cnt l (32*(j+1))=cnt l (32*j)+pc (val (A5 l j)):=by
 rw [N5,show 32*(j+1)=32*j+32 by omega,mX];rfl
theorem Sq (l:List Bool)(a:Nat):∀ k:Nat,((List.range k).map fun i=>pc (val (A5 l (a+i)))).sum+cnt l (32*a)=cnt l (32*(a+k))
 | 0=>by simp
 | k+1=>by
  rw [List.range_succ,List.map_append,List.sum_append,List.map_singleton,List.sum_singleton];have:=Sq l a k;have e:=jT l (a+k);rw [show a+(k+1)=a+k+1 by omega,e];omega
theorem Wj (n:Nat):n<=32*B2 n:=by unfold B2;omega
theorem Yd {n j:Nat}(h:j<B2 n):32*j<n:=by unfold B2 at h;omega
theorem dY (l:List Bool)(b:Nat)(k:Nat)(hk:k=min 8 (B2 l.length-8*b)):((List.range k).map fun i=>pc (val (A5 l (8*b+i)))).sum+cnt l (256*b)=cnt l (256*(b+1)):=by
 have h:=Sq l (8*b) k;rw [show 32*(8*b)=256*b by omega] at h;rw [h]
 by_cases hh:8<=B2 l.length-8*b
 ·rw [show k=8 by omega,show 32*(8*b+8)=256*(b+1) by omega]
 ·have:=Wj l.length
  rw [Ow l (k:=32*(8*b+k)) (by omega),Ow l (k:=256*(b+1)) (by omega)]
theorem dA:∀ (l:List Bool) (a:Nat),(l.reverse.foldl (fun acc b=>acc*2+b.toNat) a)=a*2 ^ l.length+val l
 | [],a=>by simp [val]
 | b::r,a=>by
  rw [List.reverse_cons,List.foldl_append,dA r a];simp only [List.foldl_cons,List.foldl_nil,val,List.length_cons,Nat.pow_succ];rw [Nat.add_mul,Nat.mul_assoc];omega
end TW
end
section
namespace TW
theorem T9:∀ (w:List Bool) (k:Nat),val w/2 ^ k%2=(w.getD k false).toNat
 | [],k=>by simp [val]
 | b::r,0=>by
  cases b<;>simp [val]<;>omega
 | b::r,k+1=>by
  have ih:=T9 r k;have e:val (b::r)/2 ^ (k+1)=val r/2 ^ k:=by
   rw [Nat.pow_succ,Nat.mul_comm (2 ^ k) 2,<- Nat.div_div_eq_div_mul];congr 1;cases b<;>simp [val]<;>omega
  rw [e,ih];simp
theorem Oi (l:List Bool)(j:Nat){p:Nat}(hp:p<32):(A5 l j).getD p false=l.getD (32*j+p) false:=by
 unfold A5;simp only [List.getD_eq_getElem?_getD,List.getElem?_take,List.getElem?_drop,hp,if_true]
def Mu (n:Nat):List Bool:=(List.range 32).map fun p=>decide (n/2 ^ p%2=1)
theorem dW (b:Bool):decide (b.toNat=1)=b:=by cases b<;>rfl
theorem fP (l:List Bool)(j:Nat):Mu (val (A5 l j))=(List.range 32).map fun p=>l.getD (32*j+p) false:=by
 unfold Mu;refine List.map_congr_left fun p hp=>?_;rw [T9,dW,Oi l j (List.mem_range.mp hp)]
theorem Np {α:Type}(d:Nat)(f:Nat->α):∀ m:Nat,((List.range m).map fun j=>(List.range d).map fun p=>f (d*j+p)).flatten=(List.range (d*m)).map f
 | 0=>by simp
 | m+1=>by
  rw [List.range_succ,List.map_append,List.flatten_append,Np d f m,Nat.mul_succ,List.range_add,List.map_append];simp [Function.comp_def]
def Z6 (r:Nat):List Bool:=(List.range 4).map fun k=>decide (r/2 ^ k%2=1)
theorem iF (n j:Nat):Z6 (n/2 ^ (4*j)%16)=(List.range 4).map fun k=>decide (n/2 ^ (4*j+k)%2=1):=by
 unfold Z6;refine List.map_congr_left fun k hk=>?_;have hk:=List.mem_range.mp hk;rw [Nat.pow_add,<- Nat.div_div_eq_div_mul];generalize n/2 ^ (4*j)=m;congr 1;have:k=0\/k=1\/k=2\/k=3:=by omega
 rcases this with rfl | rfl | rfl | rfl<;>simp only [Nat.reducePow]<;>simp only [eq_iff_iff]<;>omega
theorem O2 (n:Nat):((List.range 8).map fun j=>Z6 (n/2 ^ (4*j)%16)).flatten=Mu n:=by
 have e:((List.range 8).map fun j=>Z6 (n/2 ^ (4*j)%16))=(List.range 8).map fun j=>(List.range 4).map fun k=>decide (n/2 ^ (4*j+k)%2=1):=List.map_congr_left fun j _=>iF n j;rw [e];exact Np 4 (fun p=>decide (n/2 ^ p%2=1)) 8
theorem Ro (l:List Bool)(a m:Nat):((List.range m).map fun i=>Mu (val (A5 l (a+i)))).flatten=(List.range (32*m)).map fun p=>l.getD (32*a+p) false:=by
 have e:((List.range m).map fun i=>Mu (val (A5 l (a+i))))=(List.range m).map fun j=>(List.range 32).map fun p=>l.getD (32*a+(32*j+p)) false:=List.map_congr_left fun j _=>by
  rw [fP];refine List.map_congr_left fun p _=>?_;congr 1;omega
 rw [e];exact Np 32 (fun p=>l.getD (32*a+p) false) m
theorem hV (l:List Bool)(a m low c:Nat)(h0:32*a<=low)(h1:low+c<=l.length)(h2:low+c<=32*(a+m)) :
  (((List.range (32*m)).map fun p=>l.getD (32*a+p) false).drop (low-32*a)).take c=(l.drop low).take c:=by
 refine List.ext_getElem? fun i=>?_;rw [List.getElem?_take,List.getElem?_take]
 by_cases hi:i<c
 ·rw [if_pos hi,if_pos hi,List.getElem?_drop,List.getElem?_drop,List.getElem?_map,List.getElem?_range (by omega)]
  rw [List.getElem?_eq_getElem (show low+i<l.length by omega)];simp only [Option.map_some,List.getD_eq_getElem?_getD];rw [show 32*a+(low-32*a+i)=low+i by omega,List.getElem?_eq_getElem (show low+i<l.length by omega)];rfl
 ·rw [if_neg hi,if_neg hi]
theorem fM (l:List Bool)(a k:Nat):((wordsOf l).drop a).take k=(List.range (min k (B2 l.length-a))).map fun i=>val (A5 l (a+i)):=by
 refine List.ext_getElem? fun i=>?_;unfold wordsOf;rw [List.getElem?_take,List.getElem?_map]
 by_cases hi:i<k
 ·rw [if_pos hi,List.getElem?_drop,List.getElem?_map]
  by_cases h2:a+i<B2 l.length
  ·rw [List.getElem?_range h2,List.getElem?_range (by omega)]
   rfl
  ·rw [List.getElem?_eq_none (by rw [List.length_range];omega),List.getElem?_eq_none (by rw [List.length_range];omega)]
   rfl
 ·rw [if_neg hi,List.getElem?_eq_none (by rw [List.length_range];omega)]
  rfl
end TW
end
section
namespace TW
theorem kO (f:Nat->Bool)(n:Nat):[n].filter f=if f n then [n] else []:=by
 cases h:f n<;>simp [List.filter,h]
def occ (b:Bool)(l:List Bool)(n:Nat):List Nat:=(List.range n).filter fun i=>l.getD i false==b
theorem My (b:Bool)(l:List Bool)(n:Nat):occ b l (n+1)=occ b l n++if l.getD n false==b then [n] else []:=by
 unfold occ;rw [List.range_succ,List.filter_append,kO]
theorem O0 (b:Bool)(l:List Bool)(n:Nat):∀ d:Nat,occ b l (n+d)=occ b l n++((List.range d).filter fun p=>l.getD (n+p) false==b).map (n + ·)
 | 0=>by simp
 | d+1=>by
  rw [show n+(d+1)=n+d+1 by omega,My,O0 b l n d,List.range_succ,List.filter_append,List.map_append,List.append_assoc,kO];congr 2;cases l.getD (n+d) false==b<;>rfl
theorem U0 {b:Bool}{l:List Bool}{n m i:Nat}(h:n<=m)(hi:i<(occ b l n).length):(occ b l m)[i]?=(occ b l n)[i]?:=by
 obtain ⟨d,rfl⟩:=Nat.le.dest h;rw [O0,List.getElem?_append_left hi]
theorem tE {b:Bool}{l:List Bool}{n m:Nat}(h:n<=m):(occ b l n).length<=(occ b l m).length:=by
 obtain ⟨d,rfl⟩:=Nat.le.dest h;rw [O0,List.length_append];omega
theorem Ud (l:List Bool):∀ n:Nat,(occ true l n).length=cnt l n/\(occ false l n).length+cnt l n=n
 | 0=>by simp [occ,cnt]
 | n+1=>by
  obtain ⟨h1,h2⟩:=Ud l n;have e:cnt l (n+1)=cnt l n+(l.getD n false).toNat:=by
   unfold cnt;rw [List.take_add_one,List.count_append,List.getD_eq_getElem?_getD]
   cases hx:l[n]? with
   | none=>simp
   | some b=>cases b<;>simp
  rw [My,My,e];cases l.getD n false<;>simp<;>omega
def Kz (b:Bool)(l:List Bool)(j:Nat):List Nat:=(List.range 32).filter fun p=>l.getD (32*j+p) false==b
theorem Pe (b:Bool)(l:List Bool)(j:Nat):occ b l (32*(j+1))=occ b l (32*j)++(Kz b l j).map (32*j + ·):=by
 rw [show 32*(j+1)=32*j+32 by omega,O0];rfl
theorem Nj (f:Nat->Bool):∀ n:Nat,plc 0 ((List.range n).map f)=(List.range n).filter f
 | 0=>rfl
 | n+1=>by
  rw [List.range_succ,List.map_append,List.map_singleton,Xu,Nj f n,List.filter_append,List.length_map,List.length_range,kO,Nat.zero_add]
theorem kW (w:List Bool)(k:Nat):(val w).testBit k=w.getD k false:=by
 rw [Nat.testBit_eq_decide_div_mod_eq,T9];cases w.getD k false<;>rfl
def L9 (b:Bool):Nat:=if b then 0 else 4294967295
theorem Kx (b:Bool)(l:List Bool)(j:Nat):val (A5 l j) ^^^ L9 b=val ((List.range 32).map fun p=>l.getD (32*j+p) false==b):=by
 refine Nat.eq_of_testBit_eq fun i=>?_;rw [Nat.testBit_xor,kW,kW];have hf:(L9 b).testBit i=(!b&&decide (i<32)):=by
  cases b
  ·show (2 ^ 32-1).testBit i=_
   rw [Nat.testBit_two_pow_sub_one];rfl
  ·show (0:Nat).testBit i=_
   rw [Nat.zero_testBit];rfl
 rw [hf]
 by_cases hi:i<32
 ·rw [Oi l j hi,List.getD_eq_getElem?_getD (l:=List.map _ _),List.getElem?_map,List.getElem?_range hi]
  show _=(l.getD (32*j+i) false==b);rw [decide_eq_true hi];cases l.getD (32*j+i) false<;>cases b<;>rfl
 ·rw [decide_eq_false hi,List.getD_eq_getElem?_getD,List.getElem?_eq_none (by unfold A5;rw [List.length_take];omega),List.getD_eq_getElem?_getD,List.getElem?_eq_none (by rw [List.length_map,List.length_range];omega)]
  simp
theorem Xs (b:Bool)(l:List Bool)(j k:Nat):nth (val (A5 l j) ^^^ L9 b) k=(Kz b l j)[k]?:=by
 rw [Kx,Vb,Nj];rfl
theorem mN (b:Bool)(l:List Bool)(j:Nat):pc (val (A5 l j) ^^^ L9 b)=(Kz b l j).length:=by
 rw [Kx,N5,<- O3 _ 0,Nj];rfl
end TW
end
section
namespace TW
end TW
end
section
namespace TW
def dAt (ds:List Nat)(k:Nat):Nat:=ds.getD k 0
def opn (ds:List Nat):Nat->Nat
 | 0=>0
 | k+1=>dAt ds k+1
def way (ds:List Nat):Nat->List Int
 | 0=>[-1]
 | k+1=>(way ds k).take (dAt ds k+1)++[(k:Int)]
def Dok (ds:List Nat):Prop:=∀ k,k<ds.length->dAt ds k<=opn ds k
def eld (ds:List Nat)(k:Nat):Int:=(way ds k).getD (dAt ds k) 0
def Au (ds:List Nat):List Int:=(List.range ds.length).map (eld ds)
theorem Cj {ds:List Nat}(h:Dok ds):∀ k,k<=ds.length->(way ds k).length=opn ds k+1
 | 0,_=>rfl
 | k+1,hk=>by
  show ((way ds k).take (dAt ds k+1)++[(k:Int)]).length=dAt ds k+1+1;have:=Cj h k (by omega);have:=h k (by omega);rw [List.length_append,List.length_take];simp only [List.length_cons,List.length_nil];omega
theorem F5 {ds:List Nat}(h:Dok ds):∀ k,k<=ds.length->(way ds k)[0]?=some (-1)
 | 0,_=>rfl
 | k+1,hk=>by
  show ((way ds k).take (dAt ds k+1)++[(k:Int)])[0]?=some (-1);have e:=F5 h k (by omega);have hl:=Cj h k (by omega);rw [List.getElem?_append_left (by rw [List.length_take];omega),List.getElem?_take_of_lt (by omega)];exact e
theorem Nh {ds:List Nat}(h:Dok ds):∀ (k j:Nat) (x:Int),k<=ds.length->(way ds k)[j+1]?=some x->∃ v:Nat,x=(v:Int)/\v<k/\dAt ds v=j
 | 0,j,x,_,e=>by cases e
 | k+1,j,x,hk,e=>by
  have e:((way ds k).take (dAt ds k+1)++[(k:Int)])[j+1]?=some x:=e;have hl:=Cj h k (by omega);have hd:=h k (by omega);have hl2:((way ds k).take (dAt ds k+1)).length=dAt ds k+1:=by rw [List.length_take];omega
  by_cases hj:j+1<dAt ds k+1
  ·rw [List.getElem?_append_left (by omega),List.getElem?_take_of_lt hj] at e
   obtain ⟨v,hv,hlt,hdv⟩:=Nh h k j x (by omega) e;exact ⟨v,hv,by omega,hdv⟩
  ·rw [List.getElem?_append_right (by omega),hl2] at e
   have e0:j+1-(dAt ds k+1)=0:=by
    have:=(List.getElem?_eq_some_iff.mp e).1;simp only [List.length_cons,List.length_nil] at this;omega
   rw [e0] at e;have e:=Option.some.inj e;exact ⟨k,e.symm,by omega,by omega⟩
theorem Zz {ds:List Nat}(h:Dok ds):∀ (k i j:Nat) (x y:Int),k<=ds.length->i<j->(way ds k)[i]?=some x->(way ds k)[j]?=some y->x<y
 | 0,i,j,x,y,_,hij,e1,e2=>by
  have:=(List.getElem?_eq_some_iff.mp e2).1;simp only [way,List.length_cons,List.length_nil] at this;omega
 | k+1,i,j,x,y,hk,hij,e1,e2=>by
  have hl:=Cj h k (by omega);have hd:=h k (by omega);have hl2:((way ds k).take (dAt ds k+1)).length=dAt ds k+1:=by rw [List.length_take];omega
  have e2':((way ds k).take (dAt ds k+1)++[(k:Int)])[j]?=some y:=e2;have e1':((way ds k).take (dAt ds k+1)++[(k:Int)])[i]?=some x:=e1
  by_cases hj:j<dAt ds k+1
  ·rw [List.getElem?_append_left (by omega),List.getElem?_take_of_lt hj] at e2'
   rw [List.getElem?_append_left (by omega),List.getElem?_take_of_lt (by omega)] at e1';exact Zz h k i j x y (by omega) hij e1' e2'
  ·rw [List.getElem?_append_right (by omega),hl2] at e2'
   have e0:j-(dAt ds k+1)=0:=by
    have:=(List.getElem?_eq_some_iff.mp e2').1;simp only [List.length_cons,List.length_nil] at this;omega
   rw [e0] at e2';have ey:=Option.some.inj e2';rw [List.getElem?_append_left (by omega),List.getElem?_take_of_lt (by omega)] at e1'
   cases i with
   | zero =>
    rw [F5 h k (by omega)] at e1';have:=Option.some.inj e1';omega
   | succ i =>
    obtain ⟨v,hv,hlt,_⟩:=Nh h k i x (by omega) e1';omega
theorem Jc {ds:List Nat}(h:Dok ds){k:Nat}(hk:k<ds.length):(way ds k)[dAt ds k]?=some (eld ds k):=by
 have hl:=Cj h k (by omega);have hd:=h k hk;unfold eld List.getD;rw [List.getElem?_eq_getElem (by omega)];rfl
theorem Ux {ds:List Nat}(h:Dok ds){k:Nat}(hk:k<ds.length)(e:eld ds k=-1):dAt ds k=0:=by
 have ha:=Jc h hk
 cases hd:dAt ds k with
 | zero=>rfl
 | succ j =>
  rw [hd] at ha;obtain ⟨v,hv,_⟩:=Nh h k j _ (by omega) ha;omega
theorem Ex {ds:List Nat}(h:Dok ds){k:Nat}(hk:k<ds.length)(e:eld ds k≠-1):∃ v:Nat,eld ds k=(v:Int)/\v<k/\dAt ds k=dAt ds v+1:=by
 have ha:=Jc h hk
 cases hd:dAt ds k with
 | zero =>
  rw [hd,F5 h k (by omega)] at ha;exact absurd (Option.some.inj ha).symm e
 | succ j =>
  rw [hd] at ha;obtain ⟨v,hv,hlt,hdv⟩:=Nh h k j _ (by omega) ha;exact ⟨v,hv,hlt,by omega⟩
theorem Q1 {ds:List Nat}(h:Dok ds){k:Nat}(hk:k<ds.length):-1<=eld ds k:=by
 by_cases e:eld ds k=-1
 ·omega
 ·obtain ⟨v,hv,_⟩:=Ex h hk e
  omega
theorem Bn (ds:List Nat):(Au ds).length=ds.length:=by unfold Au;rw [List.length_map,List.length_range]
theorem Kq {ds:List Nat}{k:Nat}(hk:k<ds.length):(Au ds)[k]?=some (eld ds k):=by
 unfold Au;rw [List.getElem?_map,List.getElem?_range hk];rfl
end TW
end
section
namespace TW
end TW
end
section
namespace L2
open PySem PySem.Spec PyProof.Rows
def wS (B:Heap)(l:List Env)(e:Addr)(cls a0:Value)(od:Option Addr)(h:Heap):Prop:=Heap.FlyingW B l e cls a0 h/\∃ o,h.get? e=some o/\o.dict=od
structure uR (outer:List Env) (H':Hp) (h h':Heap) (e C:Addr) (od:Option Addr):Prop where
 new:h.get? e=none
 unt:H' e=none
 fly:∃ a0 B,wS B outer e (.ref C) a0 od h'/\∀ b o,h'.get? b=some o->B.get? b=none->b=e\/b∈frs outer\/(h.get? b=none/\H' b=none)
def CXE (P:Program)(w:World):CXT:=fun outer H s E ex s'=>∃ e C od H',ex=.ref e/\s'.os=s.os/\AllBare s'.gens/\Un (frs outer) [] H H' s.heap s'.heap/\HOk P w H' s'.heap/\(∀ b∈frs outer,H' b=none)/\uR outer H' s.heap s'.heap e C od/\E (.ref C) od H'
theorem sE {P:Program}{w:World}{X:Cx}:Id (CXE P w) X E0:=fun _ _ _ _ _ _ _ h=>by
 obtain ⟨_,_,_,_,_,_,_,_,_,_,_,z⟩:=h;exact z.elim
structure xQ (P:Program) (w:World) (K:PySem.W.Frag) (mg:Str->Option Value) (base:Heap) (name:Str) (C:Addr) (k:Nat) (ps:List Str) (sp:Sp):Prop where
 ex:∃ (f:Addr) (fd:FuncData),A4 P w K mg base (CXE P w) k f fd ps sp/\E1 K fd ps []/\Mk K C f/\mg name=some (.ref C)
theorem oR (K:PySem.W.Frag){X:Cx}(h:X.K=K:=by rfl):IxR X (sK K):=by
 subst h;exact Fc
theorem Wx (K:PySem.W.Frag){X:Cx}(h:X.K=K:=by rfl):IxR X (oO K):=by
 subst h;exact Bt
open PySem.W Builtin.Getset_descriptor
theorem cB {X:Cx}{pins:List (Addr×Obj)}{σ:St}{H:Hp}{s:Shared}(I:Inv X pins σ H s):sysModules<s.heap.objs.size :=
 Nat.lt_trans (by decide) (show mainGlobals<s.heap.objs.size from (I.mod.glob.keeps I.bk).lt)
def qG:TE:=fun _ H Q=>∀ p,H p=none->Q (.ref p) (upd H p (.dK []))
theorem iY {P:Program}{w:World}{H:Hp}(h:Heap)(hb:sysModules<h.objs.size):Cp P w H (h.push { cls:=.type "dict",data:=.dict #[] }) h.objs.size (.dK []) :=
 ⟨Nat.zero_le _,beq_eq_false_iff_ne.mpr (Ne.symm (Nat.ne_of_lt hb)),[],.nil,Heap.DictOf.new h⟩
theorem bO {X:Cx}{pos:Pos}:PE X (.Dict [] [] pos) qG:=fun pins s σ H Q I h =>
 wpAny_Dict_empty ⟨.ref s.heap.objs.size,_,I.laid (a:=s.heap.objs.size) (o:=.dK []) (t':=s.toks) (fun _ _ q=>Heap.get?_push_of_some _ q) (Nat.le_refl _) (iY s.heap (cB I)),rfl,h _ (I.hok.fresh (Nat.le_refl _))⟩
theorem sB {σ:St}{H:Hp}{Q:VK}(h:∀ p,H p=none->Q (.ref p) (upd H p (.dK []))):qG σ H Q:=h
theorem R0 (K:PySem.W.Frag){X:Cx}(h:X.K=K:=by rfl):Ep X (.builtin "isinstance") (uO K):=by
 subst h;exact Ci
def pU (K:PySem.W.Frag)(te ts:TE):TE:=fun σ H Q=>te σ H fun x H1=>ts σ H1 fun y H2=>∃ a xs st,x=.ref a/\y=.int st/\0<st/\SqL K H2 a xs /\
 ∀ p ys,H2 p=none->(∀ v∈ys,v∈xs)->ys.length<=xs.length->Q (.ref p) (upd H2 p (.lst ys))
theorem Nx {xs:List V}{us:List Value}(r:Az xs us):∀ is:List Nat,Az (is.filterMap fun i=>xs[i]?) (is.filterMap fun i=>us[i]?)
 | []=>.nil
 | i::is=>by
  have ih:=Nx r is;have l:=r.length
  by_cases h:i<us.length
  ·obtain ⟨u,eu,ru⟩:=r.get (List.getElem?_eq_getElem (show i<xs.length by omega))
   rw [List.filterMap_cons,List.filterMap_cons,List.getElem?_eq_getElem (show i<xs.length by omega),eu];exact .cons ru ih
  ·rw [List.filterMap_cons,List.filterMap_cons,List.getElem?_eq_none (show us.length<=i by omega),List.getElem?_eq_none (show xs.length<=i by omega)]
   exact ih
section
variable {X:Cx} {e st:Expr} {te ts:TE} {pos p2:Pos}
theorem mC (he:PE X e te)(hst:PE X st ts):PE X (.Subscript e (.Slice none none (some st) p2) pos) (pU X.K te ts):=by
 intro pins s σ H Q I h;refine Subscript_ (thn (he pins s σ H _ I h) fun v s1 ⟨x,H1,I1,r1,q1⟩=>?_);refine wpAny_Slice ?_;rw [evalPart_none];refine wpAny_pure ?_;refine wpAny_pure ?_;rw [evalPart_some];refine thn (hst pins s1 σ H1 _ I1 q1) fun u s3 ⟨y,H3,I3,r3,a,xs,k,ex,ey,hk,hs,q⟩=>?_;subst ex ey;obtain rfl:v=Value.ref a:=r1;obtain ⟨t,rfl⟩:=r3;have I4:Inv X pins σ H3 { s3 with heap:=s3.heap.push { cls:=.type "slice",data:=.fields #[.none,.none,.int k t] } }:=I3.kept (t':=s3.toks) fun b ob q=>Heap.get?_push_of_some _ q;obtain ⟨its,r,pl,hz⟩:=I4.list hs;have e1:=r.length;show wpAny (model X.prog X.w) X.A (subscriptTail e (.Slice none none (some st) p2) (.ref a) (.ref s3.heap.objs.size)) (EP X pins σ Q) X.xe { s3 with heap:=s3.heap.push { cls:=.type "slice",data:=.fields #[.none,.none,.int k t] } };refine tail_any (ops:=[.ref a,.ref s3.heap.objs.size]) pl.isList.typeIs list_getitem_lookup ?_ (by with_unfolding_all rfl);refine wpAny_getItem_list_slice pl.isList (Heap.IsSliceOf.new ..) .none .none (.int k t) (by intro z;have:=Option.some.inj z;omega) ?_ (by rw [List.size_toArray];omega);have hp:slicePick its.toArray none none (some k)=((sliceRange (sliceBounds none none (some k) its.length).1 (sliceBounds none none (some k) its.length).2.1 (sliceBounds none none (some k) its.length).2.2).filterMap fun i=>its[i]?).toArray:=by
  unfold slicePick;simp
 rw [hp];generalize sliceRange (sliceBounds none none (some k) its.length).1 (sliceBounds none none (some k) its.length).2.1 (sliceBounds none none (some k) its.length).2.2=is at *;have hlen:(is.filterMap fun i=>xs[i]?).length<=xs.length:=by
  have:=slicePick_size_le its.toArray none none (some k);rw [hp,List.size_toArray,<- (Nx r is).length,List.size_toArray] at this;omega
 exact ⟨.ref _,_,I4.lnew (t':=s3.toks) (Nx r is) (by omega),rfl,q _ _ (I4.hok.fresh (Nat.le_refl _)) (fun v hv=>by
  obtain ⟨i,_,hi⟩:=List.mem_filterMap.mp hv;exact List.mem_of_getElem? hi) hlen⟩
theorem rA {K:PySem.W.Frag}{σ:St}{H:Hp}{Q:VK}(h:te σ H fun x H1=>ts σ H1 fun y H2=>∃ a xs st,x=.ref a/\y=.int st/\0<st/\SqL K H2 a xs /\
 ∀ p ys,H2 p=none->(∀ v∈ys,v∈xs)->ys.length<=xs.length->Q (.ref p) (upd H2 p (.lst ys))):pU K te ts σ H Q:=h
end
theorem Va:entryFor table "zip.__getattribute__"=some Builtin.«object.__getattribute__» :=
 entryFor_alias (id':="object.__getattribute__") (by kernel_rfl) (by first | rfl | decide +kernel) (by decide +kernel) (by kernel_rfl)
theorem W4:typeLookup (.type "zip") "keys"=pure none:=by rw [typeLookup_type,builtinLookup_eq_fast];kernel_rfl
theorem Wc:typeLookup (.type "zip") "__getattr__"=pure none:=by rw [typeLookup_type,builtinLookup_eq_fast];kernel_rfl
abbrev rF (vs:Array Value):Obj:={ cls:=.type "zip",dict:=none,data:=.fields vs,slots:=#[] }
theorem Zt (a:Addr)(vs:Array Value)(u:Tok):Meets (Builtin.«object.__getattribute__» ⟨[.ref a,.str "keys" u],[]⟩) (fun A R s=>s.heap.get? a=some (rF vs)/\raisesAttr (.ref a) "keys" A R s) :=
 Meets.of_wp fun prog w A R s hs=>by
  obtain ⟨hp,g,d,tk,os⟩:=s;obtain ⟨hx,hs⟩:=hs;have hT:(⟨hp,g,d,tk,os⟩:Shared).TypeIs (.ref a) "zip":=⟨_,hx,rfl⟩;have f4:=W4
  repeat (any_goals (first | assumption | with_reducible refine wpAny_loadPart_at hx ?_ | wp_step))
  exact wpAny_raiseAttrError hs.1 hs.2 (by decide +kernel)
section
variable {prog:Program} {w:World} {A:Around} {E:Value->Shared->Prop} {s:Shared}
theorem pC {a:Addr}{vs:Array Value}{Q:Option Value->Shared->Prop}(hx:s.heap.get? a=some (rF vs))(hA:A.handled=none)(q:∀ h' tk,(∀ b o,s.heap.get? b=some o->h'.get? b=some o)->Q none { s with heap:=h',toks:=tk }) :
  wpAny (model prog w) A (getAttr? (.ref a) "keys") Q E s:=by
 obtain ⟨hp,g,d,tk,os⟩:=s;have hT:∀ tk',(⟨hp,g,d,tk',os⟩:Shared).TypeIs (.ref a) "zip":=fun _=>⟨_,hx,rfl⟩;have f1:=sub_AttributeError;have f3:=PySem.F.slot_zip_getattribute.lookup;have f4:=PySem.F.slot_zip_getattribute.bind (.ref a);have f5:=Wc;unfold getAttr? getAttrBy? getAttrBy
 repeat (any_goals (first | assumption | exact hT _ | ((with_reducible show wpAny _ _ (call (Value.builtin "zip.__getattribute__") _ _) _ _ _);refine call_meets PySem.F.slot_zip_getattribute (hT _) Va (PySem.F.args_zip_getattribute_2 _ _) (Zt a vs _) ⟨hx,hA,fun h' tk' e hx'=>?_⟩) | wp_step))
 obtain ⟨t',u',he⟩:=hx'.there;show wpAny _ _ (getattributeRaised _ _ _ _ _ _ _) _ _ _;unfold getattributeRaised
 repeat (any_goals (first | assumption | wp_step))
 exact q _ _ hx'.keeps
end
abbrev Mt (h:Heap)(z TI TO T:Addr)(c:Bool):Prop:=h.get? z=some (rF #[rawInt T,.bool c,.bool false,.ref TI,.ref TO])
section
variable {prog:Program} {w:World} {A:Around} {E:Value->Shared->Prop} {s:Shared}
theorem iS {a:Addr}{Q:Option Obj->Shared->Prop}(h:Q (s.heap.get? a) s):wpAny (model prog w) A (loadIfAlive a) Q E s:=fun Γ p hΓ=>by
 show Sem.wp _ _ (.loadIfAlive a _) _ _ _ _;rw [Sem.wp_loadIfAlive];exact h
theorem Sw {z TI TO T:Addr}{c:Bool}{oT:Obj}{Q:Bool->Shared->Prop}(hz:Mt s.heap z TI TO T c)(hT:s.heap.get? T=some oT)(q:∀ h',Mt h' z TI TO T true->Heap.SameBut z s.heap h'->Q false { s with heap:=h' }) :
  wpAny (model prog w) A (Builtin.SmallTypes.ownedTupleIsFree (.ref z)) Q E s:=by
 unfold Builtin.SmallTypes.ownedTupleIsFree;refine wpAny_bind (wpAny_field hz rfl (x:=rawInt T) rfl ?_);show wpAny _ _ (loadIfAlive (Int.toNat (T:Int)) >>= _) _ _ _;refine wpAny_bind (iS ?_);rw [Int.toNat_natCast,hT];show wpAny _ _ (field (.ref z) 1 >>= _) _ _ _;refine wpAny_bind (wpAny_field hz rfl (x:=.bool c) rfl ?_)
 cases c with
 | true =>
  exact wpAny_pure (q s.heap hz (Heap.SameBut.refl _ _))
 | false =>
  refine wpAny_bind (wpAny_setField_rec hz (by simp) fun h₁ hz₁ hs₁=>?_);exact wpAny_pure (q h₁ hz₁ hs₁)
theorem eG {z TI TO T i1 i2 l1 l2:Addr}{k1 k2:Nat}{xs ys:Array Value}{x y:Value}{c:Bool}{oT:Obj}{Q:Value->Shared->Prop}(D:ZipApart z TI TO i1 i2 l1 l2)
  (hz:Mt s.heap z TI TO T c)(hT:s.heap.get? T=some oT)(hTI:IsPair s.heap TI (.ref i1) (.ref i2))(h1:s.heap.IsListIter i1 l1 k1)(h2:s.heap.IsListIter i2 l2 k2)(hl1:s.heap.IsList l1 xs)(hl2:s.heap.IsList l2 ys)(hx:xs[k1]?=some x)(hy:ys[k2]?=some y)
  (hQ:∀ h',Mt h' z TI TO T true->h'.IsListIter i1 l1 (k1+1)->h'.IsListIter i2 l2 (k2+1)->IsPair h' s.heap.objs.size x y->h'.objs.size=s.heap.objs.size+1->(∀ b o,b≠z->b≠i1->b≠i2->s.heap.get? b=some o->h'.get? b=some o)->Q (.ref s.heap.objs.size) { s with heap:=h' }) :
  wpAny (model prog w) A (Builtin.«zip.__next__» ⟨[.ref z],[]⟩) (fun fin s'=>∃ v,fin=.done (.ret v)/\Q v s') E s:=by
 show wpAny _ _ (field (.ref z) 2 >>= _) _ _ _;refine wpAny_bind (wpAny_field hz rfl (x:=.bool false) rfl ?_);show wpAny _ _ (field (.ref z) 3 >>= _) _ _ _;refine wpAny_bind (wpAny_field hz rfl (x:=.ref TI) rfl ?_);refine wpAny_bind (wpAny_seqItems hTI rfl ?_);show wpAny _ _ (Builtin.SmallTypes.ownedTupleIsFree (.ref z) >>= _) _ _ _;refine wpAny_bind (Sw hz hT fun h₁ hz₁ hs₁=>?_);rw [if_neg (by decide)];refine wpAny_bind ?_;rw [<- Array.forIn_toList];simp only [List.forIn_cons,List.forIn_nil];refine wpAny_bind (wpAny_bind (wpAny_holding ?_));show wpAny _ _ (Builtin.SmallTypes.nextOf (.ref i1) >>= _) _ _ _;refine wpAny_bind (wpAny_nextOf_list_item (h1.extBut hs₁.extBut D.i1z) (hl1.extBut hs₁.extBut D.l1z) hx fun h₂ h1₂ hs₂=>wpAny_pure ?_);refine wpAny_pure ?_;refine wpAny_bind (wpAny_bind (wpAny_holding ?_));show wpAny _ _ (Builtin.SmallTypes.nextOf (.ref i2) >>= _) _ _ _;refine wpAny_bind (wpAny_nextOf_list_item ((h2.extBut hs₁.extBut D.i2z).extBut hs₂.extBut D.i12.symm) ((hl2.extBut hs₁.extBut D.l2z).extBut hs₂.extBut D.l2i1) hy fun h₄ h2₄ hs₄=>wpAny_pure ?_);refine wpAny_pure (wpAny_pure ?_);have hsz:h₄.objs.size=s.heap.objs.size:=by rw [hs₄.1,hs₂.1,hs₁.1]
 have kp:∀ b o,b≠z->b≠i1->b≠i2->s.heap.get? b=some o->h₄.get? b=some o:=fun b o b1 b2 b3 e=>hs₄.extBut _ _ b3 (hs₂.extBut _ _ b2 (hs₁.extBut _ _ b1 e));have hz₄:Mt h₄ z TI TO T true:=hs₄.extBut _ _ D.i2z.symm (hs₂.extBut _ _ D.i1z.symm hz₁);show wpAny _ _ (newTuple [x,y] >>= _) _ _ _;refine wpAny_bind (wpAny_newTuple (wpAny_pure ⟨_,rfl,?_⟩));have hp:h₄.objs.size=s.heap.objs.size:=hsz;rw [hp];refine hQ _ (Heap.get?_push_of_some _ hz₄) ((h1₂.extBut hs₄.extBut D.i12).at fun o e=>Heap.get?_push_of_some _ e) (h2₄.at fun o e=>Heap.get?_push_of_some _ e) ?_ (by rw [Heap.size_push,hp]) fun b o b1 b2 b3 e=>Heap.get?_push_of_some _ (kp b o b1 b2 b3 e);rw [<- hp];exact Heap.get?_push_size _ rfl
theorem dN {z TI TO T i1 i2 l1 l2:Addr}{k1 k2:Nat}{xs ys:Array Value}{x y:Value}{c:Bool}{oT:Obj}{Q:Option Value->Shared->Prop}(D:ZipApart z TI TO i1 i2 l1 l2)
  (hz:Mt s.heap z TI TO T c)(hT:s.heap.get? T=some oT)(hTI:IsPair s.heap TI (.ref i1) (.ref i2))(h1:s.heap.IsListIter i1 l1 k1)(h2:s.heap.IsListIter i2 l2 k2)(hl1:s.heap.IsList l1 xs)(hl2:s.heap.IsList l2 ys)(hx:xs[k1]?=some x)(hy:ys[k2]?=some y)
  (hQ:∀ h',Mt h' z TI TO T true->h'.IsListIter i1 l1 (k1+1)->h'.IsListIter i2 l2 (k2+1)->IsPair h' s.heap.objs.size x y->h'.objs.size=s.heap.objs.size+1->(∀ b o,b≠z->b≠i1->b≠i2->s.heap.get? b=some o->h'.get? b=some o)->Q (some (.ref s.heap.objs.size)) { s with heap:=h' }) :
  wpAny (model prog w) A (pyNext (.ref z)) Q E s:=by
 have hTy:s.TypeIs (.ref z) "zip":=⟨_,hz,rfl⟩;unfold pyNext;exact wpAny_bind (wpAny_attempt (wpAny_callSpecial?_slot (name:=Str.ofString "__next__") hTy PySem.F.slot_zip_next
  (wpAny_call_entry PySem.F.slot_zip_next hTy PySem.F.entry_zip_next
   (eG D hz hT hTI h1 h2 hl1 hl2 hx hy fun h' a1 a2 a3 a4 a5 a6=>wpAny_pure (hQ h' a1 a2 a3 a4 a5 a6)) (PySem.F.args_zip_next_1 _))))
theorem jQ {z TI TO T i1 i2 l1 l2:Addr}{k1:Nat}{xs:Array Value}{c:Bool}{oT:Obj}{Q:Option Value->Shared->Prop}(hh:A.handled=none)(D:ZipApart z TI TO i1 i2 l1 l2)
  (hz:Mt s.heap z TI TO T c)(hT:s.heap.get? T=some oT)(hTI:IsPair s.heap TI (.ref i1) (.ref i2))(h1:s.heap.IsListIter i1 l1 k1)(hl1:s.heap.IsList l1 xs)(hx:xs[k1]?=none)
  (hQ:∀ h',(∀ b o,b≠z->b≠i1->b≠i2->s.heap.get? b=some o->h'.get? b=some o)->Q none { s with heap:=h' }) :
  wpAny (model prog w) A (pyNext (.ref z)) Q E s:=by
 have hTy:s.TypeIs (.ref z) "zip":=⟨_,hz,rfl⟩;unfold pyNext;refine wpAny_bind (wpAny_attempt (wpAny_callSpecial?_slot (name:=Str.ofString "__next__") hTy PySem.F.slot_zip_next
  (wpAny_call_entry PySem.F.slot_zip_next hTy PySem.F.entry_zip_next ?_ (PySem.F.args_zip_next_1 _))))
 show wpAny _ _ (field (.ref z) 2 >>= _) _ _ _;refine wpAny_bind (wpAny_field hz rfl (x:=.bool false) rfl ?_);show wpAny _ _ (field (.ref z) 3 >>= _) _ _ _;refine wpAny_bind (wpAny_field hz rfl (x:=.ref TI) rfl ?_);refine wpAny_bind (wpAny_seqItems hTI rfl ?_);show wpAny _ _ (Builtin.SmallTypes.ownedTupleIsFree (.ref z) >>= _) _ _ _;refine wpAny_bind (Sw hz hT fun h₁ hz₁ hs₁=>?_);rw [if_neg (by decide)];refine wpAny_bind ?_;rw [<- Array.forIn_toList];simp only [List.forIn_cons,List.forIn_nil];refine wpAny_bind (wpAny_bind (wpAny_holding ?_));show wpAny _ _ (Builtin.SmallTypes.nextOf (.ref i1) >>= _) _ _ _;refine wpAny_bind (wpAny_nextOf_list_end hh (h1.extBut hs₁.extBut D.i1z) (hl1.extBut hs₁.extBut D.l1z) hx fun h₂ e hs₂ he=>?_);obtain ⟨oe,hoe,hce⟩:=he;show wpAny _ _ (isInstance (.ref e) (.type "StopIteration") >>= _) _ _ _;refine wpAny_bind (wpAny_isInstance (T:="StopIteration") (b:=true) ⟨oe,hoe,hce⟩ isSubtype_stop ?_);exact wpAny_pure (hQ _ fun b o b1 b2 b3 e=>hs₂ _ _ b2 (hs₁.extBut _ _ b1 e))
end
def Ir (vs:List (Key×Value)):Prop:=∀ p∈vs,∃ y:V,Ba y p.2
theorem Rp:∀ vs:List (Key×Value),Ir vs->∃ kvs:List (Key×V),KV kvs vs
 | [],_=>⟨[],.nil⟩
 | p::r,h=>by
  obtain ⟨kvs,hk⟩:=Rp r fun q hq=>h q (List.mem_cons_of_mem _ hq);obtain ⟨y,hy⟩:=h p List.mem_cons_self;exact ⟨(p.1,y)::kvs,.cons ⟨rfl,hy⟩ hk⟩
theorem Pz:∀ {kvs:List (Key×V)} {vs:List (Key×Value)},KV kvs vs->Ir vs
 | _,_,.nil=>fun p hp=>by cases hp
 | _,_,.cons h t=>fun p hp=>by
  rcases List.mem_cons.mp hp with rfl | hp
  ·exact ⟨_,h.2⟩
  ·exact Pz t p hp
theorem Ig {vs:List (Key×Value)}{k:Key}{u:Value}(h:Ir vs)(hu:∃ y:V,Ba y u):Ir (stored vs k u):=by
 intro p hp;unfold stored at hp;split at hp
 ·obtain ⟨q,hq,e⟩:=List.mem_map.mp hp
  split at e
  ·rw [<- e];exact hu
  ·rw [<- e];exact h q hq
 ·rcases List.mem_append.mp hp with hp | hp
  ·exact h p hp
  ·rw [List.mem_singleton.mp hp];exact hu
theorem T1 {vs more:List (Key×Value)}(h:Ir vs)(hm:Ir more):Ir (merged vs more):=by
 unfold merged
 induction more generalizing vs with
 | nil=>exact h
 | cons p r ih=>exact ih (Ig h (hm p List.mem_cons_self)) fun q hq=>hm q (List.mem_cons_of_mem _ hq)
section
variable {prog:Program} {w:World} {A:Around} {E:Value->Shared->Prop} {R:Result->Shared->Prop}
theorem Cv:plainId "dict.update.loop"=true:=by decide +kernel
theorem Gf:entryFor table "dict.update.loop"=some Builtin.«dict.update.loop»:=entryFor_of_tree (by kernel_rfl)
theorem Ra {s:Shared}{T:Addr}{x y:Value}{Q:List Value->Shared->Prop}(hT:IsPair s.heap T x y)(h:Q [x,y] s):wpAny (model prog w) A (Builtin.Dict.pairItems (.ref T)) Q E s:=by
 have ty:s.TypeIs (.ref T) "tuple":=⟨_,hT,rfl⟩;unfold Builtin.Dict.pairItems;refine wpAny_bind (wpAny_typeOf ty ?_);rw [if_pos (by decide)];exact wpAny_bind (wpAny_seqItems hT rfl (wpAny_pure h))
structure DzA (d z TI TO i1 i2 l1 l2:Addr):Prop where
 za:ZipApart z TI TO i1 i2 l1 l2
 dz:d≠z
 dI:d≠TI
 dO:d≠TO
 d1:d≠i1
 d2:d≠i2
 dl:d≠l1
 dm:d≠l2
theorem qR {d z TI TO i1 i2 l1 l2 T:Addr}{xs ys:Array Value}(D:DzA d z TI TO i1 i2 l1 l2)(hTz:T≠z)(hT1:T≠i1)(hT2:T≠i2)(hTd:T≠d)(hh:A.handled=none)(he:xs.size=ys.size)
  (hk:∀ (i:Nat) x,xs[i]?=some x->∃ n t,x=Value.int n t)(hv:∀ (i:Nat) y,ys[i]?=some y->∃ v:V,Ba v y):∀ (m i:Nat) (s:Shared) (tk:Tok) (c:Bool) (vs:List (Key×Value)) (oT:Obj),xs.size-i=m->i<=xs.size->Mt s.heap z TI TO T c->s.heap.get? T=some oT->IsPair s.heap TI (.ref i1) (.ref i2) ->
   s.heap.IsListIter i1 l1 i->s.heap.IsListIter i2 l2 i->s.heap.IsList l1 xs->s.heap.IsList l2 ys->s.heap.DictOf (B5 prog w) d vs->Ir vs->vs.length+(xs.size-i)<=sizeLine ->
   (∀ h' k vs',h'.DictOf (B5 prog w) d vs'->Ir vs'->vs'.length<=vs.length+(xs.size-i)->(∀ b o,b≠z->b≠i1->b≠i2->b≠d->s.heap.get? b=some o->h'.get? b=some o)->R (.ok (.ret .none)) { s with heap:=h',toks:=k }) ->
   codeAny (model prog w) A (.builtin "dict.update.loop" ⟨[.ref d,.ref z,.int i tk,.none],[]⟩) R s:=by
 intro m
 induction m with
 | zero =>
  intro i s tk c vs oT hm hi hz hT hTI h1 h2 hl1 hl2 hd hkn hsz q;refine codeAny_builtin Gf ?_;rw [Around.under_plainId Cv _];show wpAny _ A.in1 (pyNext (.ref z) >>= _) _ _ s;refine wpAny_bind (jQ (by exact hh) D.za hz hT hTI h1 hl1 (Array.getElem?_eq_none (by omega)) fun h' kp=>?_);show wpAny _ A.in1 (Builtin.Dict.addKeywords d [] >>= _) _ _ _;refine wpAny_bind (wpAny_pure (wpAny_pure ?_));obtain ⟨o,es,ep,ho,r⟩:=hd;exact q h' s.toks vs ⟨o,es,ep,kp _ _ D.dz D.d1 D.d2 ho,r⟩ hkn (Nat.le_add_right _ _) fun b o b1 b2 b3 _ e=>kp b o b1 b2 b3 e
 | succ m ih =>
  intro i s tk c vs oT hm hi hz hT hTI h1 h2 hl1 hl2 hd hkn hsz q;obtain ⟨x,hx⟩:∃ x,xs[i]?=some x:=⟨_,Array.getElem?_eq_getElem (show i<xs.size by omega)⟩;obtain ⟨y,hy⟩:∃ y,ys[i]?=some y:=⟨_,Array.getElem?_eq_getElem (show i<ys.size by omega)⟩;obtain ⟨n,t,rfl⟩:=hk i x hx;refine codeAny_builtin Gf ?_;rw [Around.under_plainId Cv _];show wpAny _ A.in1 (pyNext (.ref z) >>= _) _ _ s;refine wpAny_bind (dN D.za hz hT hTI h1 h2 hl1 hl2 hx hy fun h' hz' h1' h2' hp hsz' kp=>?_);have hd':h'.DictOf (B5 prog w) d vs:=by
   obtain ⟨o,es,ep,ho,r⟩:=hd;exact ⟨o,es,ep,kp _ _ D.dz D.d1 D.d2 ho,r⟩
  show wpAny _ A.in1 (holding _ _ >>= _) _ _ _;refine wpAny_bind (wpAny_holding (wpAny_bind (wpAny_tryCatch (Ra hp ?_))));show wpAny _ A.in1 (holding _ (dictSet d (.int n t) y)) _ _ _;refine wpAny_holding (wpAny_dictSet_pairs (knd:=B5 prog w) (k:=.inl n) (J6 prog w n t) hd' (fun h2 dd' hs=>?_) (by omega));have k2:∀ b o,b≠z->b≠i1->b≠i2->b≠d->s.heap.get? b=some o->h2.get? b=some o:=fun b o b1 b2 b3 b4 e=>(hs.2 b b4).trans (kp b o b1 b2 b3 e);have st:∀ b o,b≠d->h'.get? b=some o->h2.get? b=some o:=fun b o b4 e=>(hs.2 b b4).trans e;have hln:=stored_length_le vs (Sum.inl n:Key) y;refine wpAny_pure ⟨plainId_quiet Cv _,?_⟩;refine ih (i+1) _ _ true _ oT (by omega) (by omega) (st _ _ D.dz.symm hz') (k2 _ _ hTz hT1 hT2 hTd hT) (k2 _ _ D.za.TIz D.za.TIi1 D.za.TIi2 D.dI.symm hTI) (h1'.at fun o e=>st _ o D.d1.symm e) (h2'.at fun o e=>st _ o D.d2.symm e)
   (hl1.at fun o e=>k2 _ o D.za.l1z D.za.l1i1 D.za.l1i2 D.dl.symm e) (hl2.at fun o e=>k2 _ o D.za.l2z D.za.l2i1 D.za.l2i2 D.dm.symm e) dd' (Ig hkn (hv i y hy)) (by omega) fun h3 k vs' hd3 hkn3 hl3 kp3=>?_
  exact q h3 k vs' hd3 hkn3 (by omega) fun b o b1 b2 b3 b4 e=>kp3 b o b1 b2 b3 b4 (k2 b o b1 b2 b3 b4 e)
theorem eB {s:Shared}{tk:Tok}{d z TI TO i1 i2 l1 l2:Addr}{a b:Value}{xs ys:Array Value}{vs:List (Key×Value)}(D:DzA d z TI TO i1 i2 l1 l2)(hh:A.handled=none)(he:xs.size=ys.size)
  (hk:∀ (i:Nat) x,xs[i]?=some x->∃ n t,x=Value.int n t)(hv:∀ (i:Nat) y,ys[i]?=some y->∃ v:V,Ba v y)(hz:IsZip s.heap z TI TO .none)(hTO:IsPair s.heap TO a b)(hTI:IsPair s.heap TI (.ref i1) (.ref i2))
  (h1:s.heap.IsListIter i1 l1 0)(h2:s.heap.IsListIter i2 l2 0)(hl1:s.heap.IsList l1 xs)(hl2:s.heap.IsList l2 ys)(hd:s.heap.DictOf (B5 prog w) d vs)(hkn:Ir vs)(hsz:vs.length+xs.size<=sizeLine)
  (q:∀ h' k vs',h'.DictOf (B5 prog w) d vs'->Ir vs'->vs'.length<=vs.length+xs.size->(∀ b o,b≠z->b≠TO->b≠i1->b≠i2->b≠d->s.heap.get? b=some o->h'.get? b=some o)->R (.ok (.ret .none)) { s with heap:=h',toks:=k }) :
  codeAny (model prog w) A (.builtin "dict.update.loop" ⟨[.ref d,.ref z,.int 0 tk,.none],[]⟩) R s:=by
 refine codeAny_builtin Gf ?_;rw [Around.under_plainId Cv _];show wpAny _ A.in1 (pyNext (.ref z) >>= _) _ _ s;rcases Nat.eq_zero_or_pos xs.size with h0 | h0
 ·refine wpAny_bind (wpAny_pyNext_zip_end (by exact hh) D.za hz hTI hTO h1 h2 hl1 hl2 (.inl (Array.getElem?_eq_none (by omega))) fun h' kp=>?_)
  show wpAny _ A.in1 (Builtin.Dict.addKeywords d [] >>= _) _ _ _;refine wpAny_bind (wpAny_pure (wpAny_pure ?_));obtain ⟨o,es,ep,ho,r⟩:=hd;exact q h' s.toks vs ⟨o,es,ep,kp _ _ D.dz D.dO D.d1 D.d2 ho,r⟩ hkn (Nat.le_add_right _ _) fun b o b1 b2 b3 b4 _ e=>kp b o b1 b2 b3 b4 e
 ·obtain ⟨x,hx⟩:∃ x,xs[0]?=some x:=⟨_,Array.getElem?_eq_getElem h0⟩
  obtain ⟨y,hy⟩:∃ y,ys[0]?=some y:=⟨_,Array.getElem?_eq_getElem (show 0<ys.size by omega)⟩;obtain ⟨n,t,rfl⟩:=hk 0 x hx;refine wpAny_bind (wpAny_pyNext_zip_item D.za hz hTI hTO h1 h2 hl1 hl2 hx hy fun h' hz' _ h1' h2' hp hsz' kp=>?_);have hd':h'.DictOf (B5 prog w) d vs:=by
   obtain ⟨o,es,ep,ho,r⟩:=hd;exact ⟨o,es,ep,kp _ _ D.dz D.dO D.d1 D.d2 ho,r⟩
  have lt:∀ {c o},s.heap.get? c=some o->s.heap.objs.size≠c:=fun e=>Nat.ne_of_gt (Heap.lt_size e);have ltd:s.heap.objs.size≠d:=by
   obtain ⟨o,es,ep,ho,r⟩:=hd;exact lt ho
  show wpAny _ A.in1 (holding _ _ >>= _) _ _ _;refine wpAny_bind (wpAny_holding (wpAny_bind (wpAny_tryCatch (Ra hp ?_))));show wpAny _ A.in1 (holding _ (dictSet d (.int n t) y)) _ _ _;refine wpAny_holding (wpAny_dictSet_pairs (knd:=B5 prog w) (k:=.inl n) (J6 prog w n t) hd' (fun hb dd' hs=>?_) (by omega));have k2:∀ b o,b≠z->b≠TO->b≠i1->b≠i2->b≠d->s.heap.get? b=some o->hb.get? b=some o:=fun b o b1 b2 b3 b5 b4 e=>(hs.2 b b4).trans (kp b o b1 b2 b3 b5 e);have st:∀ b o,b≠d->h'.get? b=some o->hb.get? b=some o:=fun b o b4 e=>(hs.2 b b4).trans e;have hln:=stored_length_le vs (Sum.inl n:Key) y;refine wpAny_pure ⟨plainId_quiet Cv _,?_⟩;refine qR D (T:=s.heap.objs.size) (lt hz) (by obtain ⟨_,e,_⟩:=h1;exact lt e) (by obtain ⟨_,e,_⟩:=h2;exact lt e) ltd hh he hk hv _ 1 _ _ false _ _ rfl h0 (st _ _ D.dz.symm hz') (st _ _ ltd hp) (k2 _ _ D.za.TIz D.za.TITO D.za.TIi1 D.za.TIi2 D.dI.symm hTI) (h1'.at fun o e=>st _ o D.d1.symm e) (h2'.at fun o e=>st _ o D.d2.symm e)
   (hl1.at fun o e=>k2 _ o D.za.l1z D.za.l1TO D.za.l1i1 D.za.l1i2 D.dl.symm e) (hl2.at fun o e=>k2 _ o D.za.l2z D.za.l2TO D.za.l2i1 D.za.l2i2 D.dm.symm e) dd' (Ig hkn (hv 0 y hy)) (by omega) fun h3 k vs' hd3 hkn3 hl3 kp3=>?_
  exact q h3 k vs' hd3 hkn3 (by omega) fun b o b1 b2 b3 b5 b4 e=>kp3 b o b1 b3 b5 b4 (k2 b o b1 b2 b3 b5 b4 e)
theorem Sc {s:Shared}{z TI TO i1 i2 l1 l2:Addr}{a b:Value}{xs ys:Array Value}{Q:Value->Shared->Prop}(D:ZipApart z TI TO i1 i2 l1 l2)(hh:A.handled=none)(he:xs.size=ys.size)
  (hk:∀ (i:Nat) x,xs[i]?=some x->∃ n t,x=Value.int n t)(hv:∀ (i:Nat) y,ys[i]?=some y->∃ v:V,Ba v y)(hz:IsZip s.heap z TI TO .none)(hTO:IsPair s.heap TO a b)(hTI:IsPair s.heap TI (.ref i1) (.ref i2))
  (h1:s.heap.IsListIter i1 l1 0)(h2:s.heap.IsListIter i2 l2 0)(hl1:s.heap.IsList l1 xs)(hl2:s.heap.IsList l2 ys)(hsz:xs.size<=sizeLine)
  (q:∀ h' k vs',h'.DictOf (B5 prog w) s.heap.objs.size vs'->Ir vs'->vs'.length<=xs.size->(∀ b o,b≠z->b≠TO->b≠i1->b≠i2->s.heap.get? b=some o->h'.get? b=some o)->Q (.ref s.heap.objs.size) { s with heap:=h',toks:=k }) :
  wpAny (model prog w) A (call (.type "dict") [.ref z]) Q E s:=by
 refine callType_codes (Q₁:=fun obj s₁=>obj=.ref s.heap.objs.size/\s₁={ s with heap:=s.heap.push { cls:=.type "dict",data:=.dict #[] } }) PySem.F.kt_called_dict (PySem.F.kt_typeCall_dict_1 _) PySem.F.entry_dict_init (kt_code_dict_new _ ⟨rfl,rfl⟩) ?_;rintro obj s₁ ⟨rfl,rfl⟩;have hnew:(s.heap.push { cls:=.type "dict",data:=.dict #[] }).DictOf (B5 prog w) s.heap.objs.size []:=Heap.DictOf.new s.heap;have up:∀ b o,s.heap.get? b=some o->(s.heap.push { cls:=.type "dict",data:=.dict #[] }).get? b=some o:=fun b o e=>Heap.get?_push_of_some _ e;have lt:∀ {c o},s.heap.get? c=some o->s.heap.objs.size≠c:=fun e=>Nat.ne_of_gt (Heap.lt_size e);refine ⟨hnew.typeIs,PySem.F.args_dict_init_2 _ _,?_⟩;unfold Builtin.«dict.__init__»;refine wpAny_bind ?_;unfold Builtin.Dict.selfAndRest;refine wpAny_bind (wpAny_notOrdered_dict hnew.typeIs ?_);show wpAny _ _ (pure (s.heap.objs.size,[Value.ref z])) _ _ _;refine wpAny_pure ?_;show wpAny _ _ (Builtin.Dict.updateFrom "dict.__init__" s.heap.objs.size (.ref z) [] .none) _ _ _;unfold Builtin.Dict.updateFrom;have hz':=up _ _ hz;refine wpAny_bind (wpAny_typeOf (T:="zip") ⟨_,hz',rfl⟩ ?_);rw [if_pos (by decide)];refine wpAny_bind (pC hz' (by exact hh) fun h' tk kp=>?_);rw [if_pos (by rfl)];refine wpAny_bind (wpAny_rule (wpAny_bind (wpAny_pyIter_zip (kp _ _ hz') ?_)));have up2:∀ b o,s.heap.get? b=some o->h'.get? b=some o:=fun b o e=>kp _ _ (up b o e);have hd':h'.DictOf (B5 prog w) s.heap.objs.size []:=by
  obtain ⟨o,es,ep,ho,r⟩:=hnew;exact ⟨o,es,ep,kp _ _ ho,r⟩
 refine wpAny_pure ⟨plainId_quiet Cv _,?_⟩;refine eB (a:=a) (b:=b) (vs:=[]) ⟨D,lt hz,lt hTI,lt hTO,?_,?_,?_,?_⟩ (by exact hh) he hk hv (up2 _ _ hz) (up2 _ _ hTO) (up2 _ _ hTI) (h1.at fun o e=>up2 _ o e) (h2.at fun o e=>up2 _ o e) (hl1.at fun o e=>up2 _ o e) (hl2.at fun o e=>up2 _ o e) hd' (fun p hp=>by cases hp) (by simpa using hsz) fun h3 k vs' hd3 hkn3 hl3 kp3=>?_
 ·obtain ⟨_,e,_⟩:=h1;exact lt e
 ·obtain ⟨_,e,_⟩:=h2;exact lt e
 ·obtain ⟨_,e,_⟩:=hl1;exact lt e
 ·obtain ⟨_,e,_⟩:=hl2;exact lt e
 ·exact ⟨rfl,q h3 k vs' hd3 hkn3 (by simpa using hl3) fun b o b1 b2 b3 b4 e=>kp3 b o b1 b2 b3 b4 (lt e).symm (up2 _ _ e)⟩
end
theorem Hb:∀ {kvs:List (Key×V)} {vs:List (Key×Value)},KV kvs vs->kvs.length=vs.length
 | _,_,.nil=>rfl
 | _,_,.cons _ t=>congrArg (·+1) (Hb t)
section
variable {X:Cx}
def qJ (K:PySem.W.Frag)(ta:TA):TE:=fun σ H Q=>ta σ H fun vs H1=>∃ a b ns ys,vs=[.ref a,.ref b]/\SqL K H1 a (List.map V.int ns)/\SqL K H1 b ys/\ns.length=ys.length/\∀ p kvs,H1 p=none->kvs.length<=ns.length->Q (.ref p) (upd H1 p (.dK kvs))
theorem nG {a b:Expr}{ta:TA}{p q pos pos2:Pos}(hcal:X.calm=true)(hg:Gl X "dict")(hm:X.mg "dict"=none)(hg2:Gl X "zip")(hm2:X.mg "zip"=none)(ha:PA X [a,b] ta)
  (hs:starEach [a,b] X.env=[(false,eval a X.env),(false,eval b X.env)]:=by rfl)(hs2:starEach [b] X.env=[(false,eval b X.env)]:=by rfl)
  (hs3:starEach [Expr.Call (.Name "zip" q) [a,b] [] pos2] X.env=[(false,eval (.Call (.Name "zip" q) [a,b] [] pos2) X.env)]:=by rfl) :
  PE X (.Call (.Name "dict" p) [.Call (.Name "zip" q) [a,b] [] pos2] [] pos) (qJ X.K ta):=by
 intro pins s σ H Q I h;refine wpAny_Call_Name_kw (Dq I hg hm tI (PyProof.Rows.callWith_type1 ?_ hs3 rfl) (by decide) (by decide));rw [hs3];refine Calls.spliced_cons ?_;show wpAny _ _ (eval (Expr.Call (.Name "zip" q) [a,b] [] pos2) X.env) _ _ _;refine wpAny_Call_Name_kw (Dq I hg2 hm2 qD (PyProof.Rows.callWith_type1 (thn (ha pos2 pins s σ H _ I h) fun us s1 ⟨vs,H1,I1,r1,q1⟩=>?_) (by rw [hs,hs2]) (by rw [hs2];rfl)) (by decide) (by decide));obtain ⟨a,b,ns,ys,e,hx,hy,hl,q⟩:=q1;subst e;obtain ⟨u,v,rfl,ru,rv⟩:=R1 r1;cases ru;cases rv;obtain ⟨its,rv,p,hz⟩:=I1.list hx;obtain ⟨its2,rv2,p2,hz2⟩:=I1.list hy;have l1:=rv.length;have l2:=rv2.length;rw [List.length_map] at l1;refine call_zip_2 p.isList p2.isList fun h' g1 g2 g3 g4 g5 hsz kk=>?_;refine Calls.spliced_nil ?_;have A1:h'.IsList a its.toArray:=p.isList.at fun o e=>kk _ o e;have A2:h'.IsList b its2.toArray:=p2.isList.at fun o e=>kk _ o e;have D:=Zy (Pq _) (⟨g1,g2,⟨_,_,g3⟩,g4,g5⟩:StZ _ _ _ _ _ a b 0 h') A1 A2;refine Sc (s:={ s1 with heap:=h' }) D (I1.ok.hd hcal) (by simp;omega) (fun i x e=>?_) (fun i y e=>?_) g1 g3 g2 g4 g5 A1 A2 (by simp;rw [List.length_map] at hz;omega) fun h2 k vs' d2 kn lv kp=>?_
 ·have e':its[i]?=some x:=by simpa using e
  have li:=(List.getElem?_eq_some_iff.mp e').1;have hn:(List.map V.int ns)[i]?=some (.int (ns[i]'(by omega))):=by rw [List.getElem?_map,List.getElem?_eq_getElem (by omega)];rfl
  obtain ⟨u,hu,t,rfl⟩:=rv.get hn;rw [e'] at hu;cases hu;exact ⟨_,_,rfl⟩
 ·have e':its2[i]?=some y:=by simpa using e
  have li:=(List.getElem?_eq_some_iff.mp e').1;obtain ⟨u,hu,rr⟩:=rv2.get (List.getElem?_eq_getElem (show i<ys.length by omega));rw [e'] at hu;cases hu;exact ⟨_,rr⟩
 ·obtain ⟨kvs,hk⟩:=Rp vs' kn
  have lk:=Hb hk;have hle:s1.heap.objs.size<=h'.objs.size:=by omega
  have lns:kvs.length<=ns.length:=by simp at lv;omega
  refine ⟨.ref h'.objs.size,_,I1.laid (a:=h'.objs.size) (o:=.dK kvs) (t':=k) (fun b o e=>?_) hle ⟨?_,?_,vs',hk,d2⟩,rfl,q _ kvs (I1.hok.fresh hle) lns⟩
  ·have lt:=Heap.lt_size e
   have ne:∀ c,s1.heap.objs.size<=c->b≠c:=fun c hc z=>Nat.lt_irrefl _ (Nat.lt_of_lt_of_le lt (z▸hc));exact kp b o (ne _ (Nat.le_add_right _ _)) (ne _ (Nat.le_add_right _ _)) (ne _ (Nat.le_refl _)) (ne _ (Nat.le_add_right _ _)) (kk _ _ e)
  ·rw [List.length_map] at hz;omega
  ·exact beq_eq_false_iff_ne.mpr (Ne.symm (Nat.ne_of_lt (Nat.lt_of_lt_of_le (cB I1) hle)))
theorem rT {σ:St}{H:Hp}{Q:VK}{ta:TA}{K:PySem.W.Frag}(h:ta σ H fun vs H1=>∃ a b ns ys,vs=[.ref a,.ref b]/\SqL K H1 a (List.map V.int ns)/\SqL K H1 b ys/\ns.length=ys.length/\∀ p kvs,H1 p=none->kvs.length<=ns.length->Q (.ref p) (upd H1 p (.dK kvs))):qJ K ta σ H Q:=h
def cU:V->List V->Hp->VK->Prop:=fun x vs H Q=>∃ a b kvs kvs2,x=.ref a/\vs=[.ref b]/\a≠b/\H a=some (.dK kvs)/\H b=some (.dK kvs2)/\kvs.length+kvs2.length<=sizeLine/\∀ kvs',kvs'.length<=kvs.length+kvs2.length->Q .non (upd H a (.dK kvs'))
theorem dS:MtM X "dict.update" cU:=by
 intro pins s σ H x vs v us Q I rx rv h;obtain ⟨a,b,kvs,kvs2,rfl,rfl,hne,hA,hB,hz,q⟩:=h;cases rx;obtain ⟨u,rfl,ru⟩:=E7 rv;cases ru;obtain ⟨z1,m1,v1,k1,d1⟩:=(show Cp X.prog X.w H s.heap a (.dK kvs) from I.hok a _ hA);obtain ⟨z2,m2,v2,k2,d2⟩:=(show Cp X.prog X.w H s.heap b (.dK kvs2) from I.hok b _ hB);have e1:=Hb k1;have e2:=Hb k2;refine call_meetsIn PySem.F.slot_dict_update d1.typeIs PySem.F.entry_dict_update (PySem.F.args_dict_update_2 _ _) (meets_dict_update (B5 X.prog X.w) a b hne m2)
  ⟨v1,v2,d1,d2,by omega,fun h' dd _ hs=>?_⟩
 have lm:=merged_length_le v1 v2;obtain ⟨kvs',hk⟩:=Rp (merged v1 v2) (T1 (Pz k1) (Pz k2));have lk:=Hb hk;refine ⟨.non,_,I.write (x:=a) (e:=a) (o:=.dK kvs') (t':=s.toks) (by rw [hA];trivial) (.inl rfl) (fun b u hb e=>(hs.2 b hb).trans e) ?_ ⟨by omega,m1,_,hk,dd⟩,rfl,q kvs' (by omega)⟩;obtain ⟨o,es,ep,ho,r⟩:=dd;exact ⟨o,ho⟩
end
theorem Px:∀ {xs:List V} {us:List Value},xs.length=us.length->(∀ (i:Nat) x u,xs[i]?=some x->us[i]?=some u->Ba x u)->Az xs us
 | [],[],_,_=>.nil
 | x::xs,u::us,hl,h=>.cons (h 0 x u rfl rfl) (Px (Nat.succ.inj hl) fun i y v e1 e2=>h (i+1) y v e1 e2)
section
variable {X:Cx}
def qK (ta:TA):TE:=fun σ H Q=>ta σ H fun vs H1=>∃ j:Nat,vs=[.int j]/\j<=100000/\∀ p,H1 p=none->Q (.ref p) (upd H1 p (.lst ((List.range j).map fun i:Nat=>V.int i)))
theorem fA {a:Expr}{ta:TA}{p q pos pos2:Pos}(hcal:X.calm=true)(hg:Gl X "list")(hm:X.mg "list"=none)(hg2:Gl X "range")(hm2:X.mg "range"=none)(ha:PA X [a] ta)
  (hs:starEach [a] X.env=[(false,eval a X.env)]:=by rfl)
  (hs3:starEach [Expr.Call (.Name "range" q) [a] [] pos2] X.env=[(false,eval (.Call (.Name "range" q) [a] [] pos2) X.env)]:=by rfl) :
  PE X (.Call (.Name "list" p) [.Call (.Name "range" q) [a] [] pos2] [] pos) (qK ta):=by
 intro pins s σ H Q I h;refine wpAny_Call_Name_kw (Dq I hg hm Li (PyProof.Rows.callWith_type1 ?_ hs3 rfl) (by decide) (by decide));rw [hs3];refine Calls.spliced_cons ?_;show wpAny _ _ (eval (Expr.Call (.Name "range" q) [a] [] pos2) X.env) _ _ _;refine wpAny_Call_Name_kw (Dq I hg2 hm2 boot_range (PyProof.Rows.callWith_type1 (thn (ha pos2 pins s σ H _ I h) fun us s1 ⟨vs,H1,I1,r1,q1⟩=>?_) hs rfl) (by decide) (by decide));obtain ⟨j,e,hj,q⟩:=q1;subst e;obtain ⟨u,rfl,t,rfl⟩:=E7 r1;refine call_range_1 (Calls.spliced_nil ?_);have e2:Builtin.Range.rangeSize 0 (j:Int) 1=j:=by rw [rangeSize_one];split<;>omega
 refine call_list_range (I1.ok.hd hcal) (IsRange.new ..) (small_one (by omega) (by omega) (by omega) (by omega)) e2 (by omega) fun h' tk acc c kp ho it=>?_;have hv:Az ((List.range j).map fun i:Nat=>V.int i) acc.toList:=Px (by rw [List.length_map,List.length_range,Array.length_toList,it.1]) fun i x u e1 e3=>by
  have hi:i<j:=by have:=(List.getElem?_eq_some_iff.mp e1).1;simpa using this
  rw [List.getElem?_map,List.getElem?_range hi] at e1;cases e1;have e4:acc[i]?=some u:=by rw [<- Array.getElem?_toList];exact e3
  obtain ⟨t,e5⟩:=it.2 i u e4;exact ⟨t,by rw [e5];simp⟩
 have up:∀ b o,s1.heap.get? b=some o->h'.get? b=some o:=fun b o e=>kp _ _ (Heap.get?_push_of_some _ e);have hle:s1.heap.objs.size<=(s1.heap.push { cls:=.type "range",data:=.fields #[.int 0 s1.toks,.int j t,.int 1 (s1.toks+1)] }).objs.size:=by rw [Heap.size_push];omega
 refine ⟨.ref _,_,I1.laid (t':=tk) (o:=.lst _) up hle ⟨?_,acc.toList,c,hv,ho⟩,rfl,q _ (I1.hok.fresh hle)⟩;rw [List.length_map,List.length_range];exact Nat.le_of_lt (Nat.lt_of_le_of_lt hj (by decide))
theorem rH {σ:St}{H:Hp}{Q:VK}{ta:TA}(h:ta σ H fun vs H1=>∃ j:Nat,vs=[.int j]/\j<=100000/\∀ p,H1 p=none->Q (.ref p) (upd H1 p (.lst ((List.range j).map fun i:Nat=>V.int i)))):qK ta σ H Q:=h
end
structure X2 (K:PySem.W.Frag) (x qual:Str) (st:Stmt) (f:Addr) (fd:FuncData):Prop where
 ex:∃ (oc:Value) (od:Option Addr) (T:Addr) (kV doc pm:Value) (an:Option Addr) (cdv ct:Value) (osl:Array (Option Value)) (o:Obj) (v:Value) (n:Nat),
  fd=PySem.W.fnOf x qual (Bw st) (Bl st) (Ad st) (.ref T) kV doc pm an cdv ct/\K.lookup f=some ⟨oc,od,.func fd,osl⟩/\PySem.W.codeIn K cdv qual=true/\K.lookup T=some o/\o.data=.seq #[v] n
section
variable {P:Program} {w:World} {K:PySem.W.Frag} {mg:Str->Option Value} {base:Heap}
theorem X2.okE {x qual:Str}{st:Stmt}{f:Addr}{fd:FuncData}{N ps:List Str}{k:Nat}{sp:Sp}(F:X2 K x qual st f fd)(S:An N ps (Ad st))(len:∀ vs H Q E,sp vs H Q E->vs.length=ps.length)
  (hbody:∀ (cdv:Value) (A:Around) (outer:List Env) (s:Shared) (H:Hp) (vs:List V) (Q:VK) (E:XK),Cr k (A.deeper (envOfC qual (Ad st) s.heap.objs.size f cdv))->sp vs H Q E ->
   ∃ t,PSs (X9 (CXE P w) P w K mg base N qual (Ad st) f cdv A outer s H E) (Bl st) t/\t { nx:=fun _ H'=>Q .non H',rt:=Q } (Lc N vs) H):A4 P w K mg base (CXE P w) (k+1) f fd ps sp:=by
 obtain ⟨oc,od,T,kV,doc,pm,an,cdv,ct,osl,o,v,n,rfl,lk,hcd,_⟩:=F.ex;exact jY lk hcd S len fun A outer s H vs Q E hr hsp=>hbody cdv A outer s H vs Q E hr hsp
theorem X2.binds {x qual:Str}{st:Stmt}{f:Addr}{fd:FuncData}{ps:List Str}(F:X2 K x qual st f fd)
  (h:∀ (T:Addr) (kV doc pm:Value) (an:Option Addr) (cdv ct:Value) (us:List Value),us.length=ps.length->∃ k,bindArgs (PySem.W.fnOf x qual (Bw st) (Bl st) (Ad st) (.ref T) kV doc pm an cdv ct) ⟨us,[]⟩=seqItems? (.ref T) >>= k/\∀ v,k (some #[v])=pure (ps.zip us)):E1 K fd ps []:=by
 obtain ⟨oc,od,T,kV,doc,pm,an,cdv,ct,osl,o,v,n,rfl,lk,hcd,hT,hd⟩:=F.ex;intro s us KX hl;rw [List.append_nil] at hl ⊢;obtain ⟨k,h1,h2⟩:=h T kV doc pm an cdv ct us hl;exact BindsTo.of_defaults rfl (KX _ _ hT) hd h1 (h2 v)
theorem pB {x qual:Str}{st:Stmt}{f T:Addr}{oc:Value}{od an:Option Addr}{osl:Array (Option Value)}{kV doc pm cdv ct v:Value}{o:Obj}{n:Nat}(l:K.lookup f=some ⟨oc,od,.func (PySem.W.fnOf x qual (Bw st) (Bl st) (Ad st) (.ref T) kV doc pm an cdv ct),osl⟩)
  (c:PySem.W.codeIn K cdv qual=true)(hT:K.lookup T=some o)(hd:o.data=.seq #[v] n):X2 K x qual st f (PySem.W.fnOf x qual (Bw st) (Bl st) (Ad st) (.ref T) kV doc pm an cdv ct):=⟨⟨oc,od,T,kV,doc,pm,an,cdv,ct,osl,o,v,n,rfl,l,c,hT,hd⟩⟩
end
section
variable {σ:St} {H:Hp}
theorem qU {to ti:TE}{t:Xg}{v:V}{R:St->Hp->Prop}(h:to σ H fun o H1=>ti σ H1 fun i H2=>t o i v H2 fun H3=>R σ H3):wF to ti t v σ H R:=h
theorem mO {n j:Nat}(h:j<n):ixN n (j:Int)=some j:=by
 unfold ixN;rw [if_pos (by omega),if_pos (by omega)];simp
theorem Nf {p:Addr}{xs:List V}{j:Nat}{i:Int}{v:V}{R:Hp->Prop}(h:H p=some (.lst xs))(hi:i=j)(hj:j<xs.length)(q:R (upd H p (.lst (xs.set j v)))):pK (.ref p) (.int i) v H R :=
 ⟨p,xs,i,j,rfl,rfl,h,by rw [hi];exact mO hj,q⟩
theorem hZ {a b:Addr}{kvs kvs2:List (Key×V)}{Q:VK}(hn:a≠b)(h1:H a=some (.dK kvs))(h2:H b=some (.dK kvs2))(hz:kvs.length+kvs2.length<=sizeLine)(q:∀ kvs',kvs'.length<=kvs.length+kvs2.length->Q .non (upd H a (.dK kvs'))):cU (.ref a) [.ref b] H Q :=
 ⟨a,b,kvs,kvs2,rfl,rfl,hn,h1,h2,hz,q⟩
end
section
variable {κ:Type} [DecidableEq κ]
def Ge (kvs:List (κ×V))(k:κ):Option V:=(kvs.find? fun kv=>decide (kv.1=k)).map (·.2)
def Nb (kvs:List (κ×V))(k:κ)(v:V):List (κ×V) :=
 if (kvs.any fun kv=>decide (kv.1=k))=true then kvs.map (fun kv=>if kv.1=k then (kv.1,v) else kv) else kvs++[(k,v)]
theorem Ec {p:κ×V}{r:List (κ×V)}{k:κ}(e:p.1=k):Ge (p::r) k=some p.2:=by simp [Ge,List.find?_cons,e]
theorem Ea {p:κ×V}{r:List (κ×V)}{k:κ}(e:¬ p.1=k):Ge (p::r) k=Ge r k:=by simp [Ge,List.find?_cons,e]
theorem Rc (k:κ):∀ kvs:List (κ×V),(kvs.any fun kv=>decide (kv.1=k))=(Ge kvs k).isSome
 | []=>rfl
 | p::r=>by
  rw [List.any_cons]
  by_cases e:p.1=k
  ·simp only [Ec e,decide_eq_true e,Bool.true_or,Option.isSome_some]
  ·rw [Ea e,decide_eq_false e,Bool.false_or];exact Rc k r
theorem Wo (k j:κ)(y:V):∀ kvs:List (κ×V),Ge (kvs.map fun kv=>if kv.1=k then (kv.1,y) else kv) j=(Ge kvs j).map fun x=>if j=k then y else x
 | []=>rfl
 | p::r=>by
  have ih:=Wo k j y r;rw [List.map_cons]
  by_cases h:p.1=k
  ·rw [if_pos h]
   by_cases e:p.1=j
   ·rw [Ec (p:=(p.1,y)) e,Ec e,Option.map_some,if_pos (e.symm.trans h)]
   ·rw [Ea (p:=(p.1,y)) e,Ea e,ih]
  ·rw [if_neg h]
   by_cases e:p.1=j
   ·rw [Ec (p:=p) e,Ec e,Option.map_some,if_neg (fun z=>h (e.trans z))]
   ·rw [Ea (p:=p) e,Ea e,ih]
theorem Sv (k j:κ)(y:V):∀ kvs:List (κ×V),Ge kvs k=none->Ge (kvs++[(k,y)]) j=if j=k then some y else Ge kvs j
 | [],_=>by
  by_cases e:k=j
  ·rw [if_pos e.symm];exact Ec (p:=(k,y)) e
  ·rw [if_neg (fun z=>e z.symm)];exact Ea (p:=(k,y)) e
 | p::r,hn=>by
  rw [List.cons_append];have hk:¬ p.1=k:=fun z=>by rw [Ec z] at hn;cases hn
  rw [Ea hk] at hn;have ih:=Sv k j y r hn
  by_cases e:p.1=j
  ·rw [Ec e,Ec e,if_neg (fun z=>hk (e.trans z))]
  ·rw [Ea e,Ea e,ih]
theorem lZ (kvs:List (κ×V))(k j:κ)(y:V):Ge (Nb kvs k y) j=if j=k then some y else Ge kvs j:=by
 unfold Nb
 by_cases a:(kvs.any fun kv=>decide (kv.1=k))=true
 ·rw [if_pos a,Wo]
  rw [Rc] at a
  by_cases e:j=k
  ·obtain ⟨x,hx⟩:=Option.isSome_iff_exists.mp a
   rw [if_pos e,e,hx,Option.map_some,if_pos rfl]
  ·rw [if_neg e]
   cases Ge kvs j with
   | none=>rfl
   | some x=>rw [Option.map_some,if_neg e]
 ·rw [if_neg a]
  refine Sv k j y kvs ?_;rw [Rc] at a
  cases q:Ge kvs k with
  | none=>rfl
  | some x=>rw [q] at a;exact (a rfl).elim
theorem Ob (kvs:List (κ×V))(k:κ)(v:V):(Nb kvs k v).length<=kvs.length+1:=by
 unfold Nb;split
 ·rw [List.length_map];omega
 ·rw [List.length_append,List.length_cons,List.length_nil];omega
theorem Mg.isSome_eq {o:Option V}{u:Option Value}(r:Mg o u):o.isSome=u.isSome:=by
 cases o with
 | none=>cases u with
  | none=>rfl
  | some _=>exact (show False from r).elim
 | some _=>cases u with
  | none=>exact (show False from r).elim
  | some _=>rfl
theorem KV.val {kvs:List (κ×V)}{vs:List (κ×Value)}(r:KV kvs vs)(k:κ):Mg (Ge kvs k) (valueAt vs k):=by
 unfold KV at r
 induction r with
 | nil=>exact True.intro
 | @cons p q ps qs h t ih =>
  obtain ⟨h1,h2⟩:=h
  by_cases e:p.1=k
  ·have e':q.1=k:=h1.symm.trans e
   have b:valueAt (q::qs) k=some q.2:=by simp [valueAt,List.find?_cons,e']
   rw [Ec e,b];exact h2
  ·have e':¬ q.1=k:=fun z=>e (h1.trans z)
   have b:valueAt (q::qs) k=valueAt qs k:=by simp [valueAt,List.find?_cons,e']
   rw [Ea e,b];exact ih
theorem KV.any {kvs:List (κ×V)}{vs:List (κ×Value)}(r:KV kvs vs)(k:κ):(kvs.any fun kv=>decide (kv.1=k))=vs.any fun kv=>decide (kv.1=k):=by
 unfold KV at r
 induction r with
 | nil=>rfl
 | cons h t ih=>rw [List.any_cons,List.any_cons,ih,h.1]
theorem KV.repl {kvs:List (κ×V)}{vs:List (κ×Value)}(r:KV kvs vs)(k:κ){y:V}{u:Value}(ry:Ba y u) :
  KV (kvs.map fun kv=>if kv.1=k then (kv.1,y) else kv) (vs.map fun kv=>if kv.1=k then (kv.1,u) else kv):=by
 unfold KV at r ⊢
 induction r with
 | nil=>exact .nil
 | @cons p q ps qs h t ih =>
  rw [List.map_cons,List.map_cons];refine .cons ?_ ih;obtain ⟨h1,h2⟩:=h
  by_cases e:p.1=k
  ·rw [if_pos e,if_pos (h1.symm.trans e)];exact ⟨h1,ry⟩
  ·rw [if_neg e,if_neg (fun z=>e (h1.trans z))];exact ⟨h1,h2⟩
theorem KV.put {kvs:List (κ×V)}{vs:List (κ×Value)}(r:KV kvs vs)(k:κ){y:V}{u:Value}(ry:Ba y u):KV (Nb kvs k y) (stored vs k u):=by
 unfold Nb stored;rw [r.any k]
 by_cases e:(vs.any fun kv=>decide (kv.1=k))=true
 ·rw [if_pos e,if_pos e];exact r.repl k ry
 ·rw [if_neg e,if_neg e];exact Paired.snoc r ⟨rfl,ry⟩
theorem KV.length {kvs:List (κ×V)}{vs:List (κ×Value)}(r:KV kvs vs):kvs.length=vs.length:=Paired.length r
end
theorem iW {P:Program}{w:World}{k:Key}{u:Value}(r:Ba (kV k) u):(B5 P w).is k u=true:=by
 cases k with
 | inl i=>obtain ⟨t,e⟩:=(show ∃ t,u=Value.int i t from r);subst e;exact J6 P w i t
 | inr x=>obtain ⟨t,e⟩:=(show ∃ t,u=Value.str x t from r);subst e;exact Xx P w x t
section
variable {P:Program} {w:World} {H:Hp} {h:Heap} {a:Addr}
theorem wK {u:HO}(ok:HOk P w H h)(e:Rd H a u):Cp P w H h a u:=e.ok ok
theorem wH {kvs:List (Key×V)}(ok:HOk P w H h)(e:Rd H a (.dK kvs)):kvs.length<=sizeLine/\(a==sysModules)=false/\∃ vs,KV kvs vs/\h.DictOf (B5 P w) a vs :=
 show Cp P w H h a (.dK kvs) from wK ok e
theorem gO {kvs:List (Key×V)}(ok:HOk P w H h)(e:H a=some (.dK kvs)):kvs.length<=sizeLine/\(a==sysModules)=false/\∃ vs,KV kvs vs/\h.DictOf (B5 P w) a vs:=wH ok (.inl e)
end
section
variable {X:Cx} {pins:List (Addr×Obj)} {σ:St} {H:Hp} {s:Shared} {a:Addr} {y v:V} {u r:Value} {o:Option V} {A:Around} {E:Value->Shared->Prop}
theorem mL {h':Heap}{t':Nat}{ob:HO}(I:Inv X pins σ H s)(mu:Mut (H a))(hs:Heap.SameBut a s.heap h')(he:∃ q,h'.get? a=some q)(new:Cp X.prog X.w (upd H a ob) h' a ob) :
  Inv X pins σ (upd H a ob) { s with heap:=h',toks:=t' } :=
 I.write (x:=a) (e:=a) mu (.inl rfl) (fun b q hb z=>(hs.2 b hb).trans z) he new
theorem qY {P:Program}{w:World}{H':Hp}{h':Heap}{kvs:List (Key×V)}{vs:List (Key×Value)}(z:kvs.length<=sizeLine)(hd:(a==sysModules)=false)(rel:KV kvs vs)(dd:h'.DictOf (B5 P w) a vs) :
  Cp P w H' h' a (.dK kvs):=⟨z,hd,vs,rel,dd⟩
end
end L2
end
section
namespace TW
end TW
end
section
namespace L2
open PySem PySem.Spec PyProof.Rows
section
variable {X:Cx}
def vD:R2:=fun x y H Q=>∃ d kvs k,x=.int k/\y=.ref d/\H d=some (.dK kvs)/\Q (.bl (Ge kvs (.inl k)).isSome) H
theorem kC:OpR X (compareOp .In) vD:=by
 intro pins s σ H x y v u Q I rx ry h;obtain ⟨d,kvs,k,rfl,rfl,hd,q⟩:=h;cases ry;obtain ⟨z,hs,vs,rel,dd⟩:=gO I.hok hd;refine wpAny_in_of (iW (k:=.inl k) rx) hs dd.mapOf ?_;refine ⟨.bl _,H,I.tok _,?_,q⟩;rw [(rel.val (.inl k)).isSome_eq];rfl
theorem pR {H:Hp}{Q:VK}{d:Addr}{kvs:List (Key×V)}{k:Int}(hd:H d=some (.dK kvs))(q:Q (.bl (Ge kvs (.inl k)).isSome) H):vD (.int k) (.ref d) H Q:=⟨d,kvs,k,rfl,rfl,hd,q⟩
def uK:R2:=fun x y H Q=>∃ d kvs k v,x=.ref d/\y=.int k/\H d=some (.dK kvs)/\Ge kvs (.inl k)=some v/\Q v H
theorem cM:IxR X uK:=by
 intro value Mv pins s σ H x y v u Q I rx ry h hs;obtain ⟨d,kvs,k,z,rfl,rfl,hd,hv,q⟩:=h;cases rx;obtain ⟨_,_,vs,rel,dd⟩:=gO I.hok hd;obtain ⟨w',hw,rw'⟩:=Mg.some_of (v:=z) (o:=valueAt vs (.inl k)) (by rw [<- hv];exact rel.val (.inl k));exact tail_any dd.typeIs PySem.F.slot_dict_getitem.lookup (wpAny_getItem_of (iW (k:=.inl k) ry) dd.mapOf hw ⟨z,H,I.tok _,rw',q⟩) hs
theorem pI {H:Hp}{Q:VK}{d:Addr}{kvs:List (Key×V)}{k:Int}{v:V}(hd:H d=some (.dK kvs))(hv:Ge kvs (.inl k)=some v)(q:Q v H):uK (.ref d) (.int k) H Q:=⟨d,kvs,k,v,rfl,rfl,hd,hv,q⟩
def pE:Xg:=fun o i v H Q=>∃ d kvs k,o=.ref d/\i=.int k/\H d=some (.dK kvs)/\kvs.length<sizeLine/\Q (upd H d (.dK (Nb kvs (.inl k) v)))
theorem gG:oF X pE:=by
 intro pins s σ H o i v ov iv u Q I ro ri rv h;obtain ⟨d,kvs,k,rfl,rfl,hd,hl,q⟩:=h;cases ro;obtain ⟨z,hm,vs,rel,dd⟩:=gO I.hok hd;have hz:vs.length<=sizeLine:=by rw [<- rel.length];exact z
 have hl:(Nb kvs (.inl k) v).length<=sizeLine:=by have:=Ob kvs (.inl k:Key) v;omega
 refine wpAny_setItem_pairs (hsz:=hz) (iW (k:=.inl k) ri) dd fun h' dd' hs=>⟨_,?_,q⟩;have he:∃ q,h'.get? d=some q:=let ⟨q,_,_,hq,_⟩:=dd';⟨q,hq⟩;exact mL I (by rw [hd];exact True.intro) hs he (qY hl hm (rel.put (.inl k) rv) dd')
theorem sG {H:Hp}{d:Addr}{kvs:List (Key×V)}{k:Int}{v:V}{R:Hp->Prop}(hd:H d=some (.dK kvs))(hl:kvs.length<sizeLine)(q:R (upd H d (.dK (Nb kvs (.inl k) v)))):pE (.ref d) (.int k) v H R:=⟨d,kvs,k,rfl,rfl,hd,hl,q⟩
end
structure kI (P:Program) (w:World) (K:PySem.W.Frag) (mg:Str->Option Value) (base:Heap) (name:Str) (C:Addr) (k:Nat) (ps:List Str) (sp:Sp) (dvs:List V):Prop where
 ex:∃ (f:Addr) (fd:FuncData) (ds:List Value),A4 P w K mg base (CXE P w) k f fd ps sp/\E1 K fd ps ds/\Az dvs ds/\Mk K C f/\mg name=some (.ref C)
section
variable {X:Cx} {k:Nat} {C:Addr} {ps:List Str} {sp:Sp} {dvs:List V} {name m:Str} {p pos apos:Pos} {e o:Expr} {es:List Expr} {ta:TE} {t:TA} {E:XK}
theorem mE (M:kI X.prog X.w X.K X.mg X.base name C k ps sp dvs)(hr:Cr (k+1) X.A)(hx:Id (CXE X.prog X.w) X E)(ha:PA X (e::es) t)(hg:Gl X name:=by rfl)(hdb:(name==("__debug__":Str))=false:=by decide)
  (he:starEach (e::es) X.env=(false,eval e X.env)::starEach es X.env:=by rfl)(hpl:(backTo pos (starEach es X.env)).any (·.1)=false:=by rfl):PE X (.Call (.Name name p) (e::es) [] pos) (cK C sp dvs E t):=by
 obtain ⟨f,fd,ds,F,b,rd,M,hm⟩:=M.ex;exact dG M F hr hg hm b rd hx ha hdb he hpl
end
theorem X2.bindsD {K:PySem.W.Frag}{x qual:Str}{st:Stmt}{T:Addr}{ps:List Str}{kV doc pm cdv ct v:Value}{an:Option Addr}{o:Obj}{n m:Nat}(hT:K.lookup T=some o)(hd:o.data=.seq #[v] n)(hm:ps.length=m+1)
  (h:∀ (us:List Value),us.length=m->∃ k,bindArgs (PySem.W.fnOf x qual (Bw st) (Bl st) (Ad st) (.ref T) kV doc pm an cdv ct) ⟨us,[]⟩=seqItems? (.ref T) >>= k/\k (some #[v])=pure (ps.zip (us++[v]))):E1 K (PySem.W.fnOf x qual (Bw st) (Bl st) (Ad st) (.ref T) kV doc pm an cdv ct) ps [v]:=by
 intro s us KX hl;obtain ⟨k,h1,h2⟩:=h us (by rw [List.length_append,hm] at hl;exact Nat.succ.inj hl);exact BindsTo.of_defaults rfl (KX _ _ hT) hd h1 h2
end L2
end
section
namespace TW
section
variable {α:Type} (lt:α->α->Bool)
def mg:List α->List α->List α
 | [],ys=>ys
 | x::xs,[]=>x::xs
 | x::xs,y::ys=>if lt y x=true then y::mg (x::xs) ys else x::mg xs (y::ys)
termination_by xs ys=>xs.length+ys.length
theorem Dj (ys:List α):mg lt [] ys=ys:=by rw [mg]
theorem Bo (xs:List α):mg lt xs []=xs:=by cases xs<;>rw [mg]
theorem Fk (x y:α)(xs ys:List α):mg lt (x::xs) (y::ys)=if lt y x=true then y::mg lt (x::xs) ys else x::mg lt xs (y::ys):=by rw [mg]
theorem Os {x y:α}{xs ys:List α}(h:lt y x=true):mg lt (x::xs) (y::ys)=y::mg lt (x::xs) ys:=by rw [Fk,if_pos h]
theorem Sj {x y:α}{xs ys:List α}(h:lt y x=false):mg lt (x::xs) (y::ys)=x::mg lt xs (y::ys):=by rw [Fk,if_neg (by rw [h];decide)]
theorem Du {ys:List α}:∀ {as xs:List α},(∀ a∈as,∀ y∈ys,lt y a=false)->mg lt (as++xs) ys=as++mg lt xs ys
 | [],_,_=>rfl
 | a::as,xs,h=>by
  cases ys with
  | nil=>rw [Bo,Bo]
  | cons y ys =>
   rw [List.cons_append,Sj lt (h a List.mem_cons_self y List.mem_cons_self),Du fun b hb=>h b (List.mem_cons_of_mem _ hb)];rfl
theorem Df {xs:List α}:∀ {bs ys:List α},(∀ b∈bs,∀ x∈xs,lt b x=true)->mg lt xs (bs++ys)=bs++mg lt xs ys
 | [],_,_=>rfl
 | b::bs,ys,h=>by
  cases xs with
  | nil=>rw [Dj,Dj]
  | cons x xs =>
   rw [List.cons_append,Os lt (h b List.mem_cons_self x List.mem_cons_self),Df fun c hc=>h c (List.mem_cons_of_mem _ hc)];rfl
theorem Kj {as:List α}:∀ (xs ys:List α),(∀ a∈as,∀ y∈ys,lt y a=true)->mg lt (xs++as) ys=mg lt xs ys++as
 | [],ys,h=>by
  have:=Df lt (xs:=as) (bs:=ys) (ys:=[]) fun b hb x hx=>h x hx b hb;rw [List.append_nil,Bo] at this;rw [List.nil_append,this,Dj]
 | x::xs,[],h=>by rw [Bo,Bo]
 | x::xs,y::ys,h=>by
  rw [List.cons_append,Fk,Fk];split
  ·have:=Kj (x::xs) ys fun a ha z hz=>h a ha z (List.mem_cons_of_mem _ hz)
   rw [List.cons_append] at this;rw [this];rfl
  ·rw [Kj xs (y::ys) h]
   rfl
termination_by xs ys=>xs.length+ys.length
theorem Ks {bs:List α}:∀ (xs ys:List α),(∀ b∈bs,∀ x∈xs,lt b x=false)->mg lt xs (ys++bs)=mg lt xs ys++bs
 | [],ys,h=>by rw [Dj,Dj]
 | x::xs,[],h=>by
  have:=Du lt (ys:=bs) (as:=x::xs) (xs:=[]) fun a ha y hy=>h y hy a ha;rw [List.append_nil,Dj] at this;rw [List.nil_append,this,Bo]
 | x::xs,y::ys,h=>by
  rw [List.cons_append,Fk,Fk];split
  ·rw [Ks (x::xs) ys h]
   rfl
  ·have:=Ks xs (y::ys) fun b hb z hz=>h b hb z (List.mem_cons_of_mem _ hz)
   rw [List.cons_append] at this;rw [this];rfl
termination_by xs ys=>xs.length+ys.length
theorem Kr:∀ (xs ys:List α),(mg lt xs ys).Perm (xs++ys)
 | [],ys=>by rw [Dj];exact List.Perm.refl _
 | x::xs,[]=>by rw [Bo,List.append_nil]
 | x::xs,y::ys=>by
  rw [Fk];split
  ·exact ((Kr (x::xs) ys).cons y).trans List.perm_middle.symm
  ·exact (Kr xs (y::ys)).cons x
termination_by xs ys=>xs.length+ys.length
def Srt (l:List α):Prop:=l.Pairwise fun a b=>lt b a=false
structure Swo:Prop where
 irr:∀ a,lt a a=false
 tr:∀ a b c,lt a b=true->lt b c=true->lt a c=true
 ng:∀ a b c,lt a c=true->lt a b=true\/lt b c=true
variable {lt}
section
variable (o:Swo lt)
include o
theorem Swo.asy {a b:α}(h:lt a b=true):lt b a=false:=by
 cases e:lt b a with
 | false=>rfl
 | true=>have:=o.tr _ _ _ h e;rw [o.irr] at this;cases this
theorem Swo.le {a b c:α}(h1:lt b a=false)(h2:lt c b=false):lt c a=false:=by
 cases e:lt c a with
 | false=>rfl
 | true =>
  rcases o.ng c b a e with h | h
  ·rw [h2] at h;cases h
  ·rw [h1] at h;cases h
theorem Swo.ltle {a b c:α}(h1:lt a b=true)(h2:lt c b=false):lt a c=true:=by
 rcases o.ng a c b h1 with h | h
 ·exact h
 ·rw [h2] at h;cases h
theorem Swo.lelt {a b c:α}(h1:lt b a=false)(h2:lt b c=true):lt a c=true:=by
 rcases o.ng b a c h2 with h | h
 ·rw [h1] at h;cases h
 ·exact h
theorem J7:∀ a b c:List α,mg lt (mg lt a b) c=mg lt a (mg lt b c)
 | [],b,c=>by rw [Dj,Dj]
 | x::a,[],c=>by rw [Bo,Dj]
 | x::a,y::b,[]=>by rw [Bo,Bo]
 | x::a,y::b,z::c=>by
  cases h1:lt y x with
  | true =>
   cases h2:lt z y with
   | true =>
    have ih:=J7 (x::a) (y::b) c;rw [Os lt h1] at ih ⊢;rw [Os lt h2,Os lt h2,Os lt (o.tr _ _ _ h2 h1),ih]
   | false =>
    have ih:=J7 (x::a) b (z::c);rw [Os lt h1,Sj lt h2,Sj lt h2,Os lt h1,ih]
  | false =>
   cases h3:lt z x with
   | true =>
    have h2:lt z y=true:=by
     rcases o.ng z y x h3 with h | h
     ·exact h
     ·rw [h1] at h;cases h
    have ih:=J7 (x::a) (y::b) c;rw [Sj lt h1] at ih ⊢;rw [Os lt h3,Os lt h2,Os lt h3,ih]
   | false =>
    have ih:=J7 a (y::b) (z::c);rw [Sj lt h1,Sj lt h3,ih]
    cases h2:lt z y with
    | true=>rw [Os lt h2,Sj lt h3]
    | false=>rw [Sj lt h2,Sj lt h1]
termination_by a b c=>a.length+b.length+c.length
theorem Z8:∀ {xs ys:List α},Srt lt xs->Srt lt ys->Srt lt (mg lt xs ys)
 | [],ys,_,h=>by rw [Dj];exact h
 | x::xs,[],h,_=>by rw [Bo];exact h
 | x::xs,y::ys,h1,h2=>by
  have a1:=List.pairwise_cons.mp h1;have a2:=List.pairwise_cons.mp h2;rw [Fk];split
  ·rename_i hl
   refine List.pairwise_cons.mpr ⟨fun z hz=>?_,Z8 h1 a2.2⟩;rcases List.mem_append.mp ((Kr lt _ _).mem_iff.mp hz) with hz | hz
   ·rcases List.mem_cons.mp hz with rfl | hz
    ·exact o.asy hl
    ·exact o.le (o.asy hl) (a1.1 z hz)
   ·exact a2.1 z hz
  ·rename_i hl
   have hl:lt y x=false:=by simpa using hl
   refine List.pairwise_cons.mpr ⟨fun z hz=>?_,Z8 a1.2 h2⟩;rcases List.mem_append.mp ((Kr lt _ _).mem_iff.mp hz) with hz | hz
   ·exact a1.1 z hz
   ·rcases List.mem_cons.mp hz with rfl | hz
    ·exact hl
    ·exact o.le hl (a2.1 z hz)
termination_by xs ys=>xs.length+ys.length
end
variable (lt)
def As (l:List α):List α:=l.foldl (fun a x=>mg lt a [x]) []
theorem Cm (l:List α)(x:α):As lt (l++[x])=mg lt (As lt l) [x]:=by unfold As;rw [List.foldl_append];rfl
theorem Cn (l:List α):(As lt l).Perm l:=by
 have key:∀ (l a:List α),(l.foldl (fun a x=>mg lt a [x]) a).Perm (a++l):=fun l=>by
  induction l with
  | nil=>intro a;rw [List.append_nil];exact List.Perm.refl _
  | cons x l ih =>
   intro a;refine (ih _).trans ?_;refine ((Kr lt a [x]).append_right l).trans ?_;rw [List.append_assoc];exact List.Perm.refl _
 exact key l []
theorem Cz (l:List α):(As lt l).length=l.length:=(Cn lt l).length_eq
theorem Hd {P:List α->Prop}(h0:P [])(h1:∀ l x,P l->P (l++[x]))(l:List α):P l:=by
 have key:∀ n,∀ l:List α,l.length=n->P l:=fun n=>by
  induction n with
  | zero=>intro l h;rw [List.length_eq_zero_iff.mp h];exact h0
  | succ n ih =>
   intro l h;have hne:l≠[]:=fun e=>by rw [e] at h;cases h
   rw [<- List.dropLast_concat_getLast hne];exact h1 _ _ (ih _ (by rw [List.length_dropLast];omega))
 exact key _ l rfl
variable {lt}
theorem Tt (o:Swo lt)(a:List α)(b:List α):As lt (a++b)=mg lt (As lt a) (As lt b):=by
 induction b using Hd with
 | h0=>rw [List.append_nil];exact (Bo lt _).symm
 | h1 l x ih=>rw [<- List.append_assoc,Cm,Cm,ih,J7 o]
theorem Ku (o:Swo lt)(a:List α):Srt lt (As lt a):=by
 induction a using Hd with
 | h0=>exact List.Pairwise.nil
 | h1 l x ih=>rw [Cm];exact Z8 o ih (List.pairwise_singleton _ _)
theorem Hc {a:List α}(h:Srt lt a):As lt a=a:=by
 induction a using Hd with
 | h0=>rfl
 | h1 l x ih =>
  have hp:=List.pairwise_append.mp h;rw [Cm,ih hp.1];have:=Du lt (ys:=[x]) (as:=l) (xs:=[]) fun a ha y hy=>by rw [List.mem_singleton.mp hy];exact hp.2.2 a ha x (List.mem_singleton.mpr rfl)
  rw [List.append_nil,Dj] at this;exact this
theorem Yr {β:Type}{lt':β->β->Bool}{f:α->β}(h:∀ a b,lt' (f a) (f b)=lt a b):∀ xs ys:List α,mg lt' (xs.map f) (ys.map f)=(mg lt xs ys).map f
 | [],ys=>by rw [Dj];exact Dj _ _
 | x::xs,[]=>by rw [Bo];exact Bo _ _
 | x::xs,y::ys=>by
  rw [List.map_cons,List.map_cons,Fk,Fk,h];split
  ·have:=Yr h (x::xs) ys
   rw [List.map_cons] at this;rw [this];rfl
  ·have:=Yr h xs (y::ys)
   rw [List.map_cons] at this;rw [this];rfl
termination_by xs ys=>xs.length+ys.length
theorem Kp {β:Type}{lt':β->β->Bool}{f:α->β}(h:∀ a b,lt' (f a) (f b)=lt a b)(l:List α):As lt' (l.map f)=(As lt l).map f:=by
 induction l using Hd with
 | h0=>rfl
 | h1 l x ih =>
  rw [List.map_append,List.map_cons,List.map_nil,Cm,Cm,ih];exact Yr h _ [x]
end
end TW
end
section
namespace TW
section
variable {α:Type} {lt:α->α->Bool}
theorem F1 {l:List α}{i:Nat}{x:α}(h:l[i]?=some x):l.drop i=x::l.drop (i+1):=by
 obtain ⟨hl,e⟩:=List.getElem?_eq_some_iff.mp h;rw [List.drop_eq_getElem_cons hl,e]
theorem F4 {l:List α}{i:Nat}{x:α}(h:l[i]?=some x):l.take (i+1)=l.take i++[x]:=by rw [List.take_add_one,h];rfl
theorem tG {l:List α}(h:Srt lt l){i j:Nat}{x y:α}(hij:i<j)(hx:l[i]?=some x)(hy:l[j]?=some y):lt y x=false:=by
 obtain ⟨h1,e1⟩:=List.getElem?_eq_some_iff.mp hx;obtain ⟨h2,e2⟩:=List.getElem?_eq_some_iff.mp hy;have:=(List.pairwise_iff_getElem.mp h) i j h1 h2 hij;rw [e1,e2] at this;exact this
theorem D6 (o:Swo lt){l:List α}(h:Srt lt l){i j:Nat}{x y:α}(hij:i<=j)(hx:l[i]?=some x)(hy:l[j]?=some y):lt y x=false:=by
 rcases Nat.lt_or_eq_of_le hij with hl | hl
 ·exact tG h hl hx hy
 ·rw [hl,hy] at hx
  cases hx;exact o.irr _
theorem Rq {l:List α}{i:Nat}{x:α}(h:x∈l.drop i):∃ j,i<=j/\l[j]?=some x:=by
 obtain ⟨k,hk⟩:=List.getElem?_of_mem h;rw [List.getElem?_drop] at hk;exact ⟨i+k,Nat.le_add_right _ _,hk⟩
theorem Hm {l:List α}{i:Nat}{x:α}(h:x∈l.take i):∃ j,j<i/\l[j]?=some x:=by
 obtain ⟨k,hk⟩:=List.getElem?_of_mem h;rw [List.getElem?_take] at hk;split at hk
 ·exact ⟨k,by assumption,hk⟩
 ·cases hk
theorem C2 {l:List α}{i k:Nat}{x:α}(h:x∈(l.drop i).take k):∃ j,j<k/\l[i+j]?=some x:=by
 obtain ⟨j,hj,e⟩:=Hm h;rw [List.getElem?_drop] at e;exact ⟨j,hj,e⟩
theorem Fe (l:List α)(i k:Nat):l.drop i=(l.drop i).take k++l.drop (i+k):=by
 rw [<- List.drop_drop,List.take_append_drop]
variable (o:Swo lt) {la lb out:List α} {ia ib:Nat}
def MI (lt:α->α->Bool)(la lb out:List α)(ia ib:Nat):Prop:=out++mg lt (la.drop ia) (lb.drop ib)=mg lt la lb
theorem MI.b {x y:α}(h:MI lt la lb out ia ib)(hx:la[ia]?=some x)(hy:lb[ib]?=some y)(hl:lt y x=true):MI lt la lb (out++[y]) ia (ib+1):=by
 unfold MI at h ⊢;rw [<- h,F1 hx,F1 hy,Os lt hl,List.append_assoc];rfl
theorem MI.a {x y:α}(h:MI lt la lb out ia ib)(hx:la[ia]?=some x)(hy:lb[ib]?=some y)(hl:lt y x=false):MI lt la lb (out++[x]) (ia+1) ib:=by
 unfold MI at h ⊢;rw [<- h,F1 hx,F1 hy,Sj lt hl,List.append_assoc];rfl
theorem MI.doneB (h:MI lt la lb out ia ib)(hb:lb.length<=ib):out++la.drop ia++lb.drop ib=mg lt la lb:=by
 unfold MI at h;rw [<- h,List.drop_of_length_le hb,Bo,List.append_nil]
theorem MI.doneA (h:MI lt la lb out ia ib)(hb:la.length<=ia):out++la.drop ia++lb.drop ib=mg lt la lb:=by
 unfold MI at h;rw [<- h,List.drop_of_length_le hb,Dj,List.append_nil]
theorem MI.lastA (h:MI lt la lb out ia ib){x:α}(hx:la[ia]?=some x)(he:la.length<=ia+1)(hl:∀ y∈lb,lt y x=true):out++lb.drop ib++la.drop ia=mg lt la lb:=by
 unfold MI at h;have e:=Df lt (xs:=la.drop ia) (bs:=lb.drop ib) (ys:=[]) fun b hb z hz=>by
  rw [F1 hx,List.drop_of_length_le he] at hz;rw [List.mem_singleton.mp hz];exact hl b (List.mem_of_mem_drop hb)
 rw [List.append_nil,Bo] at e;rw [<- h,e,List.append_assoc]
include o in
theorem MI.as (h:MI lt la lb out ia ib)(sb:Srt lt lb){k:Nat}{y:α}(hy:lb[ib]?=some y)(hk:∀ i x,i<k->la[ia+i]?=some x->lt y x=false):MI lt la lb (out++(la.drop ia).take k) (ia+k) ib:=by
 unfold MI at h ⊢;rw [<- h]
 conv=>rhs;rw [Fe la ia k]
 rw [Du lt fun a ha z hz=>?_,List.append_assoc];obtain ⟨i,hi,e⟩:=C2 ha;obtain ⟨j,hj,e2⟩:=Rq hz;exact o.le (hk i a hi e) (D6 o sb hj hy e2)
include o in
theorem MI.bs (h:MI lt la lb out ia ib)(sa:Srt lt la){k:Nat}{x:α}(hx:la[ia]?=some x)(hk:∀ i y,i<k->lb[ib+i]?=some y->lt y x=true):MI lt la lb (out++(lb.drop ib).take k) ia (ib+k):=by
 unfold MI at h ⊢;rw [<- h]
 conv=>rhs;rw [Fe lb ib k]
 rw [Df lt fun b hb z hz=>?_,List.append_assoc];obtain ⟨i,hi,e⟩:=C2 hb;obtain ⟨j,hj,e2⟩:=Rq hz;exact o.ltle (hk i b hi e) (D6 o sa hj hx e2)
variable {na nb:Nat}
def MH (lt:α->α->Bool)(la lb out:List α)(na nb:Nat):Prop:=mg lt (la.take na) (lb.take nb)++out.reverse=mg lt la lb
theorem Ee (l:List α){c n:Nat}(h:c<=n):l.take n=l.take c++(l.drop c).take (n-c):=by
 rw [show n=c+(n-c) by omega,List.take_add];congr 2;omega
include o in
theorem MH.as (h:MH lt la lb out na nb)(sb:Srt lt lb){c:Nat}{y:α}(hc:c<=na)(hn:0<nb)(hy:lb[nb-1]?=some y)(hk:∀ i x,c<=i->i<na->la[i]?=some x->lt y x=true):MH lt la lb (out++((la.drop c).take (na-c)).reverse) c nb:=by
 unfold MH at h ⊢;rw [<- h,Ee la hc,Kj lt _ _ fun a ha z hz=>?_,List.reverse_append,List.reverse_reverse,List.append_assoc];obtain ⟨i,hi,e⟩:=C2 ha;obtain ⟨j,hj,e2⟩:=Hm hz;exact o.lelt (D6 o sb (show j<=nb-1 by omega) e2 hy) (hk (c+i) a (by omega) (by omega) e)
include o in
theorem MH.bs (h:MH lt la lb out na nb)(sa:Srt lt la){c:Nat}{x:α}(hc:c<=nb)(hn:0<na)(hx:la[na-1]?=some x)(hk:∀ i y,c<=i->i<nb->lb[i]?=some y->lt y x=false):MH lt la lb (out++((lb.drop c).take (nb-c)).reverse) na c:=by
 unfold MH at h ⊢;rw [<- h,Ee lb hc,Ks lt _ _ fun b hb z hz=>?_,List.reverse_append,List.reverse_reverse,List.append_assoc];obtain ⟨i,hi,e⟩:=C2 hb;obtain ⟨j,hj,e2⟩:=Hm hz;exact o.le (D6 o sa (show j<=na-1 by omega) e2 hx) (hk (c+i) b (by omega) (by omega) e)
theorem Oe {l:List α}{c n:Nat}{x:α}(hn:n=c+1)(h:l[c]?=some x):((l.drop c).take (n-c)).reverse=[x]:=by
 rw [hn,show c+1-c=1 by omega,F1 h];rfl
include o in
theorem MH.a {x y:α}(h:MH lt la lb out na nb)(sb:Srt lt lb)(hna:0<na)(hnb:0<nb)(hx:la[na-1]?=some x)(hy:lb[nb-1]?=some y)(hl:lt y x=true):MH lt la lb (out++[x]) (na-1) nb:=by
 have:=h.as o sb (c:=na-1) (by omega) hnb hy fun i z h1 h2 e=>by
  have:i=na-1:=by omega
  rw [this,hx] at e;cases e;exact hl
 rw [Oe (by omega) hx] at this;exact this
include o in
theorem MH.b {x y:α}(h:MH lt la lb out na nb)(sa:Srt lt la)(hna:0<na)(hnb:0<nb)(hx:la[na-1]?=some x)(hy:lb[nb-1]?=some y)(hl:lt y x=false):MH lt la lb (out++[y]) na (nb-1):=by
 have:=h.bs o sa (c:=nb-1) (by omega) hna hx fun i z h1 h2 e=>by
  have:i=nb-1:=by omega
  rw [this,hy] at e;cases e;exact hl
 rw [Oe (by omega) hy] at this;exact this
theorem MH.doneA (h:MH lt la lb out 0 nb):la.take 0++lb.take nb++out.reverse=mg lt la lb:=by
 unfold MH at h;rw [<- h,List.take_zero,Dj,List.nil_append]
theorem MH.doneB (h:MH lt la lb out na 0):la.take na++lb.take 0++out.reverse=mg lt la lb:=by
 unfold MH at h;rw [<- h,List.take_zero,Bo,List.append_nil]
theorem MH.firstB (h:MH lt la lb out na 1){y:α}(hy:lb[0]?=some y)(hl:∀ x∈la,lt y x=true):lb.take 1++la.take na++out.reverse=mg lt la lb:=by
 unfold MH at h;have e:=Df lt (xs:=la.take na) (bs:=lb.take 1) (ys:=[]) fun b hb z hz=>by
  rw [F4 hy,List.take_zero,List.nil_append] at hb;rw [List.mem_singleton.mp hb];exact hl z (List.mem_of_mem_take hz)
 rw [List.append_nil,Bo] at e;rw [<- h,e]
end
end TW
end
section
namespace L2
open PySem PySem.Spec PyProof.Rows
def mR:Bool->Keyed->Array Keyed->Nat->Nat->Nat->StateT SortSt Sem (Option Nat):=sortPriv% PySem.Builtin.gallop
def mU (left:Bool)(key:Keyed)(arr:Array Keyed)(base i:Nat):StateT SortSt Sem (Option Bool):=do
 let x <- elem' arr (base+i)
 if left=true then lt' x key else do
  let r <- lt' key x
  pure (r.map fun x=>!x)
section
variable {prog:Program} {w:World} {A:Around} {E:Value->Shared->Prop} {s:Shared}
def Y5 (prog:Program)(w:World)(A:Around)(E:Value->Shared->Prop)(s:Shared)(kd:SortKind)(P:Keyed->Prop)(blt:Keyed->Keyed->Bool):Prop :=
 ∀ (x y:Keyed) (st:SortSt) (Q:Option Bool->SortSt->Prop),P x->P y->kindOf st=kd->Q (some (blt x y)) st->wpS (model prog w) A E s (lt' x y) Q st
theorem Bf {arr:Array Keyed}{i:Nat}{p:Keyed}{st:SortSt}{Q:Keyed->SortSt->Prop}(e:arr[i]?=some p)(h:Q p st):wpS (model prog w) A E s (elem' arr i) Q st:=by
 rw [elem'_eq,e];exact wpS_pure h
variable {kd:SortKind} {P:Keyed->Prop} {blt:Keyed->Keyed->Bool} (L:Y5 prog w A E s kd P blt)
include L
def W6 (blt:Keyed->Keyed->Bool)(left:Bool)(key x:Keyed):Bool:=if left=true then blt x key else !(blt key x)
theorem pA {left:Bool}{key x:Keyed}{arr:Array Keyed}{base i:Nat}{st:SortSt}{Q:Option Bool->SortSt->Prop}(hk:kindOf st=kd)(hP:P key)(hx:arr[base+i]?=some x)(hPx:P x)(h:Q (some (W6 blt left key x)) st) :
  wpS (model prog w) A E s (mU left key arr base i) Q st:=by
 unfold mU;refine wpS_bind (Bf hx ?_)
 cases left with
 | true=>exact L _ _ _ _ hPx hP hk h
 | false=>exact wpS_bind (L _ _ _ _ hP hPx hk (wpS_pure h))
theorem E9 {left:Bool}{key:Keyed}{arr:Array Keyed}{base n hint:Nat}{bey:Nat->Bool}{st:SortSt}{Q:Option Nat->SortSt->Prop}(hk:kindOf st=kd)(hP:P key)(hh:hint<n)
    (hb : ∀ i, i < n->∃ x, arr[base + i]? = some x/\P x/\W6 blt left key x = bey i)(mono : ∀ i j, i <= j->j < n->bey j = true->bey i = true)
    (h : ∀ c, c <= n->(∀ i, i < c->bey i = true)->(∀ i, c <= i->i < n->bey i = false)->Q (some c) st) : wpS (model prog w) A E s (mR left key arr base n hint) Q st := by
  have hB : ∀ (i : Nat) (R : Option Bool->SortSt->Prop), i < n->R (some (bey i)) st->wpS (model prog w) A E s (mU left key arr base i) R st := fun i R hi r => by
    obtain ⟨x, e1, e2, e3⟩ := hb i hi;exact pA L hk hP e1 e2 (by rw [e3]; exact r)
  have monoF : ∀ i j, i <= j->j < n->bey i = false->bey j = false := fun i j h1 h2 h3 => by
    cases e : bey j with
    | false => rfl
    | true => rw [mono i j h1 h2 e] at h3; cases h3
  refine wpS_bind (hB hint _ hh ?_);dsimp only
  -- the last part: halving
  have last : ∀ (lo hi : Nat) (F : Nat->Option (Option Nat) × Nat × Nat->StateT SortSt Sem (ForInStep (Option (Option Nat) × Nat × Nat))),
      (∀ x lo hi, F x (none, lo, hi) = if lo >= hi then pure (ForInStep.done (none, lo, hi)) else do
        let r <- mU left key arr base (lo + (hi - lo) / 2)
        match r with
        | some more => if more = true then pure (ForInStep.yield (none, lo + (hi - lo) / 2 + 1, hi)) else pure (ForInStep.yield (none, lo, lo + (hi - lo) / 2))
        | x => pure (ForInStep.done (some none, lo, hi))) ->
      lo <= hi->hi <= n->(∀ i, i < lo->bey i = true)->(∀ i, hi <= i->i < n->bey i = false) ->
      wpS (model prog w) A E s (forIn [:n] (none, lo, hi) F) (fun r st' => r.1 = none/\st' = st/\r.2.2 <= n/\(∀ i, i < r.2.2->bey i = true)/\(∀ i, r.2.2 <= i->i < n->bey i = false)) st := by
    intro lo hi F hF hle hin h1 h2;refine wpS_forRange (I := fun x c st' => ∃ lo hi, c = (none, lo, hi)/\st' = st/\lo <= hi/\hi <= n/\hi - lo + x <= n/\(∀ i, i < lo->bey i = true)/\(∀ i, hi <= i->i < n->bey i = false)) ?_ ?_ ⟨lo, hi, rfl, rfl, hle, hin, by omega, h1, h2⟩
    · rintro x c st' _ hx ⟨lo, hi, rfl, rfl, hle, hin, hd, h1, h2⟩
      rw [hF]
      by_cases hge : lo >= hi
      · rw [if_pos hge]
        exact wpS_pure ⟨rfl, rfl, hin, fun i hi' => h1 i (by dsimp only at hi'; omega), h2⟩
      · rw [if_neg hge]
        refine wpS_bind (hB _ _ (by omega) ?_);dsimp only
        cases e : bey (lo + (hi - lo) / 2) with
        | true =>
          rw [if_pos rfl];exact wpS_pure ⟨_, _, rfl, rfl, by omega, hin, by omega, fun i hi' => mono i _ (by omega) (by omega) e, h2⟩
        | false =>
          rw [if_neg (by decide)];exact wpS_pure ⟨_, _, rfl, rfl, by omega, by omega, by omega, h1, fun i hi1 hi2 => monoF _ i hi1 hi2 e⟩
    · rintro c st' ⟨lo, hi, rfl, rfl, hle, hin, hd, h1, h2⟩
      have : max 0 n = n := by omega
      rw [this] at hd;exact ⟨rfl, rfl, hin, fun i hi' => h1 i (by dsimp only at hi'; omega), h2⟩
  cases e0 : bey hint with
  | true =>
    rw [if_pos rfl];refine wpS_bind (wpS_mono (wpS_forRange (I := fun x c st' => ∃ lo of, c = (none, lo, of)/\st' = st/\lo < of/\x + 1 <= of/\lo < n - hint/\bey (hint + lo) = true)
      (Q := fun c st' => ∃ lo of, c = (none, lo, of)/\st' = st/\lo < of/\lo < n - hint/\bey (hint + lo) = true/\(n - hint <= of\/(of < n - hint/\bey (hint + of) = false))) ?_ ?_ ⟨0, 1, rfl, rfl, by omega, by omega, by omega, e0⟩) ?_)
    · rintro x c st' _ hx ⟨lo, of, rfl, rfl, h1, h2, h3, h4⟩
      dsimp only
      by_cases hge : of >= n - hint
      · rw [if_pos hge]
        exact wpS_pure ⟨lo, of, rfl, rfl, h1, h3, h4, .inl hge⟩
      · rw [if_neg hge]
        refine wpS_bind (hB _ _ (by omega) ?_);dsimp only
        cases e : bey (hint + of) with
        | true => exact wpS_pure ⟨of, 2 * of + 1, rfl, rfl, by omega, by omega, by omega, e⟩
        | false => exact wpS_pure ⟨lo, of, rfl, rfl, h1, h3, h4, .inr ⟨by omega, e⟩⟩
    · rintro c st' ⟨lo, of, rfl, rfl, h1, h2, h3, h4⟩
      exact ⟨lo, of, rfl, rfl, h1, h3, h4, .inl (by have : max 0 n = n := by omega
                                                    omega)⟩
    · rintro c st' ⟨lo, of, rfl, rfl, h1, h3, h4, h5⟩
      dsimp only;refine wpS_bind (wpS_mono (last _ _ _ (fun x lo hi => rfl) ?_ ?_ ?_ ?_) ?_)
      · omega
      · omega
      · intro i hi
        exact mono i (hint + lo) (by omega) (by omega) h4
      · intro i hi1 hi2
        rcases h5 with h5 | ⟨h5, h6⟩
        · omega
        · exact monoF (hint + of) i (by omega) hi2 h6
      · rintro ⟨r, lo2, hi2⟩ st' ⟨e1, e2, e3, e4, e5⟩
        dsimp only at e1 e2 e3 e4 e5;subst e1 e2;exact wpS_pure (h hi2 e3 e4 e5)
  | false =>
    rw [if_neg (by decide)];refine wpS_bind (wpS_mono (wpS_forRange (I := fun x c st' => ∃ lo of, c = (none, lo, of)/\st' = st/\lo < of/\x + 1 <= of/\lo < hint + 1/\bey (hint - lo) = false)
      (Q := fun c st' => ∃ lo of, c = (none, lo, of)/\st' = st/\lo < of/\lo < hint + 1/\bey (hint - lo) = false/\(hint + 1 <= of\/(of < hint + 1/\bey (hint - of) = true))) ?_ ?_ ⟨0, 1, rfl, rfl, by omega, by omega, by omega, e0⟩) ?_)
    · rintro x c st' _ hx ⟨lo, of, rfl, rfl, h1, h2, h3, h4⟩
      dsimp only
      by_cases hge : of >= hint + 1
      · rw [if_pos hge]
        exact wpS_pure ⟨lo, of, rfl, rfl, h1, h3, h4, .inl hge⟩
      · rw [if_neg hge]
        refine wpS_bind (hB _ _ (by omega) ?_);dsimp only
        cases e : bey (hint - of) with
        | true => exact wpS_pure ⟨lo, of, rfl, rfl, h1, h3, h4, .inr ⟨by omega, e⟩⟩
        | false => exact wpS_pure ⟨of, 2 * of + 1, rfl, rfl, by omega, by omega, by omega, e⟩
    · rintro c st' ⟨lo, of, rfl, rfl, h1, h2, h3, h4⟩
      exact ⟨lo, of, rfl, rfl, h1, h3, h4, .inl (by have : max 0 n = n := by omega
                                                    omega)⟩
    · rintro c st' ⟨lo, of, rfl, rfl, h1, h3, h4, h5⟩
      dsimp only;refine wpS_bind (wpS_mono (last _ _ _ (fun x lo hi => rfl) ?_ ?_ ?_ ?_) ?_)
      · omega
      · omega
      · intro i hi
        rcases h5 with h5 | ⟨h5, h6⟩
        · omega
        · exact mono i (hint - of) (by omega) (by omega) h6
      · intro i hi1 hi2
        exact monoF (hint - lo) i (by omega) hi2 h4
      · rintro ⟨r, lo2, hi2⟩ st' ⟨e1, e2, e3, e4, e5⟩
        dsimp only at e1 e2 e3 e4 e5;subst e1 e2;exact wpS_pure (h hi2 e3 e4 e5)
end
open TW
structure uC (S:Prop):Prop where
 h:S
theorem P7 {c S T:Prop}[Decidable c](h1:uC S->c->T)(h2:uC S->¬ c->T)(h:S):T:=(Decidable.em c).elim (h1 ⟨h⟩) (h2 ⟨h⟩)
def gI:Array Keyed->Array Keyed->StateT SortSt Sem (Array Keyed):=sortPriv% PySem.Builtin.mergeLo
abbrev Ln (st:SortSt)(g:Nat):SortSt:=SortSt.mk' (kindOf st) (arrOf st) (pendingOf st) g (failedOf st)
theorem Gh (out:Array Keyed)(x:Keyed):(out.push x).toList=out.toList++[x]:=Array.toList_push ..
theorem iE (out a:Array Keyed)(i k:Nat):(out++a.extract i (i+k)).toList=out.toList++(a.toList.drop i).take k:=by
 rw [Array.toList_append,Array.toList_extract,List.extract_eq_take_drop];congr 2;omega
theorem Kn (a:Array Keyed)(i:Nat):(a.extract i a.size).toList=a.toList.drop i:=by
 rw [Array.toList_extract,List.extract_eq_take_drop,List.take_of_length_le (by rw [List.length_drop,Array.length_toList];exact Nat.le_refl _)]
theorem A9 {a:Array Keyed}{i:Nat}{x:Keyed}(h:a[i]?=some x):a.toList[i]?=some x:=by rw [Array.getElem?_toList];exact h
theorem Be {a:Array Keyed}{i:Nat}(h:i<a.size):∃ x,a[i]?=some x:=⟨_,Array.getElem?_eq_getElem h⟩
section
variable {prog:Program} {w:World} {A:Around} {E:Value->Shared->Prop} {s:Shared}
theorem M2 {g:Nat}{st:SortSt}{Q:Unit->SortSt->Prop}(h:Q () (Ln st g)):wpS (model prog w) A E s ((sortPriv% PySem.Builtin.setMinGallop) g) Q st:=wpS_modify h
variable {kd:SortKind} {P:Keyed->Prop} {blt:Keyed->Keyed->Bool} (L:Y5 prog w A E s kd P blt) (o:Swo blt)
include L o
theorem Wf {a b:Array Keyed}{st:SortSt}{Q:Array Keyed->SortSt->Prop}(hk:kindOf st=kd)(ha:0<a.size)(hb:0<b.size)(pa:∀ x∈a.toList,P x)(pb:∀ x∈b.toList,P x)(sa:Srt blt a.toList)(sb:Srt blt b.toList)
  (hf:∀ x y,a[0]?=some x->b[0]?=some y->blt y x=true)(hl:∀ x,a[a.size-1]?=some x->∀ y∈b.toList,blt y x=true)
  (h:∀ r g,r.toList=mg blt a.toList b.toList->Q r (Ln st g)):wpS (model prog w) A E s (gI a b) Q st:=by
 have la:a.toList.length=a.size:=Array.length_toList;have lb:b.toList.length=b.size:=Array.length_toList;have PA:∀ {i x},a[i]?=some x->P x:=fun e=>pa _ (List.mem_of_getElem? (A9 e));have PB:∀ {i x},b[i]?=some x->P x:=fun e=>pb _ (List.mem_of_getElem? (A9 e));obtain ⟨b0,eb0⟩:=Be hb;obtain ⟨a0,ea0⟩:=Be ha;have h0:MI blt a.toList b.toList [b0] 0 1:=(show MI blt a.toList b.toList [] 0 0 from rfl).b (A9 ea0) (A9 eb0) (hf _ _ ea0 eb0);have fin1:∀ {out:Array Keyed} {ia ib:Nat},MI blt a.toList b.toList out.toList ia ib->b.size<=ib->(out++a.extract ia a.size++b.extract ib b.size).toList=mg blt a.toList b.toList:=fun m e=>by
  rw [Array.toList_append,Array.toList_append,Kn,Kn];exact m.doneB (by rw [lb];exact e)
 have fin2:∀ {out:Array Keyed} {ia ib:Nat},MI blt a.toList b.toList out.toList ia ib->a.size<=ia->(out++a.extract ia a.size++b.extract ib b.size).toList=mg blt a.toList b.toList:=fun m e=>by
  rw [Array.toList_append,Array.toList_append,Kn,Kn];exact m.doneA (by rw [la];exact e)
 have fin3:∀ {out:Array Keyed} {ia ib:Nat},MI blt a.toList b.toList out.toList ia ib->ia+1=a.size->(out++b.extract ib b.size++a.extract ia a.size).toList=mg blt a.toList b.toList:=fun {out ia ib} m e=>by
  obtain ⟨x,ex⟩:=Be (show ia<a.size by omega);rw [Array.toList_append,Array.toList_append,Kn,Kn];exact m.lastA (A9 ex) (by rw [la];omega) (hl x (by rw [<- e];exact ex))
 refine wpS_bind (wpS_lift (wpAny_rule ⟨rfl,?_⟩))
 try dsimp only
 refine wpS_bind (Bf eb0 ?_)
 try dsimp only
 by_cases c1:(1==b.size)=true
 ·rw [if_pos c1]
  exact wpS_pure (h _ (gallopOf st) (fin1 (out:=#[b0]) h0 (by rw [beq_iff_eq] at c1;omega)))
 rw [if_neg c1]
 by_cases c2:(0+1==a.size)=true
 ·rw [if_pos c2]
  exact wpS_pure (h _ (gallopOf st) (fin3 (out:=#[b0]) h0 (by rw [beq_iff_eq] at c2;omega)))
 rw [if_neg c2];rw [beq_iff_eq] at c1 c2;refine wpS_bind (wpS_get ?_);refine wpS_bind (wpS_mono (wpS_forRange
  (I:=fun x c st'=>∃ (out:Array Keyed) (ia ib g g':Nat),c=(none,out,ia,ib,g)/\st'=Ln st g'/\MI blt a.toList b.toList out.toList ia ib/\ia+1<a.size/\ib<b.size/\x<=ia+ib)
  (Q:=fun c st'=>∃ (r:Array Keyed) (g':Nat),c.1=some r/\st'=Ln st g'/\r.toList=mg blt a.toList b.toList) ?_ ?_ ⟨#[b0],0,1,_,gallopOf st,rfl,rfl,h0,by omega,by omega,Nat.zero_le _⟩) ?_)
 ·rintro x c st' _ hx ⟨out,ia,ib,g,g',rfl,rfl,m,hia,hib,hpr⟩
  try dsimp only
  refine wpS_bind (wpS_mono (wpS_forRange
   (I:=fun y c st'=>∃ (out:Array Keyed) (ia' ib' ac bc:Nat),c=(none,out,ia',ib',ac,bc)/\st'=Ln st g'/\MI blt a.toList b.toList out.toList ia' ib'/\ia'+1<a.size/\ib'<b.size/\y+(ia+ib)<=ia'+ib')
   (Q:=fun c st'=>st'=Ln st g'/\((∃ r:Array Keyed,∃ cc,c=(some r,cc)/\r.toList=mg blt a.toList b.toList)\/∃ (out:Array Keyed) (ia' ib' ac bc:Nat),c=(none,out,ia',ib',ac,bc)/\MI blt a.toList b.toList out.toList ia' ib'/\ia'+1<a.size/\ib'<b.size/\ia+ib+1<=ia'+ib')) ?_ ?_ ⟨out,ia,ib,0,0,rfl,rfl,m,hia,hib,by omega⟩) ?_)
  ·rintro y c st' _ hy ⟨out,ia,ib,ac,bc,rfl,rfl,m,hia,hib,hpr⟩
   try dsimp only
   obtain ⟨xa,ea⟩:=Be (show ia<a.size by omega);obtain ⟨xb,eb⟩:=Be hib;refine wpS_bind (Bf eb (wpS_bind (Bf ea (wpS_bind (L _ _ _ _ (PB eb) (PA ea) hk ?_)))))
   try dsimp only
   cases hlt:blt xb xa with
   | true =>
    rw [if_pos rfl];refine wpS_bind (Bf eb ?_)
    try dsimp only
    have m':MI blt a.toList b.toList (out.push xb).toList ia (ib+1):=by rw [Gh];exact m.b (A9 ea) (A9 eb) hlt
    by_cases c3:(ib+1==b.size)=true
    ·rw [if_pos c3]
     exact wpS_pure ⟨rfl,.inl ⟨_,_,rfl,fin1 m' (by rw [beq_iff_eq] at c3;omega)⟩⟩
    ·rw [if_neg c3]
     rw [beq_iff_eq] at c3
     by_cases c4:bc+1>=g
     ·rw [if_pos c4]
      exact wpS_pure ⟨rfl,.inr ⟨_,_,_,_,_,rfl,m',hia,by omega,by omega⟩⟩
     ·rw [if_neg c4]
      exact wpS_pure ⟨_,_,_,_,_,rfl,rfl,m',hia,by omega,by omega⟩
   | false =>
    rw [if_neg (by decide)];refine wpS_bind (Bf ea ?_)
    try dsimp only
    have m':MI blt a.toList b.toList (out.push xa).toList (ia+1) ib:=by rw [Gh];exact m.a (A9 ea) (A9 eb) hlt
    by_cases c3:(ia+1+1==a.size)=true
    ·rw [if_pos c3]
     exact wpS_pure ⟨rfl,.inl ⟨_,_,rfl,fin3 m' (by rw [beq_iff_eq] at c3;omega)⟩⟩
    ·rw [if_neg c3]
     rw [beq_iff_eq] at c3
     by_cases c4:ac+1>=g
     ·rw [if_pos c4]
      exact wpS_pure ⟨rfl,.inr ⟨_,_,_,_,_,rfl,m',by omega,hib,by omega⟩⟩
     ·rw [if_neg c4]
      exact wpS_pure ⟨_,_,_,_,_,rfl,rfl,m',by omega,hib,by omega⟩
  ·rintro c st' ⟨out,ia',ib',ac,bc,rfl,rfl,m,hia',hib',hpr'⟩
   exfalso;have:max 0 (a.size+b.size)=a.size+b.size:=by omega
   omega
  ·rintro c st' ⟨rfl,⟨r,cc,rfl,hr⟩ | ⟨out,ia1,ib1,ac,bc,rfl,m1,hia1,hib1,hpr1⟩⟩
   ·dsimp only
    exact wpS_pure ⟨r,g',rfl,rfl,hr⟩
   ·dsimp only
    refine wpS_bind (wpS_lift (wpAny_rule ⟨rfl,?_⟩))
    try dsimp only
    refine wpS_bind (wpS_mono (wpS_forRange
     (I:=fun y c st'=>∃ (out:Array Keyed) (ia' ib' mg' ac bc g2:Nat),c=(none,out,ia',ib',mg',ac,bc)/\st'=Ln st g2/\MI blt a.toList b.toList out.toList ia' ib'/\ia'+1<a.size/\ib'<b.size/\y+(ia1+ib1)<=ia'+ib')
     (Q:=fun c st'=>∃ g2,st'=Ln st g2/\((∃ r:Array Keyed,∃ cc,c=(some r,cc)/\r.toList=mg blt a.toList b.toList)\/∃ (out:Array Keyed) (ia' ib' mg' ac bc:Nat),c=(none,out,ia',ib',mg',ac,bc)/\MI blt a.toList b.toList out.toList ia' ib'/\ia'+1<a.size/\ib'<b.size/\ia1+ib1<=ia'+ib')) ?_ ?_ ⟨out,ia1,ib1,_,ac,bc,g',rfl,rfl,m1,hia1,hib1,by omega⟩) ?_)
    ·rintro y c st' _ hy ⟨out,ia,ib,mg',ac,bc,g2,rfl,rfl,m,hia,hib,hpr⟩
     try dsimp only
     obtain ⟨xb,eb⟩:=Be hib;apply P7 (c:=mg'>1)
     case h1 =>
      intro key cg;rw [if_pos cg];generalize mg'-1=mg2
      revert mg2
      exact key.h
     case h2 =>
      intro key cg;rw [if_neg cg];generalize mg'=mg2
      revert mg2
      exact key.h
     case h =>
      intro mg2;refine wpS_bind (M2 (wpS_bind (Bf eb ?_)));have gb:∀ i,i<a.size-ia->∃ x,a[ia+i]?=some x/\P x/\W6 blt false xb x=(fun i=>match a[ia+i]? with | some x=>!(blt xb x) | none=>false) i:=fun i hi=>by
       obtain ⟨x,ex⟩:=Be (show ia+i<a.size by omega);exact ⟨x,ex,PA ex,by dsimp only;rw [ex];rfl⟩
      have gm:∀ i j,i<=j->j<a.size-ia->(fun i=>match a[ia+i]? with | some x=>!(blt xb x) | none=>false) j=true->(fun i=>match a[ia+i]? with | some x=>!(blt xb x) | none=>false) i=true:=fun i j hij hj e=>by
       obtain ⟨x,ex⟩:=Be (show ia+i<a.size by omega);obtain ⟨z,ez⟩:=Be (show ia+j<a.size by omega)
       try dsimp only at e ⊢
       rw [ex];rw [ez] at e
       try dsimp only at e ⊢
       cases e1:blt xb x with
       | false=>rfl
       | true =>
        have:=o.ltle e1 (D6 o sa (show ia+i<=ia+j by omega) (A9 ex) (A9 ez));rw [this] at e;cases e
      refine wpS_bind (E9 L hk (PB eb) (show 0<a.size-ia by omega) gb gm (fun c hc1 hc2 hc3=>?_));have hA1:∀ i x,i<c->a.toList[ia+i]?=some x->blt xb x=false:=fun i x hi ex=>by
       rw [Array.getElem?_toList] at ex;have:=hc2 i hi
       try dsimp only at this
       rw [ex] at this
       simpa using this
      have hA2:∀ i x,c<=i->a[ia+i]?=some x->blt xb x=true:=fun i x hi ex=>by
       have hl:=(Array.getElem?_eq_some_iff.mp ex).1;have:=hc3 i hi (by omega)
       try dsimp only at this
       rw [ex] at this
       simpa using this
      have m2:MI blt a.toList b.toList (out++a.extract ia (ia+c)).toList (ia+c) ib:=by rw [iE];exact m.as o sb (A9 eb) hA1
      try dsimp only
      apply P7 (c:=c>0)
      case h1 =>
       intro key hc0;rw [if_pos hc0]
       by_cases c5:(ia+c+1==a.size)=true
       ·rw [if_pos c5]
        exact wpS_pure ⟨_,rfl,.inl ⟨_,_,rfl,fin3 m2 (by rw [beq_iff_eq] at c5;omega)⟩⟩
       rw [if_neg c5]
       by_cases c6:(ia+c==a.size)=true
       ·rw [if_pos c6]
        exact wpS_pure ⟨_,rfl,.inl ⟨_,_,rfl,fin2 m2 (by rw [beq_iff_eq] at c6;omega)⟩⟩
       rw [if_neg c6];rw [beq_iff_eq] at c5 c6;have hi2:ia+c+1<a.size:=by omega
       have hA3:∀ x,a[ia+c]?=some x->blt xb x=true:=fun x ex=>hA2 c x (Nat.le_refl _) ex;have hp2:y+(ia1+ib1)<=ia+c+ib:=by omega
       have m2:=m2
       revert hp2 hA3 hi2 m2
       generalize out++a.extract ia (ia+c)=out2;generalize ia+c=ia2
       revert ia2 out2
       exact key.h
      case h2 =>
       intro key hc0;rw [if_neg hc0];have e0:c=0:=by omega
       have hi2:ia+1<a.size:=by omega
       have hA3:∀ x,a[ia]?=some x->blt xb x=true:=fun x ex=>hA2 0 x (by omega) ex;have hp2:y+(ia1+ib1)<=ia+ib:=by omega
       clear m2;have m2:=m
       revert hp2 hA3 hi2 m2
       generalize out=out2;generalize ia=ia2
       revert ia2 out2
       exact key.h
      case h =>
       intro out2 ia2 hi2 hA3 hp2 m2;obtain ⟨xa,ea⟩:=Be (show ia2<a.size by omega);refine wpS_bind (Bf eb ?_);have m3:MI blt a.toList b.toList (out2.push xb).toList ia2 (ib+1):=by rw [Gh];exact m2.b (A9 ea) (A9 eb) (hA3 xa ea)
       try dsimp only
       by_cases c7:(ib+1==b.size)=true
       ·rw [if_pos c7]
        exact wpS_pure ⟨_,rfl,.inl ⟨_,_,rfl,fin1 m3 (by rw [beq_iff_eq] at c7;omega)⟩⟩
       rw [if_neg c7];rw [beq_iff_eq] at c7;refine wpS_bind (Bf ea ?_);have gb:∀ i,i<b.size-(ib+1)->∃ x,b[ib+1+i]?=some x/\P x/\W6 blt true xa x=(fun i=>match b[ib+1+i]? with | some x=>blt x xa | none=>false) i:=fun i hi=>by
        obtain ⟨x,ex⟩:=Be (show ib+1+i<b.size by omega);exact ⟨x,ex,PB ex,by dsimp only;rw [ex];rfl⟩
       have gm:∀ i j,i<=j->j<b.size-(ib+1)->(fun i=>match b[ib+1+i]? with | some x=>blt x xa | none=>false) j=true->(fun i=>match b[ib+1+i]? with | some x=>blt x xa | none=>false) i=true:=fun i j hij hj e=>by
        obtain ⟨x,ex⟩:=Be (show ib+1+i<b.size by omega);obtain ⟨z,ez⟩:=Be (show ib+1+j<b.size by omega)
        try dsimp only at e ⊢
        rw [ex];rw [ez] at e
        try dsimp only at e ⊢
        exact o.lelt (D6 o sb (show ib+1+i<=ib+1+j by omega) (A9 ex) (A9 ez)) e
       refine wpS_bind (E9 L hk (PA ea) (show 0<b.size-(ib+1) by omega) gb gm (fun d hd1 hd2 hd3=>?_));have hB1:∀ i x,i<d->b.toList[ib+1+i]?=some x->blt x xa=true:=fun i x hi ex=>by
        rw [Array.getElem?_toList] at ex;have:=hd2 i hi
        try dsimp only at this
        rw [ex] at this;exact this
       have hB2:∀ i x,d<=i->b[ib+1+i]?=some x->blt x xa=false:=fun i x hi ex=>by
        have hl:=(Array.getElem?_eq_some_iff.mp ex).1;have:=hd3 i hi (by omega)
        try dsimp only at this
        rw [ex] at this;exact this
       have m4:MI blt a.toList b.toList (out2.push xb++b.extract (ib+1) (ib+1+d)).toList ia2 (ib+1+d):=by rw [iE];exact m3.bs o sa (A9 ea) hB1
       try dsimp only
       apply P7 (c:=d>0)
       case h1 =>
        intro key hd0;rw [if_pos hd0]
        by_cases c8:(ib+1+d==b.size)=true
        ·rw [if_pos c8]
         exact wpS_pure ⟨_,rfl,.inl ⟨_,_,rfl,fin1 m4 (by rw [beq_iff_eq] at c8;omega)⟩⟩
        rw [if_neg c8];rw [beq_iff_eq] at c8;have hi4:ib+1+d<b.size:=by omega
        have hB3:∀ x,b[ib+1+d]?=some x->blt x xa=false:=fun x ex=>hB2 d x (Nat.le_refl _) ex;have hp4:y+(ia1+ib1)+1<=ia2+(ib+1+d):=by omega
        have m4:=m4
        revert hp4 hB3 hi4 m4
        generalize out2.push xb++b.extract (ib+1) (ib+1+d)=out4;generalize ib+1+d=ib4
        revert ib4 out4
        exact key.h
       case h2 =>
        intro key hd0;rw [if_neg hd0];have hi4:ib+1<b.size:=by omega
        have hB3:∀ x,b[ib+1]?=some x->blt x xa=false:=fun x ex=>hB2 0 x (by omega) ex;have hp4:y+(ia1+ib1)+1<=ia2+(ib+1):=by omega
        clear m4;have m4:=m3
        revert hp4 hB3 hi4 m4
        generalize out2.push xb=out4;generalize ib+1=ib4
        revert ib4 out4
        exact key.h
       case h =>
        intro out4 ib4 hi4 hB3 hp4 m4;obtain ⟨xb4,eb4⟩:=Be hi4;refine wpS_bind (Bf ea ?_);have m5:MI blt a.toList b.toList (out4.push xa).toList (ia2+1) ib4:=by rw [Gh];exact m4.a (A9 ea) (A9 eb4) (hB3 xb4 eb4)
        try dsimp only
        by_cases c9:(ia2+1+1==a.size)=true
        ·rw [if_pos c9]
         exact wpS_pure ⟨_,rfl,.inl ⟨_,_,rfl,fin3 m5 (by rw [beq_iff_eq] at c9;omega)⟩⟩
        rw [if_neg c9];rw [beq_iff_eq] at c9
        by_cases c10:(decide (c<7)&&decide (d<7))=true
        ·rw [if_pos c10]
         exact wpS_pure ⟨_,rfl,.inr ⟨_,_,_,_,_,_,rfl,m5,by omega,hi4,by omega⟩⟩
        ·rw [if_neg c10]
         exact wpS_pure ⟨_,_,_,_,_,_,_,rfl,rfl,m5,by omega,hi4,by omega⟩
    ·rintro c st' ⟨out,ia',ib',mg',ac,bc,g2,rfl,rfl,m,hia',hib',hpr'⟩
     exfalso;have:max 0 (a.size+b.size)=a.size+b.size:=by omega
     omega
    ·rintro c st' ⟨g2,rfl,⟨r,cc,rfl,hr⟩ | ⟨out,ia2,ib2,mg2,ac,bc,rfl,m2,hia2,hib2,hpr2⟩⟩
     ·dsimp only
      exact wpS_pure ⟨r,g2,rfl,rfl,hr⟩
     ·dsimp only
      refine wpS_bind (M2 (wpS_pure ⟨_,_,_,_,_,rfl,rfl,m2,hia2,hib2,by omega⟩))
 ·rintro c st' ⟨out,ia,ib,g,g',rfl,rfl,m,hia,hib,hpr⟩
  exfalso;have:max 0 (a.size+b.size)=a.size+b.size:=by omega
  omega
 ·rintro ⟨c,cc⟩ st' ⟨r,g',e,rfl,hr⟩
  try dsimp only at e
  subst e
  try dsimp only
  exact wpS_pure (h r g' hr)
end
def kM:Array Keyed->Array Keyed->StateT SortSt Sem (Array Keyed):=sortPriv% PySem.Builtin.mergeHi
theorem Kw (a:Array Keyed)(n:Nat):(a.extract 0 n).toList=a.toList.take n:=by
 rw [Array.toList_extract,List.extract_eq_take_drop,List.drop_zero,Nat.sub_zero]
theorem kL (out a:Array Keyed)(c n:Nat):(out++(a.extract c n).reverse).toList=out.toList++((a.toList.drop c).take (n-c)).reverse:=by
 rw [Array.toList_append,Array.toList_reverse,Array.toList_extract,List.extract_eq_take_drop]
section
variable {prog:Program} {w:World} {A:Around} {E:Value->Shared->Prop} {s:Shared}
variable {kd:SortKind} {P:Keyed->Prop} {blt:Keyed->Keyed->Bool} (L:Y5 prog w A E s kd P blt) (o:Swo blt)
include L o
theorem Xr {a b:Array Keyed}{st:SortSt}{Q:Array Keyed->SortSt->Prop}(hk:kindOf st=kd)(ha:0<a.size)(hb:0<b.size)(pa:∀ x∈a.toList,P x)(pb:∀ x∈b.toList,P x)(sa:Srt blt a.toList)(sb:Srt blt b.toList)
  (hf:∀ y,b[0]?=some y->∀ x∈a.toList,blt y x=true)(hl:∀ x,a[a.size-1]?=some x->∀ y∈b.toList,blt y x=true)
  (h:∀ r g,r.toList=mg blt a.toList b.toList->Q r (Ln st g)):wpS (model prog w) A E s (kM a b) Q st:=by
 have la:a.toList.length=a.size:=Array.length_toList;have lb:b.toList.length=b.size:=Array.length_toList;have PA:∀ {i x},a[i]?=some x->P x:=fun e=>pa _ (List.mem_of_getElem? (A9 e));have PB:∀ {i x},b[i]?=some x->P x:=fun e=>pb _ (List.mem_of_getElem? (A9 e));obtain ⟨b0,eb0⟩:=Be hb;obtain ⟨al,eal⟩:=Be (show a.size-1<a.size by omega);have h0:MH blt a.toList b.toList [al] (a.size-1) b.size:=by
  have e:=Kj blt (as:=[al]) (a.toList.take (a.size-1)) b.toList fun x hx y hy=>by rw [List.mem_singleton.mp hx];exact hl al eal y hy
  rw [<- F4 (A9 eal),Nat.sub_add_cancel ha,<- la,List.take_length] at e;unfold MH;rw [<- lb,List.take_length,e,la];rfl
 have finA:∀ {out:Array Keyed} {na nb:Nat},MH blt a.toList b.toList out.toList na nb->na=0->(a.extract 0 na++b.extract 0 nb++out.reverse).toList=mg blt a.toList b.toList:=fun m e=>by
  subst e;rw [Array.toList_append,Array.toList_append,Kw,Kw,Array.toList_reverse];exact m.doneA
 have finB:∀ {out:Array Keyed} {na nb:Nat},MH blt a.toList b.toList out.toList na nb->nb=0->(a.extract 0 na++b.extract 0 nb++out.reverse).toList=mg blt a.toList b.toList:=fun m e=>by
  subst e;rw [Array.toList_append,Array.toList_append,Kw,Kw,Array.toList_reverse];exact m.doneB
 have finF:∀ {out:Array Keyed} {na nb:Nat},MH blt a.toList b.toList out.toList na nb->nb=1->(b.extract 0 nb++a.extract 0 na++out.reverse).toList=mg blt a.toList b.toList:=fun m e=>by
  subst e;rw [Array.toList_append,Array.toList_append,Kw,Kw,Array.toList_reverse];exact m.firstB (A9 eb0) (hf b0 eb0)
 refine wpS_bind (wpS_lift (wpAny_rule ⟨rfl,?_⟩))
 try dsimp only
 refine wpS_bind (Bf eal ?_)
 try dsimp only
 by_cases c1:(a.size-1==0)=true
 ·rw [if_pos c1]
  exact wpS_pure (h _ (gallopOf st) (finA (out:=#[al]) h0 (by rw [beq_iff_eq] at c1;exact c1)))
 rw [if_neg c1]
 by_cases c2:(b.size==1)=true
 ·rw [if_pos c2]
  exact wpS_pure (h _ (gallopOf st) (finF (out:=#[al]) h0 (by rw [beq_iff_eq] at c2;exact c2)))
 rw [if_neg c2];rw [beq_iff_eq] at c1 c2;refine wpS_bind (wpS_get ?_);refine wpS_bind (wpS_mono (wpS_forRange
  (I:=fun x c st'=>∃ (out:Array Keyed) (na nb g g':Nat),c=(none,na,nb,out,g)/\st'=Ln st g'/\MH blt a.toList b.toList out.toList na nb/\0<na/\na<=a.size/\1<nb/\nb<=b.size/\x+(na+nb)<=a.size+b.size)
  (Q:=fun c st'=>∃ (r:Array Keyed) (g':Nat),c.1=some r/\st'=Ln st g'/\r.toList=mg blt a.toList b.toList) ?_ ?_ ⟨#[al],a.size-1,b.size,_,gallopOf st,rfl,rfl,h0,by omega,by omega,by omega,by omega,by omega⟩) ?_)
 ·rintro x c st' _ hx ⟨out,na,nb,g,g',rfl,rfl,m,hna,hna2,hnb,hnb2,hpr⟩
  try dsimp only
  refine wpS_bind (wpS_mono (wpS_forRange
   (I:=fun y c st'=>∃ (out:Array Keyed) (na' nb' ac bc:Nat),c=(none,na',nb',out,ac,bc)/\st'=Ln st g'/\MH blt a.toList b.toList out.toList na' nb'/\0<na'/\na'<=a.size/\1<nb'/\nb'<=b.size/\y+(na'+nb')<=na+nb)
   (Q:=fun c st'=>st'=Ln st g'/\((∃ r:Array Keyed,∃ cc,c=(some r,cc)/\r.toList=mg blt a.toList b.toList)\/∃ (out:Array Keyed) (na' nb' ac bc:Nat),c=(none,na',nb',out,ac,bc)/\MH blt a.toList b.toList out.toList na' nb'/\0<na'/\na'<=a.size/\1<nb'/\nb'<=b.size/\na'+nb'+1<=na+nb)) ?_ ?_ ⟨out,na,nb,0,0,rfl,rfl,m,hna,hna2,hnb,hnb2,by omega⟩) ?_)
  ·rintro y c st' _ hy ⟨out,na,nb,ac,bc,rfl,rfl,m,hna,hna2,hnb,hnb2,hpr⟩
   try dsimp only
   obtain ⟨xa,ea⟩:=Be (show na-1<a.size by omega);obtain ⟨xb,eb⟩:=Be (show nb-1<b.size by omega);refine wpS_bind (Bf eb (wpS_bind (Bf ea (wpS_bind (L _ _ _ _ (PB eb) (PA ea) hk ?_)))))
   try dsimp only
   cases hlt:blt xb xa with
   | true =>
    rw [if_pos rfl];refine wpS_bind (Bf ea ?_)
    try dsimp only
    have m':MH blt a.toList b.toList (out.push xa).toList (na-1) nb:=by rw [Gh];exact m.a o sb hna (by omega) (A9 ea) (A9 eb) hlt
    by_cases c3:(na-1==0)=true
    ·rw [if_pos c3]
     exact wpS_pure ⟨rfl,.inl ⟨_,_,rfl,finA m' (by rw [beq_iff_eq] at c3;exact c3)⟩⟩
    ·rw [if_neg c3]
     rw [beq_iff_eq] at c3
     by_cases c4:ac+1>=g
     ·rw [if_pos c4]
      exact wpS_pure ⟨rfl,.inr ⟨_,_,_,_,_,rfl,m',by omega,by omega,hnb,hnb2,by omega⟩⟩
     ·rw [if_neg c4]
      exact wpS_pure ⟨_,_,_,_,_,rfl,rfl,m',by omega,by omega,hnb,hnb2,by omega⟩
   | false =>
    rw [if_neg (by decide)];refine wpS_bind (Bf eb ?_)
    try dsimp only
    have m':MH blt a.toList b.toList (out.push xb).toList na (nb-1):=by rw [Gh];exact m.b o sa hna (by omega) (A9 ea) (A9 eb) hlt
    by_cases c3:(nb-1==1)=true
    ·rw [if_pos c3]
     exact wpS_pure ⟨rfl,.inl ⟨_,_,rfl,finF m' (by rw [beq_iff_eq] at c3;exact c3)⟩⟩
    ·rw [if_neg c3]
     rw [beq_iff_eq] at c3
     by_cases c4:bc+1>=g
     ·rw [if_pos c4]
      exact wpS_pure ⟨rfl,.inr ⟨_,_,_,_,_,rfl,m',hna,hna2,by omega,by omega,by omega⟩⟩
     ·rw [if_neg c4]
      exact wpS_pure ⟨_,_,_,_,_,rfl,rfl,m',hna,hna2,by omega,by omega,by omega⟩
  ·rintro c st' ⟨out,na',nb',ac,bc,rfl,rfl,m,h1,h2,h3,h4,h5⟩
   exfalso;have:max 0 (a.size+b.size)=a.size+b.size:=by omega
   omega
  ·rintro c st' ⟨rfl,⟨r,cc,rfl,hr⟩ | ⟨out,na1,nb1,ac,bc,rfl,m1,q1,q2,q3,q4,q5⟩⟩
   ·try dsimp only
    exact wpS_pure ⟨r,g',rfl,rfl,hr⟩
   ·try dsimp only
    refine wpS_bind (wpS_lift (wpAny_rule ⟨rfl,?_⟩))
    try dsimp only
    refine wpS_bind (wpS_mono (wpS_forRange
     (I:=fun y c st'=>∃ (out:Array Keyed) (na' nb' mg' ac bc g2:Nat),c=(none,na',nb',out,mg',ac,bc)/\st'=Ln st g2/\MH blt a.toList b.toList out.toList na' nb'/\0<na'/\na'<=a.size/\1<nb'/\nb'<=b.size/\y+(na'+nb')<=na1+nb1)
     (Q:=fun c st'=>∃ g2,st'=Ln st g2/\((∃ r:Array Keyed,∃ cc,c=(some r,cc)/\r.toList=mg blt a.toList b.toList)\/∃ (out:Array Keyed) (na' nb' mg' ac bc:Nat),c=(none,na',nb',out,mg',ac,bc)/\MH blt a.toList b.toList out.toList na' nb'/\0<na'/\na'<=a.size/\1<nb'/\nb'<=b.size/\na'+nb'<=na1+nb1)) ?_ ?_ ⟨out,na1,nb1,_,ac,bc,g',rfl,rfl,m1,q1,q2,q3,q4,by omega⟩) ?_)
    ·rintro y c st' _ hy ⟨out,na,nb,mg',ac,bc,g2,rfl,rfl,m,hna,hna2,hnb,hnb2,hpr⟩
     try dsimp only
     obtain ⟨xb,eb⟩:=Be (show nb-1<b.size by omega)
     by_cases cg:mg'>1
     case' pos=>rw [if_pos cg]
     case' neg=>rw [if_neg cg]
     all_goals
      refine wpS_bind (M2 (wpS_bind (Bf eb ?_)));have gb:∀ i,i<na->∃ x,a[0+i]?=some x/\P x/\W6 blt false xb x=(fun i=>match a[0+i]? with | some x=>!(blt xb x) | none=>false) i:=fun i hi=>by
       obtain ⟨x,ex⟩:=Be (show 0+i<a.size by omega);exact ⟨x,ex,PA ex,by dsimp only;rw [ex];rfl⟩
      have gm:∀ i j,i<=j->j<na->(fun i=>match a[0+i]? with | some x=>!(blt xb x) | none=>false) j=true->(fun i=>match a[0+i]? with | some x=>!(blt xb x) | none=>false) i=true:=fun i j hij hj e=>by
       obtain ⟨x,ex⟩:=Be (show 0+i<a.size by omega);obtain ⟨z,ez⟩:=Be (show 0+j<a.size by omega);dsimp only at e ⊢;rw [ex];rw [ez] at e
       try dsimp only at e ⊢
       cases e1:blt xb x with
       | false=>rfl
       | true =>
        have:=o.ltle e1 (D6 o sa (show 0+i<=0+j by omega) (A9 ex) (A9 ez));rw [this] at e;cases e
      refine wpS_bind (E9 L hk (PB eb) (show na-1<na by omega) gb gm (fun c hc1 hc2 hc3=>?_));have hA1:∀ i x,i<c->a[i]?=some x->blt xb x=false:=fun i x hi ex=>by
       have:=hc2 i hi
       try dsimp only at this
       rw [Nat.zero_add,ex] at this
       simpa using this
      have hA2:∀ i x,c<=i->i<na->a.toList[i]?=some x->blt xb x=true:=fun i x hi1 hi2 ex=>by
       rw [Array.getElem?_toList] at ex;have:=hc3 i hi1 hi2
       try dsimp only at this
       rw [Nat.zero_add,ex] at this
       simpa using this
      have m2:MH blt a.toList b.toList (out++(a.extract c na).reverse).toList c nb:=by rw [kL];exact m.as o sb hc1 (by omega) (A9 eb) hA2
      try dsimp only
      by_cases hc0:na-c>0
      case' pos =>
       rw [if_pos hc0]
       by_cases c5:(c==0)=true
       ·rw [if_pos c5]
        exact wpS_pure ⟨_,rfl,.inl ⟨_,_,rfl,finA m2 (by rw [beq_iff_eq] at c5;exact c5)⟩⟩
       rw [if_neg c5];rw [beq_iff_eq] at c5;have hi2:0<c:=by omega
       have hA3:∀ x,a[c-1]?=some x->blt xb x=false:=fun x ex=>hA1 (c-1) x (by omega) ex;have hp2:y+(c+nb)<=na1+nb1:=by omega
       have hq2:c<=a.size:=by omega
       clear hA1 hA2 hc2 hc3 hc0 c5;generalize out++(a.extract c na).reverse=out2 at *;generalize hk2:na-c=kk at *;generalize c=na2 at *
      case' neg =>
       rw [if_neg hc0];have e0:c=na:=by omega
       have hi2:0<na:=hna;have hA3:∀ x,a[na-1]?=some x->blt xb x=false:=fun x ex=>hA1 (na-1) x (by omega) ex;have hp2:y+(na+nb)<=na1+nb1:=by omega
       have hq2:na<=a.size:=hna2;clear hA1 hA2 hc2 hc3 hc0 m2;have m2:=m;clear m;generalize hk2:na-c=kk at *;generalize out=out2 at *;generalize na=na2 at *
      all_goals
       obtain ⟨xa,ea⟩:=Be (show na2-1<a.size by omega);refine wpS_bind (Bf eb ?_);have m3:MH blt a.toList b.toList (out2.push xb).toList na2 (nb-1):=by rw [Gh];exact m2.b o sa hi2 (by omega) (A9 ea) (A9 eb) (hA3 xa ea)
       try dsimp only
       by_cases c7:(nb-1==1)=true
       ·rw [if_pos c7]
        exact wpS_pure ⟨_,rfl,.inl ⟨_,_,rfl,finF m3 (by rw [beq_iff_eq] at c7;exact c7)⟩⟩
       rw [if_neg c7];rw [beq_iff_eq] at c7;refine wpS_bind (Bf ea ?_);have gb:∀ i,i<nb-1->∃ x,b[0+i]?=some x/\P x/\W6 blt true xa x=(fun i=>match b[0+i]? with | some x=>blt x xa | none=>false) i:=fun i hi=>by
        obtain ⟨x,ex⟩:=Be (show 0+i<b.size by omega);exact ⟨x,ex,PB ex,by dsimp only;rw [ex];rfl⟩
       have gm:∀ i j,i<=j->j<nb-1->(fun i=>match b[0+i]? with | some x=>blt x xa | none=>false) j=true->(fun i=>match b[0+i]? with | some x=>blt x xa | none=>false) i=true:=fun i j hij hj e=>by
        obtain ⟨x,ex⟩:=Be (show 0+i<b.size by omega);obtain ⟨z,ez⟩:=Be (show 0+j<b.size by omega);dsimp only at e ⊢;rw [ex];rw [ez] at e
        try dsimp only at e ⊢
        exact o.lelt (D6 o sb (show 0+i<=0+j by omega) (A9 ex) (A9 ez)) e
       refine wpS_bind (E9 L hk (PA ea) (show nb-1-1<nb-1 by omega) gb gm (fun d hd1 hd2 hd3=>?_));have hB1:∀ i x,i<d->b[i]?=some x->blt x xa=true:=fun i x hi ex=>by
        have:=hd2 i hi
        try dsimp only at this
        rw [Nat.zero_add,ex] at this;exact this
       have hB2:∀ i x,d<=i->i<nb-1->b.toList[i]?=some x->blt x xa=false:=fun i x hi1 hi2 ex=>by
        rw [Array.getElem?_toList] at ex;have:=hd3 i hi1 hi2
        try dsimp only at this
        rw [Nat.zero_add,ex] at this;exact this
       have m4:MH blt a.toList b.toList (out2.push xb++(b.extract d (nb-1)).reverse).toList na2 d:=by rw [kL];exact m3.bs o sa hd1 hi2 (A9 ea) hB2
       try dsimp only
       by_cases hd0:nb-1-d>0
       case' pos =>
        rw [if_pos hd0]
        by_cases c8:(d==1)=true
        ·rw [if_pos c8]
         exact wpS_pure ⟨_,rfl,.inl ⟨_,_,rfl,finF m4 (by rw [beq_iff_eq] at c8;exact c8)⟩⟩
        rw [if_neg c8]
        by_cases c9:(d==0)=true
        ·rw [if_pos c9]
         exact wpS_pure ⟨_,rfl,.inl ⟨_,_,rfl,finB m4 (by rw [beq_iff_eq] at c9;exact c9)⟩⟩
        rw [if_neg c9];rw [beq_iff_eq] at c8 c9;have hi4:1<d:=by omega
        have hB3:∀ x,b[d-1]?=some x->blt x xa=true:=fun x ex=>hB1 (d-1) x (by omega) ex;have hp4:y+(na2+d)+1<=na1+nb1:=by omega
        have hq4:d<=b.size:=by omega
        clear hB1 hB2 hd2 hd3 hd0 c8 c9;generalize out2.push xb++(b.extract d (nb-1)).reverse=out4 at *;generalize hk4:nb-1-d=kd4 at *;generalize d=nb4 at *
       case' neg =>
        rw [if_neg hd0];have hi4:1<nb-1:=by omega
        have hB3:∀ x,b[nb-1-1]?=some x->blt x xa=true:=fun x ex=>hB1 (nb-1-1) x (by omega) ex;have hp4:y+(na2+(nb-1))+1<=na1+nb1:=by omega
        have hq4:nb-1<=b.size:=by omega
        clear hB1 hB2 hd2 hd3 hd0 m4;have m4:=m3;clear m3;generalize hk4:nb-1-d=kd4 at *;generalize out2.push xb=out4 at *;generalize nb-1=nb4 at *
       all_goals
        obtain ⟨xb4,eb4⟩:=Be (show nb4-1<b.size by omega);refine wpS_bind (Bf ea ?_);have m5:MH blt a.toList b.toList (out4.push xa).toList (na2-1) nb4:=by rw [Gh];exact m4.a o sb hi2 (by omega) (A9 ea) (A9 eb4) (hB3 xb4 eb4)
        try dsimp only
        by_cases c9:(na2-1==0)=true
        ·rw [if_pos c9]
         exact wpS_pure ⟨_,rfl,.inl ⟨_,_,rfl,finA m5 (by rw [beq_iff_eq] at c9;exact c9)⟩⟩
        rw [if_neg c9];rw [beq_iff_eq] at c9
        by_cases c10:(decide (kk<7)&&decide (kd4<7))=true
        ·rw [if_pos c10]
         exact wpS_pure ⟨_,rfl,.inr ⟨_,_,_,_,_,_,rfl,m5,by omega,by omega,hi4,hq4,by omega⟩⟩
        ·rw [if_neg c10]
         exact wpS_pure ⟨_,_,_,_,_,_,_,rfl,rfl,m5,by omega,by omega,hi4,hq4,by omega⟩
    ·rintro c st' ⟨out,na',nb',mg',ac,bc,g2,rfl,rfl,m,h1,h2,h3,h4,h5⟩
     exfalso;have:max 0 (a.size+b.size)=a.size+b.size:=by omega
     omega
    ·rintro c st' ⟨g2,rfl,⟨r,cc,rfl,hr⟩ | ⟨out,na2,nb2,mg2,ac,bc,rfl,m2,r1,r2,r3,r4,r5⟩⟩
     ·try dsimp only
      exact wpS_pure ⟨r,g2,rfl,rfl,hr⟩
     ·try dsimp only
      refine wpS_bind (M2 (wpS_pure ⟨_,_,_,_,_,rfl,rfl,m2,r1,r2,r3,r4,by omega⟩))
 ·rintro c st' ⟨out,na,nb,g,g',rfl,rfl,m,h1,h2,h3,h4,h5⟩
  exfalso;have:max 0 (a.size+b.size)=a.size+b.size:=by omega
  omega
 ·rintro ⟨c,cc⟩ st' ⟨r,g',e,rfl,hr⟩
  dsimp only at e;subst e
  try dsimp only
  exact wpS_pure (h r g' hr)
end
theorem X3 {xs:Array Keyed}{src d:Nat}(hs:src<xs.size)(hd:d<=src){x:Keyed}(hx:xs[src]?=some x) :
  (bubble xs src d).toList=xs.toList.take (src-d)++[x]++(xs.toList.drop (src-d)).take d++xs.toList.drop (src+1):=by
 have hl:xs.toList.length=xs.size:=Array.length_toList;refine List.ext_getElem? fun k=>?_;rw [Array.getElem?_toList,getElem?_bubble hs d hd k];simp only [List.getElem?_append,List.getElem?_take,List.getElem?_drop,List.length_append,List.length_take,List.length_drop,List.length_singleton,hl,Array.getElem?_toList]
 by_cases h1:k=src-d
 ·rw [if_pos h1,hx,if_pos (by omega),if_pos (by omega),if_neg (by omega),h1,show src-d-min (src-d) xs.size=0 by omega]
  rfl
 ·rw [if_neg h1]
  by_cases h2:src-d<k/\k<=src
  ·rw [if_pos h2,if_pos (by omega),if_neg (by omega),if_pos (by omega)]
   congr 1;omega
  ·rw [if_neg h2]
   by_cases h3:k<src-d
   ·rw [if_pos (by omega),if_pos (by omega),if_pos (by omega),if_pos h3]
   ·rw [if_neg (by omega)]
    congr 1;omega
theorem X4 {xs:Array Keyed}{i j:Nat}(hij:i<=j)(hj:j<=xs.size) :
  (mirror xs i j ((j-i)/2)).toList=xs.toList.take i++((xs.toList.drop i).take (j-i)).reverse++xs.toList.drop j:=by
 have hl:xs.toList.length=xs.size:=Array.length_toList;refine List.ext_getElem? fun k=>?_;rw [Array.getElem?_toList,getElem?_mirror_all (i:=i) hj k];have hll:((xs.toList.drop i).take (j-i)).length=j-i:=by rw [List.length_take,List.length_drop,hl];omega
 by_cases h1:i<=k/\k<j
 ·rw [if_pos h1,List.getElem?_append_left (by rw [List.length_append,List.length_reverse,hll,List.length_take,hl];omega),List.getElem?_append_right (by rw [List.length_take,hl];omega),List.length_take,hl,
   List.getElem?_reverse (by rw [hll];omega),hll,List.getElem?_take,if_pos (by omega),List.getElem?_drop,Array.getElem?_toList]
  congr 1;omega
 ·rw [if_neg h1]
  by_cases h2:k<i
  ·rw [List.getElem?_append_left (by rw [List.length_append,List.length_reverse,hll,List.length_take,hl];omega),List.getElem?_append_left (by rw [List.length_take,hl];omega),List.getElem?_take,if_pos h2,Array.getElem?_toList]
  ·rw [List.getElem?_append_right (by rw [List.length_append,List.length_reverse,hll,List.length_take,hl];omega),List.length_append,List.length_reverse,hll,List.length_take,hl,List.getElem?_drop,Array.getElem?_toList]
   congr 1;omega
theorem W3 (sa:Nat):∀ (l:List Keyed) (k:Nat) (xs:Array Keyed),sa+k+l.length<=xs.size ->
  ((l.zipIdx k).foldl (fun a q=>a.setIfInBounds (sa+q.2) q.1) xs).toList=xs.toList.take (sa+k)++l++xs.toList.drop (sa+k+l.length)
 | [],k,xs,h=>by
  rw [List.zipIdx_nil,List.foldl_nil,List.append_nil,List.length_nil,Nat.add_zero,List.take_append_drop]
 | p::l,k,xs,h=>by
  have hl:xs.toList.length=xs.size:=Array.length_toList;rw [List.length_cons] at h;rw [List.zipIdx_cons,List.foldl_cons,W3 sa l (k+1) _ (by rw [Array.size_setIfInBounds];omega),Array.toList_setIfInBounds,List.length_cons];have e1:(xs.toList.set (sa+k) p).take (sa+(k+1))=xs.toList.take (sa+k)++[p]:=by
   rw [show sa+(k+1)=sa+k+1 by omega,F4 (x:=p) (by rw [List.getElem?_set,if_pos rfl,if_pos (by omega)]),List.take_set_of_le (by omega)]
  have e2:(xs.toList.set (sa+k) p).drop (sa+(k+1)+l.length)=xs.toList.drop (sa+k+(l.length+1)):=by
   rw [List.drop_set_of_lt (by omega)];congr 1;omega
  rw [e1,e2,List.append_assoc,List.append_assoc,List.append_assoc];rfl
section
variable {prog:Program} {w:World} {A:Around} {E:Value->Shared->Prop} {s:Shared}
theorem mF {σ:Type}{M:Model}{st st':σ}{Q:PUnit->σ->Prop}(h:Q ⟨⟩ st'):wpS M A E s (set st':StateT σ Sem PUnit) Q st:=by
 unfold wpS;rw [StateT.run_set];exact wpAny_pure ⟨rfl,h⟩
theorem Ds {l:List Keyed}{i n j:Nat}(h:j<n):((l.drop i).take n)[j]?=l[i+j]?:=by rw [List.getElem?_take,if_pos h,List.getElem?_drop]
theorem Gr {l:List Keyed}{i n:Nat}(h:i+n<=l.length):((l.drop i).take n).length=n:=by rw [List.length_take,List.length_drop];omega
theorem Xp (a:Array Keyed)(i j:Nat):(a.extract i j).toList=(a.toList.drop i).take (j-i):=by rw [Array.toList_extract,List.extract_eq_take_drop]
variable {kd:SortKind} {P:Keyed->Prop} {blt:Keyed->Keyed->Bool} (L:Y5 prog w A E s kd P blt) (o:Swo blt)
include L o
theorem X8 {st:SortSt}{i sa na nb p p':Nat}{Q:Bool->SortSt->Prop}(hk:kindOf st=kd)(hf:failedOf st=none)(h1:(pendingOf st)[i]?=some (sa,na,p))(h2:(pendingOf st)[i+1]?=some (sa+na,nb,p'))(hn:0<na)(hm:0<nb)
  (hsz:sa+na+nb<=(arrOf st).size)(hP:∀ x∈(arrOf st).toList,P x)(sU:Srt blt (((arrOf st).toList.drop sa).take na))(sW:Srt blt (((arrOf st).toList.drop (sa+na)).take nb))
  (h:∀ st':SortSt,kindOf st'=kd->failedOf st'=none->pendingOf st'=((pendingOf st).setIfInBounds i (sa,na+nb,p)).eraseIdxIfInBounds (i+1) ->
   (arrOf st').toList=(arrOf st).toList.take sa++mg blt (((arrOf st).toList.drop sa).take na) (((arrOf st).toList.drop (sa+na)).take nb)++(arrOf st).toList.drop (sa+na+nb)->Q true st') :
  wpS (model prog w) A E s (mergeAt' i) Q st:=by
 have hl:(arrOf st).toList.length=(arrOf st).size:=Array.length_toList;have PA:∀ {i x},(arrOf st)[i]?=some x->P x:=fun e=>hP _ (List.mem_of_getElem? (A9 e));have lU:(((arrOf st).toList.drop sa).take na).length=na:=Gr (by omega);have lW:(((arrOf st).toList.drop (sa+na)).take nb).length=nb:=Gr (by omega);have whole:(arrOf st).toList.take sa++(((arrOf st).toList.drop sa).take na++((arrOf st).toList.drop (sa+na)).take nb)++(arrOf st).toList.drop (sa+na+nb)=(arrOf st).toList:=by
  rw [<- List.append_assoc,List.append_assoc,<- Fe,List.append_assoc,<- Fe,List.take_append_drop]
 refine wpS_bind (wpS_get ?_);rw [h1,h2];dsimp only;obtain ⟨w0,e0⟩:=Be (show sa+na<(arrOf st).size by omega);refine wpS_bind (mF ?_);refine wpS_bind (Bf e0 ?_);have gb:∀ j,j<na->∃ x,(arrOf st)[sa+j]?=some x/\P x/\W6 blt false w0 x=(fun j=>match (arrOf st)[sa+j]? with | some x=>!(blt w0 x) | none=>false) j:=fun j hj=>by
  obtain ⟨x,ex⟩:=Be (show sa+j<(arrOf st).size by omega);exact ⟨x,ex,PA ex,by dsimp only;rw [ex];rfl⟩
 have gm:∀ j j',j<=j'->j'<na->(fun j=>match (arrOf st)[sa+j]? with | some x=>!(blt w0 x) | none=>false) j'=true->(fun j=>match (arrOf st)[sa+j]? with | some x=>!(blt w0 x) | none=>false) j=true:=fun j j' hij hj e=>by
  obtain ⟨x,ex⟩:=Be (show sa+j<(arrOf st).size by omega);obtain ⟨z,ez⟩:=Be (show sa+j'<(arrOf st).size by omega);dsimp only at e ⊢;rw [ex];rw [ez] at e
  try dsimp only at e ⊢
  cases e1:blt w0 x with
  | false=>rfl
  | true =>
   have:=o.ltle e1 (D6 o sU hij (by rw [Ds (by omega)];exact A9 ex) (by rw [Ds hj];exact A9 ez));rw [this] at e;cases e
 refine wpS_bind (E9 L hk (PA e0) hn gb gm (fun c hc1 hc2 hc3=>?_));have hA1:∀ j x,j<c->(arrOf st)[sa+j]?=some x->blt w0 x=false:=fun j x hj ex=>by
  have:=hc2 j hj
  try dsimp only at this
  rw [ex] at this
  simpa using this
 have hA2:∀ j x,c<=j->j<na->(arrOf st)[sa+j]?=some x->blt w0 x=true:=fun j x hj1 hj2 ex=>by
  have:=hc3 j hj1 hj2
  try dsimp only at this
  rw [ex] at this
  simpa using this
 clear gb gm hc2 hc3
 -- the first c stay ahead of all
 have hw0:(((arrOf st).toList.drop (sa+na)).take nb)[0]?=some w0:=by rw [Ds hm];exact A9 e0
 have eU:mg blt (((arrOf st).toList.drop sa).take na) (((arrOf st).toList.drop (sa+na)).take nb)=((arrOf st).toList.drop sa).take c++mg blt (((arrOf st).toList.drop (sa+c)).take (na-c)) (((arrOf st).toList.drop (sa+na)).take nb):=by
  have e1:((arrOf st).toList.drop sa).take na=((arrOf st).toList.drop sa).take c++((arrOf st).toList.drop (sa+c)).take (na-c):=by
   rw [Ee _ hc1,List.drop_drop]
  rw [e1,Du blt fun x hx y hy=>?_];obtain ⟨j,hj,ex⟩:=C2 hx;obtain ⟨j',ey⟩:=List.getElem?_of_mem hy;rw [Array.getElem?_toList] at ex;exact o.le (hA1 j x hj ex) (D6 o sW (Nat.zero_le j') hw0 ey)
 try dsimp only
 by_cases c1:(na-c==0)=true
 ·rw [if_pos c1]
  rw [beq_iff_eq] at c1;refine wpS_pure (h _ hk hf rfl ?_);have:c=na:=by omega
  rw [eU,this,Nat.sub_self,List.take_zero,Dj,whole]
 rw [if_neg c1];rw [beq_iff_eq] at c1;have ia:sa+c+(na-c)-1=sa+na-1:=by omega
 obtain ⟨al,eal⟩:=Be (show sa+na-1<(arrOf st).size by omega);refine wpS_bind (Bf (by rw [ia];exact eal) ?_);have gb:∀ j,j<nb->∃ x,(arrOf st)[sa+na+j]?=some x/\P x/\W6 blt true al x=(fun j=>match (arrOf st)[sa+na+j]? with | some x=>blt x al | none=>false) j:=fun j hj=>by
  obtain ⟨x,ex⟩:=Be (show sa+na+j<(arrOf st).size by omega);exact ⟨x,ex,PA ex,by dsimp only;rw [ex];rfl⟩
 have gm:∀ j j',j<=j'->j'<nb->(fun j=>match (arrOf st)[sa+na+j]? with | some x=>blt x al | none=>false) j'=true->(fun j=>match (arrOf st)[sa+na+j]? with | some x=>blt x al | none=>false) j=true:=fun j j' hij hj e=>by
  obtain ⟨x,ex⟩:=Be (show sa+na+j<(arrOf st).size by omega);obtain ⟨z,ez⟩:=Be (show sa+na+j'<(arrOf st).size by omega);dsimp only at e ⊢;rw [ex];rw [ez] at e
  try dsimp only at e ⊢
  exact o.lelt (D6 o sW hij (by rw [Ds (by omega)];exact A9 ex) (by rw [Ds hj];exact A9 ez)) e
 refine wpS_bind (E9 L hk (PA eal) (show nb-1<nb by omega) gb gm (fun d hd1 hd2 hd3=>?_));have hB1:∀ j x,j<d->(arrOf st)[sa+na+j]?=some x->blt x al=true:=fun j x hj ex=>by
  have:=hd2 j hj
  try dsimp only at this
  rw [ex] at this;exact this
 have hB2:∀ j x,d<=j->j<nb->(arrOf st)[sa+na+j]?=some x->blt x al=false:=fun j x hj1 hj2 ex=>by
  have:=hd3 j hj1 hj2
  try dsimp only at this
  rw [ex] at this;exact this
 clear gb gm hd2 hd3;have lX:(((arrOf st).toList.drop (sa+c)).take (na-c)).length=na-c:=Gr (by omega);have lY:(((arrOf st).toList.drop (sa+na)).take d).length=d:=Gr (by omega);have sX:Srt blt (((arrOf st).toList.drop (sa+c)).take (na-c)):=by
  have e1:((arrOf st).toList.drop sa).take na=((arrOf st).toList.drop sa).take c++((arrOf st).toList.drop (sa+c)).take (na-c):=by
   rw [Ee _ hc1,List.drop_drop]
  rw [e1] at sU;exact (List.pairwise_append.mp sU).2.1
 have eW1:((arrOf st).toList.drop (sa+na)).take nb=((arrOf st).toList.drop (sa+na)).take d++((arrOf st).toList.drop (sa+na+d)).take (nb-d):=by
  rw [Ee _ hd1,List.drop_drop]
 have sY:Srt blt (((arrOf st).toList.drop (sa+na)).take d):=by
  rw [eW1] at sW;exact (List.pairwise_append.mp sW).1
 have hal:(((arrOf st).toList.drop (sa+c)).take (na-c))[na-c-1]?=some al:=by
  rw [Ds (by omega),show sa+c+(na-c-1)=sa+na-1 by omega];exact A9 eal
 have eW:mg blt (((arrOf st).toList.drop (sa+c)).take (na-c)) (((arrOf st).toList.drop (sa+na)).take nb)=mg blt (((arrOf st).toList.drop (sa+c)).take (na-c)) (((arrOf st).toList.drop (sa+na)).take d)++((arrOf st).toList.drop (sa+na+d)).take (nb-d):=by
  rw [eW1,Ks blt _ _ fun y hy x hx=>?_];obtain ⟨j,hj,ey⟩:=C2 hy;obtain ⟨j',ex⟩:=List.getElem?_of_mem hx;have hj':=(List.getElem?_eq_some_iff.mp ex).1;rw [lX] at hj';rw [Array.getElem?_toList,Nat.add_assoc] at ey;exact o.le (D6 o sX (show j'<=na-c-1 by omega) ex hal) (hB2 (d+j) y (by omega) (by omega) ey)
 try dsimp only
 by_cases c2:(d==0)=true
 ·rw [if_pos c2]
  rw [beq_iff_eq] at c2;refine wpS_pure (h _ hk hf rfl ?_);rw [eU,eW,c2,List.take_zero,Bo,Nat.add_zero,Nat.sub_zero];have e1:((arrOf st).toList.drop sa).take na=((arrOf st).toList.drop sa).take c++((arrOf st).toList.drop (sa+c)).take (na-c):=by
   rw [Ee _ hc1,List.drop_drop]
  rw [<- List.append_assoc (((arrOf st).toList.drop sa).take c),<- e1];exact whole.symm
 rw [if_neg c2];rw [beq_iff_eq] at c2
 -- Pc stretches
 have xL:((arrOf st).extract (sa+c) (sa+na)).toList=((arrOf st).toList.drop (sa+c)).take (na-c):=by
  rw [Xp,show sa+na-(sa+c)=na-c by omega]
 have yL:((arrOf st).extract (sa+na) (sa+na+d)).toList=((arrOf st).toList.drop (sa+na)).take d:=by
  rw [Xp,show sa+na+d-(sa+na)=d by omega]
 have xS:((arrOf st).extract (sa+c) (sa+na)).size=na-c:=by rw [<- Array.length_toList,xL,lX]
 have yS:((arrOf st).extract (sa+na) (sa+na+d)).size=d:=by rw [<- Array.length_toList,yL,lY]
 have x0:∀ {i x},((arrOf st).extract (sa+c) (sa+na))[i]?=some x->i<na-c/\(arrOf st)[sa+c+i]?=some x:=fun {i x} e=>by
  have hi:=(Array.getElem?_eq_some_iff.mp e).1;rw [xS] at hi;have:=A9 e;rw [xL,Ds hi,Array.getElem?_toList] at this;exact ⟨hi,this⟩
 have y0:∀ {i x},((arrOf st).extract (sa+na) (sa+na+d))[i]?=some x->i<d/\(arrOf st)[sa+na+i]?=some x:=fun {i x} e=>by
  have hi:=(Array.getElem?_eq_some_iff.mp e).1;rw [yS] at hi;have:=A9 e;rw [yL,Ds hi,Array.getElem?_toList] at this;exact ⟨hi,this⟩
 have hlast:∀ x,((arrOf st).extract (sa+c) (sa+na))[((arrOf st).extract (sa+c) (sa+na)).size-1]?=some x->∀ y∈((arrOf st).extract (sa+na) (sa+na+d)).toList,blt y x=true:=fun x ex y hy=>by
  obtain ⟨_,e2⟩:=x0 ex;rw [xS,show sa+c+(na-c-1)=sa+na-1 by omega,eal] at e2;cases e2;rw [yL] at hy;obtain ⟨j,hj,ey⟩:=C2 hy;rw [Array.getElem?_toList] at ey;exact hB1 j y hj ey
 have hfirst:∀ y,((arrOf st).extract (sa+na) (sa+na+d))[0]?=some y->∀ x∈((arrOf st).extract (sa+c) (sa+na)).toList,blt y x=true:=fun y ey x hx=>by
  obtain ⟨_,e2⟩:=y0 ey;rw [Nat.add_zero,e0] at e2;cases e2;rw [xL] at hx;obtain ⟨j,hj,ex⟩:=C2 hx;rw [Array.getElem?_toList,Nat.add_assoc] at ex;exact hA2 (c+j) x (by omega) (by omega) ex
 have fin:∀ (r:Array Keyed) (st1:SortSt),r.toList=mg blt ((arrOf st).extract (sa+c) (sa+na)).toList ((arrOf st).extract (sa+na) (sa+na+d)).toList->kindOf st1=kd->failedOf st1=none ->
   pendingOf st1=((pendingOf st).setIfInBounds i (sa,na+nb,p)).eraseIdxIfInBounds (i+1)->arrOf st1=arrOf st ->
   Q true (setArr st1 (r.toList.zipIdx.foldl (fun a q=>a.setIfInBounds (sa+c+q.2) q.1) (arrOf st1))):=fun r st1 hr q1 q2 q3 q4=>by
  refine h _ q1 q2 q3 ?_;show (r.toList.zipIdx.foldl (fun a q=>a.setIfInBounds (sa+c+q.2) q.1) (arrOf st1)).toList=_;have lr:r.toList.length=na-c+d:=by rw [hr,(Kr blt _ _).length_eq,List.length_append,xL,yL,lX,lY]
  rw [q4,W3 (sa+c) r.toList 0 (arrOf st) (by rw [lr];omega),Nat.add_zero,lr,hr,xL,yL,eU,eW];have e3:(arrOf st).toList.take (sa+c)=(arrOf st).toList.take sa++((arrOf st).toList.drop sa).take c:=by rw [List.take_add]
  have e4:(arrOf st).toList.drop (sa+c+(na-c+d))=((arrOf st).toList.drop (sa+na+d)).take (nb-d)++(arrOf st).toList.drop (sa+na+nb):=by
   rw [show sa+c+(na-c+d)=sa+na+d by omega,show sa+na+nb=sa+na+d+(nb-d) by omega];exact Fe _ _ _
  rw [e3,e4];simp only [List.append_assoc]
 have pX:∀ x∈((arrOf st).extract (sa+c) (sa+na)).toList,P x:=fun x hx=>by rw [xL] at hx;exact hP x (List.mem_of_mem_drop (List.mem_of_mem_take hx))
 have pY:∀ x∈((arrOf st).extract (sa+na) (sa+na+d)).toList,P x:=fun x hx=>by rw [yL] at hx;exact hP x (List.mem_of_mem_drop (List.mem_of_mem_take hx))
 have done:∀ (r:Array Keyed) (g:Nat),r.toList=mg blt ((arrOf st).extract (sa+c) (sa+na)).toList ((arrOf st).extract (sa+na) (sa+na+d)).toList ->
   Q (failedOf st).isNone (setArr (SortSt.mk' (kindOf st) (arrOf st) (((pendingOf st).setIfInBounds i (sa,na+nb,p)).eraseIdxIfInBounds (i+1)) g (failedOf st)) (r.toList.zipIdx.foldl (fun a q=>a.setIfInBounds (sa+c+q.2) q.1) (arrOf st))):=fun r g hr=>by
  have:=fin r (SortSt.mk' (kindOf st) (arrOf st) (((pendingOf st).setIfInBounds i (sa,na+nb,p)).eraseIdxIfInBounds (i+1)) g (failedOf st)) hr hk hf rfl rfl;rw [show (failedOf st).isNone=true by rw [hf];rfl];exact this
 by_cases c3:na-c<=d
 ·rw [if_pos c3]
  refine wpS_bind (Wf L o hk (by rw [xS];omega) (by rw [yS];omega) pX pY (by rw [xL];exact sX) (by rw [yL];exact sY) (fun x y ex ey=>hfirst y ey x (List.mem_of_getElem? (A9 ex))) hlast fun r g hr=>?_);exact wpS_bind (wpS_modify (wpS_bind (wpS_get (wpS_pure (done r g hr)))))
 ·rw [if_neg c3]
  refine wpS_bind (Xr L o hk (by rw [xS];omega) (by rw [yS];omega) pX pY (by rw [xL];exact sX) (by rw [yL];exact sY) hfirst hlast fun r g hr=>?_);exact wpS_bind (wpS_modify (wpS_bind (wpS_get (wpS_pure (done r g hr)))))
end
theorem gP {blt:Keyed->Keyed->Bool}(o:Swo blt){l:List Keyed}{x y:Keyed}(h:Srt blt l)(hy:l[l.length-1]?=some y)(hx:blt x y=false):Srt blt (l++[x]):=by
 refine List.pairwise_append.mpr ⟨h,List.pairwise_singleton _ _,fun a ha b hb=>?_⟩;rw [List.mem_singleton.mp hb];obtain ⟨j,hj⟩:=List.getElem?_of_mem ha;have hl:=(List.getElem?_eq_some_iff.mp hj).1;exact o.le (D6 o h (show j<=l.length-1 by omega) hj hy) hx
theorem F8 {xs:Array Keyed}{U V W:List Keyed}{i j:Nat}(e:xs.toList=U++V++W)(hi:i=U.length)(hj:j=U.length+V.length):(mirror xs i j ((j-i)/2)).toList=U++V.reverse++W:=by
 have hl:xs.size=U.length+V.length+W.length:=by rw [<- Array.length_toList,e,List.length_append,List.length_append]
 rw [X4 (by omega) (by omega),e,hi,hj];have e1:(U++V++W).take U.length=U:=by rw [List.append_assoc,List.take_append_of_le_length (Nat.le_refl _),List.take_length]
 have e2:(U++V++W).drop U.length=V++W:=by rw [List.append_assoc,List.drop_append_of_le_length (Nat.le_refl _),List.drop_length,List.nil_append]
 have e3:(U++V++W).drop (U.length+V.length)=W:=by rw [<- List.drop_drop,e2,List.drop_append_of_le_length (Nat.le_refl _),List.drop_length,List.nil_append]
 rw [e1,e2,e3,Nat.add_sub_cancel_left,List.take_append_of_le_length (Nat.le_refl _),List.take_length]
theorem Yl {blt:Keyed->Keyed->Bool}(o:Swo blt){a b:List Keyed}(h:Srt blt (As blt a++b)):As blt (a++b)=As blt a++b:=by
 have hp:=List.pairwise_append.mp h;rw [Tt o,Hc hp.2.1];have:=Du blt (ys:=b) (as:=As blt a) (xs:=[]) fun x hx y hy=>hp.2.2 x hx y hy;rw [List.append_nil,Dj] at this;exact this
section
variable {prog:Program} {w:World} {A:Around} {E:Value->Shared->Prop} {s:Shared}
variable {kd:SortKind} {P:Keyed->Prop} {blt:Keyed->Keyed->Bool} (L:Y5 prog w A E s kd P blt) (o:Swo blt)
include L
theorem G5 {st:SortSt}{i j:Nat}{x y:Keyed}{Q:Option Bool->SortSt->Prop}(hk:kindOf st=kd)(hi:(arrOf st)[i]?=some x)(hj:(arrOf st)[j]?=some y)(px:P x)(py:P y)(h:Q (some (blt x y)) st) :
  wpS (model prog w) A E s (ltAt' i j) Q st:=by
 rw [ltAt'_eq];refine wpS_bind (wpS_get ?_);exact wpS_bind (Bf hi (wpS_bind (Bf hj (L _ _ _ _ px py hk h))))
include o
theorem Xw {st:SortSt}{lo a nrem:Nat}{T C D:List Keyed}{F:Nat->Option (Option Nat)×Nat->StateT SortSt Sem (ForInStep (Option (Option Nat)×Nat))}{Q:Option (Option Nat)×Nat->SortSt->Prop}
  (hF:∀ x n,F x (none,n)=(do
   let r <- ltAt' (lo+n) (lo+n-1)
   match r with
   | some smaller=>if smaller=true then pure (ForInStep.done (none,n)) else pure (ForInStep.yield (none,n+1))
   | x=>pure (ForInStep.done (some none,n))))
  (hk:kindOf st=kd)(hP:∀ x∈(arrOf st).toList,P x)(hT:T.length=lo)(hD:D.length=nrem)(ha:1<=a)(han:a<=nrem)(hC:C.length=a)(e:(arrOf st).toList=T++C++D.drop a)(sC:Srt blt C)
  (h:∀ n,a<=n->n<=nrem->Srt blt (C++(D.drop a).take (n-a))->(n=nrem\/∃ x y,(C++D.drop a)[n]?=some x/\(C++D.drop a)[n-1]?=some y/\blt x y=true)->Q (none,n) st) :
  wpS (model prog w) A E s (forIn [a:nrem] (none,a) F) Q st:=by
 have hl:(C++D.drop a).length=nrem:=by rw [List.length_append,List.length_drop];omega
 have at_:∀ j,(arrOf st)[lo+j]?=(C++D.drop a)[j]?:=fun j=>by
  rw [<- Array.getElem?_toList,e,List.append_assoc,List.getElem?_append_right (by omega),hT,Nat.add_sub_cancel_left]
 have ctk:∀ n,a<=n->n<=nrem->C++(D.drop a).take (n-a)=(C++D.drop a).take n:=fun n h1 h2=>by
  rw [List.take_append,List.take_of_length_le (l:=C) (by omega),hC]
 refine wpS_forRange (I:=fun x c st'=>st'=st/\c=(none,x)/\Srt blt ((C++D.drop a).take x)) ?_ ?_ ⟨rfl,rfl,?_⟩
 ·rintro x c st' hx1 hx2 ⟨rfl,rfl,hs⟩
  rw [hF];obtain ⟨u,eu⟩:∃ u,(C++D.drop a)[x]?=some u:=⟨_,List.getElem?_eq_getElem (by omega)⟩;obtain ⟨v,ev⟩:∃ v,(C++D.drop a)[x-1]?=some v:=⟨_,List.getElem?_eq_getElem (by omega)⟩;have pu:(arrOf st')[lo+x]?=some u:=by rw [at_];exact eu
  have pv:(arrOf st')[lo+x-1]?=some v:=by rw [show lo+x-1=lo+(x-1) by omega,at_];exact ev
  refine wpS_bind (G5 L hk pu pv (hP _ (List.mem_of_getElem? (A9 pu))) (hP _ (List.mem_of_getElem? (A9 pv))) ?_);dsimp only
  cases hb:blt u v with
  | true =>
   rw [if_pos rfl];exact wpS_pure (h x hx1 (by omega) (by rw [ctk x hx1 (by omega)];exact hs) (.inr ⟨u,v,eu,ev,hb⟩))
  | false =>
   rw [if_neg (by decide)];refine wpS_pure ⟨rfl,rfl,?_⟩;rw [F4 eu];refine gP o hs ?_ hb;rw [List.length_take,hl,show min x nrem-1=x-1 by omega,List.getElem?_take,if_pos (by omega)];exact ev
 ·rintro c st' ⟨rfl,rfl,hs⟩
  have:max a nrem=nrem:=by omega
  rw [this] at hs ⊢;exact h nrem han (Nat.le_refl _) (by rw [ctk nrem han (Nat.le_refl _)];exact hs) (.inl rfl)
 ·rw [<- ctk a (Nat.le_refl _) han,Nat.sub_self,List.take_zero,List.append_nil]
  exact sC
theorem R7 {st:SortSt}{lo nrem:Nat}{Q:Option Nat->SortSt->Prop}(hk:kindOf st=kd)(hP:∀ x∈(arrOf st).toList,P x)(hn:lo+nrem=(arrOf st).size)(h1:1<=nrem)
  (h:∀ m (xs:Array Keyed),1<=m->m<=nrem->xs.toList=(arrOf st).toList.take lo++As blt (((arrOf st).toList.drop lo).take m)++((arrOf st).toList.drop lo).drop m->Q (some m) (setArr st xs)) :
  wpS (model prog w) A E s (countRun' lo nrem) Q st:=by
 have hl:(arrOf st).toList.length=(arrOf st).size:=Array.length_toList;generalize hT:(arrOf st).toList.take lo=T at *;generalize hD:(arrOf st).toList.drop lo=D at *;have e:(arrOf st).toList=T++D:=by rw [<- hT,<- hD,List.take_append_drop]
 have lT:T.length=lo:=by rw [<- hT,List.length_take];omega
 have lD:D.length=nrem:=by rw [<- hD,List.length_drop];omega
 obtain ⟨d0,e0⟩:∃ d0,D[0]?=some d0:=⟨_,List.getElem?_eq_getElem (by omega)⟩;have eD:D.take 1++D.drop 1=D:=List.take_append_drop 1 D;refine wpS_bind (Xw L o (T:=T) (C:=D.take 1) (D:=D) (fun x n=>rfl) hk hP lT lD (Nat.le_refl 1) h1 (by rw [List.length_take];omega) (by rw [List.append_assoc,eD];exact e) (by rw [F4 e0];exact List.pairwise_singleton _ _) fun n hn1 hn2 sn hor=>?_);have etk:D.take 1++(D.drop 1).take (n-1)=D.take n:=by rw [show n=1+(n-1) by omega,List.take_add,Nat.add_sub_cancel_left]
 rw [etk] at sn;rw [eD] at hor;dsimp only;have PD:∀ y∈D,P y:=fun y hy=>hP y (by rw [e];exact List.mem_append_right _ hy)
 by_cases c1:(n==nrem)=true
 ·rw [if_pos c1]
  refine wpS_pure (h n (arrOf st) hn1 hn2 ?_);rw [Hc sn,List.append_assoc,List.take_append_drop];exact e
 rw [if_neg c1];rw [beq_iff_eq] at c1;obtain ⟨x,y,ex,ey,hxy⟩:=hor.resolve_left c1;have lDn:(D.take n).length=n:=by rw [List.length_take];omega
 by_cases hgt:n>1
 case' pos =>
  rw [if_pos hgt];have a0:(arrOf st)[lo]?=some d0:=by rw [<- Array.getElem?_toList,e,List.getElem?_append_right (by omega),lT,Nat.sub_self];exact e0
  have ay:(arrOf st)[lo+n-1]?=some y:=by rw [<- Array.getElem?_toList,e,List.getElem?_append_right (by omega),lT,show lo+n-1-lo=n-1 by omega];exact ey
  refine wpS_bind (G5 L hk a0 ay (PD _ (List.mem_of_getElem? e0)) (PD _ (List.mem_of_getElem? ey)) ?_);dsimp only
  by_cases hrose:blt d0 y=true
  ·rw [if_pos hrose]
   refine wpS_pure (h n (arrOf st) hn1 hn2 ?_);rw [Hc sn,List.append_assoc,List.take_append_drop];exact e
  rw [if_neg hrose];have hrose:blt d0 y=false:=by simpa using hrose
  have key:∀ j z,j<n->D[j]?=some z->blt z y=false:=fun j z hj ez=>by
   have h2:=D6 o sn (Nat.zero_le j) (by rw [List.getElem?_take,if_pos (by omega)];exact e0) (by rw [List.getElem?_take,if_pos hj];exact ez)
   cases hc:blt z y with
   | false=>rfl
   | true =>
    rcases o.ng z d0 y hc with h3 | h3
    ·rw [h2] at h3;cases h3
    ·rw [hrose] at h3;cases h3
  have hall:∀ z∈D.take n,blt x z=true:=fun z hz=>by
   obtain ⟨j,hj,ez⟩:=Hm hz;exact o.ltle hxy (key j z hj ez)
  refine wpS_bind (wpS_reverse ?_);have m1:=F8 (xs:=arrOf st) (U:=T) (V:=D.take n) (W:=D.drop n) (i:=lo) (j:=lo+n) (by rw [List.append_assoc,List.take_append_drop];exact e) lT.symm (by rw [lDn,lT]);generalize mirror (arrOf st) lo (lo+n) ((lo+n-lo)/2)=xs1 at *
 case' neg =>
  rw [if_neg hgt];have n1:n=1:=by omega
  have hall:∀ z∈D.take n,blt x z=true:=fun z hz=>by
   obtain ⟨j,hj,ez⟩:=Hm hz;have:j=n-1:=by omega
   rw [this,ey] at ez;cases ez;exact hxy
  have m1:(arrOf st).toList=T++(D.take n).reverse++D.drop n:=by
   rw [n1,F4 e0,List.take_zero,List.nil_append,List.reverse_singleton,e,List.append_assoc];show T++D=T++(d0::D.drop (0+1));rw [<- F1 e0,List.drop_zero]
  show wpS _ _ _ _ _ _ (setArr st (arrOf st));generalize arrOf st=xs1 at m1 ⊢
 all_goals
  refine wpS_bind (wpS_lift (wpAny_rule ⟨rfl,?_⟩));refine wpS_bind (wpS_mono (wpS_forRange
   (I:=fun u c st'=>∃ (neq:Nat) (xs:Array Keyed) (hd tl:List Keyed),c=(none,u,neq)/\st'=setArr st xs/\xs.toList=T++(hd++tl)++D.drop u/\(hd++tl).length=u/\tl.length=neq+1/\As blt (D.take u)=tl++hd.reverse/\(∀ a∈hd,∀ b∈tl,blt b a=true)/\(∀ a∈tl,∀ b∈tl,blt a b=false))
   (Q:=fun c st'=>∃ (m neq:Nat) (xs:Array Keyed) (hd tl:List Keyed),c=(none,m,neq)/\n+1<=m/\m<=nrem/\st'=setArr st xs/\xs.toList=T++(hd++tl)++D.drop m/\(hd++tl).length=m/\tl.length=neq+1/\As blt (D.take m)=tl++hd.reverse) ?_ ?_ ⟨0,xs1,(D.take n).reverse,[x],rfl,rfl,?_,?_,rfl,?_,?_,?_⟩) ?_)
  ·rintro u c st' hu1 hu2 ⟨neq,xs,hd,tl,rfl,rfl,q1,q2,q3,q4,q5,q6⟩
   dsimp only;obtain ⟨v,ev⟩:∃ v,D[u]?=some v:=⟨_,List.getElem?_eq_getElem (by omega)⟩;obtain ⟨t,et⟩:∃ t,tl[tl.length-1]?=some t:=⟨_,List.getElem?_eq_getElem (by omega)⟩;have htl:=List.mem_of_getElem? et;have PT:∀ z∈tl,P z:=fun z hz=>PD z (List.mem_of_mem_take ((Cn blt (D.take u)).mem_iff.mp (by rw [q4];exact List.mem_append_left _ hz)));have pv:(arrOf (setArr st xs))[lo+u]?=some v:=by
    show xs[lo+u]?=some v;rw [<- Array.getElem?_toList,q1,List.getElem?_append_right (by rw [List.length_append];omega),List.length_append,q2,lT,Nat.sub_self,List.getElem?_drop,Nat.add_zero];exact ev
   have pt:(arrOf (setArr st xs))[lo+u-1]?=some t:=by
    show xs[lo+u-1]?=some t;rw [<- Array.getElem?_toList,q1,List.append_assoc,List.getElem?_append_right (by omega),lT,List.getElem?_append_left (by rw [q2];omega),List.getElem?_append_right (by rw [List.length_append] at q2;omega)];rw [List.length_append] at q2;rw [show lo+u-1-lo-hd.length=tl.length-1 by omega];exact et
   refine wpS_bind (G5 L hk pv pt (PD _ (List.mem_of_getElem? ev)) (PT _ htl) ?_);dsimp only;have esn:As blt (D.take (u+1))=mg blt (tl++hd.reverse) [v]:=by rw [F4 ev,Cm,q4]
   have edr:=F1 ev
   cases hs:blt v t with
   | true =>
    rw [if_pos rfl];have v1:∀ z∈tl,blt v z=true:=fun z hz=>o.ltle hs (q6 z hz t htl);have v2:∀ z∈hd,blt v z=true:=fun z hz=>o.tr _ _ _ hs (q5 z hz t htl);have e5:As blt (D.take (u+1))=[v]++(hd++tl.reverse).reverse:=by
     rw [esn,List.reverse_append,List.reverse_reverse];have:=Df blt (xs:=tl++hd.reverse) (bs:=[v]) (ys:=[]) fun b hb z hz=>by
      rw [List.mem_singleton.mp hb];rcases List.mem_append.mp hz with hz | hz
      ·exact v1 z hz
      ·exact v2 z (List.mem_reverse.mp hz)
     rw [List.append_nil,Bo] at this;exact this
    have fin:∀ ys:Array Keyed,ys.toList=T++(hd++tl.reverse)++D.drop u->∃ (neq':Nat) (xs':Array Keyed) (hd' tl':List Keyed),((none,u+1,0):Option (Option Nat)×Nat×Nat)=(none,u+1,neq')/\setArr st ys=setArr st xs'/\xs'.toList=T++(hd'++tl')++D.drop (u+1)/\(hd'++tl').length=u+1/\tl'.length=neq'+1/\As blt (D.take (u+1))=tl'++hd'.reverse/\(∀ a∈hd',∀ b∈tl',blt b a=true)/\(∀ a∈tl',∀ b∈tl',blt a b=false):=fun ys ey=>by
     refine ⟨0,ys,hd++tl.reverse,[v],rfl,rfl,?_,?_,rfl,e5,?_,?_⟩
     ·rw [ey,edr]
      simp only [List.append_assoc,List.cons_append,List.nil_append]
     ·rw [List.length_append,List.length_append,List.length_reverse,<- List.length_append,q2]
      rfl
     ·intro a ha b hb
      rw [List.mem_singleton.mp hb];rcases List.mem_append.mp ha with ha | ha
      ·exact v2 a ha
      ·exact v1 a (List.mem_reverse.mp ha)
     ·intro a ha b hb
      rw [List.mem_singleton.mp ha,List.mem_singleton.mp hb];exact o.irr v
    by_cases hq:neq>0
    ·rw [if_pos hq]
     refine wpS_bind (wpS_reverse (wpS_pure (fin _ ?_)));have hlen:hd.length+tl.length=u:=by rw [<- List.length_append];exact q2
     have:=F8 (xs:=xs) (U:=T++hd) (V:=tl) (W:=D.drop u) (i:=lo+u-(neq+1)) (j:=lo+u) (by rw [q1];simp only [List.append_assoc]) (by rw [List.length_append];omega) (by rw [List.length_append];omega);show (mirror xs _ _ _).toList=_;rw [this];simp only [List.append_assoc]
    ·rw [if_neg hq]
     refine wpS_pure (fin _ ?_);have:tl.reverse=tl:=by
      obtain ⟨z,rfl⟩:=List.length_eq_one_iff.mp (show tl.length=1 by omega);rfl
     rw [this];exact q1
   | false =>
    rw [if_neg (by decide)];refine wpS_bind (G5 L hk pt pv (PT _ htl) (PD _ (List.mem_of_getElem? ev)) ?_);dsimp only
    cases hg:blt t v with
    | true =>
     rw [if_pos rfl];exact wpS_pure ⟨u,neq,xs,hd,tl,rfl,hu1,by omega,rfl,q1,q2,q3,q4⟩
    | false =>
     rw [if_neg (by decide)];have v1:∀ z∈tl,blt v z=false:=fun z hz=>o.le (q6 t htl z hz) hs;have v3:∀ z∈tl,blt z v=false:=fun z hz=>o.le hg (q6 z hz t htl);have v2:∀ z∈hd,blt v z=true:=fun z hz=>o.lelt hg (q5 z hz t htl);refine wpS_pure ⟨neq+1,xs,hd,tl++[v],rfl,rfl,?_,?_,?_,?_,?_,?_⟩
     ·rw [q1,edr]
      simp only [List.append_assoc,List.cons_append,List.nil_append]
     ·rw [<- List.append_assoc,List.length_append,q2]
      rfl
     ·rw [List.length_append,q3]
      rfl
     ·rw [esn,Du blt fun a ha z hz=>by rw [List.mem_singleton.mp hz];exact v1 a ha]
      have:=Df blt (xs:=hd.reverse) (bs:=[v]) (ys:=[]) fun b hb z hz=>by
       rw [List.mem_singleton.mp hb];exact v2 z (List.mem_reverse.mp hz)
      rw [List.append_nil,Bo] at this;rw [this,List.append_assoc]
     ·intro a ha b hb
      rcases List.mem_append.mp hb with hb | hb
      ·exact q5 a ha b hb
      ·rw [List.mem_singleton.mp hb];exact v2 a ha
     ·intro a ha b hb
      rcases List.mem_append.mp ha with ha | ha
      ·rcases List.mem_append.mp hb with hb | hb
       ·exact q6 a ha b hb
       ·rw [List.mem_singleton.mp hb];exact v3 a ha
      ·rw [List.mem_singleton.mp ha]
       rcases List.mem_append.mp hb with hb | hb
       ·exact v1 b hb
       ·rw [List.mem_singleton.mp hb];exact o.irr v
  ·rintro c st' ⟨neq,xs,hd,tl,rfl,rfl,q1,q2,q3,q4,q5,q6⟩
   have hmx:max (n+1) nrem=nrem:=by omega
   rw [hmx] at q1 q2 q4 ⊢;exact ⟨nrem,neq,xs,hd,tl,rfl,by omega,Nat.le_refl _,rfl,q1,q2,q3,q4⟩
  ·rw [m1,F1 ex]
   simp only [List.append_assoc,List.cons_append,List.nil_append]
  ·rw [List.length_append,List.length_reverse,lDn]
   rfl
  ·rw [F4 ex,Cm,Hc sn,List.reverse_reverse]
   have:=Df blt (xs:=D.take n) (bs:=[x]) (ys:=[]) fun b hb z hz=>by
    rw [List.mem_singleton.mp hb];exact hall z hz
   rw [List.append_nil,Bo] at this;exact this
  ·intro a ha b hb
   rw [List.mem_singleton.mp hb];exact hall a (List.mem_reverse.mp ha)
  ·intro a ha b hb
   rw [List.mem_singleton.mp ha,List.mem_singleton.mp hb];exact o.irr x
  ·rintro c st' ⟨m,neq,xs,hd,tl,rfl,hm1,hm2,rfl,q1,q2,q3,q4⟩
   dsimp only;have hlen:hd.length+tl.length=m:=by rw [<- List.length_append];exact q2
   have last:∀ ys:Array Keyed,ys.toList=T++(tl++hd.reverse)++D.drop m->∀ F:Nat->Option (Option Nat)×Nat->StateT SortSt Sem (ForInStep (Option (Option Nat)×Nat)),
     (∀ x n,F x (none,n)=(do
      let r <- ltAt' (lo+n) (lo+n-1)
      match r with
      | some smaller=>if smaller=true then pure (ForInStep.done (none,n)) else pure (ForInStep.yield (none,n+1))
      | x=>pure (ForInStep.done (some none,n)))) ->
     wpS (model prog w) A E s (forIn [m:nrem] (none,m) F) (fun r st'=>∃ m',r=(none,m')/\Q (some m') st') (setArr st ys):=fun ys ey F hF=>by
    have sC:Srt blt (tl++hd.reverse):=by rw [<- q4];exact Ku o _
    refine Xw L o (T:=T) (C:=tl++hd.reverse) (D:=D) hF hk ?_ lT lD (by omega) hm2 (by rw [List.length_append,List.length_reverse];omega) ey sC fun n' hn1' hn2' sn' _=>⟨n',rfl,h n' ys (by omega) hn2' ?_⟩
    ·intro z hz
     have hz:z∈ys.toList:=hz;rw [ey] at hz;rcases List.mem_append.mp hz with hz | hz
     ·rcases List.mem_append.mp hz with hz | hz
      ·exact hP z (by rw [e];exact List.mem_append_left _ hz)
      ·rw [<- q4] at hz
       exact PD z (List.mem_of_mem_take ((Cn blt _).mem_iff.mp hz))
     ·exact PD z (List.mem_of_mem_drop hz)
    ·rw [<- q4] at sn'
     have e7:D.take n'=D.take m++(D.drop m).take (n'-m):=by rw [Ee D hn1']
     rw [e7,Yl o sn',ey,q4];have e8:D.drop m=(D.drop m).take (n'-m)++D.drop n':=by
      have:=Fe D m (n'-m);rw [show m+(n'-m)=n' by omega] at this;exact this
     conv=>lhs;rw [e8]
     simp only [List.append_assoc]
   by_cases hq:neq>0
   ·rw [if_pos hq]
    have r1:=F8 (xs:=xs) (U:=T++hd) (V:=tl) (W:=D.drop m) (i:=lo+m-(neq+1)) (j:=lo+m) (by rw [q1];simp only [List.append_assoc]) (by rw [List.length_append];omega) (by rw [List.length_append];omega);refine wpS_bind (wpS_reverse ?_);refine wpS_bind (wpS_reverse ?_);have r2:=F8 (xs:=mirror xs (lo+m-(neq+1)) (lo+m) ((lo+m-(lo+m-(neq+1)))/2)) (U:=T) (V:=hd++tl.reverse) (W:=D.drop m) (i:=lo) (j:=lo+m) (by rw [r1];simp only [List.append_assoc]) lT.symm (by rw [List.length_append,List.length_reverse];omega);rw [List.reverse_append,List.reverse_reverse] at r2;refine wpS_bind (wpS_mono (last _ r2 _ (fun x n=>rfl)) ?_);rintro c st' ⟨m',rfl,hQ⟩;exact wpS_pure hQ
   ·rw [if_neg hq]
    have hrv:tl.reverse=tl:=by
     obtain ⟨z,rfl⟩:=List.length_eq_one_iff.mp (show tl.length=1 by omega);rfl
    refine wpS_bind (wpS_reverse ?_);have r2:=F8 (xs:=xs) (U:=T) (V:=hd++tl) (W:=D.drop m) (i:=lo) (j:=lo+m) q1 lT.symm (by rw [q2];omega);rw [List.reverse_append,hrv] at r2;refine wpS_bind (wpS_mono (last _ r2 _ (fun x n=>rfl)) ?_);rintro c st' ⟨m',rfl,hQ⟩;exact wpS_pure hQ
end
def Hq:Nat->List (List Keyed)->List (Nat×Nat×Nat)->Prop
 | _,[],[]=>True
 | s,g::gs,(s',n,_)::q=>s'=s/\n=g.length/\Hq (s+g.length) gs q
 | _,_,_=>False
theorem No:∀ {s:Nat} {A B:List (List Keyed)} {q:List (Nat×Nat×Nat)},Hq s (A++B) q->∃ q1 q2,q=q1++q2/\q1.length=A.length/\Hq s A q1/\Hq (s+A.flatten.length) B q2
 | s,[],B,q,h=>⟨[],q,rfl,rfl,trivial,h⟩
 | s,g::A,B,(s',n,p)::q,h=>by
  obtain ⟨h1,h2,h3⟩:=h;obtain ⟨q1,q2,e,l,a,b⟩:=No h3;refine ⟨(s',n,p)::q1,q2,by rw [e];rfl,by rw [List.length_cons,l];rfl,⟨h1,h2,a⟩,?_⟩;rw [List.flatten_cons,List.length_append,<- Nat.add_assoc];exact b
 | s,g::A,B,[],h=>h.elim
theorem Lm:∀ {s:Nat} {A B:List (List Keyed)} {q1 q2:List (Nat×Nat×Nat)},Hq s A q1->Hq (s+A.flatten.length) B q2->Hq s (A++B) (q1++q2)
 | s,[],B,[],q2,_,h=>h
 | s,g::A,B,(s',n,p)::q1,q2,⟨h1,h2,h3⟩,h=>⟨h1,h2,Lm h3 (by rw [List.flatten_cons,List.length_append,<- Nat.add_assoc] at h;exact h)⟩
 | s,[],B,_::_,q2,h,_=>h.elim
 | s,g::A,B,[],q2,h,_=>h.elim
theorem Ss {s:Nat}{A:List (List Keyed)}{q:List (Nat×Nat×Nat)}(h:Hq s A q):q.length=A.length:=by
 rw [show A=A++[] by rw [List.append_nil]] at h;obtain ⟨q1,q2,e,l,_,b⟩:=No h
 cases q2 with
 | nil=>rw [e,List.append_nil,l]
 | cons x r=>exact b.elim
theorem eJ {α:Type}{q1 q2:List α}{x y z:α}{i:Nat}(h:q1.length=i):((q1++x::y::q2).set i z).eraseIdx (i+1)=q1++z::q2:=by
 subst h;rw [List.set_append_right _ _ (Nat.le_refl _),Nat.sub_self,List.set_cons_zero,List.eraseIdx_append_of_length_le (Nat.le_succ _),show q1.length.succ-q1.length=1 by omega];rfl
theorem Mp {pw:Nat}:∀ {s:Nat} {A:List (List Keyed)} {q:List (Nat×Nat×Nat)} (i:Nat),Hq s A q->Hq s A (q.modify i fun x=>(x.1,x.2.1,pw))
 | _,[],[],i,_=>by cases i<;>trivial
 | _,g::A,(s',n,p)::q,0,⟨h1,h2,h3⟩=>⟨h1,h2,h3⟩
 | _,g::A,(s',n,p)::q,i+1,⟨h1,h2,h3⟩=>⟨h1,h2,Mp i h3⟩
 | _,[],_::_,_,h=>h.elim
 | _,_::_,[],_,h=>h.elim
theorem Ha (blt:Keyed->Keyed->Bool):∀ A:List (List Keyed),((A.map (As blt)).flatten).length=A.flatten.length
 | []=>rfl
 | g::A=>by rw [List.map_cons,List.flatten_cons,List.flatten_cons,List.length_append,List.length_append,Cz,Ha blt A]
theorem Xv (blt:Keyed->Keyed->Bool){x:Keyed}:∀ {A:List (List Keyed)},x∈(A.map (As blt)).flatten->x∈A.flatten
 | [],h=>h
 | g::A,h=>by
  rw [List.map_cons,List.flatten_cons] at h;rw [List.flatten_cons];rcases List.mem_append.mp h with h | h
  ·exact List.mem_append_left _ ((Cn blt g).mem_iff.mp h)
  ·exact List.mem_append_right _ (Xv blt h)
theorem Nv {U V W:List Keyed}:(U++(V++W)).take U.length=U/\(U++(V++W)).drop U.length=V++W/\((U++(V++W)).drop U.length).take V.length=V/\(U++(V++W)).drop (U.length+V.length)=W:=by
 have e2:(U++(V++W)).drop U.length=V++W:=by rw [List.drop_append_of_le_length (Nat.le_refl _),List.drop_length,List.nil_append]
 refine ⟨by rw [List.take_append_of_le_length (Nat.le_refl _),List.take_length],e2,?_,?_⟩
 ·rw [e2,List.take_append_of_le_length (Nat.le_refl _),List.take_length]
 ·rw [<- List.drop_drop,e2,List.drop_append_of_le_length (Nat.le_refl _),List.drop_length,List.nil_append]
structure SI (kd:SortKind) (blt:Keyed->Keyed->Bool) (l0:List Keyed) (segs:List (List Keyed)) (lo:Nat) (st:SortSt):Prop where
 ne:∀ g∈segs,g≠[]
 all:segs.flatten++l0.drop lo=l0
 len:segs.flatten.length=lo
 arr:(arrOf st).toList=(segs.map (As blt)).flatten++l0.drop lo
 pend:Hq 0 segs (pendingOf st).toList
 kind:kindOf st=kd
 fail:failedOf st=none
theorem SI.few {kd:SortKind}{blt:Keyed->Keyed->Bool}{l0:List Keyed}{segs:List (List Keyed)}{lo:Nat}{st:SortSt}(h:SI kd blt l0 segs lo st):segs.length<=lo:=by
 have key:∀ A:List (List Keyed),(∀ g∈A,g≠[])->A.length<=A.flatten.length:=fun A=>by
  induction A with
  | nil=>intro _;exact Nat.le_refl _
  | cons g A ih =>
   intro hn;have h1:=ih fun x hx=>hn x (List.mem_cons_of_mem _ hx);have h2:=List.length_pos_iff.mpr (hn g List.mem_cons_self);rw [List.flatten_cons,List.length_append,List.length_cons];omega
 have:=key segs h.ne;rw [h.len] at this;exact this
theorem SI.size {kd:SortKind}{blt:Keyed->Keyed->Bool}{l0:List Keyed}{segs:List (List Keyed)}{lo:Nat}{st:SortSt}(h:SI kd blt l0 segs lo st):(arrOf st).size=l0.length:=by
 rw [<- Array.length_toList,h.arr,List.length_append,Ha];have:=congrArg List.length h.all;rw [List.length_append] at this;exact this
theorem SI.mem {kd:SortKind}{blt:Keyed->Keyed->Bool}{l0:List Keyed}{segs:List (List Keyed)}{lo:Nat}{st:SortSt}(h:SI kd blt l0 segs lo st){x:Keyed}(hx:x∈(arrOf st).toList):x∈l0:=by
 rw [h.arr] at hx;rw [<- h.all];rcases List.mem_append.mp hx with hx | hx
 ·exact List.mem_append_left _ (Xv blt hx)
 ·exact List.mem_append_right _ hx
section
variable {prog:Program} {w:World} {A:Around} {E:Value->Shared->Prop} {s:Shared}
variable {kd:SortKind} {P:Keyed->Prop} {blt:Keyed->Keyed->Bool} (L:Y5 prog w A E s kd P blt) (o:Swo blt)
include L o
theorem Oo {st:SortSt}{lo n ok:Nat}{T D:List Keyed}{Q:Bool->SortSt->Prop}(hk:kindOf st=kd)(hP:∀ x∈D,P x)(hT:T.length=lo)(hok:1<=ok)(hn:ok<=n)(hD:n<=D.length)
  (e:(arrOf st).toList=T++As blt (D.take ok)++D.drop ok)(h:∀ xs:Array Keyed,xs.toList=T++As blt (D.take n)++D.drop n->Q true (setArr st xs)) :
  wpS (model prog w) A E s (binarySort' lo n ok) Q st:=by
 have hmx:max ok 1=ok:=by omega
 refine wpS_bind (wpS_mono (wpS_forRange (I:=fun k c st'=>c=(none,())/\k<=n/\∃ xs:Array Keyed,st'=setArr st xs/\xs.toList=T++As blt (D.take k)++D.drop k)
  (Q:=fun c st'=>c=(none,())/\∃ xs:Array Keyed,st'=setArr st xs/\xs.toList=T++As blt (D.take n)++D.drop n) ?_ ?_ ⟨rfl,by omega,arrOf st,rfl,by rw [hmx];exact e⟩) ?_)
 ·rintro k c st' hk1 hk2 ⟨rfl,_,xs,rfl,ex⟩
  dsimp only;obtain ⟨v,ev⟩:∃ v,D[k]?=some v:=⟨_,List.getElem?_eq_getElem (by omega)⟩;have lS:(As blt (D.take k)).length=k:=by rw [Cz,List.length_take];omega
  have sS:=Ku o (D.take k);have pS:∀ x∈As blt (D.take k),P x:=fun x hx=>hP x (List.mem_of_mem_take ((Cn blt _).mem_iff.mp hx));have esn:As blt (D.take (k+1))=mg blt (As blt (D.take k)) [v]:=by rw [F4 ev,Cm]
  generalize As blt (D.take k)=S at *;have pv:xs[lo+k]?=some v:=by
   rw [<- Array.getElem?_toList,ex,List.getElem?_append_right (by rw [List.length_append];omega),List.length_append,lS,hT,Nat.sub_self,List.getElem?_drop,Nat.add_zero];exact ev
  have pm:∀ m,m<k->xs[lo+m]?=S[m]?:=fun m hm=>by
   rw [<- Array.getElem?_toList,ex,List.append_assoc,List.getElem?_append_right (by omega),hT,Nat.add_sub_cancel_left,List.getElem?_append_left (by omega)]
  refine wpS_bind (wpS_mono (wpS_forRange (I:=fun x c st'=>∃ l r,c=(none,l,r)/\st'=setArr st xs/\l<=r/\r<=k/\r-l+x<=k/\(∀ i z,i<l->S[i]?=some z->blt v z=false)/\(∀ i z,r<=i->S[i]?=some z->blt v z=true))
   (Q:=fun c st'=>∃ l r,c=(none,l,r)/\st'=setArr st xs/\l<=k/\(∀ i z,i<l->S[i]?=some z->blt v z=false)/\(∀ i z,l<=i->S[i]?=some z->blt v z=true)) ?_ ?_ ⟨0,k,rfl,rfl,by omega,by omega,by omega,?_,?_⟩) ?_)
  ·rintro x c st' _ hx ⟨l,r,rfl,rfl,q1,q2,q3,q4,q5⟩
   dsimp only
   by_cases hge:l>=r
   ·rw [if_pos hge]
    exact wpS_pure ⟨l,r,rfl,rfl,by omega,q4,fun i z hi ez=>q5 i z (by omega) ez⟩
   ·rw [if_neg hge]
    obtain ⟨z,ez⟩:∃ z,S[(l+r)/2]?=some z:=⟨_,List.getElem?_eq_getElem (by omega)⟩;refine wpS_bind (G5 L hk pv (by show xs[_]?=_;rw [pm _ (by omega)];exact ez) (hP _ (List.mem_of_getElem? ev)) (pS _ (List.mem_of_getElem? ez)) ?_);dsimp only
    cases hb:blt v z with
    | true =>
     rw [if_pos rfl];exact wpS_pure ⟨_,_,rfl,rfl,by omega,by omega,by omega,q4,fun i z' hi ez'=>o.ltle hb (D6 o sS hi ez ez')⟩
    | false =>
     rw [if_neg (by decide)];exact wpS_pure ⟨_,_,rfl,rfl,by omega,by omega,by omega,(fun i z' hi ez'=>o.le (D6 o sS (show i<=(l+r)/2 by omega) ez' ez) hb),q5⟩
  ·rintro c st' ⟨l,r,rfl,rfl,q1,q2,q3,q4,q5⟩
   have:max 0 k=k:=by omega
   rw [this] at q3;exact ⟨l,r,rfl,rfl,by omega,q4,fun i z hi ez=>q5 i z (by omega) ez⟩
  ·intro i z hi
   omega
  ·intro i z hi ez
   have:=(List.getElem?_eq_some_iff.mp ez).1;omega
  ·rintro c st' ⟨l,r,rfl,rfl,q1,q4,q5⟩
   dsimp only;refine wpS_bind (?_:wpS (model prog w) A E s (moveDown' (lo+k) (lo+l)) _ _);rw [moveDown'_eq];refine wpS_modify (wpS_pure ⟨rfl,by omega,bubble xs (lo+k) (lo+k-(lo+l)),rfl,?_⟩);have hsz:xs.size=lo+D.length:=by
    rw [<- Array.length_toList,ex,List.length_append,List.length_append,lS,hT,List.length_drop];omega
   rw [X3 (by omega) (by omega) pv,show lo+k-(lo+k-(lo+l))=lo+l by omega,show lo+k-(lo+l)=k-l by omega,ex];have hl:T.length+(S.take l).length=lo+l:=by rw [List.length_take];omega
   have e1:T++S++D.drop k=(T++S.take l)++(S.drop l++D.drop k):=by
    conv=>lhs;rw [<- List.take_append_drop l S]
    simp only [List.append_assoc]
   have hl2:(S.drop l).length=k-l:=by rw [List.length_drop,lS]
   obtain ⟨m1,m2,m3,m4⟩:=Nv (U:=T++S.take l) (V:=S.drop l) (W:=D.drop k);rw [List.length_append,hl] at m1 m2 m3 m4;rw [hl2] at m3 m4;have e2:(T++S++D.drop k).drop (lo+k+1)=D.drop (k+1):=by
    rw [<- List.drop_drop,e1,show lo+k=lo+l+(k-l) by omega,m4,List.drop_drop]
   rw [e2,e1,m1,m3,esn];have hS:S=S.take l++S.drop l:=(List.take_append_drop l S).symm
   conv=>rhs;rw [hS]
   rw [Du blt fun a ha y hy=>?_]
   ·have:=Df blt (xs:=S.drop l) (bs:=[v]) (ys:=[]) fun b hb z hz=>by
     rw [List.mem_singleton.mp hb];obtain ⟨j,hj,ez⟩:=Rq hz;exact q5 j z hj ez
    rw [List.append_nil,Bo] at this;rw [this];simp only [List.append_assoc]
   ·rw [List.mem_singleton.mp hy]
    obtain ⟨j,hj,ez⟩:=Hm ha;exact q4 j a hj ez
 ·rintro c st' ⟨rfl,hle,xs,rfl,ex⟩
  rw [hmx] at hle ex;have:max ok n=n:=by omega
  rw [this] at ex;exact ⟨rfl,xs,rfl,ex⟩
 ·rintro c st' ⟨rfl,xs,rfl,ex⟩
  exact wpS_pure (h xs ex)
theorem Od {l0:List Keyed}{segs:List (List Keyed)}{lo i:Nat}{st:SortSt}{Q:Bool->SortSt->Prop}(hP:∀ x∈l0,P x)(S:SI kd blt l0 segs lo st)(hi:i+1<segs.length)
  (h:∀ segs' st',segs'.length+1=segs.length->SI kd blt l0 segs' lo st'->Q true st'):wpS (model prog w) A E s (mergeAt' i) Q st:=by
 obtain ⟨A1,g,g',B,rfl,hA⟩:∃ A1 g g' B,segs=A1++g::g'::B/\A1.length=i:=by
  refine ⟨segs.take i,segs[i],segs[i+1],segs.drop (i+2),?_,by rw [List.length_take];omega⟩;rw [<- List.drop_eq_getElem_cons,<- List.drop_eq_getElem_cons,List.take_append_drop]
 obtain ⟨q1,q2,eq,lq,p1,p2⟩:=No S.pend;obtain ⟨s1,n1,w1,q3,rfl⟩:∃ s1 n1 w1 q3,q2=(s1,n1,w1)::q3:=by
  cases q2 with
  | nil=>exact p2.elim
  | cons t r=>exact ⟨t.1,t.2.1,t.2.2,r,rfl⟩
 obtain ⟨es1,en1,p3⟩:=p2;obtain ⟨s2,n2,w2,q4,rfl⟩:∃ s2 n2 w2 q4,q3=(s2,n2,w2)::q4:=by
  cases q3 with
  | nil=>exact p3.elim
  | cons t r=>exact ⟨t.1,t.2.1,t.2.2,r,rfl⟩
 obtain ⟨es2,en2,p4⟩:=p3;rw [Nat.zero_add] at es1 es2 p4;subst es1 en1 es2 en2;have hg:g≠[]:=S.ne g (by simp);have hg':g'≠[]:=S.ne g' (by simp);have earr:(arrOf st).toList=(A1.map (As blt)).flatten++(As blt g++(As blt g'++((B.map (As blt)).flatten++l0.drop lo))):=by
  rw [S.arr,List.map_append,List.map_cons,List.map_cons,List.flatten_append,List.flatten_cons,List.flatten_cons];simp only [List.append_assoc]
 have lA:((A1.map (As blt)).flatten).length=A1.flatten.length:=Ha blt A1;have lg:(As blt g).length=g.length:=Cz blt g;have lg':(As blt g').length=g'.length:=Cz blt g';obtain ⟨m1,m2,m3,m4⟩:=Nv (U:=(A1.map (As blt)).flatten) (V:=As blt g) (W:=As blt g'++((B.map (As blt)).flatten++l0.drop lo));rw [<- earr,lA] at m1 m2 m3 m4;rw [lg] at m3 m4;obtain ⟨_,_,m5,m6⟩:=Nv (U:=(A1.map (As blt)).flatten++As blt g) (V:=As blt g') (W:=(B.map (As blt)).flatten++l0.drop lo);rw [List.append_assoc,<- earr,List.length_append,lA,lg,lg'] at m5 m6;have hsz:A1.flatten.length+g.length+g'.length<=(arrOf st).size:=by
  rw [<- Array.length_toList,earr];simp only [List.length_append,lA,lg,lg'];omega
 have i1:(pendingOf st)[i]?=some (A1.flatten.length,g.length,w1):=by
  rw [<- Array.getElem?_toList,eq,List.getElem?_append_right (by omega),lq,hA,Nat.sub_self];rfl
 have i2:(pendingOf st)[i+1]?=some (A1.flatten.length+g.length,g'.length,w2):=by
  rw [<- Array.getElem?_toList,eq,List.getElem?_append_right (by omega),lq,hA,show i+1-i=1 by omega];rfl
 refine X8 L o S.kind S.fail i1 i2 (List.length_pos_iff.mpr hg) (List.length_pos_iff.mpr hg') hsz (fun x hx=>hP x (S.mem hx)) (by rw [m3];exact Ku o _) (by rw [m5];exact Ku o _) fun st' k1 k2 k3 k4=>?_;refine h (A1++(g++g')::B) st' (by simp only [List.length_append,List.length_cons];omega) ⟨fun x hx=>?_,?_,?_,?_,?_,k1,k2⟩
 ·rcases List.mem_append.mp hx with hx | hx
  ·exact S.ne x (List.mem_append_left _ hx)
  ·rcases List.mem_cons.mp hx with rfl | hx
   ·exact fun e=>hg (List.append_eq_nil_iff.mp e).1
   ·exact S.ne x (List.mem_append_right _ (List.mem_cons_of_mem _ (List.mem_cons_of_mem _ hx)))
 ·have:=S.all
  simp only [List.flatten_append,List.flatten_cons,List.append_assoc] at this ⊢;exact this
 ·have:=S.len
  simp only [List.flatten_append,List.flatten_cons,List.length_append] at this ⊢;omega
 ·rw [k4,m1,m3,m5,m6,<- Tt o,List.map_append,List.map_cons,List.flatten_append,List.flatten_cons]
  simp only [List.append_assoc]
 ·rw [k3,Array.toList_eraseIdxIfInBounds,Array.toList_setIfInBounds,eq,eJ (by omega)]
  refine Lm p1 ⟨by rw [Nat.zero_add],by rw [List.length_append],?_⟩;rw [Nat.zero_add,List.length_append,<- Nat.add_assoc];exact p4
theorem Lb {l0:List Keyed}{st:SortSt}{Q:Unit->SortSt->Prop}(hk:kindOf st=kd)(hf:failedOf st=none)(hp:pendingOf st=#[])(e:(arrOf st).toList=l0)(hP:∀ x∈l0,P x)(h2:1<=l0.length)
  (h:∀ st':SortSt,failedOf st'=none->(arrOf st').toList=As blt l0->Q () st'):wpS (model prog w) A E s sortRuns' Q st:=by
 have hsz:(arrOf st).size=l0.length:=by rw [<- Array.length_toList,e]
 have S0:SI kd blt l0 [] 0 st:=⟨(fun g hg=>by cases hg),by rw [List.drop_zero];rfl,rfl,by rw [e,List.drop_zero];rfl,by rw [hp];trivial,hk,hf⟩;refine wpS_bind (wpS_get ?_);dsimp only;generalize (arrOf st).size=sz at *;subst hsz;generalize (sortPriv% PySem.Builtin.minRun) l0.length l0.length 0=mr;refine wpS_bind (wpS_mono (wpS_forRange (I:=fun x c st'=>∃ lo segs,c=(none,lo)/\x<=lo/\lo<=l0.length/\SI kd blt l0 segs lo st')
  (Q:=fun c st'=>∃ segs,c=(none,l0.length)/\SI kd blt l0 segs l0.length st') ?_ ?_ ⟨0,[],rfl,Nat.le_refl _,Nat.zero_le _,S0⟩) ?_)
 ·rintro x c st1 _ hx ⟨lo,segs,rfl,hxl,hlo,S⟩
  dsimp only
  by_cases hge:lo>=l0.length
  ·rw [if_pos hge]
   have:lo=l0.length:=by omega
   subst this;exact wpS_pure ⟨segs,rfl,S⟩
  rw [if_neg hge];have lF:((segs.map (As blt)).flatten).length=lo:=by rw [Ha,S.len]
  have dlo:(arrOf st1).toList.drop lo=l0.drop lo:=by rw [S.arr,List.drop_append_of_le_length (by omega),List.drop_of_length_le (by omega),List.nil_append]
  have tlo:(arrOf st1).toList.take lo=(segs.map (As blt)).flatten:=by rw [S.arr,List.take_append_of_le_length (by omega),List.take_of_length_le (by omega)]
  have lD:(l0.drop lo).length=l0.length-lo:=List.length_drop;have hD:∀ x∈l0.drop lo,P x:=fun x hx=>hP x (List.mem_of_mem_drop hx);refine wpS_bind (R7 L o S.kind (fun x hx=>hP x (S.mem hx)) (by rw [S.size];omega) (by omega) fun m xs hm1 hm2 ex=>?_);rw [dlo,tlo] at ex;dsimp only
  by_cases hlt:m<mr
  case' pos =>
   rw [if_pos hlt];refine wpS_bind (wpS_lift (wpAny_rule ⟨rfl,?_⟩));refine wpS_bind (Oo L o (st:=setArr st1 xs) (lo:=lo) (n:=min (l0.length-lo) mr) (ok:=m) (T:=(segs.map (As blt)).flatten) (D:=l0.drop lo) S.kind hD lF hm1 (by omega) (by omega) ex fun xs2 ex2=>?_);rw [if_neg (by decide)];have hn1:1<=min (l0.length-lo) mr:=by omega
   have hn2:min (l0.length-lo) mr<=l0.length-lo:=by omega
   clear ex;have ex:=ex2;clear ex2 hm1 hm2 hlt;have hm1:=hn1;have hm2:=hn2;clear hn1 hn2;generalize min (l0.length-lo) mr=n at *;show wpS _ _ _ _ _ _ (setArr st1 xs2);generalize xs2=xs3 at *
  case' neg =>
   rw [if_neg hlt];clear hlt;generalize m=n at *;generalize xs=xs3 at *
  all_goals
   have hl0':((l0.take lo++(As blt ((l0.drop lo).take n)++(l0.drop lo).drop n)).drop lo)=As blt ((l0.drop lo).take n)++(l0.drop lo).drop n:=by
    rw [List.drop_append_of_le_length (by rw [List.length_take];omega),List.drop_of_length_le (by rw [List.length_take];omega),List.nil_append]
   have hsf:segs.flatten=l0.take lo:=by
    have:=congrArg (List.take lo) S.all;rw [List.take_append_of_le_length (by rw [S.len];exact Nat.le_refl _),List.take_of_length_le (by rw [S.len];exact Nat.le_refl _)] at this;exact this
   have S':SI kd blt (l0.take lo++(As blt ((l0.drop lo).take n)++(l0.drop lo).drop n)) segs lo (setArr st1 xs3) :=
    ⟨S.ne,by rw [hl0',hsf],S.len,by show xs3.toList=_;rw [ex,hl0',List.append_assoc],S.pend,S.kind,S.fail⟩
   have hP':∀ x∈l0.take lo++(As blt ((l0.drop lo).take n)++(l0.drop lo).drop n),P x:=fun x hx=>by
    rcases List.mem_append.mp hx with hx | hx
    ·exact hP x (List.mem_of_mem_take hx)
    ·rcases List.mem_append.mp hx with hx | hx
     ·exact hD x (List.mem_of_mem_take ((Cn blt _).mem_iff.mp hx))
     ·exact hD x (List.mem_of_mem_drop hx)
   have fin:∀ (segs':List (List Keyed)) (st3:SortSt) (q:Array (Nat×Nat×Nat)),SI kd blt (l0.take lo++(As blt ((l0.drop lo).take n)++(l0.drop lo).drop n)) segs' lo st3->Hq 0 segs' q.toList ->
     SI kd blt l0 (segs'++[(l0.drop lo).take n]) (lo+n) (setPending st3 (q.push (lo,n,0))):=fun segs' st3 q S3 hq=>by
    have hsf':segs'.flatten=l0.take lo:=by
     have:=congrArg (List.take lo) S3.all;rw [List.take_append_of_le_length (by rw [S3.len];exact Nat.le_refl _),List.take_of_length_le (by rw [S3.len];exact Nat.le_refl _),List.take_append_of_le_length (by rw [List.length_take];omega),List.take_of_length_le (l:=l0.take lo) (by rw [List.length_take];omega)] at this;exact this
    have ln:((l0.drop lo).take n).length=n:=by rw [List.length_take];omega
    refine ⟨fun g hg=>?_,?_,?_,?_,?_,S3.kind,S3.fail⟩
    ·rcases List.mem_append.mp hg with hg | hg
     ·exact S3.ne g hg
     ·rw [List.mem_singleton.mp hg]
      exact fun z=>by rw [z] at ln;simp at ln;omega
    ·rw [List.flatten_append,List.flatten_singleton,hsf',<- List.drop_drop,List.append_assoc,List.take_append_drop,List.take_append_drop]
    ·rw [List.flatten_append,List.flatten_singleton,List.length_append,S3.len,ln]
    ·show (arrOf st3).toList=_
     rw [S3.arr,hl0',List.map_append,List.map_cons,List.map_nil,List.flatten_append,List.flatten_singleton,<- List.drop_drop,List.append_assoc]
    ·show Hq 0 _ (q.push (lo,n,0)).toList
     rw [Array.toList_push];refine Lm hq ⟨?_,ln.symm,trivial⟩;rw [Nat.zero_add,S3.len]
   refine wpS_bind (wpS_get ?_);dsimp only
   cases hb:(pendingOf (setArr st1 xs3)).back? with
   | none =>
    dsimp only;exact wpS_bind (wpS_modify (wpS_pure ⟨lo+n,_,rfl,by omega,by omega,fin segs (setArr st1 xs3) (pendingOf st1) S' S.pend⟩))
   | some t =>
    obtain ⟨s1,n1,w1⟩:=t;dsimp only;generalize (sortPriv% PySem.Builtin.power) l0.length (2*s1+n1) (2*s1+n1+n1+n) l0.length=pw;refine wpS_bind (wpS_mono (wpS_forRange (I:=fun x c st'=>c=(none,())/\∃ segs',SI kd blt (l0.take lo++(As blt ((l0.drop lo).take n)++(l0.drop lo).drop n)) segs' lo st')
     (Q:=fun c st'=>c=(none,())/\∃ segs',SI kd blt (l0.take lo++(As blt ((l0.drop lo).take n)++(l0.drop lo).drop n)) segs' lo st') ?_ ?_ ⟨rfl,segs,S'⟩) ?_)
    ·rintro y c st4 _ hy ⟨rfl,segs',S4⟩
     refine wpS_bind (wpS_get ?_)
     try dsimp only
     have hpl:(pendingOf st4).size=segs'.length:=by rw [<- Array.length_toList];exact Ss S4.pend
     by_cases c1:(pendingOf st4).size>1
     ·rw [if_pos c1]
      obtain ⟨t,et⟩:∃ t,(pendingOf st4)[(pendingOf st4).size-2]?=some t:=⟨_,Array.getElem?_eq_getElem (by omega)⟩;rw [et];obtain ⟨a1,a2,older⟩:=t;dsimp only
      by_cases c2:older<=pw
      ·rw [if_pos c2]
       exact wpS_pure ⟨rfl,segs',S4⟩
      ·rw [if_neg c2]
       refine wpS_bind (Od L o (i:=(pendingOf st4).size-2) hP' S4 (by omega) fun segs5 st5 _ S5=>?_);exact wpS_pure ⟨rfl,segs5,S5⟩
     ·rw [if_neg c1]
      exact wpS_pure ⟨rfl,segs',S4⟩
    ·rintro c st4 ⟨rfl,segs',S4⟩
     exact ⟨rfl,segs',S4⟩
    ·rintro c st4 ⟨rfl,segs',S4⟩
     try dsimp only
     refine wpS_bind (wpS_modify (wpS_bind (wpS_modify (wpS_pure ⟨lo+n,_,rfl,by omega,by omega,fin segs' st4 ((pendingOf st4).modify ((pendingOf st4).size-1) fun x=>(x.1,x.2.1,pw)) S4 ?_⟩))));rw [Array.toList_modify];exact Mp _ S4.pend
 ·rintro c st1 ⟨lo,segs,rfl,hxl,hlo,S⟩
  have:max 0 l0.length=l0.length:=by omega
  rw [this] at hxl;have:lo=l0.length:=by omega
  subst this;exact ⟨segs,rfl,S⟩
 ·rintro c st1 ⟨segs,rfl,S⟩
  dsimp only;refine wpS_bind (wpS_mono (wpS_forRange (I:=fun x c st'=>c=(none,())/\∃ segs,segs.length+x<=l0.length/\SI kd blt l0 segs l0.length st')
   (Q:=fun c st'=>c=(none,())/\∃ segs,segs.length<=1/\SI kd blt l0 segs l0.length st') ?_ ?_ ⟨rfl,segs,S.few,S⟩) ?_)
  ·rintro x c st1 _ hx ⟨rfl,segs,hl,S⟩
   refine wpS_bind (wpS_get ?_)
   try dsimp only
   have hpl:(pendingOf st1).size=segs.length:=by rw [<- Array.length_toList];exact Ss S.pend
   by_cases c1:(pendingOf st1).size<=1
   ·rw [if_pos c1]
    exact wpS_pure ⟨rfl,segs,by omega,S⟩
   rw [if_neg c1];have h9:∀ c:Bool,(if c=true then (pendingOf st1).size-2-1 else (pendingOf st1).size-2)<=(pendingOf st1).size-2:=fun c=>by
    cases c
    ·exact Nat.le_refl _
    ·exact Nat.sub_le _ _
   refine wpS_bind (Od L o hP S (Nat.lt_of_le_of_lt (Nat.succ_le_succ (h9 _)) (by omega)) fun segs' st2 hl2 S2=>?_);exact wpS_pure ⟨rfl,segs',by omega,S2⟩
  ·rintro c st1 ⟨rfl,segs,hl,S⟩
   have:max 0 l0.length=l0.length:=by omega
   rw [this] at hl;exact ⟨rfl,segs,by omega,S⟩
  ·rintro c st1 ⟨rfl,segs,hl,S⟩
   refine wpS_pure (h st1 S.fail ?_);have hlen:=S.len;have hall:=S.all;rw [List.drop_length,List.append_nil] at hall;obtain ⟨g,rfl⟩:∃ g,segs=[g]:=by
    cases segs with
    | nil=>rw [List.flatten_nil,List.length_nil] at hlen;omega
    | cons g r =>
     rw [List.length_cons] at hl;exact ⟨g,by rw [List.length_eq_zero_iff.mp (show r.length=0 by omega)]⟩
   rw [List.flatten_singleton] at hall;rw [S.arr,List.drop_length,List.append_nil,List.map_cons,List.map_nil,List.flatten_singleton,hall]
end
def Pc (N H:Hp):Hp:=fun b=>match N b with | some o=>some o | none=>H b
theorem Iv {N H:Hp}{b:Addr}{o:HO}(h:N b=some o):Pc N H b=some o:=by unfold Pc;rw [h]
theorem Fm {N H:Hp}{b:Addr}(h:N b=none):Pc N H b=H b:=by unfold Pc;rw [h]
def Uw (oc:Obj)(qual:Str):Prop:=∃ vs t,oc.data=.fields vs/\vs[1]?=some (.str qual t)
def Kb (H:Hp)(P:Addr)(pos:Pos)(qual:Str):Prop:=∃ ps:Array Value,H P=some (.tbl ps)/\TriplesOk ps.toList/\(codeAmong pos ps.toList=none\/∃ c' oc,codeAmong pos ps.toList=some (.ref c')/\H c'=some (.frz oc (.own 0))/\Uw oc qual)
section
variable {X:Cx} {pins:List (Addr×Obj)} {σ:St} {H:Hp} {s:Shared}
theorem Inv.grown {P:Addr}{ps more:Array Value}{N:Hp}{h':Heap}{t':Nat}(I:Inv X pins σ H s)(hP:H P=some (.tbl ps))(k:∀ b u,b≠P->s.heap.get? b=some u->h'.get? b=some u)(hT:h'.get? P=some (PySem.W.tabObj (ps++more)))
  (hp:∀ b o,N b=some o->s.heap.objs.size<=b)(new:∀ b o,N b=some o->Cp X.prog X.w (Pc N (upd H P (.tbl (ps++more)))) h' b o):Inv X pins σ (Pc N (upd H P (.tbl (ps++more)))) { s with heap:=h',toks:=t' }:=by
 have hlt:P<s.heap.objs.size:=(I.hok P _ hP).lt;have hNP:N P=none:=by
  cases e:N P with
  | none=>rfl
  | some o=>exact absurd hlt (Nat.not_lt.mpr (hp P o e))
 have hn:∀ b o,N b=some o->H b=none:=fun b o e=>I.hok.fresh (hp b o e);have old:∀ b u,s.heap.get? b=some u->N b=none:=fun b u e=>by
  cases hN:N b with
  | none=>rfl
  | some o=>exact absurd (Heap.lt_size e) (Nat.not_lt.mpr (hp b o hN))
 have sm:∀ b o,b≠P->H b=some o->Pc N (upd H P (.tbl (ps++more))) b=some o:=fun b o hb e=>by
  have:N b=none:=by
   cases hN:N b with
   | none=>rfl
   | some u=>rw [hn b u hN] at e;cases e
  rw [Fm this,Ai hb];exact e
 have neP:∀ b,H b=none->b≠P:=fun b e z=>by rw [z,hP] at e;cases e
 refine I.un ⟨fun b u q n _ _=>k b u (neP b n) q,fun b u q n _ _=>⟨u.slots,k b u (neP b n) q⟩,fun b u q n _=>by rw [Fm (old b u q),Ai (neP b n)];exact n,fun b u q _=>?_,fun b xs q=>sm _ _ (fun z=>by rw [z,hP] at q;cases q) q,fun b u xs q=>sm _ _ (fun z=>by rw [z,hP] at q;cases q) q,fun b qs q=>?_⟩ fun b o e=>?_
 ·by_cases hb:b=P
  ·rw [hb];exact ⟨_,hT⟩
  ·exact ⟨u,k b u hb q⟩
 ·by_cases hb:b=P
  ·rw [hb,hP] at q
   cases q;exact ⟨more,by rw [hb,Fm hNP,Ab]⟩
  ·exact ⟨#[],by rw [sm b _ hb q];simp⟩
 ·cases hN:N b with
  | some u =>
   rw [Iv hN] at e;cases e;exact new b _ hN
  | none =>
   rw [Fm hN] at e
   by_cases hb:b=P
   ·rw [hb,Ab] at e
    cases e;rw [hb];exact hT
   ·rw [Ai hb] at e
    refine (I.hok b o e).stay (fun c v hc q=>k c v (fun z=>?_) q) (fun c q=>sm _ _ (fun z=>by rw [z,hP] at q;cases q) q) fun c xs q=>sm _ _ (fun z=>by rw [z,hP] at q;cases q) q;rcases hc with h | h
    ·exact hb (h▸z)
    ·rw [z,hP] at h;cases h
end
def K8 (P:Addr)(H H':Hp):Prop:=∀ b u,b≠P->H b=some u->H' b=some u
section
variable {X:Cx} {pins:List (Addr×Obj)} {σ:St} {H:Hp} {s:Shared} {M:Model} {A:Around} {E:Value->Shared->Prop} {Q:Value->Shared->Prop} {c P:Addr} {pos:Pos} {qual:Str} {params:Arguments} {body:Expr} {scope:Scope} {clos:List (Str×Addr)}
theorem Xh (I:Inv X pins σ H s)(T:Kb H P pos qual)(C:CodeHd X.base c P)(hb:X.base.BuiltinsAt X.mg P)(hcode:X.env.code=.ref c)(hcl:closureFor scope X.env=pure clos)(hdef:defaultsOf params X.env=([],[]))(hq:X.env.qual++"<lambda>"=qual)
  (h:∀ (f c':Addr) (oc:Obj) (pm ctv:Value) (s':Shared) (H':Hp),Inv X pins σ H' s'->Kb H' P pos qual->K8 P H H'->H f=none->H' f=some (.frz (kla_obj "<lambda>" qual params body scope clos pm c' ctv) (.own 0))->H' c'=some (.frz oc (.own 0))->Uw oc qual->Q (.ref f) s') :
  wpAny M A (eval (.Lambda params body scope pos) X.env) Q E s:=by
 obtain ⟨ps,hP,ht,hc⟩:=T;refine PySem.W.kla_eval hdef ?_;rw [hq];have hPs:s.heap.get? P=some (PySem.W.tabObj ps):=I.hok P _ hP;have hg:s.heap.Ns mainGlobals X.mg:=I.mod.glob.keeps I.bk;have hgP:mainGlobals≠P:=fun e=>by
  obtain ⟨o,es,ep,e1,d,_⟩:=I.mod.glob;have:=(I.bs _ _ e1).2;rw [e,hP] at this;cases this
 have hb':s.heap.BuiltinsAt X.mg P:=by
  obtain ⟨bm,o,a1,a2,a3,a4,a5,a6⟩:=hb;exact ⟨bm,o,a1,a2,a3,a4,I.bk _ _ a5,a6⟩
 rcases hc with hc | ⟨c',oc,hc,hc',ho⟩
 ·refine PySem.W.kla_makeFunction hcl I.ok.glob hg hcode (C.keeps I.bk) hPs ht hc hgP hb' fun c' ctv h' tk hx hge hlt hrec htb=>?_
  obtain ⟨c₂,oc,vs,t,e2,hoc,hd,hv⟩:=hrec;cases e2
  let fo:=kla_obj "<lambda>" qual params body scope clos ((X.mg "__name__").getD .none) c' ctv
  let N:Hp:=fun b=>if b=h'.objs.size then some (.frz fo (.own 0)) else if b=c' then some (.frz oc (.own 0)) else none
  have n1:N h'.objs.size=some (.frz fo (.own 0)):=if_pos rfl;have n2:N c'=some (.frz oc (.own 0)):=(if_neg (Nat.ne_of_lt hlt)).trans (if_pos rfl);have n3:∀ b o,N b=some o->(b=h'.objs.size/\o=.frz fo (.own 0))\/(b=c'/\o=.frz oc (.own 0)):=fun b o e=>by
   by_cases h1:b=h'.objs.size
   ·rw [h1,n1] at e;cases e;exact .inl ⟨h1,rfl⟩
   ·by_cases h2:b=c'
    ·rw [h2,n2] at e;cases e;exact .inr ⟨h2,rfl⟩
    ·have:N b=none:=(if_neg h1).trans (if_neg h2)
     rw [this] at e;cases e
  have hp:∀ b o,N b=some o->s.heap.objs.size<=b:=fun b o e=>by
   rcases n3 b o e with ⟨r,_⟩ | ⟨r,_⟩<;>rw [r]
   ·exact Nat.le_trans hge (Nat.le_of_lt hlt)
   ·exact hge
  have hNP:N P=none:=by
   cases e:N P with
   | none=>rfl
   | some o=>exact absurd (I.hok P _ hP).lt (Nat.not_lt.mpr (hp P o e))
  have gf:(h'.push fo).get? h'.objs.size=some fo:=Heap.get?_push_size _ rfl;have gc:(h'.push fo).get? c'=some oc:=Heap.get?_push_of_some _ hoc;have I':=Inv.grown (N:=N) (more:=#[PySem.rawInt pos.line,PySem.rawInt pos.col,.ref c']) (h':=h'.push fo) (t':=tk) I hP (fun b u hb e=>Heap.get?_push_of_some _ (hx b u hb e)) (Heap.get?_push_of_some _ htb) hp fun b o e=>by
   rcases n3 b o e with ⟨r,r'⟩ | ⟨r,r'⟩<;>rw [r,r']
   ·exact ⟨gf,_,gf⟩
   ·exact ⟨gc,_,gc⟩
  refine h _ c' oc _ ctv _ _ I' ⟨_,by rw [Fm hNP,Ab],?_,.inr ⟨c',oc,?_,Iv n2,vs,t,hd,hv⟩⟩ (fun b u hb e=>?_) (I.hok.fresh (hp _ _ n1)) (Iv n1) (Iv n2) ⟨vs,t,hd,hv⟩
  ·rw [Array.toList_append];exact TriplesOk_snoc _ _ _ _ ht
  ·rw [Array.toList_append];exact codeAmong_snoc _ ht hc
  ·have:N b=none:=by
    cases hN:N b with
    | none=>rfl
    | some o=>rw [I.hok.fresh (hp b o hN)] at e;cases e
   rw [Fm this,Ai hb];exact e
 ·refine PySem.W.kla_makeFunctionHit hcl I.ok.glob hg hcode (C.keeps I.bk) hPs ht hc hb' fun ctv h' tk hk hsz=>?_
  let fo:=kla_obj "<lambda>" qual params body scope clos ((X.mg "__name__").getD .none) c' ctv
  let N:Hp:=fun b=>if b=h'.objs.size then some (.frz fo (.own 0)) else none
  have n1:N h'.objs.size=some (.frz fo (.own 0)):=if_pos rfl;have n3:∀ b o,N b=some o->b=h'.objs.size/\o=.frz fo (.own 0):=fun b o e=>by
   by_cases h1:b=h'.objs.size
   ·rw [h1,n1] at e;cases e;exact ⟨h1,rfl⟩
   ·have:N b=none:=if_neg h1
    rw [this] at e;cases e
  have hp:∀ b o,N b=some o->s.heap.objs.size<=b:=fun b o e=>by rw [(n3 b o e).1];exact hsz
  have hn:∀ b u,H b=some u->N b=none:=fun b u e=>by
   cases hN:N b with
   | none=>rfl
   | some o=>rw [I.hok.fresh (hp b o hN)] at e;cases e
  have gf:(h'.push fo).get? h'.objs.size=some fo:=Heap.get?_push_size _ rfl;have I':=Inv.grown (N:=N) (more:=#[]) (h':=h'.push fo) (t':=tk) I hP (fun b u _ e=>Heap.get?_push_of_some _ (hk b u e)) (by rw [Array.append_empty];exact Heap.get?_push_of_some _ (hk _ _ hPs)) hp fun b o e=>by
   rw [(n3 b o e).1,(n3 b o e).2];exact ⟨gf,_,gf⟩
  rw [Array.append_empty] at I';have old:∀ b u,b≠P->H b=some u->Pc N (upd H P (.tbl ps)) b=some u:=fun b u hb e=>by rw [Fm (hn b u e),Ai hb];exact e
  have hcP:c'≠P:=D8 hc' hP (by intro q;cases q);exact h _ c' oc _ ctv _ _ I' ⟨ps,by rw [Fm (hn P _ hP),Ab],ht,.inr ⟨c',oc,hc,old _ _ hcP hc',ho⟩⟩ old (I.hok.fresh (hp _ _ n1)) (Iv n1) (old _ _ hcP hc') ho
end
section
variable {prog:Program} {w:World} {A:Around} {R:Result->Shared->Prop} {s:Shared}
theorem kJ {f c' c a:Addr}{qual k d:Str}{params:Arguments}{scope:Scope}{cl:List (Str×Addr)}{pm ctv u v:Value}{pk pd pp:Pos}{its:Array Value}{i:Int}{ti:Tok}
  (ho:s.heap.get? f=some (kla_obj "<lambda>" qual params (.Subscript (.Name d pd) (.Name k pk) pp) scope cl pm c' ctv))(hcd:s.heap.CodeRec (.ref c') qual)(hroom:A.depth<recursionLimit)(hlim:s.heap.NoLimit)
  (hbind:bindArgs (kla_fn "<lambda>" qual params (.Subscript (.Name d pd) (.Name k pk) pp) scope cl pm (.ref c') ctv) ⟨[.int i ti],[]⟩=pure [(k,.int i ti)])
  (hk:scope.kind=.function)(hco:scope.isCoroutine=false)(hgen:scope.isGenerator=false)(lk:scope.names.lookup k=some .local)(ld:scope.names.lookup d=some .free)(hcell:∀ x∈scope.names,x.2≠.cell)(hcl:cl.lookup d=some c)
  (hd:(d==("__classdict__":Str))=false)(nk:(k==("__debug__":Str))=false)(nd:(d==("__debug__":Str))=false)
  (hcv:s.heap.IsCell c (some (.ref a)))(hl:s.heap.IsList a its)(h0:0<=i)(hfit:i<2 ^ 63)(hv:its[i.toNat]?=some v)
  (h:∀ (h':Heap) (tk:Tok),(∀ b o,s.heap.get? b=some o->h'.get? b=some o)->R (.ok (.ret v)) { s with heap:=h',toks:=tk }) :
  codeAny (model prog w) A (.call (.ref f) ⟨[.int i ti],[]⟩) R s:=by
 refine PySem.W.kla_callFunE hroom ho rfl hco hgen rfl hcd ?_;rw [hbind];refine wpAny_pure (wpAny_newFunctionEnv hcell (fun y hy=>by cases List.mem_singleton.mp hy;exact lk) (fun h₁ hns hsb=>⟨hlim.fresh _ hsb,?_⟩) hk);have hk₁:∀ b o,s.heap.get? b=some o->h₁.get? b=some o:=fun b o e=>hsb.extBut b o (Nat.ne_of_lt (Heap.lt_size e)) (Heap.get?_push_of_some _ e);refine PySem.W.kla_codeExpr (Subscript_ (wpAny_Name (wpAny_loadName_free hk ld hcl (hcv.keeps hk₁) (wpAny_Name (wpAny_loadName_local hk lk hns (v:=.int i ti) (by simp) (item_listR (let ⟨o,e,r⟩:=hl;⟨o,hk₁ _ _ e,r⟩) h0 hfit hv (h h₁ _ hk₁))) nk) hd) nd))
end
open PySem.W
def ltK (x y:Keyed):Bool:=decide (numOf x.1<numOf y.1)
def Q4 (x y:Int×Value):Bool:=decide (x.1<y.1)
theorem cR:Swo ltK:=by
 refine ⟨fun a=>by simp [ltK],fun a b c h1 h2=>?_,fun a b c h1=>?_⟩
 ·simp only [ltK,decide_eq_true_eq] at h1 h2 ⊢;omega
 ·simp only [ltK,decide_eq_true_eq] at h1 ⊢;omega
section
variable {prog:Program} {w:World} {A:Around} {E:Value->Shared->Prop} {s:Shared}
theorem Tn:Y5 prog w A E s oneType' (fun x=>∃ n t,x.1=Value.int n t) ltK:=by
 intro x y st Q hx hy hk h;obtain ⟨x1,x2⟩:=x;obtain ⟨y1,y2⟩:=y;obtain ⟨a,t,e1⟩:=hx;obtain ⟨b,u,e2⟩:=hy;dsimp only at e1 e2;subst e1 e2;rw [lt'_eq];refine wpS_bind (wpS_get ?_);rw [hk];refine wpS_bind (wpS_lift (wpAny_attempt ?_));exact kat_lt_int ⟨rfl,wpS_pure h⟩
theorem oE {keys:Array Value}{vs:List Value}{kz:List Int}(hk:IntsAre keys.toList kz):(As ltK (keys.zip vs.toArray).toList).map (·.2)=(As Q4 (kz.zip vs)).map (·.2):=by
 have e2:(keys.toList.zip vs).map (fun p:Keyed=>(numOf p.1,p.2))=kz.zip vs:=by
  rw [<- hk.nums,List.zip_map_left];exact List.map_congr_left fun ⟨x,y⟩ _=>rfl
 rw [<- e2,Kp (lt:=ltK) (f:=fun p:Keyed=>(numOf p.1,p.2)) (fun _ _=>rfl),List.map_map,ksk_zip];rfl
theorem Xo {a kS:Addr}{vs:List Value}{kz:List Int}{keys:Array Value}{e e1:Nat}{st:SortSt}{P:PySem.Fin->Shared->Prop}(gk:s.heap.get? kS=some (seqObj "list" keys e))(ga:s.heap.get? a=some (seqObj "list" #[] e1))(hka:kS≠a)
  (hk:IntsAre keys.toList kz)(hlen:kz.length=vs.length)(hz:vs.length<=sizeLine)(hs:(arrOf st).toList=As ltK (keys.zip vs.toArray).toList)(hfl:failedOf st=none)
  (h:∀ h' out c,(∀ b o,b≠a->b≠kS->s.heap.get? b=some o->h'.get? b=some o)->h'.get? a=some (seqObj "list" out c)->out.toList=(As Q4 (kz.zip vs)).map (·.2)->P (.done (.ret .none)) { s with heap:=h' }) :
  wpAny (model prog w) A (ksk_tail a false e1 (.ref kS) st) P E s:=by
 have hsz:keys.size=vs.length:=by
  have h1:=hk.length;rw [Array.length_toList] at h1;omega
 have s1:=Heap.SameBut.update s.heap kS (Obj.mapSeq fun _=>(#[]:Array Value));have na1:(s.heap.update kS (Obj.mapSeq fun _=>(#[]:Array Value))).get? a=some (seqObj "list" #[] e1):=(s1.2 a hka.symm).trans ga;have s2:=Heap.SameBut.update (s.heap.update kS (Obj.mapSeq fun _=>(#[]:Array Value))) a (Obj.mapSeq fun _=>(arrOf st).map (·.2));obtain ⟨c2,hc2⟩:∃ c2,((s.heap.update kS (Obj.mapSeq fun _=>(#[]:Array Value))).update a (Obj.mapSeq fun _=>(arrOf st).map (·.2))).get? a=some (seqObj "list" ((arrOf st).map (·.2)) c2):=⟨_,get?_update_seq na1 fun _=>(arrOf st).map (·.2)⟩;have eo:((arrOf st).map (·.2)).toList=(As Q4 (kz.zip vs)).map (·.2):=by
  rw [Array.toList_map,hs,oE hk]
 have so:((arrOf st).map (·.2)).size<=sizeLine+1:=by
  rw [<- Array.length_toList,eo,List.length_map,Cz,List.length_zip];omega
 unfold ksk_tail
 try dsimp only
 refine wpAny_bind (listUpdate_at gk rfl ?_ (by rw [hsz];exact hz) (Nat.zero_le _));refine wpAny_bind (wpAny_letGo ?_);refine wpAny_bind (seqEpoch_at na1 rfl ?_);simp only [Bool.false_eq_true,if_false];refine wpAny_bind (listUpdate_at na1 rfl ?_ (Nat.zero_le _) so);rw [hfl];simp only [bne_self_eq_false,Bool.false_eq_true,if_false];exact wpAny_pure (h _ _ c2 (fun b o h1 h2 q=>(s2.2 b h1).trans ((s1.2 b h2).trans q)) hc2 eo)
theorem pw_short {α:Type}{R:α->α->Prop}{l:List α}(h:l.length<2):l.Pairwise R:=match l,h with
 | [],_=>.nil
 | [x],_=>List.pairwise_singleton _ _
theorem nM {a kS:Addr}{vs:List Value}{kz:List Int}{keys:Array Value}{e e1:Nat}{P:PySem.Fin->Shared->Prop}(gk:s.heap.get? kS=some (seqObj "list" keys e))(ga:s.heap.get? a=some (seqObj "list" #[] e1))(hka:kS≠a)
  (hk:IntsAre keys.toList kz)(hlen:kz.length=vs.length)(hz:vs.length<=sizeLine)
  (h:∀ h' out c,(∀ b o,b≠a->b≠kS->s.heap.get? b=some o->h'.get? b=some o)->h'.get? a=some (seqObj "list" out c)->out.toList=(As Q4 (kz.zip vs)).map (·.2)->P (.done (.ret .none)) { s with heap:=h' }) :
  wpAny (model prog w) A (ksk_end a false vs.toArray e1 (.ref kS) keys) P E s:=by
 have hsz:keys.size=vs.length:=by
  have h1:=hk.length;rw [Array.length_toList] at h1;omega
 have hzs:(keys.zip vs.toArray).size=vs.length:=by rw [Array.size_zip,hsz,List.size_toArray,Nat.min_self]
 unfold ksk_end
 try dsimp only
 simp only [Bool.false_eq_true,if_false]
 by_cases h2:vs.toArray.size<2
 ·rw [if_pos h2,if_pos h2]
  refine wpAny_bind (wpAny_pure ?_);rw [StateT.run_pure];refine wpAny_bind (wpAny_pure ?_)
  try dsimp only
  refine Xo (st:=SortSt.mk' general' (keys.zip vs.toArray) #[] 7 none) gk ga hka hk hlen hz ?_ rfl h;show (keys.zip vs.toArray).toList=_;refine (Hc ?_).symm;have hl:(keys.zip vs.toArray).toList.length<2:=by rw [Array.length_toList,hzs];rw [List.size_toArray] at h2;exact h2
  exact pw_short hl
 ·rw [if_neg h2,if_neg h2]
  rw [List.size_toArray] at h2;rw [ksk_kind hk (by rw [hsz];omega)];refine wpAny_bind (wpAny_pure ?_);refine wpAny_bind (wpAny_mono (Lb (P:=fun x=>∃ n t,x.1=Value.int n t) Tn cR (l0:=(keys.zip vs.toArray).toList) (st:=SortSt.mk' oneType' (keys.zip vs.toArray) #[] 7 none)
   (Q:=fun _ st'=>failedOf st'=none/\(arrOf st').toList=As ltK (keys.zip vs.toArray).toList) rfl rfl rfl rfl (fun x hx=>?_) (by rw [Array.length_toList,hzs];omega) fun st' a1 a2=>⟨a1,a2⟩) ?_ fun _ _ e=>e)
  ·rw [ksk_zip] at hx
   obtain ⟨x,y⟩:=x;exact hk.all _ (List.of_mem_zip hx).1
  rintro ⟨⟨⟩,st'⟩ s' ⟨rfl,hf,hs⟩
  try dsimp only
  exact Xo gk ga hka hk hlen hz hs hf h
end
section
variable {prog:Program} {w:World} {A:Around} {E:Value->Shared->Prop} {s:Shared}
def Kk (a:Addr)(h h':Heap):Prop:=∀ b o,b≠a->h.get? b=some o->h'.get? b=some o
theorem lN {a kS:Addr}{vs:List Value}{kz:List Int}{f:Value}{e1:Nat}{s₀:Shared}{P:PySem.Fin->Shared->Prop}(gk:s.heap.get? kS=some (seqObj "list" #[] 0))(ga:s.heap.get? a=some (seqObj "list" #[] e1))(hka:kS≠a)(hn:s₀.heap.get? kS=none)
    (keep : Kk a s₀.heap s.heap)(hlen : kz.length = vs.length)(hz : vs.length <= sizeLine)
    (turn : ∀ (i : Nat) (v : Value) (k : Int), vs[i]? = some v->kz[i]? = some k->∀ (h : Heap) (tk : Nat) (Q : Value->Shared->Prop), Kk a s₀.heap h ->
      (∀ t h' tk', (∀ b o, h.get? b = some o->h'.get? b = some o)->Q (.int k t) { s with heap := h', toks := tk' })->wpAny (model prog w) A (call f [v]) Q (fun _ _ => False) { s with heap := h, toks := tk })
    (h : ∀ h' tk out c, Kk a s₀.heap h'->h'.get? a = some (seqObj "list" out c)->out.toList = (As Q4 (kz.zip vs)).map (·.2)->P (.done (.ret .none)) { s with heap := h', toks := tk }) :
    wpAny (model prog w) A (ksk_rest a f false vs.toArray e1 (.ref kS)) P E s := by
  unfold ksk_rest;refine wpAny_bind (wpAny_rule ?_)
  first
    | rw [List.forIn_toArray]
    | (rw [<- Array.forIn_toList]; simp only [List.toList_toArray])
    | rw [<- Array.forIn_toList]
  refine wpAny_bind (ksk_fold (fun i s' => ∃ h' tk kA e, s' = { s with heap := h', toks := tk }/\Kk a s₀.heap h'/\h'.get? kS = some (seqObj "list" kA e)/\h'.get? a = some (seqObj "list" #[] e1)/\IntsAre kA.toList (kz.take i)) vs 0 s
    ⟨s.heap, s.toks, #[], 0, rfl, keep, gk, ga, by simpa using IntsAre.nil⟩ ?step ?done)
  case step =>
    rintro j x s' hx ⟨h', tk, kA, e, rfl, K', gk', ga', hk⟩;simp only [Nat.zero_add] at hk ⊢;have hj : j < vs.length := (List.getElem?_eq_some_iff.mp hx).1;obtain ⟨k, hkj⟩ : ∃ k, kz[j]? = some k := ⟨_, List.getElem?_eq_getElem (by omega)⟩;have hz2 : kA.size < vs.length := by
      have h1 := hk.length;rw [Array.length_toList, List.length_take] at h1;omega
    refine wpAny_bind (wpAny_attempt (wpAny_mono (turn j x k hx hkj h' tk (fun v s'' => ∃ (t : Tok) (g : Heap) (tk2 : Nat), v = .int k t/\s'' = { s with heap := g, toks := tk2 }/\∀ b o, h'.get? b = some o->g.get? b = some o) K' fun t2 g tk2 kg => ⟨t2, g, tk2, rfl, rfl, kg⟩) (fun v s'' he => ?_) fun _ _ hF => hF.elim));obtain ⟨t2, g, tk2, rfl, rfl, kg⟩ := he
    try dsimp only
    have s1 := Heap.SameBut.update g kS (Obj.mapSeq (·.push (.int k t2)));obtain ⟨c2, hc2⟩ : ∃ c2, (g.update kS (Obj.mapSeq (·.push (.int k t2)))).get? kS = some (seqObj "list" (kA.push (.int k t2)) c2) := ⟨_, get?_update_seq (kg _ _ gk') (·.push (.int k t2))⟩;have ek : kz.take (j + 1) = kz.take j ++ [k] := by rw [List.take_add_one, hkj]; simp
    have ea : (kA.push (Value.int k t2)).toList = kA.toList ++ [Value.int k t2] := by simp
    refine wpAny_bind (listUpdate_at (kg _ _ gk') rfl ?_ (by omega) (Nat.le_trans (Nat.le_of_eq (Array.size_push ..)) (by omega)));exact wpAny_pure ⟨rfl, _, _, kA.push (.int k t2), c2, rfl, fun b o hb q => (s1.2 b (fun z => by rw [z, hn] at q; cases q)).trans (kg _ _ (K' b o hb q)), hc2, (s1.2 a hka.symm).trans (kg _ _ ga'), by rw [ea, ek]; exact ksk_snoc hk⟩
  case done =>
    rintro s' ⟨h', tk, kA, e, rfl, K', gk', ga', hk⟩;have hk' : IntsAre kA.toList kz := by
      have e3 : kz.take (0 + vs.length) = kz := List.take_of_length_le (by omega);rw [e3] at hk;exact hk
    try dsimp only
    refine wpAny_bind (listItems_at gk' rfl ?_);exact nM gk' ga' hka hk' hlen hz fun h3 out c k3 g3 e3 => h h3 tk out c (fun b o hb q => k3 b o hb (fun z => by rw [z, hn] at q; cases q) (K' b o hb q)) g3 e3
theorem jW {a:Addr}{vs:List Value}{kz:List Int}{f:Value}{n:Nat}{P:PySem.Fin->Shared->Prop}(ho:s.heap.get? a=some (seqObj "list" vs.toArray n))(hlen:kz.length=vs.length)(hz:vs.length<=sizeLine)
  (turn:∀ (i:Nat) (v:Value) (k:Int),vs[i]?=some v->kz[i]?=some k->∀ (h:Heap) (tk:Nat) (Q:Value->Shared->Prop),Kk a s.heap h ->
   (∀ t h' tk',(∀ b o,h.get? b=some o->h'.get? b=some o)->Q (.int k t) { s with heap:=h',toks:=tk' })->wpAny (model prog w) A (call f [v]) Q (fun _ _=>False) { s with heap:=h,toks:=tk })
  (h:∀ h' tk out c,Kk a s.heap h'->h'.get? a=some (seqObj "list" out c)->out.toList=(As Q4 (kz.zip vs)).map (·.2)->P (.done (.ret .none)) { s with heap:=h',toks:=tk }) :
  wpAny (model prog w) A (ksk_tree a f false) P E s:=by
 have ha:a<s.heap.objs.size:=Heap.lt_size ho;have s1:=Heap.SameBut.update s.heap a (Obj.mapSeq fun _=>(#[]:Array Value));obtain ⟨e1,ho1⟩:∃ e1,(s.heap.update a (Obj.mapSeq fun _=>(#[]:Array Value))).get? a=some (seqObj "list" #[] e1):=⟨_,get?_update_seq ho fun _=>#[]⟩;have hkS:((s.heap.update a (Obj.mapSeq fun _=>(#[]:Array Value))).push (seqObj "tuple" vs.toArray 0)).objs.size=s.heap.objs.size+1:=by rw [size_push',Heap.size_update]
 unfold ksk_tree;refine wpAny_bind (listItems_at ho rfl ?_);refine wpAny_bind (listUpdate_at ho rfl ?_ (by simpa using hz) (Nat.zero_le _));refine wpAny_bind (seqEpoch_at ho1 rfl ?_);refine wpAny_bind (wpAny_newTuple ?_ (by show vs.length<=_;exact hz));refine wpAny_bind (wpAny_newList ?_ (Nat.zero_le _));refine wpAny_holding ?_;exact lN (s₀:=s) (s:={ s with heap:=((s.heap.update a (Obj.mapSeq fun _=>(#[]:Array Value))).push (seqObj "tuple" vs.toArray 0)).push (seqObj "list" #[] 0) }) (kS:=((s.heap.update a (Obj.mapSeq fun _=>(#[]:Array Value))).push (seqObj "tuple" vs.toArray 0)).objs.size)
  (Heap.get?_push_size _ rfl) (Heap.get?_push_of_some _ (Heap.get?_push_of_some _ ho1)) (by rw [hkS];exact Nat.ne_of_gt (Nat.lt_succ_of_lt ha)) (by rw [hkS];exact Heap.get?_none_of_le (Nat.le_succ _))
  (fun b o hb q=>Heap.get?_push_of_some _ (Heap.get?_push_of_some _ ((s1.2 b hb).trans q))) hlen hz turn h
end
section
variable {prog:Program} {w:World} {A:Around} {s:Shared}
theorem Xz {l:Addr}{vs:List Value}(hl:s.heap.IsList l vs.toArray)(hz:vs.length<=sizeLine)(E':Value->Shared->Prop)(Q':List Value->Shared->Prop)
  (h:∀ h' tk,(∀ b o,s.heap.get? b=some o->h'.get? b=some o)->s.heap.objs.size<=h'.objs.size->Q' vs { s with heap:=h',toks:=tk }):wpAny (model prog w) A (collect (.ref l)) Q' E' s:=by
 refine collect_list hl (h _ s.toks (fun b o q=>?_) (by rw [Heap.size_update,size_push'];exact Nat.le_succ _)) hz;have hlt:b<s.heap.objs.size:=Heap.lt_size q;rw [Heap.get?_update_ne _ _ _ _ (Nat.ne_of_lt hlt),Heap.get?_push_ne _ _ _ (Nat.ne_of_lt hlt)];exact q
end
theorem Pi:∀ {us:List Value} {ns:List Int},us.length=ns.length->(∀ (i:Nat) u n,us[i]?=some u->ns[i]?=some n->∃ t,u=.int n t)->IntsAre us ns
 | [],[],_,_=>.nil
 | u::us,n::ns,hl,h=>by
  obtain ⟨t,rfl⟩:=h 0 u n rfl rfl;exact .cons n t (Pi (Nat.succ.inj hl) fun i v m e1 e2=>h (i+1) v m e1 e2)
theorem Kv:∀ {us:List Value} {ns:List Int},Az (ns.map V.int) us->IntsAre us ns
 | [],[],_=>.nil
 | _::_,[],h=>by cases h
 | [],_::_,h=>by cases h
 | u::us,n::ns,h=>by
  cases h with
  | cons h1 h2=>obtain ⟨t,rfl⟩:=h1;exact .cons n t (Kv h2)
def ltI (x y:Int×Int):Bool:=decide (x.1<y.1)
def Dt (kz ns:List Int):List Int:=(As ltI (kz.zip ns)).map (·.2)
theorem J8:∀ l:List Value,(∀ v∈l,∃ n t,v=Value.int n t)->IntsAre l (l.map numOf)
 | [],_=>.nil
 | v::l,h=>by
  obtain ⟨n,t,rfl⟩:=h _ (List.mem_cons_self ..);exact .cons n t (J8 l fun u hu=>h u (List.mem_cons_of_mem _ hu))
theorem iP {vs:List Value}{ns kz:List Int}(h:IntsAre vs ns):IntsAre ((As Q4 (kz.zip vs)).map (·.2)) (Dt kz ns):=by
 have e1:(As Q4 (kz.zip vs)).map (fun p:Int×Value=>(p.1,numOf p.2))=As ltI (kz.zip ns):=by
  rw [<- Kp (f:=fun p:Int×Value=>(p.1,numOf p.2)) (lt:=Q4) (lt':=ltI) (fun _ _=>rfl)];congr 1;rw [<- h.nums,List.zip_map_right];exact List.map_congr_left fun ⟨x,y⟩ _=>rfl
 have e2:Dt kz ns=((As Q4 (kz.zip vs)).map (·.2)).map numOf:=by
  unfold Dt;rw [<- e1,List.map_map,List.map_map];rfl
 rw [e2];refine J8 _ fun v hv=>?_;obtain ⟨p,hp,rfl⟩:=List.mem_map.mp hv;have:=(Cn (lt:=Q4) (kz.zip vs)).mem_iff.mp hp;obtain ⟨x,y⟩:=p;exact h.all _ (List.of_mem_zip this).2
section
variable {prog:Program} {w:World} {A:Around} {E:Value->Shared->Prop} {s:Shared}
theorem eK {r:Addr}{n:Nat}{t u v:Tok}(hh:A.handled=none)(hr:IsRange s.heap r 0 n 1 t u v)(hn:n<=100000)(E':Value->Shared->Prop)(Q':List Value->Shared->Prop)
  (h:∀ vs h' tk,IntsAre vs ((List.range n).map fun i:Nat=>(i:Int))->(∀ b o,s.heap.get? b=some o->h'.get? b=some o)->s.heap.objs.size<=h'.objs.size->Q' vs { s with heap:=h',toks:=tk }):wpAny (model prog w) A (collect (.ref r)) Q' E' s:=by
 have e2:Builtin.Range.rangeSize 0 (n:Int) 1=n:=by rw [rangeSize_one];split<;>omega
 have key:∀ R:Result->Shared->Prop,(∀ (h':Heap) (tk:Nat) (acc':Array Value) (c':Nat),(∀ b o,s.heap.get? b=some o->h'.get? b=some o)->h'.get? s.heap.objs.size=some { cls:=.type "list",dict:=none,data:=.seq acc' c',slots:=#[] } ->
   ItemsOf (fun i v=>∃ t,v=.int (0+(i:Int)*1) t) acc' n->R (.ok (.ret (.ref s.heap.objs.size))) { s with heap:=h',toks:=tk })->codeAny (model prog w) A (.builtin "proto.collect" ⟨[.ref r],[]⟩) R s:=fun R hR=>by
  refine codeAny_builtin F.entry_proto_collect ?_;rw [Around.under_plainId F.plain_proto_collect _];show wpAny _ A.in1 (newList [] >>= fun l=>again (.builtin "list.__iadd__" ⟨[l,.ref r],[]⟩)) _ _ s;refine wpAny_bind (wpAny_newObj_type ?_);refine wpAny_pure ⟨plainId_quiet F.plain_list_iadd _,codeAny_builtin F.entry_list_iadd ?_⟩;rw [Around.under_plainId F.plain_list_iadd _];have hS₁:(s.heap.push { cls:=.type "list",data:=.seq ([]:List Value).toArray }).get? s.heap.objs.size=some { cls:=.type "list",data:=.seq ([]:List Value).toArray }:=Heap.get?_push_size _ rfl;show wpAny _ A.in1 (Builtin.List.listExtendWith (.ref s.heap.objs.size) (.ref r) (.ref s.heap.objs.size)) _ _ _;exact wpAny_extend_range (R:=R) (s:={ s with heap:=s.heap.push { cls:=.type "list",data:=.seq ([]:List Value).toArray } }) hh (Heap.get?_push_of_some _ hr) (small_one (by omega) (by omega) (by omega) (by omega)) e2 (by omega) _ _ _ hS₁ fun h' tk acc' c' hk hS' hacc =>
   hR h' tk acc' c' (fun b o q=>hk b o (Nat.ne_of_lt (Heap.lt_size q)) (Heap.get?_push_of_some _ q)) hS' hacc
 unfold collect;refine wpAny_bind (wpAny_runValue (key _ fun h' tk acc' c' hk hS' hacc=>?_));show wpAny _ A (load s.heap.objs.size >>= _) _ _ _;refine wpAny_bind (wpAny_load hS' ?_);refine wpAny_pure (h _ h' tk ?_ hk (Nat.le_of_lt (Heap.lt_size hS')));refine Pi (by rw [List.length_map,List.length_range,Array.length_toList,hacc.1]) fun i x y e1 e3=>?_;have hi:i<n:=by have:=(List.getElem?_eq_some_iff.mp e3).1;simpa using this
 rw [List.getElem?_map,List.getElem?_range hi] at e3;cases e3;have e4:acc'[i]?=some x:=by rw [<- Array.getElem?_toList];exact e1
 obtain ⟨t,e5⟩:=hacc.2 i x e4;exact ⟨t,by rw [e5];simp⟩
theorem Yk {arg:Value}{ns kz:List Int}{q:Addr}{Q:Value->Shared->Prop}(hlen:kz.length=ns.length)(hz:ns.length<=sizeLine)
  (hcol:∀ (E':Value->Shared->Prop) (Q':List Value->Shared->Prop),(∀ vs h' tk,IntsAre vs ns->(∀ b o,s.heap.get? b=some o->h'.get? b=some o)->s.heap.objs.size<=h'.objs.size->Q' vs { s with heap:=h',toks:=tk })->wpAny (model prog w) A.in1 (collect arg) Q' E' s)
  (turn:∀ (i:Nat) (n k:Int) (t:Tok),ns[i]?=some n->kz[i]?=some k->∀ (h:Heap) (tk:Nat) (Q:Value->Shared->Prop),(∀ b o,s.heap.get? b=some o->h.get? b=some o) ->
   (∀ t h' tk',(∀ b o,h.get? b=some o->h'.get? b=some o)->Q (.int k t) { s with heap:=h',toks:=tk' })->wpAny (model prog w) A.in1.in1 (call (.ref q) [.int n t]) Q (fun _ _=>False) { s with heap:=h,toks:=tk })
  (h:∀ D h' tk out c,s.heap.objs.size<=D->(∀ b o,s.heap.get? b=some o->h'.get? b=some o)->h'.get? D=some (seqObj "list" out c)->IntsAre out.toList (Dt kz ns)->Q (.ref D) { s with heap:=h',toks:=tk }) :
  wpAny (model prog w) A (call (.builtin "sorted") [arg] [(Str.ofString "key",.ref q)]) Q E s:=by
 refine call_function_entry_kw kind_sorted plain_sorted entry_sorted (ksk_s1 _ _) ?_;unfold Builtin.«sorted»;refine wpAny_bind (m:=checkCount "sorted" 1 1 _) (wpAny_pure ?_);refine wpAny_bind (hcol _ _ fun vs h1 tk1 hI k1 z1=>?_);have hlv:vs.length=ns.length:=hI.length;refine wpAny_bind (wpAny_newList ?_ (by rw [hlv];exact hz));have hoL:(h1.push (seqObj "list" vs.toArray 0)).get? h1.objs.size=some (seqObj "list" vs.toArray 0):=Heap.get?_push_size _ rfl;have keep:∀ b o,s.heap.get? b=some o->(h1.push (seqObj "list" vs.toArray 0)).get? b=some o:=fun b o q=>Heap.get?_push_of_some _ (k1 b o q);have nD:∀ b o,s.heap.get? b=some o->b≠h1.objs.size:=fun b o q=>Nat.ne_of_lt (Nat.lt_of_lt_of_le (Heap.lt_size q) z1);show wpAny _ _ _ _ _ { s with heap:=h1.push (seqObj "list" vs.toArray 0),toks:=tk1 };refine wpAny_bind (wpAny_holding (wpAny_call_entry_kw slot_list_sort ⟨_,hoL,rfl⟩ entry_list_sort ?body (ksk_l1 _ _)))
 case body =>
  show wpAny (model prog w) A.in1.in1 (Builtin.«list.sort» ⟨[.ref h1.objs.size],[(Str.ofString "key",.ref q)]⟩) _ _ _;rw [ksk_t1];refine jW (kz:=kz) (s:={ s with heap:=h1.push (seqObj "list" vs.toArray 0),toks:=tk1 }) hoL (by rw [hlv];exact hlen) (by rw [hlv];exact hz) (fun i v k e1 e2 h2 tk Q2 kb q2=>?_) fun h2 tk out c kb g e=>?_
  ·obtain ⟨n,t,rfl,e3⟩:=hI.at i v e1
   exact turn i n k t e3 e2 h2 tk Q2 (fun b o q=>kb b o (nD b o q) (keep b o q)) q2
  ·exact ⟨_,rfl,wpAny_pure ⟨_,rfl,h _ h2 tk out c z1 (fun b o q=>kb b o (nD b o q) (keep b o q)) g (by rw [e];exact iP hI)⟩⟩
end
abbrev Vq (k:Str)(pa:Pos):Arguments:={ posonlyargs:=[],args:=[{ arg:=k,annotation:=none,pos:=pa }],vararg:=none,kwonlyargs:=[],kw_defaults:=[],kwarg:=none,defaults:=[] }
abbrev Mh (k d:Str):Scope:={ kind:=.function,names:=[(k,.local),(d,.free)],isGenerator:=false,isCoroutine:=false,more:=[] }
abbrev Vt (k d:Str)(pd pk pp:Pos):Expr:=.Subscript (.Name d pd) (.Name k pk) pp
section
variable {X:Cx}
def qL (ta:TA):TE:=fun σ H Q=>ta σ H fun vs H1=>∃ j:Nat,vs=[.int j]/\j<=100000/\∀ p,H1 p=none->Q (.ref p) (upd H1 p (.rng 0 j))
theorem nL {a:Expr}{ta:TA}{q pos2:Pos}(hg2:Gl X "range")(hm2:X.mg "range"=none)(ha:PA X [a] ta)(hs:starEach [a] X.env=[(false,eval a X.env)]:=by rfl) :
  PE X (.Call (.Name "range" q) [a] [] pos2) (qL ta):=by
 intro pins s σ H Q I h;refine wpAny_Call_Name_kw (Dq I hg2 hm2 boot_range (PyProof.Rows.callWith_type1 (thn (ha pos2 pins s σ H _ I h) fun us s1 ⟨vs,H1,I1,r1,q1⟩=>?_) hs rfl) (by decide) (by decide));obtain ⟨j,e,hj,q⟩:=q1;subst e;obtain ⟨u,rfl,t,rfl⟩:=E7 r1;refine call_range_1 ?_;exact ⟨.ref _,_,I1.laid (o:=.rng 0 j) (fun b o e=>Heap.get?_push_of_some _ e) (Nat.le_refl _) ⟨_,_,_,Heap.get?_push_size _ rfl⟩,rfl,q _ (I1.hok.fresh (Nat.le_refl _))⟩
theorem rV {σ:St}{H:Hp}{Q:VK}{ta:TA}(h:ta σ H fun vs H1=>∃ j:Nat,vs=[.int j]/\j<=100000/\∀ p,H1 p=none->Q (.ref p) (upd H1 p (.rng 0 j))):qL ta σ H Q:=h
def Bx (n:Nat):List Int:=(List.range n).map fun j:Nat=>(j:Int)
def jF (P:Addr)(lpos:Pos)(qual:Str)(i:Nat)(ta:TE):TE:=fun σ H Q=>ta σ H fun x H1=>∃ r l ds,x=.ref r/\σ[i]?=some (some (.ref l))/\H1 l=some (.lst (ds.map V.int))/\ds.length<=100000 /\
 (H1 r=some (.lst ((Bx ds.length).map V.int))\/H1 r=some (.rng 0 ds.length))/\Kb H1 P lpos qual /\
 ∀ p H',K8 P H1 H'->Kb H' P lpos qual->H1 p=none->H' p=some (.lst ((Dt ds (Bx ds.length)).map V.int))->Q (.ref p) H'
theorem oS {P:Addr}{lpos:Pos}{qual:Str}{i:Nat}{ta:TE}{σ:St}{H:Hp}{Q:VK}(h:ta σ H fun x H1=>∃ r l ds,x=.ref r/\σ[i]?=some (some (.ref l))/\H1 l=some (.lst (ds.map V.int))/\ds.length<=100000 /\
 (H1 r=some (.lst ((Bx ds.length).map V.int))\/H1 r=some (.rng 0 ds.length))/\Kb H1 P lpos qual /\
 ∀ p H',K8 P H1 H'->Kb H' P lpos qual->H1 p=none->H' p=some (.lst ((Dt ds (Bx ds.length)).map V.int))->Q (.ref p) H'):jF P lpos qual i ta σ H Q:=h
theorem Wq {a:Expr}{ta:TE}{p pos pa pd pk pp lpos kpos:Pos}{d k qual:Str}{i:Nat}{c P cl:Addr}(hcal:X.calm=true)(hr:Cr 1 X.A)(hg:Gl X "sorted")(hm:X.mg "sorted"=none)(ha:PE X a ta)
  (C:CodeHd X.base c P)(hb:X.base.BuiltinsAt X.mg P)(hcode:X.env.code=.ref c)(hN:X.N[i]?=some d)(hkd:X.env.scope.names.lookup d=some .cell)(hce:X.env.cells.lookup d=some cl)
  (hcl:closureFor (Mh k d) X.env=pure [(d,cl)])(hq:X.env.qual++"<lambda>"=qual)
  (hbind:∀ (pm cv ctv:Value) (n:Int) (t:Tok),bindArgs (kla_fn "<lambda>" qual (Vq k pa) (Vt k d pd pk pp) (Mh k d) [(d,cl)] pm cv ctv) ⟨[.int n t],[]⟩=pure [(k,.int n t)])(hs:starEach [a] X.env=[(false,eval a X.env)]:=by rfl)
  (ek:(d==k)=false:=by decide)(hd:(d==("__classdict__":Str))=false:=by decide)(nk:(k==("__debug__":Str))=false:=by decide)(nd:(d==("__debug__":Str))=false:=by decide) :
  PE X (.Call (.Name "sorted" p) [a] [⟨some "key",.Lambda (Vq k pa) (Vt k d pd pk pp) (Mh k d) lpos,kpos⟩] pos) (jF P lpos qual i ta):=by
 intro pins s σ H Q I h;refine wpAny_Call_Name_kw (Dq I hg hm Pp (callWith_kw ?_ (by rw [hs];rfl) (by rw [hs];rfl) rfl rfl) (by decide) (by decide));rw [hs];refine Calls.spliced_cons ?_;show wpAny _ _ (eval a X.env) _ _ _;refine thn (ha pins s σ H _ I h) fun v s1 ⟨x,H1,I1,r1,r,l,ds,ex,hσ,hl,hz,hrr,hT,q⟩=>?_;subst ex;obtain rfl:v=Value.ref r:=r1;refine Calls.spliced_nil ?_;show wpAny _ _ (evalAll [(do let v <- eval (.Lambda (Vq k pa) (Vt k d pd pk pp) (Mh k d) lpos) X.env;standAt pos;pure v)]) _ _ _;unfold evalAll;refine wpAny_bind (wpAny_bind (Xh I1 hT C hb hcode hcl rfl hq fun f c' oc pm ctv s2 H2 I2 hT2 sm hf0 hf hc' hoc=>?_));refine wpAny_bind (wpAny_standAt (wpAny_pure ?_));unfold evalAll;refine wpAny_bind (wpAny_holding (wpAny_pure (wpAny_pure ?_)));show wpAny _ _ (call (.builtin "sorted") [.ref r] [(Str.ofString "key",.ref f)]) _ _ _;have hlP:l≠P:=fun e=>by obtain ⟨ps,e1,_⟩:=hT;rw [e,e1] at hl;cases hl
 have hl2:H2 l=some (.lst (ds.map V.int)):=sm _ _ hlP hl;obtain ⟨_,its,nn,hv,hit⟩:=I2.hok l _ hl2;have hiI:IntsAre its ds:=Kv hv;have hfo:s2.heap.get? f=some _:=(I2.hok f _ hf).1;have hco:s2.heap.get? c'=some oc:=(I2.hok c' _ hc').1;have hcell:s2.heap.IsCell cl (some (.ref l)):=by
  obtain ⟨m,_,hlo⟩:=I2.loc;obtain ⟨u,ru,lk⟩:=hlo i d (.ref l) hN hσ (.inr (.inl hkd));obtain rfl:u=Value.ref l:=ru;rcases lk with ⟨hk,_⟩ | ⟨_,c2,hc2,hx⟩
  ·have:some NameKind.cell=some NameKind.local:=hkd.symm.trans hk
   cases this
  ·rw [hce] at hc2
   cases hc2;exact hx
 have hlen:(Bx ds.length).length=ds.length:=by unfold Bx;rw [List.length_map,List.length_range]
 refine Yk (ns:=Bx ds.length) (kz:=ds) hlen.symm (by rw [hlen];exact Nat.le_trans hz (by decide)) (fun E' Q' hQ=>?_) (fun j n kk t e1 e2 h3 tk Q3 kp q3=>?_) fun D h' tk out cc hD kp hat hout=>?_
 ·rcases hrr with hr1 | hr1
  ·have hrP:r≠P:=fun e=>by obtain ⟨ps,e1,_⟩:=hT;rw [e,e1] at hr1;cases hr1
   obtain ⟨_,vs,nr,hv2,hit2⟩:=I2.hok r _ (sm _ _ hrP hr1);exact Xz (vs:=vs) ⟨_,hit2,rfl,_,rfl⟩ (by rw [<- hv2.length,List.length_map,hlen];exact Nat.le_trans hz (by decide)) E' Q' fun h' tk kp z=>hQ vs h' tk (Kv hv2) kp z
  ·have hrP:r≠P:=fun e=>by obtain ⟨ps,e1,_⟩:=hT;rw [e,e1] at hr1;cases hr1
   obtain ⟨t,u,v,hit2⟩:=I2.hok r _ (sm _ _ hrP hr1);exact eK (A:=X.A.in1) (n:=ds.length) (I.ok.hd hcal) hit2 hz E' Q' hQ
 ·have hj:j<ds.length:=(List.getElem?_eq_some_iff.mp e2).1
  obtain rfl:(j:Int)=n:=by
   unfold Bx at e1;rw [List.getElem?_map,List.getElem?_range hj] at e1;cases e1;rfl
  obtain ⟨vk,hvk⟩:∃ vk,its[j]?=some vk:=⟨_,List.getElem?_eq_getElem (by rw [hiI.length];exact hj)⟩;obtain ⟨k2,tk2,rfl,e3⟩:=hiI.at j vk hvk;rw [e2] at e3;cases e3;refine wpAny_call (kJ (u:=.none) (kp _ _ hfo) (let ⟨vs,t,e1,e2⟩:=hoc;⟨c',oc,vs,t,rfl,kp _ _ hco,e1,e2⟩) (show X.A.depth<recursionLimit from Cr.depth hr) ((I2.mod.nolimit.keeps I2.bk).keeps kp) (hbind _ _ _ _ _) rfl rfl rfl (by simp) ?_ (by simp) (by simp) hd nk nd (hcell.keeps kp) (its:=its.toArray) ⟨_,kp _ _ hit,rfl,_,rfl⟩ (by omega) (by omega) (by simpa using hvk) fun h4 tk4 k4=>q3 tk2 h4 tk4 k4);show List.lookup d [(k,NameKind.local),(d,NameKind.free)]=some .free;simp [List.lookup,ek]
 ·have I3:Inv X pins σ (upd H2 D (.lst ((Dt ds (Bx ds.length)).map V.int))) { s2 with heap:=h',toks:=tk }:=I2.laid kp hD ⟨by
    have h1:=hout.length;rw [List.length_map];unfold Dt;rw [List.length_map,Cz,List.length_zip,hlen,Nat.min_self];exact Nat.le_trans hz (by decide),out.toList,cc,Kl hout,hat⟩
  have hD2:H2 D=none:=I2.hok.fresh hD;have hD1:H1 D=none:=by
   cases e:H1 D with
   | none=>rfl
   | some u =>
    by_cases hDP:D=P
    ·obtain ⟨ps,e1,_⟩:=hT2
     rw [hDP,e1] at hD2;cases hD2
    ·rw [sm D u hDP e] at hD2;cases hD2
  refine ⟨.ref D,_,I3,rfl,q D _ (fun b u hb e=>?_) ?_ hD1 Ab⟩
  ·rw [Ai (fun z=>by rw [z,hD1] at e;cases e)]
   exact sm b u hb e
  ·obtain ⟨ps,e1,e2,e3⟩:=hT2
   have nP:P≠D:=fun z=>by rw [z,hD2] at e1;cases e1
   refine ⟨ps,by rw [Ai nP];exact e1,e2,e3.imp id fun ⟨c2,oc2,a1,a2,a3⟩=>⟨c2,oc2,a1,?_,a3⟩⟩;rw [Ai (fun z=>by rw [z,hD2] at a2;cases a2)];exact a2
end
def Hu (o:Obj)(c P:Addr):Prop:=∃ vs file tf flags tg inF text tt,o.cls=.type "code"/\o.data=.fields vs/\vs[11]?=some (.ref P)/\vs.getD 11 .none=.ref P/\vs.getD 18 .none=.str file tf /\
  vs.getD 7 .none=.int flags tg/\vs.getD 9 .none=.bool inF/\vs.getD 10 .none=.int text tt/\c≠P
theorem Hu.at {h:Heap}{o:Obj}{c P:Addr}(x:Hu o c P)(e:h.get? c=some o):CodeHd h c P:=by
 obtain ⟨vs,file,tf,flags,tg,inF,text,tt,a1,a2,a3,a4,a5,a6,a7,a8,a9⟩:=x;exact ⟨o,vs,file,tf,flags,tg,inF,text,tt,e,a1,a2,a3,a4,a5,a6,a7,a8,a9⟩
theorem Zd {P:Program}{w:World}{K:PySem.W.Frag}{mg mb:Str->Option Value}{CX:CXT}{k:Nat}{fa a:Addr}{fd:FuncData}{x:Str}{sp:Sp}{s₁:Shared}{vs:List Value}{ns:List Int}{tabs:List (Addr×Addr)}
  (hT:PySem.W.TabsAt tabs s₁.heap)(hTK:∀ q∈tabs,K.lookup q.2=none)(hB:∃ bm ob,mg "__builtins__"=some (.ref bm)/\bm≠builtinsNs/\s₁.heap.get? bm=some ob/\ob.cls=.type "module"/\ob.dict=some builtinsNs/\ob.data=.plain)(KX:K.In s₁.heap)(hns:s₁.heap.Ns mainGlobals mg)(hb:s₁.heap.Ns builtinsNs mb)(hbb:∀ x:Str,x≠"__name__"->mb x=bootBuiltins x)(hlim:s₁.heap.NoLimit)(hg:s₁.gens=#[])
  (ha:s₁.heap.get? a=some { cls:=.type "list",data:=.seq vs.toArray })(hi:IntsAre vs ns)(hl:ns.length<=sizeLine)(hr:Cr k callerA)
  (F:∀ base:Heap,K.In base->base.Ns mainGlobals mg->(∀ q∈tabs,base.BuiltinsAt mg q.2)->A4 P w K mg base CX k fa fd [x] sp)(hbind:∀ (s:Shared) (u:Value),BindsTo s fd ⟨[u],[]⟩ [(x,u)])
  (hsp:∀ H:Hp,(∀ q∈tabs,H q.2=some (.tbl #[]))->SqL K H a (ns.map V.int)->sp [.ref a] H (fun v _=>v=.bl true) fun _ _ _=>False)
  (hCX:∀ H e s',CX [] H s₁ (fun _ _ _=>False) e s'->False) :
  codeAny (model P w) callerA (.call (.ref fa) ⟨[.ref a],[]⟩) (fun r s'=>r=.ok (.ret (.bool true))/\OldK s₁.heap s'.heap/\s'.os=s₁.os/\AllBare s'.gens) s₁:=by
 have rv:=Kl hi;have tabAt:∀ b,b∈tabs.map (·.2)->s₁.heap.get? b=some (PySem.W.tabObj #[])/\K.lookup b=none/\isCodeTable s₁.heap b:=fun b hm=>by
  obtain ⟨q,hq,rfl⟩:=List.mem_map.mp hm;exact ⟨(hT q hq).2,hTK q hq,((hT q hq).1.tab (hT q hq).2).isCodeTable⟩
 have haT:a∉tabs.map (·.2):=fun hm=>by
  have:=(tabAt a hm).1;rw [ha] at this;cases this
 let H:Hp:=fun b=>if b∈tabs.map (·.2) then some (.tbl #[]) else if b=a/\K.lookup a=none then some (.frz { cls:=.type "list",data:=.seq vs.toArray } (.lst (ns.map V.int))) else none
 have H1:∀ b,b∈tabs.map (·.2)->H b=some (.tbl #[]):=fun b hm=>if_pos hm;have H2:∀ b,b∉tabs.map (·.2)->¬ (b=a/\K.lookup a=none)->H b=none:=fun b h1 h2=>(if_neg h1).trans (if_neg h2);have H3:K.lookup a=none->H a=some (.frz { cls:=.type "list",data:=.seq vs.toArray } (.lst (ns.map V.int))):=fun h=>(if_neg haT).trans (if_pos ⟨rfl,h⟩);have cases3:∀ b,(b∈tabs.map (·.2))\/(b=a/\K.lookup a=none/\b∉tabs.map (·.2))\/(H b=none):=fun b=>by
  by_cases h1:b∈tabs.map (·.2)
  ·exact .inl h1
  ·by_cases h2:b=a/\K.lookup a=none
   ·exact .inr (.inl ⟨h2.1,h2.2,h1⟩)
   ·exact .inr (.inr (H2 b h1 h2))
 have hok:HOk P w H s₁.heap:=fun b o e=>by
  rcases cases3 b with h | ⟨rfl,h1,_⟩ | h
  ·rw [H1 b h] at e
   cases e;exact (tabAt b h).1
  ·rw [H3 h1] at e
   cases e;exact ⟨ha,by rw [List.length_map];exact hl,vs,_,rv,ha⟩
  ·rw [h] at e
   cases e
 have noD:∀ {b:Addr} {o:Obj} {es:Array DictEntry} {ep:Nat},s₁.heap.get? b=some o->o.data=.dict es ep->H b=none:=fun {b o es ep} e d=>by
  rcases cases3 b with h | ⟨rfl,_,_⟩ | h
  ·rw [(tabAt b h).1] at e
   cases e;have d':Data.fields #[]=Data.dict es ep:=d;cases d'
  ·rw [ha] at e
   cases e;have d':Data.seq vs.toArray _=Data.dict es ep:=d;cases d'
  ·exact h
 have nsK:∀ {b:Addr} {m:Str->Option Value},s₁.heap.Ns b m->(Vj s₁.heap H).Ns b m:=fun {b m} ⟨o,es,ep,e,d,r⟩=>⟨o,es,ep,Rb e (noD e d),d,r⟩;have hKb:K.In (Vj s₁.heap H):=fun b o e=>Rb (KX b o e) (by
  rcases cases3 b with h | ⟨rfl,h1,_⟩ | h
  ·rw [(tabAt b h).2.1] at e;cases e
  ·rw [h1] at e;cases e
  ·exact h)
 have hBa:∀ q∈tabs,(Vj s₁.heap H).BuiltinsAt mg q.2:=fun q hq=>by
  obtain ⟨bm,ob,b1,b2,b3,b4,b5,b6⟩:=hB;have n1:bm≠mainGlobals:=fun z=>by
   obtain ⟨o,es,ep,e,d,_⟩:=hns;rw [z,e] at b3;cases b3;rw [d] at b6;cases b6
  have nP:bm∉tabs.map (·.2):=fun hm=>by
   have:=(tabAt bm hm).1;rw [b3] at this;cases this;cases b6
  have hn:H bm=none:=by
   rcases cases3 bm with h | ⟨h,_,_⟩ | h
   ·exact absurd h nP
   ·rw [h,ha] at b3
    cases b3;cases b6
   ·exact h
  exact ⟨bm,ob,b1,b2,n1,fun z=>nP (z▸List.mem_map_of_mem hq),Rb b3 hn,b4,b5,b6⟩
 have hM:Mod K mg (Vj s₁.heap H):=⟨hKb,nsK hns,⟨mb,nsK hb,hbb⟩,let ⟨mc,h1,h2⟩:=hlim;⟨mc,nsK h1,h2⟩⟩;have e0:Sa P w K mg (Vj s₁.heap H) callerA [] s₁ H:=⟨rfl,hM,fun b o e=>mT e,Nat.le_of_eq (dX _ _),trivial,fun b hb=>absurd (show b∈([]:List Addr) from hb) (by simp),hok,.of_eq hg⟩;have hS:SqL K H a (ns.map V.int):=by
  cases hk:K.lookup a with
  | none=>exact .inl (.inr ⟨_,H3 hk⟩)
  | some o =>
   have e:=KX a o hk;rw [ha] at e;cases e;exact .inr ⟨_,vs.toArray,_,hk,rfl,rfl,rfl,by rw [List.size_toArray,hi.length];exact hl,by simpa using rv⟩
 refine codeAny_mono ((F _ hKb (nsK hns) hBa).run callerA [] s₁ H ⟨[.ref a],[]⟩ [.ref a] [.ref a] _ _ hr e0 (hbind s₁ (.ref a)) (.cons rfl .nil) (hsp H (fun q hq=>H1 _ (List.mem_map_of_mem hq)) hS)) fun r s' h=>?_
 cases r with
 | error e=>exact (hCX H e s' h).elim
 | ok fl =>
  cases fl with
  | next=>exact False.elim h
  | brk=>exact False.elim h
  | cont=>exact False.elim h
  | ret u =>
   obtain ⟨v,H',os,bare,un,hok',r',q⟩:=h;have q':v=.bl true:=q;subst q';obtain rfl:u=Value.bool true:=r';have out:∀ b o,s₁.heap.get? b=some o->(b∈tabs.map (·.2)/\∃ more,s'.heap.get? b=some (PySem.W.tabObj more))\/s'.heap.get? b=some o:=fun b o e=>by
    rcases cases3 b with h | ⟨rfl,h1,_⟩ | h
    ·obtain ⟨more,hm⟩:=un.tbls b _ (H1 b h)
     exact .inl ⟨h,_,hok' b _ hm⟩
    ·obtain ⟨e2,_⟩:=hok' _ _ (un.frzs _ _ _ (H3 h1))
     rw [ha] at e;cases e;exact .inr e2
    ·exact .inr (un.keep b o e h (by intro z;exact absurd (show b∈([]:List Addr) from z) (by simp)) (by simp))
   refine ⟨rfl,⟨fun b o e=>?_,fun b o e=>?_⟩,os,bare⟩
   ·rcases out b o e with ⟨h,more,hm⟩ | h
    ·have e1:=(tabAt b h).1
     rw [e] at e1;cases e1;exact .inr (.inl ⟨(tabAt b h).2.2,rfl,#[],more,rfl,by rw [Array.empty_append];exact hm⟩)
    ·exact .inl h
   ·rcases out b o e with ⟨_,more,hm⟩ | h
    ·exact ⟨_,hm⟩
    ·exact ⟨o,h⟩
theorem fR {l:PySem.W.OpenLaw}{n k:Nat}{q:Program}{loose:List Str}{XP:(Str->Option Value)->Heap->Prop}{YP:World->Heap->Prop}{d:DefRec}{K:Params->PySem.W.Frag}{CX:World->CXT}{sp:World->Sp}{x:Str}{tabs:List (Addr×Addr)}
  (hn:l.most=some n)(hn2:n<=sizeLine)(hdf:d.params.defaults=[])(hr:Cr k callerA)
  (hY:∀ (w:World) (h:Heap),YP w h->(K w.params).In h)(hTb:∀ (w:World) (h:Heap),YP w h->PySem.W.TabsAt tabs h)(hTK:∀ w:World,∀ p∈tabs,(K w.params).lookup p.2=none)
  (F:∀ (w:World) (mg:Str->Option Value) (fa:Addr) (h:Heap),(K w.params).In h->h.Ns mainGlobals mg->mg d.name=some (.ref fa) ->
   ∃ fd:FuncData,(∀ (s:Shared) (u:Value),BindsTo s fd ⟨[u],[]⟩ [(x,u)]) /\
    ∀ base:Heap,(K w.params).In base->base.Ns mainGlobals mg->(∀ q∈tabs,base.BuiltinsAt mg q.2)->A4 l.prog w (K w.params) mg base (CX w) k fa fd [x] (sp w))
  (hsp:∀ (w:World) (H:Hp) (a:Addr) (ns:List Int),ns.length<=n->(∀ p∈tabs,H p.2=some (.tbl #[]))->SqL (K w.params) H a (ns.map V.int)->sp w [.ref a] H (fun v _=>v=.bl true) fun _ _ _=>False)
  (hCX:∀ (w:World) (H:Hp) (s:Shared) (e:Value) (s':Shared),CX w [] H s (fun _ _ _=>False) e s'->False) :
  PySem.W.WalkO q loose XP YP l.row.toRowW d [] (fun f vs=>PySem.call f vs):=by
 refine Att.attach_call hn hdf fun w s₀ s₁ mg mb fa o pm cd doc a vs ns G Y ho hd hcd hmg hobj hints hlen hg=>?_;have KX:=hY w _ Y;obtain ⟨fd,hb,hF⟩:=F w mg fa _ KX G.T.g hmg;exact Zd (hTb w _ Y) (hTK w) G.T.bmain KX G.T.g G.T.b G.T.builtins G.T.nolimit hg hobj hints (Nat.le_trans hlen hn2) hr hF hb (fun H hO hS=>hsp w H a ns hlen hO hS) fun H e s'=>hCX w H s₁ e s'
structure Sb (K:PySem.W.Frag) (x qual:Str) (st:Stmt) (f:Addr) (fd:FuncData) (c P:Addr):Prop where
 ex:∃ (oc:Value) (od:Option Addr) (kV doc pm:Value) (an:Option Addr) (ct:Value) (osl:Array (Option Value)),
  fd=PySem.W.fnOf x qual (Bw st) (Bl st) (Ad st) .none kV doc pm an (.ref c) ct/\K.lookup f=some ⟨oc,od,.func fd,osl⟩/\PySem.W.codeIn K (.ref c) qual=true
 kp:PySem.W.keepIn K (.ref f)=true
 hd:∃ oc,K.lookup c=some oc/\Hu oc c P
section
variable {P:Program} {w:World} {K:PySem.W.Frag} {mg:Str->Option Value} {base:Heap}
theorem Sb.ok {x qual:Str}{st:Stmt}{f c Pt:Addr}{fd:FuncData}{N ps:List Str}{k:Nat}{sp:Sp}(F:Sb K x qual st f fd c Pt)(S:An N ps (Ad st))(len:∀ vs H Q E,sp vs H Q E->vs.length=ps.length)
  (hbody:∀ (A:Around) (outer:List Env) (s:Shared) (H:Hp) (vs:List V) (Q:VK) (E:XK),Cr k (A.deeper (envOfC qual (Ad st) s.heap.objs.size f (.ref c)))->sp vs H Q E ->
   ∃ t,PSs (X9 CX0 P w K mg base N qual (Ad st) f (.ref c) A outer s H E).nox (Bl st) t/\t { nx:=fun _ H'=>Q .non H',rt:=Q } (Lc N vs) H):A4 P w K mg base CX0 (k+1) f fd ps sp:=by
 obtain ⟨oc,od,kV,doc,pm,an,ct,osl,rfl,lk,hcd⟩:=F.ex;refine jY lk hcd S len fun A outer s H vs Q E hr hsp=>?_;obtain ⟨t,h,q⟩:=hbody A outer s H vs Q E hr hsp;exact ⟨t,h.nox,q⟩
theorem Sb.code {x qual:Str}{st:Stmt}{f c Pt:Addr}{fd:FuncData}(F:Sb K x qual st f fd c Pt)(hK:K.In base):CodeHd base c Pt:=let ⟨oc,e,h⟩:=F.hd;h.at (hK _ _ e)
theorem Sb.binds {x qual:Str}{st:Stmt}{f c Pt:Addr}{fd:FuncData}{ps:List Str}(F:Sb K x qual st f fd c Pt)
  (h:∀ (kV doc pm:Value) (an:Option Addr) (cdv ct:Value) (us:List Value),us.length=ps.length->bindArgs (PySem.W.fnOf x qual (Bw st) (Bl st) (Ad st) .none kV doc pm an cdv ct) ⟨us,[]⟩=pure (ps.zip us)):E1 K fd ps []:=by
 obtain ⟨oc,od,kV,doc,pm,an,ct,osl,rfl,lk,hcd⟩:=F.ex;exact .all (h kV doc pm an (.ref c) ct)
theorem Vp {x qual:Str}{st:Stmt}{f c Pt:Addr}{oc:Value}{od an:Option Addr}{osl:Array (Option Value)}{kV doc pm ct:Value}{oo:Obj}(l:K.lookup f=some ⟨oc,od,.func (PySem.W.fnOf x qual (Bw st) (Bl st) (Ad st) .none kV doc pm an (.ref c) ct),osl⟩)
  (cc:PySem.W.codeIn K (.ref c) qual=true)(k:PySem.W.keepIn K (.ref f)=true)(lc:K.lookup c=some oo)(hc:Hu oo c Pt):Sb K x qual st f (PySem.W.fnOf x qual (Bw st) (Bl st) (Ad st) .none kV doc pm an (.ref c) ct) c Pt:=⟨⟨oc,od,kV,doc,pm,an,ct,osl,rfl,l,cc⟩,k,oo,lc,hc⟩
end
def InC (cl:List (Str×Addr))(b:Addr):Prop:=∃ x,cl.lookup x=some b
open Classical in
noncomputable def Hn (H:Hp) (cl:List (Str×Addr)):Hp:=fun b=>if InC cl b then none else H b
open Classical in
noncomputable def G4 (H:Hp) (h:Heap) (cl:List (Str×Addr)):Hp:=fun b=>if InC cl b then (h.get? b).map fun o=>.frz o (.own 0) else H b
theorem Iw {H:Hp}{cl:List (Str×Addr)}{b:Addr}(h:InC cl b):Hn H cl b=none:=if_pos h
theorem Fb {H:Hp}{cl:List (Str×Addr)}{b:Addr}(h:¬ InC cl b):Hn H cl b=H b:=if_neg h
theorem M3 {H:Hp}{h:Heap}{cl:List (Str×Addr)}{b:Addr}{o:Obj}(hb:InC cl b)(e:h.get? b=some o):G4 H h cl b=some (.frz o (.own 0)):=by
 unfold G4;rw [if_pos hb,e];rfl
theorem C1 {H:Hp}{h:Heap}{cl:List (Str×Addr)}{b:Addr}(hb:¬ InC cl b):G4 H h cl b=H b:=if_neg hb
theorem Ef {H:Hp}{cl:List (Str×Addr)}{b:Addr}(h:H b=none):Hn H cl b=none:=by
 by_cases hb:InC cl b
 ·exact Iw hb
 ·rw [Fb hb];exact h
theorem Z4 {H:Hp}{cl:List (Str×Addr)}{b:Addr}{o:HO}(h:Hn H cl b=some o):¬ InC cl b/\H b=some o:=by
 by_cases hb:InC cl b
 ·rw [Iw hb] at h;cases h
 ·rw [Fb hb] at h;exact ⟨hb,h⟩
theorem Xl {P:Program}{w:World}{H:Hp}{h:Heap}{cl:List (Str×Addr)}(hk:HOk P w H h)(hc:∀ b,InC cl b->∃ o u,H b=some (.frz o u)):HOk P w (Hn H cl) h:=fun b o e=>by
 obtain ⟨hb,e⟩:=Z4 e;refine (hk b o e).stay (fun _ _ _ q=>q) (fun c q=>?_) fun c xs q=>?_
 ·rw [Fb fun z=>?_]
  ·exact q
  ·obtain ⟨o,u,e⟩:=hc c z
   rw [q] at e;cases e
 ·rw [Fb fun z=>?_]
  ·exact q
  ·obtain ⟨o,u,e⟩:=hc c z
   rw [q] at e;cases e
theorem Ww {P:Program}{w:World}{H:Hp}{h:Heap}{cl:List (Str×Addr)}(hk:HOk P w H h)(hn:∀ b,InC cl b->H b=none):HOk P w (G4 H h cl) h:=fun b o e=>by
 by_cases hb:InC cl b
 ·unfold G4 at e
  rw [if_pos hb] at e
  cases g:h.get? b with
  | none=>rw [g] at e;cases e
  | some ob =>
   rw [g] at e;cases e;exact ⟨g,_,g⟩
 ·rw [C1 hb] at e
  refine (hk b o e).stay (fun _ _ _ q=>q) (fun c q=>?_) fun c xs q=>?_
  ·rw [C1 fun z=>by rw [hn c z] at q;cases q];exact q
  ·rw [C1 fun z=>by rw [hn c z] at q;cases q];exact q
def Xy (P:Program)(w:World)(K:PySem.W.Frag)(mg:Str->Option Value)(base:Heap)(k:Nat)(H:Hp)(f:Addr)(dom:Int->Prop)(p:Int->Bool):Prop :=
 (∃ oc od fd sl u,H f=some (.frz ⟨oc,od,.func fd,sl⟩ u))/\∀ (A:Around) (outer:List Env) (s:Shared) (H1:Hp) (i:Int) (t:Tok),Cr k A->Sa P w K mg base A outer s H1->Am H H1->dom i ->
  codeAny (model P w) A (.call (.ref f) ⟨[.int i t],[]⟩) (CR CX0 outer P w H1 s (fun v H2=>v=.bl (p i)/\Am H1 H2) E0) s
theorem Xy.same {P:Program}{w:World}{K:PySem.W.Frag}{mg:Str->Option Value}{base:Heap}{k:Nat}{H H':Hp}{f:Addr}{dom:Int->Prop}{p:Int->Bool}(a:Xy P w K mg base k H f dom p)(s:Am H H'):Xy P w K mg base k H' f dom p :=
 ⟨let ⟨oc,od,fd,sl,u,e⟩:=a.1;⟨oc,od,fd,sl,u,s _ _ e⟩,fun A outer st H1 i t hr e0 sm hd=>a.2 A outer st H1 i t hr e0 (fun b o e=>sm _ _ (s _ _ e)) hd⟩
section
variable {X:Cx} {x:Str} {i:Nat} {k:Nat} {a:Expr} {ta:TE} {q pos:Pos}
def vX (P:Program)(w:World)(K:PySem.W.Frag)(mg:Str->Option Value)(base:Heap)(k i:Nat)(ta:TE):TE:=fun σ H Q=>∃ (f:Addr) (dom:Int->Prop) (p:Int->Bool),σ[i]?=some (some (.ref f))/\Xy P w K mg base k H f dom p /\
 ta σ H fun v H1=>T8 σ H1 fun vs H2=>∃ z:Int,v::vs=[.int z]/\Am H H2/\dom z/\∀ H3,Am H2 H3->Q (.bl (p z)) H3
theorem vR {P:Program}{w:World}{K:PySem.W.Frag}{mg:Str->Option Value}{base:Heap}{σ:St}{H:Hp}{Q:VK}(h:∃ (f:Addr) (dom:Int->Prop) (p:Int->Bool),σ[i]?=some (some (.ref f))/\Xy P w K mg base k H f dom p /\
 ta σ H fun v H1=>T8 σ H1 fun vs H2=>∃ z:Int,v::vs=[.int z]/\Am H H2/\dom z/\∀ H3,Am H2 H3->Q (.bl (p z)) H3):vX P w K mg base k i ta σ H Q:=h
theorem tO (hr:Cr k X.A)(hN:X.N[i]?=some x)(hv:X.env.scope.names.lookup x=some .local)(ha:PE X a ta)(hdb:(x==("__debug__":Str))=false:=by decide)(hcd:(x==("__classdict__":Str))=false:=by decide)
  (he:starEach [a] X.env=[(false,eval a X.env)]:=by rfl) :
  PE X (.Call (.Name x q) [a] [] pos) (vX X.prog X.w X.K X.mg X.base k i ta):=by
 intro pins s σ H Q I ⟨f,dom,p,hσ,hA,h⟩;have hn:PE X (.Name x q) (nZ i):=kK hN (.inl hv) hdb hcd;refine wpAny_Call_Name_kw (thn (hn pins s σ H (fun v H1=>v=.ref f/\H1=H) I ⟨_,hσ,rfl,rfl⟩) fun u s0 ⟨v0,H0,I0,r0,e0,e1⟩=>?_);subst e0 e1;obtain rfl:u=Value.ref f:=r0;have fnAt:∀ {s':Shared} {H':Hp},Inv X pins σ H' s'->Am H0 H'->PySem.W.FnAt f s'.heap:=fun I' sm=>by
  obtain ⟨oc,od,fd,sl,u,e⟩:=hA.1;exact ⟨oc,od,fd,sl,(I'.hok _ _ (sm _ _ e)).1⟩
 have hp:PA X [a] (Xn ta T8):=bN ha Ac he;refine PySem.W.callWith_F (fnAt I0 (fun _ _ e=>e)) (thn (hp pos pins s0 σ H0 (fun vs H1=>∃ z:Int,vs=[.int z]/\Am H0 H1/\dom z/\∀ H3,Am H1 H3->Q (.bl (p z)) H3) I0 ?_) fun us s1 ⟨vs,H1,I1,r1,z,e1,sm,hz,q1⟩=>⟨fnAt I1 sm,?_⟩) he rfl
 ·exact h
 subst e1;obtain ⟨u,rfl,t,rfl⟩:=E7 r1;refine wpAny_call (codeAny_mono (hA.2 X.A X.stack s1 H1 z t hr I1.env0 sm hz) fun r s' hq=>?_)
 cases r with
 | error e=>exact hq.elim
 | ok fl =>
  cases fl with
  | ret u =>
   obtain ⟨v,H',os,bare,un,hok,r,e2,sm2⟩:=hq;subst e2;exact I1.after ⟨_,H',os,bare,un,hok,r,q1 _ sm2⟩
  | next=>exact False.elim hq
  | brk=>exact False.elim hq
  | cont=>exact False.elim hq
end
abbrev eQ (qual:Str)(scope:Scope)(cl:List (Str×Addr))(C f:Addr)(cd:Value):Env:=newEnv scope C mainGlobals cl (qual++Str.ofString ".<locals>.") (some f) cd none builtinsNs
def Ta (P:Program)(w:World)(K:PySem.W.Frag)(mg:Str->Option Value)(base:Heap)(N:List Str)(qual:Str)(scope:Scope)(cl:List (Str×Addr))(f:Addr)(cd:Value)(A:Around)(outer:List Env)(s:Shared)(H:Hp):Cx where
 prog:=P
 w:=w
 K:=K
 mg:=mg
 base:=base
 A:=A.deeper (eQ qual scope cl s.heap.objs.size f cd)
 N:=N
 s₀:=s
 H₀:=H
 env:=eQ qual scope cl s.heap.objs.size f cd
 outer:=outer
 stack:=eQ qual scope cl s.heap.objs.size f cd::outer
 ex:=[]
 fn:=fun _=>false
 calm:=true
 pn:=[]
 xe:=fun _ _=>False
section
variable {P:Program} {w:World} {K:PySem.W.Frag} {mg:Str->Option Value} {base:Heap}
theorem oY {N N₀:List Str}{sc₀ scope:Scope}{x:Str}{ix:List Nat}{qual:Str}{cl:List (Str×Addr)}{f:Addr}{cd:Value}{A:Around}{outer:List Env}{s:Shared}{H1:Hp}{σ:St}{h₁:Heap}{tk:Nat}{v0:V}{u0:Value}{k:Nat}
  (L:Bg N₀ sc₀ scope x N ix)(hr:Cr (k+1) A)(e0:Sa P w K mg base A outer s H1)
  (hinj:∀ y z c,cl.lookup y=some c->cl.lookup z=some c->y=z)(hhas:∀ y,(y,NameKind.free)∈scope.names->∃ c,cl.lookup y=some c)
  (hcs:∀ y c,cl.lookup y=some c->∃ o v,H1 c=some (.frz o (.own 0))/\o.data=.cell v)
  (hval:∀ y j v,(y,j)∈N.tail.zip ix->σ[j]?=some (some v)->∃ c o u,cl.lookup y=some c/\H1 c=some (.frz o (.own 0))/\o.data=.cell (some u)/\Ba v u)
  (hr0:Ba v0 u0)(hns:h₁.Ns s.heap.objs.size fun z=>List.lookup z [(x,u0)].reverse)(hk:∀ b o,s.heap.get? b=some o->h₁.get? b=some o) :
  Inv (Ta P w K mg base N qual scope cl f cd A outer s (Hn H1 cl)) [] (some v0::frV σ ix) (Hn H1 cl) { s with heap:=h₁,toks:=tk }:=by
 have noA:∀ b:Addr,b∉(Ta P w K mg base N qual scope cl f cd A outer s (Hn H1 cl)).ex:=fun b z=>absurd (show b∈([]:List Addr) from z) (by simp);have kf:∀ y,scope.names.lookup y≠some .cell:=fun y e=>L.nocell _ (PySem.mem_of_lookup e) rfl;refine ⟨⟨e0.mod,L.kind,rfl,rfl,Nat.le_refl _,fun y z c h1 h2=>hinj y z c h1 h2,fun y hy=>?_,fun y c z _=>?_,fun _=>(hr.deeper _).hd,Around.frames_deeper e0.frames,.inr ⟨rfl,rfl⟩,fun b z=>absurd z (noA b),fun b o e=>⟨(e0.bs b o e).1,Ef (e0.bs b o e).2⟩,e0.bsz,fun b _ _=>noA b,fun b z=>absurd z (noA b),e0.funs,fun b hb=>Ef (e0.frf b hb)⟩,
  rfl,e0.bare,Un.kept hk,⟨_,hns,fun i y v h1 h2 h3=>?_⟩,fun y c e=>?_,Ef (e0.hok.fresh (Nat.le_refl _)),fun y c e=>Iw ⟨y,e⟩,fun p hp=>absurd (show p∈([]:List (Addr×Obj)) from hp) (by simp),?_,?_⟩
 ·have hy:scope.names.lookup y=some .cell\/scope.names.lookup y=some .free:=hy
  rcases hy with hy | hy
  ·exact absurd hy (kf y)
  ·exact hhas y (PySem.mem_of_lookup hy)
 ·cases (show false=true from z)
 ·cases i with
  | zero =>
   have h1:N[0]?=some y:=h1;have h2:some (some v0)=some (some v):=h2;cases h2;have hx:N[0]?=some x:=by have:=L.hd;rwa [List.head?_eq_getElem?] at this
   rw [h1] at hx;cases hx;exact ⟨u0,hr0,.inl ⟨L.loc,by simp⟩⟩
  | succ j =>
   have h1:N[j+1]?=some y:=h1;have h2:(frV σ ix)[j]?=some (some v):=h2;unfold frV at h2;rw [List.getElem?_map] at h2
   cases hj:ix[j]? with
   | none=>rw [hj] at h2;cases h2
   | some m =>
    rw [hj] at h2;have h2:(σ[m]?).getD none=some v:=Option.some.inj h2;have h2':σ[m]?=some (some v):=by
     cases e:σ[m]? with
     | none=>rw [e] at h2;cases h2
     | some z=>rw [e] at h2;exact congrArg some h2
    have ht:N.tail[j]?=some y:=by rw [List.getElem?_tail];exact h1
    have hz:(y,m)∈N.tail.zip ix:=List.mem_of_getElem? (i:=j) (by rw [List.getElem?_zip_eq_some];exact ⟨ht,hj⟩);obtain ⟨c,o,u,e1,e2,e3,r⟩:=hval y m v hz h2';exact ⟨u,r,.inr ⟨.inr (L.at_ _ hz).2,c,e1,o,hk _ _ (e0.hok _ _ e2).1,e3⟩⟩
 ·obtain ⟨o,v,e1,e2⟩:=hcs y c e
  exact ⟨v,o,hk _ _ (e0.hok _ _ e1).1,e2⟩
 ·exact (Xl e0.hok fun b ⟨y,e⟩=>let ⟨o,v,e1,_⟩:=hcs y b e;⟨o,_,e1⟩).kept hk
 ·show (some v0::frV σ ix).length=N.length
  rw [L.len];simp [frV]
theorem gT {N N₀:List Str}{sc₀ scope:Scope}{x:Str}{ix:List Nat}{qual:Str}{cl:List (Str×Addr)}{f c':Addr}{H:Hp}{σ:St}{k:Nat}{params:Arguments}{body:Expr}{pm ctv:Value}{oc:Obj}{te:TE}{dom:Int->Prop}{p:Int->Bool}
  (L:Bg N₀ sc₀ scope x N ix)(hco:scope.isCoroutine=false)(hgen:scope.isGenerator=false)
  (hinj:∀ y z c,cl.lookup y=some c->cl.lookup z=some c->y=z)(hhas:∀ y,(y,NameKind.free)∈scope.names->∃ c,cl.lookup y=some c)
  (hcs:∀ y c,cl.lookup y=some c->∃ o v,H c=some (.frz o (.own 0))/\o.data=.cell v)
  (hval:∀ y j v,(y,j)∈N.tail.zip ix->σ[j]?=some (some v)->∃ c o u,cl.lookup y=some c/\H c=some (.frz o (.own 0))/\o.data=.cell (some u)/\Ba v u)
  (hf:H f=some (.frz (kla_obj "<lambda>" qual params body scope cl pm c' ctv) (.own 0)))(hc':H c'=some (.frz oc (.own 0)))(hoc:Uw oc qual)
  (hbind:∀ (n:Int) (t:Tok),bindArgs (kla_fn "<lambda>" qual params body scope cl pm (.ref c') ctv) ⟨[.int n t],[]⟩=pure [(x,.int n t)])
  (hbody:∀ (A:Around) (outer:List Env) (s:Shared) (H1:Hp),Cr k (A.deeper (eQ qual scope cl s.heap.objs.size f (.ref c')))->PE (Ta P w K mg base N qual scope cl f (.ref c') A outer s H1) body te)
  (hte:∀ (i:Int) (H1:Hp),dom i->(∀ b u,¬ InC cl b->H b=some u->H1 b=some u)->te (some (.int i)::frV σ ix) H1 fun v H2=>v=.bl (p i)/\Am H1 H2):Xy P w K mg base (k+1) H f dom p:=by
 refine ⟨⟨_,_,_,_,_,hf⟩,fun A outer s H1 i t hr e0 sm hd=>?_⟩;have hfo:s.heap.get? f=some (kla_obj "<lambda>" qual params body scope cl pm c' ctv):=(e0.hok _ _ (sm _ _ hf)).1;have hco':s.heap.get? c'=some oc:=(e0.hok _ _ (sm _ _ hc')).1;have lim:s.heap.NoLimit:=e0.mod.nolimit.keeps fun b o e=>(e0.bs b o e).1;refine PySem.W.kla_callFunE hr.depth hfo rfl hco hgen rfl (let ⟨vs,t,e1,e2⟩:=hoc;⟨c',oc,vs,t,rfl,hco',e1,e2⟩) ?_;rw [hbind];refine wpAny_pure (wpAny_newFunctionEnv L.nocell (fun y hy=>by cases List.mem_singleton.mp hy;exact L.loc) (fun h₁ hns hsb=>⟨lim.fresh _ hsb,?_⟩) L.kind);have hk₁:∀ b o,s.heap.get? b=some o->h₁.get? b=some o:=fun b o e=>hsb.extBut b o (Nat.ne_of_lt (Heap.lt_size e)) (Heap.get?_push_of_some _ e);have inH:∀ b,InC cl b->∃ o v,H1 b=some (.frz o (.own 0))/\o.data=.cell v:=fun b ⟨y,e⟩=>let ⟨o,v,e1,e2⟩:=hcs y b e;⟨o,v,sm _ _ e1,e2⟩;have I':=oY (qual:=qual) (f:=f) (cd:=.ref c') (tk:=s.toks+[(x,Value.int i t)].length) (v0:=.int i) (u0:=.int i t) L hr e0 hinj hhas (fun y c e=>let ⟨o,v,e1,e2⟩:=hcs y c e;⟨o,v,sm _ _ e1,e2⟩)
  (fun y j v h1 h2=>let ⟨c,o,u,a1,a2,a3,a4⟩:=hval y j v h1 h2;⟨c,o,u,a1,sm _ _ a2,a3,a4⟩) ⟨t,rfl⟩ hns hk₁
 refine PySem.W.kla_codeExpr (wpAny_mono (hbody A outer s (Hn H1 cl) (hr.deeper _) [] _ _ _ _ I' (hte i _ hd fun b u hb e=>by rw [Fb hb];exact sm _ _ e)) (fun v s' ⟨v',H2,I2,r,ev,sm2⟩=>?_) fun e s' z=>z.elim);have nfr:∀ b,InC cl b->b∉frs outer:=fun b hb z=>by
  obtain ⟨o,v,e1,_⟩:=inH b hb;rw [e0.frf b z] at e1;cases e1
 have cell':∀ b o u,InC cl b->H1 b=some (.frz o u)->s'.heap.get? b=some o/\u=.own 0:=fun b o u hb e=>by
  obtain ⟨o2,v2,e1,_⟩:=inH b hb;rw [e] at e1;cases e1;exact ⟨I2.base.keep b o (e0.hok _ _ e).1 (Iw hb) (nfr b hb) (by simp [Ta]),rfl⟩
 have same':∀ b u,H1 b=some u->(∀ ps,u≠.tbl ps)\/True->G4 H2 s'.heap cl b=some u:=fun b u e _=>by
  by_cases hb:InC cl b
  ·obtain ⟨o,v,e1,_⟩:=inH b hb
   rw [e] at e1;cases e1;exact M3 hb (cell' b o _ hb e).1
  ·rw [C1 hb]
   exact sm2 _ _ (by rw [Fb hb];exact e)
 refine ⟨v',G4 H2 s'.heap cl,I2.os,I2.bare,⟨fun b o e n hf hx=>I2.base.keep b o e (Ef n) hf hx,fun b o e n hf hx=>I2.base.slot b o e (Ef n) hf hx,fun b o e n hx=>?_,fun b o e hx=>I2.base.there b o e hx,fun b xs e=>same' _ _ e (.inr trivial),fun b o u e=>same' _ _ e (.inr trivial),fun b ps e=>⟨#[],by rw [Array.append_empty];exact same' _ _ e (.inr trivial)⟩⟩,Ww I2.hok fun b ⟨y,e⟩=>I2.freeC y b e,r,ev,fun b u e=>same' b u e (.inr trivial)⟩;have hb:¬ InC cl b:=fun hb=>by
  obtain ⟨o,v,e1,_⟩:=inH b hb;rw [n] at e1;cases e1
 rw [C1 hb];exact I2.base.free b o e (Ef n) hx
end
def L3 (P:Program)(w:World)(K:PySem.W.Frag)(mg:Str->Option Value)(base:Heap)(k:Nat):Sp:=fun vs H Q _=>∃ (lo hi:Int) (f:Addr) (p:Int->Bool),vs=[.int lo,.int hi,.ref f]/\lo<=hi/\Xy P w K mg base k H f (fun i=>lo<=i/\i<hi) p /\
 ∀ m H',lo<=m->m<=hi->(lo<m->p (m-1)=false)->(m<hi->p m=true)->Am H H'->Q (.int m) H'
def Ze (Pt:Addr)(lpos:Pos)(qual:Str)(ix:List Nat)(te ta tb:TE):TE:=fun σ H Q=>ta σ H fun v H1=>tb σ H1 fun u H2=>∃ (lo hi:Int) (p:Int->Bool),v=.int lo/\u=.int hi/\lo<=hi/\Kb H2 Pt lpos qual /\
 (∀ (i:Int) (H3:Hp),lo<=i->i<hi->K8 Pt H2 H3->te (some (.int i)::frV σ ix) H3 fun v H4=>v=.bl (p i)/\Am H3 H4) /\
 ∀ (m:Int) (H':Hp),lo<=m->m<=hi->(lo<m->p (m-1)=false)->(m<hi->p m=true)->K8 Pt H2 H'->Kb H' Pt lpos qual->Q (.int m) H'
theorem nA {Pt:Addr}{lpos:Pos}{qual:Str}{ix:List Nat}{te ta tb:TE}{σ:St}{H:Hp}{Q:VK}(h:ta σ H fun v H1=>tb σ H1 fun u H2=>∃ (lo hi:Int) (p:Int->Bool),v=.int lo/\u=.int hi/\lo<=hi/\Kb H2 Pt lpos qual /\
 (∀ (i:Int) (H3:Hp),lo<=i->i<hi->K8 Pt H2 H3->te (some (.int i)::frV σ ix) H3 fun v H4=>v=.bl (p i)/\Am H3 H4) /\
 ∀ (m:Int) (H':Hp),lo<=m->m<=hi->(lo<m->p (m-1)=false)->(m<hi->p m=true)->K8 Pt H2 H'->Kb H' Pt lpos qual->Q (.int m) H'):Ze Pt lpos qual ix te ta tb σ H Q:=h
section
variable {X:Cx}
theorem iC {g x qual:Str}{a b body:Expr}{ta tb te:TE}{q pos lpos:Pos}{ff c Pt:Addr}{fd:FuncData}{ps N:List Str}{ix:List Nat}{kf k:Nat}{params:Arguments}{scope:Scope}
  (F:A4 X.prog X.w X.K X.mg X.base CX0 kf ff fd ps (L3 X.prog X.w X.K X.mg X.base (k+1)))(hr:Cr kf X.A)(hg:Gl X g)(hm:X.mg g=some (.ref ff))(hkp:PySem.W.keepIn X.K (.ref ff)=true)(hb:E1 X.K fd ps [])
  (ha:PE X a ta)(hbb:PE X b tb)(hfn:X.fn=fun _=>true)
  (C:CodeHd X.base c Pt)(hB:X.base.BuiltinsAt X.mg Pt)(hcode:X.env.code=.ref c)(hq:X.env.qual++"<lambda>"=qual)
  (L:Bg X.N X.env.scope scope x N ix)(hco:scope.isCoroutine=false)(hgen:scope.isGenerator=false)(hdef:defaultsOf params X.env=([],[]))
  (hbind:∀ (cl:List (Str×Addr)) (pm cv ctv:Value) (n:Int) (t:Tok),bindArgs (kla_fn "<lambda>" qual params body scope cl pm cv ctv) ⟨[.int n t],[]⟩=pure [(x,.int n t)])
  (hbody:∀ (cl:List (Str×Addr)) (f c':Addr) (A:Around) (outer:List Env) (s:Shared) (H1:Hp),Cr k (A.deeper (eQ qual scope cl s.heap.objs.size f (.ref c')))->PE (Ta X.prog X.w X.K X.mg X.base N qual scope cl f (.ref c') A outer s H1) body te)
  (hdb:(g==("__debug__":Str))=false:=by decide)(he1:starEach [a,b,.Lambda params body scope lpos] X.env=(false,eval a X.env)::starEach [b,.Lambda params body scope lpos] X.env:=by rfl)(he2:starEach [b,.Lambda params body scope lpos] X.env=(false,eval b X.env)::starEach [.Lambda params body scope lpos] X.env:=by rfl)
  (he3:starEach [.Lambda params body scope lpos] X.env=[(false,eval (.Lambda params body scope lpos) X.env)]:=by rfl)(hpl:(backTo pos (starEach [b,.Lambda params body scope lpos] X.env)).any (·.1)=false:=by rfl) :
  PE X (.Call (.Name g q) [a,b,.Lambda params body scope lpos] [] pos) (Ze Pt lpos qual ix te ta tb):=by
 intro pins s σ H Q I h;refine wpAny_Call_Name_kw (Oy I hg hm ?_ hdb);refine callWith_K (h₀:=X.base) I.ok.mod.kin hkp ?_ he1 hpl;rw [he1];show wpAny _ _ (spliced ((false,eval a X.env)::backTo pos (starEach [b,.Lambda params body scope lpos] X.env))) _ _ s;refine Calls.spliced_cons (thn (ha pins s σ H _ I h) fun u1 s1 ⟨v1,H1,I1,r1,q1⟩=>?_);rw [he2];show wpAny _ _ (spliced ((false,eval b X.env)::backTo pos (starEach [.Lambda params body scope lpos] X.env))) _ _ s1;refine Calls.spliced_cons (thn (hbb pins s1 σ H1 _ I1 q1) fun u2 s2 ⟨v2,H2,I2,r2,lo,hi,p,e1,e2,hle,hT,hbd,q2⟩=>?_);subst e1 e2;rw [he3];show wpAny _ _ (spliced [(false,eval (.Lambda params body scope lpos) X.env)]) _ _ s2;have hfree:∀ y∈scope.names,y.2=.free->∃ c,X.env.cells.lookup y.1=some c:=fun y hy hf=>I.ok.has y.1 (.inl (L.free y hy hf));have sub:∀ y c,(Do X.env scope.names []).lookup y=some c->X.env.cells.lookup y=some c:=fun y c h=>Hk _ _ y c hfree (fun _ _ z=>by simp at z) h;refine Calls.spliced_cons (Xh I2 hT C hB hcode (Ij hfree) hdef hq fun f c' oc pm ctv s3 H3 I3 hT3 sm hf0 hf hc' hoc=>?_);refine Calls.spliced_nil ?_;generalize hcl:Do X.env scope.names []=cl at hf sub;have inj:∀ y z c,cl.lookup y=some c->cl.lookup z=some c->y=z:=fun y z c h1 h2=>I.ok.inj y z c (sub y c h1) (sub z c h2);have n3:∀ b,InC cl b->H3 b=none:=fun b ⟨y,e⟩=>I3.freeC y b (sub y b e);have cellAt:∀ y c,cl.lookup y=some c->∃ o v,s3.heap.get? c=some o/\o.data=.cell v:=fun y c e=>let ⟨v,o,e1,e2⟩:=I3.cell y c (sub y c e);⟨o,v,e1,e2⟩;have nLoc:∀ b,InC cl b->b≠X.env.locals:=fun b ⟨y,e⟩=>I3.cne y b (sub y b e);have hab:∀ b,InC cl b->X.s₀.heap.objs.size<=b:=fun b ⟨y,e⟩=>I3.ok.cab y b (by rw [hfn]) (sub y b e);have nfr:∀ b,InC cl b->b∉frs X.stack:=fun b hb z=>by
  rcases List.mem_cons.mp (I3.stkSub b z) with e | hz
  ·exact nLoc b hb e
  ·obtain ⟨_,o,ho,_⟩:=I3.ok.funs.mem hz
   exact absurd (Heap.lt_size ho) (Nat.not_lt.mpr (hab b hb))
 have e0:Sa X.prog X.w X.K X.mg X.base X.A X.stack s3 (G4 H3 s3.heap cl):=by
  have z:=I3.env0;refine ⟨z.frames,z.mod,fun b o e=>⟨(z.bs b o e).1,?_⟩,z.bsz,z.funs,fun b hb=>?_,Ww z.hok n3,z.bare⟩
  ·rw [C1 fun hb=>?_]
   ·exact (z.bs b o e).2
   ·exact absurd (Heap.lt_size e) (Nat.not_lt.mpr (Nat.le_trans I3.ok.bsz (hab b hb)))
  ·rw [C1 fun h=>nfr b h hb]
   exact z.frf b hb
 have out:∀ b u,H3 b=some u->G4 H3 s3.heap cl b=some u:=fun b u e=>by
  rw [C1 fun hb=>by rw [n3 b hb] at e;cases e];exact e
 have asks:Xy X.prog X.w X.K X.mg X.base (k+1) (G4 H3 s3.heap cl) f (fun i=>lo<=i/\i<hi) p:=by
  refine gT (σ:=σ) (te:=te) L hco hgen inj (fun y hy=>?_) (fun y c e=>?_) (fun y j v hz hj=>?_) (out _ _ hf) (out _ _ hc') hoc (hbind _ _ _ _) (fun A outer s H1 hr=>hbody _ _ _ A outer s H1 hr) fun i H4 hi k4=>?_
  ·rw [<- hcl];exact Option.isSome_iff_exists.mp (Eo _ _ y hy)
  ·obtain ⟨o,v,e1,e2⟩:=cellAt y c e
   exact ⟨o,v,M3 ⟨y,e⟩ e1,e2⟩
  ·obtain ⟨b1,b2⟩:=L.at_ _ hz
   have hm:=PySem.mem_of_lookup b2;have hcell:=L.free _ hm rfl;obtain ⟨m',hn',hl'⟩:=I3.loc;obtain ⟨u,r,lk⟩:=hl' j y v b1 hj (.inr (.inl hcell));rcases lk with lk | ⟨_,c2,e,o,z1,z2⟩
   ·rw [show X.env.kindOf y=some .cell from hcell] at lk
    cases lk.1
   ·obtain ⟨c3,e'⟩:=Option.isSome_iff_exists.mp (Eo (env:=X.env) scope.names [] y hm)
    rw [hcl] at e';have e2:=sub y c3 e';rw [e] at e2;cases e2;exact ⟨c2,o,u,e',M3 ⟨y,e'⟩ z1,z2,r⟩
  ·refine hbd i H4 hi.1 hi.2 fun b u hb e=>?_
   have e3:=sm b u hb e;exact k4 b u (fun hc=>by rw [n3 b hc] at e3;cases e3) (out b u e3)
 refine ⟨I3.kIn,?_⟩;show wpAny _ _ (call (.ref ff) [u1,u2,.ref f]) _ _ s3;have rv:Az [V.int lo,V.int hi,V.ref f] [u1,u2,.ref f]:=.cons r1 (.cons r2 (.cons rfl .nil));have hl:([u1,u2,Value.ref f]++[]).length=ps.length:=by
  have:=F.len [.int lo,.int hi,.ref f] (G4 H3 s3.heap cl) (fun _ _=>True) E0 ⟨lo,hi,f,p,rfl,hle,asks,fun _ _ _ _ _ _ _=>trivial⟩;exact this
 refine wpAny_call (codeAny_mono (F.run X.A X.stack s3 (G4 H3 s3.heap cl) ⟨[u1,u2,.ref f],[]⟩ ([u1,u2,.ref f]++[]) [.int lo,.int hi,.ref f] (fun v H'=>∃ m,v=.int m/\lo<=m/\m<=hi/\(lo<m->p (m-1)=false)/\(m<hi->p m=true)/\Am (G4 H3 s3.heap cl) H') E0 hr e0 (hb s3 _ I3.kIn hl) (by simpa using rv)
  ⟨lo,hi,f,p,rfl,hle,asks,fun m H' a1 a2 a3 a4 a5=>⟨m,rfl,a1,a2,a3,a4,a5⟩⟩) fun r s' hq=>?_)
 cases r with
 | error e=>exact hq.elim
 | ok fl =>
  cases fl with
  | next=>exact False.elim hq
  | brk=>exact False.elim hq
  | cont=>exact False.elim hq
  | ret u =>
   obtain ⟨v,H4,os,bare,un,hok,rr,m,ev,a1,a2,a3,a4,sm4⟩:=hq;subst ev;have c4:∀ b,InC cl b->∃ o,s3.heap.get? b=some o/\H4 b=some (.frz o (.own 0)):=fun b ⟨y,e⟩=>by
    obtain ⟨o,v,e1,_⟩:=cellAt y b e;exact ⟨o,e1,sm4 _ _ (M3 ⟨y,e⟩ e1)⟩
   have sm5:∀ b u,H3 b=some u->Hn H4 cl b=some u:=fun b u e=>by
    rw [Fb fun hb=>by rw [n3 b hb] at e;cases e];exact sm4 _ _ (out _ _ e)
   have un2:Un (frs X.stack) [] H3 (Hn H4 cl) s3.heap s'.heap:=by
    refine ⟨fun b o e n hf hx=>?_,fun b o e n hf hx=>?_,fun b o e n hx=>?_,fun b o e hx=>un.there b o e hx,fun b xs e=>sm5 _ _ e,fun b o u e=>sm5 _ _ e,fun b ps e=>⟨#[],by rw [Array.append_empty];exact sm5 _ _ e⟩⟩
    ·by_cases hb:InC cl b
     ·obtain ⟨o2,z1,z2⟩:=c4 b hb
      rw [e] at z1;cases z1;exact (hok _ _ z2).1
     ·exact un.keep b o e (by rw [C1 hb];exact n) hf hx
    ·have hb:¬ InC cl b:=fun hb=>nfr b hb hf
     exact un.slot b o e (by rw [C1 hb];exact n) hf hx
    ·by_cases hb:InC cl b
     ·exact Iw hb
     ·exact Ef (un.free b o e (by rw [C1 hb];exact n) hx)
   have hok2:HOk X.prog X.w (Hn H4 cl) s'.heap:=Xl hok fun b hb=>let ⟨o,_,z⟩:=c4 b hb;⟨o,_,z⟩;refine I3.after ⟨_,Hn H4 cl,os,bare,un2,hok2,rr,q2 m _ a1 a2 a3 a4 (fun b u hb e=>sm5 _ _ (sm b u hb e)) ?_⟩;obtain ⟨pps,t1,t2,t3⟩:=hT3;exact ⟨pps,sm5 _ _ t1,t2,t3.imp id fun ⟨c2,oc2,z1,z2,z3⟩=>⟨c2,oc2,z1,sm5 _ _ z2,z3⟩⟩
theorem qZ {g x qual:Str}{a b body:Expr}{ta tb te:TE}{q pos lpos:Pos}{c Pt:Addr}{ps N:List Str}{ix:List Nat}{kf k:Nat}{params:Arguments}{scope:Scope}
  (F:Cal X.prog X.w X.K X.mg X.base g kf ps (L3 X.prog X.w X.K X.mg X.base (k+1)))(hr:Cr kf X.A)(ha:PE X a ta)(hbb:PE X b tb)(C:CodeHd X.base c Pt)(hB:X.base.BuiltinsAt X.mg Pt)(hcode:X.env.code=.ref c)(hq:X.env.qual++"<lambda>"=qual)
  (L:Bg X.N X.env.scope scope x N ix)(hbody:∀ (cl:List (Str×Addr)) (f c':Addr) (A:Around) (outer:List Env) (s:Shared) (H1:Hp),Cr k (A.deeper (eQ qual scope cl s.heap.objs.size f (.ref c')))->PE (Ta X.prog X.w X.K X.mg X.base N qual scope cl f (.ref c') A outer s H1) body te)
  (hfn:X.fn=fun _=>true:=by rfl)(hg:Gl X g:=by rfl)(hco:scope.isCoroutine=false:=by rfl)(hgen:scope.isGenerator=false:=by rfl)(hdef:defaultsOf params X.env=([],[]):=by rfl)
  (hbind:∀ (cl:List (Str×Addr)) (pm cv ctv:Value) (n:Int) (t:Tok),bindArgs (kla_fn "<lambda>" qual params body scope cl pm cv ctv) ⟨[.int n t],[]⟩=pure [(x,.int n t)]:=by intros;rfl)
  (hdb:(g==("__debug__":Str))=false:=by decide)(he1:starEach [a,b,.Lambda params body scope lpos] X.env=(false,eval a X.env)::starEach [b,.Lambda params body scope lpos] X.env:=by rfl)(he2:starEach [b,.Lambda params body scope lpos] X.env=(false,eval b X.env)::starEach [.Lambda params body scope lpos] X.env:=by rfl)
  (he3:starEach [.Lambda params body scope lpos] X.env=[(false,eval (.Lambda params body scope lpos) X.env)]:=by rfl)(hpl:(backTo pos (starEach [b,.Lambda params body scope lpos] X.env)).any (·.1)=false:=by rfl) :
  PE X (.Call (.Name g q) [a,b,.Lambda params body scope lpos] [] pos) (Ze Pt lpos qual ix te ta tb):=by
 obtain ⟨f,fd,F,bb,hm,hk⟩:=F.ex;exact iC F hr hg hm hk bb ha hbb hfn C hB hcode hq L hco hgen hdef hbind hbody hdb he1 he2 he3 hpl
end
def ltV (x y:Value):Bool:=decide (numOf x<numOf y)
def ltJ (x y:Int):Bool:=decide (x<y)
section
variable {prog:Program} {w:World} {A:Around} {E:Value->Shared->Prop} {s:Shared}
theorem Q6 {a:Addr}{vs:List Value}{ns:List Int}{n:Nat}{R:Fin->Shared->Prop}(ho:s.heap.get? a=some (seqObj "list" vs.toArray n))(hi:IntsAre vs ns)(hz:vs.length<=sizeLine)
  (h:∀ out:Array Value,out.toList=As ltV vs->R (.done (.ret .none)) { s with heap:=sortedHeap s.heap a vs out }) :
  wpAny (model prog w) A (Builtin.«list.sort» ⟨[.ref a],[]⟩) R E s:=by
 rw [list_sort_plain];have ha:a<s.heap.objs.size:=Heap.lt_size ho;refine wpAny_bind (listItems_at ho rfl ?_);refine wpAny_bind (listUpdate_at ho rfl ?_ (by simpa using hz) (by simp));obtain ⟨e1,ho1⟩:∃ e1,(s.heap.update a (Obj.mapSeq fun _=>#[])).get? a=some (seqObj "list" #[] e1):=⟨_,get?_update_seq ho (fun _=>#[])⟩;refine wpAny_bind (seqEpoch_at ho1 rfl ?_);refine wpAny_bind (wpAny_newTuple ?_);refine wpAny_bind (wpAny_newList ?_);refine wpAny_holding ?_;have ho6:(((s.heap.update a (Obj.mapSeq fun _=>#[])).push (seqObj "tuple" vs.toArray 0)).push (seqObj "list" #[] 0)).get? a=some (seqObj "list" #[] e1):=by
  rw [Heap.get?_push_ne _ _ _ (by rw [size_push',Heap.size_update];exact Nat.ne_of_lt (Nat.lt_succ_of_lt ha)),Heap.get?_push_ne _ _ _ (by rw [Heap.size_update];exact Nat.ne_of_lt ha)];exact ho1
 show wpAny (model prog w) A _ R E { s with heap:=((s.heap.update a (Obj.mapSeq fun _=>#[])).push (seqObj "tuple" vs.toArray 0)).push (seqObj "list" #[] 0) };dsimp only;have hsz:vs.toArray.size=vs.length:=by simp
 have ez:(vs.toArray.zip vs.toArray).toList=vs.map fun v=>(v,v):=by
  rw [Array.toList_zip];generalize vs=l
  induction l with
  | nil=>rfl
  | cons x l ih=>exact congrArg _ ih
 have fin:∀ st':SortSt,(arrOf st').toList=As ltK (vs.map fun v=>(v,v))->R (.done (.ret .none)) { s with heap:=sortedHeap s.heap a vs ((arrOf st').map (·.2)) }:=fun st' e=>by
  refine h _ ?_;rw [Array.toList_map,e,Kp (lt:=ltV) (f:=fun v=>((v,v):Keyed)) fun _ _=>rfl,List.map_map];exact List.map_id _
 have szo:∀ st':SortSt,(arrOf st').toList=As ltK (vs.map fun v=>(v,v))->((arrOf st').map (·.2)).size<=sizeLine+1:=fun st' e=>by
  rw [Array.size_map,<- Array.length_toList,e,Cz,List.length_map];omega
 by_cases h2:vs.toArray.size<2
 ·rw [if_pos h2,if_pos h2]
  refine wpAny_bind (wpAny_pure ?_);rw [StateT.run_pure];refine wpAny_bind (wpAny_pure ?_);dsimp only;have e0:(arrOf (SortSt.mk' general' (vs.toArray.zip vs.toArray) #[] 7 none)).toList=As ltK (vs.map fun v=>(v,v)):=by
   show (vs.toArray.zip vs.toArray).toList=_;rw [ez];refine (Hc ?_).symm;have hl:(vs.map fun v=>((v,v):Keyed)).length<2:=by rw [List.length_map];omega
   exact pw_short hl
  refine wpAny_bind (seqEpoch_at ho6 rfl ?_);refine wpAny_bind (listUpdate_at ho6 rfl ?_ (hsz2:=szo _ e0));simp only [bne_self_eq_false,Bool.false_eq_true,if_false];exact wpAny_pure (fin _ e0)
 ·rw [if_neg h2,if_neg h2]
  rw [ksk_kind (keys:=vs.toArray) (kz:=ns) (by simpa using hi) (by omega)];refine wpAny_bind (wpAny_pure ?_);refine wpAny_bind (wpAny_mono (Lb (P:=fun x=>∃ n t,x.1=Value.int n t) Tn cR (l0:=vs.map fun v=>(v,v)) (st:=SortSt.mk' oneType' (vs.toArray.zip vs.toArray) #[] 7 none)
   (Q:=fun _ st'=>failedOf st'=none/\(arrOf st').toList=As ltK (vs.map fun v=>(v,v))) rfl rfl rfl ez (fun x hx=>?_) (by rw [List.length_map];omega) fun st' a1 a2=>⟨a1,a2⟩) ?_ fun _ _ e=>e)
  ·obtain ⟨v,hvm,rfl⟩:=List.mem_map.mp hx
   exact hi.all v hvm
  rintro ⟨⟨⟩,st'⟩ s' ⟨rfl,hf,hs⟩;dsimp only;refine wpAny_bind (seqEpoch_at ho6 rfl ?_);refine wpAny_bind (listUpdate_at ho6 rfl ?_ (hsz2:=szo _ hs));rw [hf];simp only [bne_self_eq_false,Bool.false_eq_true,if_false];exact wpAny_pure (fin st' hs)
end
theorem iL {vs:List Value}{ns:List Int}(h:IntsAre vs ns):IntsAre (As ltV vs) (As ltJ ns):=by
 have e:As ltJ ns=(As ltV vs).map numOf:=by
  rw [<- Kp (f:=numOf) (lt:=ltV) (lt':=ltJ) (fun _ _=>rfl),h.nums]
 rw [e];exact J8 _ fun v hv=>h.all _ ((Cn (lt:=ltV) vs).mem_iff.mp hv)
section
variable {X:Cx}
def qV (K:PySem.W.Frag):List V->Hp->VK->Prop:=fun xs H Q=>∃ (a:Addr) (ns:List Int),xs=[.ref a]/\SqL K H a (ns.map V.int)/\∀ p,H p=none->Q (.ref p) (upd H p (.lst ((As ltJ ns).map V.int)))
theorem Mm:Ep X (.builtin "sorted") (qV X.K):=by
 intro pins s σ H xs us Q I r h;obtain ⟨p,ns,rfl,hp,q⟩:=h;obtain ⟨u,rfl,ru⟩:=E7 r;cases ru;obtain ⟨its,rv,pl,hz⟩:=I.list hp;have hI:IntsAre its ns:=Kv rv;have hzL:its.length<=sizeLine:=by rw [hI.length];rw [List.length_map] at hz;exact hz
 refine Calls.call_function_entry kind_sorted plain_sorted entry_sorted (args_sorted1 _) ?_;unfold Builtin.«sorted»;refine wpAny_bind (m:=checkCount "sorted" 1 1 _) (wpAny_pure ?_);refine wpAny_bind (Xz pl.isList hzL _ _ fun h' tk hk hle=>?_);refine wpAny_bind (wpAny_newList ?_ hzL);have hoL:(h'.push (seqObj "list" its.toArray 0)).get? h'.objs.size=some (seqObj "list" its.toArray 0):=Heap.get?_push_size _ rfl;refine wpAny_bind (wpAny_holding (wpAny_call_entry slot_list_sort ⟨_,hoL,rfl⟩ entry_list_sort (Q6 hoL hI hzL fun out eo=>⟨_,rfl,?_⟩) (args_list_sort _)));refine wpAny_pure ⟨_,rfl,?_⟩;obtain ⟨e9,hat⟩:=sortedHeap_at (out:=out) hoL;have hfin:∀ b ob,s.heap.get? b=some ob->(sortedHeap (h'.push (seqObj "list" its.toArray 0)) h'.objs.size its out).get? b=some ob:=fun b ob e=>by
  have e':=hk b ob e;rw [sortedHeap_old (Nat.ne_of_lt (Heap.lt_size e')) (by rw [size_push'];exact Nat.lt_succ_of_lt (Heap.lt_size e'))];exact Heap.get?_push_of_some _ e'
 have hIo:IntsAre out.toList (As ltJ ns):=by rw [eo];exact iL hI
 refine ⟨.ref h'.objs.size,upd H h'.objs.size (.lst ((As ltJ ns).map V.int)),I.laid hfin hle ⟨?_,out.toList,e9,Kl hIo,?_⟩,rfl,q _ (I.hok.fresh hle)⟩
 ·rw [List.length_map,Cz];rw [List.length_map] at hz;exact hz
 ·exact hat
end
theorem Ol:isSubtype (.type "range_iterator") (.type "reversed")=pure false:=by rw [isSubtype_type];kernel_rfl
def L0 (n:Nat):Obj:={ cls:=.type "range_iterator",data:=.fields #[rawInt ((n:Int)-1),rawInt (n:Int),rawInt (-1)] }
section
variable {prog:Program} {w:World} {A:Around} {E:Value->Shared->Prop} {s:Shared}
theorem K0 {r:Addr}{n:Nat}{t u v:Tok}{Q:Value->Shared->Prop}(hr:IsRange s.heap r 0 n 1 t u v)(hn:n<=100000)
  (h:Q (.ref s.heap.objs.size) { s with heap:=s.heap.push (L0 n) }):wpAny (model prog w) A (call (.builtin "range.__reversed__") [.ref r]) Q E s:=by
 have hT:s.TypeIs (.ref r) "range":=⟨_,hr,rfl⟩;have e2:Builtin.Range.rangeSize 0 (n:Int) 1=n:=by rw [rangeSize_one];split<;>omega
 have hs:(Builtin.Range.rangeFitsLong 0&&Builtin.Range.rangeFitsLong (n:Int)&&Builtin.Range.rangeFitsLong 1&&Builtin.Range.rangeFitsLong (-1)&&Builtin.Range.rangeFitsLong (0-1)&&Builtin.Range.rangeFitsLong (n:Int))=true:=by
  simp only [Builtin.Range.rangeFitsLong,Bool.and_eq_true,decide_eq_true_eq];omega
 refine wpAny_call_entry F.slot_range_reversed hT F.entry_range_reversed ?_ (F.args_range_reversed_1 _);unfold Builtin.«range.__reversed__»;refine wpAny_bind (wpAny_of_eq (a:=Value.ref r) rfl ?_);refine wpAny_bind ?_;unfold Builtin.Range.rangeFields;refine wpAny_bind (wpAny_field hr rfl (x:=.int 0 t) rfl ?_);refine wpAny_bind (m:=asInt? (.int 0 t)) (wpAny_pure ?_);refine wpAny_bind (wpAny_field hr rfl (x:=.int n u) rfl ?_);refine wpAny_bind (m:=asInt? (.int n u)) (wpAny_pure ?_);refine wpAny_bind (wpAny_field hr rfl (x:=.int 1 v) rfl ?_);refine wpAny_bind ?_;show wpAny _ _ (pure (some (1:Int))) _ _ _;refine wpAny_pure ?_;show wpAny _ _ (pure ((0:Int),((n:Int),(1:Int)))) _ _ _;refine wpAny_pure ?_;dsimp only;rw [e2,hs];rw [if_neg (by decide)];refine wpAny_bind (wpAny_newObj_type ?_);refine wpAny_pure ⟨_,rfl,?_⟩;have e3:(0:Int)+((n:Int)-1)*1=(n:Int)-1:=by omega (splitDisjunctions := true)
 rw [e3];exact h
theorem Lg {r:Addr}{n:Nat}{t u v:Tok}{Q₁:Value->Shared->Prop}(hr:IsRange s.heap r 0 n 1 t u v)(hn:n<=100000)
    (h : Q₁ (.ref s.heap.objs.size) { s with heap := s.heap.push (L0 n) }) :
    codeAny (model prog w) A (.call (.builtin "reversed.__new__") ⟨[.type "reversed", .ref r], []⟩) (wants Q₁ E) s := by
  have hT : s.TypeIs (.ref r) "range" := ⟨_, hr, rfl⟩;refine codeAny_of_tree ?_;show wpAny _ A.in1 (do checkBuiltinCall "reversed.__new__" ⟨[.type "reversed", .ref r], []⟩; again (.builtin "reversed.__new__" ⟨[.type "reversed", .ref r], []⟩)) _ _ s;refine wpAny_bind (wpAny_of_eq (F.newCall_reversed_1 _) (wpAny_pure ⟨plainId_quiet F.plain_reversed_new _, codeAny_builtin F.entry_reversed_new ?_⟩));rw [Around.under_plainId F.plain_reversed_new _];unfold Builtin.«reversed.__new__»;refine wpAny_bind (wpAny_of_eq (newClass_reversed _) ?_)
  try dsimp only
  refine wpAny_bind (wpAny_of_eq (a := ()) (by first | rfl | kernel_rfl) ?_);refine wpAny_bind (wpAny_of_eq (a := ()) (by first | rfl | kernel_rfl) ?_)
  try dsimp only
  refine wpAny_bind (wpAny_specialOf hT F.slot_range_reversed.lookup ?_)
  try dsimp only
  refine wpAny_bind (wpAny_of_eq (F.slot_range_reversed.bind _) ?_)
  try dsimp only
  first
  | rw [if_neg (show ¬ ((Value.builtin "range.__reversed__" == Value.none) = true) from Bool.false_ne_true)]
  | (show wpAny _ _ (if (Value.builtin "range.__reversed__" == Value.none) = true then _ else _) _ _ _; rw [if_neg (show ¬ ((Value.builtin "range.__reversed__" == Value.none) = true) from Bool.false_ne_true)])
  refine wpAny_bind (wpAny_rule ?_);refine wpAny_bind (m := runValue (.call (.builtin "range.__reversed__") ⟨[.ref r], []⟩)) (show wpAny _ _ (call (.builtin "range.__reversed__") [.ref r]) _ _ _ from K0 hr hn ?_)
  first
  | exact wpAny_pure h
  | exact wpAny_bind (wpAny_pure (wpAny_pure h))
theorem K5 {r:Addr}{n:Nat}{t u v:Tok}{Q:Value->Shared->Prop}(hr:IsRange s.heap r 0 n 1 t u v)(hn:n<=100000)
  (h:Q (.ref s.heap.objs.size) { s with heap:=s.heap.push (L0 n) }):wpAny (model prog w) A (call (.type "reversed") [.ref r]) Q E s:=by
 refine callType_other (U:="range_iterator") (Q₁:=fun obj s₁=>obj=.ref s.heap.objs.size/\s₁={ s with heap:=s.heap.push (L0 n) }) (by decide +kernel) F.create_reversed ⟨_,_,F.mro_reversed⟩ F.made_reversed Ol (F.typeCall_reversed_1 _) (Lg hr hn ⟨rfl,rfl⟩) ?_;rintro obj s₁ ⟨rfl,rfl⟩;exact ⟨⟨_,Heap.get?_push_size _ rfl,rfl⟩,h⟩
end
theorem Se:bootBuiltins "reversed"=some (.type "reversed"):=by decide +kernel
section
variable {X:Cx} {tg:Expr}
def qI (ta:TA):TI:=fun σ H R=>ta σ H fun vs H1=>∃ n:Nat,vs=[.int n]/\n<=100000/\R (Pr ((n:Int)-1) (-1) n) H1
theorem rC {tA:TA}{σ:St}{H:Hp}{R:It->Hp->Prop}(h:tA σ H fun vs H1=>∃ n:Nat,vs=[.int n]/\n<=100000/\R (Pr ((n:Int)-1) (-1) n) H1):qI tA σ H R:=h
theorem nE {a:Expr}{ta:TA}{p q pos pos2:Pos}(hg:Gl X "reversed")(hm:X.mg "reversed"=none)(hg2:Gl X "range")(hm2:X.mg "range"=none)(ha:PA X [a] ta)(hs:starEach [a] X.env=[(false,eval a X.env)]:=by rfl)
  (hs3:starEach [Expr.Call (.Name "range" q) [a] [] pos2] X.env=[(false,eval (.Call (.Name "range" q) [a] [] pos2) X.env)]:=by rfl):PI X tg (.Call (.Name "reversed" p) [.Call (.Name "range" q) [a] [] pos2] [] pos) (qI ta):=by
 intro pins s σ H R I h;refine Call_ (Dq I hg hm Se (PyProof.Rows.callWith_type1 ?_ hs3 rfl));rw [hs3];refine Calls.spliced_cons ?_;show wpAny _ _ (eval (Expr.Call (.Name "range" q) [a] [] pos2) X.env) _ _ _;refine wpAny_Call_Name_kw (Dq I hg2 hm2 boot_range (PyProof.Rows.callWith_type1 (thn (ha pos2 pins s σ H _ I h) fun us s1 ⟨vs,H1,I1,r1,q1⟩=>?_) hs rfl) (by decide) (by decide));obtain ⟨n,e,hn,q⟩:=q1;subst e;obtain ⟨u,rfl,t,rfl⟩:=E7 r1;refine call_range_1 (Calls.spliced_nil ?_);refine K5 (IsRange.new ..) hn ?_;have I2:Inv X pins σ H1 { s1 with heap:=s1.heap.push { cls:=.type "range",data:=.fields #[.int 0 s1.toks,.int n t,.int 1 (s1.toks+1)] },toks:=s1.toks+1+1 }:=I1.kept fun b o e=>Heap.get?_push_of_some _ e;refine wpAny_pyIter_rangeiter (x:=(n:Int)-1) (left:=n) (step:=-1) (Heap.get?_push_size _ rfl) ?_;refine ⟨_,[_],_,_,H1,rfl,I2.kept (t':=s1.toks+1+1) fun b o e=>Heap.get?_push_of_some _ e,Jz _ ((n:Int)-1) (-1) n,?_,fun b hb=>?_,q⟩
 ·have e1:(n:Int)-1+((0:Nat):Int)*(-1)=(n:Int)-1:=by simp
  have e2:((n:Nat):Int)-((0:Nat):Int)=(n:Int):=by simp
  show IsRangeIter _ _ ((n:Int)-1+((0:Nat):Int)*(-1)) (((n:Nat):Int)-((0:Nat):Int)) (-1);rw [e1,e2];exact Heap.get?_push_size _ rfl
 ·have e:=List.mem_singleton.mp hb
  subst e;exact I2.fpOk (Nat.le_refl _) (I2.hok.fresh (Nat.le_refl _))
end
end L2
end
section
namespace HD
open PySem PySem.W PySem.Calls PyProof.Rows
def Go (tb:String->Option Builtin)(p:Program)(w:World)(m:Nat)(ann:Option Value):Nat->SharedT->Thread->Option SharedT
 | 0,_,_=>none
 | n+1,s,t=>match through t with
  | true=>some s
  | false=>match stepOk m ann t with
   | false=>none
   | true=>match stepT (denote tb) p w s t with
    | some (s',t')=>Go tb p w m ann n s' t'
    | none=>none
theorem Sl {tb:String->Option Builtin}{p:Program}{w:World}{m:Nat}{ann:Option Value}:∀ {n:Nat} {s s':SharedT} {t:Thread},Go tb p w m ann n s t=some s'->topRun tb p w m ann n s.abs t=some s'.abs
 | 0,_,_,_,h=>by cases h
 | n+1,s,s',t,h=>by
  unfold Go at h;unfold topRun
  cases he:through t with
  | true=>rw [he] at h;cases h;rfl
  | false =>
   rw [he] at h
   cases hk:stepOk m ann t with
   | false=>rw [hk] at h;cases h
   | true =>
    rw [hk] at h
    cases hs:stepT (denote tb) p w s t with
    | none=>rw [hs] at h;cases h
    | some r=>obtain ⟨s₂,t₂⟩:=r;rw [hs] at h;rw [stepT_spec hs];exact Sl h
def hX:List Obj->Nat->BT->BT
 | [],_,t=>t
 | o::l,n,t=>hX l (n+1) (t.ins n o)
noncomputable def Py (P:Params):BT:=hX (boot_heap P).objs.toList 0 .nil
def bootSize:Nat:=11
noncomputable def bootT (w:World) (os:OsState):SharedT:=⟨Py w.params,bootSize,(boot_heap w.params).life,#[],boot_drawn,boot_toks,os⟩
def Zo {α:Type}(Yf:Shared->α)(h0:Heap)(p q:Program)(loose:List Str)(s:Shared) :=
 (staticsOk (importedModules p.main.body) h0 s.heap&&namesBound p s.heap&&gensDone s&&laidKept h0 s.heap,
  openSeen q loose (importedModules p.main.body) (fun _=>true) true s,Yf s)
def bothT {α:Type}(Yf:Shared->α)(s0:SharedT)(h0:Heap)(m:Nat)(p q:Program)(loose:List Str)(M:Nat)(w:World) :=
 (Go treeTable p w m (some (.ref 6)) M s0 (topStub p)).map fun s=>Zo Yf h0 p q loose s.abs
theorem jJ (P:Params):absHeap (Py P) bootSize (boot_heap P).life=boot_heap P:=by kernel_rfl
theorem eV (P:Params):((boot_heap P).isNs mainGlobals&&(#[]:Array GenState).size==0,(boot_heap P).objs.size,(boot_heap P).nsMap mainGlobals "__annotations__")=(true,bootSize,some (.ref 6)):=by kernel_rfl
theorem oZ {p q:Program}{loose:List Str}{α:Type}{Yf:Shared->α}{Ya:World->α}{M N:Nat}(e:opening p=plainProg p.main.scope.names)(f:∀ s,fenceModules? p s=some s)(hN:Nat.ble 600 N=true)(le:Nat.ble M N=true)
  (Pc:∀ w:World,(fun os=>bothT Yf (bootT w os) (boot_heap w.params) bootSize p q loose M w)=fun _=>some (true,openGood q loose,Ya w)) :
  LeftO p q loose (fun _=>true) Yf Ya N:=fun w=>by
 obtain ⟨⟨h,gs,d,k,os⟩,e1,e'⟩:=Option.map_eq_some_iff.mp (boot_open e hN f w);obtain ⟨rfl,rfl,rfl,rfl⟩:h=boot_heap w.params/\gs=Array.mk []/\d=boot_drawn/\k=boot_toks:=by simpa using e'
 have b:=congrFun (Pc w) os;unfold bothT at b;obtain ⟨s,r,l⟩:=Option.map_eq_some_iff.mp b;have r2:=Sl r;have r3:=topRun_mono (N-M) _ _ _ _ r2;rw [show M+(N-M)=N by have:=Nat.le_of_ble_eq_true le;omega] at r3;have eb:(bootT w os).abs=⟨boot_heap w.params,Array.mk [],boot_drawn,boot_toks,os⟩:=by
  show Shared.mk (absHeap (Py w.params) bootSize (boot_heap w.params).life) (Array.mk []) boot_drawn boot_toks os=_;rw [jJ]
 rw [eb] at r3;obtain ⟨z1,z2,z3⟩:_/\_/\_:=by simpa only [Prod.mk.injEq] using eV w.params
 obtain ⟨l1,l2,l3⟩:_/\_/\_:=by simpa only [Zo,Prod.mk.injEq] using l
 have t:topFrom treeTable p w N ⟨boot_heap w.params,Array.mk [],boot_drawn,boot_toks,os⟩=some s.abs:=by
  unfold topFrom;dsimp only;rw [z1,z2,z3,r3];show (match staticsOk (importedModules p.main.body) (boot_heap w.params) s.abs.heap&&namesBound p s.abs.heap&&gensDone s.abs&&laidKept (boot_heap w.params) s.abs.heap with | true=>_ | false=>_)=_;rw [l1]
 unfold openEnds;rw [e1];show (topFrom treeTable p w N _).map _=_;rw [t];exact congrArg some (Prod.ext l2 l3)
def recOf:Stmt->DefRec
 | .FunctionDef n a b _ _ _ sc _ _ pos=>⟨n,a,b,sc,pos⟩
 | _=>⟨"",default,[],default,default⟩
end HD
lay_quick HD.bothT
end
section
namespace L2
open PySem PySem.Spec PyProof.Rows
theorem N1 {X:Cx}:wC X (oO X.K):=by
 intro pins s σ H x y v u Q I rx ry h;obtain ⟨p,xs,i,z,rfl,rfl,hq,he,q⟩:=h;cases rx;obtain ⟨t,rfl⟩:=ry;obtain ⟨its,r,pl,hz⟩:=I.list hq;obtain ⟨j,h1,h2,h3,h4,h5⟩:=Uo he;obtain ⟨w,ew,rw'⟩:=r.get h2;have hl:=r.length;have hn:=Jm;have fin:EP X pins σ Q w s:=⟨z,H,I,rw',q⟩
 by_cases h0:0<=i
 ·have hj:i.toNat=j:=by
   rw [seqIndex_of h0 h5] at h1;exact Option.some.inj h1
  exact wpAny_getItem_list pl.isList h0 (by omega) (by rw [hj];simpa using ew) fin
 ·have hj:(i+(its.toArray.size:Int)).toNat=j:=by
   rw [seqIndex_neg (by omega) h4] at h1;rw [List.size_toArray,<- hl];exact Option.some.inj h1
  exact wpAny_getItem_list_neg pl.isList (by omega) (by rw [List.size_toArray]<;>omega) (by omega) (by rw [hj];simpa using ew) fin
section
variable {to ti te:TE} {tget:V->V->Hp->VK->Prop} {tip:TIp} {tset:Xg} {D:K4} {σ:St} {H:Hp}
theorem sI (h:to σ H fun o H1=>ti σ H1 fun i H2=>tget o i H2 fun x H3=>te σ H3 fun y H4=>tip x y H4 fun z H5=>tset o i z H5 fun H6=>D.nx σ H6):pQ to ti te tget tip tset D σ H:=h
end
end L2
end
section
namespace TW
open PySem PySem.StrLaws PySem.Builtin.Str
end TW
end
section
namespace TW
def Gd:Nat->List Nat->Prop
 | h,[]=>h=0
 | h,n::r=>0<h/\Gd (h+n-1) r
theorem Gd.at:∀ {ns:List Nat} {h:Nat},Gd h ns->∀ i,i<ns.length->i<h+(ns.take i).sum
 | [],h,g,i,hi=>by cases hi
 | n::r,h,⟨h1,h2⟩,0,hi=>by simpa using h1
 | n::r,h,⟨h1,h2⟩,i+1,hi=>by
  have:=h2.at i (by simpa using hi);rw [List.take_succ_cons,List.sum_cons];omega
theorem pM:∀ {ns:List Nat} {h:Nat},ns.length=h+ns.sum->(∀ i,i<ns.length->i<h+(ns.take i).sum)->Gd h ns
 | [],h,e,_=>by
  show h=0;simp at e;omega
 | n::r,h,e,g=>by
  have g0:=g 0 (by simp);rw [List.length_cons,List.sum_cons] at e;have g0:0<h:=by simpa using g0
  refine ⟨g0,pM (by omega) fun i hi=>?_⟩;have:=g (i+1) (by simpa using hi);rw [List.take_succ_cons,List.sum_cons] at this;omega
def pre (ns:List Nat)(g:Nat):Nat:=(ns.take g).sum
theorem Pm {ns:List Nat}{g:Nat}(h:g<ns.length):pre ns (g+1)=pre ns g+ns[g]:=by
 unfold pre;rw [List.take_add_one,List.getElem?_eq_getElem h,List.sum_append];simp
theorem kF (ns:List Nat){a b:Nat}(h:a<=b):pre ns a<=pre ns b:=by
 unfold pre;have e:ns.take a=(ns.take b).take a:=by rw [List.take_take,Nat.min_eq_left h]
 rw [e];generalize ns.take b=l;have:=congrArg List.sum (List.take_append_drop a l);rw [List.sum_append] at this;omega
theorem U2 (ns:List Nat)(a:Nat):pre ns a<=ns.sum:=by
 have:=congrArg List.sum (List.take_append_drop a ns);rw [List.sum_append] at this;unfold pre;omega
def F6 (a b:Nat):List Nat:=(List.range (a-b)).map fun i=>a-i
theorem L7 (a b:Nat):(F6 a b).length=a-b:=by unfold F6;rw [List.length_map,List.length_range]
theorem Wv {a b x:Nat}(h:x∈F6 a b):b<x/\x<=a:=by
 obtain ⟨i,hi,rfl⟩:=List.mem_map.mp h;have:=List.mem_range.mp hi;omega
def lvS (ns:List Nat)(s:List Nat×List Nat):List Nat×List Nat :=
 match s.2 with
 | []=>s
 | g::w=>(s.1++[ns.getD g 0],(F6 (pre ns (g+1)) (pre ns g)).reverse++w)
def lvN (ns:List Nat):Nat->List Nat×List Nat
 | 0=>([],[0])
 | m+1=>lvS ns (lvN ns m)
end TW
namespace TW
end TW
end
section
namespace TW
theorem cY {ds:List Nat}(h:Dok ds):∀ k,k<=ds.length->opn ds k<=k
 | 0,_=>Nat.le_refl _
 | k+1,hk=>by
  have:=h k (by omega);have:=cY h k (by omega);show dAt ds k+1<=k+1;omega
theorem Yx {ds:List Nat}(h:Dok ds){k:Nat}(hk:k<ds.length):dAt ds k<=k:=Nat.le_trans (h k hk) (cY h k (by omega))
theorem Uk {ds:List Nat}(h:Dok ds):∀ (k p v:Nat),k<=ds.length->(way ds k)[p+1]?=some (v:Int)->∀ j,v<j->j<k->p<dAt ds j
 | 0,p,v,_,e,j,_,hj=>by cases hj
 | k+1,p,v,hk,e,j,h1,h2=>by
  have e:((way ds k).take (dAt ds k+1)++[(k:Int)])[p+1]?=some (v:Int):=e;have hl:=Cj h k (by omega);have hd:=h k (by omega);have hl2:((way ds k).take (dAt ds k+1)).length=dAt ds k+1:=by rw [List.length_take];omega
  by_cases hp:p+1<dAt ds k+1
  ·rw [List.getElem?_append_left (by omega),List.getElem?_take_of_lt hp] at e
   by_cases hjk:j=k
   ·subst hjk;omega
   ·exact Uk h k p v (by omega) e j h1 (by omega)
  ·rw [List.getElem?_append_right (by omega),hl2] at e
   have e0:p+1-(dAt ds k+1)=0:=by
    have:=(List.getElem?_eq_some_iff.mp e).1;simp only [List.length_cons,List.length_nil] at this;omega
   rw [e0] at e;have e:=Option.some.inj e;omega
theorem T7 {ds:List Nat}(h:Dok ds){k:Nat}(hk:k<ds.length):eld ds k<k:=by
 by_cases e:eld ds k=-1
 ·omega
 ·obtain ⟨v,e1,e2,_⟩:=Ex h hk e
  omega
theorem gA {ds:List Nat}(h:Dok ds){k d:Nat}(hk:k<ds.length)(hd:dAt ds k=d+1):∃ v:Nat,eld ds k=(v:Int)/\v<k/\dAt ds v=d/\∀ j,v<j->j<k->d<dAt ds j:=by
 have e:=Jc h hk;rw [hd] at e;obtain ⟨v,e1,e2,e3⟩:=Nh h k d _ (by omega) e;refine ⟨v,e1,e2,e3,Uk h k d v (by omega) (by rw [e,e1])⟩
def A7 (ds:List Nat)(k:Nat)(v:Int):List Nat:=(List.range k).filter fun j=>decide (eld ds j=v)
theorem bM (ds:List Nat)(k:Nat)(v:Int):(A7 ds k v).length<=k:=by
 unfold A7;exact Nat.le_trans (List.length_filter_le ..) (by rw [List.length_range];exact Nat.le_refl _)
theorem Ke {ds:List Nat}{k:Nat}{v:Int}(h:eld ds k=v):A7 ds (k+1) v=A7 ds k v++[k]:=by
 unfold A7;rw [List.range_succ,List.filter_append,List.filter_cons_of_pos (by simpa using h)];rfl
theorem L6 {ds:List Nat}{k:Nat}{v:Int}(h:eld ds k≠v):A7 ds (k+1) v=A7 ds k v:=by
 unfold A7;rw [List.range_succ,List.filter_append,List.filter_cons_of_neg (by simpa using h)];simp
theorem Mi {ds:List Nat}{k j:Nat}{v:Int}:j∈A7 ds k v↔j<k/\eld ds j=v:=by
 unfold A7;rw [List.mem_filter,List.mem_range];simp
theorem fT {ds:List Nat}(h:Dok ds){k v:Nat}(hk:k<=ds.length)(hv:k<=v+1):A7 ds k v=[]:=by
 apply List.eq_nil_iff_forall_not_mem.mpr;intro j hj;obtain ⟨h1,h2⟩:=Mi.mp hj;have:=T7 h (k:=j) (by omega);omega
def lev (ds:List Nat)(k d:Nat):List Nat:=(List.range k).filter fun j=>decide (dAt ds j=d)
theorem Md {ds:List Nat}{k d:Nat}(h:dAt ds k=d):lev ds (k+1) d=lev ds k d++[k]:=by
 unfold lev;rw [List.range_succ,List.filter_append,List.filter_cons_of_pos (by simpa using h)];rfl
theorem Jb {ds:List Nat}{k d:Nat}(h:dAt ds k≠d):lev ds (k+1) d=lev ds k d:=by
 unfold lev;rw [List.range_succ,List.filter_append,List.filter_cons_of_neg (by simpa using h)];simp
theorem E6 {ds:List Nat}{k j d:Nat}:j∈lev ds k d↔j<k/\dAt ds j=d:=by
 unfold lev;rw [List.mem_filter,List.mem_range];simp
theorem Xd {ds:List Nat}{v d:Nat}:∀ k,v<=k->(∀ j,v<=j->j<k->dAt ds j≠d)->lev ds k d=lev ds v d
  | 0, hv, _ => by obtain rfl : v = 0 := by omega
                   rfl
  | k + 1, hv, hj => by
    by_cases e : v = k + 1
    · rw [e]
    · rw [Jb (hj k (by omega) (by omega))]
      exact Xd k (by omega) fun j h1 h2 => hj j h1 (by omega)
theorem jU {ds:List Nat}(h:Dok ds){k d:Nat}(hk:k<ds.length)(hd:dAt ds k=d+1):∃ v:Nat,eld ds k=(v:Int)/\lev ds k d=lev ds v d++[v]/\v<k:=by
 obtain ⟨v,e1,e2,e3,e4⟩:=gA h hk hd;refine ⟨v,e1,?_,e2⟩;rw [Xd (v:=v+1) k (by omega) (fun j h1 h2=>by have:=e4 j (by omega) h2;omega),Md e3]
theorem Yh {ds:List Nat}(h:Dok ds):∀ k,k<=ds.length->lev ds k 0=A7 ds k (-1)
 | 0,_=>rfl
 | k+1,hk=>by
  have ih:=Yh h k (by omega)
  by_cases e:dAt ds k=0
  ·have e2:eld ds k=-1:=by
    have e1:=Jc h (k:=k) (by omega);rw [e,F5 h k (by omega)] at e1;exact (Option.some.inj e1).symm
   rw [Md e,Ke e2,ih]
  ·have e2:eld ds k≠-1:=fun e1=>e (Ux h (by omega) e1)
   rw [Jb e,L6 e2,ih]
theorem Gi {ds:List Nat}{k:Nat}:∀ {l:List Nat},(∀ v∈l,eld ds k≠(v:Int))->(l.map fun v:Nat=>A7 ds (k+1) v)=l.map fun v:Nat=>A7 ds k v
 | [],_=>rfl
 | v::l,h=>by
  rw [List.map_cons,List.map_cons,L6 (h v (by simp)),Gi fun w hw=>h w (by simp [hw])]
theorem Xm {ds:List Nat}(h:Dok ds)(d:Nat):∀ k,k<=ds.length->lev ds k (d+1)=((lev ds k d).map fun v:Nat=>A7 ds k v).flatten
 | 0,_=>rfl
 | k+1,hk=>by
  have ih:=Xm h d k (by omega)
  by_cases e1:dAt ds k=d+1
  ·obtain ⟨v,v1,v2,v3⟩:=jU h (k:=k) (by omega) e1
   rw [Md e1,ih,Jb (by omega),v2,List.map_append,List.map_append,List.flatten_append,List.flatten_append];rw [Gi (l:=lev ds v d) fun w hw e=>by
    have:=E6.mp hw;omega]
   show _++(A7 ds k v++[])++[k]=_++(A7 ds (k+1) v++[]);rw [Ke v1];simp
  ·by_cases e2:dAt ds k=d
   ·rw [Jb e1,Md e2,List.map_append,List.flatten_append]
    rw [Gi (l:=lev ds k d) fun w hw e=>by
     have hw:=E6.mp hw;have e3:eld ds k≠-1:=by omega
     obtain ⟨v,v1,v2,v3⟩:=Ex h (k:=k) (by omega) e3;obtain rfl:v=w:=by omega
     omega,<- ih]
    show _=_++(A7 ds (k+1) k++[]);rw [fT h hk (by omega)];simp
   ·rw [Jb e1,Jb e2]
    rw [Gi (l:=lev ds k d) fun w hw e=>by
     have hw:=E6.mp hw;have e3:eld ds k≠-1:=by omega
     obtain ⟨v,v1,v2,v3⟩:=Ex h (k:=k) (by omega) e3;obtain rfl:v=w:=by omega
     omega,<- ih]
def lvo (ds:List Nat)(k D:Nat):List Nat:=((List.range D).map (lev ds k)).flatten
theorem Eb (ds:List Nat)(k D:Nat):lvo ds k (D+1)=lvo ds k D++lev ds k D:=by
 unfold lvo;rw [List.range_succ,List.map_append,List.flatten_append];simp
theorem Wt {ds:List Nat}(h:Dok ds){k:Nat}(hk:k<=ds.length):∀ D,lvo ds k (D+1)=A7 ds k (-1)++((lvo ds k D).map fun v:Nat=>A7 ds k v).flatten
 | 0=>by
  rw [Eb];show []++lev ds k 0=_++[].flatten;rw [Yh h k hk];simp
 | D+1=>by
  have ih:=Wt h hk D;have e:=Eb ds k D;rw [e,List.map_append,List.flatten_append,<- List.append_assoc,<- ih,<- Xm h D k hk];exact Eb ds k (D+1)
theorem lJ {ds:List Nat}(h:Dok ds){k D:Nat}(hk:k<=ds.length)(hD:k<=D):lev ds k D=[]:=by
 apply List.eq_nil_iff_forall_not_mem.mpr;intro j hj;obtain ⟨h1,h2⟩:=E6.mp hj;have:=Yx h (k:=j) (by omega);omega
theorem Wb {ds:List Nat}(h:Dok ds){k:Nat}(hk:k<=ds.length):∀ D,k<=D->lvo ds k D=lvo ds k k
  | 0, hD => by obtain rfl : k = 0 := by omega
                rfl
  | D + 1, hD => by
    by_cases e : k = D + 1
    · rw [<- e]
    · rw [Eb, lJ h hk (by omega), List.append_nil]
      exact Wb h hk D (by omega)
theorem mP {ds:List Nat}(h:Dok ds){k:Nat}(hk:k<=ds.length):lvo ds k k=A7 ds k (-1)++((lvo ds k k).map fun v:Nat=>A7 ds k v).flatten:=by
 rw [<- Wt h hk k];exact (Wb h hk (k+1) (by omega)).symm
theorem fW {ds:List Nat}{k:Nat}:∀ D,D<=dAt ds k->lvo ds (k+1) D=lvo ds k D
 | 0,_=>rfl
 | D+1,hD=>by rw [Eb,Eb,fW D (by omega),Jb (by omega)]
def ltZ (x y:Int×Int):Bool:=decide (x.1<y.1)
theorem Nd (ds:List Nat)(k d:Nat):∀ e,lvo ds k (d+e)=lvo ds k d++((List.range e).map fun i=>lev ds k (d+i)).flatten
 | 0=>by simp
 | e+1=>by
  rw [show d+(e+1)=d+e+1 by omega,Eb,Nd ds k d e,List.range_succ,List.map_append,List.flatten_append];simp
theorem gX {ds:List Nat}{k D:Nat}(hD:dAt ds k<D):∃ A B,lvo ds k D=A++B/\lvo ds (k+1) D=A++k::B/\(∀ j∈A,dAt ds j<=dAt ds k)/\∀ j∈B,dAt ds k<dAt ds j:=by
 obtain ⟨e,rfl⟩:∃ e,D=dAt ds k+1+e:=⟨D-(dAt ds k+1),by omega⟩;have e2:((List.range e).map fun i=>lev ds (k+1) (dAt ds k+1+i))=(List.range e).map fun i=>lev ds k (dAt ds k+1+i) :=
  List.map_congr_left fun i _=>Jb (by omega)
 refine ⟨lvo ds k (dAt ds k+1),((List.range e).map fun i=>lev ds k (dAt ds k+1+i)).flatten,Nd ..,?_,?_,?_⟩
 ·rw [Nd,Eb,fW _ (Nat.le_refl _),Md rfl,e2,Eb,List.append_assoc,List.append_assoc,List.append_assoc]
  rfl
 ·intro j hj
  unfold lvo at hj;obtain ⟨l,hl,hjl⟩:=List.mem_flatten.mp hj;obtain ⟨d,hd,rfl⟩:=List.mem_map.mp hl;have:=List.mem_range.mp hd;have:=E6.mp hjl;omega
 ·intro j hj
  obtain ⟨l,hl,hjl⟩:=List.mem_flatten.mp hj;obtain ⟨i,hd,rfl⟩:=List.mem_map.mp hl;have:=E6.mp hjl;omega
theorem P0 {ds:List Nat}(h:Dok ds):∀ k,k<=ds.length->As ltZ ((List.range k).map fun j:Nat=>((dAt ds j:Int),(j:Int)))=(lvo ds k ds.length).map fun j:Nat=>((dAt ds j:Int),(j:Int))
 | 0,_=>by
  have:lvo ds 0 ds.length=[]:=by
   apply List.eq_nil_iff_forall_not_mem.mpr;intro j hj;unfold lvo at hj;obtain ⟨l,hl,hjl⟩:=List.mem_flatten.mp hj;obtain ⟨d,hd,rfl⟩:=List.mem_map.mp hl;have:=E6.mp hjl;omega
  rw [this];rfl
 | k+1,hk=>by
  obtain ⟨A,B,e1,e2,e3,e4⟩:=gX (ds:=ds) (k:=k) (D:=ds.length) (by have:=Yx h (k:=k) (by omega);omega);rw [List.range_succ,List.map_append];show As ltZ (_++[((dAt ds k:Int),(k:Int))])=_;rw [Cm,P0 h k (by omega),e1,e2,List.map_append,Du,List.map_append,List.map_cons]
  ·congr 1
   have:=Df (lt:=ltZ) (xs:=B.map fun j:Nat=>((dAt ds j:Int),(j:Int))) (bs:=[((dAt ds k:Int),(k:Int))]) (ys:=[]) (fun b hb x hx=>by
    rw [List.mem_singleton.mp hb];obtain ⟨j,hj,rfl⟩:=List.mem_map.mp hx;have:=e4 j hj;exact decide_eq_true (by show (dAt ds k:Int)<dAt ds j;omega))
   rw [List.append_nil] at this;rw [this,Bo];rfl
  ·intro a ha y hy
   rw [List.mem_singleton.mp hy];obtain ⟨j,hj,rfl⟩:=List.mem_map.mp ha;have:=e3 j hj;exact decide_eq_false (by show ¬ (dAt ds k:Int)<dAt ds j;omega)
end TW
namespace TW
theorem Kt {ds:List Nat}(h:Dok ds):(lvo ds ds.length ds.length).length=ds.length:=by
 have e:=congrArg List.length (P0 h ds.length (Nat.le_refl _));rw [Cz,List.length_map,List.length_range,List.length_map] at e;exact e.symm
theorem cX (ds:List Nat)(k:Nat):∀ D,(lvo ds k D).Pairwise fun a b=>dAt ds a<=dAt ds b
 | 0=>List.Pairwise.nil
 | D+1=>by
  rw [Eb,List.pairwise_append];refine ⟨cX ds k D,?_,fun a ha b hb=>?_⟩
  ·refine List.Pairwise.imp_of_mem (R:=fun a b=>True) (fun ha hb _=>?_) ?_
   ·rw [(E6.mp ha).2,(E6.mp hb).2]
    exact Nat.le_refl _
   ·exact List.pairwise_of_forall fun _ _=>trivial
  ·unfold lvo at ha
   obtain ⟨l,hl,hjl⟩:=List.mem_flatten.mp ha;obtain ⟨d,hd,rfl⟩:=List.mem_map.mp hl;have:=List.mem_range.mp hd;rw [(E6.mp hjl).2,(E6.mp hb).2];omega
def gsL (ds:List Nat):List Nat:=(A7 ds ds.length (-1)).length::(lvo ds ds.length ds.length).map fun v:Nat=>(A7 ds ds.length v).length
def gsC (ds:List Nat):List Nat:=(A7 ds ds.length (-1)).length::(List.range ds.length).map fun v:Nat=>(A7 ds ds.length v).length
def Ls (ds:List Nat):List (List Nat):=A7 ds ds.length (-1)::(lvo ds ds.length ds.length).map fun v:Nat=>A7 ds ds.length v
theorem Ld (ds:List Nat):gsL ds=(Ls ds).map List.length:=by
 unfold gsL Ls;rw [List.map_cons,List.map_map];rfl
theorem T3 {ds:List Nat}(h:Dok ds):(Ls ds).flatten=lvo ds ds.length ds.length:=by
 unfold Ls;rw [List.flatten_cons];exact (mP h (Nat.le_refl _)).symm
theorem Mv:∀ (L:List (List Nat)) (g:Nat),g<L.length->(L.flatten.drop (pre (L.map List.length) g)).take ((L.getD g []).length)=L.getD g []
 | [],g,hg=>by cases hg
 | a::L,0,_=>by
  show (((a::L).flatten).drop 0).take a.length=a;rw [List.drop_zero,List.flatten_cons,List.take_left' rfl]
 | a::L,g+1,hg=>by
  have ih:=Mv L g (by simpa using hg);have e:pre ((a::L).map List.length) (g+1)=a.length+pre (L.map List.length) g:=by
   unfold pre;rw [List.map_cons,List.take_succ_cons,List.sum_cons]
  rw [e,List.flatten_cons,List.drop_append,List.drop_of_length_le (by omega),List.nil_append,Nat.add_sub_cancel_left,List.getD_cons_succ];exact ih
theorem Er {ds:List Nat}(h:Dok ds):(gsL ds).length=ds.length+1/\(gsL ds).sum=ds.length:=by
 constructor
 ·unfold gsL
  rw [List.length_cons,List.length_map,Kt h]
 ·rw [Ld,<- List.length_flatten,T3 h,Kt h]
theorem iA (ns:List Nat)(s:Nat):∀ m i,pre ns i<=s->s<pre ns (i+m)->∃ g,i<=g/\g<i+m/\pre ns g<=s/\s<pre ns (g+1)
 | 0,i,h1,h2=>by rw [Nat.add_zero] at h2;omega
 | m+1,i,h1,h2=>by
  by_cases h:s<pre ns (i+1)
  ·exact ⟨i,Nat.le_refl _,by omega,h1,h⟩
  ·obtain ⟨g,a1,a2,a3,a4⟩:=iA ns s m (i+1) (by omega) (by rw [show i+1+m=i+(m+1) by omega];exact h2)
   exact ⟨g,by omega,by omega,a3,a4⟩
theorem iH {ds:List Nat}{g:Nat}(hg:g<ds.length)(h:Dok ds):(Ls ds).getD (g+1) []=A7 ds ds.length ((lvo ds ds.length ds.length).getD g 0:Nat):=by
 unfold Ls;rw [List.getD_cons_succ];unfold List.getD;rw [List.getElem?_map,List.getElem?_eq_getElem (by rw [Kt h];exact hg)];rfl
theorem kG {ds:List Nat}(h:Dok ds):Gd 1 (gsL ds):=by
 obtain ⟨hl,hs⟩:=Er h;refine pM (by omega) fun i hi=>?_;show i<1+pre (gsL ds) i
 by_cases hc:i<=pre (gsL ds) i
 ·omega
 ·exfalso
  have hs2:pre (gsL ds) (i+(ds.length+1-i))=ds.length:=by
   rw [show i+(ds.length+1-i)=(gsL ds).length by omega];unfold pre;rw [List.take_of_length_le (Nat.le_refl _),hs]
  obtain ⟨g,g1,g2,g3,g4⟩:=iA (gsL ds) (pre (gsL ds) i) (ds.length+1-i) i (Nat.le_refl _) (by omega);generalize hsd:pre (gsL ds) i=s at *;have hg0:0<g:=by omega
  obtain ⟨g',rfl⟩:∃ g',g=g'+1:=⟨g-1,by omega⟩;have sl:=Mv (Ls ds) (g'+1) (by rw [<- List.length_map (f:=List.length),<- Ld];omega);rw [<- Ld,T3 h,iH (by omega) h] at sl;have hgl:g'+1<(gsL ds).length:=by omega
  have hps:=Pm hgl;have hgv:(gsL ds)[g'+1]=(A7 ds ds.length ((lvo ds ds.length ds.length).getD g' 0:Nat)).length:=by
   have e:(gsL ds)[g'+1]?=some ((A7 ds ds.length ((lvo ds ds.length ds.length).getD g' 0:Nat)).length):=by
    unfold gsL List.getD;rw [List.getElem?_cons_succ,List.getElem?_map,List.getElem?_eq_getElem (by rw [Kt h];omega)];rfl
   rw [List.getElem?_eq_getElem hgl] at e;exact Option.some.inj e
  have hol:=Kt h
  -- the knot at s
  have hso:s<(lvo ds ds.length ds.length).length:=by omega
  have hmem:(lvo ds ds.length ds.length)[s]∈A7 ds ds.length ((lvo ds ds.length ds.length).getD g' 0:Nat):=by
   rw [<- sl];refine List.mem_iff_getElem?.mpr ⟨s-pre (gsL ds) (g'+1),?_⟩;rw [List.getElem?_take_of_lt (by omega),List.getElem?_drop,show pre (gsL ds) (g'+1)+(s-pre (gsL ds) (g'+1))=s by omega];exact List.getElem?_eq_getElem hso
  obtain ⟨m1,m2⟩:=Mi.mp hmem;have hgo:g'<(lvo ds ds.length ds.length).length:=by omega
  have egd:(lvo ds ds.length ds.length).getD g' 0=(lvo ds ds.length ds.length)[g']:=by
   unfold List.getD;rw [List.getElem?_eq_getElem hgo];rfl
  rw [egd] at m2;obtain ⟨v,v1,v2,v3⟩:=Ex h m1 (by omega);have ev:v=(lvo ds ds.length ds.length)[g']:=by omega
  rw [ev] at v3;have hsg:s<=g':=by omega
  by_cases e:s=g'
  ·subst e
   omega
  ·have:=List.pairwise_iff_getElem.mp (cX ds ds.length ds.length) s g' hso hgo (by omega)
   omega
theorem bP {ds:List Nat}(h:Dok ds){k:Nat}:∀ i,k<i->i<=ds.length->(∀ j,k<j->j<i->dAt ds k<dAt ds j)->(way ds i)[dAt ds k+1]?=some (k:Int)
 | 0,hk,_,_=>by cases hk
 | i+1,hk,hi,hg=>by
  show ((way ds i).take (dAt ds i+1)++[(i:Int)])[dAt ds k+1]?=some (k:Int);have hl:=Cj h i (by omega);have hd:=h i (by omega);have hl2:((way ds i).take (dAt ds i+1)).length=dAt ds i+1:=by rw [List.length_take];omega
  by_cases e:i=k
  ·subst e
   rw [List.getElem?_append_right (by omega),hl2,Nat.sub_self];rfl
  ·have:=hg i (by omega) (by omega)
   rw [List.getElem?_append_left (by omega),List.getElem?_take_of_lt (by omega)];exact bP h i (by omega) (by omega) fun j h1 h2=>hg j h1 (by omega)
theorem tN {ds:List Nat}(h:Dok ds){k i j:Nat}(h1:k<i)(h2:i<j)(hj:j<ds.length)(e:eld ds j=k):(k:Int)<=eld ds i:=by
 obtain ⟨v,v1,v2,v3⟩:=Ex h hj (by omega);obtain rfl:v=k:=by omega
 have ej:=Jc h hj;rw [v3,e] at ej;have gap:=Uk h j (dAt ds v) v (by omega) ej;have hw:=bP h i h1 (by omega) fun x a b=>gap x a (by omega);have hd:=gap i h1 h2;have ei:=Jc h (k:=i) (by omega)
 by_cases e2:dAt ds v+1=dAt ds i
 ·rw [<- e2,hw] at ei
  have:=Option.some.inj ei;omega
 ·have:=Zz h i (dAt ds v+1) (dAt ds i) _ _ (by omega) (by omega) hw ei
  omega
theorem P5 {p q:Nat->Bool}:∀ {l:List Nat},(∀ a∈l,¬ (p a=true/\q a=true))->l.Pairwise (fun a b=>¬ (q a=true/\p b=true))->l.filter (fun a=>p a||q a)=l.filter p++l.filter q
 | [],_,_=>rfl
 | a::l,h1,h2=>by
  rw [List.pairwise_cons] at h2;have ih:=P5 (l:=l) (fun b hb=>h1 b (by simp [hb])) h2.2;have h0:=h1 a (by simp)
  cases hp:p a with
  | true =>
   have hq:q a=false:=by
    cases hq:q a with
    | true=>exact absurd ⟨hp,hq⟩ h0
    | false=>rfl
   rw [List.filter_cons_of_pos (by simp [hp]),List.filter_cons_of_pos (by simp [hp]),List.filter_cons_of_neg (by simp [hq]),ih];rfl
  | false =>
   cases hq:q a with
   | true =>
    have hn:l.filter p=[]:=List.filter_eq_nil_iff.mpr fun b hb hpb=>h2.1 b hb ⟨hq,hpb⟩;rw [List.filter_cons_of_pos (by simp [hq]),List.filter_cons_of_neg (by simp [hp]),List.filter_cons_of_pos (by simp [hq]),ih,hn];rfl
   | false =>
    rw [List.filter_cons_of_neg (by simp [hp,hq]),List.filter_cons_of_neg (by simp [hp]),List.filter_cons_of_neg (by simp [hq]),ih]
def pend (ds:List Nat)(k:Nat):List Nat:=(List.range ds.length).filter fun j=>decide (k<=j)&&decide (eld ds j<k)
def Nw (ds:List Nat)(k:Nat):List Nat:=(List.range ds.length).filter fun j=>decide (k<j)&&decide (eld ds j<k)
theorem Tp {ds:List Nat}(h:Dok ds){k:Nat}(hk:k<ds.length):pend ds k=k::Nw ds k:=by
 have e:∀ l:List Nat,l=List.range ds.length->l.filter (fun j=>decide (k<=j)&&decide (eld ds j<k))=k::l.filter (fun j=>decide (k<j)&&decide (eld ds j<k)):=by
  intro l hl;have hs:List.range ds.length=List.range k++(k::(List.range (ds.length-k-1)).map (k+1 + ·)):=by
   rw [show ds.length=k+(1+(ds.length-k-1)) by omega,List.range_add,List.range_add];simp [List.map_map,Function.comp_def,Nat.add_assoc]
  rw [hl,hs,List.filter_append,List.filter_append];have n1:(List.range k).filter (fun j=>decide (k<=j)&&decide (eld ds j<k))=[]:=List.filter_eq_nil_iff.mpr fun j hj=>by
   have:=List.mem_range.mp hj;simp;omega
  have n2:(List.range k).filter (fun j=>decide (k<j)&&decide (eld ds j<k))=[]:=List.filter_eq_nil_iff.mpr fun j hj=>by
   have:=List.mem_range.mp hj;simp;omega
  rw [n1,n2,List.nil_append,List.nil_append,List.filter_cons_of_pos (by have:=T7 h hk;simp;omega),List.filter_cons_of_neg (by simp)];congr 1;refine List.filter_congr fun j hj=>?_;obtain ⟨i,hi,rfl⟩:=List.mem_map.mp hj;rw [decide_eq_true (show k<=k+1+i by omega),decide_eq_true (show k<k+1+i by omega)]
 exact e _ rfl
theorem fF {ds:List Nat}(h:Dok ds)(k:Nat):pend ds (k+1)=A7 ds ds.length k++Nw ds k:=by
 unfold pend A7 Nw;rw [<- P5]
 ·refine List.filter_congr fun j hj=>?_
  have hj:=List.mem_range.mp hj;have hl:=T7 h hj;rw [Bool.eq_iff_iff];simp only [Bool.and_eq_true,Bool.or_eq_true,decide_eq_true_eq];omega
 ·intro a ha
  simp only [Bool.and_eq_true,decide_eq_true_eq];omega
 ·refine List.Pairwise.imp_of_mem (R:=fun a b=>a<b) (fun {a b} ha hb hab=>?_) List.pairwise_lt_range
  have hb:=List.mem_range.mp hb;simp only [Bool.and_eq_true,decide_eq_true_eq];rintro ⟨⟨q1,q2⟩,p1⟩;have:=tN h q1 hab hb p1;omega
theorem Tm {ds:List Nat}(h:Dok ds):pend ds 0=A7 ds ds.length (-1):=by
 unfold pend A7;refine List.filter_congr fun j hj=>?_;have hj:=List.mem_range.mp hj;have hg:=Q1 h hj;rw [Bool.eq_iff_iff];simp only [Bool.and_eq_true,decide_eq_true_eq];omega
theorem jO (ds:List Nat):pend ds ds.length=[]:=List.filter_eq_nil_iff.mpr fun j hj=>by
 have:=List.mem_range.mp hj;simp;omega
end TW
namespace TW
def atO (ds:List Nat)(g:Nat):Nat:=(lvo ds ds.length ds.length).getD (g-1) 0
theorem bV (l:List Nat):∀ (m a:Nat),a+m<=l.length->((F6 (a+m) a).reverse.map fun g=>l.getD (g-1) 0)=(l.drop a).take m
 | 0,a,_=>by
  unfold F6;rw [Nat.add_zero,Nat.sub_self];rfl
 | m+1,a,h=>by
  have ih:=bV l m a (by omega);have e:(F6 (a+(m+1)) a).reverse=(F6 (a+m) a).reverse++[a+m+1]:=by
   have:F6 (a+(m+1)) a=(a+m+1)::F6 (a+m) a:=by
    unfold F6;rw [show a+(m+1)-a=m+1 by omega,show a+m-a=m by omega,List.range_succ_eq_map,List.map_cons,List.map_map];refine congr (congrArg _ rfl) (List.map_congr_left fun i hi=>?_);show a+(m+1)-(i+1)=a+m-i;omega
   rw [this,List.reverse_cons]
  rw [e,List.map_append,ih,List.take_add_one,List.getElem?_drop,List.getElem?_eq_getElem (by omega)];congr 1;show [l.getD (a+m+1-1) 0]=_;unfold List.getD;rw [Nat.add_sub_cancel,List.getElem?_eq_getElem (by omega)];rfl
theorem nU (ds:List Nat):(gsC ds).length=ds.length+1:=by unfold gsC;rw [List.length_cons,List.length_map,List.length_range]
theorem kX {ds:List Nat}{k:Nat}(hk:k<ds.length):(gsC ds)[k+1]?=some (A7 ds ds.length k).length:=by
 unfold gsC;rw [List.getElem?_cons_succ,List.getElem?_map,List.getElem?_range hk];rfl
theorem slots {ds:List Nat}(h:Dok ds){g:Nat}(hg:g<ds.length+1):((F6 (pre (gsL ds) (g+1)) (pre (gsL ds) g)).reverse.map (atO ds))=(Ls ds).getD g []/\(gsL ds).getD g 0=((Ls ds).getD g []).length:=by
 obtain ⟨hl,hs⟩:=Er h;have hgl:g<(gsL ds).length:=by omega
 have hps:=Pm hgl;have sl:=Mv (Ls ds) g (by rw [<- List.length_map (f:=List.length),<- Ld];exact hgl);have hgv:(gsL ds)[g]?=some ((Ls ds).getD g []).length:=by
  have hLl:g<(Ls ds).length:=by rw [<- List.length_map (f:=List.length),<- Ld];exact hgl
  rw [Ld,List.getElem?_map];unfold List.getD;rw [List.getElem?_eq_getElem hLl];rfl
 have hge:(gsL ds)[g]=((Ls ds).getD g []).length:=by
  rw [List.getElem?_eq_getElem hgl] at hgv;exact Option.some.inj hgv
 constructor
 ·rw [hps,hge,show atO ds=fun g=>(lvo ds ds.length ds.length).getD (g-1) 0 from rfl,bV]
  ·rw [<- Ld,T3 h] at sl
   exact sl
  ·have:=U2 (gsL ds) (g+1)
   rw [Kt h];omega
 ·unfold List.getD at hgv ⊢
  rw [hgv];rfl
theorem Pw {ds:List Nat}(h:Dok ds):∀ k,k<=ds.length->∃ W,lvN (gsL ds) (k+1)=((gsC ds).take (k+1),W)/\W.map (atO ds)=pend ds k/\∀ g∈W,0<g/\g<ds.length+1
 | 0,_=>by
  obtain ⟨s1,s2⟩:=slots h (g:=0) (by omega);refine ⟨(F6 (pre (gsL ds) (0+1)) (pre (gsL ds) 0)).reverse++[],?_,?_,?_⟩
  ·show lvS (gsL ds) ([],[0])=_
   unfold lvS;show ([]++[(gsL ds).getD 0 0],_)=_;rfl
  ·rw [List.append_nil,s1,Tm h]
   rfl
  ·intro g hg
   rw [List.append_nil] at hg;have hd:=Wv (List.mem_reverse.mp hg);have:=U2 (gsL ds) (0+1);have:=(Er h).2;omega
 | k+1,hk=>by
  obtain ⟨W,e1,e2,e3⟩:=Pw h k (by omega);rw [Tp h (by omega)] at e2
  cases W with
  | nil=>cases e2
  | cons g w =>
   rw [List.map_cons] at e2;obtain ⟨a1,a2⟩:=List.cons.inj e2;obtain ⟨g0,g1⟩:=e3 g (by simp);obtain ⟨s1,s2⟩:=slots h (g:=g) g1;have hL:(Ls ds).getD g []=A7 ds ds.length k:=by
    obtain ⟨g',rfl⟩:∃ g',g=g'+1:=⟨g-1,by omega⟩;rw [iH (by omega) h];have a1:(lvo ds ds.length ds.length).getD g' 0=k:=a1;rw [a1]
   rw [hL] at s1 s2;refine ⟨(F6 (pre (gsL ds) (g+1)) (pre (gsL ds) g)).reverse++w,?_,?_,?_⟩
   ·show lvS (gsL ds) (lvN (gsL ds) (k+1))=_
    rw [e1];unfold lvS;show ((gsC ds).take (k+1)++[(gsL ds).getD g 0],_)=_;rw [s2,List.take_add_one (i:=k+1),kX (by omega)];rfl
   ·rw [List.map_append,s1,a2,fF h]
   ·intro x hx
    rcases List.mem_append.mp hx with hx | hx
    ·have hd:=Wv (List.mem_reverse.mp hx)
     have:=U2 (gsL ds) (g+1);have:=(Er h).2;omega
    ·exact e3 x (by simp [hx])
theorem mW {ds:List Nat}(h:Dok ds):lvN (gsL ds) (ds.length+1)=(gsC ds,[]):=by
 obtain ⟨W,e1,e2,_⟩:=Pw h ds.length (Nat.le_refl _);rw [jO] at e2;rw [e1,List.map_eq_nil_iff.mp e2,List.take_of_length_le (by rw [nU];exact Nat.le_refl _)]
end TW
namespace TW
end TW
namespace TW
end TW
end
section
namespace L2
open PySem PySem.Spec PyProof.Rows
section
variable {X:Cx}
theorem bH (K:PySem.W.Frag){X:Cx}(h:X.K=K:=by rfl):Ep X (.builtin "len") (fun xs H Q=>∃ p ys,xs=[.ref p]/\(SqL K H p ys\/SqT K H p ys)/\Q (.int ys.length) H):=by
 subst h;exact Ar
end
open PySem.W
def xH (K:PySem.W.Frag):List V->Hp->VK->Prop:=fun xs H Q=>∃ x C t b,xs=[x,.ref C]/\L5 K H x t/\kitOne K t (.ref C)=some b/\Q (.bl b) H
theorem Yp {X:Cx}:Ep X (.builtin "isinstance") (xH X.K):=by
 intro pins s σ H xs us Q I r h;obtain ⟨x,C,t,b,rfl,ty,e,q⟩:=h;obtain ⟨u,v,rfl,ru,rv⟩:=R1 r;cases rv;exact Sz I ru ty e fun tk=>⟨.bl b,H,I.tok tk,rfl,q⟩
end L2
end
section
namespace HD
open PySem PySem.W PySem.Calls PyProof.Rows
def oneA (s0:SharedT)(h0:Heap)(m:Nat)(p:Program)(M:Nat)(w:World) :=
 (Go treeTable p w m (some (.ref 6)) M s0 (topStub p)).map fun s=>staticsOk (importedModules p.main.body) h0 s.abs.heap&&namesBound p s.abs.heap&&gensDone s.abs&&laidKept h0 s.abs.heap
def oneB (s0:SharedT)(m:Nat)(p q:Program)(loose:List Str)(M:Nat)(w:World) :=
 (Go treeTable p w m (some (.ref 6)) M s0 (topStub p)).map fun s=>openSeen q loose (importedModules p.main.body) (fun _=>true) true s.abs
def lB {α:Type}(Yf:Shared->α)(s0:SharedT)(m:Nat)(p:Program)(M:Nat)(w:World) :=
 (Go treeTable p w m (some (.ref 6)) M s0 (topStub p)).map fun s=>Yf s.abs
theorem uY {α:Type}{Yf:Shared->α}{s0:SharedT}{h0:Heap}{m:Nat}{p q:Program}{loose:List Str}{M:Nat}{w:World}{a:α}
  (hA:oneA s0 h0 m p M w=some true)(hB:oneB s0 m p q loose M w=some (openGood q loose))(hC:lB Yf s0 m p M w=some a) :
  bothT Yf s0 h0 m p q loose M w=some (true,openGood q loose,a):=by
 unfold oneA at hA;unfold oneB at hB;unfold lB at hC;unfold bothT Zo;obtain ⟨s,r,l⟩:=Option.map_eq_some_iff.mp hA;rw [r] at hB hC ⊢;have hB:=Option.some.inj hB;have hC:=Option.some.inj hC;exact congrArg some (Prod.ext l (Prod.ext hB hC))
theorem left_of3 {p q:Program}{loose:List Str}{α:Type}{Yf:Shared->α}{Ya:World->α}{M N:Nat}(e:opening p=plainProg p.main.scope.names)(f:∀ s,fenceModules? p s=some s)(hN:Nat.ble 600 N=true)(le:Nat.ble M N=true)
  (hA:∀ w:World,(fun os=>oneA (bootT w os) (boot_heap w.params) bootSize p M w)=fun _=>some true)(hB:∀ w:World,(fun os=>oneB (bootT w os) bootSize p q loose M w)=fun _=>some (openGood q loose))
  (hC:∀ w:World,(fun os=>lB Yf (bootT w os) bootSize p M w)=fun _=>some (Ya w)):LeftO p q loose (fun _=>true) Yf Ya N :=
 oZ e f hN le fun w=>funext fun os=>uY (congrFun (hA w) os) (congrFun (hB w) os) (congrFun (hC w) os)
def W1 (s:SharedT)(a:Nat):Option Obj:=match Nat.blt a s.n with
 | true=>(match s.tree.get a with
  | some o=>alive o
  | none=>none)
 | false=>none
theorem jZ {s:SharedT}{a:Nat}{o:Obj}(h:W1 s a=some o):s.abs.heap.get? a=some o:=by
 unfold W1 at h
 cases hb:Nat.blt a s.n with
 | false=>rw [hb] at h;cases h
 | true =>
  rw [hb] at h
  cases hg:s.tree.get a with
  | none=>rw [hg] at h;cases h
  | some u =>
   rw [hg] at h;have hlt:a<s.n:=by
    have:=Nat.le_of_ble_eq_true hb;omega
   exact (abs_get hlt hg).trans h
theorem Ru {s:SharedT}:∀ {as:List Nat} {L:List (Option Obj)},(∀ x∈L,x.isSome=true)->as.map (W1 s)=L->as.map s.abs.heap.get?=L
 | [],L,_,e=>e
 | a::as,[],_,e=>by cases e
 | a::as,x::L,h,e=>by
  obtain ⟨e1,e2⟩:=List.cons.inj e;obtain ⟨o,ho⟩:=Option.isSome_iff_exists.mp (h x List.mem_cons_self);subst ho;show s.abs.heap.get? a::as.map s.abs.heap.get?=_;rw [jZ e1,Ru (fun y hy=>h y (List.mem_cons_of_mem _ hy)) e2]
def oneP (as ts:List Addr)(s0:SharedT)(m:Nat)(p:Program)(M:Nat)(w:World) :=
 (Go treeTable p w m (some (.ref 6)) M s0 (topStub p)).map fun s=>(as.map (W1 s),ts.map (W1 s))
theorem hC_km {K:Params->Frag}{as:List Addr}{e:∀ P,as=(K P).map (·.1)}{ts:List Addr}{p:Program}{M:Nat}
  (h:∀ w:World,(fun os=>oneP as ts (bootT w os) bootSize p M w)=fun _=>some ((K w.params).map fun q=>some q.2,ts.map fun _=>some (tabObj #[]))) :
  ∀ w:World,(fun os=>lB (kmHook K as e ts).obs (bootT w os) bootSize p M w)=fun _=>some ((kmHook K as e ts).val w):=fun w=>funext fun os=>by
 have h:=congrFun (h w) os;unfold oneP at h;unfold lB;obtain ⟨s,r,l⟩:=Option.map_eq_some_iff.mp h;obtain ⟨l1,l2⟩:=Prod.mk.inj l;rw [r];show some (as.map s.abs.heap.get?,ts.map s.abs.heap.get?)=some ((K w.params).map fun q=>some q.2,ts.map fun _=>some (tabObj #[]));rw [Ru (fun x hx=>by obtain ⟨q,_,rfl⟩:=List.mem_map.mp hx;rfl) l1,Ru (fun x hx=>by obtain ⟨q,_,rfl⟩:=List.mem_map.mp hx;rfl) l2]
end HD
lay_quick HD.oneP
theorem HD.oneP_eq:@HD.oneP=@PySem.W.Fast.tw13831889492591282369:=PySem.W.Fast.te13831889492591282369
lay_quick HD.oneA
lay_quick HD.oneB
theorem HD.oneA_eq:@HD.oneA=@PySem.W.Fast.tw6247638121477898359:=PySem.W.Fast.te6247638121477898359
theorem HD.oneB_eq:@HD.oneB=@PySem.W.Fast.tw4394042064226896843:=PySem.W.Fast.te4394042064226896843
end
section
namespace L2
open PySem PySem.Spec PyProof.Rows
open PySem.W
def GD (K:Frag)(x:Str)(st:Stmt):Prop:=∃ (f:Addr) (fd:FuncData),Fun K x x st f fd/\nsIn K mainGlobals x=some (some (.ref f))
def MD (K:Frag)(C:Addr)(x q:Str)(st:Stmt):Prop:=∃ (f:Addr) (fd:FuncData),Fun K x q st f fd/\findIn K (.ref C) x=some (some (.ref f))/\isFn K (.ref f)=true
structure CD (K:Frag) (C:Addr) (x:Str):Prop where
 a:nsIn K mainGlobals x=some (some (.ref C))
 ma:makesIn K C=true
 kc:keepIn K (.ref C)=true
def noB:Option (Option Value)->Bool
 | some none=>true
 | _=>false
structure FD (K:Frag) (C:Addr) (fs:List Str):Prop where
 cl:Cls K C
 al:(fs.all fun f=>noB (findIn K (.ref C) f))=true
section
variable {P:Program} {w:World} {K:Frag} {mg:Str->Option Value} {base h:Heap} {x q:Str} {st:Stmt} {f C:Addr} {oc:Value} {od an:Option Addr} {osl:Array (Option Value)} {kV doc pm cdv ct:Value} {fs ps:List Str} {k:Nat} {sp:Sp}
theorem gD (a:nsIn K mainGlobals x=some (some (.ref f)))(l:K.lookup f=some ⟨oc,od,.func (fnOf x x (Bw st) (Bl st) (Ad st) .none kV doc pm an cdv ct),osl⟩)(c:codeIn K cdv x=true)(k:keepIn K (.ref f)=true):GD K x st:=⟨f,_,fZ l c k,a⟩
theorem mD (a:findIn K (.ref C) x=some (some (.ref f)))(i:isFn K (.ref f)=true)(l:K.lookup f=some ⟨oc,od,.func (fnOf x q (Bw st) (Bl st) (Ad st) .none kV doc pm an cdv ct),osl⟩)(c:codeIn K cdv q=true)(k:keepIn K (.ref f)=true):MD K C x q st:=⟨f,_,fZ l c k,a,i⟩
theorem fD (pg:plainGet K C Str.empty=true)(hd:hasDictIn K C=true)(po:plainOver K C=true)(sa:findIn K (.ref C) "__setattr__"=some (some (.builtin "object.__setattr__")))(al:(fs.all fun f=>noB (findIn K (.ref C) f))=true):FD K C fs:=⟨⟨pg,hd,po,sa⟩,al⟩
theorem FD.no (D:FD K C fs)(i:Nat){g:Str}(h:fs[i]?=some g:=by rfl):Bu K C g:=by
 have:=List.all_eq_true.mp D.al g (List.mem_of_getElem? h);show findIn K (.ref C) g=some none
 cases e:findIn K (.ref C) g with
 | none=>rw [e] at this;cases this
 | some o =>
  cases o with
  | none=>rfl
  | some v=>rw [e] at this;cases this
def Cur:Nat->(List Value->Prop)->Prop
 | 0,P=>P []
 | n+1,P=>∀ a,Cur n fun l=>P (a::l)
theorem Cur.all:∀ {n:Nat} {P:List Value->Prop},Cur n P->∀ us:List Value,us.length=n->P us
 | 0,_,h,[],_=>h
 | n+1,_,h,a::l,e=>Cur.all (n:=n) (h a) l (Nat.succ.inj e)
abbrev Mb (x q:Str)(st:Stmt)(ps:List Str):Prop:=∀ (kV doc pm:Value) (an:Option Addr) (cdv ct:Value),Cur ps.length fun us=>bindArgs (fnOf x q (Bw st) (Bl st) (Ad st) .none kV doc pm an cdv ct) ⟨us,[]⟩=pure (ps.zip us)
theorem Fun.bd {fd:FuncData}(F:Fun K x q st f fd)(hb:Mb x q st ps):E1 K fd ps []:=F.binds fun a b c d e g=>(hb a b c d e g).all
theorem GD.cal (X:K.In h)(G:h.Ns mainGlobals mg)(g:GD K x st)(ok:∀ {f fd},Fun K x x st f fd->A4 P w K mg base CX0 k f fd ps sp)
  (hb:Mb x x st ps:=by (repeat intro _);rfl):Cal P w K mg base x k ps sp :=
 let ⟨f,fd,F,a⟩:=g
 ⟨⟨f,fd,ok F,F.bd hb,mg_of X G a,F.kp⟩⟩
theorem MD.mth (c:Cls K C)(g:MD K C x q st)(ok:∀ {f fd},Fun K x q st f fd->A4 P w K mg base CX0 k f fd ps sp)
  (hb:Mb x q st ps:=by (repeat intro _);rfl):Mth P w K mg base C x k ps sp :=
 let ⟨f,fd,F,a,i⟩:=g
 ⟨⟨f,fd,ok F,F.bd hb,⟨a,i,F.kp⟩⟩,c⟩
theorem MD.mkr {y:Str}(X:K.In h)(G:h.Ns mainGlobals mg)(c:CD K C y)(g:MD K C "__init__" q st)(ok:∀ {f fd},Fun K "__init__" q st f fd->A4 P w K mg base CX0 k f fd ps sp)
  (hb:Mb "__init__" q st ps:=by (repeat intro _);rfl):Mkr P w K mg base y C k ps sp :=
 let ⟨f,fd,F,a,i⟩:=g
 ⟨⟨f,fd,ok F,F.bd hb,⟨c.ma,a,i,c.kc⟩,mg_of X G c.a⟩⟩
end
end L2
end
local macro_rules | `(tactic| walk_at "rd")=>`(tactic| repeat (first | with_reducible refine L2.uX ?_ | with_reducible refine L2.rG ?_ | with_reducible refine L2.uV ?_ | with_reducible refine L2.mJ ?_ | with_reducible refine L2.wA ?_ | with_reducible refine L2.r_retN ?_ | with_reducible refine L2.sH ?_ | with_reducible refine L2.tY ?_ | with_reducible refine L2.sA ?_ | with_reducible refine L2.xB ?_ | with_reducible refine L2.uG ?_ | with_reducible refine L2.uU ?_ | with_reducible refine L2.wW ?_ | with_reducible refine L2.vZ ?_ | with_reducible refine L2.r_notN ?_ | with_reducible refine L2.xK ?_ | with_reducible refine L2.wY ?_ | with_reducible refine L2.xA ?_ | with_reducible refine L2.r_c ?_ | with_reducible refine L2.qA ?_ | with_reducible refine L2.vV ?_ | with_reducible refine L2.xE ?_ | with_reducible refine L2.vO ?_ | with_reducible refine L2.wD ?_ | with_reducible refine L2.tH ?_ | with_reducible refine L2.tL ?_ | with_reducible refine L2.xG ?_ | with_reducible refine L2.tV ?_ | with_reducible refine L2.uI ?_ | with_reducible refine L2.xR ?_ | with_reducible refine L2.vW ?_ | with_reducible refine L2.xO ?_ | with_reducible refine L2.gJ ?_ | with_reducible refine L2.sZ ?_ | with_reducible refine L2.vE ?_ | with_reducible refine L2.tT ?_ | with_reducible refine L2.r_rng2 ?_ | with_reducible refine L2.rS ?_ | with_reducible refine L2.oK ?_ | with_reducible refine L2.sM ?_ | with_reducible refine L2.r_istr ?_ | with_reducible refine L2.wZ ?_ | with_reducible refine L2.vS ?_ | with_reducible refine L2.vN ?_ | with_reducible refine L2.oM ?_ | with_reducible refine L2.sJ ?_ | with_reducible refine L2.r_orV ?_ | with_reducible refine L2.sF ?_ | with_reducible refine L2.vG ?_ | with_reducible refine L2.qT ?_ | with_reducible refine L2.sR ?_ | with_reducible refine L2.qW ?_ | with_reducible refine L2.uD ?_ | with_reducible refine L2.uA ?_ | with_reducible refine L2.sQ ?_ | with_reducible refine L2.mZ ?_ | with_reducible refine L2.vQ ?_ | with_reducible refine L2.r_ienumS ?_ | with_reducible refine L2.sD ?_ | with_reducible refine L2.r_lzip ?_ | with_reducible refine L2.r_revL ?_ | with_reducible refine L2.r_lrev ?_ | with_reducible refine L2.rH ?_ | with_reducible refine L2.r_lrng3 ?_ | with_reducible refine L2.sI ?_ | with_reducible refine L2.nA ?_ | with_reducible refine L2.vR ?_ | with_reducible refine L2.oS ?_ | with_reducible refine L2.rV ?_ | with_reducible refine L2.rC ?_ | with_reducible refine L2.qU ?_ | with_reducible refine L2.rT ?_ | with_reducible refine L2.rA ?_ | with_reducible refine L2.sB ?_ | with_reducible refine L2.bZ (by decide) ?_ | with_reducible refine L2.iU (by decide) ?_ | with_reducible refine L2.iI (by decide) (by decide) ?_ | with_reducible refine L2.jC (by decide) (by decide) ?_ | with_reducible refine L2.qN (by decide) (by decide) ?_ | with_reducible refine L2.vC rfl ?_ | with_reducible refine L2.vB rfl ?_ | with_reducible refine L2.xC ?_ | with_reducible refine L2.xI ?_ | with_reducible refine L2.uZ ?_ | with_reducible refine L2.uP ?_ | refine L2.vP rfl ?_ | refine L2.tZ rfl ?_ | dsimp only))
namespace TK
open PySem L2 TW
def top (i:Nat):Stmt:=PySem.Challenge.pw_tightwood_k41_rows_by_levels.main.body.getD i (.Pass ⟨0,0,0,0⟩)
abbrev Lf:Stmt:=top 9
theorem W5:An ["thing"] ["thing"] (Ad Lf):=⟨rfl,rfl,rfl,by decide +kernel,rfl,by decide +kernel,by decide +kernel⟩
abbrev Js:Stmt:=top 10
theorem Uh:An ["thing","low","high"] ["thing","low","high"] (Ad Js):=⟨rfl,rfl,rfl,by decide +kernel,rfl,by decide +kernel,by decide +kernel⟩
abbrev Jw:Stmt:=top 11
theorem U7:An ["bit"] ["bit"] (Ad Jw):=⟨rfl,rfl,rfl,by decide +kernel,rfl,by decide +kernel,by decide +kernel⟩
abbrev Gv:Stmt:=top 12
theorem P6:An ["place","greatest"] ["place","greatest"] (Ad Gv):=⟨rfl,rfl,rfl,by decide +kernel,rfl,by decide +kernel,by decide +kernel⟩
abbrev Fv:Stmt:=top 13
theorem N6:An ["low","high","greatest"] ["low","high","greatest"] (Ad Fv):=⟨rfl,rfl,rfl,by decide +kernel,rfl,by decide +kernel,by decide +kernel⟩
abbrev Nl:Stmt:=top 20
theorem Ic:An ["word","ones"] ["word"] (Ad Nl):=⟨rfl,rfl,rfl,by decide +kernel,rfl,by decide +kernel,by decide +kernel⟩
abbrev Fg:Stmt:=top 21
theorem Ju:An ["four","nth","places"] ["four","nth"] (Ad Fg):=⟨rfl,rfl,rfl,by decide +kernel,rfl,by decide +kernel,by decide +kernel⟩
theorem N3:Bg ["four","nth","places"] (Ad Fg) { kind:=.function,names:=[(".0",.local),("place",.local),("four",.free)],isGenerator:=false,isCoroutine:=false,more:=[] } "place" ["place","four"] [0]:=⟨rfl,by decide +kernel,by decide +kernel,by decide +kernel,by decide +kernel,rfl,rfl,rfl,by decide +kernel⟩
abbrev Nm:Stmt:=top 22
theorem Ff:An ["word","nth","low","ones"] ["word","nth"] (Ad Nm):=⟨rfl,rfl,rfl,by decide +kernel,rfl,by decide +kernel,by decide +kernel⟩
abbrev O1:Stmt:=top 26
theorem eI:An ["thing"] ["thing"] (Ad O1):=⟨rfl,rfl,rfl,by decide +kernel,rfl,by decide +kernel,by decide +kernel⟩
abbrev N7:Stmt:=top 27
theorem bG:An ["signs"] ["signs"] (Ad N7):=⟨rfl,rfl,rfl,by decide +kernel,rfl,by decide +kernel,by decide +kernel⟩
abbrev Ie:Stmt:=top 28
theorem Wi:An ["text"] ["text"] (Ad Ie):=⟨rfl,rfl,rfl,by decide +kernel,rfl,by decide +kernel,by decide +kernel⟩
theorem Si:Bg ["text"] (Ad Ie) { kind:=.function,names:=[(".0",.local),("low",.local),("word_of",.globalImplicit),("WORD_BITS",.globalImplicit),("text",.free)],isGenerator:=false,isCoroutine:=false,more:=[] } "low" ["low","text"] [0]:=⟨rfl,by decide +kernel,by decide +kernel,by decide +kernel,by decide +kernel,rfl,rfl,rfl,by decide +kernel⟩
abbrev Hs:Stmt:=top 29
theorem Wy:An ["word"] ["word"] (Ad Hs):=⟨rfl,rfl,rfl,by decide +kernel,rfl,by decide +kernel,by decide +kernel⟩
theorem Sk:Bg ["word"] (Ad Hs) { kind:=.function,names:=[(".0",.local),("low",.local),("SIGNS_OF_FOUR",.globalImplicit),("word",.free)],isGenerator:=false,isCoroutine:=false,more:=[] } "low" ["low","word"] [0]:=⟨rfl,by decide +kernel,by decide +kernel,by decide +kernel,by decide +kernel,rfl,rfl,rfl,by decide +kernel⟩
abbrev Je:Stmt:=B7 (top 30) 0
theorem Up:An ["self","text"] ["self","text"] (Ad Je):=⟨rfl,rfl,rfl,by decide +kernel,rfl,by decide +kernel,by decide +kernel⟩
abbrev Kg:Stmt:=B7 (top 30) 1
theorem Vo:An ["self"] ["self"] (Ad Kg):=⟨rfl,rfl,rfl,by decide +kernel,rfl,by decide +kernel,by decide +kernel⟩
abbrev Il:Stmt:=B7 (top 30) 3
theorem R6:An ["self"] ["self"] (Ad Il):=⟨rfl,rfl,rfl,by decide +kernel,rfl,by decide +kernel,by decide +kernel⟩
abbrev E2:Stmt:=B7 (top 30) 5
theorem Dd:An ["self","low","high","first","beyond","signs","begin"] ["self","low","high"] (Ad E2):=⟨rfl,rfl,rfl,by decide +kernel,rfl,by decide +kernel,by decide +kernel⟩
theorem M8:Bg ["self","low","high","first","beyond","signs","begin"] (Ad E2) { kind:=.function,names:=[(".0",.local),("word",.local),("signs_of",.globalImplicit)],isGenerator:=false,isCoroutine:=false,more:=[] } "word" ["word"] []:=⟨rfl,by decide +kernel,by decide +kernel,by decide +kernel,by decide +kernel,rfl,rfl,rfl,by decide +kernel⟩
abbrev Ix:Stmt:=B7 (top 30) 6
theorem Tz:An ["self"] ["self"] (Ad Ix):=⟨rfl,rfl,rfl,by decide +kernel,rfl,by decide +kernel,by decide +kernel⟩
abbrev Hw:Stmt:=top 34
theorem Fh:An ["low","high","holds","middle"] ["low","high","holds"] (Ad Hw):=⟨rfl,rfl,rfl,by decide +kernel,rfl,by decide +kernel,by decide +kernel⟩
abbrev Gb:Stmt:=top 35
theorem Fw:An ["numbers","sums","number"] ["numbers"] (Ad Gb):=⟨rfl,rfl,rfl,by decide +kernel,rfl,by decide +kernel,by decide +kernel⟩
abbrev C0:Stmt:=top 36
theorem Gq:An ["words","blocks"] ["words"] (Ad C0):=⟨rfl,rfl,rfl,by decide +kernel,rfl,by decide +kernel,by decide +kernel⟩
theorem K7:Bg ["words","blocks"] (Ad C0) { kind:=.function,names:=[(".0",.local),("low",.local),("BLOCK_WORDS",.globalImplicit),("words",.free)],isGenerator:=false,isCoroutine:=false,more:=[] } "low" ["low","words"] [0]:=⟨rfl,by decide +kernel,by decide +kernel,by decide +kernel,by decide +kernel,rfl,rfl,rfl,by decide +kernel⟩
theorem K1:Bg ["words","blocks"] (Ad C0) { kind:=.function,names:=[(".0",.local),("block",.local),("sum",.globalImplicit)],isGenerator:=false,isCoroutine:=false,more:=[] } "block" ["block"] []:=⟨rfl,by decide +kernel,by decide +kernel,by decide +kernel,by decide +kernel,rfl,rfl,rfl,by decide +kernel⟩
theorem K2 (sc₀:Scope):Bg ["block"] sc₀ { kind:=.function,names:=[(".0",.local),("word",.local),("ones_in",.globalImplicit)],isGenerator:=false,isCoroutine:=false,more:=[] } "word" ["word"] []:=⟨rfl,by decide +kernel,by decide +kernel,(fun y hy h=>absurd h ((by decide +kernel:∀ y∈({ kind:=.function,names:=[(".0",.local),("word",.local),("ones_in",.globalImplicit)],isGenerator:=false,isCoroutine:=false,more:=[] }:Scope).names,y.2≠NameKind.free) y hy)),by decide +kernel,rfl,rfl,rfl,by decide +kernel⟩
abbrev Gy:Stmt:=B7 (top 37) 0
theorem Pa:An ["self","bits"] ["self","bits"] (Ad Gy):=⟨rfl,rfl,rfl,by decide +kernel,rfl,by decide +kernel,by decide +kernel⟩
abbrev Cy:Stmt:=B7 (top 37) 7
theorem D9:An ["self","bit","block","ones"] ["self","bit","block"] (Ad Cy):=⟨rfl,rfl,rfl,by decide +kernel,rfl,by decide +kernel,by decide +kernel⟩
abbrev Eh:Stmt:=B7 (top 37) 8
theorem K6:An ["self","bit"] ["self","bit"] (Ad Eh):=⟨rfl,rfl,rfl,by decide +kernel,rfl,by decide +kernel,by decide +kernel⟩
abbrev Bi:Stmt:=B7 (top 37) 9
theorem Jg:An ["self","bit","nth"] ["self","bit","nth"] (Ad Bi):=⟨rfl,rfl,rfl,by decide +kernel,rfl,by decide +kernel,by decide +kernel⟩
theorem Hf:Bg ["self","bit","nth"] (Ad Bi) { kind:=.function,names:=[("block",.local),("bit",.free),("nth",.free),("self",.free)],isGenerator:=false,isCoroutine:=false,more:=[] } "block" ["block","bit","nth","self"] [1,2,0]:=⟨rfl,by decide +kernel,by decide +kernel,by decide +kernel,by decide +kernel,rfl,rfl,rfl,by decide +kernel⟩
abbrev D5:Stmt:=B7 (top 37) 10
theorem Bm:An ["self","bit","number","nth","flip","inside"] ["self","bit","number","nth"] (Ad D5):=⟨rfl,rfl,rfl,by decide +kernel,rfl,by decide +kernel,by decide +kernel⟩
abbrev Ey:Stmt:=B7 (top 37) 3
theorem Gg:An ["self","bit","nth","block"] ["self","bit","nth"] (Ad Ey):=⟨rfl,rfl,rfl,by decide +kernel,rfl,by decide +kernel,by decide +kernel⟩
abbrev Gk:Stmt:=top 38
theorem Mj:An ["things","signs"] ["things"] (Ad Gk):=⟨rfl,rfl,rfl,by decide +kernel,rfl,by decide +kernel,by decide +kernel⟩
theorem Rg:Ma ["things","signs"] (Ad Gk) { kind:=.function,names:=[(".0",.local),("ahead",.local),("own",.local)],isGenerator:=false,isCoroutine:=false,more:=[] } "ahead" "own" ["ahead","own"] []:=⟨rfl,by decide +kernel,by decide +kernel,by decide +kernel,by decide +kernel,rfl,rfl,rfl,rfl,rfl,by decide +kernel⟩
abbrev Gu:Stmt:=top 40
theorem E3:An ["order","met","place","number"] ["order"] (Ad Gu):=⟨rfl,rfl,rfl,by decide +kernel,rfl,by decide +kernel,by decide +kernel⟩
abbrev Jh:Stmt:=top 41
theorem C4:An ["order","rounds","met","least","places","place"] ["order"] (Ad Jh):=⟨rfl,rfl,rfl,by decide +kernel,rfl,by decide +kernel,by decide +kernel⟩
abbrev F9:Stmt:=top 42
theorem Ed:An ["order","step","shortcuts","places","marked"] ["order","step"] (Ad F9):=⟨rfl,rfl,rfl,by decide +kernel,rfl,by decide +kernel,by decide +kernel⟩
abbrev B1:Stmt:=B7 (top 43) 0
theorem Ly:An ["self","order","step"] ["self","order","step"] (Ad B1):=⟨rfl,rfl,rfl,by decide +kernel,rfl,by decide +kernel,by decide +kernel⟩
abbrev Nk:Stmt:=top 47
theorem Ii:An ["elders","path","k","elder"] ["elders"] (Ad Nk):=⟨rfl,rfl,rfl,by decide +kernel,rfl,by decide +kernel,by decide +kernel⟩
abbrev Jn:Stmt:=top 48
theorem Hx:An ["elders","depths","elder"] ["elders"] (Ad Jn):=⟨rfl,rfl,rfl,by decide +kernel,rfl,by decide +kernel,by decide +kernel⟩
abbrev De:Stmt:=top 49
theorem O9:An ["depths"] ["depths"] (Ad De):=⟨rfl,rfl,rfl,by decide +kernel,rfl,by decide +kernel,by decide +kernel⟩
abbrev Eg:Stmt:=top 50
theorem D1:An ["elders","many","elder"] ["elders"] (Ad Eg):=⟨rfl,rfl,rfl,by decide +kernel,rfl,by decide +kernel,by decide +kernel⟩
abbrev Fi:Stmt:=top 51
theorem Pb:An ["many"] ["many"] (Ad Fi):=⟨rfl,rfl,rfl,by decide +kernel,rfl,by decide +kernel,by decide +kernel⟩
theorem N0:Bg ["many"] (Ad Fi) { kind:=.function,names:=[(".0",.local),("one",.local)],isGenerator:=false,isCoroutine:=false,more:=[] } "one" ["one"] []:=⟨rfl,by decide +kernel,by decide +kernel,by decide +kernel,by decide +kernel,rfl,rfl,rfl,by decide +kernel⟩
abbrev Iu:Stmt:=top 52
theorem Hv:An ["depths","many","depth"] ["depths"] (Ad Iu):=⟨rfl,rfl,rfl,by decide +kernel,rfl,by decide +kernel,by decide +kernel⟩
abbrev Gj:Stmt:=top 55
theorem M5:An ["elders","order","many"] ["elders","order"] (Ad Gj):=⟨rfl,rfl,rfl,by decide +kernel,rfl,by decide +kernel,by decide +kernel⟩
theorem Pu:Bg ["elders","order","many"] (Ad Gj) { kind:=.function,names:=[(".0",.local),("k",.local),("many",.free)],isGenerator:=false,isCoroutine:=false,more:=[] } "k" ["k","many"] [2]:=⟨rfl,by decide +kernel,by decide +kernel,by decide +kernel,by decide +kernel,rfl,rfl,rfl,by decide +kernel⟩
abbrev J9:Stmt:=top 56
theorem Im:An ["depths","many","depth"] ["depths"] (Ad J9):=⟨rfl,rfl,rfl,by decide +kernel,rfl,by decide +kernel,by decide +kernel⟩
abbrev Fu:Stmt:=B7 (top 57) 19
theorem M9:An ["self","number"] ["self","number"] (Ad Fu):=⟨rfl,rfl,rfl,by decide +kernel,rfl,by decide +kernel,by decide +kernel⟩
abbrev Dx:Stmt:=B7 (top 57) 20
theorem B3:An ["self","number","steps"] ["self","number","steps"] (Ad Dx):=⟨rfl,rfl,rfl,by decide +kernel,rfl,by decide +kernel,by decide +kernel⟩
abbrev Dh:Stmt:=B7 (top 57) 21
theorem B9:An ["self","number","left"] ["self","number"] (Ad Dh):=⟨rfl,rfl,rfl,by decide +kernel,rfl,by decide +kernel,by decide +kernel⟩
abbrev Di:Stmt:=B7 (top 57) 22
theorem C6:An ["self","depths","rest","number"] ["self","depths"] (Ad Di):=⟨rfl,rfl,rfl,by decide +kernel,rfl,by decide +kernel,by decide +kernel⟩
abbrev Fx:Stmt:=B7 (top 57) 0
theorem Dv:An ["self","elders","wood","depths","order"] ["self","elders"] (Ad Fx):=⟨rfl,rfl,rfl,by decide +kernel,rfl,by decide +kernel,by decide +kernel⟩
abbrev Dk:Stmt:=B7 (top 57) 1
theorem Hr:An ["self"] ["self"] (Ad Dk):=⟨rfl,rfl,rfl,by decide +kernel,rfl,by decide +kernel,by decide +kernel⟩
abbrev Ga:Stmt:=B7 (top 57) 2
theorem Oq:An ["self"] ["self"] (Ad Ga):=⟨rfl,rfl,rfl,by decide +kernel,rfl,by decide +kernel,by decide +kernel⟩
abbrev B6:Stmt:=B7 (top 57) 3
theorem Bz:An ["self","firsts","elders","waiting","one","number"] ["self"] (Ad B6):=⟨rfl,rfl,rfl,by decide +kernel,rfl,by decide +kernel,by decide +kernel⟩
theorem Jl:Bg ["self","firsts","elders","waiting","one","number"] (Ad B6) { kind:=.function,names:=[(".0",.local),("k",.local),("self",.free)],isGenerator:=false,isCoroutine:=false,more:=[] } "k" ["k","self"] [0]:=⟨rfl,by decide +kernel,by decide +kernel,by decide +kernel,by decide +kernel,rfl,rfl,rfl,by decide +kernel⟩
theorem Jf:Bg ["self","firsts","elders","waiting","one","number"] (Ad B6) { kind:=.function,names:=[(".0",.local),("k",.local)],isGenerator:=false,isCoroutine:=false,more:=[] } "k" ["k"] []:=⟨rfl,by decide +kernel,by decide +kernel,by decide +kernel,by decide +kernel,rfl,rfl,rfl,by decide +kernel⟩
theorem Jo:Bg ["self","firsts","elders","waiting","one","number"] (Ad B6) { kind:=.function,names:=[(".0",.local),("k",.local),("number",.free)],isGenerator:=false,isCoroutine:=false,more:=[] } "k" ["k","number"] [5]:=⟨rfl,by decide +kernel,by decide +kernel,by decide +kernel,by decide +kernel,rfl,rfl,rfl,by decide +kernel⟩
abbrev Gw:Stmt:=top 59
theorem Q7:An ["_law_script","_law_k"] ["_law_script","_law_k"] (Ad Gw):=⟨rfl,rfl,rfl,by decide +kernel,rfl,by decide +kernel,by decide +kernel⟩
abbrev Jj:Stmt:=top 60
theorem L4:An ["_law_cell","_law_k","_law_number"] ["_law_cell","_law_k"] (Ad Jj):=⟨rfl,rfl,rfl,by decide +kernel,rfl,by decide +kernel,by decide +kernel⟩
abbrev Jd:Stmt:=top 61
theorem C9:An ["_law_cell","_law_many","_law_elders","_law_way","_law_k","_law_at"] ["_law_cell","_law_many"] (Ad Jd):=⟨rfl,rfl,rfl,by decide +kernel,rfl,by decide +kernel,by decide +kernel⟩
abbrev Jk:Stmt:=top 62
theorem Cb:An ["_law_script","_law_many","_law_elders","_law_way","_law_k","_law_number","_law_size","_law_turn","_law_at"] ["_law_script","_law_many"] (Ad Jk):=⟨rfl,rfl,rfl,by decide +kernel,rfl,by decide +kernel,by decide +kernel⟩
abbrev Ew:Stmt:=top 63
theorem B8:An ["_law_elders","_law_times","_law_hung","_law_found","_law_turn","_law_size","_law_base"] ["_law_elders","_law_times","_law_hung"] (Ad Ew):=⟨rfl,rfl,rfl,by decide +kernel,rfl,by decide +kernel,by decide +kernel⟩
theorem Mo:Bg ["_law_elders","_law_times","_law_hung","_law_found","_law_turn","_law_size","_law_base"] (Ad Ew) { kind:=.function,names:=[(".0",.local),("_law_elder",.local),("_law_base",.free),("_law_size",.free)],isGenerator:=false,isCoroutine:=false,more:=[] } "_law_elder" ["_law_elder","_law_base","_law_size"] [6,5]:=⟨rfl,by decide +kernel,by decide +kernel,by decide +kernel,by decide +kernel,rfl,rfl,rfl,by decide +kernel⟩
abbrev Lp:Stmt:=top 64
theorem El:An ["_law_script","_law_most","_law_large","_law_number","_law_many","_law_elders"] ["_law_script","_law_most","_law_large"] (Ad Lp):=⟨rfl,rfl,rfl,by decide +kernel,rfl,by decide +kernel,by decide +kernel⟩
abbrev Gs:Stmt:=top 65
theorem Cl:An ["_law_elders","_law_elder","_law_inner","_law_tops","_law_deep","_law_k","_law_below"] ["_law_elders"] (Ad Gs):=⟨rfl,rfl,rfl,by decide +kernel,rfl,by decide +kernel,by decide +kernel⟩
theorem P3:Bg ["_law_elders","_law_elder","_law_inner","_law_tops","_law_deep","_law_k","_law_below"] (Ad Gs) { kind:=.function,names:=[(".0",.local),("_law_elder",.local)],isGenerator:=false,isCoroutine:=false,more:=[] } "_law_elder" ["_law_elder"] []:=⟨rfl,by decide +kernel,by decide +kernel,by decide +kernel,by decide +kernel,rfl,rfl,rfl,by decide +kernel⟩
abbrev Em:Stmt:=top 66
theorem Vh:An ["_law_deep"] ["_law_deep"] (Ad Em):=⟨rfl,rfl,rfl,by decide +kernel,rfl,by decide +kernel,by decide +kernel⟩
abbrev F2:Stmt:=top 68
theorem R5:An ["_law_groups_here"] ["_law_groups_here"] (Ad F2):=⟨rfl,rfl,rfl,by decide +kernel,rfl,by decide +kernel,by decide +kernel⟩
theorem Oj:Bg ["_law_groups_here"] (Ad F2) { kind:=.function,names:=[(".0",.local),("_law_many",.local)],isGenerator:=false,isCoroutine:=false,more:=[] } "_law_many" ["_law_many"] []:=⟨rfl,by decide +kernel,by decide +kernel,by decide +kernel,by decide +kernel,rfl,rfl,rfl,by decide +kernel⟩
abbrev Fq:Stmt:=top 69
theorem Ck:An ["_law_wood_here","_law_elders","_law_inner","_law_tops","_law_deep","_law_below","_law_row","_law_many","_law_found"] ["_law_wood_here","_law_elders"] (Ad Fq):=⟨rfl,rfl,rfl,by decide +kernel,rfl,by decide +kernel,by decide +kernel⟩
theorem Re:Bg ["_law_wood_here","_law_elders","_law_inner","_law_tops","_law_deep","_law_below","_law_row","_law_many","_law_found"] (Ad Fq) { kind:=.function,names:=[(".0",.local),("_law_elder",.local),("isinstance",.globalImplicit),("int",.globalImplicit),("bool",.globalImplicit)],isGenerator:=false,isCoroutine:=false,more:=[] } "_law_elder" ["_law_elder"] []:=⟨rfl,by decide +kernel,by decide +kernel,by decide +kernel,by decide +kernel,rfl,rfl,rfl,by decide +kernel⟩
theorem Q9:Bg ["_law_wood_here","_law_elders","_law_inner","_law_tops","_law_deep","_law_below","_law_row","_law_many","_law_found"] (Ad Fq) { kind:=.function,names:=[(".0",.local),("_law_k",.local),("len",.globalImplicit),("_law_inner",.free)],isGenerator:=false,isCoroutine:=false,more:=[] } "_law_k" ["_law_k","_law_inner"] [2]:=⟨rfl,by decide +kernel,by decide +kernel,by decide +kernel,by decide +kernel,rfl,rfl,rfl,by decide +kernel⟩
abbrev Kf:Stmt:=top 70
theorem Es:An ["_law_many","_law_step","_law_elders","_law_last","_law_k"] ["_law_many","_law_step"] (Ad Kf):=⟨rfl,rfl,rfl,by decide +kernel,rfl,by decide +kernel,by decide +kernel⟩
abbrev Lh:Stmt:=top 71
theorem Og:An ["_law_cell","_law_many"] ["_law_cell"] (Ad Lh):=⟨rfl,rfl,rfl,by decide +kernel,rfl,by decide +kernel,by decide +kernel⟩
abbrev S8:Stmt:=top 72
theorem Jx:An ["_law_script","_law_cell","_law_elders","_law_handed","_law_wood_here","_law_other"] ["_law_script"] (Ad S8):=⟨rfl,rfl,rfl,by decide +kernel,rfl,by decide +kernel,by decide +kernel⟩
abbrev Aq:Pos:=⟨191,55,191,110⟩
abbrev Aw:Pos:=⟨282,42,282,61⟩
abbrev A0:Pos:=⟨530,51,530,83⟩
def Ax (l:List Bool):Str:=⟨(l.map fun b=>if b then 49 else 48).toArray⟩
def wM:Option Nat->V
 | none=>.non
 | some p=>.int p
theorem cQ (m:Nat):Builtin.bitAnd (m:Int) 15=((m%16:Nat):Int):=by
 unfold Builtin.bitAnd;rw [decide_eq_true (Int.natCast_nonneg m),decide_eq_true (by decide:(0:Int)<=15)];show ((m &&& 15:Nat):Int)=_;rw [show (15:Nat)=2 ^ 4-1 by decide,Nat.and_two_pow_sub_one_eq_mod]
theorem oV (m:Nat):(m:Int)/2 ^ (4:Int).toNat=((m/16:Nat):Int):=by
 show (m:Int)/16=_;omega
theorem cC (r:Nat)(h:r<16):atI (Sx.map fun n:Nat=>V.int (n:Int)) (r:Int)=some (.int (pc r)):=by
 refine Bh ?_;rw [List.getElem?_map,gZ r h];rfl
theorem xF (m:Nat):Builtin.bitAnd (m:Int) 1=((m%2:Nat):Int):=by
 unfold Builtin.bitAnd;rw [decide_eq_true (Int.natCast_nonneg m),decide_eq_true (by decide:(0:Int)<=1)];show ((m &&& 1:Nat):Int)=_;rw [Nat.and_one_is_mod]
theorem B4 (l:List Bool):(Ax l).length=l.length:=by
 show (l.map _).toArray.size=_;rw [List.size_toArray,List.length_map]
theorem Tj (b:Bool)(k:Nat):Sg (sgn (if b then 49 else 48)) k=Ax (List.replicate k b):=by
 refine Gp ?_;show (List.replicate k [if b then 49 else 48]).flatten.toArray.toList=((List.replicate k b).map _).toArray.toList;rw [List.toList_toArray,List.toList_toArray,List.map_replicate]
 induction k with
 | zero=>rfl
 | succ k ih =>
  rw [List.replicate_succ,List.flatten_cons,ih,List.replicate_succ];rfl
theorem Dg (l:List Bool):(Ax l).cps.toList=l.map fun b=>if b then 49 else 48:=by
 show (l.map _).toArray.toList=_;rw [List.toList_toArray]
theorem Zp (l:List Bool):IB.bits (Ax l).cps.toList:=fun c hc=>by
 rw [Dg] at hc;obtain ⟨b,_,rfl⟩:=List.mem_map.mp hc;cases b
 ·exact .inl rfl
 ·exact .inr rfl
theorem M1 (a b:List Bool):Ax a++Ax b=Ax (a++b):=by
 refine Gp ?_;show ((Ax a).cps++(Ax b).cps).toList=_;rw [Array.toList_append,Dg,Dg,Dg,List.map_append]
theorem La {α:Type}(l:List α)(a b:Nat):(l.drop (min a l.length)).take (min b l.length-min a l.length)=(l.drop a).take (b-a):=by
 by_cases h:a<=l.length
 ·rw [Nat.min_eq_left h]
  by_cases h2:b<=l.length
  ·rw [Nat.min_eq_left h2]
  ·rw [Nat.min_eq_right (by omega),List.take_of_length_le (by rw [List.length_drop];omega),List.take_of_length_le (by rw [List.length_drop];omega)]
 ·have e:min a l.length=l.length:=by omega
  rw [e,List.drop_of_length_le (Nat.le_refl _),List.drop_of_length_le (by omega)];simp
theorem So (l:List Bool)(a b:Nat):fH (Ax l) (some (a:Int)) (some (b:Int))=Ax ((l.drop a).take (b-a)):=by
 refine Gp ?_;show (List.take _ (List.drop _ _)).toArray.toList=_;rw [List.toList_toArray,HT.sIx_nat,HT.sIx_nat];have e:(Ax l).cps.size=l.length:=B4 l;rw [e,Dg,Dg,List.map_take,List.map_drop];have:=La (l.map fun b=>if b=true then 49 else 48) a b;rw [List.length_map] at this;exact this
theorem W9 (xs:List V)(a b:Nat):Dz xs (some (a:Int)) (some (b:Int))=(xs.drop a).take (b-a):=by
 unfold Dz;rw [HT.sIx_nat,HT.sIx_nat];exact La xs a b
theorem Sn (l:List Bool):Nt (Ax l) 49=l.count true/\Nt (Ax l) 48+Nt (Ax l) 49=l.length:=by
 unfold Nt;rw [Dg]
 induction l with
 | nil=>exact ⟨rfl,rfl⟩
 | cons b r ih=>cases b<;>simp [List.count_cons]<;>omega
theorem rZ (l:List Bool):IB.v2 (Sf (Ax l)).cps.toList=val l:=by
 show IB.v2 (Ax l).cps.toList.reverse.toArray.toList=_;rw [List.toList_toArray,Dg,<- List.map_reverse];unfold IB.v2;rw [List.foldl_map];have e:=dA l 0;rw [Nat.zero_mul,Nat.zero_add] at e;rw [<- e];congr 1
 funext a b
 cases b<;>rfl
abbrev nV (ns:List Nat):List V:=ns.map fun n:Nat=>V.int n
theorem U4 (ns:List Nat):nV ns=(ns.map fun n:Nat=>(n:Int)).map V.int:=by rw [List.map_map];rfl
theorem Jr (f:Nat->Nat)(i:Nat):nV ((List.range (i+1)).map f)=nV ((List.range i).map f)++[V.int (f i:Nat)]:=by
 unfold nV;rw [List.range_succ,List.map_append,List.map_append];rfl
theorem lC (ns:List Nat):(ns.map fun n:Nat=>(n:Int)).sum=(ns.sum:Nat):=by
 induction ns with
 | nil=>rfl
 | cons n r ih=>rw [List.map_cons,List.sum_cons,ih,List.sum_cons];omega
theorem Pj (n d:Nat)(hd:0<d):Cf 0 (n:Int) (d:Int)=(n+d-1)/d:=by
 unfold Cf;rw [show (n:Int)-0+(d:Int)-1=((n+d-1:Nat):Int) by omega,<- Int.natCast_ediv,Int.toNat_natCast]
theorem few {n:Nat}(h:n<=1000):n<=sizeLine:=Nat.le_of_lt (Ek h)
theorem Al {n:Nat}(h:n<=100000):n<sizeLine:=Nat.lt_of_le_of_lt h (by decide)
theorem En {α:Type}{l:List α}{i:Nat}{b:α}(h:l[i]?=some b):i<l.length:=(List.getElem?_eq_some_iff.mp h).1
theorem U3 {l:List Bool}{j:Nat}(h:j<B2 l.length):atI (nV (wordsOf l)) (j:Int)=some (.int (val (A5 l j):Nat)):=by
 refine Bh ?_;unfold nV TW.wordsOf;rw [List.getElem?_map,List.getElem?_map,List.getElem?_range h];rfl
theorem He {H5 H6:Hp}{xb dxb C:Addr}(nb1:H5 xb=none)(nb2:H5 dxb=none)(s6:SameBut xb (upd (upd H5 dxb (.own xb)) xb (.ins C dxb [])) H6):Am H5 H6:=fun b u e=>by
 have e1:b≠xb:=Ak e nb1;have e2:b≠dxb:=Ak e nb2;exact s6 _ _ e1 (by rw [Ai e1,Ai e2];exact e)
theorem Gc (r:Int)(n:Nat):∃ k:Nat,r%((n:Int)+1)=(k:Int)/\k<=n:=by
 have h0:=Int.emod_nonneg r (show ((n:Int)+1)≠0 by omega);have h1:=Int.emod_lt_of_pos r (show (0:Int)<(n:Int)+1 by omega);exact ⟨(r%((n:Int)+1)).toNat,by omega,by omega⟩
def dD:List V:=[.str "0000",.str "1000",.str "0100",.str "1100",.str "0010",.str "1010",.str "0110",.str "1110",.str "0001",.str "1001",.str "0101",.str "1101",.str "0011",.str "1011",.str "0111",.str "1111"]
theorem mV {n:Nat}(h:n<2 ^ 32):n ||| 4294967295=4294967295:=by
 refine Nat.eq_of_testBit_eq fun i=>?_;rw [Nat.testBit_or,show (4294967295:Nat)=2 ^ 32-1 by decide,Nat.testBit_two_pow_sub_one]
 by_cases hi:i<32
 ·rw [decide_eq_true hi,Bool.or_true]
 ·rw [decide_eq_false hi,Bool.or_false]
  exact Nat.testBit_lt_two_pow (Nat.lt_of_lt_of_le h (Nat.pow_le_pow_right (by decide) (by omega)))
theorem Y3 (m k:Nat):Builtin.bitXor (m:Int) (k:Int)=((m ||| k:Nat):Int)-((m &&& k:Nat):Int):=by
 have hn:∀ x:Int,Builtin.bitNot (Builtin.bitNot x)=x:=fun x=>by unfold Builtin.bitNot;omega
 have ho:Builtin.bitOr (m:Int) (k:Int)=((m ||| k:Nat):Int):=by
  unfold Builtin.bitOr Builtin.bitAnd;rw [decide_eq_false (show ¬ (0:Int)<=Builtin.bitNot (m:Int) by unfold Builtin.bitNot;omega),decide_eq_false (show ¬ (0:Int)<=Builtin.bitNot (k:Int) by unfold Builtin.bitNot;omega)];show Builtin.bitNot (Builtin.bitNot _)=_;rw [hn,hn,hn,Int.toNat_natCast,Int.toNat_natCast]
 have ha:Builtin.bitAnd (m:Int) (k:Int)=((m &&& k:Nat):Int):=by
  unfold Builtin.bitAnd;rw [decide_eq_true (Int.natCast_nonneg m),decide_eq_true (Int.natCast_nonneg k)];rfl
 unfold Builtin.bitXor;rw [ho,ha]
theorem To:∀ w:List Bool,val w+val (w.map fun b=>!b)+1=2 ^ w.length
 | []=>rfl
 | b::r=>by
  have:=To r;rw [List.map_cons,List.length_cons,Nat.pow_succ];cases b<;>simp [val]<;>omega
theorem Pd (b:Bool)(l:List Bool)(j:Nat):Builtin.bitXor ((val (A5 l j):Nat):Int) ((L9 b:Nat):Int)=((val (A5 l j) ^^^ L9 b:Nat):Int):=by
 have hlt:val (A5 l j)<2 ^ 32:=Nat.lt_of_lt_of_le (jE _) (Nat.pow_le_pow_right (by decide) (by unfold A5;rw [List.length_take];omega));have h1:=Kx true l j;have h0:=Kx b l j;rw [Y3,h0]
 cases b with
 | true =>
  rw [<- h0];show (((val (A5 l j) ||| 0:Nat):Int)-((val (A5 l j) &&& 0:Nat):Int))=((val (A5 l j) ^^^ 0:Nat):Int);rw [Nat.or_zero,Nat.and_zero,Nat.xor_zero];omega
 | false =>
  show (((val (A5 l j) ||| 4294967295:Nat):Int)-((val (A5 l j) &&& 4294967295:Nat):Int))=_;rw [mV hlt,show (4294967295:Nat)=2 ^ 32-1 by decide,Nat.and_two_pow_sub_one_eq_mod,Nat.mod_eq_of_lt hlt];have hc:=To ((List.range 32).map fun p=>l.getD (32*j+p) false==true);rw [<- h1,List.map_map,List.length_map,List.length_range] at hc;have e:((List.range 32).map ((fun b=>!b) ∘ fun p=>l.getD (32*j+p) false==true))=(List.range 32).map fun p=>l.getD (32*j+p) false==false:=List.map_congr_left fun p _=>by
   show (!(l.getD (32*j+p) false==true))=_;cases l.getD (32*j+p) false<;>rfl
  rw [e] at hc;have e0:val (A5 l j) ^^^ L9 true=val (A5 l j):=Nat.xor_zero _;rw [e0] at hc;omega
theorem Co (l:List Nat):(nV l).length=l.length:=by unfold nV;rw [List.length_map]
theorem bR {l:List Nat}{i:Nat}{n:Nat}(h:l[i]?=some n):(nV l)[i]?=some (.int (n:Nat)):=by
 unfold nV;rw [List.getElem?_map,h];rfl
theorem Vn (l m:List Nat):nV l++nV m=nV (l++m):=by unfold nV;rw [List.map_append]
theorem A8 {H H1:Hp}{a:Addr}{o:HO}(s:Am H H1)(h:H a=none):Am H (upd H1 a o):=fun b u e=>by
 rw [Ai (Ak e h)];exact s _ _ e
theorem K9 {K:PySem.W.Frag}:kitOne K (.type "list") (.type "list")=some true:=by rfl
theorem Tu {l:List Int}{i:Nat}{n:Int}(h:l[i]?=some n):(l.map V.int)[i]?=some (.int n):=by
 rw [List.getElem?_map,h];rfl
theorem Ia {l:List Int}{i:Nat}{x:V}(h:(l.map V.int)[i]?=some x):∃ n,l[i]?=some n/\x=.int n:=by
 rw [List.getElem?_map] at h
 cases e:l[i]? with
 | none=>rw [e] at h;cases h
 | some n =>
  rw [e] at h;exact ⟨n,rfl,(Option.some.inj h).symm⟩
theorem Td {l:List Int}{m:Nat}{x:Int}(h0:0<m)(h:l[m-1]?=some x):atI ((l.take m).map V.int) (-1)=some (.int x):=by
 have hm:=En h;have e:l.take m=l.take (m-1)++[x]:=by
  rw [show m=m-1+1 by omega,List.take_add_one,h];rfl
 rw [e,List.map_append];exact Xq _ _
theorem Mf {l:List Int}{m:Nat}(h:m<=l.length):((l.take m).map V.int).length=m:=by rw [List.length_map,List.length_take];omega
theorem eH {l:List Int}{m:Nat}(h:m<=l.length):((l.take m).map V.int).dropLast=(l.take (m-1)).map V.int:=by
 rw [<- List.map_dropLast,List.dropLast_eq_take,List.take_take,List.length_take];congr 2;omega
def cD (H:Hp)(p:Addr):Nat:=match H p with | some (.lst xs)=>xs.length | _=>0
theorem Lz {H:Hp}{p:Addr}{xs:List V}(h:H p=some (.lst xs)):cD H p=xs.length:=by unfold cD;rw [h]
theorem Rz {K:PySem.W.Frag}{H1:Hp}{Q:VK}{p:Addr}{ls:List (List Bool)}(hl:H1 p=some (.lst (ls.map fun l=>.str (Ax l))))(hz:ls.flatten.length<=100000)(q:Q (.str (Ax ls.flatten)) H1):lL K (.str "") [.ref p] H1 Q:=by
 refine ⟨"",p,ls.map Ax,rfl,rfl,SqL.of ?_,?_,?_⟩
 ·rw [hl,List.map_map]
  rfl
 ·have e:((ls.map Ax).map (·.length)).sum=ls.flatten.length:=by
   rw [List.length_flatten,List.map_map];congr 1;refine List.map_congr_left fun l _=>?_;exact B4 l
  rw [e];show ls.flatten.length+_*0<=_;omega
 ·have e:Txt.join ("":Str) (ls.map Ax)=Ax ls.flatten:=by
   refine Gp ?_;rw [P8,List.map_map];show ((ls.map fun l=>(l.map fun b=>if b then 49 else 48).toArray.toList)).flatten=(ls.flatten.map _).toArray.toList;simp only [List.toList_toArray];rw [List.map_flatten]
  rw [e];exact q
theorem Vx {ds:List Nat}(h:Dok ds):∀ k,k<=ds.length->opn ds k<=k
 | 0,_=>Nat.le_refl _
 | k+1,hk=>by
  show dAt ds k+1<=k+1;have:=h k (by omega);have:=Vx h k (by omega);omega
theorem Jp {ds:List Nat}{d j:Nat}(h:j<ds.length):dAt (ds++[d]) j=dAt ds j:=by
 unfold dAt List.getD;rw [List.getElem?_append_left h]
theorem M6 (ds:List Nat)(d:Nat):dAt (ds++[d]) ds.length=d:=by
 unfold dAt List.getD;rw [List.getElem?_append_right (Nat.le_refl _),Nat.sub_self];rfl
theorem Mx {ds:List Nat}{d:Nat}:∀ k,k<=ds.length->opn (ds++[d]) k=opn ds k
 | 0,_=>rfl
 | k+1,h=>by
  show dAt (ds++[d]) k+1=dAt ds k+1;rw [Jp (by omega)]
theorem Lx {ds:List Nat}{d:Nat}:∀ k,k<=ds.length->way (ds++[d]) k=way ds k
 | 0,_=>rfl
 | k+1,h=>by
  show (way (ds++[d]) k).take (dAt (ds++[d]) k+1)++[(k:Int)]=_;rw [Lx k (by omega),Jp (by omega)];rfl
theorem Hi {ds:List Nat}{d:Nat}(h:Dok ds)(hd:d<=opn ds ds.length):Dok (ds++[d]):=fun k hk=>by
 rw [List.length_append] at hk;simp only [List.length_cons,List.length_nil] at hk
 by_cases e:k=ds.length
 ·subst e
  rw [M6,Mx _ (Nat.le_refl _)];exact hd
 ·rw [Jp (by omega),Mx k (by omega)]
  exact h k (by omega)
theorem Ej (ds:List Nat)(d:Nat):Au (ds++[d])=Au ds++[(way ds ds.length).getD d 0]:=by
 unfold Au;rw [List.length_append];show (List.range (ds.length+1)).map _=_;rw [List.range_succ,List.map_append];congr 1
 ·refine List.map_congr_left fun k hk=>?_
  have hk:=List.mem_range.mp hk;unfold eld;rw [Lx k (by omega),Jp hk]
 ·show [eld (ds++[d]) ds.length]=_
  unfold eld;rw [Lx _ (Nat.le_refl _),M6]
theorem Fo (ds:List Nat)(d:Nat):way (ds++[d]) (ds.length+1)=(way ds ds.length).take (d+1)++[(ds.length:Int)]:=by
 show (way (ds++[d]) ds.length).take (dAt (ds++[d]) ds.length+1)++_=_;rw [Lx _ (Nat.le_refl _),M6]
theorem Jv {ds:List Nat}(h:Dok ds){k:Nat}(hk:k<=ds.length):way ds k=-1::(way ds k).tail:=by
 have e:=F5 h k hk
 cases hw:way ds k with
 | nil=>rw [hw] at e;cases e
 | cons x r =>
  rw [hw] at e;obtain rfl:=Option.some.inj e;rfl
theorem P4 (xs:List V)(m:Nat):Dz xs none (some (m:Int))=xs.take m:=by
 unfold Dz;rw [HT.sIx_nat];show (xs.drop 0).take (min m xs.length-0)=xs.take m;rw [List.drop_zero,Nat.sub_zero]
 by_cases h:m<=xs.length
 ·rw [Nat.min_eq_left h]
 ·rw [Nat.min_eq_right (by omega),List.take_of_length_le (Nat.le_refl _),List.take_of_length_le (by omega)]
theorem Wk {ds:List Nat}{d:Nat}(h:Dok (ds++[d])):Dok ds/\d<=opn ds ds.length:=by
 refine ⟨fun k hk=>?_,?_⟩
 ·have:=h k (by rw [List.length_append];omega)
  rw [Jp hk,Mx k (by omega)] at this;exact this
 ·have:=h ds.length (by rw [List.length_append];simp)
  rw [M6,Mx _ (Nat.le_refl _)] at this;exact this
def shI (n:Nat)(b e:Int):Int:=if e<0 then b else e+n
def G7 (ds:List Nat)(D:Nat)(es:List Nat):List Nat:=ds++es.map (·+D)
theorem W8 (ds:List Nat)(D:Nat)(es:List Nat):(G7 ds D es).length=ds.length+es.length:=by unfold G7;rw [List.length_append,List.length_map]
theorem nJ {ds:List Nat}(h1:Dok ds){D:Nat}(hD:D<=opn ds ds.length)(es:List Nat)(h2:Dok es):Dok (G7 ds D es)/\Au (G7 ds D es)=Au ds++(Au es).map (shI ds.length ((way ds ds.length).getD D 0)) /\
  (es≠[]->way (G7 ds D es) (G7 ds D es).length=(way ds ds.length).take (D+1)++(way es es.length).tail.map (fun x:Int=>x+(ds.length:Int))):=by
 have hw:=Cj h1 ds.length (Nat.le_refl _)
 induction es using Hd with
 | h0 =>
  have e:G7 ds D []=ds:=by unfold G7;simp
  rw [e];exact ⟨h1,by show Au ds=Au ds++[];simp,fun z=>absurd rfl z⟩
 | h1 es d ih =>
  obtain ⟨h2a,hd⟩:=Wk h2;obtain ⟨k1,k2,k3⟩:=ih h2a;have ec:G7 ds D (es++[d])=G7 ds D es++[d+D]:=by unfold G7;rw [List.map_append,<- List.append_assoc];rfl
  have hwe:=Cj h2a es.length (Nat.le_refl _);have hhe:=Jv h2a (k:=es.length) (Nat.le_refl _);have htl:(way es es.length).tail.length=opn es es.length:=by rw [List.length_tail];omega
  have hwc:=Cj k1 (G7 ds D es).length (Nat.le_refl _)
  by_cases he:es=[]
  ·subst he
   have e0:G7 ds D []=ds:=by unfold G7;simp
   have d0:d=0:=Nat.le_zero.mp hd;subst d0;rw [ec,e0,Nat.zero_add];refine ⟨Hi h1 hD,?_,fun _=>?_⟩
   ·rw [Ej]
    rfl
   ·rw [List.length_append]
    show way (ds++[D]) (ds.length+1)=_;rw [Fo];congr 1;show [(ds.length:Int)]=[(0:Int)+(ds.length:Int)];rw [Int.zero_add]
  ·have k3:=k3 he
   have htk:((way ds ds.length).take (D+1)).length=D+1:=by rw [List.length_take];omega
   have hopn:opn (G7 ds D es) (G7 ds D es).length=D+opn es es.length:=by
    rw [k3,List.length_append,List.length_map,htl,htk] at hwc;omega
   rw [ec];refine ⟨Hi k1 (by rw [hopn];omega),?_,fun _=>?_⟩
   ·rw [Ej,Ej,k2,List.map_append,<- List.append_assoc]
    congr 1;show [_]=[_];congr 1;rw [k3]
    cases d with
    | zero =>
     have e1:(way es es.length).getD 0 0=-1:=by rw [hhe];rfl
     rw [e1,Nat.zero_add];unfold shI;rw [if_pos (by decide)];unfold List.getD;rw [List.getElem?_append_left (by omega),List.getElem?_take_of_lt (by omega)]
    | succ d =>
     have hx:(way es es.length)[d+1]?=some ((way es es.length)[d+1]'(by omega)):=List.getElem?_eq_getElem _;generalize (way es es.length)[d+1]'(by omega)=x at hx;obtain ⟨v,rfl,_⟩:=Nh h2a es.length d x (Nat.le_refl _) hx;have e1:(way es es.length).getD (d+1) 0=(v:Int):=by unfold List.getD;rw [hx];rfl
     rw [e1];unfold shI;rw [if_neg (by omega)];unfold List.getD;rw [List.getElem?_append_right (by omega),htk,List.getElem?_map,show d+1+D-(D+1)=d by omega];rw [hhe] at hx;rw [List.getElem?_cons_succ] at hx;rw [hx];rfl
   ·have e2:(G7 ds D es++[d+D]).length=(G7 ds D es).length+1:=by rw [List.length_append];rfl
    have e3:(es++[d]).length=es.length+1:=by rw [List.length_append];rfl
    rw [e2,Fo,e3,Fo,k3];have e4:((way es es.length).take (d+1)++[(es.length:Int)]).tail=(way es es.length).tail.take d++[(es.length:Int)]:=by
     rw [hhe];rfl
    rw [e4,List.map_append,<- List.append_assoc];have e5:((way ds ds.length).take (D+1)++(way es es.length).tail.map (fun x:Int=>x+(ds.length:Int))).take (d+D+1)=(way ds ds.length).take (D+1)++((way es es.length).tail.take d).map (fun x:Int=>x+(ds.length:Int)):=by
     rw [List.take_append,htk,List.take_of_length_le (by omega),show d+D+1-(D+1)=d by omega,List.map_take]
    rw [e5];congr 1;show [((G7 ds D es).length:Int)]=[(es.length:Int)+(ds.length:Int)];rw [W8];congr 1;omega
theorem Na {l:List Nat}{i:Nat}{x:V}(h:(nV l)[i]?=some x):∃ n,l[i]?=some n/\x=.int (n:Nat):=by
 unfold nV at h;rw [List.getElem?_map] at h
 cases e:l[i]? with
 | none=>rw [e] at h;cases h
 | some n =>
  rw [e] at h;exact ⟨n,rfl,(Option.some.inj h).symm⟩
def grB (ns:List Nat):List Bool:=(ns.map fun n=>List.replicate n true++[false]).flatten
theorem U8 (ns:List Nat):(grB ns).length=ns.sum+ns.length:=by
 induction ns with
 | nil=>rfl
 | cons n r ih =>
  show (List.replicate n true++[false]++grB r).length=_;rw [List.length_append,ih];simp;omega
theorem Rv {ns:List Nat}{i n:Nat}(h:ns[i]?=some n):n<=ns.sum:=by
 induction ns generalizing i with
 | nil=>cases h
 | cons m r ih =>
  cases i with
  | zero=>cases h;simp
  | succ i=>have:=ih (i:=i) h;simp;omega
def G9:Sp:=fun vs H Q _=>∃ (l:Addr) (ns:List Nat),vs=[.ref l]/\H l=some (.lst (nV ns))/\ns.sum+ns.length<=20000/\∀ H',Am H H'->Q (.str (Ax (grB ns))) H'
structure F7 (H H':Hp):Prop where
 keep:∀ b u,(∀ ps,u≠.tbl ps)->H b=some u->H' b=some u
 tb:∀ b ps,H b=some (.tbl ps)->∃ ps',H' b=some (.tbl ps')
theorem F7.refl (H:Hp):F7 H H:=⟨fun _ _ _ e=>e,fun _ ps e=>⟨ps,e⟩⟩
theorem F7.trans {H H1 H2:Hp}(a:F7 H H1)(b:F7 H1 H2):F7 H H2:=⟨fun c u n e=>b.keep c u n (a.keep c u n e),fun c ps e=>let ⟨ps',e'⟩:=a.tb c ps e;b.tb c ps' e'⟩
theorem F7.tup {H H':Hp}(s:F7 H H'){a:Addr}{xs:List V}(h:H a=some (.tup xs)):H' a=some (.tup xs):=s.keep _ _ (by intro ps e;cases e) h
theorem fU {H H':Hp}(s:Am H H'):F7 H H':=⟨fun b u _ e=>s b u e,fun b ps e=>⟨ps,s b _ e⟩⟩
theorem F7.free {H H':Hp}(s:F7 H H'){l:Addr}(e:H' l=none):H l=none:=by
 cases q:H l with
 | none=>rfl
 | some o =>
  by_cases ho:∃ ps,o=.tbl ps
  ·obtain ⟨ps,rfl⟩:=ho
   obtain ⟨ps',e2⟩:=s.tb l ps q;rw [e2] at e;cases e
  ·rw [s.keep l o (fun ps z=>ho ⟨ps,z⟩) q] at e;cases e
structure Tb where
 P:Addr
 pos:Pos
 qual:Str
def Tb.ok (t:Tb)(H:Hp):Prop:=Kb H t.P t.pos t.qual
theorem Tb.same {t:Tb}{H H':Hp}(s:Am H H')(h:t.ok H):t.ok H':=by
 obtain ⟨ps,e1,e2,e3⟩:=h;exact ⟨ps,s _ _ e1,e2,e3.imp id fun ⟨c,oc,a1,a2,a3⟩=>⟨c,oc,a1,s _ _ a2,a3⟩⟩
theorem Tb.sameX {t:Tb}{P:Addr}{H H':Hp}(s:K8 P H H')(hP:∃ ps,H P=some (.tbl ps))(n:t.P≠P)(h:t.ok H):t.ok H':=by
 obtain ⟨ps,e1,e2,e3⟩:=h;obtain ⟨ps',hP⟩:=hP;exact ⟨ps,s _ _ n e1,e2,e3.imp id fun ⟨c,oc,a1,a2,a3⟩=>⟨c,oc,a1,s _ _ (fun z=>by rw [z,hP] at a2;cases a2) a2,a3⟩⟩
theorem oB {P:Addr}{H H':Hp}(s:K8 P H H')(hP:∃ ps,H P=some (.tbl ps))(hP':∃ ps,H' P=some (.tbl ps)):F7 H H':=by
 refine ⟨fun b u n e=>s b u (fun z=>?_) e,fun b ps e=>?_⟩
 ·obtain ⟨ps,hP⟩:=hP
  rw [z,hP] at e;cases e;exact n ps rfl
 ·by_cases hb:b=P
  ·rw [hb];exact hP'
  ·exact ⟨ps,s b _ hb e⟩
theorem Tb.tbl {t:Tb}{H:Hp}(h:t.ok H):∃ ps,H t.P=some (.tbl ps):=let ⟨ps,e,_⟩:=h;⟨ps,e⟩
def Tbs (ts:List Tb)(H:Hp):Prop:=(∀ t∈ts,t.ok H)/\(ts.map (·.P)).Nodup
structure SmT (ts:List Tb) (H H':Hp):Prop where
 sm:F7 H H'
 ok:Tbs ts H'
theorem Tbs.same {ts:List Tb}{H H':Hp}(h:Tbs ts H)(s:Am H H'):Tbs ts H':=⟨fun t ht=>Tb.same s (h.1 t ht),h.2⟩
theorem SmT.of {ts:List Tb}{H H':Hp}(h:Tbs ts H)(s:Am H H'):SmT ts H H':=⟨fU s,h.same s⟩
theorem SmT.refl {ts:List Tb}{H:Hp}(h:Tbs ts H):SmT ts H H:=⟨F7.refl _,h⟩
theorem SmT.trans {ts:List Tb}{H H1 H2:Hp}(a:SmT ts H H1)(b:SmT ts H1 H2):SmT ts H H2:=⟨a.sm.trans b.sm,b.ok⟩
theorem SmT.then {ts:List Tb}{H H1 H2:Hp}(a:SmT ts H H1)(b:Am H1 H2):SmT ts H H2:=a.trans (.of a.ok b)
theorem SmT.k {ts:List Tb}{H H':Hp}(s:SmT ts H H'){b:Addr}{u:HO}(h:H b=some u)(n:∀ ps,u≠.tbl ps:=by intro ps e;cases e):H' b=some u:=s.sm.keep _ _ n h
theorem iR:∀ {ts:List Tb} {t u:Tb},(ts.map (·.P)).Nodup->t∈ts->u∈ts->t.P=u.P->t=u
 | [],_,_,_,h,_,_=>nomatch h
 | x::r,t,u,hn,ht,hu,e=>by
  rw [List.map_cons,List.nodup_cons] at hn;rcases List.mem_cons.mp ht with rfl | ht'<;>rcases List.mem_cons.mp hu with rfl | hu'
  ·rfl
  ·exact absurd (List.mem_map_of_mem (f:=(·.P)) hu') (by rw [<- e];exact hn.1)
  ·exact absurd (List.mem_map_of_mem (f:=(·.P)) ht') (by rw [e];exact hn.1)
  ·exact iR hn.2 ht' hu' e
theorem gK {ts:List Tb}{t:Tb}{H H':Hp}(h:Tbs ts H)(ht:t∈ts)(s:K8 t.P H H')(ok:t.ok H'):SmT ts H H':=by
 have hP:=Tb.tbl (h.1 t ht);refine ⟨oB s hP (Tb.tbl ok),fun u hu=>?_,h.2⟩
 by_cases e:u.P=t.P
 ·have:u=t:=iR h.2 hu ht e
  rw [this];exact ok
 ·exact Tb.sameX s hP e (h.1 u hu)
abbrev iN (ds:List Nat):List Int:=ds.map fun n:Nat=>(n:Int)
def G0 (ds:List Nat):List Int:=Dt (iN ds) (Bx ds.length)
theorem S1 (ds:List Nat):nV ds=(iN ds).map V.int:=by unfold nV iN;rw [List.map_map];rfl
theorem Fn (ds:List Nat):(G0 ds).length=ds.length:=by
 unfold G0 Dt Bx;rw [List.length_map,Cz,List.length_zip,List.length_map,List.length_map,List.length_range,Nat.min_self]
theorem S6 (ds:List Nat):(G0 ds).Perm (Bx ds.length):=by
 have h:=(Cn (lt:=ltI) ((iN ds).zip (Bx ds.length))).map (·.2);have e:((iN ds).zip (Bx ds.length)).map (·.2)=Bx ds.length:=by
  rw [List.map_snd_zip];unfold Bx;rw [List.length_map,List.length_map,List.length_range];exact Nat.le_refl _
 rw [e] at h;exact h
theorem R8 (n:Nat):(Bx n).Nodup:=by
 unfold Bx;exact List.Pairwise.map _ (fun a b h e=>h (by omega)) List.nodup_range
theorem Wl {n:Nat}{x:Int}(h:x∈Bx n):0<=x/\x.toNat<n:=by
 unfold Bx at h;obtain ⟨j,hj,rfl⟩:=List.mem_map.mp h;have:=List.mem_range.mp hj;exact ⟨by omega,by omega⟩
theorem Rl {ds:List Nat}{x:Int}(h:x∈G0 ds):0<=x/\x.toNat<ds.length:=Wl ((S6 ds).mem_iff.mp h)
theorem Yt (ds:List Nat):(G0 ds).Nodup:=(S6 ds).nodup_iff.mpr (R8 _)
theorem cJ {α β γ:Type}(f:γ->α)(g:γ->β):∀ l:List γ,(l.map f).zip (l.map g)=l.map fun x=>(f x,g x)
 | []=>rfl
 | x::l=>by rw [List.map_cons,List.map_cons,List.map_cons,List.zip_cons_cons,cJ f g l]
theorem jP (ds:List Nat):iN ds=(List.range ds.length).map fun j:Nat=>(dAt ds j:Int):=by
 refine List.ext_getElem (by simp [iN]) fun i h1 h2=>?_;have hi:i<ds.length:=by simpa [iN] using h1
 rw [List.getElem_map,List.getElem_map,List.getElem_range];unfold dAt List.getD;rw [List.getElem?_eq_getElem hi];rfl
theorem jB {ds:List Nat}(h:Dok ds):G0 ds=(lvo ds ds.length ds.length).map fun j:Nat=>(j:Int):=by
 unfold G0 Dt;have e:(iN ds).zip (Bx ds.length)=(List.range ds.length).map fun j:Nat=>((dAt ds j:Int),(j:Int)):=by
  rw [jP];exact cJ _ _ _
 rw [e,show (ltI:Int×Int->Int×Int->Bool)=ltZ from rfl,P0 h ds.length (Nat.le_refl _),List.map_map];rfl
def wP (xs:List V)(k:Nat):Prop:=∃ n:Nat,xs[k]?=some (.int n)/\n<xs.length/\∀ j,j<k->xs[j]?≠some (.int n)
def cZ (xs:List V):Prop:=∀ j,j<xs.length->wP xs j
def Met (xs:List V)(k:Nat)(ms:List Bool):Prop:=ms.length=xs.length/\∀ (i:Nat) b,ms[i]?=some b->(b=true↔∃ j,j<k/\xs[j]?=some (.int i))
theorem fX (xs:List V):Met xs 0 (List.replicate xs.length false):=by
 refine ⟨List.length_replicate,fun i b h=>?_⟩;rw [List.getElem?_replicate] at h;split at h
 ·cases h
  exact ⟨fun z=>by (cases z),fun ⟨j,hj,_⟩=>absurd hj (Nat.not_lt_zero _)⟩
 ·cases h
theorem lV {xs:List V}{k n:Nat}{ms:List Bool}(h:Met xs k ms)(hk:xs[k]?=some (.int n)):Met xs (k+1) (ms.set n true):=by
 refine ⟨by rw [List.length_set];exact h.1,fun i b hb=>?_⟩;rw [List.getElem?_set] at hb
 by_cases e:n=i
 ·rw [if_pos e] at hb
  split at hb
  ·cases hb
   exact ⟨fun _=>⟨k,Nat.lt_succ_self _,by rw [hk,e]⟩,fun _=>rfl⟩
  ·cases hb
 ·rw [if_neg e] at hb
  rw [h.2 i b hb]
  constructor
  ·rintro ⟨j,hj,hx⟩
   exact ⟨j,by omega,hx⟩
  ·rintro ⟨j,hj,hx⟩
   rcases Nat.lt_or_eq_of_le (Nat.le_of_lt_succ hj) with h1 | h1
   ·exact ⟨j,h1,hx⟩
   ·rw [h1,hk] at hx
    have:=V.int.inj (Option.some.inj hx);omega
theorem jN (ms:List Bool)(n:Nat)(b:Bool):(ms.map V.bl).set n (.bl b)=(ms.set n b).map V.bl:=by rw [List.map_set]
theorem jK (n:Nat):(List.replicate n [V.bl false]).flatten=(List.replicate n false).map V.bl:=by
 induction n with
 | zero=>rfl
 | succ n ih=>rw [List.replicate_succ,List.flatten_cons,ih,List.replicate_succ];rfl
theorem pJ {ms:List Bool}{i:Nat}{b:Bool}(h:ms[i]?=some b):(ms.map V.bl)[i]?=some (.bl b):=by
 rw [List.getElem?_map,h];rfl
def gB (ms:List Nat)(g:Nat):Nat:=(ms.take g).sum+g
theorem G2 (m:Nat)(r:List Nat):grB (m::r)=(List.replicate m true++[false])++grB r:=rfl
theorem Sr:∀ ns:List Nat,(grB ns).count true=ns.sum
 | []=>rfl
 | n::r=>by
  rw [G2,List.count_append,List.count_append,Sr r,List.count_replicate_self];simp
theorem Wd:∀ {ms:List Nat} {g m x:Nat},ms[g]?=some m->x<=m->(grB ms).take (gB ms g+x)=grB (ms.take g)++List.replicate x true
 | [],g,m,x,h,_=>by cases h
 | n::r,0,m,x,h,hx=>by
  obtain rfl:n=m:=Option.some.inj h;rw [G2,show gB (n::r) 0+x=x from Nat.zero_add x,List.append_assoc,List.take_append_of_le_length (by rw [List.length_replicate];exact hx),List.take_replicate,Nat.min_eq_left hx];rfl
 | n::r,g+1,m,x,h,hx=>by
  have ih:=Wd (ms:=r) (g:=g) h hx;have e:gB (n::r) (g+1)+x=(List.replicate n true++[false]).length+(gB r g+x):=by
   unfold gB;rw [List.take_succ_cons,List.sum_cons,List.length_append,List.length_replicate];simp;omega
  rw [G2,e,List.take_length_add_append,ih,List.take_succ_cons,G2];simp only [List.append_assoc]
theorem Xf:∀ {ms:List Nat} {g m:Nat},ms[g]?=some m->(grB ms)[gB ms g+m]?=some false
 | [],g,m,h=>by cases h
 | n::r,0,m,h=>by
  obtain rfl:n=m:=Option.some.inj h;rw [G2,show gB (n::r) 0+n=n from Nat.zero_add n,List.append_assoc,List.getElem?_append_right (by rw [List.length_replicate];exact Nat.le_refl _),List.length_replicate,Nat.sub_self];rfl
 | n::r,g+1,m,h=>by
  have ih:=Xf (ms:=r) (g:=g) h;have e:gB (n::r) (g+1)+m=(List.replicate n true++[false]).length+(gB r g+m):=by
   unfold gB;rw [List.take_succ_cons,List.sum_cons,List.length_append,List.length_replicate];simp;omega
  rw [G2,e,List.getElem?_append_right (Nat.le_add_right _ _),Nat.add_sub_cancel_left];exact ih
theorem rP {ms:List Nat}{g m x:Nat}(h:ms[g]?=some m)(hx:x<=m):((grB ms).take (gB ms g+x)).count true=(ms.take g).sum+x:=by
 rw [Wd h hx,List.count_append,Sr,List.count_replicate_self]
theorem tM {ms:List Nat}{g m x:Nat}(h:ms[g]?=some m)(hx:x<=m):(occ false (grB ms) (gB ms g+x)).length=g:=by
 have h1:=(Ud (grB ms) (gB ms g+x)).2;have h2:cnt (grB ms) (gB ms g+x)=(ms.take g).sum+x:=rP h hx;rw [h2] at h1;unfold gB at *;omega
theorem mB {ms:List Nat}{g m:Nat}(h:ms[g]?=some m):(occ false (grB ms) (grB ms).length)[g]?=some (gB ms g+m)/\gB ms g+m<(grB ms).length/\(grB ms).getD (gB ms g+m) false=false:=by
 have hz:=Xf h;have hlt:=En hz;have hd:(grB ms).getD (gB ms g+m) false=false:=by unfold List.getD;rw [hz];rfl
 have ho:=tM h (Nat.le_refl m);refine ⟨?_,hlt,hd⟩;have e:occ false (grB ms) (gB ms g+m+1)=occ false (grB ms) (gB ms g+m)++[gB ms g+m]:=by
  rw [My,hd];rfl
 rw [U0 (n:=gB ms g+m+1) (by omega) (by rw [e,List.length_append,ho];exact Nat.lt_succ_self _),e,List.getElem?_append_right (by rw [ho];exact Nat.le_refl _),ho,Nat.sub_self];rfl
theorem E5 {H1:Hp}{x dx:Addr}{o o':HO}(hx:H1 x=none)(hd:H1 dx=none):Am H1 (upd (upd H1 dx o) x o'):=fun b u e=>by rw [Ai (Ak e hx),Ai (Ak e hd)];exact e
theorem Tbs.keepN {ts:List Tb}{H:Hp}{p:Addr}{o o':HO}(h:Tbs ts H)(hp:H p=some o')(nt:∀ ps,o'≠.tbl ps:=by intro ps e;cases e)(nf:∀ a b,o'≠.frz a b:=by intro a b e;cases e):Tbs ts (upd H p o):=by
 refine ⟨fun t ht=>?_,h.2⟩;obtain ⟨ps,e1,e2,e3⟩:=h.1 t ht;exact ⟨ps,by rw [Ai (fun z=>by rw [z,hp] at e1;exact nt _ (Option.some.inj e1))];exact e1,e2,e3.imp id fun ⟨c,oc,a1,a2,a3⟩=>⟨c,oc,a1,by rw [Ai (fun z=>by rw [z,hp] at a2;exact nf _ _ (Option.some.inj a2))];exact a2,a3⟩⟩
theorem SmT.push {ts:List Tb}{H H1:Hp}{p:Addr}{o:HO}{xs:List V}(s:SmT ts H H1)(hp:H p=none)(hl:H1 p=some (.lst xs)):SmT ts H (upd H1 p o):=by
 refine ⟨⟨fun b u n e=>?_,fun b ps e=>?_⟩,s.ok.keepN hl⟩
 ·rw [Ai (Ak e hp)]
  exact s.sm.keep b u n e
 ·rw [Ai (Ak e hp)]
  exact s.sm.tb b ps e
theorem dU {ts:List Tb}{lo:Int}{n:Nat}{H1:Hp}{fr:St}{tc:TT}{te:TE}{Q:VK}(hT:Tbs ts H1)(acc:Nat->List V)(h0:acc 0=[])(hz:∀ i,i<n->(acc i).length<sizeLine)
  (turn:∀ (i:Nat) H (R:Hp->Prop) (A:VK),i<n->SmT ts H1 H->(∀ y H',acc (i+1)=acc i++[y]->SmT ts H H'->A y H')->tc (some (.int (lo+i))::fr) H fun b H3=>if b=true then te (some (.int (lo+i))::fr) H3 A else R H3)
  (fin:∀ D H,H1 D=none->SmT ts H1 H->H D=some (.lst (acc n))->Q (.ref D) H):N4 (Itr lo n) H1 fr tc te Q:=by
 intro D hD;refine ⟨fun i m H=>i+m=n/\SmT ts H1 H/\H D=some (.lst (acc i)),⟨n,by omega,SmT.of hT (Ah hD),by rw [Ab,h0]⟩,?_⟩;rintro i m H ⟨him,sm,hd⟩
 by_cases hi:i<n
 ·refine .inr ⟨hi,fun x H' h=>?_⟩
  obtain ⟨rfl,rfl⟩:=h;exact turn i _ _ _ hi sm fun y H'' e s2=>⟨acc i,s2.k hd,hz i hi,m-1,by omega,by omega,(sm.trans s2).push hD (s2.k hd),by rw [Ab,e]⟩
 ·obtain rfl:i=n:=by omega
  exact .inl ⟨Nat.le_refl _,fin D H hD sm hd⟩
structure SmB (ts:List Tb) (x:Addr) (H H':Hp):Prop where
 keep:∀ b u,b≠x->(∀ ps,u≠.tbl ps)->H b=some u->H' b=some u
 tb:∀ b ps,H b=some (.tbl ps)->∃ ps',H' b=some (.tbl ps')
 ok:Tbs ts H'
theorem SmB.k {ts:List Tb}{x:Addr}{H H':Hp}(s:SmB ts x H H'){b:Addr}{u:HO}(h:H b=some u)(ne:b≠x)(n:∀ ps,u≠.tbl ps:=by intro ps e;cases e):H' b=some u:=s.keep _ _ ne n h
theorem SmB.refl {ts:List Tb}{x:Addr}{H:Hp}(h:Tbs ts H):SmB ts x H H:=⟨fun _ _ _ _ e=>e,fun _ ps e=>⟨ps,e⟩,h⟩
theorem SmB.trans {ts:List Tb}{x:Addr}{H H1 H2:Hp}(a:SmB ts x H H1)(b:SmB ts x H1 H2):SmB ts x H H2:=⟨fun c u n1 n2 e=>b.keep c u n1 n2 (a.keep c u n1 n2 e),fun c ps e=>let ⟨ps',e'⟩:=a.tb c ps e;b.tb c ps' e',b.ok⟩
theorem SmB.sm {ts:List Tb}{x:Addr}{H H1 H2:Hp}(a:SmB ts x H H1)(b:SmT ts H1 H2):SmB ts x H H2:=a.trans ⟨fun c u _ n e=>b.sm.keep c u n e,b.sm.tb,b.ok⟩
theorem SmB.then {ts:List Tb}{x:Addr}{H H1 H2:Hp}(a:SmB ts x H H1)(b:Am H1 H2):SmB ts x H H2:=a.sm (.of a.ok b)
theorem SmB.put {ts:List Tb}{x:Addr}{H H1:Hp}{o o':HO}(a:SmB ts x H H1)(hx:H1 x=some o)(nt:∀ ps,o≠.tbl ps:=by intro ps e;cases e)(nf:∀ a b,o≠.frz a b:=by intro a b e;cases e):SmB ts x H (upd H1 x o'):=by
 refine a.trans ⟨fun b u n _ e=>by rw [Ai n];exact e,fun b ps e=>⟨ps,?_⟩,a.ok.keepN hx nt nf⟩;rw [Ai (fun z=>by rw [z,hx] at e;exact nt _ (Option.some.inj e))];exact e
theorem SmB.made {ts:List Tb}{x dx C:Addr}{H H':Hp}(hx:H x=none)(hdx:H dx=none)(s:SmB ts x (upd (upd H dx (.own x)) x (.ins C dx [])) H'):SmT ts H H':=by
 have kp:∀ b u,H b=some u->b≠x/\upd (upd H dx (.own x)) x (.ins C dx []) b=some u:=fun b u e=>by
  have e1:b≠x:=Ak e hx;have e2:b≠dx:=Ak e hdx;exact ⟨e1,by rw [Ai e1,Ai e2];exact e⟩
 exact ⟨⟨fun b u n e=>s.keep b u (kp b u e).1 n (kp b u e).2,fun b ps e=>s.tb b ps (kp b _ e).2⟩,s.ok⟩
theorem SmB.free {ts:List Tb}{x d:Addr}{H H':Hp}{o:HO}(s:SmB ts x H H')(hx:H' x=some o)(e:H' d=none):H d=none:=by
 cases q:H d with
 | none=>rfl
 | some u =>
  by_cases hu:∃ ps,u=.tbl ps
  ·obtain ⟨ps,rfl⟩:=hu
   obtain ⟨ps',e2⟩:=s.tb d ps q;rw [e2] at e;cases e
  ·by_cases hdx:d=x
   ·rw [hdx,hx] at e;cases e
   ·rw [s.keep d u hdx (fun ps z=>hu ⟨ps,z⟩) q] at e;cases e
theorem rB {K:PySem.W.Frag}{H:Hp}{Q:VK}{p:Addr}{ns:List Int}(hs:SqL K H p (ns.map V.int))(q:∀ m:Int,(ns=[]->m=-1)->(ns≠[]->Vz ns m)->Q (.int m) H):qF K [.ref p] [.int (-1)] H Q :=
 ⟨p,ns,_,rfl,rfl,hs,fun h=>q (-1) (fun _=>rfl) (fun n=>absurd h n),fun m hm=>q m (fun h=>by rw [h] at hm;cases hm.1) (fun _=>hm)⟩
theorem SmB.new {ts:List Tb}{x d:Addr}{H H1 H2:Hp}(a:SmB ts x H H1)(b:SmB ts d H1 H2)(hd:H d=none):SmB ts x H H2 :=
 ⟨fun c u n1 n2 e=>b.keep c u (Ak e hd) n2 (a.keep c u n1 n2 e),fun c ps e=>let ⟨ps',e'⟩:=a.tb c ps e;b.tb c ps' e',b.ok⟩
theorem SmB.kp {ts:List Tb}{x b:Addr}{H H':Hp}{o:HO}(s:SmB ts x H H')(hx:H x=some o)(hb:b≠x)(no:∀ xs,o≠.tup xs:=by intro xs e;cases e):∀ c u,(∀ ps,u≠.tbl ps)->(c=b\/∃ xs,u=.tup xs)->H c=some u->H' c=some u:=fun c u n h e=>by
 refine s.keep c u (fun z=>?_) n e;rcases h with h | ⟨xs,h⟩
 ·exact hb (h▸z)
 ·rw [z,hx,h] at e
  exact no _ (Option.some.inj e)
theorem SmT.kp {ts:List Tb}{b:Addr}{H H':Hp}(s:SmT ts H H'):∀ c u,(∀ ps,u≠.tbl ps)->(c=b\/∃ xs,u=.tup xs)->H c=some u->H' c=some u:=fun c u n _ e=>s.sm.keep c u n e
theorem fK (ds:List Nat):cZ ((G0 ds).map V.int):=fun j hj=>by
 rw [List.length_map,Fn] at hj;have hj2:j<(G0 ds).length:=by rw [Fn];exact hj
 have hm:=Rl (List.getElem_mem hj2);have e:(G0 ds)[j]?=some (G0 ds)[j]:=List.getElem?_eq_getElem hj2;generalize (G0 ds)[j]=x at hm e;obtain ⟨n,rfl⟩:∃ n:Nat,x=(n:Int):=⟨x.toNat,by omega⟩;refine ⟨n,Tu e,by rw [List.length_map,Fn];omega,fun i hi he=>?_⟩;obtain ⟨y,hy,hz⟩:=Ia he;rw [<- V.int.inj hz] at hy;have:=List.pairwise_iff_getElem.mp (Yt ds) i j (by omega) hj2 hi;rw [List.getElem?_eq_getElem (show i<(G0 ds).length by omega)] at hy;rw [List.getElem?_eq_getElem hj2] at e;exact this ((Option.some.inj hy).trans (Option.some.inj e).symm)
theorem dE {ds:List Nat}(h:Dok ds):(A7 ds ds.length (-1)).length::(G0 ds).map (fun v=>(A7 ds ds.length v).length)=gsL ds:=by
 unfold gsL;rw [jB h,List.map_map];rfl
theorem X1 {ds:List Nat}(h:Dok ds)(k:Nat):pre (gsL ds) k<=ds.length:=(Er h).2▸U2 (gsL ds) k
theorem mQ {ds:List Nat}(h:Dok ds){k:Nat}(hk:k<ds.length):k<pre (gsL ds) (k+1):=by
 have h1:k+1<1+((gsL ds).take (k+1)).sum:=(kG h).at (k+1) (by rw [(Er h).1];omega);show k<((gsL ds).take (k+1)).sum;omega
theorem mM {ns:List Nat}{g:Nat}(hg:g<ns.length):(occ false (grB ns) (grB ns).length)[g]?=some (pre ns (g+1)+g):=by
 have h:=(mB (List.getElem?_eq_getElem hg)).1;rw [h];congr 1;unfold gB;rw [Pm hg];unfold pre;omega
def bW (K:PySem.W.Frag)(ts:List Tb):Sp:=fun vs H Q _=>∃ (a:Addr) (ns:List Int),vs=[.ref a]/\SqL K H a (ns.map V.int)/\ns.length<=63/\Tbs ts H/\∀ H',Q (.bl true) H'
abbrev AllMk:Prop:=∀ {l:PySem.W.OpenLaw} {w:World} {K:PySem.W.Frag} {h:Heap} {mg:Str->Option Value} {fa:Addr} (X:K.In h) (G:h.Ns mainGlobals mg) (hfa:mg "law"=some (.ref fa))
  {ad:Addr}
  {ab:Addr}
  {ai:Addr}
  {aa:Addr}
  {f23:Addr} {od23 an23:Option Addr} {sl23:Array (Option Value)} {oc23 kV23 dc23 pm23 ct23:Value}
  {oo23:Obj}
  {f30:Addr} {od30 an30:Option Addr} {sl30:Array (Option Value)} {oc30 kV30 dc30 pm30 cd30 ct30:Value}
  {T30:Addr} {oT30:Obj} {vT30:Value} {nT30:Nat}
  {f33:Addr} {od33 an33:Option Addr} {sl33:Array (Option Value)} {oc33 kV33 dc33 pm33 ct33:Value}
  {oo33:Obj}
  {f54:Addr} {od54 an54:Option Addr} {sl54:Array (Option Value)} {oc54 kV54 dc54 pm54 ct54:Value}
  {oo54:Obj}
  {ae:Addr} {o_ONES_OF_FOUR:Obj} {i_ONES_OF_FOUR:Array Value} {n_ONES_OF_FOUR:Nat}
  {ag:Addr} {o_SIGNS_OF_FOUR:Obj} {i_SIGNS_OF_FOUR:Array Value} {n_SIGNS_OF_FOUR:Nat}
  {t_WORD_BITS:Tok}
  {t_MOST_BITS:Tok}
  {t_BLOCK_WORDS:Tok}
  {t_BLOCK_BITS:Tok}
  {t_FULL_WORD:Tok}
  {t_MOST_KNOTS:Tok}
  {t_MARK_STEP:Tok}
  {ah:Addr}
  (cd_Bits:CD K ad "Bits")
  (fd_Bits:FD K ad ["length","many_ones","kept_words"])
  (cd_Counts:CD K ab "Counts")
  (fd_Counts:FD K ab ["length","kept_words","kept_table"])
  (cd_Shortcuts:CD K ai "Shortcuts")
  (fd_Shortcuts:FD K ai ["onward","leaps"])
  (cd_Levelled:CD K aa "Levelled")
  (fd_Levelled:FD K aa ["knots","bits","counts","places","begins","level_count","widest_level","leaps"])
  (g0:GD K "is_whole" Lf)
  (g1:GD K "is_within" Js)
  (g2:GD K "check_bit" Jw)
  (g3:GD K "check_place" Gv)
  (g4:GD K "check_stretch" Fv)
  (g5:GD K "ones_in" Nl)
  (g6:GD K "nth_of_four" Fg)
  (g7:GD K "nth_one" Nm)
  (g8:GD K "is_row" O1)
  (g9:GD K "word_of" N7)
  (g10:GD K "words_of" Ie)
  (g11:GD K "signs_of" Hs)
  (g12:MD K ad "__init__" "Bits.__init__" Je)
  (g13:MD K ad "size" "Bits.size" Kg)
  (g14:MD K ad "words" "Bits.words" Il)
  (g15:MD K ad "stretch" "Bits.stretch" E2)
  (g16:MD K ad "text" "Bits.text" Ix)
  (g17:GD K "first_that" Hw)
  (g18:GD K "running_sums" Gb)
  (g19:GD K "table_of_words" C0)
  (g20:MD K ab "__init__" "Counts.__init__" Gy)
  (g21:MD K ab "ahead_of_block" "Counts.ahead_of_block" Cy)
  (g22:MD K ab "many_like" "Counts.many_like" Eh)
  (i23:PySem.W.isFn K (.ref f23)=true)
  (a23:PySem.W.findIn K (.ref ab) "block_with"=some (some (.ref f23))) (l23:K.lookup f23=some ⟨oc23,od23,.func (PySem.W.fnOf "block_with" "Counts.block_with" (Bw Bi) (Bl Bi) (Ad Bi) .none kV23 dc23 pm23 an23 (.ref 379) ct23),sl23⟩) (c23:PySem.W.codeIn K (.ref 379) "Counts.block_with"=true) (k23:PySem.W.keepIn K (.ref f23)=true)
  (lc23:K.lookup 379=some oo23) (hc23:Hu oo23 379 375)
  (g24:MD K ab "place_from" "Counts.place_from" D5)
  (g25:MD K ab "place_of" "Counts.place_of" Ey)
  (g26:GD K "begins_of" Gk)
  (g27:GD K "check_order" Gu)
  (g28:GD K "rounds_of" Jh)
  (g29:GD K "shortcuts_of" F9)
  (i30:PySem.W.isFn K (.ref f30)=true)
  (a30:PySem.W.findIn K (.ref ai) "__init__"=some (some (.ref f30))) (l30:K.lookup f30=some ⟨oc30,od30,.func (PySem.W.fnOf "__init__" "Shortcuts.__init__" (Bw B1) (Bl B1) (Ad B1) (.ref T30) kV30 dc30 pm30 an30 cd30 ct30),sl30⟩) (c30:PySem.W.codeIn K cd30 "Shortcuts.__init__"=true) (k30:PySem.W.keepIn K (.ref f30)=true)
  (lT30:K.lookup T30=some oT30) (dT30:oT30.data=.seq #[vT30] nT30)
  (eT30:Ba (.int 16) vT30)
  (g31:GD K "look_at" Nk)
  (g32:GD K "depths_of" Jn)
  (a33:PySem.W.nsIn K mainGlobals "level_order"=some (some (.ref f33))) (l33:K.lookup f33=some ⟨oc33,od33,.func (PySem.W.fnOf "level_order" "level_order" (Bw De) (Bl De) (Ad De) .none kV33 dc33 pm33 an33 (.ref 490) ct33),sl33⟩) (c33:PySem.W.codeIn K (.ref 490) "level_order"=true) (k33:PySem.W.keepIn K (.ref f33)=true)
  (lc33:K.lookup 490=some oo33) (hc33:Hu oo33 490 486)
  (g34:GD K "children_counted" Eg)
  (g35:GD K "counted_row" Fi)
  (g36:GD K "thin_rest" Iu)
  (g37:GD K "level_row" Gj)
  (g38:GD K "widest_of" J9)
  (g39:MD K aa "down" "Levelled.down" Fu)
  (g40:MD K aa "far_down" "Levelled.far_down" Dx)
  (g41:MD K aa "left_below" "Levelled.left_below" Dh)
  (g42:MD K aa "mark_leaps" "Levelled.mark_leaps" Di)
  (g43:MD K aa "__init__" "Levelled.__init__" Fx)
  (g44:MD K aa "many_knots" "Levelled.many_knots" Dk)
  (g45:MD K aa "row" "Levelled.row" Ga)
  (g46:MD K aa "elders" "Levelled.elders" B6)
  (g47:GD K "_law_cell_at" Gw)
  (g48:GD K "_law_twice" Jj)
  (g49:GD K "_law_grown" Jd)
  (g50:GD K "_law_drawn" Jk)
  (g51:GD K "_law_repeated" Ew)
  (g52:GD K "_law_wood" Lp)
  (g53:GD K "_law_plain" Gs)
  (a54:PySem.W.nsIn K mainGlobals "_law_order"=some (some (.ref f54))) (l54:K.lookup f54=some ⟨oc54,od54,.func (PySem.W.fnOf "_law_order" "_law_order" (Bw Em) (Bl Em) (Ad Em) .none kV54 dc54 pm54 an54 (.ref 863) ct54),sl54⟩) (c54:PySem.W.codeIn K (.ref 863) "_law_order"=true) (k54:PySem.W.keepIn K (.ref f54)=true)
  (lc54:K.lookup 863=some oo54) (hc54:Hu oo54 863 859)
  (g55:GD K "_law_groups" F2)
  (g56:GD K "_law_shows" Fq)
  (g57:GD K "_law_chain" Kf)
  (g58:GD K "_law_wide" Lh)
  (g59:GD K "law" S8)
  (g_ONES_OF_FOUR:PySem.W.nsIn K mainGlobals "ONES_OF_FOUR"=some (some (.ref ae))) (o1_ONES_OF_FOUR:K.lookup ae=some o_ONES_OF_FOUR) (o2_ONES_OF_FOUR:o_ONES_OF_FOUR.cls=.type "tuple") (o3_ONES_OF_FOUR:o_ONES_OF_FOUR.data=.seq i_ONES_OF_FOUR n_ONES_OF_FOUR) (o4_ONES_OF_FOUR:i_ONES_OF_FOUR.size<=sizeLine) (o5_ONES_OF_FOUR:Az (Sx.map fun n:Nat=>V.int n) i_ONES_OF_FOUR.toList)
  (g_SIGNS_OF_FOUR:PySem.W.nsIn K mainGlobals "SIGNS_OF_FOUR"=some (some (.ref ag))) (o1_SIGNS_OF_FOUR:K.lookup ag=some o_SIGNS_OF_FOUR) (o2_SIGNS_OF_FOUR:o_SIGNS_OF_FOUR.cls=.type "tuple") (o3_SIGNS_OF_FOUR:o_SIGNS_OF_FOUR.data=.seq i_SIGNS_OF_FOUR n_SIGNS_OF_FOUR) (o4_SIGNS_OF_FOUR:i_SIGNS_OF_FOUR.size<=sizeLine) (o5_SIGNS_OF_FOUR:Az (dD) i_SIGNS_OF_FOUR.toList)
  (g_WORD_BITS:PySem.W.nsIn K mainGlobals "WORD_BITS"=some (some (.int 32 t_WORD_BITS)))
  (g_MOST_BITS:PySem.W.nsIn K mainGlobals "MOST_BITS"=some (some (.int 20000 t_MOST_BITS)))
  (g_BLOCK_WORDS:PySem.W.nsIn K mainGlobals "BLOCK_WORDS"=some (some (.int 8 t_BLOCK_WORDS)))
  (g_BLOCK_BITS:PySem.W.nsIn K mainGlobals "BLOCK_BITS"=some (some (.int 256 t_BLOCK_BITS)))
  (g_FULL_WORD:PySem.W.nsIn K mainGlobals "FULL_WORD"=some (some (.int 4294967295 t_FULL_WORD)))
  (g_MOST_KNOTS:PySem.W.nsIn K mainGlobals "MOST_KNOTS"=some (some (.int 4000 t_MOST_KNOTS)))
  (g_MARK_STEP:PySem.W.nsIn K mainGlobals "MARK_STEP"=some (some (.int 16 t_MARK_STEP)))
  (z_range:PySem.W.nsIn K mainGlobals "range"=some none)
  (z_len:PySem.W.nsIn K mainGlobals "len"=some none)
  (z_int:PySem.W.nsIn K mainGlobals "int"=some none)
  (z_bool:PySem.W.nsIn K mainGlobals "bool"=some none)
  (z_str:PySem.W.nsIn K mainGlobals "str"=some none)
  (z_isinstance:PySem.W.nsIn K mainGlobals "isinstance"=some none)
  (z_list:PySem.W.nsIn K mainGlobals "list"=some none)
  (z_tuple:PySem.W.nsIn K mainGlobals "tuple"=some none)
  (z_dict:PySem.W.nsIn K mainGlobals "dict"=some none)
  (z_enumerate:PySem.W.nsIn K mainGlobals "enumerate"=some none)
  (z_zip:PySem.W.nsIn K mainGlobals "zip"=some none)
  (z_sum:PySem.W.nsIn K mainGlobals "sum"=some none)
  (z_abs:PySem.W.nsIn K mainGlobals "abs"=some none)
  (z_max:PySem.W.nsIn K mainGlobals "max"=some none)
  (z_min:PySem.W.nsIn K mainGlobals "min"=some none)
  (z_sorted:PySem.W.nsIn K mainGlobals "sorted"=some none)
  (z_reversed:PySem.W.nsIn K mainGlobals "reversed"=some none)
  (eg_Wood:PySem.W.nsIn K mainGlobals "Wood"=some (some (.ref ah)))
  (ca_Levelled:PySem.W.findIn K (.ref aa) "__class__"=some (some (.builtin "object.__class__")))
  (sp_Levelled:PySem.W.specialIn K (.builtin "object.__class__") "__get__"=some (some (.builtin "getset_descriptor.__get__")))
  (tk_Levelled:PySem.W.takesIn K (.builtin "object.__class__")=some true)
  (mo_Levelled:PySem.W.mroIn K aa (.type "object")=some true)
  (kit_Levelled_Wood:kitOne K (.ref aa) (.ref ah)=some true),
   ∃ fd:FuncData,(∀ (s:Shared) (v:Value),BindsTo s fd ⟨[v],[]⟩ [("_law_script",v)])/\∀ base:Heap,K.In base->base.Ns mainGlobals mg->(∀ q∈([(379,375),(490,486),(863,859)]:List (Addr×Addr)),base.BuiltinsAt mg q.2)->A4 l.prog w K mg base CX0 11 fa fd ["_law_script"] (bW K [⟨375,Aq,"Counts.block_with.<locals>.<lambda>"⟩,⟨486,Aw,"level_order.<locals>.<lambda>"⟩,⟨859,A0,"_law_order.<locals>.<lambda>"⟩])
theorem walk {l:PySem.W.OpenLaw}{q:Program}{loose:List Str}{XP:(Str->Option Value)->Heap->Prop}{YP:World->Heap->Prop}{d:DefRec}{K:Params->PySem.W.Frag}(hn:l.most=some 63)(hdf:d.params.defaults=[])
  (hY:∀ (w:World) (h:Heap),YP w h->(K w.params).In h)(hTb:∀ (w:World) (h:Heap),YP w h->PySem.W.TabsAt [(379,375),(490,486),(863,859)] h)(hTK:∀ w:World,∀ p∈([(379,375),(490,486),(863,859)]:List (Addr×Addr)),(K w.params).lookup p.2=none)
  (F:∀ (w:World) (mg:Str->Option Value) (fa:Addr) (h:Heap),(K w.params).In h->h.Ns mainGlobals mg->mg d.name=some (.ref fa) ->
   ∃ fd:FuncData,(∀ (s:Shared) (u:Value),BindsTo s fd ⟨[u],[]⟩ [("_law_script",u)])/\∀ base:Heap,(K w.params).In base->base.Ns mainGlobals mg->(∀ q∈([(379,375),(490,486),(863,859)]:List (Addr×Addr)),base.BuiltinsAt mg q.2)->A4 l.prog w (K w.params) mg base CX0 11 fa fd ["_law_script"] (bW (K w.params) [⟨375,Aq,"Counts.block_with.<locals>.<lambda>"⟩,⟨486,Aw,"level_order.<locals>.<lambda>"⟩,⟨859,A0,"_law_order.<locals>.<lambda>"⟩])) :
  PySem.W.WalkO q loose XP YP l.row.toRowW d [] (fun f vs=>PySem.call f vs) :=
 L2.fR (n:=63) (k:=11) (x:="_law_script") (tabs:=[(379,375),(490,486),(863,859)]) (CX:=fun _=>CX0) (sp:=fun w=>(bW (K w.params) [⟨375,Aq,"Counts.block_with.<locals>.<lambda>"⟩,⟨486,Aw,"level_order.<locals>.<lambda>"⟩,⟨859,A0,"_law_order.<locals>.<lambda>"⟩])) hn (by decide) hdf ⟨rfl,by decide,by decide⟩ hY hTb hTK F (fun _ _ a ns hl hO hS=>⟨a,ns,rfl,hS,hl,⟨List.forall_mem_cons.mpr ⟨⟨#[],hO (379,375) (by simp),trivial,.inl rfl⟩,List.forall_mem_cons.mpr ⟨⟨#[],hO (490,486) (by simp),trivial,.inl rfl⟩,List.forall_mem_cons.mpr ⟨⟨#[],hO (863,859) (by simp),trivial,.inl rfl⟩,fun _ h=>nomatch h⟩⟩⟩,by decide⟩,fun _=>rfl⟩) fun _ _ _ _ _ z=>z
end TK
section
noncomputable def PySem.W.Fast.tw7561889063568208035:PySem.Program:=PySem.Challenge.pw_tightwood_k41_rows_by_levels
theorem PySem.W.Fast.te7561889063568208035:PySem.Challenge.pw_tightwood_k41_rows_by_levels=PySem.W.Fast.tw7561889063568208035:=rfl
def HD.loose:List PySem.Str:=[PySem.Str.ofString "_wall",PySem.Str.ofString "WoodError",PySem.Str.ofString "NoBits",PySem.Str.ofString "NoPlace",PySem.Str.ofString "NoWood",PySem.Str.ofString "NoKnot",PySem.Str.ofString "NoOrder",PySem.Str.ofString "is_whole",PySem.Str.ofString "is_within",PySem.Str.ofString "check_bit",PySem.Str.ofString "check_place",PySem.Str.ofString "check_stretch",PySem.Str.ofString "check_from_nought",PySem.Str.ofString "check_knot",PySem.Str.ofString "WORD_BITS",PySem.Str.ofString "FULL_WORD",PySem.Str.ofString "ONES_OF_FOUR",PySem.Str.ofString "ones_in",PySem.Str.ofString "nth_of_four",PySem.Str.ofString "nth_one",PySem.Str.ofString "MOST_BITS",PySem.Str.ofString "SIGNS_OF_FOUR",PySem.Str.ofString "is_row",PySem.Str.ofString "word_of",PySem.Str.ofString "words_of",PySem.Str.ofString "signs_of",PySem.Str.ofString "Bits",PySem.Str.ofString "BLOCK_WORDS",PySem.Str.ofString "BLOCK_BITS",PySem.Str.ofString "first_that",PySem.Str.ofString "running_sums",PySem.Str.ofString "table_of_words",PySem.Str.ofString "Counts",PySem.Str.ofString "begins_of",PySem.Str.ofString "check_order",PySem.Str.ofString "rounds_of",PySem.Str.ofString "shortcuts_of",PySem.Str.ofString "Shortcuts",PySem.Str.ofString "MOST_KNOTS",PySem.Str.ofString "MARK_STEP",PySem.Str.ofString "look_at",PySem.Str.ofString "depths_of",PySem.Str.ofString "level_order",PySem.Str.ofString "children_counted",PySem.Str.ofString "counted_row",PySem.Str.ofString "thin_rest",PySem.Str.ofString "Wood",PySem.Str.ofString "level_row",PySem.Str.ofString "widest_of",PySem.Str.ofString "Levelled",PySem.Str.ofString "_law_cell_at",PySem.Str.ofString "_law_twice",PySem.Str.ofString "_law_grown",PySem.Str.ofString "_law_drawn",PySem.Str.ofString "_law_repeated",PySem.Str.ofString "_law_wood",PySem.Str.ofString "_law_plain",PySem.Str.ofString "_law_order",PySem.Str.ofString "_law_numbers",PySem.Str.ofString "_law_groups",PySem.Str.ofString "_law_shows",PySem.Str.ofString "_law_chain",PySem.Str.ofString "_law_wide"]
def HD.LD:PySem.DefRec:=HD.recOf (PySem.Challenge.pw_tightwood_k41_rows_by_levels.main.body.getD 72 (.Pass ⟨0,0,0,0⟩))
def HD.VQ:PySem.Program:=PySem.W.view PySem.Challenge.pw_tightwood_k41_rows_by_levels [72]
theorem HD.A_ok (w:PySem.World):(fun os=>HD.oneA (HD.bootT w os) (PySem.W.boot_heap w.params) HD.bootSize PySem.Challenge.pw_tightwood_k41_rows_by_levels 100000 w)=(fun _=>some true):=by rw [HD.oneA_eq];kernel_rfl
theorem HD.B_ok (w:PySem.World):(fun os=>HD.oneB (HD.bootT w os) HD.bootSize PySem.Challenge.pw_tightwood_k41_rows_by_levels HD.VQ HD.loose 100000 w)=(fun _=>some (PySem.W.openGood HD.VQ HD.loose)):=by rw [HD.oneB_eq];kernel_rfl
local macro_rules | `(tactic| o_head $H)=>`(tactic| (refine PySem.W.holds_open (q:=HD.VQ) (loose:=HD.loose) (d:=HD.LD) (kwd:=[]) (Xt:=fun _=>true) (XP:=fun _ _=>True) (Yf:=PySem.W.Hook.obs $H) (Ya:=PySem.W.Hook.val $H) (YP:=PySem.W.Hook.says $H) (N:=100000) (HD.left_of3 (p:=PySem.Challenge.pw_tightwood_k41_rows_by_levels) (q:=HD.VQ) (loose:=HD.loose) (Yf:=PySem.W.Hook.obs $H) (Ya:=PySem.W.Hook.val $H) (N:=100000) (M:=100000) (by kernel_rfl) (fun _=>by kernel_rfl) (by kernel_rfl) (by kernel_rfl) HD.A_ok HD.B_ok (HD.hC_km (fun w=>by rw [HD.oneP_eq];kernel_rfl))) (PySem.W.Hook.of $H) (PySem.W.Hook.keeps $H) (fun _ _=>trivial) (fun _ _ _ _ _=>trivial) (by kernel_rfl) (by kernel_rfl) (by kernel_rfl) (fun _ _=>PySem.W.recFacts_nil rfl) rfl (by assumption) (by decide +kernel) ⟨rfl,rfl,rfl,rfl,rfl,by decide +kernel⟩ ?_ ?_))
open PySem PySem.W PyProof.Rows
set_option maxRecDepth 100000 in
set_option maxHeartbeats 0 in
theorem TK.HEAD (AM:TK.AllMk):PySem.Challenge.rw_tightwood_k41_rows_by_levels.Holds:=by
 w_on;o_law;k_head
 ·w_witness2
 k_fill
 refine TK.walk (l:=PySem.Challenge.rw_tightwood_k41_rows_by_levels) rfl (by kernel_rfl) (fun w h Y=>km_in_of Y) (fun w h Y=>List.forall_mem_cons.mpr ⟨⟨PySem.W.codeHd_of_K (c:=379) (P:=375) (km_in_of Y) (by kernel_rfl),PySem.W.km_tabs_of Y 375 (by simp)⟩,List.forall_mem_cons.mpr ⟨⟨PySem.W.codeHd_of_K (c:=490) (P:=486) (km_in_of Y) (by kernel_rfl),PySem.W.km_tabs_of Y 486 (by simp)⟩,List.forall_mem_cons.mpr ⟨⟨PySem.W.codeHd_of_K (c:=863) (P:=859) (km_in_of Y) (by kernel_rfl),PySem.W.km_tabs_of Y 859 (by simp)⟩,fun _ h=>nomatch h⟩⟩⟩) (fun w=>List.forall_mem_cons.mpr ⟨by kernel_rfl,List.forall_mem_cons.mpr ⟨by kernel_rfl,List.forall_mem_cons.mpr ⟨by kernel_rfl,fun _ h=>nomatch h⟩⟩⟩) ?F
 case F =>
  intro w mg fa h KX G hmg;refine' AM KX G hmg ?cd_Bits ?fd_Bits ?cd_Counts ?fd_Counts ?cd_Shortcuts ?fd_Shortcuts ?cd_Levelled ?fd_Levelled ?g0 ?g1 ?g2 ?g3 ?g4 ?g5 ?g6 ?g7 ?g8 ?g9 ?g10 ?g11 ?g12 ?g13 ?g14 ?g15 ?g16 ?g17 ?g18 ?g19 ?g20 ?g21 ?g22 ?i23 ?a23 ?l23 ?c23 ?k23 ?lc23 ?hc23 ?g24 ?g25 ?g26 ?g27 ?g28 ?g29 ?i30 ?a30 ?l30 ?c30 ?k30 ?lT30 ?dT30 ?eT30 ?g31 ?g32 ?a33 ?l33 ?c33 ?k33 ?lc33 ?hc33 ?g34 ?g35 ?g36 ?g37 ?g38 ?g39 ?g40 ?g41 ?g42 ?g43 ?g44 ?g45 ?g46 ?g47 ?g48 ?g49 ?g50 ?g51 ?g52 ?g53 ?a54 ?l54 ?c54 ?k54 ?lc54 ?hc54 ?g55 ?g56 ?g57 ?g58 ?g59 ?g_ONES_OF_FOUR ?o1_ONES_OF_FOUR ?o2_ONES_OF_FOUR ?o3_ONES_OF_FOUR ?o4_ONES_OF_FOUR ?o5_ONES_OF_FOUR ?g_SIGNS_OF_FOUR ?o1_SIGNS_OF_FOUR ?o2_SIGNS_OF_FOUR ?o3_SIGNS_OF_FOUR ?o4_SIGNS_OF_FOUR ?o5_SIGNS_OF_FOUR ?g_WORD_BITS ?g_MOST_BITS ?g_BLOCK_WORDS ?g_BLOCK_BITS ?g_FULL_WORD ?g_MOST_KNOTS ?g_MARK_STEP ?z_range ?z_len ?z_int ?z_bool ?z_str ?z_isinstance ?z_list ?z_tuple ?z_dict ?z_enumerate ?z_zip ?z_sum ?z_abs ?z_max ?z_min ?z_sorted ?z_reversed ?eg_Wood ?ca_Levelled ?sp_Levelled ?tk_Levelled ?mo_Levelled ?kit_Levelled_Wood
  (case eg_Wood=>k_is)
  (case cd_Bits|cd_Counts|cd_Shortcuts|cd_Levelled=>refine' ⟨?_,?_,?_⟩<;>try k_is)
  (case fd_Bits|fd_Counts|fd_Shortcuts|fd_Levelled=>refine' L2.fD ?_ ?_ ?_ ?_ ?_<;>try first | k_is | kernel_rfl)
  (case g0|g1|g2|g3|g4|g5|g6|g7|g8|g9|g10|g11|g17|g18|g19|g26|g27|g28|g29|g31|g32|g34|g35|g36|g37|g38|g47|g48|g49|g50|g51|g52|g53|g55|g56|g57|g58|g59=>refine' L2.gD ?_ ?_ ?_ ?_<;>try k_is)
  (case g12|g13|g14|g15|g16|g20|g21|g22|g24|g25|g39|g40|g41|g42|g43|g44|g45|g46=>refine' L2.mD ?_ ?_ ?_ ?_ ?_<;>try k_is)
  (case a23|l23|c23|k23|i23|lc23=>k_is)
  (case hc23=>exact ⟨_,_,_,_,_,_,_,_,rfl,rfl,rfl,rfl,rfl,rfl,rfl,rfl,by decide⟩)
  (case a30|l30|c30|k30|i30|lT30=>k_is)
  (case dT30=>rfl)
  (case eT30=>exact ⟨_,rfl⟩)
  (case a33|l33|c33|k33|lc33=>k_is)
  (case hc33=>exact ⟨_,_,_,_,_,_,_,_,rfl,rfl,rfl,rfl,rfl,rfl,rfl,rfl,by decide⟩)
  (case a54|l54|c54|k54|lc54=>k_is)
  (case hc54=>exact ⟨_,_,_,_,_,_,_,_,rfl,rfl,rfl,rfl,rfl,rfl,rfl,rfl,by decide⟩)
  (case g_ONES_OF_FOUR|o1_ONES_OF_FOUR=>k_is)
  (case o2_ONES_OF_FOUR=>rfl);(case o3_ONES_OF_FOUR=>rfl);(case o4_ONES_OF_FOUR=>decide);(case o5_ONES_OF_FOUR=>repeat (first | exact .nil | refine .cons ⟨_,rfl⟩ ?_))
  (case g_SIGNS_OF_FOUR|o1_SIGNS_OF_FOUR=>k_is)
  (case o2_SIGNS_OF_FOUR=>rfl);(case o3_SIGNS_OF_FOUR=>rfl);(case o4_SIGNS_OF_FOUR=>decide);(case o5_SIGNS_OF_FOUR=>repeat (first | exact .nil | refine .cons ⟨_,rfl⟩ ?_))
  (case g_WORD_BITS|g_MOST_BITS|g_BLOCK_WORDS|g_BLOCK_BITS|g_FULL_WORD|g_MOST_KNOTS|g_MARK_STEP|z_range|z_len|z_int|z_bool|z_str|z_isinstance|z_list|z_tuple|z_dict|z_enumerate|z_zip|z_sum|z_abs|z_max|z_min|z_sorted|z_reversed|ca_Levelled|sp_Levelled|tk_Levelled|mo_Levelled=>k_is)
  (case kit_Levelled_Wood=>kit_is)
end
namespace TK
open PySem L2 TW
local macro_rules | `(tactic| k_is)=>`(tactic| walk_at "rd")
structure Qc (K:PySem.W.Frag) (C:Addr):Prop where
 cl:Cls K C
 n_length:Bu K C "length"
 n_many_ones:Bu K C "many_ones"
 n_kept_words:Bu K C "kept_words"
structure Qb (K:PySem.W.Frag) (C:Addr):Prop where
 cl:Cls K C
 n_length:Bu K C "length"
 n_kept_words:Bu K C "kept_words"
 n_kept_table:Bu K C "kept_table"
structure Qd (K:PySem.W.Frag) (C:Addr):Prop where
 cl:Cls K C
 n_onward:Bu K C "onward"
 n_leaps:Bu K C "leaps"
structure Qa (K:PySem.W.Frag) (C:Addr):Prop where
 cl:Cls K C
 n_knots:Bu K C "knots"
 n_bits:Bu K C "bits"
 n_counts:Bu K C "counts"
 n_places:Bu K C "places"
 n_begins:Bu K C "begins"
 n_level_count:Bu K C "level_count"
 n_widest_level:Bu K C "widest_level"
 n_leaps:Bu K C "leaps"
structure Txt (K:PySem.W.Frag) (mg:Str->Option Value) (ae:Addr) (ag:Addr) (ah:Addr) (aa:Addr):Prop where
 g_Wood:mg "Wood"=some (.ref ah)
 ca_Levelled:PySem.W.findIn K (.ref aa) "__class__"=some (some (.builtin "object.__class__"))
 sp_Levelled:PySem.W.specialIn K (.builtin "object.__class__") "__get__"=some (some (.builtin "getset_descriptor.__get__"))
 tk_Levelled:PySem.W.takesIn K (.builtin "object.__class__")=some true
 mo_Levelled:PySem.W.mroIn K aa (.type "object")=some true
 kit_Levelled_Wood:kitOne K (.ref aa) (.ref ah)=some true
 g_ONES_OF_FOUR:mg "ONES_OF_FOUR"=some (.ref ae)
 q_ONES_OF_FOUR:∀ H,SqT K H ae (Sx.map fun n:Nat=>V.int n)
 g_SIGNS_OF_FOUR:mg "SIGNS_OF_FOUR"=some (.ref ag)
 q_SIGNS_OF_FOUR:∀ H,SqT K H ag (dD)
 g_WORD_BITS:∃ t,mg "WORD_BITS"=some (.int 32 t)
 g_MOST_BITS:∃ t,mg "MOST_BITS"=some (.int 20000 t)
 g_BLOCK_WORDS:∃ t,mg "BLOCK_WORDS"=some (.int 8 t)
 g_BLOCK_BITS:∃ t,mg "BLOCK_BITS"=some (.int 256 t)
 g_FULL_WORD:∃ t,mg "FULL_WORD"=some (.int 4294967295 t)
 g_MOST_KNOTS:∃ t,mg "MOST_KNOTS"=some (.int 4000 t)
 g_MARK_STEP:∃ t,mg "MARK_STEP"=some (.int 16 t)
 n_range:mg "range"=none
 n_len:mg "len"=none
 n_int:mg "int"=none
 n_bool:mg "bool"=none
 n_str:mg "str"=none
 n_isinstance:mg "isinstance"=none
 n_list:mg "list"=none
 n_tuple:mg "tuple"=none
 n_dict:mg "dict"=none
 n_enumerate:mg "enumerate"=none
 n_zip:mg "zip"=none
 n_sum:mg "sum"=none
 n_abs:mg "abs"=none
 n_max:mg "max"=none
 n_min:mg "min"=none
 n_sorted:mg "sorted"=none
 n_reversed:mg "reversed"=none
section
variable {P:Program} {w:World} {K:PySem.W.Frag} {mg:Str->Option Value} {base:Heap} {ae ag:Addr} {ad ab ai aa ah:Addr}
def Ml:Sp:=fun vs H Q _=>∃ i:Int,vs=[.int i]/\Q (.bl true) H
theorem Wz {f:Addr}{fd:FuncData}(F:Fun K "is_whole" "is_whole" Lf f fd)(T:Txt K mg ae ag ah aa):A4 P w K mg base CX0 1 f fd ["thing"] Ml:=by
 refine F.ok W5 (fun vs H Q E h=>?_) (fun cdv A outer s H vs Q E hr h=>?_)
 ·obtain ⟨i,rfl,_⟩:=h
  rfl
 ·obtain ⟨i,rfl,q⟩:=h
  refine ⟨_,(Af (At (Ym (Ap Ci (by rfl) T.n_isinstance Br (Ag (pv 0) (Ag (Fj (v:=.ty "int") rfl T.n_int cG rfl) Ac rfl) rfl)) (Zq (rX (Ap Ci (by rfl) T.n_isinstance Br (Ag (pv 0) (Ag (Fj (v:=.ty "bool") rfl T.n_bool bI rfl) Ac rfl) rfl))))))),?_⟩;k_is;refine ⟨_,_,_,_,rfl,.int _,Oh,?_⟩;k_is;refine ⟨_,_,_,_,rfl,.int _,M0,?_⟩;k_is;exact q
def Hh:Sp:=fun vs H Q _=>∃ x lo hi:Int,vs=[.int x,.int lo,.int hi]/\lo<=x/\x<=hi/\Q (.bl true) H
theorem Vk {f:Addr}{fd:FuncData}(F:Fun K "is_within" "is_within" Js f fd)(T:Txt K mg ae ag ah aa)(ar:Cal P w K mg base "is_whole" 1 ["thing"] Ml):A4 P w K mg base CX0 2 f fd ["thing","low","high"] Hh:=by
 refine F.ok Uh (fun vs H Q E h=>?_) (fun cdv A outer s H vs Q E hr h=>?_)
 ·obtain ⟨x,lo,hi,rfl,_⟩:=h
  rfl
 ·obtain ⟨x,lo,hi,rfl,h1,h2,q⟩:=h
  refine ⟨_,(Af (At (Ym (A6 ar (hr.mono (by decide:1<=_)) (Ag (pv 0) Ac rfl)) (Zq (kU qE qE (pv 1) (pv 0) (pv 2)))))),?_⟩;k_is;refine ⟨x,rfl,?_⟩;k_is;refine Db (fun _=>?_) (fun h=>absurd h1 h);k_is;rw [decide_eq_true h2];exact q
def Yv:Sp:=fun vs H Q _=>∃ b:Bool,vs=[.int (b.toNat:Nat)]/\Q .non H
theorem Us {f:Addr}{fd:FuncData}(F:Fun K "check_bit" "check_bit" Jw f fd)(T:Txt K mg ae ag ah aa)(ak:Cal P w K mg base "is_within" 2 ["thing","low","high"] Hh):A4 P w K mg base CX0 3 f fd ["bit"] Yv:=by
 refine F.ok U7 (fun vs H Q E h=>?_) (fun cdv A outer s H vs Q E hr h=>?_)
 ·obtain ⟨b,rfl,_⟩:=h
  rfl
 ·obtain ⟨b,rfl,q⟩:=h
  refine ⟨_,(Af (Cq (Eu (C8 (A6 ak (hr.mono (by decide:2<=_)) (Ag (pv 0) (Ag Ae (Ag Ae Ac rfl) rfl) rfl)))) (Af Fl)
   Bb)),?_⟩
  k_is;refine ⟨_,0,1,rfl,by omega,by cases b<;>decide,?_⟩
  k_is;exact q
def Mr:Sp:=fun vs H Q _=>∃ n g:Int,vs=[.int n,.int g]/\0<=n/\n<=g/\Q .non H
theorem P9 {f:Addr}{fd:FuncData}(F:Fun K "check_place" "check_place" Gv f fd)(T:Txt K mg ae ag ah aa)(ak:Cal P w K mg base "is_within" 2 ["thing","low","high"] Hh):A4 P w K mg base CX0 3 f fd ["place","greatest"] Mr:=by
 refine F.ok P6 (fun vs H Q E h=>?_) (fun cdv A outer s H vs Q E hr h=>?_)
 ·obtain ⟨n,g,rfl,_⟩:=h
  rfl
 ·obtain ⟨n,g,rfl,h0,h1,q⟩:=h
  refine ⟨_,(Af (Cq (Eu (C8 (A6 ak (hr.mono (by decide:2<=_)) (Ag (pv 0) (Ag Ae (Ag (pv 1) Ac rfl) rfl) rfl)))) (Af Fl)
   Bb)),?_⟩
  k_is;refine ⟨n,0,g,rfl,h0,h1,?_⟩;k_is;exact q
def bK:Sp:=fun vs H Q _=>∃ i j g:Int,vs=[.int i,.int j,.int g]/\0<=i/\i<=j/\j<=g/\Q .non H
theorem Ni {f:Addr}{fd:FuncData}(F:Fun K "check_stretch" "check_stretch" Fv f fd)(T:Txt K mg ae ag ah aa)(ap:Cal P w K mg base "check_place" 3 ["place","greatest"] Mr):A4 P w K mg base CX0 4 f fd ["low","high","greatest"] bK:=by
 refine F.ok N6 (fun vs H Q E h=>?_) (fun cdv A outer s H vs Q E hr h=>?_)
 ·obtain ⟨i,j,g,rfl,_⟩:=h
  rfl
 ·obtain ⟨i,j,g,rfl,h0,h1,h2,q⟩:=h
  refine ⟨_,(Aa (Bk (A6 ap (hr.mono (by decide:3<=_)) (Ag (pv 0) (Ag (pv 2) Ac rfl) rfl)))
   (Aa (Bk (A6 ap (hr.mono (by decide:3<=_)) (Ag (pv 1) (Ag (pv 2) Ac rfl) rfl)))
   (Af (Cq (Av Ja (pv 0) (pv 1) (Ay _)) (Af Fl)
   Bb)))),?_⟩
  k_is;refine ⟨i,g,rfl,h0,by omega,?_⟩;k_is;refine ⟨j,g,rfl,by omega,h2,?_⟩;k_is;refine Db (fun h=>absurd h (by omega)) (fun _=>?_);k_is;exact q
def Ue:Sp:=fun vs H Q _=>∃ n:Nat,vs=[.int n]/\Q (.int (pc n)) H
theorem Y8 {f:Addr}{fd:FuncData}(F:Fun K "ones_in" "ones_in" Nl f fd)(T:Txt K mg ae ag ah aa):A4 P w K mg base CX0 1 f fd ["word"] Ue:=by
 refine F.ok Ic (fun vs H Q E h=>?_) (fun cdv A outer s H vs Q E hr h=>?_)
 ·obtain ⟨n,rfl,_⟩:=h
  rfl
 ·obtain ⟨n,rfl,q⟩:=h
  refine ⟨_,(Aa (Ao (i:=1) Ic.nd rfl (Or.inl rfl) Ae)
   (Aa (E4 PassesOwn.never (Av Ja (pv 0) Ae (Ay _))
   (Aa (Gx (i:=1) Ic.nd rfl (Or.inl rfl) (Bs Fc (Ms (v:=.ref _) rfl T.g_ONES_OF_FOUR rfl) (Aj Q5 (pv 0) Ae) (fun _ _=>rfl)) Lk)
   (Af (Gx (i:=0) Ic.nd rfl (Or.inl rfl) Ae bQ))))
   (Af (At (pv 1))))),?_⟩
  k_is;refine Et (fun σ H'=>∃ m o:Nat,σ=[some (.int m),some (.int o)]/\pc n=o+pc m/\H'=H) (fun σ _=>match σ with | some (.int m)::_=>m.toNat | _=>0) ⟨n,0,rfl,by simp,rfl⟩ ?_;rintro k σ H' ⟨m,o,rfl,e,rfl⟩ hk;k_is;refine Db (fun hm=>?_) (fun hm=>?_)
  ·refine Ht ?_
   k_is;refine Ho (T.q_ONES_OF_FOUR _) (v:=.int (pc (m%16))) ?_ ?_
   ·rw [cQ]
    exact cC _ (Nat.mod_lt _ (by decide))
   ·k_is
    refine ⟨⟨m/16,o+pc (m%16),?_,?_,rfl⟩,?_⟩
    ·show [some (V.int ((m:Int)/2 ^ (4:Int).toNat)),some (V.int ((o:Int)+(pc (m%16):Int)))]=_
     rw [oV];rfl
    ·rw [e,wX m]
     omega
    ·show ((m:Int)/2 ^ (4:Int).toNat).toNat<k
     rw [oV,<- hk];show m/16<m;omega
  ·k_is
   have:m=0:=by omega
   subst this;rw [Ox] at e;show Q (.int (o:Int)) H';rw [show o=pc n by omega];exact q
def Yz:Sp:=fun vs H Q _=>∃ r k p:Nat,vs=[.int r,.int k]/\(X0 r)[k]?=some p/\∀ H',Am H H'->Q (.int p) H'
theorem Q0 {f:Addr}{fd:FuncData}(F:Fun K "nth_of_four" "nth_of_four" Fg f fd)(T:Txt K mg ae ag ah aa):A4 P w K mg base CX0 1 f fd ["four","nth"] Yz:=by
 refine F.ok Ju (fun vs H Q E h=>?_) (fun cdv A outer s H vs Q E hr h=>?_)
 ·obtain ⟨r,k,p,rfl,_⟩:=h
  rfl
 ·obtain ⟨r,k,p,rfl,hp,q⟩:=h
  refine ⟨_,(Aa (Ji (i:=2) rfl N3 Ju.nd rfl rfl (Fa rfl T.n_range (Ag Ae Ac rfl)) (fun _ _ _ _=>cS (Av G6 (Aj Q5 (Aj lH (pv 1) (pv 0)) Ae) Ae (Ay _))) (fun _ _ _ _=>(pv 0)))
   (Af (At (Bs Bt (pv 2) (pv 1) (fun _ _=>rfl))))),?_⟩
  k_is;refine ⟨4,rfl,by decide,by decide,?_⟩;refine jX (fun i=>((List.range i).filter fun p=>decide (r/2 ^ p%2=1)).map fun p:Nat=>V.int (p:Int)) rfl (fun i hi=>?_) (fun i H1 R A hi sm kR kA=>?_) (fun D H1 hD sm hl=>?_)
  ·have h4:i<4:=hi
   rw [List.length_map];exact Nat.lt_of_le_of_lt (Nat.le_trans (List.length_filter_le _ _) (Nat.le_of_eq List.length_range)) (Ek (by omega))
  ·k_is
   refine iU (by omega) ?_;k_is;have e1:(r:Int)/2 ^ (0+(i:Int)).toNat=((r/2 ^ i:Nat):Int):=by
    rw [show (0+(i:Int)).toNat=i by omega];exact (Int.natCast_ediv r (2 ^ i)).symm
   rw [e1,xF];have e2:((List.range (i+1)).filter fun p=>decide (r/2 ^ p%2=1))=((List.range i).filter fun p=>decide (r/2 ^ p%2=1))++if r/2 ^ i%2=1 then [i] else []:=by
    rw [List.range_succ,List.filter_append];congr 1
    by_cases h:r/2 ^ i%2=1
    ·rw [if_pos h]
     simp [h]
    ·rw [if_neg h]
     simp [h]
   refine Db (fun hb=>?_) (fun hb=>?_)
   ·have hb:r/2 ^ i%2=1:=by
     have:=V.int.inj hb;omega
    k_is;refine kA _ _ ?_ (Am.refl _);rw [e2,if_pos hb,List.map_append,show (0+(i:Int))=(i:Int) by omega];rfl
   ·have hb:¬ r/2 ^ i%2=1:=by
     intro z;exact hb (by rw [z];rfl)
    refine kR ?_ _ (Am.refl _);rw [e2,if_neg hb,List.append_nil]
  ·k_is
   refine Cw (SqL.of hl) (v:=.int p) ?_ (q _ sm);refine Bh ?_;rw [List.getElem?_map];show Option.map _ ((X0 r)[k]?)=_;rw [hp];rfl
def iG:Sp:=fun vs H Q _=>∃ n k:Nat,vs=[.int n,.int k]/\∀ H',Am H H'->Q (wM (nth n k)) H'
theorem Z3 {f:Addr}{fd:FuncData}(F:Fun K "nth_one" "nth_one" Nm f fd)(T:Txt K mg ae ag ah aa)(aD:Cal P w K mg base "nth_of_four" 1 ["four","nth"] Yz):A4 P w K mg base CX0 2 f fd ["word","nth"] iG:=by
 refine F.ok Ff (fun vs H Q E h=>?_) (fun cdv A outer s H vs Q E hr h=>?_)
 ·obtain ⟨n,k,rfl,_⟩:=h
  rfl
 ·obtain ⟨n,k,rfl,q⟩:=h
  refine ⟨_,(Aa (Cq (Av Oa (pv 1) Ae (Ay _)) (Af (At Vv))
   Bb)
   (Aa (Ao (i:=2) Ff.nd rfl (Or.inl rfl) Ae)
   (Aa (E4 PassesOwn.never (Av Ja (pv 0) Ae (Ay _))
   (Aa (Ao (i:=3) Ff.nd rfl (Or.inl rfl) (Bs Fc (Ms (v:=.ref _) rfl T.g_ONES_OF_FOUR rfl) (Aj Q5 (pv 0) Ae) (fun _ _=>rfl)))
   (Aa (Cq (Av Oa (pv 1) (pv 3) (Ay _)) (Af (At (Aj Bd (pv 2) (A6 aD (hr.mono (by decide:1<=_)) (Ag (Aj Q5 (pv 0) Ae) (Ag (pv 1) Ac rfl) rfl)))))
   Bb)
   (Aa (Gx (i:=1) Ff.nd rfl (Or.inl rfl) (pv 3) Vw)
   (Aa (Gx (i:=0) Ff.nd rfl (Or.inl rfl) Ae bQ)
   (Af (Gx (i:=2) Ff.nd rfl (Or.inl rfl) Ae Lk)))))))
   (Af (At Vv))))),?_⟩
  k_is;refine Db (fun hb=>absurd hb (by omega)) (fun _=>?_);k_is;refine Et (fun σ H'=>∃ (m j low:Nat) (v:Option V),σ=[some (.int m),some (.int j),some (.int low),v]/\nth n k=(nth m j).map (·+low)/\H'=H) (fun σ _=>match σ with | some (.int m)::_=>m.toNat | _=>0) ⟨n,k,0,none,rfl,by simp,rfl⟩ ?_;rintro μ σ H' ⟨m,j,low,v,rfl,e,rfl⟩ hk;k_is;refine Db (fun hm=>?_) (fun hm=>?_)
  ·refine Ht ?_
   k_is;refine Ho (T.q_ONES_OF_FOUR _) (v:=.int (pc (m%16))) ?_ ?_
   ·rw [cQ]
    exact cC _ (Nat.mod_lt _ (by decide))
   ·k_is
    have e16:=wO m j;refine Db (fun hj=>?_) (fun hj=>?_)
    ·have hj:j<pc (m%16):=by omega
     k_is;rw [if_pos hj] at e16;rw [cQ];obtain ⟨p,hp⟩:∃ p,(X0 (m%16))[j]?=some p:=by
      have:j<(X0 (m%16)).length:=by rw [nY _ (Nat.mod_lt _ (by decide))];exact hj
      exact ⟨_,List.getElem?_eq_getElem this⟩
     refine ⟨m%16,j,p,rfl,hp,fun H1 s1=>?_⟩;k_is;have:=q H1 s1;rw [e,e16,hp] at this;rw [show (low:Int)+(p:Int)=((p+low:Nat):Int) by omega];exact this
    ·have hj:¬ j<pc (m%16):=by omega
     k_is;rw [if_neg hj] at e16;refine ⟨⟨m/16,j-pc (m%16),low+4,some (.int (pc (m%16))),?_,?_,rfl⟩,?_⟩
     ·show [some (V.int ((m:Int)/2 ^ (4:Int).toNat)),some (V.int ((j:Int)-(pc (m%16):Int))),some (V.int ((low:Int)+4)),some (V.int (pc (m%16)))]=_
      rw [oV,show (j:Int)-(pc (m%16):Int)=((j-pc (m%16):Nat):Int) by omega];rfl
     ·rw [e,e16,Option.map_map]
      congr 1
      funext x
      show x+4+low=x+(low+4);omega
     ·show ((m:Int)/2 ^ (4:Int).toNat).toNat<μ
      rw [oV,<- hk];show m/16<m;omega
  ·k_is
   have:m=0:=by omega
   subst this;rw [Pk] at e;have:=q H' (Am.refl _);rw [e] at this;exact this
def oJ (z:Str):Bool:=if z.length>20000 then false else decide (Nt z 48+Nt z 49=z.length)
def T2:Sp:=fun vs H Q _=>∃ z:Str,vs=[.str z]/\z.length<=sizeLine/\Q (.bl (oJ z)) H
theorem eZ {f:Addr}{fd:FuncData}(F:Fun K "is_row" "is_row" O1 f fd)(T:Txt K mg ae ag ah aa):A4 P w K mg base CX0 1 f fd ["thing"] T2:=by
 refine F.ok eI (fun vs H Q E h=>?_) (fun cdv A outer s H vs Q E hr h=>?_)
 ·obtain ⟨z,rfl,_⟩:=h
  rfl
 ·obtain ⟨z,rfl,hz,q⟩:=h
  refine ⟨_,(Aa (Cq (PW.pt (Jy (Eu (C8 (Ap Ci (by rfl) T.n_isinstance Br (Ag (pv 0) (Ag (Fj (v:=.ty "str") rfl T.n_str pO rfl) Ac rfl) rfl)))) (Kd (Av Ja (Ap F3 (by rfl) T.n_len Cc (Ag (pv 0) Ac rfl)) (Bj rfl T.g_MOST_BITS) (Ay _))))) (Af (At L1))
   Bb)
   (Af (At (Ou G6 (Aj Bd (C3 PySem.F.plainAttrs_str PySem.F.slot_str_count PySem.F.type_str_count Ry (pv 0) (Ag Ez Ac rfl)) (C3 PySem.F.plainAttrs_str PySem.F.slot_str_count PySem.F.type_str_count Ry (pv 0) (Ag Ez Ac rfl))) (Ap F3 (by rfl) T.n_len Cc (Ag (pv 0) Ac rfl)) (Ay _))))),?_⟩
  k_is;refine ⟨_,_,_,_,rfl,.str _,Ws,?_⟩;k_is;refine ⟨z,rfl,hz,?_⟩;k_is;unfold oJ at q;refine Db (fun hb=>?_) (fun hb=>?_)
  ·k_is
   rw [if_pos (by omega)] at q;exact q
  ·k_is
   rw [if_neg (by omega)] at q;refine ⟨rfl,?_⟩;k_is;refine ⟨z,48,rfl,rfl,?_⟩;k_is;refine ⟨rfl,?_⟩;k_is;refine ⟨z,49,rfl,rfl,?_⟩;k_is;refine ⟨z,rfl,hz,?_⟩;k_is;have e:decide (V.int ((Nt z 48:Int)+(Nt z 49:Int))=V.int (z.length:Int))=decide (Nt z 48+Nt z 49=z.length):=by
    refine decide_eq_decide.mpr ⟨fun h=>?_,fun h=>?_⟩
    ·have:=V.int.inj h
     omega
    ·rw [<- h]
     congr 1
   rw [e];exact q
def Y4:Sp:=fun vs H Q _=>∃ l:List Bool,vs=[.str (Ax l)]/\0<l.length/\l.length<=32/\Q (.int (val l:Nat)) H
theorem Za {f:Addr}{fd:FuncData}(F:Fun K "word_of" "word_of" N7 f fd)(T:Txt K mg ae ag ah aa):A4 P w K mg base CX0 1 f fd ["signs"] Y4:=by
 refine F.ok bG (fun vs H Q E h=>?_) (fun cdv A outer s H vs Q E hr h=>?_)
 ·obtain ⟨l,rfl,_⟩:=h
  rfl
 ·obtain ⟨l,rfl,h0,h1,q⟩:=h
  refine ⟨_,(Af (At (Ei Sh (by rfl) T.n_int cG (Ag (oU (pv 0)) (Ag Ae Ac rfl) rfl)))),?_⟩;k_is;refine ⟨_,rfl,?_,?_⟩
  ·rw [B4]
   exact Nat.le_of_lt (Ek (by omega))
  k_is;refine ⟨_,rfl,?_,?_,?_,?_⟩
  ·rw [Kc,B4]
   omega
  ·intro c hc
   have:c∈(Ax l).cps.toList:=by
    have h:c∈(Ax l).cps.toList.reverse.toArray.toList:=hc
    simpa using h
   exact Zp l c this
  ·intro z
   have e:(Sf (Ax l)).cps.toList.length=0:=by rw [z];rfl
   have e2:(Sf (Ax l)).cps.toList.length=(Sf (Ax l)).length:=by simp [Str.length]
   rw [e2,Kc,B4] at e;omega
  ·rw [rZ]
   exact q
def T5 (K:PySem.W.Frag):Sp:=fun vs H Q _=>∃ l:List Bool,vs=[.str (Ax l)]/\l.length<=20000/\∀ p H',Am H H'->H p=none->H' p=some (.tup (nV (wordsOf l)))->Q (.ref p) H'
theorem Wm {f:Addr}{fd:FuncData}(F:Fun K "words_of" "words_of" Ie f fd)(T:Txt K mg ae ag ah aa)(aE:Cal P w K mg base "word_of" 1 ["signs"] Y4):A4 P w K mg base CX0 2 f fd ["text"] (T5 K):=by
 refine F.ok Wi (fun vs H Q E h=>?_) (fun cdv A outer s H vs Q E hr h=>?_)
 ·obtain ⟨l,rfl,_⟩:=h
  rfl
 ·obtain ⟨l,rfl,hl,q⟩:=h
  have hz:(Ax l).length<=sizeLine:=by rw [B4];exact Nat.le_of_lt (Al (by omega))
  refine ⟨_,(Af (At (Ei G1 (by rfl) T.n_tuple Vs (Ag (Iq rfl Si (Nr rfl T.n_range (Ag Ae (Ag (Ap F3 (by rfl) T.n_len Cc (Ag (pv 0) Ac rfl)) (Ag (Bj rfl T.g_WORD_BITS) Ac rfl) rfl) rfl)) (fun _ _ _ _=>Ct) (fun _ _ _ _=>(A6 aE (hr.mono (by decide:1<=_)) (Ag (Dp iJ (pv 1) (C5 (pv 0)) (C5 (Aj Bd (pv 0) (Bj rfl T.g_WORD_BITS)))) Ac rfl)))) Ac rfl)))),?_⟩;k_is;refine ⟨_,rfl,hz,?_⟩;rw [B4];k_is;refine ⟨0,l.length,32,rfl,by omega,?_⟩;have hn:Cf 0 (l.length:Int) 32=B2 l.length:=Pj l.length 32 (by decide);rw [hn];refine W7 (fun i=>nV ((List.range i).map fun j=>val (A5 l j))) rfl (fun i hi=>?_) (fun i H1 R A hi sm kR kA=>?_) (fun D H1 hD sm hl'=>?_)
  ·have:=Yd hi
   rw [List.length_map,List.length_map,List.length_range];exact Al (by omega)
  ·k_is
   refine pH hz ?_;have hi':=Yd hi;rw [show (0+(i:Int)*32)=((32*i:Nat):Int) by omega,show (((32*i:Nat):Int)+32)=((32*i+32:Nat):Int) by omega,So];k_is;refine ⟨A5 l i,?_,?_,?_,?_⟩
   ·unfold A5
    rw [show 32*i+32-32*i=32 by omega];rfl
   ·unfold A5
    rw [List.length_take,List.length_drop];omega
   ·unfold A5
    rw [List.length_take];omega
   ·refine kA _ _ ?_ (Am.refl _)
    exact Jr _ _
  ·k_is
   refine ⟨D,_,rfl,.inl ⟨SqL.of hl',fun p hp=>?_⟩⟩;exact q p _ (sm.trans (Ah hp)) (sm.free hp) Ab
theorem iD:∀ r:Nat,r<16->dD[r]?=some (.str (Ax (Z6 r))):=by
 intro r hr;have:r=0\/r=1\/r=2\/r=3\/r=4\/r=5\/r=6\/r=7\/r=8\/r=9\/r=10\/r=11\/r=12\/r=13\/r=14\/r=15:=by omega
 rcases this with rfl | rfl | rfl | rfl | rfl | rfl | rfl | rfl | rfl | rfl | rfl | rfl | rfl | rfl | rfl | rfl<;>rfl
theorem gS (ls:List (List Bool)):Txt.join ("":Str) (ls.map Ax)=Ax ls.flatten:=by
 refine Gp ?_;rw [P8,Dg]
 induction ls with
 | nil=>rfl
 | cons a r ih =>
  rw [List.map_cons,List.map_cons,List.flatten_cons,ih,List.flatten_cons,List.map_append,Dg]
theorem Ha (ls:List (List Bool)):((ls.map Ax).map (·.length)).sum=ls.flatten.length:=by
 induction ls with
 | nil=>rfl
 | cons a r ih=>rw [List.map_cons,List.map_cons,List.sum_cons,ih,List.flatten_cons,List.length_append,B4]
theorem Xc {K:PySem.W.Frag}{H1:Hp}{Q:VK}{p:Addr}{ls:List (List Bool)}(hl:H1 p=some (.lst (ls.map fun l=>V.str (Ax l))))(hz:ls.flatten.length<=100000)(q:Q (.str (Ax ls.flatten)) H1):lL K (.str "") [.ref p] H1 Q:=by
 refine ⟨"",p,ls.map Ax,rfl,rfl,SqL.of ?_,?_,?_⟩
 ·rw [hl,List.map_map]
  rfl
 ·rw [Ha]
  show ls.flatten.length+_*0<=_;omega
 ·rw [gS]
  exact q
theorem nX (n k:Nat){j:Int}(h:j=(k:Int)):(n:Int)/2 ^ j.toNat=((n/2 ^ k:Nat):Int):=by
 subst h;rw [Int.toNat_natCast];exact (Int.natCast_ediv n (2 ^ k)).symm
def Nq (K:PySem.W.Frag):Sp:=fun vs H Q _=>∃ n:Nat,vs=[.int n]/\∀ H',Am H H'->Q (.str (Ax (Mu n))) H'
theorem X5 {f:Addr}{fd:FuncData}(F:Fun K "signs_of" "signs_of" Hs f fd)(T:Txt K mg ae ag ah aa):A4 P w K mg base CX0 1 f fd ["word"] (Nq K):=by
 refine F.ok Wy (fun vs H Q E h=>?_) (fun cdv A outer s H vs Q E hr h=>?_)
 ·obtain ⟨n,rfl,_⟩:=h
  rfl
 ·obtain ⟨n,rfl,q⟩:=h
  refine ⟨_,(Af (At (C3 PySem.F.plainAttrs_str PySem.F.slot_str_join PySem.F.type_str_join Mn Ez (Ag (Iq rfl Sk (Nr rfl T.n_range (Ag Ae (Ag (Bj rfl T.g_WORD_BITS) (Ag Ae Ac rfl) rfl) rfl)) (fun _ _ _ _=>Ct) (fun _ _ _ _=>(Bs (oR K) (Ms (v:=.ref _) rfl T.g_SIGNS_OF_FOUR rfl) (Aj Q5 (Aj lH (pv 1) (pv 0)) Ae) (fun _ _=>rfl)))) Ac rfl)))),?_⟩;k_is;refine ⟨rfl,?_⟩;k_is;refine ⟨0,32,4,rfl,by omega,?_⟩;refine W7 (fun i=>((List.range i).map fun j=>Z6 (n/2 ^ (4*j)%16)).map fun l=>V.str (Ax l)) rfl (fun i hi=>?_) (fun i H1 R A hi sm kR kA=>?_) (fun D H1 hD sm hl=>?_)
  ·have hi:i<8:=hi
   rw [List.length_map,List.length_map,List.length_range];exact Ek (by omega)
  ·have hi:i<8:=hi
   k_is;refine iU (by omega) ?_;k_is;rw [nX n (4*i) (by omega),cQ];refine Ho (T.q_SIGNS_OF_FOUR _) (Bh (iD _ (Nat.mod_lt _ (by decide)))) ?_;refine kA _ _ ?_ (Am.refl _);rw [List.range_succ,List.map_append,List.map_append];rfl
  ·k_is
   have hl:H1 D=some (.lst (((List.range 8).map fun j=>Z6 (n/2 ^ (4*j)%16)).map fun l=>V.str (Ax l))):=hl;refine Xc hl ?_ ?_
   ·rw [O2]
    unfold Mu;rw [List.length_map,List.length_range];decide
   ·rw [O2]
    exact q _ sm
def jG (l:List Bool)(t:Addr):List (Str×V):=[("length",.int (l.length:Nat)),("many_ones",.int (l.count true:Nat)),("kept_words",.ref t)]
def Ft (K:PySem.W.Frag)(C:Addr)(H:Hp)(a:Addr)(l:List Bool):Prop:=∃ dx t,H a=some (.ins C dx (jG l t))/\H t=some (.tup (nV (wordsOf l)))/\l.length<=20000
theorem Z7 {K:PySem.W.Frag}{C x b:Addr}{H H':Hp}{l:List Bool}(s:SameBut x H H')(n:pF H x)(hne:b≠x)(h:Ft K C H b l):Ft K C H' b l:=by
 obtain ⟨dx,t,h1,h2,h3⟩:=h;exact ⟨dx,t,s _ _ hne h1,s _ _ (fun e=>by subst e;exact (n _).1 (.inl h2)) h2,h3⟩
def Ih (K:PySem.W.Frag)(C:Addr):Sp:=fun vs H Q _=>∃ (x dx:Addr) (l:List Bool),vs=[.ref x,.str (Ax l)]/\H x=some (.ins C dx [])/\l.length<=20000/\∀ H',SameBut x H H'->Ft K C H' x l->Q .non H'
theorem Yn {l:List Bool}(h:l.length<=20000):oJ (Ax l)=true:=by
 unfold oJ;rw [B4,if_neg (by omega)];exact decide_eq_true (Sn l).2
theorem Qv {f:Addr}{fd:FuncData}(F:Fun K "__init__" "Bits.__init__" Je f fd)(T:Txt K mg ae ag ah aa)(Z:Qc K ad)(aF:Cal P w K mg base "is_row" 1 ["thing"] T2)(aG:Cal P w K mg base "words_of" 2 ["text"] (T5 K)) :
  A4 P w K mg base CX0 3 f fd ["self","text"] (Ih K ad):=by
 refine F.ok Up (fun vs H Q E h=>?_) (fun cdv A outer s H vs Q E hr h=>?_)
 ·obtain ⟨x,dx,l,rfl,_⟩:=h
  rfl
 ·obtain ⟨x,dx,l,rfl,hx,hl,q⟩:=h
  have hz:(Ax l).length<=sizeLine:=by rw [B4];exact Nat.le_of_lt (Al (by omega))
  refine ⟨_,(Aa (Cq (Eu (C8 (A6 aF (hr.mono (by decide:1<=_)) (Ag (pv 1) Ac rfl)))) (Af Fl)
   Bb)
   (Aa (D7 (pv 0) (Ap F3 (by rfl) T.n_len Cc (Ag (pv 1) Ac rfl)) rfl)
   (Aa (D7 (pv 0) (C3 PySem.F.plainAttrs_str PySem.F.slot_str_count PySem.F.type_str_count Ry (pv 1) (Ag Ez Ac rfl)) rfl)
   (Af (D7 (pv 0) (A6 aG (hr.mono (by decide:2<=_)) (Ag (pv 1) Ac rfl)) rfl))))),?_⟩
  k_is;refine ⟨_,rfl,hz,?_⟩;rw [Yn hl];k_is;refine ⟨_,rfl,hz,?_⟩;rw [B4];k_is;refine Cs hx Z.cl Z.n_length (by decide) ?_;k_is;refine ⟨rfl,?_⟩;k_is;refine ⟨_,49,rfl,rfl,?_⟩;rw [(Sn l).1];k_is;refine Cs Ab Z.cl Z.n_many_ones (show 1<1000 by decide) ?_;rw [cI];k_is;refine ⟨l,rfl,hl,fun t H' sm hf ht=>?_⟩;k_is;refine Cs (sm _ _ Ab) Z.cl Z.n_kept_words (show 2<1000 by decide) ?_;k_is;refine q _ ((Dr.trans sm.but).trans Dr) ⟨dx,t,Ab,?_,hl⟩;have hne:t≠x:=fun e=>by
   subst e;rw [Ab] at hf;cases hf
  rw [Ai hne];exact ht
def Ll (K:PySem.W.Frag)(C:Addr):Sp:=fun vs H Q _=>∃ (x:Addr) (l:List Bool),vs=[.ref x]/\Ft K C H x l/\Q (.int (l.length:Nat)) H
theorem Qw {f:Addr}{fd:FuncData}(F:Fun K "size" "Bits.size" Kg f fd)(T:Txt K mg ae ag ah aa)(Z:Qc K ad):A4 P w K mg base CX0 1 f fd ["self"] (Ll K ad):=by
 refine F.ok Vo (fun vs H Q E h=>?_) (fun cdv A outer s H vs Q E hr h=>?_)
 ·obtain ⟨x,l,rfl,_⟩:=h
  rfl
 ·obtain ⟨x,l,rfl,⟨dx,t,hx,ht,hl⟩,q⟩:=h
  refine ⟨_,(Af (At (B0 (pv 0) rfl))),?_⟩;k_is;exact jS hx Z.cl Z.n_length rfl q
def Ka (K:PySem.W.Frag)(C:Addr):Sp:=fun vs H Q _=>∃ (x:Addr) (l:List Bool),vs=[.ref x]/\Ft K C H x l/\∀ t,H t=some (.tup (nV (wordsOf l)))->Q (.ref t) H
theorem Qu {f:Addr}{fd:FuncData}(F:Fun K "words" "Bits.words" Il f fd)(T:Txt K mg ae ag ah aa)(Z:Qc K ad):A4 P w K mg base CX0 1 f fd ["self"] (Ka K ad):=by
 refine F.ok R6 (fun vs H Q E h=>?_) (fun cdv A outer s H vs Q E hr h=>?_)
 ·obtain ⟨x,l,rfl,_⟩:=h
  rfl
 ·obtain ⟨x,l,rfl,⟨dx,t,hx,ht,hl⟩,q⟩:=h
  refine ⟨_,(Af (At (B0 (pv 0) rfl))),?_⟩;k_is;exact jS hx Z.cl Z.n_kept_words rfl (q t ht)
def Nn (K:PySem.W.Frag)(C:Addr):Sp:=fun vs H Q _=>∃ (a:Addr) (l:List Bool) (low high:Nat),vs=[.ref a,.int low,.int high]/\Ft K C H a l/\low<=high/\high<=l.length/\∀ H',Am H H'->Q (.str (Ax ((l.drop low).take (high-low)))) H'
theorem Qr {f:Addr}{fd:FuncData}(F:Fun K "stretch" "Bits.stretch" E2 f fd)(T:Txt K mg ae ag ah aa)(Z:Qc K ad)(aH:Cal P w K mg base "check_stretch" 4 ["low","high","greatest"] bK)(aI:Cal P w K mg base "signs_of" 1 ["word"] (Nq K)) :
  A4 P w K mg base CX0 5 f fd ["self","low","high"] (Nn K ad):=by
 refine F.ok Dd (fun vs H Q E h=>?_) (fun cdv A outer s H vs Q E hr h=>?_)
 ·obtain ⟨a,l,low,high,rfl,_⟩:=h
  rfl
 ·obtain ⟨a,l,low,high,rfl,⟨dx,t,hx,ht,hl⟩,h1,h2,q1⟩:=h
  refine ⟨_,(Aa (Bk (A6 aH (hr.mono (by decide:4<=_)) (Ag (pv 1) (Ag (pv 2) (Ag (B0 (pv 0) rfl) Ac rfl) rfl) rfl)))
   (Aa (Ao (i:=3) Dd.nd rfl (Or.inl rfl) (Aj Ce (pv 1) (Bj rfl T.g_WORD_BITS)))
   (Aa (Ao (i:=4) Dd.nd rfl (Or.inl rfl) (Aj Ce (Aj C7 (Aj Bd (pv 2) (Bj rfl T.g_WORD_BITS)) Ae) (Bj rfl T.g_WORD_BITS)))
   (Aa (Ao (i:=5) Dd.nd rfl (Or.inl rfl) (C3 PySem.F.plainAttrs_str PySem.F.slot_str_join PySem.F.type_str_join Mn Ez (Ag (Iq rfl M8 (lE (Dp cA (B0 (pv 0) rfl) (C5 (pv 3)) (C5 (pv 4)))) (fun _ _ _ _=>Ct) (fun _ _ _ _=>(A6 aI (hr.mono (by decide:1<=_)) (Ag (pv 0) Ac rfl)))) Ac rfl)))
   (Aa (Ao (i:=6) Dd.nd rfl (Or.inl rfl) (Aj Ki (pv 3) (Bj rfl T.g_WORD_BITS)))
   (Af (At (Dp iJ (pv 5) (C5 (Aj C7 (pv 1) (pv 6))) (C5 (Aj C7 (pv 2) (pv 6))))))))))),?_⟩
  k_is;refine ⟨a,ad,dx,_,_,rfl,hx,Z.cl,Z.n_length,rfl,?_⟩;k_is;refine ⟨low,high,_,rfl,by omega,by omega,by omega,?_⟩;k_is;refine ⟨rfl,?_⟩;k_is;refine ⟨a,ad,dx,_,_,rfl,hx,Z.cl,Z.n_kept_words,rfl,?_⟩;k_is;refine ⟨t,_,rfl,SqT.of ht,fun p2 H2 s2 hp2=>?_⟩;rw [show ((low:Int)/32)=((low/32:Nat):Int) by omega,show ((high:Int)+32-1)/32=(((high+31)/32:Nat):Int) by omega,W9] at hp2;have hW:(wordsOf l).length=B2 l.length:=by unfold TW.wordsOf;rw [List.length_map,List.length_range]
  have e8:((nV (wordsOf l)).drop (low/32)).take ((high+31)/32-low/32)=nV ((List.range ((high+31)/32-low/32)).map fun j=>val (A5 l (low/32+j))):=by
   unfold nV;have:min ((high+31)/32-low/32) (B2 l.length-low/32)=(high+31)/32-low/32:=by unfold B2;omega
   rw [<- List.map_drop,<- List.map_take,fM,this]
  rw [e8] at hp2;refine ⟨p2,rfl,⟨_,hp2⟩,?_⟩;generalize hm:(high+31)/32-low/32=m at hp2;refine gY hp2 (fun j=>((List.range j).map fun i=>Mu (val (A5 l (low/32+i)))).map fun l=>V.str (Ax l)) rfl (fun j hj=>?_) (fun j z H3 R A hz s3 kR kA=>?_) (fun D H3 hD s3 hl3=>?_)
  ·rw [List.length_map,List.length_map,List.length_range] at hj
   rw [List.length_map,List.length_map,List.length_range];exact Ek (by omega)
  ·have hj:j<m:=by
    have:=(List.getElem?_eq_some_iff.mp hz).1
    rwa [List.length_map,List.length_map,List.length_range] at this
   have hze:z=.int (val (A5 l (low/32+j)):Nat):=by
    unfold nV at hz;rw [List.getElem?_map,List.getElem?_map,List.getElem?_range hj] at hz;exact (Option.some.inj hz).symm
   subst hze;k_is;refine ⟨_,rfl,fun H4 s4=>?_⟩;refine kA _ _ ?_ s4;rw [List.range_succ,List.map_append,List.map_append];rfl
  ·rw [List.length_map,List.length_map,List.length_range] at hl3
   have hfl:((List.range m).map fun i=>Mu (val (A5 l (low/32+i)))).flatten.length<=100000:=by
    rw [Ro,List.length_map,List.length_range];omega
   k_is;refine Xc hl3 hfl ?_;k_is;refine pH ?_ ?_
   ·rw [B4]
    exact Nat.le_of_lt (Al hfl)
   rw [Ro,show ((low:Int)-(low:Int)/32*32)=((low-32*(low/32):Nat):Int) by omega,show ((high:Int)-(low:Int)/32*32)=((high-32*(low/32):Nat):Int) by omega,So,
    show high-32*(low/32)-(low-32*(low/32))=high-low by omega,hV l (low/32) m low (high-low) (by omega) (by omega) (by omega)]
   exact q1 _ (s2.trans s3)
def Lr (K:PySem.W.Frag)(C:Addr):Sp:=fun vs H Q _=>∃ (a:Addr) (l:List Bool),vs=[.ref a]/\Ft K C H a l/\∀ H',Am H H'->Q (.str (Ax l)) H'
theorem Qx {f:Addr}{fd:FuncData}(F:Fun K "text" "Bits.text" Ix f fd)(T:Txt K mg ae ag ah aa)(Z:Qc K ad)(aJ:Mth P w K mg base ad "stretch" 5 ["self","low","high"] (Nn K ad)):A4 P w K mg base CX0 6 f fd ["self"] (Lr K ad):=by
 refine F.ok Tz (fun vs H Q E h=>?_) (fun cdv A outer s H vs Q E hr h=>?_)
 ·obtain ⟨a,l,rfl,_⟩:=h
  rfl
 ·obtain ⟨a,l,rfl,hB,q⟩:=h
  obtain ⟨dx,t,hx,ht,hl⟩:=id hB;refine ⟨_,(Af (At (Gm aJ (hr.mono (by decide:5<=_)) (pv 0) (Ag Ae (Ag (B0 (pv 0) rfl) Ac rfl) rfl)))),?_⟩;k_is;refine ⟨a,dx,_,rfl,hx,rfl,?_⟩;k_is;refine ⟨a,ad,dx,_,_,rfl,hx,Z.cl,Z.n_length,rfl,?_⟩;k_is;refine ⟨a,l,0,l.length,rfl,hB,by omega,by omega,fun H' s'=>?_⟩;rw [List.drop_zero,Nat.sub_zero,List.take_length];exact q H' s'
theorem Sd {f:Addr}{fd:FuncData}(F:Fun K "first_that" "first_that" Hw f fd)(T:Txt K mg ae ag ah aa):A4 P w K mg base CX0 3 f fd ["low","high","holds"] (L3 P w K mg base 2):=by
 refine F.ok Fh (fun vs H Q E h=>?_) (fun cdv A outer s H vs Q E hr h=>?_)
 ·obtain ⟨lo,hi,g,p,rfl,_⟩:=h
  rfl
 ·obtain ⟨lo,hi,g,p,rfl,hle,hA,q⟩:=h
  refine ⟨_,(Aa (E4 PassesOwn.never (Av Oa (pv 0) (pv 1) (Ay _))
   (Aa (Ao (i:=3) Fh.nd rfl (Or.inl rfl) (Aj Ce (Aj Bd (pv 0) (pv 1)) Ae))
   (Af (Cq (C8 (tO (k:=2) (hr.mono (by decide:2<=_)) (i:=2) rfl rfl (pv 3))) (Af (Ao (i:=1) Fh.nd rfl (Or.inl rfl) (pv 3)))
   (Af (Ao (i:=0) Fh.nd rfl (Or.inl rfl) (Aj Bd (pv 3) Ae)))))))
   (Af (At (pv 0)))),?_⟩
  k_is;refine Et (fun σ H'=>Am H H'/\∃ (x y:Int) (v:Option V),σ=[some (.int x),some (.int y),some (.ref g),v]/\lo<=x/\x<=y/\y<=hi/\(lo<x->p (x-1)=false)/\(y<hi->p y=true)) (fun σ _=>match σ with | [some (.int x),some (.int y),_,_]=>(y-x).toNat | _=>0) ⟨Am.refl _,lo,hi,none,rfl,Int.le_refl _,hle,Int.le_refl _,fun z=>absurd z (Int.lt_irrefl _),fun z=>absurd z (Int.lt_irrefl _)⟩ ?_;rintro μ σ H' ⟨sm,x,y,v,rfl,h1,h2,h3,h4,h5⟩ hμ;k_is;refine Db (fun hw=>?_) (fun hw=>?_)
  ·refine Ht ?_
   k_is;refine ⟨g,_,p,rfl,hA.same sm,?_⟩;k_is;refine ⟨_,rfl,Am.refl _,by constructor<;>omega,fun H2 s2=>?_⟩
   k_is;have hμ':y-x=(μ:Int):=by
    have:(y-x).toNat=μ:=hμ;omega
   cases hp:p ((x+y)/2) with
   | true =>
    k_is;refine ⟨⟨sm.trans s2,x,(x+y)/2,_,rfl,h1,by omega,by omega,h4,fun _=>hp⟩,?_⟩;show ((x+y)/2-x).toNat<μ;omega
   | false =>
    k_is;refine ⟨⟨sm.trans s2,(x+y)/2+1,y,_,rfl,by omega,by omega,h3,fun _=>by rw [show (x+y)/2+1-1=(x+y)/2 by omega];exact hp,h5⟩,?_⟩;show (y-((x+y)/2+1)).toNat<μ;omega
  ·k_is
   obtain rfl:x=y:=by omega
   exact q x H' h1 h3 h4 h5 sm
def lI:Sp:=fun vs H Q _=>∃ (a:Addr) (xs:List Nat),vs=[.ref a]/\H a=some (.lst (nV xs))/\xs.length<=1000/\∀ p H',Am H H'->H p=none->H' p=some (.lst (nV ((List.range (xs.length+1)).map fun i=>(xs.take i).sum)))->Q (.ref p) H'
theorem Ot {f:Addr}{fd:FuncData}(F:Fun K "running_sums" "running_sums" Gb f fd)(T:Txt K mg ae ag ah aa):A4 P w K mg base CX0 1 f fd ["numbers"] lI:=by
 refine F.ok Fw (fun vs H Q E h=>?_) (fun cdv A outer s H vs Q E hr h=>?_)
 ·obtain ⟨a,xs,rfl,_⟩:=h
  rfl
 ·obtain ⟨a,xs,rfl,ha,hn,q⟩:=h
  refine ⟨_,(Aa (Ao (i:=1) Fw.nd rfl (Or.inl rfl) (Bp (Ag Ae Ac rfl)))
   (Aa (Dy PassesOwn.never rfl (Dl (pv 0)) (Bc (i:=2) Fw.nd rfl (Or.inl rfl))
   (Af (Bk (C3 PySem.F.plainAttrs_list PySem.F.slot_list_append PySem.F.type_list_append Bv (pv 1) (Ag (Aj Bd (Bs Bt (pv 1) (Dw Cg Ae) (fun _ _=>rfl)) (pv 2)) Ac rfl)))))
   (Af (At (pv 1))))),?_⟩
  k_is;refine ⟨few (by simp),fun p hp=>?_⟩;have t0:=Ah (o:=.lst [V.int 0]) hp;k_is;refine ⟨a,rfl,⟨_,SqL.of (t0 _ _ ha)⟩,?_⟩;refine G3 (xs:=nV xs) (fun i σ H1=>(∃ v:Option V,σ=[some (.ref a),some (.ref p),v])/\H1 p=some (.lst (nV ((List.range (i+1)).map fun i=>(xs.take i).sum)))/\Am H H1) ⟨⟨_,rfl⟩,Ab,t0⟩ (fun i σ H1 _ h=>SqL.of (h.2.2 _ _ ha)) ?_ ?_
  ·rintro i x σ H1 hx ⟨⟨v,rfl⟩,hp1,s1⟩
   have hi:=En hx;rw [show (nV xs).length=xs.length by unfold nV;rw [List.length_map]] at hi;obtain rfl:x=.int (xs[i]:Nat):=by
    unfold nV at hx;rw [List.getElem?_map,List.getElem?_eq_getElem hi] at hx;exact (Option.some.inj hx).symm
   k_is;refine ⟨.inl ⟨rfl,_,SqL.of hp1⟩,?_⟩;k_is;refine Cw (SqL.of hp1) (v:=.int ((xs.take i).sum:Nat)) ?_ ?_
   ·rw [Jr]
    exact Xq _ _
   k_is;refine Cd hp1 ?_ ?_
   ·unfold nV
    rw [List.length_map,List.length_map,List.length_range];exact Al (by omega)
   k_is;refine ⟨⟨_,rfl⟩,?_,fun b u e=>?_⟩
   ·rw [Ab,Jr _ (i+1),List.take_add_one,List.getElem?_eq_getElem hi,List.sum_append]
    show some (HO.lst (_++[V.int (((xs.take i).sum:Nat)+(xs[i]:Nat):Int)]))=some (HO.lst (_++[V.int (((xs.take i).sum+[xs[i]].sum:Nat):Int)]));rw [List.sum_singleton,Int.natCast_add]
   ·rw [Ai (Ak e hp)]
    exact s1 _ _ e
  ·rintro σ H1 ⟨⟨v,rfl⟩,hp1,s1⟩
   rw [show (nV xs).length=xs.length by unfold nV;rw [List.length_map]] at hp1;k_is;exact q p H1 s1 hp hp1
def Ca (n:Nat):Nat:=(B2 n+7)/8
def Gn (l:List Bool):List Nat:=(List.range (Ca l.length+1)).map fun b=>cnt l (256*b)
def Uq (K:PySem.W.Frag):Sp:=fun vs H Q _=>∃ (t:Addr) (l:List Bool),vs=[.ref t]/\H t=some (.tup (nV (wordsOf l)))/\l.length<=20000/\∀ p H',Am H H'->H p=none->H' p=some (.tup (nV (Gn l)))->Q (.ref p) H'
theorem Ye (l:List Bool)(b:Nat):((wordsOf l).drop (8*b)).take 8=(List.range (min 8 (B2 l.length-8*b))).map fun i=>val (A5 l (8*b+i)):=by
 unfold TW.wordsOf;refine List.ext_getElem? fun i=>?_;rw [List.getElem?_take]
 by_cases h8:i<8
 ·rw [if_pos h8,List.getElem?_drop,List.getElem?_map,List.getElem?_map]
  by_cases hm:8*b+i<B2 l.length
  ·rw [List.getElem?_range hm,List.getElem?_range (by omega)]
   rfl
  ·rw [List.getElem?_eq_none (by rw [List.length_range];omega),List.getElem?_eq_none (by rw [List.length_range];omega)]
   rfl
 ·rw [if_neg h8,List.getElem?_eq_none (by rw [List.length_map,List.length_range];omega)]
def blk (l:List Bool)(i:Nat):List Nat:=(List.range (min 8 (B2 l.length-8*i))).map fun j=>val (A5 l (8*i+j))
def Yw (l:List Bool)(i:Nat):Nat:=((List.range (min 8 (B2 l.length-8*i))).map fun m=>pc (val (A5 l (8*i+m)))).sum
theorem Wa (l:List Bool):∀ i,(((List.range i).map (Yw l)).sum)=cnt l (256*i)
 | 0=>by
  show 0=cnt l 0;rfl
 | i+1=>by
  rw [List.range_succ,List.map_append,List.sum_append,Wa l i];show cnt l (256*i)+[Yw l i].sum=_;rw [List.sum_singleton];have:=dY l i (min 8 (B2 l.length-8*i)) rfl;unfold Yw;omega
def fG (K:PySem.W.Frag)(l:List Bool)(i:Nat)(ys:List V)(H:Hp):Prop:=ys.length=i/\∀ j y,ys[j]?=some y->∃ a,y=.ref a/\SqT K H a (nV (blk l j))
theorem kD {K:PySem.W.Frag}{l:List Bool}{i:Nat}{ys:List V}{H:Hp}{D:Addr}{xs:List V}{o:HO}(hD:H D=some (.lst xs))(h:fG K l i ys H):fG K l i ys (upd H D o):=⟨h.1,fun j y e=>by
 obtain ⟨a,rfl,ht⟩:=h.2 j y e;refine ⟨a,rfl,?_⟩;rcases ht with (ht | ⟨ob,ht⟩) | ht
 ·exact .inl (.inl (by rw [Ai (D8 ht hD (by intro z;cases z))];exact ht))
 ·exact .inl (.inr ⟨ob,by rw [Ai (D8 ht hD (by intro z;cases z))];exact ht⟩)
 ·exact .inr ht⟩
theorem fG.same {K:PySem.W.Frag}{l:List Bool}{i:Nat}{ys:List V}{H H':Hp}(h:fG K l i ys H)(s:Am H H'):fG K l i ys H':=⟨h.1,fun j y e=>by
 obtain ⟨a,rfl,ht⟩:=h.2 j y e;exact ⟨a,rfl,s.seqT ht⟩⟩
theorem Mz {f:Addr}{fd:FuncData}(F:Fun K "table_of_words" "table_of_words" C0 f fd)(T:Txt K mg ae ag ah aa)(au:Cal P w K mg base "ones_in" 1 ["word"] Ue)(aK:Cal P w K mg base "running_sums" 1 ["numbers"] lI):A4 P w K mg base CX0 2 f fd ["words"] (Uq K):=by
 refine F.ok Gq (fun vs H Q E h=>?_) (fun cdv A outer s H vs Q E hr h=>?_)
 ·obtain ⟨t,l,rfl,_⟩:=h
  rfl
 ·obtain ⟨t,l,rfl,ht,hl,q⟩:=h
  have hW:(wordsOf l).length=B2 l.length:=by unfold TW.wordsOf;rw [List.length_map,List.length_range]
  have hM:B2 l.length<=626:=by unfold B2;omega
  have hB:Ca l.length<=80:=by unfold Ca;omega
  refine ⟨_,(Aa (Ji (i:=1) rfl K7 Gq.nd rfl rfl (Nr rfl T.n_range (Ag Ae (Ag (Ap Ar (by rfl) T.n_len Cc (Ag (pv 0) Ac rfl)) (Ag (Bj rfl T.g_BLOCK_WORDS) Ac rfl) rfl) rfl)) (fun _ _ _ _=>Ct) (fun _ _ _ _=>(Dp (iO K) (pv 1) (C5 (pv 0)) (C5 (Aj Bd (pv 0) (Bj rfl T.g_BLOCK_WORDS))))))
   (Af (At (Ei G1 (by rfl) T.n_tuple Vs (Ag (A6 aK (hr.mono (by decide:1<=_)) (Ag (Iq rfl K1 (Dl (pv 1)) (fun _ _ _ _=>Ct) (fun _ _ _ _=>(Ap (dQ K rfl) (by rfl) T.n_sum vJ (Ag (oX rfl K2 (mH K (pv 0)) (fun _ _ _ _=>Ct) (fun _ _ _ _=>(A6 au (hr.mono (by decide:1<=_)) (Ag (pv 0) Ac rfl)))) Ac rfl)))) Ac rfl)) Ac rfl))))),?_⟩
  k_is;refine ⟨t,_,rfl,.inr (SqT.of ht),?_⟩;k_is;rw [List.length_map,hW];refine ⟨0,B2 l.length,8,rfl,by omega,?_⟩;have hn:Cf 0 (B2 l.length:Int) 8=Ca l.length:=Pj (B2 l.length) 8 (by decide);rw [hn];refine Te (fun i ys H1=>fG K l i ys H1) (fun H1 _=>⟨rfl,fun j y e=>by cases e⟩) (fun i ys H1 D xs o hD h=>kD hD h) (fun i ys H1 hi h=>by rw [h.1];exact Ek (by omega)) (fun i ys H1 A R hi s1 hP kA=>?_) (fun D ys H1 hD s1 hP hDl=>?_)
  ·k_is
   refine ⟨t,_,rfl,SqT.of (s1 _ _ ht),fun p2 H2 s2 hp2=>?_⟩;rw [show (0+(i:Int)*8)=((8*i:Nat):Int) by omega,show (((8*i:Nat):Int)+8)=((8*i+8:Nat):Int) by omega,W9,show 8*i+8-8*i=8 by omega] at hp2;have e8:((nV (wordsOf l)).drop (8*i)).take 8=nV (blk l i):=by
    unfold nV blk;rw [<- List.map_drop,<- List.map_take,Ye]
   rw [e8] at hp2;refine kA _ _ s2 ⟨by rw [List.length_append,hP.1];rfl,fun j y e=>?_⟩
   by_cases hj:j<ys.length
   ·rw [List.getElem?_append_left hj] at e
    exact (hP.same s2).2 j y e
   ·rw [List.getElem?_append_right (by omega)] at e
    have e0:j-ys.length=0:=by
     have:=En e;simp only [List.length_cons,List.length_nil] at this;omega
    rw [e0] at e;obtain rfl:=Option.some.inj e;have:j=i:=by have:=hP.1;omega
    subst this;exact ⟨p2,rfl,hp2⟩
  ·k_is
   refine ⟨D,rfl,⟨_,SqL.of hDl⟩,?_⟩;refine Hy (SqL.of hDl) (fun i=>nV ((List.range i).map (Yw l))) rfl (fun i hi=>?_) (fun i x H2 R A hx s2 kR kA=>?_) (fun D2 H2 hD2 s2 hl2=>?_)
   ·unfold nV
    rw [List.length_map,List.length_map,List.length_range];rw [hP.1] at hi;exact Ek (by omega)
   ·obtain ⟨b,rfl,hb⟩:=(hP.same s2).2 i x hx
    k_is;refine ⟨b,rfl,⟨_,hb⟩,?_⟩;refine gY hb (fun j=>nV ((List.range j).map fun m=>pc (val (A5 l (8*i+m))))) rfl (fun j hj=>?_) (fun j x H3 R3 A3 hx3 s3 kR3 kA3=>?_) (fun D3 H3 hD3 s3 hl3=>?_)
    ·unfold blk nV at hj
     rw [List.length_map,List.length_map,List.length_range] at hj;rw [List.length_map,List.length_map,List.length_range];exact Ek (by omega)
    ·have hj:j<min 8 (B2 l.length-8*i):=by
      have:=(List.getElem?_eq_some_iff.mp hx3).1;unfold blk nV at this
      rwa [List.length_map,List.length_map,List.length_range] at this
     have hxe:x=.int (val (A5 l (8*i+j)):Nat):=by
      unfold nV blk at hx3;rw [List.getElem?_map,List.getElem?_map,List.getElem?_range hj] at hx3;exact (Option.some.inj hx3).symm
     subst hxe;k_is;refine ⟨_,rfl,?_⟩;refine kA3 _ _ ?_ (Am.refl _);exact Jr _ _
    ·unfold blk at hl3
     rw [List.length_map,List.length_map,List.length_range] at hl3;k_is;refine ⟨D3,_,rfl,SqL.of (by rw [hl3,U4]),?_⟩;rw [lC];refine kA _ _ ?_ s3;exact Jr _ _
   ·rw [hP.1] at hl2
    k_is;refine ⟨D2,(List.range (Ca l.length)).map (Yw l),rfl,hl2,by rw [List.length_map,List.length_range];omega,fun p4 H4 s4 hp4 hl4=>?_⟩;k_is;refine ⟨p4,_,rfl,.inl ⟨SqL.of hl4,fun p5 hp5=>?_⟩⟩;have et:(List.range (((List.range (Ca l.length)).map (Yw l)).length+1)).map (fun i=>(((List.range (Ca l.length)).map (Yw l)).take i).sum)=Gn l:=by
     rw [List.length_map,List.length_range];unfold Gn;refine List.map_congr_left fun i hi=>?_;have hi:=List.mem_range.mp hi;rw [<- List.map_take,List.take_range,Nat.min_eq_left (by omega),Wa]
    rw [et] at *;exact q p5 _ (((s1.trans s2).trans s4).trans (Ah hp5)) (((s1.trans s2).trans s4).free hp5) Ab
def lK (l:List Bool)(t u:Addr):List (Str×V):=[("length",.int (l.length:Nat)),("kept_words",.ref t),("kept_table",.ref u)]
def By (K:PySem.W.Frag)(C:Addr)(H:Hp)(a:Addr)(l:List Bool):Prop:=∃ dx t u,H a=some (.ins C dx (lK l t u))/\H t=some (.tup (nV (wordsOf l)))/\H u=some (.tup (nV (Gn l)))/\l.length<=20000
def Fz (K:PySem.W.Frag)(CB C:Addr):Sp:=fun vs H Q _=>∃ (x dx b:Addr) (l:List Bool),vs=[.ref x,.ref b]/\H x=some (.ins C dx [])/\Ft K CB H b l/\∀ H',SameBut x H H'->By K C H' x l->Q .non H'
theorem Qt {f:Addr}{fd:FuncData}(F:Fun K "__init__" "Counts.__init__" Gy f fd)(T:Txt K mg ae ag ah aa)(Z:Qb K ab)(aL:Mth P w K mg base ad "size" 1 ["self"] (Ll K ad))
  (aM:Mth P w K mg base ad "words" 1 ["self"] (Ka K ad))(aN:Cal P w K mg base "table_of_words" 2 ["words"] (Uq K)) :
  A4 P w K mg base CX0 3 f fd ["self","bits"] (Fz K ad ab):=by
 refine F.ok Pa (fun vs H Q E h=>?_) (fun cdv A outer s H vs Q E hr h=>?_)
 ·obtain ⟨x,dx,b,l,rfl,_⟩:=h
  rfl
 ·obtain ⟨x,dx,b,l,rfl,hx,hb,q⟩:=h
  have hb0:=hb;obtain ⟨dxb,t,hbx,ht,hl⟩:=hb0;have hbne:b≠x:=D8 hbx hx (by intro z;cases z);refine ⟨_,(Aa (D7 (pv 0) (J1 aL (hr.mono (by decide:1<=_)) (pv 1)) rfl)
   (Aa (D7 (pv 0) (J1 aM (hr.mono (by decide:1<=_)) (pv 1)) rfl)
   (Af (D7 (pv 0) (A6 aN (hr.mono (by decide:2<=_)) (Ag (B0 (pv 0) rfl) Ac rfl)) rfl)))),?_⟩
  k_is;refine ⟨b,dxb,_,rfl,hbx,rfl,?_⟩;k_is;refine ⟨b,l,rfl,hb,?_⟩;k_is;refine Cs hx Z.cl Z.n_length (by decide) ?_;k_is;refine ⟨b,dxb,jG l t,rfl,by rw [Ai hbne];exact hbx,rfl,?_⟩;k_is;refine ⟨b,l,rfl,Z7 Dr (dM hx) hbne hb,fun t2 ht2=>?_⟩;k_is;refine Cs Ab Z.cl Z.n_kept_words (show 1<1000 by decide) ?_;rw [cI];have ht3:(upd H x (.ins ab dx (D0 "kept_words" (.ref t2) (D0 "length" (.int (l.length:Nat)) [])))) t2=some (.tup (nV (wordsOf l))):=by
   have hne:t2≠x:=D8 ht2 Ab (by intro z;cases z);rw [Ai hne] at ht2 ⊢;exact ht2
  k_is;refine ⟨x,ab,dx,_,.ref t2,rfl,Ab,Z.cl,Z.n_kept_words,rfl,?_⟩;k_is;refine ⟨t2,l,rfl,ht3,hl,fun u H' sm hf hu=>?_⟩;k_is;refine Cs (sm _ _ Ab) Z.cl Z.n_kept_table (show 2<1000 by decide) ?_;k_is;have hix:=sm _ _ (Ab (H:=H) (a:=x));have n1:t2≠x:=D8 (sm _ _ ht3) hix (by intro z;cases z);have n2:u≠x:=D8 hu hix (by intro z;cases z);exact q _ ((Dr.trans sm.but).trans Dr) ⟨dx,t2,u,Ab,by rw [Ai n1];exact sm _ _ ht3,by rw [Ai n2];exact hu,hl⟩
theorem gQ {l:List Bool}{b:Nat}(h:b<=Ca l.length):atI (nV (Gn l)) (b:Int)=some (.int (cnt l (256*b):Nat)):=by
 refine Bh ?_;unfold nV Gn;rw [List.getElem?_map,List.getElem?_map,List.getElem?_range (by omega)];rfl
def Ev (K:PySem.W.Frag)(C:Addr):Sp:=fun vs H Q _=>∃ (a:Addr) (l:List Bool) (b:Bool) (k:Nat),vs=[.ref a,.int (b.toNat:Nat),.int k]/\By K C H a l/\k<=Ca l.length/\Q (.int ((occ b l (min (256*k) l.length)).length:Nat)) H
theorem Qf {f:Addr}{fd:FuncData}(F:Fun K "ahead_of_block" "Counts.ahead_of_block" Cy f fd)(T:Txt K mg ae ag ah aa)(Z:Qb K ab):A4 P w K mg base CX0 1 f fd ["self","bit","block"] (Ev K ab):=by
 refine F.ok D9 (fun vs H Q E h=>?_) (fun cdv A outer s H vs Q E hr h=>?_)
 ·obtain ⟨a,l,b,k,rfl,_⟩:=h
  rfl
 ·obtain ⟨a,l,b,k,rfl,⟨dx,t,u,hx,ht,hu,hl⟩,hk,q⟩:=h
  have ec:cnt l (256*k)=cnt l (min (256*k) l.length):=by
   by_cases h:256*k<=l.length
   ·rw [Nat.min_eq_left h]
   ·rw [Nat.min_eq_right (by omega),Ow l (by omega),Ow l (Nat.le_refl _)]
  refine ⟨_,(Aa (Ao (i:=3) D9.nd rfl (Or.inl rfl) (Bs Fc (B0 (pv 0) rfl) (pv 2) (fun _ _=>rfl)))
   (Af (At (Kh (Av G6 (pv 1) Ae (Ay _)) (pv 3) (Aj C7 (Ap (Ti rfl) (by rfl) T.n_min jL (Ag (Aj Ki (pv 2) (Bj rfl T.g_BLOCK_BITS)) (Ag (B0 (pv 0) rfl) Ac rfl) rfl)) (pv 3)))))),?_⟩
  k_is;refine ⟨a,ab,dx,_,_,rfl,hx,Z.cl,Z.n_kept_table,rfl,?_⟩;k_is;refine Ho (SqT.of hu) (gQ hk) ?_;k_is;have ho:=Ud l (min (256*k) l.length)
  cases b with
  | true =>
   refine Db (fun _=>?_) (fun z=>absurd rfl z);k_is;rw [ho.1] at q;rw [ec];exact q
  | false =>
   refine Db (fun z=>absurd z (by decide)) (fun _=>?_);k_is;refine ⟨a,ab,dx,_,_,rfl,hx,Z.cl,Z.n_length,rfl,?_⟩;k_is;refine ⟨_,_,rfl,?_⟩;k_is;have em:(if ((l.length:Nat):Int)<(k:Int)*256 then ((l.length:Nat):Int) else (k:Int)*256)=((min (256*k) l.length:Nat):Int):=by
    split<;>omega
   rw [em,ec,show ((min (256*k) l.length:Nat):Int)-(cnt l (min (256*k) l.length):Nat)=((occ false l (min (256*k) l.length)).length:Nat) by omega];exact q
def Lj (K:PySem.W.Frag)(C:Addr):Sp:=fun vs H Q _=>∃ (a:Addr) (l:List Bool) (b:Bool),vs=[.ref a,.int (b.toNat:Nat)]/\By K C H a l/\Q (.int ((occ b l l.length).length:Nat)) H
theorem Tf (l:List Bool):(nV (Gn l)).length=Ca l.length+1:=by
 unfold nV Gn;rw [List.length_map,List.length_map,List.length_range]
theorem Yo (l:List Bool):min (256*Ca l.length) l.length=l.length:=by unfold Ca B2;omega
theorem Qm {f:Addr}{fd:FuncData}(F:Fun K "many_like" "Counts.many_like" Eh f fd)(T:Txt K mg ae ag ah aa)(Z:Qb K ab)(am:Mth P w K mg base ab "ahead_of_block" 1 ["self","bit","block"] (Ev K ab)):A4 P w K mg base CX0 2 f fd ["self","bit"] (Lj K ab):=by
 refine F.ok K6 (fun vs H Q E h=>?_) (fun cdv A outer s H vs Q E hr h=>?_)
 ·obtain ⟨a,l,b,rfl,_⟩:=h
  rfl
 ·obtain ⟨a,l,b,rfl,hC,q⟩:=h
  obtain ⟨dx,t,u,hx,ht,hu,hl⟩:=id hC;refine ⟨_,(Af (At (Gm am (hr.mono (by decide:1<=_)) (pv 0) (Ag (pv 1) (Ag (Aj C7 (Ap Ar (by rfl) T.n_len Cc (Ag (B0 (pv 0) rfl) Ac rfl)) Ae) Ac rfl) rfl)))),?_⟩;k_is;refine ⟨a,dx,_,rfl,hx,rfl,?_⟩;k_is;refine ⟨a,ab,dx,_,_,rfl,hx,Z.cl,Z.n_kept_table,rfl,?_⟩;k_is;refine ⟨u,_,rfl,.inr (SqT.of hu),?_⟩;rw [Tf];k_is;refine ⟨a,l,b,Ca l.length,?_,hC,Nat.le_refl _,?_⟩
  ·rw [show (((Ca l.length+1:Nat):Int)-1)=((Ca l.length:Nat):Int) by omega]
   rfl
  ·rw [Yo]
   exact q
theorem By.sameT {K:PySem.W.Frag}{C b:Addr}{H H':Hp}{l:List Bool}(s:F7 H H')(h:By K C H b l):By K C H' b l:=by
 obtain ⟨dx,t,u,h1,h2,h3,h4⟩:=h;exact ⟨dx,t,u,s.keep _ _ (by intro ps e;cases e) h1,s.tup h2,s.tup h3,h4⟩
theorem By.sm {K:PySem.W.Frag}{C b:Addr}{ts:List Tb}{H H':Hp}{l:List Bool}(h:By K C H b l)(s:SmT ts H H'):By K C H' b l:=h.sameT s.sm
def Iy (K:PySem.W.Frag)(C:Addr)(ts:List Tb):Sp:=fun vs H Q _=>∃ (a:Addr) (l:List Bool) (b:Bool) (n:Nat),vs=[.ref a,.int (b.toNat:Nat),.int n]/\By K C H a l/\n<(occ b l l.length).length/\Tbs ts H/\∀ (k:Nat) (H':Hp),k<Ca l.length->(occ b l (256*k)).length<=n->SmT ts H H'->Q (.int k) H'
theorem Qj {f c Pt:Addr}{fd:FuncData}{ts:List Tb}(F:Sb K "block_with" "Counts.block_with" Bi f fd c Pt)(T:Txt K mg ae ag ah aa)(hK:K.In base)(hB:base.BuiltinsAt mg Pt)(hts:(⟨Pt,Aq,"Counts.block_with.<locals>.<lambda>"⟩:Tb)∈ts)(Z:Qb K ab)(am:Mth P w K mg base ab "ahead_of_block" 1 ["self","bit","block"] (Ev K ab))(aO:Cal P w K mg base "first_that" 3 ["low","high","holds"] (L3 P w K mg base 2)):A4 P w K mg base CX0 4 f fd ["self","bit","nth"] (Iy K ab ts):=by
 refine F.ok Jg (fun vs H Q E h=>?_) (fun A outer s H vs Q E hr h=>?_)
 ·obtain ⟨a,l,b,n,rfl,_⟩:=h
  rfl
 ·obtain ⟨a,l,b,n,rfl,hC,hn,hT,q⟩:=h
  obtain ⟨dx,t,u,hx,ht,hu,hl⟩:=id hC;have hpos:0<Ca l.length:=by
   have:0<l.length:=by
    rcases Nat.eq_zero_or_pos l.length with z | z
    ·rw [z] at hn
     exact absurd hn (Nat.not_lt_zero _)
    ·exact z
   unfold Ca B2;omega
  refine ⟨_,(Af (At (qZ (qual:="Counts.block_with.<locals>.<lambda>") (k:=1) aO (hr.mono (by decide:3<=_)) Ae (Aj C7 (Ap Ar (by rfl) T.n_len Cc (Ag (B0 (pv 0) rfl) Ac rfl)) Ae) (F.code hK) hB rfl (by kernel_rfl) Hf (fun _ _ _ _ _ _ _ hr=>(Ou Ja (Gm am (hr.mono (by decide:1<=_)) (pv 3) (Ag (pv 1) (Ag (Aj Bd (pv 0) Ae) Ac rfl) rfl)) (pv 2) (Ay _)))))),?_⟩;k_is;refine ⟨a,ab,dx,_,_,rfl,hx,Z.cl,Z.n_kept_table,rfl,?_⟩;k_is;refine ⟨u,_,rfl,.inr (SqT.of hu),?_⟩;rw [Tf];k_is;have hk:=hT.1 _ hts;refine ⟨0,((Ca l.length-1:Nat):Int),fun i=>decide (n<(occ b l (min (256*(i.toNat+1)) l.length)).length),rfl,?_,by omega,hk,fun i H3 hi1 hi2 s3=>?_,fun m H' hm1 hm2 hm3 hm4 s' t'=>?_⟩
  ·rw [show (((Ca l.length+1:Nat):Int)-2)=((Ca l.length-1:Nat):Int) by omega]
  ·obtain ⟨pt,hpt⟩:=Tb.tbl hk
   have kp:∀ {b:Addr} {u:HO},(∀ ps,u≠.tbl ps)->H b=some u->H3 b=some u:=fun {b u} nt e=>s3 b u (fun z=>by rw [z,hpt] at e;cases e;exact nt pt rfl) e;have hx3:=kp (by intro ps e;cases e) hx;have hC3:By K ab H3 a l:=⟨dx,t,u,hx3,kp (by intro ps e;cases e) ht,kp (by intro ps e;cases e) hu,hl⟩;k_is;refine ⟨a,dx,_,rfl,hx3,rfl,?_⟩;k_is;obtain ⟨k,rfl⟩:=Int.eq_ofNat_of_zero_le hi1;refine ⟨a,l,b,k+1,rfl,hC3,by omega,?_⟩;k_is;refine ⟨?_,Am.refl _⟩;rw [Int.toNat_natCast];exact congrArg V.bl (decide_eq_decide.mpr (by omega))
  ·obtain ⟨k,rfl⟩:=Int.eq_ofNat_of_zero_le hm1
   have hk1:k<Ca l.length:=by omega
   have h256:256*k<=l.length:=by unfold Ca B2 at hk1;omega
   refine q k H' hk1 ?_ (gK hT hts s' t');rcases Nat.eq_zero_or_pos k with rfl | hk0
   ·exact Nat.zero_le _
   ·have:=hm3 (by omega)
    dsimp only at this;rw [show (((k:Int)-1).toNat+1)=k by omega,Nat.min_eq_left h256] at this;have:=of_decide_eq_false this;omega
def Jt (K:PySem.W.Frag)(C:Addr):Sp:=fun vs H Q _=>∃ (a:Addr) (l:List Bool) (b:Bool) (j k t:Nat),vs=[.ref a,.int (b.toNat:Nat),.int j,.int k]/\By K C H a l/\(occ b l (32*B2 l.length))[(occ b l (32*j)).length+k]?=some t/\∀ H',Am H H'->Q (.int t) H'
theorem Mw {b:Bool}{l:List Bool}{W j k t:Nat}(h:(occ b l (32*W))[(occ b l (32*j)).length+k]?=some t):j<W:=by
 rcases Nat.lt_or_ge j W with z | z
 ·exact z
 ·exfalso
  have h1:=(List.getElem?_eq_some_iff.mp h).1;have h2:=tE (b:=b) (l:=l) (show 32*W<=32*j by omega);omega
theorem Y0 {b:Bool}{l:List Bool}{W j k t p:Nat}(h:(occ b l (32*W))[(occ b l (32*j)).length+k]?=some t)(hp:(Kz b l j)[k]?=some p):t=32*j+p:=by
 have hj:=Mw h;have hk:=(List.getElem?_eq_some_iff.mp hp).1;have hlen:(occ b l (32*(j+1))).length=(occ b l (32*j)).length+(Kz b l j).length:=by rw [Pe,List.length_append,List.length_map]
 rw [U0 (show 32*(j+1)<=32*W by omega) (by omega),Pe,List.getElem?_append_right (Nat.le_add_right _ _),Nat.add_sub_cancel_left,List.getElem?_map,hp] at h;exact (Option.some.inj h).symm
theorem Y9 {b:Bool}{l:List Bool}{W j k t:Nat}(h:(occ b l (32*W))[(occ b l (32*j)).length+k]?=some t)(hp:(Kz b l j)[k]?=none):(Kz b l j).length<=k/\(occ b l (32*W))[(occ b l (32*(j+1))).length+(k-(Kz b l j).length)]?=some t:=by
 have hk:=List.getElem?_eq_none_iff.mp hp;refine ⟨hk,?_⟩;rw [Pe,List.length_append,List.length_map,show (occ b l (32*j)).length+(Kz b l j).length+(k-(Kz b l j).length)=(occ b l (32*j)).length+k by omega];exact h
theorem Qk {f:Addr}{fd:FuncData}(F:Fun K "place_from" "Counts.place_from" D5 f fd)(T:Txt K mg ae ag ah aa)(Z:Qb K ab)(au:Cal P w K mg base "ones_in" 1 ["word"] Ue)(aB:Cal P w K mg base "nth_one" 2 ["word","nth"] iG):A4 P w K mg base CX0 3 f fd ["self","bit","number","nth"] (Jt K ab):=by
 refine F.ok Bm (fun vs H Q E h=>?_) (fun cdv A outer s H vs Q E hr h=>?_)
 ·obtain ⟨a,l,b,j,k,t,rfl,_⟩:=h
  rfl
 ·obtain ⟨a,l,b,j,k,t,rfl,⟨dx,tw,u,hx,ht,hu,hl⟩,hp,q⟩:=h
  refine ⟨_,(Aa (Ao (i:=4) Bm.nd rfl (Or.inl rfl) (Kh (Av G6 (pv 1) Ae (Ay _)) Ae (Bj rfl T.g_FULL_WORD)))
   (Aa (Ao (i:=5) Bm.nd rfl (Or.inl rfl) (A6 aB (hr.mono (by decide:2<=_)) (Ag (Aj Zk (Bs Fc (B0 (pv 0) rfl) (pv 2) (fun _ _=>rfl)) (pv 4)) (Ag (pv 3) Ac rfl) rfl)))
   (Aa (E4 PassesOwn.never (rR (sN (pv 5)))
   (Aa (Gx (i:=3) Bm.nd rfl (Or.inl rfl) (A6 au (hr.mono (by decide:1<=_)) (Ag (Aj Zk (Bs Fc (B0 (pv 0) rfl) (pv 2) (fun _ _=>rfl)) (pv 4)) Ac rfl)) Vw)
   (Aa (Gx (i:=2) Bm.nd rfl (Or.inl rfl) Ae Lk)
   (Af (Ao (i:=5) Bm.nd rfl (Or.inl rfl) (A6 aB (hr.mono (by decide:2<=_)) (Ag (Aj Zk (Bs Fc (B0 (pv 0) rfl) (pv 2) (fun _ _=>rfl)) (pv 4)) (Ag (pv 3) Ac rfl) rfl)))))))
   (Af (At (Aj Bd (Aj Ki (pv 2) (Bj rfl T.g_WORD_BITS)) (pv 5))))))),?_⟩
  have hfl:∀ {σ:St} {H1:Hp} {Q':VK},Q' (.int (L9 b:Nat)) H1->(if decide (V.int (b.toNat:Nat)=V.int 1)=true then tC (.int 0) σ H1 Q' else tC (.int 4294967295) σ H1 Q'):=fun {σ H1 Q'} h=>by
   cases b with
   | true=>exact Db (fun _=>h) (fun z=>absurd rfl z)
   | false=>exact Db (fun z=>absurd z (by decide)) (fun _=>h)
  have hj0:=Mw hp;k_is;refine hfl ?_;k_is;refine ⟨a,ab,dx,_,_,rfl,hx,Z.cl,Z.n_kept_words,rfl,?_⟩;k_is;refine Ho (SqT.of ht) (U3 hj0) ?_;k_is;rw [Pd];refine ⟨_,k,rfl,fun H1 s1=>?_⟩;rw [Xs];k_is;refine Et (fun σ H'=>Am H H'/\∃ j k:Nat,σ=[some (.ref a),some (.int (b.toNat:Nat)),some (.int j),some (.int k),some (.int (L9 b:Nat)),some (wM ((Kz b l j)[k]?))]/\(occ b l (32*B2 l.length))[(occ b l (32*j)).length+k]?=some t) (fun σ _=>match σ with | [_,_,some (.int j),_,_,_]=>B2 l.length-j.toNat | _=>0) ⟨s1,j,k,rfl,hp⟩ ?_;rintro μ σ H2 ⟨s2,j,k,rfl,hp⟩ hμ;have hj:=Mw hp;have hμ:B2 l.length-j=μ:=hμ;k_is
  cases hw:(Kz b l j)[k]? with
  | some p =>
   have:=Y0 hp hw;subst this;refine Db (fun z=>absurd z (by intro y;cases y)) (fun _=>?_);k_is;have:=q H2 s2;show rI0 _ _ (V.int ((p:Nat):Int)) H2 Q;refine qA ?_;rw [show ((j:Int)*32+((p:Nat):Int))=((32*j+p:Nat):Int) by omega];exact this
  | none =>
   obtain ⟨hk,hp'⟩:=Y9 hp hw;refine Db (fun _=>?_) (fun z=>absurd rfl z);refine Ht ?_;k_is;refine ⟨a,ab,dx,_,_,rfl,s2 _ _ hx,Z.cl,Z.n_kept_words,rfl,?_⟩;k_is;refine Ho (SqT.of (s2 _ _ ht)) (U3 hj) ?_;k_is;rw [Pd];refine ⟨_,rfl,?_⟩;rw [mN];k_is;refine ⟨a,ab,dx,_,_,rfl,s2 _ _ hx,Z.cl,Z.n_kept_words,rfl,?_⟩;k_is;rw [show ((j:Int)+1)=((j+1:Nat):Int) by omega,show ((k:Int)-((Kz b l j).length:Nat))=((k-(Kz b l j).length:Nat):Int) by omega];refine Ho (SqT.of (s2 _ _ ht)) (U3 (Mw hp')) ?_;k_is;rw [Pd];refine ⟨_,k-(Kz b l j).length,rfl,fun H3 s3=>?_⟩;rw [Xs];k_is;refine ⟨⟨s2.trans s3,j+1,k-(Kz b l j).length,rfl,hp'⟩,?_⟩;show B2 l.length-(j+1)<μ;omega
def Nc (K:PySem.W.Frag)(C:Addr)(ts:List Tb):Sp:=fun vs H Q _=>∃ (a:Addr) (l:List Bool) (b:Bool) (n tt:Nat),vs=[.ref a,.int (b.toNat:Nat),.int n]/\By K C H a l/\Tbs ts H/\(occ b l l.length)[n]?=some tt/\∀ H',SmT ts H H'->Q (.int tt) H'
theorem Qn {f:Addr}{fd:FuncData}{ts:List Tb}(F:Fun K "place_of" "Counts.place_of" Ey f fd)(T:Txt K mg ae ag ah aa)(Z:Qb K ab)(aP:Cal P w K mg base "check_bit" 3 ["bit"] Yv)(ap:Cal P w K mg base "check_place" 3 ["place","greatest"] Mr)
  (am:Mth P w K mg base ab "ahead_of_block" 1 ["self","bit","block"] (Ev K ab))(aQ:Mth P w K mg base ab "many_like" 2 ["self","bit"] (Lj K ab))(aR:Mth P w K mg base ab "block_with" 4 ["self","bit","nth"] (Iy K ab ts))
  (aT:Mth P w K mg base ab "place_from" 3 ["self","bit","number","nth"] (Jt K ab)):A4 P w K mg base CX0 5 f fd ["self","bit","nth"] (Nc K ab ts):=by
 refine F.ok Gg (fun vs H Q E h=>?_) (fun cdv A outer s H vs Q E hr h=>?_)
 ·obtain ⟨a,l,b,n,tt,rfl,_⟩:=h
  rfl
 ·obtain ⟨a,l,b,n,tt,rfl,hC,hT,htt,q1⟩:=h
  obtain ⟨dx,t,u,hx,ht,hu,hl⟩:=id hC;refine ⟨_,(Aa (Bk (A6 aP (hr.mono (by decide:3<=_)) (Ag (pv 1) Ac rfl)))
   (Aa (Bk (A6 ap (hr.mono (by decide:3<=_)) (Ag (pv 2) (Ag (Aj C7 (Gm aQ (hr.mono (by decide:2<=_)) (pv 0) (Ag (pv 1) Ac rfl)) Ae) Ac rfl) rfl)))
   (Aa (Ao (i:=3) Gg.nd rfl (Or.inl rfl) (Gm aR (hr.mono (by decide:4<=_)) (pv 0) (Ag (pv 1) (Ag (pv 2) Ac rfl) rfl)))
   (Af (At (Gm aT (hr.mono (by decide:3<=_)) (pv 0) (Ag (pv 1) (Ag (Aj Ki (pv 3) (Bj rfl T.g_BLOCK_WORDS)) (Ag (Aj C7 (pv 2) (Gm am (hr.mono (by decide:1<=_)) (pv 0) (Ag (pv 1) (Ag (pv 3) Ac rfl) rfl))) Ac rfl) rfl) rfl))))))),?_⟩
  k_is;refine ⟨b,rfl,?_⟩;k_is;refine ⟨a,dx,_,rfl,hx,rfl,?_⟩;k_is;refine ⟨a,l,b,rfl,hC,?_⟩;k_is;have hn:=En htt;refine ⟨n,_,rfl,by omega,by omega,?_⟩;k_is;refine ⟨a,dx,_,rfl,hx,rfl,?_⟩;k_is;refine ⟨a,l,b,n,rfl,hC,hn,hT,fun kb H1 hkb hle s1=>?_⟩;have h256:256*kb<=l.length:=by unfold Ca B2 at hkb;omega
  have hx1:=s1.k hx;have hC1:=hC.sm s1;k_is;refine ⟨a,dx,_,rfl,hx1,rfl,?_⟩;k_is;refine ⟨a,dx,_,rfl,hx1,rfl,?_⟩;k_is;refine ⟨a,l,b,kb,rfl,hC1,by omega,?_⟩;rw [Nat.min_eq_left h256];k_is;refine ⟨a,l,b,8*kb,n-(occ b l (256*kb)).length,tt,?_,hC1,?_,fun H' s'=>?_⟩
  ·rw [show ((kb:Int)*8)=((8*kb:Nat):Int) by omega,show ((n:Int)-((occ b l (256*kb)).length:Nat))=((n-(occ b l (256*kb)).length:Nat):Int) by omega]
   rfl
  ·rw [show 32*(8*kb)=256*kb by omega,show (occ b l (256*kb)).length+(n-(occ b l (256*kb)).length)=n by omega,U0 (Wj l.length) hn]
   exact htt
  ·k_is
   exact q1 H' (s1.then s')
theorem Ft.keep {K:PySem.W.Frag}{C b:Addr}{H H':Hp}{l:List Bool}(h:Ft K C H b l)(k:∀ c u,(∀ ps,u≠.tbl ps)->(c=b\/∃ xs,u=.tup xs)->H c=some u->H' c=some u):Ft K C H' b l:=by
 obtain ⟨dx,t,h1,h2,h3⟩:=h;exact ⟨dx,t,k _ _ (by intro ps e;cases e) (.inl rfl) h1,k _ _ (by intro ps e;cases e) (.inr ⟨_,rfl⟩) h2,h3⟩
theorem By.keep {K:PySem.W.Frag}{C b:Addr}{H H':Hp}{l:List Bool}(h:By K C H b l)(k:∀ c u,(∀ ps,u≠.tbl ps)->(c=b\/∃ xs,u=.tup xs)->H c=some u->H' c=some u):By K C H' b l:=by
 obtain ⟨dx,t,u,h1,h2,h3,h4⟩:=h;exact ⟨dx,t,u,k _ _ (by intro ps e;cases e) (.inl rfl) h1,k _ _ (by intro ps e;cases e) (.inr ⟨_,rfl⟩) h2,k _ _ (by intro ps e;cases e) (.inr ⟨_,rfl⟩) h3,h4⟩
def ahV (es:List Nat)(i:Nat):V:=if i=0 then .non else .int (es.getD (i-1) 0:Nat)
theorem Wr (l:List Bool):(l.map fun b=>[b]).flatten=l:=by
 induction l with
 | nil=>rfl
 | cons b r ih=>rw [List.map_cons,List.flatten_cons,ih];rfl
def bgB (es:List Nat):List Bool:=(List.range es.length).map fun i=>!decide (V.int (es.getD i 0:Nat)=ahV es i)
def Lu (K:PySem.W.Frag)(CC:Addr):Sp:=fun vs H Q _=>∃ (l:Addr) (es:List Nat),vs=[.ref l]/\H l=some (.lst (nV es))/\es.length<=4000/\∀ c H',Am H H'->H c=none->By K CC H' c (bgB es)->Q (.ref c) H'
theorem T4 {f:Addr}{fd:FuncData}(F:Fun K "begins_of" "begins_of" Gk f fd)(T:Txt K mg ae ag ah aa)(av:Mkr P w K mg base "Counts" ab 3 ["self","bits"] (Fz K ad ab))(ax:Mkr P w K mg base "Bits" ad 3 ["self","text"] (Ih K ad)):A4 P w K mg base CX0 5 f fd ["things"] (Lu K ab):=by
 refine F.ok Mj (fun vs H Q E h=>?_) (fun cdv A outer s H vs Q E hr h=>?_)
 ·obtain ⟨l,es,rfl,_⟩:=h
  rfl
 ·obtain ⟨l,es,rfl,hl,hn,q⟩:=h
  refine ⟨_,(Aa (dZ (i:=1) rfl Rg Mj.nd rfl rfl (rO rfl T.n_zip (Ag (Aj Gz (Bp (Ag Vv Ac rfl)) (pv 0)) (Ag (pv 0) Ac rfl) rfl)) (fun _ _ _ _=>Ct) (fun _ _ _ _=>(Kh (Av Xj (pv 1) (pv 0) (Ay _)) Ez Ez)))
   (Af (At (Pn av (hr.mono (by decide:4<=_)) (Ag (Pn ax (hr.mono (by decide:4<=_)) (Ag (C3 PySem.F.plainAttrs_str PySem.F.slot_str_join PySem.F.type_str_join Mn Ez (Ag (pv 1) Ac rfl)) Ac rfl)) Ac rfl))))),?_⟩
  k_is;refine ⟨few (by simp),fun p hp=>?_⟩;have u1:=Ah (o:=.lst [V.non]) hp;have hp1:upd H p (.lst [V.non]) p=some (.lst [V.non]):=Ab;have hl1:=u1 _ _ hl;generalize upd H p (.lst [V.non])=H1 at *;k_is;refine ⟨p,l,_,_,rfl,rfl,hp1,hl1,Nat.le_of_lt (Al (by rw [Co,List.length_singleton];omega)),fun p2 hp2=>?_⟩;have u2:=Ah (o:=.lst ([V.non]++nV es)) hp2;have hp3:upd H1 p2 (.lst ([V.non]++nV es)) p2=some (.lst ([V.non]++nV es)):=Ab;have hl2:=u2 _ _ hl1;have s2:=u1.trans u2;generalize upd H1 p2 (.lst ([V.non]++nV es))=H2 at *;k_is;refine ⟨p2,l,rfl,⟨_,SqL.of hp3⟩,⟨_,SqL.of hl2⟩,?_⟩;refine tS (SqL.of hp3) (SqL.of hl2) (fun i=>((bgB es).take i).map fun b:Bool=>V.str (Ax [b])) rfl (fun i hi=>?_) (fun i x y H3 R A hx hy s3 _ hA=>?_) (fun D H3 hD3 s3 h3=>?_)
  ·rw [List.length_map,List.length_take]
   rw [Co] at hi;exact Al (by omega)
  ·obtain ⟨n,hn2,rfl⟩:=Na hy
   have hi:=En hn2;obtain rfl:x=ahV es i:=by
    cases i with
    | zero=>exact (Option.some.inj hx).symm
    | succ j =>
     have hx:(nV es)[j]?=some x:=hx;obtain ⟨m,hm,rfl⟩:=Na hx;unfold ahV List.getD;rw [if_neg (by omega),show j+1-1=j by omega,hm];rfl
   have hsc:kY (V.int (n:Nat)) (ahV es i)=true:=by
    unfold ahV;split<;>rfl
   have hb:(bgB es)[i]?=some (!decide (V.int (n:Nat)=ahV es i)):=by
    unfold bgB List.getD;rw [List.getElem?_map,List.getElem?_range hi];simp only [Option.map_some,hn2,Option.getD_some]
   k_is;refine ⟨hsc,?_⟩
   cases hb2:(!decide (V.int (n:Nat)=ahV es i)) with
   | true =>
    k_is;refine hA _ _ ?_ (Am.refl _);rw [List.take_add_one,hb,hb2,List.map_append];rfl
   | false =>
    k_is;refine hA _ _ ?_ (Am.refl _);rw [List.take_add_one,hb,hb2,List.map_append];rfl
  have hbl:(bgB es).length=es.length:=by unfold bgB;rw [List.length_map,List.length_range]
  k_is;refine ⟨rfl,?_⟩;k_is;refine Rz (ls:=(bgB es).map fun b=>[b]) ?_ ?_ ?_
  ·rw [h3,List.take_of_length_le (by rw [hbl,Co,List.length_append,Co,List.length_singleton];omega),List.map_map]
   rfl
  ·rw [Wr,hbl]
   omega
  rw [Wr];k_is;intro b db hb hdb hbd;refine ⟨b,db,bgB es,rfl,Ab,by omega,fun H5 s5 hB=>⟨rfl,?_⟩⟩;have s5:=He hb hdb s5;k_is;intro c dc hc hdc hcd;refine ⟨c,dc,b,_,rfl,Ab,(hB.keep fun c u _ _ e=>E5 hc hdc _ _ e),fun H6 s6 hC=>⟨rfl,?_⟩⟩;have s6:=He hc hdc s6;have s25:=(s2.trans s3).trans s5;exact q c H6 (s25.trans s6) (s25.free hc) hC
def O4:Sp:=fun vs H Q _=>∃ (a:Addr) (xs:List V),vs=[.ref a]/\H a=some (.lst xs)/\cZ xs/\xs.length<=5000/\∀ H',Am H H'->Q .non H'
theorem O7 {f:Addr}{fd:FuncData}(F:Fun K "check_order" "check_order" Gu f fd)(T:Txt K mg ae ag ah aa)(ak:Cal P w K mg base "is_within" 2 ["thing","low","high"] Hh):A4 P w K mg base CX0 3 f fd ["order"] O4:=by
 refine F.ok E3 (fun vs H Q E h=>?_) (fun cdv A outer s H vs Q E hr h=>?_)
 ·obtain ⟨a,xs,rfl,_⟩:=h
  rfl
 ·obtain ⟨a,xs,rfl,ha,hG,hn,q⟩:=h
  refine ⟨_,(Aa (Ao (i:=1) E3.nd rfl (Or.inl rfl) (Aj J2 (Bp (Ag L1 Ac rfl)) (Ap Ar (by rfl) T.n_len Cc (Ag (pv 0) Ac rfl))))
   (Af (Dy PassesOwn.never rfl (T6 rfl T.n_enumerate (Ag (pv 0) Ac rfl)) (Qy rfl (Dc (Bc (i:=2) E3.nd rfl (Or.inl rfl)) (Dc (Bc (i:=3) E3.nd rfl (Or.inl rfl)) M7)))
   (Aa (Cq (PW.pt (Jy (Eu (C8 (A6 ak (hr.mono (by decide:2<=_)) (Ag (pv 3) (Ag Ae (Ag (Aj C7 (Ap Ar (by rfl) T.n_len Cc (Ag (pv 0) Ac rfl)) Ae) Ac rfl) rfl) rfl)))) (Kd (C8 (Bs Bt (pv 1) (pv 3) (fun _ _=>rfl)))))) (Af Fl)
   Bb)
   (Af (Rm L1 (Uy (pv 1) (pv 3) Hj))))))),?_⟩
  k_is;refine ⟨few (by simp),fun p hp=>?_⟩;have t0:=Ah (o:=.lst [V.bl false]) hp;k_is;refine ⟨a,_,rfl,.inl (SqL.of (t0 _ _ ha)),?_⟩;k_is;refine ⟨p,xs.length,_,rfl,rfl,Ab,by omega,by omega,Nat.le_of_lt (Al (by simp;omega)),fun m hm=>?_⟩;have hm0:=t0.free hm;have t1:=t0.trans (Ah (o:=.lst (List.replicate ((xs.length:Nat):Int).toNat [V.bl false]).flatten) hm);have hM:(upd (upd H p (.lst [V.bl false])) m (.lst (List.replicate ((xs.length:Nat):Int).toNat [V.bl false]).flatten)) m=some (.lst ((List.replicate xs.length false).map V.bl)):=by
   rw [Ab,Int.toNat_natCast,jK]
  generalize (upd (upd H p (.lst [V.bl false])) m (.lst (List.replicate ((xs.length:Nat):Int).toNat [V.bl false]).flatten))=H0 at *;k_is;refine ⟨a,rfl,⟨_,SqL.of (t1 _ _ ha)⟩,?_⟩;refine Ph (xs:=xs) (fun k σ H1=>(∃ (ms:List Bool) (v2 v3:Option V),σ=[some (.ref a),some (.ref m),v2,v3]/\Met xs k ms/\H1 m=some (.lst (ms.map V.bl)))/\Am H H1) ?_ (fun k σ H1 _ h=>SqL.of (h.2 _ _ ha)) ?_ ?_
  ·exact ⟨⟨_,_,_,rfl,fX xs,hM⟩,t1⟩
  ·rintro k x σ H1 t hx ⟨⟨ms,v2,v3,rfl,hms,hm1⟩,s1⟩ ht
   have hk:=En hx;have st:=Ah (o:=.tup [.int k,x]) ht;have hm2:=st _ _ hm1;have s2:=s1.trans st;generalize upd H1 t (.tup [.int k,x])=H2 at *;obtain ⟨n,hxn,hnl,hno⟩:=hG k hk;rw [hx] at hxn;obtain rfl:=Option.some.inj hxn;obtain ⟨b,hb⟩:∃ b,ms[n]?=some b:=⟨_,List.getElem?_eq_getElem (by rw [hms.1];exact hnl)⟩;obtain rfl:b=false:=by
    cases b with
    | false=>rfl
    | true =>
     obtain ⟨j,hj,hxj⟩:=(hms.2 n true hb).mp rfl;exact absurd hxj (hno j hj)
   k_is;refine ⟨a,_,rfl,.inl (SqL.of (s2 _ _ ha)),?_⟩;k_is;refine ⟨n,0,_,rfl,by omega,by omega,?_⟩;k_is;refine Cw (SqL.of hm2) (Bh (pJ hb)) ?_;k_is;refine Nf hm2 rfl (by rw [List.length_map,hms.1];exact hnl) ?_;rw [jN];k_is;exact ⟨⟨_,_,_,rfl,lV hms hx,Ab⟩,A8 s2 hm0⟩
  ·rintro σ H1 ⟨⟨ms,v2,v3,rfl,hms,hm1⟩,s1⟩
   exact q H1 s1
def isF:V->Bool
 | .bl false=>true
 | _=>false
def fAt (H:Hp)(m:Addr):Nat:=match H m with | some (.lst xs)=>xs.countP isF | _=>0
theorem rD (ms:List Bool):(ms.map V.bl).countP isF=ms.count false:=by
 induction ms with
 | nil=>rfl
 | cons b r ih=>cases b<;>simp [isF,List.countP_cons,List.count_cons,ih]
theorem iZ {H:Hp}{m:Addr}{ms:List Bool}(h:H m=some (.lst (ms.map V.bl))):fAt H m=ms.count false:=by
 unfold fAt;rw [h];exact rD ms
theorem bY:∀ {ms:List Bool} {y:Nat},ms[y]?=some false->(ms.set y true).count false+1=ms.count false
 | [],_,h=>by cases h
 | b::r,0,h=>by
  cases h;simp
 | b::r,y+1,h=>by
  have ih:=bY (ms:=r) (y:=y) h;rw [List.set_cons_succ,List.count_cons,List.count_cons];omega
def Dn (H:Hp)(n:Nat)(rs:List Addr):Prop:=∀ r∈rs,∃ ns:List Int,ns.length<=n/\H r=some (.lst (ns.map V.int))
theorem Dn.same {H H':Hp}{n:Nat}{rs:List Addr}(s:Am H H')(h:Dn H n rs):Dn H' n rs:=fun r hr=>let ⟨ns,hl,e⟩:=h r hr;⟨ns,hl,s _ _ e⟩
theorem Dn.upd {H:Hp}{n:Nat}{rs:List Addr}{a:Addr}{o:HO}(h:Dn H n rs)(hn:∀ r∈rs,r≠a):Dn (upd H a o) n rs:=fun r hr=>by
 obtain ⟨ns,hl,e⟩:=h r hr;exact ⟨ns,hl,by rw [Ai (hn r hr)];exact e⟩
def Rh:Sp:=fun vs H Q _=>∃ (t:Addr) (ns:List Nat),vs=[.ref t]/\H t=some (.tup (nV ns))/\(∀ x∈ns,x<ns.length)/\ns.length<=5000 /\
 ∀ p (rs:List Addr) H',Am H H'->H p=none->H' p=some (.lst (rs.map V.ref))->rs.length<=ns.length->Dn H' ns.length rs->Q (.ref p) H'
theorem Ub {f:Addr}{fd:FuncData}(F:Fun K "rounds_of" "rounds_of" Jh f fd)(T:Txt K mg ae ag ah aa):A4 P w K mg base CX0 1 f fd ["order"] Rh:=by
 refine F.ok C4 (fun vs H Q E h=>?_) (fun cdv A outer s H vs Q E hr h=>?_)
 ·obtain ⟨t,ns,rfl,_⟩:=h
  rfl
 ·obtain ⟨t,ns,rfl,ht,hb,hn,q⟩:=h
  have hlV:(nV ns).length=ns.length:=by rw [List.length_map]
  refine ⟨_,(Aa (Ao (i:=1) C4.nd rfl (Or.inl rfl) (Bp Ac))
   (Aa (Ao (i:=2) C4.nd rfl (Or.inl rfl) (Aj J2 (Bp (Ag L1 Ac rfl)) (Ap Ar (by rfl) T.n_len Cc (Ag (pv 0) Ac rfl))))
   (Aa (Dy PassesOwn.never rfl (Fa rfl T.n_range (Ag (Ap Ar (by rfl) T.n_len Cc (Ag (pv 0) Ac rfl)) Ac rfl)) (Bc (i:=3) C4.nd rfl (Or.inl rfl))
   (Aa (Ao (i:=4) C4.nd rfl (Or.inl rfl) (Bp Ac))
   (Aa (Ao (i:=5) C4.nd rfl (Or.inl rfl) (pv 3))
   (Aa (E4 PassesOwn.never (Eu (C8 (Bs Bt (pv 2) (pv 5) (fun _ _=>rfl))))
   (Aa (Rm L1 (Uy (pv 2) (pv 5) Hj))
   (Aa (Bk (C3 PySem.F.plainAttrs_list PySem.F.slot_list_append PySem.F.type_list_append Bv (pv 4) (Ag (pv 5) Ac rfl)))
   (Af (Ao (i:=5) C4.nd rfl (Or.inl rfl) (Bs Fc (pv 0) (pv 5) (fun _ _=>rfl)))))))
   (Af (Cq (Av Ja (Ap Ar (by rfl) T.n_len Cc (Ag (pv 4) Ac rfl)) Ae (Ay _)) (Af (Bk (C3 PySem.F.plainAttrs_list PySem.F.slot_list_append PySem.F.type_list_append Bv (pv 1) (Ag (pv 4) Ac rfl))))
   Bb))))))
   (Af (At (pv 1)))))),?_⟩
  k_is;refine ⟨Nat.zero_le _,fun p hp=>?_⟩;have t0:=Ah (o:=.lst []) hp;have e0:upd H p (.lst []) p=some (.lst []):=Ab;generalize upd H p (.lst [])=H0 at *;k_is;refine ⟨few (by simp),fun p1 hp1=>?_⟩;have t1:=Ah (o:=.lst [V.bl false]) hp1;have s1:=t0.trans t1;have e1:=t1 _ _ e0;have f1:upd H0 p1 (.lst [V.bl false]) p1=some (.lst [V.bl false]):=Ab;generalize upd H0 p1 (.lst [V.bl false])=H1 at *;k_is;refine ⟨t,_,rfl,.inr (SqT.of (s1 _ _ ht)),?_⟩;k_is;refine ⟨p1,_,_,rfl,rfl,f1,by omega,by rw [hlV];omega,Nat.le_of_lt (Al (by simp;omega)),fun m hm=>?_⟩;have t2:=Ah (o:=.lst (List.replicate (((nV ns).length:Nat):Int).toNat [V.bl false]).flatten) hm;have s2:=s1.trans t2;have hm0:=s1.free hm;have e2:=t2 _ _ e1;have hpm:p≠m:=Ak e1 hm;have hM:(upd H1 m (.lst (List.replicate (((nV ns).length:Nat):Int).toNat [V.bl false]).flatten)) m=some (.lst ((List.replicate ns.length false).map V.bl)):=by
   rw [Ab,Int.toNat_natCast,hlV,jK]
  generalize (upd H1 m (.lst (List.replicate (((nV ns).length:Nat):Int).toNat [V.bl false]).flatten))=H2 at *;k_is;refine ⟨t,_,rfl,.inr (SqT.of (s2 _ _ ht)),?_⟩;k_is;refine ⟨_,rfl,by omega,by rw [hlV];omega,?_⟩;rw [hlV,Int.toNat_natCast];refine Hg (fun i σ H3=>∃ (rs:List Addr) (ms:List Bool) (v3 v4 v5:Option V),σ=[some (.ref t),some (.ref p),some (.ref m),v3,v4,v5]/\H3 p=some (.lst (rs.map V.ref))/\rs.length<=i/\Dn H3 ns.length rs/\(∀ r∈rs,r≠p/\r≠m)/\H3 m=some (.lst (ms.map V.bl))/\ms.length=ns.length/\Am H H3) ?_ ?_ ?_
  ·exact ⟨[],_,_,_,_,rfl,e2,Nat.le_refl _,(fun r hr=>by cases hr),(fun r hr=>by cases hr),hM,List.length_replicate,s2⟩
  ·rintro i σ H3 hi ⟨rs,ms,v3,v4,v5,rfl,hp3,hrl,hrs,hne,hm3,hml,s3⟩
   k_is;refine ⟨Nat.zero_le _,fun a ha=>?_⟩;have ta:=Ah (o:=.lst []) ha;have ha0:=s3.free ha;have hap:a≠p:=(Ak hp3 ha).symm;have ham:a≠m:=(Ak hm3 ha).symm;have har:∀ r∈rs,r≠a:=fun r hr=>by obtain ⟨_,_,e⟩:=hrs r hr;exact Ak e ha
   have s4:=s3.trans ta;have hp4:=ta _ _ hp3;have hm4:=ta _ _ hm3;have hrs4:=hrs.same ta;have ha4:upd H3 a (.lst []) a=some (.lst []):=Ab;generalize upd H3 a (.lst [])=H4 at *;k_is;refine Et (fun σ H5=>∃ (ms:List Bool) (qs:List Int) (y:Nat),σ=[some (.ref t),some (.ref p),some (.ref m),some (.int (0+(i:Int))),some (.ref a),some (.int y)]/\y<ns.length/\H5 p=some (.lst (rs.map V.ref))/\Dn H5 ns.length rs/\H5 m=some (.lst (ms.map V.bl))/\ms.length=ns.length/\H5 a=some (.lst (qs.map V.int))/\qs.length+ms.count false<=ns.length/\Am H H5) (fun _ H5=>fAt H5 m)
    ⟨ms,[],i,by simp,hi,hp4,hrs4,hm4,hml,ha4,by have:=List.count_le_length (a:=false) (l:=ms);simp;omega,s4⟩ ?_
   rintro z σ H5 ⟨ms,qs,y,rfl,hy,hp5,hrs5,hm5,hml5,ha5,hc5,s5⟩ hz;rw [iZ hm5] at hz;obtain ⟨b,hb5⟩:∃ b,ms[y]?=some b:=⟨_,List.getElem?_eq_getElem (by omega)⟩;k_is;refine Cw (SqL.of hm5) (Bh (pJ hb5)) ?_
   cases b with
   | false =>
    k_is;refine Ht ?_;k_is;refine Nf hm5 rfl (by rw [List.length_map];omega) ?_;rw [jN];have hct:=bY hb5;have hm6:upd H5 m (.lst ((ms.set y true).map V.bl)) m=some (.lst ((ms.set y true).map V.bl)):=Ab;have s6:=A8 (o:=.lst ((ms.set y true).map V.bl)) s5 hm0;have ha6:upd H5 m (.lst ((ms.set y true).map V.bl)) a=some (.lst (qs.map V.int)):=by rw [Ai ham];exact ha5
    have hp6:upd H5 m (.lst ((ms.set y true).map V.bl)) p=some (.lst (rs.map V.ref)):=by rw [Ai hpm];exact hp5
    have hrs6:Dn (upd H5 m (.lst ((ms.set y true).map V.bl))) ns.length rs:=hrs5.upd fun r hr=>(hne r hr).2;generalize upd H5 m (.lst ((ms.set y true).map V.bl))=H6 at *;k_is;refine ⟨.inl ⟨rfl,_,SqL.of ha6⟩,?_⟩;k_is;refine Cd ha6 (by rw [List.length_map];exact Al (by omega)) ?_;k_is;have hx:ns[y]?=some ns[y]:=List.getElem?_eq_getElem hy;have hlt:=hb _ (List.mem_of_getElem? hx);generalize ns[y]=x at hx hlt;refine Ho (SqT.of ((A8 s6 ha0) _ _ ht)) (v:=.int x) (Bh (by rw [List.getElem?_map,hx];rfl)) ?_;k_is;refine ⟨⟨ms.set y true,qs++[(y:Int)],x,rfl,hlt,by rw [Ai hap.symm];exact hp6,hrs6.upd har,by rw [Ai ham.symm];exact hm6,by rw [List.length_set];exact hml5,by rw [Ab,List.map_append];rfl,by rw [List.length_append];simp;omega,A8 s6 ha0⟩,?_⟩;rw [iZ (ms:=ms.set y true) (by rw [Ai ham.symm];exact hm6)];omega
   | true =>
    k_is;refine ⟨a,_,rfl,.inl (SqL.of ha5),?_⟩;k_is;refine Db (fun _=>?_) (fun _=>?_)
    ·k_is
     refine ⟨.inl ⟨rfl,_,SqL.of hp5⟩,?_⟩;k_is;refine Cd hp5 (by rw [List.length_map];exact Al (by omega)) ?_;k_is;refine ⟨rs++[a],ms,_,_,_,rfl,by rw [Ab,List.map_append];rfl,by rw [List.length_append];simp;omega,fun r hr=>?_,fun r hr=>?_,by rw [Ai hpm.symm];exact hm5,hml5,A8 s5 hp⟩
     ·rcases List.mem_append.mp hr with hr | hr
      ·exact (hrs5.upd fun r hr=>(hne r hr).1) r hr
      ·rw [List.mem_singleton.mp hr]
       exact ⟨qs,by omega,by rw [Ai hap];exact ha5⟩
     ·rcases List.mem_append.mp hr with hr | hr
      ·exact hne r hr
      ·rw [List.mem_singleton.mp hr]
       exact ⟨hap,ham⟩
    ·k_is
     exact ⟨rs,ms,_,_,_,rfl,hp5,by omega,hrs5,hne,hm5,hml5,s5⟩
  ·rintro σ H3 ⟨rs,ms,v3,v4,v5,rfl,hp3,hrl,hrs,hne,hm3,hml,s3⟩
   k_is;exact q p rs H3 s3 hp hp3 hrl hrs
theorem Yy (ys:List V):(Dz ys (some (-1)) none++Dz ys none (some (-1))).length=ys.length:=by
 rw [List.length_append];unfold Dz;rw [List.length_take,List.length_take,List.length_drop,List.length_drop];show min (ys.length-(if (-1:Int)<0 then ((-1:Int)+(ys.length:Int)).toNat else min (-1:Int).toNat ys.length)) (ys.length-(if (-1:Int)<0 then ((-1:Int)+(ys.length:Int)).toNat else min (-1:Int).toNat ys.length))
  + min ((if (-1:Int)<0 then ((-1:Int)+(ys.length:Int)).toNat else min (-1:Int).toNat ys.length)-0) (ys.length-0)=ys.length
 rw [if_pos (by decide)];omega
theorem L8 {ys:List V}{qs:List Int}(h:∀ v∈ys,v∈qs.map V.int):∃ zs:List Int,ys=zs.map V.int:=by
 induction ys with
 | nil=>exact ⟨[],rfl⟩
 | cons y r ih =>
  obtain ⟨zs,e⟩:=ih fun v hv=>h v (List.mem_cons_of_mem _ hv);obtain ⟨z,_,hz⟩:=List.mem_map.mp (h y List.mem_cons_self);exact ⟨z::zs,by rw [e,<- hz];rfl⟩
def Um:Sp:=fun vs H Q _=>∃ (t:Addr) (ns:List Nat) (st:Int),vs=[.ref t,.int st]/\H t=some (.tup (nV ns))/\(∀ x∈ns,x<ns.length)/\ns.length<=3000/\0<st /\
 ∀ d (kvs:List (Key×V)) H',Am H H'->H d=none->H' d=some (.dK kvs)->Q (.ref d) H'
theorem lP {n:Nat}(h:n<=10000000):n<=sizeLine:=Nat.le_trans h (by decide)
theorem On {f:Addr}{fd:FuncData}(F:Fun K "shortcuts_of" "shortcuts_of" F9 f fd)(T:Txt K mg ae ag ah aa)(aU:Cal P w K mg base "rounds_of" 1 ["order"] Rh):A4 P w K mg base CX0 2 f fd ["order","step"] Um:=by
 refine F.ok Ed (fun vs H Q E h=>?_) (fun cdv A outer s H vs Q E hr h=>?_)
 ·obtain ⟨t,ns,st,rfl,_⟩:=h
  rfl
 ·obtain ⟨t,ns,st,rfl,ht,hb,hn,hst,q⟩:=h
  refine ⟨_,(Aa (Ao (i:=2) Ed.nd rfl (Or.inl rfl) bO)
   (Aa (Dy PassesOwn.never rfl (Dl (A6 aU (hr.mono (by decide:1<=_)) (Ag (pv 0) Ac rfl))) (Bc (i:=3) Ed.nd rfl (Or.inl rfl))
   (Af (Cq (Av Ja (Ap Ar (by rfl) T.n_len Cc (Ag (pv 3) Ac rfl)) (pv 1) (Ay _)) (Aa (Ao (i:=4) Ed.nd rfl (Or.inl rfl) (mC (pv 3) (pv 1)))
   (Af (Bk (C3 PySem.F.plainAttrs_dict PySem.F.slot_dict_update PySem.F.type_dict_update dS (pv 2) (Ag (nG rfl rfl T.n_dict rfl T.n_zip (Ag (pv 4) (Ag (Aj Gz (Dp Ik (pv 4) (C5 (Dw Cg Ae)) Ib) (Dp Ik (pv 4) Ib (C5 (Dw Cg Ae)))) Ac rfl) rfl)) Ac rfl)))))
   Bb)))
   (Af (At (pv 2))))),?_⟩
  k_is;intro d hd;have t0:=Ah (o:=.dK []) hd;have e0:upd H d (.dK []) d=some (.dK []):=Ab;generalize upd H d (.dK [])=H0 at *;k_is;refine ⟨t,ns,rfl,t0 _ _ ht,hb,by omega,fun p rs H1 s1 f1 e1 hl hrs=>?_⟩;have s01:=t0.trans s1;refine ⟨p,rfl,⟨_,SqL.of e1⟩,?_⟩;refine G3 (xs:=rs.map V.ref) (fun i σ H2=>∃ (kvs:List (Key×V)) (v3 v4:Option V),σ=[some (.ref t),some (.int st),some (.ref d),v3,v4]/\H2 d=some (.dK kvs)/\kvs.length<=i*3000/\H2 p=some (.lst (rs.map V.ref))/\Dn H2 ns.length rs/\Am H H2) ?_ (fun k σ H2 _ h=>by obtain ⟨_,_,_,_,_,_,h,_⟩:=h;exact SqL.of h) ?_ ?_
  ·exact ⟨[],_,_,rfl,s1 _ _ e0,Nat.zero_le _,e1,hrs,s01⟩
  ·rintro i x σ H2 hx ⟨kvs,v3,v4,rfl,hd2,hk,hp2,hrs2,s2⟩
   have hi:=En hx;rw [List.length_map] at hi;rw [List.getElem?_map] at hx;obtain ⟨r,hr,rfl⟩:∃ r,rs[i]?=some r/\V.ref r=x:=by
    cases e:rs[i]? with
    | none=>rw [e] at hx;cases hx
    | some r=>rw [e] at hx;exact ⟨r,rfl,Option.some.inj hx⟩
   obtain ⟨qs,hql,hqr⟩:=hrs2 r (List.mem_of_getElem? hr);k_is;refine ⟨r,_,rfl,.inl (SqL.of hqr),?_⟩;k_is;refine Db (fun _=>?_) (fun _=>?_)
   ·k_is
    refine ⟨r,_,st,rfl,rfl,hst,SqL.of hqr,fun a ys ha hys hyl=>?_⟩;obtain ⟨zs,rfl⟩:=L8 hys;rw [List.length_map,List.length_map] at hyl;have t3:=Ah (o:=.lst (zs.map V.int)) ha;have s3:=s2.trans t3;have ha3:upd H2 a (.lst (zs.map V.int)) a=some (.lst (zs.map V.int)):=Ab;have hd3:=t3 _ _ hd2;have hp3:=t3 _ _ hp2;have hrs3:=hrs2.same t3;generalize upd H2 a (.lst (zs.map V.int))=H3 at *;k_is;refine ⟨.inr (.inr (.inl ⟨rfl,.inl ⟨_,hd3⟩⟩)),?_⟩;k_is;refine ⟨a,_,rfl,SqL.of ha3,fun b1 hb1=>?_⟩;have t4:=Ah (o:=.lst (Dz (zs.map V.int) (some (-1)) none)) hb1;have hb4:upd H3 b1 (.lst (Dz (zs.map V.int) (some (-1)) none)) b1=some (.lst (Dz (zs.map V.int) (some (-1)) none)):=Ab;have ha4:=t4 _ _ ha3;have s4:=s3.trans t4;have hd4:=t4 _ _ hd3;have hp4:=t4 _ _ hp3;have hrs4:=hrs3.same t4;generalize upd H3 b1 (.lst (Dz (zs.map V.int) (some (-1)) none))=H4 at *;k_is;refine ⟨a,_,rfl,SqL.of ha4,fun b2 hb2=>?_⟩;have t5:=Ah (o:=.lst (Dz (zs.map V.int) none (some (-1)))) hb2;have hb5:upd H4 b2 (.lst (Dz (zs.map V.int) none (some (-1)))) b2=some (.lst (Dz (zs.map V.int) none (some (-1)))):=Ab;have ha5:=t5 _ _ ha4;have hc5:=t5 _ _ hb4;have s5:=s4.trans t5;have hd5:=t5 _ _ hd4;have hp5:=t5 _ _ hp4;have hrs5:=hrs4.same t5;generalize upd H4 b2 (.lst (Dz (zs.map V.int) none (some (-1))))=H5 at *;have hlen:=Yy (zs.map V.int);rw [List.length_append,List.length_map] at hlen;k_is;refine ⟨b1,b2,_,_,rfl,rfl,hc5,hb5,lP (by omega),fun c hc=>?_⟩;have t6:=Ah (o:=.lst (Dz (zs.map V.int) (some (-1)) none++Dz (zs.map V.int) none (some (-1)))) hc;have hc6:upd H5 c (.lst (Dz (zs.map V.int) (some (-1)) none++Dz (zs.map V.int) none (some (-1)))) c=some (.lst (Dz (zs.map V.int) (some (-1)) none++Dz (zs.map V.int) none (some (-1)))):=Ab;have ha6:=t6 _ _ ha5;have s6:=s5.trans t6;have hd6:=t6 _ _ hd5;have hp6:=t6 _ _ hp5;have hrs6:=hrs5.same t6;generalize upd H5 c (.lst (Dz (zs.map V.int) (some (-1)) none++Dz (zs.map V.int) none (some (-1))))=H6 at *;refine ⟨a,c,zs,_,rfl,SqL.of ha6,SqL.of hc6,by rw [List.length_append];omega,fun g kvs2 hg hkl=>?_⟩;have t7:=Ah (o:=.dK kvs2) hg;have hg7:upd H6 g (.dK kvs2) g=some (.dK kvs2):=Ab;have s7:=s6.trans t7;have hd7:=t7 _ _ hd6;have hp7:=t7 _ _ hp6;have hrs7:=hrs6.same t7;have hdg:d≠g:=Ak hd6 hg;generalize upd H6 g (.dK kvs2)=H7 at *;have hk5:kvs.length<=3000*3000:=Nat.le_trans hk (Nat.mul_le_mul (by omega) (Nat.le_refl _));k_is;refine hZ hdg hd7 hg7 (lP (by omega)) fun kvs' hk'=>?_;k_is;refine ⟨kvs',_,_,rfl,Ab,by rw [Nat.add_mul];omega,?_,hrs7.upd fun r hr e=>?_,A8 s7 hd⟩
    ·have hne:p≠d:=D8 hp7 hd7 (by intro z;cases z)
     rw [Ai hne];exact hp7
    ·obtain ⟨_,_,er⟩:=hrs7 r hr
     rw [e,hd7] at er;cases er
   ·k_is
    exact ⟨kvs,_,_,rfl,hd2,by rw [Nat.add_mul];omega,hp2,hrs2,s2⟩
  ·rintro σ H2 ⟨kvs,v3,v4,rfl,hd2,hk,hp2,hrs2,s2⟩
   k_is;exact q d kvs H2 s2 hd hd2
theorem Yq {xs:List V}(h:cZ xs):∃ ns:List Nat,xs=nV ns/\∀ x∈ns,x<ns.length:=by
 have key:∀ ys:List V,(∀ y∈ys,∃ n:Nat,y=V.int n/\n<xs.length)->∃ ns:List Nat,ys=nV ns/\∀ x∈ns,x<xs.length:=fun ys=>by
  induction ys with
  | nil=>exact fun _=>⟨[],rfl,fun x hx=>by cases hx⟩
  | cons y r ih =>
   intro hy;obtain ⟨ns,e,hb⟩:=ih fun v hv=>hy v (List.mem_cons_of_mem _ hv);obtain ⟨n,e1,hn⟩:=hy y List.mem_cons_self;refine ⟨n::ns,by rw [e,e1];rfl,fun x hx=>?_⟩;rcases List.mem_cons.mp hx with rfl | hx
   ·exact hn
   ·exact hb x hx
 obtain ⟨ns,e,hb⟩:=key xs fun y hy=>by
  obtain ⟨j,hj⟩:=List.getElem?_of_mem hy;obtain ⟨n,h1,h2,_⟩:=h j (En hj);rw [hj] at h1;exact ⟨n,Option.some.inj h1,h2⟩
 refine ⟨ns,e,fun x hx=>?_⟩;have:=hb x hx;rw [e,List.length_map] at this;exact this
def Me (C:Addr):Sp:=fun vs H Q _=>∃ (x dx a:Addr) (xs:List V) (st:Int),vs=[.ref x,.ref a,.int st]/\H x=some (.ins C dx [])/\H a=some (.lst xs)/\cZ xs/\xs.length<=3000/\0<st/\∀ H',SameBut x H H'->Q .non H'
theorem Qe {f:Addr}{fd:FuncData}(F:X2 K "__init__" "Shortcuts.__init__" B1 f fd)(T:Txt K mg ae ag ah aa)(Z:Qd K ai)(aV:Cal P w K mg base "check_order" 3 ["order"] O4)
  (aW:Cal P w K mg base "shortcuts_of" 2 ["order","step"] Um):A4 P w K mg base (CXE P w) 4 f fd ["self","order","step"] (Me ai):=by
 refine F.okE Ly (fun vs H Q E h=>?_) (fun cdv A outer s H vs Q E hr h=>?_)
 ·obtain ⟨x,dx,a,xs,st,rfl,_⟩:=h
  rfl
 ·obtain ⟨x,dx,a,xs,st,rfl,hx,ha,hG,hn,hst,q⟩:=h
  refine ⟨_,(Aa (Bk (A6 aV (hr.mono (by decide:3<=_)) (Ag (pv 1) Ac rfl)))
   (Aa (D7 (pv 0) (Ei G1 (by rfl) T.n_tuple Vs (Ag (pv 1) Ac rfl)) rfl)
   (Af (D7 (pv 0) (A6 aW (hr.mono (by decide:2<=_)) (Ag (B0 (pv 0) rfl) (Ag (pv 2) Ac rfl) rfl)) rfl)))),?_⟩
  k_is;refine ⟨a,xs,rfl,ha,hG,by omega,fun H1 s1=>?_⟩;obtain ⟨ns,rfl,hb⟩:=Yq hG;have hx1:=s1 _ _ hx;have ha1:=s1 _ _ ha;k_is;refine ⟨a,_,rfl,.inl ⟨SqL.of ha1,fun t ht=>?_⟩⟩;have t2:=Ah (o:=.tup (nV ns)) ht;have hx2:=t2 _ _ hx1;have ht2:upd H1 t (.tup (nV ns)) t=some (.tup (nV ns)):=Ab;have s2:=s1.trans t2;generalize upd H1 t (.tup (nV ns))=H2 at *;have htx:t≠x:=D8 ht2 hx2 (by intro z;cases z);k_is;refine Cs hx2 Z.cl Z.n_onward (by decide) ?_;have hx3:upd H2 x (.ins ai dx (D0 "onward" (.ref t) [])) x=some (.ins ai dx [("onward",.ref t)]):=Ab;have ht3:upd H2 x (.ins ai dx (D0 "onward" (.ref t) [])) t=some (.tup (nV ns)):=by rw [Ai htx];exact ht2
  have s3:=s2.but.trans (Dr (H:=H2) (x:=x) (o:=.ins ai dx (D0 "onward" (.ref t) [])));generalize upd H2 x (.ins ai dx (D0 "onward" (.ref t) []))=H3 at *;k_is;refine ⟨x,ai,dx,_,.ref t,rfl,hx3,Z.cl,Z.n_onward,rfl,?_⟩;k_is;refine ⟨t,ns,st,rfl,ht3,hb,by rw [List.length_map] at hn;exact hn,hst,fun d kvs H4 s4 f4 e4=>?_⟩;k_is;refine Cs (s4 _ _ hx3) Z.cl Z.n_leaps (show 1<1000 by decide) ?_;k_is;exact q _ ((s3.trans s4.but).trans Dr)
def Zu:Sp:=fun vs H Q _=>∃ (a:Addr) (ds:List Nat),vs=[.ref a]/\H a=some (.lst ((Au ds).map V.int))/\Dok ds/\ds.length<4000/\∀ l H',Am H H'->H' l=some (.lst ((Au ds).map V.int))->Q (.ref l) H'
theorem Zn {f:Addr}{fd:FuncData}(F:Fun K "look_at" "look_at" Nk f fd)(T:Txt K mg ae ag ah aa)(ar:Cal P w K mg base "is_whole" 1 ["thing"] Ml):A4 P w K mg base CX0 2 f fd ["elders"] Zu:=by
 refine F.ok Ii (fun vs H Q E h=>?_) (fun cdv A outer s H vs Q E hr h=>?_)
 ·obtain ⟨a,ds,rfl,_⟩:=h
  rfl
 ·obtain ⟨a,ds,rfl,ha,hD,hn,q⟩:=h
  refine ⟨_,(Aa (Cq (Eu (C8 (Ap Ci (by rfl) T.n_isinstance Br (Ag (pv 0) (Ag (Fj (v:=.ty "list") rfl T.n_list Li rfl) Ac rfl) rfl)))) (Af Fl)
   Bb)
   (Aa (Ao (i:=1) Ii.nd rfl (Or.inl rfl) (Bp (Ag (Dw Cg Ae) Ac rfl)))
   (Aa (Dy PassesOwn.never rfl (T6 rfl T.n_enumerate (Ag (pv 0) Ac rfl)) (Qy rfl (Dc (Bc (i:=2) Ii.nd rfl (Or.inl rfl)) (Dc (Bc (i:=3) Ii.nd rfl (Or.inl rfl)) M7)))
   (Aa (Cq (PW.pt (Jy (Av G6 (pv 2) (Bj rfl T.g_MOST_KNOTS) (Ay _)) (Jy (Eu (C8 (A6 ar (hr.mono (by decide:1<=_)) (Ag (pv 3) Ac rfl)))) (Kd (Av Oa (pv 3) (Dw Cg Ae) (Ay _)))))) (Af Fl)
   Bb)
   (Aa (E4 PassesOwn.never (Av Ja (Bs Bt (pv 1) (Dw Cg Ae) (fun _ _=>rfl)) (pv 3) (Ay _))
   (Af (Bk (Y1 PySem.F.plainAttrs_list PySem.F.slot_list_pop PySem.F.type_list_pop iX (pv 1)))))
   (Aa (Cq (Av Xj (Bs Bt (pv 1) (Dw Cg Ae) (fun _ _=>rfl)) (pv 3) (Ay _)) (Af Fl)
   Bb)
   (Af (Bk (C3 PySem.F.plainAttrs_list PySem.F.slot_list_append PySem.F.type_list_append Bv (pv 1) (Ag (pv 2) Ac rfl))))))))
   (Af (At (Ei F0 (by rfl) T.n_list Li (Ag (pv 0) Ac rfl))))))),?_⟩
  k_is;refine ⟨_,_,_,_,rfl,.lst ha,K9,?_⟩;k_is;refine ⟨few (by simp),fun p hp=>?_⟩;k_is;have t0:=Ah (o:=.lst [V.int (-1)]) hp;refine ⟨a,rfl,⟨_,SqL.of (t0 _ _ ha)⟩,?_⟩;refine Ph (xs:=(Au ds).map V.int) (fun k σ H1=>(∃ v2 v3:Option V,σ=[some (.ref a),some (.ref p),v2,v3])/\H1 p=some (.lst ((way ds k).map V.int))/\Am H H1) ⟨⟨_,_,rfl⟩,Ab,t0⟩ (fun k σ H1 _ h=>SqL.of (h.2.2 _ _ ha)) ?_ ?_
  ·rintro k x σ H1 t hx ⟨⟨v2,v3,rfl⟩,hp1,s1⟩ ht
   have hk:=En hx;rw [List.length_map,Bn] at hk;obtain ⟨e,he,rfl⟩:=Ia hx;rw [Kq hk] at he;obtain rfl:=Option.some.inj he;have st:=Ah (o:=.tup [.int k,.int (eld ds k)]) ht;have hp2:=st _ _ hp1;have s2:=s1.trans st;generalize upd H1 t (.tup [.int k,.int (eld ds k)])=H2 at *;k_is;refine Db (fun h=>?_) (fun _=>?_)
   ·have:=V.int.inj h
    omega
   k_is;refine ⟨_,rfl,?_⟩;k_is;have hge:=Q1 hD hk;refine Db (fun h=>by omega) (fun _=>?_);k_is;have hl:=Cj hD k (by omega);have hd:=hD k hk;refine Et (fun σ H3=>σ=[some (.ref a),some (.ref p),some (.int k),some (.int (eld ds k))]/\Am H H3/\∃ m,dAt ds k+1<=m/\m<=(way ds k).length/\H3 p=some (.lst (((way ds k).take m).map V.int))) (fun _ H3=>cD H3 p)
    ⟨rfl,s2,(way ds k).length,by omega,Nat.le_refl _,by rw [List.take_of_length_le (Nat.le_refl _)];exact hp2⟩ ?_
   rintro z σ H3 ⟨rfl,s3,m,hm1,hm2,hp3⟩ hz;rw [Lz hp3,Mf hm2] at hz;k_is;have hx1:(way ds k)[m-1]?=some ((way ds k)[m-1]'(by omega)):=List.getElem?_eq_getElem _;generalize (way ds k)[m-1]'(by omega)=y at hx1;refine Cw (SqL.of hp3) (Td (by omega) hx1) ?_;k_is;have hea:=Jc hD hk;refine Db (fun h=>?_) (fun h=>?_)
   ·have hne:m-1≠dAt ds k:=fun e=>by
     rw [e,hea] at hx1;have:=Option.some.inj hx1;omega
    refine Ht ?_;k_is;refine ⟨.inl ⟨rfl,_,SqL.of hp3⟩,?_⟩;refine ⟨p,_,.int y,rfl,rfl,hp3,?_,?_⟩
    ·rw [Mf hm2,Tu (n:=y)]
     rw [List.getElem?_take_of_lt (by omega)];exact hx1
    k_is;rw [eH hm2];refine ⟨⟨rfl,A8 s3 hp,m-1,by omega,by omega,Ab⟩,?_⟩;rw [Lz Ab,Mf (by omega)];omega
   ·have hme:m=dAt ds k+1:=by
     by_cases e:m-1=dAt ds k
     ·omega
     ·have:=Zz hD k (dAt ds k) (m-1) _ _ (by omega) (by omega) hea hx1
      omega
    subst hme;have hy:y=eld ds k:=by
     rw [show dAt ds k+1-1=dAt ds k by omega,hea] at hx1;exact (Option.some.inj hx1).symm
    k_is;refine Cw (SqL.of hp3) (Td (by omega) hx1) ?_;k_is;refine mK (fun h1=>absurd (congrArg V.int hy) h1) (fun _=>?_);k_is;refine ⟨.inl ⟨rfl,_,SqL.of hp3⟩,?_⟩;k_is;refine Cd hp3 ?_ ?_
    ·rw [Mf hm2]
     exact Al (by have:=Vx hD k (by omega);omega)
    k_is;refine ⟨⟨_,_,rfl⟩,?_,A8 s3 hp⟩;rw [Ab];show _=some (HO.lst (((way ds k).take (dAt ds k+1)++[(k:Int)]).map V.int));rw [List.map_append];rfl
  ·rintro σ H1 ⟨⟨v2,v3,rfl⟩,hp1,s1⟩
   k_is;refine ⟨a,_,rfl,.inl (SqL.of (s1 _ _ ha)),fun l hl=>?_⟩;exact q l _ (s1.trans (Ah hl)) Ab
def Rr:Sp:=fun vs H Q _=>∃ (a:Addr) (ds:List Nat),vs=[.ref a]/\H a=some (.lst ((Au ds).map V.int))/\Dok ds/\ds.length<4000/\∀ l H',Am H H'->H' l=some (.lst (nV ds))->Q (.ref l) H'
theorem Sy {ds:List Nat}{k:Nat}(hk:k<ds.length):nV (ds.take k)++[V.int (dAt ds k:Nat)]=nV (ds.take (k+1)):=by
 rw [List.take_add_one,List.getElem?_eq_getElem hk,<- Vn];unfold dAt List.getD;rw [List.getElem?_eq_getElem hk];rfl
theorem Uc {f:Addr}{fd:FuncData}(F:Fun K "depths_of" "depths_of" Jn f fd)(T:Txt K mg ae ag ah aa):A4 P w K mg base CX0 1 f fd ["elders"] Rr:=by
 refine F.ok Hx (fun vs H Q E h=>?_) (fun cdv A outer s H vs Q E hr h=>?_)
 ·obtain ⟨a,ds,rfl,_⟩:=h
  rfl
 ·obtain ⟨a,ds,rfl,ha,hD,hn,q⟩:=h
  refine ⟨_,(Aa (Ao (i:=1) Hx.nd rfl (Or.inl rfl) (Bp Ac))
   (Aa (Dy PassesOwn.never rfl (Dl (pv 0)) (Bc (i:=2) Hx.nd rfl (Or.inl rfl))
   (Af (Bk (C3 PySem.F.plainAttrs_list PySem.F.slot_list_append PySem.F.type_list_append Bv (pv 1) (Ag (Kh (Av G6 (pv 2) (Dw Cg Ae) (Ay _)) Ae (Aj Bd (Bs Bt (pv 1) (pv 2) (fun _ _=>rfl)) Ae)) Ac rfl)))))
   (Af (At (pv 1))))),?_⟩
  k_is;refine ⟨Nat.zero_le _,fun p hp=>?_⟩;k_is;have t0:=Ah (o:=.lst []) hp;refine ⟨a,rfl,⟨_,SqL.of (t0 _ _ ha)⟩,?_⟩;refine G3 (xs:=(Au ds).map V.int) (fun k σ H1=>(∃ v2:Option V,σ=[some (.ref a),some (.ref p),v2])/\H1 p=some (.lst (nV (ds.take k)))/\Am H H1) ⟨⟨_,rfl⟩,Ab,t0⟩ (fun k σ H1 _ h=>SqL.of (h.2.2 _ _ ha)) ?_ ?_
  ·rintro k x σ H1 hx ⟨⟨v2,rfl⟩,hp1,s1⟩
   have hk:=En hx;rw [List.length_map,Bn] at hk;obtain ⟨e,he,rfl⟩:=Ia hx;rw [Kq hk] at he;obtain rfl:=Option.some.inj he;have hz:(nV (ds.take k)).length<sizeLine:=by
    rw [Co,List.length_take];exact Al (by omega)
   k_is;refine ⟨.inl ⟨rfl,_,SqL.of hp1⟩,?_⟩;k_is;refine Db (fun h=>?_) (fun h=>?_)
   ·have hd:=Ux hD hk (V.int.inj h)
    k_is;refine Cd hp1 hz ?_;k_is;refine ⟨⟨_,rfl⟩,?_,A8 s1 hp⟩;rw [Ab,<- Sy hk,hd];rfl
   ·obtain ⟨v,hv,hlt,hd⟩:=Ex hD hk (fun e=>h (congrArg V.int e))
    k_is;rw [hv];refine Cw (SqL.of hp1) (v:=.int (dAt ds v:Nat)) ?_ ?_
    ·refine Bh (bR ?_)
     rw [List.getElem?_take_of_lt hlt,List.getElem?_eq_getElem (by omega)];unfold dAt List.getD;rw [List.getElem?_eq_getElem (by omega)];rfl
    k_is;refine Cd hp1 hz ?_;k_is;refine ⟨⟨_,rfl⟩,?_,A8 s1 hp⟩;rw [Ab,<- Sy hk,hd];rfl
  ·rintro σ H1 ⟨⟨v2,rfl⟩,hp1,s1⟩
   rw [List.length_map,Bn,List.take_of_length_le (Nat.le_refl _)] at hp1;k_is;exact q p H1 s1 hp1
def Nz (ts:List Tb):Sp:=fun vs H Q _=>∃ (l:Addr) (ds:List Nat),vs=[.ref l]/\H l=some (.lst (nV ds))/\ds.length<=10000/\Tbs ts H/\∀ p H',SmT ts H H'->H p=none->H' p=some (.lst ((G0 ds).map V.int))->Q (.ref p) H'
theorem O8 {f c Pt:Addr}{fd:FuncData}{ts:List Tb}(F:Sb K "level_order" "level_order" De f fd c Pt)(T:Txt K mg ae ag ah aa)(hK:K.In base)(hB:base.BuiltinsAt mg Pt)(hts:(⟨Pt,Aw,"level_order.<locals>.<lambda>"⟩:Tb)∈ts):A4 P w K mg base CX0 2 f fd ["depths"] (Nz ts):=by
 refine F.ok O9 (fun vs H Q E h=>?_) (fun A outer s H vs Q E hr h=>?_)
 ·obtain ⟨l,ds,rfl,_⟩:=h
  rfl
 ·obtain ⟨l,ds,rfl,hl,hn,ht,q⟩:=h
  refine ⟨_,(Af (At (Wq (qual:="level_order.<locals>.<lambda>") (i:=0) (cl:=s.heap.objs.size+1) rfl (hr.mono (by decide:1<=_)) rfl T.n_sorted (nL rfl T.n_range (Ag (Ap Ar (by rfl) T.n_len Cc (Ag (pv 0) Ac rfl)) Ac rfl)) (F.code hK) hB rfl rfl (by kernel_rfl) (by kernel_rfl) (by kernel_rfl) (by kernel_rfl) (fun _ _ _ _ _=>rfl)))),?_⟩;k_is;refine ⟨l,_,rfl,.inl (SqL.of hl),?_⟩;k_is;have e1:(nV ds).length=ds.length:=by unfold nV;rw [List.length_map]
  rw [e1];refine ⟨ds.length,rfl,by omega,fun p hp=>?_⟩;have s1:=Ah (o:=.rng 0 (ds.length:Int)) hp;have el:(iN ds).length=ds.length:=List.length_map ..;have ht1:=ht.same s1;refine ⟨p,l,iN ds,rfl,rfl,by rw [<- S1];exact s1 _ _ hl,by rw [el];omega,.inr (by rw [el];exact Ab),ht1.1 _ hts,fun p2 H' sx t2 hp2 hp3=>?_⟩;refine q p2 H' ((SmT.of ht s1).trans (gK ht1 hts sx t2)) (s1.free hp2) ?_;rw [hp3,el];rfl
theorem Su (n:Nat):(List.replicate n [V.int 0]).flatten=(List.replicate n (0:Int)).map V.int:=by
 induction n with
 | zero=>rfl
 | succ n ih=>rw [List.replicate_succ,List.flatten_cons,ih,List.replicate_succ];rfl
def gsK (ds:List Nat)(k:Nat):List Nat:=(List.range (ds.length+1)).map fun j:Nat=>(A7 ds k ((j:Int)-1)).length
theorem Mq (ds:List Nat)(k:Nat):(gsK ds k).length=ds.length+1:=by unfold gsK;rw [List.length_map,List.length_range]
theorem Ve {ds:List Nat}{k j:Nat}(hj:j<ds.length+1):(gsK ds k)[j]?=some (A7 ds k ((j:Int)-1)).length:=by unfold gsK;rw [List.getElem?_map,List.getElem?_range hj];rfl
theorem jR (ds:List Nat):gsK ds 0=List.replicate (ds.length+1) 0:=by
 refine List.ext_getElem? fun j=>?_
 by_cases hj:j<ds.length+1
 ·rw [Ve hj,List.getElem?_replicate,if_pos hj];rfl
 ·rw [List.getElem?_eq_none (by rw [Mq];omega),List.getElem?_eq_none (by rw [List.length_replicate];omega)]
theorem pD (ds:List Nat):gsK ds ds.length=gsC ds:=by
 unfold gsK gsC;rw [List.range_succ_eq_map,List.map_cons,List.map_map];refine congr (congrArg List.cons rfl) (List.map_congr_left fun j _=>?_);show (A7 ds ds.length (((j+1:Nat):Int)-1)).length=_;rw [show (((j+1:Nat):Int)-1)=(j:Int) by omega]
theorem jA {ds:List Nat}{k e:Nat}(he:eld ds k=(e:Int)-1)(h1:e<ds.length+1):gsK ds (k+1)=(gsK ds k).set e ((A7 ds k ((e:Int)-1)).length+1):=by
 refine List.ext_getElem? fun j=>?_
 by_cases hj:j<ds.length+1
 ·rw [Ve hj,List.getElem?_set]
  by_cases hje:e=j
  ·subst hje
   rw [if_pos rfl,if_pos (by rw [Mq];exact h1),Ke he,List.length_append];rfl
  ·rw [if_neg hje,Ve hj,L6 (by rw [he];omega)]
 ·rw [List.getElem?_eq_none (by rw [Mq];omega),List.getElem?_eq_none (by rw [List.length_set,Mq];omega)]
def Le:Sp:=fun vs H Q _=>∃ (l:Addr) (ds:List Nat),vs=[.ref l]/\H l=some (.lst ((Au ds).map V.int))/\Dok ds/\ds.length<=4000/\∀ p H',Am H H'->H p=none->H' p=some (.lst (nV (gsC ds)))->Q (.ref p) H'
theorem K3 {f:Addr}{fd:FuncData}(F:Fun K "children_counted" "children_counted" Eg f fd)(T:Txt K mg ae ag ah aa):A4 P w K mg base CX0 1 f fd ["elders"] Le:=by
 refine F.ok D1 (fun vs H Q E h=>?_) (fun cdv A outer s H vs Q E hr h=>?_)
 ·obtain ⟨l,ds,rfl,_⟩:=h
  rfl
 ·obtain ⟨l,ds,rfl,hl,hD,hn,q⟩:=h
  have hel:((Au ds).map V.int).length=ds.length:=by unfold Au;rw [List.length_map,List.length_map,List.length_range]
  refine ⟨_,(Aa (Ao (i:=1) D1.nd rfl (Or.inl rfl) (Aj J2 (Bp (Ag Ae Ac rfl)) (Aj Bd (Ap Ar (by rfl) T.n_len Cc (Ag (pv 0) Ac rfl)) Ae)))
   (Aa (Dy PassesOwn.never rfl (Dl (pv 0)) (Bc (i:=2) D1.nd rfl (Or.inl rfl))
   (Af (Uu (pv 1) (Aj Bd (pv 2) Ae) N1 Ae Lk Hj)))
   (Af (At (pv 1))))),?_⟩
  k_is;refine ⟨few (by simp),fun p hp=>?_⟩;have u0:=Ah (o:=.lst [V.int 0]) hp;k_is;refine ⟨l,_,rfl,.inl (SqL.of (u0 _ _ hl)),?_⟩;k_is;rw [hel];refine ⟨p,((ds.length+1:Nat):Int),_,rfl,rfl,Ab,by omega,by omega,Nat.le_of_lt (Al (by simp;omega)),fun m hm=>?_⟩;have u1:=u0.trans (Ah (o:=.lst (List.replicate (((ds.length+1:Nat):Int)).toNat [V.int 0]).flatten) hm);have hm0:H m=none:=u0.free hm;have hM:(upd (upd H p (.lst [V.int 0])) m (.lst (List.replicate (((ds.length+1:Nat):Int)).toNat [V.int 0]).flatten)) m=some (.lst (nV (gsK ds 0))):=by
   rw [Ab,Int.toNat_natCast,Su,jR];unfold nV;rw [List.map_replicate,List.map_replicate];rfl
  generalize (upd (upd H p (.lst [V.int 0])) m (.lst (List.replicate (((ds.length+1:Nat):Int)).toNat [V.int 0]).flatten))=H2 at *;k_is;refine ⟨l,rfl,⟨_,SqL.of (u1 _ _ hl)⟩,?_⟩;refine G3 (xs:=(Au ds).map V.int) (fun k σ H3=>(∃ v2:Option V,σ=[some (.ref l),some (.ref m),v2])/\H3 m=some (.lst (nV (gsK ds k)))/\Am H H3) ⟨⟨_,rfl⟩,hM,u1⟩ (fun k σ H3 _ h=>SqL.of (h.2.2 _ _ hl)) ?_ ?_
  ·rintro k x σ H3 hx ⟨⟨v2,rfl⟩,hm3,s3⟩
   obtain ⟨n,hn2,rfl⟩:=Ia hx;have hk:k<ds.length:=by have:=En hn2;unfold Au at this;rwa [List.length_map,List.length_range] at this
   obtain rfl:eld ds k=n:=by
    unfold Au at hn2;rw [List.getElem?_map,List.getElem?_range hk] at hn2;exact Option.some.inj hn2
   have h1:=Q1 hD hk;have h2:=T7 hD hk;obtain ⟨e,he⟩:∃ e:Nat,eld ds k=(e:Int)-1:=⟨(eld ds k+1).toNat,by omega⟩;have he1:e<ds.length+1:=by omega
   have hix:eld ds k+1=(e:Int):=by omega
   k_is;rw [hix];refine Cw (SqL.of hm3) (v:=.int ((A7 ds k ((e:Int)-1)).length:Nat)) (Bh (by unfold nV;rw [List.getElem?_map,Ve he1];rfl)) ?_;k_is;refine Nf hm3 rfl (by rw [Co,Mq];exact he1) ?_;refine ⟨⟨_,rfl⟩,?_,A8 s3 hm0⟩;rw [Ab,jA he he1];unfold nV;rw [List.map_set];rfl
  ·rintro σ H3 ⟨⟨v2,rfl⟩,hm3,s3⟩
   rw [hel,pD] at hm3;k_is;exact q m H3 s3 hm0 hm3
theorem Qz {f:Addr}{fd:FuncData}(F:Fun K "counted_row" "counted_row" Fi f fd)(T:Txt K mg ae ag ah aa):A4 P w K mg base CX0 1 f fd ["many"] G9:=by
 refine F.ok Pb (fun vs H Q E h=>?_) (fun cdv A outer s H vs Q E hr h=>?_)
 ·obtain ⟨l,ns,rfl,_⟩:=h
  rfl
 ·obtain ⟨l,ns,rfl,hl,hn,q⟩:=h
  refine ⟨_,(Af (At (C3 PySem.F.plainAttrs_str PySem.F.slot_str_join PySem.F.type_str_join Mn Ez (Ag (Iq rfl N0 (Dl (pv 0)) (fun _ _ _ _=>Ct) (fun _ _ _ _=>(Aj O6 (Aj dB Ez (pv 0)) Ez))) Ac rfl)))),?_⟩;k_is;refine ⟨rfl,?_⟩;k_is;refine ⟨_,rfl,⟨_,SqL.of hl⟩,?_⟩;refine Hy (xs:=nV ns) (SqL.of hl) (fun i=>(ns.take i).map fun n=>V.str (Ax (List.replicate n true++[false]))) rfl (fun i hi=>?_) (fun i x H1 R A hx s1 _ hA=>?_) (fun D H1 hD s1 h1=>?_)
  ·rw [List.length_map,List.length_take]
   exact Al (by omega)
  ·obtain ⟨n,hn1,rfl⟩:=Na hx
   have hns:=Rv hn1;k_is;refine ⟨"1",(n:Int),rfl,rfl,by omega,by omega,?_,few (by decide),?_⟩
   ·exact Nat.le_of_lt (Al (by rw [show ("1":Str).length=1 by rfl];omega))
   have e0:Sg ("1":Str) ((n:Int)).toNat=Ax (List.replicate n true):=by
    rw [Int.toNat_natCast];exact Tj true _
   rw [e0];k_is;have e1:Ax (List.replicate n true)++("0":Str)=Ax (List.replicate n true++[false]):=M1 (List.replicate n true) [false];refine ⟨_,"0",rfl,rfl,?_,?_⟩
   ·rw [B4,List.length_replicate]
    exact Nat.le_of_lt (Al (by rw [show ("0":Str).length=1 by rfl];omega))
   rw [e1];refine hA _ _ ?_ (Am.refl _);rw [List.take_add_one,hn1,List.map_append];rfl
  ·k_is
   refine Rz (ls:=ns.map fun n=>List.replicate n true++[false]) ?_ ?_ (q _ s1)
   ·rw [h1,Co,List.take_of_length_le (Nat.le_refl _),List.map_map]
    rfl
   ·show (grB ns).length<=_
    rw [U8];omega
theorem Rw:∀ {ns:List Int} {x:Int},x∈ns->∃ j:Nat,ns[j]?=some x/\∀ i:Nat,i<j->ns[i]?≠some x
 | y::ns,x,h=>by
  by_cases e:y=x
  ·exact ⟨0,by rw [e];rfl,fun i hi=>absurd hi (Nat.not_lt_zero _)⟩
  ·obtain ⟨j,h1,h2⟩:=Rw (List.mem_of_ne_of_mem (fun z=>e z.symm) h)
   refine ⟨j+1,h1,fun i hi=>?_⟩
   cases i with
   | zero=>exact fun z=>e (Option.some.inj z)
   | succ i=>exact h2 i (by omega)
def Yu:Sp:=fun vs H Q _=>∃ (l:Addr) (ds:List Nat),vs=[.ref l]/\H l=some (.lst (nV ds))/\ds.length<=4000/\∀ (r:Nat) H',r<16->Am H H'->Q (.int r) H'
theorem Vm {f:Addr}{fd:FuncData}(F:Fun K "thin_rest" "thin_rest" Iu f fd)(T:Txt K mg ae ag ah aa):A4 P w K mg base CX0 1 f fd ["depths"] Yu:=by
 refine F.ok Hv (fun vs H Q E h=>?_) (fun cdv A outer s H vs Q E hr h=>?_)
 ·obtain ⟨l,ds,rfl,_⟩:=h
  rfl
 ·obtain ⟨l,ds,rfl,hl,hn,q⟩:=h
  refine ⟨_,(Aa (Ao (i:=1) Hv.nd rfl (Or.inl rfl) (Aj J2 (Bp (Ag Ae Ac rfl)) (Bj rfl T.g_MARK_STEP)))
   (Aa (Dy PassesOwn.never rfl (Dl (pv 0)) (Bc (i:=2) Hv.nd rfl (Or.inl rfl))
   (Af (Uu (pv 1) (Aj Cu (pv 2) (Bj rfl T.g_MARK_STEP)) N1 Ae Lk Hj)))
   (Af (At (C3 PySem.F.plainAttrs_list PySem.F.slot_list_index PySem.F.type_list_index W0 (pv 1) (Ag (Ap (eC rfl) (by rfl) T.n_min jL (Ag (pv 1) Ac rfl)) Ac rfl)))))),?_⟩
  k_is;refine ⟨few (by simp),fun p hp=>?_⟩;have u0:=Ah (o:=.lst [V.int 0]) hp;k_is;refine ⟨p,16,_,rfl,rfl,Ab,by omega,by omega,Nat.le_of_lt (Al (by decide)),fun m hm=>?_⟩;have u1:=u0.trans (Ah (o:=.lst (List.replicate (16:Int).toNat [V.int 0]).flatten) hm);have hm0:H m=none:=u0.free hm;have hM:(upd (upd H p (.lst [V.int 0])) m (.lst (List.replicate (16:Int).toNat [V.int 0]).flatten)) m=some (.lst (nV (List.replicate 16 0))):=by
   rw [Ab];rfl
  generalize (upd (upd H p (.lst [V.int 0])) m (.lst (List.replicate (16:Int).toNat [V.int 0]).flatten))=H2 at *;k_is;refine ⟨l,rfl,⟨_,SqL.of (u1 _ _ hl)⟩,?_⟩;refine G3 (xs:=nV ds) (fun k σ H3=>(∃ v2:Option V,σ=[some (.ref l),some (.ref m),v2])/\(∃ cs:List Nat,cs.length=16/\H3 m=some (.lst (nV cs)))/\Am H H3) ⟨⟨_,rfl⟩,⟨_,List.length_replicate,hM⟩,u1⟩ (fun k σ H3 _ h=>SqL.of (h.2.2 _ _ hl)) ?_ ?_
  ·rintro k x σ H3 hx ⟨⟨v2,rfl⟩,⟨cs,hc,hm3⟩,s3⟩
   obtain ⟨n,hn2,rfl⟩:=Na hx;k_is;rw [show ((n:Int)%16)=((n%16:Nat):Int) by omega];have hlt:n%16<cs.length:=by omega
   refine Cw (SqL.of hm3) (v:=.int (cs[n%16]:Nat)) (Bh (by unfold nV;rw [List.getElem?_map,List.getElem?_eq_getElem hlt];rfl)) ?_;k_is;refine Nf hm3 rfl (by rw [Co];exact hlt) ?_;refine ⟨⟨_,rfl⟩,⟨cs.set (n%16) (cs[n%16]+1),by rw [List.length_set];exact hc,?_⟩,A8 s3 hm0⟩;rw [Ab];unfold nV;rw [List.map_set];rfl
  ·rintro σ H3 ⟨⟨v2,rfl⟩,⟨cs,hc,hm3⟩,s3⟩
   k_is;refine ⟨.inl ⟨rfl,_,SqL.of hm3⟩,?_⟩;k_is;have hm4:=hm3;rw [U4] at hm4;refine ⟨m,_,rfl,SqL.of hm4,fun z=>?_,fun x hx=>?_⟩
   ·have:=congrArg List.length z
    rw [List.length_map,hc] at this;cases this
   ·k_is
    obtain ⟨j,hj,hno⟩:=Rw hx.1;refine ⟨m,_,x,j,rfl,rfl,hm4,hj,hno,?_⟩;have:=En hj;rw [List.length_map,hc] at this;exact q j H3 this s3
def Lo:Sp:=fun vs H Q _=>∃ (l o:Addr) (ds:List Nat),vs=[.ref l,.ref o]/\H l=some (.lst ((Au ds).map V.int))/\H o=some (.lst ((G0 ds).map V.int))/\Dok ds/\ds.length<4000/\∀ H',Am H H'->Q (.str (Ax (grB (gsL ds)))) H'
theorem Ui {f:Addr}{fd:FuncData}(F:Fun K "level_row" "level_row" Gj f fd)(T:Txt K mg ae ag ah aa)(aX:Cal P w K mg base "children_counted" 1 ["elders"] Le)(aY:Cal P w K mg base "counted_row" 1 ["many"] G9):A4 P w K mg base CX0 2 f fd ["elders","order"] Lo:=by
 refine F.ok M5 (fun vs H Q E h=>?_) (fun cdv A outer s H vs Q E hr h=>?_)
 ·obtain ⟨l,o,ds,rfl,_⟩:=h
  rfl
 ·obtain ⟨l,o,ds,rfl,hl,ho,hD,hn,q⟩:=h
  have hgl:=Er hD;refine ⟨_,(Aa (Ao (i:=2) M5.nd rfl (Or.inr rfl) (A6 aX (hr.mono (by decide:1<=_)) (Ag (pv 0) Ac rfl)))
   (Af (At (A6 aY (hr.mono (by decide:1<=_)) (Ag (Aj Gz (Dp Ik (pv 2) Ib (C5 Ae)) (Iq rfl Pu (Dl (pv 1)) (fun _ _ _ _=>Ct) (fun _ _ _ _=>(Bs (Wx K) (pv 1) (Aj Bd (pv 0) Ae) (fun _ _=>rfl))))) Ac rfl))))),?_⟩
  k_is;refine ⟨l,ds,rfl,hl,hD,by omega,fun m H1 s1 hm0 hm=>?_⟩;have ho1:=s1 _ _ ho;k_is;refine ⟨m,_,rfl,SqL.of hm,fun q1 h1=>?_⟩;have e1:Dz (nV (gsC ds)) none (some 1)=nV [(A7 ds ds.length (-1)).length]:=by
   rw [show (some 1:Option Int)=some ((1:Nat):Int) from rfl,P4];rfl
  rw [e1];have u1:=Ah (o:=.lst (nV [(A7 ds ds.length (-1)).length])) h1;have hq1:upd H1 q1 (.lst (nV [(A7 ds ds.length (-1)).length])) q1=some (.lst (nV [(A7 ds ds.length (-1)).length])):=Ab;have ho2:=u1 _ _ ho1;have hm2:=u1 _ _ hm;have s2:=s1.trans u1;generalize upd H1 q1 (.lst (nV [(A7 ds ds.length (-1)).length]))=H2 at *;k_is;refine ⟨o,rfl,⟨_,SqL.of ho2⟩,?_⟩;refine Hy (SqL.of ho2) (fun i=>nV (((G0 ds).take i).map fun v=>(A7 ds ds.length v).length)) rfl (fun i hi=>?_) (fun i y H3 R A hy s3 _ hA=>?_) (fun D H3 hD3 s3 h3=>?_)
  ·rw [List.length_map,Fn] at hi
   rw [Co,List.length_map,List.length_take,Fn];exact Al (by omega)
  ·obtain ⟨v,hv,rfl⟩:=Ia hy
   obtain ⟨v0,v1⟩:=Rl (List.mem_of_getElem? hv);obtain ⟨n,rfl⟩:∃ n:Nat,v=(n:Int):=⟨v.toNat,by omega⟩;k_is;refine Cw (SqL.of (s3 _ _ hm2)) (v:=.int ((A7 ds ds.length n).length:Nat)) ?_ ?_
   ·rw [show ((n:Int)+1)=((n+1:Nat):Int) by omega]
    exact Bh (bR (kX (by omega)))
   refine hA _ _ ?_ (Am.refl _);rw [List.take_add_one,hv,List.map_append];unfold nV;rw [List.map_append];rfl
  rw [List.length_map,List.take_of_length_le (Nat.le_refl _)] at h3;have hq3:=s3 _ _ hq1;refine ⟨q1,D,_,_,rfl,rfl,hq3,h3,Nat.le_of_lt (Al (by rw [Co,Co,List.length_map,Fn];simp only [List.length_cons,List.length_nil];omega)),fun q4 h4=>?_⟩;have e4:nV [(A7 ds ds.length (-1)).length]++nV ((G0 ds).map fun v=>(A7 ds ds.length v).length)=nV (gsL ds):=by
   rw [<- dE hD];rfl
  rw [e4];k_is;refine ⟨q4,gsL ds,rfl,Ab,by omega,fun H5 s5=>?_⟩;exact q H5 (((s2.trans s3).trans (Ah h4)).trans s5)
theorem tK {ds:List Nat}(h:Dok ds){x:Int}(hx:x∈iN ds):0<=x/\x<ds.length:=by
 obtain ⟨n,hn,rfl⟩:=List.mem_map.mp hx;obtain ⟨j,hj,rfl⟩:=List.getElem_of_mem hn;have:=Yx h hj;unfold dAt List.getD at this;rw [List.getElem?_eq_getElem hj] at this;have:ds[j]<=j:=this;omega
def P1:Sp:=fun vs H Q _=>∃ (l:Addr) (ds:List Nat),vs=[.ref l]/\H l=some (.lst (nV ds))/\Dok ds/\ds.length<=4000/\∀ (v:V) H',Am H H'->Q v H'
theorem T0 {f:Addr}{fd:FuncData}(F:Fun K "widest_of" "widest_of" J9 f fd)(T:Txt K mg ae ag ah aa):A4 P w K mg base CX0 1 f fd ["depths"] P1:=by
 refine F.ok Im (fun vs H Q E h=>?_) (fun cdv A outer s H vs Q E hr h=>?_)
 ·obtain ⟨l,ds,rfl,_⟩:=h
  rfl
 ·obtain ⟨l,ds,rfl,hl,hD,hn,q⟩:=h
  refine ⟨_,(Aa (Cq (Av G6 (Ap Ar (by rfl) T.n_len Cc (Ag (pv 0) Ac rfl)) Ae (Ay _)) (Af (At Vv))
   Bb)
   (Aa (Ao (i:=1) Im.nd rfl (Or.inl rfl) (Aj J2 (Bp (Ag Ae Ac rfl)) (Aj Bd (Ap (S9 rfl) (by rfl) T.n_max cO (Ag (pv 0) Ac rfl)) Ae)))
   (Aa (Dy PassesOwn.never rfl (Dl (pv 0)) (Bc (i:=2) Im.nd rfl (Or.inl rfl))
   (Af (Uu (pv 1) (pv 2) N1 Ae Lk Hj)))
   (Af (At (C3 PySem.F.plainAttrs_list PySem.F.slot_list_index PySem.F.type_list_index W0 (pv 1) (Ag (Ap (S9 rfl) (by rfl) T.n_max cO (Ag (pv 1) Ac rfl)) Ac rfl))))))),?_⟩
  k_is;refine ⟨l,_,rfl,.inl (SqL.of hl),?_⟩;rw [Co];k_is;refine Db (fun _=>?_) (fun h0=>?_)
  ·k_is
   exact q _ H (Am.refl _)
  have hpos:0<ds.length:=by
   rcases Nat.eq_zero_or_pos ds.length with z | z
   ·exact absurd (by rw [z];rfl) h0
   ·exact z
  k_is;refine ⟨few (by simp),fun p hp=>?_⟩;have u0:=Ah (o:=.lst [V.int 0]) hp;have hp1:upd H p (.lst [V.int 0]) p=some (.lst [V.int 0]):=Ab;have hl1:=u0 _ _ hl;generalize upd H p (.lst [V.int 0])=H1 at *;k_is;refine ⟨l,iN ds,rfl,by rw [<- S1];exact SqL.of hl1,fun z=>?_,fun x hx=>?_⟩
  ·have e:(iN ds).length=0:=by rw [z];rfl
   rw [List.length_map] at e;omega
  obtain ⟨x0,x1⟩:=tK hD hx.1;obtain ⟨mx,rfl⟩:∃ mx:Nat,x=(mx:Int):=⟨x.toNat,by omega (splitDisjunctions := true)⟩;k_is;refine ⟨p,((mx+1:Nat):Int),_,rfl,by rw [Int.natCast_add];rfl,hp1,by omega (splitDisjunctions := true),by omega (splitDisjunctions := true),Nat.le_of_lt (Al (by simp;omega (splitDisjunctions := true))),fun m hm=>?_⟩;have u1:=u0.trans (Ah (o:=.lst (List.replicate ((mx+1:Nat):Int).toNat [V.int 0]).flatten) hm);have hm0:H m=none:=u0.free hm;have hM:(upd H1 m (.lst (List.replicate ((mx+1:Nat):Int).toNat [V.int 0]).flatten)) m=some (.lst (nV (List.replicate (mx+1) 0))):=by
   rw [Ab,Int.toNat_natCast,Su];unfold nV;rw [List.map_replicate,List.map_replicate];rfl
  generalize (upd H1 m (.lst (List.replicate ((mx+1:Nat):Int).toNat [V.int 0]).flatten))=H2 at *;k_is;refine ⟨l,rfl,⟨_,SqL.of (u1 _ _ hl)⟩,?_⟩;refine G3 (xs:=nV ds) (fun k σ H3=>(∃ v2:Option V,σ=[some (.ref l),some (.ref m),v2])/\(∃ cs:List Nat,cs.length=mx+1/\H3 m=some (.lst (nV cs)))/\Am H H3) ⟨⟨_,rfl⟩,⟨_,List.length_replicate,hM⟩,u1⟩ (fun k σ H3 _ h=>SqL.of (h.2.2 _ _ hl)) ?_ ?_
  ·rintro k y σ H3 hy ⟨⟨v2,rfl⟩,⟨cs,hc,hm3⟩,s3⟩
   obtain ⟨n,hn2,rfl⟩:=Na hy;have hle:=hx.2 (n:Int) (List.mem_map.mpr ⟨n,List.mem_of_getElem? hn2,rfl⟩);k_is;have hlt:n<cs.length:=by omega
   refine Cw (SqL.of hm3) (v:=.int (cs[n]:Nat)) (Bh (by unfold nV;rw [List.getElem?_map,List.getElem?_eq_getElem hlt];rfl)) ?_;k_is;refine Nf hm3 rfl (by rw [Co];exact hlt) ?_;refine ⟨⟨_,rfl⟩,⟨cs.set n (cs[n]+1),by rw [List.length_set];exact hc,?_⟩,A8 s3 hm0⟩;rw [Ab];unfold nV;rw [List.map_set];rfl
  ·rintro σ H3 ⟨⟨v2,rfl⟩,⟨cs,hc,hm3⟩,s3⟩
   k_is;refine ⟨.inl ⟨rfl,_,SqL.of hm3⟩,?_⟩;k_is;have hm4:=hm3;rw [U4] at hm4;refine ⟨m,_,rfl,SqL.of hm4,fun z=>?_,fun x hx=>?_⟩
   ·have:=congrArg List.length z
    rw [List.length_map,hc] at this;cases this
   ·k_is
    obtain ⟨j,hj,hno⟩:=Rw hx.1;exact ⟨m,_,x,j,rfl,rfl,hm4,hj,hno,q _ H3 s3⟩
def lFs (n:Nat)(b c:Addr)(s g v w:V)(d:Addr):List (Str×V):=[("knots",.int n),("bits",.ref b),("counts",.ref c),("places",s),("begins",g),("level_count",v),("widest_level",w),("leaps",.ref d)]
def nH (H:Hp)(n:Nat)(kvs:List (Key×V)):Prop:=∀ k v,Ge kvs (.inl k)=some v->∃ (t:Addr) (m:Nat) (l:Int),v=.ref t/\H t=some (.tup [.int m,.int l])/\m<=n
theorem nH.keep {H H':Hp}{n:Nat}{kvs:List (Key×V)}(h:nH H n kvs)(k:∀ b xs,H b=some (.tup xs)->H' b=some (.tup xs)):nH H' n kvs:=fun y v e=>by
 obtain ⟨t,m,l,h1,h2,h3⟩:=h y v e;exact ⟨t,m,l,h1,k _ _ h2,h3⟩
structure Oc (K:PySem.W.Frag) (CB CC CL:Addr) (H:Hp) (x:Addr) (ds:List Nat) (dx b c:Addr) (s g v w:V) (d:Addr) (kvs:List (Key×V)):Prop where
 hx:H x=some (.ins CL dx (lFs ds.length b c s g v w d))
 hb:Ft K CB H b (grB (gsL ds))
 hc:By K CC H c (grB (gsL ds))
 hd:H d=some (.dK kvs)
 hl:nH H ds.length kvs
 ok:Dok ds
 few:ds.length<3000
def Fp (K:PySem.W.Frag)(CB CC CL:Addr)(H:Hp)(x:Addr)(ds:List Nat):Prop:=∃ dx b c s g v w d kvs,Oc K CB CC CL H x ds dx b c s g v w d kvs
theorem Oc.sm {K:PySem.W.Frag}{CB CC CL x dx b c d:Addr}{ts:List Tb}{H H':Hp}{ds:List Nat}{s g v w:V}{kvs:List (Key×V)}(h:Oc K CB CC CL H x ds dx b c s g v w d kvs)(m:SmT ts H H'):Oc K CB CC CL H' x ds dx b c s g v w d kvs :=
 ⟨m.k h.hx,h.hb.keep m.kp,h.hc.keep m.kp,m.k h.hd,h.hl.keep fun b xs e=>m.k e,h.ok,h.few⟩
theorem Fp.sm {K:PySem.W.Frag}{CB CC CL x:Addr}{ts:List Tb}{H H':Hp}{ds:List Nat}(h:Fp K CB CC CL H x ds)(m:SmT ts H H'):Fp K CB CC CL H' x ds:=by
 obtain ⟨dx,b,c,s,g,v,w,d,kvs,h⟩:=h;exact ⟨dx,b,c,s,g,v,w,d,kvs,h.sm m⟩
theorem Fp.same {K:PySem.W.Frag}{CB CC CL x:Addr}{ts:List Tb}{H H':Hp}{ds:List Nat}(h:Fp K CB CC CL H x ds)(hT:Tbs ts H)(m:Am H H'):Fp K CB CC CL H' x ds:=h.sm (SmT.of hT m)
def Rs (K:PySem.W.Frag)(CB CC CL:Addr)(ts:List Tb):Sp:=fun vs H Q _=>∃ (x:Addr) (ds:List Nat) (k:Nat),vs=[.ref x,.int k]/\Fp K CB CC CL H x ds/\Tbs ts H/\k<=ds.length/\∀ H',SmT ts H H'->Q (.int (pre (gsL ds) (k+1):Nat)) H'
theorem Qp {f:Addr}{fd:FuncData}{ts:List Tb}(F:Fun K "down" "Levelled.down" Fu f fd)(T:Txt K mg ae ag ah aa)(Z:Qa K aa)(aZ:Mth P w K mg base ab "place_of" 5 ["self","bit","nth"] (Nc K ab ts)):A4 P w K mg base CX0 6 f fd ["self","number"] (Rs K ad ab aa ts):=by
 refine F.ok M9 (fun vs H Q E h=>?_) (fun cdv A outer s H vs Q E hr h=>?_)
 ·obtain ⟨x,ds,k,rfl,_⟩:=h
  rfl
 ·obtain ⟨x,ds,k,rfl,⟨dx,b,c,s,g,v,w,d,kvs,h⟩,hT,hk,q⟩:=h
  have hC:=h.hc;obtain ⟨dc,t1,u1,hc1,_⟩:=id hC;refine ⟨_,(Af (At (Aj C7 (Gm aZ (hr.mono (by decide:5<=_)) (B0 (pv 0) rfl) (Ag Ae (Ag (pv 1) Ac rfl) rfl)) (pv 1)))),?_⟩;k_is;refine ⟨x,aa,dx,_,.ref c,rfl,h.hx,Z.cl,Z.n_counts,rfl,?_⟩;k_is;refine ⟨c,dc,_,rfl,hc1,rfl,?_⟩;k_is;refine ⟨c,_,false,k,_,rfl,hC,hT,mM (by rw [(Er h.ok).1];omega),fun H1 s1=>?_⟩;k_is;rw [show (((pre (gsL ds) (k+1)+k:Nat):Int)-(k:Int))=((pre (gsL ds) (k+1):Nat):Int) by omega];exact q H1 s1
def stM:St->Nat
 | [_,_,some (.int z)]=>z.toNat
 | _=>0
def gN (K:PySem.W.Frag)(CB CC CL:Addr)(ts:List Tb):Sp:=fun vs H Q _=>∃ (x:Addr) (ds:List Nat) (k:Nat) (st:Int),vs=[.ref x,.int k,.int st]/\Fp K CB CC CL H x ds/\Tbs ts H/\k<=ds.length/\∀ (r:Nat) H',r<=ds.length->SmT ts H H'->Q (.int r) H'
theorem Ql {f:Addr}{fd:FuncData}{ts:List Tb}(F:Fun K "far_down" "Levelled.far_down" Dx f fd)(T:Txt K mg ae ag ah aa)(Z:Qa K aa)(ao:Mth P w K mg base aa "down" 6 ["self","number"] (Rs K ad ab aa ts)):A4 P w K mg base CX0 7 f fd ["self","number","steps"] (gN K ad ab aa ts):=by
 refine F.ok B3 (fun vs H Q E h=>?_) (fun cdv A outer s H vs Q E hr h=>?_)
 ·obtain ⟨x,ds,k,st,rfl,_⟩:=h
  rfl
 ·obtain ⟨x,ds,k,st,rfl,⟨dx,b,c,s,g,v,w,d,kvs,h⟩,hT,hk,q⟩:=h
  refine ⟨_,(Aa (E4 PassesOwn.never (Av Ja (pv 2) Ae (Ay _))
   (Af (Cq (PW.pt (Y6 (Av kP (pv 2) (Bj rfl T.g_MARK_STEP) (Ay _)) (U6 (Av kC (pv 1) (B0 (pv 0) rfl) rfl)))) (Aa (Ao (i:=1) B3.nd rfl (Or.inl rfl) (Bs Fc (Bs cM (B0 (pv 0) rfl) (pv 1) (fun _ _=>rfl)) Ae (fun _ _=>rfl)))
   (Af (Gx (i:=2) B3.nd rfl (Or.inl rfl) (Bj rfl T.g_MARK_STEP) Vw)))
   (Aa (Ao (i:=1) B3.nd rfl (Or.inl rfl) (Gm ao (hr.mono (by decide:6<=_)) (pv 0) (Ag (pv 1) Ac rfl)))
   (Af (Gx (i:=2) B3.nd rfl (Or.inl rfl) Ae Vw))))))
   (Af (At (pv 1)))),?_⟩
  k_is;refine Et (fun σ H'=>∃ (m:Nat) (z:Int),σ=[some (.ref x),some (.int m),some (.int z)]/\m<=ds.length/\SmT ts H H') (fun σ _=>stM σ) ⟨k,st,rfl,hk,SmT.refl hT⟩ ?_;rintro μ σ H1 ⟨m,z,rfl,hm,s1⟩ hμ;have hμ:z.toNat=μ:=hμ;have h1:=h.sm s1;k_is;refine Db (fun hz=>?_) (fun _=>?_)
  ·refine Ht ?_
   k_is;refine Db (fun hz2=>?_) (fun _=>?_)
   ·k_is
    refine ⟨x,aa,dx,_,.ref d,rfl,h1.hx,Z.cl,Z.n_leaps,rfl,?_⟩;refine pR h1.hd ?_
    cases hv:Ge kvs (.inl (m:Int)) with
    | some vv =>
     obtain ⟨t,m2,l2,rfl,ht,hm2⟩:=h1.hl _ _ hv;rw [show (some (V.ref t):Option V).isSome=true from rfl];k_is;refine ⟨x,aa,dx,_,.ref d,rfl,h1.hx,Z.cl,Z.n_leaps,rfl,?_⟩;k_is;refine pI h1.hd hv ?_;k_is;refine Ho (SqT.of ht) (v:=.int m2) rfl ?_;k_is;refine ⟨⟨m2,_,rfl,hm2,s1⟩,?_⟩;show (z-16).toNat<μ;omega
    | none =>
     rw [show (none:Option V).isSome=false from rfl];k_is;refine ⟨x,dx,_,rfl,h1.hx,rfl,?_⟩;k_is;refine ⟨x,ds,m,rfl,⟨dx,b,c,_,_,_,_,d,kvs,h1⟩,s1.ok,hm,fun H2 s2=>?_⟩;k_is;refine ⟨⟨_,_,rfl,X1 h.ok _,s1.trans s2⟩,?_⟩;show (z-1).toNat<μ;omega
   ·k_is
    refine ⟨x,dx,_,rfl,h1.hx,rfl,?_⟩;k_is;refine ⟨x,ds,m,rfl,⟨dx,b,c,_,_,_,_,d,kvs,h1⟩,s1.ok,hm,fun H2 s2=>?_⟩;k_is;refine ⟨⟨_,_,rfl,X1 h.ok _,s1.trans s2⟩,?_⟩;show (z-1).toNat<μ;omega
  ·k_is
   exact q m H1 hm s1
def lbM (n:Nat):St->Nat
 | [_,some (.int m),_]=>n-m.toNat
 | _=>0
def Uz (K:PySem.W.Frag)(CB CC CL:Addr)(ts:List Tb):Sp:=fun vs H Q _=>∃ (x:Addr) (ds:List Nat) (k:Nat),vs=[.ref x,.int k]/\Fp K CB CC CL H x ds/\Tbs ts H/\k<=ds.length/\∀ (r:Int) H',SmT ts H H'->Q (.int r) H'
theorem Qg {f:Addr}{fd:FuncData}{ts:List Tb}(F:Fun K "left_below" "Levelled.left_below" Dh f fd)(T:Txt K mg ae ag ah aa)(Z:Qa K aa)(ao:Mth P w K mg base aa "down" 6 ["self","number"] (Rs K ad ab aa ts)):A4 P w K mg base CX0 7 f fd ["self","number"] (Uz K ad ab aa ts):=by
 refine F.ok B9 (fun vs H Q E h=>?_) (fun cdv A outer s H vs Q E hr h=>?_)
 ·obtain ⟨x,ds,k,rfl,_⟩:=h
  rfl
 ·obtain ⟨x,ds,k,rfl,⟨dx,b,c,s,g,v,w,d,kvs,h⟩,hT,hk,q⟩:=h
  refine ⟨_,(Aa (Ao (i:=2) B9.nd rfl (Or.inl rfl) Ae)
   (Aa (E4 PassesOwn.never (Av Oa (pv 1) (B0 (pv 0) rfl) (Ay _))
   (Aa (Cq (Av kC (pv 1) (B0 (pv 0) rfl) rfl) (Af (At (Aj Bd (pv 2) (Bs Fc (Bs cM (B0 (pv 0) rfl) (pv 1) (fun _ _=>rfl)) Ae (fun _ _=>rfl)))))
   Bb)
   (Aa (Ao (i:=1) B9.nd rfl (Or.inl rfl) (Gm ao (hr.mono (by decide:6<=_)) (pv 0) (Ag (pv 1) Ac rfl)))
   (Af (Gx (i:=2) B9.nd rfl (Or.inl rfl) (Aj C7 (B0 (pv 0) rfl) (pv 1)) Lk)))))
   (Af (At (pv 2))))),?_⟩
  k_is;refine Et (fun σ H'=>∃ (m:Nat) (z:Int),σ=[some (.ref x),some (.int m),some (.int z)]/\m<=ds.length/\SmT ts H H') (fun σ _=>lbM ds.length σ) ⟨k,0,rfl,hk,SmT.refl hT⟩ ?_;rintro μ σ H1 ⟨m,z,rfl,hm,s1⟩ hμ;have hμ:ds.length-(m:Int).toNat=μ:=hμ;have h1:=h.sm s1;k_is;refine ⟨x,aa,dx,_,_,rfl,h1.hx,Z.cl,Z.n_knots,rfl,?_⟩;k_is;refine Db (fun hz=>?_) (fun _=>?_)
  ·refine Ht ?_
   k_is;refine ⟨x,aa,dx,_,.ref d,rfl,h1.hx,Z.cl,Z.n_leaps,rfl,?_⟩;refine pR h1.hd ?_
   cases hv:Ge kvs (.inl (m:Int)) with
   | some vv =>
    obtain ⟨t,m2,l2,rfl,ht,hm2⟩:=h1.hl _ _ hv;rw [show (some (V.ref t):Option V).isSome=true from rfl];k_is;refine ⟨x,aa,dx,_,.ref d,rfl,h1.hx,Z.cl,Z.n_leaps,rfl,?_⟩;k_is;refine pI h1.hd hv ?_;k_is;refine Ho (SqT.of ht) (v:=.int l2) rfl ?_;k_is;exact q _ H1 s1
   | none =>
    rw [show (none:Option V).isSome=false from rfl];k_is;refine ⟨x,dx,_,rfl,h1.hx,rfl,?_⟩;k_is;refine ⟨x,ds,m,rfl,⟨dx,b,c,_,_,_,_,d,kvs,h1⟩,s1.ok,hm,fun H2 s2=>?_⟩;k_is;refine ⟨x,aa,dx,_,_,rfl,s2.k h1.hx,Z.cl,Z.n_knots,rfl,?_⟩;k_is;refine ⟨⟨_,_,rfl,X1 h.ok _,s1.trans s2⟩,?_⟩;have:=mQ h.ok (k:=m) (by omega);show ds.length-((pre (gsL ds) (m+1):Nat):Int).toNat<μ;omega
  ·k_is
   exact q z H1 s1
def Zv (K:PySem.W.Frag)(CB CC CL:Addr)(ts:List Tb):Sp:=fun vs H Q _=>∃ (x l dx b c d:Addr) (ds es:List Nat) (s g v w:V),vs=[.ref x,.ref l]/\Oc K CB CC CL H x ds dx b c s g v w d []/\H l=some (.lst (nV es))/\es.length=ds.length/\Tbs ts H/\∀ kvs H',SmB ts d H H'->Oc K CB CC CL H' x ds dx b c s g v w d kvs->Q .non H'
theorem Qi {f:Addr}{fd:FuncData}{ts:List Tb}(F:Fun K "mark_leaps" "Levelled.mark_leaps" Di f fd)(T:Txt K mg ae ag ah aa)(Z:Qa K aa)(ba:Cal P w K mg base "thin_rest" 1 ["depths"] Yu)(be:Mth P w K mg base aa "far_down" 7 ["self","number","steps"] (gN K ad ab aa ts))(bf:Mth P w K mg base aa "left_below" 7 ["self","number"] (Uz K ad ab aa ts)):A4 P w K mg base CX0 8 f fd ["self","depths"] (Zv K ad ab aa ts):=by
 refine F.ok C6 (fun vs H Q E h=>?_) (fun cdv A outer s H vs Q E hr h=>?_)
 ·obtain ⟨x,l,dx,b,c,d,ds,es,s,g,v,w,rfl,_⟩:=h
  rfl
 ·obtain ⟨x,l,dx,b,c,d,ds,es,s,g,v,w,rfl,h,hl,he,hT,q⟩:=h
  have hn:=h.few;have nx:x≠d:=D8 h.hx h.hd (by intro z;cases z);have nl:l≠d:=D8 hl h.hd (by intro z;cases z);have nb:b≠d:=by
   obtain ⟨_,_,hb1,_⟩:=h.hb;exact D8 hb1 h.hd (by intro z;cases z)
  have nc:c≠d:=by
   obtain ⟨_,_,_,hc1,_⟩:=h.hc;exact D8 hc1 h.hd (by intro z;cases z)
  refine ⟨_,(Aa (Ao (i:=2) C6.nd rfl (Or.inl rfl) (A6 ba (hr.mono (by decide:1<=_)) (Ag (pv 1) Ac rfl)))
   (Af (Dy PassesOwn.never rfl (Ny rfl T.n_range (Ag (Aj C7 (B0 (pv 0) rfl) Ae) (Ag (Dw Cg Ae) (Ag (Dw Cg Ae) Ac rfl) rfl) rfl)) (Bc (i:=3) C6.nd rfl (Or.inl rfl))
   (Af (Cq (Av G6 (Aj Cu (Bs Bt (pv 1) (pv 3) (fun _ _=>rfl)) (Bj rfl T.g_MARK_STEP)) (pv 2) (Ay _)) (Af (Rm (Vi (Ag (Gm be (hr.mono (by decide:7<=_)) (pv 0) (Ag (pv 3) (Ag (Bj rfl T.g_MARK_STEP) Ac rfl) rfl)) (Ag (Gm bf (hr.mono (by decide:7<=_)) (pv 0) (Ag (pv 3) Ac rfl)) Ac rfl) rfl)) (Uy (B0 (pv 0) rfl) (pv 3) gG)))
   Bb))))),?_⟩
  k_is;refine ⟨l,es,rfl,hl,by omega,fun r H1 hr1 s1=>?_⟩;have h1:=h.sm (SmT.of hT s1);k_is;refine ⟨x,aa,dx,_,_,rfl,h1.hx,Z.cl,Z.n_knots,rfl,?_⟩;k_is;refine ⟨(ds.length:Int)-1,-1,rfl,⟨by omega,by omega,by omega,by omega⟩,?_⟩;rw [show ((ds.length:Int)-1 - -1).toNat=ds.length by omega];refine Tk (fun i σ H'=>(∃ v3:Option V,σ=[some (.ref x),some (.ref l),some (.int r),v3])/\SmB ts d H H'/\∃ kvs,kvs.length<=i/\Oc K ad ab aa H' x ds dx b c s g v w d kvs) ⟨⟨_,rfl⟩,(SmB.refl hT).then s1,[],Nat.le_refl _,h1⟩ ?_ ?_
  ·rintro i σ H2 hi ⟨⟨v3,rfl⟩,s2,kvs,hkl,h2⟩
   obtain ⟨k,hk⟩:∃ k:Nat,(ds.length:Int)-1+(i:Int) * -1=(k:Int):=⟨ds.length-1-i,by omega⟩;rw [hk];have hkn:k<es.length:=by omega
   k_is;refine Cw (SqL.of (s2.k hl nl)) (v:=.int (es[k]:Nat)) (Bh (bR (List.getElem?_eq_getElem hkn))) ?_;k_is;refine Db (fun _=>?_) (fun _=>?_)
   ·k_is
    refine ⟨x,dx,_,rfl,h2.hx,rfl,?_⟩;k_is;refine ⟨x,ds,k,_,rfl,⟨_,_,_,_,_,_,_,_,_,h2⟩,s2.ok,by omega,fun m H3 hm s3=>?_⟩;have h3:=h2.sm s3;k_is;refine ⟨x,dx,_,rfl,h3.hx,rfl,?_⟩;k_is;refine ⟨x,ds,k,rfl,⟨_,_,_,_,_,_,_,_,_,h3⟩,s3.ok,by omega,fun lb H4 s4=>?_⟩;have h4:=h3.sm s4;have s24:=(s2.sm s3).sm s4;k_is;refine ⟨few (by simp),fun t ht=>?_⟩;have ut:=Ah (o:=.tup [V.int (m:Int),V.int lb]) ht;have ht1:upd H4 t (.tup [V.int (m:Int),V.int lb]) t=some (.tup [V.int (m:Int),V.int lb]):=Ab;have h5:=h4.sm (SmT.of s24.ok ut);have s25:=s24.then ut;generalize upd H4 t (.tup [V.int (m:Int),V.int lb])=H5 at *;k_is;refine ⟨x,aa,dx,_,.ref d,rfl,h5.hx,Z.cl,Z.n_leaps,rfl,?_⟩;k_is;refine sG h5.hd (Al (by omega)) ?_;have s26:SmB ts d H (upd H5 d (.dK (Nb kvs (.inl (k:Int)) (.ref t)))):=s25.put h5.hd;have s56:SmB ts d H5 (upd H5 d (.dK (Nb kvs (.inl (k:Int)) (.ref t)))):=(SmB.refl s25.ok).put h5.hd;refine ⟨⟨_,rfl⟩,s26,Nb kvs (.inl (k:Int)) (.ref t),Nat.le_trans (Ob kvs _ _) (by omega),?_⟩;refine ⟨s56.k h5.hx nx,h5.hb.keep (s56.kp h5.hd nb),h5.hc.keep (s56.kp h5.hd nc),Ab,fun y vv e=>?_,h.ok,h.few⟩;rw [lZ] at e;have kt:∀ {a:Addr} {xs:List V},H5 a=some (.tup xs)->upd H5 d (.dK (Nb kvs (.inl (k:Int)) (.ref t))) a=some (.tup xs):=fun {a xs} e=>s56.k e (D8 e h5.hd (by intro z;cases z));split at e
    ·obtain rfl:=Option.some.inj e
     exact ⟨t,m,lb,rfl,kt ht1,hm⟩
    ·obtain ⟨t2,m2,l2,e1,e2,e3⟩:=h5.hl _ _ e
     exact ⟨t2,m2,l2,e1,kt e2,e3⟩
   ·k_is
    exact ⟨⟨_,rfl⟩,s2,kvs,by omega,h2⟩
  ·rintro σ H2 ⟨⟨v3,rfl⟩,s2,kvs,_,h2⟩
   exact q kvs H2 s2 h2
def Ur (K:PySem.W.Frag)(CB CC CL:Addr)(ts:List Tb):Sp:=fun vs H Q _=>∃ (x dx a:Addr) (ds:List Nat),vs=[.ref x,.ref a]/\H x=some (.ins CL dx [])/\H a=some (.lst ((Au ds).map V.int))/\Dok ds/\ds.length<3000/\Tbs ts H/\∀ H',SmB ts x H H'->Fp K CB CC CL H' x ds->Q .non H'
theorem fE {ns:List Int}{y:Int}(h:y∈As ltJ ns):y∈ns:=(Cn (lt:=ltJ) ns).mem_iff.mp h
theorem Z1 (ds:List Nat):∃ es:List Nat,(As ltJ (iN ds)).map V.int=nV es/\es.length=ds.length:=by
 refine ⟨(As ltJ (iN ds)).map Int.toNat,?_,by rw [List.length_map,Cz,List.length_map]⟩;unfold nV;rw [List.map_map];refine List.map_congr_left fun y hy=>?_;obtain ⟨n,_,rfl⟩:=List.mem_map.mp (fE hy);rfl
theorem Qq {f:Addr}{fd:FuncData}{ts:List Tb}(F:Fun K "__init__" "Levelled.__init__" Fx f fd)(T:Txt K mg ae ag ah aa)(Z:Qa K aa)(bg:Cal P w K mg base "look_at" 2 ["elders"] Zu)(bh:Cal P w K mg base "depths_of" 1 ["elders"] Rr)(bi:Cal P w K mg base "level_order" 2 ["depths"] (Nz ts))(ax:Mkr P w K mg base "Bits" ad 3 ["self","text"] (Ih K ad))(bj:Cal P w K mg base "level_row" 2 ["elders","order"] Lo)(av:Mkr P w K mg base "Counts" ab 3 ["self","bits"] (Fz K ad ab))(bn:kI P w K mg base "Shortcuts" ai 4 ["self","order","step"] (Me ai) [.int 16])(bo:Cal P w K mg base "begins_of" 5 ["things"] (Lu K ab))(bp:Cal P w K mg base "widest_of" 1 ["depths"] P1)(bq:Mth P w K mg base aa "mark_leaps" 8 ["self","depths"] (Zv K ad ab aa ts)):A4 P w K mg base CX0 9 f fd ["self","elders"] (Ur K ad ab aa ts):=by
 refine F.ok Dv (fun vs H Q E h=>?_) (fun cdv A outer s H vs Q E hr h=>?_)
 ·obtain ⟨x,dx,a,ds,rfl,_⟩:=h
  rfl
 ·obtain ⟨x,dx,a,ds,rfl,hx,ha,hD,hn,hT,q⟩:=h
  have hgl:=Er hD;have hel:(Au ds).length=ds.length:=Bn ds;have nlx:∀ {H:Hp} {l:Addr} {xs:List V} {fs:List (Str×V)},H x=some (.ins aa dx fs)->H l=some (.lst xs)->l≠x:=fun h1 h2=>D8 h2 h1 (by intro z;cases z);refine ⟨_,(Aa (Ao (i:=2) Dv.nd rfl (Or.inl rfl) (A6 bg (hr.mono (by decide:2<=_)) (Ag (pv 1) Ac rfl)))
   (Aa (Ao (i:=3) Dv.nd rfl (Or.inl rfl) (A6 bh (hr.mono (by decide:1<=_)) (Ag (pv 2) Ac rfl)))
   (Aa (Ao (i:=4) Dv.nd rfl (Or.inl rfl) (A6 bi (hr.mono (by decide:2<=_)) (Ag (pv 3) Ac rfl)))
   (Aa (D7 (pv 0) (Ap Ar (by rfl) T.n_len Cc (Ag (pv 2) Ac rfl)) rfl)
   (Aa (D7 (pv 0) (Pn ax (hr.mono (by decide:4<=_)) (Ag (A6 bj (hr.mono (by decide:2<=_)) (Ag (pv 2) (Ag (pv 4) Ac rfl) rfl)) Ac rfl)) rfl)
   (Aa (D7 (pv 0) (Pn av (hr.mono (by decide:4<=_)) (Ag (B0 (pv 0) rfl) Ac rfl)) rfl)
   (Aa (D7 (pv 0) (mE bn (hr.mono (by decide:5<=_)) sE (Ag (pv 4) Ac rfl)) rfl)
   (Aa (D7 (pv 0) (A6 bo (hr.mono (by decide:5<=_)) (Ag (Ap Mm (by rfl) T.n_sorted Pp (Ag (pv 3) Ac rfl)) Ac rfl)) rfl)
   (Aa (D7 (pv 0) (Aj Bd (eX (eT rfl) (by rfl) T.n_max cO (Ag (pv 3) Ac rfl) (oH (Dw Cg Ae) sT)) Ae) rfl)
   (Aa (D7 (pv 0) (A6 bp (hr.mono (by decide:1<=_)) (Ag (pv 3) Ac rfl)) rfl)
   (Aa (D7 (pv 0) bO rfl)
   (Af (Bk (Gm bq (hr.mono (by decide:8<=_)) (pv 0) (Ag (Ap Mm (by rfl) T.n_sorted Pp (Ag (pv 3) Ac rfl)) Ac rfl))))))))))))))),?_⟩
  k_is;refine ⟨a,ds,rfl,ha,hD,by omega,fun l1 H1 s1 hl1=>?_⟩;k_is;refine ⟨l1,ds,rfl,hl1,hD,by omega,fun l2 H2 s2 hl2=>?_⟩;have hT2:=(hT.same s1).same s2;k_is;refine ⟨l2,ds,rfl,hl2,by omega,hT2,fun l3 H3 s3 _ hl3=>?_⟩;have b3:SmB ts x H H3:=(((SmB.refl hT).then s1).then s2).sm s3;have hx3:H3 x=some (.ins aa dx []):=s3.k (s2 _ _ (s1 _ _ hx));have i3:H3 l1=some (.lst ((Au ds).map V.int)):=s3.k (s2 _ _ hl1);have r3:=hl3;have j3:H3 l2=some (.lst (nV ds)):=s3.k hl2;k_is;refine ⟨l1,_,rfl,.inl (SqL.of i3),?_⟩;rw [List.length_map,hel];k_is;refine Cs hx3 Z.cl Z.n_knots (show 0<1000 by decide) ?_;rw [show D0 ("knots":Str) (V.int (ds.length:Nat)) []=([("knots",.int (ds.length:Nat))]:List (Str×V)) from rfl];have hx4:upd H3 x (.ins aa dx [("knots",.int (ds.length:Nat))]) x=some (.ins aa dx [("knots",.int (ds.length:Nat))]):=Ab;have b4:SmB ts x H (upd H3 x (.ins aa dx [("knots",.int (ds.length:Nat))])):=b3.put hx3;have k4:SmB ts x H3 (upd H3 x (.ins aa dx [("knots",.int (ds.length:Nat))])):=(SmB.refl b3.ok).put hx3;have i4:=k4.k i3 (nlx hx3 i3);have j4:=k4.k j3 (nlx hx3 j3);have r4:=k4.k r3 (nlx hx3 r3);generalize upd H3 x (.ins aa dx [("knots",.int (ds.length:Nat))])=H4 at *;k_is;refine ⟨l1,l3,ds,rfl,i4,r4,hD,by omega,fun H5 s5=>?_⟩;have hx5:=s5 _ _ hx4;have b5:=b4.then s5;have j5:=s5 _ _ j4;have r5:=s5 _ _ r4;k_is;intro b db hb hdb hbd;have nbx:b≠x:=(Ak hx5 hb).symm;refine ⟨b,db,grB (gsL ds),rfl,Ab,by rw [U8];omega,fun H6 s6 hB6=>⟨rfl,?_⟩⟩;have s6:=He hb hdb s6;have hx6:=s6 _ _ hx5;have b6:=b5.then s6;have j6:=s6 _ _ j5;have r6:=s6 _ _ r5;k_is;refine Cs hx6 Z.cl Z.n_bits (show 1<1000 by decide) ?_;rw [show D0 ("bits":Str) (V.ref b) [("knots",.int (ds.length:Nat))]=([("knots",.int (ds.length:Nat)),("bits",.ref b)]:List (Str×V)) from rfl];have hx7:upd H6 x (.ins aa dx [("knots",.int (ds.length:Nat)),("bits",.ref b)]) x=some (.ins aa dx [("knots",.int (ds.length:Nat)),("bits",.ref b)]):=Ab;have b7:SmB ts x H (upd H6 x (.ins aa dx [("knots",.int (ds.length:Nat)),("bits",.ref b)])):=b6.put hx6;have k7:SmB ts x H6 (upd H6 x (.ins aa dx [("knots",.int (ds.length:Nat)),("bits",.ref b)])):=(SmB.refl b6.ok).put hx6;have j7:=k7.k j6 (nlx hx6 j6);have r7:=k7.k r6 (nlx hx6 r6);have hB7:=hB6.keep (k7.kp hx6 nbx);generalize upd H6 x (.ins aa dx [("knots",.int (ds.length:Nat)),("bits",.ref b)])=H7 at *;k_is;refine ⟨x,aa,dx,_,.ref b,rfl,hx7,Z.cl,Z.n_bits,rfl,?_⟩;k_is;intro c dc hc hdc hcd;have ncx:c≠x:=(Ak hx7 hc).symm;refine ⟨c,dc,b,_,rfl,Ab,(hB7.keep fun c u _ _ e=>E5 hc hdc _ _ e),fun H8 s8 hC8=>⟨rfl,?_⟩⟩;have s8:=He hc hdc s8;have hx8:=s8 _ _ hx7;have b8:=b7.then s8;have j8:=s8 _ _ j7;have r8:=s8 _ _ r7;have hB8:=hB7.keep (SmT.of b7.ok s8).kp;k_is;refine Cs hx8 Z.cl Z.n_counts (show 2<1000 by decide) ?_;rw [show D0 ("counts":Str) (V.ref c) [("knots",.int (ds.length:Nat)),("bits",.ref b)]=([("knots",.int (ds.length:Nat)),("bits",.ref b),("counts",.ref c)]:List (Str×V)) from rfl];have hx9:upd H8 x (.ins aa dx [("knots",.int (ds.length:Nat)),("bits",.ref b),("counts",.ref c)]) x=some (.ins aa dx [("knots",.int (ds.length:Nat)),("bits",.ref b),("counts",.ref c)]):=Ab;have b9:SmB ts x H (upd H8 x (.ins aa dx [("knots",.int (ds.length:Nat)),("bits",.ref b),("counts",.ref c)])):=b8.put hx8;have k9:SmB ts x H8 (upd H8 x (.ins aa dx [("knots",.int (ds.length:Nat)),("bits",.ref b),("counts",.ref c)])):=(SmB.refl b8.ok).put hx8;have j9:=k9.k j8 (nlx hx8 j8);have r9:=k9.k r8 (nlx hx8 r8);have hB9:=hB8.keep (k9.kp hx8 nbx);have hC9:=hC8.keep (k9.kp hx8 ncx);generalize upd H8 x (.ins aa dx [("knots",.int (ds.length:Nat)),("bits",.ref b),("counts",.ref c)])=H9 at *;k_is;intro sx dsx hsx hdsx hsxd;refine ⟨sx,dsx,l3,_,16,rfl,Ab,E5 hsx hdsx _ _ r9,fK ds,by rw [List.length_map,Fn];omega,by decide,fun H10 s10=>⟨rfl,?_⟩⟩;have s10:=He hsx hdsx s10;have hx10:=s10 _ _ hx9;have b10:=b9.then s10;have j10:=s10 _ _ j9;have hB10:=hB9.keep (SmT.of b9.ok s10).kp;have hC10:=hC9.keep (SmT.of b9.ok s10).kp;k_is;refine Cs hx10 Z.cl Z.n_places (show 3<1000 by decide) ?_;rw [show D0 ("places":Str) (V.ref sx) [("knots",.int (ds.length:Nat)),("bits",.ref b),("counts",.ref c)]=([("knots",.int (ds.length:Nat)),("bits",.ref b),("counts",.ref c),("places",.ref sx)]:List (Str×V)) from rfl];have hx11:upd H10 x (.ins aa dx [("knots",.int (ds.length:Nat)),("bits",.ref b),("counts",.ref c),("places",.ref sx)]) x=some (.ins aa dx [("knots",.int (ds.length:Nat)),("bits",.ref b),("counts",.ref c),("places",.ref sx)]):=Ab;have b11:SmB ts x H (upd H10 x (.ins aa dx [("knots",.int (ds.length:Nat)),("bits",.ref b),("counts",.ref c),("places",.ref sx)])):=b10.put hx10;have k11:SmB ts x H10 (upd H10 x (.ins aa dx [("knots",.int (ds.length:Nat)),("bits",.ref b),("counts",.ref c),("places",.ref sx)])):=(SmB.refl b10.ok).put hx10;have j11:=k11.k j10 (nlx hx10 j10);have hB11:=hB10.keep (k11.kp hx10 nbx);have hC11:=hC10.keep (k11.kp hx10 ncx);generalize upd H10 x (.ins aa dx [("knots",.int (ds.length:Nat)),("bits",.ref b),("counts",.ref c),("places",.ref sx)])=H11 at *;obtain ⟨es,he1,he2⟩:=Z1 ds;k_is;refine ⟨l2,iN ds,rfl,by rw [<- S1];exact SqL.of j11,fun q1 hq1=>?_⟩;rw [he1];have s12:=Ah (o:=.lst (nV es)) hq1;have hq12:upd H11 q1 (.lst (nV es)) q1=some (.lst (nV es)):=Ab;generalize upd H11 q1 (.lst (nV es))=H12 at *;have hx12:=s12 _ _ hx11;have b12:=b11.then s12;have j12:=s12 _ _ j11;have hB12:=hB11.keep (SmT.of b11.ok s12).kp;have hC12:=hC11.keep (SmT.of b11.ok s12).kp;k_is;refine ⟨q1,es,rfl,hq12,by omega,fun g H13 s13 _ _=>?_⟩;have hx13:=s13 _ _ hx12;have b13:=b12.then s13;have j13:=s13 _ _ j12;have hB13:=hB12.keep (SmT.of b12.ok s13).kp;have hC13:=hC12.keep (SmT.of b12.ok s13).kp;k_is;refine Cs hx13 Z.cl Z.n_begins (show 4<1000 by decide) ?_;rw [show D0 ("begins":Str) (V.ref g) [("knots",.int (ds.length:Nat)),("bits",.ref b),("counts",.ref c),("places",.ref sx)]=([("knots",.int (ds.length:Nat)),("bits",.ref b),("counts",.ref c),("places",.ref sx),("begins",.ref g)]:List (Str×V)) from rfl];have hx14:upd H13 x (.ins aa dx [("knots",.int (ds.length:Nat)),("bits",.ref b),("counts",.ref c),("places",.ref sx),("begins",.ref g)]) x=some (.ins aa dx [("knots",.int (ds.length:Nat)),("bits",.ref b),("counts",.ref c),("places",.ref sx),("begins",.ref g)]):=Ab;have b14:SmB ts x H (upd H13 x (.ins aa dx [("knots",.int (ds.length:Nat)),("bits",.ref b),("counts",.ref c),("places",.ref sx),("begins",.ref g)])):=b13.put hx13;have k14:SmB ts x H13 (upd H13 x (.ins aa dx [("knots",.int (ds.length:Nat)),("bits",.ref b),("counts",.ref c),("places",.ref sx),("begins",.ref g)])):=(SmB.refl b13.ok).put hx13;have j14:=k14.k j13 (nlx hx13 j13);have hB14:=hB13.keep (k14.kp hx13 nbx);have hC14:=hC13.keep (k14.kp hx13 ncx);generalize upd H13 x (.ins aa dx [("knots",.int (ds.length:Nat)),("bits",.ref b),("counts",.ref c),("places",.ref sx),("begins",.ref g)])=H14 at *;k_is;refine rB (ns:=iN ds) (by rw [<- S1];exact SqL.of j14) fun mm _ _=>?_;k_is;refine Cs hx14 Z.cl Z.n_level_count (show 5<1000 by decide) ?_;rw [show D0 ("level_count":Str) (V.int (mm+1)) [("knots",.int (ds.length:Nat)),("bits",.ref b),("counts",.ref c),("places",.ref sx),("begins",.ref g)]=([("knots",.int (ds.length:Nat)),("bits",.ref b),("counts",.ref c),("places",.ref sx),("begins",.ref g),("level_count",.int (mm+1))]:List (Str×V)) from rfl];have hx15:upd H14 x (.ins aa dx [("knots",.int (ds.length:Nat)),("bits",.ref b),("counts",.ref c),("places",.ref sx),("begins",.ref g),("level_count",.int (mm+1))]) x=some (.ins aa dx [("knots",.int (ds.length:Nat)),("bits",.ref b),("counts",.ref c),("places",.ref sx),("begins",.ref g),("level_count",.int (mm+1))]):=Ab;have b15:SmB ts x H (upd H14 x (.ins aa dx [("knots",.int (ds.length:Nat)),("bits",.ref b),("counts",.ref c),("places",.ref sx),("begins",.ref g),("level_count",.int (mm+1))])):=b14.put hx14;have k15:SmB ts x H14 (upd H14 x (.ins aa dx [("knots",.int (ds.length:Nat)),("bits",.ref b),("counts",.ref c),("places",.ref sx),("begins",.ref g),("level_count",.int (mm+1))])):=(SmB.refl b14.ok).put hx14;have j15:=k15.k j14 (nlx hx14 j14);have hB15:=hB14.keep (k15.kp hx14 nbx);have hC15:=hC14.keep (k15.kp hx14 ncx);generalize upd H14 x (.ins aa dx [("knots",.int (ds.length:Nat)),("bits",.ref b),("counts",.ref c),("places",.ref sx),("begins",.ref g),("level_count",.int (mm+1))])=H15 at *;k_is;refine ⟨l2,ds,rfl,j15,hD,by omega,fun wv H16 s16=>?_⟩;have hx16:=s16 _ _ hx15;have b16:=b15.then s16;have j16:=s16 _ _ j15;have hB16:=hB15.keep (SmT.of b15.ok s16).kp;have hC16:=hC15.keep (SmT.of b15.ok s16).kp;k_is;refine Cs hx16 Z.cl Z.n_widest_level (show 6<1000 by decide) ?_;rw [show D0 ("widest_level":Str) wv [("knots",.int (ds.length:Nat)),("bits",.ref b),("counts",.ref c),("places",.ref sx),("begins",.ref g),("level_count",.int (mm+1))]=([("knots",.int (ds.length:Nat)),("bits",.ref b),("counts",.ref c),("places",.ref sx),("begins",.ref g),("level_count",.int (mm+1)),("widest_level",wv)]:List (Str×V)) from rfl];have hx17:upd H16 x (.ins aa dx [("knots",.int (ds.length:Nat)),("bits",.ref b),("counts",.ref c),("places",.ref sx),("begins",.ref g),("level_count",.int (mm+1)),("widest_level",wv)]) x=some (.ins aa dx [("knots",.int (ds.length:Nat)),("bits",.ref b),("counts",.ref c),("places",.ref sx),("begins",.ref g),("level_count",.int (mm+1)),("widest_level",wv)]):=Ab;have b17:SmB ts x H (upd H16 x (.ins aa dx [("knots",.int (ds.length:Nat)),("bits",.ref b),("counts",.ref c),("places",.ref sx),("begins",.ref g),("level_count",.int (mm+1)),("widest_level",wv)])):=b16.put hx16;have k17:SmB ts x H16 (upd H16 x (.ins aa dx [("knots",.int (ds.length:Nat)),("bits",.ref b),("counts",.ref c),("places",.ref sx),("begins",.ref g),("level_count",.int (mm+1)),("widest_level",wv)])):=(SmB.refl b16.ok).put hx16;have j17:=k17.k j16 (nlx hx16 j16);have hB17:=hB16.keep (k17.kp hx16 nbx);have hC17:=hC16.keep (k17.kp hx16 ncx);generalize upd H16 x (.ins aa dx [("knots",.int (ds.length:Nat)),("bits",.ref b),("counts",.ref c),("places",.ref sx),("begins",.ref g),("level_count",.int (mm+1)),("widest_level",wv)])=H17 at *;k_is;intro d hd;have dnH:H d=none:=b17.free hx17 hd;have ndx:d≠x:=(Ak hx17 hd).symm;have s18:=Ah (o:=.dK []) hd;have hd18:upd H17 d (.dK []) d=some (.dK []):=Ab;generalize upd H17 d (.dK [])=H18 at *;have hx18:=s18 _ _ hx17;have b18:=b17.then s18;have j18:=s18 _ _ j17;have hB18:=hB17.keep (SmT.of b17.ok s18).kp;have hC18:=hC17.keep (SmT.of b17.ok s18).kp;k_is;refine Cs hx18 Z.cl Z.n_leaps (show 7<1000 by decide) ?_;rw [show D0 ("leaps":Str) (V.ref d) [("knots",.int (ds.length:Nat)),("bits",.ref b),("counts",.ref c),("places",.ref sx),("begins",.ref g),("level_count",.int (mm+1)),("widest_level",wv)]=([("knots",.int (ds.length:Nat)),("bits",.ref b),("counts",.ref c),("places",.ref sx),("begins",.ref g),("level_count",.int (mm+1)),("widest_level",wv),("leaps",.ref d)]:List (Str×V)) from rfl];have hx19:upd H18 x (.ins aa dx [("knots",.int (ds.length:Nat)),("bits",.ref b),("counts",.ref c),("places",.ref sx),("begins",.ref g),("level_count",.int (mm+1)),("widest_level",wv),("leaps",.ref d)]) x=some (.ins aa dx [("knots",.int (ds.length:Nat)),("bits",.ref b),("counts",.ref c),("places",.ref sx),("begins",.ref g),("level_count",.int (mm+1)),("widest_level",wv),("leaps",.ref d)]):=Ab;have b19:SmB ts x H (upd H18 x (.ins aa dx [("knots",.int (ds.length:Nat)),("bits",.ref b),("counts",.ref c),("places",.ref sx),("begins",.ref g),("level_count",.int (mm+1)),("widest_level",wv),("leaps",.ref d)])):=b18.put hx18;have k19:SmB ts x H18 (upd H18 x (.ins aa dx [("knots",.int (ds.length:Nat)),("bits",.ref b),("counts",.ref c),("places",.ref sx),("begins",.ref g),("level_count",.int (mm+1)),("widest_level",wv),("leaps",.ref d)])):=(SmB.refl b18.ok).put hx18;have j19:=k19.k j18 (nlx hx18 j18);have hB19:=hB18.keep (k19.kp hx18 nbx);have hC19:=hC18.keep (k19.kp hx18 ncx);have hd19:=k19.k hd18 ndx;generalize upd H18 x (.ins aa dx [("knots",.int (ds.length:Nat)),("bits",.ref b),("counts",.ref c),("places",.ref sx),("begins",.ref g),("level_count",.int (mm+1)),("widest_level",wv),("leaps",.ref d)])=H19 at *;k_is;refine ⟨x,dx,_,rfl,hx19,rfl,?_⟩;k_is;refine ⟨l2,iN ds,rfl,by rw [<- S1];exact SqL.of j19,fun q2 hq2=>?_⟩;rw [he1];have s20:=Ah (o:=.lst (nV es)) hq2;have hq20:upd H19 q2 (.lst (nV es)) q2=some (.lst (nV es)):=Ab;have hd20:=s20 _ _ hd19;generalize upd H19 q2 (.lst (nV es))=H20 at *;have hx20:=s20 _ _ hx19;have b20:=b19.then s20;have hB20:=hB19.keep (SmT.of b19.ok s20).kp;have hC20:=hC19.keep (SmT.of b19.ok s20).kp;k_is;have hL:Oc K ad ab aa H20 x ds dx b c (.ref sx) (.ref g) (.int (mm+1)) wv d []:=⟨hx20,hB20,hC20,hd20,(fun k v e=>by cases e),hD,hn⟩;refine ⟨x,q2,dx,b,c,d,ds,es,_,_,_,_,rfl,hL,hq20,he2,b20.ok,fun kvs H21 s21 h21=>?_⟩;exact q H21 (b20.new s21 dnH) ⟨_,_,_,_,_,_,_,_,_,h21⟩
def Pg (K:PySem.W.Frag)(CB CC CL:Addr):Sp:=fun vs H Q _=>∃ (x:Addr) (ds:List Nat),vs=[.ref x]/\Fp K CB CC CL H x ds/\Q (.int (ds.length:Nat)) H
theorem Qh {f:Addr}{fd:FuncData}(F:Fun K "many_knots" "Levelled.many_knots" Dk f fd)(T:Txt K mg ae ag ah aa)(Z:Qa K aa):A4 P w K mg base CX0 1 f fd ["self"] (Pg K ad ab aa):=by
 refine F.ok Hr (fun vs H Q E h=>?_) (fun cdv A outer s H vs Q E hr h=>?_)
 ·obtain ⟨x,l,rfl,_⟩:=h
  rfl
 ·obtain ⟨x,ds,rfl,⟨dx,b,c,s,g,v,w,d,kvs,h⟩,q⟩:=h
  refine ⟨_,(Af (At (B0 (pv 0) rfl))),?_⟩;k_is;exact ⟨x,aa,dx,_,_,rfl,h.hx,Z.cl,Z.n_knots,rfl,q⟩
def Zg (K:PySem.W.Frag)(CB CC CL:Addr):Sp:=fun vs H Q _=>∃ (x:Addr) (ds:List Nat),vs=[.ref x]/\Fp K CB CC CL H x ds/\∀ H',Am H H'->Q (.str (Ax (grB (gsL ds)))) H'
theorem Qs {f:Addr}{fd:FuncData}(F:Fun K "row" "Levelled.row" Ga f fd)(T:Txt K mg ae ag ah aa)(Z:Qa K aa)(br:Mth P w K mg base ad "text" 6 ["self"] (Lr K ad)):A4 P w K mg base CX0 7 f fd ["self"] (Zg K ad ab aa):=by
 refine F.ok Oq (fun vs H Q E h=>?_) (fun cdv A outer s H vs Q E hr h=>?_)
 ·obtain ⟨x,l,rfl,_⟩:=h
  rfl
 ·obtain ⟨x,ds,rfl,⟨dx,b,c,s,g,v,w,d,kvs,h⟩,q⟩:=h
  obtain ⟨db,tb,hb1,_⟩:=id h.hb;refine ⟨_,(Af (At (J1 br (hr.mono (by decide:6<=_)) (B0 (pv 0) rfl)))),?_⟩;k_is;refine ⟨x,aa,dx,_,.ref b,rfl,h.hx,Z.cl,Z.n_bits,rfl,?_⟩;k_is;refine ⟨b,db,_,rfl,hb1,rfl,?_⟩;k_is;exact ⟨b,_,rfl,h.hb,q⟩
def wtI (ds:List Nat)(g:Nat):List V:=[.int ((g:Int)-1),.int (eld ds (atO ds g))]
def Lv (H:Hp)(ds:List Nat)(as:List Addr)(W:List Nat):Prop:=as.length=W.length/\∀ (i:Nat) (a:Addr) (g:Nat),as[i]?=some a->W[i]?=some g->H a=some (.tup (wtI ds g))
theorem Lv.keep {H H':Hp}{ds:List Nat}{as:List Addr}{W:List Nat}(h:Lv H ds as W)(k:∀ b xs,H b=some (.tup xs)->H' b=some (.tup xs)):Lv H' ds as W:=⟨h.1,fun i a g h1 h2=>k _ _ (h.2 i a g h1 h2)⟩
theorem Lv.app {H:Hp}{ds:List Nat}{as bs:List Addr}{W U:List Nat}(h:Lv H ds as W)(k:Lv H ds bs U):Lv H ds (as++bs) (W++U):=by
 refine ⟨by rw [List.length_append,List.length_append,h.1,k.1],fun i a g h1 h2=>?_⟩
 by_cases hi:i<as.length
 ·rw [List.getElem?_append_left hi] at h1
  rw [List.getElem?_append_left (by rw [<- h.1];exact hi)] at h2;exact h.2 i a g h1 h2
 ·rw [List.getElem?_append_right (by omega)] at h1
  rw [List.getElem?_append_right (by rw [<- h.1];omega),<- h.1] at h2;exact k.2 _ a g h1 h2
theorem Lv.last {H:Hp}{ds:List Nat}{as:List Addr}{W:List Nat}{g:Nat}(h:Lv H ds as (W++[g])):∃ bs a,as=bs++[a]/\Lv H ds bs W/\H a=some (.tup (wtI ds g)):=by
 have hl:=h.1;rw [List.length_append,List.length_singleton] at hl;have hla:W.length<as.length:=by omega
 have e:as=as.take W.length++[as[W.length]]:=by
  have:=(List.take_append_drop W.length as).symm;rw [List.drop_eq_getElem_cons hla,List.drop_of_length_le (by omega)] at this;exact this
 refine ⟨as.take W.length,as[W.length],e,⟨by rw [List.length_take];omega,fun i a g' h1 h2=>?_⟩,?_⟩
 ·have hi:=En h2
  rw [List.getElem?_take_of_lt hi] at h1;exact h.2 i a g' h1 (by rw [List.getElem?_append_left hi];exact h2)
 ·exact h.2 W.length _ g (List.getElem?_eq_getElem hla) (by rw [List.getElem?_append_right (Nat.le_refl _),Nat.sub_self];rfl)
def wL (ds:List Nat)(k:Nat):List Nat:=(lvN (gsL ds) (k+1)).2
theorem cH (ds:List Nat):wL ds 0=(F6 (pre (gsL ds) 1) 0).reverse:=by
 show (lvS (gsL ds) ([],[0])).2=_;unfold lvS;show (F6 (pre (gsL ds) (0+1)) (pre (gsL ds) 0)).reverse++[]=_;rw [List.append_nil];rfl
theorem sO {ds:List Nat}(h:Dok ds):wL ds ds.length=[]:=by
 unfold wL;rw [mW h]
theorem nO {ds:List Nat}(h:Dok ds){k:Nat}(hk:k<ds.length):∃ g w,wL ds k=g::w/\atO ds g=k/\0<g/\g<ds.length+1/\wL ds (k+1)=(F6 (pre (gsL ds) (g+1)) (pre (gsL ds) g)).reverse++w/\∀ u∈F6 (pre (gsL ds) (g+1)) (pre (gsL ds) g),eld ds (atO ds u)=k:=by
 obtain ⟨W,e1,e2,e3⟩:=Pw h k (by omega);rw [Tp h hk] at e2;have hW:wL ds k=W:=by unfold wL;rw [e1]
 cases W with
 | nil=>cases e2
 | cons g w =>
  rw [List.map_cons] at e2;obtain ⟨a1,a2⟩:=List.cons.inj e2;obtain ⟨g0,g1⟩:=e3 g (by simp);refine ⟨g,w,hW,a1,g0,g1,?_,fun u hu=>?_⟩
  ·show (lvS (gsL ds) (lvN (gsL ds) (k+1))).2=_
   rw [e1];rfl
  ·obtain ⟨s1,_⟩:=slots h (g:=g) g1
   obtain ⟨g',rfl⟩:∃ g',g=g'+1:=⟨g-1,by omega⟩;have hL:(Ls ds).getD (g'+1) []=A7 ds ds.length k:=by
    rw [iH (by omega) h];have a1:(lvo ds ds.length ds.length).getD g' 0=k:=a1;rw [a1]
   rw [hL] at s1;have hm:atO ds u∈A7 ds ds.length k:=by
    rw [<- s1];exact List.mem_map.mpr ⟨u,List.mem_reverse.mpr hu,rfl⟩
   exact (Mi.mp hm).2
theorem tJ {ds:List Nat}(h:Dok ds):∀ u∈F6 (pre (gsL ds) 1) 0,eld ds (atO ds u)=-1:=fun u hu=>by
 obtain ⟨W,e1,e2,_⟩:=Pw h 0 (by omega);have hW:wL ds 0=W:=by unfold wL;rw [e1]
 rw [cH] at hW;have hm:atO ds u∈pend ds 0:=by
  rw [<- e2,<- hW];exact List.mem_map.mpr ⟨u,List.mem_reverse.mpr hu,rfl⟩
 rw [Tm h] at hm;exact (Mi.mp hm).2
theorem rL {ds:List Nat}(h:Dok ds){k:Nat}(hk:k<=ds.length):(wL ds k).length<=ds.length:=by
 obtain ⟨W,e1,e2,_⟩:=Pw h k hk;have hW:wL ds k=W:=by unfold wL;rw [e1]
 rw [hW,<- List.length_map (f:=atO ds),e2];unfold pend;exact Nat.le_trans (List.length_filter_le _ _) (by rw [List.length_range];exact Nat.le_refl _)
def fsL (ds:List Nat):List V:=nV ((List.range (ds.length+1)).map fun k=>pre (gsL ds) (k+1))
def Ko (K:PySem.W.Frag)(CB CC CL:Addr)(ts:List Tb):Sp:=fun vs H Q _=>∃ (x:Addr) (ds:List Nat),vs=[.ref x]/\Fp K CB CC CL H x ds/\Tbs ts H/\∀ p H',SmT ts H H'->H p=none->H' p=some (.lst ((Au ds).map V.int))->Q (.ref p) H'
theorem Yg {a b i u:Nat}(h:(F6 a b)[i]?=some u):u=a-i/\i<a-b:=by
 have hi:=En h;rw [L7] at hi;unfold F6 at h;rw [List.getElem?_map,List.getElem?_range hi] at h;exact ⟨(Option.some.inj h).symm,hi⟩
theorem cP {lo:Int}{n:Nat}{H1:Hp}{fr:St}{tc:TT}{te:TE}{Q:VK}(ds:List Nat)(U:List Nat)(hU:U.length=n)(hn:n<=5000)
  (turn:∀ (i:Nat) (g:Nat) H (A:VK) (R:Hp->Prop),U[i]?=some g->Am H1 H->(∀ a,H a=none->A (.ref a) (upd H a (.tup (wtI ds g))))->tc (some (.int (lo+i * -1))::fr) H fun b H3=>if b=true then te (some (.int (lo+i * -1))::fr) H3 A else R H3)
  (fin:∀ D as H,H1 D=none->Am H1 H->Lv H ds as U->H D=some (.lst (as.map V.ref))->Q (.ref D) H):N4 (Pr lo (-1) n) H1 fr tc te Q:=by
 refine Te (fun i ys H=>∃ as:List Addr,ys=as.map V.ref/\Lv H ds as (U.take i)) (fun H _=>⟨[],rfl,rfl,fun i a g h=>by cases h⟩) (fun i ys H D xs o hD ⟨as,e,h⟩=>⟨as,e,h.keep fun b zs hb=>by rw [Ai (D8 hb hD (by intro z;cases z))];exact hb⟩) (fun i ys H hi ⟨as,e,h⟩=>?_) (fun i ys H A R hi s1 ⟨as,e,h⟩ hA=>?_) (fun D ys H hD s1 ⟨as,e,h⟩ hd=>?_)
 ·have:=h.1
  rw [List.length_take] at this;rw [e,List.length_map];exact Al (by omega)
 ·obtain ⟨g,hg⟩:∃ g,U[i]?=some g:=⟨_,List.getElem?_eq_getElem (by omega)⟩
  refine turn i g H A R hg s1 fun a ha=>hA _ _ (Ah ha) ⟨as++[a],by rw [e,List.map_append];rfl,?_⟩;rw [List.take_add_one,hg];refine (h.keep fun b xs hb=>Ah ha _ _ hb).app ⟨rfl,fun j a' g' h1 h2=>?_⟩
  cases j with
  | zero =>
   obtain rfl:a=a':=Option.some.inj h1;obtain rfl:g=g':=Option.some.inj h2;exact Ab
  | succ j=>cases h1
 ·rw [List.take_of_length_le (by omega)] at h
  exact fin D as H hD s1 h (by rw [hd,e])
theorem Qo {f:Addr}{fd:FuncData}{ts:List Tb}(F:Fun K "elders" "Levelled.elders" B6 f fd)(T:Txt K mg ae ag ah aa)(Z:Qa K aa)(ao:Mth P w K mg base aa "down" 6 ["self","number"] (Rs K ad ab aa ts)):A4 P w K mg base CX0 7 f fd ["self"] (Ko K ad ab aa ts):=by
 refine F.ok Bz (fun vs H Q E h=>?_) (fun cdv A outer s H vs Q E hr h=>?_)
 ·obtain ⟨x,ds,rfl,_⟩:=h
  rfl
 ·obtain ⟨x,ds,rfl,hL,hT,q⟩:=h
  obtain ⟨dx,b,c,s,g,v,w,d,kvs,h⟩:=id hL;have hD:=h.ok;have hn:=h.few;have hgl:=Er hD;refine ⟨_,(Aa (Ji (i:=1) rfl Jl Bz.nd rfl rfl (Fa rfl T.n_range (Ag (Aj Bd (B0 (pv 0) rfl) Ae) Ac rfl)) (fun _ _ _ _=>Ct) (fun _ _ _ _=>(Gm ao (hr.mono (by decide:6<=_)) (pv 1) (Ag (pv 0) Ac rfl))))
   (Aa (Ao (i:=2) Bz.nd rfl (Or.inl rfl) (Bp Ac))
   (Aa (Ji (i:=3) rfl Jf Bz.nd rfl rfl (Ny rfl T.n_range (Ag (Aj C7 (Bs Bt (pv 1) Ae (fun _ _=>rfl)) Ae) (Ag (Dw Cg Ae) (Ag (Dw Cg Ae) Ac rfl) rfl) rfl)) (fun _ _ _ _=>Ct) (fun _ _ _ _=>(Vi (Ag (pv 0) (Ag (Dw Cg Ae) Ac rfl) rfl))))
   (Aa (E4 PassesOwn.never (Av Ja (Ap Ar (by rfl) T.n_len Cc (Ag (pv 3) Ac rfl)) Ae (Ay _))
   (Aa (Ao (i:=4) Bz.nd rfl (Or.inl rfl) (Y1 PySem.F.plainAttrs_list PySem.F.slot_list_pop PySem.F.type_list_pop iX (pv 3)))
   (Aa (Ao (i:=5) Bz.nd rfl (Or.inr rfl) (Ap Ar (by rfl) T.n_len Cc (Ag (pv 2) Ac rfl)))
   (Aa (Bk (C3 PySem.F.plainAttrs_list PySem.F.slot_list_append PySem.F.type_list_append Bv (pv 2) (Ag (Bs Fc (pv 4) Ae (fun _ _=>rfl)) Ac rfl)))
   (Af (Bk (C3 PySem.F.plainAttrs_list PySem.F.slot_list_extend PySem.F.type_list_extend dR (pv 3) (Ag (Iq rfl Jo (Ny rfl T.n_range (Ag (Aj C7 (Bs Bt (pv 1) (Aj Bd (Bs Fc (pv 4) Ae (fun _ _=>rfl)) Ae) (fun _ _=>rfl)) Ae) (Ag (Aj C7 (Bs Bt (pv 1) (Bs Fc (pv 4) Ae (fun _ _=>rfl)) (fun _ _=>rfl)) Ae) (Ag (Dw Cg Ae) Ac rfl) rfl) rfl)) (fun _ _ _ _=>Ct) (fun _ _ _ _=>(Vi (Ag (pv 0) (Ag (pv 1) Ac rfl) rfl)))) Ac rfl))))))))
   (Af (At (pv 2))))))),?_⟩
  k_is;refine ⟨x,aa,dx,_,_,rfl,h.hx,Z.cl,Z.n_knots,rfl,?_⟩;k_is;refine ⟨((ds.length+1:Nat):Int),by rw [Int.natCast_add];rfl,by omega,by omega,?_⟩;rw [Int.toNat_natCast];refine dU hT (fun i=>nV ((List.range i).map fun k=>pre (gsL ds) (k+1))) rfl (fun i hi=>?_) (fun i H1 R A hi s1 hA=>?_) (fun fi H1 hfi s1 hf1=>?_)
  ·rw [Co,List.length_map,List.length_range]
   exact Al (by omega)
  ·k_is
   refine ⟨x,dx,_,rfl,s1.k h.hx,rfl,?_⟩;k_is;refine ⟨x,ds,i,by rw [show (0+(i:Int))=(i:Int) by omega];rfl,hL.sm s1,s1.ok,by omega,fun H2 s2=>?_⟩;refine hA _ _ ?_ s2;rw [List.range_succ,List.map_append];unfold nV;rw [List.map_append];rfl
  have hf1:H1 fi=some (.lst (fsL ds)):=hf1;have fat:∀ {H':Hp} {k:Nat},k<=ds.length->H' fi=some (.lst (fsL ds))->atI (fsL ds) (k:Int)=some (.int (pre (gsL ds) (k+1):Nat)):=fun {H' k} hk _=>by unfold fsL;exact Bh (bR (by rw [List.getElem?_map,List.getElem?_range (by omega)];rfl))
  k_is;refine ⟨Nat.zero_le _,fun el hel=>?_⟩;have u1:=Ah (o:=.lst []) hel;have he1:upd H1 el (.lst []) el=some (.lst []):=Ab;have hf2:=u1 _ _ hf1;have nfe:fi≠el:=Ak hf1 hel;have nel:H el=none:=s1.sm.free hel;have s2:=s1.then u1;generalize upd H1 el (.lst [])=H2 at *;k_is;refine Cw (SqL.of hf2) (fat (k:=0) (by omega) hf2) ?_;k_is;have hp1:=X1 hD 1;refine ⟨((pre (gsL ds) 1:Nat):Int)-1,-1,rfl,⟨by omega,by omega,by omega,by omega⟩,?_⟩;rw [show (((pre (gsL ds) 1:Nat):Int)-1 - -1).toNat=pre (gsL ds) 1 by omega];refine cP ds (F6 (pre (gsL ds) 1) 0) (by rw [L7];omega) (by omega) (fun i u H3 A R hu s3 hA=>?_) (fun wa as H3 hwa s3 hW hw3=>?_)
  ·obtain ⟨hu1,hu2⟩:=Yg hu
   have e0:wtI ds u=[V.int (((pre (gsL ds) 1:Nat):Int)-1+(i:Int) * -1),V.int (-1)]:=by
    unfold wtI;rw [tJ hD u (List.mem_of_getElem? hu),show ((u:Nat):Int)-1=((pre (gsL ds) 1:Nat):Int)-1+(i:Int) * -1 by omega]
   rw [e0] at hA;k_is;exact ⟨few (by simp),hA⟩
  have nwa:H wa=none:=s2.sm.free hwa;have nwe:el≠wa:=Ak he1 hwa;have nwf:fi≠wa:=Ak hf2 hwa;have hW0:Lv H3 ds as (wL ds 0).reverse:=by rw [cH,List.reverse_reverse];exact hW
  k_is;refine Et (fun σ H6=>∃ (k:Nat) (as:List Addr) (v4 v5:Option V),σ=[some (.ref x),some (.ref fi),some (.ref el),some (.ref wa),v4,v5]/\k<=ds.length/\SmT ts H H6/\Lv H6 ds as (wL ds k).reverse/\H6 wa=some (.lst (as.map V.ref))/\H6 el=some (.lst (((Au ds).take k).map V.int))/\H6 fi=some (.lst (fsL ds))) (fun _ H6=>ds.length+1-cD H6 el) ⟨0,as,_,_,rfl,Nat.zero_le _,s2.then s3,hW0,hw3,s3 _ _ he1,s3 _ _ hf2⟩ ?_;clear hW0 hW hw3 s3 he1 hf2 hwa s2 hel u1;rintro μ σ H6 ⟨k,as,v4,v5,rfl,hk,s6,hW6,hw6,he6,hf6⟩ hμ;have hel2:(((Au ds).take k).map V.int).length=k:=by rw [List.length_map,List.length_take,Bn];omega
  k_is;refine ⟨wa,_,rfl,.inl (SqL.of hw6),?_⟩;rw [List.length_map,hW6.1,List.length_reverse];k_is
  by_cases hkn:k=ds.length
  ·subst hkn
   rw [sO hD];refine Db (fun z=>absurd z (by simp)) (fun _=>?_);k_is;refine q el H6 s6 nel ?_;rw [he6,List.take_of_length_le (by rw [Bn];exact Nat.le_refl _)]
  ·obtain ⟨g,w,e1,e2,e3,e4,e5,e6⟩:=nO hD (k:=k) (by omega)
   have hwl:=rL hD (k:=k) (by omega);rw [e1] at hW6 hwl ⊢;rw [List.reverse_cons] at hW6;obtain ⟨bs,a,rfl,hW7,ha6⟩:=hW6.last;have nwa6:a≠wa:=D8 ha6 hw6 (by intro z;cases z);have nae6:a≠el:=D8 ha6 he6 (by intro z;cases z);refine Db (fun _=>?_) (fun z=>absurd (by simp only [List.length_cons];omega) z);refine Ht ?_;k_is;refine ⟨.inl ⟨rfl,_,SqL.of hw6⟩,?_⟩;k_is;refine ⟨wa,_,.ref a,rfl,rfl,hw6,by rw [List.map_append,List.length_append,List.getElem?_append_right (by simp)];simp,?_⟩;rw [show ((bs++[a]).map V.ref).dropLast=bs.map V.ref by rw [List.map_append];exact List.dropLast_concat];have s7:SmT ts H (upd H6 wa (.lst (bs.map V.ref))):=s6.push nwa hw6;have kt:∀ {y:Addr} {xs:List V},H6 y=some (.tup xs)->upd H6 wa (.lst (bs.map V.ref)) y=some (.tup xs):=fun {y xs} e=>by rw [Ai (D8 e hw6 (by intro z;cases z))];exact e
   have hW8:=hW7.keep fun _ _ e=>kt e;have ha7:=kt ha6;have hw7:upd H6 wa (.lst (bs.map V.ref)) wa=some (.lst (bs.map V.ref)):=Ab;have he7:upd H6 wa (.lst (bs.map V.ref)) el=some (.lst (((Au ds).take k).map V.int)):=by rw [Ai nwe];exact he6
   have hf7:upd H6 wa (.lst (bs.map V.ref)) fi=some (.lst (fsL ds)):=by rw [Ai nwf];exact hf6
   generalize upd H6 wa (.lst (bs.map V.ref))=H7 at *;k_is;refine ⟨el,_,rfl,.inl (SqL.of he7),?_⟩;rw [hel2];k_is;refine ⟨.inl ⟨rfl,_,SqL.of he7⟩,?_⟩;k_is;refine Ho (SqT.of ha7) (v:=.int (eld ds k)) (by unfold wtI;rw [e2];rfl) ?_;k_is;refine Cd he7 ?_ ?_
   ·rw [hel2]
    exact Al (by omega)
   have eel:((Au ds).take k).map V.int++[V.int (eld ds k)]=((Au ds).take (k+1)).map V.int:=by
    rw [List.take_add_one,Kq (show k<ds.length by omega),List.map_append];rfl
   rw [eel];have s8:SmT ts H (upd H7 el (.lst (((Au ds).take (k+1)).map V.int))):=s7.push nel he7;have kt8:∀ {y:Addr} {xs:List V},H7 y=some (.tup xs)->upd H7 el (.lst (((Au ds).take (k+1)).map V.int)) y=some (.tup xs):=fun {y xs} e=>by rw [Ai (D8 e he7 (by intro z;cases z))];exact e
   have hW9:=hW8.keep fun _ _ e=>kt8 e;have ha8:=kt8 ha7;have he8:upd H7 el (.lst (((Au ds).take (k+1)).map V.int)) el=some (.lst (((Au ds).take (k+1)).map V.int)):=Ab;have hw8:upd H7 el (.lst (((Au ds).take (k+1)).map V.int)) wa=some (.lst (bs.map V.ref)):=by rw [Ai nwe.symm];exact hw7
   have hf8:upd H7 el (.lst (((Au ds).take (k+1)).map V.int)) fi=some (.lst (fsL ds)):=by rw [Ai nfe];exact hf7
   generalize upd H7 el (.lst (((Au ds).take (k+1)).map V.int))=H8 at *;k_is;refine ⟨.inl ⟨rfl,_,SqL.of hw8⟩,?_⟩;k_is;refine Ho (SqT.of ha8) (v:=.int ((g:Int)-1)) rfl ?_;k_is;refine Cw (SqL.of hf8) (v:=.int (pre (gsL ds) (g+1):Nat)) (by rw [show (g:Int)-1+1=(g:Int) by omega];exact fat (by omega) hf8) ?_;k_is;refine Ho (SqT.of ha8) (v:=.int ((g:Int)-1)) rfl ?_;k_is;refine Cw (SqL.of hf8) (v:=.int (pre (gsL ds) g:Nat)) (by rw [show (g:Int)-1=((g-1:Nat):Int) by omega,fat (k:=g-1) (by omega) hf8,show g-1+1=g by omega]) ?_;k_is;have hpg:=X1 hD (g+1);have hpm:=kF (gsL ds) (show g<=g+1 by omega);refine ⟨((pre (gsL ds) (g+1):Nat):Int)-1,((pre (gsL ds) g:Nat):Int)-1,rfl,⟨by omega,by omega,by omega,by omega⟩,?_⟩;rw [show (((pre (gsL ds) (g+1):Nat):Int)-1-(((pre (gsL ds) g:Nat):Int)-1)).toNat=pre (gsL ds) (g+1)-pre (gsL ds) g by omega];refine cP ds (F6 (pre (gsL ds) (g+1)) (pre (gsL ds) g)) (by rw [L7]) (by omega) (fun i u H9 A R hu s9 hA=>?_) (fun D cs H9 hD9 s9 hU hc9=>?_)
   ·obtain ⟨hu1,hu2⟩:=Yg hu
    have e0:wtI ds u=[V.int (((pre (gsL ds) (g+1):Nat):Int)-1+(i:Int) * -1),V.int (k:Int)]:=by
     unfold wtI;rw [e6 u (List.mem_of_getElem? hu),show ((u:Nat):Int)-1=((pre (gsL ds) (g+1):Nat):Int)-1+(i:Int) * -1 by omega]
    rw [e0] at hA;k_is;exact ⟨few (by simp),hA⟩
   have hw9:=s9 _ _ hw8;have hcl:cs.length=pre (gsL ds) (g+1)-pre (gsL ds) g:=by rw [hU.1,L7]
   have hbl:bs.length=w.length:=by rw [hW9.1,List.length_reverse]
   simp only [List.length_cons] at hwl;k_is;refine ⟨wa,D,_,_,rfl,rfl,hw9,hc9,Nat.le_of_lt (Al (by rw [List.length_map,List.length_map];omega)),?_⟩;have s10:=s8.then s9;have kt9:∀ {y:Addr} {xs:List V},H9 y=some (.tup xs)->upd H9 wa (.lst (bs.map V.ref++cs.map V.ref)) y=some (.tup xs):=fun {y xs} e=>by rw [Ai (D8 e hw9 (by intro z;cases z))];exact e
   refine ⟨⟨k+1,bs++cs,_,_,rfl,by omega,s10.push nwa hw9,?_,by rw [Ab,List.map_append],by rw [Ai nwe];exact s9 _ _ he8,by rw [Ai nwf];exact s9 _ _ hf8⟩,?_⟩
   ·rw [e5,List.reverse_append,List.reverse_reverse]
    exact ((hW9.keep fun _ _ e=>s9 _ _ e).app hU).keep fun _ _ e=>kt9 e
   ·rw [Lz (show upd H9 wa _ el=_ by rw [Ai nwe];exact s9 _ _ he8),<- hμ,Lz he6,hel2,List.length_map,List.length_take,Bn]
    omega
def Ri (K:PySem.W.Frag):Sp:=fun vs H Q _=>∃ (a:Addr) (ns:List Int) (k:Nat),vs=[.ref a,.int k]/\SqL K H a (ns.map V.int)/\∀ c:Int,Q (.int c) H
theorem Rt {f:Addr}{fd:FuncData}(F:Fun K "_law_cell_at" "_law_cell_at" Gw f fd)(T:Txt K mg ae ag ah aa):A4 P w K mg base CX0 1 f fd ["_law_script","_law_k"] (Ri K):=by
 refine F.ok Q7 (fun vs H Q E h=>?_) (fun cdv A outer s H vs Q E hr h=>?_)
 ·obtain ⟨a,ns,k,rfl,_⟩:=h
  rfl
 ·obtain ⟨a,ns,k,rfl,hS,q⟩:=h
  refine ⟨_,(Aa (Cq (Av Oa (pv 1) (Ap Ar (by rfl) T.n_len Cc (Ag (pv 0) Ac rfl)) (Ay _)) (Af (At (Bs Bt (pv 0) (pv 1) (fun _ _=>rfl))))
   Bb)
   (Af (At Ae))),?_⟩
  k_is;refine ⟨a,_,rfl,.inl hS,?_⟩;k_is;rw [List.length_map];refine Db (fun hb=>?_) (fun hb=>?_)
  ·k_is
   have hk:k<ns.length:=by omega
   refine Cw hS (v:=.int ns[k]) ?_ (q _);refine Bh ?_;rw [List.getElem?_map,List.getElem?_eq_getElem hk];rfl
  ·k_is
   exact q 0
def Uf:Sp:=fun vs H Q _=>∃ (c:Int) (k:Nat),vs=[.int c,.int k]/\k<=1000/\∀ r:Nat,r<300000000->Q (.int r) H
theorem U5 {f:Addr}{fd:FuncData}(F:Fun K "_law_twice" "_law_twice" Jj f fd)(T:Txt K mg ae ag ah aa):A4 P w K mg base CX0 1 f fd ["_law_cell","_law_k"] Uf:=by
 refine F.ok L4 (fun vs H Q E h=>?_) (fun cdv A outer s H vs Q E hr h=>?_)
 ·obtain ⟨c,k,rfl,_⟩:=h
  rfl
 ·obtain ⟨c,k,rfl,hk,q⟩:=h
  refine ⟨_,(Aa (Ao (i:=2) L4.nd rfl (Or.inl rfl) (Aj Cu (Aj Ki (Aj Bd (Aj Bd (Aj Bd (Aj Cu (pv 0) Ae) (Aj Ki (Aj Ki Ae (pv 1)) (pv 1))) (pv 1)) Ae) Ae) Ae))
   (Af (At (Aj Ce (Aj Cu (Aj Ki (Aj Bd (pv 2) (pv 1)) Ae) Ae) Ae)))),?_⟩
  k_is;refine jC (by omega) (by omega) ?_;k_is;generalize ((c%2147483647+7919*(k:Int)*k+k+1)*48271%2147483629+k)*69621=z;have h0:=Int.emod_nonneg z (show (2147483647:Int)≠0 by decide);have h1:=Int.emod_lt_of_pos z (show (0:Int)<2147483647 by decide);have e:z%2147483647/8=((z%2147483647/8).toNat:Int):=by omega
  rw [e];exact q _ (by omega)
def Vd:Sp:=fun vs H Q _=>∃ (c:Int) (n:Nat),vs=[.int c,.int n]/\n<=60/\∀ p (ds:List Nat) H',Am H H'->H p=none->H' p=some (.lst ((Au ds).map V.int))->Dok ds->ds.length=n->Q (.ref p) H'
theorem Xa {ds:List Nat}(h:Dok ds){k:Nat}(hk:k<=ds.length):[V.int (-1)]++(way ds k).tail.map V.int=(way ds k).map V.int:=by
 rw [Jv h hk];rfl
theorem Xe {ds:List Nat}(h:Dok ds){k d:Nat}(hk:k<=ds.length)(hd:d<=opn ds k):atI ((way ds k).map V.int) (d:Int)=some (.int ((way ds k).getD d 0)):=by
 refine Bh (Tu ?_);have hw:=Cj h k hk;unfold List.getD;rw [List.getElem?_eq_getElem (by omega)];rfl
theorem Vc {f:Addr}{fd:FuncData}(F:Fun K "_law_grown" "_law_grown" Jd f fd)(T:Txt K mg ae ag ah aa):A4 P w K mg base CX0 1 f fd ["_law_cell","_law_many"] Vd:=by
 refine F.ok C9 (fun vs H Q E h=>?_) (fun cdv A outer s H vs Q E hr h=>?_)
 ·obtain ⟨c,n,rfl,_⟩:=h
  rfl
 ·obtain ⟨c,n,rfl,hn,q⟩:=h
  refine ⟨_,(Aa (Ao (i:=2) C9.nd rfl (Or.inl rfl) (Bp Ac))
   (Aa (Ao (i:=3) C9.nd rfl (Or.inl rfl) (Bp Ac))
   (Aa (Dy PassesOwn.never rfl (Fa rfl T.n_range (Ag (pv 1) Ac rfl)) (Bc (i:=4) C9.nd rfl (Or.inl rfl))
   (Aa (Ao (i:=5) C9.nd rfl (Or.inl rfl) (Aj Cu (pv 0) (Aj Bd (Ap Ar (by rfl) T.n_len Cc (Ag (pv 3) Ac rfl)) Ae)))
   (Aa (Ao (i:=0) C9.nd rfl (Or.inl rfl) (Aj Ce (pv 0) (Aj Bd (Ap Ar (by rfl) T.n_len Cc (Ag (pv 3) Ac rfl)) Ae)))
   (Aa (Bk (C3 PySem.F.plainAttrs_list PySem.F.slot_list_append PySem.F.type_list_append Bv (pv 2) (Ag (Bs Bt (Aj Gz (Bp (Ag (Dw Cg Ae) Ac rfl)) (pv 3)) (pv 5) (fun _ _=>rfl)) Ac rfl)))
   (Af (Ao (i:=3) C9.nd rfl (Or.inl rfl) (Aj Gz (Dp Ik (pv 3) Ib (C5 (pv 5))) (Bp (Ag (pv 4) Ac rfl)))))))))
   (Af (At (pv 2)))))),?_⟩
  k_is;refine ⟨Nat.zero_le _,fun p hp=>?_⟩;k_is;refine ⟨Nat.zero_le _,fun p0 hp0=>?_⟩;have t0:=Ah (o:=.lst []) hp;have t1:=Ah (o:=.lst []) hp0;k_is;refine ⟨_,rfl,by omega,by omega,?_⟩;rw [Int.toNat_natCast];refine Hg (fun k σ H1=>(∃ (q:Addr) (ds:List Nat) (g:Int) (v w:Option V),σ=[some (.int g),some (.int n),some (.ref p),some (.ref q),v,w]/\Dok ds/\ds.length=k/\H1 p=some (.lst ((Au ds).map V.int))/\H1 q=some (.lst ((way ds k).tail.map V.int))/\p≠q)/\Am H H1) ?_ ?_ ?_
  ·exact ⟨⟨p0,[],_,_,_,rfl,(fun k hk=>by cases hk),rfl,t1 _ _ Ab,Ab,Ak Ab hp0⟩,t0.trans t1⟩
  ·rintro k σ H1 hk ⟨⟨q1,ds,g,v,w',rfl,hD,hl,hp1,hq1,hne⟩,s1⟩
   have hw:=Cj hD k (by omega);have hok:=Vx hD k (by omega);have hwt:(way ds k).tail.length=opn ds k:=by rw [List.length_tail];omega
   k_is;refine ⟨q1,_,rfl,.inl (SqL.of hq1),?_⟩;k_is;rw [List.length_map,hwt];refine bZ (by omega) ?_;k_is;obtain ⟨d,hd,hd1⟩:=Gc g (opn ds k);rw [hd];refine ⟨q1,_,rfl,.inl (SqL.of hq1),?_⟩;k_is;rw [List.length_map,hwt];refine iI (by omega) (by omega) ?_;k_is;refine ⟨.inl ⟨rfl,_,SqL.of hp1⟩,?_⟩;k_is;refine ⟨few (by simp),fun q3 h3=>?_⟩;have u3:=Ah (o:=.lst [V.int (-1)]) h3;k_is;refine ⟨q3,q1,_,_,rfl,rfl,Ab,u3 _ _ hq1,?_,fun q4 h4=>?_⟩
   ·rw [List.length_map,hwt]
    exact few (by simp only [List.length_cons,List.length_nil];omega)
   rw [Xa hD (by omega)] at *;have u4:=u3.trans (Ah (o:=.lst ((way ds k).map V.int)) h4);have h44:(upd (upd H1 q3 (.lst [V.int (-1)])) q4 (.lst ((way ds k).map V.int))) q4=some (.lst ((way ds k).map V.int)):=Ab;generalize (upd (upd H1 q3 (.lst [V.int (-1)])) q4 (.lst ((way ds k).map V.int)))=H4 at *;k_is;refine Cw (SqL.of h44) (Xe hD (by omega) hd1) ?_;k_is;refine Cd (u4 _ _ hp1) ?_ ?_
   ·rw [List.length_map,Bn]
    exact Al (by omega)
   have s5:=A8 (o:=.lst ((Au ds).map V.int++[V.int ((way ds k).getD d 0)])) (s1.trans u4) hp;have hq5:upd H4 p (.lst ((Au ds).map V.int++[V.int ((way ds k).getD d 0)])) q1=some (.lst ((way ds k).tail.map V.int)):=by rw [Ai hne.symm];exact u4 _ _ hq1
   have hp5:upd H4 p (.lst ((Au ds).map V.int++[V.int ((way ds k).getD d 0)])) p=some (.lst ((Au ds).map V.int++[V.int ((way ds k).getD d 0)])):=Ab;generalize upd H4 p (.lst ((Au ds).map V.int++[V.int ((way ds k).getD d 0)]))=H5 at *;k_is;refine ⟨q1,_,rfl,SqL.of hq5,fun q6 h6=>?_⟩;rw [P4,<- List.map_take] at *;have u6:=Ah (o:=.lst (((way ds k).tail.take d).map V.int)) h6;k_is;refine ⟨few (by simp),fun q7 h7=>?_⟩;have u7:=Ah (o:=.lst [V.int (0+(k:Int))]) h7;refine ⟨q6,q7,_,_,rfl,rfl,u7 _ _ Ab,Ab,?_,fun q8 h8=>?_⟩
   ·rw [List.length_map,List.length_take]
    exact few (by simp only [List.length_cons,List.length_nil];omega)
   have u8:=Ah (o:=.lst (((way ds k).tail.take d).map V.int++[V.int (0+(k:Int))])) h8;k_is;have hp8:=u8 _ _ (u7 _ _ (u6 _ _ hp5));refine ⟨⟨q8,ds++[d],_,_,_,rfl,Hi hD (by rw [hl];exact hd1),by rw [List.length_append,hl];rfl,?_,?_,Ak (u7 _ _ (u6 _ _ hp5)) h8⟩,((s5.trans u6).trans u7).trans u8⟩
   ·rw [hp8,Ej,List.map_append,hl]
    rfl
   ·have e:=Fo ds d
    rw [hl] at e;rw [Ab,e,show (0+(k:Int))=(k:Int) by omega];have e2:((way ds k).take (d+1)++[(k:Int)]).tail=(way ds k).tail.take d++[(k:Int)]:=by
     rw [Jv hD (by omega)];rfl
    rw [e2,List.map_append];rfl
  ·rintro σ H1 ⟨⟨q1,ds,g,v,w',rfl,hD,hl,hp1,hq1,hne⟩,s1⟩
   k_is;exact q p ds H1 s1 hp hp1 hD hl
def Ua (K:PySem.W.Frag):Sp:=fun vs H Q _=>∃ (a:Addr) (ns:List Int) (n:Nat),vs=[.ref a,.int n]/\SqL K H a (ns.map V.int)/\n<=60/\∀ p (ds:List Nat) H',Am H H'->H p=none->H' p=some (.lst ((Au ds).map V.int))->Dok ds->ds.length=n->Q (.ref p) H'
theorem U1 {f:Addr}{fd:FuncData}(F:Fun K "_law_drawn" "_law_drawn" Jk f fd)(T:Txt K mg ae ag ah aa)(aj:Cal P w K mg base "_law_cell_at" 1 ["_law_script","_law_k"] (Ri K))(bu:Cal P w K mg base "_law_twice" 1 ["_law_cell","_law_k"] Uf):A4 P w K mg base CX0 2 f fd ["_law_script","_law_many"] (Ua K):=by
 refine F.ok Cb (fun vs H Q E h=>?_) (fun cdv A outer s H vs Q E hr h=>?_)
 ·obtain ⟨a,ns,n,rfl,_⟩:=h
  rfl
 ·obtain ⟨a,ns,n,rfl,hS,hn,q⟩:=h
  refine ⟨_,(Aa (Ao (i:=2) Cb.nd rfl (Or.inl rfl) (Bp Ac))
   (Aa (Ao (i:=3) Cb.nd rfl (Or.inl rfl) (Bp Ac))
   (Aa (Dy PassesOwn.never rfl (Fa rfl T.n_range (Ag (pv 1) Ac rfl)) (Bc (i:=4) Cb.nd rfl (Or.inl rfl))
   (Aa (Ao (i:=5) Cb.nd rfl (Or.inl rfl) (A6 bu (hr.mono (by decide:1<=_)) (Ag (A6 aj (hr.mono (by decide:1<=_)) (Ag (pv 0) (Ag (Aj Bd Ae (pv 4)) Ac rfl) rfl)) (Ag (pv 4) Ac rfl) rfl)))
   (Aa (Ao (i:=6) Cb.nd rfl (Or.inl rfl) (Ap Ar (by rfl) T.n_len Cc (Ag (pv 3) Ac rfl)))
   (Aa (Ao (i:=7) Cb.nd rfl (Or.inl rfl) (Aj Cu (Aj Ce (pv 5) Ae) (Aj Bd (pv 6) Ae)))
   (Aa (Ao (i:=8) Cb.nd rfl (Or.inl rfl) (Bs Bt (Bp (Ag (pv 7) (Ag (pv 6) (Ag (Ap (dP rfl) (by rfl) T.n_max cO (Ag Ae (Ag (Aj C7 (pv 6) (Aj Cu (Aj Ce (pv 5) Ae) Ae)) Ac rfl) rfl)) (Ag (Ap (Ti rfl) (by rfl) T.n_min jL (Ag (pv 7) (Ag Ae Ac rfl) rfl)) Ac rfl) rfl) rfl) rfl)) (Aj Cu (pv 5) Ae) (fun _ _=>rfl)))
   (Aa (Bk (C3 PySem.F.plainAttrs_list PySem.F.slot_list_append PySem.F.type_list_append Bv (pv 2) (Ag (Bs Bt (Aj Gz (Bp (Ag (Dw Cg Ae) Ac rfl)) (pv 3)) (pv 8) (fun _ _=>rfl)) Ac rfl)))
   (Af (Ao (i:=3) Cb.nd rfl (Or.inl rfl) (Aj Gz (Dp Ik (pv 3) Ib (C5 (pv 8))) (Bp (Ag (pv 4) Ac rfl)))))))))))
   (Af (At (pv 2)))))),?_⟩
  k_is;refine ⟨Nat.zero_le _,fun p hp=>?_⟩;k_is;refine ⟨Nat.zero_le _,fun p0 hp0=>?_⟩;have t0:=Ah (o:=.lst []) hp;have t1:=Ah (o:=.lst []) hp0;k_is;refine ⟨_,rfl,by omega,by omega,?_⟩;rw [Int.toNat_natCast];refine Hg (fun k σ H1=>(∃ (q:Addr) (ds:List Nat) (v4 v5 v6 v7 v8:Option V),σ=[some (.ref a),some (.int n),some (.ref p),some (.ref q),v4,v5,v6,v7,v8]/\Dok ds/\ds.length=k/\H1 p=some (.lst ((Au ds).map V.int))/\H1 q=some (.lst ((way ds k).tail.map V.int))/\p≠q)/\Am H H1) ?_ ?_ ?_
  ·exact ⟨⟨p0,[],_,_,_,_,_,rfl,(fun k hk=>by cases hk),rfl,t1 _ _ Ab,Ab,Ak Ab hp0⟩,t0.trans t1⟩
  ·rintro k σ H1 hk ⟨⟨q1,ds,v4,v5,v6,v7,v8,rfl,hD,hl,hp1,hq1,hne⟩,s1⟩
   have hw:=Cj hD k (by omega);have hok:=Vx hD k (by omega);have hwt:(way ds k).tail.length=opn ds k:=by rw [List.length_tail];omega
   k_is;refine ⟨a,ns,3+k,by simp,s1.seq hS,fun c=>?_⟩;k_is;refine ⟨c,k,by simp,by omega,fun r hr1=>?_⟩;k_is;refine ⟨q1,_,rfl,.inl (SqL.of hq1),?_⟩;k_is;rw [List.length_map,hwt];refine bZ (by omega) ?_;k_is;obtain ⟨d0,hd0,hd01⟩:=Gc ((r:Int)/4) (opn ds k);rw [hd0];k_is;refine ⟨_,_,rfl,?_⟩;k_is;refine ⟨_,_,rfl,?_⟩;k_is;refine ⟨few (by simp),fun q9 h9=>?_⟩;k_is;obtain ⟨d,hat,hd1⟩:∃ d:Nat,atI [V.int (d0:Int),V.int (opn ds k:Int),V.int (if (opn ds k:Int)-(r:Int)/4%3>0 then (opn ds k:Int)-(r:Int)/4%3 else 0),V.int (if (2:Int)<(d0:Int) then 2 else (d0:Int))] ((r:Int)%4)=some (.int d)/\d<=opn ds k:=by
    have h4:(r:Int)%4=((r%4:Nat):Int):=(Int.natCast_emod r 4).symm;rw [h4];have hr4:r%4<4:=Nat.mod_lt _ (by decide);generalize r%4=m at *
    match m,hr4 with
    | 0,_=>exact ⟨d0,Bh rfl,hd01⟩
    | 1,_=>exact ⟨opn ds k,Bh rfl,Nat.le_refl _⟩
    | 2,_ =>
     refine ⟨((opn ds k:Int)-(r:Int)/4%3).toNat,(Bh rfl).trans ?_,by omega⟩;congr 2;split<;>omega
    | 3,_ =>
     refine ⟨min 2 d0,(Bh rfl).trans ?_,by omega⟩;congr 2;split<;>omega
   have u9:=Ah (o:=.lst [V.int (d0:Int),V.int (opn ds k:Int),V.int (if (opn ds k:Int)-(r:Int)/4%3>0 then (opn ds k:Int)-(r:Int)/4%3 else 0),V.int (if (2:Int)<(d0:Int) then 2 else (d0:Int))]) h9;refine Cw (SqL.of Ab) hat ?_
   replace hp1:=u9 _ _ hp1
   replace hq1:=u9 _ _ hq1
   replace s1:=s1.trans u9
   generalize upd H1 q9 _=H1 at *;k_is;refine ⟨.inl ⟨rfl,_,SqL.of hp1⟩,?_⟩;k_is;refine ⟨few (by simp),fun q3 h3=>?_⟩;have u3:=Ah (o:=.lst [V.int (-1)]) h3;k_is;refine ⟨q3,q1,_,_,rfl,rfl,Ab,u3 _ _ hq1,?_,fun q4 h4=>?_⟩
   ·rw [List.length_map,hwt]
    exact few (by simp only [List.length_cons,List.length_nil];omega)
   rw [Xa hD (by omega)] at *;have u4:=u3.trans (Ah (o:=.lst ((way ds k).map V.int)) h4);have h44:(upd (upd H1 q3 (.lst [V.int (-1)])) q4 (.lst ((way ds k).map V.int))) q4=some (.lst ((way ds k).map V.int)):=Ab;generalize (upd (upd H1 q3 (.lst [V.int (-1)])) q4 (.lst ((way ds k).map V.int)))=H4 at *;k_is;refine Cw (SqL.of h44) (Xe hD (by omega) hd1) ?_;k_is;refine Cd (u4 _ _ hp1) ?_ ?_
   ·rw [List.length_map,Bn]
    exact Al (by omega)
   have s5:=A8 (o:=.lst ((Au ds).map V.int++[V.int ((way ds k).getD d 0)])) (s1.trans u4) hp;have hq5:upd H4 p (.lst ((Au ds).map V.int++[V.int ((way ds k).getD d 0)])) q1=some (.lst ((way ds k).tail.map V.int)):=by rw [Ai hne.symm];exact u4 _ _ hq1
   have hp5:upd H4 p (.lst ((Au ds).map V.int++[V.int ((way ds k).getD d 0)])) p=some (.lst ((Au ds).map V.int++[V.int ((way ds k).getD d 0)])):=Ab;generalize upd H4 p (.lst ((Au ds).map V.int++[V.int ((way ds k).getD d 0)]))=H5 at *;k_is;refine ⟨q1,_,rfl,SqL.of hq5,fun q6 h6=>?_⟩;rw [P4,<- List.map_take] at *;have u6:=Ah (o:=.lst (((way ds k).tail.take d).map V.int)) h6;k_is;refine ⟨few (by simp),fun q7 h7=>?_⟩;have u7:=Ah (o:=.lst [V.int (0+(k:Int))]) h7;refine ⟨q6,q7,_,_,rfl,rfl,u7 _ _ Ab,Ab,?_,fun q8 h8=>?_⟩
   ·rw [List.length_map,List.length_take]
    exact few (by simp only [List.length_cons,List.length_nil];omega)
   have u8:=Ah (o:=.lst (((way ds k).tail.take d).map V.int++[V.int (0+(k:Int))])) h8;k_is;have hp8:=u8 _ _ (u7 _ _ (u6 _ _ hp5));refine ⟨⟨q8,ds++[d],_,_,_,_,_,rfl,Hi hD (by rw [hl];exact hd1),by rw [List.length_append,hl];rfl,?_,?_,Ak (u7 _ _ (u6 _ _ hp5)) h8⟩,((s5.trans u6).trans u7).trans u8⟩
   ·rw [hp8,Ej,List.map_append,hl]
    rfl
   ·have e:=Fo ds d
    rw [hl] at e;rw [Ab,e,show (0+(k:Int))=(k:Int) by omega];have e2:((way ds k).take (d+1)++[(k:Int)]).tail=(way ds k).tail.take d++[(k:Int)]:=by
     rw [Jv hD (by omega)];rfl
    rw [e2,List.map_append];rfl
  ·rintro σ H1 ⟨⟨q1,ds,v4,v5,v6,v7,v8,rfl,hD,hl,hp1,hq1,hne⟩,s1⟩
   k_is;exact q p ds H1 s1 hp hp1 hD hl
def lQ:Sp:=fun vs H Q _=>∃ (a:Addr) (ds:List Nat) (m:Nat) (b:Bool),vs=[.ref a,.int m,.bl b]/\H a=some (.lst ((Au ds).map V.int))/\Dok ds/\0<ds.length/\m*ds.length<=1000/\ds.length<=60/\∀ p (es:List Nat) H',Am H H'->H p=none->H' p=some (.lst ((Au es).map V.int))->Dok es->es.length=(m+1)*ds.length->Q (.ref p) H'
theorem fB {ds:List Nat}(h:Dok ds)(hp:0<ds.length):(way ds ds.length).getD (opn ds ds.length) 0=(ds.length:Int)-1:=by
 obtain ⟨k,hk⟩:∃ k,ds.length=k+1:=⟨ds.length-1,by omega⟩;rw [hk];show ((way ds k).take (dAt ds k+1)++[(k:Int)]).getD (dAt ds k+1) 0=_;have hw:=Cj h k (by omega);have:=h k (by omega);unfold List.getD;rw [List.getElem?_append_right (by rw [List.length_take];omega),List.length_take,Nat.min_eq_left (by omega),Nat.sub_self];show (k:Int)=((k+1:Nat):Int)-1;omega
theorem Om {f:Addr}{fd:FuncData}(F:Fun K "_law_repeated" "_law_repeated" Ew f fd)(T:Txt K mg ae ag ah aa):A4 P w K mg base CX0 1 f fd ["_law_elders","_law_times","_law_hung"] lQ:=by
 refine F.ok B8 (fun vs H Q E h=>?_) (fun cdv A outer s H vs Q E hr h=>?_)
 ·obtain ⟨a,ds,m,b,rfl,_⟩:=h
  rfl
 ·obtain ⟨a,ds,m,b,rfl,ha,hD,hpos,hm,hn,q⟩:=h
  have hm1:m<=1000:=Nat.le_trans (Nat.le_mul_of_pos_right m hpos) hm;refine ⟨_,(Aa (Ao (i:=3) B8.nd rfl (Or.inl rfl) (Ei F0 (by rfl) T.n_list Li (Ag (pv 0) Ac rfl)))
   (Aa (Dy PassesOwn.never rfl (Fa rfl T.n_range (Ag (pv 1) Ac rfl)) (Bc (i:=4) B8.nd rfl (Or.inl rfl))
   (Aa (Ao (i:=5) B8.nd rfl (Or.inr rfl) (Ap Ar (by rfl) T.n_len Cc (Ag (pv 3) Ac rfl)))
   (Aa (Ao (i:=6) B8.nd rfl (Or.inr rfl) (Dw Cg Ae))
   (Aa (Vl (C8 (pv 2)) (Af (Ao (i:=6) B8.nd rfl (Or.inr rfl) (Aj C7 (pv 5) Ae)))
   Bb)
   (Af (Ao (i:=3) B8.nd rfl (Or.inl rfl) (Aj Gz (pv 3) (Iq rfl Mo (Dl (pv 0)) (fun _ _ _ _=>Ct) (fun _ _ _ _=>(Kh (Av Oa (pv 0) Ae (Ay _)) (pv 1) (Aj Bd (pv 0) (pv 2))))))))))))
   (Af (At (pv 3))))),?_⟩
  k_is;refine ⟨a,_,rfl,.inl (SqL.of ha),fun p hp=>?_⟩;have t0:=Ah (o:=.lst ((Au ds).map V.int)) hp;k_is;refine ⟨_,rfl,by omega,by omega,?_⟩;rw [Int.toNat_natCast];refine Hg (fun k σ H1=>(∃ (p1:Addr) (es:List Nat) (v4 v5 v6:Option V),σ=[some (.ref a),some (.int m),some (.bl b),some (.ref p1),v4,v5,v6]/\Dok es/\es.length=(k+1)*ds.length/\H p1=none/\H1 p1=some (.lst ((Au es).map V.int)))/\Am H H1) ?_ ?_ ?_
  ·exact ⟨⟨p,ds,_,_,_,rfl,hD,by omega,hp,Ab⟩,t0⟩
  ·rintro k σ H1 hk ⟨⟨p1,es,v4,v5,v6,rfl,hE,hl,hp0,hp1⟩,s1⟩
   have hlm:(k+1)*ds.length<=1000:=Nat.le_trans (Nat.mul_le_mul_right _ (by omega)) hm;have hlp:0<es.length:=by rw [hl];exact Nat.mul_pos (Nat.succ_pos _) hpos
   k_is;refine ⟨p1,_,rfl,.inl (SqL.of hp1),?_⟩;k_is;rw [List.length_map,Bn];refine dF (fun σ H'=>H'=H1/\∃ D:Nat,D<=opn es es.length/\σ=[some (.ref a),some (.int m),some (.bl b),some (.ref p1),some (.int (0+(k:Int))),some (.int (es.length:Int)),some (.int ((way es es.length).getD D 0))]) ?_ ?_
   ·k_is
    cases b with
    | true =>
     k_is;refine ⟨rfl,opn es es.length,Nat.le_refl _,?_⟩;rw [fB hE hlp];rfl
    | false =>
     k_is;refine ⟨rfl,0,Nat.zero_le _,?_⟩;have e1:(way es es.length).getD 0 0=-1:=by rw [Jv hE (Nat.le_refl _)];rfl
     rw [e1];rfl
   ·rintro σ H' ⟨rfl,D,hDo,rfl⟩
    k_is;generalize hbs:(way es es.length).getD D 0=bs;refine ⟨a,rfl,⟨_,SqL.of (s1 _ _ ha)⟩,?_⟩;refine Hy (SqL.of (s1 _ _ ha)) (fun i=>((Au ds).take i |>.map (shI es.length bs)).map V.int) rfl (fun i hi=>?_) (fun i x H2 R A hx s2 kR kA=>?_) (fun D2 H2 hD2 s2 hl2=>?_)
    ·rw [List.length_map,List.length_map,List.length_take]
     exact Al (by rw [Bn];omega)
    ·obtain ⟨n,hn2,rfl⟩:=Ia hx
     have hacc:(((Au ds).take (i+1)).map (shI es.length bs)).map V.int=(((Au ds).take i).map (shI es.length bs)).map V.int++[.int (shI es.length bs n)]:=by
      rw [List.take_add_one,hn2,List.map_append,List.map_append];rfl
     k_is;refine Db (fun h=>?_) (fun h=>?_)
     ·k_is
      refine kA _ _ ?_ (Am.refl _);rw [hacc];unfold shI;rw [if_pos h]
     ·k_is
      refine kA _ _ ?_ (Am.refl _);rw [hacc];unfold shI;rw [if_neg h]
    ·rw [List.take_of_length_le (by rw [List.length_map];exact Nat.le_refl _)] at hl2
     obtain ⟨c1,c2,_⟩:=nJ hE hDo ds hD;rw [hbs] at c2;k_is;refine ⟨p1,D2,_,_,rfl,rfl,s2 _ _ hp1,hl2,?_,fun p3 hp3=>?_⟩
     ·simp only [List.length_map,Bn]
      exact Nat.le_of_lt (Al (by omega))
     have u3:=Ah (o:=.lst ((Au es).map V.int++((Au ds).map (shI es.length bs)).map V.int)) hp3;k_is;refine ⟨⟨p3,G7 es D ds,_,_,_,rfl,c1,?_,(s1.trans s2).free hp3,?_⟩,(s1.trans s2).trans u3⟩
     ·rw [W8,hl,Nat.add_mul (k+1) 1,Nat.one_mul]
     ·rw [Ab,c2,List.map_append]
  ·rintro σ H1 ⟨⟨p1,es,v4,v5,v6,rfl,hE,hl,hp0,hp1⟩,s1⟩
   k_is;exact q p1 es H1 s1 hp0 hp1 hE hl
def Uv (K:PySem.W.Frag):Sp:=fun vs H Q _=>∃ (a:Addr) (ns:List Int) (L:Nat),vs=[.ref a,.int 60,.int L]/\SqL K H a (ns.map V.int)/\L<=400/\∀ p (ds:List Nat) H',Am H H'->H p=none->H' p=some (.lst ((Au ds).map V.int))->Dok ds->ds.length<=460->Q (.ref p) H'
theorem We {f:Addr}{fd:FuncData}(F:Fun K "_law_wood" "_law_wood" Lp f fd)(T:Txt K mg ae ag ah aa)(aj:Cal P w K mg base "_law_cell_at" 1 ["_law_script","_law_k"] (Ri K))(bv:Cal P w K mg base "_law_grown" 1 ["_law_cell","_law_many"] Vd)(bw:Cal P w K mg base "_law_drawn" 2 ["_law_script","_law_many"] (Ua K))(bx:Cal P w K mg base "_law_repeated" 1 ["_law_elders","_law_times","_law_hung"] lQ):A4 P w K mg base CX0 3 f fd ["_law_script","_law_most","_law_large"] (Uv K):=by
 refine F.ok El (fun vs H Q E h=>?_) (fun cdv A outer s H vs Q E hr h=>?_)
 ·obtain ⟨a,ns,L,rfl,_⟩:=h
  rfl
 ·obtain ⟨a,ns,L,rfl,hS,hL,q⟩:=h
  refine ⟨_,(Aa (Ao (i:=3) El.nd rfl (Or.inl rfl) (A6 aj (hr.mono (by decide:1<=_)) (Ag (pv 0) (Ag Ae Ac rfl) rfl)))
   (Aa (Ao (i:=4) El.nd rfl (Or.inl rfl) (Aj Cu (Aj Ce (pv 3) Ae) (Aj Bd (pv 1) Ae)))
   (Aa (Ao (i:=5) El.nd rfl (Or.inl rfl) (A6 bw (hr.mono (by decide:2<=_)) (Ag (pv 0) (Ag (pv 4) Ac rfl) rfl)))
   (Aa (Vl (PW.pt (Y6 (Av G6 (Aj Cu (pv 3) Ae) Ae (Ay _)) (U6 (Av kP (Ap jD (by rfl) T.n_abs uL (Ag (A6 aj (hr.mono (by decide:1<=_)) (Ag (pv 0) (Ag Ae Ac rfl) rfl)) Ac rfl)) (Aj qQ Ae Ae) (Ay _))))) (Af (Ao (i:=5) El.nd rfl (Or.inl rfl) (A6 bv (hr.mono (by decide:1<=_)) (Ag (A6 aj (hr.mono (by decide:1<=_)) (Ag (pv 0) (Ag Ae Ac rfl) rfl)) (Ag (pv 4) Ac rfl) rfl))))
   Bb)
   (Aa (Vl (PW.pt (Y6 (Av G6 (Aj Cu (Aj Ce (pv 3) Ae) Ae) Ae (Ay _)) (U6 (Av Ja (pv 4) Ae (Ay _))))) (Af (Ao (i:=5) El.nd rfl (Or.inl rfl) (A6 bx (hr.mono (by decide:1<=_)) (Ag (pv 5) (Ag (Aj Ce (pv 2) (pv 4)) (Ag (Ou G6 (Aj Cu (A6 aj (hr.mono (by decide:1<=_)) (Ag (pv 0) (Ag Ae Ac rfl) rfl)) Ae) Ae (Ay _)) Ac rfl) rfl) rfl))))
   Bb)
   (Af (At (pv 5)))))))),?_⟩
  k_is;refine ⟨a,ns,0,rfl,hS,fun c=>?_⟩;k_is;obtain ⟨n,hn,hn1⟩:=Gc (c/8) 60;have hn':c/8%(60+1)=(n:Int):=hn;rw [hn'];refine ⟨a,ns,n,rfl,hS,hn1,fun p0 d0 H1 s1 hp0 h0 hD0 hl0=>?_⟩;k_is;refine dF (fun σ H'=>Am H H'/\∃ (p:Addr) (ds:List Nat),σ=[some (.ref a),some (.int 60),some (.int L),some (.int c),some (.int n),some (.ref p)]/\H p=none/\H' p=some (.lst ((Au ds).map V.int))/\Dok ds/\ds.length=n) ?_ ?_
  ·k_is
   have keep:Am H H1/\∃ (p:Addr) (ds:List Nat),[some (V.ref a),some (.int 60),some (.int L),some (.int c),some (.int n),some (.ref p0)]=[some (V.ref a),some (.int 60),some (.int L),some (.int c),some (.int n),some (.ref p)]/\H p=none/\H1 p=some (.lst ((Au ds).map V.int))/\Dok ds/\ds.length=n:=⟨s1,p0,d0,rfl,hp0,h0,hD0,hl0⟩;refine Db (fun h2=>?_) (fun h2=>?_)
   ·k_is
    refine ⟨a,ns,1,rfl,s1.seq hS,fun c1=>?_⟩;k_is;refine ⟨_,rfl,?_⟩;k_is;refine ⟨10,18,rfl,rfl,⟨by decide,by decide,by decide⟩,?_⟩;k_is;refine Db (fun h3=>?_) (fun h3=>?_)
    ·k_is
     refine ⟨a,ns,1,rfl,s1.seq hS,fun c2=>?_⟩;k_is;refine ⟨c2,n,rfl,hn1,fun p1 d1 H3 s3 hp1 h1 hD1 hl1=>?_⟩;k_is;exact ⟨s1.trans s3,p1,d1,rfl,s1.free hp1,h1,hD1,hl1⟩
    ·k_is
     exact keep
   ·k_is
    exact keep
  ·rintro σ H2 ⟨s2,p,ds,rfl,hp,h2,hD,hl⟩
   k_is;refine dF (fun σ H'=>Am H H'/\∃ (p:Addr) (es:List Nat),σ=[some (.ref a),some (.int 60),some (.int L),some (.int c),some (.int n),some (.ref p)]/\H p=none/\H' p=some (.lst ((Au es).map V.int))/\Dok es/\es.length<=460) ?_ ?_
   ·have keep:Am H H2/\∃ (q:Addr) (es:List Nat),[some (V.ref a),some (.int 60),some (.int L),some (.int c),some (.int n),some (.ref p)]=[some (V.ref a),some (.int 60),some (.int L),some (.int c),some (.int n),some (.ref q)]/\H q=none/\H2 q=some (.lst ((Au es).map V.int))/\Dok es/\es.length<=460:=⟨s2,p,ds,rfl,hp,h2,hD,by omega⟩
    k_is;refine Db (fun h4=>?_) (fun h4=>?_)
    ·k_is
     refine Db (fun h5=>?_) (fun h5=>?_)
     ·k_is
      refine iI (by omega (splitDisjunctions := true)) (by omega (splitDisjunctions := true)) ?_;k_is;refine ⟨a,ns,2,rfl,s2.seq hS,fun c3=>?_⟩;k_is;have e1:(L:Int)/(n:Int)=((L/n:Nat):Int):=(Int.natCast_ediv L n).symm;have hm:L/n*n<=L:=Nat.div_mul_le_self L n;rw [e1];refine ⟨p,ds,L/n,_,rfl,h2,hD,by omega (splitDisjunctions := true),by rw [hl];omega (splitDisjunctions := true),by omega (splitDisjunctions := true),fun p4 es H4 s4 hp4 h44 hE hle=>?_⟩;k_is;refine ⟨s2.trans s4,p4,es,rfl,s2.free hp4,h44,hE,?_⟩;rw [hle,hl,Nat.add_mul,Nat.one_mul];omega (splitDisjunctions := true)
     ·k_is
      exact keep
    ·k_is
     exact keep
   ·rintro σ H5 ⟨s5,p5,es,rfl,hp5,h5,hE,hle⟩
    k_is;exact q p5 es H5 s5 hp5 h5 hE hle
theorem P2 {ds:List Nat}{k:Nat}(hk:k<ds.length):nV (ds.take k)++[V.int (dAt ds k:Nat)]=nV (ds.take (k+1)):=by
 unfold nV dAt List.getD;rw [List.take_add_one,List.getElem?_eq_getElem hk,List.map_append];rfl
theorem eA (n:Nat):(List.replicate n [V.int 0]).flatten=(List.replicate n (0:Int)).map V.int:=by
 induction n with
 | zero=>rfl
 | succ n ih=>rw [List.replicate_succ,List.replicate_succ,List.flatten_cons,ih];rfl
theorem gU {K:PySem.W.Frag}{a:Addr}{xs:List V}{H1:Hp}{fr:St}{Q:VK}(hl:SqL K H1 a xs)(hz:xs.length<=5000)
  (fin:∀ D (rs:List Addr) H,H1 D=none->Am H1 H->H D=some (.lst (rs.map V.ref))->rs.length=xs.length->(∀ r∈rs,r≠D/\H1 r=none/\H r=some (.lst []))->rs.Nodup->Q (.ref D) H):N4 (Itl K a) H1 fr rY (sV T8) Q:=by
 intro D hD;refine ⟨fun i m H=>i<=xs.length/\m=xs.length-i/\Am H1 H/\∃ rs:List Addr,H D=some (.lst (rs.map V.ref))/\rs.length=i/\(∀ r∈rs,r≠D/\H1 r=none/\H r=some (.lst []))/\rs.Nodup,⟨xs.length,Nat.zero_le _,rfl,Ah hD,[],Ab,rfl,(fun r hr=>by cases hr),List.nodup_nil⟩,?_⟩;rintro i m H ⟨hi,rfl,sm,rs,hl2,hlen,hr,hnd⟩
 by_cases h:i=xs.length
 ·exact .inl ⟨⟨xs,sm.seq hl,by omega⟩,fin D rs H hD sm hl2 (by omega) hr hnd⟩
 ·have hlt:i<xs.length:=Nat.lt_of_le_of_ne hi h
  refine .inr ⟨⟨xs,xs[i],sm.seq hl,by simp [hlt]⟩,fun x H' hyl=>?_⟩;obtain rfl:H'=H:=hyl.1;refine ⟨Nat.zero_le _,fun p hp=>⟨rs.map V.ref,?_,?_,xs.length-(i+1),by omega,by omega,rfl,fun b u e=>?_,rs++[p],?_,by rw [List.length_append,hlen];rfl,fun r hr2=>?_,?_⟩⟩
  ·rw [Ai (Ak hl2 hp)]
   exact hl2
  ·rw [List.length_map]
   exact Al (by omega)
  ·rw [Ai (Ak e hD),Ai (Ak (sm _ _ e) hp)]
   exact sm _ _ e
  ·rw [Ab,List.map_append]
   rfl
  ·have hpD:p≠D:=(Ak hl2 hp).symm
   rcases List.mem_append.mp hr2 with h1 | h1
   ·obtain ⟨a1,a2,a3⟩:=hr r h1
    exact ⟨a1,a2,by rw [Ai a1,Ai (Ak a3 hp)];exact a3⟩
   ·obtain rfl:=List.mem_singleton.mp h1
    exact ⟨hpD,sm.free hp,by rw [Ai hpD,Ab]⟩
  ·rw [List.nodup_append]
   refine ⟨hnd,by simp,fun x hx y hy=>?_⟩;rw [List.mem_singleton.mp hy];exact Ak (hr x hx).2.2 hp
structure Y7 (ds:List Nat) (H:Hp) (pi pt pd:Addr) (rs:List Addr):Prop where
 hi:H pi=some (.lst (rs.map V.ref))
 ln:rs.length=ds.length
 hr:∀ (i:Nat) r,rs[i]?=some r->H r=some (.lst (nV (A7 ds ds.length i)))
 ht:H pt=some (.lst (nV (A7 ds ds.length (-1))))
 hd:H pd=some (.lst (nV ds))
theorem Y7.same {ds:List Nat}{H H':Hp}{pi pt pd:Addr}{rs:List Addr}(h:Y7 ds H pi pt pd rs)(s:Am H H'):Y7 ds H' pi pt pd rs:=⟨s _ _ h.hi,h.ln,fun i r e=>s _ _ (h.hr i r e),s _ _ h.ht,s _ _ h.hd⟩
def Ut:Sp:=fun vs H Q _=>∃ (a:Addr) (ds:List Nat),vs=[.ref a]/\H a=some (.lst ((Au ds).map V.int))/\Dok ds/\ds.length<=3000/\∀ t pi pt pd x4 rs H',Am H H'->H' t=some (.tup [.ref pi,.ref pt,.ref pd,x4])->Y7 ds H' pi pt pd rs->Q (.ref t) H'
structure PlI (H:Hp) (D p1 p2:Addr) (rs:List Addr) (ds:List Nat) (k:Nat) (H1:Hp):Prop where
 s:Am H H1
 hD:H1 D=some (.lst (rs.map V.ref))
 hr:∀ (i:Nat) r,rs[i]?=some r->r≠D/\r≠p1/\r≠p2/\H r=none/\H1 r=some (.lst (nV (A7 ds k i)))
 ht:H1 p1=some (.lst (nV (A7 ds k (-1))))
 hd:H1 p2=some (.lst (nV (ds.take k)))
theorem PlI.same {H H1 H2:Hp}{D p1 p2:Addr}{rs:List Addr}{ds:List Nat}{k:Nat}(h:PlI H D p1 p2 rs ds k H1)(s2:Am H1 H2):PlI H D p1 p2 rs ds k H2 :=
 ⟨h.s.trans s2,s2 _ _ h.hD,fun i r hr=>let ⟨a1,a2,a3,a4,a5⟩:=h.hr i r hr;⟨a1,a2,a3,a4,s2 _ _ a5⟩,s2 _ _ h.ht,s2 _ _ h.hd⟩
theorem tU {α:Type}{l:List α}(h:l.Nodup){i j:Nat}{x:α}(e1:l[i]?=some x)(e2:l[j]?=some x):i=j:=by
 have hi:=En e1;have hj:=En e2;rw [List.getElem?_eq_getElem hi] at e1;rw [List.getElem?_eq_getElem hj] at e2;rw [List.Nodup,List.pairwise_iff_getElem] at h
 by_cases a:i<j
 ·exact absurd (by rw [Option.some.inj e1,Option.some.inj e2]) (h i j hi hj a)
 ·by_cases b:j<i
  ·exact absurd (by rw [Option.some.inj e1,Option.some.inj e2]) (h j i hj hi b)
  ·omega
theorem Vy {f:Addr}{fd:FuncData}(F:Fun K "_law_plain" "_law_plain" Gs f fd)(T:Txt K mg ae ag ah aa):A4 P w K mg base CX0 1 f fd ["_law_elders"] Ut:=by
 refine F.ok Cl (fun vs H Q E h=>?_) (fun cdv A outer s H vs Q E hr h=>?_)
 ·obtain ⟨a,ds,rfl,_⟩:=h
  rfl
 ·obtain ⟨a,ds,rfl,ha,hD,hn,q⟩:=h
  have hle:((Au ds).map V.int).length=ds.length:=by rw [List.length_map,Bn]
  refine ⟨_,(Aa (Ji (i:=2) rfl P3 Cl.nd rfl rfl (Dl (pv 0)) (fun _ _ _ _=>Ct) (fun _ _ _ _=>(Bp Ac)))
   (Aa (Ao (i:=3) Cl.nd rfl (Or.inl rfl) (Bp Ac))
   (Aa (Ao (i:=4) Cl.nd rfl (Or.inl rfl) (Bp Ac))
   (Aa (Dy PassesOwn.never rfl (T6 rfl T.n_enumerate (Ag (pv 0) Ac rfl)) (Qy rfl (Dc (Bc (i:=5) Cl.nd rfl (Or.inl rfl)) (Dc (Bc (i:=1) Cl.nd rfl (Or.inl rfl)) M7)))
   (Af (Cq (Av Oa (pv 1) Ae (Ay _)) (Aa (Bk (C3 PySem.F.plainAttrs_list PySem.F.slot_list_append PySem.F.type_list_append Bv (pv 3) (Ag (pv 5) Ac rfl)))
   (Af (Bk (C3 PySem.F.plainAttrs_list PySem.F.slot_list_append PySem.F.type_list_append Bv (pv 4) (Ag Ae Ac rfl)))))
   (Aa (Bk (C3 PySem.F.plainAttrs_list PySem.F.slot_list_append PySem.F.type_list_append Bv (Bs Bt (pv 2) (pv 1) (fun _ _=>rfl)) (Ag (pv 5) Ac rfl)))
   (Af (Bk (C3 PySem.F.plainAttrs_list PySem.F.slot_list_append PySem.F.type_list_append Bv (pv 4) (Ag (Aj Bd (Bs Bt (pv 4) (pv 1) (fun _ _=>rfl)) Ae) Ac rfl))))))))
   (Aa (Ao (i:=6) Cl.nd rfl (Or.inl rfl) (Aj J2 (Bp (Ag Ae Ac rfl)) (Ap Ar (by rfl) T.n_len Cc (Ag (pv 0) Ac rfl))))
   (Aa (Dy PassesOwn.never rfl (nE rfl T.n_reversed rfl T.n_range (Ag (Ap Ar (by rfl) T.n_len Cc (Ag (pv 0) Ac rfl)) Ac rfl)) (Bc (i:=5) Cl.nd rfl (Or.inl rfl))
   (Af (Cq (Av kP (Bs Bt (pv 0) (pv 5) (fun _ _=>rfl)) Ae (Ay _)) (Af (Rm (Aj Bd (Aj Bd (Bs Bt (pv 6) (Bs Bt (pv 0) (pv 5) (fun _ _=>rfl)) (fun _ _=>rfl)) (Bs Bt (pv 6) (pv 5) (fun _ _=>rfl))) Ae) (Uy (pv 6) (Bs Bt (pv 0) (pv 5) (fun _ _=>rfl)) Hj)))
   Bb)))
   (Af (At (Vi (Ag (pv 2) (Ag (pv 3) (Ag (pv 4) (Ag (pv 6) Ac rfl) rfl) rfl) rfl)))))))))),?_⟩
  k_is;refine ⟨a,rfl,⟨_,SqL.of ha⟩,?_⟩;refine gU (SqL.of ha) (by omega) (fun D rs H1 hDn s1 hD1 hrl hr1 hnd=>?_);rw [hle] at hrl;k_is;refine ⟨Nat.zero_le _,fun p1 hp1=>?_⟩;have u1:=Ah (o:=.lst []) hp1;k_is;refine ⟨Nat.zero_le _,fun p2 hp2=>?_⟩;have u2:=Ah (o:=.lst []) hp2;have n12:p1≠p2:=Ak Ab hp2;have nD1:D≠p1:=Ak hD1 hp1;have nD2:D≠p2:=Ak (u1 _ _ hD1) hp2;have h1n:H p1=none:=s1.free hp1;have h2n:H p2=none:=s1.free (u1.free hp2);have J0:PlI H D p1 p2 rs ds 0 (upd (upd H1 p1 (.lst [])) p2 (.lst [])):=⟨(s1.trans u1).trans u2,u2 _ _ (u1 _ _ hD1),fun i r hr=>by
   obtain ⟨a1,a2,a3⟩:=hr1 r (List.mem_of_getElem? hr);exact ⟨a1,Ak a3 hp1,Ak (u1 _ _ a3) hp2,a2,u2 _ _ (u1 _ _ a3)⟩,u2 _ _ Ab,Ab⟩
  generalize (upd (upd H1 p1 (.lst [])) p2 (.lst []))=H2 at J0;k_is;refine ⟨a,rfl,⟨_,SqL.of (J0.s _ _ ha)⟩,?_⟩;refine Ph (xs:=(Au ds).map V.int) (fun k σ H3=>(∃ v1 v5 v6:Option V,σ=[some (.ref a),v1,some (.ref D),some (.ref p1),some (.ref p2),v5,v6])/\PlI H D p1 p2 rs ds k H3) ⟨⟨_,_,_,rfl⟩,J0⟩ (fun k σ H3 _ h=>SqL.of (h.2.s _ _ ha)) ?_ ?_
  ·rintro k x σ H3 t hx ⟨⟨v1,v5,v6,rfl⟩,J3⟩ ht
   obtain ⟨e,he,rfl⟩:=Ia hx;have hk:k<ds.length:=by have:=En he;rw [Bn] at this;exact this
   obtain rfl:eld ds k=e:=by rw [Kq hk] at he;exact Option.some.inj he
   have J4:=J3.same (Ah (o:=.tup [.int k,.int (eld ds k)]) ht);generalize upd H3 t (.tup [.int k,.int (eld ds k)])=H4 at J4;have ht1:=J4.ht;have htl:=bM ds k (-1);have hdl:(nV (ds.take k)).length=k:=by unfold nV;rw [List.length_map,List.length_take];omega
   k_is;refine Db (fun hneg=>?_) (fun hpos=>?_)
   ·have hd0:dAt ds k=0:=Ux hD hk (by have:=Q1 hD hk;omega)
    k_is;refine ⟨.inl ⟨rfl,_,SqL.of ht1⟩,?_⟩;k_is;refine Cd ht1 (by rw [Co];exact Al (by omega)) ?_;have hem:eld ds k=-1:=by have:=Q1 hD hk;omega
    rw [show nV (A7 ds k (-1))++[V.int (k:Int)]=nV (A7 ds (k+1) (-1)) by rw [Ke hem];exact Vn _ [k]];k_is;have hp25:upd H4 p1 (.lst (nV (A7 ds (k+1) (-1)))) p2=some (.lst (nV (ds.take k))):=by rw [Ai n12.symm];exact J4.hd
    refine ⟨.inl ⟨rfl,_,SqL.of hp25⟩,?_⟩;k_is;refine Cd hp25 (by rw [hdl];exact Al (by omega)) ?_;k_is;refine ⟨⟨_,_,_,rfl⟩,A8 (A8 J4.s h1n) h2n,?_,fun i r hr=>?_,by rw [Ai n12,Ab],?_⟩
    ·rw [Ai nD2,Ai nD1];exact J4.hD
    ·obtain ⟨a1,a2,a3,a4,a5⟩:=J4.hr i r hr
     exact ⟨a1,a2,a3,a4,by rw [Ai a3,Ai a2,L6 (by omega)];exact a5⟩
    ·rw [Ab,<- P2 hk,hd0];rfl
   ·obtain ⟨v,hv,hvk,hdv⟩:=Ex hD hk (by omega)
    have hky:A7 ds (k+1) v=A7 ds k v++[k]:=Ke hv;have hkn:∀ i:Int,i≠v->A7 ds (k+1) i=A7 ds k i:=fun i hi=>L6 (by rw [hv];exact fun e=>hi e.symm);rw [hv] at *;k_is;have hrv:rs[v]?=some (rs[v]'(by omega)):=List.getElem?_eq_getElem _;generalize rs[v]'(by omega)=r at hrv;obtain ⟨a1,a2,a3,a4,a5⟩:=J4.hr v r hrv;have hvl:=bM ds k v;refine Cw (SqL.of J4.hD) (v:=.ref r) (Bh (by rw [List.getElem?_map,hrv];rfl)) ?_;k_is;refine ⟨.inl ⟨rfl,_,SqL.of a5⟩,?_⟩;k_is;refine Cd a5 (by rw [Co];exact Al (by omega)) ?_;rw [show nV (A7 ds k v)++[V.int (k:Int)]=nV (A7 ds (k+1) v) by rw [hky];exact Vn _ [k]];k_is;have hp25:upd H4 r (.lst (nV (A7 ds (k+1) v))) p2=some (.lst (nV (ds.take k))):=by rw [Ai a3.symm];exact J4.hd
    refine ⟨.inl ⟨rfl,_,SqL.of hp25⟩,?_⟩;k_is;have hat:atI (nV (ds.take k)) (v:Int)=some (.int (dAt ds v:Nat)):=by
     refine Bh ?_;unfold nV;rw [List.getElem?_map,List.getElem?_take_of_lt hvk];unfold dAt List.getD;rw [List.getElem?_eq_getElem (by omega)];rfl
    refine Cw (SqL.of hp25) hat ?_;k_is;refine Cd hp25 (by rw [hdl];exact Al (by omega)) ?_;k_is;refine ⟨⟨_,_,_,rfl⟩,A8 (A8 J4.s a4) h2n,?_,fun i r' hr'=>?_,by rw [Ai n12,Ai a2.symm,hkn (-1) (by omega)];exact ht1,?_⟩
    ·rw [Ai nD2,Ai a1.symm];exact J4.hD
    ·obtain ⟨b1,b2,b3,b4,b5⟩:=J4.hr i r' hr'
     by_cases hrr:i=v
     ·subst hrr
      rw [hrv] at hr';obtain rfl:=Option.some.inj hr';exact ⟨b1,b2,b3,b4,by rw [Ai b3,Ab]⟩
     ·refine ⟨b1,b2,b3,b4,?_⟩
      rw [Ai b3,Ai (fun e=>hrr (tU hnd hr' (by rw [e];exact hrv))),hkn i (by omega)];exact b5
    ·rw [Ab,<- P2 hk,hdv];rfl
  ·rintro σ H3 ⟨⟨v1,v5,v6,rfl⟩,J3⟩
   rw [hle] at J3;have hd3:=J3.hd;rw [List.take_of_length_le (Nat.le_refl _)] at hd3;have s3:=J3.s;have hD3:=J3.hD;k_is;refine ⟨few (by simp),fun p hp=>?_⟩;have u0:=Ah (o:=.lst [V.int 0]) hp;k_is;refine ⟨a,_,rfl,.inl (SqL.of (u0 _ _ (s3 _ _ ha))),?_⟩;k_is;rw [hle];refine ⟨p,ds.length,_,rfl,rfl,Ab,by omega,by omega,Nat.le_of_lt (Al (by simp;omega)),fun m hm=>?_⟩;have u1:=u0.trans (Ah (o:=.lst (List.replicate ((ds.length:Nat):Int).toNat [V.int 0]).flatten) hm);have hm0:H3 m=none:=u0.free hm;have hM:∃ bs:List Int,bs.length=ds.length/\(upd (upd H3 p (.lst [V.int 0])) m (.lst (List.replicate ((ds.length:Nat):Int).toNat [V.int 0]).flatten)) m=some (.lst (bs.map V.int)):=⟨List.replicate ds.length 0,List.length_replicate,by rw [Ab,Int.toNat_natCast,eA]⟩;generalize (upd (upd H3 p (.lst [V.int 0])) m (.lst (List.replicate ((ds.length:Nat):Int).toNat [V.int 0]).flatten))=H4 at *;k_is;refine ⟨a,_,rfl,.inl (SqL.of (u1 _ _ (s3 _ _ ha))),?_⟩;k_is;rw [hle];refine ⟨ds.length,rfl,by omega,?_⟩;refine Tk (fun k σ H5=>(∃ v1 v5:Option V,σ=[some (.ref a),v1,some (.ref D),some (.ref p1),some (.ref p2),v5,some (.ref m)])/\Am H3 H5/\∃ bs:List Int,bs.length=ds.length/\H5 m=some (.lst (bs.map V.int))) ⟨⟨_,_,rfl⟩,u1,hM⟩ ?_ ?_
   ·rintro k σ H5 hk ⟨⟨v1,v5,rfl⟩,s5,bs,hbl,hm5⟩
    have ek:(ds.length:Int)-1+(k:Int)*(-1)=((ds.length-1-k:Nat):Int):=by omega
    rw [ek];have hj:ds.length-1-k<ds.length:=by omega
    generalize ds.length-1-k=j at hj;have haj:SqL K H5 a ((Au ds).map V.int):=SqL.of (s5 _ _ (s3 _ _ ha));have hej:atI ((Au ds).map V.int) (j:Int)=some (.int (eld ds j)):=Bh (Tu (Kq hj));k_is;refine Cw haj hej ?_;k_is;refine Db (fun hge=>?_) (fun hge=>?_)
    ·obtain ⟨v,hv,hvk,_⟩:=Ex hD hj (by omega)
     have hbv:atI (bs.map V.int) (v:Int)=some (.int bs[v]):=Bh (Tu (List.getElem?_eq_getElem (by omega)));have hbj:atI (bs.map V.int) (j:Int)=some (.int bs[j]):=Bh (Tu (List.getElem?_eq_getElem (by omega)));k_is;refine Cw haj hej ?_;rw [hv];k_is;refine Cw (SqL.of hm5) hbv ?_;k_is;refine Cw (SqL.of hm5) hbj ?_;k_is;refine Cw haj hej ?_;k_is;refine Nf (j:=v) hm5 (by rw [hv]) (by rw [List.length_map];omega) ?_;k_is;refine ⟨⟨_,_,rfl⟩,A8 s5 hm0,bs.set v (bs[v]+bs[j]+1),by rw [List.length_set];exact hbl,?_⟩;rw [Ab,List.map_set]
    ·k_is
     exact ⟨⟨_,_,rfl⟩,s5,bs,hbl,hm5⟩
   ·rintro σ H5 ⟨⟨v1,v5,rfl⟩,s5,bs,hbl,hm5⟩
    k_is;refine ⟨few (by simp),fun t ht=>?_⟩;have ut:=Ah (o:=.tup [.ref D,.ref p1,.ref p2,.ref m]) ht;exact q t D p1 p2 _ rs _ ((s3.trans s5).trans ut) Ab ⟨ut _ _ (s5 _ _ hD3),hrl,fun i r e=>ut _ _ (s5 _ _ (J3.hr i r e).2.2.2.2),ut _ _ (s5 _ _ J3.ht),ut _ _ (s5 _ _ hd3)⟩
theorem Vu {f c Pt:Addr}{fd:FuncData}{ts:List Tb}(F:Sb K "_law_order" "_law_order" Em f fd c Pt)(T:Txt K mg ae ag ah aa)(hK:K.In base)(hB:base.BuiltinsAt mg Pt)(hts:(⟨Pt,A0,"_law_order.<locals>.<lambda>"⟩:Tb)∈ts):A4 P w K mg base CX0 2 f fd ["_law_deep"] (Nz ts):=by
 refine F.ok Vh (fun vs H Q E h=>?_) (fun A outer s H vs Q E hr h=>?_)
 ·obtain ⟨l,ds,rfl,_⟩:=h
  rfl
 ·obtain ⟨l,ds,rfl,hl,hn,ht,q⟩:=h
  refine ⟨_,(Af (At (Wq (qual:="_law_order.<locals>.<lambda>") (i:=0) (cl:=s.heap.objs.size+1) rfl (hr.mono (by decide:1<=_)) rfl T.n_sorted (fA rfl rfl T.n_list rfl T.n_range (Ag (Ap Ar (by rfl) T.n_len Cc (Ag (pv 0) Ac rfl)) Ac rfl)) (F.code hK) hB rfl rfl (by kernel_rfl) (by kernel_rfl) (by kernel_rfl) (by kernel_rfl) (fun _ _ _ _ _=>rfl)))),?_⟩;k_is;refine ⟨l,_,rfl,.inl (SqL.of hl),?_⟩;k_is;have e1:(nV ds).length=ds.length:=by unfold nV;rw [List.length_map]
  rw [e1];refine ⟨ds.length,rfl,by omega,fun p hp=>?_⟩;have s1:=Ah (o:=.lst ((List.range ds.length).map fun i:Nat=>V.int i)) hp;have el:(iN ds).length=ds.length:=List.length_map ..;have ht1:=ht.same s1;refine ⟨p,l,iN ds,rfl,rfl,by rw [<- S1];exact s1 _ _ hl,by rw [el];omega,.inl (by rw [el,Ab];unfold Bx;rw [List.map_map];rfl),ht1.1 _ hts,fun p2 H' sx t2 hp2 hp3=>?_⟩;refine q p2 H' ((SmT.of ht s1).trans (gK ht1 hts sx t2)) (s1.free hp2) ?_;rw [hp3,el];rfl
theorem R9 {f:Addr}{fd:FuncData}(F:Fun K "_law_groups" "_law_groups" F2 f fd)(T:Txt K mg ae ag ah aa):A4 P w K mg base CX0 1 f fd ["_law_groups_here"] G9:=by
 refine F.ok R5 (fun vs H Q E h=>?_) (fun cdv A outer s H vs Q E hr h=>?_)
 ·obtain ⟨l,ns,rfl,_⟩:=h
  rfl
 ·obtain ⟨l,ns,rfl,hl,hn,q⟩:=h
  refine ⟨_,(Af (At (C3 PySem.F.plainAttrs_str PySem.F.slot_str_join PySem.F.type_str_join Mn Ez (Ag (Iq rfl Oj (Dl (pv 0)) (fun _ _ _ _=>Ct) (fun _ _ _ _=>(Aj O6 (Aj dB Ez (pv 0)) Ez))) Ac rfl)))),?_⟩;k_is;refine ⟨rfl,?_⟩;k_is;refine ⟨_,rfl,⟨_,SqL.of hl⟩,?_⟩;refine Hy (xs:=nV ns) (SqL.of hl) (fun i=>(ns.take i).map fun n=>V.str (Ax (List.replicate n true++[false]))) rfl (fun i hi=>?_) (fun i x H1 R A hx s1 _ hA=>?_) (fun D H1 hD s1 h1=>?_)
  ·rw [List.length_map,List.length_take]
   exact Al (by omega)
  ·obtain ⟨n,hn1,rfl⟩:=Na hx
   have hns:=Rv hn1;k_is;refine ⟨"1",(n:Int),rfl,rfl,by omega,by omega,?_,few (by decide),?_⟩
   ·exact Nat.le_of_lt (Al (by rw [show ("1":Str).length=1 by rfl];omega))
   have e0:Sg ("1":Str) ((n:Int)).toNat=Ax (List.replicate n true):=by
    rw [Int.toNat_natCast];exact Tj true _
   rw [e0];k_is;have e1:Ax (List.replicate n true)++("0":Str)=Ax (List.replicate n true++[false]):=M1 (List.replicate n true) [false];refine ⟨_,"0",rfl,rfl,?_,?_⟩
   ·rw [B4,List.length_replicate]
    exact Nat.le_of_lt (Al (by rw [show ("0":Str).length=1 by rfl];omega))
   rw [e1];refine hA _ _ ?_ (Am.refl _);rw [List.take_add_one,hn1,List.map_append];rfl
  ·k_is
   refine Rz (ls:=ns.map fun n=>List.replicate n true++[false]) ?_ ?_ (q _ s1)
   ·rw [h1,Co,List.take_of_length_le (Nat.le_refl _),List.map_map]
    rfl
   ·show (grB ns).length<=_
    rw [U8];omega
theorem Y7.sm {ds:List Nat}{ts:List Tb}{H H':Hp}{pi pt pd:Addr}{rs:List Addr}(h:Y7 ds H pi pt pd rs)(s:SmT ts H H'):Y7 ds H' pi pt pd rs:=⟨s.k h.hi,h.ln,fun i r e=>s.k (h.hr i r e),s.k h.ht,s.k h.hd⟩
theorem nR {K:PySem.W.Frag}{σ:St}{H:Hp}{R:St->Hp->Prop}{a:Addr}{x y z u:V}{i j k l:Nat}(hs:SqT K H a [x,y,z,u])(h:R ((((σ.set i (some x)).set j (some y)).set k (some z)).set l (some u)) H):lG K 4 (J5 (E8 i) (J5 (E8 j) (J5 (E8 k) (J5 (E8 l) gE)))) (.ref a) σ H R :=
 ⟨a,[x,y,z,u],rfl,hs,rfl,x,[y,z,u],rfl,y,[z,u],rfl,z,[u],rfl,u,[],rfl,rfl,h⟩
def U9 (K:PySem.W.Frag)(CB CC CL:Addr)(ts:List Tb):Sp:=fun vs H Q _=>∃ (x a:Addr) (ds:List Nat),vs=[.ref x,.ref a]/\Fp K CB CC CL H x ds/\H a=some (.lst ((Au ds).map V.int))/\Tbs ts H/\∀ H',SmT ts H H'->Q (.bl true) H'
theorem Uj {f:Addr}{fd:FuncData}{ts:List Tb}(F:Fun K "_law_shows" "_law_shows" Fq f fd)(T:Txt K mg ae ag ah aa)(Z:Qa K aa)(bz:Cal P w K mg base "_law_plain" 1 ["_law_elders"] Ut)(bA:Cal P w K mg base "_law_groups" 1 ["_law_groups_here"] G9)(bB:Cal P w K mg base "_law_order" 2 ["_law_deep"] (Nz ts))(aC:Mth P w K mg base aa "row" 7 ["self"] (Zg K ad ab aa))(bC:Mth P w K mg base aa "many_knots" 1 ["self"] (Pg K ad ab aa))(az:Mth P w K mg base aa "elders" 7 ["self"] (Ko K ad ab aa ts)):A4 P w K mg base CX0 8 f fd ["_law_wood_here","_law_elders"] (U9 K ad ab aa ts):=by
 refine F.ok Ck (fun vs H Q E h=>?_) (fun cdv A outer s H vs Q E hr h=>?_)
 ·obtain ⟨x,a,ds,rfl,_⟩:=h
  rfl
 ·obtain ⟨x,a,ds,rfl,hL,ha,hT,q⟩:=h
  obtain ⟨dx,b,c,s,g,v,w,d,kvs,h⟩:=id hL;have hD:=h.ok;have hn:=h.few;have hgl:=Er hD;have hel:(Au ds).length=ds.length:=Bn ds;have hord:=Fn ds;refine ⟨_,(Aa (Rm (A6 bz (hr.mono (by decide:1<=_)) (Ag (pv 1) Ac rfl)) (Qy rfl (Dc (Bc (i:=2) Ck.nd rfl (Or.inr rfl)) (Dc (Bc (i:=3) Ck.nd rfl (Or.inl rfl)) (Dc (Bc (i:=4) Ck.nd rfl (Or.inl rfl)) (Dc (Bc (i:=5) Ck.nd rfl (Or.inl rfl)) M7))))))
   (Aa (Ao (i:=6) Ck.nd rfl (Or.inl rfl) (A6 bA (hr.mono (by decide:1<=_)) (Ag (Aj Gz (Bp (Ag (Ap Ar (by rfl) T.n_len Cc (Ag (pv 3) Ac rfl)) Ac rfl)) (Iq rfl Q9 (Dl (A6 bB (hr.mono (by decide:2<=_)) (Ag (pv 4) Ac rfl))) (fun _ _ _ _=>Ct) (fun _ _ _ _=>(Ap (bH K) (by rfl) T.n_len Cc (Ag (Bs (Wx K) (pv 1) (pv 0) (fun _ _=>rfl)) Ac rfl))))) Ac rfl)))
   (Aa (Cq (PW.pt (Jy (Eu (C8 (Ap Ci (by rfl) T.n_isinstance Br (Ag (J1 aC (hr.mono (by decide:7<=_)) (pv 0)) (Ag (Fj (v:=.ty "str") rfl T.n_str pO rfl) Ac rfl) rfl)))) (Kd (Av Xj (J1 aC (hr.mono (by decide:7<=_)) (pv 0)) (pv 6) (Ay _))))) (Af (At L1))
   Bb)
   (Aa (Ao (i:=7) Ck.nd rfl (Or.inl rfl) (J1 bC (hr.mono (by decide:1<=_)) (pv 0)))
   (Aa (Cq (PW.pt (Jy (Eu (C8 (Ap Ci (by rfl) T.n_isinstance Br (Ag (pv 7) (Ag (Fj (v:=.ty "int") rfl T.n_int cG rfl) Ac rfl) rfl)))) (Jy (C8 (Ap Ci (by rfl) T.n_isinstance Br (Ag (pv 7) (Ag (Fj (v:=.ty "bool") rfl T.n_bool bI rfl) Ac rfl) rfl))) (Kd (Av Xj (pv 7) (Ap Ar (by rfl) T.n_len Cc (Ag (pv 1) Ac rfl)) (Ay _)))))) (Af (At L1))
   Bb)
   (Aa (Ao (i:=8) Ck.nd rfl (Or.inl rfl) (J1 az (hr.mono (by decide:7<=_)) (pv 0)))
   (Aa (Cq (PW.pt (Jy (Eu (C8 (Ap Ci (by rfl) T.n_isinstance Br (Ag (pv 8) (Ag (Fj (v:=.ty "list") rfl T.n_list Li rfl) Ac rfl) rfl)))) (Kd (Av (gW (sL hr)) (pv 8) (pv 1) (Ay _))))) (Af (At L1))
   Bb)
   (Af (At (Ou (rK (sL hr)) (Iq rfl Re (Dl (pv 8)) (fun _ _ _ _=>cS (PW.pt (Jy (Eu (C8 (Ap (R0 K) (by rfl) T.n_isinstance Br (Ag (pv 0) (Ag (Fj (v:=.ty "int") rfl T.n_int cG rfl) Ac rfl) rfl)))) (Kd (C8 (Ap (R0 K) (by rfl) T.n_isinstance Br (Ag (pv 0) (Ag (Fj (v:=.ty "bool") rfl T.n_bool bI rfl) Ac rfl) rfl))))))) (fun _ _ _ _=>(pv 0))) (Bp Ac) (Ay _))))))))))),?_⟩
  k_is;refine ⟨a,ds,rfl,ha,hD,by omega,fun tp pi pt pd x4 rs H1 s1 htp hP=>?_⟩;have m1:=SmT.of hT s1;k_is;refine nR (SqT.of htp) ?_;k_is;refine ⟨pt,_,rfl,.inl (SqL.of hP.ht),?_⟩;k_is;rw [Co];refine ⟨few (by simp),fun q1 h1=>?_⟩;have u1:=Ah (o:=.lst [V.int ((A7 ds ds.length (-1)).length:Nat)]) h1;have hP1:=hP.same u1;have hq1:upd H1 q1 (.lst [V.int ((A7 ds ds.length (-1)).length:Nat)]) q1=some (.lst [V.int ((A7 ds ds.length (-1)).length:Nat)]):=Ab;have m2:=m1.then u1;generalize upd H1 q1 (.lst [V.int ((A7 ds ds.length (-1)).length:Nat)])=H2 at *;k_is;refine ⟨pd,ds,rfl,hP1.hd,by omega,m2.ok,fun po H3 s3 hpo0 hpo=>?_⟩;have hP3:=hP1.sm s3;have hq3:=s3.k hq1;have m3:=m2.trans s3;k_is;refine ⟨po,rfl,⟨_,SqL.of hpo⟩,?_⟩;refine Hy (xs:=(G0 ds).map V.int) (SqL.of hpo) (fun i=>nV (((G0 ds).take i).map fun v=>(A7 ds ds.length v).length)) rfl (fun i hi=>?_) (fun i y H4 R A hy s4 _ hA=>?_) (fun D4 H4 hD4 s4 h4=>?_)
  ·rw [Co,List.length_map,List.length_take]
   exact Al (by omega)
  ·obtain ⟨n,hn1,rfl⟩:=Ia hy
   obtain ⟨m1,m2⟩:=Rl (List.mem_of_getElem? hn1);obtain ⟨v,rfl⟩:∃ v:Nat,n=(v:Int):=⟨n.toNat,by omega⟩;have hvl:v<rs.length:=by rw [hP3.ln];omega
   have er:rs[v]?=some rs[v]:=List.getElem?_eq_getElem hvl;generalize rs[v]=r at er;k_is;refine Cw (SqL.of (s4 _ _ hP3.hi)) (v:=.ref r) (Bh (by rw [List.getElem?_map,er];rfl)) ?_;k_is;refine ⟨r,_,rfl,.inl (SqL.of (s4 _ _ (hP3.hr v r er))),?_⟩;rw [Co];refine hA _ _ ?_ (Am.refl _);rw [List.take_add_one,hn1,List.map_append,<- Vn];rfl
  rw [List.length_map,List.take_of_length_le (Nat.le_refl _)] at h4;have m4:=m3.then s4;have hq4:=s4 _ _ hq3;k_is;refine ⟨q1,D4,_,_,rfl,rfl,hq4,h4,Nat.le_of_lt (Al (by rw [Co,List.length_map,hord,List.length_singleton];omega)),fun q5 h5=>?_⟩;have e5:[V.int ((A7 ds ds.length (-1)).length:Nat)]++nV ((G0 ds).map fun v=>(A7 ds ds.length v).length)=nV (gsL ds):=by
   rw [<- dE hD];rfl
  rw [e5];have u5:=Ah (o:=.lst (nV (gsL ds))) h5;have hq5:upd H4 q5 (.lst (nV (gsL ds))) q5=some (.lst (nV (gsL ds))):=Ab;have m5:=m4.then u5;generalize upd H4 q5 (.lst (nV (gsL ds)))=H5 at *;k_is;refine ⟨q5,gsL ds,rfl,hq5,by omega,fun H6 s6=>?_⟩;have m6:=m5.then s6;k_is;refine ⟨x,dx,_,rfl,m6.k h.hx,rfl,?_⟩;k_is;refine ⟨x,ds,rfl,hL.sm m6,fun H7 s7=>?_⟩;have m7:=m6.then s7;k_is;refine ⟨_,_,_,_,rfl,.str _,by rfl,?_⟩;k_is;refine ⟨x,dx,_,rfl,m7.k h.hx,rfl,?_⟩;k_is;refine ⟨x,ds,rfl,hL.sm m7,fun H8 s8=>?_⟩;have m8:=m7.then s8;k_is;refine mK (fun h=>absurd rfl h) (fun _=>?_);k_is;refine ⟨x,dx,_,rfl,m8.k h.hx,rfl,?_⟩;k_is;refine ⟨x,ds,rfl,hL.sm m8,?_⟩;k_is;refine ⟨_,_,_,_,rfl,.int _,Oh,?_⟩;k_is;refine ⟨_,_,_,_,rfl,.int _,M0,?_⟩;k_is;refine ⟨a,_,rfl,.inl (SqL.of (m8.k ha)),?_⟩;rw [List.length_map,hel];k_is;refine mK (fun h=>absurd rfl h) (fun _=>?_);k_is;refine ⟨x,dx,_,rfl,m8.k h.hx,rfl,?_⟩;k_is;refine ⟨x,ds,rfl,hL.sm m8,m8.ok,fun fo H9 s9 _ hfo=>?_⟩;have m9:=m8.trans s9;k_is;refine ⟨_,_,_,_,rfl,.lst hfo,K9,?_⟩;k_is;refine pW (SqL.of hfo) (SqL.of (m9.k ha)) ?_;rw [decide_eq_true rfl];k_is;refine ⟨fo,rfl,⟨_,SqL.of hfo⟩,?_⟩;refine Hy (SqL.of hfo) (fun _=>[]) rfl (fun i hi=>Al (n:=0) (by decide)) (fun i x H1 R A hx s1 kR kA=>?_) (fun D H11 hD s11 hl1=>?_)
  ·obtain ⟨n,_,rfl⟩:=Ia hx
   k_is;refine ⟨_,_,_,_,rfl,.int n,by rfl,?_⟩;k_is;refine ⟨_,_,_,_,rfl,.int n,by rfl,?_⟩;k_is;exact kR rfl _ (Am.refl _)
  ·k_is
   refine ⟨Nat.zero_le _,fun p hp=>?_⟩;have u:=Ah (o:=.lst []) hp;refine vY (ns:=[]) (ms:=[]) (SqL.of (u _ _ hl1)) (SqL.of Ab) ?_;exact q _ ((m9.then s11).then u)
def Vf:Sp:=fun vs H Q _=>∃ n m:Nat,vs=[.int n,.int m]/\n<=3000/\1<=m/\m<=1000/\∀ p (ds:List Nat) H',Am H H'->H p=none->H' p=some (.lst ((Au ds).map V.int))->Dok ds->ds.length=n->Q (.ref p) H'
theorem Vg {f:Addr}{fd:FuncData}(F:Fun K "_law_chain" "_law_chain" Kf f fd)(T:Txt K mg ae ag ah aa):A4 P w K mg base CX0 1 f fd ["_law_many","_law_step"] Vf:=by
 refine F.ok Es (fun vs H Q E h=>?_) (fun cdv A outer s H vs Q E hr h=>?_)
 ·obtain ⟨n,m,rfl,_⟩:=h
  rfl
 ·obtain ⟨n,m,rfl,hn,hm1,hm2,q⟩:=h
  refine ⟨_,(Aa (Ao (i:=2) Es.nd rfl (Or.inl rfl) (Bp Ac))
   (Aa (Ao (i:=3) Es.nd rfl (Or.inl rfl) (Dw Cg Ae))
   (Aa (Dy PassesOwn.never rfl (Fa rfl T.n_range (Ag (pv 0) Ac rfl)) (Bc (i:=4) Es.nd rfl (Or.inl rfl))
   (Aa (Bk (C3 PySem.F.plainAttrs_list PySem.F.slot_list_append PySem.F.type_list_append Bv (pv 2) (Ag (pv 3) Ac rfl)))
   (Af (Cq (Av Xj (Aj Cu (pv 4) (pv 1)) (Aj C7 (pv 1) Ae) (Ay _)) (Af (Ao (i:=3) Es.nd rfl (Or.inl rfl) (pv 4)))
   Bb))))
   (Af (At (pv 2)))))),?_⟩
  k_is;refine ⟨Nat.zero_le _,fun p hp=>?_⟩;have t0:=Ah (o:=.lst []) hp;k_is;refine ⟨_,rfl,by omega,by omega,?_⟩;rw [Int.toNat_natCast];refine Hg (fun k σ H1=>(∃ (ds:List Nat) (L:Nat) (v:Option V),σ=[some (.int n),some (.int m),some (.ref p),some (.int ((way ds k).getD L 0)),v]/\Dok ds/\ds.length=k/\L<=opn ds k/\H1 p=some (.lst ((Au ds).map V.int)))/\Am H H1) ?_ ?_ ?_
  ·exact ⟨⟨[],0,_,rfl,(fun k hk=>by cases hk),rfl,Nat.le_refl _,Ab⟩,t0⟩
  ·rintro k σ H1 hk ⟨⟨ds,L,v,rfl,hD,hl,hL,hp1⟩,s1⟩
   have hw:=Cj hD k (by omega);have hnx:=Fo ds L;rw [hl] at hnx;have hdok:Dok (ds++[L]):=Hi hD (by rw [hl];exact hL);have htk:((way ds k).take (L+1)).length=L+1:=by rw [List.length_take];omega
   have hop:opn (ds++[L]) (k+1)=L+1:=by
    show dAt (ds++[L]) k+1=L+1;rw [<- hl,M6]
   have hel:(Au (ds++[L])).map V.int=(Au ds).map V.int++[V.int ((way ds k).getD L 0)]:=by rw [Ej,hl,List.map_append];rfl
   have hlen:(ds++[L]).length=k+1:=by rw [List.length_append,hl];rfl
   have s2:=A8 (o:=.lst ((Au (ds++[L])).map V.int)) s1 hp;k_is;refine ⟨.inl ⟨rfl,_,SqL.of hp1⟩,?_⟩;k_is;refine Cd hp1 ?_ ?_
   ·rw [List.length_map,Bn]
    exact Al (by omega)
   rw [<- hel];k_is;refine bZ (by omega) ?_;k_is;refine mK (fun _=>?_) (fun _=>?_)
   ·k_is
    refine ⟨⟨ds++[L],L+1,some (.int (0+(k:Int))),?_,hdok,hlen,by omega,Ab⟩,s2⟩;have e:(way (ds++[L]) (k+1)).getD (L+1) 0=0+(k:Int):=by
     rw [hnx];unfold List.getD;rw [List.getElem?_append_right (by omega),htk,Nat.sub_self,Int.zero_add];rfl
    rw [e];rfl
   ·k_is
    refine ⟨⟨ds++[L],L,some (.int (0+(k:Int))),?_,hdok,hlen,by omega,Ab⟩,s2⟩;have e:(way (ds++[L]) (k+1)).getD L 0=(way ds k).getD L 0:=by
     rw [hnx];unfold List.getD;rw [List.getElem?_append_left (by omega),List.getElem?_take_of_lt (by omega)]
    rw [e];rfl
  ·rintro σ H1 ⟨⟨ds,L,v,rfl,hD,hl,hL,hp1⟩,s1⟩
   k_is;exact q p ds H1 s1 hp hp1 hD hl
theorem M4 (n:Nat):Dok (List.replicate n 0):=fun k hk=>by
 have:dAt (List.replicate n 0) k=0:=by
  unfold dAt List.getD;rw [List.getElem?_replicate];split<;>rfl
 omega
theorem jH (n k:Nat):dAt (List.replicate n 0) k=0:=by
 unfold dAt List.getD;rw [List.getElem?_replicate];split<;>rfl
theorem eR (n:Nat):Au (List.replicate n 0)=List.replicate n (-1):=by
 refine List.ext_getElem? fun k=>?_;rw [List.getElem?_replicate]
 by_cases hk:k<n
 ·rw [if_pos hk,Kq (by rw [List.length_replicate];exact hk)]
  have h:=Jc (M4 n) (k:=k) (by rw [List.length_replicate];exact hk);rw [jH,F5 (M4 n) k (by rw [List.length_replicate];omega)] at h;exact h.symm
 ·rw [if_neg hk,List.getElem?_eq_none (by rw [Bn,List.length_replicate];omega)]
theorem bL (n:Nat):∀ m,Dok (List.replicate (n+1) 0++List.replicate m 1)/\Au (List.replicate (n+1) 0++List.replicate m 1)=List.replicate (n+1) (-1)++List.replicate m (n:Int)/\(way (List.replicate (n+1) 0++List.replicate m 1) (List.replicate (n+1) 0++List.replicate m 1).length)[1]?=some (n:Int)
 | 0=>by
  simp only [List.replicate_zero,List.append_nil];refine ⟨M4 _,eR _,?_⟩;have e:=Fo (List.replicate n 0) 0;rw [List.length_replicate] at e;have hz:=F5 (M4 n) n (by rw [List.length_replicate];exact Nat.le_refl _);have hl:=En hz;rw [List.replicate_succ',List.length_append,List.length_replicate,List.length_singleton,e,List.getElem?_append_right (by rw [List.length_take];omega),List.length_take,Nat.min_eq_left (by omega)];rfl
 | m+1=>by
  obtain ⟨h1,h2,h3⟩:=bL n m;rw [show List.replicate (m+1) 1=List.replicate m 1++[1] from List.replicate_succ',show List.replicate (m+1) (n:Int)=List.replicate m (n:Int)++[(n:Int)] from List.replicate_succ',<- List.append_assoc,<- List.append_assoc];generalize List.replicate (n+1) 0++List.replicate m 1=ds at *;have hw:=Cj h1 ds.length (Nat.le_refl _);have hlt:=En h3;have hgd:(way ds ds.length).getD 1 0=(n:Int):=by unfold List.getD;rw [h3];rfl
  refine ⟨Hi h1 (by omega),by rw [Ej,h2,hgd],?_⟩;rw [List.length_append,List.length_singleton,Fo ds 1,List.getElem?_append_left (by rw [List.length_take];omega),List.getElem?_take_of_lt (by omega)];exact h3
def bJ:Sp:=fun vs H Q _=>∃ c:Int,vs=[.int c]/\∀ p (ds:List Nat) H',Am H H'->H p=none->H' p=some (.lst ((Au ds).map V.int))->Dok ds->ds.length<=800->Q (.ref p) H'
theorem cL (n:Nat)(i:Int):(List.replicate n [V.int i]).flatten=(List.replicate n i).map V.int:=by
 induction n with
 | zero=>rfl
 | succ n ih=>rw [List.replicate_succ,List.flatten_cons,ih,List.replicate_succ];rfl
theorem Wg {f:Addr}{fd:FuncData}(F:Fun K "_law_wide" "_law_wide" Lh f fd)(T:Txt K mg ae ag ah aa):A4 P w K mg base CX0 1 f fd ["_law_cell"] bJ:=by
 refine F.ok Og (fun vs H Q E h=>?_) (fun cdv A outer s H vs Q E hr h=>?_)
 ·obtain ⟨c,rfl,_⟩:=h
  rfl
 ·obtain ⟨c,rfl,q⟩:=h
  obtain ⟨n,hn,hn1⟩:=Gc c 199;have hn:c%200=(n:Int):=hn;obtain ⟨m,hm,hm1⟩:=Gc (c/200) 4;have hm:c/200%5=(m:Int):=hm;refine ⟨_,(Aa (Ao (i:=1) Og.nd rfl (Or.inl rfl) (Aj Bd Ae (Aj Cu (pv 0) Ae)))
   (Af (At (Aj Gz (Aj J2 (Bp (Ag (Dw Cg Ae) Ac rfl)) (pv 1)) (Aj J2 (Bp (Ag (Aj C7 (pv 1) Ae) Ac rfl)) (Aj Cu (Aj Ce (pv 0) Ae) Ae)))))),?_⟩
  k_is;refine ⟨few (by simp),fun p1 h1=>?_⟩;have u1:=Ah (o:=.lst [V.int (-1)]) h1;have g1:upd H p1 (.lst [V.int (-1)]) p1=some (.lst [V.int (-1)]):=Ab;generalize upd H p1 (.lst [V.int (-1)])=H1 at *;k_is;rw [hn];refine ⟨p1,((500+n:Nat):Int),_,rfl,by rw [Int.natCast_add];rfl,g1,by omega,by omega,Nat.le_of_lt (Al (by simp;omega)),fun p2 h2=>?_⟩;rw [Int.toNat_natCast,cL] at *;have u2:=Ah (o:=.lst ((List.replicate (500+n) (-1:Int)).map V.int)) h2;have g2:upd H1 p2 (.lst ((List.replicate (500+n) (-1:Int)).map V.int)) p2=some (.lst ((List.replicate (500+n) (-1:Int)).map V.int)):=Ab;have s2:=u1.trans u2;generalize upd H1 p2 (.lst ((List.replicate (500+n) (-1:Int)).map V.int))=H2 at *;k_is;refine ⟨few (by simp),fun p3 h3=>?_⟩;have e3:(500+(n:Int)-1)=((499+n:Nat):Int):=by omega
  rw [e3] at *;have u3:=Ah (o:=.lst [V.int ((499+n:Nat):Int)]) h3;have g3:upd H2 p3 (.lst [V.int ((499+n:Nat):Int)]) p3=some (.lst [V.int ((499+n:Nat):Int)]):=Ab;have g2:=u3 _ _ g2;have s3:=s2.trans u3;generalize upd H2 p3 (.lst [V.int ((499+n:Nat):Int)])=H3 at *;k_is;rw [hm];refine ⟨p3,(m:Int),_,rfl,rfl,g3,by omega,by omega,Nat.le_of_lt (Al (by simp;omega)),fun p4 h4=>?_⟩;rw [Int.toNat_natCast,cL] at *;have u4:=Ah (o:=.lst ((List.replicate m ((499+n:Nat):Int)).map V.int)) h4;have g4:upd H3 p4 (.lst ((List.replicate m ((499+n:Nat):Int)).map V.int)) p4=some (.lst ((List.replicate m ((499+n:Nat):Int)).map V.int)):=Ab;have g2:=u4 _ _ g2;have s4:=s3.trans u4;generalize upd H3 p4 (.lst ((List.replicate m ((499+n:Nat):Int)).map V.int))=H4 at *;refine ⟨p2,p4,_,_,rfl,rfl,g2,g4,Nat.le_of_lt (Al (by simp;omega)),fun p5 h5=>?_⟩;obtain ⟨w1,w2,_⟩:=bL (499+n) m;refine q p5 (List.replicate (499+n+1) 0++List.replicate m 1) _ (s4.trans (Ah h5)) (s4.free h5) ?_ w1 (by simp;omega);rw [Ab,w2,List.map_append,show 499+n+1=500+n by omega]
theorem Fp.lst {K:PySem.W.Frag}{CB CC CL:Addr}{H:Hp}{x l:Addr}{us:List V}{o:HO}{ds:List Nat}(h:Fp K CB CC CL H x ds)(hl:H l=some (.lst us)):Fp K CB CC CL (upd H l o) x ds:=by
 obtain ⟨dx,b,c,s,g,v,w,d,kvs,h⟩:=h;have k:∀ {y:Addr} {u:HO},(∀ xs,u≠.lst xs)->H y=some u->upd H l o y=some u:=fun n e=>by
  rw [Ai (fun z=>by rw [z,hl] at e;exact n _ (Option.some.inj e).symm)];exact e
 obtain ⟨db,tb,b1,b2,b3⟩:=h.hb;obtain ⟨dc,tc,uc,c1,c2,c3,c4⟩:=h.hc;exact ⟨dx,b,c,s,g,v,w,d,kvs,k (by intro xs e;cases e) h.hx,⟨db,tb,k (by intro xs e;cases e) b1,k (by intro xs e;cases e) b2,b3⟩,⟨dc,tc,uc,k (by intro xs e;cases e) c1,k (by intro xs e;cases e) c2,k (by intro xs e;cases e) c3,c4⟩,k (by intro xs e;cases e) h.hd,h.hl.keep fun b xs e=>k (by intro xs e;cases e) e,h.ok,h.few⟩
theorem oP {ds:List Nat}(es:List Nat):Dok (ds++es)->Dok ds/\(Au (ds++es)).take ds.length=Au ds:=by
 induction es using Hd with
 | h0 =>
  intro h;rw [List.append_nil] at h ⊢;exact ⟨h,List.take_of_length_le (by rw [Bn];exact Nat.le_refl _)⟩
 | h1 es d ih =>
  intro h;rw [<- List.append_assoc] at h ⊢;obtain ⟨h1,h2⟩:=ih (Wk h).1;refine ⟨h1,?_⟩;rw [Ej,List.take_append_of_le_length (by rw [Bn,List.length_append];omega),h2]
theorem kE {ds:List Nat}(h:Dok ds)(m:Nat)(hm:m<=ds.length):Dok (ds.take m)/\(Au ds).take m=Au (ds.take m):=by
 have e:=(List.take_append_drop m ds).symm;rw [e] at h;obtain ⟨h1,h2⟩:=oP _ h;rw [<- e,List.length_take,Nat.min_eq_left hm] at h2;exact ⟨h1,h2⟩
theorem sP {f:Addr}{fd:FuncData}{ts:List Tb}(F:Fun K "law" "law" S8 f fd)(T:Txt K mg ae ag ah aa)(Z:Qa K aa)(aj:Cal P w K mg base "_law_cell_at" 1 ["_law_script","_law_k"] (Ri K))(bD:Cal P w K mg base "_law_wood" 3 ["_law_script","_law_most","_law_large"] (Uv K))(bE:Cal P w K mg base "_law_chain" 1 ["_law_many","_law_step"] Vf)(bF:Cal P w K mg base "_law_wide" 1 ["_law_cell"] bJ)(aq:Cal P w K mg base "_law_shows" 8 ["_law_wood_here","_law_elders"] (U9 K ad ab aa ts))(aA:Mkr P w K mg base "Levelled" aa 9 ["self","elders"] (Ur K ad ab aa ts))(az:Mth P w K mg base aa "elders" 7 ["self"] (Ko K ad ab aa ts)):A4 P w K mg base CX0 11 f fd ["_law_script"] (bW K ts):=by
 refine F.ok Jx (fun vs H Q E h=>?_) (fun cdv A outer s H vs Q E hr h=>?_)
 ·obtain ⟨a,ns,rfl,_⟩:=h
  rfl
 ·obtain ⟨a,ns,rfl,hS,hlen,hT,q⟩:=h
  refine ⟨_,(Aa (Ao (i:=1) Jx.nd rfl (Or.inl rfl) (A6 aj (hr.mono (by decide:1<=_)) (Ag (pv 0) (Ag Ae Ac rfl) rfl)))
   (Aa (Cq (Av G6 (Aj Cu (Aj Ce (pv 1) Ae) Ae) Ae (Ay _)) (Aa (Ao (i:=2) Jx.nd rfl (Or.inl rfl) (A6 bE (hr.mono (by decide:1<=_)) (Ag (Aj Bd Ae (Aj Cu (Aj Ce (pv 1) Ae) Ae)) (Ag (Aj Bd Ae (Aj Cu (Aj Ce (pv 1) Ae) Ae)) Ac rfl) rfl)))
   (Af (At (A6 aq (hr.mono (by decide:8<=_)) (Ag (Pn aA (hr.mono (by decide:10<=_)) (Ag (Ei F0 (by rfl) T.n_list Li (Ag (pv 2) Ac rfl)) Ac rfl)) (Ag (pv 2) Ac rfl) rfl)))))
   Bb)
   (Aa (Ao (i:=2) Jx.nd rfl (Or.inl rfl) (A6 bD (hr.mono (by decide:3<=_)) (Ag (pv 0) (Ag Ae (Ag Ae Ac rfl) rfl) rfl)))
   (Aa (Vl (Av G6 (Aj Cu (Aj Ce (pv 1) Ae) Ae) Ae (Ay _)) (Af (Ao (i:=2) Jx.nd rfl (Or.inl rfl) (A6 bF (hr.mono (by decide:1<=_)) (Ag (Aj Ce (pv 1) Ae) Ac rfl))))
   Bb)
   (Aa (Ao (i:=3) Jx.nd rfl (Or.inl rfl) (Ei F0 (by rfl) T.n_list Li (Ag (pv 2) Ac rfl)))
   (Aa (Ao (i:=4) Jx.nd rfl (Or.inl rfl) (Pn aA (hr.mono (by decide:10<=_)) (Ag (pv 3) Ac rfl)))
   (Aa (Ao (i:=5) Jx.nd rfl (Or.inl rfl) (Pn aA (hr.mono (by decide:10<=_)) (Ag (Dp Ik (pv 2) Ib (C5 (Aj Ce (Ap Ar (by rfl) T.n_len Cc (Ag (pv 2) Ac rfl)) Ae))) Ac rfl)))
   (Aa (Cq (PW.pt (Jy (Av (gW (sL hr)) (pv 3) (pv 2) (Ay _)) (Jy (Eu (C8 (Ap Yp (by rfl) T.n_isinstance Br (Ag (pv 4) (Ag (Ms (v:=.ref _) rfl T.g_Wood rfl) Ac rfl) rfl)))) (Kd (Eu (C8 (A6 aq (hr.mono (by decide:8<=_)) (Ag (pv 4) (Ag (pv 2) Ac rfl) rfl)))))))) (Af (At L1))
   Bb)
   (Aa (Bk (Y1 PySem.F.plainAttrs_list PySem.F.slot_list_clear PySem.F.type_list_clear gR (pv 3)))
   (Aa (Bk (C3 PySem.F.plainAttrs_list PySem.F.slot_list_append PySem.F.type_list_append Bv (J1 az (hr.mono (by decide:7<=_)) (pv 4)) (Ag (Dw Cg Ae) Ac rfl)))
   (Af (At (Ym (A6 aq (hr.mono (by decide:8<=_)) (Ag (pv 5) (Ag (Dp Ik (pv 2) Ib (C5 (Aj Ce (Ap Ar (by rfl) T.n_len Cc (Ag (pv 2) Ac rfl)) Ae))) Ac rfl) rfl)) (Zq (A6 aq (hr.mono (by decide:8<=_)) (Ag (pv 4) (Ag (pv 2) Ac rfl) rfl)))))))))))))))),?_⟩
  k_is;refine ⟨a,ns,2,rfl,hS,fun cc=>?_⟩;k_is;refine Db (fun _=>?_) (fun _=>?_)
  ·obtain ⟨n1,hn1,hb1⟩:=Gc (cc/16) 99
   obtain ⟨m1,hm1,hc1⟩:=Gc (cc/1600) 19;have hn1:cc/16%100=(n1:Int):=hn1;have hm1:cc/1600%20=(m1:Int):=hm1;k_is;rw [hn1,hm1];refine ⟨1050+n1,3+m1,?_,by omega,by omega,by omega,fun p ds H1 s1 hp0 hp hD hl=>?_⟩
   ·rw [Int.natCast_add,Int.natCast_add]
    rfl
   k_is;refine ⟨p,_,rfl,.inl (SqL.of hp),fun p2 hp2=>?_⟩;have t2:=Ah (o:=.lst ((Au ds).map V.int)) hp2;have hp3:upd H1 p2 (.lst ((Au ds).map V.int)) p2=some (.lst ((Au ds).map V.int)):=Ab;have hpp:=t2 _ _ hp;have hT2:=(hT.same s1).same t2;generalize upd H1 p2 (.lst ((Au ds).map V.int))=H2 at *;k_is;intro x dx hx hdx hxd;refine ⟨x,dx,p2,ds,rfl,Ab,E5 hx hdx _ _ hp3,hD,by omega,hT2.same (E5 hx hdx),fun H3 s3 hC=>⟨rfl,?_⟩⟩;have s3:=SmB.made hx hdx s3;k_is;refine ⟨x,p,ds,rfl,hC,s3.k hpp,s3.ok,fun H4 s4=>?_⟩;exact q H4
  ·k_is
   refine ⟨a,ns,120,rfl,hS,by omega,fun p0 ds0 H0 s0 hp00 hp0 hD0 hl0=>?_⟩;k_is;refine dF (fun σ H1=>Am H H1/\∃ (p:Addr) (ds:List Nat),σ=[some (.ref a),some (.int cc),some (.ref p),none,none,none]/\H1 p=some (.lst ((Au ds).map V.int))/\Dok ds/\ds.length<=1200) ?_ ?_
   ·k_is
    refine Db (fun _=>?_) (fun _=>?_)
    ·k_is
     refine ⟨_,rfl,fun p ds H1 s1 _ hp hD hl=>?_⟩;k_is;exact ⟨s0.trans s1,p,ds,rfl,hp,hD,by omega⟩
    ·k_is
     exact ⟨s0,p0,ds0,rfl,hp0,hD0,by omega⟩
   rintro σ H1 ⟨s1,p,ds,rfl,hp,hD,hl⟩;have hel:(Au ds).length=ds.length:=Bn ds;k_is;refine ⟨p,_,rfl,.inl (SqL.of hp),fun p2 hp2=>?_⟩;have t2:=Ah (o:=.lst ((Au ds).map V.int)) hp2;have hp3:upd H1 p2 (.lst ((Au ds).map V.int)) p2=some (.lst ((Au ds).map V.int)):=Ab;have hpp:=t2 _ _ hp;have npp:p≠p2:=Ak hp hp2;have hT2:=(hT.same s1).same t2;generalize upd H1 p2 (.lst ((Au ds).map V.int))=H2 at *;k_is;intro x dx hx hdx hxd;refine ⟨x,dx,p2,ds,rfl,Ab,E5 hx hdx _ _ hp3,hD,by omega,hT2.same (E5 hx hdx),fun H3 s3 hC=>⟨rfl,?_⟩⟩;have s3:=SmB.made hx hdx s3;have hpp3:=s3.k hpp;have hp23:=s3.k hp3;k_is;refine ⟨p,_,rfl,.inl (SqL.of hpp3),?_⟩;rw [List.length_map,hel];k_is;have ehalf:((ds.length:Int)/2)=((ds.length/2:Nat):Int):=by omega
   obtain ⟨hD2,hE2⟩:=kE hD (ds.length/2) (by omega);rw [ehalf];refine ⟨p,_,rfl,SqL.of hpp3,fun p4 hp4=>?_⟩;rw [P4,<- List.map_take,hE2];have t4:=Ah (o:=.lst ((Au (ds.take (ds.length/2))).map V.int)) hp4;have hp5:upd H3 p4 (.lst ((Au (ds.take (ds.length/2))).map V.int)) p4=some (.lst ((Au (ds.take (ds.length/2))).map V.int)):=Ab;have hpp4:=t4 _ _ hpp3;have hp24:=t4 _ _ hp23;have hC4:=hC.same s3.ok t4;have hT4:=s3.ok.same t4;generalize upd H3 p4 (.lst ((Au (ds.take (ds.length/2))).map V.int))=H4 at *;k_is;intro x2 dx2 hx2 hdx2 hxd2;refine ⟨x2,dx2,p4,ds.take (ds.length/2),rfl,Ab,E5 hx2 hdx2 _ _ hp5,hD2,by rw [List.length_take];omega,hT4.same (E5 hx2 hdx2),fun H5 s5 hC5=>⟨rfl,?_⟩⟩;have s5:=SmB.made hx2 hdx2 s5;have hCa:=hC4.sm s5;have hpp5:=s5.k hpp4;have hp25:=s5.k hp24;k_is;refine pW (SqL.of hp25) (SqL.of hpp5) ?_;rw [decide_eq_true rfl];obtain ⟨dxa,_,_,_,_,_,_,_,_,ha⟩:=id hCa;k_is;refine ⟨_,_,_,_,rfl,.ins ha.hx Z.cl T.ca_Levelled T.sp_Levelled T.tk_Levelled T.mo_Levelled,T.kit_Levelled_Wood,?_⟩;k_is;refine ⟨x,p,ds,rfl,hCa,hpp5,s5.ok,fun H6 s6=>?_⟩;have hCb:=hCa.sm s6;have hCo:=hC5.sm s6;have hpp6:=s6.k hpp5;have hp26:=s6.k hp25;k_is;refine ⟨.inl ⟨rfl,_,SqL.of hp26⟩,?_⟩;refine ⟨p2,_,rfl,rfl,hp26,?_⟩;have hCb:=hCb.lst (o:=.lst []) hp26;have hCo:=hCo.lst (o:=.lst []) hp26;have hT7:Tbs ts (upd H6 p2 (.lst [])):=s6.ok.keepN hp26;have hpp7:upd H6 p2 (.lst []) p=some (.lst ((Au ds).map V.int)):=by rw [Ai npp];exact hpp6
   generalize upd H6 p2 (.lst [])=H7 at *;obtain ⟨dxb,_,_,_,_,_,_,_,_,hb⟩:=id hCb;k_is;refine ⟨x,dxb,_,rfl,hb.hx,rfl,?_⟩;k_is;refine ⟨x,ds,rfl,hCb,hT7,fun e1 H8 s8 he0 he1=>?_⟩;have hpp8:=s8.k hpp7;have npe:p≠e1:=Ak hpp7 he0;have hCb:=(hCb.sm s8).lst (o:=.lst ((Au ds).map V.int++[V.int (-1)])) he1;have hCo:=(hCo.sm s8).lst (o:=.lst ((Au ds).map V.int++[V.int (-1)])) he1;have hT9:Tbs ts (upd H8 e1 (.lst ((Au ds).map V.int++[V.int (-1)]))):=s8.ok.keepN he1;k_is;refine ⟨.inl ⟨rfl,_,SqL.of he1⟩,?_⟩;k_is;refine Cd he1 ?_ ?_
   ·rw [List.length_map,hel]
    exact Al (by omega)
   have hpp9:upd H8 e1 (.lst ((Au ds).map V.int++[V.int (-1)])) p=some (.lst ((Au ds).map V.int)):=by rw [Ai npe];exact hpp8
   generalize upd H8 e1 (.lst ((Au ds).map V.int++[V.int (-1)]))=H9 at *;k_is;refine ⟨p,_,rfl,.inl (SqL.of hpp9),?_⟩;rw [List.length_map,hel];k_is;rw [ehalf];refine ⟨p,_,rfl,SqL.of hpp9,fun p6 hp6=>?_⟩;rw [P4,<- List.map_take,hE2];have t10:=Ah (o:=.lst ((Au (ds.take (ds.length/2))).map V.int)) hp6;have hp7:upd H9 p6 (.lst ((Au (ds.take (ds.length/2))).map V.int)) p6=some (.lst ((Au (ds.take (ds.length/2))).map V.int)):=Ab;have hpp10:=t10 _ _ hpp9;have hCb:=hCb.same hT9 t10;have hCo:=hCo.same hT9 t10;have hT10:=hT9.same t10;generalize upd H9 p6 (.lst ((Au (ds.take (ds.length/2))).map V.int))=H10 at *;k_is;refine ⟨x2,p6,_,rfl,hCo,hp7,hT10,fun H11 s11=>?_⟩;k_is;refine ⟨x,p,ds,rfl,hCb.sm s11,s11.k hpp10,s11.ok,fun H12 s12=>?_⟩;exact q H12
end
set_option maxHeartbeats 8000000 in
theorem all_mk:AllMk:=by
 intro l w K h mg fa X G hfa ad ab ai aa f23 od23 an23 sl23 oc23 kV23 dc23 pm23 ct23 oo23 f30 od30 an30 sl30 oc30 kV30 dc30 pm30 cd30 ct30 T30 oT30 vT30 nT30 f33 od33 an33 sl33 oc33 kV33 dc33 pm33 ct33 oo33 f54 od54 an54 sl54 oc54 kV54 dc54 pm54 ct54 oo54 ae o_ONES_OF_FOUR i_ONES_OF_FOUR n_ONES_OF_FOUR ag o_SIGNS_OF_FOUR i_SIGNS_OF_FOUR n_SIGNS_OF_FOUR t_WORD_BITS t_MOST_BITS t_BLOCK_WORDS t_BLOCK_BITS t_FULL_WORD t_MOST_KNOTS t_MARK_STEP ah cd_Bits fd_Bits cd_Counts fd_Counts cd_Shortcuts fd_Shortcuts cd_Levelled fd_Levelled g0 g1 g2 g3 g4 g5 g6 g7 g8 g9 g10 g11 g12 g13 g14 g15 g16 g17 g18 g19 g20 g21 g22 i23 a23 l23 c23 k23 lc23 hc23 g24 g25 g26 g27 g28 g29 i30 a30 l30 c30 k30 lT30 dT30 eT30 g31 g32 a33 l33 c33 k33 lc33 hc33 g34 g35 g36 g37 g38 g39 g40 g41 g42 g43 g44 g45 g46 g47 g48 g49 g50 g51 g52 g53 a54 l54 c54 k54 lc54 hc54 g55 g56 g57 g58 g59 g_ONES_OF_FOUR o1_ONES_OF_FOUR o2_ONES_OF_FOUR o3_ONES_OF_FOUR o4_ONES_OF_FOUR o5_ONES_OF_FOUR g_SIGNS_OF_FOUR o1_SIGNS_OF_FOUR o2_SIGNS_OF_FOUR o3_SIGNS_OF_FOUR o4_SIGNS_OF_FOUR o5_SIGNS_OF_FOUR g_WORD_BITS g_MOST_BITS g_BLOCK_WORDS g_BLOCK_BITS g_FULL_WORD g_MOST_KNOTS g_MARK_STEP z_range z_len z_int z_bool z_str z_isinstance z_list z_tuple z_dict z_enumerate z_zip z_sum z_abs z_max z_min z_sorted z_reversed eg_Wood ca_Levelled sp_Levelled tk_Levelled mo_Levelled kit_Levelled_Wood;obtain ⟨f59,d59,F59,a59⟩:=g59;obtain ⟨_,_,kV59,dc59,pm59,an59,cd59,ct59,_,rfl,_,_⟩:=F59.ex;have e:=hfa.symm.trans (PySem.W.mg_of X G a59);cases e;have q_ONES_OF_FOUR:∀ H,SqT K H ae (Sx.map fun n:Nat=>V.int n):=fun H=>.inr ⟨o_ONES_OF_FOUR,i_ONES_OF_FOUR,n_ONES_OF_FOUR,o1_ONES_OF_FOUR,o2_ONES_OF_FOUR,o3_ONES_OF_FOUR,o4_ONES_OF_FOUR,o5_ONES_OF_FOUR⟩;have q_SIGNS_OF_FOUR:∀ H,SqT K H ag (dD):=fun H=>.inr ⟨o_SIGNS_OF_FOUR,i_SIGNS_OF_FOUR,n_SIGNS_OF_FOUR,o1_SIGNS_OF_FOUR,o2_SIGNS_OF_FOUR,o3_SIGNS_OF_FOUR,o4_SIGNS_OF_FOUR,o5_SIGNS_OF_FOUR⟩;have T:Txt K mg ae ag ah aa:=⟨PySem.W.mg_of X G eg_Wood,ca_Levelled,sp_Levelled,tk_Levelled,mo_Levelled,kit_Levelled_Wood,PySem.W.mg_of X G g_ONES_OF_FOUR,q_ONES_OF_FOUR,PySem.W.mg_of X G g_SIGNS_OF_FOUR,q_SIGNS_OF_FOUR,⟨_,PySem.W.mg_of X G g_WORD_BITS⟩,⟨_,PySem.W.mg_of X G g_MOST_BITS⟩,⟨_,PySem.W.mg_of X G g_BLOCK_WORDS⟩,⟨_,PySem.W.mg_of X G g_BLOCK_BITS⟩,⟨_,PySem.W.mg_of X G g_FULL_WORD⟩,⟨_,PySem.W.mg_of X G g_MOST_KNOTS⟩,⟨_,PySem.W.mg_of X G g_MARK_STEP⟩,mg_none_of X G z_range,mg_none_of X G z_len,mg_none_of X G z_int,mg_none_of X G z_bool,mg_none_of X G z_str,mg_none_of X G z_isinstance,mg_none_of X G z_list,mg_none_of X G z_tuple,mg_none_of X G z_dict,mg_none_of X G z_enumerate,mg_none_of X G z_zip,mg_none_of X G z_sum,mg_none_of X G z_abs,mg_none_of X G z_max,mg_none_of X G z_min,mg_none_of X G z_sorted,mg_none_of X G z_reversed⟩;have Qc:Qc K ad:=⟨fd_Bits.cl,fd_Bits.no 0,fd_Bits.no 1,fd_Bits.no 2⟩;have Qb:Qb K ab:=⟨fd_Counts.cl,fd_Counts.no 0,fd_Counts.no 1,fd_Counts.no 2⟩;have Qd:Qd K ai:=⟨fd_Shortcuts.cl,fd_Shortcuts.no 0,fd_Shortcuts.no 1⟩;have Qa:Qa K aa:=⟨fd_Levelled.cl,fd_Levelled.no 0,fd_Levelled.no 1,fd_Levelled.no 2,fd_Levelled.no 3,fd_Levelled.no 4,fd_Levelled.no 5,fd_Levelled.no 6,fd_Levelled.no 7⟩;have F23:=Vp (st:=Bi) l23 c23 k23 lc23 hc23;have b23:=F23.binds (ps:=["self","bit","nth"]) fun _ _ _ _ _ _=>us3 fun _ _ _=>rfl;have F30:=pB (st:=B1) l30 c30 lT30 dT30;have b30:=F30.binds (ps:=["self","order","step"]) fun _ _ _ _ _ _ _ us hl=>match us,hl with | [_,_,_],_=>⟨_,rfl,fun _=>rfl⟩
 have F33:=Vp (st:=De) l33 c33 k33 lc33 hc33;have b33:=F33.binds (ps:=["depths"]) fun _ _ _ _ _ _=>us1 fun _=>rfl;have F54:=Vp (st:=Em) l54 c54 k54 lc54 hc54;have b54:=F54.binds (ps:=["_law_deep"]) fun _ _ _ _ _ _=>us1 fun _=>rfl;refine ⟨PySem.W.fnOf "law" "law" (Bw S8) (Bl S8) (Ad S8) .none kV59 dc59 pm59 an59 cd59 ct59,fun s v=>.of_eq rfl,fun base hK _ hB=>?_⟩;have V0:=GD.cal (P:=l.prog) (w:=w) (base:=base) (sp:=Ml) X G g0 fun F=>Wz F T;have V1:=GD.cal (P:=l.prog) (w:=w) (base:=base) (sp:=Hh) X G g1 fun F=>Vk F T V0;have V2:=GD.cal (P:=l.prog) (w:=w) (base:=base) (sp:=Yv) X G g2 fun F=>Us F T V1;have V3:=GD.cal (P:=l.prog) (w:=w) (base:=base) (sp:=Mr) X G g3 fun F=>P9 F T V1;have V4:=GD.cal (P:=l.prog) (w:=w) (base:=base) (sp:=bK) X G g4 fun F=>Ni F T V3;have V5:=GD.cal (P:=l.prog) (w:=w) (base:=base) (sp:=Ue) X G g5 fun F=>Y8 F T;have V6:=GD.cal (P:=l.prog) (w:=w) (base:=base) (sp:=Yz) X G g6 fun F=>Q0 F T;have V7:=GD.cal (P:=l.prog) (w:=w) (base:=base) (sp:=iG) X G g7 fun F=>Z3 F T V6;have V8:=GD.cal (P:=l.prog) (w:=w) (base:=base) (sp:=T2) X G g8 fun F=>eZ F T;have V9:=GD.cal (P:=l.prog) (w:=w) (base:=base) (sp:=Y4) X G g9 fun F=>Za F T;have V10:=GD.cal (P:=l.prog) (w:=w) (base:=base) (sp:=(T5 K)) X G g10 fun F=>Wm F T V9;have V11:=GD.cal (P:=l.prog) (w:=w) (base:=base) (sp:=(Nq K)) X G g11 fun F=>X5 F T;have V12:=MD.mkr (P:=l.prog) (w:=w) (base:=base) (sp:=(Ih K ad)) X G cd_Bits g12 fun F=>Qv F T Qc V8 V10;have V13:=MD.mth (P:=l.prog) (w:=w) (base:=base) (sp:=(Ll K ad)) Qc.cl g13 fun F=>Qw F T Qc;have V14:=MD.mth (P:=l.prog) (w:=w) (base:=base) (sp:=(Ka K ad)) Qc.cl g14 fun F=>Qu F T Qc;have V15:=MD.mth (P:=l.prog) (w:=w) (base:=base) (sp:=(Nn K ad)) Qc.cl g15 fun F=>Qr F T Qc V4 V11;have V16:=MD.mth (P:=l.prog) (w:=w) (base:=base) (sp:=(Lr K ad)) Qc.cl g16 fun F=>Qx F T Qc V15;have V17:=GD.cal (P:=l.prog) (w:=w) (base:=base) (sp:=(L3 l.prog w K mg base 2)) X G g17 fun F=>Sd F T;have V18:=GD.cal (P:=l.prog) (w:=w) (base:=base) (sp:=lI) X G g18 fun F=>Ot F T;have V19:=GD.cal (P:=l.prog) (w:=w) (base:=base) (sp:=(Uq K)) X G g19 fun F=>Mz F T V5 V18;have V20:=MD.mkr (P:=l.prog) (w:=w) (base:=base) (sp:=(Fz K ad ab)) X G cd_Counts g20 fun F=>Qt F T Qb V13 V14 V19;have V21:=MD.mth (P:=l.prog) (w:=w) (base:=base) (sp:=(Ev K ab)) Qb.cl g21 fun F=>Qf F T Qb;have V22:=MD.mth (P:=l.prog) (w:=w) (base:=base) (sp:=(Lj K ab)) Qb.cl g22 fun F=>Qm F T Qb V21;have V23:Mth l.prog w K mg base ab "block_with" 4 ["self","bit","nth"] (Iy K ab [⟨375,Aq,"Counts.block_with.<locals>.<lambda>"⟩,⟨486,Aw,"level_order.<locals>.<lambda>"⟩,⟨859,A0,"_law_order.<locals>.<lambda>"⟩]):=⟨⟨f23,_,Qj F23 T hK (hB (379,375) (by simp)) List.mem_cons_self Qb V21 V17,b23,⟨a23,i23,k23⟩⟩,Qb.cl⟩;have V24:=MD.mth (P:=l.prog) (w:=w) (base:=base) (sp:=(Jt K ab)) Qb.cl g24 fun F=>Qk F T Qb V5 V7;have V25:=MD.mth (P:=l.prog) (w:=w) (base:=base) (sp:=(Nc K ab [⟨375,Aq,"Counts.block_with.<locals>.<lambda>"⟩,⟨486,Aw,"level_order.<locals>.<lambda>"⟩,⟨859,A0,"_law_order.<locals>.<lambda>"⟩])) Qb.cl g25 fun F=>Qn F T Qb V2 V3 V21 V22 V23 V24;have V26:=GD.cal (P:=l.prog) (w:=w) (base:=base) (sp:=(Lu K ab)) X G g26 fun F=>T4 F T V20 V12;have V27:=GD.cal (P:=l.prog) (w:=w) (base:=base) (sp:=O4) X G g27 fun F=>O7 F T V1;have V28:=GD.cal (P:=l.prog) (w:=w) (base:=base) (sp:=Rh) X G g28 fun F=>Ub F T;have V29:=GD.cal (P:=l.prog) (w:=w) (base:=base) (sp:=Um) X G g29 fun F=>On F T V28;have V30:xQ l.prog w K mg base "Shortcuts" ai 4 ["self","order","step"] (Me ai):=⟨⟨f30,_,Qe F30 T Qd V27 V29,b30,⟨cd_Shortcuts.ma,a30,i30,cd_Shortcuts.kc⟩,PySem.W.mg_of X G cd_Shortcuts.a⟩⟩;have b30D:=X2.bindsD (x:="__init__") (qual:="Shortcuts.__init__") (st:=B1) (ps:=["self","order","step"]) (kV:=kV30) (doc:=dc30) (pm:=pm30) (cdv:=cd30) (ct:=ct30) (an:=an30) lT30 dT30 rfl (us2 fun _ _=>⟨_,rfl,rfl⟩);have V30D:kI l.prog w K mg base "Shortcuts" ai 4 ["self","order","step"] (Me ai) [.int 16]:=⟨⟨f30,_,_,Qe F30 T Qd V27 V29,b30D,.cons eT30 .nil,⟨cd_Shortcuts.ma,a30,i30,cd_Shortcuts.kc⟩,PySem.W.mg_of X G cd_Shortcuts.a⟩⟩;have V31:=GD.cal (P:=l.prog) (w:=w) (base:=base) (sp:=Zu) X G g31 fun F=>Zn F T V0;have V32:=GD.cal (P:=l.prog) (w:=w) (base:=base) (sp:=Rr) X G g32 fun F=>Uc F T;have V33:Cal l.prog w K mg base "level_order" 2 ["depths"] (Nz [⟨375,Aq,"Counts.block_with.<locals>.<lambda>"⟩,⟨486,Aw,"level_order.<locals>.<lambda>"⟩,⟨859,A0,"_law_order.<locals>.<lambda>"⟩]):=⟨⟨f33,_,O8 F33 T hK (hB (490,486) (by simp)) (List.mem_cons_of_mem _ List.mem_cons_self),b33,PySem.W.mg_of X G a33,k33⟩⟩;have V34:=GD.cal (P:=l.prog) (w:=w) (base:=base) (sp:=Le) X G g34 fun F=>K3 F T;have V35:=GD.cal (P:=l.prog) (w:=w) (base:=base) (sp:=G9) X G g35 fun F=>Qz F T;have V36:=GD.cal (P:=l.prog) (w:=w) (base:=base) (sp:=Yu) X G g36 fun F=>Vm F T;have V37:=GD.cal (P:=l.prog) (w:=w) (base:=base) (sp:=Lo) X G g37 fun F=>Ui F T V34 V35;have V38:=GD.cal (P:=l.prog) (w:=w) (base:=base) (sp:=P1) X G g38 fun F=>T0 F T;have V39:=MD.mth (P:=l.prog) (w:=w) (base:=base) (sp:=(Rs K ad ab aa [⟨375,Aq,"Counts.block_with.<locals>.<lambda>"⟩,⟨486,Aw,"level_order.<locals>.<lambda>"⟩,⟨859,A0,"_law_order.<locals>.<lambda>"⟩])) Qa.cl g39 fun F=>Qp F T Qa V25;have V40:=MD.mth (P:=l.prog) (w:=w) (base:=base) (sp:=(gN K ad ab aa [⟨375,Aq,"Counts.block_with.<locals>.<lambda>"⟩,⟨486,Aw,"level_order.<locals>.<lambda>"⟩,⟨859,A0,"_law_order.<locals>.<lambda>"⟩])) Qa.cl g40 fun F=>Ql F T Qa V39;have V41:=MD.mth (P:=l.prog) (w:=w) (base:=base) (sp:=(Uz K ad ab aa [⟨375,Aq,"Counts.block_with.<locals>.<lambda>"⟩,⟨486,Aw,"level_order.<locals>.<lambda>"⟩,⟨859,A0,"_law_order.<locals>.<lambda>"⟩])) Qa.cl g41 fun F=>Qg F T Qa V39;have V42:=MD.mth (P:=l.prog) (w:=w) (base:=base) (sp:=(Zv K ad ab aa [⟨375,Aq,"Counts.block_with.<locals>.<lambda>"⟩,⟨486,Aw,"level_order.<locals>.<lambda>"⟩,⟨859,A0,"_law_order.<locals>.<lambda>"⟩])) Qa.cl g42 fun F=>Qi F T Qa V36 V40 V41;have V43:=MD.mkr (P:=l.prog) (w:=w) (base:=base) (sp:=(Ur K ad ab aa [⟨375,Aq,"Counts.block_with.<locals>.<lambda>"⟩,⟨486,Aw,"level_order.<locals>.<lambda>"⟩,⟨859,A0,"_law_order.<locals>.<lambda>"⟩])) X G cd_Levelled g43 fun F=>Qq F T Qa V31 V32 V33 V12 V37 V20 V30D V26 V38 V42;have V44:=MD.mth (P:=l.prog) (w:=w) (base:=base) (sp:=(Pg K ad ab aa)) Qa.cl g44 fun F=>Qh F T Qa;have V45:=MD.mth (P:=l.prog) (w:=w) (base:=base) (sp:=(Zg K ad ab aa)) Qa.cl g45 fun F=>Qs F T Qa V16;have V46:=MD.mth (P:=l.prog) (w:=w) (base:=base) (sp:=(Ko K ad ab aa [⟨375,Aq,"Counts.block_with.<locals>.<lambda>"⟩,⟨486,Aw,"level_order.<locals>.<lambda>"⟩,⟨859,A0,"_law_order.<locals>.<lambda>"⟩])) Qa.cl g46 fun F=>Qo F T Qa V39;have V47:=GD.cal (P:=l.prog) (w:=w) (base:=base) (sp:=(Ri K)) X G g47 fun F=>Rt F T;have V48:=GD.cal (P:=l.prog) (w:=w) (base:=base) (sp:=Uf) X G g48 fun F=>U5 F T;have V49:=GD.cal (P:=l.prog) (w:=w) (base:=base) (sp:=Vd) X G g49 fun F=>Vc F T;have V50:=GD.cal (P:=l.prog) (w:=w) (base:=base) (sp:=(Ua K)) X G g50 fun F=>U1 F T V47 V48;have V51:=GD.cal (P:=l.prog) (w:=w) (base:=base) (sp:=lQ) X G g51 fun F=>Om F T;have V52:=GD.cal (P:=l.prog) (w:=w) (base:=base) (sp:=(Uv K)) X G g52 fun F=>We F T V47 V49 V50 V51;have V53:=GD.cal (P:=l.prog) (w:=w) (base:=base) (sp:=Ut) X G g53 fun F=>Vy F T;have V54:Cal l.prog w K mg base "_law_order" 2 ["_law_deep"] (Nz [⟨375,Aq,"Counts.block_with.<locals>.<lambda>"⟩,⟨486,Aw,"level_order.<locals>.<lambda>"⟩,⟨859,A0,"_law_order.<locals>.<lambda>"⟩]):=⟨⟨f54,_,Vu F54 T hK (hB (863,859) (by simp)) (List.mem_cons_of_mem _ (List.mem_cons_of_mem _ List.mem_cons_self)),b54,PySem.W.mg_of X G a54,k54⟩⟩;have V55:=GD.cal (P:=l.prog) (w:=w) (base:=base) (sp:=G9) X G g55 fun F=>R9 F T;have V56:=GD.cal (P:=l.prog) (w:=w) (base:=base) (sp:=(U9 K ad ab aa [⟨375,Aq,"Counts.block_with.<locals>.<lambda>"⟩,⟨486,Aw,"level_order.<locals>.<lambda>"⟩,⟨859,A0,"_law_order.<locals>.<lambda>"⟩])) X G g56 fun F=>Uj F T Qa V53 V55 V54 V45 V44 V46;have V57:=GD.cal (P:=l.prog) (w:=w) (base:=base) (sp:=Vf) X G g57 fun F=>Vg F T;have V58:=GD.cal (P:=l.prog) (w:=w) (base:=base) (sp:=bJ) X G g58 fun F=>Wg F T;exact sP F59 T Qa V47 V52 V57 V58 V56 V43 V46
end TK
theorem PySem.Challenge.cw_tightwood_k41_rows_by_levels_holds : PySem.Challenge.rw_tightwood_k41_rows_by_levels.Holds :=
 TK.HEAD @TK.all_mk
#print axioms PySem.Challenge.cw_tightwood_k41_rows_by_levels_holds
